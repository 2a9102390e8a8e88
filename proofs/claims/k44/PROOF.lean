import PyProof.Rows.All
import Wide.All
import OpenK.AllK
import Wide.FinOn
import KE.KDictList
import KE.KDictSum
import KE.KIsAll
import KE.KListMore
import KE.KRevIter
import Lean
import OpenK.KCls
import OpenK.KOwn
import OpenK.KRaise
import PyProof.AutoRange
import PyProof.AutoSeq1
import PyProof.CompMap
import PyProof.DictKinds
import PyProof.DictWalks
import PyProof.EqAt
import PyProof.EqKinds
import PyProof.ExcArgsOwn
import PyProof.ExcBaseAll.ValueError
import PyProof.FactsAll.range_2
import PyProof.FactsAll.set_1
import PyProof.FactsAll.set_2
import PyProof.FactsAll.tuple_2
import PyProof.InstStore
import PyProof.InstStoreFacts
import PyProof.IsRules
import PyProof.ListMulRoad
import PyProof.NeKinds
import PyProof.NsDelKeeps
import PyProof.ReprLen
import PyProof.ReprRoads
import PyProof.Rows.Range3
import PyProof.Rows.RegStrFacts
import PyProof.Rows.SetFrom
import PyProof.Rows.SortRunsK
import PyProof.Rows.SortShell
import PyProof.Rows.TupDisplay
import PyProof.SetKind
import PyProof.TupleCall
import PyProof.TupleKey
import PyProof.WalkInts
import PySem.SetOps
import PySem.SetTable
import PyProof.ExcClass
import PySem.Challenge.RW_slidehall_k44_reaches
section
set_option Elab.async false
set_option compiler.extract_closed false
set_option bootstrap.genMatcherCode false
set_option linter.all false
set_option maxRecDepth 100000
set_option maxHeartbeats 0
namespace K44
open PySem PySem.Spec PyProof.Rows PySem.W
def tp (i:Nat):Stmt:=PySem.Challenge.pw_slidehall_k44_reaches.main.body.getD i (.Pass ⟨0,0,0,0⟩)
def dA (s:Stmt):Arguments:=match s with
 | .FunctionDef _ z _ _ _ _ _ _ _ _=>z
 | _=>⟨[],[],none,[],[],none,[]⟩
def dB (s:Stmt):List Stmt:=match s with
 | .FunctionDef _ _ z _ _ _ _ _ _ _=>z
 | _=>[]
def dS (s:Stmt):Scope:=match s with
 | .FunctionDef _ _ _ _ _ _ z _ _ _=>z
 | _=>{ kind:=.function,names:=[],isGenerator:=false,isCoroutine:=false }
def FnAt (K:Frag)(x:Str)(i:Nat):Prop:=∃ (f:Addr)(oc:Value)(od an:Option Addr)(osl:Array (Option Value))(kV doc pm cdv ct:Value),nsIn K mainGlobals x=some (some (.ref f)) ∧
 K.lookup f=some ⟨oc,od,.func (fnOf x x (dA (tp i)) (dB (tp i)) (dS (tp i)) .none kV doc pm an cdv ct),osl⟩/\codeIn K cdv x=true/\keepIn K (.ref f)=true
theorem FnAt.of {K:Frag}{x:Str}{i:Nat}{f:Addr}{oc:Value}{od an:Option Addr}{osl:Array (Option Value)}{kV doc pm cdv ct:Value}(a:nsIn K mainGlobals x=some (some (.ref f)):=by k_is)
  (l:K.lookup f=some ⟨oc,od,.func (fnOf x x (dA (tp i)) (dB (tp i)) (dS (tp i)) .none kV doc pm an cdv ct),osl⟩:=by k_is)(c:codeIn K cdv x=true:=by k_is)(k:keepIn K (.ref f)=true:=by k_is):FnAt K x i:=⟨f,oc,od,an,osl,kV,doc,pm,cdv,ct,a,l,c,k⟩
def nZ(K)(x):=nsIn K mainGlobals x=some none
theorem nZ.of{K:Frag}{x}(h:nsIn K mainGlobals x=some none:=by k_is):nZ K x:=h
inductive Facts(K:Frag):Prop
|mk    (_:FnAt K "_law_begin" 16)(_:FnAt K "_law_take" 17)(_:FnAt K "within" 2)(_:FnAt K "covered" 3)(_:FnAt K "holders" 4)(_:FnAt K "goes" 7)(_:FnAt K "one_further" 8)(_:FnAt K "met_by" 9)(_:FnAt K "without_trolleys" 11)(_:FnAt K "places_alone" 12)(_:FnAt K "reach_of" 14)(_:FnAt K "_law_covered" 18)(_:FnAt K "_law_room_of" 19)(_:FnAt K "_law_sized" 20)(_:FnAt K "_law_kind" 21)(_:FnAt K "_law_hall" 22)(_:FnAt K "_law_behind" 23)(_:FnAt K "_law_goes" 24)(_:FnAt K "_law_same" 25)(_:FnAt K "_law_room" 26)(_:FnAt K "_law_split" 27)(_:FnAt K "_law_some_hall" 28)(_:FnAt K "_law_places_of" 29)(_:FnAt K "_law_reach" 30)(_:FnAt K "law" 31)(_:nZ K "len")(_:nZ K "divmod")(_:nZ K "list")(_:nZ K "tuple")(_:nZ K "int")(_:nZ K "bool")(_:nZ K "str")(_:nZ K "dict")(_:nZ K "isinstance")(_:nZ K "all")(_:nZ K "any")(_:nZ K "sum")(_:nZ K "zip")(_:nZ K "enumerate")(_:nZ K "range")(_:nZ K "sorted")(_:nZ K "min")(_:nZ K "max")(_:nZ K "abs")(_:nZ K "reversed")(_:nZ K "set"){c8:Tok}(d5:nsIn K mainGlobals "WALL"=some (some (.int (-1) c8))){a0 a3 a2 a4 a1:Addr}{c1 b0 b1 a8 a6:Option Addr}{b5 a5 a9 a7 b2:Array (Option Value)}{c7 c2 b3 c5 c0:Nat}{c4 b8 b4 b6 b9 c6 c3 b7:Tok}(d4:nsIn K mainGlobals "STEPS"=some (some (.ref a0)))(d3:K.lookup a0=some ⟨.type "tuple",c1,.seq #[.ref a3,.ref a2,.ref a4,.ref a1] c7,b5⟩)(d2:K.lookup a3=some ⟨.type "tuple",b0,.seq #[.int (1) c4,.int (0) b8] c2,a5⟩)(d0:K.lookup a2=some ⟨.type "tuple",b1,.seq #[.int (0) b4,.int (1) b6] b3,a9⟩)(d1:K.lookup a4=some ⟨.type "tuple",a8,.seq #[.int (-1) b9,.int (0) c6] c5,a7⟩)(c9:K.lookup a1=some ⟨.type "tuple",a6,.seq #[.int (0) c3,.int (-1) b7] c0,b2⟩):Facts K
end K44
open PySem PySem.W PyProof.Rows PySem.Challenge
noncomputable def vw:Program:=view rw_slidehall_k44_reaches.row.toRowW.prog [1,2,3,4,6,7,8,9,11,12,14,16,17,18,19,20,21,22,23,24,25,26,27,28,29,30,31]
local macro_rules
 | `(tactic| o_head $H)=>`(tactic| (
  refine holds_open (q:=vw) (loose:=[]) (N:=4900) (Xt:=λs=>xlAt vw [] s && recOk rw_slidehall_k44_reaches.row.toRowW.records s) (XP:=XL vw []) (Yf:=Hook.obs $H) (Ya:=Hook.val $H) (YP:=Hook.says $H) ?hl (Hook.of $H) (Hook.keeps $H) (λs e=>xl_of s (Bool.and_eq_true_iff.mp e).1) XL.keeps (by rfl) (by rfl) (by rfl) (λs e=>recFacts_of (Bool.and_eq_true_iff.mp e).2) (by rfl) (by first | assumption | decide +kernel) (by decide +kernel) ⟨rfl,rfl,rfl,rfl,rfl,by decide +kernel⟩ ?hw ?hc
  (case hl=>intro w; kernel_rfl)
  (case hw=>w_witness2)))
theorem K44.early (W:∀ (q:Program) (loose:List Str) (XP:(Str->Option Value)->Heap->Prop) (YP:World->Heap->Prop) (d:DefRec) (K:Params->Frag),d.params.defaults = []->d.name = "law"->(∀ (w:World) (h:Heap),YP w h->(K w.params).In h)->(∀ P:Params,K44.Facts (K P)) →
  WalkO q loose XP YP rw_slidehall_k44_reaches.row.toRowW d [] (λf vs=>PySem.call f vs)):rw_slidehall_k44_reaches.Holds:=by
 w_on; o_law; k_head
 k_fill
 refine W _ _ _ _ _ _ rfl rfl (λw h Y=>kIn_of Y) ?F
 case F =>
  intro P
  exact .mk .of .of .of .of .of .of .of .of .of .of .of .of .of .of .of .of .of .of .of .of .of .of .of .of .of .of .of .of .of .of .of .of .of .of .of .of .of .of .of .of .of .of .of .of .of .of (by k_is) (by k_is) (by k_is) (by k_is) (by k_is) (by k_is) (by k_is)

end
noncomputable section
local macro_rules
 |`(command|open H in $c)=>`(command|set_option tactic.hygienic true in $c)
local macro_rules
 | `(tactic| and_intros)=>`(tactic| exact ⟨rfl,rfl,rfl,by decide +kernel,rfl,by decide +kernel,by decide +kernel⟩)
open PySem renaming wpAny_bind→Aa1,wpAny_pure→Ac1,wpAny_field→Ae1,wpAny_setField_rec→Ag1,wpAny_mono→Ah1,wpAny_truthy_bool→Ai1,wpAny_call_entry→Ak1,wpAny_seqItems→An1
open List renaming length_map→Aa0,getElem?_eq_getElem→Ac0,getElem?_eq_some_iff→Ae0,size_toArray→Ag0,length_append→Ai0,mem_cons→Aj0,getElem?_map→An0,mem_of_getElem?→Ao0,mem_append→Ap0,mem_singleton→Aq0,length_cons→Ar0,mem_map→Au0,append_assoc→Av0,map_cons→Ax0,mem_cons_of_mem→Ay0,map_append→Bb0,getElem?_append_left→Bc0,length_take→Bd0,mem_append_right→Be0,getElem_of_mem→Bg0,getElem?_set_ne→Bh0,mem_cons_self→Bi0,not_mem_nil→Bj0,take_add_one→Bk0,pairwise_append→Bl0,map_map→Bm0,mem_append_left→Bo0,take_of_length_le→Bp0,append_nil→Bq0,take_length→Br0,mem_range→Bv0,nodup_cons→Bx0,replicate_succ→By0,getD_eq_getElem?_getD→Ca0,drop_eq_getElem_cons→Cb0,length_set→Cc0,pairwise_map→Cd0,length_drop→Cf0,pairwise_cons→Cg0,length_nil→Ch0,length_range→Cj0,flatten_cons→Ck0,getElem?_append_right→Cl0,mem_of_mem_take→Cm0,pairwise_iff_getElem→Cn0,all_eq_true→Co0,of_mem_zip→Cp0,find?_cons→Cq0,pairwise_lt_range→Cr0,getElem?_set_self→Cs0,reverse_cons→Cv0,nodup_append→Cw0,getElem_drop→Cx0,map_nil→Cz0
open PySem.Heap renaming get?_push_of_some→Ab0,get?_push_size→Af0,size_push→Bs0,get?_update_self→Ci0,get?_update_other→Ct0,get?_push_ne→Cy0
open Nat renaming le_refl→Ad0,zero_add→Al0,zero_le→Am0,ne_of_lt→As0,lt_of_lt_of_le→Az0,le_trans→Ba0,lt_irrefl→Bt0,le_of_lt→Ce0,le_of_lt_succ→Cu0
open Array renaming length_toList→Ah0,getElem?_eq_getElem→Ak0,getElem?_toList→Bf0,toList_append→Bn0,getElem?_eq_none→Bz0
open Bool renaming false_ne_true→At0,false_eq_true→Bw0
open Option renaming map_some→Aw0
open Int renaming toNat_natCast→Bu0
open PySem PySem.Spec PyProof.Rows
open PySem.W (nsIn keepIn codeIn mg_of mg_none_of fnOf sortI eq_sortI)
def Ab1:type_of% @wpS_bind:=@wpS_bind
def Ad1:type_of% @wpS_pure:=@wpS_pure
def Af1:type_of% @wpS_forRange:=@wpS_forRange
def Aj1:type_of% @wpAny_rule:=@wpAny_rule
def Al1:type_of% @wpS_mono:=@wpS_mono
def Am1:type_of% @wpS_modify:=@wpS_modify
def Ao1:type_of% @decide_eq_false:=@decide_eq_false
def Ap1:type_of% @decide_eq_true:=@decide_eq_true
def Aq1:type_of% @beq_self_eq_true:=@beq_self_eq_true
set_option Elab.async false
set_option linter.all false
set_option maxRecDepth 100000
set_option tactic.hygienic false
set_option bootstrap.genMatcherCode false
set_option maxHeartbeats 0
set_option compiler.extract_closed false
local macro_rules
 | `(tactic| omega)=>`(tactic| first | lia | omega +splitDisjunctions)
namespace L2
noncomputable abbrev Key:=Sum Int Str
noncomputable def va3:Key->Value->Bool
 | .inl k,v=>Value.isInt k v
 | .inr x,v=>Value.isStrOf x v
noncomputable def vy6(w:World):Key->Int
 | .inl k=>hashInt k
 | .inr x=>hashStr w x
theorem ze8:∀{k:Key} {v:Value},va3 k v=true->(∃i t,k=Sum.inl i/\v=Value.int i t)\/(∃x t,k=Sum.inr x/\v=Value.str x t)
 | .inl i,v,h=>by
   obtain⟨t,e⟩:=Value.isInt_shape (k:=i) (v:=v) h;exact .inl ⟨i,t,rfl,e⟩
 | .inr x,v,h=>by
   obtain⟨t,e⟩:=Value.isStrOf_shape (x:=x) (v:=v) h;exact .inr ⟨x,t,rfl,e⟩
def xl2(i:Int)(t:Tok):va3 (.inl i) (.int i t)=true:=by simp[va3,Value.isInt]
def xl1(x:Str)(t:Tok):va3 (.inr x) (.str x t)=true:=by simp[va3,Value.isStrOf]
def wn5(a b:Int):decide ((Sum.inl a:Key)=Sum.inl b)=(a == b):=by
 by_cases e:a=b
 ·subst e;simp
 ·have h:¬(Sum.inl a:Key)=Sum.inl b:=λq=>e (Sum.inl.inj q)
  rw[Ao1 h];exact(beq_eq_false_iff_ne.mpr e).symm
def wn2(a b:Str):decide ((Sum.inr a:Key)=Sum.inr b)=decide (a=b):=by
 by_cases e:a=b
 ·subst e;simp
 ·have h:¬(Sum.inr a:Key)=Sum.inr b:=λq=>e (Sum.inr.inj q)
  rw[Ao1 h,Ao1 e]
def wn4(a:Int)(b:Str):decide ((Sum.inl a:Key)=Sum.inr b)=false:=Ao1 (λq=>nomatch q)
def wn3(a:Str)(b:Int):decide ((Sum.inr a:Key)=Sum.inl b)=false:=Ao1 (λq=>nomatch q)
noncomputable def ze5(prog:Program)(w:World):PySem.KeyKind prog w Key where
 is:=va3
 hash:=vy6 w
 inj:=λv a b ha hb=>by
  rcases ze8 ha with⟨i,t,rfl,rfl⟩ | ⟨x,t,rfl,rfl⟩
  ·rcases ze8 hb with⟨j,u,rfl,e⟩ | ⟨y,u,rfl,e⟩
   ·injection e with e1 _;rw[e1]
   ·exact nomatch e
  ·rcases ze8 hb with⟨j,u,rfl,e⟩ | ⟨y,u,rfl,e⟩
   ·exact nomatch e
   ·injection e with e1 _;rw[e1]
 byValue:=λk v h=>by
  rcases ze8 h with⟨i,t,rfl,rfl⟩ | ⟨x,t,rfl,rfl⟩<;>rfl
 pyHash:=λhv h=>by
  rcases ze8 hv with⟨i,t,rfl,rfl⟩ | ⟨x,t,rfl,rfl⟩
  ·exact wpAny_pyHash_int h
  ·exact wpAny_pyHash_str h
 eqBool:=λhu hv h=>by
  rcases ze8 hu with⟨i,t,rfl,rfl⟩ | ⟨x,t,rfl,rfl⟩
  ·rcases ze8 hv with⟨j,u,rfl,rfl⟩ | ⟨y,u,rfl,rfl⟩
   ·rw[wn5] at h;exact wpAny_eqBool_int h
   ·rw[wn4] at h;exact SeqAt.EqAt.int_str i t y u _ _ _ _ h
  ·rcases ze8 hv with⟨j,u,rfl,rfl⟩ | ⟨y,u,rfl,rfl⟩
   ·rw[wn3] at h;exact SeqAt.EqAt.str_int x t j u _ _ _ _ h
   ·rw[wn2] at h;exact wpAny_eqBool_str h
 «strs»:=λk x t v h=>by
  rcases ze8 h with⟨i,u,rfl,e⟩ | ⟨y,u,rfl,e⟩
  ·exact nomatch e
  ·injection e with e1 _
   subst e1;cases v<;>rfl
def yt0(prog:Program)(w:World)(i:Int)(t:Tok):(ze5 prog w).is (.inl i) (.int i t)=true:=xl2 i t
def ys9(prog:Program)(w:World)(x:Str)(t:Tok):(ze5 prog w).is (.inr x) (.str x t)=true:=xl1 x t
inductive V where
 | non | bl (b:Bool) | int (i:Int) | str (x:Str) | byt (b:Array UInt8) | flt (b:UInt64) | ref (a:Addr) | ty (n:String)
 deriving DecidableEq
noncomputable def wr3:V->Value->Prop
 | .non,u=>u=Value.none
 | .bl b,u=>u=Value.bool b
 | .int i,u=>∃t,u=Value.int i t
 | .str x,u=>∃t,u=Value.str x t
 | .byt b,u=>∃t,u=Value.bytes b t
 | .flt b,u=>∃t,u=Value.float b t
 | .ref a,u=>u=Value.ref a
 | .ty n,u=>u=Value.type n
noncomputable abbrev wr4:List V->List Value->Prop:=Paired wr3
def wr4.length{xs:List V}{us:List Value}(r:wr4 xs us):xs.length=us.length:=Paired.length r
theorem wr4.get:∀{xs:List V} {us:List Value} {i:Nat} {x:V},wr4 xs us->xs[i]?=some x->∃u,us[i]?=some u/\wr3 x u
 | _,_,_,_,.nil,e=>by simp at e
 | _,_,0,_,.cons r _,e=>by simp at e;subst e;exact⟨_,rfl,r⟩
 | _,_,i+1,x,.cons _ t,e=>by
   obtain⟨u,h1,h2⟩:=wr4.get (i:=i) (x:=x) t (by simpa using e);exact⟨u,by simpa using h1,h2⟩
theorem wr4.set(r:wr3 x u):∀{xs:List V} {us:List Value} (i:Nat),wr4 xs us->wr4 (xs.set i x) (us.set i u)
 | _,_,_,.nil=>.nil
 | _,_,0,.cons _ t=>.cons r t
 | _,_,i+1,.cons q t=>.cons q (wr4.set r i t)
theorem wr4.append:∀{xs ys:List V} {us ws:List Value},wr4 xs us->wr4 ys ws->wr4 (xs++ys) (us++ws)
 | _,_,_,_,.nil,s=>s
 | _,_,_,_,.cons r t,s=>.cons r (wr4.append t s)
theorem wr4.take:∀{xs:List V} {us:List Value} (n:Nat),wr4 xs us->wr4 (xs.take n) (us.take n)
 | _,_,0,_=>.nil
 | _,_,_+1,.nil=>.nil
 | _,_,n+1,.cons r t=>.cons r (wr4.take n t)
theorem wr4.drop:∀{xs:List V} {us:List Value} (n:Nat),wr4 xs us->wr4 (xs.drop n) (us.drop n)
 | _,_,0,r=>r
 | _,_,_+1,.nil=>.nil
 | _,_,n+1,.cons _ t=>wr4.drop n t
noncomputable def va8:Option V->Option Value->Prop
 | some v,some u=>wr3 v u
 | none,none=>True
 | _,_=>False
noncomputable def KV{κ:Type}:List (κ×V)->List (κ×Value)->Prop:=Paired λ(p:κ×V) (q:κ×Value)=>p.1=q.1/\wr3 p.2 q.2
noncomputable def kV:Key->V
 | .inl i=>.int i
 | .inr x=>.str x
inductive HO where
 /-- a list -/
 | lst (xs:List V)
 /-- a tuple (never changes) -/
 | tup (xs:List V)
 /-- a dict whose keys are ints and texts;one whose keys are tuples of ints and texts (the empty one is both) -/
 | dK (kvs:List (Key×V)) | dT (kvs:List (List Key×V))
 /-- a set of ints: its members,its size -/
 | set (S:Int->Bool) (n:Nat)
 /-- an instance of the class at C,its dict at dx,its attributes -/
 | ins (C dx:Addr) (fs:List (Str×V))
 /-- the dict of the instance at x -/
 | own (x:Addr)
 /-- the dict of an exception -/
 | xd (fs:List (Str×V))
 /-- a bound method,f of x -/
 | met (f x:Addr)
 /-- a range object lo,lo+1,.. below hi -/
 | rng (lo hi:Int)
 /-- a thing that is known to the object (the script;a dict while a loop walks it): read,never written while it is so -/
 | frz (o:Obj) (u:HO)
 /-- a code object's table -/
 | tbl (ps:Array Value)
 /-- any other thing,by what is true of its one object (a def of one's own: SetO a S n:=HO.ext λh=>..) -/
 | ext (φ:Heap->Prop)
noncomputable abbrev Hp:=Addr->Option HO
noncomputable def upd(H:Hp)(a:Addr)(o:HO):Hp:=λb=>if b=a then some o else H b
def zb3:upd H a o a=some o:=by unfold upd;rw[if_pos rfl]
def za9(h:b≠a):upd H a o b=H b:=by unfold upd;rw[if_neg h]
open H in
def upd_upd:upd (upd H a o) a u=upd H a u:=by
 funext b;unfold upd;split<;>rfl
def vc0{H:Hp}{a b:Addr}{o u:HO}(h:H a=some o)(h':H b=some u)(d:o≠u):a≠b:=by
 intro e;subst e;rw[h] at h';exact d (Option.some.inj h')
def zb7{H:Hp}{a b:Addr}{o:HO}(h:H a=some o)(h':H b=none):a≠b:=by
 intro e;subst e;rw[h] at h';cases h'
section
variable(P:Program)(w:World)
noncomputable def NoD(h:Heap)(a:Addr):Prop:=∃o,h.get? a=some o/\o.dict=none
noncomputable def ws2(H:Hp)(h:Heap)(a:Addr):HO->Prop
 | .lst xs=>xs.length<=sizeLine/\∃(its:List Value) (n:Nat),wr4 xs its/\h.get? a=some { cls:=.type "list",data:=.seq its.toArray n }
 | .tup xs=>xs.length<=sizeLine/\∃its:List Value,wr4 xs its/\IsTup h a its.toArray/\NoD h a
 | .dK kvs=>kvs.length<=sizeLine/\(a == sysModules)=false/\∃vs,KV kvs vs/\h.DictOf (ze5 P w) a vs
 | .dT kvs=>kvs.length<=sizeLine/\(a == sysModules)=false/\∃xs:List (List Key×Addr×Value),
  Paired (λ(p:List Key×V) (q:List Key×Addr×Value)=>p.1=q.1/\H q.2.1=some (.tup (p.1.map kV))/\wr3 p.2 q.2.2) kvs xs/\
  ∃o es ep,h.get? a=some o/\o.ExactDict/\o.data=.dict es ep/\es.toList=xs.map (entryOfKey (tupleKind (ze5 P w)))/\(xs.map (·.1)).Nodup
 | .set S n=>h.SetOf (intKind P w) a S n
 | .ins C dx fs=>H dx=some (.own a)/\fs.length<=1000/\dx≠a/\h.get? a=some (PySem.W.instObj C dx)/\
  ∃mA,h.Ns1 dx mA/\(∀f,va8 (fs.lookup f) (mA f))/\PySem.Within mA (fs.map (·.1))
 | .own _=>∃o,h.get? a=some o
 | .xd fs=>∃mA,h.Ns1 a mA/\∀f,va8 (fs.lookup f) (mA f)
 | .rng lo hi=>∃t u v,h.get? a=some { cls:=.type "range",data:=.fields #[.int lo t,.int hi u,.int 1 v] }
 | .frz o u=>h.get? a=some o/\ws2 H h a u
 | .tbl ps=>h.get? a=some { cls:=.none,data:=.fields ps }
 | .met f x=>h.get? a=some (PySem.W.methodObj (.ref f) (.ref x))
 | .ext φ=>φ h/\(∃o,h.get? a=some o)/\∀h1 h2:Heap,φ h1->(∀o,h1.get? a=some o->h2.get? a=some o)->φ h2
noncomputable def HOk(H:Hp)(h:Heap):Prop:=∀a o,H a=some o->ws2 P w H h a o
end
section
variable{P:Program}{w:World}{H H':Hp}{h h':Heap}{a:Addr}{o:HO}
theorem ws2.lt(x:ws2 P w H h a o):a<h.objs.size:=by
 cases o with
 | lst xs=>obtain⟨_,_,_,_,e⟩:=x;exact Heap.lt_size e
 | tup xs=>obtain⟨_,_,_,p,_⟩:=x;exact p.lt
 | dK kvs=>obtain⟨_,_,_,_,o,_,_,e,_⟩:=x;exact Heap.lt_size e
 | dT kvs=>obtain⟨_,_,_,_,o,_,_,e,_⟩:=x;exact Heap.lt_size e
 | set S n=>obtain⟨o,_,_,_,e,_⟩:=x;exact Heap.lt_size e
 | ins C dx fs=>obtain⟨_,_,_,e,_⟩:=x;exact Heap.lt_size e
 | own y=>obtain⟨_,e⟩:=x;exact Heap.lt_size e
 | xd fs=>obtain⟨_,⟨_,_,_,e,_⟩,_⟩:=x;exact Heap.lt_size e
 | rng lo hi=>obtain⟨_,_,_,e⟩:=x;exact Heap.lt_size e
 | frz ob u=>obtain⟨e,_⟩:=x;exact Heap.lt_size e
 | tbl ps=>exact Heap.lt_size (show h.get? a=some _ from x)
 | met f y=>exact Heap.lt_size (show h.get? a=some _ from x)
 | ext φ=>obtain⟨_,⟨_,e⟩,_⟩:=x;exact Heap.lt_size e
theorem Paired.mapP{α β:Type}{F G:α->β->Prop}:∀{l₁:List α} {l₂:List β},Paired F l₁ l₂->(∀a b,F a b->G a b)->Paired G l₁ l₂
 | _,_,.nil,_=>.nil
 | _,_,.cons r t,f=>.cons (f _ _ r) (Paired.mapP t f)
theorem ws2.stay(x:ws2 P w H h a o)(k:∀b u,(b=a\/H b=some (.own a))->h.get? b=some u->h'.get? b=some u)(ho:∀b,H b=some (.own a)->H' b=some (.own a))(ht:∀b xs,H b=some (.tup xs)->H' b=some (.tup xs)):ws2 P w H' h' a o:=by
 induction o with
 | lst xs=>obtain⟨z,its,n,r,e⟩:=x;exact⟨z,its,n,r,k _ _ (.inl rfl) e⟩
 | tup xs=>obtain⟨z,its,r,⟨ob,e,c⟩,od,e2,c2⟩:=x;exact⟨z,its,r,⟨ob,k _ _ (.inl rfl) e,c⟩,od,k _ _ (.inl rfl) e2,c2⟩
 | dK kvs=>obtain⟨z,y,vs,r,ob,es,ep,e,c⟩:=x;exact⟨z,y,vs,r,ob,es,ep,k _ _ (.inl rfl) e,c⟩
 | dT kvs=>
   obtain⟨z,y,xs,r,ob,es,ep,e,c⟩:=x;exact⟨z,y,xs,Paired.mapP r λp q z=>⟨z.1,ht _ _ z.2.1,z.2.2⟩,ob,es,ep,k _ _ (.inl rfl) e,c⟩
 | set S n=>obtain⟨ob,es,ep,t,e,c⟩:=x;exact⟨ob,es,ep,t,k _ _ (.inl rfl) e,c⟩
 | ins C dx fs=>
   obtain⟨d,z,ne,e,mA,⟨od,es,ep,e2,c⟩,r⟩:=x;exact⟨ho _ d,z,ne,k _ _ (.inl rfl) e,mA,⟨od,es,ep,k _ _ (.inr d) e2,c⟩,r⟩
 | own y=>obtain⟨ob,e⟩:=x;exact⟨ob,k _ _ (.inl rfl) e⟩
 | xd fs=>obtain⟨mA,⟨od,es,ep,e,c⟩,r⟩:=x;exact⟨mA,⟨od,es,ep,k _ _ (.inl rfl) e,c⟩,r⟩
 | rng lo hi=>obtain⟨t,u,v,e⟩:=x;exact⟨t,u,v,k _ _ (.inl rfl) e⟩
 | frz ob u ih=>obtain⟨e,q⟩:=x;exact⟨k _ _ (.inl rfl) e,ih q⟩
 | tbl ps=>
   have e:h.get? a=some { cls:=.none,data:=.fields ps }:=x;show h'.get? a=some { cls:=.none,data:=.fields ps };exact k a _ (.inl rfl) e
 | met f y=>
   have e:h.get? a=some (PySem.W.methodObj (.ref f) (.ref y)):=x;show h'.get? a=some (PySem.W.methodObj (.ref f) (.ref y));exact k a _ (.inl rfl) e
 | ext φ=>obtain⟨p,⟨o,e⟩,st⟩:=x;exact⟨st _ _ p λo q=>k _ _ (.inl rfl) q,⟨o,k _ _ (.inl rfl) e⟩,st⟩
def HOk.lt(x:HOk P w H h)(e:H a=some o):a<h.objs.size:=(x a o e).lt
theorem HOk.fresh(x:HOk P w H h)(e:h.objs.size<=a):H a=none:=by
 cases q:H a with
 | none=>rfl
 | some u=>exact absurd (Az0 (x.lt q) e) (Bt0 _)
def HOk.kept(x:HOk P w H h)(k:∀b u,h.get? b=some u->h'.get? b=some u):HOk P w H h':=λa o e=>
 (x a o e).stay (λb u _ q=>k b u q) (λ_ q=>q) λ_ _ q=>q
def HOk.laid(x:HOk P w H h)(k:∀b u,h.get? b=some u->h'.get? b=some u)(hp:h.objs.size<=a)(new:ws2 P w (upd H a o) h' a o):HOk P w (upd H a o) h':=λb u e=>by
 have hn:=x.fresh hp;by_cases hb:b=a
 ·subst hb;rw[zb3] at e;cases e;exact new
 ·rw[za9 hb] at e
  exact(x b u e).stay (λc v _ q=>k c v q) (λc q=>by rw[za9 (zb7 q hn)];exact q) λc xs q=>by rw[za9 (zb7 q hn)];exact q
end
noncomputable def Rd(H:Hp)(a:Addr)(u:HO):Prop:=H a=some u\/∃o,H a=some (.frz o u)
def Rd.ok(r:Rd H a u)(x:HOk P w H h):ws2 P w H h a u:=by
 rcases r with r | ⟨o,r⟩
 ·exact x a u r
 ·obtain⟨_,q⟩:=x a _ r
  exact q
noncomputable def Mut:Option HO->Prop
 | some (.lst _)=>True
 | some (.dK _)=>True
 | some (.dT _)=>True
 | some (.set _ _)=>True
 | some (.ins _ _ _)=>True
 | some (.ext _)=>True
 | _=>False
section
variable{P:Program}{w:World}{H:Hp}{h h':Heap}{x e:Addr}{o':HO}
def HOk.write(ok:HOk P w H h)(mu:Mut (H x))(he:e=x\/H e=some (.own x))(k:∀b u,b≠e->h.get? b=some u->h'.get? b=some u)(heo:∃u,h'.get? e=some u)(new:ws2 P w (upd H x o') h' x o'):HOk P w (upd H x o') h':=λb u q=>by
 have nown:∀c y,H c=some (.own y)->c≠x:=λc y r z=>by subst z;rw[r] at mu;exact mu
 have ntup:∀c xs,H c=some (.tup xs)->c≠x:=λc xs r z=>by subst z;rw[r] at mu;exact mu
 by_cases hb:b=x
 ·subst hb;rw[zb3] at q;cases q;exact new
 ·rw[za9 hb] at q
  by_cases hbe:b=e
  ·have q':H b=some (.own x):=by
    rcases he with z | z
    ·exact absurd (hbe.trans z) hb
    ·rw[hbe];exact z
   rw[q] at q';cases q';obtain⟨v,hv⟩:=heo;exact⟨v,by rw[hbe];exact hv⟩
  ·refine(ok b u q).stay (λc v hc r=>k c v ?_ r) (λc r=>by rw[za9 (nown c b r)];exact r) λc xs r=>by rw[za9 (ntup c xs r)];exact r
   rcases hc with rfl | hc
   ·exact hbe
   ·rintro rfl
    rcases he with z | z
    ·exact nown c b hc z
    ·rw[hc] at z;cases z;exact hb rfl
end
structure Un(fs ex:List Addr)(H H':Hp)(h h':Heap):Prop where
 keep:∀b o,h.get? b=some o->H b=none->b∉fs->b∉ex->h'.get? b=some o
 slot:∀b o,h.get? b=some o->H b=none->b∈fs->b∉ex->∃sl,h'.get? b=some { o with slots:=sl }
 free:∀b o,h.get? b=some o->H b=none->b∉ex->H' b=none
 there:∀b o,h.get? b=some o->b∉ex->∃o',h'.get? b=some o'
 tups:∀b xs,H b=some (.tup xs)->H' b=some (.tup xs)
 frzs:∀b o u,H b=some (.frz o u)->H' b=some (.frz o u)
 tbls:∀b ps,H b=some (.tbl ps)->∃more,H' b=some (.tbl (ps++more))
section
variable{fs fs' ex ex':List Addr}{H H1 H2:Hp}{h h1 h2 h':Heap}{a x e:Addr}{o:HO}
def Un.any(u:Un fs ex H H1 h h1){b:Addr}{ob:Obj}(q:h.get? b=some ob)(n:H b=none)(hx:b∉ex):∃sl,h1.get? b=some { ob with slots:=sl }:=by
 by_cases hb:b∈fs
 ·exact u.slot b ob q n hb hx
 ·exact⟨ob.slots,u.keep b ob q n hb hx⟩
def Un.kept(k:∀b u,h.get? b=some u->h'.get? b=some u):Un fs ex H H h h':=
 ⟨λb ob q _ _ _=>k b ob q,λb ob q _ _ _=>⟨ob.slots,k b ob q⟩,λ_ _ _ n _=>n,λb ob q _=>⟨ob,k b ob q⟩,λ_ _ q=>q,λ_ _ _ q=>q,λ_ ps q=>⟨#[],by rw[q];simp⟩⟩
def Un.refl:Un fs ex H H h h:=Un.kept λ_ _ q=>q
def Un.laid(k:∀b u,h.get? b=some u->h'.get? b=some u)(hp:h.objs.size<=a)(hn:H a=none):Un fs ex H (upd H a o) h h' where
 keep:=λb u q _ _ _=>k b u q
 slot:=λb u q _ _ _=>⟨u.slots,k b u q⟩
 free:=λb u q n _=>by rw[za9 (As0 (Az0 (Heap.lt_size q) hp))];exact n
 there:=λb u q _=>⟨u,k b u q⟩
 tups:=λb xs q=>by rw[za9 (zb7 q hn)];exact q
 frzs:=λb u xs q=>by rw[za9 (zb7 q hn)];exact q
 tbls:=λb ps q=>⟨#[],by rw[za9 (zb7 q hn),q];simp⟩
def Un.write(mu:Mut (H x))(he:e=x\/H e=some (.own x))(k:∀b u,b≠e->h.get? b=some u->h'.get? b=some u)(heo:∃u,h'.get? e=some u):Un fs ex H (upd H x o) h h':=by
 have hx:∀b,H b=none->b≠x:=λb n z=>by subst z;rw[n] at mu;exact mu
 have hb:∀b,H b=none->b≠e:=λb n z=>by
  subst z;rcases he with r | r
  ·exact hx b n r
  ·rw[n] at r;cases r
 have hm:∀b u,H b=some u->¬Mut (some u)->b≠x:=λb u q nm z=>by subst z;rw[q] at mu;exact nm mu
 refine⟨λb u q n _ _=>k b u (hb b n) q,λb u q n _ _=>⟨u.slots,k b u (hb b n) q⟩,λb u q n _=>by rw[za9 (hx b n)];exact n,λb u q _=>?_,
  λb xs q=>by rw[za9 (hm b _ q λz=>z)];exact q,λb u xs q=>by rw[za9 (hm b _ q λz=>z)];exact q,λb ps q=>⟨#[],by rw[za9 (hm b _ q λz=>z),q];simp⟩⟩
 by_cases hbe:b=e
 ·subst hbe;exact heo
 ·exact⟨u,k b u hbe q⟩
end
noncomputable def trk(h:Heap)(H:Hp):List Addr:=(List.range h.objs.size).filter λa=>(H a).isSome
noncomputable def ve6(h:Heap)(H:Hp):Heap:=PySem.W.hideAll h (trk h H)
def xm3(h:Heap)(H:Hp):(ve6 h H).objs.size=h.objs.size:=PySem.W.hideAll_size _ _
def xu4(e:h.get? b=some o)(n:H b=none):(ve6 h H).get? b=some o:=
 PySem.W.hideAll_get _ e λhm=>by
  have q:(H b).isSome=true:=(List.mem_filter.mp hm).2;rw[n] at q;simp at q
theorem we2(e:(ve6 h H).get? b=some o):h.get? b=some o/\H b=none:=by
 have e':h.get? b=some o:=PySem.W.of_hideAll (trk h H) e;refine⟨e',?_⟩;cases q:H b with
 | none=>rfl
 | some x=>
   have hm:b∈trk h H:=List.mem_filter.mpr ⟨Bv0.mpr (Heap.lt_size e'),by simp[q]⟩;have z:(ve6 h H).get? b=none:=PySem.W.hideAll_none (trk h H) hm;rw[z] at e;cases e
structure Mod(K:PySem.W.Frag)(mg:Str->Option Value)(base:Heap):Prop where
 kin:K.In base
 glob:base.Ns mainGlobals mg
 blt:∃mb,base.Ns builtinsNs mb/\∀x:Str,x≠"__name__"->mb x=bootBuiltins x
 nolimit:base.NoLimit
structure Cx where
 prog:Program
 w:World
 K:PySem.W.Frag
 mg:Str->Option Value
 base:Heap
 A:Around
 N:List Str
 s₀:Shared
 H₀:Hp
 env:Env
 outer:List Env
 stack:List Env
 ex:List Addr
 fn:Str->Bool
 calm:Bool
 pn:List (Addr×Obj)
 xe:Value->Shared->Prop
noncomputable def frs(l:List Env):List Addr:=l.filterMap (·.frame)
noncomputable abbrev Cx.fs(X:Cx):List Addr:=frs X.outer
noncomputable def Vis(sc:Scope)(x:Str):Prop:=sc.names.lookup x=some .local\/sc.names.lookup x=some .cell\/sc.names.lookup x=some .free
noncomputable def Loc(sc:Scope)(x:Str):Prop:=sc.names.lookup x=some .local\/sc.names.lookup x=some .cell
noncomputable def ua0(env:Env)(h:Heap)(m:Str->Option Value)(x:Str)(u:Value):Prop:=
 (env.kindOf x=some .local/\m x=some u)\/((env.kindOf x=some .cell\/env.kindOf x=some .free)/\∃c,env.cells.lookup x=some c/\h.IsCell c (some u))
structure Cx.Ok(X:Cx):Prop where
 mod:Mod X.K X.mg X.base
 kind:X.env.scope.kind=.function
 glob:X.env.globals=mainGlobals
 blt:X.env.builtins=builtinsNs
 above:X.s₀.heap.objs.size<=X.env.locals
 inj:∀x y c,X.env.cells.lookup x=some c->X.env.cells.lookup y=some c->x=y
 has:∀x,(X.env.kindOf x=some .cell\/X.env.kindOf x=some .free)->∃c,X.env.cells.lookup x=some c
 cab:∀x c,X.fn x=true->X.env.cells.lookup x=some c->X.s₀.heap.objs.size<=c
 hd:X.calm=true->X.A.handled=none
 frames:X.A.frames=some X.stack
 stk:X.stack=X.outer\/(X.stack=X.env::X.outer/\X.env.frame=some X.env.locals)
 exf:∀b∈X.ex,b≠X.env.locals/\∀x c,X.env.cells.lookup x=some c->c≠b
 bs:∀b o,X.base.get? b=some o->X.s₀.heap.get? b=some o/\X.H₀ b=none
 bsz:X.base.objs.size<=X.s₀.heap.objs.size
 noex:∀b o,X.base.get? b=some o->b∉X.ex
 exfs:∀b∈X.ex,b∉X.fs
 funs:X.s₀.heap.FunFrames X.base X.outer
 frf:∀b∈X.fs,X.H₀ b=none
structure Inv(X:Cx)(A3:List (Addr×Obj))(σ:List (Option V))(H:Hp)(s:Shared):Prop where
 ok:X.Ok
 os:s.os=X.s₀.os
 bare:AllBare s.gens
 base:Un X.fs X.ex X.H₀ H X.s₀.heap s.heap
 loc:∃m,s.heap.Ns X.env.locals m/\∀(i:Nat) (x:Str) (v:V),X.N[i]?=some x->σ[i]?=some (some v)->Vis X.env.scope x->∃u,wr3 v u/\ua0 X.env s.heap m x u
 cell:∀x c,X.env.cells.lookup x=some c->∃v,s.heap.IsCell c v
 free:H X.env.locals=none
 freeC:∀x c,X.env.cells.lookup x=some c->H c=none
 pin:∀p∈X.pn++A3,s.heap.get? p.1=some p.2/\H p.1=none/\p.1≠X.env.locals/\p.1∉X.fs/\∀v,p.2.data≠.cell v
 hok:HOk X.prog X.w H s.heap
 len:σ.length=X.N.length
section
variable{X:Cx}{A3:List (Addr×Obj)}{σ:List (Option V)}{H H':Hp}{s:Shared}{h':Heap}
def Cx.Ok.nofr(ok:X.Ok)(e:X.base.get? b=some o):b∉X.fs:=λhb=>by
 have:=(ok.funs.mem hb).1;rw[e] at this;cases this
def Inv.bs(I:Inv X A3 σ H s):∀b o,X.base.get? b=some o->s.heap.get? b=some o/\H b=none:=λb o e=>
 ⟨I.base.keep b o (I.ok.bs b o e).1 (I.ok.bs b o e).2 (I.ok.nofr e) (I.ok.noex b o e),I.base.free b o (I.ok.bs b o e).1 (I.ok.bs b o e).2 (I.ok.noex b o e)⟩
def Inv.bk(I:Inv X A3 σ H s):∀b o,X.base.get? b=some o->s.heap.get? b=some o:=λb o e=>(I.bs b o e).1
def Inv.mod(I:Inv X A3 σ H s):Mod X.K X.mg X.base:=I.ok.mod
def Inv.kIn(I:Inv X A3 σ H s):X.K.In s.heap:=I.ok.mod.kin.keeps I.bk
def Inv.lt(I:Inv X A3 σ H s):X.env.locals<s.heap.objs.size:=let ⟨_,hn,_⟩:=I.loc;hn.lt
def Inv.sz(I:Inv X A3 σ H s):X.s₀.heap.objs.size<=s.heap.objs.size:=Ba0 I.ok.above (Ce0 I.lt)
def Inv.nofs(I:Inv X A3 σ H s)(h:s.heap.objs.size<=a):a∉X.fs:=λhb=>by
 obtain⟨_,o,ho,_⟩:=I.ok.funs.mem hb;exact absurd (Az0 (Heap.lt_size ho) (Ba0 I.sz h)) (Bt0 _)
def Inv.cne(I:Inv X A3 σ H s):∀x c,X.env.cells.lookup x=some c->c≠X.env.locals:=λx c e z=>by
 obtain⟨v,o,ho,hd⟩:=I.cell x c e;obtain⟨m,⟨o',es,ep,ho',hd',_⟩,_⟩:=I.loc;rw[z,ho'] at ho;cases ho;rw[hd'] at hd;cases hd
def Inv.funs(I:Inv X A3 σ H s):s.heap.FunFrames X.base X.outer:=by
 have all:∀(l:List Env),(∀b∈frs l,b∈X.fs)->X.s₀.heap.FunFrames X.base l->s.heap.FunFrames X.base l:=by
  intro l;induction l with
  | nil=>intro _ _;trivial
  | cons env r ih=>
    intro hs hl;obtain⟨hk,⟨L,o,hf,hn,ho,hd⟩,hr⟩:=hl;have hL:L∈X.fs:=hs L (by unfold frs;rw[List.filterMap_cons,hf];exact Bi0);obtain⟨sl,e⟩:=I.base.slot L o ho (I.ok.frf L hL) hL λz=>I.ok.exfs L z hL
    exact⟨hk,⟨L,_,hf,hn,e,hd⟩,ih (λb hb=>hs b (by unfold frs;rw[List.filterMap_cons,hf];exact Ay0 _ hb)) hr⟩
 exact all X.outer (λ_ hb=>hb) I.ok.funs
def Inv.stack(I:Inv X A3 σ H s):s.heap.FunFrames X.base X.stack:=by
 rcases I.ok.stk with e | ⟨e,hf⟩
 ·rw[e];exact I.funs
 ·rw[e]
  obtain⟨m,hn,_⟩:=I.loc;refine .cons (by rw[I.ok.kind];decide) hf hn ?_ I.funs;exact Heap.get?_none_of_le (Ba0 I.ok.bsz I.ok.above)
def Inv.stkSub(I:Inv X A3 σ H s):∀b∈frs X.stack,b∈X.env.locals::X.fs:=λb hb=>by
 rcases I.ok.stk with e | ⟨e,hf⟩
 ·rw[e] at hb;exact Ay0 _ hb
 ·rw[e] at hb
  unfold frs at hb;rw[List.filterMap_cons,hf] at hb;exact hb
def Inv.stkFree(I:Inv X A3 σ H s):∀b∈frs X.stack,H b=none:=λb hb=>by
 rcases Aj0.mp (I.stkSub b hb) with e | hb
 ·rw[e];exact I.free
 ·obtain⟨_,o,ho,_⟩:=I.ok.funs.mem hb
  exact I.base.free b o ho (I.ok.frf b hb) λz=>I.ok.exfs b z hb
def Inv.step{g':Array GenState}{t':Nat}{d':Drawn}{ch:List Addr}(I:Inv X A3 σ H s)(hch:∀b∈ch,(b∈X.ex\/X.s₀.heap.objs.size<=b)/\b≠X.env.locals/\(∀x c,X.env.cells.lookup x=some c->c≠b)/\∀p∈X.pn++A3,p.1≠b)(keep:∀b o,b≠X.env.locals->b∉X.fs->b∉ch->s.heap.get? b=some o->H b=none->h'.get? b=some o)(slot:∀b o,b≠X.env.locals->b∈X.fs->b∉ch->s.heap.get? b=some o->H b=none->∃sl,h'.get? b=some { o with slots:=sl })(free:∀b o,b∉ch->s.heap.get? b=some o->H b=none->H' b=none)(there:∀b o,b∉ch->s.heap.get? b=some o->∃o',h'.get? b=some o')(tups:∀b xs,H b=some (.tup xs)->H' b=some (.tup xs))(frzs:∀b o u,H b=some (.frz o u)->H' b=some (.frz o u))(tbls:∀b ps,H b=some (.tbl ps)->∃more,H' b=some (.tbl (ps++more)))(ns:∀m,s.heap.Ns X.env.locals m->h'.Ns X.env.locals m)(hok:HOk X.prog X.w H' h')(hg:AllBare g') :
 Inv X A3 σ H' { s with heap:=h',gens:=g',drawn:=d',toks:=t' }:=by
 have neL:∀b o,X.s₀.heap.get? b=some o->b≠X.env.locals:=λb o e=>As0 (Az0 (Heap.lt_size e) I.ok.above)
 have neC:∀b o,X.s₀.heap.get? b=some o->b∉X.ex->b∉ch:=λb o e hx hb=>by
  rcases (hch b hb).1 with z | z
  ·exact hx z
  ·exact absurd (Az0 (Heap.lt_size e) z) (Bt0 _)
 have cellK:∀x c,X.env.cells.lookup x=some c->∀v,s.heap.IsCell c v->h'.IsCell c v:=λx c e v hI1=>by
  obtain⟨o,ho,hd⟩:=hI1;have nch:c∉ch:=λz=>(hch c z).2.2.1 x c e rfl
  by_cases hc:c∈X.fs
  ·obtain⟨sl,q⟩:=slot c o (I.cne x c e) hc nch ho (I.freeC x c e)
   exact⟨_,q,hd⟩
  ·exact⟨o,keep c o (I.cne x c e) hc nch ho (I.freeC x c e),hd⟩
 refine⟨I.ok,I.os,hg,⟨λb o e n hb hx=>?_,λb o e n hb hx=>?_,λb o e n hx=>?_,λb o e hx=>?_,λb xs e=>tups b xs (I.base.tups b xs e),λb o xs e=>frzs b o xs (I.base.frzs b o xs e),λb ps e=>?_⟩,?_,λx c e=>?_,?_,λx c e=>?_,λp hp=>?_,hok,I.len⟩
 ·exact keep b o (neL b o e) hb (neC b o e hx) (I.base.keep b o e n hb hx) (I.base.free b o e n hx)
 ·obtain⟨sl,e1⟩:=I.base.slot b o e n hb hx
  obtain⟨sl',e2⟩:=slot b _ (neL b o e) hb (neC b o e hx) e1 (I.base.free b o e n hx);exact⟨sl',e2⟩
 ·obtain⟨o',e1⟩:=I.base.there b o e hx
  exact free b o' (neC b o e hx) e1 (I.base.free b o e n hx)
 ·obtain⟨o',e1⟩:=I.base.there b o e hx
  exact there b o' (neC b o e hx) e1
 ·obtain⟨m1,e1⟩:=I.base.tbls b ps e
  obtain⟨m2,e2⟩:=tbls b _ e1;exact⟨m1++m2,by rw[e2,Array.append_assoc]⟩
 ·obtain⟨m,hn,hl⟩:=I.loc
  refine⟨m,ns m hn,λi x v e1 e2 e3=>?_⟩;obtain⟨u,r,l⟩:=hl i x v e1 e2 e3;refine⟨u,r,?_⟩;rcases l with l | ⟨k,c,e,z⟩
  ·exact .inl l
  ·exact .inr ⟨k,c,e,cellK x c e _ z⟩
 ·obtain⟨v,z⟩:=I.cell x c e
  exact⟨v,cellK x c e v z⟩
 ·obtain⟨m,⟨o,_,_,ho,_⟩,_⟩:=I.loc
  exact free _ o (λz=>(hch _ z).2.1 rfl) ho I.free
 ·obtain⟨v,o,ho,hd⟩:=I.cell x c e
  exact free c o (λz=>(hch c z).2.2.1 x c e rfl) ho (I.freeC x c e)
 ·obtain⟨e,n,ne,nf,d⟩:=I.pin p hp
  have nch:p.1∉ch:=λz=>(hch p.1 z).2.2.2 p hp rfl
  exact⟨keep p.1 p.2 ne nf nch e n,free p.1 p.2 nch e n,ne,nf,d⟩
def Inv.un{t':Nat}(I:Inv X A3 σ H s)(u:Un X.fs [] H H' s.heap h')(hok:HOk X.prog X.w H' h'):Inv X A3 σ H' { s with heap:=h',toks:=t' }:=by
 obtain⟨m,⟨o,es,ep,ho,r⟩,_⟩:=id I.loc;obtain⟨sl,hL⟩:=u.any ho I.free (by simp);exact I.step (g':=s.gens) (d':=s.drawn) (ch:=[]) (λ_ z=>nomatch z) (λb o _ hb _ e n=>u.keep b o e n hb (by simp)) (λb o _ hb _ e n=>u.slot b o e n hb (by simp)) (λb o _ e n=>u.free b o e n (by simp)) (λb o _ e=>u.there b o e (by simp)) u.tups u.frzs u.tbls (λm' hm=>by
  obtain⟨o',es',ep',ho',r'⟩:=hm;rw[ho] at ho';cases ho';exact⟨_,es',ep',hL,r'⟩) hok I.bare
def Inv.call{g':Array GenState}{t':Nat}{d':Drawn}{ch:List Addr}(I:Inv X A3 σ H s)(u:Un (frs X.stack) ch H H' s.heap h')(hok:HOk X.prog X.w H' h')(hg:AllBare g')(hch:∀b∈ch,(b∈X.ex\/X.s₀.heap.objs.size<=b)/\b≠X.env.locals/\(∀x c,X.env.cells.lookup x=some c->c≠b)/\∀p∈X.pn++A3,p.1≠b) :
 Inv X A3 σ H' { s with heap:=h',gens:=g',drawn:=d',toks:=t' }:=by
 obtain⟨m,⟨o,es,ep,ho,r⟩,_⟩:=id I.loc;obtain⟨sl,hL⟩:=u.any ho I.free λz=>(hch _ z).2.1 rfl
 exact I.step (ch:=ch) hch (λb o hL hb hc e n=>u.keep b o e n (λz=>(Aj0.mp (I.stkSub b z)).elim hL hb) hc) (λb o _ _ hc e n=>u.any e n hc) (λb o hc e n=>u.free b o e n hc) (λb o hc e=>u.there b o e hc) u.tups u.frzs u.tbls (λm' hm=>by
  obtain⟨o',es',ep',ho',r'⟩:=hm;rw[ho] at ho';cases ho';exact⟨_,es',ep',hL,r'⟩) hok hg
def Inv.turned{t':Nat}{it:Addr}(I:Inv X A3 σ H s)(k:∀b o,b≠it->s.heap.get? b=some o->h'.get? b=some o)(hn:H it=none)(hL:it≠X.env.locals)(h1:it∈X.ex\/X.s₀.heap.objs.size<=it)(h2:∀x c,X.env.cells.lookup x=some c->c≠it)(h3:∀p∈X.pn++A3,p.1≠it):Inv X A3 σ H { s with heap:=h',toks:=t' }:=by
 have nit:∀b u,H b=some u->b≠it:=λb u e z=>by rw[z,hn] at e;cases e
 refine I.step (g':=s.gens) (d':=s.drawn) (ch:=[it]) (λb hb=>?_) (λb o _ _ hc e _=>k b o (λz=>hc (by simp[z])) e) (λb o _ _ hc e _=>⟨o.slots,k b o (λz=>hc (by simp[z])) e⟩) (λ_ _ _ _ n=>n)
  (λb o hc e=>⟨o,k b o (λz=>hc (by simp[z])) e⟩) (λ_ _ e=>e) (λ_ _ _ e=>e) (λb ps e=>⟨#[],by rw[e];simp⟩) (λm hm=>?_) (λb u e=>?_) I.bare
 ·have e:b=it:=by simpa using hb
  subst e;exact⟨h1,hL,h2,h3⟩
 ·obtain⟨o,es,ep,ho,r⟩:=hm
  exact⟨o,es,ep,k _ o (Ne.symm hL) ho,r⟩
 ·refine(I.hok b u e).stay (λc v hc q=>k c v ?_ q) (λ_ q=>q) λ_ _ q=>q
  rcases hc with z | z
  ·rw[z];exact nit b u e
  ·exact nit c _ z
def Inv.tok(I:Inv X A3 σ H s)(t:Nat):Inv X A3 σ H { s with toks:=t }:=I.un (h':=s.heap) (t':=t) Un.refl I.hok
def Inv.kept{t':Nat}(I:Inv X A3 σ H s)(k:∀b u,s.heap.get? b=some u->h'.get? b=some u):Inv X A3 σ H { s with heap:=h',toks:=t' }:=I.un (Un.kept k) (I.hok.kept k)
def Inv.laid{a:Addr}{o:HO}{t':Nat}(I:Inv X A3 σ H s)(k:∀b u,s.heap.get? b=some u->h'.get? b=some u)(hp:s.heap.objs.size<=a)(new:ws2 X.prog X.w (upd H a o) h' a o) :
 Inv X A3 σ (upd H a o) { s with heap:=h',toks:=t' }:=I.un (Un.laid k hp (I.hok.fresh hp)) (I.hok.laid k hp new)
def Inv.write{t':Nat}(I:Inv X A3 σ H s)(mu:Mut (H x))(he:e=x\/H e=some (.own x))(k:∀b u,b≠e->s.heap.get? b=some u->h'.get? b=some u)(heo:∃u,h'.get? e=some u)(new:ws2 X.prog X.w (upd H x o) h' x o):Inv X A3 σ (upd H x o) { s with heap:=h',toks:=t' }:=I.un (Un.write mu he k heo) (I.hok.write mu he k heo new)
def Inv.pins_of(I:Inv X A3 σ H s)(h:∀p∈pins',s.heap.get? p.1=some p.2/\H p.1=none/\p.1≠X.env.locals/\p.1∉X.fs/\∀v,p.2.data≠.cell v):Inv X pins' σ H s:=
 ⟨I.ok,I.os,I.bare,I.base,I.loc,I.cell,I.free,I.freeC,λp hp=>(Ap0.mp hp).elim (λz=>I.pin p (Bo0 _ z)) (h p),I.hok,I.len⟩
def yw3{N:List Str}(hN:N.Nodup){i j:Nat}{x:Str}(a:N[i]?=some x)(b:N[j]?=some x):i=j:=by
 obtain⟨h1,e1⟩:=Ae0.mp a;obtain⟨h2,e2⟩:=Ae0.mp b;exact(List.getElem_inj hN).mp (e1.trans e2.symm)
def ym2{M:Model}{A:Around}{E:Value->Shared->Prop}{i:Nat}{x:Str}{v:V}{u:Value}{Q:Unit->Shared->Prop}(I:Inv X A3 σ H s)(hN:X.N.Nodup)(hi:X.N[i]?=some x)(hx:Loc X.env.scope x)(r:wr3 v u)(h:∀s',Inv X A3 (σ.set i (some v)) H s'->(∃a,Heap.SameBut a s.heap s'.heap/\(a=X.env.locals\/X.env.cells.lookup x=some a))->Q () s')(hf:X.fn x=true\/X.env.scope.names.lookup x=some .local:=by first | exact .inl rfl | exact .inr rfl | assumption):wpAny M A (storeName X.env x u) Q E s:=by
 obtain⟨m,hn,hl⟩:=id I.loc;have hcls:(X.env.scope.kind == .class||(X.env.scope.kind == .module&&X.env.locals != X.env.globals))=false:=by rw[I.ok.kind];rfl
 have hiσ:i<σ.length:=by rw[I.len];exact(Ae0.mp hi).1
 have cne:=I.cne;have tracked:∀{a:Addr} {h':Heap},(∃o,s.heap.get? a=some o/\H a=none)->Heap.SameBut a s.heap h'->HOk X.prog X.w H h':=λ{a h'} ha hs b ob e=>by
  obtain⟨_,_,hfree⟩:=ha;refine(I.hok b ob e).stay (λc w' hc q=>(hs.2 c ?_).trans q) (λ_ q=>q) λ_ _ q=>q
  rintro rfl;rcases hc with rfl | hc
  ·rw[hfree] at e;cases e
  ·rw[hfree] at hc;cases hc
 rcases hx with hk | hk
 ·refine wpAny_storeName_local hk hn (λh' hn' hs=>?_) hcls
  obtain⟨oL,_,_,hoL,_⟩:=id hn;refine h _ ⟨I.ok,I.os,I.bare,⟨λb o e n hb hx=>?_,λb o e n hb hx=>?_,I.base.free,λb o e hx=>?_,I.base.tups,I.base.frzs,I.base.tbls⟩,⟨_,hn',λj y v' e1 e2 e3=>?_⟩,λy c e=>?_,I.free,I.freeC,λp hp=>?_,tracked ⟨oL,hoL,I.free⟩ hs,by simpa using I.len⟩ ⟨_,hs,.inl rfl⟩
  ·exact(hs.2 b (As0 (Az0 (Heap.lt_size e) I.ok.above))).trans (I.base.keep b o e n hb hx)
  ·obtain⟨sl,e1⟩:=I.base.slot b o e n hb hx
   exact⟨sl,(hs.2 b (As0 (Az0 (Heap.lt_size e) I.ok.above))).trans e1⟩
  ·obtain⟨o',e1⟩:=I.base.there b o e hx
   exact⟨o',(hs.2 b (As0 (Az0 (Heap.lt_size e) I.ok.above))).trans e1⟩
  ·by_cases hj:j=i
   ·subst hj
    rw[hi] at e1;cases e1;rw[Cs0 hiσ] at e2;cases e2;exact⟨u,r,.inl ⟨hk,by simp⟩⟩
   ·rw[Bh0 (Ne.symm hj)] at e2
    obtain⟨u',r',q⟩:=hl j y v' e1 e2 e3;refine⟨u',r',?_⟩;rcases q with⟨k,e⟩ | ⟨k,c,e,z⟩
    ·refine .inl ⟨k,?_⟩
     have:y≠x:=λe=>hj (yw3 hN e1 (e▸hi))
     simp[this,e]
    ·exact .inr ⟨k,c,e,z.sameBut hs (cne y c e)⟩
  ·obtain⟨w',z⟩:=I.cell y c e
   exact⟨w',z.sameBut hs (cne y c e)⟩
  ·obtain⟨e,n,ne,nf,d⟩:=I.pin p hp
   exact⟨(hs.2 p.1 ne).trans e,n,ne,nf,d⟩
 ·have hfn:X.fn x=true:=by
   rcases hf with z | z
   ·exact z
   ·rw[z] at hk;cases hk
  obtain⟨c,hc⟩:=I.ok.has x (.inl hk);obtain⟨w',z⟩:=I.cell x c hc;refine wpAny_storeName_cell I.ok.kind hk hc z (λh' hc' hs=>?_);obtain⟨oc,hoc,hocd⟩:=id z;refine h { s with heap:=h' } ⟨I.ok,I.os,I.bare,⟨λb o e n hb hx=>?_,λb o e n hb hx=>?_,I.base.free,λb o e hx=>?_,I.base.tups,I.base.frzs,I.base.tbls⟩,⟨m,hn.sameBut hs (Ne.symm (cne x c hc)),λj y v' e1 e2 e3=>?_⟩,λy c' e=>?_,I.free,I.freeC,λp hp=>?_,tracked ⟨oc,hoc,I.freeC x c hc⟩ hs,by simpa using I.len⟩ ⟨c,hs,.inr hc⟩
  ·exact(hs.2 b (As0 (Az0 (Heap.lt_size e) (I.ok.cab x c hfn hc)))).trans (I.base.keep b o e n hb hx)
  ·obtain⟨sl,e1⟩:=I.base.slot b o e n hb hx
   exact⟨sl,(hs.2 b (As0 (Az0 (Heap.lt_size e) (I.ok.cab x c hfn hc)))).trans e1⟩
  ·obtain⟨o',e1⟩:=I.base.there b o e hx
   exact⟨o',(hs.2 b (As0 (Az0 (Heap.lt_size e) (I.ok.cab x c hfn hc)))).trans e1⟩
  ·by_cases hj:j=i
   ·subst hj
    rw[hi] at e1;cases e1;rw[Cs0 hiσ] at e2;cases e2;exact⟨u,r,.inr ⟨.inl hk,c,hc,hc'⟩⟩
   ·rw[Bh0 (Ne.symm hj)] at e2
    obtain⟨u',r',q⟩:=hl j y v' e1 e2 e3;refine⟨u',r',?_⟩;rcases q with q | ⟨k,c',e,z'⟩
    ·exact .inl q
    ·refine .inr ⟨k,c',e,z'.sameBut hs ?_⟩
     rintro rfl;exact hj (yw3 hN e1 (I.ok.inj _ _ _ e hc▸hi))
  ·by_cases hcc:c'=c
   ·subst hcc;exact⟨_,hc'⟩
   ·obtain⟨w2,z2⟩:=I.cell y c' e
    exact⟨w2,z2.sameBut hs hcc⟩
  ·obtain⟨e,n,ne,nf,d⟩:=I.pin p hp
   refine⟨(hs.2 p.1 ?_).trans e,n,ne,nf,d⟩;intro q;rw[q,hoc] at e;have q':oc=p.2:=Option.some.inj e;exact d w' (by rw[<-q'];exact hocd)
def zo2{M:Model}{A:Around}{E:Value->Shared->Prop}{i:Nat}{x:Str}{v:V}{u:Value}{Q:Unit->Shared->Prop}(I:Inv X A3 σ H s)(hN:X.N.Nodup)(hi:X.N[i]?=some x)(hx:Loc X.env.scope x)(r:wr3 v u)(h:∀s',Inv X A3 (σ.set i (some v)) H s'->Q () s')(hf:X.fn x=true\/X.env.scope.names.lookup x=some .local:=by first | exact .inl rfl | exact .inr rfl | assumption):wpAny M A (storeName X.env x u) Q E s:=
 ym2 I hN hi hx r (λs' I' _=>h s' I') hf
def Inv.call'(I:Inv X A3 σ H s)(ho:s'.os=s.os)(u:Un (frs X.stack) ch H H' s.heap s'.heap)(hok:HOk X.prog X.w H' s'.heap)(hg:AllBare s'.gens)(hch:∀b∈ch,(b∈X.ex\/X.s₀.heap.objs.size<=b)/\b≠X.env.locals/\(∀x c,X.env.cells.lookup x=some c->c≠b)/\∀p∈X.pn++A3,p.1≠b):Inv X A3 σ H' s':=by
 obtain⟨h',g',d',t',o'⟩:=s';have e:o'=s.os:=ho;subst e;exact I.call (g':=g') (t':=t') (d':=d') u hok hg hch
end
noncomputable abbrev XK:=Value->Option Addr->Hp->Prop
noncomputable abbrev St:=List (Option V)
noncomputable abbrev VK:=V->Hp->Prop
noncomputable abbrev TE:=St->Hp->VK->Prop
noncomputable abbrev TT:=St->Hp->(Bool->Hp->Prop)->Prop
noncomputable abbrev TA:=St->Hp->(List V->Hp->Prop)->Prop
structure vb4 where
 nx:St->Hp->Prop
 rt:VK
 bk:St->Hp->Prop:=λ_ _=>False
 ct:St->Hp->Prop:=λ_ _=>False
noncomputable abbrev TS:=vb4->St->Hp->Prop
noncomputable def EP(X:Cx)(A3:List (Addr×Obj))(σ:St)(Q:VK)(u:Value)(s':Shared):Prop:=∃v H',Inv X A3 σ H' s'/\wr3 v u/\Q v H'
noncomputable def TP(X:Cx)(A3:List (Addr×Obj))(σ:St)(Q:Bool->Hp->Prop)(b:Bool)(s':Shared):Prop:=∃H',Inv X A3 σ H' s'/\Q b H'
noncomputable def AP(X:Cx)(A3:List (Addr×Obj))(σ:St)(Q:List V->Hp->Prop)(us:List Value)(s':Shared):Prop:=∃vs H',Inv X A3 σ H' s'/\wr4 vs us/\Q vs H'
open H in
noncomputable def SP(X:Cx)(A3:List (Addr×Obj))(D:vb4)(f:Flow)(s':Shared):Prop:=
 match f with
 | .next=>∃σ' H',Inv X A3 σ' H' s'/\D.nx σ' H'
 | .brk=>∃σ' H',Inv X A3 σ' H' s'/\D.bk σ' H'
 | .cont=>∃σ' H',Inv X A3 σ' H' s'/\D.ct σ' H'
 | .ret u=>∃v σ' H',Inv X A3 σ' H' s'/\wr3 v u/\D.rt v H'
noncomputable def PE(X:Cx)(e:Expr)(t:TE):Prop:=
 ∀(A3:List (Addr×Obj)) (s:Shared) (σ:St) (H:Hp) (Q:VK),Inv X A3 σ H s->t σ H Q->wpAny (model X.prog X.w) X.A (eval e X.env) (EP X A3 σ Q) X.xe s
noncomputable def PT(X:Cx)(e:Expr)(t:TT):Prop:=
 ∀(A3:List (Addr×Obj)) (s:Shared) (σ:St) (H:Hp) (Q:Bool->Hp->Prop),Inv X A3 σ H s->t σ H Q->wpAny (model X.prog X.w) X.A (isTrue e X.env (eval e X.env)) (TP X A3 σ Q) X.xe s
noncomputable def PW(X:Cx)(e:Expr)(t:TT):Prop:=
 ∀(whole:Sem Value) (A3:List (Addr×Obj)) (s:Shared) (σ:St) (H:Hp) (Q:Bool->Hp->Prop),Inv X A3 σ H s->t σ H Q->wpAny (model X.prog X.w) X.A (isTrue e X.env whole) (TP X A3 σ Q) X.xe s
def PW.pt{X:Cx}{e:Expr}{t:TT}(h:PW X e t):PT X e t:=h _
noncomputable def PA(X:Cx)(es:List Expr)(t:TA):Prop:=
 ∀(pos:Pos) (A3:List (Addr×Obj)) (s:Shared) (σ:St) (H:Hp) (Q:List V->Hp->Prop),Inv X A3 σ H s->t σ H Q->wpAny (model X.prog X.w) X.A (spliced (backTo pos (starEach es X.env))) (AP X A3 σ Q) X.xe s
noncomputable def PS(X:Cx)(st:Stmt)(t:TS):Prop:=
 ∀(A3:List (Addr×Obj)) (s:Shared) (σ:St) (H:Hp) (D:vb4),Inv X A3 σ H s->t D σ H->wpAny (model X.prog X.w) X.A (exec st X.env) (SP X A3 D) X.xe s
noncomputable def PSs(X:Cx)(st:List Stmt)(t:TS):Prop:=
 ∀(A3:List (Addr×Obj)) (s:Shared) (σ:St) (H:Hp) (D:vb4),Inv X A3 σ H s->t D σ H->wpAny (model X.prog X.w) X.A (execs st X.env) (SP X A3 D) X.xe s
def thn{α:Type}{t:Sem α}{Q Q':α->Shared->Prop}{M:Model}{A:Around}{E:Value->Shared->Prop}{s:Shared}(h:wpAny M A t Q E s)(hQ:∀a s,Q a s->Q' a s):wpAny M A t Q' E s:=Ah1 h hQ λ_ _ x=>x
section
variable{X:Cx}
noncomputable def wy6(i:Nat):TE:=λσ H Q=>∃v,σ[i]?=some (some v)/\Q v H
noncomputable def tC(v:V):TE:=λ_ H Q=>Q v H
def wk9{i:Nat}{x:Str}(hN:X.N[i]?=some x)(hv:Vis X.env.scope x)(hd:(x == ("__debug__" : Str))=false:=by decide)(hcd:(x == ("__classdict__" : Str))=false:=by decide):PE X (.Name x pos) (wy6 i):=by
 intro A3 s σ H Q I h;obtain⟨v,e,h⟩:=h;obtain⟨m,hn,hl⟩:=I.loc;obtain⟨u,r,l⟩:=hl i x v hN e hv;have fin:EP X A3 σ Q u s:=⟨v,H,I,r,h⟩;rcases l with⟨hk,hm⟩ | ⟨hk,c,hc,hcell⟩
 ·exact wpAny_Name (wpAny_loadName_local I.ok.kind hk hn hm fin) hd
 ·rcases hk with hk | hk
  ·exact wpAny_Name (wpAny_loadName_cell I.ok.kind hk hc hcell fin) hd
  ·exact wpAny_Name (wpAny_loadName_free I.ok.kind hk hc hcell fin hcd) hd
def zj5{i j pos}:PE X (.Constant (.int i) j pos) (tC (.int i)):=λ_ _ _ H _ I h=>wpAny_Constant_int ⟨.int i,H,I.tok _,⟨_,rfl⟩,h⟩
def vq3{b j pos}:PE X (.Constant (.bool b) j pos) (tC (.bl b)):=λ_ _ _ H _ I h=>Constant_bool ⟨.bl b,H,I,rfl,h⟩
def wl2{j pos}:PE X (.Constant .none j pos) (tC .non):=λ_ _ _ H _ I h=>Constant_none ⟨.non,H,I,rfl,h⟩
def zv0{x j pos}:PE X (.Constant (.str x) j pos) (tC (.str x)):=λ_ _ _ H _ I h=>Calls.Constant_str ⟨.str x,H,I.tok _,⟨_,rfl⟩,h⟩
noncomputable def Gl(X:Cx)(x:Str):Prop:=X.env.kindOf x=some .globalImplicit
def xk3{E:Value->Shared->Prop}{A3:List (Addr×Obj)}{s:Shared}{σ:St}{H:Hp}{x:Str}{u:Value}{pos:Pos}{Q:Value->Shared->Prop}(I:Inv X A3 σ H s)(hg:Gl X x)(hm:X.mg x=some u)(h:Q u s)(hd:(x == ("__debug__" : Str))=false:=by decide):wpAny (model X.prog X.w) X.A (eval (.Name x pos) X.env) Q E s:=
 Calls.Name_function_global I.ok.kind hg (Calls.loadGlobal_global (by rw[I.ok.glob];exact I.mod.glob.keeps I.bk) hm h) hd
def zy8{E:Value->Shared->Prop}{A3:List (Addr×Obj)}{s:Shared}{σ:St}{H:Hp}{x:Str}{u:Value}{pos:Pos}{Q:Value->Shared->Prop}(I:Inv X A3 σ H s)(hg:Gl X x)(hm:X.mg x=none)(hv:bootBuiltins x=some u)(h:Q u s)(hn:x≠"__name__":=by decide)(hd:(x == ("__debug__" : Str))=false:=by decide):wpAny (model X.prog X.w) X.A (eval (.Name x pos) X.env) Q E s:=by
 obtain⟨mb,h1,h2⟩:=I.mod.blt;exact Calls.Name_function_global I.ok.kind hg (Calls.loadGlobal_builtin (by rw[I.ok.glob];exact I.mod.glob.keeps I.bk) hm (by rw[I.ok.blt];exact h1.keeps I.bk) ((h2 x hn).trans hv) h) hd
def xi3{x:Str}(hg:Gl X x)(hm:X.mg x=some u)(r:wr3 v u)(hd:(x == ("__debug__" : Str))=false:=by decide):PE X (.Name x pos) (tC v):=
 λ_ _ _ H _ I h=>xk3 I hg hm ⟨v,H,I,r,h⟩ hd
def wd6{x:Str}(hg:Gl X x)(hm:X.mg x=none)(hv:bootBuiltins x=some u)(r:wr3 v u)(hn:x≠"__name__":=by decide)(hd:(x == ("__debug__" : Str))=false:=by decide):PE X (.Name x pos) (tC v):=
 λ_ _ _ H _ I h=>zy8 I hg hm hv ⟨v,H,I,r,h⟩ hn hd
variable{a b:Expr}{ta tb:TE}{pos:Pos}
noncomputable def PC(X:Cx)(op:CmpOp)(a b:Expr)(t:TE):Prop:=
 ∀(A3:List (Addr×Obj)) (s:Shared) (σ:St) (H:Hp) (Q:VK),Inv X A3 σ H s->t σ H Q->
  wpAny (model X.prog X.w) X.A (eval a X.env) (λv s₁=>wpAny (model X.prog X.w) X.A (eval b X.env) (λu s₂=>wpAny (model X.prog X.w) X.A (compareOp op v u) (EP X A3 σ Q) X.xe s₂) X.xe s₁) X.xe s
noncomputable def tB(t:TE):TT:=λσ H Q=>t σ H λx H1=>∃c,x=.bl c/\Q c H1
def wl3(h:PC X op a b t)(h1:behindInMarks op b=false:=by first | exact nobehind _ (by decide) (by decide) | rfl):PE X (.Compare a [op] [b] pos) t:=λA3 s σ H Q I hw=>wpAny_Compare1 (h A3 s σ H Q I hw) h1
def wk3{op:CmpOp}{t:TE}(h:PC X op a b t)(h1:behindInMarks op b=false:=by first | exact nobehind _ (by decide) (by decide) | rfl):PT X (.Compare a [op] [b] pos) (tB t):=by
 intro A3 s σ H Q I hw;refine wpAny_isTrue_Compare1 (thn (h A3 s σ H _ I hw) λv s1 h1=>thn h1 λu s2 h2=>thn h2 λc s3 hI50=>?_) h1;obtain⟨x,H1,I1,r1,q1⟩:=hI50;obtain⟨d,rfl,q⟩:=q1;cases r1;exact Ai1 ⟨H1,I1,q⟩
def wk1{e:Expr}{t:TE}(h:PE X e t)(he:∀whole,isTrue e X.env whole=(do let v <-whole;standAt e.pos;holding [v] (truthy v)):=by intro _;rfl):PT X e (tB t):=by
 intro A3 s σ H Q I hw;refine isTrue_plain (thn (h A3 s σ H _ I hw) λv s1 hI51=>?_) (he _);obtain⟨x,H1,I1,r1,q1⟩:=hI51;obtain⟨d,rfl,q⟩:=q1;cases r1;exact Ai1 ⟨H1,I1,q⟩
variable{tA tB':TT}{rest:List Expr}
noncomputable def vy2(t u:TT):TT:=λσ H Q=>t σ H λc H1=>if c=true then u σ H1 Q else Q false H1
noncomputable def tOr(t u:TT):TT:=λσ H Q=>t σ H λc H1=>if c=true then Q true H1 else u σ H1 Q
noncomputable def vx6(t:TT):TT:=λσ H Q=>t σ H λc H1=>Q (!c) H1
theorem pw_and1(ha:PT X a tA):PW X (.BoolOp .And [a] pos) tA:=by
 intro wh A3 s σ H Q I h;refine isTrue_and (thn (ha A3 s σ H Q I h) λc s1 e=>?_);cases c with
 | true=>exact isTrue_and_nil e
 | false=>exact e
theorem pw_or1(ha:PT X a tA):PW X (.BoolOp .Or [a] pos) tA:=by
 intro wh A3 s σ H Q I h;refine isTrue_or (thn (ha A3 s σ H Q I h) λc s1 e=>?_);cases c with
 | false=>exact isTrue_or_nil e
 | true=>exact e
theorem pw_and(ha:PT X a tA)(hb:PW X (.BoolOp .And (b::rest) pos) tB'):PW X (.BoolOp .And (a::b::rest) pos) (vy2 tA tB'):=by
 intro wh A3 s σ H Q I h;refine isTrue_and (thn (ha A3 s σ H _ I h) λc s1 hI52=>?_);obtain⟨H1,I1,q1⟩:=hI52;cases c with
 | true=>exact hb wh A3 s1 σ H1 Q I1 q1
 | false=>exact⟨H1,I1,q1⟩
theorem pw_or(ha:PT X a tA)(hb:PW X (.BoolOp .Or (b::rest) pos) tB'):PW X (.BoolOp .Or (a::b::rest) pos) (tOr tA tB'):=by
 intro wh A3 s σ H Q I h;refine isTrue_or (thn (ha A3 s σ H _ I h) λc s1 hI53=>?_);obtain⟨H1,I1,q1⟩:=hI53;cases c with
 | true=>exact⟨H1,I1,q1⟩
 | false=>exact hb wh A3 s1 σ H1 Q I1 q1
def wk2(ha:PT X a tA):PT X (.UnaryOp .Not a pos) (vx6 tA):=by
 intro A3 s σ H Q I h;exact isTrue_not (ha A3 s σ H (λc H1=>Q (!c) H1) I h)
noncomputable def vo8(ta tb:TE):TE:=λσ H Q=>ta σ H λx H1=>∃c,x=.bl c/\if c=true then tb σ H1 Q else Q (.bl false) H1
noncomputable def vx5(ta tb:TE):TE:=λσ H Q=>ta σ H λx H1=>∃c,x=.bl c/\if c=true then Q (.bl true) H1 else tb σ H1 Q
noncomputable def vo4(ta:TE):TE:=λσ H Q=>ta σ H λx H1=>∃c,x=.bl c/\Q (.bl (!c)) H1
def wl0{op}(h:PE X a t):PE X (.BoolOp op [a] pos) t:=λA3 s σ H Q I hw=>BoolOp_one (h A3 s σ H Q I hw)
theorem wl4(ha:PE X a ta)(hb:PE X (.BoolOp .And (b::rest) pos) tb):PE X (.BoolOp .And (a::b::rest) pos) (vo8 ta tb):=by
 intro A3 s σ H Q I h;refine BoolOp_and (thn (ha A3 s σ H _ I h) λv s1 hI54=>?_);obtain⟨x,H1,I1,r1,q1⟩:=hI54;obtain⟨c,rfl,q1⟩:=q1;cases r1;refine Ai1 ?_;cases c with
 | true=>exact hb A3 s1 σ H1 Q I1 q1
 | false=>exact⟨.bl false,H1,I1,rfl,q1⟩
theorem vq2(ha:PE X a ta)(hb:PE X (.BoolOp .Or (b::rest) pos) tb):PE X (.BoolOp .Or (a::b::rest) pos) (vx5 ta tb):=by
 intro A3 s σ H Q I h;refine BoolOp_or (thn (ha A3 s σ H _ I h) λv s1 hI55=>?_);obtain⟨x,H1,I1,r1,q1⟩:=hI55;obtain⟨c,rfl,q1⟩:=q1;cases r1;refine Ai1 ?_;cases c with
 | false=>exact hb A3 s1 σ H1 Q I1 q1
 | true=>exact⟨.bl true,H1,I1,rfl,q1⟩
def wl1(ha:PE X a ta):PE X (.UnaryOp .Not a pos) (vo4 ta):=by
 intro A3 s σ H Q I h;refine UnaryOp_ (thn (ha A3 s σ H _ I h) λv s1 hI56=>?_);obtain⟨x,H1,I1,r1,q1⟩:=hI56;obtain⟨c,rfl,q1⟩:=q1;cases r1;exact not_of (Ai1 ⟨.bl (!c),H1,I1,rfl,q1⟩)
end
noncomputable def SqL(K:PySem.W.Frag)(H:Hp)(a:Addr)(xs:List V):Prop:=
 Rd H a (.lst xs)\/
  ∃(o:Obj) (its:Array Value) (n:Nat),K.lookup a=some o/\o.cls=.type "list"/\o.dict=none/\o.data=.seq its n/\its.size<=sizeLine/\wr4 xs its.toList
noncomputable def SqT(K:PySem.W.Frag)(H:Hp)(a:Addr)(xs:List V):Prop:=
 Rd H a (.tup xs)\/
  ∃(o:Obj) (its:Array Value) (n:Nat),K.lookup a=some o/\o.cls=.type "tuple"/\o.data=.seq its n/\its.size<=sizeLine/\wr4 xs its.toList
noncomputable def vz9:Value->Option V
 | .none=>some .non
 | .bool b=>some (.bl b)
 | .int i _=>some (.int i)
 | .str x _=>some (.str x)
 | .bytes b _=>some (.byt b)
 | .float b _=>some (.flt b)
 | .ref a=>some (.ref a)
 | .type n=>some (.ty n)
 | _=>none
theorem wr3.abs(r:wr3 x u):vz9 u=some x:=by
 cases x with
 | non=>cases r;rfl
 | bl _=>cases r;rfl
 | int _=>obtain⟨t,rfl⟩:=r;rfl
 | str _=>obtain⟨t,rfl⟩:=r;rfl
 | byt _=>obtain⟨t,rfl⟩:=r;rfl
 | flt _=>obtain⟨t,rfl⟩:=r;rfl
 | ref _=>cases r;rfl
 | ty _=>cases r;rfl
def wr3.inj(r:wr3 x u)(q:wr3 y u):x=y:=Option.some.inj (r.abs.symm.trans q.abs)
theorem wr4.inj:∀{xs ys:List V} {us:List Value},wr4 xs us->wr4 ys us->xs=ys
 | _,_,_,.nil,.nil=>rfl
 | _,_,_,.cons r t,.cons r' t'=>by rw[r.inj r',wr4.inj t t']
section
variable{X:Cx}{A3:List (Addr×Obj)}{σ:St}{H:Hp}{s:Shared}{a:Addr}{xs ys:List V}
def SqL.of{K:PySem.W.Frag}(h:H a=some (.lst xs)):SqL K H a xs:=.inl (.inl h)
def SqT.of{K:PySem.W.Frag}(h:H a=some (.tup xs)):SqT K H a xs:=.inl (.inl h)
def Inv.list(I:Inv X A3 σ H s)(h:SqL X.K H a xs):∃its:List Value,wr4 xs its/\PlainL s.heap a its.toArray/\xs.length<=sizeLine:=by
 rcases h with h | ⟨o,its,n,hk,hc,hd,hs,hz,r⟩
 ·obtain⟨z,its,n,r,e⟩:=h.ok I.hok
  exact⟨its,r,⟨_,n,e,rfl,rfl,rfl⟩,z⟩
 ·refine⟨its.toList,r,⟨o,n,I.kIn a o hk,hc,hd,by simpa using hs⟩,?_⟩
  have e:=r.length;simp only[Ah0] at e;omega
def Inv.tuple(I:Inv X A3 σ H s)(h:SqT X.K H a xs):∃its:List Value,wr4 xs its/\IsTup s.heap a its.toArray/\xs.length<=sizeLine:=by
 rcases h with h | ⟨o,its,n,hk,hc,hs,hz,r⟩
 ·obtain⟨z,its,r,p,_⟩:=h.ok I.hok
  exact⟨its,r,p,z⟩
 ·refine⟨its.toList,r,⟨o,I.kIn a o hk,hc,n,by simpa using hs⟩,?_⟩
  have e:=r.length;simp only[Ah0] at e;omega
def Inv.list_inj(I:Inv X A3 σ H s)(h:SqL X.K H a xs)(h':SqL X.K H a ys):xs=ys:=by
 obtain⟨its,r,⟨o,n,e,_,_,d⟩,_⟩:=I.list h;obtain⟨its',r',⟨o',n',e',_,_,d'⟩,_⟩:=I.list h';rw[e] at e';cases e';rw[d] at d';injection d' with d1 _
 have:its=its':=by simpa using congrArg Array.toList d1
 subst this;exact r.inj r'
def Inv.tuple_inj(I:Inv X A3 σ H s)(h:SqT X.K H a xs)(h':SqT X.K H a ys):xs=ys:=by
 obtain⟨its,r,⟨o,e,_,n,d⟩,_⟩:=I.tuple h;obtain⟨its',r',⟨o',e',_,n',d'⟩,_⟩:=I.tuple h';rw[e] at e';cases e';rw[d] at d';injection d' with d1 _
 have:its=its':=by simpa using congrArg Array.toList d1
 subst this;exact r.inj r'
end
noncomputable abbrev Cx.wish(X:Cx)(E:Value->Shared->Prop):Cx:={ X with xe:=E }
noncomputable abbrev Cx.nox(X:Cx):Cx:=X.wish λ_ _=>False
def Cx.Ok.wish{X:Cx}(ok:X.Ok)(E:Value->Shared->Prop):(X.wish E).Ok:=
 ⟨ok.mod,ok.kind,ok.glob,ok.blt,ok.above,ok.inj,ok.has,ok.cab,ok.hd,ok.frames,ok.stk,ok.exf,ok.bs,ok.bsz,ok.noex,ok.exfs,ok.funs,ok.frf⟩
def Cx.Ok.unwish{X:Cx}{E:Value->Shared->Prop}(ok:(X.wish E).Ok):X.Ok:=
 ⟨ok.mod,ok.kind,ok.glob,ok.blt,ok.above,ok.inj,ok.has,ok.cab,ok.hd,ok.frames,ok.stk,ok.exf,ok.bs,ok.bsz,ok.noex,ok.exfs,ok.funs,ok.frf⟩
section
variable{X:Cx}{A3:List (Addr×Obj)}{σ:St}{H:Hp}{s:Shared}{E:Value->Shared->Prop}{st:Stmt}{rest:List Stmt}{t u:TS}{e:Expr}{te:TE}{pos:Pos}
def Inv.wish(I:Inv X A3 σ H s)(E:Value->Shared->Prop):Inv (X.wish E) A3 σ H s:=⟨I.ok.wish E,I.os,I.bare,I.base,I.loc,I.cell,I.free,I.freeC,I.pin,I.hok,I.len⟩
def Inv.unwish(I:Inv (X.wish E) A3 σ H s):Inv X A3 σ H s:=⟨I.ok.unwish,I.os,I.bare,I.base,I.loc,I.cell,I.free,I.freeC,I.pin,I.hok,I.len⟩
open H in
theorem SP.unwish(h:SP (X.wish E) A3 D f s'):SP X A3 D f s':=by
 cases f with
 | next=>obtain⟨σ',H',I,q⟩:=h;exact⟨σ',H',I.unwish,q⟩
 | brk=>obtain⟨σ',H',I,q⟩:=h;exact⟨σ',H',I.unwish,q⟩
 | cont=>obtain⟨σ',H',I,q⟩:=h;exact⟨σ',H',I.unwish,q⟩
 | ret u=>obtain⟨v,σ',H',I,r,q⟩:=h;exact⟨v,σ',H',I.unwish,r,q⟩
def PSs.nox{st:List Stmt}{t:TS}(h:PSs X.nox st t):PSs X st t:=λA3 s σ H D I hw=>
 Ah1 (h A3 s σ H D (I.wish _) hw) (λ_ _ q=>q.unwish) λ_ _ z=>False.elim z
noncomputable def vo5:TS:=λD σ H=>D.nx σ H
noncomputable def vx2(t u:TS):TS:=λD σ H=>t { D with nx:=u D } σ H
def ys1:PSs X [] vo5:=λ_ _ σ H _ I h=>wpAny_execs_nil ⟨σ,H,I,h⟩
open H in
theorem zh1(h1:PS X st t)(h2:PSs X rest u):PSs X (st::rest) (vx2 t u):=by
 intro A3 s σ H D I h;refine wpAny_execs_cons (thn (h1 A3 s σ H { D with nx:=u D } I h) λf s1 q=>?_);cases f with
 | next=>
   obtain⟨σ',H',I',q⟩:=q;exact h2 A3 s1 σ' H' D I' q
 | ret v=>exact q
 | brk=>exact q
 | cont=>exact q
open H in
theorem yc1(h1:PS X st t):PSs X [st] t:=by
 intro A3 s σ H D I h;refine wpAny_execs_cons (thn (h1 A3 s σ H D I h) λf s1 q=>?_);cases f with
 | next=>exact wpAny_execs_nil q
 | ret v=>exact q
 | brk=>exact q
 | cont=>exact q
def Inv.quiet{A3:List (Addr×Obj)}{σ:St}{H:Hp}{s:Shared}(I:Inv X A3 σ H s):interactive X.env=false:=by simp[interactive,I.ok.kind]
noncomputable def vo6(te:TE):TS:=λD σ H=>te σ H λ_ H1=>D.nx σ H1
def ys2(he:PE X e te)(hs:swapsWith e none pos.line X.env=pure false:=by rfl):PS X (.Expr e pos) (vo6 te):=by
 intro A3 s σ H D I h;exact wpAny_Expr_any (thn (he A3 s σ H _ I h) λv s1 ⟨x,H1,I1,r1,q1⟩=>⟨σ,H1,I1,q1⟩) I.quiet hs
noncomputable def vx3(te:TE):TS:=λD σ H=>te σ H D.rt
def yg1(he:PE X e te):PS X (.Return (some e) pos) (vx3 te):=by
 intro A3 s σ H D I h;exact wpAny_Return_some (thn (he A3 s σ H _ I h) λv s1 ⟨x,H1,I1,r1,q1⟩=>⟨x,σ,H1,I1,r1,q1⟩)
noncomputable def vx8(c:TT)(t u:TS):TS:=λD σ H=>c σ H λb H1=>if b=true then t D σ H1 else u D σ H1
theorem vg3{c:Expr}{a b:List Stmt}{tc:TT}(hc:PT X c tc)(ha:PSs X a t)(hb:PSs X b u):PS X (.If c a b pos) (vx8 tc t u):=by
 intro A3 s σ H D I h;refine wpAny_If (thn (hc A3 s σ H _ I h) λd s1 hI57=>?_);obtain⟨H1,I1,q1⟩:=hI57;cases d with
 | true=>exact ha A3 s1 σ H1 D I1 q1
 | false=>exact hb A3 s1 σ H1 D I1 q1
end
noncomputable abbrev TG:=V->St->Hp->(St->Hp->Prop)->Prop
noncomputable abbrev TGs:=List V->St->Hp->(St->Hp->Prop)->Prop
noncomputable def PG(X:Cx)(target:Expr)(t:TG):Prop:=
 ∀(A3:List (Addr×Obj)) (s:Shared) (σ:St) (H:Hp) (v:V) (u:Value) (Q:St->Hp->Prop),Inv X A3 σ H s->wr3 v u->t v σ H Q->
  wpAny (model X.prog X.w) X.A (assign target X.env u) (λ_ s'=>∃σ' H',Inv X A3 σ' H' s'/\Q σ' H') X.xe s
noncomputable def PGs(X:Cx)(ts:List Expr)(t:TGs):Prop:=
 ∀(A3:List (Addr×Obj)) (s:Shared) (σ:St) (H:Hp) (vs:List V) (us:List Value) (Q:St->Hp->Prop),Inv X A3 σ H s->wr4 vs us->t vs σ H Q->
  wpAny (model X.prog X.w) X.A (assignInOrder ((assignEach ts X.env).map (·.2)) us) (λ_ s'=>∃σ' H',Inv X A3 σ' H' s'/\Q σ' H') X.xe s
noncomputable abbrev vt6:=V->V->V->Hp->(Hp->Prop)->Prop
noncomputable def vw9(X:Cx)(t:vt6):Prop:=
 ∀(A3:List (Addr×Obj)) (s:Shared) (σ:St) (H:Hp) (o i v:V) (ov iv u:Value) (Q:Hp->Prop),Inv X A3 σ H s->wr3 o ov->wr3 i iv->wr3 v u->t o i v H Q->
  wpAny (model X.prog X.w) X.A (setItem ov iv u) (λ_ s'=>∃H',Inv X A3 σ H' s'/\Q H') X.xe s
section
variable{X:Cx}{pos:Pos}
noncomputable def vc5(i:Nat):TG:=λv σ H Q=>Q (σ.set i (some v)) H
def yj0{i:Nat}{x:Str}(hN:X.N.Nodup)(hi:X.N[i]?=some x)(hx:Loc X.env.scope x)(hf:X.fn x=true\/X.env.scope.names.lookup x=some .local:=by first | exact .inl rfl | exact .inr rfl | assumption):PG X (.Name x pos) (vc5 i):=by
 intro A3 s σ H v u Q I r h;exact wpAny_assign_Name (zo2 I hN hi hx r (λs' I'=>⟨_,H,I',h⟩) hf)
noncomputable def vz2:TGs:=λvs σ H Q=>vs=[]/\Q σ H
noncomputable def vr6(t:TG)(u:TGs):TGs:=λvs σ H Q=>∃v r,vs=v::r/\t v σ H λσ' H'=>u r σ' H' Q
def ys4:PGs X [] vz2:=by
 intro A3 s σ H vs us Q I r h;obtain⟨e,h⟩:=h;subst e;cases r;exact assignInOrder_nil ⟨σ,H,I,h⟩
theorem zu9{e:Expr}{es:List Expr}{t:TG}{u:TGs}(h1:PG X e t)(h2:PGs X es u)(hs:(assignEach (e::es) X.env).map (·.2)=assign e X.env::(assignEach es X.env).map (·.2):=by rfl):PGs X (e::es) (vr6 t u):=by
 intro A3 s σ H vs us Q I r h;obtain⟨v,vr,e1,h⟩:=h;subst e1;cases r with
 | cons r rr=>
   rw[hs];refine assignInOrder_cons (thn (h1 A3 s σ H _ _ _ I r h) λ_ s1 hI58=>?_);obtain⟨σ1,H1,I1,q1⟩:=hI58;exact h2 A3 s1 σ1 H1 _ _ Q I1 rr q1
noncomputable def vz0(K:PySem.W.Frag)(n:Nat)(t:TGs):TG:=λv σ H Q=>∃a xs,v=.ref a/\SqT K H a xs/\xs.length=n/\t xs σ H Q
def xi1{k:Nat}{n:Nat}(hc:X.calm=true)(h:PGs X es t)(hn:(assignEach es X.env).length=n:=by rfl)(hst:(assignEach es X.env).findIdx? (·.1)=none:=by rfl):PG X (.Tuple es k pos) (vz0 X.K n t):=by
 intro A3 s σ H v u Q I r hw;obtain⟨a,xs,e1,hq,hl,hw⟩:=hw;subst e1;cases r;obtain⟨its,rv,ht,hz⟩:=I.tuple hq;refine assign_Tuple_tuple (I.ok.hd hc) ht (by simp[hn,<-hl,rv.length]) hst λh' hx=>?_
 have I1:Inv X A3 σ H { s with heap:=h' }:=I.kept (t':=s.toks) λb o e=>hx b o (As0 (Heap.lt_size e)) e
 exact h A3 _ σ H xs _ Q I1 (by simpa using rv) hw
noncomputable def vz1(to ti:TE)(t:vt6):TG:=λv σ H Q=>to σ H λo H1=>ti σ H1 λi H2=>t o i v H2 λH3=>Q σ H3
def wk8{o i:Expr}{to ti:TE}{t:vt6}(ho:PE X o to)(hi:PE X i ti)(hs:vw9 X t)(ha:∀v,assign (.Subscript o i pos) X.env v=(do
  let ov <-holding [v] (eval o X.env)
  let iv <-holding [v,ov] (eval i X.env)
  standAt pos
  holding [v,ov,iv] (setItem ov iv v)
  release [v,ov,iv] []):=by intro _;rfl):PG X (.Subscript o i pos) (vz1 to ti t):=by
 intro A3 s σ H v u Q I r h;rw[ha];refine Aa1 (wpAny_holding (thn (ho A3 s σ H _ I h) λov s1 hI59=>?_));obtain⟨x,H1,I1,r1,q1⟩:=hI59;refine Aa1 (wpAny_holding (thn (hi A3 s1 σ H1 _ I1 q1) λiv s2 hI60=>?_));obtain⟨y,H2,I2,r2,q2⟩:=hI60;refine Aa1 (wpAny_standAt (Aa1 (wpAny_holding (thn (hs A3 s2 σ H2 x y v ov iv u _ I2 r1 r2 r q2) λ_ s3 hI61=>?_))));obtain⟨H3,I3,q3⟩:=hI61;exact wpAny_release ⟨σ,H3,I3,q3⟩
noncomputable def vm2(te:TE)(g:TG):TS:=λD σ H=>te σ H λx H1=>g x σ H1 D.nx
def xh4{tg e:Expr}{te:TE}{g:TG}(he:PE X e te)(hg:PG X tg g)(hs:swapsWithSole [tg] e pos.line X.env=pure false:=by rfl)(hw:swappedStores [tg] e X.env=pure none:=by rfl)(h1:(assignEach [tg] X.env).map (·.2)=[assign tg X.env]:=by rfl):PS X (.Assign [tg] e pos) (vm2 te g):=by
 intro A3 s σ H D I h;refine wpAny_Assign_stores (thn (he A3 s σ H _ I h) λv s1 hI62=>?_) hs hw;obtain⟨x,H1,I1,r1,q1⟩:=hI62;rw[h1];exact thn (hg A3 s1 σ H1 x v _ I1 r1 q1) λ_ s2 q=>q
def zt3{i:Nat}{x:Str}{e:Expr}{te:TE}{pos':Pos}(hN:X.N.Nodup)(hi:X.N[i]?=some x)(hx:Loc X.env.scope x)(he:PE X e te)(hs:swapsWith e (some (.Name x pos')) pos.line X.env=pure false:=by rfl)(hf:X.fn x=true\/X.env.scope.names.lookup x=some .local:=by first | exact .inl rfl | exact .inr rfl | assumption) :
 PS X (.Assign [.Name x pos'] e pos) (vm2 te (vc5 i)):=by
 intro A3 s σ H D I h;refine wpAny_Assign_Name (thn (he A3 s σ H _ I h) λv s1 hI63=>?_) hs;obtain⟨y,H1,I1,r1,q1⟩:=hI63;exact zo2 I1 hN hi hx r1 (λs2 I2=>⟨_,H1,I2,q1⟩) hf
noncomputable def vx4(i j:Nat)(ta:TA):TS:=λD σ H=>ta σ H λvs H1=>∃v w,vs=[v,w]/\D.nx ((σ.set i (some v)).set j (some w)) H1
def wk4{i j:Nat}{x y:Str}{a b:Expr}{ta:TA}{px py pt:Pos}{kt k2 pt2}(hc:X.calm=true)(hN:X.N.Nodup)(hi:X.N[i]?=some x)(hj:X.N[j]?=some y)(hij:i≠j)(hx:X.env.scope.names.lookup x=some .local)(hy:X.env.scope.names.lookup y=some .local)(ha:PA X [a,b] ta)(hw:swappedStores [.Tuple [.Name x px,.Name y py] kt pt] (.Tuple [a,b] k2 pt2) X.env=pure (some [x,y]))(hs:swapsWithSole [.Tuple [.Name x px,.Name y py] kt pt] (.Tuple [a,b] k2 pt2) pos.line X.env=pure false:=by rfl) :
 PS X (.Assign [.Tuple [.Name x px,.Name y py] kt pt] (.Tuple [a,b] k2 pt2) pos) (vx4 i j ta):=by
 intro A3 s σ H D I h;rw[exec_Assign_arm];refine Aa1 (wpAny_standAt ?_);rw[hs];refine Aa1 (Ac1 ?_);rw[if_neg (by decide)];refine Aa1 (Tuple_ (thn (ha _ A3 s σ H _ I h) λus s1 hI64=>?_));obtain⟨vs,H1,I1,r1,q1⟩:=hI64;obtain⟨v,w,e1,q1⟩:=q1;subst e1;obtain⟨u1,u2,rfl,rv,rw'⟩:∃u1 u2,us=[u1,u2]/\wr3 v u1/\wr3 w u2:=by
  cases r1 with
  | cons p q=>
    cases q with
    | cons p' q'=>
      cases q';exact⟨_,_,rfl,p,p'⟩
 refine wpAny_newObj_type ?_ (by show 2<=sizeLine;decide);have I2:Inv X A3 σ H1 { s1 with heap:=s1.heap.push { cls:=.type "tuple",data:=.seq [u1,u2].toArray } }:=I1.kept (t':=s1.toks) λb o e=>Ab0 _ e
 rw[hw];refine Aa1 (Ac1 ?_);show wpAny (model X.prog X.w) X.A (do rule "assign.swapped-stores";let items <-unpackItems (.ref s1.heap.objs.size) 2 none;assignInOrder [λv=>bindName X.env y v,λv=>bindName X.env x v] items.reverse;pure Flow.next) _ _ _;refine Aa1 (Aj1 (Aa1 (unpackItems_tuple (items:=#[u1,u2]) (I.ok.hd hc) (IsTup.new s1.heap _) λh' hx'=>?_)));have I3:=I2.kept (h':=h') (t':=s1.toks) λb o e=>hx' b o (As0 (Heap.lt_size e)) e
 show wpAny _ _ (assignInOrder [λv=>bindName X.env y v,λv=>bindName X.env x v] [u2,u1] >>= λ_=>pure Flow.next) _ _ _;refine Aa1 (assignInOrder_cons (wpAny_bindName (zo2 I3 hN hj (.inl hy) rw' (λs2 I4=>?_) (.inr hy))));refine assignInOrder_cons (wpAny_bindName (zo2 I4 hN hi (.inl hx) rv (λs3 I5=>assignInOrder_nil (Ac1 ?_)) (.inr hx)));rw[List.set_comm _ _ (Ne.symm hij)] at I5;exact⟨_,H1,I5,q1⟩
noncomputable def wj3(c:TT)(tb:TS):TS:=λD σ H=>∃W:Nat->St->Hp->Prop,(∃m,W m σ H)/\∀m σ H,W m σ H->
 c σ H λb H1=>if b=true then ∃N:St->Hp->Prop,(∀σ' H',N σ' H'->∃m',m' < m/\W m' σ' H')/\tb { D with nx:=N,ct:=N,bk:=D.nx } σ H1 else D.nx σ H1
open H in
theorem xs2{c:Expr}{body:List Stmt}{tc:TT}{tb:TS}(hp:PassesOwn (model X.prog X.w) X.A X.env X.xe)(hc:PT X c tc)(hb:PSs X body tb):PS X (.While c body [] pos) (wj3 tc tb):=by
 intro A3 s σ H D I h;obtain⟨W,⟨m0,w0⟩,turn⟩:=h;refine wpAny_While (codeAny_whileLoop (λn s'=>∃σ' H',Inv X A3 σ' H' s'/\W n σ' H') ?_ m0 ⟨σ,H,I,w0⟩);rintro n s1 ⟨σ1,H1,I1,w1⟩;refine wpAny_passesOwn hp (thn (hc A3 s1 σ1 H1 _ I1 (turn n σ1 H1 w1)) λb s2 hI65=>?_);obtain⟨H2,I2,q2⟩:=hI65;cases b with
 | true=>
   obtain⟨N,hN,q2⟩:=q2;rw[if_pos rfl];refine wpAny_passesOwn hp (thn (hb A3 s2 σ1 H2 _ I2 q2) λf s3 q3=>?_);cases f with
   | next=>
     obtain⟨σ3,H3,I3,n3⟩:=q3;obtain⟨m',hm,w3⟩:=hN σ3 H3 n3;exact⟨m',hm,σ3,H3,I3,w3⟩
   | cont=>
     obtain⟨σ3,H3,I3,n3⟩:=q3;obtain⟨m',hm,w3⟩:=hN σ3 H3 n3;exact⟨m',hm,σ3,H3,I3,w3⟩
   | brk=>exact q3
   | ret v=>exact q3
 | false=>
   rw[if_neg At0];exact wpAny_execs_nil ⟨σ1,H2,I2,q2⟩
end
structure It where
 go:Nat->Hp->Prop
 yld:Nat->Hp->V->Hp->Prop
 stop:Nat->Hp->Prop
noncomputable def wz6(X:Cx)(A3:List (Addr×Obj))(H:Hp)(b:Addr):Prop:=
 H b=none/\b≠X.env.locals/\b∉X.fs/\(b∈X.ex\/X.s₀.heap.objs.size<=b)/\(∀x c,X.env.cells.lookup x=some c->c≠b)/\∀p∈X.pn++A3,p.1≠b
def Inv.fpOk{X:Cx}{A3:List (Addr×Obj)}{σ:St}{H H':Hp}{s:Shared}{b:Addr}(I:Inv X A3 σ H s)(hb:s.heap.objs.size<=b)(hn:H' b=none):wz6 X A3 H' b:=by
 refine⟨hn,Nat.ne_of_gt (Az0 I.lt hb),I.nofs hb,.inr (Ba0 I.sz hb),λx c e z=>?_,λp hp z=>?_⟩
 ·obtain⟨v,q⟩:=I.cell x c e
  exact absurd (Az0 q.lt (by rw[z];exact hb)) (Bt0 _)
 ·exact absurd (Az0 (Heap.lt_size (I.pin p hp).1) (by rw[z];exact hb)) (Bt0 _)
structure vi0(P:Program)(w:World)(K:PySem.W.Frag)(tg:Expr)(J:It)(fp:List Addr)(it:Addr)(tn:Nat->Heap->Prop):Prop where
 mem:it∈fp
 obj:∀i h,tn i h->∀b∈fp,∃o,h.get? b=some o/\∀v,o.data≠.cell v
 keep:∀i h h',tn i h->(∀b∈fp,∀o,h.get? b=some o->h'.get? b=some o)->tn i h'
 item:∀(X:Cx),X.prog=P->X.w=w->X.K=K->X.calm=true->∀(i:Nat) (A3:List (Addr×Obj)) (s:Shared) (σ:St) (H:Hp) (E:Value->Shared->Prop),Inv X A3 σ H s->(∀b∈fp,wz6 X A3 H b)->tn i s.heap->J.go i H->
  wpAny (model P w) X.A (pyNext (.ref it)) (λr s1=>∃u,r=some u/\
   wpAny (model P w) X.A (letOwnedTupleGo tg (.ref it) u) (λ_ s2=>∃x H',Inv X A3 σ H' s2/\wr3 x u/\J.yld i H x H'/\tn (i+1) s2.heap/\∀b∈fp,H' b=none) E s1) E s
 done:∀(X:Cx),X.prog=P->X.w=w->X.K=K->X.calm=true->∀(i:Nat) (A3:List (Addr×Obj)) (s:Shared) (σ:St) (H:Hp) (E:Value->Shared->Prop),Inv X A3 σ H s->(∀b∈fp,wz6 X A3 H b)->tn i s.heap->J.stop i H->
  wpAny (model P w) X.A (pyNext (.ref it)) (λr s1=>r=none/\Inv X A3 σ H s1) E s
 self:∀(A:Around) (i:Nat) (s:Shared) (Q:Value->Shared->Prop) (E:Value->Shared->Prop),tn i s.heap->Q (.ref it) s->wpAny (model P w) A (pyIter (.ref it)) Q E s
noncomputable abbrev TI:=St->Hp->(It->Hp->Prop)->Prop
noncomputable def PIE(X:Cx)(A3:List (Addr×Obj))(σ:St)(tg:Expr)(R:It->Hp->Prop)(itv:Value)(s2:Shared):Prop:=
 ∃(it:Addr) (fp:List Addr) (tn:Nat->Heap->Prop) (J:It) (H':Hp),itv=.ref it/\Inv X A3 σ H' s2/\vi0 X.prog X.w X.K tg J fp it tn/\tn 0 s2.heap/\(∀b∈fp,wz6 X A3 H' b)/\R J H'
noncomputable def PI(X:Cx)(tg iter:Expr)(wi:TI):Prop:=
 ∀(A3:List (Addr×Obj)) (s:Shared) (σ:St) (H:Hp) (R:It->Hp->Prop),Inv X A3 σ H s->wi σ H R->
  wpAny (model X.prog X.w) X.A (eval iter X.env) (λv s1=>wpAny (model X.prog X.w) X.A (pyIter v) (PIE X A3 σ tg R) X.xe s1) X.xe s
def vh5{n:String}(ho:s.heap.get? it=some o)(hc:o.cls=.type n)(hd:o.data=.fields vs)(hn:["enumerate","zip","dict_itemiterator","dict_reverseitemiterator","odict_iterator","itertools.zip_longest","itertools.pairwise"].contains n=false)(hQ:Q () s):wpAny M A (letOwnedTupleGo tg (.ref it) u) Q E s:=by
 unfold letOwnedTupleGo;cases tg<;>first
  | exact Ac1 hQ
  | (cases u<;>first
   | exact Ac1 hQ
   | (refine Aa1 (wpAny_load ho ?_)
      rw[hc,hd];show wpAny M A (if (["enumerate","zip","dict_itemiterator","dict_reverseitemiterator","odict_iterator","itertools.zip_longest","itertools.pairwise"].contains n&&vs[0]? == some (rawInt _))=true then _ else _) Q E s;rw[if_neg (by intro h;rw[hn,Bool.false_and] at h;cases h)];exact Ac1 hQ))
noncomputable def Itl(K:PySem.W.Frag)(a:Addr):It:=
 ⟨λi H=>∃xs x,SqL K H a xs/\xs[i]?=some x,λi H x H'=>H'=H/\∀xs,SqL K H a xs->xs[i]?=some x,λi H=>∃xs,SqL K H a xs/\xs.length<=i⟩
noncomputable def Itt(K:PySem.W.Frag)(a:Addr):It:=
 ⟨λi H=>∃xs x,SqT K H a xs/\xs[i]?=some x,λi H x H'=>H'=H/\∀xs,SqT K H a xs->xs[i]?=some x,λi H=>∃xs,SqT K H a xs/\xs.length<=i⟩
noncomputable def Itr(lo:Int)(n:Nat):It:=⟨λi _=>i<n,λi H x H'=>H'=H/\x=.int (lo+i),λi _=>n<=i⟩
def xe7{P:Program}{w:World}{K:PySem.W.Frag}{tg:Expr}(a it:Addr):vi0 P w K tg (Itl K a) [it] it (λi h=>h.IsListIter it a i) where
 mem:=by simp
 obj:=λi h st b hb=>by
  have e:b=it:=by simpa using hb
  subst e;obtain⟨o,e,c,d⟩:=st;exact⟨o,e,λv z=>by rw[d] at z;cases z⟩
 keep:=λi h h' st k=>st.at λo e=>k it (by simp) o e
 item:=by
  intro X hP hw hK hc i A3 s σ H E I hf st hg;subst hP hw hK;obtain⟨xs,x,hq,hx⟩:=hg;obtain⟨its,rv,p,hz⟩:=I.list hq;obtain⟨u,hu,ru⟩:=rv.get hx;obtain⟨f0,f1,f2,f3,f4,f5⟩:=hf it (by simp);refine wpAny_pyNext_list_item st p.isList (x:=u) (by simpa using hu) λh' st' sb=>?_
  have I1:Inv X A3 σ H { s with heap:=h' }:=I.turned (t':=s.toks) (λb o hb e=>(sb.2 b hb).trans e) f0 f1 f3 f4 f5;obtain⟨o,e,c,d⟩:=id st';exact⟨u,rfl,vh5 (s:={ s with heap:=h' }) e c d (by decide) ⟨x,H,I1,ru,⟨rfl,λys hy=>by rw[I.list_inj hy hq];exact hx⟩,st',λb hb=>(hf b hb).1⟩⟩
 done:=by
  intro X hP hw hK hc i A3 s σ H E I hf st hg;subst hP hw hK;obtain⟨xs,hq,hx⟩:=hg;obtain⟨its,rv,p,hz⟩:=I.list hq;obtain⟨f0,f1,f2,f3,f4,f5⟩:=hf it (by simp);have hl:=rv.length;exact wpAny_pyNext_list_end (I.ok.hd hc) st p.isList (by simp;omega) λh' eb=>⟨rfl,I.turned (t':=s.toks) (λb o hb e=>eb b o hb e) f0 f1 f3 f4 f5⟩
 self:=λ_ _ _ _ _ st h=>wpAny_pyIter_listiter st h
def xa7{P:Program}{w:World}{K:PySem.W.Frag}{tg:Expr}(a it:Addr):vi0 P w K tg (Itt K a) [it] it (λi h=>h.IsTupleIter it a i) where
 mem:=by simp
 obj:=λi h st b hb=>by
  have e:b=it:=by simpa using hb
  subst e;obtain⟨o,e,c,d⟩:=st;exact⟨o,e,λv z=>by rw[d] at z;cases z⟩
 keep:=λi h h' st k=>st.at λo e=>k it (by simp) o e
 item:=by
  intro X hP hw hK hc i A3 s σ H E I hf st hg;subst hP hw hK;obtain⟨xs,x,hq,hx⟩:=hg;obtain⟨its,rv,p,hz⟩:=I.tuple hq;obtain⟨u,hu,ru⟩:=rv.get hx;obtain⟨f0,f1,f2,f3,f4,f5⟩:=hf it (by simp);refine wpAny_pyNext_tuple_item st (show s.heap.IsTuple a its.toArray from p) (x:=u) (by simpa using hu) λh' st' sb=>?_
  have I1:Inv X A3 σ H { s with heap:=h' }:=I.turned (t':=s.toks) (λb o hb e=>(sb.2 b hb).trans e) f0 f1 f3 f4 f5;obtain⟨o,e,c,d⟩:=id st';exact⟨u,rfl,vh5 (s:={ s with heap:=h' }) e c d (by decide) ⟨x,H,I1,ru,⟨rfl,λys hy=>by rw[I.tuple_inj hy hq];exact hx⟩,st',λb hb=>(hf b hb).1⟩⟩
 done:=by
  intro X hP hw hK hc i A3 s σ H E I hf st hg;subst hP hw hK;obtain⟨xs,hq,hx⟩:=hg;obtain⟨its,rv,p,hz⟩:=I.tuple hq;obtain⟨f0,f1,f2,f3,f4,f5⟩:=hf it (by simp);have hl:=rv.length;exact wpAny_pyNext_tuple_end (I.ok.hd hc) st (show s.heap.IsTuple a its.toArray from p) (by simp;omega) λh' eb=>⟨rfl,I.turned (t':=s.toks) (λb o hb e=>eb b o hb e) f0 f1 f3 f4 f5⟩
 self:=λ_ _ _ _ _ st h=>wpAny_pyIter_tupleiter st h
def xa8{P:Program}{w:World}{K:PySem.W.Frag}{tg:Expr}(it:Addr)(lo:Int)(n:Nat):vi0 P w K tg (Itr lo n) [it] it (λi h=>IsRangeIter h it (lo+(i:Nat)*1) ((n:Int)-(i:Nat)) 1) where
 mem:=by simp
 obj:=λi h st b hb=>by
  have e:b=it:=by simpa using hb
  subst e;exact⟨_,st,λv z=>by
   have z':Data.fields _=Data.cell v:=z;cases z'⟩
 keep:=λi h h' st k=>k it (by simp) _ st
 item:=by
  intro X hP hw hK hc i A3 s σ H E I hf st hg;subst hP hw hK;obtain⟨f0,f1,f2,f3,f4,f5⟩:=hf it (by simp);have W:=Walks.range (prog:=X.prog) (w:=X.w) (I.ok.hd hc) it lo 1 n;refine W.item i s _ _ hg st λv h' tk hv st' kk=>?_
  obtain⟨t,rfl⟩:=hv;have I1:Inv X A3 σ H { s with heap:=h',toks:=tk }:=I.turned (λb o hb e=>kk b o (by simpa using hb) e) f0 f1 f3 f4 f5;refine⟨_,rfl,vh5 (s:={ s with heap:=h',toks:=tk }) (n:="range_iterator") st' rfl rfl (by decide) ⟨.int (lo+i),H,I1,⟨t,?_⟩,⟨rfl,rfl⟩,st',λb hb=>(hf b hb).1⟩⟩;rw[Int.mul_one]
 done:=by
  intro X hP hw hK hc i A3 s σ H E I hf st hg;subst hP hw hK;obtain⟨f0,f1,f2,f3,f4,f5⟩:=hf it (by simp);exact wpAny_pyNext_range_end (I.ok.hd hc) st (by have:n<=i:=hg;omega) λh' eb=>⟨rfl,I.turned (t':=s.toks) (λb o hb e=>eb b o hb e) f0 f1 f3 f4 f5⟩
 self:=λ_ _ _ _ _ st h=>wpAny_pyIter_rangeiter st h
section
variable{X:Cx}{tg:Expr}
noncomputable def vr3(K:PySem.W.Frag)(tl:TE):TI:=λσ H R=>tl σ H λx H1=>∃a,x=.ref a/\(∃xs,SqL K H1 a xs)/\R (Itl K a) H1
noncomputable def vy8(K:PySem.W.Frag)(tl:TE):TI:=λσ H R=>tl σ H λx H1=>∃a,x=.ref a/\(∃xs,SqT K H1 a xs)/\R (Itt K a) H1
def wd3{l:Expr}{tl:TE}(hl:PE X l tl):PI X tg l (vr3 X.K tl):=by
 intro A3 s σ H R I h;refine thn (hl A3 s σ H _ I h) λv s1 hI66=>?_
 obtain⟨x,H1,I1,r1,q1⟩:=hI66;obtain⟨a,e,⟨xs,hq⟩,q⟩:=q1;subst e;cases r1;obtain⟨its,rv,p,hz⟩:=I1.list hq;refine wpAny_pyIter_list p.isList ?_;refine⟨s1.heap.objs.size,[s1.heap.objs.size],_,_,H1,rfl,I1.kept (t':=s1.toks) λb o e=>Ab0 _ e,xe7 a _,⟨_,Af0 _ rfl,rfl,rfl⟩,λb hb=>?_,q⟩;have e:b=s1.heap.objs.size:=by simpa using hb
 subst e;exact I1.fpOk (Ad0 _) (I1.hok.fresh (Ad0 _))
def wk7{l:Expr}{tl:TE}(hl:PE X l tl):PI X tg l (vy8 X.K tl):=by
 intro A3 s σ H R I h;refine thn (hl A3 s σ H _ I h) λv s1 hI67=>?_
 obtain⟨x,H1,I1,r1,q1⟩:=hI67;obtain⟨a,e,⟨xs,hq⟩,q⟩:=q1;subst e;cases r1;obtain⟨its,rv,p,hz⟩:=I1.tuple hq;refine wpAny_pyIter_tuple (show s1.heap.IsTuple a its.toArray from p) ?_;refine⟨s1.heap.objs.size,[s1.heap.objs.size],_,_,H1,rfl,I1.kept (t':=s1.toks) λb o e=>Ab0 _ e,xa7 a _,⟨_,Af0 _ rfl,rfl,rfl⟩,λb hb=>?_,q⟩;have e:b=s1.heap.objs.size:=by simpa using hb
 subst e;exact I1.fpOk (Ad0 _) (I1.hok.fresh (Ad0 _))
def xs0{A3:List (Addr×Obj)}{σ:St}{H:Hp}{s:Shared}{R:It->Hp->Prop}{E:Value->Shared->Prop}{lo hi:Int}{t u v:Tok}{tk:Nat}(I:Inv X A3 σ H s)(h1:-(2 ^ 62)<=lo)(h2:lo<2 ^ 62)(h3:-(2 ^ 62)<=hi)(h4:hi<2 ^ 62)(q:R (Itr lo (hi-lo).toNat) H):wpAny (model X.prog X.w) X.A (pyIter (.ref s.heap.objs.size)) (PIE X A3 σ tg R) E { s with heap:=s.heap.push { cls:=.type "range",data:=.fields #[.int lo t,.int hi u,.int 1 v] },toks:=tk }:=by
 refine wpAny_pyIter_range (IsRange.new ..) (small_one h1 h2 h3 h4) ?_;have I1:Inv X A3 σ H { s with heap:=s.heap.push { cls:=.type "range",data:=.fields #[.int lo t,.int hi u,.int 1 v] },toks:=tk }:=I.kept λb o e=>Ab0 _ e
 refine⟨(s.heap.push { cls:=.type "range",data:=.fields #[.int lo t,.int hi u,.int 1 v] }).objs.size,[(s.heap.push { cls:=.type "range",data:=.fields #[.int lo t,.int hi u,.int 1 v] }).objs.size],_,_,H,rfl,I1.kept (t':=tk) λb o e=>Ab0 _ e,xa8 _ lo (hi-lo).toNat,?_,λb hb=>?_,q⟩
 ·have e1:lo+((0:Nat):Int)*1=lo:=by simp
  have e2:(((hi-lo).toNat:Nat):Int)-((0:Nat):Int)=Builtin.Range.rangeSize lo hi 1:=by rw[rangeSize_one];split<;>omega
  show IsRangeIter _ _ (lo+((0:Nat):Int)*1) ((((hi-lo).toNat:Nat):Int)-((0:Nat):Int)) 1;rw[e1,e2];exact Af0 _ rfl
 ·have e:b=(s.heap.push { cls:=.type "range",data:=.fields #[.int lo t,.int hi u,.int 1 v] }).objs.size:=by simpa using hb
  subst e;exact I1.fpOk (Ad0 _) (I1.hok.fresh (Ad0 _))
noncomputable def vr2(ta:TA):TI:=λσ H R=>ta σ H λvs H1=>∃j:Int,vs=[.int j]/\-(2 ^ 62)<=j/\j<2 ^ 62/\R (Itr 0 j.toNat) H1
theorem xh9{a:Expr}{ta:TA}{p pos:Pos}(hg:Gl X "range")(hm:X.mg "range" = none)(ha:PA X [a] ta)(hs:starEach [a] X.env=[(false,eval a X.env)]:=by rfl):PI X tg (.Call (.Name "range" p) [a] [] pos) (vr2 ta):=by
 intro A3 s σ H R I h;refine Call_ (zy8 I hg hm boot_range (PyProof.Rows.callWith_type1 (thn (ha pos A3 s σ H _ I h) λus s1 hI68=>?_) hs rfl));obtain⟨vs,H1,I1,r1,q1⟩:=hI68;obtain⟨j,e,q1,q2,q⟩:=q1;subst e;cases r1 with
 | cons r rr=>
   cases rr;obtain⟨t,rfl⟩:=r;exact call_range_1 (xs0 I1 (by omega) (by omega) q1 q2 (by simpa using q))
noncomputable def vx9(wi:TI)(g:TG)(tb:TS):TS:=λD σ H=>wi σ H λJ H1=>∃W:Nat->Nat->St->Hp->Prop,(∃m,W 0 m σ H1)/\∀i m σ H,W i m σ H->
 (J.stop i H/\D.nx σ H)\/(J.go i H/\∃N:St->Hp->Prop,(∀σ' H',N σ' H'->∃m',m' < m/\W (i+1) m' σ' H')/\∀x H',J.yld i H x H'->g x σ H' λσ2 H2=>tb { D with nx:=N,ct:=N,bk:=D.nx } σ2 H2)
noncomputable def yn1(fp:List Addr)(h:Heap):List (Addr×Obj):=fp.filterMap λb=>(h.get? b).map λo=>(b,o)
def zs3{fp:List Addr}{h:Heap}{b:Addr}{o:Obj}(hb:b∈fp)(e:h.get? b=some o):(b,o)∈yn1 fp h:=List.mem_filterMap.mpr ⟨b,hb,by rw[e];rfl⟩
theorem xj2(hp:p∈yn1 fp h):p.1∈fp/\h.get? p.1=some p.2:=by
 obtain⟨b,hb,e⟩:=List.mem_filterMap.mp hp;cases q:h.get? b with
 | none=>rw[q] at e;cases e
 | some o=>
   rw[q] at e;have e':(b,o)=p:=Option.some.inj e;subst e';exact⟨hb,q⟩
def Inv.pinned{A3:List (Addr×Obj)}{σ:St}{H:Hp}{s:Shared}{fp:List Addr}(I:Inv X A3 σ H s)(hf:∀b∈fp,wz6 X A3 H b)(ho:∀b∈fp,∃o,s.heap.get? b=some o/\∀v,o.data≠.cell v):Inv X (A3++yn1 fp s.heap) σ H s:=
 I.pins_of λp hp=>(Ap0.mp hp).elim (λz=>I.pin p (Be0 _ z)) λz=>by
  obtain⟨hb,e⟩:=xj2 z;obtain⟨f0,f1,f2,_⟩:=hf p.1 hb;obtain⟨o,e',d⟩:=ho p.1 hb;rw[e] at e';cases e';exact⟨e,f0,f1,f2,d⟩
def Inv.unpinned{A3 pl:List (Addr×Obj)}{σ:St}{H:Hp}{s:Shared}(I:Inv X (A3++pl) σ H s):Inv X A3 σ H s:=I.pins_of λp hp=>I.pin p (Be0 _ (Bo0 _ hp))
open H in
def wk5{iter:Expr}{body:List Stmt}{wi:TI}{g:TG}{tb:TS}{pos:Pos}(hp:PassesOwn (model X.prog X.w) X.A X.env X.xe)(hc:X.calm=true)(hi:PI X tg iter wi)(hg:PG X tg g)(hb:PSs X body tb)(hs:∀x,foldedSetIterable iter X.env x=pure x:=by intro _;rfl):PS X (.For tg iter body [] pos) (vx9 wi g tb):=by
 intro A3 s σ H D I h;refine wpAny_For (thn (hi A3 s σ H _ I h) λv s1 h1=>thn h1 λitv s2 h2=>?_) hs;obtain⟨it,fp,tn,J,H2,e,I2,T,st2,f2,W,⟨m0,w0⟩,turn⟩:=h2;subst e
 -- what stays true of the iterator's objects through the loop
 have stat:∀{H':Hp},(∀b∈fp,H' b=none)->∀b∈fp,wz6 X A3 H' b:=λhn b hb=>⟨hn b hb,(f2 b hb).2⟩
 refine codeAny_forLoop_any (λn s'=>∃i σ' H',Inv X A3 σ' H' s'/\tn i s'.heap/\(∀b∈fp,H' b=none)/\W i n σ' H') ?_ m0 ⟨0,σ,H2,I2,st2,λb hb=>(f2 b hb).1,w0⟩;rintro n s3 ⟨i,σ3,H3,I3,st3,fr3,w3⟩;rcases turn i n σ3 H3 w3 with⟨stop,qn⟩ | ⟨go,N,hN,step⟩
 ·refine wpAny_passesOwn hp (thn (T.done X rfl rfl rfl hc i A3 s3 σ3 H3 X.xe I3 (stat fr3) st3 stop) λr s4 hI69=>?_)
  obtain⟨hr,I4⟩:=hI69;subst hr;exact wpAny_execs_nil ⟨σ3,H3,I4,qn⟩
 ·refine wpAny_passesOwn hp (thn (T.item X rfl rfl rfl hc i A3 s3 σ3 H3 X.xe I3 (stat fr3) st3 go) λr s4 hI70=>?_)
  obtain⟨u,hr,h4⟩:=hI70;subst hr;refine wpAny_passesOwn hp (thn h4 λ_ s5 hI71=>?_);obtain⟨x,H5,I5,r5,y5,st5,fr5⟩:=hI71;have I5':=I5.pinned (stat fr5) (T.obj _ _ st5);refine wpAny_passesOwn hp (thn (hg _ s5 σ3 H5 x u _ I5' r5 (step x H5 y5)) λ_ s6 hI72=>?_);obtain⟨σ6,H6,I6,q6⟩:=hI72;refine wpAny_passesOwn hp (thn (hb _ s6 σ6 H6 _ I6 q6) λf s7 q7=>?_);have again:∀{σ7:St} {H7:Hp},Inv X (A3++yn1 fp s5.heap) σ7 H7 s7->N σ7 H7->∃m,m<n/\∃i σ' H',Inv X A3 σ' H' s7/\tn i s7.heap/\(∀b∈fp,H' b=none)/\W i m σ' H':=λ{σ7 H7} I7 n7=>by
   obtain⟨m',hm,w7⟩:=hN σ7 H7 n7;refine⟨m',hm,i+1,σ7,H7,I7.unpinned,T.keep _ _ _ st5 λb hb o e=>(I7.pin (b,o) (Be0 _ (Be0 _ (zs3 hb e)))).1,λb hb=>?_,w7⟩;obtain⟨o,e,d⟩:=T.obj _ _ st5 b hb;exact(I7.pin (b,o) (Be0 _ (Be0 _ (zs3 hb e)))).2.1
  cases f with
  | next=>obtain⟨σ7,H7,I7,n7⟩:=q7;exact again I7 n7
  | cont=>obtain⟨σ7,H7,I7,n7⟩:=q7;exact again I7 n7
  | brk=>obtain⟨σ7,H7,I7,q7⟩:=q7;exact⟨σ7,H7,I7.unpinned,q7⟩
  | ret v=>obtain⟨x7,σ7,H7,I7,r7,q7⟩:=q7;exact⟨x7,σ7,H7,I7.unpinned,r7,q7⟩
end
noncomputable abbrev R2:=V->V->Hp->VK->Prop
noncomputable def OpR(X:Cx)(f:Value->Value->Sem Value)(r:R2):Prop:=
 ∀(A3:List (Addr×Obj)) (s:Shared) (σ:St) (H:Hp) (x y:V) (v u:Value) (Q:VK),Inv X A3 σ H s->wr3 x v->wr3 y u->r x y H Q->
  wpAny (model X.prog X.w) X.A (f v u) (EP X A3 σ Q) X.xe s
noncomputable def UnR(X:Cx)(f:Value->Sem Value)(r:V->Hp->VK->Prop):Prop:=
 ∀(A3:List (Addr×Obj)) (s:Shared) (σ:St) (H:Hp) (x:V) (v:Value) (Q:VK),Inv X A3 σ H s->wr3 x v->r x H Q->
  wpAny (model X.prog X.w) X.A (f v) (EP X A3 σ Q) X.xe s
noncomputable def wu0(X:Cx)(f:Value)(r:List V->Hp->VK->Prop):Prop:=
 ∀(A3:List (Addr×Obj)) (s:Shared) (σ:St) (H:Hp) (xs:List V) (us:List Value) (Q:VK),Inv X A3 σ H s->wr4 xs us->r xs H Q->
  wpAny (model X.prog X.w) X.A (call f us) (EP X A3 σ Q) X.xe s
noncomputable def tOp(r:R2)(ta tb:TE):TE:=λσ H Q=>ta σ H λx H1=>tb σ H1 λy H2=>r x y H2 Q
noncomputable def tUn(r:V->Hp->VK->Prop)(ta:TE):TE:=λσ H Q=>ta σ H λx H1=>r x H1 Q
noncomputable def rI(C:Int->Int->Prop)(g:Int->Int->V):R2:=λx y H Q=>∃i j,x=.int i/\y=.int j/\C i j/\Q (g i j) H
noncomputable def rI0(g:Int->Int->V):R2:=λx y H Q=>∃i j,x=.int i/\y=.int j/\Q (g i j) H
noncomputable def rU(g:Int->V):V->Hp->VK->Prop:=λx H Q=>∃i,x=.int i/\Q (g i) H
section
variable{X:Cx}{a b c:Expr}{ta tb tc:TE}{pos:Pos}
def vt4(ha:PE X a ta)(hb:PE X b tb){A3:List (Addr×Obj)}{s:Shared}{σ:St}{H:Hp}{R:V->V->Hp->Prop}(I:Inv X A3 σ H s)(h:ta σ H λx H1=>tb σ H1 λy H2=>R x y H2){Q:Value->Shared->Prop}{f:Value->Value->Sem Value}(hf:∀v u s2 x y H2,Inv X A3 σ H2 s2->wr3 x v->wr3 y u->R x y H2->wpAny (model X.prog X.w) X.A (f v u) Q X.xe s2) :
 wpAny (model X.prog X.w) X.A (eval a X.env) (λv s₁=>wpAny (model X.prog X.w) X.A (eval b X.env) (λu s₂=>wpAny (model X.prog X.w) X.A (f v u) Q X.xe s₂) X.xe s₁) X.xe s:=by
 refine thn (ha A3 s σ H _ I h) λv s1 hI73=>?_
 obtain⟨x,H1,I1,r1,q1⟩:=hI73;refine thn (hb A3 s1 σ H1 _ I1 q1) λu s2 hI74=>?_
 obtain⟨y,H2,I2,r2,q2⟩:=hI74;exact hf v u s2 x y H2 I2 r1 r2 q2
def wt5{op:Operator}{r:R2}(ho:OpR X (binaryOp op) r)(ha:PE X a ta)(hb:PE X b tb):PE X (.BinOp a op b pos) (tOp r ta tb):=by
 intro A3 s σ H Q I h;exact wpAny_BinOp (vt4 ha hb I h λv u s2 x y H2 I2 rx ry q=>ho A3 s2 σ H2 x y v u Q I2 rx ry q)
def vq1{op:UnaryOp}{r:V->Hp->VK->Prop}(ho:UnR X (unaryOp op) r)(ha:PE X a ta):PE X (.UnaryOp op a pos) (tUn r ta):=by
 intro A3 s σ H Q I h;exact UnaryOp_ (thn (ha A3 s σ H _ I h) λv s1 ⟨x,H1,I1,r1,q1⟩=>ho A3 s1 σ H1 x v Q I1 r1 q1)
def opI{f:Value->Value->Sem Value}{C:Int->Int->Prop}{g:Int->Int->Int}(rule:∀(i j:Int) (t u:Tok) (s:Shared) (Q:Value->Shared->Prop) (E:Value->Shared->Prop),C i j->Q (.int (g i j) s.toks) { s with toks:=s.toks+1 }->wpAny (model X.prog X.w) X.A (f (.int i t) (.int j u)) Q E s) :
 OpR X f (rI C λi j=>.int (g i j)):=by
 intro A3 s σ H x y v u Q I rx ry h;obtain⟨i,j,rfl,rfl,hc,q⟩:=h;obtain⟨t,rfl⟩:=rx;obtain⟨t',rfl⟩:=ry;exact rule i j t t' s _ _ hc ⟨.int (g i j),H,I.tok _,⟨_,rfl⟩,q⟩
def vv1{f:Value->Value->Sem Value}{g:Int->Int->Int}(rule:∀(i j:Int) (t u:Tok) (s:Shared) (Q:Value->Shared->Prop) (E:Value->Shared->Prop),Q (.int (g i j) s.toks) { s with toks:=s.toks+1 }->wpAny (model X.prog X.w) X.A (f (.int i t) (.int j u)) Q E s) :
 OpR X f (rI0 λi j=>.int (g i j)):=by
 intro A3 s σ H x y v u Q I rx ry h;obtain⟨i,j,rfl,rfl,q⟩:=h;obtain⟨t,rfl⟩:=rx;obtain⟨t',rfl⟩:=ry;exact rule i j t t' s _ _ ⟨.int (g i j),H,I.tok _,⟨_,rfl⟩,q⟩
def vm8{f:Value->Value->Sem Value}{g:Int->Int->Bool}(rule:∀(i j:Int) (t u:Tok) (s:Shared) (Q:Value->Shared->Prop) (E:Value->Shared->Prop),Q (.bool (g i j)) s->wpAny (model X.prog X.w) X.A (f (.int i t) (.int j u)) Q E s) :
 OpR X f (rI0 λi j=>.bl (g i j)):=by
 intro A3 s σ H x y v u Q I rx ry h;obtain⟨i,j,rfl,rfl,q⟩:=h;obtain⟨t,rfl⟩:=rx;obtain⟨t',rfl⟩:=ry;exact rule i j t t' s _ _ ⟨.bl (g i j),H,I,rfl,q⟩
noncomputable def vn6(i j:Int):Prop:=0<j/\j<1073741824
noncomputable def vm1(i j:Int):Prop:=j≠0/\j.natAbs<1073741824
noncomputable def vn5(i j:Int):Prop:=0<=j/\j<=1000000/\i.natAbs<2 ^ 64
noncomputable def va9(i j:Int):Prop:=(-(2 ^ 64)<i/\i<2 ^ 64)\/(-(2 ^ 64)<j/\j<2 ^ 64)
def va9.ok{i j:Int}(h:va9 i j):IntMulOk i j:=by
 rcases h with⟨h1,h2⟩ | ⟨h1,h2⟩
 ·exact .of_left (intBits_le_64 h1 h2)
 ·exact .of_right (intBits_le_64 h1 h2)
def yn5:OpR X (binaryOp .Add) (rI0 λi j=>.int (i+j)):=vv1 λ_ _ _ _ _ _ _ q=>add_int q
def zq5:OpR X (binaryOp .Sub) (rI0 λi j=>.int (i-j)):=vv1 λ_ _ _ _ _ _ _ q=>sub_int q
def yc6:OpR X (binaryOp .Mult) (rI va9 λi j=>.int (i*j)):=opI λ_ _ _ _ _ _ _ hc q=>mul_int q hc.ok
def wd8:OpR X (binaryOp .FloorDiv) (rI vn6 λi j=>.int (i / j)):=opI λi j _ _ _ _ _ hc q=>by
 have h1:(0:Int)<j:=hc.1;have h2:j<1073741824:=hc.2;exact floordiv_int (by omega) (by rw[Int.fdiv_eq_ediv_of_nonneg i (by omega)];exact q) (.inl (PyProof.noPylong_small (by omega)))
def zv1:OpR X (binaryOp .Mod) (rI (λ_ j=>0<j) λi j=>.int (i % j)):=opI λi j _ _ _ _ _ hc q=>by
 have h1:(0:Int)<j:=hc;exact mod_int' (by omega) (by rw[Int.fmod_eq_emod_of_nonneg i (by omega)];exact q)
def xx8:OpR X (binaryOp .Pow) (rI vn5 λi j=>.int (i ^ j.toNat)):=opI λ_ _ _ _ _ _ _ hc q=>pow_int_small hc.1 hc.2.1 hc.2.2 q
def unI{f:Value->Sem Value}{g:Int->Int}(rule:∀(i:Int) (t:Tok) (s:Shared) (Q:Value->Shared->Prop) (E:Value->Shared->Prop),Q (.int (g i) s.toks) { s with toks:=s.toks+1 }->wpAny (model X.prog X.w) X.A (f (.int i t)) Q E s) :
 UnR X f (rU λi=>.int (g i)):=by
 intro A3 s σ H x v Q I rx h;obtain⟨i,rfl,q⟩:=h;obtain⟨t,rfl⟩:=rx;exact rule i t s _ _ ⟨.int (g i),H,I.tok _,⟨_,rfl⟩,q⟩
def wj2:UnR X (unaryOp .USub) (rU λi=>.int (-i)):=unI λ_ _ _ _ _ q=>neg_int q
def xz0{k k':Bool}(I:Inv X A3 σ H s)(q:Q (.bl k) H)(e:k=k'):EP X A3 σ Q (.bool k') s:=by
 subst e;exact⟨.bl k,H,I,rfl,q⟩
def wy9:OpR X (compareOp .Lt) (rI0 λi j=>.bl (decide (i<j))):=vm8 λ_ _ _ _ _ _ _ q=>lt_int q
def va2:OpR X (compareOp .LtE) (rI0 λi j=>.bl (decide (i<=j))):=vm8 λ_ _ _ _ _ _ _ q=>le_int q
def vk7:OpR X (compareOp .Gt) (rI0 λi j=>.bl (decide (j<i))):=vm8 λ_ _ _ _ _ _ _ q=>gt_int q
def vq4:OpR X (compareOp .GtE) (rI0 λi j=>.bl (decide (j<=i))):=vm8 λ_ _ _ _ _ _ _ q=>ge_int q
def xx9:OpR X (compareOp .Is) (λx y H Q=>y=.non/\Q (.bl (decide (x=.non))) H):=by
 intro A3 s σ H x y v u Q I rx ry h;obtain⟨rfl,q⟩:=h;cases ry;refine is_none_gen (xz0 I q ?_);cases x<;>first
  | (cases rx;rfl)
  | (obtain⟨t,rfl⟩:=rx;rfl)
def wd7:OpR X (compareOp .IsNot) (λx y H Q=>y=.non/\Q (.bl (!decide (x=.non))) H):=by
 intro A3 s σ H x y v u Q I rx ry h;obtain⟨rfl,q⟩:=h;cases ry;refine isnot_none_gen (xz0 I q ?_);cases x<;>first
  | (cases rx;rfl)
  | (obtain⟨t,rfl⟩:=rx;rfl)
def OpR.or(h:OpR X f r)(h':OpR X f r'):OpR X f (λx y H Q=>r x y H Q\/r' x y H Q):=by
 intro A3 s σ H x y v u Q I rx ry q;rcases q with q | q
 ·exact h A3 s σ H x y v u Q I rx ry q
 ·exact h' A3 s σ H x y v u Q I rx ry q
def xy2(b:Expr)(h:op≠.In:=by decide)(h2:op≠.NotIn:=by decide):behindInMarks op b=false:=by
 have e1:(op == CmpOp.In)=false:=by cases op<;>first | rfl | exact absurd rfl h
 have e2:(op == CmpOp.NotIn)=false:=by cases op<;>first | rfl | exact absurd rfl h2
 cases b<;>simp[behindInMarks,e1,e2]
def wd5(ho:OpR X (compareOp op) r)(ha:PE X a ta)(hb:PE X b tb)(hm:behindInMarks op b=false):PE X (.Compare a [op] [b] pos) (tOp r ta tb):=by
 intro A3 s σ H Q I h;exact wpAny_Compare1 (vt4 ha hb I h λv u s2 x y H2 I2 rx ry q=>ho A3 s2 σ H2 x y v u Q I2 rx ry q) hm
noncomputable def vo1(t:TE):TT:=λσ H Q=>t σ H λx H'=>∃k,x=.bl k/\Q k H'
def ys0{op:CmpOp}{r:R2}(ho:OpR X (compareOp op) r)(ha:PE X a ta)(hb:PE X b tb)(hm:behindInMarks op b=false):PT X (.Compare a [op] [b] pos) (vo1 (tOp r ta tb)):=by
 intro A3 s σ H Q I h;refine wpAny_isTrue_Compare1 (thn (ha A3 s σ H _ I h) λv s1 ⟨x,H1,I1,r1,q1⟩=>thn (hb A3 s1 σ H1 _ I1 q1) λu s2 ⟨y,H2,I2,r2,q2⟩=>thn (ho A3 s2 σ H2 x y v u _ I2 r1 r2 q2) λc s3 hI75=>?_) hm;obtain⟨z,H3,I3,r3,k,e,q3⟩:=hI75;subst e;cases r3;exact Ai1 ⟨H3,I3,q3⟩
noncomputable def xw8(r r':R2)(ta tb tc:TE):TE:=λσ H Q=>ta σ H λx H1=>tb σ H1 λy H2=>r x y H2 λz H3=>∃k,z=.bl k/\
 (if k=true then tc σ H3 λw' H4=>r' y w' H4 Q else Q (.bl false) H3)
theorem xs8{op op':CmpOp}{r r':R2}(ho:OpR X (compareOp op) r)(ho':OpR X (compareOp op') r')(ha:PE X a ta)(hb:PE X b tb)(hc:PE X c tc)(hm:lastMarks [op,op'] [b,c]=false:=by with_unfolding_all rfl):PE X (.Compare a [op,op'] [b,c] pos) (xw8 r r' ta tb tc):=by
 intro A3 s σ H Q I h;refine Compare_chain (thn (ha A3 s σ H _ I h) λv s1 ⟨x,H1,I1,r1,q1⟩=>chain_link (thn (hb A3 s1 σ H1 _ I1 q1) λu s2 ⟨y,H2,I2,r2,q2⟩=>thn (ho A3 s2 σ H2 x y v u _ I2 r1 r2 q2) λd s3 hI76=>?_)) hm;obtain⟨z,H3,I3,r3,k,e,q3⟩:=hI76;subst e;cases r3;refine Ai1 ?_;cases k with
 | false=>exact ite_ff ⟨.bl false,H3,I3,rfl,q3⟩
 | true=>exact ite_tt (chain_last (thn (hc A3 s3 σ H3 _ I3 q3) λw' s4 ⟨z',H4,I4,r4,q4⟩=>ho' A3 s4 σ H4 y z' u w' Q I4 r2 r4 q4))
def yo1:(sizeLine:Nat)<2 ^ 63:=by rw[sizeLine_eq];decide
theorem wv6(r:wr4 [x] us):∃u,us=[u]/\wr3 x u:=by
 cases r with
 | cons r1 r2=>cases r2;exact⟨_,rfl,r1⟩
theorem vd6(r:wr4 [x,y] us):∃u w',us=[u,w']/\wr3 x u/\wr3 y w':=by
 cases r with
 | cons r1 r2=>
   cases r2 with
   | cons r3 r4=>cases r4;exact⟨_,_,rfl,r1,r3⟩
def zn8(hc:X.calm=true):wu0 X (.builtin "min") (λxs H Q=>∃i j,xs=[.int i,.int j]/\Q (.int (if j<i then j else i)) H):=by
 intro A3 s σ H xs us Q I r h;obtain⟨i,j,rfl,q⟩:=h;obtain⟨u,w',rfl,⟨t,rfl⟩,⟨t',rfl⟩⟩:=vd6 r;refine min_two_ints (I.ok.hd hc) λh' tk k=>⟨_,H,I.kept k,?_,q⟩
 by_cases hj:j<i
 ·rw[if_pos hj,if_pos hj];exact⟨_,rfl⟩
 ·rw[if_neg hj,if_neg hj];exact⟨_,rfl⟩
def yf0:wu0 X (.type "int") (λxs H Q=>(∃i,xs=[.int i]/\Q (.int i) H)\/∃k,xs=[.bl k]/\Q (.int (if k then 1 else 0)) H):=by
 intro A3 s σ H xs us Q I r h;rcases h with⟨i,rfl,q⟩ | ⟨k,rfl,q⟩
 ·obtain⟨u,rfl,t,rfl⟩:=wv6 r
  exact call_int_int ⟨.int i,H,I,⟨_,rfl⟩,q⟩
 ·obtain⟨u,rfl,r1⟩:=wv6 r
  cases r1;exact call_int_bool ⟨.int (if k then 1 else 0),H,I.tok _,⟨_,rfl⟩,q⟩
def yu1:wu0 X (.builtin "divmod") (λxs H Q=>∃i j,xs=[.int i,.int j]/\vn6 i j/\∀p,H p=none->Q (.ref p) (upd H p (.tup [.int (i / j),.int (i % j)]))):=by
 intro A3 s σ H xs us Q I r h;obtain⟨i,j,rfl,⟨h1,h2⟩,q⟩:=h;obtain⟨u,w',rfl,⟨t,rfl⟩,⟨t',rfl⟩⟩:=vd6 r;refine divmod_int (by omega) ?_ (.inl (PyProof.noPylong_small (by omega)));rw[Int.fdiv_eq_ediv_of_nonneg i (by omega),Int.fmod_eq_emod_of_nonneg i (by omega)];have hn:H s.heap.objs.size=none:=I.hok.fresh (Ad0 _);refine⟨.ref s.heap.objs.size,_,?_,rfl,q _ hn⟩;refine I.laid (λb o e=>Ab0 _ e) (Ad0 _) ⟨by simp only[Ar0,Ch0];rw[sizeLine_eq];decide,[.int (i / j) s.toks,.int (i % j) (s.toks+1)],.cons ⟨_,rfl⟩ (.cons ⟨_,rfl⟩ .nil),?_⟩;exact⟨⟨_,Af0 s.heap rfl,rfl,0,rfl⟩,⟨_,Af0 _ rfl,rfl⟩⟩
end
structure vu0(h:Heap)(x dx C:Addr)(mA:Str->Option Value):Prop where
 obj:h.get? x=some (PySem.W.instObj C dx)
 ns:h.Ns1 dx mA
 ne:dx≠x
open H in
def xk2{h:Heap}{dx:Addr}{mA:Str->Option Value}(n:h.Ns1 dx mA):∃od,h.get? dx=some od/\∀name,PySem.W.lookIn name od=some (mA name):=by
 obtain⟨o,es,ep,ho,hd,hk,_,hm⟩:=n;refine⟨o,ho,λname=>?_⟩;have e:=hm name;unfold nsFind findBy at e;rw[<-Array.find?_toList] at e;unfold PySem.W.lookIn;rw[hd];dsimp only;split
 ·rename_i y q
  rw[q] at e;exact congrArg some e
 ·rename_i q
  rw[q] at e;have a:es.toList.any (·.refKey)=false:=by
   rw[List.any_eq_false];intro y hy;obtain⟨z,t,hkey⟩:=hk y (Array.mem_toList_iff.mp hy);simp[DictEntry.refKey,hkey]
  have a':¬es.toList.any (·.refKey)=true:=by rw[a];exact At0
  rw[if_neg a'];exact congrArg some e
def vu0.look(I:vu0 h x dx C mA):∃od,PySem.W.InstAt h x (PySem.W.instObj C dx) C (some od)/\∀name,PySem.W.lookIn name od=some (mA name):=
 let ⟨od,ho,hl⟩:=xk2 I.ns
 ⟨od,⟨I.obj,rfl,rfl,ho⟩,hl⟩
section
variable{prog:Program}{w:World}{A:Around}{E:Value->Shared->Prop}{s:Shared}{K:PySem.W.Frag}{x dx C f:Addr}{mA:Str->Option Value}{name:Str}{v:Value}
end
theorem va8.some_of(r:va8 (some v) o):∃u,o=some u/\wr3 v u:=by
 cases o with
 | none=>exact(show False from r).elim
 | some u=>exact⟨u,rfl,r⟩
section
variable{P:Program}{w:World}{H H':Hp}{h h':Heap}{a C dx:Addr}{fs fs':List (Str×V)}
def wg1(hok:HOk P w H h)(e:H a=some (.ins C dx fs)):∃mA,vu0 h a dx C mA/\(∀f,va8 (fs.lookup f) (mA f))/\PySem.Within mA (fs.map (·.1))/\fs.length<=1000/\H dx=some (.own a):=by
 obtain⟨d,z,ne,ob,mA,n,r,q⟩:=(show ws2 P w H h a (.ins C dx fs) from hok a _ e);exact⟨mA,⟨ob,n,ne⟩,r,q,z,d⟩
end
structure Cls(K:PySem.W.Frag)(C:Addr):Prop where
 pg:PySem.W.plainGet K C Str.empty=true
 hd:PySem.W.hasDictIn K C=true
 po:PySem.W.plainOver K C=true
 sa:PySem.W.findIn K (.ref C) "__setattr__" = some (some (.builtin "object.__setattr__"))
def Cls.get{K:PySem.W.Frag}{C:Addr}(c:Cls K C)(f:Str):PySem.W.plainGet K C f=true:=c.pg
section
variable{X:Cx}{A3:List (Addr×Obj)}{σ:St}{H:Hp}{s:Shared}{a C dx:Addr}{fs:List (Str×V)}{f:Str}{v:V}{A:Around}{E:Value->Shared->Prop}{o e value:Expr}{pos pos' tpos:Pos}{ta tv:TE}{Q:Value->Shared->Prop}{c:Value}{b:Bool}
inductive vb3(K:PySem.W.Frag)(H:Hp):V->Value->Prop where
 | non:vb3 K H .non (.type "NoneType")
 | bl (x:Bool):vb3 K H (.bl x) (.type "bool")
 | int (i:Int):vb3 K H (.int i) (.type "int")
 | str (x:Str):vb3 K H (.str x) (.type "str")
 | flt (x:UInt64):vb3 K H (.flt x) (.type "float")
 | lst {a:Addr} {xs:List V} (e:H a=some (.lst xs)):vb3 K H (.ref a) (.type "list")
 | frz {a:Addr} {o:Obj} {xs:List V} (e:H a=some (.frz o (.lst xs))):vb3 K H (.ref a) (.type "list")
 | tup {a:Addr} {xs:List V} (e:H a=some (.tup xs)):vb3 K H (.ref a) (.type "tuple")
 | dK {a:Addr} {kvs:List (Key×V)} (e:H a=some (.dK kvs)):vb3 K H (.ref a) (.type "dict")
 | dT {a:Addr} {kvs:List (List Key×V)} (e:H a=some (.dT kvs)):vb3 K H (.ref a) (.type "dict")
 | ins {a C dx:Addr} {fs:List (Str×V)} (e:H a=some (.ins C dx fs)) (cl:Cls K C) (ha:PySem.W.findIn K (.ref C) "__class__" = some (some (.builtin "object.__class__")))
  (hn:PySem.W.specialIn K (.builtin "object.__class__") "__get__" = some (some (.builtin "getset_descriptor.__get__"))) (htk:PySem.W.takesIn K (.builtin "object.__class__")=some true)
  (hm:PySem.W.mroIn K C (.type "object")=some true):vb3 K H (.ref a) (.ref C)
theorem zj8(I:Inv X A3 σ H s)(rx:wr3 x u)(ty:vb3 X.K H x t)(e:PySem.W.kitOne X.K t c=some b)(h:∀tk,Q (.bool b) { s with toks:=tk }) :
 wpAny (model X.prog X.w) A (call (.builtin "isinstance") [u,c]) Q E s:=by
 cases ty with
 | non=>cases (show u=Value.none from rx);exact PySem.W.kia_one PySem.W.kitx_none I.kIn True.intro e (λz=>nomatch z) h
 | bl y=>cases (show u=Value.bool y from rx);exact PySem.W.kia_one PySem.W.kitx_bool I.kIn True.intro e (λz=>nomatch z) h
 | int i=>obtain⟨t,q⟩:=(show ∃t,u=Value.int i t from rx);cases q;exact PySem.W.kia_one PySem.W.kitx_int I.kIn True.intro e (λz=>nomatch z) h
 | str y=>obtain⟨t,q⟩:=(show ∃t,u=Value.str y t from rx);cases q;exact PySem.W.kia_one PySem.W.kitx_str I.kIn True.intro e (λz=>nomatch z) h
 | flt y=>obtain⟨t,q⟩:=(show ∃t,u=Value.float y t from rx);cases q;exact PySem.W.kia_one PySem.W.kitx_float I.kIn True.intro e (λz=>nomatch z) h
 | @lst a xs ea=>
   cases (show u=Value.ref a from rx);obtain⟨_,_,n,_,h1⟩:=(show ws2 X.prog X.w H s.heap a (.lst xs) from I.hok a _ ea);exact PySem.W.kia_one PySem.W.kitx_list I.kIn ⟨_,h1,rfl⟩ e (λz=>nomatch z) h
 | @frz a ob xs ea=>
   cases (show u=Value.ref a from rx);obtain⟨_,_,_,n,_,h1⟩:=(show ws2 X.prog X.w H s.heap a (.frz ob (.lst xs)) from I.hok a _ ea);exact PySem.W.kia_one PySem.W.kitx_list I.kIn ⟨_,h1,rfl⟩ e (λz=>nomatch z) h
 | @tup a xs ea=>
   cases (show u=Value.ref a from rx);obtain⟨_,_,_,p,_⟩:=(show ws2 X.prog X.w H s.heap a (.tup xs) from I.hok a _ ea);obtain⟨o,h1,h2,_⟩:=p;exact PySem.W.kia_one PySem.W.kitx_tuple I.kIn ⟨o,h1,h2⟩ e (λz=>nomatch z) h
 | @dK a kvs ea=>
   cases (show u=Value.ref a from rx);obtain⟨_,_,vs,_,p⟩:=(show ws2 X.prog X.w H s.heap a (.dK kvs) from I.hok a _ ea);obtain⟨o,es,ep,h1,h2,_⟩:=p;exact PySem.W.kia_one PySem.W.kitx_dict I.kIn ⟨o,h1,h2.1⟩ e (λz=>nomatch z) h
 | @dT a kvs ea=>
   cases (show u=Value.ref a from rx);obtain⟨_,_,xs,_,o,es,ep,h1,h2,_⟩:=(show ws2 X.prog X.w H s.heap a (.dT kvs) from I.hok a _ ea);exact PySem.W.kia_one PySem.W.kitx_dict I.kIn ⟨o,h1,h2.1⟩ e (λz=>nomatch z) h
 | @ins a C dx fs ea cl ha hn htk hm=>
   cases (show u=Value.ref a from rx);obtain⟨mA,O,_⟩:=wg1 I.hok ea;obtain⟨od,J,_⟩:=O.look;exact PySem.W.kia_one (PySem.W.kitx_own (cl.get _) cl.hd ha hn htk hm) I.kIn J e (λz=>nomatch z) h
end
structure ws5(k:Nat)(A:Around):Prop where
 hd:A.handled=none
 dp:A.depth+3*k+5<recursionLimit
 un:A.units+16*k+200<cLine
 gd:A.guards=some []
def ws5.mono{j k:Nat}(r:ws5 k A)(h:j<=k):ws5 j A:=⟨r.hd,by have:=r.dp;omega,by have:=r.un;omega,r.gd⟩
def ws5.deeper{k:Nat}(r:ws5 (k+1) A)(env:Env):ws5 k (A.deeper env):=
 ⟨r.hd,by have:=r.dp;show A.depth+1+3*k+5<_;omega,by have:=r.un;show A.units+3+16*k+200<_;omega,r.gd⟩
def ws5.depth{k:Nat}(r:ws5 k A):A.depth<recursionLimit:=by have:=r.dp;omega
def ws5.units{k:Nat}(r:ws5 k A):A.units+64<cLine:=by have:=r.un;omega
noncomputable def vu3:TA:=λ_ H Q=>Q [] H
noncomputable def vd7(ta:TE)(tr:TA):TA:=λσ H Q=>ta σ H λx H1=>tr σ H1 λxs H2=>Q (x::xs) H2
section
variable{X:Cx}{e:Expr}{es:List Expr}{te:TE}{t:TA}{pos:Pos}
def zp2:PA X [] vu3:=λ_ _ _ _ H Q I h=>Calls.spliced_nil ⟨[],H,I,.nil,h⟩
def zi2(ha:PE X e te)(hr:PA X es t)(hs:starEach (e::es) X.env=(false,eval e X.env)::starEach es X.env:=by rfl):PA X (e::es) (vd7 te t):=by
 intro pos A3 s σ H Q I h;rw[hs];show wpAny _ _ (spliced ((false,eval e X.env)::backTo pos (starEach es X.env))) _ _ s;refine Calls.spliced_cons (thn (ha A3 s σ H _ I h) λu s1 hI77=>?_);obtain⟨x,H1,I1,r1,q1⟩:=hI77;exact thn (hr pos A3 s1 σ H1 _ I1 q1) λus s2 ⟨xs,H2,I2,r2,q2⟩=>⟨x::xs,H2,I2,.cons r1 r2,q2⟩
noncomputable def vx1(t:TA):TE:=λσ H Q=>t σ H λxs H1=>xs.length<=sizeLine/\∀p,H1 p=none->Q (.ref p) (upd H1 p (.tup xs))
noncomputable def vx7(t:TA):TE:=λσ H Q=>t σ H λxs H1=>xs.length<=sizeLine/\∀p,H1 p=none->Q (.ref p) (upd H1 p (.lst xs))
def xx6{x1}(h:PA X es t):PE X (.Tuple es x1 pos) (vx1 t):=by
 intro A3 s σ H Q I hq;refine wpAny_Tuple_spliced (thn (h pos A3 s σ H _ I hq) λus s1 ⟨xs,H1,I1,r,z,q⟩=>⟨by rw[<-r.length];exact z,?_⟩);have hf:H1 s1.heap.objs.size=none:=I1.hok.fresh (Ad0 _);refine⟨.ref s1.heap.objs.size,upd H1 s1.heap.objs.size (.tup xs),I1.laid (t':=s1.toks) (λb u e=>Ab0 _ e) (Ad0 _) ?_,rfl,q _ hf⟩;exact⟨z,us,r,⟨_,Af0 _ rfl,rfl,_,rfl⟩,⟨_,Af0 _ rfl,rfl⟩⟩
def xi2(h:PA X es t):PE X (.List es pos) (vx7 t):=by
 intro A3 s σ H Q I hq;refine wpAny_List_spliced (thn (h pos A3 s σ H _ I hq) λus s1 ⟨xs,H1,I1,r,z,q⟩=>⟨by rw[<-r.length];exact z,?_⟩);have hf:H1 s1.heap.objs.size=none:=I1.hok.fresh (Ad0 _);refine⟨.ref s1.heap.objs.size,upd H1 s1.heap.objs.size (.lst xs),I1.laid (t':=s1.toks) (λb u e=>Ab0 _ e) (Ad0 _) ?_,rfl,q _ hf⟩;exact⟨z,us,0,r,Af0 _ rfl⟩
end
noncomputable abbrev Sp:=List V->Hp->VK->XK->Prop
noncomputable abbrev CXT:=List Env->Hp->Shared->XK->Value->Shared->Prop
structure vn4(P:Program)(w:World)(K:PySem.W.Frag)(mg:Str->Option Value)(base:Heap)(A:Around)(outer:List Env)(s:Shared)(H:Hp):Prop where
 frames:A.frames=some outer
 mod:Mod K mg base
 bs:∀b o,base.get? b=some o->s.heap.get? b=some o/\H b=none
 bsz:base.objs.size<=s.heap.objs.size
 funs:s.heap.FunFrames base outer
 frf:∀b∈frs outer,H b=none
 hok:HOk P w H s.heap
 bare:AllBare s.gens
noncomputable def CE(outer:List Env)(P:Program)(w:World)(H:Hp)(s:Shared)(Q:VK)(u:Value)(s':Shared):Prop:=
 ∃v H',s'.os=s.os/\AllBare s'.gens/\Un (frs outer) [] H H' s.heap s'.heap/\HOk P w H' s'.heap/\wr3 v u/\Q v H'
noncomputable def CR(CX:CXT)(outer:List Env)(P:Program)(w:World)(H:Hp)(s:Shared)(Q:VK)(E:XK)(r:Result)(s':Shared):Prop:=
 match r with
 | .ok (.ret u)=>CE outer P w H s Q u s'
 | .ok _=>False
 | .error e=>CX outer H s E e s'
structure wy0(P:Program)(w:World)(K:PySem.W.Frag)(mg:Str->Option Value)(base:Heap)(CX:CXT)(k:Nat)(f:Addr)(fd:FuncData)(ps:List Str)(sp:Sp):Prop where
 len:∀vs H Q E,sp vs H Q E->vs.length=ps.length
 run:∀(A:Around) (outer:List Env) (s:Shared) (H:Hp) (args:Args) (us:List Value) (vs:List V) (Q:VK) (E:XK),ws5 k A->vn4 P w K mg base A outer s H->BindsTo s fd args (ps.zip us)->wr4 vs us->sp vs H Q E->
  codeAny (model P w) A (.call (.ref f) args) (CR CX outer P w H s Q E) s
def wy0.mono{P:Program}{w:World}{K:PySem.W.Frag}{mg:Str->Option Value}{base:Heap}{CX:CXT}{j k:Nat}{f:Addr}{fd:FuncData}{ps:List Str}{sp:Sp}(F:wy0 P w K mg base CX j f fd ps sp)(h:j<=k) :
 wy0 P w K mg base CX k f fd ps sp:=⟨F.len,λA outer s H args us vs Q E hr=>F.run A outer s H args us vs Q E (hr.mono h)⟩
section
variable{X:Cx}{A3:List (Addr×Obj)}{σ:St}{H:Hp}{s s':Shared}
def Inv.env0(I:Inv X A3 σ H s):vn4 X.prog X.w X.K X.mg X.base X.A X.stack s H:=
 ⟨I.ok.frames,I.ok.mod,I.bs,Ba0 I.ok.bsz I.sz,I.stack,I.stkFree,I.hok,I.bare⟩
def Inv.after(I:Inv X A3 σ H s)(h:CE X.stack X.prog X.w H s Q u s'):EP X A3 σ Q u s':=by
 obtain⟨v,H',os,bare,un,hok,r,q⟩:=h;obtain⟨hh,g,d,t,os'⟩:=s';obtain rfl:os'=s.os:=os;exact⟨v,H',I.call (h':=hh) (g':=g) (d':=d) (t':=t) (ch:=[]) un hok bare (λb z=>absurd z (by simp)),r,q⟩
end
noncomputable def vf9(sp:Sp)(dvs:List V)(E:XK)(t:TA):TE:=λσ H Q=>t σ H λvs H1=>sp (vs++dvs) H1 Q E
noncomputable def vb0(K:PySem.W.Frag)(fd:FuncData)(ps:List Str)(ds:List Value):Prop:=
 ∀(s:Shared) (us:List Value),K.In s.heap->(us++ds).length=ps.length->BindsTo s fd ⟨us,[]⟩ (ps.zip (us++ds))
def vb0.all{K:PySem.W.Frag}{fd:FuncData}{ps:List Str}(h:∀us:List Value,us.length=ps.length->bindArgs fd ⟨us,[]⟩=pure (ps.zip us)):vb0 K fd ps []:=λs us _ hl=>by
 rw[Bq0] at hl ⊢;exact .of_eq (h us hl)
noncomputable def xp6(CX:CXT)(X:Cx)(E:XK):Prop:=∀(A3:List (Addr×Obj)) (σ:St) (H:Hp) (s:Shared) (e:Value) (s':Shared),Inv X A3 σ H s->CX X.stack H s E e s'->X.xe e s'
section
variable{X:Cx}{CX:CXT}{k:Nat}{f C:Addr}{fd:FuncData}{ps:List Str}{sp:Sp}{dvs:List V}{ds:List Value}{E:XK}{x m:Str}{p pos apos:Pos}{e o:Expr}{es:List Expr}{ta:TE}{t:TA}{ks:List Str}{kpos:Pos}{kws:List Keyword}{te:TE}{tk:TA}{nm:Option Str}{g:List Value->List Value->List Value}{gV:List V->List V->List V}
open H in
theorem wk0{A3:List (Addr×Obj)}{σ:St}{H:Hp}{s:Shared}{Q:VK}{us:List Value}{vs:List V}(F:wy0 X.prog X.w X.K X.mg X.base CX k f fd ps sp)(hr:ws5 k X.A)(hb:vb0 X.K fd ps ds)(hd:wr4 dvs ds)(hx:xp6 CX X E)(I:Inv X A3 σ H s)(r:wr4 vs us)(h:sp (vs++dvs) H Q E):wpAny (model X.prog X.w) X.A (call (.ref f) us) (EP X A3 σ Q) X.xe s:=by
 have r2:wr4 (vs++dvs) (us++ds):=r.append hd;have hl:(us++ds).length=ps.length:=by rw[<-r2.length];exact F.len _ _ _ _ h
 refine wpAny_call (codeAny_mono (F.run X.A X.stack s H ⟨us,[]⟩ (us++ds) (vs++dvs) Q E hr I.env0 (hb s us I.kIn hl) r2 h) λr s' hq=>?_);cases r with
 | error e=>exact hx A3 σ H s e s' I hq
 | ok fl=>
   cases fl with
   | ret u=>exact I.after hq
   | next=>exact False.elim hq
   | brk=>exact False.elim hq
   | cont=>exact False.elim hq
def ys5(F:wy0 X.prog X.w X.K X.mg X.base CX k f fd ps sp)(hr:ws5 k X.A)(hg:Gl X x)(hm:X.mg x=some (.ref f))(hk:keepIn X.K (.ref f)=true)(hb:vb0 X.K fd ps ds)(hd:wr4 dvs ds)(hx:xp6 CX X E)(ha:PA X (e::es) t)(hdb:(x == ("__debug__" : Str))=false:=by decide)(he:starEach (e::es) X.env=(false,eval e X.env)::starEach es X.env:=by rfl)(hpl:(backTo pos (starEach es X.env)).any (·.1)=false:=by rfl) :
 PE X (.Call (.Name x p) (e::es) [] pos) (vf9 sp dvs E t):=by
 intro A3 s σ H Q I h;refine wpAny_Call_Name_kw (xk3 I hg hm ?_ hdb);refine PySem.W.callWith_K (h₀:=X.base) I.ok.mod.kin hk (thn (ha pos A3 s σ H _ I h) λus s1 ⟨vs,H1,I1,r,q⟩=>⟨I1.kIn,?_⟩) he hpl;exact wk0 F hr hb hd hx I1 r q
end
structure zc6(N P:List Str)(sc:Scope):Prop where
 kind:sc.kind=.function
 co:sc.isCoroutine=false
 gen:sc.isGenerator=false
 nd:N.Nodup
 pre:N.take P.length=P
 par:∀x∈P,sc.names.lookup x=some .local\/sc.names.lookup x=some .cell
 nofree:∀y∈sc.names,y.2≠.free
theorem yq3{kindOf:Str->Option NameKind}{x:Str}:∀{binds:List (Str×Value)} {m:Str->Option Value},(∀v,(x,v)∉binds)->bindL kindOf binds m x=m x
 | [],_,_=>rfl
 | (n,v)::r,m,h=>by
   unfold bindL;rw[yq3 λw hw=>h w (Ay0 _ hw)];split
   ·have:x≠n:=by rintro rfl;exact h v Bi0
    simp[this]
   ·rfl
theorem yq5{kindOf:Str->Option NameKind}{x:Str}:∀{binds:List (Str×Value)} {m:Str->Option Value},(∀v,(x,v)∉binds)->bindC kindOf binds m x=m x
 | [],_,_=>rfl
 | (n,v)::r,m,h=>by
   unfold bindC;rw[yq5 λw hw=>h w (Ay0 _ hw)];split
   ·rfl
   ·have:x≠n:=by rintro rfl;exact h v Bi0
    simp[this]
theorem yq4{kindOf:Str->Option NameKind}{x:Str}{v:Value}:∀{P:List Str} {vs:List Value} {i:Nat} {m:Str->Option Value},P.Nodup->P[i]?=some x->vs[i]?=some v->kindOf x=some .local->
 bindL kindOf (P.zip vs) m x=some v
 | [],_,_,_,_,h,_,_=>by simp at h
 | _::_,[],_,_,_,_,h,_=>by simp at h
 | p::P,w::vs,0,m,nd,h1,h2,hk=>by
   simp at h1 h2;subst h1;subst h2;show bindL kindOf ((p,w)::P.zip vs) m p=_;unfold bindL;rw[yq3 λv hv=>(Bx0.mp nd).1 (Cp0 hv).1,if_pos hk];simp
 | p::P,w::vs,i+1,m,nd,h1,h2,hk=>by
   show bindL kindOf ((p,w)::P.zip vs) m x=_;unfold bindL;exact yq4 (i:=i) (Bx0.mp nd).2 (by simpa using h1) (by simpa using h2) hk
theorem yq6{kindOf:Str->Option NameKind}{x:Str}{v:Value}:∀{P:List Str} {vs:List Value} {i:Nat} {m:Str->Option Value},P.Nodup->P[i]?=some x->vs[i]?=some v->kindOf x≠some .local->
 bindC kindOf (P.zip vs) m x=some v
 | [],_,_,_,_,h,_,_=>by simp at h
 | _::_,[],_,_,_,_,h,_=>by simp at h
 | p::P,w::vs,0,m,nd,h1,h2,hk=>by
   simp at h1 h2;subst h1;subst h2;show bindC kindOf ((p,w)::P.zip vs) m p=_;unfold bindC;rw[yq5 λv hv=>(Bx0.mp nd).1 (Cp0 hv).1,if_neg hk];simp
 | p::P,w::vs,i+1,m,nd,h1,h2,hk=>by
   show bindC kindOf ((p,w)::P.zip vs) m x=_;unfold bindC;exact yq6 (i:=i) (Bx0.mp nd).2 (by simpa using h1) (by simpa using h2) hk
noncomputable def ws4(N:List Str)(vs:List V):St:=vs.map some++List.replicate (N.length-vs.length) none
noncomputable def wt9(CX:CXT)(P:Program)(w:World)(K:PySem.W.Frag)(mg:Str->Option Value)(base:Heap)(N:List Str)(qual:Str)(scope:Scope)(f:Addr)(cd:Value)(A:Around)(outer:List Env)(s:Shared)(H:Hp)(E:XK):Cx where
 prog:=P
 w:=w
 K:=K
 mg:=mg
 base:=base
 A:=A.deeper (envOfC qual scope s.heap.objs.size f cd)
 N:=N
 s₀:=s
 H₀:=H
 env:=envOfC qual scope s.heap.objs.size f cd
 outer:=outer
 stack:=envOfC qual scope s.heap.objs.size f cd::outer
 ex:=[]
 calm:=true
 fn:=λ_=>true
 pn:=[]
 xe:=λe s'=>wpAny (model P w) (A.deeper (envOfC qual scope s.heap.objs.size f cd)) (leaving (envOfC qual scope s.heap.objs.size f cd) e) (λ_ s''=>CX outer H s E e s'') (λe' s''=>CX outer H s E e' s'') s'
def yz2{sc:Scope}{n:Nat}{x:Str}(h:sc.names.lookup x=some .cell):∃c,(cellsFrom n sc.names []).lookup x=some c:=by
 have q:=PySem.W.cellsFrom_some sc.names n [] (.inl h);exact Option.isSome_iff_exists.mp q
def xl8{CX:CXT}{P:Program}{w:World}{K:PySem.W.Frag}{mg:Str->Option Value}{base:Heap}{N ps:List Str}{qual:Str}{scope:Scope}{f:Addr}{cd:Value}{A:Around}{outer:List Env}{s s1:Shared}{H:Hp}{E:XK}{us:List Value}{vs:List V}(S:zc6 N ps scope)(hd:A.handled=none)(e0:vn4 P w K mg base A outer s H)(hl:vs.length=ps.length)(r:wr4 vs us)(x:InCallC s s.heap.objs.size (bindL (envOfC qual scope s.heap.objs.size f cd).kindOf (ps.zip us) λ_=>none) (cellsFrom (s.heap.objs.size+1) scope.names []) (bindC (envOfC qual scope s.heap.objs.size f cd).kindOf (ps.zip us) λ_=>none) s1) :
 Inv (wt9 CX P w K mg base N qual scope f cd A outer s H E) [] (ws4 N vs) H s1:=by
 have hpl:ps.length<=N.length:=by have:=congrArg List.length S.pre;rw[Bd0] at this;omega
 obtain⟨h1,tk,rfl,hk⟩:=x.done;have noA:∀b:Addr,b∉(wt9 CX P w K mg base N qual scope f cd A outer s H E).ex:=λb z=>absurd (show b∈([]:List Addr) from z) (by simp)
 refine⟨⟨e0.mod,S.kind,rfl,rfl,Ad0 _,λy z c h1 h2=>?_,λy hy=>?_,λy c _ h=>?_,λ_=>hd,Around.frames_deeper e0.frames,.inr ⟨rfl,rfl⟩,λb z=>absurd z (noA b),e0.bs,e0.bsz,λb _ _=>noA b,λb z=>absurd z (noA b),e0.funs,e0.frf⟩,rfl,e0.bare,Un.kept hk,⟨_,x.toInCall.ns,λi y v h1 h2 h3=>?_⟩,λy c h=>⟨_,x.cell y c h⟩,e0.hok.fresh (Ad0 _),λy c h=>?_,λp hp=>absurd (show p∈([]:List (Addr×Obj)) from hp) (by simp),e0.hok.kept hk,?_⟩
 ·exact name_of_addr x.apart (PySem.mem_of_lookup h1) (PySem.mem_of_lookup h2)
 ·have hy:scope.names.lookup y=some .cell\/scope.names.lookup y=some .free:=hy
  rcases hy with hy | hy
  ·exact yz2 hy
  ·exact absurd rfl (S.nofree _ (PySem.mem_of_lookup hy))
 ·exact Ce0 (x.above y c (PySem.mem_of_lookup h))
 ·have hi:i<vs.length:=by
   unfold ws4 at h2;by_cases hi:i<vs.length
   ·exact hi
   ·rw[Cl0 (by simpa using hi)] at h2
    rw[List.getElem?_replicate] at h2;split at h2<;>cases h2
  have ha:vs[i]?=some v:=by
   unfold ws4 at h2;rw[Bc0 (by simpa using hi),An0] at h2;cases e:vs[i]? with
   | none=>rw[e] at h2;cases h2
   | some a=>rw[e] at h2;cases h2;rfl
  obtain⟨u,hu,rv⟩:=r.get ha;have hp:ps[i]?=some y:=by
   rw[<-S.pre,List.getElem?_take_of_lt (by omega)];exact h1
  have ndP:ps.Nodup:=by rw[<-S.pre];exact S.nd.sublist (List.take_sublist _ _)
  refine⟨u,rv,?_⟩;rcases S.par y (Ao0 hp) with k | k
  ·exact .inl ⟨k,yq4 ndP hp hu k⟩
  ·obtain⟨c,e⟩:=yz2 (n:=s.heap.objs.size+1) k
   refine .inr ⟨.inl k,c,e,?_⟩;have q:=x.cell y c e;rw[yq6 ndP hp hu (by show scope.names.lookup y≠_;rw[k];decide)] at q;exact q
 ·exact e0.hok.fresh (Ce0 (x.above y c (PySem.mem_of_lookup h)))
 ·unfold ws4
  show _=N.length;rw[Ai0,Aa0,List.length_replicate];omega
open H in
theorem vr7{CX:CXT}{P:Program}{w:World}{K:PySem.W.Frag}{mg:Str->Option Value}{base:Heap}{k:Nat}{f:Addr}{name qual:Str}{params:Arguments}{body:List Stmt}{scope:Scope}{dV kV doc pm cdv ct oc:Value}{an od:Option Addr}{osl:Array (Option Value)}{N ps:List Str}{sp:Sp}(lk:K.lookup f=some ⟨oc,od,.func (fnOf name qual params body scope dV kV doc pm an cdv ct),osl⟩)(hcd:codeIn K cdv qual=true)(S:zc6 N ps scope)(len:∀vs H Q E,sp vs H Q E->vs.length=ps.length)(hbody:∀(A:Around) (outer:List Env) (s:Shared) (H:Hp) (vs:List V) (Q:VK) (E:XK),ws5 k (A.deeper (envOfC qual scope s.heap.objs.size f cdv))->sp vs H Q E->
  ∃t,PSs (wt9 CX P w K mg base N qual scope f cdv A outer s H E) body t/\t { nx:=λ_ H'=>Q .non H',rt:=Q } (ws4 N vs) H) :
 wy0 P w K mg base CX (k+1) f (fnOf name qual params body scope dV kV doc pm an cdv ct) ps sp:=by
 refine⟨len,λA outer s H args us vs Q E hr e0 hb r hsp=>?_⟩;have hl:=len _ _ _ _ hsp;have KX:K.In s.heap:=e0.mod.kin.keeps λb o e=>(e0.bs b o e).1
 have lim:s.heap.NoLimit:=e0.mod.nolimit.keeps λb o e=>(e0.bs b o e).1
 have hkind:∀y∈ps.zip us,scope.names.lookup y.1=some .local\/(scope.names.lookup y.1=some .cell/\((cellsFrom (s.heap.objs.size+1) scope.names []).lookup y.1).isSome=true):=λhI2 hy=>by
  obtain⟨n,v⟩:=hI2;rcases S.par n (Cp0 hy).1 with q | q
  ·exact .inl q
  ·exact .inr ⟨q,PySem.W.cellsFrom_some _ _ _ (.inl q)⟩
 refine codeAny_call_function hr.depth (KX _ _ lk) rfl S.co S.gen rfl (PySem.W.codeRec_of KX hcd) (hb _ _ _ _ ?_);refine wpAny_newFunctionEnv_cells S.kind hkind λenv he s1 x=>?_
 subst he;refine⟨lim.keeps x.toInCall.keep,codeAny_func ?_⟩;obtain⟨t,ht,hq⟩:=hbody A outer s H vs Q E (hr.deeper _) hsp;have I:Inv (wt9 CX P w K mg base N qual scope f cdv A outer s H E) [] (ws4 N vs) H s1:=xl8 S hr.hd e0 hl r x;refine Ah1 (ht [] s1 (ws4 N vs) H _ I hq) (λfl s' hs=>?_) λe s' hs=>hs
 have fin:∀{σ':St} {H':Hp} {v:V} {u:Value},Inv (wt9 CX P w K mg base N qual scope f cdv A outer s H E) [] σ' H' s'->wr3 v u->Q v H'->CE outer P w H s Q u s':=
  λ{σ' H' v u} J rv q=>⟨v,H',J.os,J.bare,J.base,J.hok,rv,q⟩
 cases fl with
 | ret u=>
   obtain⟨v,σ',H',J,rv,q⟩:=hs;exact fin J rv q
 | next=>
   obtain⟨σ',H',J,q⟩:=hs;exact fin (v:=V.non) (u:=Value.none) J rfl q
 | brk=>
   obtain⟨_,_,_,q⟩:=hs;exact False.elim q
 | cont=>
   obtain⟨_,_,_,q⟩:=hs;exact False.elim q
section
variable{X:Cx}{x:Str}{p pos:Pos}{e:Expr}{es:List Expr}{t:TA}{id T:String}{r:List V->Hp->VK->Prop}
noncomputable def tCB(r:List V->Hp->VK->Prop)(t:TA):TE:=λσ H Q=>t σ H λvs H1=>r vs H1 Q
def ya0(hc:wu0 X (.builtin id) r)(hg:Gl X x)(hm:X.mg x=none)(hv:bootBuiltins x=some (.builtin id))(ha:PA X (e::es) t)(hn:x≠"__name__":=by decide)(hdb:(x == ("__debug__" : Str))=false:=by decide)(he:starEach (e::es) X.env=(false,eval e X.env)::starEach es X.env:=by rfl)(hpl:(backTo pos (starEach es X.env)).any (·.1)=false:=by rfl):PE X (.Call (.Name x p) (e::es) [] pos) (tCB r t):=by
 intro A3 s σ H Q I h;refine wpAny_Call_Name_kw (zy8 I hg hm hv ?_ hn hdb);exact PyProof.Rows.callWith_builtin1 (thn (ha pos A3 s σ H _ I h) λus s1 ⟨vs,H1,I1,r1,q1⟩=>hc A3 s1 σ H1 vs us Q I1 r1 q1) he hpl
def yn2(hc:wu0 X (.type T) r)(hg:Gl X x)(hm:X.mg x=none)(hv:bootBuiltins x=some (.type T))(ha:PA X (e::es) t)(hn:x≠"__name__":=by decide)(hdb:(x == ("__debug__" : Str))=false:=by decide)(he:starEach (e::es) X.env=(false,eval e X.env)::starEach es X.env:=by rfl)(hpl:(backTo pos (starEach es X.env)).any (·.1)=false:=by rfl):PE X (.Call (.Name x p) (e::es) [] pos) (tCB r t):=by
 intro A3 s σ H Q I h;refine wpAny_Call_Name_kw (zy8 I hg hm hv ?_ hn hdb);exact PyProof.Rows.callWith_type1 (thn (ha pos A3 s σ H _ I h) λus s1 ⟨vs,H1,I1,r1,q1⟩=>hc A3 s1 σ H1 vs us Q I1 r1 q1) he hpl
end
end L2
namespace HT
open PySem PyProof.Rows
section
open PySem.SeqAt
open PySem.AutoSeq1 (wpAny_loadPart')
open PySem.MeetsSeq PySem.MeetsSeq2 PySem.MeetsSeq3
end
section
variable{prog:Program}{w:World}{A:Around}{E:Value->Shared->Prop}{s:Shared}
def cat_tup(ht:IsTup s.heap t vs.toArray)(hb:IsTup s.heap b ws.toArray)(hv:vs≠[])(h1:ws=[]->Q (.ref t) s)(h2:ws≠[]->Q (.ref s.heap.objs.size) { s with heap:=s.heap.push { cls:=.type "tuple",data:=.seq (vs++ws).toArray } })(hsz:vs.length+ws.length<=sizeLine):wpAny (model prog w) A (binaryOp .Add (.ref t) (.ref b)) Q E s:=by
 obtain⟨⟨cls,dd,data,sl⟩,ho,hc,n,hd⟩:=id ht;obtain⟨⟨cls2,dd2,data2,sl2⟩,ho2,hc2,n2,hd2⟩:=id hb;simp only at hc hd hc2 hd2;subst hc hd hc2 hd2;have e:vs.toArray++ws.toArray=(vs++ws).toArray:=by simp
 by_cases hw:ws=[]
 ·exact concat_meets ⟨_,ho,rfl⟩ ⟨_,ho2,rfl⟩ noFill_tuple_add seq_tuple_add PySem.F.slot_tuple_add PySem.F.entry_tuple_add (PySem.F.args_tuple_add_2 _ _)
   (tuple_addW1 t b vs.toArray ws.toArray n n2 dd dd2 sl sl2 (by simpa using hv) (by simp[hw])) ⟨ho,ho2,h1 hw⟩
 ·refine concat_meets ⟨_,ho,rfl⟩ ⟨_,ho2,rfl⟩ noFill_tuple_add seq_tuple_add PySem.F.slot_tuple_add PySem.F.entry_tuple_add (PySem.F.args_tuple_add_2 _ _)
   (tuple_addW2 t b vs.toArray ws.toArray n n2 dd dd2 sl sl2 (by simpa using hv) (by simpa using hw) (by rw[Ag0,Ag0];exact hsz)) ⟨ho,ho2,?_⟩
  rw[e];exact h2 hw
noncomputable def sIx(n d:Nat):Option Int->Nat
 | none=>d
 | some v=>if v<0 then (v+(n:Int)).toNat else min v.toNat n
def sIx_nat(n d k:Nat):sIx n d (some (k:Int))=min k n:=by
 show (if (k:Int)<0 then ((k:Int)+(n:Int)).toNat else min (k:Int).toNat n)=min k n;rw[if_neg (by omega),Bu0]
end
end HT
namespace L2
noncomputable abbrev TO:=St->Hp->(Option Int->Hp->Prop)->Prop
noncomputable def PO(X:Cx)(e:Option Expr)(t:TO):Prop:=
 ∀(A3:List (Addr×Obj)) (s:Shared) (σ:St) (H:Hp) (Q:Option Int->Hp->Prop),Inv X A3 σ H s->t σ H Q->
  wpAny (model X.prog X.w) X.A (evalPart e X.env) (λu s'=>∃o H',Inv X A3 σ H' s'/\IsPart u o/\Q o H') X.xe s
noncomputable def wb8:TO:=λ_ H Q=>Q none H
noncomputable def vo2(t:TE):TO:=λσ H Q=>t σ H λx H1=>∃i,x=.int i/\Q (some i) H1
section
variable{X:Cx}{e:Expr}{te:TE}{lo hi:Option Expr}{tl th:TO}{pos p2:Pos}
def wd2:PO X none wb8:=by
 intro A3 s σ H Q I h;rw[evalPart_none];exact Ac1 ⟨none,H,I,.none,h⟩
def wd1(h:PE X e te):PO X (some e) (vo2 te):=by
 intro A3 s σ H Q I hw;rw[evalPart_some];refine thn (h A3 s σ H _ I hw) λu s1 hI78=>?_
 obtain⟨x,H1,I1,r1,q1⟩:=hI78;obtain⟨i,rfl,q⟩:=q1;obtain⟨t,rfl⟩:=r1;exact⟨some i,H1,I1,.int i t,q⟩
noncomputable def SlR(X:Cx)(r:V->Option Int->Option Int->Hp->VK->Prop):Prop:=
 ∀(A3:List (Addr×Obj)) (s:Shared) (σ:St) (H:Hp) (x:V) (v vl vu:Value) (lo hi:Option Int) (sl:Addr) (Q:VK),Inv X A3 σ H s->wr3 x v->s.heap.IsSliceOf sl vl vu .none->IsPart vl lo->IsPart vu hi->r x lo hi H Q->
  ∃T id,typeLookup (.type T) "__getitem__" = pure (some (.builtin id))/\s.TypeIs v T/\wpAny (model X.prog X.w) X.A (getItem v (.ref sl)) (EP X A3 σ Q) X.xe s
def SlR.or(h:SlR X r)(h':SlR X r'):SlR X (λx lo hi H Q=>r x lo hi H Q\/r' x lo hi H Q):=by
 intro A3 s σ H x v vl vu lo hi sl Q I rx hs pl pu q;rcases q with q | q
 ·exact h A3 s σ H x v vl vu lo hi sl Q I rx hs pl pu q
 ·exact h' A3 s σ H x v vl vu lo hi sl Q I rx hs pl pu q
noncomputable def tSl(r:V->Option Int->Option Int->Hp->VK->Prop)(te:TE)(tl th:TO):TE:=λσ H Q=>te σ H λx H1=>tl σ H1 λl H2=>th σ H2 λu H3=>r x l u H3 Q
def xs4(hr:SlR X r)(he:PE X e te)(hl:PO X lo tl)(hu:PO X hi th):PE X (.Subscript e (.Slice lo hi none p2) pos) (tSl r te tl th):=by
 intro A3 s σ H Q I h;refine Subscript_ (thn (he A3 s σ H _ I h) λv s1 hI79=>?_);obtain⟨x,H1,I1,r1,q1⟩:=hI79;refine wpAny_Slice (thn (hl A3 s1 σ H1 _ I1 q1) λvl s2 ⟨l,H2,I2,pl,q2⟩=>thn (hu A3 s2 σ H2 _ I2 q2) λvu s3 hI80=>?_);obtain⟨u,H3,I3,pu,q3⟩:=hI80;rw[evalPart_none];refine Ac1 ?_;have I4:Inv X A3 σ H3 { s3 with heap:=s3.heap.push { cls:=.type "slice",data:=.fields #[vl,vu,.none] } }:=I3.kept (t':=s3.toks) λb ob q=>Ab0 _ q
 obtain⟨T,id,hT,ht,hg⟩:=hr A3 { s3 with heap:=s3.heap.push { cls:=.type "slice",data:=.fields #[vl,vu,.none] } } σ H3 x v vl vu l u s3.heap.objs.size Q I4 r1 (Heap.IsSliceOf.new ..) pl pu q3;show wpAny (model X.prog X.w) X.A (subscriptTail e (.Slice lo hi none p2) v (.ref s3.heap.objs.size)) (EP X A3 σ Q) X.xe { s3 with heap:=s3.heap.push { cls:=.type "slice",data:=.fields #[vl,vu,.none] } };exact tail_any (ops:=[.ref s3.heap.objs.size,v]) ht hT hg (by with_unfolding_all rfl)
noncomputable def vh9(xs:List V)(lo hi:Option Int):List V:=(xs.drop (HT.sIx xs.length 0 lo)).take (HT.sIx xs.length xs.length hi-HT.sIx xs.length 0 lo)
def yu0(xs:List V)(lo hi:Option Int):(vh9 xs lo hi).length<=xs.length:=by
 unfold vh9;rw[Bd0,Cf0];omega
noncomputable def vd8(K:PySem.W.Frag):R2:=λx y H Q=>∃a b xs ys,x=.ref a/\y=.ref b/\SqT K H a xs/\SqT K H b ys/\xs≠[]/\xs.length+ys.length<=sizeLine/\
 (ys=[]->Q (.ref a) H)/\(ys≠[]->∀p,H p=none->Q (.ref p) (upd H p (.tup (xs++ys))))
theorem wr4.nil_iff(r:wr4 xs us):us=[]↔xs=[]:=by
 cases r with
 | nil=>simp
 | cons _ _=>simp
def wd9:OpR X (binaryOp .Add) (vd8 X.K):=by
 intro A3 s σ H x y v u Q I rx ry h;obtain⟨a,b,xs,ys,rfl,rfl,ha,hb,hx,hz,q1,q2⟩:=h;cases rx;cases ry;obtain⟨its,r1,p1,_⟩:=I.tuple ha;obtain⟨its2,r2,p2,_⟩:=I.tuple hb;refine HT.cat_tup p1 p2 (λz=>hx (r1.nil_iff.mp z)) (λz=>⟨.ref a,H,I,rfl,q1 (r2.nil_iff.mp z)⟩) (λz=>?_) (by rw[<-r1.length,<-r2.length];exact hz);refine⟨.ref s.heap.objs.size,_,I.laid (t':=s.toks) (o:=.tup (xs++ys)) (λb ob q=>Ab0 _ q) (Ad0 _) ?_,rfl,q2 (λw=>z (r2.nil_iff.mpr w)) _ (I.hok.fresh (Ad0 _))⟩;exact⟨by rw[Ai0];exact hz,_,r1.append r2,IsTup.new _ _,⟨_,Af0 _ rfl,rfl⟩⟩
end
noncomputable def ixN(n:Nat)(i:Int):Option Nat:=if 0<=i then (if i<n then some i.toNat else none) else if -(n:Int)<=i then some (i+n).toNat else none
noncomputable def atI{α:Type}(xs:List α)(i:Int):Option α:=(ixN xs.length i).bind λj=>xs[j]?
def xl6{n:Nat}{i:Int}{j:Nat}(h:ixN n i=some j):seqIndex? i n=some j/\j<n/\-(n:Int)<=i/\i<n:=by
 unfold ixN at h;by_cases h0:0<=i
 ·rw[if_pos h0] at h
  by_cases h1:i<n
  ·rw[if_pos h1] at h
   have e:i.toNat=j:=Option.some.inj h;exact⟨by rw[seqIndex_of h0 h1,e],by omega,by omega,h1⟩
  ·rw[if_neg h1] at h;cases h
 ·rw[if_neg h0] at h
  by_cases h1:-(n:Int)<=i
  ·rw[if_pos h1] at h
   have e:(i+n).toNat=j:=Option.some.inj h;exact⟨by rw[seqIndex_neg (by omega) h1,e],by omega,h1,by omega⟩
  ·rw[if_neg h1] at h;cases h
theorem yu4{α:Type}{xs:List α}{i:Int}{v:α}(h:atI xs i=some v):∃j,seqIndex? i xs.length=some j/\xs[j]?=some v/\j<xs.length/\-(xs.length:Int)<=i/\i<xs.length:=by
 unfold atI at h;cases e:ixN xs.length i with
 | none=>rw[e] at h;cases h
 | some j=>
   rw[e] at h;obtain⟨h1,h2,h3,h4⟩:=xl6 e;exact⟨j,h1,h,h2,h3,h4⟩
def yu3{α:Type}{xs:List α}{j:Nat}{v:α}(h:xs[j]?=some v):atI xs (j:Int)=some v:=by
 have hj:j<xs.length:=(Ae0.mp h).1;have e:ixN xs.length (j:Int)=some j:=by
  unfold ixN;rw[if_pos (by omega),if_pos (by omega)];simp
 unfold atI;rw[e];exact h
noncomputable def yf1(b:Expr):Prop:=∀o i,subscripted b false o i=operate [o,i] (getItem o i)
noncomputable def IxR(X:Cx)(r:R2):Prop:=
 ∀(value slice:Expr) (A3:List (Addr×Obj)) (s:Shared) (σ:St) (H:Hp) (x y:V) (v u:Value) (Q:VK),Inv X A3 σ H s->wr3 x v->wr3 y u->r x y H Q->
  subscripted slice false v u=operate [v,u] (getItem v u)->wpAny (model X.prog X.w) X.A (subscriptTail value slice v u) (EP X A3 σ Q) X.xe s
noncomputable def MtR(X:Cx)(id:String)(r:V->List V->Hp->VK->Prop):Prop:=
 ∀(A3:List (Addr×Obj)) (s:Shared) (σ:St) (H:Hp) (x:V) (xs:List V) (v:Value) (us:List Value) (Q:VK),Inv X A3 σ H s->wr3 x v->wr4 xs us->r x xs H Q->
  wpAny (model X.prog X.w) X.A (call (.builtin id) (v::us)) (EP X A3 σ Q) X.xe s
section
variable{X:Cx}{a b:Expr}{ta tb:TE}{pos:Pos}
def IxR.or(h:IxR X r)(h':IxR X r'):IxR X (λx y H Q=>r x y H Q\/r' x y H Q):=by
 intro value slice A3 s σ H x y v u Q I rx ry q hs;rcases q with q | q
 ·exact h value slice A3 s σ H x y v u Q I rx ry q hs
 ·exact h' value slice A3 s σ H x y v u Q I rx ry q hs
def vg4(hr:IxR X r)(ha:PE X a ta)(hb:PE X b tb)(hs:yf1 b):PE X (.Subscript a b pos) (tOp r ta tb):=by
 intro A3 s σ H Q I h;exact Subscript_ (vt4 ha hb I h λv u s2 x y H2 I2 rx ry q=>hr a b A3 s2 σ H2 x y v u Q I2 rx ry q (hs _ _))
noncomputable def vu9(K:PySem.W.Frag):R2:=λx y H Q=>∃p xs i v,x=.ref p/\y=.int i/\SqL K H p xs/\atI xs i=some v/\Q v H
noncomputable def vu7(K:PySem.W.Frag):R2:=λx y H Q=>∃p xs i v,x=.ref p/\y=.int i/\SqT K H p xs/\atI xs i=some v/\Q v H
noncomputable def vu8:R2:=λx y H Q=>∃z i c,x=.str z/\y=.int i/\z.length<=sizeLine/\atI z.cps.toList i=some c/\Q (.str ⟨#[c]⟩) H
def xl4:IxR X (vu9 X.K):=by
 intro value slice A3 s σ H x y v u Q I rx ry h hs;obtain⟨p,xs,i,z,rfl,rfl,hq,he,q⟩:=h;cases rx;obtain⟨t,rfl⟩:=ry;obtain⟨its,r,pl,hz⟩:=I.list hq;obtain⟨j,h1,h2,h3,h4,h5⟩:=yu4 he;obtain⟨w,ew,rw'⟩:=r.get h2;have hl:=r.length;have hn:=yo1;have fin:EP X A3 σ Q w s:=⟨z,H,I,rw',q⟩;by_cases h0:0<=i
 ·have hj:i.toNat=j:=by
   rw[seqIndex_of h0 h5] at h1;exact Option.some.inj h1
  exact item_listR pl.isList h0 (by omega) (by rw[hj];simpa using ew) fin hs
 ·have hj:(i+(its.toArray.size:Int)).toNat=j:=by
   rw[seqIndex_neg (by omega) h4] at h1;rw[Ag0,<-hl];exact Option.some.inj h1
  exact subscriptTail_builtinR (x:=w) pl.isList.typeIs slot_list_getitem.lookup
   (wpAny_getItem_list_neg (Q:=λr s'=>r=w/\EP X A3 σ Q r s') pl.isList (by omega) (by rw[Ag0]<;>omega) (by omega) (by rw[hj];simpa using ew) ⟨rfl,fin⟩) hs
def xy5:IxR X (vu7 X.K):=by
 intro value slice A3 s σ H x y v u Q I rx ry h hs;obtain⟨p,xs,i,z,rfl,rfl,hq,he,q⟩:=h;cases rx;obtain⟨t,rfl⟩:=ry;obtain⟨its,r,pl,hz⟩:=I.tuple hq;obtain⟨j,h1,h2,h3,h4,h5⟩:=yu4 he;obtain⟨w,ew,rw'⟩:=r.get h2;have hl:=r.length;have hn:=yo1;have fin:EP X A3 σ Q w s:=⟨z,H,I,rw',q⟩;exact subscriptTail_builtinR (x:=w) pl.typeIs slot_tuple_getitem.lookup
  (getItem_tuple (j:=j) (Q:=λr s'=>r=w/\EP X A3 σ Q r s') pl (by omega) (by omega) (by rw[Ag0,<-hl];exact h1) (by simpa using ew) ⟨rfl,fin⟩) hs
def wn9:IxR X vu8:=by
 intro value slice A3 s σ H x y v u Q I rx ry h hs;obtain⟨z,i,c,rfl,rfl,hz,he,q⟩:=h;obtain⟨t,rfl⟩:=rx;obtain⟨t',rfl⟩:=ry;obtain⟨j,h1,h2,h3,h4,h5⟩:=yu4 he;have hl:z.cps.toList.length=z.length:=by simp[Str.length]
 rw[hl] at h1 h4 h5;have hn:=yo1;exact tail_any (typeIs_str s z t) slot_str_getitem.lookup (getItem_str (c:=c) (by
  have e1:decide (i < -(2 ^ 63:Int))=false:=Ao1 (by omega);have e2:decide (i>=2 ^ 63)=false:=Ao1 (by omega);rw[e1,e2,Bool.or_false]) (by rw[h1];simpa using h2) ⟨.str ⟨#[c]⟩,H,I.tok _,⟨_,rfl⟩,q⟩) hs
noncomputable def rIx(K:PySem.W.Frag):R2:=λx y H Q=>vu9 K x y H Q\/vu7 K x y H Q\/vu8 x y H Q
def xy6:IxR X (rIx X.K):=xl4.or (xy5.or wn9)
def xb8(its:List Value)(n j:Nat)(u:Value):Obj.mapSeq (·.setIfInBounds j u) { cls:=.type "list",data:=.seq its.toArray n }={ cls:=.type "list",data:=.seq (its.set j u).toArray n }:=by
 simp[Obj.mapSeq]
def Inv.lst{A3:List (Addr×Obj)}{σ:St}{H:Hp}{s:Shared}{p:Addr}{xs:List V}(I:Inv X A3 σ H s)(h:H p=some (.lst xs)) :
 ∃(its:List Value) (n:Nat),wr4 xs its/\s.heap.get? p=some { cls:=.type "list",data:=.seq its.toArray n }/\xs.length<=sizeLine:=by
 obtain⟨z,its,n,r,e⟩:=I.hok p _ h;exact⟨its,n,r,e,z⟩
def Inv.lstUpd{A3:List (Addr×Obj)}{σ:St}{H:Hp}{s:Shared}{p:Addr}{xs ys:List V}{its its':List Value}{n n':Nat}{f:Obj->Obj}(I:Inv X A3 σ H s)(h:H p=some (.lst xs))(ho:s.heap.get? p=some { cls:=.type "list",data:=.seq its.toArray n })(hf:f { cls:=.type "list",data:=.seq its.toArray n }={ cls:=.type "list",data:=.seq its'.toArray n' })(r:wr4 ys its')(hz:ys.length<=sizeLine)(t:Nat) :
 Inv X A3 σ (upd H p (.lst ys)) { s with heap:=s.heap.update p f,toks:=t }:=by
 have e:(s.heap.update p f).get? p=some { cls:=.type "list",data:=.seq its'.toArray n' }:=by
  rw[Ci0 f ho (by rw[hf]<;>rfl),hf]
 refine I.write (x:=p) (e:=p) (by rw[h];trivial) (.inl rfl) (λb u hb q=>(Ct0 _ _ (Ne.symm hb)).trans q) ⟨_,e⟩ ?_;exact⟨hz,its',n',r,e⟩
noncomputable def vp8:V->V->V->Hp->(Hp->Prop)->Prop:=λo i v H Q=>∃p xs k j,o=.ref p/\i=.int k/\H p=some (.lst xs)/\ixN xs.length k=some j/\Q (upd H p (.lst (xs.set j v)))
def xr8:vw9 X vp8:=by
 intro A3 s σ H o i v ov iv u Q I ro ri rv h;obtain⟨p,xs,k,j,rfl,rfl,hp,hj,q⟩:=h;cases ro;obtain⟨t,rfl⟩:=ri;obtain⟨its,n,r,ho,hz⟩:=I.lst hp;obtain⟨h1,h2,h3,h4⟩:=xl6 hj;have hl:=r.length;have hn:=yo1;have I':Inv X A3 σ (upd H p (.lst (xs.set j v))) { s with heap:=s.heap.update p (Obj.mapSeq (·.setIfInBounds j u)) }:=
  I.lstUpd hp ho (xb8 its n j u) (r.set rv j) (by rw[Cc0];exact hz) s.toks
 by_cases h0:0<=k
 ·have hk:k.toNat=j:=by
   rw[seqIndex_of h0 h4] at h1;exact Option.some.inj h1
  exact PySem.W.ki_setAt ho h0 (by omega) (by rw[Ag0,<-hl];exact h4) (by rw[hk];exact⟨_,I',q⟩)
 ·have hk:(k+(its.toArray.size:Int)).toNat=j:=by
   rw[seqIndex_neg (by omega) h3] at h1;rw[Ag0,<-hl];exact Option.some.inj h1
  exact PySem.W.ki_setBack ho (by omega) (by rw[Ag0,<-hl];exact h3) (by omega) (by rw[hk];exact⟨_,I',q⟩)
def ym4(lo hi:Option Int)(n:Nat):(sliceBounds lo hi none n).1=((HT.sIx n 0 lo:Nat):Int)/\(sliceBounds lo hi none n).2.1=((HT.sIx n n hi:Nat):Int)/\(sliceBounds lo hi none n).2.2=1:=by
 refine⟨?_,?_,rfl⟩
 ·cases lo with
  | none=>simp[sliceBounds,HT.sIx]
  | some i=>
    simp only[sliceBounds,HT.sIx,Option.getD_none,show (1:Int)>0 by decide,if_true];by_cases h:i<0
    ·simp only[h,if_true]<;>omega
    ·simp only[h,if_false]<;>omega
 ·cases hi with
  | none=>simp[sliceBounds,HT.sIx]
  | some i=>
    simp only[sliceBounds,HT.sIx,Option.getD_none,show (1:Int)>0 by decide,if_true];by_cases h:i<0
    ·simp only[h,if_true]<;>omega
    ·simp only[h,if_false]<;>omega
def yi6(its:List Value)(lo hi:Option Int):slicePick its.toArray lo hi none=((its.drop (HT.sIx its.length 0 lo)).take (HT.sIx its.length its.length hi-HT.sIx its.length 0 lo)).toArray:=by
 obtain⟨h1,h2,h3⟩:=ym4 lo hi its.toArray.size;unfold slicePick;rw[h1,h2,h3];simp only[sliceRange_one,pick_run,Ag0]<;>rfl
noncomputable def vy4(K:PySem.W.Frag):V->Option Int->Option Int->Hp->VK->Prop:=λx lo hi H Q=>∃a xs,x=.ref a/\SqL K H a xs/\∀p,H p=none->Q (.ref p) (upd H p (.lst (vh9 xs lo hi)))
def wc2:SlR X (vy4 X.K):=by
 intro A3 s σ H x v vl vu lo hi sl Q I rx hs pl pu h;obtain⟨a,xs,rfl,hx,q⟩:=h;cases rx;obtain⟨its,r,ht,hz⟩:=I.list hx;have hlen:=r.length;refine⟨"list",_,slot_list_getitem.lookup,ht.isList.typeIs,?_⟩;refine wpAny_getItem_list_slice ht.isList hs pl pu .none (by simp) ?_ (by rw[Ag0]<;>omega);rw[yi6,<-hlen];refine⟨.ref s.heap.objs.size,_,I.laid (t':=s.toks) (o:=.lst (vh9 xs lo hi)) (λb ob q=>Ab0 _ q) (Ad0 _) ?_,rfl,q _ (I.hok.fresh (Ad0 _))⟩;exact⟨Ba0 (yu0 xs lo hi) hz,_,0,(r.drop (HT.sIx xs.length 0 lo)).take (HT.sIx xs.length xs.length hi-HT.sIx xs.length 0 lo),Af0 _ rfl⟩
def zd8:wu0 X (.builtin "len") (λxs H Q=>∃p ys,xs=[.ref p]/\(SqL X.K H p ys\/SqT X.K H p ys)/\Q (.int ys.length) H):=by
 intro A3 s σ H xs us Q I r h;obtain⟨p,ys,rfl,hq,q⟩:=h;obtain⟨u,rfl,rx⟩:=wv6 r;cases rx;have hn:=yo1;rcases hq with hq | hq
 ·obtain⟨its,r',pl,hz⟩:=I.list hq
  have hlen:=r'.length;exact Calls.call_len_list pl.isList (by simp only[Ag0]<;>omega) ⟨.int ys.length,H,I.tok _,⟨s.toks+1,by rw[Ag0,hlen]⟩,q⟩
 ·obtain⟨its,r',pl,hz⟩:=I.tuple hq
  have hlen:=r'.length;exact len_tuple pl (by simp only[Ag0]<;>omega) ⟨.int ys.length,H,I.tok _,⟨s.toks+1,by rw[Ag0,hlen]⟩,q⟩
def yq2:wu0 X (.type "list") (λxs H Q=>∃p ys,xs=[.ref p]/\(SqL X.K H p ys\/SqT X.K H p ys)/\∀l,H l=none->Q (.ref l) (upd H l (.lst ys))):=by
 intro A3 s σ H xs us Q I r h;obtain⟨p,ys,rfl,hq,q⟩:=h;obtain⟨u,rfl,rx⟩:=wv6 r;cases rx;have fin:∀(its:List Value),wr4 ys its->ys.length<=sizeLine->∀(h':Heap) (c':Nat),(∀b o',s.heap.get? b=some o'->h'.get? b=some o')->
  h'.get? s.heap.objs.size=some { cls:=.type "list",dict:=none,data:=.seq its.toArray c',slots:=#[] }->EP X A3 σ Q (.ref s.heap.objs.size) { s with heap:=h' }:=λits r' hz h' c' kp e=>
  ⟨.ref s.heap.objs.size,_,I.laid (t':=s.toks) kp (Ad0 _) (show ws2 X.prog X.w _ h' _ (.lst ys) from⟨hz,its,c',r',e⟩),rfl,q _ (I.hok.fresh (Ad0 _))⟩
 rcases hq with hq | hq
 ·obtain⟨its,r',pl,hz⟩:=I.list hq
  have hlen:=r'.length;obtain⟨o,ho,hc,n,hd⟩:=pl.isList;exact call_list_seq p (.inl rfl) ho hc hd (λh' c' kp e=>fin its r' hz h' c' kp e) (by simp only[Ag0]<;>omega)
 ·obtain⟨its,r',pl,hz⟩:=I.tuple hq
  have hlen:=r'.length;obtain⟨o,ho,hc,n,hd⟩:=pl;exact call_list_seq p (.inr rfl) ho hc hd (λh' c' kp e=>fin its r' hz h' c' kp e) (by simp only[Ag0]<;>omega)
def zg4:wu0 X (.type "tuple") (λxs H Q=>∃p ys,xs=[.ref p]/\((SqL X.K H p ys/\∀l,H l=none->Q (.ref l) (upd H l (.tup ys)))\/(SqT X.K H p ys/\Q (.ref p) H))):=by
 intro A3 s σ H xs us Q I r h;obtain⟨p,ys,rfl,h⟩:=h;obtain⟨u,rfl,rx⟩:=wv6 r;cases rx;rcases h with⟨hq,q⟩ | ⟨hq,q⟩
 ·obtain⟨its,r',pl,hz⟩:=I.list hq
  have hlen:=r'.length;refine call_tuple_list pl.isList (λh' kp=>?_) (by simp only[Ag0]<;>omega);have I1:Inv X A3 σ H { s with heap:=h' }:=I.kept (t':=s.toks) kp;have I2:Inv X A3 σ (upd H h'.objs.size (.tup ys)) { s with heap:=h'.push { cls:=.type "tuple",data:=.seq its.toArray } }:=
   I1.laid (t':=s.toks) (λb o e=>Ab0 _ e) (Ad0 _) (show ws2 X.prog X.w _ _ _ (.tup ys) from⟨hz,its,r',IsTup.new _ _,⟨_,Af0 _ rfl,rfl⟩⟩)
  exact⟨.ref h'.objs.size,_,I2,rfl,q _ (I1.hok.fresh (Ad0 _))⟩
 ·obtain⟨its,r',pl,hz⟩:=I.tuple hq
  exact call_tuple_same pl ⟨.ref p,H,I,rfl,q⟩
noncomputable def tyV(K:PySem.W.Frag)(T:String)(x:V)(H:Hp):Prop:=match x with
 | .str _=>T = "str"
 | .int _=>T = "int"
 | .ref p=>(T = "list"/\∃xs,SqL K H p xs)\/(T = "tuple"/\∃o,K.lookup p=some o/\o.cls=.type "tuple"/\o.dict=none)\/
  (T = "dict"/\((∃kvs,H p=some (.dK kvs))\/∃kvs,H p=some (.dT kvs)))\/(T = "set"/\∃S n,H p=some (.set S n))
 | _=>False
theorem xw5{T:String}(I:Inv X A3 σ H s)(r:wr3 x v)(ty:tyV X.K T x H) :
 s.TypeIs v T/\∀a,v=.ref a->∃ob,s.heap.get? a=some ob/\ob.dict=none:=by
 cases x with
 | str z=>
   obtain⟨t,rfl⟩:=r;cases (show T = "str" from ty);exact⟨typeIs_str s z t,λ_ e=>nomatch e⟩
 | int i=>
   obtain⟨t,rfl⟩:=r;cases (show T = "int" from ty);exact⟨typeIs_int s i t,λ_ e=>nomatch e⟩
 | ref p=>
   cases r;rcases ty with⟨rfl,xs,hq⟩ | ⟨rfl,o,hk,hc,hd⟩ | ⟨rfl,hk⟩ | ⟨rfl,S,n,hk⟩
   ·obtain⟨its,_,pl,_⟩:=I.list hq
    refine⟨pl.isList.typeIs,λa e=>?_⟩;cases e;obtain⟨o,n,e,c,hd,_⟩:=pl;exact⟨o,e,hd⟩
   ·refine⟨⟨o,I.kIn p o hk,hc⟩,λa e=>?_⟩
    cases e;exact⟨o,I.kIn _ o hk,hd⟩
   ·have z:∃o,s.heap.get? p=some o/\o.ExactDict:=by
     rcases hk with⟨kvs,hk⟩ | ⟨kvs,hk⟩
     ·obtain⟨_,_,_,_,o,_,_,e,ex,_⟩:=I.hok p _ hk
      exact⟨o,e,ex⟩
     ·obtain⟨_,_,_,_,o,_,_,e,ex,_⟩:=I.hok p _ hk
      exact⟨o,e,ex⟩
    obtain⟨o,e,ex⟩:=z;refine⟨⟨o,e,ex.1⟩,λa e2=>?_⟩;cases e2;exact⟨o,e,ex.2.1⟩
   ·obtain⟨o,_,_,_,e,ex,_⟩:=I.hok p _ hk
    refine⟨⟨o,e,ex.1⟩,λa e2=>?_⟩;cases e2;exact⟨o,e,ex.2.1⟩
 | _=>exact False.elim ty
noncomputable def vy1(K:PySem.W.Frag)(T:String)(r:V->List V->Hp->VK->Prop)(to:TE):TE:=λσ H Q=>to σ H λx H1=>tyV K T x H1/\r x [] H1 Q
noncomputable def tBM(K:PySem.W.Frag)(T:String)(r:V->List V->Hp->VK->Prop)(to:TE)(t:TA):TE:=λσ H Q=>to σ H λx H1=>tyV K T x H1/\t σ H1 λxs H2=>r x xs H2 Q
variable{o e:Expr}{es:List Expr}{to:TE}{t:TA}{name:Str}{apos cpos:Pos}{T id:String}{r:V->List V->Hp->VK->Prop}
def xx7(pa:PlainAttrs T)(slot:Slot T name id)(hty:typeOf (.builtin id)=pure (.type "method_descriptor"))(hm:MtR X id r)(ho:PE X o to)(hbase:attributeBase o name X.env (eval o X.env)=eval o X.env:=by rfl)(hline:(apos.endLine == cpos.line)=true:=by rfl):PE X (.Call (.Attribute o name apos) [] [] cpos) (vy1 X.K T r to):=by
 intro A3 s σ H Q I h;refine wpAny_Call_method0_late hbase hline (thn (ho A3 s σ H _ I h) λv s1 hI81=>?_);obtain⟨x,H1,I1,r1,ty,q1⟩:=hI81;obtain⟨h1,h2⟩:=xw5 I1 r1 ty;exact⟨T,id,pa,slot,hty,h1,h2,Calls.callWith_builtin rfl (PySem.evalArgs_none (hm A3 s1 σ H1 x [] v [] Q I1 r1 .nil q1))⟩
def vk6(pa:PlainAttrs T)(slot:Slot T name id)(hty:typeOf (.builtin id)=pure (.type "method_descriptor"))(hm:MtR X id r)(ho:PE X o to)(ha:PA X (e::es) t)(hbase:attributeBase o name X.env (eval o X.env)=eval o X.env:=by rfl)(hfew:((backTo cpos (starEach (e::es) X.env)).all (λx=>!x.1)&&(backToKw cpos (keywordEach [] X.env)).all (λx=>x.1.isSome)
  && decide ((e::es).length+([]:List Keyword).length+(if ([]:List Keyword).isEmpty then 0 else 1)<30))=true:=by rfl)(hline:(apos.endLine == cpos.line)=true:=by rfl)(hs:starEach (e::es) X.env=(false,eval e X.env)::starEach es X.env:=by rfl)(hplain:(backTo cpos (starEach es X.env)).any (·.1)=false:=by rfl) :
 PE X (.Call (.Attribute o name apos) (e::es) [] cpos) (tBM X.K T r to t):=by
 intro A3 s σ H Q I h;refine wpAny_Call_method_late hbase hfew hline rfl (thn (ho A3 s σ H _ I h) λv s1 hI82=>?_);obtain⟨x,H1,I1,r1,ty,q1⟩:=hI82;obtain⟨h1,h2⟩:=xw5 I1 r1 ty;refine⟨T,id,pa,slot,hty,h1,h2,?_⟩;have hA:=ha cpos A3 s1 σ H1 _ I1 q1;rw[hs] at hA ⊢;refine Calls.callWith_builtin (by show (false||(backTo cpos (starEach es X.env)).any (·.1))=false;rw[hplain]<;>rfl) (Calls.evalArgs_plain ?_);exact thn hA λus s2 ⟨vs,H2,I2,r2,q2⟩=>hm A3 s2 σ H2 x vs v us Q I2 r1 r2 q2
end
noncomputable def MtM(X:Cx)(id:String)(r:V->List V->Hp->VK->Prop):Prop:=
 ∀(A3:List (Addr×Obj)) (s:Shared) (σ:St) (H:Hp) (x:V) (xs:List V) (v:Value) (us:List Value) (Q:VK),Inv X A3 σ H s->wr3 x v->wr4 xs us->r x xs H Q->
  wpAny (model X.prog X.w) X.A (call (.builtin id) (v::us)) (EP X A3 σ Q) X.xe s
theorem wr4.unc{x:V}{xs:List V}{us:List Value}(h:wr4 (x::xs) us):∃u r,us=u::r/\wr3 x u/\wr4 xs r:=by
 cases h with
 | cons r t=>exact⟨_,_,rfl,r,t⟩
def wr4.unn{us:List Value}(h:wr4 [] us):us=[]:=by
 cases h;rfl
def wr4.one{x:V}{us:List Value}(h:wr4 [x] us):∃u,us=[u]/\wr3 x u:=by
 obtain⟨u,r,e,a,b⟩:=h.unc;rw[b.unn] at e;exact⟨u,e,a⟩
theorem wr4.zero:∀{us:List Value},wr4 [] us->us=[]
 | _,.nil=>rfl
theorem wr4.dropLast(h:wr4 xs us):wr4 xs.dropLast us.dropLast:=by
 induction h with
 | nil=>exact .nil
 | cons r t ih=>
   cases t with
   | nil=>exact .nil
   | cons q t'=>exact .cons r ih
theorem wr4.reverse{xs:List V}{us:List Value}(h:wr4 xs us):wr4 xs.reverse us.reverse:=by
 induction h with
 | nil=>exact .nil
 | cons r t ih=>rw[Cv0,Cv0];exact wr4.append ih (.cons r .nil)
theorem wr4.rep(h:wr4 xs us):∀k:Nat,wr4 (List.replicate k xs).flatten (List.replicate k us).flatten
 | 0=>.nil
 | k+1=>by
   rw[By0,By0,Ck0,Ck0];exact wr4.append h (wr4.rep h k)
theorem xc3{α:Type}(l:List α):l.eraseIdx (l.length-1)=l.dropLast:=by
 induction l with
 | nil=>rfl
 | cons a r ih=>
   cases r with
   | nil=>rfl
   | cons b r=>
     have e:(a::b::r).length-1=((b::r).length-1)+1:=by
      have h1:(a::b::r).length=r.length+2:=rfl;have h2:(b::r).length=r.length+1:=rfl;omega
     rw[e,List.eraseIdx_cons_succ,ih]
     all_goals rfl
theorem yp0(its:List Value):∀(k:Nat) (acc:List Value),
 List.foldl (λx1 x2=>x1++x2) acc.toArray (List.replicate k its.toArray)=(acc++(List.replicate k its).flatten).toArray
 | 0,acc=>by simp
 | k+1,acc=>by
   have e:acc.toArray++its.toArray=(acc++its).toArray:=by simp
   have e2:(acc++its)++(List.replicate k its).flatten=acc++(List.replicate (k+1) its).flatten:=by
    rw[By0,Ck0,Av0]
   rw[<-e2,<-yp0 its k (acc++its),<-e,By0,List.foldl_cons]
section
variable{X:Cx}{A3:List (Addr×Obj)}{σ:St}{H:Hp}{s:Shared}{l b:Addr}{xs ys zs:List V}{prog:Program}{w:World}{A:Around}{E:Value->Shared->Prop}
def Inv.lset{its its':List Value}{n:Nat}{f:Array Value->Array Value}{t':Nat}(I:Inv X A3 σ H s)(hH:H l=some (.lst xs))(e:s.heap.get? l=some { cls:=.type "list",data:=.seq its.toArray n })(hf:f its.toArray=its'.toArray)(hv:wr4 ys its')(hz:ys.length<=sizeLine) :
 Inv X A3 σ (upd H l (.lst ys)) { s with heap:=s.heap.update l (Obj.mapSeq f),toks:=t' }:=by
 have q:=PySem.IsL.update e f;rw[hf] at q;refine I.write (x:=l) (e:=l) (by rw[hH];exact trivial) (.inl rfl) (λb' u hb hu=>(Ct0 s.heap (Obj.mapSeq f) (Ne.symm hb)).trans hu) ⟨_,q⟩ ?_;exact⟨hz,its',_,hv,q⟩
def Inv.lnew{t':Nat}(I:Inv X A3 σ H s)(hv:wr4 ys its)(hz:ys.length<=sizeLine) :
 Inv X A3 σ (upd H s.heap.objs.size (.lst ys)) { s with heap:=s.heap.push { cls:=.type "list",data:=.seq its.toArray },toks:=t' }:=
 I.laid (λ_ _ q=>Ab0 _ q) (Ad0 _) ⟨hz,its,0,hv,Af0 _ rfl⟩
def Inv.fresh(I:Inv X A3 σ H s):H s.heap.objs.size=none:=I.hok.fresh (Ad0 _)
def Inv.lstM(I:Inv X A3 σ H s)(hH:H l=some (.lst xs)):xs.length<=sizeLine/\∃(its:List Value) (n:Nat),wr4 xs its/\xs.length=its.length/\s.heap.get? l=some { cls:=.type "list",data:=.seq its.toArray n }:=by
 obtain⟨z,its,n,r,e⟩:=I.hok l _ hH;exact⟨z,its,n,r,r.length,e⟩
def yw2{n:Nat}(h:n<=sizeLine):Builtin.List.listTooLong n=false:=by
 unfold Builtin.List.listTooLong;exact Ao1 (by omega)
noncomputable def xg7:V->List V->Hp->VK->Prop:=λx vs H Q=>∃l xs y,x=.ref l/\vs=[y]/\H l=some (.lst xs)/\xs.length<sizeLine/\Q .non (upd H l (.lst (xs++[y])))
def zj6:MtM X "list.append" xg7:=by
 intro A3 s σ H x vs v us Q I rx rv h;obtain⟨l,xs,y,rfl,rfl,hH,hz,q⟩:=h;cases rx;obtain⟨u,rfl,ru⟩:=rv.one;obtain⟨z,its,n,r,hl,e⟩:=I.lstM hH;refine call_meets F.slot_list_append ⟨_,e,rfl⟩ F.entry_list_append (F.args_list_append_2 _ _) (PySem.list_append l its.toArray n u (by rw[Ag0];omega)) ⟨e,?_⟩;refine⟨.non,_,I.lset (its':=its++[u]) hH e (by simp) (r.append (.cons ru .nil)) ?_,rfl,q⟩;rw[Ai0,List.length_singleton];omega
noncomputable def xg6:V->List V->Hp->VK->Prop:=λx vs H Q=>∃l b xs zs,x=.ref l/\vs=[.ref b]/\H l=some (.lst xs)/\H b=some (.lst zs)/\xs.length+zs.length<=sizeLine/\Q .non (upd H l (.lst (xs++zs)))
def zq9:MtM X "list.extend" xg6:=by
 intro A3 s σ H x vs v us Q I rx rv h;obtain⟨l,b,xs,zs,rfl,rfl,hH,hB,hz,q⟩:=h;cases rx;obtain⟨u,rfl,ru⟩:=rv.one;cases ru;obtain⟨z,its,n,r,hl,e⟩:=I.lstM hH;obtain⟨z2,its2,n2,r2,hl2,e2⟩:=I.lstM hB;have hsz:its.toArray.size+its2.toArray.size<=sizeLine:=by rw[Ag0,Ag0];omega
 have hlong:¬(!its.toArray.isEmpty&&Builtin.List.listTooLong (its.toArray.size+its2.toArray.size))=true:=by
  rw[yw2 hsz,Bool.and_false];exact At0
 refine call_meets F.slot_list_extend ⟨_,e,rfl⟩ F.entry_list_extend (F.args_list_extend_2 _ _)
  (AutoSeq1.list_extend_list_list_0 l its.toArray n b its2.toArray n2 hlong (by rw[Ag0];omega) (by omega)) ⟨e,e2,?_⟩
 refine⟨.non,_,I.lset (its':=its++its2) hH e (by simp) (r.append r2) ?_,rfl,q⟩;rw[Ai0];omega
noncomputable def vy5:V->List V->Hp->VK->Prop:=λx vs H Q=>∃l xs y,x=.ref l/\vs=[]/\H l=some (.lst xs)/\xs[xs.length-1]?=some y/\Q y (upd H l (.lst xs.dropLast))
def wm2:MtM X "list.pop" vy5:=by
 intro A3 s σ H x vs v us Q I rx rv h;obtain⟨l,xs,y,rfl,rfl,hH,hy,q⟩:=h;cases rx;have hus:=rv.zero;subst hus;obtain⟨z,its,n,r,hl,e⟩:=I.lstM hH;obtain⟨u,hu,ru⟩:=r.get hy;have hy':its.toArray[its.toArray.size-1]?=some u:=by
  show its.toArray[its.length-1]?=some u;rw[<-Bf0,<-hl];exact hu
 refine call_meets F.slot_list_pop ⟨_,e,rfl⟩ F.entry_list_pop (F.args_list_pop_1 _) (MeetsSeq.list_pop_last l its.toArray n u hy' (by rw[Ag0];omega)) ⟨e,?_⟩;refine⟨y,_,I.lset (its':=its.dropLast) hH e ?_ r.dropLast ?_,ru,q⟩
 ·show its.toArray.eraseIdxIfInBounds (its.toArray.size-1)=its.dropLast.toArray
  rw[Ag0,List.eraseIdxIfInBounds_toArray,xc3]
 ·rw[List.length_dropLast]
  omega
noncomputable def xs1:V->List V->Hp->VK->Prop:=λx vs H Q=>∃l xs,x=.ref l/\vs=[]/\H l=some (.lst xs)/\Q .non (upd H l (.lst xs.reverse))
def xb6:MtM X "list.reverse" xs1:=by
 intro A3 s σ H x vs v us Q I rx rv h;obtain⟨l,xs,rfl,rfl,hH,q⟩:=h;cases rx;have hus:=rv.zero;subst hus;obtain⟨z,its,n,r,hl,e⟩:=I.lstM hH;refine call_meets F.slot_list_reverse ⟨_,e,rfl⟩ F.entry_list_reverse (F.args_list_reverse_1 _) (AutoSeq1.list_reverse_list_0 l its.toArray n (by rw[Ag0];omega)) ⟨e,?_⟩;refine⟨.non,_,I.lset (its':=its.reverse) hH e (by simp) r.reverse ?_,rfl,q⟩;rw[List.length_reverse];omega
noncomputable def vm7:R2:=λx y H Q=>∃l b xs zs,x=.ref l/\y=.ref b/\H l=some (.lst xs)/\H b=some (.lst zs)/\xs.length+zs.length<=sizeLine/\∀p,H p=none->Q (.ref p) (upd H p (.lst (xs++zs)))
def wl7:OpR X (binaryOp .Add) vm7:=by
 intro A3 s σ H x y v u Q I rx ry h;obtain⟨l,b,xs,zs,rfl,rfl,hH,hB,hz,q⟩:=h;cases rx;cases ry;obtain⟨z,its,n,r,hl,e⟩:=I.lstM hH;obtain⟨z2,its2,n2,r2,hl2,e2⟩:=I.lstM hB;refine PySem.P.add_list e e2 ?_ (by rw[Ag0,Ag0];omega);have ea:its.toArray++its2.toArray=(its++its2).toArray:=by simp
 rw[ea];exact⟨.ref _,_,I.lnew (t':=s.toks) (r.append r2) (by rw[Ai0];omega),rfl,q _ I.fresh⟩
noncomputable def vm6:R2:=λx y H Q=>∃l k xs,x=.ref l/\y=.int k/\H l=some (.lst xs)/\-(2 ^ 63)<=k/\k<2 ^ 63/\xs.length*k.toNat<=sizeLine/\
 ∀p,H p=none->Q (.ref p) (upd H p (.lst (List.replicate k.toNat xs).flatten))
theorem wf1{α:Type}(xs:List α)(k:Nat):(List.replicate k xs).flatten.length=k*xs.length:=by
 induction k with
 | zero=>simp
 | succ k ih=>rw[By0,Ck0,Ai0,ih,Nat.succ_mul,Nat.add_comm]
def wl6:OpR X (binaryOp .Mult) vm6:=by
 intro A3 s σ H x y v u Q I rx ry h;obtain⟨l,k,xs,rfl,rfl,hH,h1,h2,hz,q⟩:=h;cases rx;obtain⟨t,rfl⟩:=ry;obtain⟨z,its,n,r,hl,e⟩:=I.lstM hH;have hlen:its.toArray.size*k.toNat<=sizeLine:=by rw[Ag0,<-hl];exact hz
 have hcap:¬its.toArray.size*k.toNat>(2 ^ 63-1) / 8:=by
  have:(sizeLine:Nat)<=(2 ^ 63-1) / 8:=by decide
  omega
 have hfit:¬(!Builtin.List.listFitsIndex k)=true:=by
  rw[fitsIndex_both h1 h2];exact At0
 have hlong:¬Builtin.List.listTooLong (its.toArray.size*k.toNat)=true:=by
  rw[yw2 hlen];exact At0
 have hnew:List.foldl (λx1 x2=>x1++x2) #[] (List.replicate (if its.toArray.isEmpty=true then 0 else k.toNat) its.toArray)=(List.replicate k.toNat its).flatten.toArray:=by
  have f0:∀m:Nat,List.foldl (λx1 x2=>x1++x2) #[] (List.replicate m its.toArray)=(List.replicate m its).flatten.toArray:=λm=>by
   have:=yp0 its m [];rw[List.nil_append] at this;exact this
  rw[f0];cases its with
  | nil=>simp
  | cons a r'=>rw[if_neg (by simp)]
 refine wpAny_binaryOp_repeat_ref (T:="list") (U:="int") (by decide) ⟨_,e,rfl⟩ (λs'=>typeIs_int s' k t) noFill_list_mul F.fills_int_mul F.slot_int_rmul repeat_list F.slot_int_index.lookup
  (call_meets F.slot_int_rmul (typeIs_int s k t) F.entry_int_rmul (F.args_int_rmul_2 _ _) (int___rmul___int_list k t l its.toArray n)
   ⟨e,rfl,⟨_,e,rfl⟩,call_meets F.slot_list_mul ⟨_,e,rfl⟩ F.entry_list_mul (F.args_list_mul_2 _ _) (AutoListH.list___mul___list_int_3 l its.toArray n k t hfit hcap hlong) ⟨e,?_⟩⟩)
 rw[hnew];exact⟨.ref _,_,I.lnew (t':=s.toks) (r.rep k.toNat) (by rw[wf1,Nat.mul_comm];exact hz),rfl,q _ I.fresh⟩
end
end L2
namespace Att
open PySem PySem.W PySem.Calls PyProof.Rows
theorem yd5:∀(ns:List Int) (vs:List Value),WellAll P h vs (ns.map WData.int)->IntsAre vs ns:=by
 intro ns;induction ns with
 | nil=>
   intro vs w;rw[Cz0] at w;cases w;exact .nil
 | cons n ns ih=>
   intro vs w;rw[Ax0] at w;cases w with
   | cons a b=>
     cases a;exact .cons _ _ (ih _ b)
theorem xf8{l:OpenLaw}{n:Nat}(hn:l.most=some n){P:Params}{h:Heap}{args:List WData}{vals:List Value}(hpre:l.row.toRowW.claim.pre args=true)(hwl:WellAll P h vals args) :
 ∃a vs ns,vals=[Value.ref a]/\args=[WData.list (ns.map WData.int)]/\h.get? a=some { cls:=.type "list",data:=.seq vs.toArray }/\IntsAre vs ns/\ns.length<=n:=by
 have hsh:WShape.hasAll [] args [.list .int]=true:=(pre_splitW hpre).1;have hc:l.pre.holds [] { args:=args }=true:=(pre_splitW hpre).2;obtain⟨d,r,rfl,h1,h2⟩:=hasAllW_cons hsh;obtain rfl:=hasAllW_nil h2;obtain⟨xs,rfl,h3⟩:=hasW_list h1;obtain⟨ns,rfl⟩:=items_int h3;have hlen:ns.length<=n:=by
  unfold OpenLaw.pre at hc;have h4:(WTm.not (.lt (.lit (.int (n:Int))) (.len (.arg 0)))).holds [] { args:=[.list (ns.map .int)] }=true:=by
   have h4:=(holds_andW hc).1;rw[hn] at h4;exact h4
  have h5:=condW_of h4 (w_not (w_lt w_lit (w_len_list (w_arg rfl))));rw[Aa0] at h5;refine Nat.le_of_not_lt λq=>?_
  have q':(n:Int)<((ns.length:Nat):Int):=by omega
  first
   | (rw[Ap1 q'] at h5;exact absurd h5 (by decide))
   | (simp at h5;omega)
 cases hwl with
 | cons w1 w2=>
   cases w2;cases w1 with
   | list ho hall=>exact⟨_,_,ns,rfl,rfl,ho,yd5 ns _ hall,hlen⟩
def xh5(l:OpenLaw)(args:List WData):l.row.toRowW.claim.post args (.bool true) args=true:=
 postW_of (r:=l.row.toRowW) (X:=(true == true))
  (show WShape.has [] (.bool true) .bool=true by first | rfl | decide | simp[WShape.has,WShape.arms,WShape.armsAll])
  (show (WTm.eq .res (.lit (.bool true))).value [] { args:=args,res:=some (.bool true),after:=args }=some (.bool (true == true)) from w_eq_bool (w_res rfl) w_lit) rfl
def attach_call{l:OpenLaw}{n:Nat}{q:Program}{loose:List Str}{XP:(Str->Option Value)->Heap->Prop}{YP:World->Heap->Prop}{d:DefRec}(hn:l.most=some n)(hdf:d.params.defaults=[])(call:∀(w:World) (s₀ s₁:Shared) (mg mb:Str->Option Value) (fa:Addr) (o:Obj) (pm cd doc:Value) (a:Addr) (vs:List Value) (ns:List Int),
  Ground q loose [] XP w s₀ mg mb s₁.heap->YP w s₁.heap->
  s₁.heap.get? fa=some o->o.data=.func (docDef d.name d.params d.body d.scope pm cd doc)->s₁.heap.CodeRec cd d.name->mg d.name=some (.ref fa)->
  s₁.heap.get? a=some { cls:=.type "list",data:=.seq vs.toArray }->IntsAre vs ns->ns.length<=n->s₁.gens=#[]->
  codeAny (model l.prog w) callerA (.call (.ref fa) ⟨[.ref a],[]⟩) (λr s'=>r=.ok (.ret (.bool true))/\OldK s₁.heap s'.heap/\s'.os=s₁.os/\AllBare s'.gens) s₁) :
 WalkO q loose XP YP l.row.toRowW d [] (λf vs=>PySem.call f vs):=by
 intro w s₀ s₁ mg mb G Y fa o pm cd doc dV kV ho hd hcd hD hmg hg args vals as hpre hlay hrd hwl hlo;obtain rfl:dV=.none:=Dflts.none hD hdf;obtain rfl:kV=.none:=Dflts.noKw hD;obtain⟨a,vs,ns,rfl,rfl,hobj,hints,hlen⟩:=xf8 hn hpre hwl;refine enter_call (codeAny_mono (call w s₀ s₁ mg mb fa o pm cd doc a vs ns G Y ho (fd_plain hd) hcd hmg hobj hints hlen hg) λr s' hq=>?_);obtain⟨rfl,h2,h3,h4⟩:=hq;exact⟨.inl ⟨.bool true,.bool true,[],rfl,λ_=>rfl,.bool true,xh5 l _,λ_=>⟨List.Pairwise.nil,λ_ hm=>(nomatch hm)⟩⟩,h2,h3,h4⟩
section
variable{prog:Program}{w:World}{A:Around}{E:Value->Shared->Prop}{s:Shared}{K:Frag}
end
end Att
namespace L2
theorem yl9:∀{vs:List Value} {ns:List Int},IntsAre vs ns->wr4 (ns.map V.int) vs
 | _,_,.nil=>.nil
 | _,_,.cons n t h=>.cons ⟨t,rfl⟩ (yl9 h)
noncomputable def vt9(H:Hp):Prop:=∀b,H b=none\/∃o xs,H b=some (.frz o (.lst xs))
open H in
theorem xt6{P:Program}{w:World}{K:PySem.W.Frag}{mg mb:Str->Option Value}{CX:CXT}{k:Nat}{fa a:Addr}{fd:FuncData}{x:Str}{sp:Sp}{s₁:Shared}{vs:List Value}{ns:List Int}(KX:K.In s₁.heap)(hns:s₁.heap.Ns mainGlobals mg)(hb:s₁.heap.Ns builtinsNs mb)(hbb:∀x:Str,x≠"__name__"->mb x=bootBuiltins x)(hlim:s₁.heap.NoLimit)(hg:s₁.gens=#[])(ha:s₁.heap.get? a=some { cls:=.type "list",data:=.seq vs.toArray })(hi:IntsAre vs ns)(hl:ns.length<=sizeLine)(hr:ws5 k callerA)(F:∀base:Heap,K.In base->base.Ns mainGlobals mg->wy0 P w K mg base CX k fa fd [x] sp)(hbind:∀(s:Shared) (u:Value),BindsTo s fd ⟨[u],[]⟩ [(x,u)])(hsp:∀H:Hp,vt9 H->SqL K H a (ns.map V.int)->sp [.ref a] H (λv _=>v=.bl true) λ_ _ _=>False)(hCX:∀H e s',CX [] H s₁ (λ_ _ _=>False) e s'->False) :
 codeAny (model P w) callerA (.call (.ref fa) ⟨[.ref a],[]⟩) (λr s'=>r=.ok (.ret (.bool true))/\OldK s₁.heap s'.heap/\s'.os=s₁.os/\AllBare s'.gens) s₁:=by
 have rv:=yl9 hi;have lenV:=hi.length
 -- from an abstract heap in which nothing but the script may be tracked
 have core:∀H:Hp,vt9 H->SqL K H a (ns.map V.int)->HOk P w H s₁.heap->(∀b,H b≠none->b=a)->(H a≠none->K.lookup a=none)->
  codeAny (model P w) callerA (.call (.ref fa) ⟨[.ref a],[]⟩) (λr s'=>r=.ok (.ret (.bool true))/\OldK s₁.heap s'.heap/\s'.os=s₁.os/\AllBare s'.gens) s₁:=by
  intro H hO hS hok hA hK;have base_of:∀{b:Addr} {o:Obj},s₁.heap.get? b=some o->H b=none->(ve6 s₁.heap H).get? b=some o:=λe n=>xu4 e n
  have noA:∀{b:Addr} {o:Obj} {es:Array DictEntry} {ep:Nat},s₁.heap.get? b=some o->o.data=.dict es ep->H b=none:=λ{b o es ep} e d=>by
   cases q:H b with
   | none=>rfl
   | some u=>
     have e':b=a:=hA b (by rw[q];simp);subst e';rw[ha] at e;cases e;have d':Data.seq vs.toArray _=Data.dict es ep:=d;cases d'
  have nsK:∀{b:Addr} {m:Str->Option Value},s₁.heap.Ns b m->(ve6 s₁.heap H).Ns b m:=λ{b m} ⟨o,es,ep,e,d,r⟩=>⟨o,es,ep,base_of e (noA e d),d,r⟩
  have hKb:K.In (ve6 s₁.heap H):=λb o e=>base_of (KX b o e) (by
   cases q:H b with
   | none=>rfl
   | some u=>
     have e':b=a:=hA b (by rw[q];simp);subst e';rw[hK (by rw[q];simp)] at e;cases e)
  have hM:Mod K mg (ve6 s₁.heap H):=⟨hKb,nsK hns,⟨mb,nsK hb,hbb⟩,let ⟨mc,h1,h2⟩:=hlim;⟨mc,nsK h1,h2⟩⟩;have e0:vn4 P w K mg (ve6 s₁.heap H) callerA [] s₁ H:=⟨rfl,hM,λb o e=>we2 e,Nat.le_of_eq (xm3 _ _),trivial,λb hb=>absurd (show b∈([]:List Addr) from hb) (by simp),hok,.of_eq hg⟩;refine codeAny_mono ((F _ hKb (nsK hns)).run callerA [] s₁ H ⟨[.ref a],[]⟩ [.ref a] [.ref a] _ _ hr e0 (hbind s₁ (.ref a)) (.cons rfl .nil) (hsp H hO hS)) λr s' h=>?_
  cases r with
  | error e=>exact(hCX H e s' h).elim
  | ok fl=>
    cases fl with
    | next=>exact False.elim h
    | brk=>exact False.elim h
    | cont=>exact False.elim h
    | ret u=>
      obtain⟨v,H',os,bare,un,hok',r',q⟩:=h;have q':v=.bl true:=q;subst q';obtain rfl:u=Value.bool true:=r';refine⟨rfl,OldK.of_keep λb o e=>?_,os,bare⟩;cases q:H b with
      | none=>exact un.keep b o e q (by intro z;exact absurd (show b∈([]:List Addr) from z) (by simp)) (by simp)
      | some u=>
        rcases hO b with z | ⟨ob,xs,z⟩
        ·rw[q] at z;cases z
        ·have z2:=un.frzs b ob _ z
         obtain⟨e1,_⟩:=hok b _ z;obtain⟨e2,_⟩:=hok' b _ z2;rw[e] at e1;cases e1;exact e2
 cases hk:K.lookup a with
 | some o=>
   -- the script is one of the module's own objects
   have e:=KX a o hk;rw[ha] at e;cases e;refine core (λ_=>none) (λ_=>.inl rfl) (.inr ⟨_,vs.toArray,_,hk,rfl,rfl,rfl,by rw[Ag0,lenV];exact hl,by simpa using rv⟩) (λb u z=>by have z':(none:Option HO)=some u:=z;cases z') (λb z=>absurd rfl z) λz=>absurd rfl z
 | none=>
   refine core (λb=>if b=a then some (.frz { cls:=.type "list",data:=.seq vs.toArray } (.lst (ns.map V.int))) else none) (λb=>?_) (.inl (.inr ⟨{ cls:=.type "list",data:=.seq vs.toArray },if_pos rfl⟩)) (λb u z=>?_) (λb z=>?_) λ_=>hk
   ·by_cases hb:b=a
    ·exact .inr ⟨_,_,if_pos hb⟩
    ·exact .inl (if_neg hb)
   ·by_cases hb:b=a
    ·have z':=(if_pos hb).symm.trans z
     cases z';subst hb;exact⟨ha,by rw[Aa0];exact hl,vs,_,rv,ha⟩
    ·have z':=(if_neg hb).symm.trans z
     cases z'
   ·by_cases hb:b=a
    ·exact hb
    ·exact absurd (if_neg hb) z
def walk_of{l:PySem.W.OpenLaw}{n k:Nat}{q:Program}{loose:List Str}{XP:(Str->Option Value)->Heap->Prop}{YP:World->Heap->Prop}{d:DefRec}{K:Params->PySem.W.Frag}{CX:World->CXT}{sp:World->Sp}{x:Str}(hn:l.most=some n)(hn2:n<=sizeLine)(hdf:d.params.defaults=[])(hr:ws5 k callerA)(hY:∀(w:World) (h:Heap),YP w h->(K w.params).In h)(F:∀(w:World) (mg:Str->Option Value) (fa:Addr) (h:Heap),(K w.params).In h->h.Ns mainGlobals mg->mg d.name=some (.ref fa)->
  ∃fd:FuncData,(∀(s:Shared) (u:Value),BindsTo s fd ⟨[u],[]⟩ [(x,u)])/\
   ∀base:Heap,(K w.params).In base->base.Ns mainGlobals mg->wy0 l.prog w (K w.params) mg base (CX w) k fa fd [x] (sp w))(hsp:∀(w:World) (H:Hp) (a:Addr) (ns:List Int),ns.length<=n->vt9 H->SqL (K w.params) H a (ns.map V.int)->sp w [.ref a] H (λv _=>v=.bl true) λ_ _ _=>False)(hCX:∀(w:World) (H:Hp) (s:Shared) (e:Value) (s':Shared),CX w [] H s (λ_ _ _=>False) e s'->False) :
 PySem.W.WalkO q loose XP YP l.row.toRowW d [] (λf vs=>PySem.call f vs):=by
 refine Att.attach_call hn hdf λw s₀ s₁ mg mb fa o pm cd doc a vs ns G Y ho hd hcd hmg hobj hints hlen hg=>?_
 have KX:=hY w _ Y;obtain⟨fd,hb,hF⟩:=F w mg fa _ KX G.T.g hmg;exact xt6 KX G.T.g G.T.b G.T.builtins G.T.nolimit hg hobj hints (Ba0 hlen hn2) hr hF hb (λH hO hS=>hsp w H a ns hlen hO hS) λH e s'=>hCX w H s₁ e s'
noncomputable def zu0(s:Stmt):Arguments:=match s with
 | .FunctionDef _ a _ _ _ _ _ _ _ _=>a
 | _=>{ posonlyargs:=[],args:=[],vararg:=none,kwonlyargs:=[],kw_defaults:=[],kwarg:=none,defaults:=[] }
noncomputable def zc3(s:Stmt):List Stmt:=match s with
 | .FunctionDef _ _ b _ _ _ _ _ _ _=>b
 | _=>[]
noncomputable def za4(s:Stmt):Scope:=match s with
 | .FunctionDef _ _ _ _ _ _ sc _ _ _=>sc
 | _=>{ kind:=.function,names:=[],isGenerator:=false,isCoroutine:=false }
noncomputable abbrev CX0:CXT:=λ_ _ _ _ _ _=>False
noncomputable abbrev E0:XK:=λ_ _ _=>False
def vg5:xp6 CX0 X E0:=λ_ _ _ _ _ _ _ h=>h.elim
structure Fun(K:PySem.W.Frag)(x qual:Str)(st:Stmt)(f:Addr)(fd:FuncData):Prop where
 ex:∃(oc:Value) (od:Option Addr) (kV doc pm:Value) (an:Option Addr) (cdv ct:Value) (osl:Array (Option Value)),
  fd=fnOf x qual (zu0 st) (zc3 st) (za4 st) .none kV doc pm an cdv ct/\K.lookup f=some ⟨oc,od,.func fd,osl⟩/\codeIn K cdv qual=true
 kp:keepIn K (.ref f)=true
section
variable{P:Program}{w:World}{K:PySem.W.Frag}{mg:Str->Option Value}{base:Heap}
def Fun.ok{x qual:Str}{st:Stmt}{f:Addr}{fd:FuncData}{N ps:List Str}{k:Nat}{sp:Sp}(F:Fun K x qual st f fd)(S:zc6 N ps (za4 st))(len:∀vs H Q E,sp vs H Q E->vs.length=ps.length)(hbody:∀(cdv:Value) (A:Around) (outer:List Env) (s:Shared) (H:Hp) (vs:List V) (Q:VK) (E:XK),ws5 k (A.deeper (envOfC qual (za4 st) s.heap.objs.size f cdv))->sp vs H Q E->
  ∃t,PSs (wt9 CX0 P w K mg base N qual (za4 st) f cdv A outer s H E).nox (zc3 st) t/\t { nx:=λ_ H'=>Q .non H',rt:=Q } (ws4 N vs) H):wy0 P w K mg base CX0 (k+1) f fd ps sp:=by
 obtain⟨oc,od,kV,doc,pm,an,cdv,ct,osl,rfl,lk,hcd⟩:=F.ex;refine vr7 lk hcd S len λA outer s H vs Q E hr hsp=>?_
 obtain⟨t,h,q⟩:=hbody cdv A outer s H vs Q E hr hsp;exact⟨t,h.nox,q⟩
def Fun.binds{x qual:Str}{st:Stmt}{f:Addr}{fd:FuncData}{ps:List Str}(F:Fun K x qual st f fd)(h:∀(kV doc pm:Value) (an:Option Addr) (cdv ct:Value) (us:List Value),us.length=ps.length->bindArgs (fnOf x qual (zu0 st) (zc3 st) (za4 st) .none kV doc pm an cdv ct) ⟨us,[]⟩=pure (ps.zip us)):vb0 K fd ps []:=by
 obtain⟨oc,od,kV,doc,pm,an,cdv,ct,osl,rfl,lk,hcd⟩:=F.ex;exact .all (h kV doc pm an cdv ct)
def wo2{x qual:Str}{st:Stmt}{f:Addr}{oc:Value}{od an:Option Addr}{osl:Array (Option Value)}{kV doc pm cdv ct:Value}(l:K.lookup f=some ⟨oc,od,.func (fnOf x qual (zu0 st) (zc3 st) (za4 st) .none kV doc pm an cdv ct),osl⟩)(c:codeIn K cdv qual=true)(k:keepIn K (.ref f)=true):Fun K x qual st f (fnOf x qual (zu0 st) (zc3 st) (za4 st) .none kV doc pm an cdv ct):=⟨⟨oc,od,kV,doc,pm,an,cdv,ct,osl,rfl,l,c⟩,k⟩
end
def wu9{k:Nat}(hr:ws5 k A):A.units+1<cLine:=Nat.lt_of_le_of_lt (Nat.add_le_add_left (by decide:1<=64) _) hr.units
def zp6{n:Nat}(h:n<=1000):n<sizeLine:=Nat.lt_of_le_of_lt h (by decide)
section
variable{X:Cx}
def pv(i:Nat){x:Str}(hN:X.N[i]?=some x:=by rfl)(hv:Vis X.env.scope x:=by first | exact Or.inl rfl | exact Or.inr (Or.inl rfl) | exact Or.inr (Or.inr rfl))(hd:(x == ("__debug__" : Str))=false:=by decide)(hcd:(x == ("__classdict__" : Str))=false:=by decide):PE X (.Name x pos) (wy6 i):=wk9 hN hv hd hcd
end
def vl2{A B:Prop}(h:B):if false=true then A else B:=by
 rw[if_neg At0];exact h
def vi4{A B:Prop}(h:A):if true=true then A else B:=by
 rw[if_pos rfl];exact h
noncomputable def wx7(H H':Hp):Prop:=∀b o,H b=some o->H' b=some o
def wx7.refl(H:Hp):wx7 H H:=λ_ _ h=>h
def wx7.seq{K:PySem.W.Frag}{H H':Hp}{a:Addr}{xs:List V}(e:wx7 H H')(h:SqL K H a xs):SqL K H' a xs:=by
 rcases h with (h | ⟨o,h⟩) | h
 ·exact .inl (.inl (e _ _ h))
 ·exact .inl (.inr ⟨o,e _ _ h⟩)
 ·exact .inr h
section
variable{κ:Type}[DecidableEq κ]
noncomputable def wx0(kvs:List (κ×V))(k:κ):Option V:=(kvs.find? λkv=>decide (kv.1=k)).map (·.2)
noncomputable def wu1(kvs:List (κ×V))(k:κ)(v:V):List (κ×V):=
 if (kvs.any λkv=>decide (kv.1=k))=true then kvs.map (λkv=>if kv.1=k then (kv.1,v) else kv) else kvs++[(k,v)]
def zo0{p:κ×V}{r:List (κ×V)}{k:κ}(e:p.1=k):wx0 (p::r) k=some p.2:=by simp[wx0,Cq0,e]
def zo1{p:κ×V}{r:List (κ×V)}{k:κ}(e:¬p.1=k):wx0 (p::r) k=wx0 r k:=by simp[wx0,Cq0,e]
theorem zu6(k:κ):∀kvs:List (κ×V),(kvs.any λkv=>decide (kv.1=k))=(wx0 kvs k).isSome
 | []=>rfl
 | p::r=>by
   rw[List.any_cons];by_cases e:p.1=k
   ·simp only[zo0 e,Ap1 e,Bool.true_or,Option.isSome_some]
   ·rw[zo1 e,Ao1 e,Bool.false_or];exact zu6 k r
def zl6(kvs:List (κ×V))(k:κ)(v:V):(wu1 kvs k v).length<=kvs.length+1:=by
 unfold wu1;split
 ·rw[Aa0];omega
 ·rw[Ai0,Ar0,Ch0];omega
theorem va8.isSome_eq(r:va8 o u):o.isSome=u.isSome:=by
 cases o with
 | none=>cases u with
   | none=>rfl
   | some _=>exact(show False from r).elim
 | some _=>cases u with
   | none=>exact(show False from r).elim
   | some _=>rfl
theorem va8.getD(r:va8 o u)(rd:wr3 d d'):wr3 (o.getD d) (u.getD d'):=by
 cases o with
 | none=>cases u with
   | none=>exact rd
   | some _=>exact(show False from r).elim
 | some _=>cases u with
   | none=>exact(show False from r).elim
   | some _=>exact r
theorem KV.val(r:KV kvs vs)(k:κ):va8 (wx0 kvs k) (valueAt vs k):=by
 unfold KV at r;induction r with
 | nil=>exact True.intro
 | @cons p q ps qs h t ih=>
   obtain⟨h1,h2⟩:=h;by_cases e:p.1=k
   ·have e':q.1=k:=h1.symm.trans e
    have b:valueAt (q::qs) k=some q.2:=by simp[valueAt,Cq0,e']
    rw[zo0 e,b];exact h2
   ·have e':¬q.1=k:=λz=>e (h1.trans z)
    have b:valueAt (q::qs) k=valueAt qs k:=by simp[valueAt,Cq0,e']
    rw[zo1 e,b];exact ih
theorem KV.any{kvs:List (κ×V)}{vs:List (κ×Value)}(r:KV kvs vs)(k:κ):(kvs.any λkv=>decide (kv.1=k))=vs.any λkv=>decide (kv.1=k):=by
 unfold KV at r;induction r with
 | nil=>rfl
 | cons h t ih=>rw[List.any_cons,List.any_cons,ih,h.1]
theorem KV.repl(r:KV kvs vs)(k:κ)(ry:wr3 y u) :
 KV (kvs.map λkv=>if kv.1=k then (kv.1,y) else kv) (vs.map λkv=>if kv.1=k then (kv.1,u) else kv):=by
 unfold KV at r ⊢;induction r with
 | nil=>exact .nil
 | @cons p q ps qs h t ih=>
   rw[Ax0,Ax0];refine .cons ?_ ih;obtain⟨h1,h2⟩:=h;by_cases e:p.1=k
   ·rw[if_pos e,if_pos (h1.symm.trans e)];exact⟨h1,ry⟩
   ·rw[if_neg e,if_neg (λz=>e (h1.trans z))];exact⟨h1,h2⟩
def KV.put(r:KV kvs vs)(k:κ)(ry:wr3 y u):KV (wu1 kvs k y) (stored vs k u):=by
 unfold wu1 stored;rw[r.any k];by_cases e:(vs.any λkv=>decide (kv.1=k))=true
 ·rw[if_pos e,if_pos e];exact r.repl k ry
 ·rw[if_neg e,if_neg e];exact Paired.snoc r ⟨rfl,ry⟩
def KV.length{kvs:List (κ×V)}{vs:List (κ×Value)}(r:KV kvs vs):kvs.length=vs.length:=Paired.length r
end
theorem wz1(r:wr3 (kV k) u):(ze5 P w).is k u=true:=by
 cases k with
 | inl i=>obtain⟨t,e⟩:=(show ∃t,u=Value.int i t from r);subst e;exact yt0 P w i t
 | inr x=>obtain⟨t,e⟩:=(show ∃t,u=Value.str x t from r);subst e;exact ys9 P w x t
theorem yo7:∀{ks:List Key} {us:List Value},wr4 (ks.map kV) us->ItemsAre (ze5 P w) ks us
 | [],_,r=>by rw[Cz0] at r;cases r;exact .nil
 | k::ks,_,r=>by
   rw[Ax0] at r;cases r with
   | cons h t=>exact .cons (wz1 h) (yo7 t)
noncomputable abbrev KT(H:Hp):List (List Key×V)->List (List Key×Addr×Value)->Prop:=Paired λp q=>p.1=q.1/\H q.2.1=some (.tup (p.1.map kV))/\wr3 p.2 q.2.2
theorem KT.val(r:KT H kvs xs)(k:List Key):va8 (wx0 kvs k) ((atKey xs k).map (·.2)):=by
 induction r with
 | nil=>exact True.intro
 | @cons p q ps qs h t ih=>
   obtain⟨h1,_,h2⟩:=h;by_cases e:p.1=k
   ·have e':q.1=k:=h1.symm.trans e
    have b:atKey (q::qs) k=some q.2:=by simp[atKey,Cq0,e']
    rw[zo0 e,b];exact h2
   ·have e':¬q.1=k:=λz=>e (h1.trans z)
    have b:atKey (q::qs) k=atKey qs k:=by simp[atKey,Cq0,e']
    rw[zo1 e,b];exact ih
theorem KT.repl(r:KT H kvs xs)(k:List Key)(ry:wr3 y u) :
 KT H (kvs.map λkv=>if kv.1=k then (kv.1,y) else kv) (xs.map (putAt k u)):=by
 induction r with
 | nil=>exact .nil
 | @cons p q ps qs h t ih=>
   rw[Ax0,Ax0];refine .cons ?_ ih;obtain⟨h1,h2,h3⟩:=h;unfold putAt;by_cases e:p.1=k
   ·rw[if_pos e,if_pos (h1.symm.trans e)];exact⟨h1,h2,ry⟩
   ·rw[if_neg e,if_neg (λz=>e (h1.trans z))];exact⟨h1,h2,h3⟩
def KT.put(r:KT H kvs xs)(k:List Key)(hb:H b=some (.tup (k.map kV)))(ry:wr3 y u) :
 KT H (wu1 kvs k y) (storedH xs k b u):=by
 have e:(kvs.any λkv=>decide (kv.1=k))=(atKey xs k).isSome:=by
  rw[zu6,(r.val k).isSome_eq,Option.isSome_map]
 unfold wu1 storedH;rw[e];by_cases q:(atKey xs k).isSome=true
 ·rw[if_pos q,if_pos q];exact r.repl k ry
 ·rw[if_neg q,if_neg q];exact Paired.snoc r ⟨rfl,hb,ry⟩
def KT.keeps(r:KT H kvs xs)(ht:∀b ys,H b=some (.tup ys)->H' b=some (.tup ys)):KT H' kvs xs:=
 Paired.mapP r λ_ _ z=>⟨z.1,ht _ _ z.2.1,z.2.2⟩
section
variable{P:Program}{w:World}{H:Hp}{h:Heap}{a:Addr}
def vk1(ok:HOk P w H h)(e:Rd H a u):ws2 P w H h a u:=e.ok ok
def wz5(ok:HOk P w H h)(e:Rd H a (.dK kvs)):kvs.length<=sizeLine/\(a == sysModules)=false/\∃vs,KV kvs vs/\h.DictOf (ze5 P w) a vs:=
 show ws2 P w H h a (.dK kvs) from vk1 ok e
def vl7(ok:HOk P w H h)(e:H a=some (.dK kvs)):kvs.length<=sizeLine/\(a == sysModules)=false/\∃vs,KV kvs vs/\h.DictOf (ze5 P w) a vs:=wz5 ok (.inl e)
def zy9(ok:HOk P w H h)(e:H a=some (.tup (ks.map kV))):(tupleKind (ze5 P w)).is h ks a:=by
 obtain⟨_,its,r,⟨o,h1,h2,n,h3⟩,_⟩:=(show ws2 P w H h a (.tup (ks.map kV)) from ok a _ e);exact⟨o,its.toArray,n,h1,h2,h3,by simpa using yo7 r⟩
def wz4(ok:HOk P w H h)(e:Rd H a (.dT kvs)):kvs.length<=sizeLine/\(a == sysModules)=false/\
 ∃xs,KT H kvs xs/\h.DictOfH (tupleKind (ze5 P w)) a xs:=by
 obtain⟨z,y,xs,r,o,es,ep,h1,h2,h3,h4,h5⟩:=(show ws2 P w H h a (.dT kvs) from vk1 ok e);refine⟨z,y,xs,r,o,es,ep,h1,h2,h3,h4,λx hx=>?_,h5⟩;have all:∀{l:List (List Key×V)} {m:List (List Key×Addr×Value)},KT H l m->∀x∈m,(tupleKind (ze5 P w)).is h x.1 x.2.1:=by
  intro l m q;induction q with
  | nil=>intro x hx;exact nomatch hx
  | @cons p q ps qs hq t ih=>
    intro x hx;rcases Aj0.mp hx with e | hx
    ·subst e
     exact zy9 ok (by rw[<-hq.1];exact hq.2.1)
    ·exact ih x hx
 exact all r x hx
def vh8(ok:HOk P w H h)(e:H a=some (.dT kvs)):kvs.length<=sizeLine/\(a == sysModules)=false/\
 ∃xs,KT H kvs xs/\h.DictOfH (tupleKind (ze5 P w)) a xs:=wz4 ok (.inl e)
end
noncomputable def ww8(H:Hp)(a:Addr)(y:V)(r:Option V):Prop:=
 (∃kvs k,Rd H a (.dK kvs)/\y=kV k/\r=wx0 kvs k)\/∃kvs k b,Rd H a (.dT kvs)/\y=.ref b/\H b=some (.tup (k.map kV))/\r=wx0 kvs k
noncomputable def vf0(H:Hp)(a:Addr)(y v:V)(H':Hp):Prop:=
 (∃kvs k,H a=some (.dK kvs)/\y=kV k/\kvs.length<sizeLine/\H'=upd H a (.dK (wu1 kvs k v)))\/
 ∃kvs k b,H a=some (.dT kvs)/\y=.ref b/\H b=some (.tup (k.map kV))/\kvs.length<sizeLine/\H'=upd H a (.dT (wu1 kvs k v))
def ww8.k{H:Hp}{a:Addr}{kvs:List (Key×V)}{k:Key}(e:H a=some (.dK kvs)):ww8 H a (kV k) (wx0 kvs k):=.inl ⟨kvs,k,.inl e,rfl,rfl⟩
def ww8.t{H:Hp}{a b:Addr}{kvs:List (List Key×V)}{k:List Key}(e:H a=some (.dT kvs))(eb:H b=some (.tup (k.map kV))):ww8 H a (.ref b) (wx0 kvs k):=.inr ⟨kvs,k,b,.inl e,rfl,eb,rfl⟩
def vf0.k{H:Hp}{a:Addr}{kvs:List (Key×V)}{k:Key}{v:V}(e:H a=some (.dK kvs))(hl:kvs.length<sizeLine):vf0 H a (kV k) v (upd H a (.dK (wu1 kvs k v))):=.inl ⟨kvs,k,e,rfl,hl,rfl⟩
def vf0.t{H:Hp}{a b:Addr}{kvs:List (List Key×V)}{k:List Key}{v:V}(e:H a=some (.dT kvs))(eb:H b=some (.tup (k.map kV)))(hl:kvs.length<sizeLine) :
 vf0 H a (.ref b) v (upd H a (.dT (wu1 kvs k v))):=.inr ⟨kvs,k,b,e,rfl,eb,hl,rfl⟩
section
variable{X:Cx}{A3:List (Addr×Obj)}{σ:St}{H:Hp}{s:Shared}{a:Addr}{y v:V}{u r:Value}{o:Option V}{A:Around}{E:Value->Shared->Prop}
def Inv.big(I:Inv X A3 σ H s):sysModules<s.heap.objs.size:=by
 have h:mainGlobals<s.heap.objs.size:=(I.mod.glob.keeps I.bk).lt;exact Nat.lt_trans (by decide) h
def xn9(hu:A.units+1<cLine)(I:Inv X A3 σ H s)(g:ww8 H a y (some v))(ry:wr3 y u)(h:∀w' s',Inv X A3 σ H s'->wr3 v w'->Q w' s') :
 wpAny (model X.prog X.w) A (getItem (.ref a) u) Q E s:=by
 rcases g with⟨kvs,k,e,ey,l⟩ | ⟨kvs,k,b,e,ey,eb,l⟩
 ·subst ey
  obtain⟨z,hd,vs,rel,dd⟩:=wz5 I.hok e;obtain⟨w',hw,rw'⟩:=va8.some_of (v:=v) (o:=valueAt vs k) (by rw[l];exact rel.val k);exact wpAny_getItem_of (wz1 ry) dd.mapOf hw (h w' _ (I.tok _) rw')
 ·subst ey
  cases (show u=Value.ref b from ry);obtain⟨z,hd,xs,rel,dd⟩:=wz4 I.hok e;obtain⟨w',hw,rw'⟩:=va8.some_of (v:=v) (o:=(atKey xs k).map (·.2)) (by rw[l];exact rel.val k);obtain⟨p,hp,hp2⟩:=Option.map_eq_some_iff.mp hw;refine wpAny_getItem_heap (tupleKind_room_in1 hu) (zy9 I.hok eb) dd hp ?_;rw[hp2];exact h w' _ (I.tok _) rw'
def vz8(hu:A.units+1<cLine)(I:Inv X A3 σ H s)(g:ww8 H a y o)(ry:wr3 y u)(h:∀s',Inv X A3 σ H s'->Q (.bool o.isSome) s') :
 wpAny (model X.prog X.w) A (compareOp .In u (.ref a)) Q E s:=by
 rcases g with⟨kvs,k,e,ey,l⟩ | ⟨kvs,k,b,e,ey,eb,l⟩
 ·subst ey
  obtain⟨z,hd,vs,rel,dd⟩:=wz5 I.hok e;refine wpAny_in_of (wz1 ry) hd dd.mapOf ?_;rw[<-(rel.val k).isSome_eq,<-l];exact h _ (I.tok _)
 ·subst ey
  cases (show u=Value.ref b from ry);obtain⟨z,hd,xs,rel,dd⟩:=wz4 I.hok e;refine wpAny_in_heap (tupleKind_room_in1 hu) (zy9 I.hok eb) hd dd ?_;have q:=(rel.val k).isSome_eq;rw[Option.isSome_map] at q;rw[<-q,<-l];exact h _ (I.tok _)
def wh3(hu:A.units+1<cLine)(I:Inv X A3 σ H s)(g:ww8 H a y o)(ry:wr3 y u)(h:∀s',Inv X A3 σ H s'->Q (.bool (!o.isSome)) s') :
 wpAny (model X.prog X.w) A (compareOp .NotIn u (.ref a)) Q E s:=by
 rcases g with⟨kvs,k,e,ey,l⟩ | ⟨kvs,k,b,e,ey,eb,l⟩
 ·subst ey
  obtain⟨z,hd,vs,rel,dd⟩:=wz5 I.hok e;refine wpAny_notIn_of (wz1 ry) hd dd.mapOf ?_;rw[<-(rel.val k).isSome_eq,<-l];exact h _ (I.tok _)
 ·subst ey
  cases (show u=Value.ref b from ry);obtain⟨z,hd,xs,rel,dd⟩:=wz4 I.hok e;refine wpAny_notIn_heap (tupleKind_room_in1 hu) (zy9 I.hok eb) hd dd ?_;have q:=(rel.val k).isSome_eq;rw[Option.isSome_map] at q;rw[<-q,<-l];exact h _ (I.tok _)
def ye7{t':Nat}(I:Inv X A3 σ H s)(mu:Mut (H a))(hs:Heap.SameBut a s.heap h')(he:∃q,h'.get? a=some q)(new:ws2 X.prog X.w (upd H a ob) h' a ob) :
 Inv X A3 σ (upd H a ob) { s with heap:=h',toks:=t' }:=
 I.write (x:=a) (e:=a) mu (.inl rfl) (λb q hb z=>(hs.2 b hb).trans z) he new
def xz3(z:kvs.length<=sizeLine)(hd:(a == sysModules)=false)(rel:KV kvs vs)(dd:h'.DictOf (ze5 P w) a vs) :
 ws2 P w H' h' a (.dK kvs):=⟨z,hd,vs,rel,dd⟩
def xn8(hu:A.units+1<cLine)(I:Inv X A3 σ H s)(g:vf0 H a y v H')(ry:wr3 y u)(rv:wr3 v r)(h:∀s',Inv X A3 σ H' s'->Q () s') :
 wpAny (model X.prog X.w) A (setItem (.ref a) u r) Q E s:=by
 rcases g with⟨kvs,k,e,ey,l,eH⟩ | ⟨kvs,k,b,e,ey,eb,l,eH⟩
 ·subst ey eH
  obtain⟨z,hd,vs,rel,dd⟩:=vl7 I.hok e;have hz:vs.length<=sizeLine:=by rw[<-rel.length];exact z
  have hl:(wu1 kvs k v).length<=sizeLine:=by have:=zl6 kvs k v;omega
  refine wpAny_setItem_pairs (hsz:=hz) (wz1 ry) dd λh' dd' hs=>h _ ?_
  have he:∃q,h'.get? a=some q:=let ⟨q,_,_,hq,_⟩:=dd';⟨q,hq⟩;exact ye7 I (by rw[e];exact True.intro) hs he (xz3 hl hd (rel.put k rv) dd')
 ·subst ey eH
  cases (show u=Value.ref b from ry);obtain⟨z,hd,xs,rel,dd⟩:=vh8 I.hok e;have hz:xs.length<=sizeLine:=by rw[<-Paired.length rel];exact z
  have hl:(wu1 kvs k v).length<=sizeLine:=by have:=zl6 kvs k v;omega
  refine wpAny_setItem_heap (hsz:=hz) (tupleKind_room_in1 hu) (zy9 I.hok eb) dd λh' dd' hs=>h _ ?_
  obtain⟨q,es,ep,hq,h2,h3,h4,_,h5⟩:=dd';refine ye7 I (by rw[e];exact True.intro) hs ⟨q,hq⟩ ⟨hl,hd,_,(rel.put k eb rv).keeps λc ys ec=>?_,q,es,ep,hq,h2,h3,h4,h5⟩;rw[za9 (vc0 ec e (λz=>nomatch z))];exact ec
end
section
variable{X:Cx}{A3:List (Addr×Obj)}{σ:St}{H:Hp}{s:Shared}{a:Addr}{kvs:List (Key×V)}{k:Key}{u:Value}{A:Around}{E:Value->Shared->Prop}
end
noncomputable def vu1(i:Expr):Prop:=∀ov iv,subscripted i false ov iv=operate [ov,iv] (getItem ov iv)
def wc0{T id:String}(hl:typeLookup (.type T) "__getitem__" = pure (some (.builtin id)))(hs:vu1 slice)(h:wpAny (model prog w) A (eval value env) (λo s₁=>wpAny (model prog w) A (eval slice env) (λi s₂=>s₂.TypeIs o T/\wpAny (model prog w) A (getItem o i) Q E s₂) E s₁) E s) :
 wpAny (model prog w) A (eval (.Subscript value slice pos) env) Q E s:=by
 refine Subscript_ (Ah1 h (λo s₁ h₁=>Ah1 h₁ (λi s₂ h₂=>?_) λ_ _ x=>x) λ_ _ x=>x);obtain⟨hT,h₂⟩:=h₂;unfold subscriptTail;refine Aa1 ?_;rw[getitemInPython_of_ne hT.not_modules];refine Aa1 (wpAny_specialOf hT hl ?_);have fin:wpAny (model prog w) A (subscripted slice false o i) (λr s₃=>wpAny (model prog w) A (letTemporaryGo value o r >>= λ_=>pure r) Q E s₃) E s₂:=by
  rw[hs o i];exact wpAny_operating (Ah1 h₂ (λr s₃ h₃=>Aa1 (wpAny_letTemporaryGo (Ac1 h₃))) λ_ _ x=>x)
 first
  | exact Ac1 (Aa1 fin)
  | exact Aa1 (Ac1 (Aa1 fin))
  | exact Aa1 fin
def yt9(I:Inv X A3 σ H s)(g:ww8 H a y o):s.TypeIs (.ref a) "dict":=by
 rcases g with⟨kvs,k,e,_,_⟩ | ⟨kvs,k,b,e,_,_,_⟩
 ·obtain⟨_,_,vs,_,dd⟩:=wz5 I.hok e
  exact dd.typeIs
 ·obtain⟨_,_,xs,_,dd⟩:=wz4 I.hok e
  exact dd.typeIs
noncomputable def vo7(td ty:TE):TE:=λσ H Q=>td σ H λx H1=>ty σ H1 λy H2=>∃a v,x=.ref a/\ww8 H2 a y (some v)/\Q v H2
noncomputable def vy0(ty td:TE):TE:=λσ H Q=>ty σ H λy H1=>td σ H1 λx H2=>∃a o,x=.ref a/\ww8 H2 a y o/\Q (.bl o.isSome) H2
noncomputable def wb9(ty td:TE):TE:=λσ H Q=>ty σ H λy H1=>td σ H1 λx H2=>∃a o,x=.ref a/\ww8 H2 a y o/\Q (.bl (!o.isSome)) H2
noncomputable def vp4(td ty tv:TE):TS:=λD σ H=>tv σ H λv H1=>td σ H1 λx H2=>ty σ H2 λy H3=>∃a H4,x=.ref a/\vf0 H3 a y v H4/\D.nx σ H4
section
variable{X:Cx}{o i e value:Expr}{pos pos' tpos:Pos}{td ty tv:TE}
def yc2(hu:X.A.units+1<cLine)(ho:PE X o td)(hi:PE X i ty)(hs:vu1 i):PE X (.Subscript o i pos) (vo7 td ty):=by
 intro A3 s σ H Q I h;refine wc0 PySem.F.slot_dict_getitem.lookup hs (thn (ho A3 s σ H _ I h) λu s1 ⟨x,H1,I1,rx,q1⟩=>thn (hi A3 s1 σ H1 _ I1 q1) λiv s2 hI83=>?_);obtain⟨y,H2,I2,ry,a,v,ex,g,q2⟩:=hI83;subst ex;obtain rfl:u=Value.ref a:=rx;exact⟨yt9 I2 g,xn9 hu I2 g ry λw' s3 I3 rw'=>⟨v,H2,I3,rw',q2⟩⟩
def wl5(hu:X.A.units+1<cLine)(hi:PE X i ty)(ho:PE X o td):PC X .In i o (vy0 ty td):=by
 intro A3 s σ H Q I h;refine thn (hi A3 s σ H _ I h) λiv s1 ⟨y,H1,I1,ry,q1⟩=>thn (ho A3 s1 σ H1 _ I1 q1) λu s2 hI84=>?_
 obtain⟨x,H2,I2,rx,a,ov,ex,g,q2⟩:=hI84;subst ex;obtain rfl:u=Value.ref a:=rx;exact vz8 hu I2 g ry λs3 I3=>⟨.bl ov.isSome,H2,I3,rfl,q2⟩
def xi5(hu:X.A.units+1<cLine)(hi:PE X i ty)(ho:PE X o td):PC X .NotIn i o (wb9 ty td):=by
 intro A3 s σ H Q I h;refine thn (hi A3 s σ H _ I h) λiv s1 ⟨y,H1,I1,ry,q1⟩=>thn (ho A3 s1 σ H1 _ I1 q1) λu s2 hI85=>?_
 obtain⟨x,H2,I2,rx,a,ov,ex,g,q2⟩:=hI85;subst ex;obtain rfl:u=Value.ref a:=rx;exact wh3 hu I2 g ry λs3 I3=>⟨.bl (!ov.isSome),H2,I3,rfl,q2⟩
def xh3(hu:X.A.units+1<cLine)(ho:PE X o td)(hi:PE X i ty)(hv:PE X value tv)(hs:swapsWith value (some (.Subscript o i pos')) pos.line X.env=pure false) :
 PS X (.Assign [.Subscript o i pos'] value pos) (vp4 td ty tv):=by
 intro A3 s σ H D I h;refine wpAny_Assign_Subscript (thn (hv A3 s σ H _ I h) λr s1 ⟨v,H1,I1,rv,q1⟩=>thn (ho A3 s1 σ H1 _ I1 q1) λu s2 ⟨x,H2,I2,rx,q2⟩=>thn (hi A3 s2 σ H2 _ I2 q2) λiv s3 hI86=>?_) hs;obtain⟨y,H3,I3,ry,a,H4,ex,g,q3⟩:=hI86;subst ex;obtain rfl:u=Value.ref a:=rx;exact xn8 hu I3 g ry rv λs4 I4=>⟨σ,H4,I4,q3⟩
end
def xv0(h:Heap)(hb:sysModules<h.objs.size):ws2 P w H (h.push { cls:=.type "dict",data:=.dict #[] }) h.objs.size (.dK []):=
 ⟨Am0 _,beq_eq_false_iff_ne.mpr (Ne.symm (As0 hb)),[],.nil,Heap.DictOf.new h⟩
def yk5(h:Heap)(hb:sysModules<h.objs.size):ws2 P w H (h.push { cls:=.type "dict",data:=.dict #[] }) h.objs.size (.dT []):=
 ⟨Am0 _,beq_eq_false_iff_ne.mpr (Ne.symm (As0 hb)),[],.nil,_,#[],0,Af0 _ rfl,⟨rfl,rfl,rfl⟩,rfl,rfl,List.nodup_nil⟩
noncomputable def wj5:TE:=λ_ H Q=>∀p,H p=none->Q (.ref p) (upd H p (.dT []))
section
variable{X:Cx}{pos:Pos}
def xs5:PE X (.Dict [] [] pos) wj5:=λA3 s σ H Q I h=>
 wpAny_Dict_empty ⟨.ref s.heap.objs.size,_,I.laid (a:=s.heap.objs.size) (o:=.dT []) (t':=s.toks) (λ_ _ q=>Ab0 _ q) (Ad0 _) (yk5 s.heap I.big),rfl,h _ (I.hok.fresh (Ad0 _))⟩
end
noncomputable def ym1:List (TE×TE)->St->Hp->(List (V×V)->Hp->Prop)->Prop
 | [],_,H,Q=>Q [] H
 | (tk,tv)::r,σ,H,Q=>tk σ H λx H1=>tv σ H1 λy H2=>ym1 r σ H2 λps H3=>Q ((x,y)::ps) H3
noncomputable abbrev VV:List (V×V)->List (Value×Value)->Prop:=Paired λp q=>wr3 p.1 q.1/\wr3 p.2 q.2
noncomputable def PPs(X:Cx)(pos:Pos)(keys:List (Option Expr))(values:List Expr)(trs:List (TE×TE)):Prop:=
 ∀(A3:List (Addr×Obj)) (s:Shared) (σ:St) (H:Hp) (Q:List (V×V)->Hp->Prop),Inv X A3 σ H s->ym1 trs σ H Q->
  wpAny (model X.prog X.w) X.A (evalPairs (pairTrees keys values X.env pos)) (λvs s'=>∃ps H',Inv X A3 σ H' s'/\VV ps vs/\Q ps H') X.xe s
def ys3:PPs X pos [] [] []:=λA3 s σ H Q I h=>pairTrees_nil_walk ⟨[],H,I,.nil,h⟩
def zz8(hk:PE X k tk)(hv:PE X v tv)(hr:PPs X pos ks vs trs) :
 PPs X pos (some k::ks) (v::vs) ((tk,tv)::trs):=λA3 s σ H Q I h=>
 pairTrees_cons_walk (thn (hk A3 s σ H _ I h) λu s1 ⟨x,H1,I1,rx,q1⟩=>thn (hv A3 s1 σ H1 _ I1 q1) λw2 s2 ⟨y,H2,I2,ry,q2⟩=>
  thn (hr A3 s2 σ H2 _ I2 q2) λws s3 ⟨ps,H3,I3,rel,q3⟩=>⟨(x,y)::ps,H3,I3,.cons ⟨rx,ry⟩ rel,q3⟩)
noncomputable def zv4(kvs more:List (Key×V)):List (Key×V):=more.foldl (λacc kv=>wu1 acc kv.1 kv.2) kvs
theorem KV.merge:∀{more:List (Key×V)} {rs:List (Key×Value)} {kvs:List (Key×V)} {vs:List (Key×Value)},KV more rs->KV kvs vs->KV (zv4 kvs more) (merged vs rs):=by
 intro more rs kvs vs r;unfold KV at r;induction r generalizing kvs vs with
 | nil=>intro q;exact q
 | @cons p q ps qs h t ih=>
   intro r0;have e:KV (wu1 kvs p.1 p.2) (stored vs q.1 q.2):=by
    have:=r0.put p.1 h.2;rw[<-h.1];exact this
   exact ih e
theorem zv6:∀(more kvs:List (Key×V)),(zv4 kvs more).length<=kvs.length+more.length
 | [],kvs=>by show kvs.length<=kvs.length+0;omega
 | p::r,kvs=>by
   have h1:=zv6 r (wu1 kvs p.1 p.2);have h2:=zl6 kvs p.1 p.2;show (zv4 (wu1 kvs p.1 p.2) r).length<=_;rw[Ar0];omega
theorem yh5:∀{kvs:List (Key×V)} {ws:List (Value×Value)},VV (kvs.map λkv=>(kV kv.1,kv.2)) ws->∃rs,Carries (ze5 P w) ws rs/\KV kvs rs
 | [],_,r=>by rw[Cz0] at r;cases r;exact⟨[],True.intro,.nil⟩
 | p::kvs,_,r=>by
   rw[Ax0] at r;cases r with
   | @cons a b as bs h t=>
     obtain⟨rs,c,q⟩:=yh5 (P:=P) (w:=w) t;obtain⟨b1,b2⟩:=b;exact⟨(p.1,b2)::rs,⟨wz1 h.1,rfl,c⟩,.cons ⟨rfl,h.2⟩ q⟩
noncomputable def vj5(trs:List (TE×TE)):TE:=λσ H Q=>∀p,H p=none->ym1 trs σ (upd H p (.dK [])) λps H2=>H2 p=some (.dK [])/\∃kvs:List (Key×V),ps=kvs.map (λkv=>(kV kv.1,kv.2))/\kvs.length<=15/\Q (.ref p) (upd H2 p (.dK (zv4 [] kvs)))
def xi4(h:PPs X pos keys values trs)(hall:keys.all (·.isSome)=true)(hl:keys.length=values.length)(h0:keys≠[])(h15:keys.length<=15):PE X (.Dict keys values pos) (vj5 trs):=by
 intro A3 s σ H Q I q;have hn:=I.hok.fresh (Ad0 s.heap.objs.size);have I1:=I.laid (a:=s.heap.objs.size) (o:=.dK []) (h':=s.heap.push { cls:=.type "dict",data:=.dict #[] }) (t':=s.toks) (λ_ _ q=>Ab0 _ q) (Ad0 _) (xv0 s.heap I.big);refine wpAny_Dict_walk (knd:=ze5 X.prog X.w) hall hl h0 h15 (thn (h A3 _ σ _ _ I1 (q _ hn)) λws s2 hI87=>?_);obtain⟨ps,H2,I2,rel,e,kvs,ep,lk,q2⟩:=hI87;subst ep;obtain⟨rs,c,rk⟩:=yh5 (P:=X.prog) (w:=X.w) rel;obtain⟨z,hd,vs0,r0,dd⟩:=vl7 I2.hok e;cases r0;refine⟨rs,c,dd,λh' dd' hs=>⟨.ref s.heap.objs.size,_,?_,rfl,q2⟩⟩;have hz:(zv4 [] kvs).length<=sizeLine:=by
  have h1:=zv6 kvs [];rw[Ch0] at h1;rw[sizeLine_eq];omega
 have he:∃q,h'.get? s.heap.objs.size=some q:=let ⟨q,_,_,hq,_⟩:=dd';⟨q,hq⟩;exact ye7 I2 (by rw[e];exact True.intro) hs he (xz3 hz hd (rk.merge .nil) dd')
structure M2(X:Cx)(o:Expr)(m:Str)(apos:Pos)(e f:Expr)(cpos:Pos):Prop where
 base:attributeBase o m X.env (eval o X.env)=eval o X.env
 few:((backTo cpos (starEach [e,f] X.env)).all (λx=>!x.1)&&(backToKw cpos (keywordEach [] X.env)).all (λx=>x.1.isSome)
  && decide (([e,f]:List Expr).length+([]:List Keyword).length+(if ([]:List Keyword).isEmpty then 0 else 1)<30))=true
 line:(apos.endLine == cpos.line)=true
 trees:backTo cpos (starEach [e,f] X.env)=[(false,eval e X.env),(false,eval f X.env)]
noncomputable def IsD(H:Hp)(a:Addr):Prop:=(∃kvs,Rd H a (.dK kvs))\/∃kvs,Rd H a (.dT kvs)
def wo0(I:Inv X A3 σ H s)(d:IsD H a) :
 s.TypeIs (.ref a) "dict"/\(∀b,Value.ref a=.ref b->∃ob,s.heap.get? b=some ob/\ob.dict=none)/\(a == sysModules)=false:=by
 rcases d with⟨kvs,e⟩ | ⟨kvs,e⟩
 ·obtain⟨_,hd,vs,_,dd⟩:=wz5 I.hok e
  refine⟨dd.typeIs,λb q=>?_,hd⟩;cases q;obtain⟨ob,_,_,h1,h2,_⟩:=dd;exact⟨ob,h1,h2.2.1⟩
 ·obtain⟨_,hd,xs,_,dd⟩:=wz4 I.hok e
  refine⟨dd.typeIs,λb q=>?_,hd⟩;cases q;obtain⟨ob,_,_,h1,h2,_⟩:=dd;exact⟨ob,h1,h2.2.1⟩
section
variable{X:Cx}{A3:List (Addr×Obj)}{σ:St}{H:Hp}{s:Shared}{a:Addr}{y d:V}{u r:Value}{o:Option V}{A:Around}{E:Value->Shared->Prop}
def wq0(hu:A.units+1<cLine)(I:Inv X A3 σ H s)(g:ww8 H a y o)(ry:wr3 y u)(rd:wr3 d r)(h:∀w' s',Inv X A3 σ H s'->wr3 (o.getD d) w'->Q w' s') :
 wpAny (model X.prog X.w) A (call (.builtin "dict.get") [.ref a,u,r]) Q E s:=by
 rcases g with⟨kvs,k,e,ey,l⟩ | ⟨kvs,k,b,e,ey,eb,l⟩
 ·subst ey
  obtain⟨z,hd,vs,rel,dd⟩:=wz5 I.hok e;refine call_meetsIn PySem.F.slot_dict_get dd.typeIs PySem.F.entry_dict_get (PySem.F.args_dict_get_3 _ _ _) (meets_dict_get_default (ze5 X.prog X.w) a (wz1 ry) hd r) ⟨_,dd.mapOf,h _ _ (I.tok _) ?_⟩;rw[l];exact(rel.val k).getD rd
 ·subst ey
  cases (show u=Value.ref b from ry);obtain⟨z,hd,xs,rel,dd⟩:=wz4 I.hok e;refine call_meetsIn PySem.F.slot_dict_get dd.typeIs PySem.F.entry_dict_get (PySem.F.args_dict_get_3 _ _ _) (meetsH_dict_get_default (tupleKind (ze5 X.prog X.w)) a b hd r) ⟨tupleKind_room_in1 hu,k,xs,zy9 I.hok eb,dd,h _ _ (I.tok _) ?_⟩;rw[l];exact(rel.val k).getD rd
end
noncomputable def wj6(td ty tx:TE):TE:=λσ H Q=>td σ H λx H1=>∃a,x=.ref a/\IsD H1 a/\ty σ H1 λy H2=>tx σ H2 λz H3=>∃o,ww8 H3 a y o/\Q (o.getD z) H3
section
variable{X:Cx}{o e f:Expr}{apos cpos:Pos}{td ty tx:TE}
def xs7(hu:X.A.units+1<cLine)(ho:PE X o td)(he:PE X e ty)(hf:PE X f tx)(m:M2 X o "get" apos e f cpos):PE X (.Call (.Attribute o "get" apos) [e,f] [] cpos) (wj6 td ty tx):=by
 intro A3 s σ H Q I h;refine wpAny_Call_method m.base m.few m.line PySem.F.plainAttrs_dict PySem.F.slot_dict_get PySem.F.type_dict_get (thn (ho A3 s σ H _ I h) λu s1 hI88=>?_);obtain⟨x,H1,I1,rx,a,ex,d,q1⟩:=hI88;subst ex;obtain rfl:u=Value.ref a:=rx;obtain⟨t1,t2,_⟩:=wo0 I1 d;refine⟨t1,t2,?_⟩;rw[m.trees];refine Calls.callWith_builtin rfl (Calls.evalArgs_plain (Calls.spliced_cons (thn (he A3 s1 σ H1 _ I1 q1) λiv s2 ⟨y,H2,I2,ry,q2⟩=>Calls.spliced_cons (thn (hf A3 s2 σ H2 _ I2 q2) λfv s3 ⟨z,H3,I3,rz,ov,g,q3⟩=>Calls.spliced_nil ?_))));exact wq0 hu I3 g ry rz λw' s4 I4 rw'=>⟨_,H3,I4,rw',q3⟩
end
section
variable{X:Cx}{A3:List (Addr×Obj)}{σ:St}{H:Hp}{s:Shared}{a:Addr}{kvs:List (Key×V)}{A:Around}{E:Value->Shared->Prop}{y:V}{u:Value}
end
section
variable{κ:Type}[DecidableEq κ]
end
noncomputable def wu7(cells:List (Str×Addr)):List (Str×NameKind)->List (Str×Addr)->List (Str×Addr)
 | [],cs=>cs
 | (n,k)::r,cs=>wu7 cells r (if k == .free then (match cells.lookup n with | some a=>(n,a)::cs | none=>cs) else cs)
theorem zr4:∀(names:List (Str×NameKind)) (cs:List (Str×Addr)),(∀y∈names,y.2=.free->∃a,env.cells.lookup y.1=some a)->
 (forIn (m:=Sem) names cs λ(x:Str×NameKind) (r:List (Str×Addr))=>
  match x with
  | (name,kind)=>if (kind == .free)=true then do let a <-cellOf env name;pure (ForInStep.yield ((name,a)::r)) else pure (ForInStep.yield r))=pure (wu7 env.cells names cs)
 | [],cs,_=>rfl
 | (n,k)::r,cs,h=>by
   rw[List.forIn_cons];have ih:=λcs'=>zr4 (env:=env) r cs' λy hy=>h y (Ay0 _ hy)
   by_cases hk:(k == NameKind.free)=true
   ·have hk':k=.free:=by simpa using hk
    obtain⟨a,ha⟩:=h (n,k) Bi0 hk';simp only[hk,if_true,wu7,cellOf];have ha':env.cells.lookup n=some a:=ha;rw[ha'];exact ih _
   ·simp only[hk,wu7]
    exact ih _
def yl0(h:∀y∈scope.names,y.2=.free->∃a,env.cells.lookup y.1=some a):closureFor scope env=pure (wu7 env.cells scope.names []):=by
 simp only[closureFor];have e:=zr4 (env:=env) scope.names [] h;have e2:=congrArg (λm:Sem (List (Str×Addr))=>m >>= pure) e;exact e2
def zj7{α:Type}{x n:Str}{v:α}{l:List (Str×α)}:List.lookup x ((n,v)::l)=if x=n then some v else l.lookup x:=by
 rw[List.lookup_cons];by_cases e:x=n
 ·subst e;simp
 ·rw[if_neg e]
  have:(x == n)=false:=by simpa using e
  rw[this]
theorem yz0{cells:List (Str×Addr)}:∀(names:List (Str×NameKind)) (cs:List (Str×Addr)) (x:Str) (c:Addr),
 (∀x c,cs.lookup x=some c->cells.lookup x=some c)->(wu7 cells names cs).lookup x=some c->cells.lookup x=some c
 | [],cs,x,c,h,e=>h x c e
 | (n,k)::r,cs,x,c,h,e=>by
   refine yz0 r _ x c (λy d hy=>?_) e;by_cases hk:(k == NameKind.free)=true
   ·rw[if_pos hk] at hy
    cases ha:cells.lookup n with
    | none=>rw[ha] at hy;exact h y d hy
    | some a=>
      rw[ha] at hy;have hy:List.lookup y ((n,a)::cs)=some d:=hy;rw[zj7] at hy;by_cases e:y=n
      ·rw[if_pos e] at hy;cases hy;rw[e];exact ha
      ·rw[if_neg e] at hy;exact h y d hy
   ·rw[if_neg hk] at hy;exact h y d hy
theorem yq0{cells:List (Str×Addr)}:∀(names:List (Str×NameKind)) (cs:List (Str×Addr)) (x:Str),(∃c,cs.lookup x=some c)->∃c,(wu7 cells names cs).lookup x=some c
 | [],_,_,h=>h
 | (n,k)::r,cs,x,h=>by
   refine yq0 r _ x ?_;by_cases hk:(k == NameKind.free)=true
   ·rw[if_pos hk]
    cases ha:cells.lookup n with
    | none=>exact h
    | some a=>
      show ∃c,List.lookup x ((n,a)::cs)=some c;rw[zj7];by_cases e:x=n
      ·rw[if_pos e];exact⟨_,rfl⟩
      ·rw[if_neg e];exact h
   ·rw[if_neg hk];exact h
theorem yz1{cells:List (Str×Addr)}:∀(names:List (Str×NameKind)) (cs:List (Str×Addr)) (x:Str),(x,NameKind.free)∈names->(∃a,cells.lookup x=some a)->∃c,(wu7 cells names cs).lookup x=some c
 | [],_,_,h,_=>nomatch h
 | (n,k)::r,cs,x,h,ha=>by
   rcases Aj0.mp h with e | h'
   ·have e1:x=n:=congrArg Prod.fst e
    have e2:NameKind.free=k:=congrArg Prod.snd e;subst e1 e2;obtain⟨a,ha⟩:=ha;refine yq0 r _ x ?_;show ∃c,List.lookup x (if (NameKind.free == NameKind.free)=true then (match cells.lookup x with | some a=>(x,a)::cs | none=>cs) else cs)=some c;rw[if_pos (by rfl),ha];show ∃c,List.lookup x ((x,a)::cs)=some c;rw[zj7,if_pos rfl];exact⟨_,rfl⟩
   ·exact yz1 r _ x h' ha
noncomputable def pick(σ:St)(ixs:List (Option Nat)):St:=ixs.map λo=>match o with
 | some i=>(σ[i]?).join
 | none=>none
noncomputable def zg5(X:Cx)(N':List Str)(scope:Scope)(cl:List (Str×Addr))(C:Addr)(s:Shared)(H:Hp)(fp:List Addr):Cx:=
 { X with N:=N',s₀:=s,H₀:=H,env:=compEnvC scope cl C X.env,outer:=X.stack,ex:=fp,fn:=λ_=>false,pn:=[],xe:=λ_ _=>False }
noncomputable def zy0(env:Env)(n:Str)(k:NameKind):NameKind:=if (k == NameKind.free&&env.scope.kind == .function&&env.kindOf n == some .cell)=true then .cell else k
theorem zy7{env:Env}:∀{names:List (Str×NameKind)} {x:Str},(names.map λ(n,k)=>if (k == NameKind.free&&env.scope.kind == .function&&env.kindOf n == some .cell) then (n,NameKind.cell) else (n,k)).lookup x=(names.lookup x).map (zy0 env x)
 | [],_=>rfl
 | (n,k)::r,x=>by
   have ih:=@zy7 env r x;rw[Ax0];have e1:(if (k == NameKind.free&&env.scope.kind == .function&&env.kindOf n == some .cell)=true then (n,NameKind.cell) else (n,k))=(n,zy0 env n k):=by
    unfold zy0;split<;>rfl
   show List.lookup x ((if (k == NameKind.free&&env.scope.kind == .function&&env.kindOf n == some .cell)=true then (n,NameKind.cell) else (n,k))::_)=_;rw[e1,zj7,zj7];by_cases e:x=n
   ·rw[if_pos e,if_pos e,e];rfl
   ·rw[if_neg e,if_neg e];exact ih
structure zi7(X:Cx)(N':List Str)(ixs:List (Option Nat))(scope:Scope):Prop where
 kind:scope.kind=.function
 nocell:∀y∈scope.names,y.2≠.cell
 loc:∀y∈scope.names,y.2=.local->scope.names.lookup y.1=some .local
 len:ixs.length=N'.length
 free:∀y∈scope.names,y.2=.free->X.env.scope.names.lookup y.1=some .cell\/X.env.scope.names.lookup y.1=some .free
 slot:∀(j i:Nat) (y:Str),N'[j]?=some y->ixs[j]?=some (some i)->X.N[i]?=some y/\scope.names.lookup y=some .free
section
variable{X:Cx}{A3:List (Addr×Obj)}{σ:St}{H:Hp}{s:Shared}{N':List Str}{ixs:List (Option Nat)}{scope:Scope}
open H in
def zi7.clos(S:zi7 X N' ixs scope)(I:Inv X A3 σ H s):closureFor scope X.env=pure (wu7 X.env.cells scope.names []):=
 yl0 λy hy hf=>I.ok.has y.1 (S.free y hy hf)
open H in
def Inv.comp{t':Nat}(I:Inv X A3 σ H s)(S:zi7 X N' ixs scope)(hf:∀b∈fp,wz6 X A3 H b)(hlt:∀b∈fp,∃o,s.heap.get? b=some o/\∀v,o.data≠.cell v)(hk:∀b o,s.heap.get? b=some o->h'.get? b=some o)(hn:h'.Ns s.heap.objs.size (λ_=>none)) :
 Inv (zg5 X N' scope (wu7 X.env.cells scope.names []) s.heap.objs.size s H fp) [] (pick σ ixs) H { s with heap:=h',toks:=t' }:=by
 have sub:∀x c,(wu7 X.env.cells scope.names []).lookup x=some c->X.env.cells.lookup x=some c:=λx c e=>yz0 _ _ x c (λ_ _ z=>absurd z (by simp)) e
 have cellOld:∀x c,X.env.cells.lookup x=some c->c<s.heap.objs.size:=λx c e=>by obtain⟨v,z⟩:=I.cell x c e;exact z.lt
 have fpOld:∀b∈fp,b<s.heap.objs.size:=λb hb=>by obtain⟨o,e,_⟩:=hlt b hb;exact Heap.lt_size e
 have kinds:∀x,Env.kindOf (compEnvC scope (wu7 X.env.cells scope.names []) s.heap.objs.size X.env) x=(scope.names.lookup x).map (zy0 X.env x):=λx=>zy7
 have hasF:∀x,scope.names.lookup x=some .free->∃c,(wu7 X.env.cells scope.names []).lookup x=some c:=λx e=>
  yz1 _ _ x (PySem.mem_of_lookup e) (I.ok.has x (S.free _ (PySem.mem_of_lookup e) rfl))
 have freeOf:∀x,(Env.kindOf (compEnvC scope (wu7 X.env.cells scope.names []) s.heap.objs.size X.env) x=some .cell\/Env.kindOf (compEnvC scope (wu7 X.env.cells scope.names []) s.heap.objs.size X.env) x=some .free)->scope.names.lookup x=some .free:=λx e=>by
  rw[kinds x] at e;cases q:scope.names.lookup x with
  | none=>rw[q] at e;rcases e with e | e<;>cases e
  | some k=>
    rw[q] at e;have nc:=S.nocell _ (PySem.mem_of_lookup q);unfold zy0 at e;rcases e with e | e
    ·have e:=Option.some.inj e
     dsimp only at e;split at e
     ·rename_i hh
      have:(k == NameKind.free)=true:=by
       cases hz:(k == NameKind.free) with
       | true=>rfl
       | false=>rw[hz] at hh;simp at hh
      rw[show k=.free by simpa using this]
     ·exact absurd e nc
    ·have e:=Option.some.inj e
     dsimp only at e;split at e
     ·cases e
     ·rw[e]
 refine⟨⟨I.ok.mod,S.kind,I.ok.glob,I.ok.blt,Ad0 _,λx y c h1 h2=>I.ok.inj x y c (sub x c h1) (sub y c h2),λx hx=>hasF x (freeOf x hx),(λ_ _ z _=>Bool.noConfusion z),I.ok.hd,I.ok.frames,.inl rfl,λb hb=>⟨As0 (fpOld b hb),λx c e=>(hf b hb).2.2.2.2.1 x c (sub x c e)⟩,λb o e=>I.bs b o e,Ba0 I.ok.bsz I.sz,λb o e hb=>?_,λb hb z=>?_,I.stack,I.stkFree⟩,rfl,I.bare,Un.kept hk,⟨_,hn,λj x v e1 e2 e3=>?_⟩,λx c e=>?_,I.hok.fresh (Ad0 _),λx c e=>I.freeC x c (sub x c e),(λp hp=>absurd (show p∈([]:List (Addr×Obj)) from hp) (by simp)),I.hok.kept hk,?_⟩
 ·-- base objects are no iterators
  have hf':=hf b hb;rcases hf'.2.2.2.1 with z | z
  ·exact I.ok.noex b o e z
  ·exact absurd (Az0 (Heap.lt_size (I.ok.bs b o e).1) z) (Bt0 _)
 ·-- iterators are no frames
  have hf':=hf b hb;rcases Aj0.mp (I.stkSub b z) with e | e
  ·exact hf'.2.1 e
  ·exact hf'.2.2.1 e
 ·-- the names
  have e2':(pick σ ixs)[j]?=some (some v):=e2;unfold pick at e2';rw[An0] at e2';cases q:ixs[j]? with
  | none=>rw[q] at e2';cases e2'
  | some o=>
    rw[q] at e2';cases o with
    | none=>cases e2'
    | some i=>
      have e4:(σ[i]?).join=some v:=Option.some.inj e2';have e5:σ[i]?=some (some v):=by
       cases z:σ[i]? with
       | none=>rw[z] at e4;cases e4
       | some a=>rw[z] at e4;rw[show a=some v from e4]
      obtain⟨hx,hfr⟩:=S.slot j i x e1 q;obtain⟨m,_,hl⟩:=I.loc;have vis:Vis X.env.scope x:=by
       rcases S.free _ (PySem.mem_of_lookup hfr) rfl with z | z
       ·exact .inr (.inl z)
       ·exact .inr (.inr z)
      obtain⟨u,r,l⟩:=hl i x v hx e5 vis;refine⟨u,r,.inr ⟨?_,?_⟩⟩
      ·show Env.kindOf (compEnvC scope (wu7 X.env.cells scope.names []) s.heap.objs.size X.env) x=some .cell\/Env.kindOf (compEnvC scope (wu7 X.env.cells scope.names []) s.heap.objs.size X.env) x=some .free
       rw[kinds x,hfr];show some (zy0 X.env x .free)=_\/some (zy0 X.env x .free)=_;unfold zy0;split
       ·exact .inl rfl
       ·exact .inr rfl
      ·obtain⟨c,ec⟩:=hasF x hfr
       refine⟨c,ec,?_⟩;have ec':=sub x c ec;rcases l with⟨k,_⟩ | ⟨_,c2,e6,z⟩
       ·have k':X.env.scope.names.lookup x=some .local:=k
        rcases S.free _ (PySem.mem_of_lookup hfr) rfl with z | z<;>(rw[show ((x,NameKind.free):Str×NameKind).1=x from rfl,k'] at z;cases z)
       ·rw[ec'] at e6;cases e6
        obtain⟨o,ho,hd⟩:=z;exact⟨o,hk c o ho,hd⟩
 ·obtain⟨v,o,ho,hd⟩:=I.cell x c (sub x c e)
  exact⟨v,o,hk c o ho,hd⟩
 ·show (pick σ ixs).length=N'.length
  unfold pick;rw[Aa0];exact S.len
end
section
variable{prog:Program}{w:World}{A:Around}{R:Result->Shared->Prop}{s:Shared}
theorem yk9(I:Nat->Shared->Prop)(turn:∀n s,I n s->wpAny (model prog w) A (pyNext it) (λr s₁=>match r with
  | none=>R (.ok .next) s₁
  | some v=>wpAny (model prog w) A (letOwnedTupleGo target it v) (λ_ s₂=>wpAny (model prog w) A (assign target env v) (λ_ s₃=>
   wpAny (model prog w) A (forIn ifs true λc r=>if r=true then do let ok <-isTrue c env (eval c env);pure (ForInStep.yield ok) else pure (ForInStep.yield r)) (λok s₄=>
    if ok=true then wpAny (model prog w) A (eval elt env) (λx s₅=>
     wpAny (model prog w) A (call (.builtin "list.append") [acc,x]) (λ_ s₆=>∃m,m<n/\I m s₆) (λ_ _=>False) s₅) (λ_ _=>False) s₄
    else ∃m,m<n/\I m s₄) (λ_ _=>False) s₃) (λ_ _=>False) s₂) (λ_ _=>False) s₁) (λ_ _=>False) s)(n:Nat)(h:I n s) :
 codeAny (model prog w) A (.compLoop (.ListComp elt [⟨target,iter,ifs,0⟩] scope pos) 0 it acc env) R s:=by
 refine codeAny_loop rfl I (λn s hI=>?_) n h;show wpAny _ A ((compTurn (.ListComp elt [⟨target,iter,ifs,0⟩] scope pos) 0 it acc env).onRaise (λx=>do noteFrame x env;theTreesLotGoes x)) _ _ s;refine wpAny_noted ?_;rw[compTurn_list];refine Aa1 (wpAny_standAt (Aa1 (Ah1 (turn n s hI) (λr s₁ h₁=>?_) λ_ _ h'=>h'.elim)));cases r with
 | none=>exact Ac1 h₁
 | some v=>
   refine Aa1 (Ah1 h₁ (λ_ s₂ h₂=>Aa1 (Ah1 h₂ (λ_ s₃ h₃=>Aa1 (Ah1 h₃ (λok s₄ h₄=>?_) λ_ _ h'=>h'.elim)) λ_ _ h'=>h'.elim)) λ_ _ h'=>h'.elim);cases ok with
   | false=>exact Ac1 ⟨rfl,h₄⟩
   | true=>
     exact Aa1 (Aa1 (Ah1 h₄ (λx s₅ h₅=>Aa1 (Ah1 h₅ (λ_ s₆ h₆=>Ac1 (Ac1 ⟨rfl,h₆⟩)) λ_ _ h'=>h'.elim)) λ_ _ h'=>h'.elim))
end
noncomputable def PTs(X:Cx)(ifs:List Expr)(t:TT):Prop:=
 ∀(A3:List (Addr×Obj)) (s:Shared) (σ:St) (H:Hp) (Q:Bool->Hp->Prop),Inv X A3 σ H s->t σ H Q->
  wpAny (model X.prog X.w) X.A (forIn ifs true λc r=>if r=true then do let ok <-isTrue c X.env (eval c X.env);pure (ForInStep.yield ok) else pure (ForInStep.yield r)) (TP X A3 σ Q) X.xe s
noncomputable def vo0:TT:=λ_ H Q=>Q true H
def wc7:PTs X [] vo0:=λ_ _ _ H _ I h=>wpAny_tests_nil ⟨H,I,h⟩
def wc6(h:PT X c t):PTs X [c] t:=λA3 s σ H Q I q=>wpAny_tests_one (h A3 s σ H Q I q)
noncomputable def vf8(wi:TI)(ixs:List (Option Nat))(g:TG)(tc:TT)(te:TE):TE:=λσ H Q=>wi σ H λJ H1=>∀D,H1 D=none->
 ∃W:Nat->Nat->St->Hp->Prop,(∃m,W 0 m (pick σ ixs) (upd H1 D (.lst [])))/\∀i m σ' H',W i m σ' H'->
  (J.stop i H'/\Q (.ref D) H')\/(J.go i H'/\∃N:St->Hp->Prop,(∀σ2 H2,N σ2 H2->∃m',m' < m/\W (i+1) m' σ2 H2)/\∀x H2,J.yld i H' x H2->g x σ' H2 λσ3 H3=>
   tc σ3 H3 λb H4=>if b=true then te σ3 H4 λy H5=>∃ys,H5 D=some (.lst ys)/\ys.length<sizeLine/\N σ3 (upd H5 D (.lst (ys++[y]))) else N σ3 H4)
section
variable{X:Cx}{N':List Str}{ixs:List (Option Nat)}{scope:Scope}{tg iter elt:Expr}{ifs:List Expr}{wi:TI}{g:TG}{tc:TT}{te:TE}{pos spos:Pos}
def yh4{A3:List (Addr×Obj)}{σ:St}{H2:Hp}{s2:Shared}{it:Addr}{fp:List Addr}{tn:Nat->Heap->Prop}{J:It}{E:Value->Shared->Prop}{RR:Value->Addr->Result->Shared->Prop}{Q:VK}(S:zi7 X N' ixs scope)(hc:X.calm=true)(I2:Inv X A3 σ H2 s2)(T:vi0 X.prog X.w X.K tg J fp it tn)(st2:tn 0 s2.heap)(f2:∀b∈fp,wz6 X A3 H2 b)(hin:∀cl C s H fp,PG (zg5 X N' scope cl C s H fp) tg g/\PTs (zg5 X N' scope cl C s H fp) ifs tc/\PE (zg5 X N' scope cl C s H fp) elt te)(hw:∀D,H2 D=none->∃W:Nat->Nat->St->Hp->Prop,(∃m,W 0 m (pick σ ixs) (upd H2 D (.lst [])))/\∀i m σ' H',W i m σ' H'->
  (J.stop i H'/\Q (.ref D) H')\/(J.go i H'/\∃N:St->Hp->Prop,(∀σ2 H2,N σ2 H2->∃m',m' < m/\W (i+1) m' σ2 H2)/\∀x H2,J.yld i H' x H2->g x σ' H2 λσ3 H3=>
   tc σ3 H3 λb H4=>if b=true then te σ3 H4 λy H5=>∃ys,H5 D=some (.lst ys)/\ys.length<sizeLine/\N σ3 (upd H5 D (.lst (ys++[y]))) else N σ3 H4))(hR:∀(D C:Addr) (H':Hp) (s':Shared) (m:Str->Option Value),s'.heap.Ns C m->C≠X.env.locals->H' C=none->X.s₀.heap.objs.size<=C->(∀x c,X.env.cells.lookup x=some c->c≠C)->(∀p∈X.pn++A3,p.1≠C)->C∉X.fs->Inv X A3 σ H' s'->Q (.ref D) H'->RR (.ref D) C (.ok .next) s') :
 wpAny (model X.prog X.w) X.A (newList []) (λacc s₃=>wpAny (model X.prog X.w) X.A (newFunctionEnv scope X.env.globals (wu7 X.env.cells scope.names []) [] X.env.qual none .none (some X.env)) (λcenv s₄=>
  codeAny (model X.prog X.w) X.A (.compStart (.ListComp elt [⟨tg,iter,ifs,0⟩] scope pos) 0 (.ref it) acc { cenv with scope:=relabel scope X.env }) (RR acc cenv.locals) s₄) E s₃) E s2:=by
 have fD:H2 s2.heap.objs.size=none:=I2.hok.fresh (Ad0 _);refine wpAny_newObj_type ?_;have I3:Inv X A3 σ (upd H2 s2.heap.objs.size (.lst [])) { s2 with heap:=s2.heap.push { cls:=.type "list",dict:=none,data:=.seq ([]:List Value).toArray } }:=
  I2.lnew (ys:=[]) (its:=[]) (t':=s2.toks) .nil (Am0 _)
 generalize hs3:({ s2 with heap:=s2.heap.push { cls:=.type "list",dict:=none,data:=.seq ([]:List Value).toArray } }:Shared)=s3 at I3;have kp3:∀b o,s2.heap.get? b=some o->s3.heap.get? b=some o:=λb o e=>by rw[<-hs3];exact Ab0 _ e
 have os3:s3.heap.objs.size=s2.heap.objs.size+1:=by rw[<-hs3];exact Bs0 _ _
 have goal:wpAny (model X.prog X.w) X.A (newFunctionEnv scope X.env.globals (wu7 X.env.cells scope.names []) [] X.env.qual none .none (some X.env)) (λcenv s₄=>
  codeAny (model X.prog X.w) X.A (.compStart (.ListComp elt [⟨tg,iter,ifs,0⟩] scope pos) 0 (.ref it) (.ref s2.heap.objs.size) { cenv with scope:=relabel scope X.env }) (RR (.ref s2.heap.objs.size) cenv.locals) s₄) E s3:=by
  refine wpAny_newFunctionEnv S.nocell (by intro y hy;simp at hy) (λh1 hns hsb=>?_) S.kind;have kp4:∀b o,s3.heap.get? b=some o->h1.get? b=some o:=λb o e=>hsb.extBut b o (As0 (Heap.lt_size e)) (Ab0 _ e)
  have fpO:∀b∈fp,∃o,s2.heap.get? b=some o/\∀v,o.data≠.cell v:=T.obj 0 s2.heap st2;have f3:∀b∈fp,wz6 X A3 (upd H2 s2.heap.objs.size (.lst [])) b:=λb hb=>by
   obtain⟨o,e,_⟩:=fpO b hb;exact⟨by rw[za9 (As0 (Heap.lt_size e))];exact(f2 b hb).1,(f2 b hb).2⟩
  have I4:=I3.comp (h':=h1) (t':=s3.toks+([]:List (Str×Value)).length) S f3 (λb hb=>let ⟨o,e,d⟩:=fpO b hb;⟨o,kp3 b o e,d⟩) kp4 hns;have st4:tn 0 h1:=T.keep 0 _ _ st2 λb _ o e=>kp4 b o (kp3 b o e)
  show codeAny (model X.prog X.w) X.A (.compStart (.ListComp elt [⟨tg,iter,ifs,0⟩] scope pos) 0 (.ref it) (.ref s2.heap.objs.size) (compEnvC scope (wu7 X.env.cells scope.names []) s3.heap.objs.size X.env)) (RR (.ref s2.heap.objs.size) s3.heap.objs.size) { s3 with heap:=h1,toks:=s3.toks+([]:List (Str×Value)).length };have st4':tn 0 ({ s3 with heap:=h1,toks:=s3.toks+([]:List (Str×Value)).length }:Shared).heap:=st4;generalize ({ s3 with heap:=h1,toks:=s3.toks+([]:List (Str×Value)).length }:Shared)=s4 at I4 st4' ⊢;obtain⟨W,⟨m0,w0⟩,step⟩:=hw s2.heap.objs.size fD;have fpOld:∀b∈fp,b<s3.heap.objs.size:=λb hb=>by
   obtain⟨o,e,_⟩:=fpO b hb;exact Heap.lt_size (kp3 b o e)
  have stat:∀{H':Hp},(∀b∈fp,H' b=none)->∀b∈fp,wz6 (zg5 X N' scope (wu7 X.env.cells scope.names []) s3.heap.objs.size s3 (upd H2 s2.heap.objs.size (.lst [])) fp) [] H' b:=λhn b hb=>
   ⟨hn b hb,As0 (fpOld b hb),λz=>I4.ok.exfs b hb z,.inl hb,(I4.ok.exf b hb).2,λp hp=>absurd (show p∈([]:List (Addr×Obj)) from hp) (by simp)⟩
  have loop:codeAny (model X.prog X.w) X.A (.compLoop (.ListComp elt [⟨tg,iter,ifs,0⟩] scope pos) 0 (.ref it) (.ref s2.heap.objs.size) (compEnvC scope (wu7 X.env.cells scope.names []) s3.heap.objs.size X.env)) (RR (.ref s2.heap.objs.size) s3.heap.objs.size) s4:=by
   obtain⟨hg,ht,he⟩:=hin (wu7 X.env.cells scope.names []) s3.heap.objs.size s3 (upd H2 s2.heap.objs.size (.lst [])) fp;refine yk9 (λn s'=>∃i σ' H',Inv (zg5 X N' scope (wu7 X.env.cells scope.names []) s3.heap.objs.size s3 (upd H2 s2.heap.objs.size (.lst [])) fp) [] σ' H' s'/\tn i s'.heap/\(∀b∈fp,H' b=none)/\W i n σ' H') ?_ m0 ⟨0,_,_,I4,st4',λb hb=>(f3 b hb).1,w0⟩;rintro n s5 ⟨i,σ5,H5,I5,st5,fr5,w5⟩;rcases step i n σ5 H5 w5 with⟨stop,q⟩ | ⟨go,N,hN,go2⟩
   ·refine thn (T.done (zg5 X N' scope (wu7 X.env.cells scope.names []) s3.heap.objs.size s3 (upd H2 s2.heap.objs.size (.lst [])) fp) rfl rfl rfl hc i [] s5 σ5 H5 (λ_ _=>False) I5 (stat fr5) st5 stop) λr s6 hI89=>?_
    obtain⟨hr,I6⟩:=hI89;subst hr;obtain⟨m,hm,_⟩:=I6.loc;refine hR _ _ H5 s6 m hm (Ne.symm (As0 I3.lt)) I6.free I3.sz (λx c e z=>?_) (λp hp z=>?_) (I3.nofs (Ad0 _)) (I3.call' (ch:=fp) I6.os I6.base I6.hok I6.bare λb hb=>⟨(f3 b hb).2.2.2.1,(f3 b hb).2.1,(f3 b hb).2.2.2.2.1,(f3 b hb).2.2.2.2.2⟩) q
    ·obtain⟨v,y⟩:=I3.cell x c e
     have:=y.lt;rw[z] at this;exact absurd this (Bt0 _)
    ·have:=Heap.lt_size (I3.pin p hp).1
     rw[z] at this;exact absurd this (Bt0 _)
   ·refine thn (T.item (zg5 X N' scope (wu7 X.env.cells scope.names []) s3.heap.objs.size s3 (upd H2 s2.heap.objs.size (.lst [])) fp) rfl rfl rfl hc i [] s5 σ5 H5 (λ_ _=>False) I5 (stat fr5) st5 go) λr s6 hI90=>?_
    obtain⟨u,hr,h6⟩:=hI90;subst hr;refine thn h6 λ_ s7 hI91=>?_
    obtain⟨x,H7,I7,r7,y7,st7,fr7⟩:=hI91;have I7':=I7.pinned (stat fr7) (T.obj _ _ st7);refine thn (hg _ s7 σ5 H7 x u _ I7' r7 (go2 x H7 y7)) λ_ s8 hI92=>?_
    obtain⟨σ8,H8,I8,q8⟩:=hI92;refine thn (ht _ s8 σ8 H8 _ I8 q8) λok s9 hI93=>?_
    obtain⟨H9,I9,q9⟩:=hI93;have again:∀{sz:Shared} {σz:St} {Hz:Hp},Inv (zg5 X N' scope (wu7 X.env.cells scope.names []) s3.heap.objs.size s3 (upd H2 s2.heap.objs.size (.lst [])) fp) ([]++yn1 fp s7.heap) σz Hz sz->N σz Hz->
     ∃m,m<n/\∃i σ' H',Inv (zg5 X N' scope (wu7 X.env.cells scope.names []) s3.heap.objs.size s3 (upd H2 s2.heap.objs.size (.lst [])) fp) [] σ' H' sz/\tn i sz.heap/\(∀b∈fp,H' b=none)/\W i m σ' H':=λ{sz σz Hz} Iz nz=>by
     obtain⟨m',hm,wz⟩:=hN σz Hz nz;refine⟨m',hm,i+1,σz,Hz,Iz.unpinned,T.keep _ _ _ st7 λb hb o e=>(Iz.pin (b,o) (Be0 _ (Be0 _ (zs3 hb e)))).1,λb hb=>?_,wz⟩;obtain⟨o,e,d⟩:=T.obj _ _ st7 b hb;exact(Iz.pin (b,o) (Be0 _ (Be0 _ (zs3 hb e)))).2.1
    cases ok with
    | false=>
      rw[if_neg (by decide)] at q9 ⊢;exact again I9 q9
    | true=>
      rw[if_pos rfl] at q9 ⊢;refine thn (he _ s9 σ8 H9 _ I9 q9) λv s10 hI94=>?_
      obtain⟨y,H10,I10,r10,ys,hD,hz,q10⟩:=hI94;refine thn (zj6 _ s10 σ8 H10 (.ref s2.heap.objs.size) [y] (.ref s2.heap.objs.size) [v] (λ_ H=>N σ8 H) I10 rfl (.cons r10 .nil) ⟨_,ys,y,rfl,rfl,hD,hz,q10⟩) λ_ s11 hI95=>?_
      obtain⟨_,H11,I11,_,q11⟩:=hI95;exact again I11 q11
  refine codeAny_compStart_list loop (T.self _ 0 _ _ _ st4' loop)
 exact goal
def wd4(S:zi7 X N' ixs scope)(hc:X.calm=true)(hi:PI X tg iter wi)(hin:∀cl C s H fp,PG (zg5 X N' scope cl C s H fp) tg g/\PTs (zg5 X N' scope cl C s H fp) ifs tc/\PE (zg5 X N' scope cl C s H fp) elt te)(hs:∀x,foldedSetIterable iter X.env x=pure x:=by intro _;rfl) :
 PE X (.ListComp elt [⟨tg,iter,ifs,0⟩] scope pos) (vf8 wi ixs g tc te):=by
 intro A3 s σ H Q I h;rw[eval_ListComp];refine wpAny_comprehension_free (use:=none) rfl hs (S.clos I) S.kind S.loc (thn (hi A3 s σ H _ I h) λv s1 h1=>thn h1 λitv s2 h2=>?_);obtain⟨it,fp,tn,J,H2,rfl,I2,T,st2,f2,hw⟩:=h2;refine yh4 (RR:=λacc C=>compPost (model X.prog X.w) X.A X.xe none (EP X A3 σ Q) acc C) S hc I2 T st2 f2 hin hw ?_;intro D C H' s' m hn hL hC hsz hcl hpn hfs I' q;refine⟨m,hn,λh' hs'=>⟨.ref D,H',?_,rfl,q⟩⟩;exact I'.turned (t':=s'.toks) (λb o hb e=>hs'.extBut b o hb e) hC hL (.inr hsz) hcl hpn
open H in
def wc9{i:Nat}{y:Str}(S:zi7 X N' ixs scope)(hc:X.calm=true)(hN:X.N.Nodup)(hi:X.N[i]?=some y)(hy:X.env.scope.names.lookup y=some .local)(hit:PI X tg iter wi)(hin:∀cl C s H fp,PG (zg5 X N' scope cl C s H fp) tg g/\PTs (zg5 X N' scope cl C s H fp) ifs tc/\PE (zg5 X N' scope cl C s H fp) elt te)(hsw:swapsWith (.ListComp elt [⟨tg,iter,ifs,0⟩] scope pos) (some (.Name y py)) spos.line X.env=pure true)(hs:∀x,foldedSetIterable iter X.env x=pure x:=by intro _;rfl) :
 PS X (.Assign [.Name y py] (.ListComp elt [⟨tg,iter,ifs,0⟩] scope pos) spos) (vm2 (vf8 wi ixs g tc te) (vc5 i)):=by
 intro A3 s σ H D I h;rw[exec_Assign_Name_used _ _ _ _ hsw];refine Aa1 (wpAny_standAt (Aa1 ?_));show wpAny _ X.A (do let _ <-comprehension (.ListComp elt [⟨tg,iter,ifs,0⟩] scope pos) scope X.env _ (newList []) false (eval iter X.env) (some (assign (.Name y py) X.env))) _ _ s;refine Aa1 (Ah1 (wpAny_comprehension_free (use:=some (assign (.Name y py) X.env)) (Q:=λ_ s'=>SP X A3 D .next s') rfl hs (S.clos I) S.kind S.loc (thn (hit A3 s σ H _ I h) λv s1 h1=>thn h1 λitv s2 h2=>?_)) (λ_ s' hq=>Ac1 (Ac1 hq)) λ_ _ e=>e);obtain⟨it,fp,tn,J,H2,rfl,I2,T,st2,f2,hw⟩:=h2;refine yh4 (Q:=λx H1=>vc5 i x σ H1 D.nx) (RR:=λacc C=>compPost (model X.prog X.w) X.A X.xe (some (assign (.Name y py) X.env)) (λ_ s'=>SP X A3 D .next s') acc C) S hc I2 T st2 f2 hin hw ?_;intro D' C H' s' m hn hL hC hsz hcl hpn hfs I' q;show wpAny _ X.A (assign (.Name y py) X.env (.ref D')) _ _ _;refine wpAny_assign_Name (ym2 (v:=V.ref D') I' hN hi (.inl hy) rfl (λs3 I3 hI96=>?_) (.inr hy));obtain⟨a,hsb,ha⟩:=hI96;have hCa:C≠a:=by
  rcases ha with rfl | ha
  ·exact hL
  ·exact λz=>hcl y a ha z.symm
 refine⟨m,hn.sameBut hsb hCa,λh' hs'=>⟨_,H',?_,q⟩⟩;exact I3.turned (t':=s3.toks) (λb o hb e=>hs'.extBut b o hb e) hC hL (.inr hsz) hcl hpn
end
inductive D where
 | non | bl (b:Bool) | int (i:Int) | str (x:Str) | tup (l:List D) | lst (l:List D) | dct (ks vs:List D) | fl (l:List D) | fd (ks vs:List D)
noncomputable def va7:Key->D
 | .inl i=>.int i
 | .inr x=>.str x
noncomputable def wr2(k:List Key):D:=.tup (k.map va7)
mutual
noncomputable def Is(K:PySem.W.Frag)(A:Addr->Prop)(H:Hp):D->V->Prop
 | .non,v=>v=.non
 | .bl b,v=>v=.bl b
 | .int i,v=>v=.int i
 | .str x,v=>v=.str x
 | .tup l,v=>∃a vs,v=.ref a/\H a=some (.tup vs)/\IsL K A H l vs
 | .lst l,v=>∃a vs,v=.ref a/\A a/\H a=some (.lst vs)/\IsL K A H l vs
 | .dct ks l,v=>∃a vs,v=.ref a/\A a/\IsL K A H l vs/\
  ((∃kk:List Key,ks=kk.map va7/\kk.length=vs.length/\H a=some (.dK (kk.zip vs)))\/(∃kk:List (List Key),ks=D.non::kk.map wr2/\kk.length=vs.length/\H a=some (.dT (kk.zip vs))))
 | .fl l,v=>∃a o vs,v=.ref a/\H a=some (.frz o (.lst vs))/\IsL K A H l vs
 | .fd ks l,v=>∃(a:Addr) (o:Obj) (vs:List V) (kk:List (List Key)),v=.ref a/\ks=kk.map wr2/\kk.length=vs.length/\H a=some (.frz o (.dT (kk.zip vs)))/\IsL K A H l vs
noncomputable def IsL(K:PySem.W.Frag)(A:Addr->Prop)(H:Hp):List D->List V->Prop
 | [],vs=>vs=[]
 | d::l,vs=>∃v r,vs=v::r/\Is K A H d v/\IsL K A H l r
end
noncomputable def vt7(o:HO):Prop:=(∃u,o=.tup u)\/∃ob u,o=.frz ob u
structure wr9(A A':Addr->Prop)(H H':Hp):Prop where
 sty:∀b o,H b=some o->vt7 o->H' b=some o
 nod:∀b o,A b->H b=some o->A' b/\H' b=some o
section
variable{K:PySem.W.Frag}{A A':Addr->Prop}{H H':Hp}
def wr9.tup(k:wr9 A A' H H')(b:Addr)(u:List V)(h:H b=some (.tup u)):H' b=some (.tup u):=k.sty b _ h (.inl ⟨_,rfl⟩)
def wr9.frz(k:wr9 A A' H H')(b:Addr)(o:Obj)(u:HO)(h:H b=some (.frz o u)):H' b=some (.frz o u):=k.sty b _ h (.inr ⟨_,_,rfl⟩)
mutual
theorem Is.mono(k:wr9 A A' H H'):∀{d:D} {v:V},Is K A H d v->Is K A' H' d v
 | .non,_,h=>h
 | .bl _,_,h=>h
 | .int _,_,h=>h
 | .str _,_,h=>h
 | .tup l,v,h=>by
   unfold Is at h ⊢;obtain⟨a,vs,e,q,i⟩:=h;exact⟨a,vs,e,k.tup a vs q,IsL.mono k i⟩
 | .lst l,v,h=>by
   unfold Is at h ⊢;obtain⟨a,vs,e,n,q,i⟩:=h;exact⟨a,vs,e,(k.nod a _ n q).1,(k.nod a _ n q).2,IsL.mono k i⟩
 | .dct ks l,v,h=>by
   unfold Is at h ⊢;obtain⟨a,vs,e,n,i,q⟩:=h;refine⟨a,vs,e,?_,IsL.mono k i,?_⟩
   ·rcases q with⟨_,_,_,q⟩ | ⟨_,_,_,q⟩<;>exact(k.nod a _ n q).1
   ·rcases q with⟨kk,e1,e2,q⟩ | ⟨kk,e1,e2,q⟩
    ·exact .inl ⟨kk,e1,e2,(k.nod a _ n q).2⟩
    ·exact .inr ⟨kk,e1,e2,(k.nod a _ n q).2⟩
 | .fl l,v,h=>by
   unfold Is at h ⊢;obtain⟨a,o,vs,e,q,i⟩:=h;exact⟨a,o,vs,e,k.frz a o _ q,IsL.mono k i⟩
 | .fd ks l,v,h=>by
   unfold Is at h ⊢;obtain⟨a,o,vs,kk,e,e1,e2,q,i⟩:=h;exact⟨a,o,vs,kk,e,e1,e2,k.frz a o _ q,IsL.mono k i⟩
theorem IsL.mono(k:wr9 A A' H H'):∀{l:List D} {vs:List V},IsL K A H l vs->IsL K A' H' l vs
 | [],_,h=>h
 | d::l,vs,h=>by
   unfold IsL at h ⊢;obtain⟨v,r,e,i,j⟩:=h;exact⟨v,r,e,Is.mono k i,IsL.mono k j⟩
end
def IsL.nil:IsL K A H [] vs↔vs=[]:=by unfold IsL;rfl
def IsL.cons{d:D}{l:List D}{vs:List V}:IsL K A H (d::l) vs↔∃v r,vs=v::r/\Is K A H d v/\IsL K A H l r:=by conv=>lhs;unfold IsL
theorem IsL.length:∀{l:List D} {vs:List V},IsL K A H l vs->l.length=vs.length
 | [],vs,h=>by rw[IsL.nil.mp h];rfl
 | d::l,vs,h=>by
   obtain⟨v,r,e,_,j⟩:=IsL.cons.mp h;rw[e,Ar0,Ar0,IsL.length j]
theorem IsL.get:∀{l:List D} {vs:List V} {i:Nat} {d:D},IsL K A H l vs->l[i]?=some d->∃v,vs[i]?=some v/\Is K A H d v
 | [],_,_,_,_,e=>by simp at e
 | x::l,vs,0,d,h,e=>by
   obtain⟨v,r,e',i,_⟩:=IsL.cons.mp h;simp at e;subst e e';exact⟨v,rfl,i⟩
 | x::l,vs,i+1,d,h,e=>by
   obtain⟨v,r,e',_,j⟩:=IsL.cons.mp h;subst e';simpa using IsL.get (i:=i) j (by simpa using e)
theorem IsL.append:∀{l m:List D} {vs us:List V},IsL K A H l vs->IsL K A H m us->IsL K A H (l++m) (vs++us)
 | [],m,vs,us,h,g=>by rw[IsL.nil.mp h];exact g
 | d::l,m,vs,us,h,g=>by
   obtain⟨v,r,e,i,j⟩:=IsL.cons.mp h;subst e;exact IsL.cons.mpr ⟨v,r++us,rfl,i,IsL.append j g⟩
def IsL.one{d:D}{v:V}(h:Is K A H d v):IsL K A H [d] [v]:=IsL.cons.mpr ⟨v,[],rfl,h,IsL.nil.mpr rfl⟩
theorem IsL.take:∀{l:List D} {vs:List V} (n:Nat),IsL K A H l vs->IsL K A H (l.take n) (vs.take n)
 | _,_,0,_=>by simp only[List.take_zero];exact IsL.nil.mpr rfl
 | [],vs,n+1,h=>by rw[IsL.nil.mp h];simp only[List.take_nil];exact IsL.nil.mpr rfl
 | d::l,vs,n+1,h=>by
   obtain⟨v,r,e,i,j⟩:=IsL.cons.mp h;subst e;exact IsL.cons.mpr ⟨v,r.take n,rfl,i,IsL.take n j⟩
theorem IsL.drop:∀{l:List D} {vs:List V} (n:Nat),IsL K A H l vs->IsL K A H (l.drop n) (vs.drop n)
 | _,_,0,h=>by simpa only[List.drop_zero] using h
 | [],vs,n+1,h=>by rw[IsL.nil.mp h];simp only[List.drop_nil];exact IsL.nil.mpr rfl
 | d::l,vs,n+1,h=>by
   obtain⟨v,r,e,i,j⟩:=IsL.cons.mp h;subst e;exact IsL.drop n j
theorem IsL.reverse:∀{l:List D} {vs:List V},IsL K A H l vs->IsL K A H l.reverse vs.reverse
 | [],vs,h=>by rw[IsL.nil.mp h];exact IsL.nil.mpr rfl
 | d::l,vs,h=>by
   obtain⟨v,r,e,i,j⟩:=IsL.cons.mp h;subst e;rw[Cv0,Cv0];exact IsL.append (IsL.reverse j) (IsL.one i)
end
mutual
noncomputable def D.imm:D->Bool
 | .tup l=>D.immL l
 | .lst _=>false
 | .dct _ _=>false
 | .fd _ _=>false
 | .fl l=>D.immL l
 | _=>true
noncomputable def D.immL:List D->Bool
 | []=>true
 | d::l=>D.imm d&&D.immL l
end
section
variable{K:PySem.W.Frag}{A A':Addr->Prop}{H:Hp}
mutual
theorem Is.ofImm:∀{d:D} {v:V},d.imm=true->Is K A H d v->Is K A' H d v
 | .non,_,_,h=>h
 | .bl _,_,_,h=>h
 | .int _,_,_,h=>h
 | .str _,_,_,h=>h
 | .tup l,v,m,h=>by
   unfold Is at h ⊢;obtain⟨a,vs,e,q,i⟩:=h;exact⟨a,vs,e,q,IsL.ofImm (by simpa [D.imm] using m) i⟩
 | .lst l,v,m,_=>by simp[D.imm] at m
 | .dct _ l,v,m,_=>by simp[D.imm] at m
 | .fd _ l,v,m,_=>by simp[D.imm] at m
 | .fl l,v,m,h=>by
   unfold Is at h ⊢;obtain⟨a,o,vs,e,q,i⟩:=h;exact⟨a,o,vs,e,q,IsL.ofImm (by simpa [D.imm] using m) i⟩
theorem IsL.ofImm:∀{l:List D} {vs:List V},D.immL l=true->IsL K A H l vs->IsL K A' H l vs
 | [],_,_,h=>h
 | d::l,vs,m,h=>by
   have m':d.imm=true/\D.immL l=true:=by simpa [D.immL] using m
   unfold IsL at h ⊢;obtain⟨v,r,e,i,j⟩:=h;exact⟨v,r,e,Is.ofImm m'.1 i,IsL.ofImm m'.2 j⟩
end
def Is.tup{a:Addr}{vs:List V}{l:List D}(h:H a=some (.tup vs))(i:IsL K A H l vs):Is K A H (.tup l) (.ref a):=by
 unfold Is;exact⟨a,vs,rfl,h,i⟩
def Is.lst{a:Addr}{vs:List V}{l:List D}(n:A a)(h:H a=some (.lst vs))(i:IsL K A H l vs):Is K A H (.lst l) (.ref a):=by
 unfold Is;exact⟨a,vs,rfl,n,h,i⟩
def Is.int_iff{i:Int}:Is K A H (.int i) v↔v=.int i:=by unfold Is;rfl
def Is.bl_iff{i:Bool}:Is K A H (.bl i) v↔v=.bl i:=by unfold Is;rfl
def Is.str_iff{i:Str}:Is K A H (.str i) v↔v=.str i:=by unfold Is;rfl
def Is.non_iff:Is K A H .non v↔v=.non:=by unfold Is;rfl
def Is.tup_iff:Is K A H (.tup l) v↔∃a vs,v=.ref a/\H a=some (.tup vs)/\IsL K A H l vs:=by conv=>lhs;unfold Is
def Is.tup_sq(h:Is K A H (.tup l) v):∃a vs,v=.ref a/\SqT K H a vs/\IsL K A H l vs:=let ⟨a,vs,e,s,i⟩:=Is.tup_iff.mp h;⟨a,vs,e,.of s,i⟩
def Is.lst_iff:Is K A H (.lst l) v↔∃a vs,v=.ref a/\A a/\H a=some (.lst vs)/\IsL K A H l vs:=by conv=>lhs;unfold Is
def Is.fl_iff:Is K A H (.fl l) v↔∃a o vs,v=.ref a/\H a=some (.frz o (.lst vs))/\IsL K A H l vs:=by conv=>lhs;unfold Is
def Is.fd_iff{ks l:List D}{v:V}:Is K A H (.fd ks l) v↔∃(a:Addr) (o:Obj) (vs:List V) (kk:List (List Key)),v=.ref a/\ks=kk.map wr2/\kk.length=vs.length/\H a=some (.frz o (.dT (kk.zip vs)))/\IsL K A H l vs:=by conv=>lhs;unfold Is
def Is.dct_iff:Is K A H (.dct ks l) v↔∃a vs,v=.ref a/\A a/\IsL K A H l vs/\
 ((∃kk:List Key,ks=kk.map va7/\kk.length=vs.length/\H a=some (.dK (kk.zip vs)))\/(∃kk:List (List Key),ks=D.non::kk.map wr2/\kk.length=vs.length/\H a=some (.dT (kk.zip vs)))):=by conv=>lhs;unfold Is
end
structure Exn where
 cls:Str
 args:List D
inductive Res(S α:Type) where
 | ok (a:α) (st:S) | exc (x:Exn) (st:S) | bad
variable{S α β γ:Type}
noncomputable def Res.bind(r:Res S α)(k:α->S->Res S β):Res S β:=match r with
 | .ok a st=>k a st
 | .exc x st=>.exc x st
 | .bad=>.bad
noncomputable def wpR(r:Res S α)(Q:α->S->Prop)(E:Exn->S->Prop):Prop:=match r with
 | .ok a st=>Q a st
 | .exc x st=>E x st
 | .bad=>False
def za5:wpR (r.bind k) Q E↔wpR r (λa st=>wpR (k a st) Q E) E:=by
 cases r<;>rfl
theorem za6{r:Res S α}{Q Q':α->S->Prop}{E E':Exn->S->Prop}(h:wpR r Q E)(hQ:∀a st,Q a st->Q' a st)(hE:∀x st,E x st->E' x st):wpR r Q' E':=by
 cases r with
 | ok a st=>exact hQ a st h
 | exc x st=>exact hE x st h
 | bad=>exact h.elim
noncomputable def ws3(o:Option α)(st:S):Res S α:=match o with
 | some a=>.ok a st
 | none=>.bad
theorem zb2{o:Option α}{st:S}{Q:α->S->Prop}{E:Exn->S->Prop}:wpR (ws3 o st) Q E↔∃a,o=some a/\Q a st:=by
 cases o with
 | none=>constructor
         ·intro h;exact h.elim
         ·rintro ⟨a,e,_⟩;cases e
 | some a=>constructor
           ·intro h;exact⟨a,rfl,h⟩
           ·rintro ⟨b,e,q⟩;cases e;exact q
@[simp] theorem Res.bind_ok (a:α) (st:S) (k:α->S->Res S β):(Res.ok a st).bind k=k a st:=rfl
structure Wd(S:Type) where
 ok:S->Hp->Prop
 mv:Addr->Prop
 h:V
 stay:∀st H H',ok st H->(∀b o,mv b->H b=some o->H' b=some o)->ok st H'
 live:∀st H b,ok st H->mv b->∃o,H b=some o/\(∀u,o≠.tup u)/\∀ob u,o≠.frz ob u
noncomputable def W0:Wd Unit:=⟨λ_ _=>True,λ_=>False,.non,λ_ _ _ h _=>h,λ_ _ _ _ h=>h.elim⟩
inductive Sl where
 | no | bor (d:D) | own (d:D) | hnd
noncomputable abbrev Rho:=List Sl
structure Dx{S:Type}(W:Wd S) where
 K:PySem.W.Frag
 H0:Hp
 Ex:Exn->S->Hp->Prop
 /-- addresses that no tree holds (a comprehension's list while it grows) -/
 av:Addr->Prop
noncomputable def Ext{S:Type}(W:Wd S)(H H':Hp):Prop:=∀b o,H b=some o->¬W.mv b->H' b=some o
def Ext.refl{S:Type}{W:Wd S}{H:Hp}:Ext W H H:=λ_ _ h _=>h
def Ext.trans{S:Type}{W:Wd S}{H H1 H2:Hp}(a:Ext W H H1)(b:Ext W H1 H2):Ext W H H2:=λc o h n=>b c o (a c o h n) n
def Ext.laid{S:Type}{W:Wd S}{H:Hp}{p:Addr}{o:HO}(h:H p=none):Ext W H (upd H p o):=λb u e _=>by rw[za9 (zb7 e h)];exact e
def wx7.ext{S:Type}{W:Wd S}{H H':Hp}(h:wx7 H H'):Ext W H H':=λb o e _=>h b o e
noncomputable def Ow(σ:St)(ρ:Rho)(b:Addr):Prop:=∃(i:Nat) (d:D),ρ[i]?=some (Sl.own d)/\σ[i]?=some (some (V.ref b))
noncomputable def Av{S:Type}{W:Wd S}(c:Dx W)(σ:St)(ρ:Rho)(b:Addr):Prop:=¬W.mv b/\¬Ow σ ρ b/\¬c.av b
noncomputable def Top(K:PySem.W.Frag)(A:Addr->Prop)(H:Hp)(d:D)(a:Addr):Prop:=match d with
 | .lst l=>∃vs,H a=some (.lst vs)/\IsL K A H l vs
 | .dct ks l=>∃vs,IsL K A H l vs/\((∃kk:List Key,ks=kk.map va7/\kk.length=vs.length/\H a=some (.dK (kk.zip vs)))\/(∃kk:List (List Key),ks=D.non::kk.map wr2/\kk.length=vs.length/\H a=some (.dT (kk.zip vs))))
 | _=>False
noncomputable def wa0{S:Type}{W:Wd S}(c:Dx W)(H:Hp)(A:Addr->Prop)(ov:Option V):Sl->Prop
 | .no=>True
 | .bor d=>∃v,ov=some v/\Is c.K A H d v
 | .own d=>∃a,ov=some (.ref a)/\(¬W.mv a/\¬c.av a)/\c.H0 a=none/\Top c.K A H d a
 | .hnd=>ov=some W.h
structure Rep{S:Type}{W:Wd S}(c:Dx W)(H:Hp)(σ:St)(ρ:Rho):Prop where
 len:σ.length=ρ.length
 frame:∀b o,c.H0 b=some o->¬W.mv b->H b=some o
 slot:∀(i:Nat) (s:Sl),ρ[i]?=some s->wa0 c H (Av c σ ρ) (σ[i]?).join s
 avl:∀b,c.av b->¬W.mv b/\c.H0 b=none/\∃o,H b=some o/\(∀u,o≠.tup u)/\∀ob u,o≠.frz ob u
 uniq:∀(i j:Nat) (a:Addr) (d e:D),ρ[i]?=some (.own d)->ρ[j]?=some (.own e)->σ[i]?=some (some (.ref a))->σ[j]?=some (some (.ref a))->i=j
section
variable{S:Type}{W:Wd S}{c:Dx W}{H H':Hp}{σ:St}{ρ:Rho}{A A':Addr->Prop}
theorem Top.isTop(n:A a)(h:Top c.K A H d a):Is c.K A H d (.ref a):=by
 cases d with
 | lst l=>obtain⟨vs,e,i⟩:=h;exact Is.lst n e i
 | dct ks l=>obtain⟨vs,i,q⟩:=h;exact Is.dct_iff.mpr ⟨a,vs,rfl,n,i,q⟩
 | _=>exact h.elim
theorem Top.there(h:Top c.K A H d a):∃o,H a=some o/\(∀u,o≠.tup u)/\∀ob u,o≠.frz ob u:=by
 cases d with
 | lst l=>obtain⟨vs,e,i⟩:=h;exact⟨_,e,(λu z=>by cases z),(λob u z=>by cases z)⟩
 | dct ks l=>
   obtain⟨vs,i,⟨_,_,_,q⟩ | ⟨_,_,_,q⟩⟩:=h
   ·exact⟨_,q,(λu z=>by cases z),(λob u z=>by cases z)⟩
   ·exact⟨_,q,(λu z=>by cases z),(λob u z=>by cases z)⟩
 | _=>exact h.elim
theorem Top.mono{d:D}{a:Addr}(k:wr9 A A' H H')(e:∀o,H a=some o->H' a=some o)(h:Top c.K A H d a):Top c.K A' H' d a:=by
 cases d with
 | lst l=>obtain⟨vs,q,i⟩:=h;exact⟨vs,e _ q,i.mono k⟩
 | dct ks l=>
   obtain⟨vs,i,⟨kk,e1,e2,q⟩ | ⟨kk,e1,e2,q⟩⟩:=h
   ·exact⟨vs,i.mono k,.inl ⟨kk,e1,e2,e _ q⟩⟩
   ·exact⟨vs,i.mono k,.inr ⟨kk,e1,e2,e _ q⟩⟩
 | _=>exact h.elim
def Rep.owOk(R:Rep c H σ ρ)(h:Ow σ ρ b):¬W.mv b/\c.H0 b=none/\∃o,H b=some o/\(∀u,o≠.tup u)/\∀ob u,o≠.frz ob u:=by
 obtain⟨i,d,e1,e2⟩:=h;obtain⟨a,e,n,f,t⟩:=R.slot i _ e1;rw[e2] at e;have e:some (V.ref b)=some (V.ref a):=e;cases e;exact⟨n.1,f,t.there⟩
def zj4(ht:∀b o,H b=some o->(∃u,o=.tup u)\/(∃ob u,o=.frz ob u)->H' b=some o)(hn:∀b o,A b->H b=some o->A' b/\H' b=some o):wr9 A A' H H':=
 ⟨ht,hn⟩
def Ext.keepT{st:S}(e:Ext W H H')(ok:W.ok st H)(hA:∀b,A b->¬W.mv b/\A' b):wr9 A A' H H':=
 zj4 (λb o h t=>e b o h λm=>by
  obtain⟨o',h',n1,n2⟩:=W.live st H b ok m;rw[h] at h';cases h';rcases t with⟨u,z⟩ | ⟨ob,u,z⟩
  ·exact n1 u z
  ·exact n2 ob u z) λb o a h=>⟨(hA b a).2,e b o h (hA b a).1⟩
def Rep.ext{st:S}(R:Rep c H σ ρ)(ok:W.ok st H)(e:Ext W H H'):Rep c H' σ ρ where
 len:=R.len
 frame:=λb o h n=>e b o (R.frame b o h n) n
 avl:=λb h=>let ⟨n,z,o,h',q⟩:=R.avl b h;⟨n,z,o,e b o h' n,q⟩
 uniq:=R.uniq
 slot:=λi s h=>by
  have k:wr9 (Av c σ ρ) (Av c σ ρ) H H':=e.keepT ok λb a=>⟨a.1,a⟩
  have q:=R.slot i s h;cases s with
  | no=>trivial
  | bor d=>obtain⟨v,e1,i1⟩:=q;exact⟨v,e1,i1.mono k⟩
  | own d=>obtain⟨a,e1,n,f,t⟩:=q;exact⟨a,e1,n,f,t.mono k λo z=>e a o z n.1⟩
  | hnd=>exact q
end
noncomputable def D.mut:D->Bool
 | .lst _=>true
 | .dct _ _=>true
 | _=>false
inductive Gr where
 | R | B | F
noncomputable def Val{S:Type}{W:Wd S}(c:Dx W)(g:Gr)(σ:St)(ρ:Rho)(H H':Hp)(d:D)(v:V):Prop:=match g with
 | .R=>Is c.K (λb=>¬W.mv b) H' d v
 | .B=>Is c.K (Av c σ ρ) H' d v
 | .F=>Is c.K (Av c σ ρ) H' d v/\∀a,v=.ref a->d.mut=true->H a=none
section
variable{S:Type}{W:Wd S}{c:Dx W}{H H1 H':Hp}{σ:St}{ρ:Rho}{d:D}{v:V}{g:Gr}
theorem Val.toR(h:Val c g σ ρ H H' d v):Val c .R σ ρ H H' d v:=by
 have k:wr9 (Av c σ ρ) (λb=>¬W.mv b) H' H':=⟨λ_ _ z _=>z,λb o a z=>⟨a.1,z⟩⟩;cases g with
 | R=>exact h
 | B=>exact Is.mono k h
 | F=>exact Is.mono k h.1
def Val.toB(h:Val c .F σ ρ H H' d v):Val c .B σ ρ H H' d v:=h.1
end
noncomputable abbrev Fn(S:Type):=Rho->S->Res S D
noncomputable def tD{S:Type}{W:Wd S}(c:Dx W)(g:Gr)(f:Fn S):TE:=λσ H Q=>∃ρ st,Rep c H σ ρ/\W.ok st H/\
 wpR (f ρ st) (λd st'=>∀v H',Ext W H H'->W.ok st' H'->Val c g σ ρ H H' d v->Q v H') λx st'=>∀H',Ext W H H'->W.ok st' H'->c.Ex x st' H'
noncomputable def DE(X:Cx){S:Type}{W:Wd S}(c:Dx W)(g:Gr)(e:Expr)(f:Fn S):Prop:=PE X e (tD c g f)
def PE.imp{X:Cx}{e:Expr}{t t':TE}(h:PE X e t)(i:∀σ H Q,t' σ H Q->t σ H Q):PE X e t':=λA3 s σ H Q I q=>h A3 s σ H Q I (i σ H Q q)
def PT.imp{X:Cx}{e:Expr}{t t':TT}(h:PT X e t)(i:∀σ H Q,t' σ H Q->t σ H Q):PT X e t':=λA3 s σ H Q I q=>h A3 s σ H Q I (i σ H Q q)
def PS.imp{X:Cx}{e:Stmt}{t t':TS}(h:PS X e t)(i:∀D σ H,t' D σ H->t D σ H):PS X e t':=λA3 s σ H D I q=>h A3 s σ H D I (i D σ H q)
def PSs.imp{X:Cx}{e:List Stmt}{t t':TS}(h:PSs X e t)(i:∀D σ H,t' D σ H->t D σ H):PSs X e t':=λA3 s σ H D I q=>h A3 s σ H D I (i D σ H q)
section
variable{X:Cx}{S:Type}{W:Wd S}{c:Dx W}{g:Gr}{e:Expr}{f:Fn S}
end
end L2
namespace L2
noncomputable def Go{S:Type}{W:Wd S}(c:Dx W)(g:Gr)(σ:St)(f:Fn S)(H:Hp)(Q:VK)(ρ:Rho)(st:S):Prop:=
 wpR (f ρ st) (λd st'=>∀v H',Ext W H H'->W.ok st' H'->Val c g σ ρ H H' d v->Q v H') λx st'=>∀H',Ext W H H'->W.ok st' H'->c.Ex x st' H'
section
variable{S:Type}{W:Wd S}{c:Dx W}{H H1 H':Hp}{σ:St}{ρ:Rho}{d:D}{v:V}{g g':Gr}{st st1:S}
theorem Ext.none(e:Ext W H H1)(ok:W.ok st H1){a:Addr}(h:H1 a=none):H a=none:=by
 cases q:H a with
 | none=>rfl
 | some o=>
   have n:¬W.mv a:=λm=>by obtain⟨o',h',_⟩:=W.live st H1 a ok m;rw[h] at h';cases h'
   rw[e a o q n] at h;cases h
theorem Val.back(e:Ext W H H1)(ok:W.ok st H1)(h:Val c g σ ρ H1 H' d v):Val c g σ ρ H H' d v:=by
 cases g with
 | R=>exact h
 | B=>exact h
 | F=>exact⟨h.1,λa ea m=>e.none ok (h.2 a ea m)⟩
def Val.ext(e:Ext W H' H1)(ok:W.ok st H')(h:Val c .R σ ρ H H' d v):Val c .R σ ρ H H1 d v:=Is.mono (e.keepT ok λb n=>⟨n,n⟩) h
def Is.ext{A:Addr->Prop}(e:Ext W H' H1)(ok:W.ok st H')(hA:∀b,A b->¬W.mv b)(h:Is c.K A H' d v):Is c.K A H1 d v:=Is.mono (e.keepT ok λb n=>⟨hA b n,n⟩) h
def IsL.ext{A:Addr->Prop}{l:List D}{vs:List V}(e:Ext W H' H1)(ok:W.ok st H')(hA:∀b,A b->¬W.mv b)(h:IsL c.K A H' l vs):IsL c.K A H1 l vs:=IsL.mono (e.keepT ok λb n=>⟨hA b n,n⟩) h
def Go.from{f:Fn S}{Q:VK}(e:Ext W H H1)(ok:W.ok st1 H1)(h:Go c g σ f H Q ρ st):Go c g σ f H1 Q ρ st:=
 za6 h (λd st' q v H' a b z=>q v H' (e.trans a) b (z.back e ok)) λx st' q H' a b=>q H' (e.trans a) b
def Go.bind{f:Fn S}{k:D->Fn S}{Q:VK}(R:Rep c H σ ρ)(ok:W.ok st H)(h:Go c g σ (λρ st=>(f ρ st).bind λd st1=>k d ρ st1) H Q ρ st) :
 tD c g' f σ H λv H1=>∃d st1,Rep c H1 σ ρ/\W.ok st1 H1/\Ext W H H1/\Val c g' σ ρ H H1 d v/\Go c g σ (k d) H1 Q ρ st1:=by
 refine⟨ρ,st,R,ok,?_⟩;have h':=za5.mp h;refine za6 h' (λd st1 q v H1 e ok1 z=>?_) λx st1 q=>q
 exact⟨d,st1,R.ext ok e,ok1,e,z,za6 q (λd' st' q v' H' a b y=>q v' H' (e.trans a) b (y.back e ok1)) λx st' q H' a b=>q H' (e.trans a) b⟩
def Go.done(h:Go c g σ (λ_ st=>ws3 o st) H Q ρ st)(ok:W.ok st H):∃d,o=some d/\∀v H',Ext W H H'->W.ok st H'->Val c g σ ρ H H' d v->Q v H':=by
 obtain⟨d,e,q⟩:=zb2.mp h;exact⟨d,e,q⟩
noncomputable def New{S:Type}{W:Wd S}(c:Dx W)(H H':Hp)(d:D)(v:V):Prop:=Is c.K (λb=>¬W.mv b/\H b=none) H' d v
theorem New.valF(R:Rep c H σ ρ)(h:New c H H' d v):Val c .F σ ρ H H' d v:=by
 have k:wr9 (λb=>¬W.mv b/\H b=Option.none) (Av c σ ρ) H' H':=⟨λ_ _ z _=>z,λb o a z=>⟨⟨a.1,(λw=>by
  obtain⟨_,_,o',h',_⟩:=R.owOk w;rw[a.2] at h';cases h'),λw=>by
  obtain⟨_,_,o',h',_⟩:=R.avl b w;rw[a.2] at h';cases h'⟩,z⟩⟩
 refine⟨Is.mono k h,λa ea m=>?_⟩;subst ea;cases d with
 | lst l=>obtain⟨b,vs,e,n,_⟩:=Is.lst_iff.mp h;cases e;exact n.2
 | dct ks l=>obtain⟨b,vs,e,n,_⟩:=Is.dct_iff.mp h;cases e;exact n.2
 | _=>simp[D.mut] at m
theorem New.val(R:Rep c H σ ρ)(h:New c H H' d v)(g:Gr):Val c g σ ρ H H' d v:=by
 cases g with
 | R=>exact(h.valF R).toR
 | B=>exact(h.valF R).toB
 | F=>exact h.valF R
def New.imm(m:d.imm=true)(h:Is c.K A H' d v):New c H H' d v:=Is.ofImm m h
def zg6(ok:W.ok st H)(h:H p=none):W.ok st (upd H p o):=W.stay st H _ ok λb u _ e=>by rw[za9 (zb7 e h)];exact e
def zm9{p:Addr}(ok:W.ok st H)(h:H p=none):¬W.mv p:=λm=>by
 obtain⟨o',h',_⟩:=W.live st H p ok m;rw[h] at h';cases h'
def New.tup{p:Addr}{l:List D}{vs:List V}{A:Addr->Prop}(ok:W.ok st H)(h:H p=none)(hA:∀b,A b->¬W.mv b)(m:D.immL l=true)(i:IsL c.K A H l vs):New c H (upd H p (.tup vs)) (.tup l) (.ref p):=
 Is.tup zb3 (IsL.ofImm m (i.ext (Ext.laid h) ok hA))
def New.lst{p:Addr}{l:List D}{vs:List V}{A:Addr->Prop}(ok:W.ok st H)(h:H p=none)(hA:∀b,A b->¬W.mv b)(m:D.immL l=true)(i:IsL c.K A H l vs):New c H (upd H p (.lst vs)) (.lst l) (.ref p):=
 Is.lst ⟨zm9 ok h,h⟩ zb3 (IsL.ofImm m (i.ext (Ext.laid h) ok hA))
end
section
variable{X:Cx}{S:Type}{W:Wd S}{c:Dx W}{g:Gr}
noncomputable def fC(S:Type)(d:D):Fn S:=λ_ st=>.ok d st
def wp7{i j pos}:DE X c g (.Constant (.int i) j pos) (fC S (.int i)):=zj5.imp λσ H Q ⟨ρ,st,R,ok,w⟩=>w _ _ Ext.refl ok (New.val R (show New c H H (.int _) (.int _) from Is.int_iff.mpr rfl) g)
def vs4{i j pos}:DE X c g (.Constant (.bool i) j pos) (fC S (.bl i)):=vq3.imp λσ H Q ⟨ρ,st,R,ok,w⟩=>w _ _ Ext.refl ok (New.val R (show New c H H (.bl _) (.bl _) from Is.bl_iff.mpr rfl) g)
def wp6{j pos}:DE X c g (.Constant .none j pos) (fC S .non):=wl2.imp λσ H Q ⟨ρ,st,R,ok,w⟩=>w _ _ Ext.refl ok (New.val R (show New c H H .non .non from Is.non_iff.mpr rfl) g)
def wp4{x j pos}:DE X c g (.Constant (.str x) j pos) (fC S (.str x)):=zv0.imp λσ H Q ⟨ρ,st,R,ok,w⟩=>w _ _ Ext.refl ok (New.val R (show New c H H (.str _) (.str _) from Is.str_iff.mpr rfl) g)
noncomputable def rd(ρ:Rho)(i:Nat):Option D:=match ρ[i]? with
 | some (.bor d)=>some d
 | some (.own d)=>some d
 | _=>none
noncomputable def kp(ρ:Rho)(i:Nat):Option D:=match ρ[i]? with
 | some (.bor d)=>some d
 | _=>none
noncomputable def im(o:Option D):Option D:=o.bind λd=>if d.imm=true then some d else none
noncomputable def fV(S:Type)(i:Nat):Fn S:=λρ st=>ws3 (rd ρ i) st
noncomputable def fVk(S:Type)(i:Nat):Fn S:=λρ st=>ws3 (kp ρ i) st
theorem Rep.rd{H:Hp}{σ:St}{ρ:Rho}{i:Nat}{d:D}(R:Rep c H σ ρ)(h:L2.rd ρ i=some d):∃v,σ[i]?=some (some v)/\Is c.K (λb=>¬W.mv b) H d v:=by
 unfold L2.rd at h;have jn:∀{o:Option (Option V)} {v:V},o.join=some v->o=some (some v):=λ{o v} e=>by cases o with
  | none=>cases e
  | some a=>rw[show a=some v from e]
 cases q:ρ[i]? with
 | none=>rw[q] at h;cases h
 | some s=>
   rw[q] at h;have z:=R.slot i s q;cases s with
   | no=>cases h
   | hnd=>cases h
   | bor e=>
     cases h;obtain⟨v,e1,i1⟩:=z;exact⟨v,jn e1,i1.mono ⟨λ_ _ z _=>z,λb o a z=>⟨a.1,z⟩⟩⟩
   | own e=>
     cases h;obtain⟨a,e1,n,f,t⟩:=z;exact⟨_,jn e1,(t.mono (A':=λb=>¬W.mv b) ⟨λ_ _ z _=>z,λb o a z=>⟨a.1,z⟩⟩ λo z=>z).isTop n.1⟩
theorem Rep.kp{H:Hp}{σ:St}{ρ:Rho}{i:Nat}{d:D}(R:Rep c H σ ρ)(h:L2.kp ρ i=some d):∃v,σ[i]?=some (some v)/\Is c.K (Av c σ ρ) H d v:=by
 unfold L2.kp at h;cases q:ρ[i]? with
 | none=>rw[q] at h;cases h
 | some s=>
   rw[q] at h;have z:=R.slot i s q;cases s with
   | no=>cases h
   | hnd=>cases h
   | own e=>cases h
   | bor e=>
     cases h;obtain⟨v,e1,i1⟩:=z;refine⟨v,?_,i1⟩;cases w:σ[i]? with
     | none=>rw[w] at e1;cases e1
     | some a=>rw[w] at e1;rw[show a=some v from e1]
def wp3{i:Nat}{x:Str}{pos:Pos}(h:PE X (.Name x pos) (wy6 i)):DE X c .R (.Name x pos) (fV S i):=h.imp λσ H Q hI3=>by
 obtain⟨ρ,st,R,ok,w⟩:=hI3;obtain⟨d,e,q⟩:=zb2.mp w;obtain⟨v,e1,i1⟩:=R.rd e;exact⟨v,e1,q v H Ext.refl ok i1⟩
def zf0{i:Nat}{x:Str}{pos:Pos}(h:PE X (.Name x pos) (wy6 i)):DE X c .B (.Name x pos) (fVk S i):=h.imp λσ H Q hI4=>by
 obtain⟨ρ,st,R,ok,w⟩:=hI4;obtain⟨d,e,q⟩:=zb2.mp w;obtain⟨v,e1,i1⟩:=R.kp e;exact⟨v,e1,q v H Ext.refl ok i1⟩
noncomputable def fI(S:Type)(f:Fn S):Fn S:=λρ st=>(f ρ st).bind λd st1=>if d.imm=true then .ok d st1 else .bad
noncomputable def OpD{S:Type}{W:Wd S}(c:Dx W)(r:R2)(o:D->D->Option D):Prop:=∀d1 d2 v1 v2 H (st:S) d Q,W.ok st H->Is c.K (λb=>¬W.mv b) H d1 v1->Is c.K (λb=>¬W.mv b) H d2 v2->o d1 d2=some d->
 (∀v H',Ext W H H'->W.ok st H'->New c H H' d v->Q v H')->r v1 v2 H Q
noncomputable def f2(S:Type)(o:D->D->Option D)(f1 f2:Fn S):Fn S:=λρ st=>(f1 ρ st).bind λd1 st1=>(f2 ρ st1).bind λd2 st2=>ws3 (o d1 d2) st2
def zi0(h:tD c g f σ H Q)(i:∀v H',Q v H'->Q' v H'):tD c g f σ H Q':=by
 obtain⟨ρ,st,R,ok,w⟩:=h;exact⟨ρ,st,R,ok,za6 w (λd st' q v H' a b z=>i v H' (q v H' a b z)) λx st' q=>q⟩
def vb5(hr:OpD c r o)(h:tD c g (f2 S o fa fb) σ H Q):tOp r (tD c ga fa) (tD c gb fb) σ H Q:=by
 obtain⟨ρ,st,R,ok,w⟩:=h;have w:Go c g σ (λρ st=>(fa ρ st).bind λd1 st1=>(λρ st1=>(fb ρ st1).bind λd2 st2=>ws3 (o d1 d2) st2) ρ st1) H Q ρ st:=w;refine zi0 (Go.bind (g':=ga) R ok w) λv1 H1 hI97=>?_
 obtain⟨d1,st1,R1,ok1,e1,z1,w1⟩:=hI97;refine zi0 (Go.bind (g':=gb) (f:=fb) (k:=λd2 _ st2=>ws3 (o d1 d2) st2) R1 ok1 w1) λv2 H2 hI98=>?_
 obtain⟨d2,st2,R2,ok2,e2,z2,w2⟩:=hI98;obtain⟨d,e,q⟩:=Go.done w2 ok2;exact hr d1 d2 v1 v2 H2 st2 d Q ok2 (z1.toR.ext e2 ok1) z2.toR e λv H' a b n=>q v H' a b (n.val R2 g)
def ws8{op:Operator}{r:R2}{o:D->D->Option D}{a b:Expr}{pos:Pos}{fa fb:Fn S}{ga gb:Gr}(ho:OpR X (binaryOp op) r)(hr:OpD c r o)(ha:DE X c ga a fa)(hb:DE X c gb b fb):DE X c g (.BinOp a op b pos) (f2 S o fa fb):=
 (wt5 ho ha hb).imp λσ H Q h=>vb5 hr h
def zn7(ho:OpR X (compareOp op) r)(hr:OpD c r o)(ha:DE X c ga a fa)(hb:DE X c gb b fb)(hm:behindInMarks op b=false):DE X c g (.Compare a [op] [b] pos) (f2 S o fa fb):=
 (wd5 ho ha hb hm).imp λσ H Q h=>vb5 hr h
def vl8{r:R2}{o:D->D->Option D}{a b:Expr}{pos:Pos}{fa fb:Fn S}{ga gb:Gr}(ho:IxR X r)(hr:OpD c r o)(ha:DE X c ga a fa)(hb:DE X c gb b fb)(hs:yf1 b):DE X c g (.Subscript a b pos) (f2 S o fa fb):=
 (vg4 ho ha hb hs).imp λσ H Q h=>vb5 hr h
noncomputable abbrev FnT(S:Type):=Rho->S->Res S Bool
noncomputable def tDT{S:Type}{W:Wd S}(c:Dx W)(f:FnT S):TT:=λσ H Q=>∃ρ st,Rep c H σ ρ/\W.ok st H/\
 wpR (f ρ st) (λb st'=>∀H',Ext W H H'->W.ok st' H'->Q b H') λx st'=>∀H',Ext W H H'->W.ok st' H'->c.Ex x st' H'
noncomputable def DT(X:Cx){S:Type}{W:Wd S}(c:Dx W)(e:Expr)(f:FnT S):Prop:=PT X e (tDT c f)
noncomputable def D.bool?:D->Option Bool
 | .bl b=>some b
 | _=>none
noncomputable def fB(S:Type)(f:Fn S):FnT S:=λρ st=>(f ρ st).bind λd st1=>ws3 d.bool? st1
theorem xf0(h:tDT c (fB S f) σ H Q):tB (tD c g f) σ H Q:=by
 obtain⟨ρ,st,R,ok,w⟩:=h;refine⟨ρ,st,R,ok,za6 (za5.mp w) (λd st1 q v H1 e ok1 z=>?_) λx st1 q=>q⟩;obtain⟨b,e1,q⟩:=zb2.mp q;cases d with
 | bl k=>
   cases e1;have z':Is c.K (λb=>¬W.mv b) H1 (.bl b) v:=z.toR;exact⟨_,Is.bl_iff.mp z',q H1 e ok1⟩
 | _=>cases e1
def zl7{e:Expr}{f:Fn S}(h:DE X c g e f)(he:∀whole,isTrue e X.env whole=(do let v <-whole;standAt e.pos;holding [v] (truthy v)):=by intro _;rfl):DT X c e (fB S f):=
 (wk1 h he).imp λσ H Q q=>xf0 q
def zd7{op:CmpOp}{r:R2}{o:D->D->Option D}{a b:Expr}{pos:Pos}{fa fb:Fn S}{ga gb:Gr}(ho:OpR X (compareOp op) r)(hr:OpD c r o)(ha:DE X c ga a fa)(hb:DE X c gb b fb)(hm:behindInMarks op b=false):DT X c (.Compare a [op] [b] pos) (fB S (f2 S o fa fb)):=
 (ys0 ho ha hb hm).imp λσ H Q q=>by
  have q':tB (tD c .R (f2 S o fa fb)) σ H Q:=xf0 q;exact vb5 (ga:=ga) (gb:=gb) hr q'
noncomputable def vs2(S:Type)(f1 f2:FnT S):FnT S:=λρ st=>(f1 ρ st).bind λb st1=>if b=true then f2 ρ st1 else .ok false st1
noncomputable def fOr(S:Type)(f1 f2:FnT S):FnT S:=λρ st=>(f1 ρ st).bind λb st1=>if b=true then .ok true st1 else f2 ρ st1
noncomputable def vr8(S:Type)(f1:FnT S):FnT S:=λρ st=>(f1 ρ st).bind λb st1=>.ok (!b) st1
noncomputable def DW(X:Cx){S:Type}{W:Wd S}(c:Dx W)(e:Expr)(f:FnT S):Prop:=PW X e (tDT c f)
def PW.imp{X:Cx}{e:Expr}{t t':TT}(h:PW X e t)(i:∀σ H Q,t' σ H Q->t σ H Q):PW X e t':=λw A3 s σ H Q I q=>h w A3 s σ H Q I (i σ H Q q)
def DW.dt{e:Expr}{f:FnT S}(h:DW X c e f):DT X c e f:=PW.pt h
def zx7{a:Expr}{pos:Pos}{f:FnT S}(h:DT X c a f):DW X c (.BoolOp .And [a] pos) f:=pw_and1 h
def yp2{a:Expr}{pos:Pos}{f:FnT S}(h:DT X c a f):DW X c (.BoolOp .Or [a] pos) f:=pw_or1 h
def zw2{a b:Expr}{rest:List Expr}{pos:Pos}{f1 f2:FnT S}(ha:DT X c a f1)(hb:DW X c (.BoolOp .And (b::rest) pos) f2):DW X c (.BoolOp .And (a::b::rest) pos) (vs2 S f1 f2):=
 (pw_and ha hb).imp λσ H Q hI5=>by
  obtain⟨ρ,st,R,ok,w⟩:=hI5;refine⟨ρ,st,R,ok,za6 (za5.mp w) (λb st1 q H1 e ok1=>?_) λx st1 q=>q⟩;cases b with
  | true=>exact⟨ρ,st1,R.ext ok e,ok1,za6 q (λb st2 q H2 e2=>q H2 (e.trans e2)) λx st2 q H2 e2=>q H2 (e.trans e2)⟩
  | false=>exact q H1 e ok1
def vc8{a b:Expr}{rest:List Expr}{pos:Pos}{f1 f2:FnT S}(ha:DT X c a f1)(hb:DW X c (.BoolOp .Or (b::rest) pos) f2):DW X c (.BoolOp .Or (a::b::rest) pos) (fOr S f1 f2):=
 (pw_or ha hb).imp λσ H Q hI6=>by
  obtain⟨ρ,st,R,ok,w⟩:=hI6;refine⟨ρ,st,R,ok,za6 (za5.mp w) (λb st1 q H1 e ok1=>?_) λx st1 q=>q⟩;cases b with
  | false=>exact⟨ρ,st1,R.ext ok e,ok1,za6 q (λb st2 q H2 e2=>q H2 (e.trans e2)) λx st2 q H2 e2=>q H2 (e.trans e2)⟩
  | true=>exact q H1 e ok1
def ye3{a:Expr}{pos:Pos}{f1:FnT S}(ha:DT X c a f1):DT X c (.UnaryOp .Not a pos) (vr8 S f1):=
 (wk2 ha).imp λσ H Q ⟨ρ,st,R,ok,w⟩=>⟨ρ,st,R,ok,za6 (za5.mp w) (λb st1 q H1 e ok1=>q H1 e ok1) λx st1 q=>q⟩
noncomputable abbrev FnA(S:Type):=Rho->S->Res S (List D)
noncomputable def tDA{S:Type}{W:Wd S}(c:Dx W)(f:FnA S):TA:=λσ H Q=>∃ρ st,Rep c H σ ρ/\W.ok st H/\
 wpR (f ρ st) (λl st'=>∀vs H',Ext W H H'->W.ok st' H'->IsL c.K (λb=>¬W.mv b) H' l vs->Q vs H') λx st'=>∀H',Ext W H H'->W.ok st' H'->c.Ex x st' H'
noncomputable def DA(X:Cx){S:Type}{W:Wd S}(c:Dx W)(es:List Expr)(f:FnA S):Prop:=PA X es (tDA c f)
def PA.imp(h:PA X e t)(i:∀σ H Q,t' σ H Q->t σ H Q):PA X e t':=λp A3 s σ H Q I q=>h p A3 s σ H Q I (i σ H Q q)
noncomputable def vl9(S:Type):FnA S:=λ_ st=>.ok [] st
noncomputable def wt6(S:Type)(f:Fn S)(r:FnA S):FnA S:=λρ st=>(f ρ st).bind λd st1=>(r ρ st1).bind λl st2=>.ok (d::l) st2
def wp9:DA X c [] (vl9 S):=zp2.imp λσ H Q ⟨ρ,st,R,ok,w⟩=>w [] H Ext.refl ok (IsL.nil.mpr rfl)
def zh4{e:Expr}{es:List Expr}{f:Fn S}{r:FnA S}(h:DE X c g e f)(hr:DA X c es r)(hs:starEach (e::es) X.env=(false,eval e X.env)::starEach es X.env:=by rfl):DA X c (e::es) (wt6 S f r):=
 (zi2 h hr hs).imp λσ H Q hI7=>by
  obtain⟨ρ,st,R,ok,w⟩:=hI7;refine⟨ρ,st,R,ok,za6 (za5.mp w) (λd st1 q v H1 e ok1 z=>?_) λx st1 q=>q⟩;refine⟨ρ,st1,R.ext ok e,ok1,za6 (za5.mp q) (λl st2 q vs H2 e2 ok2 z2=>?_) λx st2 q H2 e2 ok2=>q H2 (e.trans e2) ok2⟩;exact q (v::vs) H2 (e.trans e2) ok2 (IsL.cons.mpr ⟨v,vs,rfl,z.toR.ext e2 ok1,z2⟩)
noncomputable def fA(S:Type)(o:List D->Option D)(f:FnA S):Fn S:=λρ st=>(f ρ st).bind λl st1=>ws3 (o l) st1
noncomputable def wu3{S:Type}{W:Wd S}(c:Dx W)(r:List V->Hp->VK->Prop)(o:List D->Option D):Prop:=∀l vs H (st:S) d Q,W.ok st H->IsL c.K (λb=>¬W.mv b) H l vs->o l=some d->
 (∀v H',Ext W H H'->W.ok st H'->New c H H' d v->Q v H')->r vs H Q
def yr4(hr:wu3 c r o)(h:tD c g (fA S o f) σ H Q):tDA c f σ H λvs H1=>r vs H1 Q:=by
 obtain⟨ρ,st,R,ok,w⟩:=h;refine⟨ρ,st,R,ok,za6 (za5.mp w) (λl st1 q vs H1 e ok1 z=>?_) λx st1 q=>q⟩;obtain⟨d,e1,q⟩:=zb2.mp q;exact hr l vs H1 st1 d Q ok1 z e1 λv H' a b n=>q v H' (e.trans a) b ((n.val (R.ext ok e) g).back e ok1)
noncomputable def wx3(l:List D):Option D:=if D.immL l=true/\l.length<=sizeLine then some (.tup l) else none
noncomputable def vb9(l:List D):Option D:=if D.immL l=true/\l.length<=sizeLine then some (.lst l) else none
open H in
def wq4:wu3 c (λxs H1 Q=>xs.length<=sizeLine/\∀p,H1 p=none->Q (.ref p) (upd H1 p (.tup xs))) wx3:=by
 intro l vs H st d Q ok z e q;unfold wx3 at e;split at e
 ·rename_i h
  cases e;exact⟨by rw[<-z.length];exact h.2,λp hp=>q _ _ (Ext.laid hp) (zg6 ok hp) (New.tup ok hp (λ_ n=>n) h.1 z)⟩
 ·cases e
open H in
def wq5:wu3 c (λxs H1 Q=>xs.length<=sizeLine/\∀p,H1 p=none->Q (.ref p) (upd H1 p (.lst xs))) vb9:=by
 intro l vs H st d Q ok z e q;unfold vb9 at e;split at e
 ·rename_i h
  cases e;exact⟨by rw[<-z.length];exact h.2,λp hp=>q _ _ (Ext.laid hp) (zg6 ok hp) (New.lst ok hp (λ_ n=>n) h.1 z)⟩
 ·cases e
def zt6{es:List Expr}{x1}{pos:Pos}{f:FnA S}(h:DA X c es f):DE X c g (.Tuple es x1 pos) (fA S wx3 f):=(xx6 h).imp λσ H Q q=>yr4 (g:=g) wq4 q
def yp6{es:List Expr}{pos:Pos}{f:FnA S}(h:DA X c es f):DE X c g (.List es pos) (fA S vb9 f):=(xi2 h).imp λσ H Q q=>yr4 (g:=g) wq5 q
def yy6{id:String}{x:Str}(h:PE X (.Call (.Name x p) (e::es) [] pos) (tCB r t))(ht:t=tDA c f)(hr:wu3 c r o):DE X c g (.Call (.Name x p) (e::es) [] pos) (fA S o f):=
 h.imp λσ H Q q=>by rw[ht];exact yr4 (g:=g) hr q
noncomputable def sp0(K:PySem.W.Frag)(F:List D->Res Unit D):Sp:=λvs H Q _=>∃l,IsL K (λ_=>True) H l vs/\wpR (F l) (λd _=>∀v H',wx7 H H'->Is K (λb=>H b=none) H' d v->Q v H') λ_ _=>False
noncomputable def spS{S:Type}(W:Wd S)(K:PySem.W.Frag)(F:List D->S->Res S D):Sp:=λvs H Q _=>∃l us st,vs=W.h::us/\IsL K (λb=>¬W.mv b) H l us/\W.ok st H/\
 wpR (F l st) (λd st'=>∀v H',Ext W H H'->W.ok st' H'->Is K (λb=>¬W.mv b/\H b=none) H' d v->Q v H') λ_ _=>False
noncomputable def vc7(S:Type)(F:List D->Res Unit D)(f:FnA S):Fn S:=λρ st=>(f ρ st).bind λl st1=>match F l with
 | .ok d _=>.ok d st1
 | _=>.bad
theorem xr4(h:tD c g (vc7 S F f) σ H Q):vf9 (sp0 c.K F) [] E (tDA c f) σ H Q:=by
 obtain⟨ρ,st,R,ok,w⟩:=h;refine⟨ρ,st,R,ok,za6 (za5.mp w) (λl st1 q vs H1 e ok1 z=>?_) λx st1 q=>q⟩;show sp0 c.K F (vs++[]) H1 Q E;rw[Bq0];refine⟨l,IsL.mono (A:=λb=>¬W.mv b) ⟨λ_ _ z _=>z,λb o a z=>⟨trivial,z⟩⟩ z,?_⟩;cases q':F l with
 | ok d u=>
   rw[q'] at q;intro v H' s n;have okH:W.ok st1 H':=W.stay st1 H1 H' ok1 λb o _ hb=>s b o hb
   have n':New c H1 H' d v:=Is.mono (A:=λb=>H1 b=none) ⟨λ_ _ z _=>z,λb o a z=>⟨⟨zm9 ok1 a,a⟩,z⟩⟩ n;exact q v H' (e.trans s.ext) okH ((n'.val (R.ext ok e) g).back e ok1)
 | exc x u=>rw[q'] at q;exact q.elim
 | bad=>rw[q'] at q;exact q.elim
noncomputable def yp1(S:Type)(F:List D->S->Res S D)(i:Nat)(f:FnA S):Fn S:=λρ st=>match ρ[i]? with
 | some .hnd=>(f ρ st).bind λl st1=>match F l st1 with
   | .ok d st2=>.ok d st2
   | _=>.bad
 | _=>.bad
theorem xr3{i:Nat}(h:tD c g (yp1 S F i f) σ H Q):vf9 (spS W c.K F) [] E (vd7 (wy6 i) (tDA c f)) σ H Q:=by
 obtain⟨ρ,st,R,ok,w⟩:=h;unfold yp1 at w;cases hi:ρ[i]? with
 | none=>rw[hi] at w;exact w.elim
 | some s=>
   rw[hi] at w;have zs:=R.slot i s hi;cases s with
   | no=>exact w.elim
   | bor d=>exact w.elim
   | own d=>exact w.elim
   | hnd=>
     have zs:(σ[i]?).join=some W.h:=zs;have ei:σ[i]?=some (some W.h):=by
      cases q:σ[i]? with
      | none=>rw[q] at zs;cases zs
      | some a=>rw[q] at zs;rw[show a=some W.h from zs]
     refine⟨W.h,ei,ρ,st,R,ok,za6 (za5.mp w) (λl st1 q vs H1 e ok1 z=>?_) λx st1 q=>q⟩;show spS W c.K F ((W.h::vs)++[]) H1 Q E;rw[Bq0];refine⟨l,vs,st1,rfl,z,ok1,?_⟩;cases q':F l st1 with
     | ok d st2=>
       rw[q'] at q;intro v H' s okH n;exact q v H' (e.trans s) okH ((New.val (R.ext ok e) n g).back e ok1)
     | exc x u=>rw[q'] at q;exact q.elim
     | bad=>rw[q'] at q;exact q.elim
end
inductive Fl where
 | nx (ρ:Rho) | rt (d:D) | bk (ρ:Rho) | ct (ρ:Rho)
noncomputable abbrev FnS(S:Type):=Rho->S->Res S Fl
structure Frm{S:Type}{W:Wd S}(c:Dx W)(H:Hp)(σ:St)(ρ:Rho)(H':Hp)(σ':St)(ρ':Rho):Prop where
 keep:∀b o,H b=some o->¬W.mv b->¬Ow σ ρ b->H' b=some o
 own:∀b o,H b=some o->¬W.mv b->Ow σ' ρ' b->Ow σ ρ b
noncomputable def F0{S:Type}{W:Wd S}(c:Dx W)(H':Hp):Prop:=∀b o,c.H0 b=some o->¬W.mv b->H' b=some o
noncomputable def Nx{S:Type}{W:Wd S}(c:Dx W)(Q:St->Hp->Prop)(σ:St)(ρ:Rho)(H:Hp)(ρ':Rho)(st':S):Prop:=∀σ' H',Frm c H σ ρ H' σ' ρ'->W.ok st' H'->Rep c H' σ' ρ'->Q σ' H'
noncomputable def Rt{S:Type}{W:Wd S}(c:Dx W)(Q:VK)(d:D)(st':S):Prop:=∀v H',F0 c H'->W.ok st' H'->Is c.K (λb=>¬W.mv b/\c.H0 b=none) H' d v->Q v H'
noncomputable def wu6{S:Type}{W:Wd S}(c:Dx W)(D:vb4)(σ:St)(ρ:Rho)(H:Hp)(fl:Fl)(st':S):Prop:=match fl with
 | .nx ρ'=>Nx c D.nx σ ρ H ρ' st'
 | .bk ρ'=>Nx c D.bk σ ρ H ρ' st'
 | .ct ρ'=>Nx c D.ct σ ρ H ρ' st'
 | .rt d=>Rt c D.rt d st'
noncomputable def vd1{S:Type}{W:Wd S}(c:Dx W)(x:Exn)(st':S):Prop:=∀H',F0 c H'->W.ok st' H'->c.Ex x st' H'
noncomputable def tS{S:Type}{W:Wd S}(c:Dx W)(F:FnS S):TS:=λD σ H=>∃ρ st,Rep c H σ ρ/\W.ok st H/\wpR (F ρ st) (wu6 c D σ ρ H) (vd1 c)
noncomputable def DS(X:Cx){S:Type}{W:Wd S}(c:Dx W)(s:Stmt)(F:FnS S):Prop:=PS X s (tS c F)
noncomputable def DSs(X:Cx){S:Type}{W:Wd S}(c:Dx W)(s:List Stmt)(F:FnS S):Prop:=PSs X s (tS c F)
section
variable{S:Type}{W:Wd S}{c:Dx W}{H H1 H2 H':Hp}{σ σ1 σ2 σ':St}{ρ ρ1 ρ2 ρ':Rho}{st st1:S}
def Frm.refl:Frm c H σ ρ H σ ρ:=⟨λ_ _ h _ _=>h,λ_ _ _ _ h=>h⟩
def Frm.trans(a:Frm c H σ ρ H1 σ1 ρ1)(b:Frm c H1 σ1 ρ1 H2 σ2 ρ2):Frm c H σ ρ H2 σ2 ρ2 where
 keep:=λx o h m w=>b.keep x o (a.keep x o h m w) m λw1=>w (a.own x o h m w1)
 own:=λx o h m w=>by
  by_cases w0:Ow σ ρ x
  ·exact w0
  ·exact a.own x o h m (b.own x o (a.keep x o h m w0) m w)
def Ext.frm(e:Ext W H H'):Frm c H σ ρ H' σ ρ:=⟨λb o h m _=>e b o h m,λ_ _ _ _ h=>h⟩
def Ext.f0(R:Rep c H σ ρ)(e:Ext W H H'):F0 c H':=λb o h n=>e b o (R.frame b o h n) n
def Nx.from(h:Nx c Q σ ρ H ρ' st)(f:Frm c H σ ρ H1 σ1 ρ1):Nx c Q σ1 ρ1 H1 ρ' st:=λσ' H' g ok R=>h σ' H' (f.trans g) ok R
theorem wu6.from{D:vb4}{fl:Fl}(h:wu6 c D σ ρ H fl st)(f:Frm c H σ ρ H1 σ1 ρ1):wu6 c D σ1 ρ1 H1 fl st:=by
 cases fl with
 | nx r=>exact Nx.from h f
 | bk r=>exact Nx.from h f
 | ct r=>exact Nx.from h f
 | rt d=>exact h
def Frm.keepT(R:Rep c H σ ρ)(ok:W.ok st H)(f:Frm c H σ ρ H' σ' ρ'):wr9 (Av c σ ρ) (Av c σ' ρ') H H':=
 zj4 (λb o h t=>f.keep b o h (λm=>by
  obtain⟨o',h',n1,n2⟩:=W.live st H b ok m;rw[h] at h';cases h';rcases t with⟨u,z⟩ | ⟨ob,u,z⟩
  ·exact n1 u z
  ·exact n2 ob u z) λw=>by
  obtain⟨_,_,o',h',n1,n2⟩:=R.owOk w;rw[h] at h';cases h';rcases t with⟨u,z⟩ | ⟨ob,u,z⟩
  ·exact n1 u z
  ·exact n2 ob u z) λb o a h=>⟨⟨a.1,λw=>a.2.1 (f.own b o h a.1 w),a.2.2⟩,f.keep b o h a.1 a.2.1⟩
def yi3{g:Gr}{f:Fn S}{k:D->FnS S}{D:vb4}(h:tS c (λρ st=>(f ρ st).bind λd st1=>k d ρ st1) D σ H) :
 tD c g f σ H λv H1=>∃ρ d st0 st1,Rep c H σ ρ/\W.ok st0 H/\Rep c H1 σ ρ/\W.ok st1 H1/\Ext W H H1/\Val c g σ ρ H H1 d v/\wpR (k d ρ st1) (wu6 c D σ ρ H) (vd1 c):=by
 obtain⟨ρ,st,R,ok,w⟩:=h;refine⟨ρ,st,R,ok,za6 (za5.mp w) (λd st1 q v H1 e ok1 z=>?_) λx st1 q H1 e ok1=>q H1 (e.f0 R) ok1⟩;exact⟨ρ,d,st,st1,R,ok,R.ext ok e,ok1,e,z,q⟩
def wb7{f:FnT S}{k:Bool->FnS S}{D:vb4}(h:tS c (λρ st=>(f ρ st).bind λd st1=>k d ρ st1) D σ H) :
 tDT c f σ H λb H1=>∃ρ st1,Rep c H1 σ ρ/\W.ok st1 H1/\wpR (k b ρ st1) (wu6 c D σ ρ H1) (vd1 c):=by
 obtain⟨ρ,st,R,ok,w⟩:=h;refine⟨ρ,st,R,ok,za6 (za5.mp w) (λd st1 q H1 e ok1=>?_) λx st1 q H1 e ok1=>q H1 (e.f0 R) ok1⟩;exact⟨ρ,st1,R.ext ok e,ok1,za6 q (λfl st2 q=>q.from e.frm) λx st2 q=>q⟩
end
section
variable{X:Cx}{S:Type}{W:Wd S}{c:Dx W}
noncomputable def vu6(S:Type):FnS S:=λρ st=>.ok (.nx ρ) st
noncomputable def vi1(S:Type)(F G:FnS S):FnS S:=λρ st=>(F ρ st).bind λfl st1=>match fl with
 | .nx ρ1=>G ρ1 st1
 | .rt d=>.ok (.rt d) st1
 | .bk r=>.ok (.bk r) st1
 | .ct r=>.ok (.ct r) st1
def zd0:DSs X c [] (vu6 S):=ys1.imp λD σ H ⟨ρ,st,R,ok,w⟩=>w σ H Frm.refl ok R
def za3{s:Stmt}{r:List Stmt}{F G:FnS S}(h1:DS X c s F)(h2:DSs X c r G):DSs X c (s::r) (vi1 S F G):=
 (zh1 h1 h2).imp λD σ H hI8=>by
  obtain⟨ρ,st,R,ok,w⟩:=hI8;refine⟨ρ,st,R,ok,za6 (za5.mp w) (λfl st1 q=>?_) λx st1 q=>q⟩;cases fl with
  | nx ρ1=>exact λσ1 H1 f ok1 R1=>⟨ρ1,st1,R1,ok1,za6 q (λfl st2 q=>q.from f) λx st2 q=>q⟩
  | rt d=>exact q
  | bk r=>exact q
  | ct r=>exact q
def za7{s:Stmt}{F:FnS S}(h1:DS X c s F):DSs X c [s] F:=yc1 h1
noncomputable def D.flat:D->Bool
 | .lst l=>D.immL l
 | .dct _ l=>D.immL l
 | _=>false
noncomputable def vp2(S:Type)(f:Fn S):FnS S:=λρ st=>(f ρ st).bind λd st1=>if d.imm=true\/d.flat=true then .ok (.rt d) st1 else .bad
theorem yj9{K:PySem.W.Frag}{A A':Addr->Prop}{H:Hp}{d:D}{a:Addr}(h:Is K A H d (.ref a))(m:d.flat=true)(n:A' a):Is K A' H d (.ref a):=by
 cases d with
 | lst l=>
   obtain⟨b,vs,e,_,e2,i⟩:=Is.lst_iff.mp h;cases e;exact Is.lst n e2 (IsL.ofImm m i)
 | dct ks l=>
   obtain⟨b,vs,e,_,i,q⟩:=Is.dct_iff.mp h;cases e;exact Is.dct_iff.mpr ⟨a,vs,rfl,n,IsL.ofImm m i,q⟩
 | _=>simp[D.flat] at m
theorem yx6{K:PySem.W.Frag}{A:Addr->Prop}{H:Hp}{d:D}{v:V}(h:Is K A H d v)(m:d.flat=true):∃a,v=.ref a/\d.mut=true/\A a/\∃o,H a=some o:=by
 cases d with
 | lst l=>
   obtain⟨b,vs,e,n,e2,i⟩:=Is.lst_iff.mp h;exact⟨b,e,rfl,n,_,e2⟩
 | dct ks l=>
   obtain⟨b,vs,e,n,i,q⟩:=Is.dct_iff.mp h;rcases q with⟨_,_,_,q⟩ | ⟨_,_,_,q⟩<;>exact⟨b,e,rfl,n,_,q⟩
 | _=>simp[D.flat] at m
theorem Rep.none0{H:Hp}{σ:St}{ρ:Rho}{st:S}(R:Rep c H σ ρ)(ok:W.ok st H){a:Addr}(h:H a=none):c.H0 a=none:=by
 cases q:c.H0 a with
 | none=>rfl
 | some o=>rw[R.frame a o q (zm9 ok h)] at h;cases h
def zd4{e:Expr}{f:Fn S}{pos:Pos}(h:DE X c .F e f):DS X c (.Return (some e) pos) (vp2 S f):=
 (yg1 h).imp λD σ H q=>zi0 (yi3 (g:=.F) q) λv H1 hI9=>by
  obtain⟨ρ,d,st0,st1,R,ok,R1,ok1,e,z,w⟩:=hI9;by_cases m:d.imm=true\/d.flat=true
  ·rw[if_pos m] at w
   refine w v H1 (e.f0 R) ok1 ?_;rcases m with m | m
   ·exact Is.ofImm m z.1
   ·obtain⟨a,rfl,mu,av,_⟩:=yx6 z.1 m
    exact yj9 z.1 m ⟨av.1,R.none0 ok (z.2 a rfl mu)⟩
  ·rw[if_neg m] at w;exact w.elim
noncomputable def own?(ρ:Rho)(i:Nat):Option D:=match ρ[i]? with
 | some (.own d)=>if d.flat=true then some d else none
 | some (.bor d)=>if d.imm=true then some d else none
 | _=>none
noncomputable def vg2(S:Type)(i:Nat):FnS S:=λρ st=>(ws3 (own? ρ i) st).bind λd st1=>.ok (.rt d) st1
open H in
def ye4{i:Nat}{x:Str}{p pos:Pos}(h:PE X (.Name x p) (wy6 i)):DS X c (.Return (some (.Name x p)) pos) (vg2 S i):=
 (yg1 h).imp λD σ H hI10=>by
  obtain⟨ρ,st,R,ok,w⟩:=hI10;obtain⟨d,e,q⟩:=zb2.mp (za5.mp w);have jn:∀{o:Option (Option V)} {v:V},o.join=some v->o=some (some v):=λ{o v} e=>by cases o with
   | none=>cases e
   | some a=>rw[show a=some v from e]
  unfold own? at e;cases hs:ρ[i]? with
  | none=>rw[hs] at e;cases e
  | some s=>
    rw[hs] at e;have z:=R.slot i s hs;cases s with
    | no=>cases e
    | hnd=>cases e
    | bor d'=>
      have e:(if d'.imm=true then some d' else none)=some d:=e;split at e
      ·rename_i m
       cases e;obtain⟨v,e1,i1⟩:=z;exact⟨v,jn e1,q v H (λb o h n=>R.frame b o h n) ok (Is.ofImm m i1)⟩
      ·cases e
    | own d'=>
      have e:(if d'.flat=true then some d' else none)=some d:=e;split at e
      ·rename_i m
       cases e;obtain⟨a,e1,n,f,t⟩:=z;have tt:Is c.K (λb=>¬W.mv b) H d (.ref a):=(t.mono (A':=λb=>¬W.mv b) ⟨λ_ _ z _=>z,λb o a z=>⟨a.1,z⟩⟩ λo z=>z).isTop n.1;exact⟨_,jn e1,q _ H (λb o h n=>R.frame b o h n) ok (yj9 tt m ⟨n.1,f⟩)⟩
      ·cases e
noncomputable def sIf(S:Type)(t:FnT S)(F G:FnS S):FnS S:=λρ st=>(t ρ st).bind λb st1=>if b=true then F ρ st1 else G ρ st1
open H in
def ws1{e:Expr}{a b:List Stmt}{pos:Pos}{t:FnT S}{F G:FnS S}(h:DT X c e t)(ha:DSs X c a F)(hb:DSs X c b G):DS X c (.If e a b pos) (sIf S t F G):=
 (vg3 h ha hb).imp λD σ H q=>by
  obtain⟨ρ,st,R,ok,w⟩:=wb7 (k:=λb=>if b=true then F else G) (by
   obtain⟨ρ,st,R,ok,w⟩:=q;refine⟨ρ,st,R,ok,?_⟩;have e:sIf S t F G ρ st=(t ρ st).bind λd st1=>(if d=true then F else G) ρ st1:=by
    unfold sIf;congr;funext d st1;cases d<;>rfl
   rw[e] at w;exact w)
  refine⟨ρ,st,R,ok,za6 w (λb st1 q H1 e ok1=>?_) λx st1 q=>q⟩;obtain⟨ρ1,st2,R1,ok2,w1⟩:=q H1 e ok1;cases b with
  | true=>exact⟨ρ1,st2,R1,ok2,w1⟩
  | false=>exact⟨ρ1,st2,R1,ok2,w1⟩
end
section
variable{X:Cx}{S:Type}{W:Wd S}{c:Dx W}{H H1 H':Hp}{σ σ':St}{ρ ρ':Rho}{st:S}{i:Nat}{d:D}{v:V}
def zb4{α:Type}{l:List α}{i j:Nat}{a b:α}(h:(l.set i a)[j]?=some b):(j=i/\b=a)\/(j≠i/\l[j]?=some b):=by
 by_cases e:j=i
 ·subst e
  rw[List.getElem?_set_self'] at h;cases q:l[j]? with
  | none=>rw[q] at h;cases h
  | some x=>rw[q] at h;exact .inl ⟨rfl,(Option.some.inj h).symm⟩
 ·rw[Bh0 (Ne.symm e)] at h
  exact .inr ⟨e,h⟩
theorem zg8(e:o.join=some v):o=some (some v):=by
 cases o with
 | none=>cases e
 | some a=>rw[show a=some v from e]
def yg4{b:Addr}(h:Ow (σ.set i (some v)) (ρ.set i (.bor d)) b):Ow σ ρ b:=by
 obtain⟨j,e,h1,h2⟩:=h;rcases zb4 h1 with⟨_,z⟩ | ⟨n,z⟩
 ·cases z
 ·rcases zb4 h2 with⟨m,_⟩ | ⟨_,y⟩
  ·exact absurd m n
  ·exact⟨j,e,z,y⟩
def Rep.setB(R:Rep c H σ ρ)(hi:i<ρ.length)(h:Is c.K (Av c σ ρ) H d v):Rep c H (σ.set i (some v)) (ρ.set i (.bor d)) where
 len:=by rw[Cc0,Cc0];exact R.len
 frame:=R.frame
 avl:=R.avl
 slot:=λj s hs=>by
  have k:wr9 (Av c σ ρ) (Av c (σ.set i (some v)) (ρ.set i (.bor d))) H H:=⟨λ_ _ z _=>z,λb o a z=>⟨⟨a.1,λw=>a.2.1 (yg4 w),a.2.2⟩,z⟩⟩;rcases zb4 hs with⟨e,z⟩ | ⟨n,z⟩
  ·subst z
   subst e;refine⟨v,?_,Is.mono k h⟩;rw[Cs0 (by rw[R.len];exact hi)];rfl
  ·rw[Bh0 (Ne.symm n)]
   have q:=R.slot j s z;cases s with
   | no=>trivial
   | bor e=>obtain⟨v',e1,i1⟩:=q;exact⟨v',e1,i1.mono k⟩
   | own e=>obtain⟨a,e1,n1,f,t⟩:=q;exact⟨a,e1,n1,f,t.mono k λo z=>z⟩
   | hnd=>exact q
 uniq:=λj j' a e e' h1 h2 h3 h4=>by
  rcases zb4 h1 with⟨_,z⟩ | ⟨n,z⟩
  ·cases z
  ·rcases zb4 h2 with⟨_,z'⟩ | ⟨n',z'⟩
   ·cases z'
   ·rw[Bh0 (Ne.symm n)] at h3
    rw[Bh0 (Ne.symm n')] at h4;exact R.uniq j j' a e e' z z' h3 h4
def zg2:Frm c H σ ρ H (σ.set i (some v)) (ρ.set i (.bor d)):=⟨λ_ _ h _ _=>h,λ_ _ _ _ w=>yg4 w⟩
def yg3{a b:Addr}(h:Ow (σ.set i (some (.ref a))) (ρ.set i (.own d)) b):Ow σ ρ b\/b=a:=by
 obtain⟨j,e,h1,h2⟩:=h;rcases zb4 h1 with⟨m,_⟩ | ⟨n,z⟩
 ·rcases zb4 h2 with⟨_,y⟩ | ⟨n,_⟩
  ·cases y;exact .inr rfl
  ·exact absurd m n
 ·rcases zb4 h2 with⟨m,_⟩ | ⟨_,y⟩
  ·exact absurd m n
  ·exact .inl ⟨j,e,z,y⟩
def Rep.setO{a:Addr}(R:Rep c H σ ρ)(ok:W.ok st H)(x:Ext W H H1){st1:S}(ok1:W.ok st1 H1)(hi:i<ρ.length)(h:Is c.K (Av c σ ρ) H1 d (.ref a))(m:d.flat=true)(hn:H a=none) :
 Rep c H1 (σ.set i (some (.ref a))) (ρ.set i (.own d))/\Frm c H σ ρ H1 (σ.set i (some (.ref a))) (ρ.set i (.own d)):=by
 have hmv:¬W.mv a:=zm9 ok hn;have k:wr9 (Av c σ ρ) (Av c (σ.set i (some (.ref a))) (ρ.set i (.own d))) H H1:=zj4 (λb o e t=>x b o e λmm=>by
  obtain⟨o',h',n1,n2⟩:=W.live st H b ok mm;rw[e] at h';cases h';rcases t with⟨u,z⟩ | ⟨ob,u,z⟩
  ·exact n1 u z
  ·exact n2 ob u z) λb o av e=>⟨⟨av.1,(λw=>by
   rcases yg3 w with w | w
   ·exact av.2.1 w
   ·subst w;rw[hn] at e;cases e),av.2.2⟩,x b o e av.1⟩
 refine⟨⟨by rw[Cc0,Cc0];exact R.len,λb o e n=>x b o (R.frame b o e n) n,λj s hs=>?_,(λb h=>let ⟨n,z,o,h',q⟩:=R.avl b h;⟨n,z,o,x b o h' n,q⟩),λj j' b e e' h1 h2 h3 h4=>?_⟩,⟨λb o e n w=>x b o e n,λb o e n w=>?_⟩⟩
 ·rcases zb4 hs with⟨e,z⟩ | ⟨n,z⟩
  ·subst z
   subst e;refine⟨a,by rw[Cs0 (by rw[R.len];exact hi)];rfl,⟨hmv,λw=>by obtain⟨_,_,o,h',_⟩:=R.avl a w;rw[hn] at h';cases h'⟩,R.none0 ok hn,?_⟩;cases d with
   | lst l=>
     obtain⟨b,vs,e,_,e2,i1⟩:=Is.lst_iff.mp h;cases e;exact⟨vs,e2,IsL.ofImm m i1⟩
   | dct ks l=>
     obtain⟨b,vs,e,_,i1,q⟩:=Is.dct_iff.mp h;cases e;exact⟨vs,IsL.ofImm m i1,q⟩
   | _=>simp[D.flat] at m
  ·rw[Bh0 (Ne.symm n)]
   have q:=R.slot j s z;cases s with
   | no=>trivial
   | bor e=>obtain⟨v',e1,i1⟩:=q;exact⟨v',e1,i1.mono k⟩
   | own e=>obtain⟨b,e1,n1,f,t⟩:=q;exact⟨b,e1,n1,f,t.mono k λo z=>x b o z n1.1⟩
   | hnd=>exact q
 ·have fresh:∀(j:Nat) (e:D),ρ[j]?=some (.own e)->σ[j]?=some (some (.ref a))->False:=λj e h1 h2=>by
   obtain⟨_,_,o,h',_⟩:=R.owOk ⟨j,e,h1,h2⟩;rw[hn] at h';cases h'
  rcases zb4 h1 with⟨m1,z⟩ | ⟨n,z⟩
  ·rcases zb4 h2 with⟨m2,z'⟩ | ⟨n',z'⟩
   ·rw[m1,m2]
   ·rw[Bh0 (Ne.symm n')] at h4
    rcases zb4 h3 with⟨_,y⟩ | ⟨n3,_⟩
    ·cases y;exact(fresh j' e' z' h4).elim
    ·exact absurd m1 n3
  ·rcases zb4 h2 with⟨m2,z'⟩ | ⟨n',z'⟩
   ·rw[Bh0 (Ne.symm n)] at h3
    rcases zb4 h4 with⟨_,y⟩ | ⟨n3,_⟩
    ·cases y;exact(fresh j e z h3).elim
    ·exact absurd m2 n3
   ·rw[Bh0 (Ne.symm n)] at h3
    rw[Bh0 (Ne.symm n')] at h4;exact R.uniq j j' b e e' z z' h3 h4
 ·rcases yg3 w with w | w
  ·exact w
  ·subst w;rw[hn] at e;cases e
noncomputable def put(ρ:Rho)(i:Nat)(d:D):Option Rho:=if i<ρ.length then some (ρ.set i (.bor d)) else none
noncomputable def putN(ρ:Rho)(i:Nat)(d:D):Option Rho:=if i<ρ.length then some (ρ.set i (if d.flat=true then .own d else .bor d)) else none
noncomputable def vj8(S:Type)(i:Nat)(f:Fn S):FnS S:=λρ st=>(f ρ st).bind λd st1=>(ws3 (putN ρ i d) st1).bind λρ' st2=>.ok (.nx ρ') st2
noncomputable def vj7(S:Type)(i:Nat)(f:Fn S):FnS S:=λρ st=>(f ρ st).bind λd st1=>(ws3 (put ρ i d) st1).bind λρ' st2=>.ok (.nx ρ') st2
open H in
def xw6{f:Fn S}{D:vb4}(h:tS c (vj8 S i f) D σ H):vm2 (tD c .F f) (vc5 i) D σ H:=
 zi0 (yi3 (g:=.F) h) λv H1 hI11=>by
  obtain⟨ρ,d,st0,st1,R,ok,R1,ok1,e,z,w⟩:=hI11;obtain⟨ρ',e1,w⟩:=zb2.mp (za5.mp w);unfold putN at e1;split at e1
  ·rename_i hi
   by_cases m:d.flat=true
   ·rw[if_pos m] at e1
    cases e1;obtain⟨a,rfl,mu,av,_⟩:=yx6 z.1 m;obtain⟨R2,F2⟩:=R.setO (i:=i) ok e ok1 hi z.1 m (z.2 a rfl mu);exact w (σ.set i (some (.ref a))) H1 F2 ok1 R2
   ·rw[if_neg m] at e1
    cases e1;exact w _ H1 (e.frm.trans zg2) ok1 (R1.setB hi z.1)
  ·cases e1
def zb9{x:Str}{e:Expr}{f:Fn S}{p pos:Pos}(hN:X.N.Nodup)(hi:X.N[i]?=some x)(hx:Loc X.env.scope x)(he:DE X c .F e f)(hs:swapsWith e (some (.Name x p)) pos.line X.env=pure false:=by rfl)(hf:X.fn x=true\/X.env.scope.names.lookup x=some .local:=by first | exact .inl rfl | exact .inr rfl | assumption) :
 DS X c (.Assign [.Name x p] e pos) (vj8 S i f):=(zt3 hN hi hx he hs hf).imp λD σ H q=>xw6 q
noncomputable abbrev FnG:=D->Rho->Option Rho
noncomputable abbrev vf3:=List D->Rho->Option Rho
noncomputable def tG{S:Type}{W:Wd S}(c:Dx W)(G:FnG):TG:=λv σ H Q=>∃ρ d ρ' st,Rep c H σ ρ/\W.ok st H/\Is c.K (Av c σ ρ) H d v/\G d ρ=some ρ'/\∀σ',Rep c H σ' ρ'->Frm c H σ ρ H σ' ρ'->Q σ' H
noncomputable def tGs{S:Type}{W:Wd S}(c:Dx W)(G:vf3):TGs:=λvs σ H Q=>∃ρ l ρ' st,Rep c H σ ρ/\W.ok st H/\IsL c.K (Av c σ ρ) H l vs/\G l ρ=some ρ'/\∀σ',Rep c H σ' ρ'->Frm c H σ ρ H σ' ρ'->Q σ' H
noncomputable def DG(X:Cx){S:Type}{W:Wd S}(c:Dx W)(e:Expr)(G:FnG):Prop:=PG X e (tG c G)
noncomputable def DGs(X:Cx){S:Type}{W:Wd S}(c:Dx W)(e:List Expr)(G:vf3):Prop:=PGs X e (tGs c G)
def PG.imp(h:PG X e t)(i:∀v σ H Q,t' v σ H Q->t v σ H Q):PG X e t':=λA3 s σ H v u Q I r q=>h A3 s σ H v u Q I r (i v σ H Q q)
def PGs.imp(h:PGs X e t)(i:∀v σ H Q,t' v σ H Q->t v σ H Q):PGs X e t':=λA3 s σ H v u Q I r q=>h A3 s σ H v u Q I r (i v σ H Q q)
noncomputable def gN(i:Nat):FnG:=λd ρ=>put ρ i d
open H in
def zb1{x:Str}{pos:Pos}(hN:X.N.Nodup)(hi:X.N[i]?=some x)(hx:Loc X.env.scope x)(hf:X.fn x=true\/X.env.scope.names.lookup x=some .local:=by first | exact .inl rfl | exact .inr rfl | assumption):DG X c (.Name x pos) (gN i):=
 (yj0 hN hi hx hf).imp λv σ H Q hI12=>by
  obtain⟨ρ,d,ρ',st,R,ok,z,e,q⟩:=hI12;unfold gN put at e;split at e
  ·rename_i h
   cases e;exact q _ (R.setB h z) zg2
  ·cases e
noncomputable def gsNil:vf3:=λl ρ=>match l with
 | []=>some ρ
 | _=>none
noncomputable def gsCons(G:FnG)(Gs:vf3):vf3:=λl ρ=>match l with
 | d::r=>(G d ρ).bind λρ1=>Gs r ρ1
 | []=>none
theorem zk1:DGs X c [] gsNil:=ys4.imp λv σ H Q hI13=>by
 obtain⟨ρ,l,ρ',st,R,ok,z,e,q⟩:=hI13;cases l with
 | nil=>cases e;exact⟨IsL.nil.mp z,q σ R Frm.refl⟩
 | cons _ _=>cases e
def zc5{e:Expr}{es:List Expr}{G:FnG}{Gs:vf3}(h1:DG X c e G)(h2:DGs X c es Gs)(hs:(assignEach (e::es) X.env).map (·.2)=assign e X.env::(assignEach es X.env).map (·.2):=by rfl):DGs X c (e::es) (gsCons G Gs):=
 (zu9 h1 h2 hs).imp λv σ H Q hI14=>by
  obtain⟨ρ,l,ρ',st,R,ok,z,e,q⟩:=hI14;cases l with
  | nil=>cases e
  | cons d r=>
    obtain⟨v1,vs,e1,i1,j1⟩:=IsL.cons.mp z;have e:(G d ρ).bind (λρ1=>Gs r ρ1)=some ρ':=e;cases q1:G d ρ with
    | none=>rw[q1] at e;cases e
    | some ρ1=>
      rw[q1] at e;refine⟨v1,vs,e1,ρ,d,ρ1,st,R,ok,i1,q1,λσ1 R1 F1=>?_⟩;exact⟨ρ1,r,ρ',st,R1,ok,j1.mono (F1.keepT R ok),e,λσ2 R2 F2=>q σ2 R2 (F1.trans F2)⟩
noncomputable def gT(n:Nat)(Gs:vf3):FnG:=λd ρ=>match d with
 | .tup l=>if l.length=n then Gs l ρ else none
 | _=>none
open H in
def zp5{es:List Expr}{k:Nat}{pos:Pos}{Gs:vf3}{n:Nat}(hc:X.calm=true)(hK:c.K=X.K)(h:DGs X c es Gs)(hn:(assignEach es X.env).length=n:=by rfl)(hst:(assignEach es X.env).findIdx? (·.1)=none:=by rfl):DG X c (.Tuple es k pos) (gT n Gs):=
 (xi1 hc h hn hst).imp λv σ H Q hI15=>by
  obtain⟨ρ,d,ρ',st,R,ok,z,e,q⟩:=hI15;cases d with
  | tup l=>
    obtain⟨a,vs,e1,s1,j1⟩:=Is.tup_sq z;have e:(if l.length=n then Gs l ρ else none)=some ρ':=e;split at e
    ·rename_i hl
     exact⟨a,vs,e1,by rw[<-hK];exact s1,by rw[<-j1.length];exact hl,ρ,l,ρ',st,R,ok,j1,e,q⟩
    ·cases e
  | _=>cases e
noncomputable def vp5(S:Type)(G:FnG)(f:Fn S):FnS S:=λρ st=>(f ρ st).bind λd st1=>(ws3 (G d ρ) st1).bind λρ' st2=>.ok (.nx ρ') st2
def yp3{tg e:Expr}{f:Fn S}{G:FnG}{pos:Pos}(he:DE X c .B e f)(hg:DG X c tg G)(hs:swapsWithSole [tg] e pos.line X.env=pure false:=by rfl)(hw:swappedStores [tg] e X.env=pure none:=by rfl)(h1:(assignEach [tg] X.env).map (·.2)=[assign tg X.env]:=by rfl):DS X c (.Assign [tg] e pos) (vp5 S G f):=
 (xh4 he hg hs hw h1).imp λD σ H q=>zi0 (yi3 (g:=.B) q) λv H1 hI16=>by
  obtain⟨ρ,d,st0,st1,R,ok,R1,ok1,e,z,w⟩:=hI16;obtain⟨ρ',e1,w⟩:=zb2.mp (za5.mp w);exact⟨ρ,d,ρ',st1,R1,ok1,z,e1,λσ' R' F'=>w σ' H1 (e.frm.trans F') ok1 R'⟩
end
noncomputable def xp8{S:Type}{W:Wd S}(c:Dx W)(σ:St)(ρ:Rho)(H:Hp)(J:It)(l:List D):Prop:=∀(c':Dx W) (hK:c'.K=c.K) σ2 ρ2 H2 (st2:S),wr9 (Av c σ ρ) (Av c' σ2 ρ2) H H2->Rep c' H2 σ2 ρ2->W.ok st2 H2->∀i:Nat,
 (∀d,l[i]?=some d->J.go i H2/\∀x H3,J.yld i H2 x H3->wx7 H2 H3/\Is c.K (Av c' σ2 ρ2) H3 d x)/\(l.length<=i->J.stop i H2)
noncomputable abbrev FnI(S:Type):=FnA S
noncomputable def tI{S:Type}{W:Wd S}(c:Dx W)(f:FnI S):TI:=λσ H R=>∃ρ st,Rep c H σ ρ/\W.ok st H/\
 wpR (f ρ st) (λl st'=>∀J H',Ext W H H'->W.ok st' H'->xp8 c σ ρ H' J l->R J H') λx st'=>∀H',Ext W H H'->W.ok st' H'->c.Ex x st' H'
noncomputable def DI(X:Cx){S:Type}{W:Wd S}(c:Dx W)(tg iter:Expr)(f:FnI S):Prop:=PI X tg iter (tI c f)
def PI.imp(h:PI X tg e t)(i:∀σ H R,t' σ H R->t σ H R):PI X tg e t':=λA3 s σ H R I q=>h A3 s σ H R I (i σ H R q)
section
variable{X:Cx}{S:Type}{W:Wd S}{c:Dx W}{tg:Expr}
noncomputable def ve4(S:Type)(sel:D->Option (List D))(f:Fn S):FnI S:=λρ st=>(f ρ st).bind λd st1=>ws3 (sel d) st1
noncomputable def D.tup?:D->Option (List D)
 | .tup l=>some l
 | _=>none
noncomputable def D.lst?:D->Option (List D)
 | .lst l=>some l
 | _=>none
def xz4(hK:c.K=X.K)(h:DE X c .B e f):DI X c tg e (ve4 S D.tup? f):=
 (wk7 h).imp λσ H R hI17=>by
  obtain⟨ρ,st,R0,ok,w⟩:=hI17;refine⟨ρ,st,R0,ok,za6 (za5.mp w) (λd st1 q v H1 e ok1 z=>?_) λx st1 q=>q⟩;obtain⟨l,e1,q⟩:=zb2.mp q;cases d with
  | tup m=>
    cases e1;obtain⟨a,vs,ev,s0,i⟩:=Is.tup_iff.mp z;have s:SqT c.K H1 a vs:=.of s0;refine⟨a,ev,⟨vs,by rw[<-hK];exact s⟩,q _ H1 e ok1 ?_⟩;intro c' hK' σ2 ρ2 H2 st2 k R2 ok2 j;have s2:SqT c.K H2 a vs:=.of (k.tup a vs s0);have i2:IsL c.K (Av c' σ2 ρ2) H2 l vs:=i.mono k;refine⟨λd hd=>?_,λhl=>⟨vs,by rw[<-hK];exact s2,by rw[<-i2.length];exact hl⟩⟩;obtain⟨v1,hv,iv⟩:=i2.get hd;exact⟨⟨vs,v1,by rw[<-hK];exact s2,hv⟩,λx H3 hI18=>by
     obtain⟨e3,y⟩:=hI18;subst e3;have hx:=y vs (by rw[<-hK];exact s2);rw[hv] at hx;cases hx;exact⟨wx7.refl _,iv⟩⟩
  | _=>cases e1
def wp2(hK:c.K=X.K)(h:DE X c .B e f):DI X c tg e (ve4 S D.lst? f):=
 (wd3 h).imp λσ H R hI19=>by
  obtain⟨ρ,st,R0,ok,w⟩:=hI19;refine⟨ρ,st,R0,ok,za6 (za5.mp w) (λd st1 q v H1 e ok1 z=>?_) λx st1 q=>q⟩;obtain⟨l,e1,q⟩:=zb2.mp q;cases d with
  | lst m=>
    cases e1;obtain⟨a,vs,ev,n,s,i⟩:=Is.lst_iff.mp z;refine⟨a,ev,⟨vs,.of s⟩,q _ H1 e ok1 ?_⟩;intro c' hK' σ2 ρ2 H2 st2 k R2 ok2 j;have s2:H2 a=some (.lst vs):=(k.nod a _ n s).2;have i2:IsL c.K (Av c' σ2 ρ2) H2 l vs:=i.mono k;refine⟨λd hd=>?_,λhl=>⟨vs,.of s2,by rw[<-i2.length];exact hl⟩⟩;obtain⟨v1,hv,iv⟩:=i2.get hd;exact⟨⟨vs,v1,.of s2,hv⟩,λx H3 hI20=>by
     obtain⟨e3,y⟩:=hI20;subst e3;have hx:=y vs (.of s2);rw[hv] at hx;cases hx;exact⟨wx7.refl _,iv⟩⟩
  | _=>cases e1
noncomputable def zl1(lo:Int)(n:Nat):List D:=(List.range n).map λ(k:Nat)=>D.int (lo+(k:Int))
noncomputable def ys7:List D->Option (List D)
 | [.int j]=>if -(2 ^ 62)<=j/\j<2 ^ 62 then some (zl1 0 j.toNat) else none
 | _=>none
noncomputable def vc3(S:Type)(o:List D->Option (List D))(f:FnA S):FnI S:=λρ st=>(f ρ st).bind λl st1=>ws3 (o l) st1
def xc2(lo:Int)(n:Nat):xp8 c σ ρ H (Itr lo n) (zl1 lo n):=by
 intro c' hK' σ2 ρ2 H2 st2 k R2 ok2 j;refine⟨λd hd=>?_,λhl=>?_⟩
 ·unfold zl1 at hd
  rw[An0] at hd;cases q:(List.range n)[j]? with
  | none=>rw[q] at hd;cases hd
  | some m=>
    rw[q] at hd;cases hd;obtain⟨h1,h2⟩:=Ae0.mp q;rw[List.getElem_range] at h2;subst h2;rw[Cj0] at h1;exact⟨h1,λx H3 ⟨e3,e4⟩=>by subst e3 e4;exact⟨wx7.refl _,Is.int_iff.mpr rfl⟩⟩
 ·unfold zl1 at hl
  rw[Aa0,Cj0] at hl;exact hl
open H in
def ze6{a:Expr}{f:FnA S}{p pos:Pos}(hg:Gl X "range")(hm:X.mg "range" = none)(ha:DA X c [a] f)(hs:starEach [a] X.env=[(false,eval a X.env)]:=by rfl):DI X c tg (.Call (.Name "range" p) [a] [] pos) (vc3 S ys7 f):=
 (xh9 hg hm ha hs).imp λσ H R hI21=>by
  obtain⟨ρ,st,R0,ok,w⟩:=hI21;refine⟨ρ,st,R0,ok,za6 (za5.mp w) (λl st1 q vs H1 e ok1 z=>?_) λx st1 q=>q⟩;obtain⟨m,e1,q⟩:=zb2.mp q;unfold ys7 at e1;split at e1
  ·rename_i j
   split at e1
   ·rename_i h
    cases e1;obtain⟨v,r,e2,i2,i3⟩:=IsL.cons.mp z;rw[IsL.nil.mp i3,Is.int_iff.mp i2] at e2;exact⟨j,e2,h.1,h.2,q _ H1 e ok1 (xc2 0 _)⟩
   ·cases e1
  ·cases e1
noncomputable def frz1(i:Nat)(ρ:Rho):Rho:=match ρ[i]? with
 | some (.own d)=>ρ.set i (.bor d)
 | _=>ρ
noncomputable def frz:List Nat->Rho->Rho
 | [],ρ=>ρ
 | i::r,ρ=>frz r (frz1 i ρ)
open H in
def Rep.frz1{H:Hp}{σ:St}{ρ:Rho}{st:S}(i:Nat)(R:Rep c H σ ρ)(ok:W.ok st H):Rep c H σ (frz1 i ρ)/\Frm c H σ ρ H σ (L2.frz1 i ρ):=by
 unfold L2.frz1;split
 ·rename_i d hi
  obtain⟨a,e1,n,f,t⟩:=R.slot i _ hi;have e1':=zg8 e1;have hlt:i<ρ.length:=(Ae0.mp hi).1;have sub:∀b,Ow σ (ρ.set i (.bor d)) b->Ow σ ρ b/\b≠a:=λb hI22=>by
   obtain⟨j,e,h1,h2⟩:=hI22;rcases zb4 h1 with⟨_,z⟩ | ⟨nj,z⟩
   ·cases z
   ·refine⟨⟨j,e,z,h2⟩,λq=>?_⟩
    subst q;exact nj (R.uniq j i b e d z hi h2 e1')
  have k:wr9 (Av c σ ρ) (Av c σ (ρ.set i (.bor d))) H H:=⟨λ_ _ z _=>z,λb o a z=>⟨⟨a.1,λw=>a.2.1 (sub b w).1,a.2.2⟩,z⟩⟩;refine⟨⟨by rw[Cc0];exact R.len,R.frame,λj s hs=>?_,R.avl,λj j' b e e' h1 h2 h3 h4=>?_⟩,⟨λb o h _ _=>h,λb o _ _ w=>(sub b w).1⟩⟩
  ·rcases zb4 hs with⟨ej,z⟩ | ⟨nj,z⟩
   ·subst z ej
    exact⟨_,e1,(t.mono k λo z=>z).isTop ⟨n.1,λw=>(sub a w).2 rfl,n.2⟩⟩
   ·have q:=R.slot j s z
    cases s with
    | no=>trivial
    | bor e=>obtain⟨v',e1,i1⟩:=q;exact⟨v',e1,i1.mono k⟩
    | own e=>obtain⟨b,e1,n1,f,t⟩:=q;exact⟨b,e1,n1,f,t.mono k λo z=>z⟩
    | hnd=>exact q
  ·rcases zb4 h1 with⟨_,z⟩ | ⟨_,z⟩
   ·cases z
   ·rcases zb4 h2 with⟨_,z'⟩ | ⟨_,z'⟩
    ·cases z'
    ·exact R.uniq j j' b e e' z z' h3 h4
 ·exact⟨R,Frm.refl⟩
theorem Rep.frz{H:Hp}{σ:St}{st:S}(ok:W.ok st H):∀(l:List Nat) {ρ:Rho},Rep c H σ ρ->Rep c H σ (L2.frz l ρ)/\Frm c H σ ρ H σ (L2.frz l ρ)
 | [],ρ,R=>⟨R,Frm.refl⟩
 | i::r,ρ,R=>by
   obtain⟨R1,F1⟩:=R.frz1 i ok;obtain⟨R2,F2⟩:=Rep.frz ok r R1;exact⟨R2,F1.trans F2⟩
noncomputable def va6(S:Type)(G:FnG)(B:FnS S):List D->FnS S
 | [],ρ,st=>.ok (.nx ρ) st
 | d::r,ρ,st=>(ws3 (G d ρ) st).bind λρ1 st1=>(B ρ1 st1).bind λfl st2=>match fl with
   | .nx ρ2=>va6 S G B r ρ2 st2
   | .ct ρ2=>va6 S G B r ρ2 st2
   | .bk ρ2=>.ok (.nx ρ2) st2
   | .rt d=>.ok (.rt d) st2
noncomputable def vp3(S:Type)(fz:List Nat)(f:FnI S)(G:FnG)(B:FnS S):FnS S:=λρ st=>(f (frz fz ρ) st).bind λl st1=>va6 S G B l (frz fz ρ) st1
def zh8{iter:Expr}{body:List Stmt}{f:FnI S}{G:FnG}{B:FnS S}{pos:Pos}(fz:List Nat)(hp:PassesOwn (model X.prog X.w) X.A X.env X.xe)(hc:X.calm=true)(hi:DI X c tg iter f)(hg:DG X c tg G)(hb:DSs X c body B)(hs:∀x,foldedSetIterable iter X.env x=pure x:=by intro _;rfl):DS X c (.For tg iter body [] pos) (vp3 S fz f G B):=
 (wk5 hp hc hi hg hb hs).imp λD σ H hI23=>by
  obtain⟨ρ,st,R,ok,w⟩:=hI23;obtain⟨Rf,Ff⟩:=R.frz ok fz;refine⟨frz fz ρ,st,Rf,ok,za6 (za5.mp w) (λl st1 q J H1 e ok1 it=>?_) λx st1 q H1 e ok1=>q H1 (e.f0 R) ok1⟩;have R1:=Rf.ext ok e;refine⟨λi m σ2 H2=>∃ρ2 st2,i<=l.length/\m=l.length-i/\Frm c H1 σ (frz fz ρ) H2 σ2 ρ2/\Rep c H2 σ2 ρ2/\W.ok st2 H2/\wpR (va6 S G B (l.drop i) ρ2 st2) (wu6 c D σ2 ρ2 H2) (vd1 c),⟨l.length,frz fz ρ,st1,Am0 _,rfl,Frm.refl,R1,ok1,?_⟩,?_⟩
  ·rw[List.drop_zero]
   exact za6 q (λfl st2 q=>(q.from Ff).from e.frm) λx st2 q=>q
  ·rintro i m σ2 H2 ⟨ρ2,st2,hle,rfl,F2,R2,ok2,w2⟩
   obtain⟨h1,h2⟩:=it c rfl σ2 ρ2 H2 st2 (F2.keepT R1 ok1) R2 ok2 i;by_cases hlt:i<l.length
   ·have hd:l[i]?=some l[i]:=Ac0 hlt
    obtain⟨go,yl⟩:=h1 _ hd;rw[Cb0 hlt] at w2;refine .inr ⟨go,λσ3 H3=>∃ρ3 st3,Frm c H1 σ (frz fz ρ) H3 σ3 ρ3/\Rep c H3 σ3 ρ3/\W.ok st3 H3/\wpR (va6 S G B (l.drop (i+1)) ρ3 st3) (wu6 c D σ3 ρ3 H3) (vd1 c),λσ3 H3 ⟨ρ3,st3,F3,R3,ok3,w3⟩=>⟨l.length-(i+1),by omega,ρ3,st3,hlt,rfl,F3,R3,ok3,w3⟩,λx H3 y=>?_⟩;obtain⟨sm,iv⟩:=yl x H3 y;have ex:Ext W H2 H3:=sm.ext;have ok3:W.ok st2 H3:=W.stay st2 H2 H3 ok2 λb o _ hb=>sm b o hb
    have R3:=R2.ext ok2 ex;obtain⟨ρ4,e4,w4⟩:=zb2.mp (za5.mp w2);refine⟨ρ2,_,ρ4,st2,R3,ok3,iv,e4,λσ4 R4 F4=>?_⟩;have F24:Frm c H2 σ2 ρ2 H3 σ4 ρ4:=ex.frm.trans F4;refine⟨ρ4,st2,R4,ok3,za6 (za5.mp w4) (λfl st5 q5=>?_) λx st5 q=>q⟩;have nxt:∀ρ5,wpR (va6 S G B (l.drop (i+1)) ρ5 st5) (wu6 c D σ2 ρ2 H2) (vd1 c)->Nx c (λσ3 H3=>∃ρ3 st3,Frm c H1 σ (frz fz ρ) H3 σ3 ρ3/\Rep c H3 σ3 ρ3/\W.ok st3 H3/\wpR (va6 S G B (l.drop (i+1)) ρ3 st3) (wu6 c D σ3 ρ3 H3) (vd1 c)) σ4 ρ4 H3 ρ5 st5:=
     λρ5 q5 σ5 H5 F5 ok5 R5=>⟨ρ5,st5,F2.trans (F24.trans F5),R5,ok5,za6 q5 (λfl st6 q=>q.from (F24.trans F5)) λx st6 q=>q⟩
    cases fl with
    | nx ρ5=>exact nxt ρ5 q5
    | ct ρ5=>exact nxt ρ5 q5
    | bk ρ5=>exact λσ5 H5 F5 ok5 R5=>q5 σ5 H5 (F24.trans F5) ok5 R5
    | rt d=>exact q5
   ·have e0:i=l.length:=by omega
    subst e0;rw[List.drop_length] at w2;exact .inl ⟨h2 (Ad0 _),w2 σ2 H2 Frm.refl ok2 R2⟩
end
theorem ze9:∀{l m:List D},D.immL l=true->D.immL m=true->D.immL (l++m)=true
 | [],_,_,h=>h
 | d::l,m,h,k=>by
   have h':d.imm=true/\D.immL l=true:=by simpa [D.immL] using h
   show (d.imm&&D.immL (l++m))=true;rw[h'.1,ze9 h'.2 k];rfl
noncomputable abbrev Dx.avoid{S:Type}{W:Wd S}(c:Dx W)(av:Addr->Prop):Dx W:=⟨c.K,c.H0,c.Ex,av⟩
noncomputable def pickR(ρ:Rho)(ixs:List (Option Nat)):Rho:=ixs.map λo=>match o with
 | some i=>(match ρ[i]? with
   | some (.bor d)=>.bor d
   | some (.own d)=>.bor d
   | some .hnd=>.hnd
   | _=>.no)
 | none=>.no
section
variable{S:Type}{W:Wd S}{c:Dx W}{H H1:Hp}{σ:St}{ρ:Rho}{st:S}
theorem zz9:¬Ow σ' (pickR ρ ixs) b:=λhI24=>by
 obtain⟨j,d,h,_⟩:=hI24;unfold pickR at h;rw[An0] at h;cases q:ixs[j]? with
 | none=>rw[q] at h;cases h
 | some o=>
   rw[q] at h;cases o with
   | none=>cases h
   | some i=>
     have h:(match ρ[i]? with | some (.bor d)=>Sl.bor d | some (.own d)=>.bor d | some .hnd=>.hnd | _=>.no)=Sl.own d:=Option.some.inj h;split at h<;>cases h
def Rep.pick{D:Addr}(R:Rep c H σ ρ)(ok:W.ok st H)(hD:H D=none)(ixs:List (Option Nat)):Rep (c.avoid λb=>c.av b\/b=D) (upd H D (.lst [])) (L2.pick σ ixs) (pickR ρ ixs) where
 len:=by unfold L2.pick pickR;rw[Aa0,Aa0]
 frame:=λb o h n=>by
  have e:H b=some o:=R.frame b o h n;show upd H D _ b=some o;rw[za9 (zb7 e hD)];exact e
 uniq:=λi j a d e h1 _ _ _=>(zz9 (σ':=L2.pick σ ixs) (ρ:=ρ) (ixs:=ixs) (b:=a) ⟨i,d,h1,by assumption⟩).elim
 avl:=λb h=>by
  rcases h with h | h
  ·obtain⟨n,z,o,h',q⟩:=R.avl b h
   exact⟨n,z,o,by show upd H D _ b=some o;rw[za9 (zb7 h' hD)];exact h',q⟩
  ·subst h
   exact⟨zm9 ok hD,R.none0 ok hD,_,zb3,(λu z=>by cases z),λob u z=>by cases z⟩
 slot:=λj s hs=>by
  unfold pickR at hs;rw[An0] at hs;have kk:∀{A:Addr->Prop},(∀b,A b->¬W.mv b/\¬c.av b)->wr9 A (Av (c.avoid λb=>c.av b\/b=D) (L2.pick σ ixs) (pickR ρ ixs)) H (upd H D (.lst [])):=λ{A} hA=>
   zj4 (λb o e _=>by rw[za9 (zb7 e hD)];exact e) λb o a e=>⟨⟨(hA b a).1,zz9,λw=>w.elim (hA b a).2 (λz=>by subst z;rw[hD] at e;cases e)⟩,by rw[za9 (zb7 e hD)];exact e⟩
  cases q:ixs[j]? with
  | none=>rw[q] at hs;cases hs
  | some o=>
    rw[q] at hs;have ej:(L2.pick σ ixs)[j]?=(ixs[j]?).map (λo=>match o with | some i=>(σ[i]?).join | none=>none):=by
     unfold L2.pick;rw[An0]
     all_goals rfl
    rw[ej,q];cases o with
    | none=>cases hs;trivial
    | some i=>
      have hs:(match ρ[i]? with | some (.bor d)=>Sl.bor d | some (.own d)=>.bor d | some .hnd=>.hnd | _=>.no)=s:=Option.some.inj hs;show wa0 _ _ _ (σ[i]?).join s;cases h:ρ[i]? with
      | none=>rw[h] at hs;cases hs;trivial
      | some s'=>
        rw[h] at hs;have z:=R.slot i s' h;cases s' with
        | no=>cases hs;trivial
        | hnd=>cases hs;exact z
        | bor d=>cases hs;obtain⟨v,e1,i1⟩:=z;exact⟨v,e1,i1.mono (kk λb a=>⟨a.1,a.2.2⟩)⟩
        | own d=>
          cases hs;obtain⟨a,e1,n,f,t⟩:=z;refine⟨.ref a,e1,?_⟩;have t':=t.mono (c:=c) (kk λb a=>⟨a.1,a.2.2⟩) λo z=>by rw[za9 (zb7 z hD)];exact z
          obtain⟨o,ho,_⟩:=t.there;exact Top.isTop (c:=c) ⟨n.1,zz9,λw=>w.elim n.2 (λz=>by subst z;rw[hD] at ho;cases ho)⟩ t'
end
noncomputable def ww2(S:Type)(G:FnG)(t:FnT S)(e:Fn S):List D->List D->Rho->S->Res S (List D)
 | [],acc,_,st=>.ok acc st
 | d::r,acc,ρ,st=>(ws3 (G d ρ) st).bind λρ1 st1=>(t ρ1 st1).bind λb st2=>if b=true then
    (e ρ1 st2).bind λy st3=>if y.imm=true/\acc.length<sizeLine then ww2 S G t e r (acc++[y]) ρ1 st3 else .bad
   else ww2 S G t e r acc ρ1 st2
noncomputable def vc6(S:Type)(fz:List Nat)(ixs:List (Option Nat))(f:FnI S)(G:FnG)(t:FnT S)(e:Fn S):Fn S:=λρ st=>(f (frz fz ρ) st).bind λl st1=>(ww2 S G t e l [] (pickR (frz fz ρ) ixs) st1).bind λr st2=>.ok (.lst r) st2
noncomputable def DTs(X:Cx){S:Type}{W:Wd S}(c:Dx W)(ifs:List Expr)(t:FnT S):Prop:=PTs X ifs (tDT c t)
def PTs.imp(h:PTs X e t)(i:∀σ H Q,t' σ H Q->t σ H Q):PTs X e t':=λA3 s σ H Q I q=>h A3 s σ H Q I (i σ H Q q)
noncomputable def vh6(S:Type):FnT S:=λ_ st=>.ok true st
def zi3{X:Cx}{S:Type}{W:Wd S}{c:Dx W}:DTs X c [] (vh6 S):=wc7.imp λσ H Q ⟨ρ,st,R,ok,w⟩=>w H Ext.refl ok
def xn2{X:Cx}{S:Type}{W:Wd S}{c:Dx W}{e:Expr}{t:FnT S}(h:DT X c e t):DTs X c [e] t:=wc6 h
section
variable{X:Cx}{S:Type}{W:Wd S}{c:Dx W}{N':List Str}{ixs:List (Option Nat)}{scope:Scope}{tg iter elt:Expr}{ifs:List Expr}{f:FnI S}{G:FnG}{t:FnT S}{e:Fn S}{pos:Pos}{g:Gr}
noncomputable def gEx{S:Type}{W:Wd S}(c:Dx W)(G:FnG):TG:=λv σ H Q=>∃av,tG (c.avoid av) G v σ H Q
noncomputable def tEx{S:Type}{W:Wd S}(c:Dx W)(t:FnT S):TT:=λσ H Q=>∃av,tDT (c.avoid av) t σ H Q
noncomputable def eEx{S:Type}{W:Wd S}(c:Dx W)(e:Fn S):TE:=λσ H Q=>∃av,tD (c.avoid av) .R e σ H Q
noncomputable def vw6(S:Type){W:Wd S}(c:Dx W)(G:FnG)(t:FnT S)(e:Fn S)(l:List D)(A:Addr)(H1:Hp)(Pq:D->S->Prop)(Pe:Exn->S->Prop)(i:Nat)(σ2:St)(H2:Hp):Prop:=
 ∃ρ2 st2 acc ys,Rep (c.avoid λb=>c.av b\/b=A) H2 σ2 ρ2/\(∀b,¬Ow σ2 ρ2 b)/\W.ok st2 H2/\Ext W H1 H2/\H2 A=some (.lst ys)/\D.immL acc=true/\IsL c.K (λ_=>False) H2 acc ys/\
  wpR ((ww2 S G t e (l.drop i) acc ρ2 st2).bind λr st2=>.ok (.lst r) st2) Pq Pe
noncomputable def cPq(S:Type){W:Wd S}(c:Dx W)(g:Gr)(σ:St)(ρ:Rho)(H:Hp)(Q:VK):D->S->Prop:=λd st'=>∀v H',Ext W H H'->W.ok st' H'->Val c g σ ρ H H' d v->Q v H'
noncomputable def cPe(S:Type){W:Wd S}(c:Dx W)(H:Hp):Exn->S->Prop:=λx st'=>∀H',Ext W H H'->W.ok st' H'->c.Ex x st' H'
def xe9{fz:List Nat}(h:tD c g (vc6 S fz ixs f G t e) σ H Q):vf8 (tI c f) ixs (gEx c G) (tEx c t) (eEx c e) σ H Q:=by
 obtain⟨ρ,st,R,ok,w⟩:=h;obtain⟨Rf,Ff⟩:=R.frz ok fz;refine⟨frz fz ρ,st,Rf,ok,za6 (za5.mp w) (λl st1 q J H1 e1 ok1 it=>?_) λx st1 q=>q⟩;have R1:=R.ext ok e1;have Rf1:=Rf.ext ok e1;intro A hA;have hAm:¬W.mv A:=zm9 ok1 hA;have hA0:H A=none:=e1.none ok1 hA;refine⟨λi m σ2 H2=>i<=l.length/\m=l.length-i/\vw6 S c G t e l A H1 (cPq S c g σ ρ H Q) (cPe S c H) i σ2 H2,⟨l.length,Am0 _,rfl,pickR (frz fz ρ) ixs,st1,[],[],Rf1.pick ok1 hA ixs,λb=>zz9,zg6 ok1 hA,Ext.laid hA,zb3,rfl,IsL.nil.mpr rfl,by rw[List.drop_zero];exact q⟩,?_⟩;intro i m σ2 H2 hI;obtain⟨hle,rfl,ρ2,st2,acc,ys,R2,no2,ok2,x2,hA2,im,il,w2⟩:=hI;have k2:wr9 (Av c σ (frz fz ρ)) (Av (c.avoid λb=>c.av b\/b=A) σ2 ρ2) H1 H2:=zj4 (λb o h tt=>x2 b o h λm=>by
  obtain⟨o',h',n1,n2⟩:=W.live st1 H1 b ok1 m;rw[h] at h';cases h';rcases tt with⟨u,z⟩ | ⟨ob,u,z⟩
  ·exact n1 u z
  ·exact n2 ob u z) λb o a h=>⟨⟨a.1,no2 b,λw=>w.elim a.2.2 (λz=>by subst z;rw[hA] at h;cases h)⟩,x2 b o h a.1⟩
 obtain⟨h1,h2⟩:=it (c.avoid λb=>c.av b\/b=A) rfl σ2 ρ2 H2 st2 k2 R2 ok2 i;by_cases hlt:i<l.length
 ·have hd:l[i]?=some l[i]:=Ac0 hlt
  obtain⟨go,yl⟩:=h1 _ hd;rw[Cb0 hlt] at w2;refine .inr ⟨go,λσ3 H3=>vw6 S c G t e l A H1 (cPq S c g σ ρ H Q) (cPe S c H) (i+1) σ3 H3,λσ3 H3 hh=>⟨l.length-(i+1),by omega,hlt,rfl,hh⟩,λx H3 y=>?_⟩;obtain⟨sm,iv⟩:=yl x H3 y;have ex:Ext W H2 H3:=sm.ext;have ok3:W.ok st2 H3:=W.stay st2 H2 H3 ok2 λb o _ hb=>sm b o hb
  have R3:=R2.ext (c:=c.avoid λb=>c.av b\/b=A) ok2 ex;have w2:wpR (((ws3 (G l[i] ρ2) st2).bind λρ1 st1=>(t ρ1 st1).bind λb st2=>if b=true then
   (e ρ1 st2).bind λy st3=>if y.imm=true/\acc.length<sizeLine then ww2 S G t e (l.drop (i+1)) (acc++[y]) ρ1 st3 else .bad
   else ww2 S G t e (l.drop (i+1)) acc ρ1 st2).bind λr st2=>.ok (.lst r) st2) (cPq S c g σ ρ H Q) (cPe S c H):=w2
  obtain⟨ρ4,e4,w4⟩:=zb2.mp (za5.mp (za5.mp w2));refine⟨(λb=>c.av b\/b=A),ρ2,_,ρ4,st2,R3,ok3,iv,e4,λσ4 R4 F4=>?_⟩;have no4:∀b,¬Ow σ4 ρ4 b:=λb wb=>by
   obtain⟨n,_,o,ho,_⟩:=R4.owOk wb;exact no2 b (F4.own b o ho n wb)
  refine⟨(λb=>c.av b\/b=A),ρ4,st2,R4,ok3,za6 (za5.mp w4) (λb st5 q5 H5 x5 ok5=>?_) λx st5 q H5 x5 ok5=>q H5 ((e1.trans x2).trans (ex.trans x5)) ok5⟩;have R5:=R4.ext (c:=c.avoid λb=>c.av b\/b=A) ok3 x5;have hA5:H5 A=some (.lst ys):=x5 A _ (sm A _ hA2) hAm;cases b with
  | false=>
    exact⟨ρ4,st5,acc,ys,R5,no4,ok5,x2.trans (ex.trans x5),hA5,im,(il.ext ex ok2 λ_ z=>z.elim).ext x5 ok3 λ_ z=>z.elim,za5.mpr q5⟩
  | true=>
    refine⟨(λb=>c.av b\/b=A),ρ4,st5,R5,ok5,za6 (za5.mp q5) (λy st6 q6 v H6 x6 ok6 z6=>?_) λx st6 q H6 x6 ok6=>q H6 ((e1.trans x2).trans (ex.trans (x5.trans x6))) ok6⟩;by_cases hy:y.imm=true/\acc.length<sizeLine
    ·rw[if_pos hy] at q6
     have hA6:H6 A=some (.lst ys):=x6 A _ hA5 hAm;have il6:IsL c.K (λ_=>False) H6 acc ys:=((il.ext ex ok2 λ_ z=>z.elim).ext x5 ok3 λ_ z=>z.elim).ext x6 ok5 λ_ z=>z.elim
     refine⟨ys,hA6,by rw[<-il6.length];exact hy.2,ρ4,st6,acc++[y],ys++[v],?_,no4,?_,?_,zb3,?_,?_,za5.mpr q6⟩
     ·-- the slots do not see the list
      have R6:=R5.ext (c:=c.avoid λb=>c.av b\/b=A) ok5 x6;have nA:∀b,Av (c.avoid λb=>c.av b\/b=A) σ4 ρ4 b->b≠A:=λb a z=>a.2.2 (.inr z)
      have k:wr9 (Av (c.avoid λb=>c.av b\/b=A) σ4 ρ4) (Av (c.avoid λb=>c.av b\/b=A) σ4 ρ4) H6 (upd H6 A (.lst (ys++[v]))):=zj4 (λb o h tt=>by
       have hb:b≠A:=λz=>by
        subst z;rw[hA6] at h;cases h;rcases tt with⟨u,z⟩ | ⟨ob,u,z⟩<;>cases z
       rw[za9 hb];exact h) λb o a h=>⟨a,by rw[za9 (nA b a)];exact h⟩
      refine⟨R6.len,λb o h n=>?_,λj s hs=>?_,λb h=>?_,R6.uniq⟩
      ·have hb:b≠A:=λz=>by
        subst z;have:=(R6.avl b (.inr rfl)).2.1;rw[show (c.avoid λb'=>c.av b'\/b'=b).H0 b=c.H0 b from rfl] at this;rw[this] at h;cases h
       rw[za9 hb];exact R6.frame b o h n
      ·have qs:=R6.slot j s hs
       cases s with
       | no=>trivial
       | bor d=>obtain⟨v',e1,i1⟩:=qs;exact⟨v',e1,i1.mono k⟩
       | own d=>obtain⟨a,ea,_,_,_⟩:=qs;exact(no4 a ⟨j,d,hs,zg8 ea⟩).elim
       | hnd=>exact qs
      ·obtain⟨n,z,o,h',qq⟩:=R6.avl b h
       by_cases hb:b=A
       ·subst hb
        exact⟨n,z,_,zb3,(λu z=>by cases z),λob u z=>by cases z⟩
       ·exact⟨n,z,o,by rw[za9 hb];exact h',qq⟩
     ·exact W.stay st6 H6 _ ok6 λb o m h=>by
       have hb:b≠A:=λz=>hAm (z▸m)
       rw[za9 hb];exact h
     ·intro b o h n
      have hb:b≠A:=λz=>by subst z;rw[hA] at h;cases h
      rw[za9 hb];exact((x2.trans (ex.trans (x5.trans x6))) b o h n)
     ·exact ze9 im (by simp[D.immL,hy.1])
     ·have z6':Is c.K (λ_=>False) H6 y v:=Is.ofImm hy.1 z6
      have kk:wr9 (λ_=>False) (λ_=>False) H6 (upd H6 A (.lst (ys++[v]))):=zj4 (λb o h tt=>by
       have hb:b≠A:=λz=>by
        subst z;rw[hA6] at h;cases h;rcases tt with⟨u,z⟩ | ⟨ob,u,z⟩<;>cases z
       rw[za9 hb];exact h) λb o a h=>a.elim
      exact(il6.append (IsL.one z6')).mono kk
    ·rw[if_neg hy] at q6;exact q6.elim
 ·have e0:i=l.length:=by omega
  subst e0;rw[List.drop_length] at w2;refine .inl ⟨h2 (Ad0 _),w2 (.ref A) H2 (e1.trans x2) ok2 (New.val R ?_ g)⟩;exact Is.lst ⟨hAm,hA0⟩ hA2 (IsL.ofImm im il)
def zi4(fz:List Nat)(CS:zi7 X N' ixs scope)(hc:X.calm=true)(hi:DI X c tg iter f)(hin:∀av cl C s H fp,DG (zg5 X N' scope cl C s H fp) (c.avoid av) tg G/\DTs (zg5 X N' scope cl C s H fp) (c.avoid av) ifs t/\DE (zg5 X N' scope cl C s H fp) (c.avoid av) .R elt e)(hs:∀x,foldedSetIterable iter X.env x=pure x:=by intro _;rfl):DE X c g (.ListComp elt [⟨tg,iter,ifs,0⟩] scope pos) (vc6 S fz ixs f G t e):=
 (wd4 (g:=gEx c G) (tc:=tEx c t) (te:=eEx c e) CS hc hi (λcl C s H fp=>
  ⟨λA3 s' σ H' v u Q I r ⟨av,q⟩=>(hin av cl C s H fp).1 A3 s' σ H' v u Q I r q,λA3 s' σ H' Q I ⟨av,q⟩=>(hin av cl C s H fp).2.1 A3 s' σ H' Q I q,λA3 s' σ H' Q I ⟨av,q⟩=>(hin av cl C s H fp).2.2 A3 s' σ H' Q I q⟩) hs).imp λσ H Q q=>xe9 (g:=g) q
def xn4{i:Nat}{y:Str}{py spos:Pos}(fz:List Nat)(CS:zi7 X N' ixs scope)(hc:X.calm=true)(hN:X.N.Nodup)(hy0:X.N[i]?=some y)(hy:X.env.scope.names.lookup y=some .local)(hi:DI X c tg iter f)(hin:∀av cl C s H fp,DG (zg5 X N' scope cl C s H fp) (c.avoid av) tg G/\DTs (zg5 X N' scope cl C s H fp) (c.avoid av) ifs t/\DE (zg5 X N' scope cl C s H fp) (c.avoid av) .R elt e)(hsw:swapsWith (.ListComp elt [⟨tg,iter,ifs,0⟩] scope pos) (some (.Name y py)) spos.line X.env=pure true)(hs:∀x,foldedSetIterable iter X.env x=pure x:=by intro _;rfl):DS X c (.Assign [.Name y py] (.ListComp elt [⟨tg,iter,ifs,0⟩] scope pos) spos) (vj8 S i (vc6 S fz ixs f G t e)):=
 (wc9 (g:=gEx c G) (tc:=tEx c t) (te:=eEx c e) CS hc hN hy0 hy hi (λcl C s H fp=>
  ⟨λA3 s' σ H' v u Q I r ⟨av,q⟩=>(hin av cl C s H fp).1 A3 s' σ H' v u Q I r q,λA3 s' σ H' Q I ⟨av,q⟩=>(hin av cl C s H fp).2.1 A3 s' σ H' Q I q,λA3 s' σ H' Q I ⟨av,q⟩=>(hin av cl C s H fp).2.2 A3 s' σ H' Q I q⟩) hsw hs).imp λD σ H q=>xe9 (g:=.F) (xw6 q)
noncomputable def zi8(S:Type)(t:FnT S)(B:FnS S):Nat->FnS S
 | 0,_,_=>.bad
 | n+1,ρ,st=>(t ρ st).bind λb st1=>if b=true then (B ρ st1).bind λfl st2=>match fl with
    | .nx ρ2=>zi8 S t B n ρ2 st2
    | .ct ρ2=>zi8 S t B n ρ2 st2
    | .bk ρ2=>.ok (.nx ρ2) st2
    | .rt d=>.ok (.rt d) st2
   else .ok (.nx ρ) st1
open Classical in
noncomputable def yf9(S:Type)(t:FnT S)(B:FnS S):FnS S:=λρ st=>if h:∃n,zi8 S t B n ρ st≠.bad then zi8 S t B h.choose ρ st else .bad
theorem zn9:∀(n k:Nat) (ρ:Rho) (st:S),zi8 S t B n ρ st≠.bad->zi8 S t B (n+k) ρ st=zi8 S t B n ρ st
 | 0,_,_,_,h=>(h rfl).elim
 | n+1,k,ρ,st,h=>by
   rw[show n+1+k=(n+k)+1 by omega];unfold zi8 at h ⊢;cases q:t ρ st with
   | bad=>rfl
   | exc x s=>rfl
   | ok b st1=>
     rw[q] at h;simp only[Res.bind_ok] at h ⊢;cases b with
     | false=>rfl
     | true=>
       simp only[if_true] at h ⊢;cases q2:B ρ st1 with
       | bad=>rfl
       | exc x s=>rfl
       | ok fl st2=>
         rw[q2] at h;simp only[Res.bind_ok] at h ⊢;cases fl with
         | nx ρ2=>exact zn9 n k ρ2 st2 h
         | ct ρ2=>exact zn9 n k ρ2 st2 h
         | bk ρ2=>rfl
         | rt d=>rfl
def ym9{t:FnT S}{B:FnS S}{n:Nat}{ρ:Rho}{st:S}(h:zi8 S t B n ρ st≠.bad):yf9 S t B ρ st=zi8 S t B n ρ st:=by
 unfold yf9;have hx:∃n,zi8 S t B n ρ st≠.bad:=⟨n,h⟩;rw[dif_pos hx];have h1:=zn9 n hx.choose ρ st h;have h2:=zn9 hx.choose n ρ st hx.choose_spec;rw[Nat.add_comm] at h2;exact h2.symm.trans h1
def yy1{test:Expr}{body:List Stmt}{t:FnT S}{B:FnS S}(hp:PassesOwn (model X.prog X.w) X.A X.env X.xe)(ht:DT X c test t)(hb:DSs X c body B):DS X c (.While test body [] pos) (yf9 S t B):=
 (xs2 hp ht hb).imp λD σ H hI25=>by
  obtain⟨ρ,st,R,ok,w⟩:=hI25;have hx:∃n,zi8 S t B n ρ st≠.bad:=by
   apply Classical.byContradiction;intro h;unfold yf9 at w;rw[dif_neg h] at w;exact w
  obtain⟨n,hn⟩:=hx;rw[ym9 hn] at w;refine⟨λm σ2 H2=>∃ρ2 st2,Rep c H2 σ2 ρ2/\W.ok st2 H2/\wpR (zi8 S t B m ρ2 st2) (wu6 c D σ2 ρ2 H2) (vd1 c),⟨n,ρ,st,R,ok,w⟩,?_⟩;rintro m σ2 H2 ⟨ρ2,st2,R2,ok2,w2⟩;cases m with
  | zero=>exact w2.elim
  | succ m=>
    refine⟨ρ2,st2,R2,ok2,za6 (za5.mp w2) (λb st3 q3 H3 x3 ok3=>?_) λx st3 q H3 x3 ok3=>q H3 (x3.f0 R2) ok3⟩;have R3:=R2.ext ok2 x3;cases b with
    | false=>exact q3 σ2 H3 x3.frm ok3 R3
    | true=>
      refine vi4 ?_;refine⟨λσ4 H4=>∃ρ4 st4,Rep c H4 σ4 ρ4/\W.ok st4 H4/\wpR (zi8 S t B m ρ4 st4) (wu6 c D σ4 ρ4 H4) (vd1 c),λσ4 H4 q=>⟨m,Nat.lt_succ_self m,q⟩,ρ2,st3,R3,ok3,za6 (za5.mp q3) (λfl st4 q4=>?_) λx st4 q=>q⟩;have nxt:∀ρ5,wpR (zi8 S t B m ρ5 st4) (wu6 c D σ2 ρ2 H2) (vd1 c)->Nx c (λσ4 H4=>∃ρ4 st4,Rep c H4 σ4 ρ4/\W.ok st4 H4/\wpR (zi8 S t B m ρ4 st4) (wu6 c D σ4 ρ4 H4) (vd1 c)) σ2 ρ2 H3 ρ5 st4:=
       λρ5 q5 σ5 H5 F5 ok5 R5=>⟨ρ5,st4,R5,ok5,za6 q5 (λfl st6 q=>q.from (x3.frm.trans F5)) λx st6 q=>q⟩
      cases fl with
      | nx ρ5=>exact nxt ρ5 q4
      | ct ρ5=>exact nxt ρ5 q4
      | bk ρ5=>exact λσ5 H5 F5 ok5 R5=>q4 σ5 H5 (x3.frm.trans F5) ok5 R5
      | rt d=>exact q4
end
noncomputable def rho0(n:Nat)(l:List D):Rho:=l.map Sl.bor++List.replicate (n-l.length) .no
noncomputable def rhoS(n:Nat)(l:List D):Rho:=Sl.hnd::(l.map Sl.bor++List.replicate (n-1-l.length) .no)
noncomputable def vw1{S:Type}(r:Res S Fl):Res S D:=match r with
 | .ok (.rt d) st=>.ok d st
 | .ok (.nx _) st=>.ok .non st
 | .ok _ _=>.bad
 | .exc x st=>.exc x st
 | .bad=>.bad
noncomputable def dfn(n p:Nat)(B:FnS Unit):List D->Res Unit D:=λl=>if l.length=p/\p<=n then vw1 (B (rho0 n l) ()) else .bad
noncomputable def vb2{S:Type}(n p:Nat)(B:FnS S):List D->S->Res S D:=λl st=>if l.length+1=p/\p<=n then vw1 (B (rhoS n l) st) else .bad
noncomputable abbrev cx0(K:PySem.W.Frag)(H:Hp):Dx W0:=⟨K,H,λ_ _ _=>False,λ_=>False⟩
noncomputable abbrev cxS{S:Type}(W:Wd S)(K:PySem.W.Frag)(H:Hp):Dx W:=⟨K,H,λ_ _ _=>False,λ_=>False⟩
def zq1{n:Nat}{i:Nat}(h:(rho0 n l)[i]?=some s):(∃d,s=.bor d/\l[i]?=some d)\/s=.no:=by
 unfold rho0 at h;by_cases hi:i<l.length
 ·rw[Bc0 (by rw[Aa0];exact hi),An0] at h
  cases q:l[i]? with
  | none=>rw[q] at h;cases h
  | some d=>rw[q] at h;cases h;exact .inl ⟨d,rfl,rfl⟩
 ·rw[Cl0 (by rw[Aa0];omega),List.getElem?_replicate] at h
  split at h
  ·cases h;exact .inr rfl
  ·cases h
def yb5{i:Nat}(h:vs[i]?=some v):(ws4 N vs)[i]?=some (some v):=by
 unfold ws4;have hi:i<vs.length:=(Ae0.mp h).1;rw[Bc0 (by rw[Aa0];exact hi),An0,h];rfl
open H in
def xg3{K:PySem.W.Frag}{H:Hp}{N:List Str}{l:List D}{vs:List V}(hl:l.length<=N.length)(h:IsL K (λ_=>True) H l vs):Rep (cx0 K H) H (ws4 N vs) (rho0 N.length l):=by
 have no:∀b,¬Ow (ws4 N vs) (rho0 N.length l) b:=λb hI26=>by
  obtain⟨i,d,h1,_⟩:=hI26;rcases zq1 h1 with⟨_,z,_⟩ | z<;>cases z
 refine⟨?_,λb o e _=>e,λi s hs=>?_,λb z=>z.elim,λi j a d e h1 _ _ _=>?_⟩
 ·unfold ws4 rho0
  rw[Ai0,Ai0,Aa0,Aa0,List.length_replicate,List.length_replicate,h.length]
 ·rcases zq1 hs with⟨d,rfl,hd⟩ | rfl
  ·obtain⟨v,hv,iv⟩:=h.get hd
   exact⟨v,by rw[yb5 hv];rfl,iv.mono ⟨λ_ _ z _=>z,λb o _ z=>⟨⟨λm=>m,no b,λm=>m⟩,z⟩⟩⟩
  ·trivial
 ·rcases zq1 h1 with⟨_,z,_⟩ | z<;>cases z
section
variable{P:Program}{w:World}{K:PySem.W.Frag}{mg:Str->Option Value}{base:Heap}
open H in
def Fun.d0{x qual:Str}{st:Stmt}{f:Addr}{fd:FuncData}{N ps:List Str}{k:Nat}{B:FnS Unit}(F:Fun K x qual st f fd)(S:zc6 N ps (za4 st))(hb:∀(cdv:Value) (A:Around) (outer:List Env) (s:Shared) (H:Hp) (E:XK),ws5 k (A.deeper (envOfC qual (za4 st) s.heap.objs.size f cdv))->
  DSs (wt9 CX0 P w K mg base N qual (za4 st) f cdv A outer s H E).nox (cx0 K H) (zc3 st) B):wy0 P w K mg base CX0 (k+1) f fd ps (sp0 K (dfn N.length ps.length B)):=by
 refine F.ok S (λvs H Q E h=>?_) λcdv A outer s H vs Q E hr h=>?_
 ·obtain⟨l,i,w⟩:=h
  unfold dfn at w;split at w
  ·rename_i hl
   rw[<-i.length];exact hl.1
  ·exact w.elim
 ·obtain⟨l,i,w⟩:=h
  unfold dfn at w;split at w
  ·rename_i hl
   refine⟨_,hb cdv A outer s H E hr,rho0 N.length l,(),xg3 (by omega) i,trivial,?_⟩;cases q:B (rho0 N.length l) () with
   | bad=>rw[q] at w;exact w.elim
   | exc x u=>rw[q] at w;exact w.elim
   | ok fl u=>
     rw[q] at w;have fin:∀d v H',F0 (cx0 K H) H'->Is K (λb=>¬W0.mv b/\H b=none) H' d v->(∀v H',wx7 H H'->Is K (λb=>H b=none) H' d v->Q v H')->Q v H':=λd v H' f0 z q=>
      q v H' (λb o e=>f0 b o e λm=>m) (z.mono ⟨λ_ _ z _=>z,λb o a z=>⟨a.2,z⟩⟩)
     cases fl with
     | rt d=>exact λv H' f0 _ z=>fin d v H' f0 z w
     | nx ρ=>exact λσ' H' fr _ R'=>fin .non .non H' (λb o e n=>R'.frame b o e n) (Is.non_iff.mpr rfl) w
     | bk ρ=>exact w.elim
     | ct ρ=>exact w.elim
  ·exact w.elim
open H in
def Fun.dS{Sx:Type}{W:Wd Sx}{x qual:Str}{st:Stmt}{f:Addr}{fd:FuncData}{N ps:List Str}{k:Nat}{B:FnS Sx}(F:Fun K x qual st f fd)(S:zc6 N ps (za4 st))(hb:∀(cdv:Value) (A:Around) (outer:List Env) (s:Shared) (H:Hp) (E:XK),ws5 k (A.deeper (envOfC qual (za4 st) s.heap.objs.size f cdv))->
  DSs (wt9 CX0 P w K mg base N qual (za4 st) f cdv A outer s H E).nox (cxS W K H) (zc3 st) B):wy0 P w K mg base CX0 (k+1) f fd ps (spS W K (vb2 N.length ps.length B)):=by
 refine F.ok S (λvs H Q E h=>?_) λcdv A outer s H vs Q E hr h=>?_
 ·obtain⟨l,us,st0,rfl,i,ok,w⟩:=h
  unfold vb2 at w;split at w
  ·rename_i hl
   rw[Ar0,<-i.length];exact hl.1
  ·exact w.elim
 ·obtain⟨l,us,st0,rfl,i,ok,w⟩:=h
  unfold vb2 at w;split at w
  ·rename_i hl
   have no:∀b,¬Ow (ws4 N (W.h::us)) (rhoS N.length l) b:=λb hI27=>by
    obtain⟨j,d,h1,_⟩:=hI27;unfold rhoS at h1;cases j with
    | zero=>cases h1
    | succ j=>
      have h1:(l.map Sl.bor++List.replicate (N.length-1-l.length) .no)[j]?=some (.own d):=by simpa using h1
      rcases zq1 (n:=N.length-1) h1 with⟨_,z,_⟩ | z<;>cases z
   have R:Rep (cxS W K H) H (ws4 N (W.h::us)) (rhoS N.length l):=by
    refine⟨?_,λb o e _=>e,λj s hs=>?_,λb z=>z.elim,λj j' a d e h1 _ h3 _=>(no a ⟨j,d,h1,h3⟩).elim⟩
    ·unfold ws4 rhoS
     simp only[Ai0,Ar0,Aa0,List.length_replicate];have:=i.length;omega
    ·unfold rhoS at hs
     cases j with
     | zero=>cases hs;exact by rw[yb5 (v:=W.h) rfl];rfl
     | succ j=>
       have hs:(l.map Sl.bor++List.replicate (N.length-1-l.length) .no)[j]?=some s:=by simpa using hs
       rcases zq1 (n:=N.length-1) hs with⟨d,rfl,hd⟩ | rfl
       ·obtain⟨v,hv,iv⟩:=i.get hd
        exact⟨v,by rw[yb5 (v:=v) (by simpa using hv)];rfl,iv.mono ⟨λ_ _ z _=>z,λb o a z=>⟨⟨a,no b,λm=>m⟩,z⟩⟩⟩
       ·trivial
   refine⟨_,hb cdv A outer s H E hr,rhoS N.length l,st0,R,ok,?_⟩;cases q:B (rhoS N.length l) st0 with
   | bad=>rw[q] at w;exact w.elim
   | exc x u=>rw[q] at w;exact w.elim
   | ok fl u=>
     rw[q] at w;cases fl with
     | rt d=>exact λv H' f0 ok' z=>w v H' f0 ok' z
     | nx ρ=>exact λσ' H' fr ok' R'=>w .non H' (λb o e n=>R'.frame b o e n) ok' (Is.non_iff.mpr rfl)
     | bk ρ=>exact w.elim
     | ct ρ=>exact w.elim
  ·exact w.elim
end
structure zc2(P:Program)(w:World)(K:PySem.W.Frag)(mg:Str->Option Value)(base:Heap)(k:Nat)(x:Str)(ps:List Str)(sp:Sp):Prop where
 ex:∃f fd,mg x=some (.ref f)/\keepIn K (.ref f)=true/\vb0 K fd ps []/\wy0 P w K mg base CX0 k f fd ps sp
section
variable{X:Cx}{S:Type}{W:Wd S}{c:Dx W}{g:Gr}{k:Nat}{x:Str}{ps:List Str}{p pos:Pos}{e:Expr}{es:List Expr}
def zd1{G:List D->Res Unit D}{f:FnA S}(C:zc2 X.prog X.w X.K X.mg X.base k x ps (sp0 c.K G))(hr:ws5 k X.A)(hg:Gl X x)(ha:DA X c (e::es) f)(hdb:(x == ("__debug__" : Str))=false:=by decide)(he:starEach (e::es) X.env=(false,eval e X.env)::starEach es X.env:=by rfl)(hpl:(backTo pos (starEach es X.env)).any (·.1)=false:=by rfl):DE X c g (.Call (.Name x p) (e::es) [] pos) (vc7 S G f):=by
 obtain⟨fa,fd,hm,hk,hb,F⟩:=C.ex;exact(ys5 (E:=E0) F hr hg hm hk hb .nil vg5 ha hdb he hpl).imp λσ H Q q=>xr4 q
def zb6{G:List D->S->Res S D}{f:FnA S}{i:Nat}{y:Str}{py:Pos}(C:zc2 X.prog X.w X.K X.mg X.base k x ps (spS W c.K G))(hr:ws5 k X.A)(hg:Gl X x)(hy:PE X (.Name y py) (wy6 i))(ha:DA X c es f)(hdb:(x == ("__debug__" : Str))=false:=by decide)(he:starEach (.Name y py::es) X.env=(false,eval (.Name y py) X.env)::starEach es X.env:=by rfl)(hpl:(backTo pos (starEach es X.env)).any (·.1)=false:=by rfl):DE X c g (.Call (.Name x p) (.Name y py::es) [] pos) (yp1 S G i f):=by
 obtain⟨fa,fd,hm,hk,hb,F⟩:=C.ex;exact(ys5 (E:=E0) F hr hg hm hk hb .nil vg5 (zi2 hy ha he) hdb he hpl).imp λσ H Q q=>xr3 q
def zq8{i:Int}:New c H H' (.int i) (.int i):=Is.int_iff.mpr rfl
def zn5{i:Bool}:New c H H' (.bl i) (.bl i):=Is.bl_iff.mpr rfl
noncomputable def iOp(C:Int->Int->Prop)[∀i j,Decidable (C i j)](g:Int->Int->D):D->D->Option D
 | .int i,.int j=>if C i j then some (g i j) else none
 | _,_=>none
noncomputable def ws9(g:Int->Int->D):D->D->Option D
 | .int i,.int j=>some (g i j)
 | _,_=>none
open H in
def vk9{C:Int->Int->Prop}[∀i j,Decidable (C i j)]{g:Int->Int->Int}:OpD c (rI C λi j=>.int (g i j)) (iOp C λi j=>.int (g i j)):=by
 intro d1 d2 v1 v2 H st d Q ok z1 z2 e q;unfold iOp at e;split at e
 ·rename_i i j
  split at e
  ·rename_i h
   cases e;exact⟨i,j,Is.int_iff.mp z1,Is.int_iff.mp z2,h,q _ H Ext.refl ok zq8⟩
  ·cases e
 ·cases e
open H in
def wv9{g:Int->Int->Int}:OpD c (rI0 λi j=>.int (g i j)) (ws9 λi j=>.int (g i j)):=by
 intro d1 d2 v1 v2 H st d Q ok z1 z2 e q;unfold ws9 at e;split at e
 ·rename_i i j
  cases e;exact⟨i,j,Is.int_iff.mp z1,Is.int_iff.mp z2,q _ H Ext.refl ok zq8⟩
 ·cases e
open H in
def wu2{g:Int->Int->Bool}:OpD c (rI0 λi j=>.bl (g i j)) (ws9 λi j=>.bl (g i j)):=by
 intro d1 d2 v1 v2 H st d Q ok z1 z2 e q;unfold ws9 at e;split at e
 ·rename_i i j
  cases e;exact⟨i,j,Is.int_iff.mp z1,Is.int_iff.mp z2,q _ H Ext.refl ok zn5⟩
 ·cases e
theorem OpD.or(h:OpD c r o)(h':OpD c r' o'):OpD c (λx y H Q=>r x y H Q\/r' x y H Q) (λa b=>(o a b).or (o' a b)):=by
 intro d1 d2 v1 v2 H st d Q ok z1 z2 e q;cases e1:o d1 d2 with
 | some d'=>
   have e:some d'=some d:=by simpa [e1] using e
   cases e;exact .inl (h d1 d2 v1 v2 H st d Q ok z1 z2 e1 q)
 | none=>
   have e:o' d1 d2=some d:=by simpa [e1] using e
   exact .inr (h' d1 d2 v1 v2 H st d Q ok z1 z2 e q)
instance (i j:Int):Decidable (vn6 i j):=by unfold vn6;infer_instance
instance (i j:Int):Decidable (va9 i j):=by unfold va9;infer_instance
instance (i j:Int):Decidable (vn5 i j):=by unfold vn5;infer_instance
instance (i j:Int):Decidable (vm1 i j):=by unfold vm1;infer_instance
noncomputable def oIx:D->D->Option D
 | .tup l,.int i=>im (atI l i)
 | .lst l,.int i=>im (atI l i)
 | _,_=>none
theorem xz9{K:PySem.W.Frag}{A:Addr->Prop}{H:Hp}{l:List D}{vs:List V}{i:Int}{d:D}(z:IsL K A H l vs)(h:atI l i=some d):∃v,atI vs i=some v/\Is K A H d v:=by
 unfold atI at h ⊢;rw[<-z.length];cases q:ixN l.length i with
 | none=>rw[q] at h;cases h
 | some j=>
   rw[q] at h;exact z.get (i:=j) h
theorem yt6(h:im o=some d):o=some d/\d.imm=true:=by
 cases o with
 | none=>cases h
 | some x=>
   have h:(if x.imm=true then some x else none)=some d:=h;split at h
   ·cases h;exact⟨rfl,by assumption⟩
   ·cases h
open H in
def vk8{K:PySem.W.Frag}(hK:c.K=K):OpD c (rIx K) oIx:=by
 intro d1 d2 v1 v2 H st d Q ok z1 z2 e q;unfold oIx at e;split at e
 ·rename_i l i
  obtain⟨a,vs,ea,s,z⟩:=Is.tup_sq z1;obtain⟨e,m⟩:=yt6 e;obtain⟨v,hv,iv⟩:=xz9 z e;exact .inr (.inl ⟨a,vs,i,v,ea,Is.int_iff.mp z2,hK▸s,hv,q v H Ext.refl ok (New.imm m iv)⟩)
 ·rename_i l i
  obtain⟨a,vs,ea,n,s,z⟩:=Is.lst_iff.mp z1;obtain⟨e,m⟩:=yt6 e;obtain⟨v,hv,iv⟩:=xz9 z e;exact .inl ⟨a,vs,i,v,ea,Is.int_iff.mp z2,.of s,hv,q v H Ext.refl ok (New.imm m iv)⟩
 ·cases e
end
section
variable{X:Cx}{S:Type}{W:Wd S}{c:Dx W}{H H':Hp}{σ:St}{ρ:Rho}{st:S}{i:Nat}{d d':D}{a:Addr}{o:HO}
open H in
def xi9(hi:ρ[i]?=some (.own d))(b:Addr):Ow σ (ρ.set i (.own d')) b↔Ow σ ρ b:=by
 have hlt:i<ρ.length:=(Ae0.mp hi).1;constructor
 ·rintro ⟨j,e,h1,h2⟩
  rcases zb4 h1 with⟨m,_⟩ | ⟨_,z⟩
  ·subst m;exact⟨j,d,hi,h2⟩
  ·exact⟨j,e,z,h2⟩
 ·rintro ⟨j,e,h1,h2⟩
  by_cases m:j=i
  ·subst m;exact⟨j,d',Cs0 hlt,h2⟩
  ·exact⟨j,e,by rw[Bh0 (Ne.symm m)];exact h1,h2⟩
open H in
def Rep.wr(R:Rep c H σ ρ)(hi:ρ[i]?=some (.own d))(ha:σ[i]?=some (some (.ref a)))(ht:(∀u,o≠.tup u)/\∀ob u,o≠.frz ob u)(h:wr9 (Av c σ ρ) (Av c σ ρ) H (upd H a o)->Top c.K (Av c σ ρ) (upd H a o) d' a):Rep c (upd H a o) σ (ρ.set i (.own d'))/\Frm c H σ ρ (upd H a o) σ (ρ.set i (.own d')):=by
 have hlt:i<ρ.length:=(Ae0.mp hi).1;have wa:Ow σ ρ a:=⟨i,d,hi,ha⟩;obtain⟨nm,h0,o1,ho,n1,n2⟩:=R.owOk wa;have k:wr9 (Av c σ ρ) (Av c σ ρ) H (upd H a o):=zj4 (λb u e t=>by
  have hb:b≠a:=λz=>by
   subst z;rw[ho] at e;cases e;rcases t with⟨w,z⟩ | ⟨ob,w,z⟩
   ·exact n1 w z
   ·exact n2 ob w z
  rw[za9 hb];exact e) λb u av e=>⟨av,by rw[za9 (λ(z:b=a)=>av.2.1 (z▸wa))];exact e⟩
 have avEq:Av c σ (ρ.set i (.own d'))=Av c σ ρ:=by
  funext b;unfold Av;rw[xi9 (σ:=σ) (d':=d') hi b]
 have T:=h k;refine⟨⟨by rw[Cc0];exact R.len,λb u e n=>?_,λj s hs=>?_,λb hb=>?_,λj j' b e e' h1 h2 h3 h4=>?_⟩,⟨λb u e n w=>?_,λb u e n w=>(xi9 hi b).mp w⟩⟩
 ·have hb:b≠a:=λz=>by subst z;rw[show c.H0 b=none from h0] at e;cases e
  rw[za9 hb];exact R.frame b u e n
 ·rw[avEq]
  rcases zb4 hs with⟨m,z⟩ | ⟨nj,z⟩
  ·subst z m
   obtain⟨b,e1,n,f,t⟩:=R.slot j _ hi;rw[ha] at e1;have e1:some (V.ref a)=some (V.ref b):=e1;cases e1;exact⟨a,by rw[ha];rfl,n,f,T⟩
  ·have q:=R.slot j s z
   cases s with
   | no=>trivial
   | bor e=>obtain⟨v',e1,i1⟩:=q;exact⟨v',e1,i1.mono k⟩
   | own e=>
     obtain⟨b,e1,n,f,t⟩:=q;have hb:b≠a:=λz'=>by
      subst z';exact nj (R.uniq j i b e d z hi (zg8 e1) ha)
     exact⟨b,e1,n,f,t.mono k λu z=>by rw[za9 hb];exact z⟩
   | hnd=>exact q
 ·obtain⟨n,z,u,h',q⟩:=R.avl b hb
  have hba:b≠a:=λz'=>by
   subst z';obtain⟨b',e1,n',_⟩:=R.slot i _ hi;rw[ha] at e1;have e1:some (V.ref b)=some (V.ref b'):=e1;cases e1;exact n'.2 hb
  exact⟨n,z,u,by rw[za9 hba];exact h',q⟩
 ·have fix:∀(j:Nat) (e:D),(ρ.set i (.own d'))[j]?=some (.own e)->∃e',ρ[j]?=some (.own e'):=λj e h1=>by
   rcases zb4 h1 with⟨m,_⟩ | ⟨_,z⟩
   ·subst m;exact⟨d,hi⟩
   ·exact⟨e,z⟩
  obtain⟨x1,y1⟩:=fix j e h1;obtain⟨x2,y2⟩:=fix j' e' h2;exact R.uniq j j' b x1 x2 y1 y2 h3 h4
 ·have hb:b≠a:=λz=>w (z▸wa)
  rw[za9 hb];exact e
noncomputable def wr8(ρ:Rho)(i:Nat):Option (List D):=match ρ[i]? with
 | some (.own (.lst l))=>if D.immL l=true then some l else none
 | _=>none
def zr1(h:wr8 ρ i=some l):ρ[i]?=some (.own (.lst l))/\D.immL l=true:=by
 unfold wr8 at h;split at h
 ·split at h
  ·cases h;exact⟨by assumption,by assumption⟩
  ·cases h
 ·cases h
def zs5(h:wr8 ρ i=some l):ρ[i]?=some (.own (.lst l)):=(zr1 h).1
def Rep.lstAt(R:Rep c H σ ρ)(h:wr8 ρ i=some l):∃a vs,σ[i]?=some (some (.ref a))/\H a=some (.lst vs)/\IsL c.K (Av c σ ρ) H l vs/\¬W.mv a:=by
 obtain⟨a,e1,n,f,vs,e2,z⟩:=R.slot i _ (zs5 h);exact⟨a,vs,zg8 e1,e2,z,n.1⟩
def yc7(ok:W.ok st H)(n:¬W.mv a):W.ok st (upd H a o):=W.stay st H _ ok λb u m e=>by rw[za9 (λ(z:b=a)=>n (z▸m))];exact e
noncomputable def sMt(S:Type)(i:Nat)(o:List D->D->Option (List D))(f:Fn S):FnS S:=λρ st=>match wr8 ρ i with
 | some l=>(f ρ st).bind λd st1=>(ws3 (o l d) st1).bind λl' st2=>.ok (.nx (ρ.set i (.own (.lst l')))) st2
 | none=>.bad
noncomputable def MtD{S:Type}{W:Wd S}(c:Dx W)(r:V->List V->Hp->VK->Prop)(o:List D->D->Option (List D)):Prop:=∀l d l' a vs v H (Q:VK),o l d=some l'->H a=some (.lst vs)->IsL c.K (λb=>¬W.mv b) H l vs->Is c.K (λb=>¬W.mv b) H d v->
 (∀us,(D.immL l=true->D.immL l'=true/\IsL c.K (λb=>¬W.mv b) H l' us)->Q .non (upd H a (.lst us)))->r (.ref a) [v] H Q
def ww1{x m:Str}{id:String}{e:Expr}{f:Fn S}{p1 p2 p3 p4:Pos}{r:V->List V->Hp->VK->Prop}{o:List D->D->Option (List D)}(hm:MtR X id r)(ho:MtD c r o)(slot:Slot "list" m id)(hty:typeOf (.builtin id)=pure (.type "method_descriptor"))(hx:PE X (.Name x p1) (wy6 i))(he:DE X c .R e f)(hK:c.K=X.K)(hbase:attributeBase (.Name x p1) m X.env (eval (.Name x p1) X.env)=eval (.Name x p1) X.env:=by rfl)(hfew:((backTo p3 (starEach [e] X.env)).all (λx=>!x.1)&&(backToKw p3 (keywordEach [] X.env)).all (λx=>x.1.isSome)
  && decide (([e]:List Expr).length+([]:List Keyword).length+(if ([]:List Keyword).isEmpty then 0 else 1)<30))=true:=by rfl)(hline:(p2.endLine == p3.line)=true:=by rfl)(hs:starEach [e] X.env=(false,eval e X.env)::starEach [] X.env:=by rfl)(hplain:(backTo p3 (starEach [] X.env)).any (·.1)=false:=by rfl)(hsw:swapsWith (.Call (.Attribute (.Name x p1) m p2) [e] [] p3) none p4.line X.env=pure false:=by rfl) :
 DS X c (.Expr (.Call (.Attribute (.Name x p1) m p2) [e] [] p3) p4) (sMt S i o f):=
 (ys2 (vk6 PySem.F.plainAttrs_list slot hty hm hx (zi2 he zp2 hs) hbase hfew hline hs hplain) hsw).imp λD σ H hI28=>by
  obtain⟨ρ,st,R,ok,w⟩:=hI28;unfold sMt at w;cases q:wr8 ρ i with
  | none=>rw[q] at w;exact w.elim
  | some l=>
    rw[q] at w;obtain⟨a,vs,ea,eH,z,nm⟩:=R.lstAt q;refine⟨.ref a,ea,.inl ⟨rfl,vs,.of eH⟩,ρ,st,R,ok,za6 (za5.mp w) (λd st1 q v H1 e ok1 zv=>?_) λx st1 q H1 e ok1=>q H1 (e.f0 R) ok1⟩;obtain⟨l',e',q'⟩:=zb2.mp (za5.mp q);have R1:=R.ext ok e;have eH1:=e a _ eH nm;have kA:wr9 (Av c σ ρ) (λb=>¬W.mv b) H1 H1:=⟨λ_ _ z _=>z,λb o a z=>⟨a.1,z⟩⟩;refine ho l d l' a vs v H1 _ e' eH1 (IsL.mono kA (z.mono (e.keepT ok λb a=>⟨a.1,a⟩))) zv λus hus=>?_
    obtain⟨m',z'⟩:=hus (zr1 (by assumption)).2;obtain⟨R2,F2⟩:=R1.wr (d':=.lst l') (o:=.lst us) (zs5 (by assumption)) ea ⟨(λu z=>by cases z),(λob u z=>by cases z)⟩ λk=>⟨us,zb3,IsL.mono k (IsL.ofImm m' z')⟩
    exact q' σ _ (e.frm.trans F2) (yc7 ok1 nm) R2
noncomputable def vq8(l:List D)(d:D):Option (List D):=if d.imm=true/\l.length<sizeLine then some (l++[d]) else none
noncomputable def vq7(l:List D)(d:D):Option (List D):=match d with
 | .lst m=>if D.immL m=true/\l.length+m.length<=sizeLine then some (l++m) else none
 | _=>none
open H in
def zl5:MtD c xg7 vq8:=by
 intro l d l' a vs v H Q e eH z zv q;unfold vq8 at e;split at e
 ·rename_i h
  cases e;refine⟨a,vs,v,rfl,rfl,eH,by rw[<-z.length];exact h.2,q _ λm=>⟨ze9 m (by simp[D.immL,h.1]),z.append (IsL.one zv)⟩⟩
 ·cases e
open H in
def zr0:MtD c xg6 vq7:=by
 intro l d l' a vs v H Q e eH z zv q;unfold vq7 at e;split at e
 ·rename_i n
  split at e
  ·rename_i h
   cases e;obtain⟨b,us,eb,nb,hb,zb⟩:=Is.lst_iff.mp zv;subst eb;refine⟨a,b,vs,us,rfl,rfl,eH,hb,by rw[<-z.length,<-zb.length];exact h.2,q _ λm=>⟨ze9 m h.1,z.append zb⟩⟩
  ·cases e
 ·cases e
end
noncomputable def zi6(N:List Str)(osc:Scope)(N':List Str)(ixs:List (Option Nat))(scope:Scope):Bool:=
 decide (scope.kind=.function)&&scope.names.all (λy=>decide (y.2≠.cell))&&scope.names.all (λy=>decide (y.2=.local->scope.names.lookup y.1=some .local))&&decide (ixs.length=N'.length) &&
 scope.names.all (λy=>decide (y.2=.free->osc.names.lookup y.1=some .cell\/osc.names.lookup y.1=some .free)) &&
 (List.range N'.length).all (λj=>match N'[j]?,ixs[j]? with
  | some y,some (some i)=>decide (N[i]?=some y)&&decide (scope.names.lookup y=some .free)
  | _,_=>true)
def zi6.scope{X:Cx}{N:List Str}{osc:Scope}{N':List Str}{ixs:List (Option Nat)}{scope:Scope}(h:zi6 N osc N' ixs scope=true)(hN:X.N=N:=by rfl)(hS:X.env.scope=osc:=by rfl):zi7 X N' ixs scope:=by
 unfold zi6 at h;simp only[Bool.and_eq_true,decide_eq_true_eq,Co0] at h;obtain⟨⟨⟨⟨⟨h1,h2⟩,h3⟩,h4⟩,h5⟩,h6⟩:=h;refine⟨h1,h2,h3,h4,λy hy hf=>by rw[hS];exact h5 y hy hf,λj i y e1 e2=>?_⟩;have hj:j<N'.length:=(Ae0.mp e1).1;have q:=h6 j (Bv0.mpr hj);rw[e1,e2] at q;simp only[Bool.and_eq_true,decide_eq_true_eq] at q;exact⟨by rw[hN];exact q.1,q.2⟩
end L2
namespace PySem
open H in
def yf3(l:Addr)(items:Array Value)(n:Nat)(dct:Option Addr)(sl:Array (Option Value)) :
 Meets (Builtin.«enumerate.__new__» ⟨[.type "enumerate",.ref l],[]⟩) (λ_ R s=>s.heap.get? l=some { cls:=.type "tuple",dict:=dct,data:=.seq items n,slots:=sl }/\
  R (.ok (.ret (.ref (s.heap.push { cls:=.type "tuple_iterator",data:=.fields #[.ref l,.int 0 0] }).objs.size)))
    { s with heap:=(s.heap.push { cls:=.type "tuple_iterator",data:=.fields #[.ref l,.int 0 0] }).push { cls:=.type "enumerate",data:=.fields #[.none,.bool false,.ref s.heap.objs.size,rawInt 0,.none,.none] } }):=
 .of_wp λprog w A R s h=>by
  obtain⟨hp,g,d,tk,os⟩:=s;obtain⟨hl,h⟩:=h;have hsub:=sub_enumerate;have hT:Heap.IsTuple (Shared.heap ⟨hp,g,d,tk,os⟩) l items:=⟨_,hl,rfl,n,rfl⟩
  wp_walk using wpAny_loadPart' hl
  refine wpAny_stack_any λst=>Ac1 ?_
  split
  ·rename_i c _ _ _ _ _
   cases (c == Value.type "enumerate")<;>(wp_walk using wpAny_loadPart' hl,wpAny_pyIter_tuple hT;exact⟨_,rfl,h⟩)
  ·(wp_walk using wpAny_loadPart' hl,wpAny_pyIter_tuple hT;exact⟨_,rfl,h⟩)
section
variable{prog:Program}{w:World}{A:Around}{E:Value->Shared->Prop}{s:Shared}
def yl2(hL:s.heap.IsTuple l items)(h:∀h',IsEnum h' (s.heap.objs.size+1) s.heap.objs.size 0 .none->h'.IsTupleIter s.heap.objs.size l 0->(∀b o,s.heap.get? b=some o->h'.get? b=some o)->Q (.ref (s.heap.objs.size+1)) { s with heap:=h' }) :
 wpAny (model prog w) A (call (.type "enumerate") [.ref l]) Q E s:=by
 obtain⟨⟨c,dct,dt,sl⟩,hl,hc,n,hd⟩:=hL;have hc:c=.type "tuple":=hc;have hd:dt=.seq items n:=hd;subst hc hd;refine callType_new F.called_enumerate (by decide) (F.typeCall_enumerate_1 _) (F.newCall_enumerate_1 _) (λobj=>F.args_object_init_2 obj _) F.entry_enumerate_new (yf3 l items n dct sl) ⟨hl,?_⟩;generalize hg:s.heap.push { cls:=.type "tuple_iterator",data:=.fields #[.ref l,.int 0 0] }=g;have hz:g.objs.size=s.heap.objs.size+1:=by rw[<-hg];exact Bs0 ..
 have he:IsEnum (g.push { cls:=.type "enumerate",data:=.fields #[.none,.bool false,.ref s.heap.objs.size,rawInt 0,.none,.none] }) (s.heap.objs.size+1) s.heap.objs.size 0 .none:=by
  have:=Af0 g (o:={ cls:=.type "enumerate",data:=.fields #[.none,.bool false,.ref s.heap.objs.size,rawInt 0,.none,.none] }) rfl;rw[hz] at this;exact this
 have hi:g.get? s.heap.objs.size=some { cls:=.type "tuple_iterator",data:=.fields #[.ref l,.int 0 0] }:=by rw[<-hg];exact Af0 _ rfl
 show _/\_;rw[hz];exact⟨⟨_,he,rfl⟩,h _ he ⟨_,Ab0 _ hi,rfl,rfl⟩ λb o x=>Ab0 _ (by rw[<-hg];exact Ab0 _ x)⟩
open H in
def zn4{i:Nat}(hit:s.heap.IsTupleIter it l i)(hl:s.heap.IsTuple l items)(hx:items[i]?=some x)(hQ:∀h',h'.IsTupleIter it l (i+1)->Heap.SameBut it s.heap h'->Q x { s with heap:=h' }):wpAny (model prog w) A (Builtin.SmallTypes.nextOf (.ref it)) Q E s:=by
 obtain⟨o,ho,hc,hd⟩:=id hit;obtain⟨ol,hol,_,nl,hdl⟩:=hl;unfold Builtin.SmallTypes.nextOf;refine Aa1 (wpAny_callSpecial?_slot (name:=Str.ofString "__next__") hit.typeIs F.slot_tuple_iterator_next (Ak1 F.slot_tuple_iterator_next hit.typeIs F.entry_tuple_iterator_next ?_ (F.args_tuple_iterator_next_1 _)));show wpAny _ _ (field (.ref it) 0 >>= λ_=>_) _ _ s;refine Aa1 (Ae1 ho hd (x:=.ref l) rfl ?_);show wpAny _ _ (if (Value.ref l == Value.none)=true then _ else _) _ _ s;have nn:¬(Value.ref l == Value.none)=true:=At0;rw[if_neg nn];refine Aa1 (m:=field (.ref it) 1) (Ae1 ho hd (x:=.int i 0) rfl ?_);refine Aa1 (m:=seqItems? (.ref l)) (An1 hol hdl ?_);simp only[Bu0,hx];refine Aa1 (wpAny_setField ho hd (by simp) (Ac1 ⟨x,rfl,Ac1 (hQ _ ?_ (Heap.SameBut.update ..))⟩));refine⟨_,Ci0 _ ho (Obj.isFreed_of_fields (Obj.data_mapFields hd _)),(Obj.cls_mapFields ..).trans hc,?_⟩;rw[Obj.data_mapFields hd];simp[rawInt]
open H in
def zp3{i:Nat}(hh:A.handled=none)(hit:s.heap.IsTupleIter it l i)(hl:s.heap.IsTuple l items)(hx:items[i]?=none)(hE:∀h' e,Heap.ExtBut it s.heap h'->(∃o,h'.get? e=some o/\o.cls=.type "StopIteration")->E (.ref e) { s with heap:=h' }):wpAny (model prog w) A (Builtin.SmallTypes.nextOf (.ref it)) Q E s:=by
 obtain⟨o,ho,hc,hd⟩:=id hit;obtain⟨ol,hol,_,nl,hdl⟩:=hl;unfold Builtin.SmallTypes.nextOf;refine Aa1 (wpAny_callSpecial?_slot (name:=Str.ofString "__next__") hit.typeIs F.slot_tuple_iterator_next (Ak1 F.slot_tuple_iterator_next hit.typeIs F.entry_tuple_iterator_next ?_ (F.args_tuple_iterator_next_1 _)));show wpAny _ _ (field (.ref it) 0 >>= λ_=>_) _ _ s;refine Aa1 (Ae1 ho hd (x:=.ref l) rfl ?_);show wpAny _ _ (if (Value.ref l == Value.none)=true then _ else _) _ _ s;have nn:¬(Value.ref l == Value.none)=true:=At0;rw[if_neg nn];refine Aa1 (m:=field (.ref it) 1) (Ae1 ho hd (x:=.int i 0) rfl ?_);refine Aa1 (m:=seqItems? (.ref l)) (An1 hol hdl ?_);simp only[Bu0,hx];refine Aa1 (Aj1 (Aa1 (wpAny_setField ho hd (by simp) ?_)));refine Aa1 (m:=newExc (.type "StopIteration") []) ?_;simp only[newExc,newTuple];refine Aa1 (wpAny_newObj_type ?_ (by size_fits));refine Aa1 (m:=firstArgMember _ _) (wpAny_of_eq (a:=Value.none) (by first | rfl | (simp only[firstArgMember];rfl)) ?_);refine wpAny_newObj_type ?_ (by size_fits);simp only[raiseNew];refine Aa1 (wpAny_handled ?_);first | rw[show A.in1.handled=none from hh] | rw[hh]
 exact Aa1 (Ac1 (wpAny_throw (hE _ _ (((Heap.SameBut.update ..).extBut.push _).push _) ⟨_,Af0 _ rfl,rfl⟩)))
def xn1{e it:Addr}{i:Nat}{x old:Value}{T:Heap->Prop}{Q:Value->Shared->Prop}(he:IsEnum s.heap e it i old)(hne:e≠it)(hT:∀h h',T h->(∀o,h.get? it=some o->h'.get? it=some o)->T h')(hnx:∀Q':Value->Shared->Prop,(∀h',T h'->Heap.SameBut it s.heap h'->Q' x { s with heap:=h' })->wpAny (model prog w) A (Builtin.SmallTypes.nextOf (.ref it)) Q' E s)(hQ:∀h',IsEnumOut h' e it ((i:Int)+1) x s.heap.objs.size->T h'->h'.get? s.heap.objs.size=some { cls:=.type "tuple",data:=.seq #[.int i s.toks,x] }->h'.objs.size=s.heap.objs.size+1->
  (∀b o,b≠e->b≠it->s.heap.get? b=some o->h'.get? b=some o)->Q (.ref s.heap.objs.size) { s with heap:=h',toks:=s.toks+1 }) :
 wpAny (model prog w) A (Builtin.«enumerate.__next__» ⟨[.ref e],[]⟩) (λfin s'=>∃v,fin=.done (.ret v)/\Q v s') E s:=by
 obtain⟨hp,g,d,tk,os⟩:=s;refine Aa1 (m:=field (.ref e) 2) (Ae1 he rfl (x:=.ref it) rfl ?_);refine Aa1 (hnx _ λh₁ t₁ hs₁=>?_);have hs₁:Heap.SameBut it hp h₁:=hs₁;have he₁:IsEnum h₁ e it i old:=(hs₁.2 e hne).trans he;show wpAny _ _ (field (.ref e) 3 >>= λ_=>_) _ _ ⟨h₁,g,d,tk,os⟩;refine Aa1 (Ae1 he₁ rfl (x:=rawInt i) rfl ?_);refine Aa1 (m:=field (.ref e) 4) (Ae1 he₁ rfl (x:=.none) rfl ?_);refine Aa1 (m:=mkInt i) (wpAny_mkInt ?_);refine Aa1 (m:=setField (.ref e) 3 (rawInt ((i:Int)+1))) (Ag1 he₁ (by simp) λh₂ he₂ hs₂=>?_);have hs₂:Heap.SameBut e h₁ h₂:=hs₂;have he₂:IsEnum h₂ e it ((i:Int)+1) old:=he₂;refine Aa1 (m:=setField (.ref e) 4 .none) (Ag1 he₂ (by simp) λh₃ he₃ hs₃=>?_);have hs₃:Heap.SameBut e h₂ h₃:=hs₃;have he₃:IsEnum h₃ e it ((i:Int)+1) old:=he₃;refine Aa1 (m:=newTuple [.int i tk,x]) (wpAny_newTuple ?_);have he₄:IsEnum (h₃.push { cls:=.type "tuple",data:=.seq #[.int i tk,x] }) e it ((i:Int)+1) old:=Ab0 _ he₃;generalize hh₄:h₃.push { cls:=.type "tuple",data:=.seq #[.int i tk,x] }=h₄ at he₄;have hsz:h₃.objs.size=hp.objs.size:=by rw[hs₃.1,hs₂.1,hs₁.1]
 have hel:hp.objs.size≠e:=Nat.ne_of_gt (Heap.lt_size he);have ht₄:h₄.get? hp.objs.size=some { cls:=.type "tuple",data:=.seq #[.int i tk,x] }:=by rw[<-hh₄,<-hsz];exact Af0 _ rfl
 have hz₄:h₄.objs.size=hp.objs.size+1:=by rw[<-hh₄,Bs0,hsz]
 have up₄:∀b o,b≠e->h₁.get? b=some o->h₄.get? b=some o:=λb o hb q=>by
  rw[<-hh₄];exact Ab0 _ (hs₃.extBut b o hb (hs₂.extBut b o hb q))
 show wpAny _ _ (Builtin.SmallTypes.ownedTupleIsFree (.ref e) >>= λ_=>_) _ _ ⟨h₄,g,d,tk+1,os⟩;rw[hsz];refine Aa1 ?_;unfold Builtin.SmallTypes.ownedTupleIsFree;refine Aa1 (Ae1 he₄ rfl (x:=.none) rfl (Ac1 ?_));simp only[if_true];refine Aa1 (Aj1 (Aa1 (Ae1 he₄ rfl (x:=old) rfl ?_)));refine Aa1 (Ag1 he₄ (by simp) λh₅ he₅ hs₅=>?_);have hs₅:Heap.SameBut e h₄ h₅:=hs₅;have he₅:IsEnum h₅ e it ((i:Int)+1) x:=he₅;show wpAny _ _ (Builtin.SmallTypes.ownedTupleHandOut (.ref e) (.ref hp.objs.size) >>= λ_=>_) _ _ ⟨h₅,g,d,tk+1,os⟩;refine Aa1 ?_;unfold Builtin.SmallTypes.ownedTupleHandOut;refine Aa1 (Ag1 he₅ (by simp) λh₆ he₆ hs₆=>?_);have hs₆:Heap.SameBut e h₅ h₆:=hs₆;have he₆:IsEnumOut h₆ e it ((i:Int)+1) x hp.objs.size:=he₆;refine Ag1 he₆ (by simp) λh₇ he₇ hs₇=>?_
 have hs₇:Heap.SameBut e h₆ h₇:=hs₇;have he₇:IsEnumOut h₇ e it ((i:Int)+1) x hp.objs.size:=he₇;have up₇:∀b o,b≠e->h₄.get? b=some o->h₇.get? b=some o:=λb o hb q=>hs₇.extBut b o hb (hs₆.extBut b o hb (hs₅.extBut b o hb q))
 refine Aa1 (wpAny_letGo (Ac1 ⟨_,rfl,hQ h₇ he₇ (hT h₁ h₇ t₁ λo q=>up₇ _ o (Ne.symm hne) (up₄ _ o (Ne.symm hne) q)) (up₇ _ _ hel ht₄) (by rw[hs₇.1,hs₆.1,hs₅.1,hz₄]) λb o hb hi q=>up₇ b o hb (up₄ b o hb (hs₁.extBut b o hi q))⟩))
end
end PySem
namespace L2
section
variable{X:Cx}{A3:List (Addr×Obj)}{σ:St}{H:Hp}{s:Shared}{h':Heap}
def Inv.turnedT{fp:List Addr}{p:Addr}{vs:List V}{its:List Value}{t':Nat}(I:Inv X A3 σ H s)(hf:∀b∈fp,wz6 X A3 H b)(k:∀b o,b∉fp->s.heap.get? b=some o->h'.get? b=some o)(hp:s.heap.objs.size<=p)(hv:wr4 vs its)(hz:vs.length<=sizeLine)(ht:IsTup h' p its.toArray)(hd:NoD h' p):Inv X A3 σ (upd H p (.tup vs)) { s with heap:=h',toks:=t' }:=by
 have hn:H p=none:=I.hok.fresh hp;have nfp:∀b u,H b=some u->b∉fp:=λb u e z=>by rw[(hf b z).1] at e;cases e
 have old:∀b u,H b=some u->upd H p (.tup vs) b=some u:=λb u e=>by rw[za9 (zb7 e hn)];exact e
 refine I.step (g':=s.gens) (d':=s.drawn) (t':=t') (ch:=fp) (λb hb=>⟨(hf b hb).2.2.2.1,(hf b hb).2.1,(hf b hb).2.2.2.2.1,(hf b hb).2.2.2.2.2⟩) (λb o _ _ hc e _=>k b o hc e) (λb o _ _ hc e _=>⟨o.slots,k b o hc e⟩)
  (λb o _ e n=>by rw[za9 (As0 (Az0 (Heap.lt_size e) hp))];exact n) (λb o hc e=>⟨o,k b o hc e⟩) (λb xs e=>old b _ e) (λb o u e=>old b _ e) (λb ps e=>⟨#[],by rw[old b _ e];simp⟩) (λm hm=>?_) (λb u e=>?_) I.bare
 ·obtain⟨o,es,ep,ho,r⟩:=hm
  exact⟨o,es,ep,k _ o (λz=>(hf _ z).2.1 rfl) ho,r⟩
 ·by_cases hb:b=p
  ·subst hb
   rw[zb3] at e;cases e;exact⟨hz,its,hv,ht,hd⟩
  ·rw[za9 hb] at e
   refine(I.hok b u e).stay (λd v hd q=>k d v ?_ q) (λd q=>old d _ q) λd xs q=>old d _ q
   rcases hd with z | z
   ·rw[z];exact nfp b u e
   ·exact nfp d _ z
def Inv.turnedF{fp:List Addr}{t':Nat}(I:Inv X A3 σ H s)(hf:∀b∈fp,wz6 X A3 H b)(k:∀b o,b∉fp->s.heap.get? b=some o->h'.get? b=some o):Inv X A3 σ H { s with heap:=h',toks:=t' }:=by
 have nfp:∀b u,H b=some u->b∉fp:=λb u e z=>by rw[(hf b z).1] at e;cases e
 refine I.step (g':=s.gens) (d':=s.drawn) (t':=t') (ch:=fp) (λb hb=>⟨(hf b hb).2.2.2.1,(hf b hb).2.1,(hf b hb).2.2.2.2.1,(hf b hb).2.2.2.2.2⟩) (λb o _ _ hc e _=>k b o hc e) (λb o _ _ hc e _=>⟨o.slots,k b o hc e⟩)
  (λb o _ e n=>n) (λb o hc e=>⟨o,k b o hc e⟩) (λb xs e=>e) (λb o u e=>e) (λb ps e=>⟨#[],by rw[e];simp⟩) (λm hm=>?_) (λb u e=>?_) I.bare
 ·obtain⟨o,es,ep,ho,r⟩:=hm
  exact⟨o,es,ep,k _ o (λz=>(hf _ z).2.1 rfl) ho,r⟩
 ·refine(I.hok b u e).stay (λd v hd q=>k d v ?_ q) (λd q=>q) λd xs q=>q
  rcases hd with z | z
  ·rw[z];exact nfp b u e
  ·exact nfp d _ z
end
noncomputable def Ien(Sq:Hp->List V->Prop):It:=
 ⟨λi H=>∃xs x,Sq H xs/\xs[i]?=some x,λi H v H'=>∃p x,H p=none/\v=.ref p/\H'=upd H p (.tup [.int i,x])/\∀xs,Sq H xs->xs[i]?=some x,λi H=>∃xs,Sq H xs/\xs.length<=i⟩
open H in
def xa9{P:Program}{w:World}{K:PySem.W.Frag}{elts:List Expr}{x1}{pos:Pos}(a e it:Addr):vi0 P w K (.Tuple elts x1 pos) (Ien λH xs=>SqT K H a xs) [e,it] e (λi h=>e≠it/\(∃old,IsEnum h e it i old)/\h.IsTupleIter it a i) where
 mem:=by simp
 obj:=λi h st b hb=>by
  obtain⟨hne,⟨old,he⟩,o,ho,c,d⟩:=st;rcases Aj0.mp hb with z | hb
  ·subst z
   exact⟨_,he,λv z=>by
    have z':Data.fields _=Data.cell v:=z;cases z'⟩
  ·have z:b=it:=by simpa using hb
   subst z;exact⟨o,ho,λv z=>by rw[d] at z;cases z⟩
 keep:=λi h h' st k=>by
  obtain⟨hne,⟨old,he⟩,hi⟩:=st;exact⟨hne,⟨old,k e (by simp) _ he⟩,hi.at λo q=>k it (by simp) o q⟩
 item:=by
  intro X hP hw hK hc i A3 s σ H E I hf st hg;subst hP hw hK;obtain⟨xs,x,hq,hx⟩:=hg;obtain⟨hne,⟨old,he⟩,hi⟩:=st;obtain⟨its,rv,p,hz⟩:=I.tuple hq;obtain⟨u,hu,ru⟩:=rv.get hx;have pT:s.heap.IsTuple a its.toArray:=p;have hT:s.TypeIs (.ref e) "enumerate":=⟨_,he,rfl⟩;unfold pyNext;refine Aa1 (wpAny_attempt (wpAny_callSpecial?_slot (name:=Str.ofString "__next__") hT F.slot_enumerate_next (Ak1 F.slot_enumerate_next hT F.entry_enumerate_next (xn1 (T:=λh=>h.IsTupleIter it a (i+1)) he hne (λh h' t q=>t.at q) (λQ' hQ'=>zn4 hi pT (x:=u) (by simpa using hu) hQ') λh' ho hi' ht hs kk=>Ac1 ?_) (F.args_enumerate_next_1 _))));refine⟨_,rfl,wpAny_letOwnedTupleGo_enum (s:={ s with heap:=h',toks:=s.toks+1 }) ho λh2 he2 sb2=>?_⟩;have sb2:Heap.SameBut e h' h2:=sb2;have pe:s.heap.objs.size≠e:=Nat.ne_of_gt (Heap.lt_size he);have k2:∀b o,b∉[e,it]->s.heap.get? b=some o->h2.get? b=some o:=λb o hb q=>by
   have h1:b≠e:=λz=>hb (by simp[z])
   have h3:b≠it:=λz=>hb (by simp[z])
   exact sb2.extBut b o h1 (kk b o h1 h3 q)
  have tt:IsTup h2 s.heap.objs.size [Value.int i s.toks,u].toArray/\NoD h2 s.heap.objs.size:=⟨⟨_,sb2.extBut _ _ pe ht,rfl,_,rfl⟩,⟨_,sb2.extBut _ _ pe ht,rfl⟩⟩;have nn:∀b∈[e,it],b≠s.heap.objs.size:=λb hb z=>by
   obtain⟨o1,ho1,_⟩:=id hi;rcases Aj0.mp hb with y | y
   ·exact pe (by rw[<-z,y])
   ·have y:b=it:=by simpa using y
    rw[z] at y;rw[<-y] at ho1;exact absurd (Heap.lt_size ho1) (Bt0 _)
  refine⟨.ref s.heap.objs.size,_,I.turnedT (p:=s.heap.objs.size) (vs:=[.int i,x]) hf k2 (Ad0 _) (.cons ⟨_,rfl⟩ (.cons ru .nil)) (by show 2<=sizeLine;decide) tt.1 tt.2,rfl,⟨_,x,I.hok.fresh (Ad0 _),rfl,rfl,λys hy=>by rw[I.tuple_inj hy hq];exact hx⟩,⟨hne,⟨u,?_⟩,?_⟩,λb hb=>?_⟩
  ·have:((i+1:Nat):Int)=(i:Int)+1:=by omega
   rw[this];exact he2
  ·exact hi'.extBut sb2.extBut (Ne.symm hne)
  ·rw[za9 (nn b hb)];exact(hf b hb).1
 done:=by
  intro X hP hw hK hc i A3 s σ H E I hf st hg;subst hP hw hK;obtain⟨xs,hq,hx⟩:=hg;obtain⟨hne,⟨old,he⟩,hi⟩:=st;obtain⟨its,rv,p,hz⟩:=I.tuple hq;have pT:s.heap.IsTuple a its.toArray:=p;have hl:=rv.length;have hT:s.TypeIs (.ref e) "enumerate":=⟨_,he,rfl⟩;unfold pyNext;refine Aa1 (wpAny_attempt (wpAny_callSpecial?_slot (name:=Str.ofString "__next__") hT F.slot_enumerate_next (Ak1 F.slot_enumerate_next hT F.entry_enumerate_next ?_ (F.args_enumerate_next_1 _))));refine Aa1 (m:=field (.ref e) 2) (Ae1 he rfl (x:=.ref it) rfl ?_);refine Aa1 (zp3 (I.ok.hd hc) hi pT (by simp;omega) λh' x he' hx'=>?_);obtain⟨o,ho,hcls⟩:=hx';refine Aa1 (wpAny_isInstance (T:="StopIteration") (b:=true) ⟨o,ho,hcls⟩ isSubtype_stop (Ac1 ⟨rfl,I.turnedF hf λb o hb q=>he' b o (λz=>hb (by simp[z])) q⟩))
 self:=λ_ _ _ _ _ st h=>let ⟨_,⟨_,he⟩,_⟩:=st;wpAny_pyIter_enum he h
section
variable{X:Cx}{elts:List Expr}{x1:Nat}{tpos:Pos}
noncomputable def vy9(K:PySem.W.Frag)(ta:TA):TI:=λσ H R=>ta σ H λvs H1=>∃a xs,vs=[.ref a]/\SqT K H1 a xs/\R (Ien λH xs=>SqT K H a xs) H1
theorem xs3(hg:Gl X "enumerate")(hm:X.mg "enumerate" = none)(ha:PA X [a] ta)(hs:starEach [a] X.env=[(false,eval a X.env)]:=by rfl):PI X (.Tuple elts x1 tpos) (.Call (.Name "enumerate" p) [a] [] pos) (vy9 X.K ta):=by
 intro A3 s σ H R I h;refine Call_ (zy8 I hg hm boot_enumerate (PyProof.Rows.callWith_type1 (thn (ha pos A3 s σ H _ I h) λus s1 hI99=>?_) hs rfl));obtain⟨vs,H1,I1,r1,q1⟩:=hI99;obtain⟨l,xs,rfl,hq,q⟩:=q1;cases r1 with
 | cons r rr=>
   cases rr;cases r;obtain⟨its,rv,pt,hz⟩:=I1.tuple hq;refine yl2 (show s1.heap.IsTuple l its.toArray from pt) λh' he hi kk=>?_
   refine wpAny_pyIter_enum (s:={ s1 with heap:=h' }) he ?_;refine⟨s1.heap.objs.size+1,[s1.heap.objs.size+1,s1.heap.objs.size],_,_,H1,rfl,I1.kept (t':=s1.toks) kk,xa9 l _ _,⟨Nat.succ_ne_self _,⟨_,he⟩,hi⟩,λb hb=>?_,q⟩;have hb:s1.heap.objs.size<=b:=by
    rcases Aj0.mp hb with z | z
    ·rw[z];exact Nat.le_succ _
    ·have z:b=s1.heap.objs.size:=by simpa using z
     exact Nat.le_of_eq z.symm
   exact I1.fpOk hb (I1.hok.fresh hb)
variable{S:Type}{W:Wd S}{c:Dx W}
noncomputable def zs2(l:List D):List D:=(l.zipIdx).map λp=>.tup [.int p.2,p.1]
noncomputable def vg8:List D->Option (List D)
 | [.tup l]=>if D.immL l=true then some (zs2 l) else none
 | _=>none
theorem zy3{i:Nat}(h:(zs2 l)[i]?=some d):∃x,l[i]?=some x/\d=.tup [.int i,x]:=by
 unfold zs2 at h;rw[An0,List.getElem?_zipIdx] at h;cases q:l[i]? with
 | none=>rw[q] at h;cases h
 | some x=>rw[q] at h;cases h;exact⟨x,rfl,by simp⟩
def zq6(l:List D):(zs2 l).length=l.length:=by unfold zs2;rw[Aa0,List.length_zipIdx]
theorem yx3:∀{l:List D} {i:Nat} {d:D},D.immL l=true->l[i]?=some d->d.imm=true
 | [],_,_,_,h=>by simp at h
 | x::l,0,d,m,h=>by
   have m':x.imm=true/\D.immL l=true:=by simpa [D.immL] using m
   simp at h;subst h;exact m'.1
 | x::l,i+1,d,m,h=>by
   have m':x.imm=true/\D.immL l=true:=by simpa [D.immL] using m
   exact yx3 (i:=i) m'.2 (by simpa using h)
open H in
def wh1(hK:c.K=X.K)(hg:Gl X "enumerate")(hm:X.mg "enumerate" = none)(ha:DA X c [a] f)(hs:starEach [a] X.env=[(false,eval a X.env)]:=by rfl):DI X c (.Tuple elts x1 tpos) (.Call (.Name "enumerate" p) [a] [] pos) (vc3 S vg8 f):=
 (xs3 hg hm ha hs).imp λσ H R hI29=>by
  obtain⟨ρ,st,R0,ok,w⟩:=hI29;refine⟨ρ,st,R0,ok,za6 (za5.mp w) (λl st1 q vs H1 e ok1 z=>?_) λx st1 q=>q⟩;obtain⟨m,e1,q⟩:=zb2.mp q;unfold vg8 at e1;split at e1
  ·rename_i l
   split at e1
   ·rename_i im
    cases e1;obtain⟨v,r,e2,i2,i3⟩:=IsL.cons.mp z;obtain⟨a,xs,ea,s0,i⟩:=Is.tup_iff.mp i2;have s:SqT c.K H1 a xs:=.of s0;rw[IsL.nil.mp i3,ea] at e2;refine⟨a,xs,e2,hK▸s,q _ H1 e ok1 ?_⟩;intro c' hK' σ2 ρ2 H2 st2 k R2 ok2 j;have s2:SqT X.K H2 a xs:=by rw[<-hK];exact .of (k.tup a xs s0)
    have i1:IsL c.K (Av c σ ρ) H1 l xs:=IsL.ofImm im i;have i2:IsL c.K (Av c' σ2 ρ2) H2 l xs:=i1.mono k;refine⟨λd hd=>?_,λhl=>⟨xs,s2,by rw[zq6] at hl;rw[<-i2.length];exact hl⟩⟩;obtain⟨y,hy,rfl⟩:=zy3 hd;obtain⟨v1,hv,iv⟩:=i2.get hy;refine⟨⟨xs,v1,s2,hv⟩,?_⟩;rintro x H3 ⟨pp,x',hpn,rfl,rfl,hx⟩;have:=hx xs s2;rw[hv] at this;cases this;have sm:wx7 H2 (upd H2 pp (.tup [.int j,v1])):=λb o hb=>by rw[za9 (zb7 hb hpn)];exact hb
    refine⟨sm,Is.tup zb3 (IsL.cons.mpr ⟨_,_,rfl,Is.int_iff.mpr rfl,IsL.one ?_⟩)⟩;exact Is.ofImm (yx3 im hy) (iv.mono (A':=Av c' σ2 ρ2) (zj4 (λb o hb _=>sm b o hb) λb o a hb=>⟨a,sm b o hb⟩))
   ·cases e1
  ·cases e1
end
section
variable{X:Cx}
def zq2{bs:List Bool}:(List.range bs.length).all (λi=>bs.getD i false)=bs.all id:=by
 apply Bool.eq_iff_iff.mpr;simp only[Co0,Bv0,id];constructor
 ·intro h b hb
  obtain⟨i,hi,e⟩:=List.mem_iff_getElem.mp hb;have:=h i hi;rw[Ca0,Ac0 hi] at this;rw[<-e];exact this
 ·intro h i hi
  rw[Ca0,Ac0 hi];exact h _ (List.getElem_mem hi)
def xg5{bs:List Bool}:(List.range bs.length).any (λi=>bs.getD i false)=bs.any id:=by
 apply Bool.eq_iff_iff.mpr;simp only[List.any_eq_true,Bv0,id];constructor
 ·rintro ⟨i,hi,h⟩
  rw[Ca0,Ac0 hi] at h;exact⟨_,List.getElem_mem hi,h⟩
 ·rintro ⟨b,hb,h⟩
  obtain⟨i,hi,e⟩:=List.mem_iff_getElem.mp hb;refine⟨i,hi,?_⟩;rw[Ca0,Ac0 hi,e];exact h
def yz6{bs:List Bool}{its:List Value}(r:wr4 (bs.map V.bl) its){i:Nat}{v:Value}(h:its.toArray[i]?=some v):v=.bool (bs.getD i false):=by
 have hi:i<its.length:=by
  have:=(Array.getElem?_eq_some_iff.mp h).1;simpa using this
 have hl:=r.length;rw[Aa0] at hl;have hb:i<bs.length:=by omega
 obtain⟨u,hu,ru⟩:=r.get (i:=i) (x:=.bl bs[i]) (by rw[An0,Ac0 hb];rfl);have:its[i]?=some v:=by simpa using h
 rw[hu] at this;cases this;rw[Ca0,Ac0 hb];exact ru
def ya9(hc:X.calm=true):wu0 X (.builtin "all") (λxs H Q=>∃(a:Addr) (bs:List Bool),xs=[.ref a]/\SqL X.K H a (bs.map V.bl)/\Q (.bl (bs.all id)) H):=by
 intro A3 s σ H xs us Q I r h;obtain⟨a,bs,rfl,hq,q⟩:=h;obtain⟨u,rfl,r1⟩:=wv6 r;cases r1;obtain⟨its,rv,p,hz⟩:=I.list hq;have hh:X.A.in1.handled=none:=I.ok.hd hc;have lt:a<s.heap.objs.size:=by obtain⟨o,e,_⟩:=p.isList;exact Heap.lt_size e
 refine call_all_walk (wpAny_pyIter_list p.isList ⟨_,_,_,_,_,_,λi=>bs.getD i false,rfl,Walks.list hh s.heap.objs.size a (As0 lt) its.toArray,⟨⟨_,Af0 _ rfl,rfl,rfl⟩,p.isList.push _⟩,?_,?_⟩)
 ·intro i v Q' E' s' hP hQ
  rw[yz6 rv hP];exact Ai1 hQ
 ·intro h' tk hk
  have e:(List.range its.toArray.size).all (λi=>bs.getD i false)=bs.all id:=by
   have hl:=rv.length;rw[Aa0] at hl;rw[Ag0,<-hl,zq2]
  rw[e];refine⟨.bl _,H,?_,rfl,q⟩;refine I.kept (t':=tk) λb o e=>hk b o (λz=>?_) (Ab0 _ e)
  have z:b=s.heap.objs.size:=by simpa using z
  have lt:=Heap.lt_size e;rw[z] at lt;exact Bt0 _ lt
def yz5(hc:X.calm=true):wu0 X (.builtin "any") (λxs H Q=>∃(a:Addr) (bs:List Bool),xs=[.ref a]/\SqL X.K H a (bs.map V.bl)/\Q (.bl (bs.any id)) H):=by
 intro A3 s σ H xs us Q I r h;obtain⟨a,bs,rfl,hq,q⟩:=h;obtain⟨u,rfl,r1⟩:=wv6 r;cases r1;obtain⟨its,rv,p,hz⟩:=I.list hq;have hh:X.A.in1.handled=none:=I.ok.hd hc;have lt:a<s.heap.objs.size:=by obtain⟨o,e,_⟩:=p.isList;exact Heap.lt_size e
 refine call_any_walk (wpAny_pyIter_list p.isList ⟨_,_,_,_,_,_,λi=>bs.getD i false,rfl,Walks.list hh s.heap.objs.size a (As0 lt) its.toArray,⟨⟨_,Af0 _ rfl,rfl,rfl⟩,p.isList.push _⟩,?_,?_⟩)
 ·intro i v Q' E' s' hP hQ
  rw[yz6 rv hP];exact Ai1 hQ
 ·intro h' tk hk
  have e:(List.range its.toArray.size).any (λi=>bs.getD i false)=bs.any id:=by
   have hl:=rv.length;rw[Aa0] at hl;rw[Ag0,<-hl,xg5]
  rw[e];refine⟨.bl _,H,?_,rfl,q⟩;refine I.kept (t':=tk) λb o e=>hk b o (λz=>?_) (Ab0 _ e)
  have z:b=s.heap.objs.size:=by simpa using z
  have lt:=Heap.lt_size e;rw[z] at lt;exact Bt0 _ lt
end
open PySem.SeqAt
mutual
noncomputable def D.eqq:D->D->Option Bool
 | .int i,.int j=>some (i == j)
 | .str i,.str j=>some (i == j)
 | .bl i,.bl j=>some (i == j)
 | .non,.non=>some true
 | .tup l,.tup m=>D.eqL l m
 | .lst l,.lst m=>if l.length=m.length then D.eqL l m else some false
 | _,_=>none
noncomputable def D.eqL:List D->List D->Option Bool
 | [],[]=>some true
 | [],_::_=>some false
 | _::_,[]=>some false
 | a::l,b::m=>(D.eqq a b).bind λx=>(D.eqL l m).map λy=>x&&y
end
mutual
noncomputable def D.dep:D->Nat
 | .tup l=>D.depL l+1
 | .lst l=>D.depL l+1
 | _=>0
noncomputable def D.depL:List D->Nat
 | []=>0
 | d::l=>max (D.dep d) (D.depL l)
end
section
variable{X:Cx}{A3:List (Addr×Obj)}{σ:St}{H:Hp}{s:Shared}{A1 A2:Addr->Prop}
mutual
theorem yk2(I:Inv X A3 σ H s):∀{d1 d2:D} {v:V} {b:Bool},Is X.K A1 H d1 v->Is X.K A2 H d2 v->D.eqq d1 d2=some b->b=true
 | .int i,d2,v,b,h1,h2,e=>by
   rw[Is.int_iff.mp h1] at h2;cases d2 with
   | int j=>have:=Is.int_iff.mp h2;cases this;unfold D.eqq at e;simpa using e.symm
   | _=>unfold D.eqq at e;cases e
 | .str i,d2,v,b,h1,h2,e=>by
   rw[Is.str_iff.mp h1] at h2;cases d2 with
   | str j=>have:=Is.str_iff.mp h2;cases this;unfold D.eqq at e;simpa using e.symm
   | _=>unfold D.eqq at e;cases e
 | .bl i,d2,v,b,h1,h2,e=>by
   rw[Is.bl_iff.mp h1] at h2;cases d2 with
   | bl j=>have:=Is.bl_iff.mp h2;cases this;unfold D.eqq at e;simpa using e.symm
   | _=>unfold D.eqq at e;cases e
 | .non,d2,v,b,h1,h2,e=>by
   cases d2 with
   | non=>unfold D.eqq at e;simpa using e.symm
   | _=>unfold D.eqq at e;cases e
 | .tup l,d2,v,b,h1,h2,e=>by
   cases d2 with
   | tup m=>
     obtain⟨a,vs,ea,s1,i1⟩:=Is.tup_sq h1;obtain⟨a',us,ea',s2,i2⟩:=Is.tup_sq h2;rw[ea] at ea';cases ea';have:=I.tuple_inj s1 s2;subst this;unfold D.eqq at e;exact yk3 I i1 i2 e
   | _=>unfold D.eqq at e;cases e
 | .lst l,d2,v,b,h1,h2,e=>by
   cases d2 with
   | lst m=>
     obtain⟨a,vs,ea,_,s1,i1⟩:=Is.lst_iff.mp h1;obtain⟨a',us,ea',_,s2,i2⟩:=Is.lst_iff.mp h2;rw[ea] at ea';cases ea';have:vs=us:=by rw[s1] at s2;cases s2;rfl
     subst this;unfold D.eqq at e;have hl:l.length=m.length:=by rw[i1.length,i2.length]
     rw[if_pos hl] at e;exact yk3 I i1 i2 e
   | _=>unfold D.eqq at e;cases e
 | .dct _ _,d2,v,b,h1,h2,e=>by cases d2<;>(unfold D.eqq at e;cases e)
 | .fl _,d2,v,b,h1,h2,e=>by cases d2<;>(unfold D.eqq at e;cases e)
 | .fd _ _,d2,v,b,h1,h2,e=>by cases d2<;>(unfold D.eqq at e;cases e)
theorem yk3(I:Inv X A3 σ H s):∀{l m:List D} {vs:List V} {b:Bool},IsL X.K A1 H l vs->IsL X.K A2 H m vs->D.eqL l m=some b->b=true
 | [],m,vs,b,h1,h2,e=>by
   rw[IsL.nil.mp h1] at h2;cases m with
   | nil=>unfold D.eqL at e;simpa using e.symm
   | cons x r=>obtain⟨_,_,z,_⟩:=IsL.cons.mp h2;cases z
 | d::l,m,vs,b,h1,h2,e=>by
   obtain⟨v,r,ev,i1,j1⟩:=IsL.cons.mp h1;subst ev;cases m with
   | nil=>have:=IsL.nil.mp h2;cases this
   | cons x m=>
     obtain⟨v',r',ev',i2,j2⟩:=IsL.cons.mp h2;cases ev';unfold D.eqL at e;cases q1:D.eqq d x with
     | none=>rw[q1] at e;cases e
     | some b1=>
       cases q2:D.eqL l m with
       | none=>rw[q1,q2] at e;cases e
       | some b2=>
         rw[q1,q2] at e;have e:some (b1&&b2)=some b:=e;cases e;rw[yk2 I i1 i2 q1,yk3 I j1 j2 q2];rfl
end
noncomputable def ww3:List D->List D->List Bool
 | a::l,b::m=>((D.eqq a b).getD false)::ww3 l m
 | _,_=>[]
theorem zl9:∀(l m:List D),(ww3 l m).length=min l.length m.length
 | [],m=>by cases m<;>simp[ww3]
 | a::l,[]=>by simp[ww3]
 | a::l,b::m=>by simp[ww3,zl9 l m]
theorem ye2:∀{l m:List D} {b:Bool},D.eqL l m=some b->b=((ww3 l m).all id&&l.length == m.length)
 | [],[],b,e=>by unfold D.eqL at e;simpa [ww3] using e.symm
 | [],_::_,b,e=>by unfold D.eqL at e;simpa [ww3] using e.symm
 | _::_,[],b,e=>by unfold D.eqL at e;simpa [ww3] using e.symm
 | a::l,x::m,b,e=>by
   unfold D.eqL at e;cases q1:D.eqq a x with
   | none=>rw[q1] at e;cases e
   | some b1=>
     cases q2:D.eqL l m with
     | none=>rw[q1,q2] at e;cases e
     | some b2=>
       rw[q1,q2] at e;have e:some (b1&&b2)=some b:=e;cases e;rw[ye2 q2];simp[ww3,q1,Bool.and_assoc]
theorem yx9:∀{l m:List D} {b:Bool} {j:Nat} {x y:D},D.eqL l m=some b->l[j]?=some x->m[j]?=some y->D.eqq x y=some ((ww3 l m).getD j false)
 | [],_,_,_,_,_,_,h,_=>by simp at h
 | _::_,[],_,_,_,_,_,_,h=>by simp at h
 | a::l,c::m,b,j,x,y,e,h1,h2=>by
   unfold D.eqL at e;cases q1:D.eqq a c with
   | none=>rw[q1] at e;cases e
   | some b1=>
     cases q2:D.eqL l m with
     | none=>rw[q1,q2] at e;cases e
     | some b2=>
       cases j with
       | zero=>simp at h1 h2;subst h1 h2;simp[ww3,q1]
       | succ j=>
         have:=yx9 (j:=j) q2 (by simpa using h1) (by simpa using h2);simpa [ww3] using this
theorem yk8:∀{l:List D} {j:Nat} {x:D},l[j]?=some x->x.dep<=D.depL l
 | [],_,_,h=>by simp at h
 | a::l,0,x,h=>by simp at h;subst h;unfold D.depL;omega
 | a::l,j+1,x,h=>by
   have:=yk8 (j:=j) (l:=l) (x:=x) (by simpa using h);unfold D.depL;omega
noncomputable def D.plain:D->Bool
 | .tup _=>false
 | .lst _=>false
 | .dct _ _=>false
 | .fl _=>false
 | .fd _ _=>false
 | _=>true
theorem yh1{b:Bool}(hp:d1.plain=true)(e:D.eqq d1 d2=some b)(h1:Is X.K A1 H d1 v1)(h2:Is X.K A2 H d2 v2)(r1:wr3 v1 u1)(r2:wr3 v2 u2):EqAt A s u1 u2 b:=by
 cases d1 with
 | int i=>
   cases d2 with
   | int j=>
     have z1:=Is.int_iff.mp h1;have z2:=Is.int_iff.mp h2;subst z1 z2;obtain⟨t,rfl⟩:=r1;obtain⟨t',rfl⟩:=r2;unfold D.eqq at e;cases e;exact EqAt.int_int i t j t'
   | _=>unfold D.eqq at e;cases e
 | str i=>
   cases d2 with
   | str j=>
     have z1:=Is.str_iff.mp h1;have z2:=Is.str_iff.mp h2;subst z1 z2;obtain⟨t,rfl⟩:=r1;obtain⟨t',rfl⟩:=r2;unfold D.eqq at e;cases e;exact EqAt.str_str i t j t'
   | _=>unfold D.eqq at e;cases e
 | bl i=>
   cases d2 with
   | bl j=>
     have z1:=Is.bl_iff.mp h1;have z2:=Is.bl_iff.mp h2;subst z1 z2;cases r1;cases r2;unfold D.eqq at e;cases e;exact EqAt.bool_bool i j
   | _=>unfold D.eqq at e;cases e
 | non=>
   cases d2 with
   | non=>
     have z1:=Is.non_iff.mp h1;have z2:=Is.non_iff.mp h2;subst z1 z2;cases r1;cases r2;unfold D.eqq at e;cases e;exact EqAt.same _
   | _=>unfold D.eqq at e;cases e
 | tup l=>simp[D.plain] at hp
 | lst l=>simp[D.plain] at hp
 | dct _ _=>simp[D.plain] at hp
 | fl _=>simp[D.plain] at hp
 | fd _ _=>simp[D.plain] at hp
def zl0{n:Nat}{b:Bool}(e:D.eqL l m=some b)(i1:IsL X.K A1 H l vs)(i2:IsL X.K A2 H m us)(rv:wr4 vs its)(rv2:wr4 us its2)(ih:∀{d1 d2:D} {b:Bool} {v1 v2:V} {u1 u2:Value},d1.dep<=n->D.eqq d1 d2=some b->Is X.K A1 H d1 v1->Is X.K A2 H d2 v2->wr3 v1 u1->wr3 v2 u2->EqAt A s u1 u2 b)(hd:D.depL l<=n)(j:Nat)(h1:j<its.toArray.size)(h2:j<its2.toArray.size):EqAt A s its.toArray[j] its2.toArray[j] ((ww3 l m).getD j false):=by
 have h1':j<its.length:=by simpa using h1
 have h2':j<its2.length:=by simpa using h2
 have g1:j<l.length:=by rw[i1.length,rv.length];exact h1'
 have g2:j<m.length:=by rw[i2.length,rv2.length];exact h2'
 have x1:l[j]?=some l[j]:=Ac0 g1;have x2:m[j]?=some m[j]:=Ac0 g2;obtain⟨v1,hv1,z1⟩:=i1.get x1;obtain⟨v2,hv2,z2⟩:=i2.get x2;obtain⟨w1,hw1,r1⟩:=rv.get hv1;obtain⟨w2,hw2,r2⟩:=rv2.get hv2;have e1:its.toArray[j]=w1:=by
  rw[Ac0 h1'] at hw1;have:=Option.some.inj hw1;simpa using this
 have e2:its2.toArray[j]=w2:=by
  rw[Ac0 h2'] at hw2;have:=Option.some.inj hw2;simpa using this
 rw[e1,e2];exact ih (Ba0 (yk8 x1) hd) (yx9 e x1 x2) z1 z2 r1 r2
theorem xn0(I:Inv X A3 σ H s):∀(n:Nat) {A:Around} {d1 d2:D} {b:Bool} {v1 v2:V} {u1 u2:Value},d1.dep<=n->A.units+n<cLine->D.eqq d1 d2=some b->Is X.K A1 H d1 v1->Is X.K A2 H d2 v2->wr3 v1 u1->wr3 v2 u2->EqAt A s u1 u2 b:=by
 intro n;induction n with
 | zero=>
   intro A d1 d2 b v1 v2 u1 u2 hd hu e h1 h2 r1 r2;refine yh1 ?_ e h1 h2 r1 r2;cases d1 with
   | tup l=>unfold D.dep at hd;omega
   | lst l=>unfold D.dep at hd;omega
   | dct _ _=>cases d2<;>(unfold D.eqq at e;cases e)
   | fl _=>cases d2<;>(unfold D.eqq at e;cases e)
   | fd _ _=>cases d2<;>(unfold D.eqq at e;cases e)
   | _=>rfl
 | succ n ih=>
   intro A d1 d2 b v1 v2 u1 u2 hd hu e h1 h2 r1 r2;by_cases hp:d1.plain=true
   ·exact yh1 hp e h1 h2 r1 r2
   have hu0:A.units<cLine:=by omega
   have ih':∀{d1 d2:D} {b:Bool} {v1 v2:V} {u1 u2:Value},d1.dep<=n->D.eqq d1 d2=some b->Is X.K A1 H d1 v1->Is X.K A2 H d2 v2->wr3 v1 u1->wr3 v2 u2->EqAt A.in1 s u1 u2 b:=
    λhd e h1 h2 r1 r2=>ih (A:=A.in1) hd (by rw[Around.in1_units];omega) e h1 h2 r1 r2
   cases d1 with
   | tup l=>
     cases d2 with
     | tup m=>
       obtain⟨a,vs,ea,s1,i1⟩:=Is.tup_sq h1;obtain⟨a',us,ea',s2,i2⟩:=Is.tup_sq h2;have hb:a=a'->b=true:=λz=>by
        subst z;rw[ea'] at h2;rw[ea] at h1;exact yk2 I h1 h2 e
       subst ea ea';cases r1;cases r2;by_cases z:a=a'
       ·rw[hb z,z];exact EqAt.same _
       ·obtain⟨its,rv,p1,_⟩:=I.tuple s1
        obtain⟨its2,rv2,p2,_⟩:=I.tuple s2;unfold D.eqq at e;have dl:D.depL l<=n:=by unfold D.dep at hd;omega
        have q:=RcAt.tuples (A:=A) (e:=λj=>(ww3 l m).getD j false) (show s.heap.IsTuple a its.toArray from p1) (show s.heap.IsTuple a' its2.toArray from p2) hu0 (λj g1 g2=>zl0 e i1 i2 rv rv2 ih' dl j g1 g2);have eb:=ye2 e;have l1:its.toArray.size=l.length:=by rw[Ag0,<-rv.length,<-i1.length]
        have l2:its2.toArray.size=m.length:=by rw[Ag0,<-rv2.length,<-i2.length]
        rw[l1,l2,<-zl9,zq2,<-eb] at q;exact EqAt.of_refs z q
     | _=>unfold D.eqq at e;cases e
   | lst l=>
     cases d2 with
     | lst m=>
       obtain⟨a,vs,ea,_,s1,i1⟩:=Is.lst_iff.mp h1;obtain⟨a',us,ea',_,s2,i2⟩:=Is.lst_iff.mp h2;have hb:a=a'->b=true:=λz=>by
        subst z;rw[ea'] at h2;rw[ea] at h1;exact yk2 I h1 h2 e
       subst ea ea';cases r1;cases r2;by_cases z:a=a'
       ·rw[hb z,z];exact EqAt.same _
       ·obtain⟨its,rv,p1,_⟩:=I.list (.of s1)
        obtain⟨its2,rv2,p2,_⟩:=I.list (.of s2);have l1:its.toArray.size=l.length:=by rw[Ag0,<-rv.length,<-i1.length]
        have l2:its2.toArray.size=m.length:=by rw[Ag0,<-rv2.length,<-i2.length]
        unfold D.eqq at e;by_cases hl:l.length=m.length
        ·rw[if_pos hl] at e
         have dl:D.depL l<=n:=by unfold D.dep at hd;omega
         have q:=RcAt.lists (A:=A) (e:=λj=>(ww3 l m).getD j false) p1.isList p2.isList (by rw[l1,l2,hl]) hu0 (λj g1 g2=>zl0 e i1 i2 rv rv2 ih' dl j g1 g2);have eb:=ye2 e;have el:l.length=(ww3 l m).length:=by rw[zl9];omega
         rw[l1,el,zq2] at q;rw[hl] at eb;simp at eb;rw[eb];have:(ww3 l m).all id=(ww3 l m).all (λx=>x):=rfl;exact EqAt.of_refs z q
        ·rw[if_neg hl] at e
         cases e;exact EqAt.of_refs z (RcAt.lists_lengths p1.isList p2.isList (by rw[l1,l2];simpa using hl) hu0)
     | _=>unfold D.eqq at e;cases e
   | dct _ _=>cases d2<;>(unfold D.eqq at e;cases e)
   | fl _=>cases d2<;>(unfold D.eqq at e;cases e)
   | fd _ _=>cases d2<;>(unfold D.eqq at e;cases e)
   | _=>simp[D.plain] at hp
end
section
variable{X:Cx}{A3:List (Addr×Obj)}{σ:St}{H:Hp}{s:Shared}{A1 A2:Addr->Prop}
theorem xx3(I:Inv X A3 σ H s){n:Nat}{b:Bool}(hd:d1.dep<=n)(hu:A.units+n<cLine)(e:D.eqq d1 d2=some b)(h1:Is X.K A1 H d1 v1)(h2:Is X.K A2 H d2 v2)(r1:wr3 v1 u1)(r2:wr3 v2 u2) :
 RcAt A s u1 u2 b/\RcNeAt A s u1 u2 (!b):=by
 have hu0:A.units<cLine:=by omega
 cases d1 with
 | int i=>
   cases d2 with
   | int j=>
     have z1:=Is.int_iff.mp h1;have z2:=Is.int_iff.mp h2;subst z1 z2;obtain⟨t,rfl⟩:=r1;obtain⟨t',rfl⟩:=r2;unfold D.eqq at e;cases e;exact⟨RcAt.int_int i t j t',RcNeAt.int_int i t j t'⟩
   | _=>unfold D.eqq at e;cases e
 | str i=>
   cases d2 with
   | str j=>
     have z1:=Is.str_iff.mp h1;have z2:=Is.str_iff.mp h2;subst z1 z2;obtain⟨t,rfl⟩:=r1;obtain⟨t',rfl⟩:=r2;unfold D.eqq at e;cases e;exact⟨RcAt.str_str i t j t',RcNeAt.str_str i t j t'⟩
   | _=>unfold D.eqq at e;cases e
 | bl i=>
   cases d2 with
   | bl j=>
     have z1:=Is.bl_iff.mp h1;have z2:=Is.bl_iff.mp h2;subst z1 z2;cases r1;cases r2;unfold D.eqq at e;cases e;exact⟨RcAt.bool_bool i j,RcNeAt.bool_bool i j⟩
   | _=>unfold D.eqq at e;cases e
 | non=>
   cases d2 with
   | non=>
     have z1:=Is.non_iff.mp h1;have z2:=Is.non_iff.mp h2;subst z1 z2;cases r1;cases r2;unfold D.eqq at e;cases e;exact⟨RcAt.none_none,RcNeAt.none_none⟩
   | _=>unfold D.eqq at e;cases e
 | tup l=>
   cases d2 with
   | tup m=>
     obtain⟨a,vs,ea,s1,i1⟩:=Is.tup_sq h1;obtain⟨a',us,ea',s2,i2⟩:=Is.tup_sq h2;subst ea ea';cases r1;cases r2;obtain⟨its,rv,p1,_⟩:=I.tuple s1;obtain⟨its2,rv2,p2,_⟩:=I.tuple s2;unfold D.eqq at e;have hd':D.depL l+1<=n:=by unfold D.dep at hd;exact hd
     have ih':∀{d1 d2:D} {b:Bool} {v1 v2:V} {u1 u2:Value},d1.dep<=n-1->D.eqq d1 d2=some b->Is X.K A1 H d1 v1->Is X.K A2 H d2 v2->wr3 v1 u1->wr3 v2 u2->EqAt A.in1 s u1 u2 b:=
      λhd e h1 h2 r1 r2=>xn0 I (n-1) (A:=A.in1) hd (by rw[Around.in1_units];omega) e h1 h2 r1 r2
     have q:=RcAt.tuples (A:=A) (e:=λj=>(ww3 l m).getD j false) (show s.heap.IsTuple a its.toArray from p1) (show s.heap.IsTuple a' its2.toArray from p2) hu0 (λj g1 g2=>zl0 e i1 i2 rv rv2 ih' (by omega) j g1 g2);have q':=RcNeAt.tuples (A:=A) (e:=λj=>(ww3 l m).getD j false) (show s.heap.IsTuple a its.toArray from p1) (show s.heap.IsTuple a' its2.toArray from p2) hu0 (λj g1 g2=>zl0 e i1 i2 rv rv2 ih' (by omega) j g1 g2);have eb:=ye2 e;have l1:its.toArray.size=l.length:=by rw[Ag0,<-rv.length,<-i1.length]
     have l2:its2.toArray.size=m.length:=by rw[Ag0,<-rv2.length,<-i2.length]
     rw[l1,l2,<-zl9,zq2,<-eb] at q q';exact⟨q,q'⟩
   | _=>unfold D.eqq at e;cases e
 | lst l=>
   cases d2 with
   | lst m=>
     obtain⟨a,vs,ea,_,s1,i1⟩:=Is.lst_iff.mp h1;obtain⟨a',us,ea',_,s2,i2⟩:=Is.lst_iff.mp h2;subst ea ea';cases r1;cases r2;obtain⟨its,rv,p1,_⟩:=I.list (.of s1);obtain⟨its2,rv2,p2,_⟩:=I.list (.of s2);have l1:its.toArray.size=l.length:=by rw[Ag0,<-rv.length,<-i1.length]
     have l2:its2.toArray.size=m.length:=by rw[Ag0,<-rv2.length,<-i2.length]
     unfold D.eqq at e;by_cases hl:l.length=m.length
     ·rw[if_pos hl] at e
      have hd':D.depL l+1<=n:=by unfold D.dep at hd;exact hd
      have ih':∀{d1 d2:D} {b:Bool} {v1 v2:V} {u1 u2:Value},d1.dep<=n-1->D.eqq d1 d2=some b->Is X.K A1 H d1 v1->Is X.K A2 H d2 v2->wr3 v1 u1->wr3 v2 u2->EqAt A.in1 s u1 u2 b:=
       λhd e h1 h2 r1 r2=>xn0 I (n-1) (A:=A.in1) hd (by rw[Around.in1_units];omega) e h1 h2 r1 r2
      have q:=RcAt.lists (A:=A) (e:=λj=>(ww3 l m).getD j false) p1.isList p2.isList (by rw[l1,l2,hl]) hu0 (λj g1 g2=>zl0 e i1 i2 rv rv2 ih' (by omega) j g1 g2);have q':=RcNeAt.lists (A:=A) (e:=λj=>(ww3 l m).getD j false) p1.isList p2.isList (by rw[l1,l2,hl]) hu0 (λj g1 g2=>zl0 e i1 i2 rv rv2 ih' (by omega) j g1 g2);have eb:=ye2 e;have el:l.length=(ww3 l m).length:=by rw[zl9];omega
      rw[l1,el,zq2] at q q';have eb':b=(ww3 l m).all id:=by rw[eb,hl];simp
      rw[eb'];exact⟨q,q'⟩
     ·rw[if_neg hl] at e
      cases e;exact⟨RcAt.lists_lengths p1.isList p2.isList (by rw[l1,l2];simpa using hl) hu0,RcNeAt.lists_lengths p1.isList p2.isList (by rw[l1,l2];simpa using hl) hu0⟩
   | _=>unfold D.eqq at e;cases e
 | dct _ _=>cases d2<;>(unfold D.eqq at e;cases e)
 | fl _=>cases d2<;>(unfold D.eqq at e;cases e)
 | fd _ _=>cases d2<;>(unfold D.eqq at e;cases e)
noncomputable def vq0(K:PySem.W.Frag)(neg:Bool):R2:=λx y H Q=>∃(A:Addr->Prop) (d1 d2:D) (b:Bool),Is K A H d1 x/\Is K A H d2 y/\d1.dep<=30/\D.eqq d1 d2=some b/\Q (.bl (if neg then !b else b)) H
def zg0{k:Nat}(hr:ws5 k X.A):OpR X (compareOp .Eq) (vq0 X.K false):=by
 intro A3 s σ H x y v u Q I rx ry h;obtain⟨A,d1,d2,b,h1,h2,hd,e,q⟩:=h;exact(xx3 I (n:=30) hd (by have:=hr.units;omega) e h1 h2 rx ry).1 _ _ _ _ ⟨.bl b,H,I,rfl,q⟩
def zy1{k:Nat}(hr:ws5 k X.A):OpR X (compareOp .NotEq) (vq0 X.K true):=by
 intro A3 s σ H x y v u Q I rx ry h;obtain⟨A,d1,d2,b,h1,h2,hd,e,q⟩:=h;exact(xx3 I (n:=30) hd (by have:=hr.units;omega) e h1 h2 rx ry).2 _ _ _ _ ⟨.bl (!b),H,I,rfl,q⟩
noncomputable def inD(x:D):List D->Option Bool
 | []=>some false
 | d::l=>(D.eqq d x).bind λb=>(inD x l).map λc=>b||c
noncomputable def vp9(K:PySem.W.Frag)(neg:Bool):R2:=λx y H Q=>∃(A:Addr->Prop) (d:D) (l:List D) (b:Bool),Is K A H d x/\(Is K A H (.lst l) y\/Is K A H (.tup l) y)/\D.depL l<=30/\inD d l=some b/\Q (.bl (if neg then !b else b)) H
open Classical in
noncomputable def ve8(x:D)(l:List D)(us:List Value)(u:Value):Bool:=decide (∃(j:Nat) (d:D),us[j]?=some u/\l[j]?=some d/\D.eqq d x=some true)
def yb0:ve8 x l us u=true↔∃(j:Nat) (d:D),us[j]?=some u/\l[j]?=some d/\D.eqq d x=some true:=by
 classical
 unfold ve8;exact decide_eq_true_iff
theorem yo8:∀{l:List D} {b:Bool},inD x l=some b->∀(j:Nat) (d:D),l[j]?=some d->∃c,D.eqq d x=some c
 | [],_,_,_,_,h=>by simp at h
 | a::l,b,e,j,d,h=>by
   unfold inD at e;cases q1:D.eqq a x with
   | none=>rw[q1] at e;cases e
   | some c=>
     cases q2:inD x l with
     | none=>rw[q1,q2] at e;cases e
     | some c2=>
       cases j with
       | zero=>simp at h;subst h;exact⟨c,q1⟩
       | succ j=>exact yo8 q2 j d (by simpa using h)
theorem xm1:∀{l:List D} {b:Bool},inD x l=some b->(b=true↔∃(j:Nat) (d:D),l[j]?=some d/\D.eqq d x=some true)
 | [],b,e=>by
   unfold inD at e;cases e;constructor
   ·intro h;cases h
   ·rintro ⟨j,d,h,_⟩;simp at h
 | a::l,b,e=>by
   unfold inD at e;cases q1:D.eqq a x with
   | none=>rw[q1] at e;cases e
   | some c=>
     cases q2:inD x l with
     | none=>rw[q1,q2] at e;cases e
     | some c2=>
       rw[q1,q2] at e;have e:some (c||c2)=some b:=e;cases e;have ih:=xm1 q2;rw[Bool.or_eq_true];constructor
       ·rintro (h | h)
        ·subst h;exact⟨0,a,rfl,q1⟩
        ·obtain⟨j,d,h1,h2⟩:=ih.mp h
         exact⟨j+1,d,by simpa using h1,h2⟩
       ·rintro ⟨j,d,h1,h2⟩
        cases j with
        | zero=>
          simp at h1;subst h1;rw[q1] at h2;cases h2;exact .inl rfl
        | succ j=>exact .inr (ih.mpr ⟨j,d,by simpa using h1,h2⟩)
def ya3(I:Inv X A3 σ H s){b:Bool}(hd:D.depL l<=30)(hu:A.units+30<cLine)(e:inD x l=some b)(i:IsL X.K A1 H l vs)(rv:wr4 vs its)(h:Is X.K A1 H x v)(r:wr3 v u) :
 (∀y∈its.toArray,EqAt A s y u (ve8 x l its y))/\its.toArray.any (ve8 x l its)=b:=by
 have at_:∀(j:Nat) (y:Value),its[j]?=some y->∃d w,l[j]?=some d/\Is X.K A1 H d w/\wr3 w y:=λj y hy=>by
  have hj:j<its.length:=(Ae0.mp hy).1;have hl:j<l.length:=by rw[i.length,rv.length];exact hj
  obtain⟨w,hw,iw⟩:=i.get (Ac0 hl);obtain⟨y',hy',ry⟩:=rv.get hw;rw[hy] at hy';cases hy';exact⟨_,w,Ac0 hl,iw,ry⟩
 have eqs:∀(j:Nat) (y:Value) (d:D) (c:Bool),its[j]?=some y->l[j]?=some d->D.eqq d x=some c->EqAt A s y u c:=λj y d c hy hd' ec=>by
  obtain⟨d2,w,h2,iw,ry⟩:=at_ j y hy;rw[hd'] at h2;cases h2;exact xn0 I 30 (Ba0 (yk8 hd') hd) hu ec iw h ry r
 constructor
 ·intro y hy
  by_cases hc:∃(j:Nat) (d:D),its[j]?=some y/\l[j]?=some d/\D.eqq d x=some true
  ·obtain⟨j,d,h1,h2,h3⟩:=hc
   have:ve8 x l its y=true:=yb0.mpr ⟨j,d,h1,h2,h3⟩;rw[this];exact eqs j y d true h1 h2 h3
  ·have:ve8 x l its y=false:=by cases q:ve8 x l its y with
    | false=>rfl
    | true=>exact(hc (yb0.mp q)).elim
   rw[this];obtain⟨j,hj,ej⟩:=List.mem_iff_getElem.mp (show y∈its by simpa using hy);have hy':its[j]?=some y:=by rw[Ac0 hj,ej]
   obtain⟨d,w,h2,iw,ry⟩:=at_ j y hy';obtain⟨c,ec⟩:=yo8 e j d h2;cases c with
   | false=>exact eqs j y d false hy' h2 ec
   | true=>exact(hc ⟨j,d,hy',h2,ec⟩).elim
 ·apply Bool.eq_iff_iff.mpr
  rw[xm1 e];have e1:its.toArray.any (ve8 x l its)=its.any (ve8 x l its):=by simp
  rw[e1,List.any_eq_true];constructor
  ·rintro ⟨y,_,hy⟩
   obtain⟨j,d,_,h2,h3⟩:=yb0.mp hy;exact⟨j,d,h2,h3⟩
  ·rintro ⟨j,d,h2,h3⟩
   have hj:j<its.length:=by rw[<-rv.length,<-i.length];exact(Ae0.mp h2).1
   refine⟨its[j],List.getElem_mem hj,?_⟩;exact yb0.mpr ⟨j,d,Ac0 hj,h2,h3⟩
def xy0{k:Nat}(hr:ws5 k X.A):OpR X (compareOp .In) (vp9 X.K false):=by
 intro A3 s σ H x y v u Q I rx ry h;obtain⟨A,d,l,b,h1,h2,hd,e,q⟩:=h;have hu:X.A.in1.units+30<cLine:=by rw[Around.in1_units];have:=hr.units;omega
 rcases h2 with h2 | h2
 ·obtain⟨a,vs,ea,_,s1,i1⟩:=Is.lst_iff.mp h2
  subst ea;cases ry;obtain⟨its,rv,p,_⟩:=I.list (.of s1);obtain⟨g1,g2⟩:=ya3 I hd hu e i1 rv h1 rx;exact in_listAt _ p.isList g1 ⟨.bl b,H,I,by rw[g2];rfl,q⟩
 ·obtain⟨a,vs,ea,s1,i1⟩:=Is.tup_sq h2
  subst ea;cases ry;obtain⟨its,rv,p,_⟩:=I.tuple s1;obtain⟨g1,g2⟩:=ya3 I hd hu e i1 rv h1 rx;exact in_tupleAt _ p g1 ⟨.bl b,H,I,by rw[g2];rfl,q⟩
def yc5{k:Nat}(hr:ws5 k X.A):OpR X (compareOp .NotIn) (vp9 X.K true):=by
 intro A3 s σ H x y v u Q I rx ry h;obtain⟨A,d,l,b,h1,h2,hd,e,q⟩:=h;have hu:X.A.in1.units+30<cLine:=by rw[Around.in1_units];have:=hr.units;omega
 rcases h2 with h2 | h2
 ·obtain⟨a,vs,ea,_,s1,i1⟩:=Is.lst_iff.mp h2
  subst ea;cases ry;obtain⟨its,rv,p,_⟩:=I.list (.of s1);obtain⟨g1,g2⟩:=ya3 I hd hu e i1 rv h1 rx;exact notIn_listAt _ p.isList g1 ⟨.bl (!b),H,I,by rw[g2];rfl,q⟩
 ·obtain⟨a,vs,ea,s1,i1⟩:=Is.tup_sq h2
  subst ea;cases ry;obtain⟨its,rv,p,_⟩:=I.tuple s1;obtain⟨g1,g2⟩:=ya3 I hd hu e i1 rv h1 rx;exact notIn_tupleAt _ p g1 ⟨.bl (!b),H,I,by rw[g2];rfl,q⟩
variable{S:Type}{W:Wd S}{c:Dx W}
noncomputable def oEq(neg:Bool)(a b:D):Option D:=if a.dep<=30 then (D.eqq a b).map λx=>.bl (if neg then !x else x) else none
noncomputable def oIn(neg:Bool)(a b:D):Option D:=match b with
 | .lst l=>if D.depL l<=30 then (inD a l).map λx=>.bl (if neg then !x else x) else none
 | .tup l=>if D.depL l<=30 then (inD a l).map λx=>.bl (if neg then !x else x) else none
 | _=>none
open H in
def ze2{K:PySem.W.Frag}{neg:Bool}(hK:c.K=K):OpD c (vq0 K neg) (oEq neg):=by
 subst hK;intro d1 d2 v1 v2 H st d Q ok z1 z2 e q;unfold oEq at e;split at e
 ·rename_i hd
  cases h:D.eqq d1 d2 with
  | none=>rw[h] at e;cases e
  | some b=>
    rw[h] at e;cases e;exact⟨_,d1,d2,b,z1,z2,hd,h,q _ H Ext.refl ok zn5⟩
 ·cases e
open H in
def yn6{K:PySem.W.Frag}{neg:Bool}(hK:c.K=K):OpD c (vp9 K neg) (oIn neg):=by
 subst hK;intro d1 d2 v1 v2 H st d Q ok z1 z2 e q;unfold oIn at e;split at e
 ·rename_i l
  split at e
  ·rename_i hd
   cases h:inD d1 l with
   | none=>rw[h] at e;cases e
   | some b=>
     rw[h] at e;cases e;exact⟨_,d1,l,b,z1,.inl z2,hd,h,q _ H Ext.refl ok zn5⟩
  ·cases e
 ·rename_i l
  split at e
  ·rename_i hd
   cases h:inD d1 l with
   | none=>rw[h] at e;cases e
   | some b=>
     rw[h] at e;cases e;exact⟨_,d1,l,b,z1,.inr z2,hd,h,q _ H Ext.refl ok zn5⟩
  ·cases e
 ·cases e
end
section
variable{X:Cx}{S:Type}{W:Wd S}{c:Dx W}{g:Gr}{a b e:Expr}{rest:List Expr}{pos:Pos}{fa fb fc:Fn S}{ga gb gc:Gr}
noncomputable def vl6(S:Type)(f1 f2:Fn S):Fn S:=λρ st=>(f1 ρ st).bind λd st1=>match d with
 | .bl true=>f2 ρ st1
 | .bl false=>.ok (.bl false) st1
 | _=>.bad
noncomputable def vv7(S:Type)(f1 f2:Fn S):Fn S:=λρ st=>(f1 ρ st).bind λd st1=>match d with
 | .bl true=>.ok (.bl true) st1
 | .bl false=>f2 ρ st1
 | _=>.bad
noncomputable def vl4(S:Type)(f1:Fn S):Fn S:=λρ st=>(f1 ρ st).bind λd st1=>match d with
 | .bl b=>.ok (.bl (!b)) st1
 | _=>.bad
def yh2{op}(h:DE X c g a f):DE X c g (.BoolOp op [a] pos) f:=wl0 h
def ye6(ha:DE X c ga a fa)(hb:DE X c g (.BoolOp .And (b::rest) pos) fb):DE X c g (.BoolOp .And (a::b::rest) pos) (vl6 S fa fb):=
 (wl4 ha hb).imp λσ H Q hI30=>by
  obtain⟨ρ,st,R,ok,w⟩:=hI30;refine zi0 (Go.bind (g':=ga) (k:=λd ρ st1=>match d with | .bl true=>fb ρ st1 | .bl false=>.ok (.bl false) st1 | _=>.bad) R ok w) λv H1 hI100=>?_
  obtain⟨d,st1,R1,ok1,e1,z,w1⟩:=hI100;cases d with
  | bl k=>
    have zv:v=.bl k:=Is.bl_iff.mp (show Is c.K (λb=>¬W.mv b) H1 (.bl k) v from z.toR);refine⟨k,zv,?_⟩;cases k with
    | true=>exact vi4 ⟨ρ,st1,R1,ok1,w1⟩
    | false=>exact vl2 (w1 (.bl false) H1 Ext.refl ok1 (New.val R1 zn5 g))
  | _=>exact(show False from w1).elim
def vs3(ha:DE X c ga a fa)(hb:DE X c g (.BoolOp .Or (b::rest) pos) fb):DE X c g (.BoolOp .Or (a::b::rest) pos) (vv7 S fa fb):=
 (vq2 ha hb).imp λσ H Q hI31=>by
  obtain⟨ρ,st,R,ok,w⟩:=hI31;refine zi0 (Go.bind (g':=ga) (k:=λd ρ st1=>match d with | .bl true=>.ok (.bl true) st1 | .bl false=>fb ρ st1 | _=>.bad) R ok w) λv H1 hI101=>?_
  obtain⟨d,st1,R1,ok1,e1,z,w1⟩:=hI101;cases d with
  | bl k=>
    have zv:v=.bl k:=Is.bl_iff.mp (show Is c.K (λb=>¬W.mv b) H1 (.bl k) v from z.toR);refine⟨k,zv,?_⟩;cases k with
    | false=>exact vl2 ⟨ρ,st1,R1,ok1,w1⟩
    | true=>exact vi4 (w1 (.bl true) H1 Ext.refl ok1 (New.val R1 zn5 g))
  | _=>exact(show False from w1).elim
def wp5(ha:DE X c ga a fa):DE X c g (.UnaryOp .Not a pos) (vl4 S fa):=
 (wl1 ha).imp λσ H Q hI32=>by
  obtain⟨ρ,st,R,ok,w⟩:=hI32;refine zi0 (Go.bind (g':=ga) (k:=λd ρ st1=>match d with | .bl b=>.ok (.bl (!b)) st1 | _=>.bad) R ok w) λv H1 hI102=>?_
  obtain⟨d,st1,R1,ok1,e1,z,w1⟩:=hI102;cases d with
  | bl k=>
    have zv:v=.bl k:=Is.bl_iff.mp (show Is c.K (λb=>¬W.mv b) H1 (.bl k) v from z.toR);exact⟨k,zv,w1 (.bl (!k)) H1 Ext.refl ok1 (New.val R1 zn5 g)⟩
  | _=>exact(show False from w1).elim
noncomputable def xm9(S:Type)(o o':D->D->Option D)(f1 f2 f3:Fn S):Fn S:=λρ st=>(f1 ρ st).bind λd1 st1=>(f2 ρ st1).bind λd2 st2=>match o d1 d2 with
 | some (.bl true)=>(f3 ρ st2).bind λd3 st3=>ws3 (o' d2 d3) st3
 | some (.bl false)=>.ok (.bl false) st2
 | _=>.bad
theorem xr2(hr:OpD c r o)(hr':OpD c r' o')(h:tD c g (xm9 S o o' fa fb fc) σ H Q):xw8 r r' (tD c ga fa) (tD c gb fb) (tD c gc fc) σ H Q:=by
 obtain⟨ρ,st,R,ok,w⟩:=h;refine zi0 (Go.bind (g':=ga) (k:=λd1 ρ st1=>(fb ρ st1).bind λd2 st2=>match o d1 d2 with | some (.bl true)=>(fc ρ st2).bind λd3 st3=>ws3 (o' d2 d3) st3 | some (.bl false)=>.ok (.bl false) st2 | _=>.bad) R ok w) λv1 H1 hI103=>?_
 obtain⟨d1,st1,R1,ok1,e1,z1,w1⟩:=hI103;refine zi0 (Go.bind (g':=gb) (k:=λd2 ρ st2=>match o d1 d2 with | some (.bl true)=>(fc ρ st2).bind λd3 st3=>ws3 (o' d2 d3) st3 | some (.bl false)=>.ok (.bl false) st2 | _=>.bad) R1 ok1 w1) λv2 H2 hI104=>?_
 obtain⟨d2,st2,R2,ok2,e2,z2,w2⟩:=hI104;cases q:o d1 d2 with
 | none=>simp only[q] at w2;exact(show False from w2).elim
 | some d=>
   simp only[q] at w2;cases d with
   | bl k=>
     refine hr d1 d2 v1 v2 H2 st2 (.bl k) _ ok2 (z1.toR.ext e2 ok1) z2.toR q λv H' e' ok' n=>?_
     refine⟨k,Is.bl_iff.mp n,?_⟩;have R':=R2.ext ok2 e';cases k with
     | false=>exact vl2 (w2 (.bl false) H' e' ok' (New.val R2 zn5 g))
     | true=>
       refine vi4 ?_;have w3:Go c g σ (λρ st=>(fc ρ st).bind λd3 st3=>ws3 (o' d2 d3) st3) H2 Q ρ st2:=w2;refine zi0 (Go.bind (g':=gc) (k:=λd3 _ st3=>ws3 (o' d2 d3) st3) R' ok' (w3.from e' ok')) λv3 H3 hI105=>?_
       obtain⟨d3,st3,R3,ok3,e3,z3,w4⟩:=hI105;obtain⟨d,e5,q5⟩:=Go.done w4 ok3;exact hr' d2 d3 v2 v3 H3 st3 d Q ok3 ((z2.toR.ext e' ok2).ext e3 ok') z3.toR e5 λv H' a b n=>q5 v H' a b (n.val R3 g)
   | _=>exact(show False from w2).elim
def ya7(ho:OpR X (compareOp op) r)(ho':OpR X (compareOp op') r')(hr:OpD c r o)(hr':OpD c r' o')(ha:DE X c ga a fa)(hb:DE X c gb b fb)(hd:DE X c gc d fc)(hm:lastMarks [op,op'] [b,d]=false:=by with_unfolding_all rfl):DE X c g (.Compare a [op,op'] [b,d] pos) (xm9 S o o' fa fb fc):=
 (xs8 ho ho' ha hb hd hm).imp λσ H Q h=>xr2 hr hr' h
noncomputable def D.isNon:D->Bool
 | .non=>true
 | _=>false
noncomputable def wx8(neg:Bool)(a b:D):Option D:=match b with
 | .non=>some (.bl (if neg then !a.isNon else a.isNon))
 | _=>none
theorem xy7{K:PySem.W.Frag}{A:Addr->Prop}{H:Hp}{d:D}{v:V}(h:Is K A H d v):(decide (v=V.non))=d.isNon:=by
 cases d with
 | non=>rw[Is.non_iff.mp h];rfl
 | bl b=>rw[Is.bl_iff.mp h];rfl
 | int i=>rw[Is.int_iff.mp h];rfl
 | str x=>rw[Is.str_iff.mp h];rfl
 | tup l=>obtain⟨a,vs,e,_⟩:=Is.tup_sq h;rw[e];rfl
 | lst l=>obtain⟨a,vs,e,_⟩:=Is.lst_iff.mp h;rw[e];rfl
 | dct k l=>obtain⟨a,vs,e,_⟩:=Is.dct_iff.mp h;rw[e];rfl
 | fl l=>obtain⟨a,o,vs,e,_⟩:=Is.fl_iff.mp h;rw[e];rfl
 | fd k l=>obtain⟨a,o,vs,kk,e,_⟩:=Is.fd_iff.mp h;rw[e];rfl
theorem xy1:OpD c (λx y H Q=>y=.non/\Q (.bl (decide (x=.non))) H) (wx8 false):=by
 intro d1 d2 v1 v2 H st d Q ok z1 z2 e q;cases d2 with
 | non=>
   cases e;refine⟨Is.non_iff.mp z2,?_⟩;rw[xy7 z1];exact q _ H Ext.refl ok zn5
 | _=>cases e
theorem we3:OpD c (λx y H Q=>y=.non/\Q (.bl (!decide (x=.non))) H) (wx8 true):=by
 intro d1 d2 v1 v2 H st d Q ok z1 z2 e q;cases d2 with
 | non=>
   cases e;refine⟨Is.non_iff.mp z2,?_⟩;rw[xy7 z1];exact q _ H Ext.refl ok zn5
 | _=>cases e
noncomputable def vv9(S:Type)(t:FnT S)(f1 f2:Fn S):Fn S:=λρ st=>(t ρ st).bind λk st1=>if k=true then f1 ρ st1 else f2 ρ st1
noncomputable def vv8(S:Type)(f:Fn S):Fn S:=λρ st=>(f ρ st).bind λd st1=>match d with
 | .int i=>.ok (.int (-i)) st1
 | _=>.bad
def xn7(ha:DE X c ga a fa):DE X c g (.UnaryOp .USub a pos) (vv8 S fa):=
 (vq1 wj2 ha).imp λσ H Q hI33=>by
  obtain⟨ρ,st,R,ok,w⟩:=hI33;refine zi0 (Go.bind (g':=ga) (k:=λd _ st1=>match d with | .int i=>.ok (.int (-i)) st1 | _=>.bad) R ok w) λv H1 hI106=>?_
  obtain⟨d,st1,R1,ok1,e1,z,w1⟩:=hI106;cases d with
  | int i=>exact⟨i,Is.int_iff.mp (show Is c.K (λb=>¬W.mv b) H1 (.int i) v from z.toR),w1 (.int (-i)) H1 Ext.refl ok1 (New.val R1 zq8 g)⟩
  | _=>exact(show False from w1).elim
end
noncomputable def D.ty:D->String
 | .non=>"NoneType"
 | .bl _=>"bool"
 | .int _=>"int"
 | .str _=>"str"
 | .tup _=>"tuple"
 | .lst _=>"list"
 | .dct _ _=>"dict"
 | .fl _=>"list"
 | .fd _ _=>"dict"
inductive Bt where
 | int | bool | str | list | tuple | dict
noncomputable def Bt.nm:Bt->String
 | .int=>"int"
 | .bool=>"bool"
 | .str=>"str"
 | .list=>"list"
 | .tuple=>"tuple"
 | .dict=>"dict"
noncomputable def isI(T:Bt)(d:D):Bool:=match T,d with
 | .int,.int _=>true
 | .int,.bl _=>true
 | .bool,.bl _=>true
 | .str,.str _=>true
 | .list,.lst _=>true
 | .list,.fl _=>true
 | .tuple,.tup _=>true
 | .dict,.dct _ _=>true
 | .dict,.fd _ _=>true
 | _,_=>false
def wf7(K:PySem.W.Frag)(T:Bt)(d:D):PySem.W.kitOne K (.type d.ty) (.type T.nm)=some (isI T d):=by
 cases T<;>cases d<;>first | rfl | decide
section
variable{X:Cx}{A3:List (Addr×Obj)}{σ:St}{H:Hp}{s:Shared}
theorem wf9(T:Bt)(I:Inv X A3 σ H s)(h:Is X.K A H d v)(r:wr3 v u)(hq:∀tk,Q (.bool (isI T d)) { s with toks:=tk }) :
 wpAny (model X.prog X.w) A0 (call (.builtin "isinstance") [u,.type T.nm]) Q E s:=by
 have e:=wf7 X.K T d;cases d with
 | non=>rw[Is.non_iff.mp h] at r;exact zj8 I r .non e hq
 | bl b=>rw[Is.bl_iff.mp h] at r;exact zj8 I r (.bl b) e hq
 | int i=>rw[Is.int_iff.mp h] at r;exact zj8 I r (.int i) e hq
 | str x=>rw[Is.str_iff.mp h] at r;exact zj8 I r (.str x) e hq
 | lst l=>obtain⟨a,vs,ea,_,e1,_⟩:=Is.lst_iff.mp h;rw[ea] at r;exact zj8 I r (.lst e1) e hq
 | fl l=>obtain⟨a,o,vs,ea,e1,_⟩:=Is.fl_iff.mp h;rw[ea] at r;exact zj8 I r (.frz e1) e hq
 | dct k l=>
   obtain⟨a,vs,ea,_,_,q⟩:=Is.dct_iff.mp h;rw[ea] at r;rcases q with⟨_,_,_,e1⟩ | ⟨_,_,_,e1⟩
   ·exact zj8 I r (.dK e1) e hq
   ·exact zj8 I r (.dT e1) e hq
 | fd k l=>
   obtain⟨a,ob,vs,kk,ea,_,_,e1,_⟩:=Is.fd_iff.mp h;rw[ea] at r;cases (show u=Value.ref a from r);obtain⟨_,_,_,xs,_,o,es,ep,h1,h2,_⟩:=(show ws2 X.prog X.w H s.heap a (.frz ob (.dT (kk.zip vs))) from I.hok a _ e1);exact PySem.W.kia_one PySem.W.kitx_dict I.kIn ⟨o,h1,h2.1⟩ e (λz=>nomatch z) hq
 | tup l=>
   obtain⟨a,vs,ea,s1,_⟩:=Is.tup_sq h;rw[ea] at r;cases r;obtain⟨its,_,⟨o,h1,h2,_⟩,_⟩:=I.tuple s1;exact PySem.W.kia_one PySem.W.kitx_tuple I.kIn ⟨o,h1,h2⟩ e (λz=>nomatch z) hq
variable{S:Type}{W:Wd S}{c:Dx W}{g ga:Gr}
noncomputable def fIs(S:Type)(T:Bt)(f:Fn S):Fn S:=λρ st=>(f ρ st).bind λd st1=>.ok (.bl (isI T d)) st1
def zf4{x:Str}(T:Bt)(hK:c.K=X.K)(hg:Gl X "isinstance")(hm:X.mg "isinstance" = none)(hg2:Gl X x)(hm2:X.mg x=none)(hv:bootBuiltins x=some (.type T.nm))(he:DE X c ga e f)(hs:starEach (e::[.Name x p2]) X.env=(false,eval e X.env)::starEach [.Name x p2] X.env:=by rfl)(hs2:starEach [.Name x p2] X.env=(false,eval (.Name x p2) X.env)::starEach [] X.env:=by rfl)(hpl:(backTo pos (starEach [.Name x p2] X.env)).any (·.1)=false:=by rfl)(hn:x≠"__name__":=by decide)(hd:(x == ("__debug__" : Str))=false:=by decide) :
 DE X c g (.Call (.Name "isinstance" p) [e,.Name x p2] [] pos) (fIs S T f):=by
 have hp:PE X (.Call (.Name "isinstance" p) [e,.Name x p2] [] pos) (tCB (λvs H Q=>∃A d v,vs=[v,.ty T.nm]/\Is X.K A H d v/\Q (.bl (isI T d)) H) (vd7 (tD c ga f) (vd7 (tC (.ty T.nm)) vu3))):=by
  refine ya0 (id:="isinstance") ?_ hg hm boot_isinstance (zi2 he (zi2 (wd6 hg2 hm2 hv rfl hn hd) zp2 hs2) hs) (by decide) (by decide) hs hpl;intro A3 s σ H xs us Q I r h;obtain⟨A,d,v,rfl,hi,q⟩:=h;obtain⟨u,w',rfl,r1,r2⟩:=vd6 r;cases r2;exact wf9 T I hi r1 λtk=>⟨.bl _,H,I.tok tk,rfl,q⟩
 refine hp.imp λσ H Q hI107=>?_
 obtain⟨ρ,st,R,ok,w⟩:=hI107;refine zi0 (Go.bind (g':=ga) (k:=λd _ st1=>.ok (.bl (isI T d)) st1) R ok w) λv H1 hI108=>?_
 obtain⟨d,st1,R1,ok1,e1,z,w1⟩:=hI108;exact⟨_,d,v,rfl,hK▸(show Is c.K (λb=>¬W.mv b) H1 d v from z.toR),w1 _ H1 Ext.refl ok1 (New.val R1 zn5 g)⟩
end
section
variable{X:Cx}{S:Type}{W:Wd S}{c:Dx W}
noncomputable def wz7:List D->Option D
 | [.lst l]=>some (.int l.length)
 | [.tup l]=>some (.int l.length)
 | _=>none
open H in
def zw4{K:PySem.W.Frag}(hK:c.K=K):wu3 c (λxs H Q=>∃p ys,xs=[.ref p]/\(SqL K H p ys\/SqT K H p ys)/\Q (.int ys.length) H) wz7:=by
 subst hK;intro l vs H st d Q ok z e q;unfold wz7 at e;split at e
 ·rename_i m
  cases e;obtain⟨v,r,e1,i1,i2⟩:=IsL.cons.mp z;obtain⟨a,us,ea,_,s1,i3⟩:=Is.lst_iff.mp i1;rw[IsL.nil.mp i2,ea] at e1;exact⟨a,us,e1,.inl (.of s1),by rw[<-i3.length];exact q _ H Ext.refl ok zq8⟩
 ·rename_i m
  cases e;obtain⟨v,r,e1,i1,i2⟩:=IsL.cons.mp z;obtain⟨a,us,ea,s1,i3⟩:=Is.tup_sq i1;rw[IsL.nil.mp i2,ea] at e1;exact⟨a,us,e1,.inr s1,by rw[<-i3.length];exact q _ H Ext.refl ok zq8⟩
 ·cases e
noncomputable def yg5:List D->Option D
 | [.lst l]=>if D.immL l=true then some (.tup l) else none
 | [.tup l]=>if D.immL l=true then some (.tup l) else none
 | _=>none
open H in
def zs8{K:PySem.W.Frag}(hK:c.K=K):wu3 c (λxs H Q=>∃p ys,xs=[.ref p]/\((SqL K H p ys/\∀l,H l=none->Q (.ref l) (upd H l (.tup ys)))\/(SqT K H p ys/\Q (.ref p) H))) yg5:=by
 subst hK;intro l vs H st d Q ok z e q;unfold yg5 at e;split at e
 ·rename_i m
  split at e
  ·rename_i im
   cases e;obtain⟨v,r,e1,i1,i2⟩:=IsL.cons.mp z;obtain⟨a,us,ea,_,s1,i3⟩:=Is.lst_iff.mp i1;rw[IsL.nil.mp i2,ea] at e1;exact⟨a,us,e1,.inl ⟨.of s1,λp hp=>q _ _ (Ext.laid hp) (zg6 ok hp) (New.tup ok hp (λ_ n=>n) im i3)⟩⟩
  ·cases e
 ·rename_i m
  split at e
  ·rename_i im
   cases e;obtain⟨v,r,e1,i1,i2⟩:=IsL.cons.mp z;obtain⟨a,us,ea,s1,i3⟩:=Is.tup_iff.mp i1;rw[IsL.nil.mp i2,ea] at e1;exact⟨a,us,e1,.inr ⟨.of s1,q _ H Ext.refl ok (Is.tup s1 (IsL.ofImm im i3))⟩⟩
  ·cases e
 ·cases e
noncomputable def vl0:List D->Option D
 | [.int i]=>some (.int i)
 | [.bl k]=>some (.int (if k then 1 else 0))
 | _=>none
open H in
def xo7:wu3 c (λxs H Q=>(∃i,xs=[.int i]/\Q (.int i) H)\/∃k,xs=[.bl k]/\Q (.int (if k then 1 else 0)) H) vl0:=by
 intro l vs H st d Q ok z e q;unfold vl0 at e;split at e
 ·rename_i i
  cases e;obtain⟨v,r,e1,i1,i2⟩:=IsL.cons.mp z;rw[IsL.nil.mp i2,Is.int_iff.mp i1] at e1;exact .inl ⟨i,e1,q _ H Ext.refl ok zq8⟩
 ·rename_i i
  cases e;obtain⟨v,r,e1,i1,i2⟩:=IsL.cons.mp z;rw[IsL.nil.mp i2,Is.bl_iff.mp i1] at e1;exact .inr ⟨i,e1,q _ H Ext.refl ok zq8⟩
 ·cases e
noncomputable def xj5(f:Int->Int->Int):List D->Option D
 | [.int i,.int j]=>some (.int (f i j))
 | _=>none
open H in
def zs9(f:Int->Int->Int):wu3 c (λxs H Q=>∃i j,xs=[.int i,.int j]/\Q (.int (f i j)) H) (xj5 f):=by
 intro l vs H st d Q ok z e q;unfold xj5 at e;split at e
 ·rename_i i j
  cases e;obtain⟨v,r,e1,i1,i2⟩:=IsL.cons.mp z;obtain⟨v',r',e1',i1',i2'⟩:=IsL.cons.mp i2;rw[e1',IsL.nil.mp i2',Is.int_iff.mp i1,Is.int_iff.mp i1'] at e1;exact⟨i,j,e1,q _ H Ext.refl ok zq8⟩
 ·cases e
noncomputable def zh5:List D->Option (List Bool)
 | []=>some []
 | .bl b::l=>(zh5 l).map λr=>b::r
 | _=>none
theorem yh6{K:PySem.W.Frag}{A:Addr->Prop}{H:Hp}:∀{l:List D} {vs:List V} {bs:List Bool},zh5 l=some bs->IsL K A H l vs->vs=bs.map V.bl
 | [],vs,bs,e,h=>by cases e;exact IsL.nil.mp h
 | .bl b::l,vs,bs,e,h=>by
   unfold zh5 at e;cases q:zh5 l with
   | none=>rw[q] at e;cases e
   | some r=>
     rw[q] at e;cases e;obtain⟨v,us,e1,i1,i2⟩:=IsL.cons.mp h;rw[e1,Is.bl_iff.mp i1,yh6 q i2];rfl
 | .non::_,_,_,e,_=>by simp[zh5] at e
 | .int _::_,_,_,e,_=>by simp[zh5] at e
 | .str _::_,_,_,e,_=>by simp[zh5] at e
 | .tup _::_,_,_,e,_=>by simp[zh5] at e
 | .lst _::_,_,_,e,_=>by simp[zh5] at e
 | .dct _ _::_,_,_,e,_=>by simp[zh5] at e
noncomputable def zy2(f:List Bool->Bool):List D->Option D
 | [.lst l]=>(zh5 l).map λbs=>.bl (f bs)
 | _=>none
open H in
def zt0{K:PySem.W.Frag}(f:List Bool->Bool):wu3 c (λxs H Q=>∃(a:Addr) (bs:List Bool),xs=[.ref a]/\SqL K H a (bs.map V.bl)/\Q (.bl (f bs)) H) (zy2 f):=by
 intro l vs H st d Q ok z e q;unfold zy2 at e;split at e
 ·rename_i m
  cases qb:zh5 m with
  | none=>rw[qb] at e;cases e
  | some bs=>
    rw[qb] at e;cases e;obtain⟨v,r,e1,i1,i2⟩:=IsL.cons.mp z;obtain⟨a,us,ea,_,s1,i3⟩:=Is.lst_iff.mp i1;rw[IsL.nil.mp i2,ea] at e1;rw[yh6 qb i3] at s1;exact⟨a,bs,e1,.of s1,q _ H Ext.refl ok zn5⟩
 ·cases e
noncomputable def vh0:D->D->Option D
 | .lst l,.lst m=>if D.immL l=true/\D.immL m=true/\l.length+m.length<=sizeLine then some (.lst (l++m)) else none
 | _,_=>none
open H in
def wm1:OpD c vm7 vh0:=by
 intro d1 d2 v1 v2 H st d Q ok z1 z2 e q;unfold vh0 at e;split at e
 ·rename_i l m
  split at e
  ·rename_i h
   cases e;obtain⟨a,vs,ea,_,s1,i1⟩:=Is.lst_iff.mp z1;obtain⟨b,us,eb,_,s2,i2⟩:=Is.lst_iff.mp z2;exact⟨a,b,vs,us,ea,eb,s1,s2,by rw[<-i1.length,<-i2.length];exact h.2.2,λp hp=>q _ _ (Ext.laid hp) (zg6 ok hp) (New.lst ok hp (λ_ n=>n) (ze9 h.1 h.2.1) (i1.append i2))⟩
  ·cases e
 ·cases e
noncomputable def vg9:D->D->Option D
 | .tup l,.tup m=>if D.immL l=true/\D.immL m=true/\l.length+m.length<=sizeLine/\l.isEmpty=false then some (.tup (l++m)) else none
 | _,_=>none
open H in
def we4{K:PySem.W.Frag}(hK:c.K=K):OpD c (vd8 K) vg9:=by
 subst hK;intro d1 d2 v1 v2 H st d Q ok z1 z2 e q;unfold vg9 at e;split at e
 ·rename_i l m
  split at e
  ·rename_i h
   cases e;obtain⟨a,vs,ea,s1,i1⟩:=Is.tup_iff.mp z1;obtain⟨b,us,eb,s2,i2⟩:=Is.tup_sq z2;have hl:vs≠[]:=λz=>by
    have:=i1.length;rw[z] at this;have h4:=h.2.2.2;cases l with
    | nil=>cases h4
    | cons _ _=>cases this
   refine⟨a,b,vs,us,ea,eb,.of s1,s2,hl,by rw[<-i1.length,<-i2.length];exact h.2.2.1,λhz=>?_,λ_ p hp=>q _ _ (Ext.laid hp) (zg6 ok hp) (New.tup ok hp (λ_ n=>n) (ze9 h.1 h.2.1) (i1.append i2))⟩;have hm:m=[]:=by
    have:=i2.length;rw[hz] at this;exact List.length_eq_zero_iff.mp this
   rw[hm,Bq0] at q;exact q _ H Ext.refl ok (Is.tup s1 (IsL.ofImm h.1 i1))
  ·cases e
 ·cases e
end
noncomputable def yo5:D->Option Key
 | .int i=>some (.inl i)
 | .str x=>some (.inr x)
 | _=>none
noncomputable def wy2:List D->Option (List Key)
 | []=>some []
 | d::l=>(yo5 d).bind λk=>(wy2 l).map λr=>k::r
noncomputable def zc8:D->Option (List Key)
 | .tup l=>wy2 l
 | _=>none
def yt4(k:Key):yo5 (va7 k)=some k:=by cases k<;>rfl
theorem yo4:∀k:List Key,wy2 (k.map va7)=some k
 | []=>rfl
 | a::k=>by
   show (yo5 (va7 a)).bind (λx=>(wy2 (k.map va7)).map λr=>x::r)=some (a::k);rw[yt4,yo4 k];rfl
def zh7(k:List Key):zc8 (wr2 k)=some k:=yo4 k
section
variable{K:PySem.W.Frag}{A:Addr->Prop}{H:Hp}
theorem xl0(e:yo5 d=some k)(h:Is K A H d v):v=kV k/\d=va7 k:=by
 cases d with
 | int i=>cases e;exact⟨Is.int_iff.mp h,rfl⟩
 | str x=>cases e;exact⟨Is.str_iff.mp h,rfl⟩
 | _=>cases e
theorem yw9:∀{l:List D} {k:List Key} {vs:List V},wy2 l=some k->IsL K A H l vs->vs=k.map kV/\l=k.map va7
 | [],k,vs,e,h=>by cases e;exact⟨IsL.nil.mp h,rfl⟩
 | d::l,k,vs,e,h=>by
   unfold wy2 at e;cases q1:yo5 d with
   | none=>rw[q1] at e;cases e
   | some a=>
     cases q2:wy2 l with
     | none=>rw[q1,q2] at e;cases e
     | some r=>
       rw[q1,q2] at e;have e:some (a::r)=some k:=e;cases e;obtain⟨v,us,e1,i1,i2⟩:=IsL.cons.mp h;obtain⟨e2,e3⟩:=xl0 q1 i1;obtain⟨e4,e5⟩:=yw9 q2 i2;subst e1 e2 e4;exact⟨rfl,by rw[e3,e5];rfl⟩
theorem zv7(e:zc8 d=some k)(h:Is K A H d v):∃b,v=.ref b/\H b=some (.tup (k.map kV))/\d=wr2 k:=by
 cases d with
 | tup l=>
   obtain⟨b,vs,e1,s,i⟩:=Is.tup_iff.mp h;obtain⟨e2,e3⟩:=yw9 (show wy2 l=some k from e) i;exact⟨b,e1,by rw[<-e2];exact s,by rw[e3];rfl⟩
 | _=>cases e
noncomputable def wr0(k:List Key):List D->List D->Option D
 | d::ks,v::vs=>if zc8 d=some k then some v else wr0 k ks vs
 | _,_=>none
theorem ye8(k:List Key):∀{kk:List (List Key)} {vs:List D} {us:List V},kk.length=us.length->IsL K A H vs us->
 (wr0 k (kk.map wr2) vs=none/\wx0 (kk.zip us) k=none)\/∃d v,wr0 k (kk.map wr2) vs=some d/\wx0 (kk.zip us) k=some v/\Is K A H d v
 | [],vs,us,hl,h=>.inl ⟨by unfold wr0;cases vs<;>rfl,rfl⟩
 | x::kk,vs,us,hl,h=>by
   cases vs with
   | nil=>rw[IsL.nil.mp h] at hl;cases hl
   | cons d vs=>
     obtain⟨v,r,e1,i1,i2⟩:=IsL.cons.mp h;subst e1;have hl':kk.length=r.length:=by simpa using hl
     by_cases e:x=k
     ·refine .inr ⟨d,v,?_,zo0 (p:=(x,v)) e,i1⟩
      show (if zc8 (wr2 x)=some k then some d else _)=some d;rw[zh7,if_pos (by rw[e])]
     ·have e':¬zc8 (wr2 x)=some k:=by rw[zh7];exact λz=>e (Option.some.inj z)
      have a1:wr0 k ((x::kk).map wr2) (d::vs)=wr0 k (kk.map wr2) vs:=by
       show (if zc8 (wr2 x)=some k then some d else _)=_;rw[if_neg e']
      have a2:wx0 ((x::kk).zip (v::r)) k=wx0 (kk.zip r) k:=zo1 (p:=(x,v)) e;rw[a1,a2];exact ye8 k hl' i2
end
section
variable{X:Cx}{S:Type}{W:Wd S}{c:Dx W}{g ga gb:Gr}{a b:Expr}{pos:Pos}{fa fb:Fn S}
def yy5:DE X c g (.Dict [] [] pos) (fC S (.dct [.non] [])):=xs5.imp λσ H Q ⟨ρ,st,R,ok,w⟩ p hp=>
 w _ _ (Ext.laid hp) (zg6 ok hp) (New.val R (Is.dct_iff.mpr ⟨p,[],rfl,⟨zm9 ok hp,hp⟩,IsL.nil.mpr rfl,.inr ⟨[],rfl,rfl,zb3⟩⟩) g)
noncomputable def ve2(neg:Bool)(k d:D):Option D:=match d with
 | .dct (.non::ks) vs=>(zc8 k).map λkk=>.bl (if neg then !(wr0 kk ks vs).isSome else (wr0 kk ks vs).isSome)
 | _=>none
def xz5{A:Addr->Prop}{H:Hp}{K:PySem.W.Frag}{k:D}{ks vs:List D}{kk:List Key}{v1 v2:V}(hk:zc8 k=some kk)(h1:Is K A H k v1)(h2:Is K A H (.dct (.non::ks) vs) v2) :
 ∃a o,v2=.ref a/\ww8 H a v1 o/\((wr0 kk ks vs=none/\o=none)\/∃d v,wr0 kk ks vs=some d/\o=some v/\Is K A H d v):=by
 obtain⟨b,eb,hb,_⟩:=zv7 hk h1;obtain⟨a,us,ea,_,i,q⟩:=Is.dct_iff.mp h2;rcases q with⟨k1,e1,_,_⟩ | ⟨k2,e2,el,eH⟩
 ·cases k1 with
  | nil=>cases e1
  | cons z r=>
    have:D.non=va7 z:=(List.cons.inj e1).1;cases z<;>cases this
 ·have e3:ks=k2.map wr2:=(List.cons.inj e2).2
  subst e3 eb;refine⟨a,_,ea,ww8.t eH hb,?_⟩;rcases ye8 kk el i with⟨z1,z2⟩ | ⟨d,v,z1,z2,z3⟩
  ·exact .inl ⟨z1,z2⟩
  ·exact .inr ⟨d,v,z1,z2,z3⟩
open H in
def xw7{σ:St}{H:Hp}{Q:VK}{neg:Bool}(h:tD c g (f2 S (ve2 neg) fa fb) σ H Q):(λσ H Q=>tD c ga fa σ H λy H1=>tD c gb fb σ H1 λx H2=>∃a o,x=.ref a/\ww8 H2 a y o/\Q (.bl (if neg then !o.isSome else o.isSome)) H2) σ H Q:=by
 have hr:OpD c (λy x H2 Q=>∃a o,x=.ref a/\ww8 H2 a y o/\Q (.bl (if neg then !o.isSome else o.isSome)) H2) (ve2 neg):=by
  intro d1 d2 v1 v2 H st d Q ok z1 z2 e q;unfold ve2 at e;split at e
  ·rename_i ks vs
   cases hk:zc8 d1 with
   | none=>rw[hk] at e;cases e
   | some kk=>
     rw[hk] at e;cases e;obtain⟨a,o,ea,dg,ho⟩:=xz5 hk z1 z2;refine⟨a,o,ea,dg,?_⟩;have eo:o.isSome=(wr0 kk ks vs).isSome:=by
      rcases ho with⟨h1,h2⟩ | ⟨_,_,h1,h2,_⟩<;>rw[h1,h2]<;>rfl
     rw[eo];exact q _ H Ext.refl ok zn5
  ·cases e
 exact vb5 hr h
def xz6(hu:X.A.units+1<cLine)(ha:DE X c ga a fa)(hb:DE X c gb b fb)(hm:behindInMarks .In b=false:=by rfl):DE X c g (.Compare a [.In] [b] pos) (f2 S (ve2 false) fa fb):=
 (wl3 (wl5 hu ha hb) hm).imp λσ H Q q=>xw7 q
end
noncomputable def wt7(k:List Key)(v:D)(ks vs:List D):List D×List D:=
 if (wr0 k ks vs).isSome=true then (ks,List.zipWith (λd u=>if zc8 d=some k then v else u) ks vs) else (ks++[wr2 k],vs++[v])
section
variable{K:PySem.W.Frag}{A:Addr->Prop}{H:Hp}
theorem xg2(hd:Is K A H d v):∀{kk:List (List Key)} {vs:List D} {us:List V},kk.length=us.length->IsL K A H vs us->
 ∃us',IsL K A H (List.zipWith (λx u=>if zc8 x=some k then d else u) (kk.map wr2) vs) us'/\kk.length=us'.length/\(kk.zip us).map (λkv=>if kv.1=k then (kv.1,v) else kv)=kk.zip us'
 | [],vs,us,hl,h=>⟨[],by simpa using IsL.nil.mpr rfl,rfl,rfl⟩
 | x::kk,vs,us,hl,h=>by
   cases vs with
   | nil=>rw[IsL.nil.mp h] at hl;cases hl
   | cons e vs=>
     obtain⟨u,r,e1,i1,i2⟩:=IsL.cons.mp h;subst e1;obtain⟨us',g1,g2,g3⟩:=xg2 hd (kk:=kk) (by simpa using hl) i2;by_cases z:x=k
     ·refine⟨v::us',?_,by simp[g2],?_⟩
      ·show IsL K A H ((if zc8 (wr2 x)=some k then d else e)::_) _
       rw[zh7,if_pos (by rw[z])];exact IsL.cons.mpr ⟨v,us',rfl,hd,g1⟩
      ·show (if x=k then (x,v) else (x,u))::_=(x,v)::kk.zip us'
       rw[if_pos z,<-g3];rfl
     ·refine⟨u::us',?_,by simp[g2],?_⟩
      ·show IsL K A H ((if zc8 (wr2 x)=some k then d else e)::_) _
       rw[zh7,if_neg (λq=>z (Option.some.inj q))];exact IsL.cons.mpr ⟨u,us',rfl,i1,g1⟩
      ·show (if x=k then (x,v) else (x,u))::_=(x,u)::kk.zip us'
       rw[if_neg z,<-g3];rfl
def xo1{k:List Key}{d:D}{v:V}(hd:Is K A H d v){kk:List (List Key)}{vs:List D}{us:List V}(hl:kk.length=us.length)(h:IsL K A H vs us) :
 ∃(kk':List (List Key)) (us':List V),(wt7 k d (kk.map wr2) vs).1=kk'.map wr2/\IsL K A H (wt7 k d (kk.map wr2) vs).2 us'/\kk'.length=us'.length/\wu1 (kk.zip us) k v=kk'.zip us':=by
 have hv:=ye8 k hl h;unfold wt7 wu1;rw[zu6];rcases hv with⟨z1,z2⟩ | ⟨d',v',z1,z2,_⟩
 ·rw[z1,z2]
  refine⟨kk++[k],us++[v],?_,?_,?_,?_⟩
  ·simp
  ·simpa using h.append (IsL.one hd)
  ·simp[hl]
  ·simp[List.zip_append hl]
 ·rw[z1,z2]
  obtain⟨us',g1,g2,g3⟩:=xg2 (k:=k) hd hl h;exact⟨kk,us',rfl,g1,g2,g3⟩
end
theorem yx1(hd:d.imm=true):∀{ks vs:List D},D.immL vs=true->D.immL (List.zipWith (λx u=>if zc8 x=some k then d else u) ks vs)=true
 | [],vs,_=>by simp[D.immL]
 | x::ks,[],_=>by simp[D.immL]
 | x::ks,v::vs,h=>by
   have h':v.imm=true/\D.immL vs=true:=by simpa [D.immL] using h
   show (D.imm (if zc8 x=some k then d else v)&&D.immL _)=true;rw[yx1 hd h'.2];by_cases z:zc8 x=some k
   ·rw[if_pos z,hd];rfl
   ·rw[if_neg z,h'.1];rfl
def yd8(hd:d.imm=true)(h:D.immL vs=true):D.immL (wt7 k d ks vs).2=true:=by
 unfold wt7;split
 ·exact yx1 hd h
 ·exact ze9 h (by simp[D.immL,hd])
section
variable{X:Cx}{S:Type}{W:Wd S}{c:Dx W}{g ga gb:Gr}{a b:Expr}{fk fv:Fn S}{i:Nat}
noncomputable def wv2(ρ:Rho)(i:Nat):Option (List D×List D):=match ρ[i]? with
 | some (.own (.dct (.non::ks) vs))=>if D.immL vs=true then some (ks,vs) else none
 | _=>none
def xc5(h:wv2 ρ i=some (ks,vs)):ρ[i]?=some (.own (.dct (.non::ks) vs))/\D.immL vs=true:=by
 unfold wv2 at h;split at h
 ·split at h
  ·cases h;exact⟨by assumption,by assumption⟩
  ·cases h
 ·cases h
noncomputable def xx0(S:Type)(i:Nat)(fk fv:Fn S):FnS S:=λρ st=>(fv ρ st).bind λv st1=>match wv2 ρ i with
 | some (ks,vs)=>(fk ρ st1).bind λk st2=>match zc8 k with
   | some kk=>if v.imm=true/\ks.length<sizeLine then .ok (.nx (ρ.set i (.own (.dct (.non::(wt7 kk v ks vs).1) (wt7 kk v ks vs).2)))) st2 else .bad
   | none=>.bad
 | none=>.bad
def zx8{x:Str}{k value:Expr}{p1 p2 pos:Pos}(hu:X.A.units+1<cLine)(hx:PE X (.Name x p1) (wy6 i))(hk:DE X c ga k fk)(hv:DE X c gb value fv)(hs:swapsWith value (some (.Subscript (.Name x p1) k p2)) pos.line X.env=pure false:=by rfl) :
 DS X c (.Assign [.Subscript (.Name x p1) k p2] value pos) (xx0 S i fk fv):=
 (xh3 hu hx hk hv hs).imp λD σ H q=>by
  refine zi0 (yi3 (g:=gb) (k:=λv ρ st1=>match wv2 ρ i with
   | some (ks,vs)=>(fk ρ st1).bind λk st2=>match zc8 k with
     | some kk=>if v.imm=true/\ks.length<sizeLine then .ok (.nx (ρ.set i (.own (.dct (.non::(wt7 kk v ks vs).1) (wt7 kk v ks vs).2)))) st2 else .bad
     | none=>.bad
   | none=>.bad) q) λv H1 hh=>?_
  obtain⟨ρ,d,st0,st1,R,ok,R1,ok1,e1,z,w⟩:=hh;cases hd:wv2 ρ i with
  | none=>simp only[hd] at w;exact(show False from w).elim
  | some kv=>
    obtain⟨ks,vs⟩:=kv;simp only[hd] at w;obtain⟨ho,im⟩:=xc5 hd;obtain⟨ad,ea,nn,f0,us0,_⟩:=R1.slot i _ ho;refine⟨.ref ad,zg8 ea,ρ,st1,R1,ok1,za6 (za5.mp w) (λdk st2 q2 vk H2 e2 ok2 zk=>?_) λx st2 q2 H2 e2 ok2=>q2 H2 ((e1.trans e2).f0 R) ok2⟩;cases hkk:zc8 dk with
    | none=>simp only[hkk] at q2;exact(show False from q2).elim
    | some kk=>
      simp only[hkk] at q2;by_cases hc:d.imm=true/\ks.length<sizeLine
      ·rw[if_pos hc] at q2
       have R2:=R1.ext ok1 e2;obtain⟨ad',ea',nn',f0',us,iu,hq⟩:=R2.slot i _ ho;have:ad'=ad:=by
        have:=(zg8 ea').symm.trans (zg8 ea);cases this;rfl
       subst this;obtain⟨bk,ebk,hbk,_⟩:=zv7 hkk (show Is c.K (λb=>¬W.mv b) H2 dk vk from zk.toR);have zv:Is c.K (Av c σ ρ) H2 d v:=Is.ofImm hc.1 (z.toR.ext e2 ok1);rcases hq with⟨k1,x1,_,_⟩ | ⟨k2,x2,el,eH⟩
       ·cases k1 with
        | nil=>cases x1
        | cons y r=>
          have:L2.D.non=va7 y:=(List.cons.inj x1).1;cases y<;>cases this
       ·have e3:ks=k2.map wr2:=(List.cons.inj x2).2
        subst e3;obtain⟨kk',us',g1,g2,g3,g4⟩:=xo1 (k:=kk) zv el iu;have hz:(k2.zip us).length<sizeLine:=by
         rw[List.length_zip,<-el,Nat.min_self];have:=hc.2;rw[Aa0] at this;exact this
        have dp:=vf0.t (v:=v) eH hbk hz;rw[g4] at dp;subst ebk;refine⟨ad',_,rfl,dp,?_⟩;obtain⟨R3,F3⟩:=R2.wr (d':=.dct (.non::(wt7 kk d (k2.map wr2) vs).1) (wt7 kk d (k2.map wr2) vs).2) (o:=.dT (kk'.zip us')) ho (zg8 ea') ⟨(λu z=>by cases z),(λob u z=>by cases z)⟩
         λkt=>⟨us',g2.mono kt,.inr ⟨kk',by rw[g1],g3,zb3⟩⟩
        exact q2 σ _ ((e1.trans e2).frm.trans F3) (yc7 ok2 nn.1) R3
      ·rw[if_neg hc] at q2;exact(show False from q2).elim
noncomputable def yv5(K:PySem.W.Frag):R2:=λx y H Q=>∃a b ys,x=.ref a/\y=.ref b/\SqT K H a []/\SqT K H b ys/\Q (.ref b) H
def xs9:OpR X (binaryOp .Add) (yv5 X.K):=by
 intro A3 s σ H x y v u Q I rx ry h;obtain⟨a,b,ys,rfl,rfl,ha,hb,q⟩:=h;cases rx;cases ry;obtain⟨its,r1,p1,_⟩:=I.tuple ha;obtain⟨its2,r2,p2,_⟩:=I.tuple hb;cases r1;obtain⟨⟨cls,dd,data,sl⟩,ho,hc,n,hd⟩:=id p1;obtain⟨⟨cls2,dd2,data2,sl2⟩,ho2,hc2,n2,hd2⟩:=id p2;simp only at hc hd hc2 hd2;subst hc hd hc2 hd2;exact concat_meets ⟨_,ho,rfl⟩ ⟨_,ho2,rfl⟩ noFill_tuple_add seq_tuple_add PySem.F.slot_tuple_add PySem.F.entry_tuple_add (PySem.F.args_tuple_add_2 _ _) (tuple_addW0 a b _ its2.toArray n n2 dd dd2 sl sl2 rfl) ⟨ho,ho2,⟨.ref b,H,I,rfl,q⟩⟩
noncomputable def xj6:D->D->Option D
 | .tup [],.tup m=>if D.immL m=true then some (.tup m) else none
 | _,_=>none
open H in
def xt1{K:PySem.W.Frag}:OpD c (yv5 K) xj6:=by
 intro d1 d2 v1 v2 H st d Q ok z1 z2 e q;unfold xj6 at e;split at e
 ·rename_i m
  split at e
  ·rename_i im
   cases e;obtain⟨a,vs,ea,s1,i1⟩:=Is.tup_iff.mp z1;obtain⟨b,us,eb,s2,i2⟩:=Is.tup_iff.mp z2;rw[IsL.nil.mp i1] at s1;refine⟨a,b,us,ea,eb,.of s1,.of s2,?_⟩;rw[<-eb];exact q _ H Ext.refl ok (Is.ofImm (by show D.immL m=true;exact im) z2)
  ·cases e
 ·cases e
end
end L2
namespace PySem
structure Wlk(prog:Program)(w:World)(it l:Addr)(xs:List Value)(P:Nat->Heap->Prop):Prop where
 keep:∀k h h',P k h->(∀b o,b=it\/b=l->h.get? b=some o->h'.get? b=some o)->P k h'
 item:∀(A:Around) (E:Value->Shared->Prop) (s:Shared) (k:Nat) (x:Value) (Q:Value->Shared->Prop),P k s.heap->xs[k]?=some x->
  (∀h',P (k+1) h'->Heap.SameBut it s.heap h'->Q x { s with heap:=h' })->wpAny (model prog w) A (Builtin.SmallTypes.nextOf (.ref it)) Q E s
 stop:∀(A:Around) (E:Value->Shared->Prop) (s:Shared) (k:Nat) (Q:Value->Shared->Prop),A.handled=none->P k s.heap->xs[k]?=none->
  (∀h' e,Heap.ExtBut it s.heap h'->(∃o,h'.get? e=some o/\o.cls=.type "StopIteration")->E (.ref e) { s with heap:=h' })->wpAny (model prog w) A (Builtin.SmallTypes.nextOf (.ref it)) Q E s
section
variable{prog:Program}{w:World}{it l:Addr}{xs:List Value}
def Wlk.tup(hne:it≠l):Wlk prog w it l xs (λk h=>h.IsTupleIter it l k/\h.IsTuple l xs.toArray) where
 keep:=λk h h' ⟨a,b⟩ q=>⟨a.at λo e=>q it o (.inl rfl) e,by
  obtain⟨o,ho,r⟩:=b;exact⟨o,q l o (.inr rfl) ho,r⟩⟩
 item:=λA E s k x Q ⟨a,b⟩ hx hQ=>zn4 a b (by simpa using hx) λh' a' sb=>hQ h' ⟨a',by
  obtain⟨o,ho,r⟩:=b;exact⟨o,sb.extBut l o hne.symm ho,r⟩⟩ sb
 stop:=λA E s k Q hh ⟨a,b⟩ hx hE=>zp3 hh a b (by simpa using hx) hE
def Wlk.lst(hne:it≠l):Wlk prog w it l xs (λk h=>h.IsListIter it l k/\h.IsList l xs.toArray) where
 keep:=λk h h' ⟨a,b⟩ q=>⟨a.at λo e=>q it o (.inl rfl) e,b.at λo e=>q l o (.inr rfl) e⟩
 item:=λA E s k x Q ⟨a,b⟩ hx hQ=>wpAny_nextOf_list_item a b (by simpa using hx) λh' a' sb=>hQ h' ⟨a',b.extBut sb.extBut hne.symm⟩ sb
 stop:=λA E s k Q hh ⟨a,b⟩ hx hE=>wpAny_nextOf_list_end hh a b (by simpa using hx) hE
end
section
variable{prog:Program}{w:World}{A:Around}{E:Value->Shared->Prop}{s:Shared}{z TI TO i1 i2 l1 l2:Addr}{xs ys:List Value}{P1 P2:Nat->Heap->Prop}{k:Nat}{x y a b:Value}
structure ZAp(z TI TO i1 i2 l1 l2:Addr):Prop where
 zTI:z≠TI
 zTO:z≠TO
 z1:z≠i1
 z2:z≠i2
 io:TI≠TO
 I1:TI≠i1
 I2:TI≠i2
 O1:TO≠i1
 O2:TO≠i2
 ii:i1≠i2
 lz1:l1≠z
 lo1:l1≠TO
 li1:l1≠i2
 lz2:l2≠z
 lo2:l2≠TO
 li2:l2≠i1
def Wlk.ext(W:Wlk prog w it l xs P){k:Nat}(p:P k h)(e:Heap.ExtBut c h h')(n1:it≠c)(n2:l≠c):P k h':=
 W.keep k h h' p λb o hb q=>by
  rcases hb with r | r
  ·subst r;exact e _ o n1 q
  ·subst r;exact e _ o n2 q
def xp9{Q:Value->Shared->Prop}(W1:Wlk prog w i1 l1 xs P1)(W2:Wlk prog w i2 l2 ys P2)(D:ZAp z TI TO i1 i2 l1 l2)(hz:IsZip s.heap z TI TO .none)(hTI:IsPair s.heap TI (.ref i1) (.ref i2))(hTO:IsPair s.heap TO a b)(p1:P1 k s.heap)(p2:P2 k s.heap)(hx:xs[k]?=some x)(hy:ys[k]?=some y)(hQ:∀h',IsZip h' z TI TO (rawInt s.heap.objs.size)->IsPair h' TO x y->P1 (k+1) h'->P2 (k+1) h'->IsPair h' s.heap.objs.size x y->h'.objs.size=s.heap.objs.size+1->
  (∀c o,c∉[z,TO,i1,i2]->s.heap.get? c=some o->h'.get? c=some o)->Q (.ref s.heap.objs.size) { s with heap:=h' }) :
 wpAny (model prog w) A (Builtin.«zip.__next__» ⟨[.ref z],[]⟩) (λfin s'=>∃v,fin=.done (.ret v)/\Q v s') E s:=by
 show wpAny (model prog w) A (field (.ref z) 2 >>= λ_=>_) _ _ s;refine Aa1 (Ae1 hz rfl (x:=.bool false) rfl ?_);show wpAny (model prog w) A (field (.ref z) 3 >>= λ_=>_) _ _ s;refine Aa1 (Ae1 hz rfl (x:=.ref TI) rfl (Aa1 (An1 hTI rfl ?_)));show wpAny (model prog w) A (Builtin.SmallTypes.ownedTupleIsFree (.ref z) >>= λ_=>_) _ _ s;refine Aa1 ?_;unfold Builtin.SmallTypes.ownedTupleIsFree;refine Aa1 (Ae1 hz rfl (x:=.none) rfl (Ac1 ?_));rw[if_pos rfl];refine Aa1 (Aj1 (Aa1 (Ae1 hz rfl (x:=.ref TO) rfl (Aa1 (Ag1 hz (by simp) λg1 z1 c1=>?_)))));have z1:IsZip g1 z TI TO .ellipsis:=z1;have c1:Heap.SameBut z s.heap g1:=c1;refine Aa1 ?_;simp only[List.zipIdx_cons,List.zipIdx_nil,List.forIn_cons,List.forIn_nil];refine Aa1 (Aa1 (wpAny_onRaise ?_));show wpAny (model prog w) _ (Builtin.SmallTypes.nextOf (.ref i1) >>= λ_=>_) _ _ _;refine Aa1 (W1.item _ _ _ k x _ (W1.ext p1 c1.extBut D.z1.symm D.lz1) hx λg2 q1 c2=>Ac1 ?_);have c2:Heap.SameBut i1 g1 g2:=c2;have t2:IsPair g2 TO a b:=c2.extBut _ _ D.O1 (c1.extBut _ _ D.zTO.symm hTO);refine Aa1 (An1 t2 rfl (Aa1 (wpAny_updateSeq_pair t2 λg3 t3 c3=>?_)));have t3:IsPair g3 TO x b:=t3;have c3:Heap.SameBut TO g2 g3:=c3;refine Aa1 (wpAny_letGo (Ac1 (Aa1 (Aa1 (wpAny_onRaise ?_)))));show wpAny (model prog w) _ (Builtin.SmallTypes.nextOf (.ref i2) >>= λ_=>_) _ _ _;have p2':P2 k g3:=W2.ext (W2.ext (W2.ext p2 c1.extBut D.z2.symm D.lz2) c2.extBut D.ii.symm D.li2) c3.extBut D.O2.symm D.lo2;refine Aa1 (W2.item _ _ _ k y _ p2' hy λg4 q2 c4=>Ac1 ?_);have c4:Heap.SameBut i2 g3 g4:=c4;have t4:IsPair g4 TO x b:=c4.extBut _ _ D.O2 t3;refine Aa1 (An1 t4 rfl (Aa1 (wpAny_updateSeq_pair t4 λg5 t5 c5=>?_)));have t5:IsPair g5 TO x y:=t5;have c5:Heap.SameBut TO g4 g5:=c5;refine Aa1 (wpAny_letGo (Ac1 (Ac1 (Aa1 (An1 t5 rfl (Aa1 (wpAny_newTuple ?_)))))));have sz:g5.objs.size=s.heap.objs.size:=by rw[c5.1,c4.1,c3.1,c2.1,c1.1]
 have k5:∀c o,c∉[z,TO,i1,i2]->s.heap.get? c=some o->g5.get? c=some o:=λc o n e=>by
  simp only[Aj0,Bj0,or_false,not_or] at n;exact c5.extBut _ _ n.2.1 (c4.extBut _ _ n.2.2.2 (c3.extBut _ _ n.2.1 (c2.extBut _ _ n.2.2.1 (c1.extBut _ _ n.1 e))))
 have z5:IsZip g5 z TI TO .ellipsis:=c5.extBut _ _ D.zTO (c4.extBut _ _ D.z2 (c3.extBut _ _ D.zTO (c2.extBut _ _ D.z1 z1)));have r1:P1 (k+1) g5:=W1.ext (W1.ext (W1.ext q1 c3.extBut D.O1.symm D.lo1) c4.extBut D.ii D.li1) c5.extBut D.O1.symm D.lo1;have r2:P2 (k+1) g5:=W2.ext q2 c5.extBut D.O2.symm D.lo2;show wpAny (model prog w) A (Builtin.SmallTypes.ownedTupleHandOut (.ref z) (.ref g5.objs.size) >>= λ_=>_) _ _ _;refine Aa1 ?_;unfold Builtin.SmallTypes.ownedTupleHandOut;have z6:IsZip (g5.push { cls:=.type "tuple",data:=.seq #[x,y] }) z TI TO .ellipsis:=Ab0 _ z5;have lt:z<g5.objs.size:=Heap.lt_size z5;have n5:(g5.push { cls:=.type "tuple",data:=.seq #[x,y] }).get? g5.objs.size=some { cls:=.type "tuple",data:=.seq #[x,y] }:=Af0 _ rfl;refine Aa1 (Ag1 z6 (by simp) λg7 z7 c7=>?_);have z7:IsZip g7 z TI TO (rawInt g5.objs.size):=z7;have c7:Heap.SameBut z (g5.push { cls:=.type "tuple",data:=.seq #[x,y] }) g7:=c7;refine Ag1 z7 (by simp) λg8 z8 c8=>Ac1 ⟨_,rfl,?_⟩
 have z8:IsZip g8 z TI TO (rawInt g5.objs.size):=z8;have c8:Heap.SameBut z g7 g8:=c8;have up:∀c o,c≠z->g5.get? c=some o->g8.get? c=some o:=λc o n e=>c8.extBut _ _ n (c7.extBut _ _ n (Ab0 _ e))
 have ex:Heap.ExtBut z g5 g8:=λc o n e=>up c o n e
 have t8:IsPair g8 g5.objs.size x y:=c8.extBut _ _ (Nat.ne_of_gt lt) (c7.extBut _ _ (Nat.ne_of_gt lt) n5);have s8:g8.objs.size=g5.objs.size+1:=by rw[c8.1,c7.1,Bs0]
 show Q (.ref g5.objs.size) _;rw[sz] at z8 t8 s8 ⊢;exact hQ g8 z8 (up _ _ D.zTO.symm t5) (W1.ext r1 ex D.z1.symm D.lz1) (W2.ext r2 ex D.z2.symm D.lz2) t8 s8 λc o n e=>up c o (λh=>n (by simp[h])) (k5 c o n e)
theorem xq0(hh:A.handled=none)(W1:Wlk prog w i1 l1 xs P1)(W2:Wlk prog w i2 l2 ys P2)(D:ZAp z TI TO i1 i2 l1 l2)(hz:IsZip s.heap z TI TO .none)(hTI:IsPair s.heap TI (.ref i1) (.ref i2))(hTO:IsPair s.heap TO a b)(p1:P1 k s.heap)(p2:P2 k s.heap)(hend:xs[k]?=none\/ys[k]?=none)(hE:∀h' e,(∀c o,c∉[z,TO,i1,i2]->s.heap.get? c=some o->h'.get? c=some o)->(∃o,h'.get? e=some o/\o.cls=.type "StopIteration")->E (.ref e) { s with heap:=h' }) :
 wpAny (model prog w) A (Builtin.«zip.__next__» ⟨[.ref z],[]⟩) Q E s:=by
 have nz:∀{h:Heap} {e:Addr} {f0:Value} {o:Obj},IsZip h z TI TO f0->h.get? e=some o->o.cls=.type "StopIteration"->e≠z:=λ{h e f0 o} q1 q2 q3 q4=>by
  subst q4;rw[q1] at q2;cases q2;simp at q3
 show wpAny (model prog w) A (field (.ref z) 2 >>= λ_=>_) _ _ s;refine Aa1 (Ae1 hz rfl (x:=.bool false) rfl ?_);show wpAny (model prog w) A (field (.ref z) 3 >>= λ_=>_) _ _ s;refine Aa1 (Ae1 hz rfl (x:=.ref TI) rfl (Aa1 (An1 hTI rfl ?_)));show wpAny (model prog w) A (Builtin.SmallTypes.ownedTupleIsFree (.ref z) >>= λ_=>_) _ _ s;refine Aa1 ?_;unfold Builtin.SmallTypes.ownedTupleIsFree;refine Aa1 (Ae1 hz rfl (x:=.none) rfl (Ac1 ?_));rw[if_pos rfl];refine Aa1 (Aj1 (Aa1 (Ae1 hz rfl (x:=.ref TO) rfl (Aa1 (Ag1 hz (by simp) λg1 z1 c1=>?_)))));have z1:IsZip g1 z TI TO .ellipsis:=z1;have c1:Heap.SameBut z s.heap g1:=c1;refine Aa1 ?_;simp only[List.zipIdx_cons,List.zipIdx_nil,List.forIn_cons,List.forIn_nil];refine Aa1 (Aa1 (wpAny_onRaise ?_));show wpAny (model prog w) _ (Builtin.SmallTypes.nextOf (.ref i1) >>= λ_=>_) _ _ _;have p1':P1 k g1:=W1.ext p1 c1.extBut D.z1.symm D.lz1;cases hx:xs[k]? with
 | none=>
   refine Aa1 (W1.stop _ _ _ k _ hh p1' hx λg2 e c2 he=>?_);obtain⟨oe,ho,hc⟩:=he;have z2:IsZip g2 z TI TO .ellipsis:=c2 _ _ D.z1 z1;refine Ag1 z2 (by simp) λg3 _ c3=>hE g3 e (λc o n q=>?_) ⟨oe,c3.extBut _ _ (nz z2 ho hc) ho,hc⟩
   simp only[Aj0,Bj0,or_false,not_or] at n;exact c3.extBut _ _ n.1 (c2 _ _ n.2.2.1 (c1.extBut _ _ n.1 q))
 | some x=>
   have hy:ys[k]?=none:=by
    rcases hend with h | h
    ·rw[hx] at h;cases h
    ·exact h
   refine Aa1 (W1.item _ _ _ k x _ p1' hx λg2 q1 c2=>Ac1 ?_);have c2:Heap.SameBut i1 g1 g2:=c2;have t2:IsPair g2 TO a b:=c2.extBut _ _ D.O1 (c1.extBut _ _ D.zTO.symm hTO);refine Aa1 (An1 t2 rfl (Aa1 (wpAny_updateSeq_pair t2 λg3 t3 c3=>?_)));have c3:Heap.SameBut TO g2 g3:=c3;refine Aa1 (wpAny_letGo (Ac1 (Aa1 (Aa1 (wpAny_onRaise ?_)))));show wpAny (model prog w) _ (Builtin.SmallTypes.nextOf (.ref i2) >>= λ_=>_) _ _ _;have p2':P2 k g3:=W2.ext (W2.ext (W2.ext p2 c1.extBut D.z2.symm D.lz2) c2.extBut D.ii.symm D.li2) c3.extBut D.O2.symm D.lo2;refine Aa1 (W2.stop _ _ _ k _ hh p2' hy λg4 e c4 he=>?_);obtain⟨oe,ho,hc⟩:=he;have z4:IsZip g4 z TI TO .ellipsis:=c4 _ _ D.z2 (c3.extBut _ _ D.zTO (c2.extBut _ _ D.z1 z1));refine Ag1 z4 (by simp) λg5 _ c5=>hE g5 e (λc o n q=>?_) ⟨oe,c5.extBut _ _ (nz z4 ho hc) ho,hc⟩
   simp only[Aj0,Bj0,or_false,not_or] at n;exact c5.extBut _ _ n.1 (c4 _ _ n.2.2.2 (c3.extBut _ _ n.2.1 (c2.extBut _ _ n.2.2.1 (c1.extBut _ _ n.1 q))))
end
noncomputable def zO(nm:String)(l:Addr):Obj:={ cls:=.type nm,data:=.fields #[.ref l,.int 0 0] }
noncomputable def zA(nm:String)(h:Heap)(l1 l2:Addr):Heap:=(h.push (zO nm l1)).push (zO nm l2)
noncomputable def zB(nm:String)(h:Heap)(l1 l2:Addr):Heap:=((zA nm h l1 l2).push { cls:=.type "tuple",data:=.seq #[.ref h.objs.size,.ref (h.push (zO nm l1)).objs.size] }).push { cls:=.type "tuple",data:=.seq #[.none,.none] }
noncomputable def zC(nm:String)(h:Heap)(l1 l2:Addr):Heap:=(zB nm h l1 l2).push { cls:=.type "zip",data:=.fields #[.none,.bool false,.bool false,.ref (zA nm h l1 l2).objs.size,.ref ((zA nm h l1 l2).push { cls:=.type "tuple",data:=.seq #[.ref h.objs.size,.ref (h.push (zO nm l1)).objs.size] }).objs.size] }
def xb7(l1 l2:Addr)(xs ys:Array Value) :
 Meets (Builtin.«zip.__new__» ⟨[.type "zip",.ref l1,.ref l2],[]⟩) (λ_ R s=>s.heap.IsTuple l1 xs/\s.heap.IsTuple l2 ys/\
  R (.ok (.ret (.ref (zB "tuple_iterator" s.heap l1 l2).objs.size))) { s with heap:=zC "tuple_iterator" s.heap l1 l2 }):=
 .of_wp λprog w A R s h=>by
  obtain⟨hp,g,d,tk,os⟩:=s;obtain⟨hl1,hl2,h⟩:=h;have hsub:=sub_zip;have hL1:Heap.IsTuple (Shared.heap ⟨hp,g,d,tk,os⟩) l1 xs:=hl1;have hL2:Heap.IsTuple (Shared.heap ⟨hp.push { cls:=.type "tuple_iterator",data:=.fields #[.ref l1,.int 0 0] },g,d,tk,os⟩) l2 ys:=by
   obtain⟨o,ho,r⟩:=hl2;exact⟨o,Ab0 _ ho,r⟩
  wp_walk using wpAny_pyIter_tuple hL1,wpAny_pyIter_tuple hL2
  exact⟨_,rfl,h⟩
def yu6(nm:String)(h:Heap)(l1 l2:Addr):(h.push (zO nm l1)).objs.size=h.objs.size+1/\(zA nm h l1 l2).objs.size=h.objs.size+2/\(zB nm h l1 l2).objs.size=h.objs.size+4:=by
 refine⟨Bs0 ..,?_,?_⟩
 ·unfold zA;rw[Bs0,Bs0]
 ·unfold zB zA;rw[Bs0,Bs0,Bs0,Bs0]
def yu8(nm:String)(h:Heap)(l1 l2:Addr):IsZip (zC nm h l1 l2) (h.objs.size+4) (h.objs.size+2) (h.objs.size+3) .none/\IsPair (zC nm h l1 l2) (h.objs.size+2) (.ref h.objs.size) (.ref (h.objs.size+1))/\
 IsPair (zC nm h l1 l2) (h.objs.size+3) .none .none/\(zC nm h l1 l2).get? h.objs.size=some (zO nm l1)/\(zC nm h l1 l2).get? (h.objs.size+1)=some (zO nm l2)/\∀c o,h.get? c=some o->(zC nm h l1 l2).get? c=some o:=by
 obtain⟨s1,s2,s4⟩:=yu6 nm h l1 l2;have s3:((zA nm h l1 l2).push { cls:=.type "tuple",data:=.seq #[.ref h.objs.size,.ref (h.push (zO nm l1)).objs.size] }).objs.size=h.objs.size+3:=by rw[Bs0,s2]
 have u:∀{c:Addr} {o:Obj},(zB nm h l1 l2).get? c=some o->(zC nm h l1 l2).get? c=some o:=λ{c o} q=>Ab0 _ q
 have v:∀{c:Addr} {o:Obj},(zA nm h l1 l2).get? c=some o->(zC nm h l1 l2).get? c=some o:=λ{c o} q=>u (Ab0 _ (Ab0 _ q))
 refine⟨?_,?_,?_,v (Ab0 _ (Af0 _ rfl)),?_,λc o q=>v (Ab0 _ (Ab0 _ q))⟩
 ·have q:(zC nm h l1 l2).get? (zB nm h l1 l2).objs.size=some _:=Af0 _ rfl
  rw[s4,s3,s2] at q;exact q
 ·have q:(zC nm h l1 l2).get? (zA nm h l1 l2).objs.size=some _:=u (Ab0 _ (Af0 _ rfl))
  rw[s2,s1] at q;exact q
 ·have q:(zC nm h l1 l2).get? ((zA nm h l1 l2).push { cls:=.type "tuple",data:=.seq #[.ref h.objs.size,.ref (h.push (zO nm l1)).objs.size] }).objs.size=some _:=u (Af0 _ rfl)
  rw[s3] at q;exact q
 ·have q:(zA nm h l1 l2).get? (h.push (zO nm l1)).objs.size=some (zO nm l2):=Af0 _ rfl
  rw[s1] at q;exact v q
section
variable{prog:Program}{w:World}{A:Around}{E:Value->Shared->Prop}{s:Shared}
def xo9(hl1:s.heap.IsTuple l1 xs)(hl2:s.heap.IsTuple l2 ys)(h:Q (.ref (s.heap.objs.size+4)) { s with heap:=zC "tuple_iterator" s.heap l1 l2 }):wpAny (model prog w) A (call (.type "zip") [.ref l1,.ref l2]) Q E s:=by
 refine callType_new F.called_zip (by decide) (F.typeCall_zip_2 _ _) (F.newCall_zip_2 _ _) (λobj=>F.args_object_init_3 obj _ _) F.entry_zip_new (xb7 l1 l2 xs ys) ⟨hl1,hl2,?_⟩;obtain⟨q,_⟩:=yu8 "tuple_iterator" s.heap l1 l2;show _/\_;rw[(yu6 "tuple_iterator" s.heap l1 l2).2.2];exact⟨⟨_,q,rfl⟩,h⟩
def xp0(hl1:s.heap.IsList l1 xs)(hl2:s.heap.IsList l2 ys)(h:Q (.ref (s.heap.objs.size+4)) { s with heap:=zC "list_iterator" s.heap l1 l2 }):wpAny (model prog w) A (call (.type "zip") [.ref l1,.ref l2]) Q E s:=by
 refine callType_new F.called_zip (by decide) (F.typeCall_zip_2 _ _) (F.newCall_zip_2 _ _) (λobj=>F.args_object_init_3 obj _ _) F.entry_zip_new (meets_zip_new l1 l2 xs ys) ⟨hl1,hl2,?_⟩;obtain⟨q,_⟩:=yu8 "list_iterator" s.heap l1 l2;show _/\_;refine⟨⟨{ cls:=.type "zip",data:=.fields #[.none,.bool false,.bool false,.ref (s.heap.objs.size+2),.ref (s.heap.objs.size+3)] },?_,rfl⟩,?_⟩
 ·rw[show (zipH4 s.heap l1 l2).objs.size=s.heap.objs.size+4 from (yu6 "list_iterator" s.heap l1 l2).2.2];exact q
 ·rw[show (zipH4 s.heap l1 l2).objs.size=s.heap.objs.size+4 from (yu6 "list_iterator" s.heap l1 l2).2.2];exact h
end
end PySem
namespace L2
noncomputable def Izp(Sq:Hp->List V->List V->Prop):It:=
 ⟨λi H=>∃xs ys x y,Sq H xs ys/\xs[i]?=some x/\ys[i]?=some y,λi H v H'=>∃p x y,H p=none/\v=.ref p/\H'=upd H p (.tup [x,y])/\∀xs ys,Sq H xs ys->xs[i]?=some x/\ys[i]?=some y,λi H=>∃xs ys,Sq H xs ys/\(xs.length<=i\/ys.length<=i)⟩
structure ZW(P:Program)(w:World)(K:PySem.W.Frag)(l1 l2 i1 i2:Addr)(Sq:Hp->List V->List V->Prop)(T1 T2:Nat->Heap->Prop):Prop where
 obj:∀k h,(T1 k h->∃o,h.get? i1=some o/\∀v,o.data≠.cell v)/\(T2 k h->∃o,h.get? i2=some o/\∀v,o.data≠.cell v)
 keep:∀k h h',(T1 k h->(∀o,h.get? i1=some o->h'.get? i1=some o)->T1 k h')/\(T2 k h->(∀o,h.get? i2=some o->h'.get? i2=some o)->T2 k h')
 there:∀H xs ys,Sq H xs ys->H l1≠none/\H l2≠none
 vals:∀(X:Cx),X.K=K->∀A3 σ H s xs ys,Inv X A3 σ H s->Sq H xs ys->i1≠l1->i2≠l2->∃us vs,wr4 xs us/\wr4 ys vs/\(∀xs' ys',Sq H xs' ys'->xs'=xs/\ys'=ys)/\∃P1 P2:Nat->Heap->Prop,Wlk P w i1 l1 us P1/\Wlk P w i2 l2 vs P2/\
  (∀k,T1 k s.heap->P1 k s.heap)/\(∀k,T2 k s.heap->P2 k s.heap)/\∀k h,(P1 k h->T1 k h)/\(P2 k h->T2 k h)
def nd5(h:[a,b,c,d,e].Nodup):(a≠b/\a≠c/\a≠d/\a≠e)/\(b≠c/\b≠d/\b≠e)/\(c≠d/\c≠e)/\d≠e:=by
 simpa only[Bx0,Aj0,Bj0,or_false,not_or,List.nodup_nil,and_true,not_false_eq_true] using h
def vv4(h:x∈[a,b,c,d,e]):x=a\/x=b\/x=c\/x=d\/x=e:=by
 simpa only[Aj0,Bj0,or_false] using h
def nm5(h:x∉[a,b,c,d,e]):x≠a/\x∉[a,c,d,e]:=by
 simp only[Aj0,Bj0,or_false,not_or] at h ⊢;exact⟨h.1,h.1,h.2.2⟩
def nm4(h1:x≠a)(h2:x≠b)(h3:x≠c)(h4:x≠d):x∉[a,b,c,d]:=by
 simp only[Aj0,Bj0,or_false,not_or];exact⟨h1,h2,h3,h4⟩
def vr1(h:x∈[a,c,d,e]):x∈[a,b,c,d,e]:=by
 simp only[Aj0,Bj0,or_false] at h ⊢;rcases h with r | r | r | r
 ·exact .inl r
 ·exact .inr (.inr (.inl r))
 ·exact .inr (.inr (.inr (.inl r)))
 ·exact .inr (.inr (.inr (.inr r)))
open H in
def yv0{P:Program}{w:World}{K:PySem.W.Frag}{elts:List Expr}{x1}{pos:Pos}{l1 l2 z TI TO i1 i2:Addr}{Sq:Hp->List V->List V->Prop}{T1 T2:Nat->Heap->Prop}(Z:ZW P w K l1 l2 i1 i2 Sq T1 T2)(nd:[z,TI,TO,i1,i2].Nodup):vi0 P w K (.Tuple elts x1 pos) (Izp Sq) [z,TI,TO,i1,i2] z (λi h=>IsZip h z TI TO .none/\IsPair h TI (.ref i1) (.ref i2)/\(∃a b,IsPair h TO a b)/\T1 i h/\T2 i h) where
 mem:=by simp
 obj:=λi h st b hb=>by
  obtain⟨h1,h2,⟨_,_,h3⟩,h4,h5⟩:=st;have nc:∀{d:Data} {v:Option Value},d=Data.cell v->(∃u,d=.fields u)\/(∃u n,d=.seq u n)->False:=λe q=>by
   subst e;rcases q with⟨u,q⟩ | ⟨u,n,q⟩<;>cases q
  have hb:=vv4 hb;rcases hb with r | r | r | r | r
  ·subst r;exact⟨_,h1,λv e=>nc (v:=v) e (.inl ⟨_,rfl⟩)⟩
  ·subst r;exact⟨_,h2,λv e=>nc (v:=v) e (.inr ⟨_,_,rfl⟩)⟩
  ·subst r;exact⟨_,h3,λv e=>nc (v:=v) e (.inr ⟨_,_,rfl⟩)⟩
  ·subst r;exact(Z.obj i h).1 h4
  ·subst r;exact(Z.obj i h).2 h5
 keep:=λi h h' st q=>by
  obtain⟨h1,h2,⟨a,b,h3⟩,h4,h5⟩:=st;exact⟨q _ (by simp) _ h1,q _ (by simp) _ h2,⟨a,b,q _ (by simp) _ h3⟩,(Z.keep i h h').1 h4 λo e=>q _ (by simp) o e,(Z.keep i h h').2 h5 λo e=>q _ (by simp) o e⟩
 item:=by
  intro X hP hw hK hc i A3 s σ H E I hf st hg;subst hP hw;obtain⟨xs,ys,x,y,hq,hx,hy⟩:=hg;obtain⟨h1,h2,⟨a,b,h3⟩,h4,h5⟩:=st;obtain⟨n1,n2⟩:=Z.there H xs ys hq;have no:∀c∈[z,TI,TO,i1,i2],l1≠c/\l2≠c:=λc hb=>⟨λe=>n1 (by rw[e];exact(hf c hb).1),λe=>n2 (by rw[e];exact(hf c hb).1)⟩
  obtain⟨us,vs,ru,rv,inj,P1,P2,W1,W2,p1,p2,pt⟩:=Z.vals X hK A3 σ H s xs ys I hq (no i1 (by simp)).1.symm (no i2 (by simp)).2.symm;obtain⟨u,hu,rx⟩:=ru.get hx;obtain⟨v,hv,ry⟩:=rv.get hy;have nd:=nd5 nd;have D:ZAp z TI TO i1 i2 l1 l2:=⟨nd.1.1,nd.1.2.1,nd.1.2.2.1,nd.1.2.2.2,nd.2.1.1,nd.2.1.2.1,nd.2.1.2.2,nd.2.2.1.1,nd.2.2.1.2,nd.2.2.2,(no z (by simp)).1,(no TO (by simp)).1,(no i2 (by simp)).1,(no z (by simp)).2,(no TO (by simp)).2,(no i1 (by simp)).2⟩;have hT:s.TypeIs (.ref z) "zip":=⟨_,h1,rfl⟩;unfold pyNext;refine Aa1 (wpAny_attempt (wpAny_callSpecial?_slot (name:=Str.ofString "__next__") hT F.slot_zip_next (Ak1 F.slot_zip_next hT F.entry_zip_next (xp9 W1 W2 D h1 h2 h3 (p1 i h4) (p2 i h5) hu hv λh' a1 a2 a3 a4 a5 a6 kk=>Ac1 ?_) (F.args_zip_next_1 _))));refine⟨_,rfl,wpAny_letOwnedTupleGo_zip (s:={ s with heap:=h' }) a1 λg2 zz sb=>?_⟩;have sb:Heap.SameBut z h' g2:=sb;have lt:∀{c:Addr} {o:Obj},s.heap.get? c=some o->c≠s.heap.objs.size:=λe=>As0 (Heap.lt_size e)
  have k2:∀b o,b∉[z,TI,TO,i1,i2]->s.heap.get? b=some o->g2.get? b=some o:=λb o hb q=>by
   exact sb.extBut b o (nm5 hb).1 (kk b o (nm5 hb).2 q)
  have kTI:g2.get? TI=_:=sb.extBut TI _ D.zTI.symm (kk TI _ (nm4 D.zTI.symm D.io D.I1 D.I2) h2);have tt:IsTup g2 s.heap.objs.size [u,v].toArray/\NoD g2 s.heap.objs.size:=⟨⟨_,sb.extBut _ _ (lt h1).symm a5,rfl,_,rfl⟩,⟨_,sb.extBut _ _ (lt h1).symm a5,rfl⟩⟩;refine⟨.ref s.heap.objs.size,_,I.turnedT (t':=s.toks) (p:=s.heap.objs.size) (vs:=[x,y]) hf k2 (Ad0 _) (.cons rx (.cons ry .nil)) (by show 2<=sizeLine;decide) tt.1 tt.2,rfl,⟨_,x,y,I.hok.fresh (Ad0 _),rfl,rfl,λxs' ys' hy'=>by
   obtain⟨e1,e2⟩:=inj xs' ys' hy';rw[e1,e2];exact⟨hx,hy⟩⟩,⟨zz,kTI,⟨_,_,sb.extBut _ _ D.zTO.symm a2⟩,(Z.keep (i+1) h' g2).1 ((pt (i+1) h').1 a3) λo e=>sb.extBut _ o D.z1.symm e,(Z.keep (i+1) h' g2).2 ((pt (i+1) h').2 a4) λo e=>sb.extBut _ o D.z2.symm e⟩,λb hb=>?_⟩
  have nb:b≠s.heap.objs.size:=by
   have hb:=vv4 hb;rcases hb with r | r | r | r | r
   ·subst r;exact lt h1
   ·subst r;exact lt h2
   ·subst r;exact lt h3
   ·subst r;obtain⟨o,e,_⟩:=(Z.obj i s.heap).1 h4;exact lt e
   ·subst r;obtain⟨o,e,_⟩:=(Z.obj i s.heap).2 h5;exact lt e
  rw[za9 nb];exact(hf b hb).1
 done:=by
  intro X hP hw hK hc i A3 s σ H E I hf st hg;subst hP hw;obtain⟨xs,ys,hq,hx⟩:=hg;obtain⟨h1,h2,⟨a,b,h3⟩,h4,h5⟩:=st;obtain⟨n1,n2⟩:=Z.there H xs ys hq;have no:∀c∈[z,TI,TO,i1,i2],l1≠c/\l2≠c:=λc hb=>⟨λe=>n1 (by rw[e];exact(hf c hb).1),λe=>n2 (by rw[e];exact(hf c hb).1)⟩
  obtain⟨us,vs,ru,rv,inj,P1,P2,W1,W2,p1,p2,pt⟩:=Z.vals X hK A3 σ H s xs ys I hq (no i1 (by simp)).1.symm (no i2 (by simp)).2.symm;have nd:=nd5 nd;have D:ZAp z TI TO i1 i2 l1 l2:=⟨nd.1.1,nd.1.2.1,nd.1.2.2.1,nd.1.2.2.2,nd.2.1.1,nd.2.1.2.1,nd.2.1.2.2,nd.2.2.1.1,nd.2.2.1.2,nd.2.2.2,(no z (by simp)).1,(no TO (by simp)).1,(no i2 (by simp)).1,(no z (by simp)).2,(no TO (by simp)).2,(no i1 (by simp)).2⟩;have hT:s.TypeIs (.ref z) "zip":=⟨_,h1,rfl⟩;have en:us[i]?=none\/vs[i]?=none:=by
   rcases hx with hx | hx
   ·exact .inl (List.getElem?_eq_none (by rw[<-ru.length];exact hx))
   ·exact .inr (List.getElem?_eq_none (by rw[<-rv.length];exact hx))
  unfold pyNext;refine Aa1 (wpAny_attempt (wpAny_callSpecial?_slot (name:=Str.ofString "__next__") hT F.slot_zip_next (Ak1 F.slot_zip_next hT F.entry_zip_next (xq0 (I.ok.hd hc) W1 W2 D h1 h2 h3 (p1 i h4) (p2 i h5) en λh' e kk he=>?_) (F.args_zip_next_1 _))));obtain⟨o,ho,hcls⟩:=he;refine Aa1 (wpAny_isInstance (T:="StopIteration") (b:=true) ⟨o,ho,hcls⟩ isSubtype_stop (Ac1 ⟨rfl,I.turnedF hf λb o hb q=>kk b o (λn=>hb (vr1 n)) q⟩))
 self:=λ_ _ _ _ _ st h=>wpAny_pyIter_zip st.1 h
noncomputable def vp0(a b:Addr):Hp->List V->List V->Prop:=λH xs ys=>H a=some (.tup xs)/\H b=some (.tup ys)
noncomputable def vp1(a b:Addr):Hp->List V->List V->Prop:=λH xs ys=>H a=some (.lst xs)/\H b=some (.lst ys)
def wi1{P:Program}{w:World}{K:PySem.W.Frag}{l1 l2 i1 i2:Addr}:ZW P w K l1 l2 i1 i2 (vp0 l1 l2) (λk h=>h.IsTupleIter i1 l1 k) (λk h=>h.IsTupleIter i2 l2 k) where
 obj:=λk h=>⟨λ⟨o,ho,c,d⟩=>⟨o,ho,λv z=>by rw[d] at z;cases z⟩,λ⟨o,ho,c,d⟩=>⟨o,ho,λv z=>by rw[d] at z;cases z⟩⟩
 keep:=λk h h'=>⟨λa q=>a.at q,λa q=>a.at q⟩
 there:=λH xs ys q=>⟨(λz=>by rw[q.1] at z;cases z),(λz=>by rw[q.2] at z;cases z)⟩
 vals:=λX hK A3 σ H s xs ys I q n1 n2=>by
  obtain⟨us,ru,t1,_⟩:=I.tuple (SqT.of q.1);obtain⟨vs,rv,t2,_⟩:=I.tuple (SqT.of q.2);exact⟨us,vs,ru,rv,λxs' ys' q'=>⟨I.tuple_inj (SqT.of q'.1) (SqT.of q.1),I.tuple_inj (SqT.of q'.2) (SqT.of q.2)⟩,_,_,Wlk.tup n1,Wlk.tup n2,λk z=>⟨z,t1⟩,λk z=>⟨z,t2⟩,λk h=>⟨λz=>z.1,λz=>z.1⟩⟩
def wi2{P:Program}{w:World}{K:PySem.W.Frag}{l1 l2 i1 i2:Addr}:ZW P w K l1 l2 i1 i2 (vp1 l1 l2) (λk h=>h.IsListIter i1 l1 k) (λk h=>h.IsListIter i2 l2 k) where
 obj:=λk h=>⟨λ⟨o,ho,c,d⟩=>⟨o,ho,λv z=>by rw[d] at z;cases z⟩,λ⟨o,ho,c,d⟩=>⟨o,ho,λv z=>by rw[d] at z;cases z⟩⟩
 keep:=λk h h'=>⟨λa q=>a.at q,λa q=>a.at q⟩
 there:=λH xs ys q=>⟨(λz=>by rw[q.1] at z;cases z),(λz=>by rw[q.2] at z;cases z)⟩
 vals:=λX hK A3 σ H s xs ys I q n1 n2=>by
  obtain⟨us,ru,t1,_⟩:=I.list (SqL.of q.1);obtain⟨vs,rv,t2,_⟩:=I.list (SqL.of q.2);exact⟨us,vs,ru,rv,λxs' ys' q'=>⟨I.list_inj (SqL.of q'.1) (SqL.of q.1),I.list_inj (SqL.of q'.2) (SqL.of q.2)⟩,_,_,Wlk.lst n1,Wlk.lst n2,λk z=>⟨z,t1.isList⟩,λk z=>⟨z,t2.isList⟩,λk h=>⟨λz=>z.1,λz=>z.1⟩⟩
section
variable{X:Cx}{elts:List Expr}{x1:Nat}{tpos:Pos}
def vq9(n:Nat):[n+4,n+2,n+3,n,n+1].Nodup:=by
 simp only[Bx0,Aj0,Bj0,or_false,not_or,List.nodup_nil,and_true,not_false_eq_true];omega
def xy4{b n:Nat}(h:b∈[n+4,n+2,n+3,n,n+1]):n<=b:=by
 simp only[Aj0,Bj0,or_false] at h;omega
noncomputable def vy7(ta:TA):TI:=λσ H R=>ta σ H λvs H1=>∃a b xs ys,vs=[.ref a,.ref b]/\((vp0 a b H1 xs ys/\R (Izp (vp0 a b)) H1)\/(vp1 a b H1 xs ys/\R (Izp (vp1 a b)) H1))
theorem wk6{e1 e2:Expr}{ta:TA}{p pos:Pos}(hg:Gl X "zip")(hm:X.mg "zip" = none)(ha:PA X [e1,e2] ta)(hs:starEach [e1,e2] X.env=(false,eval e1 X.env)::starEach [e2] X.env:=by rfl)(hs2:starEach [e2] X.env=[(false,eval e2 X.env)]:=by rfl):PI X (.Tuple elts x1 tpos) (.Call (.Name "zip" p) [e1,e2] [] pos) (vy7 ta):=by
 intro A3 s σ H R I h;refine Call_ (zy8 I hg hm boot_zip (PyProof.Rows.callWith_type1 (thn (ha pos A3 s σ H _ I h) λus s1 hI109=>?_) hs (by rw[hs2];rfl)));obtain⟨vs,H1,I1,r1,q1⟩:=hI109;obtain⟨a,b,xs,ys,rfl,q⟩:=q1;cases r1 with
 | cons r rr=>
   cases rr with
   | cons r' rr=>
     cases rr;cases r;cases r';have nd:=vq9 s1.heap.objs.size;have fr:∀b∈[s1.heap.objs.size+4,s1.heap.objs.size+2,s1.heap.objs.size+3,s1.heap.objs.size,s1.heap.objs.size+1],wz6 X A3 H1 b:=λb hb=>I1.fpOk (xy4 hb) (I1.hok.fresh (xy4 hb))
     rcases q with⟨hq,q⟩ | ⟨hq,q⟩
     ·obtain⟨us,ru,t1,_⟩:=I1.tuple (SqT.of hq.1)
      obtain⟨vs,rv,t2,_⟩:=I1.tuple (SqT.of hq.2);refine xo9 (show s1.heap.IsTuple a us.toArray from t1) (show s1.heap.IsTuple b vs.toArray from t2) ?_;obtain⟨z1,z2,z3,z4,z5,kk⟩:=yu8 "tuple_iterator" s1.heap a b;refine wpAny_pyIter_zip (s:={ s1 with heap:=zC "tuple_iterator" s1.heap a b }) z1 ?_;exact⟨_,_,_,_,H1,rfl,I1.kept (t':=s1.toks) kk,yv0 wi1 nd,⟨z1,z2,⟨_,_,z3⟩,⟨_,z4,rfl,rfl⟩,⟨_,z5,rfl,rfl⟩⟩,fr,q⟩
     ·obtain⟨us,ru,t1,_⟩:=I1.list (SqL.of hq.1)
      obtain⟨vs,rv,t2,_⟩:=I1.list (SqL.of hq.2);refine xp0 t1.isList t2.isList ?_;obtain⟨z1,z2,z3,z4,z5,kk⟩:=yu8 "list_iterator" s1.heap a b;refine wpAny_pyIter_zip (s:={ s1 with heap:=zC "list_iterator" s1.heap a b }) z1 ?_;exact⟨_,_,_,_,H1,rfl,I1.kept (t':=s1.toks) kk,yv0 wi2 nd,⟨z1,z2,⟨_,_,z3⟩,⟨_,z4,rfl,rfl⟩,⟨_,z5,rfl,rfl⟩⟩,fr,q⟩
variable{S:Type}{W:Wd S}{c:Dx W}{g:Gr}
noncomputable def tDB{S:Type}{W:Wd S}(c:Dx W)(f:FnA S):TA:=λσ H Q=>∃ρ st,Rep c H σ ρ/\W.ok st H/\
 wpR (f ρ st) (λl st'=>∀vs H',Ext W H H'->W.ok st' H'->IsL c.K (Av c σ ρ) H' l vs->Q vs H') λx st'=>∀H',Ext W H H'->W.ok st' H'->c.Ex x st' H'
noncomputable def DB(X:Cx){S:Type}{W:Wd S}(c:Dx W)(es:List Expr)(f:FnA S):Prop:=PA X es (tDB c f)
def zz1:DB X c [] (vl9 S):=zp2.imp λσ H Q ⟨ρ,st,R,ok,w⟩=>w [] H Ext.refl ok (IsL.nil.mpr rfl)
def zf1(h:DE X c .B e f)(hr:DB X c es r)(hs:starEach (e::es) X.env=(false,eval e X.env)::starEach es X.env:=by rfl):DB X c (e::es) (wt6 S f r):=
 (zi2 h hr hs).imp λσ H Q hI34=>by
  obtain⟨ρ,st,R,ok,w⟩:=hI34;refine⟨ρ,st,R,ok,za6 (za5.mp w) (λd st1 q v H1 e ok1 z=>?_) λx st1 q=>q⟩;refine⟨ρ,st1,R.ext ok e,ok1,za6 (za5.mp q) (λl st2 q vs H2 e2 ok2 z2=>?_) λx st2 q H2 e2 ok2=>q H2 (e.trans e2) ok2⟩;have z:Is c.K (Av c σ ρ) H1 d v:=z;exact q (v::vs) H2 (e.trans e2) ok2 (IsL.cons.mpr ⟨v,vs,rfl,z.ext e2 ok1 (λb n=>n.1),z2⟩)
noncomputable def wu8(l m:List D):List D:=List.zipWith (λa b=>.tup [a,b]) l m
noncomputable def vn0:List D->Option (List D)
 | [.tup l,.tup m]=>some (wu8 l m)
 | [.lst l,.lst m]=>some (wu8 l m)
 | _=>none
theorem yn3{i:Nat}(h:(wu8 l m)[i]?=some d):∃x y,l[i]?=some x/\m[i]?=some y/\d=.tup [x,y]:=by
 unfold wu8 at h;rw[List.getElem?_zipWith] at h;cases q:l[i]? with
 | none=>rw[q] at h;simp at h
 | some x=>
   cases q2:m[i]? with
   | none=>rw[q,q2] at h;simp at h
   | some y=>rw[q,q2] at h;cases h;exact⟨x,y,rfl,rfl,rfl⟩
def xb5{i:Nat}(h:(wu8 l m).length<=i):l.length<=i\/m.length<=i:=by
 unfold wu8 at h;rw[List.length_zipWith] at h;omega
def yu7(hi:∀(c':Dx W) σ2 ρ2 H2,wr9 (Av c σ ρ) (Av c' σ2 ρ2) H1 H2->Sq H2 xs ys)(i1:IsL c.K (Av c σ ρ) H1 l xs)(i2:IsL c.K (Av c σ ρ) H1 m ys):xp8 c σ ρ H1 (Izp Sq) (wu8 l m):=by
 intro c' hK' σ2 ρ2 H2 st2 k R2 ok2 j;have s2:Sq H2 xs ys:=hi c' σ2 ρ2 H2 k;have j1:IsL c.K (Av c' σ2 ρ2) H2 l xs:=i1.mono k;have j2:IsL c.K (Av c' σ2 ρ2) H2 m ys:=i2.mono k;refine⟨λd hd=>?_,λhl=>⟨xs,ys,s2,by rw[<-j1.length,<-j2.length];exact xb5 hl⟩⟩;obtain⟨x,y,hx,hy,rfl⟩:=yn3 hd;obtain⟨v1,hv1,iv1⟩:=j1.get hx;obtain⟨v2,hv2,iv2⟩:=j2.get hy;refine⟨⟨xs,ys,v1,v2,s2,hv1,hv2⟩,?_⟩;rintro x' H3 ⟨pp,u1,u2,hpn,rfl,rfl,hx'⟩;obtain⟨e1,e2⟩:=hx' xs ys s2;rw[hv1] at e1;cases e1;rw[hv2] at e2;cases e2;have sm:wx7 H2 (upd H2 pp (.tup [v1,v2])):=λb o hb=>by rw[za9 (zb7 hb hpn)];exact hb
 have kk:wr9 (Av c' σ2 ρ2) (Av c' σ2 ρ2) H2 (upd H2 pp (.tup [v1,v2])):=zj4 (λb o hb _=>sm b o hb) λb o a hb=>⟨a,sm b o hb⟩
 exact⟨sm,Is.tup zb3 (IsL.cons.mpr ⟨_,_,rfl,iv1.mono kk,IsL.one (iv2.mono kk)⟩)⟩
open H in
def wp1(hg:Gl X "zip")(hm:X.mg "zip" = none)(ha:DB X c [e1,e2] f)(hs:starEach [e1,e2] X.env=(false,eval e1 X.env)::starEach [e2] X.env:=by rfl)(hs2:starEach [e2] X.env=[(false,eval e2 X.env)]:=by rfl):DI X c (.Tuple elts x1 tpos) (.Call (.Name "zip" p) [e1,e2] [] pos) (vc3 S vn0 f):=
 (wk6 hg hm ha hs hs2).imp λσ H R hI35=>by
  obtain⟨ρ,st,R0,ok,w⟩:=hI35;refine⟨ρ,st,R0,ok,za6 (za5.mp w) (λl st1 q vs H1 e ok1 z=>?_) λx st1 q=>q⟩;obtain⟨m,e1,q⟩:=zb2.mp q;unfold vn0 at e1;split at e1
  ·rename_i l m
   cases e1;obtain⟨v,r,e2,i2,i3⟩:=IsL.cons.mp z;obtain⟨v',r',e3,i3,i4⟩:=IsL.cons.mp i3;obtain⟨a,xs,ea,s0,i⟩:=Is.tup_iff.mp i2;obtain⟨b,ys,eb,t0,j⟩:=Is.tup_iff.mp i3;rw[e3,IsL.nil.mp i4,ea,eb] at e2;exact⟨a,b,xs,ys,e2,.inl ⟨⟨s0,t0⟩,q _ H1 e ok1 (yu7 (λc' σ2 ρ2 H2 k=>⟨k.tup a xs s0,k.tup b ys t0⟩) i j)⟩⟩
  ·rename_i l m
   cases e1;obtain⟨v,r,e2,i2,i3⟩:=IsL.cons.mp z;obtain⟨v',r',e3,i3,i4⟩:=IsL.cons.mp i3;obtain⟨a,xs,ea,n0,s0,i⟩:=Is.lst_iff.mp i2;obtain⟨b,ys,eb,n1,t0,j⟩:=Is.lst_iff.mp i3;rw[e3,IsL.nil.mp i4,ea,eb] at e2;exact⟨a,b,xs,ys,e2,.inr ⟨⟨s0,t0⟩,q _ H1 e ok1 (yu7 (λc' σ2 ρ2 H2 k=>⟨(k.nod a _ n0 s0).2,(k.nod b _ n1 t0).2⟩) i j)⟩⟩
  ·cases e1
end
end L2
namespace HT
open PySem PyProof.Rows
section
variable{prog:Program}{w:World}{A:Around}{E:Value->Shared->Prop}{s:Shared}
end
end HT
namespace L2
section
variable{X:Cx}{e st:Expr}{te ts:TE}{p2 pos:Pos}
end
section
variable{X:Cx}{S:Type}{W:Wd S}{c:Dx W}{g ga gb:Gr}{a b:Expr}{fa fb:Fn S}{pos p2:Pos}
noncomputable abbrev FnO(S:Type):=Rho->S->Res S (Option Int)
def PO.imp(h:PO X e t)(i:∀σ H Q,t' σ H Q->t σ H Q):PO X e t':=λA3 s σ H Q I q=>h A3 s σ H Q I (i σ H Q q)
noncomputable def pNo(S:Type):FnO S:=λ_ st=>.ok none st
noncomputable def D.int?:D->Option Int
 | .int i=>some i
 | _=>none
noncomputable def pSo(S:Type)(f:Fn S):FnO S:=λρ st=>(f ρ st).bind λd st1=>(ws3 d.int? st1).bind λi st2=>.ok (some i) st2
theorem yo9(m:D.immL l=true):D.immL l.reverse=true:=by
 induction l with
 | nil=>rfl
 | cons x l ih=>
   have m':x.imm=true/\D.immL l=true:=by simpa [D.immL] using m
   rw[Cv0];exact ze9 (ih m'.2) (by simp[D.immL,m'.1])
noncomputable def vy3(S:Type):FnS S:=λ_ _=>.bad
noncomputable def vu5(S:Type)(i j:Nat)(f:FnA S):FnS S:=λρ st=>(f ρ st).bind λl st1=>match l with
 | [d,e]=>(ws3 (put ρ i d) st1).bind λρ1 st2=>(ws3 (put ρ1 j e) st2).bind λρ2 st3=>.ok (.nx ρ2) st3
 | _=>.bad
open H in
def zm2{i:Nat}(h:put ρ i d=some ρ'):i<ρ.length/\ρ'=ρ.set i (.bor d):=by
 unfold put at h;split at h
 ·rename_i hi;cases h;exact⟨hi,rfl⟩
 ·cases h
open H in
def yy2{i j:Nat}{x y:Str}{kt k2 pt2}(hc:X.calm=true)(hN:X.N.Nodup)(hi:X.N[i]?=some x)(hj:X.N[j]?=some y)(hij:i≠j)(hx:X.env.scope.names.lookup x=some .local)(hy:X.env.scope.names.lookup y=some .local)(ha:DB X c [a,b] f)(hw:swappedStores [.Tuple [.Name x px,.Name y py] kt pt] (.Tuple [a,b] k2 pt2) X.env=pure (some [x,y]))(hs:swapsWithSole [.Tuple [.Name x px,.Name y py] kt pt] (.Tuple [a,b] k2 pt2) pos.line X.env=pure false:=by rfl) :
 DS X c (.Assign [.Tuple [.Name x px,.Name y py] kt pt] (.Tuple [a,b] k2 pt2) pos) (vu5 S i j f):=
 (wk4 hc hN hi hj hij hx hy ha hw hs).imp λD σ H hI36=>by
  obtain⟨ρ,st,R,ok,w⟩:=hI36;refine⟨ρ,st,R,ok,za6 (za5.mp w) (λl st1 q vs H1 e ok1 z=>?_) λx st1 q H' e ok'=>q H' (e.f0 R) ok'⟩;split at q
  ·rename_i d e'
   obtain⟨v,r,e2,i2,i3⟩:=IsL.cons.mp z;obtain⟨v',r',e3,i3,i4⟩:=IsL.cons.mp i3;rw[e3,IsL.nil.mp i4] at e2;obtain⟨ρ1,e4,q⟩:=zb2.mp (za5.mp q);obtain⟨ρ2,e5,q⟩:=zb2.mp (za5.mp q);obtain⟨h4,rfl⟩:=zm2 e4;obtain⟨h5,rfl⟩:=zm2 e5;have R1:=(R.ext ok e).setB h4 i2;have k1:wr9 (Av c σ ρ) (Av c (σ.set i (some v)) (ρ.set i (.bor d))) H1 H1:=Frm.keepT (R.ext ok e) ok1 zg2;have R2:=R1.setB h5 (i3.mono k1);exact⟨v,v',e2,q _ _ ((Ext.frm e).trans (zg2.trans zg2)) ok1 R2⟩
  ·exact q.elim
noncomputable def ws0(a b:D):Option D:=(ws9 (λi j=>.int (i+j)) a b).or ((vh0 a b).or ((vg9 a b).or (xj6 a b)))
def xj1:OpR X (binaryOp .Add) (λx y H Q=>rI0 (λi j=>.int (i+j)) x y H Q\/(vm7 x y H Q\/(vd8 X.K x y H Q\/yv5 X.K x y H Q))):=yn5.or (wl7.or (wd9.or xs9))
def xj3{K:PySem.W.Frag}(hK:c.K=K):OpD c (λx y H Q=>rI0 (λi j=>.int (i+j)) x y H Q\/(vm7 x y H Q\/(vd8 K x y H Q\/yv5 K x y H Q))) ws0:=wv9.or (wm1.or ((we4 hK).or xt1))
noncomputable def D.seq?:D->Option (List D)
 | .tup l=>some l
 | .lst l=>some l
 | _=>none
theorem zg9{tg e:Expr}{f:Fn S}(hK:c.K=X.K)(h:DE X c .B e f):DI X c tg e (ve4 S D.seq? f):=by
 intro A3 s σ H R I q;obtain⟨ρ,st,R0,ok,w⟩:=q;unfold ve4 at w;cases q:f ρ st with
 | bad=>rw[q] at w;exact w.elim
 | exc x st1=>
   refine xz4 (tg:=tg) hK h A3 s σ H R I ⟨ρ,st,R0,ok,?_⟩;unfold ve4;rw[q] at w ⊢;exact w
 | ok d st1=>
   rw[q] at w;cases d with
   | tup l=>
     refine xz4 (tg:=tg) hK h A3 s σ H R I ⟨ρ,st,R0,ok,?_⟩;unfold ve4;rw[q];exact w
   | lst l=>
     refine wp2 (tg:=tg) hK h A3 s σ H R I ⟨ρ,st,R0,ok,?_⟩;unfold ve4;rw[q];exact w
   | _=>exact w.elim
noncomputable def vw2:List D->Res Unit D:=λ_=>.bad
def wo3{P:Program}{w:World}{K:PySem.W.Frag}{mg:Str->Option Value}{base:Heap}{f:Addr}{fd:FuncData}{ps:List Str}{k:Nat}:wy0 P w K mg base CX0 k f fd ps (sp0 K vw2):=
 ⟨λvs H Q E ⟨_,_,h⟩=>h.elim,λA outer s H args us vs Q E _ _ _ _ ⟨_,_,h⟩=>h.elim⟩
def ws7{id:String}{x:Str}{p pos:Pos}{e:Expr}{es:List Expr}{r:List V->Hp->VK->Prop}{o:List D->Option D}{f:FnA S}(ha:DA X c (e::es) f)(hc:wu0 X (.builtin id) r)(hr:wu3 c r o)(hg:Gl X x)(hm:X.mg x=none)(hv:bootBuiltins x=some (.builtin id))(hn:x≠"__name__":=by decide)(hdb:(x == ("__debug__" : Str))=false:=by decide)(he:starEach (e::es) X.env=(false,eval e X.env)::starEach es X.env:=by rfl)(hpl:(backTo pos (starEach es X.env)).any (·.1)=false:=by rfl):DE X c g (.Call (.Name x p) (e::es) [] pos) (fA S o f):=
 yy6 (id:=id) (ya0 hc hg hm hv ha hn hdb he hpl) rfl hr
def wv1{T:String}{x:Str}{p pos:Pos}{e:Expr}{es:List Expr}{r:List V->Hp->VK->Prop}{o:List D->Option D}{f:FnA S}(ha:DA X c (e::es) f)(hc:wu0 X (.type T) r)(hr:wu3 c r o)(hg:Gl X x)(hm:X.mg x=none)(hv:bootBuiltins x=some (.type T))(hn:x≠"__name__":=by decide)(hdb:(x == ("__debug__" : Str))=false:=by decide)(he:starEach (e::es) X.env=(false,eval e X.env)::starEach es X.env:=by rfl)(hpl:(backTo pos (starEach es X.env)).any (·.1)=false:=by rfl):DE X c g (.Call (.Name x p) (e::es) [] pos) (fA S o f):=
 yy6 (id:=T) (yn2 hc hg hm hv ha hn hdb he hpl) rfl hr
end
end L2
namespace PySem
namespace F
def lk_list_keys:typeLookup (.type "list") "keys" = pure none:=by rw[typeLookup_type,builtinLookup_eq_fast];kernel_rfl
end F
section
variable{prog:Program}{w:World}{A:Around}{E:Value->Shared->Prop}{s:Shared}{a:Addr}{its:Array Value}
def xk9(hp:PlainL s.heap a its)(hA:A.handled=none)(h:∀h' tk,(∀b o,s.heap.get? b=some o->h'.get? b=some o)->Q none { s with heap:=h',toks:=tk }) :
 wpAny (model prog w) A (getAttr? (.ref a) "keys") Q E s:=by
 obtain⟨⟨c,dct,dat,sl⟩,k,hx,hc,hd,hdat⟩:=hp;simp only at hc hdat hd;subst hc hdat hd;obtain⟨hp,g,d,tk,os⟩:=s;have hT:∀tk',(⟨hp,g,d,tk',os⟩:Shared).TypeIs (.ref a) "list":=λ_=>⟨_,hx,rfl⟩
 have f1:=sub_AttributeError;have f3:=F.slot_list_getattribute.lookup;have f4:=F.slot_list_getattribute.bind (.ref a);have f5:=am_list_getattr_none;unfold getAttr? getAttrBy? getAttrBy;repeat (any_goals (first | assumption | exact hT _ | ((with_reducible show wpAny _ _ (call (Value.builtin "list.__getattribute__") _ _) _ _ _);refine call_meets F.slot_list_getattribute (hT _) am_entry_list_getattribute (F.args_list_getattribute_2 _ _) (meets_getattribute_miss_list a its k sl "keys" _ F.lk_list_keys (by decide +kernel) (by size_fits)) ⟨hx,hA,λh' tk' e hx'=>?_⟩) | wp_step))
 obtain⟨t',u',he⟩:=hx'.there;show wpAny _ _ (getattributeRaised _ _ _ _ _ _ _) _ _ _;unfold getattributeRaised;repeat (any_goals (first | assumption | wp_step))
 exact h h' tk' hx'.keeps
end
end PySem
namespace PySem.F
def plain_upd_loop:plainId "dict.update.loop" = true:=by decide +kernel
def entry_upd_loop:entryFor table "dict.update.loop" = some Builtin.«dict.update.loop»:=entryFor_of_fast (by kernel_rfl)
end PySem.F
namespace L2
noncomputable def zp1(H:Hp):List V->List (List Key×V)->Prop
 | [],ps=>ps=[]
 | v::vs,ps=>∃t b k x r,ps=(k,x)::r/\v=.ref t/\H t=some (.tup [.ref b,x])/\H b=some (.tup (k.map kV))/\zp1 H vs r
noncomputable def yd3(kvs ps:List (List Key×V)):List (List Key×V):=ps.foldl (λacc p=>wu1 acc p.1 p.2) kvs
theorem zp1.keep(hd:∀u,H d≠some (.tup u)):∀{vs:List V} {ps:List (List Key×V)},zp1 H vs ps->zp1 (upd H d o) vs ps
 | [],ps,h=>h
 | v::vs,ps,⟨t,b,k,x,r,e1,e2,h1,h2,h3⟩=>⟨t,b,k,x,r,e1,e2,by rw[za9 (λz=>hd _ (z▸h1))];exact h1,by rw[za9 (λz=>hd _ (z▸h2))];exact h2,zp1.keep hd h3⟩
section
variable{X:Cx}{A3:List (Addr×Obj)}{σ:St}
open H in
theorem xn5(hc:X.calm=true)(hu:X.A.in1.units+1<cLine):∀(n i:Nat) (s:Shared) (H:Hp) (kvs ps:List (List Key×V)) (t:Tok),vs.length-i=n->i<=vs.length->Inv X A3 σ H s->wz6 X A3 H it->
 s.heap.IsListIter it a i->H a=some (.lst vs)->H d=some (.dT kvs)->zp1 H (vs.drop i) ps->kvs.length+ps.length<sizeLine->Q (.ref d) (upd H d (.dT (yd3 kvs ps)))->
 codeAny (model X.prog X.w) X.A.in1 (.builtin "dict.update.loop" ⟨[.ref d,.ref it,.int i t,.none],[]⟩) (wants (λr s₂=>r=.none/\EP X A3 σ Q (.ref d) s₂) X.xe) s:=by
 intro n;induction n with
 | zero=>
   intro i s H kvs ps t hn hi I hfp hit ha hd hp hz q;have e:i=vs.length:=by omega
   subst e;rw[List.drop_length] at hp;have hp:ps=[]:=hp;subst hp;obtain⟨its,rv,pl,_⟩:=I.list (SqL.of ha);obtain⟨f0,f1,f2,f3,f4,f5⟩:=hfp;refine codeAny_builtin F.entry_upd_loop ?_;rw[Around.under_plainId F.plain_upd_loop _];show wpAny _ X.A.in1.in1 (pyNext (.ref it) >>= λ_=>_) _ _ s;have hl:=rv.length;refine Aa1 (wpAny_pyNext_list_end (I.ok.hd hc) hit pl.isList (by simp;omega) λh' eb=>?_);have I1:Inv X A3 σ H { s with heap:=h' }:=I.turned (t':=s.toks) (λb o hb e=>eb b o hb e) f0 f1 f3 f4 f5;show wpAny _ X.A.in1.in1 (Builtin.Dict.addKeywords d [] >>= λ_=>ret .none) _ _ _;refine Aa1 (Ac1 (Ac1 ?_));refine⟨rfl,.ref d,H,I1,rfl,?_⟩;have e2:upd H d (.dT (yd3 kvs []))=H:=by
    funext b;by_cases hb:b=d
    ·subst hb;rw[zb3,hd];rfl
    ·rw[za9 hb]
   rw[e2] at q;exact q
 | succ n ih=>
   intro i s H kvs ps t hn hi I hfp hit ha hd hp hz q;have hi':i<vs.length:=by omega
   rw[Cb0 hi'] at hp;obtain⟨tt,b,k,x,r,rfl,ev,ht,hb,hr⟩:=hp;obtain⟨its,rv,pl,_⟩:=I.list (SqL.of ha);obtain⟨u,hu',ru⟩:=rv.get (i:=i) (x:=vs[i]) (Ac0 hi');rw[ev] at ru;cases (show u=Value.ref tt from ru);obtain⟨f0,f1,f2,f3,f4,f5⟩:=id hfp;refine codeAny_builtin F.entry_upd_loop ?_;rw[Around.under_plainId F.plain_upd_loop _];show wpAny _ X.A.in1.in1 (pyNext (.ref it) >>= λ_=>_) _ _ s;refine Aa1 (wpAny_pyNext_list_item hit pl.isList (x:=.ref tt) (by simpa using hu') λh' hit' sb=>?_);have I1:Inv X A3 σ H { s with heap:=h' }:=I.turned (t':=s.toks) (λc o hb e=>(sb.2 c hb).trans e) f0 f1 f3 f4 f5;obtain⟨ps2,r2,p2,_⟩:=I1.tuple (SqT.of ht);obtain⟨o2,ho2,hc2,n2,hd2⟩:=id p2;obtain⟨u1,u2,rfl,rk,rx⟩:∃u1 u2,ps2=[u1,u2]/\wr3 (.ref b) u1/\wr3 x u2:=by
    cases r2 with
    | cons p q=>
      cases q with
      | cons p' q'=>cases q';exact⟨_,_,rfl,p,p'⟩
   cases (show u1=Value.ref b from rk);refine Aa1 (wpAny_holding (Aa1 (wpAny_tryCatch ?_)));unfold Builtin.Dict.pairItems;refine Aa1 (wpAny_typeOf (T:="tuple") ⟨o2,ho2,hc2⟩ ?_);rw[if_pos (by decide)];refine Aa1 (An1 ho2 hd2 (Ac1 ?_));obtain⟨z,hdm,xs,rel,dd⟩:=vh8 I1.hok hd;have hz1:xs.length<=sizeLine:=by rw[<-Paired.length rel];exact z
   have hlr:kvs.length+(r.length+1)<sizeLine:=by simpa using hz
   have hl:(wu1 kvs k x).length<=sizeLine:=by have:=zl6 kvs k x;omega
   show wpAny _ _ (holding [.ref b,u2] (dictSet d (.ref b) u2)) _ _ _;refine wpAny_holding (wpAny_dictSet_heap (hsz:=hz1) (tupleKind_room_in1 hu) (zy9 I1.hok hb) dd λh2 dd' hs=>Ac1 ?_);have I2:Inv X A3 σ (upd H d (.dT (wu1 kvs k x))) { s with heap:=h2,toks:=s.toks+(tupleKind (ze5 X.prog X.w)).draws k }:=by
    obtain⟨q,es,ep,hq,h2',h3,h4,_,h5⟩:=dd';refine ye7 (s:={ s with heap:=h' }) (t':=s.toks+(tupleKind (ze5 X.prog X.w)).draws k) I1 (by rw[hd];exact True.intro) hs ⟨q,hq⟩ ⟨hl,hdm,_,(rel.put k hb rx).keeps λc ys ec=>?_,q,es,ep,hq,h2',h3,h4,h5⟩;rw[za9 (vc0 ec hd (λz=>nomatch z))];exact ec
   have nit:it≠d:=λe=>by rw[e,hd] at f0;cases f0
   have nda:a≠d:=vc0 ha hd (λz=>nomatch z);have hs:Heap.SameBut d h' h2:=hs;refine⟨plainId_quiet F.plain_upd_loop _,ih (i+1) _ _ (wu1 kvs k x) r _ (by omega) (by omega) I2 ⟨by rw[za9 nit];exact f0,f1,f2,f3,f4,f5⟩ (hit'.extBut hs.extBut nit) (by rw[za9 nda];exact ha) zb3 (hr.keep λu e=>by rw[hd] at e;cases e) ?_ ?_⟩
   ·have:=zl6 kvs k x;omega
   ·rw[upd_upd];exact q
def zr5(hc:X.calm=true)(hu:X.A.in1.units+1<cLine):wu0 X (.type "dict") (λxs H Q=>∃(a:Addr) (vs:List V) (ps:List (List Key×V)),xs=[.ref a]/\H a=some (.lst vs)/\zp1 H vs ps/\ps.length<sizeLine/\∀d,H d=none->Q (.ref d) (upd H d (.dT (yd3 [] ps)))):=by
 intro A3 s σ H xs us Q I r h;obtain⟨a,vs,ps,rfl,ha,hp,hz,q⟩:=h;obtain⟨u,rfl,r1⟩:=wv6 r;cases r1;have hhA:X.A.handled=none:=I.ok.hd hc;refine callType_codes (Q₁:=λobj s₁=>obj=.ref s.heap.objs.size/\s₁={ s with heap:=s.heap.push { cls:=.type "dict",data:=.dict #[] } }) F.kt_called_dict (F.kt_typeCall_dict_1 _) F.entry_dict_init (kt_code_dict_new _ ⟨rfl,rfl⟩) ?_;rintro obj s₁ ⟨rfl,rfl⟩;have hn:=I.hok.fresh (Ad0 s.heap.objs.size);have I1:=I.laid (a:=s.heap.objs.size) (o:=.dT []) (h':=s.heap.push { cls:=.type "dict",data:=.dict #[] }) (t':=s.toks) (λ_ _ q=>Ab0 _ q) (Ad0 _) (yk5 s.heap I.big);have hT:({ s with heap:=s.heap.push { cls:=.type "dict",data:=.dict #[] } }:Shared).TypeIs (.ref s.heap.objs.size) "dict":=⟨_,Af0 _ rfl,rfl⟩;refine⟨hT,F.args_dict_init_2 _ _,?_⟩;unfold Builtin.«dict.__init__»;refine Aa1 ?_;unfold Builtin.Dict.selfAndRest;refine Aa1 (wpAny_notOrdered_dict hT ?_);show wpAny _ _ (pure (s.heap.objs.size,[Value.ref a])) _ _ _;refine Ac1 ?_;show wpAny _ _ (Builtin.Dict.updateFrom "dict.__init__" s.heap.objs.size (.ref a) [] .none) _ _ _;unfold Builtin.Dict.updateFrom;have nda:a≠s.heap.objs.size:=zb7 ha hn;have ha1:upd H s.heap.objs.size (.dT []) a=some (.lst vs):=by rw[za9 nda];exact ha
 obtain⟨its,rv,pl,_⟩:=I1.list (SqL.of ha1);refine Aa1 (wpAny_typeOf pl.isList.typeIs ?_);rw[if_pos (by decide)];refine Aa1 (xk9 pl hhA λh2 tk2 k2=>?_);have I2:Inv X A3 σ (upd H s.heap.objs.size (.dT [])) { s with heap:=h2,toks:=tk2 }:=I1.kept (t':=tk2) k2;obtain⟨its2,rv2,pl2,_⟩:=I2.list (SqL.of ha1);rw[if_pos (by rfl)];refine Aa1 (Aj1 (Aa1 (wpAny_pyIter_list pl2.isList (Ac1 ?_))));have I3:Inv X A3 σ (upd H s.heap.objs.size (.dT [])) { s with heap:=h2.push { cls:=.type "list_iterator",data:=.fields #[.ref a,.int 0 0] },toks:=tk2 }:=I2.kept (t':=tk2) λb o e=>Ab0 _ e
 have fp:wz6 X A3 (upd H s.heap.objs.size (.dT [])) h2.objs.size:=I2.fpOk (Ad0 _) (I2.hok.fresh (Ad0 _));refine⟨plainId_quiet F.plain_upd_loop _,xn5 hc hu (a:=a) (vs:=vs) vs.length 0 _ _ [] ps _ (by omega) (by omega) I3 fp ⟨_,Af0 _ rfl,rfl,rfl⟩ ha1 zb3 ?_ (by simpa using hz) ?_⟩
 ·rw[List.drop_zero]
  exact hp.keep λu e=>by rw[hn] at e;cases e
 ·rw[L2.upd_upd];exact q _ hn
end
section
variable{X:Cx}{S:Type}{W:Wd S}{c:Dx W}{g ga gb gc:Gr}{a b:Expr}{fa fb fc:Fn S}{pos p2:Pos}
noncomputable def zq4:List D->Option (List (List Key×D))
 | []=>some []
 | .tup [k,v]::l=>if v.imm=true then (zc8 k).bind λkk=>(zq4 l).map λr=>(kk,v)::r else none
 | _=>none
noncomputable def zf8(ps:List (List Key×D))(acc:List D×List D):List D×List D:=ps.foldl (λacc p=>wt7 p.1 p.2 acc.1 acc.2) acc
noncomputable def ve1:List D->Option D
 | [.lst l]=>if l.length<sizeLine then (zq4 l).map λps=>.dct (.non::(zf8 ps ([],[])).1) (zf8 ps ([],[])).2 else none
 | _=>none
open H in
theorem yn4{K:PySem.W.Frag}{A:Addr->Prop}{H:Hp}:∀{l:List D} {vs:List V} {ps:List (List Key×D)},zq4 l=some ps->IsL K A H l vs->
 ∃qs:List (List Key×V),zp1 H vs qs/\qs.map (·.1)=ps.map (·.1)/\IsL K A H (ps.map (·.2)) (qs.map (·.2))/\D.immL (ps.map (·.2))=true/\qs.length=l.length
 | [],vs,ps,e,h=>by
   cases e;rw[IsL.nil.mp h];exact⟨[],rfl,rfl,IsL.nil.mpr rfl,rfl,rfl⟩
 | d::l,vs,ps,e,h=>by
   unfold zq4 at e;split at e
   ·rename_i heq
    cases heq
   ·rename_i k v l' heq
    cases heq;split at e
    ·rename_i hv
     cases q1:zc8 k with
     | none=>rw[q1] at e;cases e
     | some kk=>
       cases q2:zq4 l with
       | none=>rw[q1,q2] at e;cases e
       | some r=>
         rw[q1,q2] at e;cases e;obtain⟨w,rr,e1,i1,i2⟩:=IsL.cons.mp h;obtain⟨t,us,et,ht,i3⟩:=Is.tup_iff.mp i1;obtain⟨w1,r1,e2,j1,j2⟩:=IsL.cons.mp i3;obtain⟨w2,r2,e3,j3,j4⟩:=IsL.cons.mp j2;obtain⟨b,eb,hb,_⟩:=zv7 q1 j1;obtain⟨qs,g1,g2,g3,g4,g5⟩:=yn4 q2 i2;refine⟨(kk,w2)::qs,?_,by simp[g2],IsL.cons.mpr ⟨_,_,rfl,j3,g3⟩,by simp[D.immL,hv,g4],by simp[g5]⟩;rw[e1];refine⟨t,b,kk,w2,qs,rfl,et,?_,hb,g1⟩;rw[ht,e2,e3,eb,IsL.nil.mp j4]
    ·cases e
   ·cases e
theorem yn0{K:PySem.W.Frag}{A:Addr->Prop}{H:Hp}:∀{ps:List (List Key×D)} {qs:List (List Key×V)},qs.map (·.1)=ps.map (·.1)->IsL K A H (ps.map (·.2)) (qs.map (·.2))->D.immL (ps.map (·.2))=true->
 ∀{kk:List (List Key)} {vs:List D} {us:List V},kk.length=us.length->IsL K A H vs us->D.immL vs=true->
 ∃(kk':List (List Key)) (us':List V),(zf8 ps (kk.map wr2,vs)).1=kk'.map wr2/\IsL K A H (zf8 ps (kk.map wr2,vs)).2 us'/\kk'.length=us'.length/\yd3 (kk.zip us) qs=kk'.zip us'/\D.immL (zf8 ps (kk.map wr2,vs)).2=true
 | [],qs,e,h,m,kk,vs,us,hl,hv,mv=>by
   have:qs=[]:=by simpa using e
   subst this;exact⟨kk,us,rfl,hv,hl,rfl,mv⟩
 | (k,d)::ps,qs,e,h,m,kk,vs,us,hl,hv,mv=>by
   cases qs with
   | nil=>cases e
   | cons q qs=>
     obtain⟨k',v⟩:=q;obtain⟨w,r,e1,i1,i2⟩:=IsL.cons.mp h;have e1:v::qs.map (·.2)=w::r:=e1;cases e1;have ek:k'=k/\qs.map (·.1)=ps.map (·.1):=by simpa using e
     obtain⟨rfl,ek⟩:=ek;have m':d.imm=true/\D.immL (ps.map (·.2))=true:=by simpa [D.immL] using m
     obtain⟨kk1,us1,g1,g2,g3,g4⟩:=xo1 (k:=k') i1 hl hv;have g5:=yd8 (k:=k') (ks:=kk.map wr2) m'.1 mv;obtain⟨kk2,us2,f1,f2,f3,f4,f5⟩:=yn0 ek i2 m'.2 (kk:=kk1) (vs:=(wt7 k' d (kk.map wr2) vs).2) g3 g2 g5;have eq:zf8 ((k',d)::ps) (kk.map wr2,vs)=zf8 ps (kk1.map wr2,(wt7 k' d (kk.map wr2) vs).2):=by
      show zf8 ps (wt7 k' d (kk.map wr2) vs)=_;rw[<-g1]
     rw[eq];refine⟨kk2,us2,f1,f2,f3,?_,f5⟩;show yd3 (wu1 (kk.zip us) k' v) qs=_;rw[g4];exact f4
open H in
def xo8:wu3 c (λxs H Q=>∃(a:Addr) (vs:List V) (ps:List (List Key×V)),xs=[.ref a]/\H a=some (.lst vs)/\zp1 H vs ps/\ps.length<sizeLine/\∀d,H d=none->Q (.ref d) (upd H d (.dT (yd3 [] ps)))) ve1:=by
 intro l vs H st d Q ok z e q;unfold ve1 at e;split at e
 ·rename_i m
  split at e
  ·rename_i hz
   cases q1:zq4 m with
   | none=>rw[q1] at e;cases e
   | some ps=>
     rw[q1] at e;cases e;obtain⟨v,r,e1,i1,i2⟩:=IsL.cons.mp z;obtain⟨a,us,ea,_,s1,i3⟩:=Is.lst_iff.mp i1;rw[IsL.nil.mp i2,ea] at e1;obtain⟨qs,g1,g2,g3,g4,g5⟩:=yn4 q1 i3;refine⟨a,us,qs,e1,s1,g1,by rw[g5];exact hz,λp hp=>?_⟩;obtain⟨kk,us',f1,f2,f3,f4,f5⟩:=yn0 g2 g3 g4 (kk:=[]) (vs:=[]) (us:=[]) rfl (IsL.nil.mpr rfl) rfl;have f1:(zf8 ps ([],[])).1=kk.map wr2:=f1;have f2:IsL c.K (λb=>¬W.mv b) H (zf8 ps ([],[])).2 us':=f2;have f4:yd3 [] qs=kk.zip us':=f4;refine q _ _ (Ext.laid hp) (zg6 ok hp) (Is.dct_iff.mpr ⟨p,us',rfl,⟨zm9 ok hp,hp⟩,IsL.ofImm f5 (f2.ext (Ext.laid hp) ok λ_ n=>n),.inr ⟨kk,by rw[f1],f3,?_⟩⟩);rw[zb3,f4]
  ·cases e
 ·cases e
noncomputable def vo3(i j k:Nat)(ta:TA):TS:=λD σ H=>ta σ H λvs H1=>∃u v w,vs=[u,v,w]/\D.nx (((σ.set i (some u)).set j (some v)).set k (some w)) H1
def wd0{i j k:Nat}{x y z:Str}{kt k2 pt2}(hc:X.calm=true)(hN:X.N.Nodup)(hi:X.N[i]?=some x)(hj:X.N[j]?=some y)(hk:X.N[k]?=some z)(hij:i≠j)(hik:i≠k)(hjk:j≠k)(hx:X.env.scope.names.lookup x=some .local)(hy:X.env.scope.names.lookup y=some .local)(hz:X.env.scope.names.lookup z=some .local)(ha:PA X [a,b,d] ta)(hw:swappedStores [.Tuple [.Name x px,.Name y py,.Name z pz] kt pt] (.Tuple [a,b,d] k2 pt2) X.env=pure (some [x,y,z]))(hs:swapsWithSole [.Tuple [.Name x px,.Name y py,.Name z pz] kt pt] (.Tuple [a,b,d] k2 pt2) pos.line X.env=pure false:=by rfl) :
 PS X (.Assign [.Tuple [.Name x px,.Name y py,.Name z pz] kt pt] (.Tuple [a,b,d] k2 pt2) pos) (vo3 i j k ta):=by
 intro A3 s σ H D I h;rw[exec_Assign_arm];refine Aa1 (wpAny_standAt ?_);rw[hs];refine Aa1 (Ac1 ?_);rw[if_neg (by decide)];refine Aa1 (Tuple_ (thn (ha _ A3 s σ H _ I h) λus s1 hI110=>?_));obtain⟨vs,H1,I1,r1,q1⟩:=hI110;obtain⟨u,v,w,e1,q1⟩:=q1;subst e1;obtain⟨u1,u2,u3,rfl,ru,rv,rw'⟩:∃u1 u2 u3,us=[u1,u2,u3]/\wr3 u u1/\wr3 v u2/\wr3 w u3:=by
  cases r1 with
  | cons p q=>
    cases q with
    | cons p' q'=>
      cases q' with
      | cons p'' q''=>cases q'';exact⟨_,_,_,rfl,p,p',p''⟩
 refine wpAny_newObj_type ?_ (by show 3<=sizeLine;decide);have I2:Inv X A3 σ H1 { s1 with heap:=s1.heap.push { cls:=.type "tuple",data:=.seq [u1,u2,u3].toArray } }:=I1.kept (t':=s1.toks) λb o e=>Ab0 _ e
 rw[hw];refine Aa1 (Ac1 ?_);show wpAny (model X.prog X.w) X.A (do rule "assign.swapped-stores";let items <-unpackItems (.ref s1.heap.objs.size) 3 none;assignInOrder [λv=>bindName X.env z v,λv=>bindName X.env y v,λv=>bindName X.env x v] items.reverse;pure Flow.next) _ _ _;refine Aa1 (Aj1 (Aa1 (unpackItems_tuple (items:=#[u1,u2,u3]) (I.ok.hd hc) (IsTup.new s1.heap _) λh' hx'=>?_)));have I3:=I2.kept (h':=h') (t':=s1.toks) λb o e=>hx' b o (As0 (Heap.lt_size e)) e
 show wpAny _ _ (assignInOrder [λv=>bindName X.env z v,λv=>bindName X.env y v,λv=>bindName X.env x v] [u3,u2,u1] >>= λ_=>pure Flow.next) _ _ _;refine Aa1 (assignInOrder_cons (wpAny_bindName (zo2 I3 hN hk (.inl hz) rw' (λs2 I4=>?_) (.inr hz))));refine assignInOrder_cons (wpAny_bindName (zo2 I4 hN hj (.inl hy) rv (λs3 I5=>?_) (.inr hy)));refine assignInOrder_cons (wpAny_bindName (zo2 I5 hN hi (.inl hx) ru (λs4 I6=>assignInOrder_nil (Ac1 ?_)) (.inr hx)));refine⟨_,H1,?_,q1⟩;have e:((σ.set k (some w)).set j (some v)).set i (some u)=((σ.set i (some u)).set j (some v)).set k (some w):=by
  have e1:(σ.set k (some w)).set j (some v)=(σ.set j (some v)).set k (some w):=List.set_comm _ _ (Ne.symm hjk);have e2:∀τ:St,(τ.set k (some w)).set i (some u)=(τ.set i (some u)).set k (some w):=λτ=>List.set_comm _ _ (Ne.symm hik)
  have e3:(σ.set j (some v)).set i (some u)=(σ.set i (some u)).set j (some v):=List.set_comm _ _ (Ne.symm hij);rw[e1,e2,e3]
 rw[e] at I6;exact I6
noncomputable def vk0(S:Type)(i j k:Nat)(f:FnA S):FnS S:=λρ st=>(f ρ st).bind λl st1=>match l with
 | [d,e,h]=>(ws3 (put ρ i d) st1).bind λρ1 st2=>(ws3 (put ρ1 j e) st2).bind λρ2 st3=>(ws3 (put ρ2 k h) st3).bind λρ3 st4=>.ok (.nx ρ3) st4
 | _=>.bad
open H in
def yt8{i j k:Nat}{x y z:Str}{kt k2 pt2}(hc:X.calm=true)(hN:X.N.Nodup)(hi:X.N[i]?=some x)(hj:X.N[j]?=some y)(hk:X.N[k]?=some z)(hij:i≠j)(hik:i≠k)(hjk:j≠k)(hx:X.env.scope.names.lookup x=some .local)(hy:X.env.scope.names.lookup y=some .local)(hz:X.env.scope.names.lookup z=some .local)(ha:DB X c [a,b,d] f)(hw:swappedStores [.Tuple [.Name x px,.Name y py,.Name z pz] kt pt] (.Tuple [a,b,d] k2 pt2) X.env=pure (some [x,y,z]))(hs:swapsWithSole [.Tuple [.Name x px,.Name y py,.Name z pz] kt pt] (.Tuple [a,b,d] k2 pt2) pos.line X.env=pure false:=by rfl) :
 DS X c (.Assign [.Tuple [.Name x px,.Name y py,.Name z pz] kt pt] (.Tuple [a,b,d] k2 pt2) pos) (vk0 S i j k f):=
 (wd0 hc hN hi hj hk hij hik hjk hx hy hz ha hw hs).imp λD σ H hI37=>by
  obtain⟨ρ,st,R,ok,w⟩:=hI37;refine⟨ρ,st,R,ok,za6 (za5.mp w) (λl st1 q vs H1 e ok1 zz=>?_) λx st1 q H' e ok'=>q H' (e.f0 R) ok'⟩;split at q
  ·rename_i d1 d2 d3
   obtain⟨v,r,e2,i2,i3⟩:=IsL.cons.mp zz;obtain⟨v',r',e3,i3,i4⟩:=IsL.cons.mp i3;obtain⟨v'',r'',e4,i4,i5⟩:=IsL.cons.mp i4;rw[e3,e4,IsL.nil.mp i5] at e2;obtain⟨ρ1,p1,q⟩:=zb2.mp (za5.mp q);obtain⟨ρ2,p2,q⟩:=zb2.mp (za5.mp q);obtain⟨ρ3,p3,q⟩:=zb2.mp (za5.mp q);obtain⟨h1,rfl⟩:=zm2 p1;obtain⟨h2,rfl⟩:=zm2 p2;obtain⟨h3,rfl⟩:=zm2 p3;have R1:=(R.ext ok e).setB h1 i2;have k1:wr9 (Av c σ ρ) (Av c (σ.set i (some v)) (ρ.set i (.bor d1))) H1 H1:=Frm.keepT (R.ext ok e) ok1 zg2;have R2:=R1.setB h2 (i3.mono k1);have k2:wr9 (Av c (σ.set i (some v)) (ρ.set i (.bor d1))) (Av c ((σ.set i (some v)).set j (some v')) ((ρ.set i (.bor d1)).set j (.bor d2))) H1 H1:=Frm.keepT R1 ok1 zg2;have R3:=R2.setB h3 ((i4.mono k1).mono k2);exact⟨v,v',v'',e2,q _ _ ((Ext.frm e).trans (zg2.trans (zg2.trans zg2))) ok1 R3⟩
  ·exact q.elim
noncomputable def vf7{S:Type}{W:Wd S}(c:Dx W):List Str->List (Fn S)->List (TE×TE)
 | k::ks,f::fs=>(tC (.str k),tD c .R f)::vf7 c ks fs
 | _,_=>[]
noncomputable def vm0(S:Type):List (Fn S)->FnA S
 | []=>vl9 S
 | f::fs=>wt6 S f (vm0 S fs)
theorem ym0:∀(ks:List Str) (fs:List (Fn S)) {σ:St} {H:Hp} {ρ:Rho} {st:S} {Q:List (V×V)->Hp->Prop},ks.length=fs.length->Rep c H σ ρ->W.ok st H->
 wpR (vm0 S fs ρ st) (λl st'=>∀vs H',Ext W H H'->W.ok st' H'->IsL c.K (λb=>¬W.mv b) H' l vs->Q ((ks.zip vs).map λkv=>(V.str kv.1,kv.2)) H') (λx st'=>∀H',Ext W H H'->W.ok st' H'->c.Ex x st' H')->ym1 (vf7 c ks fs) σ H Q
 | [],[],σ,H,ρ,st,Q,_,R,ok,w=>w [] H Ext.refl ok (IsL.nil.mpr rfl)
 | k::ks,f::fs,σ,H,ρ,st,Q,hl,R,ok,w=>by
   refine⟨ρ,st,R,ok,za6 (za5.mp w) (λd st1 q v H1 e ok1 z=>?_) λx st1 q=>q⟩;refine ym0 ks fs (by simpa using hl) (R.ext ok e) ok1 (za6 (za5.mp q) (λl st2 q vs H2 e2 ok2 z2=>?_) λx st2 q H2 e2 ok2=>q H2 (e.trans e2) ok2);exact q (v::vs) H2 (e.trans e2) ok2 (IsL.cons.mpr ⟨v,vs,rfl,z.toR.ext e2 ok1,z2⟩)
 | [],_::_,_,_,_,_,_,hl,_,_,_=>by cases hl
 | _::_,[],_,_,_,_,_,hl,_,_,_=>by cases hl
noncomputable def va1(x:Str):List Str->List D->Option D
 | k::ks,v::vs=>if k=x then some v else va1 x ks vs
 | _,_=>none
theorem zy6:∀(kvs acc:List (Key×V)),(acc.map (·.1)++kvs.map (·.1)).Nodup->zv4 acc kvs=acc++kvs
 | [],acc,_=>by show acc=acc++[];simp
 | (k,v)::kvs,acc,h=>by
   have hk:∀p∈acc,p.1≠k:=λp hp e=>by
    have:=(Cw0.mp h).2.2 p.1 (List.mem_map_of_mem hp) k (by simp);exact this e
   have e:wu1 acc k v=acc++[(k,v)]:=by
    unfold wu1;rw[if_neg];intro z;obtain⟨p,hp,hq⟩:=List.any_eq_true.mp z;exact hk p hp (by simpa using hq)
   show zv4 (wu1 acc k v) kvs=_;rw[e,zy6 kvs (acc++[(k,v)]) (by simpa using h)];simp
noncomputable def DKV(X:Cx){S:Type}{W:Wd S}(c:Dx W)(pos:Pos)(keys:List (Option Expr))(values:List Expr)(ks:List Str)(fs:List (Fn S)):Prop:=PPs X pos keys values (vf7 c ks fs)/\ks.length=fs.length
def wh0:DKV X c pos [] [] [] ([]:List (Fn S)):=⟨ys3,rfl⟩
def ya5{k:Str}{j}(hv:DE X c .R v f)(h:DKV X c pos keys values ks fs):DKV X c pos (some (.Constant (.str k) j p)::keys) (v::values) (k::ks) (f::fs):=
 ⟨zz8 zv0 hv h.1,by simp[h.2]⟩
noncomputable def vl5(S:Type)(ks:List Str)(fs:List (Fn S))(fk:Fn S):Fn S:=λρ st=>(vm0 S fs ρ st).bind λl st1=>(fk ρ st1).bind λd st2=>match d with
 | .str x=>if D.immL l=true then ws3 (va1 x ks l) st2 else .bad
 | _=>.bad
theorem yv8{K:PySem.W.Frag}{A:Addr->Prop}{H:Hp}{x:Str}:∀{ks:List Str} {l:List D} {vs:List V} {d:D},va1 x ks l=some d->IsL K A H l vs->D.immL l=true->∃v,wx0 ((ks.zip vs).map λkv=>((Sum.inr kv.1:Key),kv.2)) (Sum.inr x:Key)=some v/\Is K A H d v/\d.imm=true
 | [],l,vs,d,e,_,_=>by cases l<;>cases e
 | k::ks,[],vs,d,e,_,_=>by cases e
 | k::ks,y::l,vs,d,e,h,m=>by
   obtain⟨v,r,e1,i1,i2⟩:=IsL.cons.mp h;subst e1;have m':y.imm=true/\D.immL l=true:=by simpa [D.immL] using m
   unfold va1 at e;by_cases hk:k=x
   ·rw[if_pos hk] at e;cases e
    subst hk;exact⟨v,zo0 rfl,i1,m'.1⟩
   ·rw[if_neg hk] at e
    obtain⟨v',g1,g2,g3⟩:=yv8 e i2 m'.2;refine⟨v',?_,g2,g3⟩;show wx0 (((Sum.inr k:Key),v)::(ks.zip r).map λkv=>((Sum.inr kv.1:Key),kv.2)) (Sum.inr x:Key)=_;rw[zo1 (λz=>hk (Sum.inr.inj z))];exact g1
theorem yl5:∀{ks:List Str} {vs:List V},ks.Nodup->((ks.zip vs).map ((λx=>x.1) ∘ λkv=>((Sum.inr kv.1:Key),kv.2))).Nodup
 | [],_,_=>by simp
 | k::ks,[],_=>by simp
 | k::ks,v::vs,h=>by
   obtain⟨h1,h2⟩:=Bx0.mp h;show ((Sum.inr k:Key)::(ks.zip vs).map ((λx=>x.1) ∘ λkv=>((Sum.inr kv.1:Key),kv.2))).Nodup;refine Bx0.mpr ⟨λhm=>?_,yl5 h2⟩;obtain⟨⟨a,b⟩,hab,e⟩:=Au0.mp hm;have e:a=k:=Sum.inr.inj e;subst e;exact h1 (Cp0 hab).1
open H in
def wh2(hu:X.A.units+1<cLine)(h:DKV X c dpos keys values ks fs)(hall:keys.all (·.isSome)=true)(hl:keys.length=values.length)(h0:keys≠[])(h15:keys.length<=15)(hks:ks.length<=15)(hnd:ks.Nodup)(hk:DE X c ga k fk)(hs:vu1 k):DE X c g (.Subscript (.Dict keys values dpos) k pos) (vl5 S ks fs fk):=
 (yc2 hu (xi4 h.1 hall hl h0 h15) hk hs).imp λσ H Q hI38=>by
  obtain⟨ρ,st,R,ok,w⟩:=hI38;intro p hp;have np:¬W.mv p:=zm9 ok hp;refine ym0 ks fs h.2 (R.ext ok (Ext.laid hp)) (zg6 ok hp) (za6 (za5.mp w) (λl st1 q vs H2 e2 ok2 z2=>?_) λx st1 q H2 e2 ok2=>q H2 ((Ext.laid hp).trans e2) ok2);have hp2:H2 p=some (.dK []):=e2 p _ zb3 np;refine⟨hp2,(ks.zip vs).map λkv=>((Sum.inr kv.1:Key),kv.2),by rw[Bm0];rfl,by rw[Aa0,List.length_zip];omega,?_⟩;have mk:zv4 [] ((ks.zip vs).map λkv=>((Sum.inr kv.1:Key),kv.2))=(ks.zip vs).map λkv=>((Sum.inr kv.1:Key),kv.2):=by
   rw[zy6 _ []]
   ·rfl
   ·show (((ks.zip vs).map λkv=>((Sum.inr kv.1:Key),kv.2)).map (·.1)).Nodup
    rw[Bm0];exact yl5 hnd
  rw[mk];have ex:Ext W H (upd H2 p (.dK ((ks.zip vs).map λkv=>((Sum.inr kv.1:Key),kv.2)))):=λb o hb nm=>by
   have b1:b≠p:=zb7 hb hp;rw[za9 b1];exact e2 b o (by rw[za9 b1];exact hb) nm
  have ok3:=yc7 (o:=.dK ((ks.zip vs).map λkv=>((Sum.inr kv.1:Key),kv.2))) ok2 np;have R3:=R.ext ok ex;refine⟨ρ,st1,R3,ok3,za6 (za5.mp q) (λd st2 q v H4 e4 ok4 z4=>?_) λx st2 q H4 e4 ok4=>q H4 (ex.trans e4) ok4⟩;split at q
  ·rename_i x
   split at q
   ·rename_i im
    obtain⟨dd,e5,q⟩:=zb2.mp q;have k1:wr9 (λ_=>False) (λb=>¬W.mv b/\H b=Option.none) H2 H4:=⟨λb u e sy=>by
     have b1:b≠p:=λz=>by
      subst z;rw[hp2] at e;cases e;rcases sy with⟨_,y⟩ | ⟨_,_,y⟩<;>cases y
     refine e4 b _ (by rw[za9 b1];exact e) λm=>?_
     obtain⟨o',h',n1,n2⟩:=W.live st1 H2 b ok2 m;rw[e] at h';cases h';rcases sy with⟨y,z⟩ | ⟨y1,y2,z⟩
     ·exact n1 y z
     ·exact n2 y1 y2 z,λb o f=>f.elim⟩
    have z3:IsL c.K (λ_=>False) H2 l vs:=IsL.ofImm im z2;obtain⟨v',g1,g2,g3⟩:=yv8 e5 (z3.mono k1) im;have zx:Is c.K (λb=>¬W.mv b) H4 (.str x) v:=z4.toR;refine⟨p,v',rfl,?_,q v' H4 (ex.trans e4) ok4 ((New.val (R3.ext ok3 e4) (show New c H4 H4 dd v' from Is.ofImm g3 g2) g).back (ex.trans e4) ok4)⟩;rw[Is.str_iff.mp zx,<-g1];exact ww8.k (k:=(Sum.inr x:Key)) (e4 p _ zb3 np)
   ·exact q.elim
  ·exact q.elim
def xy9{A:Around}{k:Nat}(hr:ws5 k A):A.in1.units+1<cLine:=by
 have:=hr.units;show A.units+1+1<cLine;omega
def xn3(hu:X.A.units+1<cLine)(ha:DE X c ga a fa)(hb:DE X c gb b fb)(hm:behindInMarks .NotIn b=false:=by rfl):DT X c (.Compare a [.NotIn] [b] pos) (fB S (f2 S (ve2 true) fa fb)):=
 (wk3 (xi5 hu ha hb) hm).imp λσ H Q q=>by
  have q':tB (tD c .R (f2 S (ve2 true) fa fb)) σ H Q:=xf0 q;exact xw7 (ga:=ga) (gb:=gb) q'
end
noncomputable abbrev Dr:=List Int×Int
noncomputable def stD(l:Addr)(t:Int):List (Key×V):=[(Sum.inr "cells",.ref l),(Sum.inr "turn",.int t)]
noncomputable def WdS(p l:Addr):Wd Dr where
 ok:=λst H=>H p=some (.dK (stD l st.2))/\H l=some (.lst (st.1.map V.int))/\st.1≠[]/\st.1.length<=63/\0<=st.2
 mv:=λb=>b=p\/b=l
 h:=.ref p
 stay:=λst H H' ⟨a,b,c⟩ k=>⟨k p _ (.inl rfl) a,k l _ (.inr rfl) b,c⟩
 live:=λst H b hI39 m=>by
  obtain⟨a,c,_⟩:=hI39;rcases m with m | m
  ·subst m;exact⟨_,a,(λu z=>by cases z),λob u z=>by cases z⟩
  ·subst m;exact⟨_,c,(λu z=>by cases z),λob u z=>by cases z⟩
noncomputable def vi3(cell turn:Int):Int:=(cell % 2147483629+turn*turn*7919+11)*48271 % 2147483647
noncomputable def vv3(cell turn:Int):Int:=vi3 cell turn*vi3 cell turn % 2147483587
noncomputable def vv2(cell turn:Int):Int:=(vv3 cell turn+turn*104729)*39373 % 2147483629 / 64
noncomputable def plc(st:Dr):Nat:=((st.2+1) % (st.1.length:Int)).toNat
noncomputable def wt0(l:List D)(st:Dr):Res Dr D:=match l with
 | [.int many]=>if 0<many/\many<1073741824/\st.2<2 ^ 40 then
  (if 1000000000000000000<=st.1.getD (plc st) 0 then .ok (.int (st.1.getD (plc st) 0 % many)) (st.1.set (plc st) (st.1.getD (plc st) 0 / many),st.2+1)
   else .ok (.int (vv2 (st.1.getD (plc st) 0) (st.2+1) % many)) (st.1,st.2+1)) else .bad
 | _=>.bad
def vg0:¬((Sum.inr ("cells" : Str)):Key)=Sum.inr ("turn" : Str):=by decide +kernel
def xr6{t:Int}:wx0 (stD l t) (Sum.inr "cells" : Key)=some (.ref l):=by
 unfold stD;exact zo0 rfl
def xf1{t:Int}:wx0 (stD l t) (Sum.inr "turn" : Key)=some (.int t):=by
 unfold stD;rw[zo1 (λz=>vg0 z)];exact zo0 rfl
def wj7{t u:Int}:wu1 (stD l t) (Sum.inr "turn" : Key) (.int u)=stD l u:=by
 unfold wu1;rw[zu6,xf1];refine(if_pos (show (some (V.int t)).isSome=true from rfl)).trans ?_;unfold stD;simp only[Ax0,Cz0];rw[if_neg (λz=>vg0 z)];simp
structure Bn(mg:Str->Option Value):Prop where
 len:mg "len" = none
 divmod:mg "divmod" = none
 list:mg "list" = none
 tuple:mg "tuple" = none
 int:mg "int" = none
 bool:mg "bool" = none
 str:mg "str" = none
 dict:mg "dict" = none
 isinstance:mg "isinstance" = none
 all:mg "all" = none
 any:mg "any" = none
 sum:mg "sum" = none
 zip:mg "zip" = none
 enumerate:mg "enumerate" = none
 range:mg "range" = none
 sorted:mg "sorted" = none
 min:mg "min" = none
 max:mg "max" = none
 abs:mg "abs" = none
 reversed:mg "reversed" = none
 set:mg "set" = none
noncomputable def zo9(ns:List Int):List Int:=if ns=[] then [7] else ns
noncomputable def yr6(K:PySem.W.Frag):Sp:=λvs H Q _=>∃(a:Addr) (ns:List Int),vs=[.ref a]/\SqL K H a (ns.map V.int)/\ns.length<=63/\
 ∀(p l:Addr) (H':Hp),wx7 H H'->H p=none->H l=none->H' p=some (.dK (stD l 0))->H' l=some (.lst ((zo9 ns).map V.int))->Q (.ref p) H'
def vt1{ns:List Int}(h:ns.length<=63):vh9 (ns.map V.int) none (some 63)=ns.map V.int:=by
 unfold vh9;have e:HT.sIx (ns.map V.int).length (ns.map V.int).length (some 63)=(ns.map V.int).length:=by
  have:HT.sIx (ns.map V.int).length (ns.map V.int).length (some ((63:Nat):Int))=min 63 (ns.map V.int).length:=HT.sIx_nat _ _ _;rw[show ((63:Nat):Int)=(63:Int) from rfl] at this;rw[this,Aa0];omega
 rw[e];show ((ns.map V.int).drop 0).take ((ns.map V.int).length-0)=_;rw[List.drop_zero,Nat.sub_zero,Br0]
theorem xl9{K:PySem.W.Frag}{A:Addr->Prop}{H:Hp}:∀ns:List Int,IsL K A H (ns.map D.int) (ns.map V.int)
 | []=>IsL.nil.mpr rfl
 | n::ns=>IsL.cons.mpr ⟨_,_,rfl,Is.int_iff.mpr rfl,xl9 ns⟩
theorem yp5:∀ns:List Int,D.depL (ns.map D.int)<=1
 | []=>by simp[D.depL]
 | n::ns=>by
   have:=yp5 ns;simp only[Ax0,D.depL,D.dep];omega
def xu0(ns:List Int):D.dep (.lst (ns.map D.int))<=30:=by
 have:=yp5 ns;simp only[D.dep];omega
def wm6:zv4 [] [((Sum.inr "cells" : Key),.ref l),((Sum.inr "turn" : Key),.int 0)]=stD l 0:=by
 show wu1 (wu1 [] (Sum.inr "cells" : Key) (.ref l)) (Sum.inr "turn" : Key) (.int 0)=_;have e1:wu1 [] (Sum.inr "cells" : Key) (.ref l)=[((Sum.inr "cells" : Key),.ref l)]:=rfl;rw[e1];unfold wu1;rw[zu6,zo1 (λz=>vg0 z)];rfl
noncomputable def spLaw(K:PySem.W.Frag):Sp:=λvs H Q _=>∃(a:Addr) (ns:List Int),vs=[.ref a]/\SqL K H a (ns.map V.int)/\ns.length<=63/\∀H',Q (.bl true) H'
noncomputable def rhoL(n:Nat):Rho:=.no::.hnd::List.replicate (n-2) .no
noncomputable def exL{X:Cx}(K:PySem.W.Frag)(F:FnS Dr):TS:=λD σ H=>∃p l,tS (cxS (WdS p l) K (λ_=>none)) F D σ H
def wc8{X:Cx}{K:PySem.W.Frag}{ss:List Stmt}{F:FnS Dr}(h:∀p l,DSs X (cxS (WdS p l) K (λ_=>none)) ss F):PSs X ss (exL (X:=X) K F):=λA3 s σ H D I ⟨p,l,q⟩=>h p l A3 s σ H D I q
def vp7{K:PySem.W.Frag}{H:Hp}{p l a:Addr}{m:Nat}:Rep (cxS (WdS p l) K (λ_=>none)) H (some (.ref a)::some (.ref p)::List.replicate m none) (rhoL (m+2)) where
 len:=by simp[rhoL]
 frame:=λb o e=>by cases e
 slot:=λi s h=>by
  unfold rhoL at h
  match i with
  | 0=>cases h;trivial
  | 1=>cases h;rfl
  | i+2=>
    have h:(List.replicate (m+2-2) Sl.no)[i]?=some s:=by simpa using h
    rw[List.getElem?_replicate] at h;split at h
    ·cases h;trivial
    ·cases h
 avl:=λb h=>h.elim
 uniq:=λi j b d e h1 h2 _ _=>by
  unfold rhoL at h1
  match i with
  | 0=>cases h1
  | 1=>cases h1
  | i+2=>
    have h1:(List.replicate (m+2-2) Sl.no)[i]?=some (.own d):=by simpa using h1
    rw[List.getElem?_replicate] at h1;split at h1
    ·cases h1
    ·cases h1
section
variable{S α β:Type}{E:Exn->S->Prop}{st:S}
open H in
def wpB(h:∀d st1,wpR (k d st1) Q E↔P d st1):wpR (r.bind k) Q E↔wpR r P E:=by
 rw[za5];exact iff_of_eq (congrArg (λz=>wpR r z E) (funext λd=>funext λst1=>propext (h d st1)))
def yk0{P:α->Prop}{a:α}{R:Prop}(k:R↔P a):R↔∃b,some a=some b/\P b:=⟨λq=>⟨a,rfl,k.mp q⟩,λh=>by obtain⟨_,e,q⟩:=h;cases e;exact k.mpr q⟩
def yk1{P:α->Prop}:False↔∃b,(none:Option α)=some b/\P b:=⟨False.elim,λh=>by obtain⟨_,e,q⟩:=h;cases e⟩
def vh7{P:Bool->Prop}{a:Bool}{R:Prop}(k:R↔P a):R↔∃b,D.bl a=.bl b/\P b:=⟨λq=>⟨a,rfl,k.mp q⟩,λh=>by obtain⟨_,e,q⟩:=h;cases e;exact k.mpr q⟩
def wo6{P:Int->Prop}{a:Int}{R:Prop}(k:R↔P a):R↔∃b,D.int a=.int b/\P b:=⟨λq=>⟨a,rfl,k.mp q⟩,λh=>by obtain⟨_,e,q⟩:=h;cases e;exact k.mpr q⟩
def wo4{P:Str->Prop}{a:Str}{R:Prop}(k:R↔P a):R↔∃b,D.str a=.str b/\P b:=⟨λq=>⟨a,rfl,k.mp q⟩,λh=>by obtain⟨_,e,q⟩:=h;cases e;exact k.mpr q⟩
def wz3{c:β->α}{d:α}{P:β->Prop}(h:∀b,d=c b->False):False↔∃b,d=c b/\P b:=⟨False.elim,λg=>by obtain⟨b,e,_⟩:=g;exact h b e⟩
def wo5{γ:Type}{c:β->α}{d:α}{P:β->γ->Prop}(h:∀b,d=c b->False):False↔∃b g,d=c b/\P b g:=⟨False.elim,λg=>by obtain⟨b,_,e,_⟩:=g;exact h b e⟩
def wg5{γ:Type}{P:Int->γ->Prop}{a:Int}{R:Prop}(k:R↔∃g,P a g):R↔∃b g,D.int a=.int b/\P b g:=⟨λh=>by obtain⟨g,q⟩:=k.mp h;exact⟨a,g,rfl,q⟩,λh=>by obtain⟨_,g,e,q⟩:=h;cases e;exact k.mpr ⟨g,q⟩⟩
def xd8{c:Prop}[Decidable c]:wpR (if c then r else .bad) Q E↔c/\wpR r Q E:=by
 by_cases h:c
 ·rw[if_pos h];exact⟨λq=>⟨h,q⟩,λq=>q.2⟩
 ·rw[if_neg h];exact⟨λq=>q.elim,λq=>h q.1⟩
def yr0:wpR ((ws3 o st).bind λρ1 st2=>Res.ok (Fl.nx ρ1) st2) Q E↔∃ρ1,o=some ρ1/\Q (.nx ρ1) st:=by rw[za5,zb2];exact Iff.rfl
def yh7{o:Option Rho}{k:Rho->S->Res S β}{Q:β->S->Prop}{P:Rho->Prop}(h:∀ρ1,wpR (k ρ1 st) Q E↔P ρ1):wpR ((ws3 o st).bind k) Q E↔∃ρ1,o=some ρ1/\P ρ1:=by
 rw[za5,zb2];exact exists_congr λρ1=>and_congr Iff.rfl (h ρ1)
end
theorem xv8{d:D}{b:Bool}:d.bool?=some b↔d=.bl b:=by
 cases d with
 | bl a=>exact⟨λe=>congrArg D.bl (Option.some.inj e),λe=>congrArg D.bool? e⟩
 | _=>exact⟨λe=>(by cases e),λe=>(by cases e)⟩
theorem int_iff{d:D}{b:Int}:d.int?=some b↔d=.int b:=by
 cases d with
 | int a=>exact⟨λe=>congrArg D.int (Option.some.inj e),λe=>congrArg D.int? e⟩
 | _=>exact⟨λe=>(by cases e),λe=>(by cases e)⟩
section
variable{S:Type}{E:Exn->S->Prop}{ρ:Rho}{st:S}
section
variable{Q:D->S->Prop}{f f1 f2' f3 fk:Fn S}
theorem wp_fAndV:wpR (vl6 S f1 f2' ρ st) Q E↔wpR (f1 ρ st) (λd st1=>∃b,d=.bl b/\(if b=true then wpR (f2' ρ st1) Q E else Q (.bl false) st1)) E:=wpB λd st1=>by
 cases d with
 | bl b=>cases b<;>exact vh7 Iff.rfl
 | _=>exact wz3 λb e=>by cases e
theorem wp_fOrV:wpR (vv7 S f1 f2' ρ st) Q E↔wpR (f1 ρ st) (λd st1=>∃b,d=.bl b/\(if b=true then Q (.bl true) st1 else wpR (f2' ρ st1) Q E)) E:=wpB λd st1=>by
 cases d with
 | bl b=>cases b<;>exact vh7 Iff.rfl
 | _=>exact wz3 λb e=>by cases e
theorem wp_fNotV:wpR (vl4 S f ρ st) Q E↔wpR (f ρ st) (λd st1=>∃b,d=.bl b/\Q (.bl (!b)) st1) E:=wpB λd st1=>by
 cases d with
 | bl b=>exact vh7 Iff.rfl
 | _=>exact wz3 λb e=>by cases e
theorem wp_fNeg:wpR (vv8 S f ρ st) Q E↔wpR (f ρ st) (λd st1=>∃i,d=.int i/\Q (.int (-i)) st1) E:=wpB λd st1=>by
 cases d with
 | int b=>exact wo6 Iff.rfl
 | _=>exact wz3 λb e=>by cases e
def wp_pSo{Q:Option Int->S->Prop}:wpR (pSo S f ρ st) Q E↔wpR (f ρ st) (λd st1=>∃i,d=.int i/\Q (some i) st1) E:=wpB λd st1=>by
 rw[za5,zb2];exact exists_congr λi=>and_congr int_iff Iff.rfl
def wp_fB{Q:Bool->S->Prop}:wpR (fB S f ρ st) Q E↔wpR (f ρ st) (λd st1=>∃b,d=.bl b/\Q b st1) E:=wpB λd st1=>by
 rw[zb2];exact exists_congr λi=>and_congr xv8 Iff.rfl
theorem wp_fDisp{ks:List Str}{fs:List (Fn S)}:wpR (vl5 S ks fs fk ρ st) Q E↔wpR (vm0 S fs ρ st) (λl st1=>wpR (fk ρ st1) (λd st2=>∃x,d=.str x/\D.immL l=true/\wpR (ws3 (va1 x ks l) st2) Q E) E) E:=wpB λl st1=>wpB λd st2=>by
 cases d with
 | str x=>exact wo4 xd8
 | _=>exact wz3 λb e=>by cases e
theorem xo4{r:Option D}{R1 R0:Res S D}:wpR (match r with
 | some (.bl true)=>R1
 | some (.bl false)=>R0
 | _=>.bad) Q E↔∃b,r=some (.bl b)/\(if b=true then wpR R1 Q E else wpR R0 Q E):=by
 cases r with
 | none=>exact wz3 (c:=λb=>some (D.bl b)) λb e=>by cases e
 | some d=>cases d with
   | bl b=>cases b<;>exact⟨λq=>⟨_,rfl,q⟩,λh=>by obtain⟨_,e,q⟩:=h;cases e;exact q⟩
   | _=>exact wz3 (c:=λb=>some (D.bl b)) λb e=>by cases e
def wp_fChain{o o':D->D->Option D}:wpR (xm9 S o o' f1 f2' f3 ρ st) Q E↔wpR (f1 ρ st) (λd1 st1=>wpR (f2' ρ st1) (λd2 st2=>∃b,o d1 d2=some (.bl b)/\(if b=true then wpR (f3 ρ st2) (λd3 st3=>wpR (ws3 (o' d2 d3) st3) Q E) E else Q (.bl false) st2)) E) E:=wpB λd1 st1=>wpB λd2 st2=>by
 refine xo4.trans ?_;rw[za5];exact Iff.rfl
end
section
variable{Q:Fl->S->Prop}{F G B:FnS S}{t:FnT S}{f fk fv:Fn S}{i j k:Nat}
theorem wp_sMt{o:List D->D->Option (List D)}:wpR (sMt S i o f ρ st) Q E↔∃l,wr8 ρ i=some l/\wpR (f ρ st) (λd st1=>∃l',o l d=some l'/\Q (.nx (ρ.set i (.own (.lst l')))) st1) E:=by
 unfold sMt;cases wr8 ρ i with
 | none=>exact yk1
 | some l=>
   refine yk0 (wpB λd st1=>?_);rw[za5,zb2];exact Iff.rfl
theorem wp_sDPut:wpR (xx0 S i fk fv ρ st) Q E↔wpR (fv ρ st) (λv st1=>∃ks vs,wv2 ρ i=some (ks,vs)/\wpR (fk ρ st1) (λd st2=>∃kk,zc8 d=some kk/\v.imm=true/\ks.length<sizeLine/\Q (.nx (ρ.set i (.own (.dct (.non::(wt7 kk v ks vs).1) (wt7 kk v ks vs).2)))) st2) E) E:=wpB λv st1=>by
 cases wv2 ρ i with
 | none=>exact⟨False.elim,λh=>by obtain⟨_,_,e,_⟩:=h;cases e⟩
 | some l=>
   obtain⟨ks,vs⟩:=l;refine(wpB λd st2=>?_).trans ⟨λq=>⟨ks,vs,rfl,q⟩,λh=>by obtain⟨_,_,e,q⟩:=h;cases e;exact q⟩;cases zc8 d with
   | none=>exact yk1
   | some kk=>exact yk0 (xd8.trans and_assoc)
theorem wp_sPar{fa:FnA S}:wpR (vu5 S i j fa ρ st) Q E↔wpR (fa ρ st) (λl st1=>match l with
 | [d,e]=>∃ρ1,put ρ i d=some ρ1/\∃ρ2,put ρ1 j e=some ρ2/\Q (.nx ρ2) st1
 | _=>False) E:=wpB λl st1=>by
 match l with
 | []=>exact Iff.rfl
 | [_]=>exact Iff.rfl
 | [d,e]=>exact yh7 λ_=>yr0
 | _::_::_::_=>exact Iff.rfl
theorem wp_sPar3{fa:FnA S}:wpR (vk0 S i j k fa ρ st) Q E↔wpR (fa ρ st) (λl st1=>match l with
 | [d,e,h]=>∃ρ1,put ρ i d=some ρ1/\∃ρ2,put ρ1 j e=some ρ2/\∃ρ3,put ρ2 k h=some ρ3/\Q (.nx ρ3) st1
 | _=>False) E:=wpB λl st1=>by
 match l with
 | []=>exact Iff.rfl
 | [_]=>exact Iff.rfl
 | [_,_]=>exact Iff.rfl
 | [d,e,h]=>exact yh7 λ_=>yh7 λ_=>yr0
 | _::_::_::_::_=>exact Iff.rfl
end
end
section
variable{S α β:Type}{Q:α->S->Prop}{E:Exn->S->Prop}{ρ:Rho}{st:S}
def wp_ok{a:α}:wpR (Res.ok a st) Q E↔Q a st:=Iff.rfl
def wp_bad:wpR (Res.bad:Res S α) Q E↔False:=Iff.rfl
def wp_some{a:α}:wpR (ws3 (some a) st) Q E↔Q a st:=Iff.rfl
def wp_none:wpR (ws3 (none:Option α) st) Q E↔False:=Iff.rfl
end
section
variable{S:Type}{E:Exn->S->Prop}{ρ:Rho}{st:S}
variable{Q:Fl->S->Prop}{F G B:FnS S}{t:FnT S}{f:Fn S}{i j:Nat}
theorem zb5:wpR (vi1 S F G ρ st) Q E↔wpR (F ρ st) (λfl st1=>match fl with
 | .nx ρ1=>wpR (G ρ1 st1) Q E
 | .rt d=>Q (.rt d) st1
 | .bk r=>Q (.bk r) st1
 | .ct r=>Q (.ct r) st1) E:=by
 unfold vi1;rw[za5];cases F ρ st with
 | bad=>exact Iff.rfl
 | exc x s=>exact Iff.rfl
 | ok fl s=>cases fl<;>exact Iff.rfl
def wp_sNil:wpR (vu6 S ρ st) Q E↔Q (.nx ρ) st:=Iff.rfl
def wp_sSet:wpR (vj8 S i f ρ st) Q E↔wpR (f ρ st) (λd st1=>∃ρ1,putN ρ i d=some ρ1/\Q (.nx ρ1) st1) E:=by
 unfold vj8;rw[za5];have:∀d st1,wpR ((ws3 (putN ρ i d) st1).bind λρ' st2=>Res.ok (Fl.nx ρ') st2) Q E↔∃ρ1,putN ρ i d=some ρ1/\Q (.nx ρ1) st1:=λd st1=>by rw[za5,zb2];exact Iff.rfl
 simp only[this]
def wp_sSetB:wpR (vj7 S i f ρ st) Q E↔wpR (f ρ st) (λd st1=>∃ρ1,put ρ i d=some ρ1/\Q (.nx ρ1) st1) E:=by
 unfold vj7;rw[za5];have:∀d st1,wpR ((ws3 (put ρ i d) st1).bind λρ' st2=>Res.ok (Fl.nx ρ') st2) Q E↔∃ρ1,put ρ i d=some ρ1/\Q (.nx ρ1) st1:=λd st1=>by rw[za5,zb2];exact Iff.rfl
 simp only[this]
def wp_sAsg{g:FnG}:wpR (vp5 S g f ρ st) Q E↔wpR (f ρ st) (λd st1=>∃ρ1,g d ρ=some ρ1/\Q (.nx ρ1) st1) E:=by
 unfold vp5;rw[za5];have:∀d st1,wpR ((ws3 (g d ρ) st1).bind λρ' st2=>Res.ok (Fl.nx ρ') st2) Q E↔∃ρ1,g d ρ=some ρ1/\Q (.nx ρ1) st1:=λd st1=>by rw[za5,zb2];exact Iff.rfl
 simp only[this]
open H in
def wp_sIf:wpR (sIf S t F G ρ st) Q E↔wpR (t ρ st) (λb st1=>if b=true then wpR (F ρ st1) Q E else wpR (G ρ st1) Q E) E:=by
 unfold sIf;rw[za5];refine iff_of_eq (congrArg (λz=>wpR (t ρ st) z E) (funext λb=>funext λst1=>propext ?_));cases b<;>exact Iff.rfl
open H in
def wp_sRet:wpR (vp2 S f ρ st) Q E↔wpR (f ρ st) (λd st1=>(d.imm=true\/d.flat=true)/\Q (.rt d) st1) E:=by
 unfold vp2;rw[za5];refine iff_of_eq (congrArg (λz=>wpR (f ρ st) z E) (funext λb=>funext λst1=>propext ?_));by_cases h:b.imm=true\/b.flat=true
 ·rw[if_pos h];exact⟨λq=>⟨h,q⟩,λq=>q.2⟩
 ·rw[if_neg h];exact⟨λq=>q.elim,λq=>h q.1⟩
def wp_sRetV:wpR (vg2 S i ρ st) Q E↔∃d,own? ρ i=some d/\Q (.rt d) st:=by
 unfold vg2;rw[za5,zb2];exact Iff.rfl
def wp_sFor{fz:List Nat}{fi:FnI S}{g:FnG}:wpR (vp3 S fz fi g B ρ st) Q E↔wpR (fi (frz fz ρ) st) (λl st1=>wpR (va6 S g B l (frz fz ρ) st1) Q E) E:=by unfold vp3;rw[za5]
def wp_sBad:wpR (vy3 S ρ st) Q E↔False:=Iff.rfl
theorem yr2(I:Nat->Rho->S->Prop):∀{l:List D} {ρ:Rho} {st:S} (n:Nat),I n ρ st->
 (∀i d ρ st,l[i]?=some d->I (n+i) ρ st->∃ρ1,g d ρ=some ρ1/\wpR (B ρ1 st) (λfl st'=>match fl with
  | .nx ρ2=>I (n+i+1) ρ2 st'
  | .ct ρ2=>I (n+i+1) ρ2 st'
  | .bk ρ2=>Q (.nx ρ2) st'
  | .rt d=>Q (.rt d) st') E)->(∀ρ st,I (n+l.length) ρ st->Q (.nx ρ) st)->wpR (va6 S g B l ρ st) Q E
 | [],ρ,st,n,h0,_,he=>he ρ st h0
 | d::l,ρ,st,n,h0,hs,he=>by
   obtain⟨ρ1,e1,q⟩:=hs 0 d ρ st rfl h0;unfold va6;rw[e1];refine za5.mpr (wp_some.mpr (za5.mpr (za6 q (λfl st' z=>?_) λx st' z=>z)));have go:∀ρ2,I (n+1) ρ2 st'->wpR (va6 S g B l ρ2 st') Q E:=λρ2 z=>yr2 I (n+1) z (λi d ρ st h h'=>by
    have:=hs (i+1) d ρ st (by simpa using h) (by rw[show n+(i+1)=n+1+i by omega];exact h');rw[show n+(i+1)=n+1+i by omega] at this;exact this) λρ st h=>he ρ st (by rw[Ar0,show n+(l.length+1)=n+1+l.length by omega];exact h)
   cases fl with
   | nx ρ2=>exact go ρ2 z
   | ct ρ2=>exact go ρ2 z
   | bk ρ2=>exact z
   | rt d=>exact z
end
section
variable{S:Type}{E:Exn->S->Prop}{ρ:Rho}{st:S}{Q:D->S->Prop}{f f1 f2' f3:Fn S}{i:Nat}{t:FnT S}
def wp_fC{d:D}:wpR (fC S d ρ st) Q E↔Q d st:=Iff.rfl
def wp_fVk:wpR (fVk S i ρ st) Q E↔wpR (ws3 (kp ρ i) st) Q E:=Iff.rfl
def wp_f2{o:D->D->Option D}:wpR (f2 S o f1 f2' ρ st) Q E↔wpR (f1 ρ st) (λd1 st1=>wpR (f2' ρ st1) (λd2 st2=>wpR (ws3 (o d1 d2) st2) Q E) E) E:=by
 unfold f2;rw[za5];simp only[za5]
def wp_fA{o:List D->Option D}{fa:FnA S}:wpR (fA S o fa ρ st) Q E↔wpR (fa ρ st) (λl st1=>wpR (ws3 (o l) st1) Q E) E:=by unfold fA;rw[za5]
def wp_aNil{Q:List D->S->Prop}:wpR (vl9 S ρ st) Q E↔Q [] st:=Iff.rfl
def wp_aCons{Q:List D->S->Prop}{r:FnA S}:wpR (wt6 S f r ρ st) Q E↔wpR (f ρ st) (λd st1=>wpR (r ρ st1) (λl st2=>Q (d::l) st2) E) E:=by
 unfold wt6;rw[za5];simp only[za5];exact Iff.rfl
open H in
def wp_fCall{F:List D->Res Unit D}{fa:FnA S}:wpR (vc7 S F fa ρ st) Q E↔wpR (fa ρ st) (λl st1=>wpR (F l) (λd _=>Q d st1) λ_ _=>False) E:=by
 unfold vc7;rw[za5];refine iff_of_eq (congrArg (λz=>wpR (fa ρ st) z E) (funext λb=>funext λst1=>propext ?_));cases F b<;>exact Iff.rfl
open H in
def wp_fCallS{F:List D->S->Res S D}{fa:FnA S}:wpR (yp1 S F i fa ρ st) Q E↔ρ[i]?=some .hnd/\wpR (fa ρ st) (λl st1=>wpR (F l st1) Q λ_ _=>False) E:=by
 unfold yp1;split
 ·rename_i h
  rw[za5];have:∀b st1,wpR (match F b st1 with
   | .ok d st2=>Res.ok d st2
   | _=>Res.bad) Q E↔wpR (F b st1) Q λ_ _=>False:=λb st1=>by cases F b st1<;>exact Iff.rfl
  refine(iff_of_eq (congrArg (λz=>wpR (fa ρ st) z E) (funext λd=>funext λst1=>propext (this d st1)))).trans ?_;exact⟨λq=>⟨h,q⟩,λq=>q.2⟩
 ·rename_i h
  exact⟨λq=>q.elim,λq=>h q.1⟩
open H in
def wp_fIfE:wpR (vv9 S t f1 f2' ρ st) Q E↔wpR (t ρ st) (λb st1=>if b=true then wpR (f1 ρ st1) Q E else wpR (f2' ρ st1) Q E) E:=by
 unfold vv9;rw[za5];refine iff_of_eq (congrArg (λz=>wpR (t ρ st) z E) (funext λb=>funext λst1=>propext ?_));cases b<;>exact Iff.rfl
def wp_pNo{Q:Option Int->S->Prop}:wpR (pNo S ρ st) Q E↔Q none st:=Iff.rfl
def wp_iSeq{Q:List D->S->Prop}{sel:D->Option (List D)}:wpR (ve4 S sel f ρ st) Q E↔wpR (f ρ st) (λd st1=>wpR (ws3 (sel d) st1) Q E) E:=by unfold ve4;rw[za5]
def wp_iArgs{Q:List D->S->Prop}{o:List D->Option (List D)}{fa:FnA S}:wpR (vc3 S o fa ρ st) Q E↔wpR (fa ρ st) (λl st1=>wpR (ws3 (o l) st1) Q E) E:=by unfold vc3;rw[za5]
def wp_fComp{fz:List Nat}{ixs:List (Option Nat)}{fi:FnI S}{g:FnG}:wpR (vc6 S fz ixs fi g t f ρ st) Q E↔wpR (fi (frz fz ρ) st) (λl st1=>wpR (ww2 S g t f l [] (pickR (frz fz ρ) ixs) st1) (λr st2=>Q (.lst r) st2) E) E:=by
 unfold vc6;rw[za5];simp only[za5];exact Iff.rfl
theorem zz3{g:FnG}{Q:List D->S->Prop}(I:Nat->List D->Rho->S->Prop):∀{l acc:List D} {ρ:Rho} {st:S} (n:Nat),I n acc ρ st->
 (∀i d acc ρ st,l[i]?=some d->I (n+i) acc ρ st->∃ρ1,g d ρ=some ρ1/\wpR (t ρ1 st) (λb st1=>if b=true then wpR (f ρ1 st1) (λy st2=>y.imm=true/\acc.length<sizeLine/\I (n+i+1) (acc++[y]) ρ1 st2) E else I (n+i+1) acc ρ1 st1) E)->
 (∀acc ρ st,I (n+l.length) acc ρ st->Q acc st)->wpR (ww2 S g t f l acc ρ st) Q E
 | [],acc,ρ,st,n,h0,_,he=>he acc ρ st h0
 | d::l,acc,ρ,st,n,h0,hs,he=>by
   obtain⟨ρ1,e1,q⟩:=hs 0 d acc ρ st rfl h0;have go:∀acc st',I (n+1) acc ρ1 st'->wpR (ww2 S g t f l acc ρ1 st') Q E:=λacc st' z=>zz3 I (n+1) z (λi d acc ρ st h h'=>by
    have:=hs (i+1) d acc ρ st (by simpa using h) (by rw[show n+(i+1)=n+1+i by omega];exact h');rw[show n+(i+1)=n+1+i by omega] at this;exact this) λacc ρ st h=>he acc ρ st (by rw[Ar0,show n+(l.length+1)=n+1+l.length by omega];exact h)
   unfold ww2;rw[e1];refine za5.mpr (wp_some.mpr (za5.mpr (za6 q (λb st' z=>?_) λx st' z=>z)));cases b with
   | true=>
     have z:wpR (f ρ1 st') (λy st2=>y.imm=true/\acc.length<sizeLine/\I (n+0+1) (acc++[y]) ρ1 st2) E:=z;rw[if_pos rfl];refine za5.mpr (za6 z (λy st2 hI111=>?_) λx st' z=>z);obtain⟨h1,h2,h3⟩:=hI111;rw[if_pos ⟨h1,h2⟩];exact go _ _ h3
   | false=>exact go _ _ z
variable{Q:Bool->S->Prop}{t1 t2:FnT S}
open H in
def wp_fAnd:wpR (vs2 S t1 t2 ρ st) Q E↔wpR (t1 ρ st) (λb st1=>if b=true then wpR (t2 ρ st1) Q E else Q false st1) E:=by
 unfold vs2;rw[za5];refine iff_of_eq (congrArg (λz=>wpR (t1 ρ st) z E) (funext λb=>funext λst1=>propext ?_));cases b<;>exact Iff.rfl
open H in
def wp_fOr:wpR (fOr S t1 t2 ρ st) Q E↔wpR (t1 ρ st) (λb st1=>if b=true then Q true st1 else wpR (t2 ρ st1) Q E) E:=by
 unfold fOr;rw[za5];refine iff_of_eq (congrArg (λz=>wpR (t1 ρ st) z E) (funext λb=>funext λst1=>propext ?_));cases b<;>exact Iff.rfl
def wp_fNot:wpR (vr8 S t1 ρ st) Q E↔wpR (t1 ρ st) (λb st1=>Q (!b) st1) E:=by unfold vr8;rw[za5];exact Iff.rfl
def wp_fTrue:wpR (vh6 S ρ st) Q E↔Q true st:=Iff.rfl
end
theorem zk4{n p:Nat}{B:FnS Unit}{l:List D}{Q:D->Unit->Prop}{E:Exn->Unit->Prop}(hl:l.length=p)(hp:p<=n)(h:wpR (B (rho0 n l) ()) (λfl st=>match fl with
 | .rt d=>Q d st
 | .nx _=>Q .non st
 | _=>False) E):wpR (dfn n p B l) Q E:=by
 unfold dfn;rw[if_pos ⟨hl,hp⟩];cases q:B (rho0 n l) () with
 | bad=>rw[q] at h;exact h
 | exc x u=>rw[q] at h;exact h
 | ok fl u=>rw[q] at h;cases fl<;>exact h
theorem zw5{S:Type}{n p:Nat}{B:FnS S}{l:List D}{st:S}{Q:D->S->Prop}{E:Exn->S->Prop}(hl:l.length+1=p)(hp:p<=n)(h:wpR (B (rhoS n l) st) (λfl st=>match fl with
 | .rt d=>Q d st
 | .nx _=>Q .non st
 | _=>False) E):wpR (vb2 n p B l st) Q E:=by
 unfold vb2;rw[if_pos ⟨hl,hp⟩];cases q:B (rhoS n l) st with
 | bad=>rw[q] at h;exact h
 | exc x u=>rw[q] at h;exact h
 | ok fl u=>rw[q] at h;cases fl<;>exact h
def zc4{m:Int}{st:Dr}{Q:D->Dr->Prop}{E:Exn->Dr->Prop}(h0:0<m)(h1:m<1073741824)(h2:st.2<2 ^ 40)(h:∀v st',0<=v->v<m->st'.2=st.2+1->Q (.int v) st'):wpR (wt0 [.int m] st) Q E:=by
 unfold wt0;simp only;rw[if_pos ⟨h0,h1,h2⟩];split
 ·exact h _ _ (Int.emod_nonneg _ (by omega)) (Int.emod_lt_of_pos _ h0) rfl
 ·exact h _ _ (Int.emod_nonneg _ (by omega)) (Int.emod_lt_of_pos _ h0) rfl
def flat_lst{l:List D}:D.flat (.lst l)=D.immL l:=rfl
def flat_dct{k l:List D}:D.flat (.dct k l)=D.immL l:=rfl
def flat_int{i:Int}:D.flat (.int i)=false:=rfl
def flat_str{i:Str}:D.flat (.str i)=false:=rfl
def flat_bl{i:Bool}:D.flat (.bl i)=false:=rfl
def flat_non:D.flat .non=false:=rfl
def flat_tup{l:List D}:D.flat (.tup l)=false:=rfl
def zf6{n:Nat}(h:n<=1000):n<=sizeLine:=Ce0 (zp6 h)
def lt_size{n:Nat}(h:n<=1000):n<sizeLine:=zp6 h
theorem za8{α:Type}{f:α->D}(h:∀a,(f a).imm=true):∀l:List α,D.immL (l.map f)=true
 | []=>rfl
 | a::l=>by simp only[Ax0,D.immL,h a,za8 h l,Bool.and_self]
theorem xu1:D.immL l=true↔∀d∈l,d.imm=true:=by
 induction l with
 | nil=>simp[D.immL]
 | cons a l ih=>simp[D.immL,ih]
def yj1(m:D.immL l=true)(h:l.length<=1000):wx3 l=some (.tup l):=if_pos ⟨m,zf6 h⟩
def zt8(m:D.immL l=true)(h:l.length<=1000):vb9 l=some (.lst l):=if_pos ⟨m,zf6 h⟩
def wt2(h1:a.imm=true)(h2:b.imm=true):wx3 [a,b]=some (.tup [a,b]):=yj1 (by simp[D.immL,h1,h2]) (by simp)
def wx4:vb9 []=some (.lst []):=zt8 rfl (by simp)
def ve0(h1:a.imm=true)(h2:b.imm=true):vb9 [a,b]=some (.lst [a,b]):=zt8 (by simp[D.immL,h1,h2]) (by simp)
def zx3(m:d.imm=true)(h:l.length<=1000):vq8 l d=some (l++[d]):=if_pos ⟨m,lt_size h⟩
def imm_int{i:Int}:D.imm (.int i)=true:=by simp[D.imm]
def imm_str{i:Str}:D.imm (.str i)=true:=by simp[D.imm]
def imm_bl{i:Bool}:D.imm (.bl i)=true:=by simp[D.imm]
def imm_non:D.imm .non=true:=by simp[D.imm]
def imm_tup{l:List D}:D.imm (.tup l)=D.immL l:=by simp[D.imm]
def zd9{S:Type}{E:Exn->S->Prop}{ρ:Rho}{st:S}{Q:List D->S->Prop}{g:FnG}{t:FnT S}{f:Fn S}{l:List D}(h:D->D)(R:Rho->Prop)(h0:R ρ)(hs:∀d∈l,∀ρ,R ρ->∃ρ1,g d ρ=some ρ1/\R ρ1/\wpR (t ρ1 st) (λb st1=>b=true/\st1=st) E/\wpR (f ρ1 st) (λy st2=>y=h d/\y.imm=true/\st2=st) E)(hl:l.length<=sizeLine)(hq:Q (l.map h) st):wpR (ww2 S g t f l [] ρ st) Q E:=by
 refine zz3 (λn acc ρ' st'=>acc=(l.take n).map h/\R ρ'/\st'=st) 0 ⟨by simp,h0,rfl⟩ (λi d acc ρ' st' hd hI113=>?_) λacc ρ' st' hI112=>?_
 ·obtain⟨e1,r,e2⟩:=hI113
  subst e2;have hi:i<l.length:=(Ae0.mp hd).1;obtain⟨ρ1,q1,r1,q2,q3⟩:=hs d (Ao0 hd) ρ' r;refine⟨ρ1,q1,za6 q2 (λb st1 hI114=>?_) λx s z=>z⟩;obtain⟨eb,es⟩:=hI114;subst eb es;rw[if_pos rfl];refine za6 q3 (λy st2 ⟨ey,my,es⟩=>⟨my,?_,?_,r1,es⟩) λx s z=>z
  ·rw[e1,Aa0,Bd0];omega
  ·rw[e1,ey,Al0,Bk0,hd,Bb0];rfl
 ·obtain⟨e1,r,e2⟩:=hI112
  rw[Al0,Br0] at e1;subst e1 e2;exact hq
theorem zj1{α:Type}{f:α->Bool}:∀l:List α,zh5 (l.map λa=>.bl (f a))=some (l.map f)
 | []=>rfl
 | a::l=>by simp only[Ax0,zh5,zj1 l,Aw0]
mutual
noncomputable def D.lw:D->Bool
 | .bl _=>false
 | .dct _ _=>false
 | .fl _=>false
 | .fd _ _=>false
 | .tup l=>D.lwL l&&decide (l.length<=sizeLine)
 | .lst l=>D.lwL l&&decide (l.length<=sizeLine)
 | _=>true
noncomputable def D.lwL:List D->Bool
 | []=>true
 | d::l=>D.lw d&&D.lwL l
end
theorem yt1:D.lwL l=true↔∀d∈l,d.lw=true:=by
 induction l with
 | nil=>simp[D.lwL]
 | cons a l ih=>simp[D.lwL,ih]
theorem xn6(h:d∈l):d.dep<=D.depL l:=by
 induction l with
 | nil=>cases h
 | cons a l ih=>
   unfold D.depL;rcases Aj0.mp h with e | e
   ·subst e;omega
   ·have:=ih e;omega
def xi7(h:d∈wu8 l l):∃x∈l,d=.tup [x,x]:=by
 obtain⟨i,hi⟩:=List.getElem?_of_mem h;obtain⟨x,y,h1,h2,rfl⟩:=yn3 hi;rw[h1] at h2;cases h2;exact⟨x,Ao0 h1,rfl⟩
def yz7{l:List D}:zh5 (l.map λ_=>.bl true)=some (l.map λ_=>true):=zj1 (f:=λ_=>true) l
def xl3(ha:a.imm=true)(hb:b.imm=true){c:Bool}:oIx (.lst [a,b]) (.int (if c=true then 1 else 0))=some (if c=true then b else a):=by
 cases c
 ·show im (some a)=some a
  simp[im,ha]
 ·show im (some b)=some b
  simp[im,hb]
def ze1{j:Int}(h:j<=1000)(h0:0<=j):ys7 [.int j]=some (zl1 0 j.toNat):=if_pos ⟨by omega,by omega⟩
def ze3{lo:Int}{n:Nat}:(zl1 lo n).length=n:=by unfold zl1;simp
theorem ze0{lo:Int}{n i:Nat}(h:(zl1 lo n)[i]?=some d):d=.int (lo+i)/\i<n:=by
 unfold zl1 at h;rw[An0] at h;cases q:(List.range n)[i]? with
 | none=>rw[q] at h;cases h
 | some k=>
   rw[q] at h;obtain⟨hi,e⟩:=Ae0.mp q;rw[List.getElem_range] at e;subst e;cases h;exact⟨rfl,by simpa using hi⟩
mutual
theorem yx8:∀{d:D},d.lw=true->D.eqq d d=some true
 | .non,_=>rfl
 | .bl _,h=>by simp[D.lw] at h
 | .int i,_=>by simp[D.eqq]
 | .str i,_=>by simp[D.eqq]
 | .tup l,h=>by
   have h':D.lwL l=true/\l.length<=sizeLine:=by simpa [D.lw] using h
   simp only[D.eqq,yk4 h'.1]
 | .lst l,h=>by
   have h':D.lwL l=true/\l.length<=sizeLine:=by simpa [D.lw] using h
   simp only[D.eqq,yk4 h'.1,if_true]
 | .dct _ _,h=>by simp[D.lw] at h
theorem yk4:∀{l:List D},D.lwL l=true->D.eqL l l=some true
 | [],_=>rfl
 | d::l,h=>by
   have h':d.lw=true/\D.lwL l=true:=by simpa [D.lwL] using h
   simp only[D.eqL,yx8 h'.1,yk4 h'.2,Option.bind_some,Aw0,Bool.and_self]
end
def wm9(h:D.lwL l=true)(hl:l.length<=1000):D.lw (.tup l)=true:=by
 simp only[D.lw,h,Bool.true_and,decide_eq_true_eq];exact zf6 hl
theorem ya6{α:Type}{f:α->D}{n:Nat}(h:∀a,(f a).dep<=n):∀l:List α,D.depL (l.map f)<=n
 | []=>Am0 _
 | a::l=>by
   have h1:=h a;have h2:=ya6 h l;simp only[Ax0,D.depL];omega
def xt2{neg:Bool}(h:d.lw=true)(hd:d.dep<=30):oEq neg d d=some (.bl (if neg then false else true)):=by
 unfold oEq;rw[if_pos hd,yx8 h];cases neg<;>rfl
section
variable{S:Type}{E:Exn->S->Prop}{ρ:Rho}{st:S}{Q:Fl->S->Prop}{f fk fv:Fn S}{i j k:Nat}{t:FnT S}{B:FnS S}
theorem yb1(I:Rho->S->Prop)(μ:Rho->S->Nat)(hs:∀ρ st,I ρ st->wpR (t ρ st) (λb st1=>if b=true then wpR (B ρ st1) (λfl st2=>match fl with
 | .nx ρ2=>I ρ2 st2/\μ ρ2 st2<μ ρ st
 | .ct ρ2=>I ρ2 st2/\μ ρ2 st2<μ ρ st
 | .bk ρ2=>Q (.nx ρ2) st2
 | .rt d=>Q (.rt d) st2) E else Q (.nx ρ) st1) E):∀(n:Nat) (ρ:Rho) (st:S),I ρ st->μ ρ st<n->wpR (zi8 S t B n ρ st) Q E
 | 0,_,_,_,h=>absurd h (Nat.not_lt_zero _)
 | n+1,ρ,st,h,hm=>by
   unfold zi8;refine za5.mpr (za6 (hs ρ st h) (λb st1 q=>?_) λx s z=>z);cases b with
   | false=>exact q
   | true=>
     have q:wpR (B ρ st1) _ E:=q;rw[if_pos rfl];refine za5.mpr (za6 q (λfl st2 z=>?_) λx s z=>z);cases fl with
     | nx ρ2=>exact yb1 I μ hs n ρ2 st2 z.1 (by have:=z.2;omega)
     | ct ρ2=>exact yb1 I μ hs n ρ2 st2 z.1 (by have:=z.2;omega)
     | bk ρ2=>exact z
     | rt d=>exact z
theorem xd1(I:Rho->S->Prop)(μ:Rho->S->Nat)(h0:I ρ st)(hs:∀ρ st,I ρ st->wpR (t ρ st) (λb st1=>if b=true then wpR (B ρ st1) (λfl st2=>match fl with
 | .nx ρ2=>I ρ2 st2/\μ ρ2 st2<μ ρ st
 | .ct ρ2=>I ρ2 st2/\μ ρ2 st2<μ ρ st
 | .bk ρ2=>Q (.nx ρ2) st2
 | .rt d=>Q (.rt d) st2) E else Q (.nx ρ) st1) E):wpR (yf9 S t B ρ st) Q E:=by
 have h:=yb1 (Q:=Q) (E:=E) I μ hs (μ ρ st+1) ρ st h0 (Nat.lt_succ_self _);rw[ym9 (n:=μ ρ st+1) (λz=>by rw[z] at h;exact h)];exact h
end
section
variable{S:Type}{E:Exn->S->Prop}{ρ:Rho}{st:S}{Q:D->S->Prop}{f1 f2' f3 fk:Fn S}
end
def xm2[∀i j,Decidable (C i j)]{i j:Int}(h:C i j):iOp C g (.int i) (.int j)=some (g i j):=if_pos h
section
variable{S:Type}{E:Exn->S->Prop}{ρ:Rho}{st:S}{Q:Fl->S->Prop}{F G:FnS S}
def wi9(I:Rho->S->Prop)(h1:wpR (F ρ st) (λfl st1=>∃ρ1,fl=.nx ρ1/\I ρ1 st1) E)(h2:∀ρ1 st1,I ρ1 st1->wpR (G ρ1 st1) Q E):wpR (vi1 S F G ρ st) Q E:=
 zb5.mpr (za6 h1 (λfl st1 ⟨ρ1,e,h⟩=>by subst e;exact h2 ρ1 st1 h) λx s z=>z)
end
def yg7{n:Nat}(h:n<=1000000):n<sizeLine:=by rw[sizeLine_eq];omega
def xp4{v:Int}(h0:0<=v)(h1:v<l.length):∃d,atI l v=some d/\l[v.toNat]?=some d:=by
 have hv:v.toNat<l.length:=by omega
 refine⟨l[v.toNat],?_,Ac0 hv⟩;have:=yu3 (Ac0 hv);rwa [show ((v.toNat:Nat):Int)=v by omega] at this
def yx0{v:Int}(m:D.immL l=true)(h0:0<=v)(h1:v<l.length):∃d∈l,oIx (.lst l) (.int v)=some d:=by
 obtain⟨d,e,e2⟩:=xp4 h0 h1;have hd:=Ao0 e2;refine⟨d,hd,?_⟩;show im (atI l v)=_;rw[e];simp[im,xu1.mp m d hd]
def xl5{v:Int}(m:d.imm=true)(h0:0<=v)(h:l[v.toNat]?=some d):oIx (.lst l) (.int v)=some d/\oIx (.tup l) (.int v)=some d:=by
 have h1:v<l.length:=by have:=(Ae0.mp h).1;omega
 obtain⟨d',e,e2⟩:=xp4 h0 h1;rw[h] at e2;cases e2;constructor
 ·show im (atI l v)=_
  rw[e];simp[im,m]
 ·show im (atI l v)=_
  rw[e];simp[im,m]
def yt7{i j:Int}:D.eqq (.int i) (.int j)=some (i == j):=by simp only[D.eqq]
def wg6{i j:Str}:D.eqq (.str i) (.str j)=some (i == j):=by simp only[D.eqq]
def zx2{neg:Bool}{i j:Int}:oEq neg (.int i) (.int j)=some (.bl (if neg then !(i == j) else (i == j))):=by
 unfold oEq;rw[if_pos (by simp[D.dep]),yt7];rfl
def zt9{neg:Bool}{i j:Str}:oEq neg (.str i) (.str j)=some (.bl (if neg then !(i == j) else (i == j))):=by
 unfold oEq;rw[if_pos (by simp[D.dep]),wg6];rfl
theorem yp7:∀{ks vs:List D},ks.length=vs.length->(wr0 k ks (List.zipWith g ks vs)).isSome=(wr0 k ks vs).isSome
 | [],[],_=>rfl
 | a::ks,b::vs,h=>by
   show (wr0 k (a::ks) (g a b::List.zipWith g ks vs)).isSome=_;unfold wr0;by_cases e:zc8 a=some k
   ·rw[if_pos e,if_pos e];rfl
   ·rw[if_neg e,if_neg e];exact yp7 (by simpa using h)
 | [],_::_,h=>by cases h
 | _::_,[],h=>by cases h
theorem yp9:∀{ks vs:List D},ks.length=vs.length->(wr0 k (ks++[wr2 k']) (vs++[v])).isSome=((wr0 k ks vs).isSome||decide (k'=k))
 | [],[],_=>by
   show (wr0 k [wr2 k'] [v]).isSome=_;unfold wr0;rw[zh7];by_cases e:k'=k
   ·rw[if_pos (by rw[e])];simp[e]
   ·rw[if_neg (λz=>e (Option.some.inj z))];simp[wr0,e]
 | a::ks,b::vs,h=>by
   show (wr0 k (a::(ks++[wr2 k'])) (b::(vs++[v]))).isSome=_;unfold wr0;by_cases e:zc8 a=some k
   ·rw[if_pos e,if_pos e];rfl
   ·rw[if_neg e,if_neg e];exact yp9 (by simpa using h)
 | [],_::_,h=>by cases h
 | _::_,[],h=>by cases h
def ya8(h:ks.length=vs.length):(wt7 k v ks vs).1.length=(wt7 k v ks vs).2.length/\(wt7 k v ks vs).1.length<=ks.length+1:=by
 unfold wt7;split
 ·simp[List.length_zipWith,h]
 ·simp[h]
open H in
def xo0(h:ks.length=vs.length):(wr0 k (wt7 k' v ks vs).1 (wt7 k' v ks vs).2).isSome=((wr0 k ks vs).isSome||decide (k'=k)):=by
 unfold wt7;split
 ·rename_i hs
  rw[yp7 h];by_cases e:k'=k
  ·subst e;simp[hs]
  ·simp[e]
 ·exact yp9 h
noncomputable def Holds(d:D)(n:Nat)(P:List Key->Prop):Prop:=∃ks vs,d=.dct (.non::ks) vs/\D.immL vs=true/\ks.length=vs.length/\ks.length<=n/\∀k,(wr0 k ks vs).isSome=true↔P k
def Holds.put{n:Nat}(h:Holds (.dct (.non::ks) vs) n P)(hv:v.imm=true):Holds (.dct (.non::(wt7 k v ks vs).1) (wt7 k v ks vs).2) (n+1) (λq=>P q\/k=q):=by
 obtain⟨ks',vs',e,h1,h2,h3,h4⟩:=h;cases e;refine⟨_,_,rfl,yd8 hv h1,(ya8 h2).1,by have:=(ya8 (k:=k) (v:=v) h2).2;omega,λq=>?_⟩;rw[xo0 h2,Bool.or_eq_true,h4 q,decide_eq_true_eq]
theorem Holds.all:∀{ps:List (List Key×D)} {ks vs:List D} {n:Nat} {P:List Key->Prop},Holds (.dct (.non::ks) vs) n P->(∀p∈ps,p.2.imm=true)->Holds (.dct (.non::(zf8 ps (ks,vs)).1) (zf8 ps (ks,vs)).2) (n+ps.length) (λq=>P q\/∃p∈ps,p.1=q)
 | [],ks,vs,n,P,h,_=>by
   obtain⟨ks',vs',e,h1,h2,h3,h4⟩:=h;exact⟨ks',vs',e,h1,h2,h3,λq=>by rw[h4 q];simp⟩
 | p::ps,ks,vs,n,P,h,hv=>by
   have h':=Holds.all (ps:=ps) (h.put (k:=p.1) (hv p (by simp))) λq hq=>hv q (by simp[hq])
   obtain⟨ks',vs',e,h1,h2,h3,h4⟩:=h';refine⟨ks',vs',e,h1,h2,by simp;omega,λq=>?_⟩;rw[h4 q];simp only[Aj0,exists_eq_or_imp];constructor
   ·rintro ((a | a) | a)
    ·exact .inl a
    ·exact .inr (.inl a)
    ·exact .inr (.inr a)
   ·rintro (a | a | a)
    ·exact .inl (.inl a)
    ·exact .inl (.inr a)
    ·exact .inr a
def Holds.in_{n:Nat}(h:Holds d n P)(hk:zc8 k=some kk){b:Bool}(hb:b=true↔P kk):ve2 false k d=some (.bl b)/\ve2 true k d=some (.bl (!b)):=by
 obtain⟨ks,vs,rfl,h1,h2,h3,h4⟩:=h;have e:(wr0 kk ks vs).isSome=b:=by rw[Bool.eq_iff_iff,h4,hb]
 constructor
 ·show (zc8 k).map _=_
  rw[hk];show some (D.bl (wr0 kk ks vs).isSome)=_;rw[e]
 ·show (zc8 k).map _=_
  rw[hk];show some (D.bl (!(wr0 kk ks vs).isSome))=_;rw[e]
def Holds.flat{n:Nat}(h:Holds d n P):d.flat=true:=by
 obtain⟨ks,vs,rfl,h1,h2,h3,h4⟩:=h;exact h1
def Holds.nil{n:Nat}:Holds (.dct [.non] []) n (λ_=>False):=⟨[],[],rfl,rfl,rfl,Am0 _,λk=>by simp[wr0]⟩
def Holds.imp{n m:Nat}(h:Holds d n P)(hm:n<=m)(hp:∀k,P k↔P' k):Holds d m P':=by
 obtain⟨ks,vs,e,h1,h2,h3,h4⟩:=h;exact⟨ks,vs,e,h1,h2,by omega,λk=>by rw[h4 k,hp k]⟩
noncomputable def FrT(K:PySem.W.Frag)(a:Addr)(xs:List V):Prop:=∃(o:Obj) (its:Array Value) (n:Nat),K.lookup a=some o/\o.cls=.type "tuple"/\o.data=.seq its n/\its.size<=sizeLine/\wr4 xs its.toList
def FrT.sq{K:PySem.W.Frag}{a:Addr}{xs:List V}{H:Hp}(h:FrT K a xs):SqT K H a xs:=.inr h
noncomputable def vt5(K:PySem.W.Frag)(a:Addr)(tbl:List (Int×Int)):Prop:=∃vs,FrT K a vs/\vs.length=tbl.length/\∀(i:Nat) (p:Int×Int),tbl[i]?=some p->∃b,vs[i]?=some (.ref b)/\FrT K b [.int p.1,.int p.2]
section
variable{X:Cx}{S:Type}{W:Wd S}{c:Dx W}{g ga gb gc:Gr}{a b:Expr}{fa fb fc:Fn S}{pos p2:Pos}{E:Exn->S->Prop}{ρ:Rho}{st:S}
def xv1{x:Str}{i:Int}(hc:∃t,X.mg x=some (.int i t))(hg:Gl X x)(hd:(x == ("__debug__" : Str))=false:=by decide):DE X c g (.Name x pos) (fC S (.int i)):=by
 obtain⟨t,hm⟩:=hc;exact(xi3 (v:=.int i) hg hm ⟨t,rfl⟩ hd).imp λσ H Q ⟨ρ,st,R,ok,w⟩=>w _ _ Ext.refl ok (New.val R (show New c H H (.int _) (.int _) from Is.int_iff.mpr rfl) g)
noncomputable def vj6(S:Type)(tbl:List (Int×Int))(i j:Nat)(f:Fn S):FnS S:=λρ st=>(f ρ st).bind λd st1=>match d with
 | .int k=>if 0<=k then match tbl[k.toNat]? with
  | some p=>(ws3 (put ρ i (.int p.1)) st1).bind λρ1 st2=>(ws3 (put ρ1 j (.int p.2)) st2).bind λρ2 st3=>.ok (.nx ρ2) st3
  | none=>.bad
   else .bad
 | _=>.bad
open H in
def wg7{x n1 n2:Str}{e:Expr}{f:Fn S}{tbl:List (Int×Int)}{i j:Nat}{a0:Addr}{px p1 p2 pt ps:Pos}{kt}(hc:X.calm=true)(hK:c.K=X.K)(hm:∃a0,X.mg x=some (.ref a0)/\vt5 X.K a0 tbl)(hg:Gl X x)(hN:X.N.Nodup)(hi:X.N[i]?=some n1)(hj:X.N[j]?=some n2)(h1:Loc X.env.scope n1)(h2:Loc X.env.scope n2)(he:DE X c .R e f)(hpi:yf1 e)(hd:(x == ("__debug__" : Str))=false:=by decide)(hf1:X.fn n1=true\/X.env.scope.names.lookup n1=some .local:=by first | exact .inl rfl | exact .inr rfl | assumption)(hf2:X.fn n2=true\/X.env.scope.names.lookup n2=some .local:=by first | exact .inl rfl | exact .inr rfl | assumption)(hs:swapsWithSole [.Tuple [.Name n1 p1,.Name n2 p2] kt pt] (.Subscript (.Name x px) e ps) pos.line X.env=pure false:=by rfl)(hw:swappedStores [.Tuple [.Name n1 p1,.Name n2 p2] kt pt] (.Subscript (.Name x px) e ps) X.env=pure none:=by rfl)(ha:(assignEach [.Tuple [.Name n1 p1,.Name n2 p2] kt pt] X.env).map (·.2)=[assign (.Tuple [.Name n1 p1,.Name n2 p2] kt pt) X.env]:=by rfl)(hn:(assignEach [.Name n1 p1,.Name n2 p2] X.env).length=2:=by rfl)(hst:(assignEach [.Name n1 p1,.Name n2 p2] X.env).findIdx? (·.1)=none:=by rfl)(hs1:(assignEach [.Name n1 p1,.Name n2 p2] X.env).map (·.2)=assign (.Name n1 p1) X.env::(assignEach [.Name n2 p2] X.env).map (·.2):=by rfl)(hs2:(assignEach [.Name n2 p2] X.env).map (·.2)=assign (.Name n2 p2) X.env::(assignEach [] X.env).map (·.2):=by rfl) :
 DS X c (.Assign [.Tuple [.Name n1 p1,.Name n2 p2] kt pt] (.Subscript (.Name x px) e ps) pos) (vj6 S tbl i j f):=by
 obtain⟨a0,hm,vs,fr,hl,ht⟩:=hm;refine(xh4 (vg4 xy5 (xi3 (v:=.ref a0) hg hm rfl hd) he hpi) (xi1 (n:=2) hc (zu9 (yj0 (i:=i) hN hi h1 hf1) (zu9 (yj0 (i:=j) hN hj h2 hf2) ys4 hs2) hs1) hn hst) hs hw ha).imp λD σ H hI115=>?_
 obtain⟨ρ,st,R,ok,w⟩:=hI115;refine⟨ρ,st,R,ok,za6 (za5.mp w) (λd st1 q v H1 e1 ok1 z=>?_) λx st1 q H' e ok'=>q H' (e.f0 R) ok'⟩;split at q
 ·rename_i k
  split at q
  ·rename_i hk
   split at q
   ·rename_i p hp
    obtain⟨ρ1,p1',q⟩:=zb2.mp (za5.mp q);obtain⟨ρ2,p2',q⟩:=zb2.mp (za5.mp q);obtain⟨l1,rfl⟩:=zm2 p1';obtain⟨l2,rfl⟩:=zm2 p2';obtain⟨b,hb,frb⟩:=ht k.toNat p hp;have z':Is c.K (λb=>¬W.mv b) H1 (.int k) v:=z.toR;have R1:=(R.ext ok e1).setB l1 (show Is c.K (Av c σ ρ) H1 (.int p.1) (.int p.1) from Is.int_iff.mpr rfl);have R2:=R1.setB l2 (show Is c.K _ H1 (.int p.2) (.int p.2) from Is.int_iff.mpr rfl);refine⟨a0,vs,k,.ref b,rfl,Is.int_iff.mp z',fr.sq,?_,b,[.int p.1,.int p.2],rfl,frb.sq,rfl,_,_,rfl,_,_,rfl,rfl,?_⟩
    ·have:=yu3 hb
     rwa [show ((k.toNat:Nat):Int)=k by omega] at this
    ·exact q _ _ ((Ext.frm e1).trans (zg2.trans zg2)) ok1 R2
   ·exact q.elim
  ·exact q.elim
 ·exact q.elim
noncomputable def wz0(d k x:D):Option D:=match d with
 | .dct (.non::ks) vs=>(zc8 k).bind λkk=>im (some ((wr0 kk ks vs).getD x))
 | _=>none
noncomputable def vs1(S:Type)(f1 f2 f3:Fn S):Fn S:=λρ st=>(f1 ρ st).bind λd st1=>match d with
 | .dct (.non::ks) vs=>(f2 ρ st1).bind λk st2=>(f3 ρ st2).bind λx st3=>ws3 (wz0 (.dct (.non::ks) vs) k x) st3
 | _=>.bad
open H in
def wp8(hu:X.A.units+1<cLine)(ho:DE X c ga o fa)(he:DE X c gb e fb)(hf:DE X c gc f fc)(m:M2 X o "get" apos e f cpos):DE X c g (.Call (.Attribute o "get" apos) [e,f] [] cpos) (vs1 S fa fb fc):=
 (xs7 hu ho he hf m).imp λσ H Q hI40=>by
  obtain⟨ρ,st,R,ok,w⟩:=hI40;have w':=za5.mp w;refine⟨ρ,st,R,ok,za6 w' (λd st1 q v H1 e1 ok1 z=>?_) λx st1 q=>q⟩;split at q
  ·rename_i ks vs
   have z1:Is c.K (λb=>¬W.mv b) H1 (.dct (.non::ks) vs) v:=z.toR;obtain⟨a,us,ev,n,i1,hh⟩:=Is.dct_iff.mp z1;have isd:IsD H1 a:=by
    rcases hh with⟨kk,_,_,h⟩ | ⟨kk,_,_,h⟩
    ·exact .inl ⟨_,.inl h⟩
    ·exact .inr ⟨_,.inl h⟩
   refine⟨a,ev,isd,ρ,st1,R.ext ok e1,ok1,za6 (za5.mp q) (λk st2 q v2 H2 e2 ok2 z2=>?_) λx st2 q H2 e2 ok2=>q H2 (e1.trans e2) ok2⟩;have R2:=(R.ext ok e1).ext ok1 e2;refine⟨ρ,st2,R2,ok2,za6 (za5.mp q) (λx st3 q v3 H3 e3 ok3 z3=>?_) λx st3 q H3 e3 ok3=>q H3 ((e1.trans e2).trans e3) ok3⟩;obtain⟨dd,e4,q⟩:=zb2.mp q;have et:=(e1.trans e2).trans e3;have R3:=R2.ext ok2 e3;have y1:Is c.K (λb=>¬W.mv b) H3 (.dct (.non::ks) vs) v:=(z1.ext e2 ok1 λ_ n=>n).ext e3 ok2 λ_ n=>n
   have y2:Is c.K (λb=>¬W.mv b) H3 k v2:=z2.toR.ext e3 ok2;have y3:Is c.K (λb=>¬W.mv b) H3 x v3:=z3.toR;cases hk:zc8 k with
   | none=>unfold wz0 at e4;rw[hk] at e4;cases e4
   | some kk=>
     have e4:im (some ((wr0 kk ks vs).getD x))=some dd:=by unfold wz0 at e4;rw[hk] at e4;exact e4
     obtain⟨e5,im5⟩:=yt6 e4;obtain⟨a',o',ea,gd,hcase⟩:=xz5 hk y2 y1;rw[ev] at ea;have ea:a=a':=by cases ea;rfl
     subst ea;refine⟨o',gd,q _ H3 et ok3 ?_⟩;have y:Is c.K (λb=>¬W.mv b) H3 dd (o'.getD v3):=by
      rcases hcase with⟨h1,h2⟩ | ⟨d',v',h1,h2,h3⟩
      ·rw[h1] at e5;rw[h2]
       cases e5;exact y3
      ·rw[h1] at e5;rw[h2]
       cases e5;exact h3
     exact(New.val R3 (show New c H3 H3 dd _ from Is.ofImm im5 y) g).back et ok3
  ·exact q.elim
noncomputable def vq5:D->D->Option D
 | .lst l,.int k=>if D.immL l=true/\-(2 ^ 63)<=k/\k<2 ^ 63/\l.length*k.toNat<=sizeLine then some (.lst (List.replicate k.toNat l).flatten) else none
 | _,_=>none
theorem xx1{K:PySem.W.Frag}{A:Addr->Prop}{H:Hp}{l:List D}{vs:List V}(h:IsL K A H l vs):∀k:Nat,IsL K A H (List.replicate k l).flatten (List.replicate k vs).flatten
 | 0=>IsL.nil.mpr rfl
 | k+1=>by
   rw[By0,By0,Ck0,Ck0];exact h.append (xx1 h k)
theorem yx2(h:D.immL l=true):∀k:Nat,D.immL (List.replicate k l).flatten=true
 | 0=>rfl
 | k+1=>by
   rw[By0,Ck0];exact ze9 h (yx2 h k)
open H in
def wm0:OpD c vm6 vq5:=by
 intro d1 d2 v1 v2 H st d Q ok h1 h2 e q;unfold vq5 at e;split at e
 ·rename_i l k
  split at e
  ·rename_i hc
   cases e;obtain⟨a,us,ea,n,s1,i3⟩:=Is.lst_iff.mp h1;refine⟨a,k,us,ea,Is.int_iff.mp h2,s1,hc.2.1,hc.2.2.1,by rw[<-i3.length];exact hc.2.2.2,λp hp=>?_⟩;exact q _ _ (Ext.laid hp) (zg6 ok hp) (New.lst ok hp (λ_ n=>n) (yx2 hc.1 _) (xx1 i3 _))
  ·cases e
 ·cases e
noncomputable def vd9(a b:D):Option D:=(iOp va9 (λi j=>.int (i*j)) a b).or (vq5 a b)
def zx0:OpR X (binaryOp .Mult) (λx y H Q=>rI va9 (λi j=>.int (i*j)) x y H Q\/vm6 x y H Q):=yc6.or wl6
def zx1:OpD c (λx y H Q=>rI va9 (λi j=>.int (i*j)) x y H Q\/vm6 x y H Q) vd9:=vk9.or wm0
theorem wp_sTab2{Q:Fl->S->Prop}{i j:Nat}{f:Fn S}{tbl:List (Int×Int)}:wpR (vj6 S tbl i j f ρ st) Q E↔wpR (f ρ st) (λd st1=>∃k p,d=.int k/\0<=k/\tbl[k.toNat]?=some p/\∃ρ1,put ρ i (.int p.1)=some ρ1/\∃ρ2,put ρ1 j (.int p.2)=some ρ2/\Q (.nx ρ2) st1) E:=wpB λd st1=>by
 cases d with
 | int k=>
   refine wg5 ?_;refine(xd8.trans ?_).trans exists_and_left.symm;refine and_congr Iff.rfl ?_;cases tbl[k.toNat]? with
   | none=>exact yk1
   | some p=>exact yk0 (yh7 λ_=>yr0)
 | _=>exact wo5 λb e=>by cases e
open H in
def wp_fGet{Q:D->S->Prop}{f1 f2' f3:Fn S}:wpR (vs1 S f1 f2' f3 ρ st) Q E↔wpR (f1 ρ st) (λd st1=>∃ks vs,d=.dct (.non::ks) vs/\wpR (f2' ρ st1) (λk st2=>wpR (f3 ρ st2) (λx st3=>wpR (ws3 (wz0 (.dct (.non::ks) vs) k x) st3) Q E) E) E) E:=by
 unfold vs1;rw[za5];refine iff_of_eq (congrArg (λz=>wpR (f1 ρ st) z E) (funext λd=>funext λst1=>propext ?_));by_cases hd:∃ks vs,d=.dct (.non::ks) vs
 ·obtain⟨ks,vs,rfl⟩:=hd
  show wpR ((f2' ρ st1).bind λk st2=>(f3 ρ st2).bind λx st3=>ws3 (wz0 (.dct (.non::ks) vs) k x) st3) Q E↔_;rw[za5];simp only[za5];exact⟨λq=>⟨ks,vs,rfl,q⟩,λ⟨ks',vs',e,q⟩=>by cases e;exact q⟩
 ·constructor
  ·intro q
   split at q
   ·rename_i ks vs
    exact absurd ⟨ks,vs,rfl⟩ hd
   ·exact q.elim
  ·rintro ⟨ks,vs,rfl,_⟩
   exact absurd ⟨ks,vs,rfl⟩ hd
end
theorem xr0{K:PySem.W.Frag}{a b0 b1 b2 b3:Addr}{p0 p1 p2 p3:Int×Int}{od od0 od1 od2 od3:Option Addr}{sl sl0 sl1 sl2 sl3:Array (Option Value)}{n n0 n1 n2 n3:Nat}{t0 t1 t2 t3 u0 u1 u2 u3:Tok}(h:K.lookup a=some ⟨.type "tuple",od,.seq #[.ref b0,.ref b1,.ref b2,.ref b3] n,sl⟩)(h0:K.lookup b0=some ⟨.type "tuple",od0,.seq #[.int p0.1 t0,.int p0.2 u0] n0,sl0⟩)(h1:K.lookup b1=some ⟨.type "tuple",od1,.seq #[.int p1.1 t1,.int p1.2 u1] n1,sl1⟩)(h2:K.lookup b2=some ⟨.type "tuple",od2,.seq #[.int p2.1 t2,.int p2.2 u2] n2,sl2⟩)(h3:K.lookup b3=some ⟨.type "tuple",od3,.seq #[.int p3.1 t3,.int p3.2 u3] n3,sl3⟩):vt5 K a [p0,p1,p2,p3]:=by
 have pr:∀{b:Addr} {p:Int×Int} {od:Option Addr} {sl:Array (Option Value)} {n:Nat} {t u:Tok},K.lookup b=some ⟨.type "tuple",od,.seq #[.int p.1 t,.int p.2 u] n,sl⟩->FrT K b [.int p.1,.int p.2]:=λ{b p od sl n t u} h=>
  ⟨_,_,_,h,rfl,rfl,by show 2<=sizeLine;decide,.cons ⟨t,rfl⟩ (.cons ⟨u,rfl⟩ .nil)⟩
 refine⟨[.ref b0,.ref b1,.ref b2,.ref b3],⟨_,_,_,h,rfl,rfl,by show 4<=sizeLine;decide,.cons rfl (.cons rfl (.cons rfl (.cons rfl .nil)))⟩,rfl,λi p hp=>?_⟩
 match i,hp with
 | 0,hp=>cases hp;exact⟨b0,rfl,pr h0⟩
 | 1,hp=>cases hp;exact⟨b1,rfl,pr h1⟩
 | 2,hp=>cases hp;exact⟨b2,rfl,pr h2⟩
 | 3,hp=>cases hp;exact⟨b3,rfl,pr h3⟩
 | i+4,hp=>simp at hp
end L2
namespace PySem
section
variable{prog:Program}{w:World}{A:Around}{E:Value->Shared->Prop}{s:Shared}
end
end PySem
namespace L2
section
variable{M:Model}{A:Around}{E:Value->Shared->Prop}{s:Shared}{env:Env}{X:Cx}{elts:List Expr}{x1:Nat}{tpos:Pos}{S:Type}{W:Wd S}{c:Dx W}
end
section
variable{X:Cx}{S:Type}{W:Wd S}{c:Dx W}{i:Nat}
noncomputable def vm3(S:Type)(i:Nat):FnS S:=λρ st=>match wr8 ρ i with
 | some l=>.ok (.nx (ρ.set i (.own (.lst l.reverse)))) st
 | none=>.bad
def wo7{x:Str}(hx:PE X (.Name x p1) (wy6 i))(hbase:attributeBase (.Name x p1) "reverse" X.env (eval (.Name x p1) X.env)=eval (.Name x p1) X.env:=by rfl)(hline:(p2.endLine == p3.line)=true:=by rfl)(hsw:swapsWith (.Call (.Attribute (.Name x p1) "reverse" p2) [] [] p3) none p4.line X.env=pure false:=by rfl):DS X c (.Expr (.Call (.Attribute (.Name x p1) "reverse" p2) [] [] p3) p4) (vm3 S i):=
 (ys2 (xx7 PySem.F.plainAttrs_list PySem.F.slot_list_reverse PySem.F.type_list_reverse xb6 hx hbase hline) hsw).imp λD σ H hI41=>by
  obtain⟨ρ,st,R,ok,w⟩:=hI41;unfold vm3 at w;cases q:wr8 ρ i with
  | none=>rw[q] at w;exact w.elim
  | some l=>
    rw[q] at w;obtain⟨a,vs,ea,eH,z,nm⟩:=R.lstAt q;refine⟨.ref a,ea,.inl ⟨rfl,vs,.of eH⟩,a,vs,rfl,rfl,eH,?_⟩;obtain⟨R2,F2⟩:=R.wr (d':=.lst l.reverse) (o:=.lst vs.reverse) (zs5 q) ea ⟨(λu z=>by cases z),(λob u z=>by cases z)⟩ λk=>⟨vs.reverse,zb3,IsL.mono k (IsL.ofImm (A':=Av c σ ρ) (yo9 (zr1 q).2) z.reverse)⟩
    exact w σ _ F2 (yc7 ok nm) R2
end
mutual
noncomputable def pyD:D->PyData
 | .non=>.none
 | .bl b=>.bool b
 | .int i=>.int i
 | .str x=>.str x
 | .tup l=>.tuple (pyL l)
 | .lst _=>.none
 | .dct _ _=>.none
 | .fd _ _=>.none
 | .fl l=>.list (pyL l)
noncomputable def pyL:List D->List PyData
 | []=>[]
 | d::l=>pyD d::pyL l
end
mutual
noncomputable def szD:D->Nat
 | .int _=>1921
 | .str x=>(reprText x).length
 | .tup l=>szL l+3
 | .fl l=>szL l+3
 | _=>5
noncomputable def szL:List D->Nat
 | []=>0
 | d::l=>szD d+2+szL l
end
mutual
noncomputable def shD:D->Bool
 | .int i=>decide (i.natAbs.log2<1920)
 | .tup l=>shL l
 | .fl l=>shL l
 | _=>true
noncomputable def shL:List D->Bool
 | []=>true
 | d::l=>shD d&&shL l
end
mutual
noncomputable def dpD:D->Nat
 | .tup l=>dpL l+1
 | .fl l=>dpL l+1
 | _=>0
noncomputable def dpL:List D->Nat
 | []=>0
 | d::l=>max (dpD d) (dpL l)
end
mutual
theorem vk3:∀d:D,(pyD d).showable=shD d
 | .non=>rfl
 | .bl _=>rfl
 | .int _=>rfl
 | .str _=>rfl
 | .tup l=>by unfold pyD PyData.showable shD;exact xg9 l
 | .fl l=>by unfold pyD PyData.showable shD;exact xg9 l
 | .lst _=>rfl
 | .dct _ _=>rfl
 | .fd _ _=>rfl
theorem xg9:∀l:List D,PyData.showableAll (pyL l)=shL l
 | []=>rfl
 | d::l=>by unfold pyL PyData.showableAll shL;rw[vk3 d,xg9 l]
end
mutual
theorem vk5:∀d:D,(pyD d).depth=dpD d
 | .non=>rfl
 | .bl _=>rfl
 | .int _=>rfl
 | .str _=>rfl
 | .tup l=>by unfold pyD PyData.depth dpD;rw[xh1 l]
 | .fl l=>by unfold pyD PyData.depth dpD;rw[xh1 l]
 | .lst _=>rfl
 | .dct _ _=>rfl
 | .fd _ _=>rfl
theorem xh1:∀l:List D,PyData.depthAll (pyL l)=dpL l
 | []=>rfl
 | d::l=>by unfold pyL PyData.depthAll dpL;rw[vk5 d,xh1 l]
end
mutual
theorem vk4:∀d:D,(pyD d).hasDict=false
 | .non=>rfl
 | .bl _=>rfl
 | .int _=>rfl
 | .str _=>rfl
 | .tup l=>by unfold pyD PyData.hasDict;exact xh0 l
 | .fl l=>by unfold pyD PyData.hasDict;exact xh0 l
 | .lst _=>rfl
 | .dct _ _=>rfl
 | .fd _ _=>rfl
theorem xh0:∀l:List D,PyData.hasDictAll (pyL l)=false
 | []=>rfl
 | d::l=>by unfold pyL PyData.hasDictAll;rw[vk4 d,xh0 l];rfl
end
mutual
theorem vk2:∀d:D,shD d=true->(pyD d).shown.length<=szD d
 | .non,_=>by show 4<=5;decide
 | .bl b,_=>by cases b<;>decide
 | .int i,h=>by
   unfold shD at h;have e:=int_text_length_le (k:=1920) (by decide) (of_decide_eq_true h);show (Str.ofString (toString i)).length<=1921;rw[PySem.ofString_length];exact e
 | .str x,_=>Ad0 _
 | .tup l,h=>by
   unfold shD at h;have e:=tupleText_len_le (PyData.shownAll (pyL l));have e2:=xg8 l h;unfold pyD PyData.shown szD;omega
 | .fl l,h=>by
   unfold shD at h;have e:=listText_len_le (PyData.shownAll (pyL l));have e2:=xg8 l h;unfold pyD PyData.shown szD;omega
 | .lst _,_=>by show 4<=5;decide
 | .dct _ _,_=>by show 4<=5;decide
 | .fd _ _,_=>by show 4<=5;decide
theorem xg8:∀l:List D,shL l=true->((PyData.shownAll (pyL l)).map (·.length)).sum+2*(PyData.shownAll (pyL l)).length<=szL l
 | [],_=>Ad0 _
 | d::l,h=>by
   unfold shL at h;have h:=Bool.and_eq_true_iff.mp h;have e1:=vk2 d h.1;have e2:=xg8 l h.2;unfold pyL PyData.shownAll szL;rw[Ax0,List.sum_cons,Ar0];omega
end
section
variable{X:Cx}{S:Type}{W:Wd S}{c:Dx W}{g ga gb gc:Gr}{a b:Expr}{fa fb fc:Fn S}{pos p2:Pos}{A3:List (Addr×Obj)}{σ:St}{H:Hp}{s:Shared}{A:Addr->Prop}
mutual
theorem Inv.reads(I:Inv X A3 σ H s):∀(d:D) (v:V) (u:Value),d.imm=true->Is X.K A H d v->wr3 v u->∃as,Reads s.heap u (pyD d) as
 | .non,v,u,_,h,r=>by unfold Is at h;subst h;cases r;exact⟨_,.none⟩
 | .bl b,v,u,_,h,r=>by unfold Is at h;subst h;cases r;exact⟨_,.bool b⟩
 | .int i,v,u,_,h,r=>by unfold Is at h;subst h;obtain⟨t,rfl⟩:=r;exact⟨_,.int i t⟩
 | .str x,v,u,_,h,r=>by unfold Is at h;subst h;obtain⟨t,rfl⟩:=r;exact⟨_,.str x t⟩
 | .tup l,v,u,hi,h,r=>by
   obtain⟨a,vs,rfl,q,i⟩:=Is.tup_sq h;cases r;obtain⟨its,rv,⟨o,ho,hc,n,hd⟩,_⟩:=I.tuple q;obtain⟨as,ra⟩:=Inv.readsL I l vs its hi i rv;unfold pyD;exact⟨as,.tuple ho hc hd (by rw[List.toList_toArray];exact ra)⟩
 | .fl l,v,u,hi,h,r=>by
   obtain⟨a,ob,vs,rfl,q,i⟩:=Is.fl_iff.mp h;cases r;obtain⟨its,rv,⟨o,n,ho,hc,_,hd⟩,_⟩:=I.list (.inl (.inr ⟨ob,q⟩));obtain⟨as,ra⟩:=Inv.readsL I l vs its hi i rv;unfold pyD;exact⟨a::as,.list ho hc hd (by rw[List.toList_toArray];exact ra)⟩
 | .lst _,_,_,hi,_,_=>by cases hi
 | .dct _ _,_,_,hi,_,_=>by cases hi
 | .fd _ _,_,_,hi,_,_=>by cases hi
theorem Inv.readsL(I:Inv X A3 σ H s):∀(l:List D) (vs:List V) (us:List Value),D.immL l=true->IsL X.K A H l vs->wr4 vs us->∃as,ReadsAll s.heap us (pyL l) as
 | [],vs,us,_,h,r=>by
   rw[IsL.nil.mp h] at r;cases r;exact⟨_,.nil⟩
 | d::l,vs,us,hi,h,r=>by
   unfold D.immL at hi;have hi:=Bool.and_eq_true_iff.mp hi;obtain⟨v,w,rfl,i,j⟩:=IsL.cons.mp h;cases r with
   | cons r1 r2=>
     obtain⟨as,ra⟩:=Inv.reads I d v _ hi.1 i r1;obtain⟨bs,rb⟩:=Inv.readsL I l w _ hi.2 j r2;exact⟨_,.cons ra rb⟩
end
noncomputable def wx2(l:List D):Prop:=D.immL l=true/\shL l=true/\dpL l<60/\szL l+3<=sizeLine
instance (l:List D):Decidable (wx2 l):=by unfold wx2;infer_instance
noncomputable def vg7:List D->Option D
 | [.tup l]=>if wx2 l then some (.str (pyD (.tup l)).shown) else none
 | [.fl l]=>if wx2 l then some (.str (pyD (.fl l)).shown) else none
 | [.int i]=>if i.natAbs.log2<1920 then some (.str (toString i)) else none
 | _=>none
open H in
theorem yz4{k:Nat}(hr:ws5 k X.A):wu0 X (.type "str") (λxs H Q=>∃(A:Addr->Prop) (v:V) (d:D) (t:Str),xs=[v]/\Is X.K A H d v/\vg7 [d]=some (.str t)/\Q (.str t) H):=by
 intro A3 s σ H xs us Q I r h;obtain⟨A,v,d,t,rfl,i,e,q⟩:=h;obtain⟨u,rfl,r1⟩:=wv6 r;have hu:=hr.units;have big:∀(d:D) (a:Addr),d.imm=true->Is X.K A H d (.ref a)->shD d=true->dpD d<=60->szD d<=sizeLine->Q (.str (pyD d).shown) H->wpAny (model X.prog X.w) X.A (call (.type "str") [.ref a]) (EP X A3 σ Q) X.xe s:=λd a h1 i h2 h3 h4 q=>by
  obtain⟨as,ra⟩:=Inv.reads I d (.ref a) (.ref a) h1 i rfl;have hz:=vk2 d h2;refine str_of_reads ra (by rw[vk3];exact h2) (PyData.noDict_hsm (vk4 _)) hr.gd (by rw[vk5];omega) (λb o e=>e) (λh' t tk k=>?_) (by omega);exact⟨.str (pyD d).shown,H,I.kept k,⟨t,rfl⟩,q⟩
 cases d with
 | tup l=>
   have e:(if wx2 l then some (D.str (pyD (.tup l)).shown) else none)=some (.str t):=e;split at e
   ·rename_i hs
    cases e;obtain⟨h1,h2,h3,h4⟩:=hs;obtain⟨a,vs,rfl,_,_⟩:=Is.tup_iff.mp i;cases r1;exact big (.tup l) a h1 i h2 (by unfold dpD;omega) (by unfold szD;exact h4) q
   ·cases e
 | fl l=>
   have e:(if wx2 l then some (D.str (pyD (.fl l)).shown) else none)=some (.str t):=e;split at e
   ·rename_i hs
    cases e;obtain⟨h1,h2,h3,h4⟩:=hs;obtain⟨a,o,vs,rfl,_,_⟩:=Is.fl_iff.mp i;cases r1;exact big (.fl l) a h1 i h2 (by unfold dpD;omega) (by unfold szD;exact h4) q
   ·cases e
 | int j=>
   have e:(if j.natAbs.log2<1920 then some (D.str (toString j)) else none)=some (.str t):=e;split at e
   ·rename_i hs
    cases e;rw[Is.int_iff.mp i] at r1;obtain⟨t',rfl⟩:=r1;exact P.str_of_int hs ⟨.str (toString j),H,I.tok _,⟨_,rfl⟩,q⟩
   ·cases e
 | _=>cases e
theorem xz7{K:PySem.W.Frag}(hK:c.K=K):wu3 c (λxs H Q=>∃(A:Addr->Prop) (v:V) (d:D) (t:Str),xs=[v]/\Is K A H d v/\vg7 [d]=some (.str t)/\Q (.str t) H) vg7:=by
 subst hK;intro l vs H st d Q ok z e q
 match l,z,e with
 | [d0],z,e=>
   obtain⟨v,r,e1,i1,i2⟩:=IsL.cons.mp z;rw[IsL.nil.mp i2] at e1;have fin:∀t:Str,d=.str t->vg7 [d0]=some (.str t)->∃(A:Addr->Prop) (v:V) (d:D) (t:Str),vs=[v]/\Is c.K A H d v/\vg7 [d]=some (.str t)/\Q (.str t) H:=λt ed e=>by
    subst ed;exact⟨_,v,d0,t,e1,i1,e,q _ H Ext.refl ok (show New c H H (.str _) (.str _) from Is.str_iff.mpr rfl)⟩
   have e0:=e;cases d0 with
   | tup l=>
     have e:(if wx2 l then some (D.str (pyD (.tup l)).shown) else none)=some d:=e;split at e
     ·cases e;exact fin _ rfl e0
     ·cases e
   | fl l=>
     have e:(if wx2 l then some (D.str (pyD (.fl l)).shown) else none)=some d:=e;split at e
     ·cases e;exact fin _ rfl e0
     ·cases e
   | int j=>
     have e:(if j.natAbs.log2<1920 then some (D.str (toString j)) else none)=some d:=e;split at e
     ·cases e;exact fin _ rfl e0
     ·cases e
   | _=>cases e
 | [],_,e=>cases e
 | _::_::_,_,e=>unfold vg7 at e;simp at e
end
section
variable{X:Cx}{S:Type}{W:Wd S}{c:Dx W}{g ga gb gc:Gr}{H1:Hp}{σ:St}{ρ:Rho}{st1:S}{A:Addr->Prop}
end
section
variable{X:Cx}{S:Type}{W:Wd S}{c:Dx W}{i:Nat}
section
variable{Q:Fl->S->Prop}{E:Exn->S->Prop}{ρ:Rho}{st:S}
end
end
end L2
namespace PySem
section
variable{prog:Program}{w:World}{A:Around}{E:Value->Shared->Prop}{s:Shared}
end
end PySem
namespace L2
section
variable{X:Cx}{elts:List Expr}{x1:Nat}{tpos:Pos}{S:Type}{W:Wd S}{c:Dx W}{g ga:Gr}{H:Hp}{st:S}
end
end L2
namespace Ts
open PySem PyProof.Rows
section
variable{prog:Program}{w:World}{A:Around}{E:Value->Shared->Prop}{s:Shared}{κ:KeyKind}{knd:SortKind}
noncomputable def Cmp(prog:Program)(w:World)(A:Around)(E:Value->Shared->Prop)(s:Shared)(κ:KeyKind)(knd:SortKind):Prop:=
 ∀(st:SortSt) (x y:Keyed) (a b:κ.α) (Q:Option Bool->SortSt->Prop),kindOf st=knd->κ.keyOf x.1=some a->κ.keyOf y.1=some b->Q (some (κ.blt a b)) st->wpS (model prog w) A E s (lt' x y) Q st
noncomputable def ky(κ:KeyKind)(x:Keyed):κ.α:=(κ.keyOf x.1).getD κ.dflt
structure Bs(a₀:Array Keyed)(knd:SortKind)(P:Array (Nat×Nat×Nat))(st:SortSt):Prop where
 perm:(arrOf st).Perm a₀
 kind:kindOf st=knd
 fail:failedOf st=none
 pend:pendingOf st=P
variable{a₀:Array Keyed}{P:Array (Nat×Nat×Nat)}{st:SortSt}
def Bs.size(B:Bs a₀ knd P st):(arrOf st).size=a₀.size:=B.perm.size_eq
def Bs.arr(B:Bs a₀ knd P st){xs:Array Keyed}(h:xs.Perm (arrOf st)):Bs a₀ knd P (setArr st xs):=⟨h.trans B.perm,B.kind,B.fail,B.pend⟩
def Bs.at(B:Bs a₀ knd P st)(h0:KeysOf κ a₀){i:Nat}(hi:i<a₀.size):∃x a,(arrOf st)[i]?=some x/\κ.keyOf x.1=some a/\KK κ (arrOf st) i=a:=by
 have hi':i<(arrOf st).size:=by rw[B.size];exact hi
 have hm:(arrOf st)[i]∈a₀.toList:=(Array.perm_iff_toList_perm.mp B.perm).mem_iff.mp (Array.getElem_mem_toList hi');obtain⟨a,ha⟩:=h0 _ hm;have e:(arrOf st)[i]?=some (arrOf st)[i]:=Ak0 hi';refine⟨_,a,e,ha,?_⟩;unfold KK;rw[e];show (κ.keyOf (arrOf st)[i].1).getD κ.dflt=a;rw[ha];rfl
def yb2(C:Cmp prog w A E s κ knd)(h0:KeysOf κ a₀)(B:Bs a₀ knd P st){i j:Nat}(hi:i<a₀.size)(hj:j<a₀.size){Q:Option Bool->SortSt->Prop}(h:Q (some (κ.blt (KK κ (arrOf st) i) (KK κ (arrOf st) j))) st):wpS (model prog w) A E s (ltAt' i j) Q st:=by
 obtain⟨x,a,e1,k1,r1⟩:=B.at h0 hi;obtain⟨y,b,e2,k2,r2⟩:=B.at h0 hj;rw[ltAt'_eq];refine Ab1 (wpS_get ?_);show wpS _ _ _ _ (elem' (arrOf st) i >>= λx=>elem' (arrOf st) j >>= λy=>lt' x y) Q st;rw[elem'_eq,elem'_eq,e1,e2];refine Ab1 (Ad1 (Ab1 (Ad1 (C st x y a b Q B.kind k1 k2 ?_))));rw[<-r1,<-r2];exact h
noncomputable def Up(κ:KeyKind)(xs:Array Keyed)(lo hi:Nat):Prop:=∀i j,lo<=i->i<=j->j<hi->κ.kle (KK κ xs i) (KK κ xs j)
noncomputable def Dn(κ:KeyKind)(xs:Array Keyed)(lo hi:Nat):Prop:=∀i j,lo<=i->i<=j->j<hi->κ.kle (KK κ xs j) (KK κ xs i)
def Up.one{xs:Array Keyed}{lo hi:Nat}(h:hi<=lo+1):Up κ xs lo hi:=λi j h1 h2 h3=>by
 have:i=j:=by omega
 subst this;exact KeyOrd.kle_refl _
def Up.snoc{xs:Array Keyed}{lo n:Nat}(h:Up κ xs lo (lo+n))(h1:1<=n)(hl:κ.kle (KK κ xs (lo+n-1)) (KK κ xs (lo+n))):Up κ xs lo (lo+(n+1)):=λi j g1 g2 g3=>by
 by_cases hj:j<lo+n
 ·exact h i j g1 g2 hj
 ·have:j=lo+n:=by omega
  subst this;by_cases hi:i=lo+n
  ·subst hi;exact KeyOrd.kle_refl _
  ·exact KeyOrd.kle_trans (h i (lo+n-1) g1 (by omega) (by omega)) hl
def Dn.snoc{xs:Array Keyed}{lo n:Nat}(h:Dn κ xs lo (lo+n))(h1:1<=n)(hl:κ.kle (KK κ xs (lo+n)) (KK κ xs (lo+n-1))):Dn κ xs lo (lo+(n+1)):=λi j g1 g2 g3=>by
 by_cases hj:j<lo+n
 ·exact h i j g1 g2 hj
 ·have:j=lo+n:=by omega
  subst this;by_cases hi:i=lo+n
  ·subst hi;exact KeyOrd.kle_refl _
  ·exact KeyOrd.kle_trans hl (h i (lo+n-1) g1 (by omega) (by omega))
noncomputable def Out(xs ys:Array Keyed)(lo hi:Nat):Prop:=∀i,(i<lo\/hi<=i)->ys[i]?=xs[i]?
def xp7{xs:Array Keyed}{i j k:Nat}(hj:j<=xs.size):KK κ (mirror xs i j ((j-i) / 2)) k=if i<=k/\k<j then KK κ xs (i+j-1-k) else KK κ xs k:=KK_mirror hj k
def xw3(C:Cmp prog w A E s κ knd)(h0:KeysOf κ a₀)(B:Bs a₀ knd P st){lo B5 a:Nat}(hl:lo+B5<=a₀.size)(ha:1<=a)(han:a<=B5)(hu:Up κ (arrOf st) lo (lo+a)){Q:Option (Option Nat)×Nat->SortSt->Prop}(h:∀n,a<=n->n<=B5->Up κ (arrOf st) lo (lo+n)->(n=B5\/κ.blt (KK κ (arrOf st) (lo+n)) (KK κ (arrOf st) (lo+n-1))=true)->Q (none,n) st) :
 wpS (model prog w) A E s (forIn [a:B5] ((none,a):Option (Option Nat)×Nat) λ_ r=>do
  let x <-ltAt' (lo+r.2) (lo+r.2-1)
  match x with
  | some smaller=>if smaller=true then pure (ForInStep.done (none,r.2)) else pure (ForInStep.yield (none,r.2+1))
  | _=>pure (ForInStep.done (some none,r.2))) Q st:=by
 refine Af1 (I:=λx c st'=>st'=st/\c=(none,x)/\Up κ (arrOf st) lo (lo+x)) (λi c st' h1 h2 hI117=>?_) (λc st' hI116=>?_) ⟨rfl,rfl,hu⟩
 ·obtain⟨e1,e2,hu⟩:=hI117
  subst e1 e2;refine Ab1 (yb2 C h0 B (by omega) (by omega) ?_);show wpS _ _ _ _ (if κ.blt (KK κ (arrOf st') (lo+i)) (KK κ (arrOf st') (lo+i-1))=true then _ else _) _ _;cases hb:κ.blt (KK κ (arrOf st') (lo+i)) (KK κ (arrOf st') (lo+i-1))
  ·rw[if_neg At0]
   exact Ad1 ⟨rfl,rfl,hu.snoc (by omega) hb⟩
  ·rw[if_pos rfl]
   exact Ad1 (h i h1 (by omega) hu (.inr hb))
 ·obtain⟨e1,e2,hu⟩:=hI116
  subst e1 e2;have e:max a B5=B5:=by omega
  rw[e] at hu ⊢;exact h B5 han (Ad0 _) hu (.inl rfl)
def Out.refl{xs:Array Keyed}{lo hi:Nat}:Out xs xs lo hi:=λ_ _=>rfl
def Out.trans{xs ys zs:Array Keyed}{lo hi:Nat}(a:Out xs ys lo hi)(b:Out ys zs lo hi):Out xs zs lo hi:=λi h=>(b i h).trans (a i h)
def Out.mir{xs:Array Keyed}{lo hi p q:Nat}(hq:q<=xs.size)(h1:lo<=p)(h2:q<=hi):Out xs (mirror xs p q ((q-p) / 2)) lo hi:=λi h=>by
 rw[getElem?_mirror_all hq,if_neg (by omega)]
def yu5{xs:Array Keyed}{p q:Nat}{c:κ.α}(hq:q<=xs.size)(h:∀i,p<=i->i<q->KK κ xs i=c)(k:Nat):KK κ (mirror xs p q ((q-p) / 2)) k=KK κ xs k:=by
 rw[xp7 hq];by_cases hk:p<=k/\k<q
 ·rw[if_pos hk,h k hk.1 hk.2,h _ (by omega) (by omega)]
 ·rw[if_neg hk]
def Dn.turn{xs:Array Keyed}{lo n:Nat}(hq:lo+n<=xs.size)(h:Dn κ xs lo (lo+n)):Up κ (mirror xs lo (lo+n) ((lo+n-lo) / 2)) lo (lo+n):=λi j g1 g2 g3=>by
 rw[xp7 hq,xp7 hq,if_pos ⟨g1,by omega⟩,if_pos ⟨by omega,g3⟩];exact h _ _ (by omega) (by omega) (by omega)
def Dn.congr{xs ys:Array Keyed}{lo hi:Nat}(h:Dn κ xs lo hi)(e:∀k,KK κ ys k=KK κ xs k):Dn κ ys lo hi:=λi j g1 g2 g3=>by rw[e i,e j];exact h i j g1 g2 g3
def xc7(C:Cmp prog w A E s κ knd)(h0:KeysOf κ a₀)(B:Bs a₀ knd P st){lo B5 n:Nat}(hl:lo+B5<=a₀.size)(h1:1<=n)(hn:n<=B5)(hd:Dn κ (arrOf st) lo (lo+n)){Q:Option Nat->SortSt->Prop}(h:∀m st',Bs a₀ knd P st'->1<=m->m<=B5->Up κ (arrOf st') lo (lo+m)->Out (arrOf st) (arrOf st') lo (lo+B5)->Q (some m) st') :
 wpS (model prog w) A E s (do
  reverseSlice' lo (lo+n)
  let r <-forIn [n:B5] ((none,n):Option (Option Nat)×Nat) λ_ r=>do
   let x <-ltAt' (lo+r.2) (lo+r.2-1)
   match x with
   | some smaller=>if smaller=true then pure (ForInStep.done (none,r.2)) else pure (ForInStep.yield (none,r.2+1))
   | _=>pure (ForInStep.done (some none,r.2))
  match r.1 with
  | some r=>pure r
  | none=>pure (some r.2)) Q st:=by
 have hz:lo+n<=(arrOf st).size:=by rw[B.size];omega
 rw[reverseSlice'_eq];refine Ab1 (Am1 (Ab1 (xw3 C h0 (B.arr (mirror_perm _ _ _ _)) hl h1 hn (Dn.turn hz hd) λm g1 g2 g3 _=>?_)));exact Ad1 (h m _ (B.arr (mirror_perm _ _ _ _)) (by omega) g2 g3 (Out.mir hz (Ad0 _) (by omega)))
def xe1(C:Cmp prog w A E s κ knd)(h0:KeysOf κ a₀)(B:Bs a₀ knd P st){lo B5 n:Nat}(hl:lo+B5<=a₀.size)(h1:1<=n)(hn:n<=B5)(hd:Dn κ (arrOf st) lo (lo+n)){Q:Option Nat->SortSt->Prop}(h:∀m st',Bs a₀ knd P st'->1<=m->m<=B5->Up κ (arrOf st') lo (lo+m)->Out (arrOf st) (arrOf st') lo (lo+B5)->Q (some m) st') :
 wpS (model prog w) A E s (do
  liftM (rule "list.sort.descending-run")
  let r <-forIn [n:B5] ((none,n,0):Option (Option Nat)×Nat×Nat) λ_ r=>do
   let x <-ltAt' (lo+r.2.1) (lo+r.2.1-1)
   match x with
   | some smaller=>
     if smaller=true then
      if r.2.2>0 then do
       reverseSlice' (lo+r.2.1-(r.2.2+1)) (lo+r.2.1)
       pure (ForInStep.yield (none,r.2.1+1,0))
      else pure (ForInStep.yield (none,r.2.1+1,0))
     else do
      let x <-ltAt' (lo+r.2.1-1) (lo+r.2.1)
      match x with
      | some larger=>if larger=true then pure (ForInStep.done (none,r.2.1,r.2.2)) else pure (ForInStep.yield (none,r.2.1+1,r.2.2+1))
      | _=>pure (ForInStep.done (some none,r.2.1,r.2.2))
   | _=>pure (ForInStep.done (some none,r.2.1,r.2.2))
  match r.1 with
  | some r=>pure r
  | none=>
    if r.2.2>0 then do
     reverseSlice' (lo+r.2.1-(r.2.2+1)) (lo+r.2.1)
     reverseSlice' lo (lo+r.2.1)
     let r <-forIn [r.2.1:B5] ((none,r.2.1):Option (Option Nat)×Nat) λ_ r=>do
      let x <-ltAt' (lo+r.2) (lo+r.2-1)
      match x with
      | some smaller=>if smaller=true then pure (ForInStep.done (none,r.2)) else pure (ForInStep.yield (none,r.2+1))
      | _=>pure (ForInStep.done (some none,r.2))
     match r.1 with
     | some r=>pure r
     | none=>pure (some r.2)
    else do
     reverseSlice' lo (lo+r.2.1)
     let r <-forIn [r.2.1:B5] ((none,r.2.1):Option (Option Nat)×Nat) λ_ r=>do
      let x <-ltAt' (lo+r.2) (lo+r.2-1)
      match x with
      | some smaller=>if smaller=true then pure (ForInStep.done (none,r.2)) else pure (ForInStep.yield (none,r.2+1))
      | _=>pure (ForInStep.done (some none,r.2))
     match r.1 with
     | some r=>pure r
     | none=>pure (some r.2)) Q st:=by
 refine Ab1 (wpS_lift (Aj1 ⟨rfl,?_⟩));refine Ab1 (Al1 (Af1 (I:=λx c st'=>∃q,c=(none,x,q)/\Bs a₀ knd P st'/\x<=B5/\Dn κ (arrOf st') lo (lo+x)/\q+1<=x/\(∀i,lo+x-(q+1)<=i->i<lo+x->KK κ (arrOf st') i=KK κ (arrOf st') (lo+x-1))/\Out (arrOf st) (arrOf st') lo (lo+B5)) (Q:=λc st'=>∃x q,c=(none,x,q)/\1<=x/\Bs a₀ knd P st'/\x<=B5/\Dn κ (arrOf st') lo (lo+x)/\q+1<=x/\(∀i,lo+x-(q+1)<=i->i<lo+x->KK κ (arrOf st') i=KK κ (arrOf st') (lo+x-1))/\Out (arrOf st) (arrOf st') lo (lo+B5))
  (λx c st' hx1 hx2 hI=>?_) (λc st' hI=>?_) ⟨0,rfl,B,hn,hd,h1,λi g1 g2=>by rw[show i=lo+n-1 by omega],Out.refl⟩) λc st' hI=>?_)
 ·obtain⟨q,e,B',hxn,hd',hq,he,ho⟩:=hI
  subst e;have hz:lo+x<=(arrOf st').size:=by rw[B'.size];omega
  refine Ab1 (yb2 C h0 B' (i:=lo+x) (j:=lo+x-1) (by omega) (by omega) ?_);show wpS _ _ _ _ (if κ.blt (KK κ (arrOf st') (lo+x)) (KK κ (arrOf st') (lo+x-1))=true then _ else _) _ _;cases hb:κ.blt (KK κ (arrOf st') (lo+x)) (KK κ (arrOf st') (lo+x-1))
  ·rw[if_neg At0]
   refine Ab1 (yb2 C h0 B' (i:=lo+x-1) (j:=lo+x) (by omega) (by omega) ?_);show wpS _ _ _ _ (if κ.blt (KK κ (arrOf st') (lo+x-1)) (KK κ (arrOf st') (lo+x))=true then _ else _) _ _;cases hb2:κ.blt (KK κ (arrOf st') (lo+x-1)) (KK κ (arrOf st') (lo+x))
   ·rw[if_neg At0]
    have ee:KK κ (arrOf st') (lo+x)=KK κ (arrOf st') (lo+x-1):=κ.total _ _ hb hb2;refine Ad1 ⟨q+1,rfl,B',by omega,hd'.snoc (by omega) (by rw[ee];exact KeyOrd.kle_refl _),by omega,λi g1 g2=>?_,ho⟩;have e3:lo+(x+1)-1=lo+x:=by omega
    rw[e3,ee];by_cases hi:i=lo+x
    ·rw[hi,ee]
    ·exact he i (by omega) (by omega)
   ·rw[if_pos rfl]
    exact Ad1 ⟨x,q,rfl,by omega,B',hxn,hd',hq,he,ho⟩
  ·rw[if_pos rfl]
   have lt:κ.kle (KK κ (arrOf st') (lo+x)) (KK κ (arrOf st') (lo+x-1)):=KeyOrd.kle_of_klt hb;by_cases hq0:q>0
   ·show wpS _ _ _ _ (if q>0 then _ else _) _ _
    rw[if_pos hq0];show wpS _ _ _ _ (reverseSlice' (lo+x-(q+1)) (lo+x) >>= λ_=>pure (ForInStep.yield (none,x+1,0))) _ _;rw[reverseSlice'_eq];have ks:∀k,KK κ (mirror (arrOf st') (lo+x-(q+1)) (lo+x) ((lo+x-(lo+x-(q+1))) / 2)) k=KK κ (arrOf st') k:=yu5 hz he;refine Ab1 (Am1 (Ad1 ⟨0,rfl,B'.arr (mirror_perm _ _ _ _),by omega,(hd'.congr ks).snoc (by omega) (by rw[ks,ks];exact lt),by omega,λi g1 g2=>?_,ho.trans (Out.mir hz (by omega) (by omega))⟩));rw[show i=lo+(x+1)-1 by omega]
   ·show wpS _ _ _ _ (if q>0 then _ else _) _ _
    rw[if_neg hq0];refine Ad1 ⟨0,rfl,B',by omega,hd'.snoc (by omega) lt,by omega,λi g1 g2=>?_,ho⟩;rw[show i=lo+(x+1)-1 by omega]
 ·obtain⟨q,e,B',hxn,hd',hq,he,ho⟩:=hI
  exact⟨_,q,e,by omega,B',hxn,hd',hq,he,ho⟩
 ·obtain⟨x,q,e,hx,B',hxn,hd',hq,he,ho⟩:=hI
  subst e;have hz:lo+x<=(arrOf st').size:=by rw[B'.size];omega
  by_cases hq0:q>0
  ·show wpS _ _ _ _ (if q>0 then _ else _) _ _
   rw[if_pos hq0];rw[reverseSlice'_eq (lo+x-(q+1)) (lo+x)];have ks:∀k,KK κ (mirror (arrOf st') (lo+x-(q+1)) (lo+x) ((lo+x-(lo+x-(q+1))) / 2)) k=KK κ (arrOf st') k:=yu5 hz he;refine Ab1 (Am1 ?_);exact xc7 C h0 (B'.arr (mirror_perm _ _ _ _)) hl hx hxn (hd'.congr ks) λm st2 B2 m1 m2 u2 o2=>h m st2 B2 m1 m2 u2 (ho.trans ((Out.mir hz (by omega) (by omega)).trans o2))
  ·show wpS _ _ _ _ (if q>0 then _ else _) _ _
   rw[if_neg hq0];exact xc7 C h0 B' hl hx hxn hd' λm st2 B2 m1 m2 u2 o2=>h m st2 B2 m1 m2 u2 (ho.trans o2)
open H in
def yb3(C:Cmp prog w A E s κ knd)(h0:KeysOf κ a₀)(B:Bs a₀ knd P st){lo B5:Nat}(hl:lo+B5<=a₀.size)(h1:1<=B5){Q:Option Nat->SortSt->Prop}(h:∀m st',Bs a₀ knd P st'->1<=m->m<=B5->Up κ (arrOf st') lo (lo+m)->Out (arrOf st) (arrOf st') lo (lo+B5)->Q (some m) st'):wpS (model prog w) A E s (countRun' lo B5) Q st:=by
 rw[countRun'_eq];refine Ab1 ?_;refine xw3 C h0 B hl (Ad0 1) h1 (Up.one (by omega)) λn g1 g2 g3 g4=>?_
 dsimp only;by_cases hn:n=B5
 ·rw[if_pos (by rw[hn];exact Aq1 _)]
  exact Ad1 (h n st B g1 g2 g3 Out.refl)
 rw[if_neg (by simpa using hn)];have hlt:κ.blt (KK κ (arrOf st) (lo+n)) (KK κ (arrOf st) (lo+n-1))=true:=g4.resolve_left hn;by_cases h2:n>1
 ·rw[if_pos h2]
  refine Ab1 (yb2 C h0 B (by omega) (by omega) ?_);show wpS _ _ _ _ (if κ.blt (KK κ (arrOf st) lo) (KK κ (arrOf st) (lo+n-1))=true then _ else _) _ _;cases hb:κ.blt (KK κ (arrOf st) lo) (KK κ (arrOf st) (lo+n-1));case true=>
   rw[if_pos rfl];exact Ad1 (h n st B g1 g2 g3 Out.refl)
  rw[if_neg At0];have hz:lo+n<=(arrOf st).size:=by rw[B.size];omega
  have same:∀i,lo<=i->i<lo+n->KK κ (arrOf st) i=KK κ (arrOf st) lo:=λi k1 k2=>by
   have a1:=g3 lo i (Ad0 _) k1 k2;have a2:=KeyOrd.kle_trans (g3 i (lo+n-1) k1 (by omega) (by omega)) hb;exact KeyOrd.kle_antisymm a2 a1
  have ks:=yu5 hz same;rw[reverseSlice'_eq lo (lo+n)];refine Ab1 (Am1 ?_);have dn:Dn κ (arrOf st) lo (lo+n):=λi j k1 k2 k3=>by rw[same i k1 (by omega),same j (by omega) k3];exact KeyOrd.kle_refl _
  have go:=xe1 (Q:=Q) C h0 (B.arr (mirror_perm _ _ _ _)) hl (n:=n+1) (by omega) (by omega) ((dn.congr ks).snoc g1 (by rw[ks,ks];exact KeyOrd.kle_of_klt hlt)) λm st2 B2 m1 m2 u2 o2=>h m st2 B2 m1 m2 u2 ((Out.mir hz (Ad0 _) (by omega)).trans o2)
  refine Eq.mp ?_ go;congr 1;congr 1;funext _u;congr 1;funext i;obtain⟨r1,r2,r3⟩:=i;cases r1 with
  | some r=>rfl
  | none=>
    dsimp only;split
    ·congr 1;funext _v;congr 1;funext _v;congr 1;funext j;obtain⟨j1,j2⟩:=j;cases j1<;>rfl
    ·congr 1;funext _v;congr 1;funext j;obtain⟨j1,j2⟩:=j;cases j1<;>rfl
 ·rw[if_neg h2]
  have e1:n=1:=by omega
  have dn:Dn κ (arrOf st) lo (lo+n):=λi j k1 k2 k3=>by
   have:i=j:=by omega
   subst this;exact KeyOrd.kle_refl _
  have go:=xe1 (Q:=Q) C h0 B hl (n:=n+1) (by omega) (by omega) (dn.snoc g1 (KeyOrd.kle_of_klt hlt)) h;refine Eq.mp ?_ go;congr 1;congr 1;funext _u;congr 1;funext i;obtain⟨r1,r2,r3⟩:=i;cases r1 with
  | some r=>rfl
  | none=>
    dsimp only;split
    ·congr 1;funext _v;congr 1;funext _v;congr 1;funext j;obtain⟨j1,j2⟩:=j;cases j1<;>rfl
    ·congr 1;funext _v;congr 1;funext j;obtain⟨j1,j2⟩:=j;cases j1<;>rfl
end
section
variable{prog:Program}{w:World}{A:Around}{E:Value->Shared->Prop}{s:Shared}{κ:KeyKind}{knd:SortKind}{a₀:Array Keyed}{P:Array (Nat×Nat×Nat)}{st:SortSt}
def wa2{xs:Array Keyed}{src d k:Nat}(hs:src<xs.size)(hd:d<=src):KK κ (bubble xs src d) k=if k=src-d then KK κ xs src else if src-d<k/\k<=src then KK κ xs (k-1) else KK κ xs k:=KK_bubble hs hd k
def yl8(C:Cmp prog w A E s κ knd)(h0:KeysOf κ a₀)(B:Bs a₀ knd P st){lo n ok:Nat}(hl:lo+n<=a₀.size)(hok:ok<=n)(hu:Up κ (arrOf st) lo (lo+ok)){Q:Bool->SortSt->Prop}(h:∀st',Bs a₀ knd P st'->Up κ (arrOf st') lo (lo+n)->Out (arrOf st) (arrOf st') lo (lo+n)->Q true st'):wpS (model prog w) A E s (binarySort' lo n ok) Q st:=by
 rw[binarySort'_eq];refine Ab1 (Al1 (Af1 (I:=λk c st'=>c=(none,())/\Bs a₀ knd P st'/\Up κ (arrOf st') lo (lo+min k n)/\Out (arrOf st) (arrOf st') lo (lo+n)) (Q:=λc st'=>c=(none,())/\Bs a₀ knd P st'/\Up κ (arrOf st') lo (lo+n)/\Out (arrOf st) (arrOf st') lo (lo+n)) (λk c st' hk1 hk2 hI=>?_) (λc st' hI=>?_) ⟨rfl,B,?_,Out.refl⟩) λc st' hI=>?_)
 ·obtain⟨e,B',hu',ho⟩:=hI
  subst e;rw[show min k n=k by omega] at hu';have hks:lo+k<(arrOf st').size:=by rw[B'.size];omega
  refine Ab1 (Al1 (Af1 (I:=λx c st2=>st2=st'/\∃l r,c=(none,l,r)/\l<=r/\r<=k/\r-l<=k-x/\(∀i,i<l->κ.kle (KK κ (arrOf st') (lo+i)) (KK κ (arrOf st') (lo+k)))/\∀i,r<=i->i<k->κ.kle (KK κ (arrOf st') (lo+k)) (KK κ (arrOf st') (lo+i))) (Q:=λc st2=>st2=st'/\∃l r,c=(none,l,r)/\l<=k/\(∀i,i<l->κ.kle (KK κ (arrOf st') (lo+i)) (KK κ (arrOf st') (lo+k)))/\∀i,l<=i->i<k->κ.kle (KK κ (arrOf st') (lo+k)) (KK κ (arrOf st') (lo+i)))
   (λx c st2 hx1 hx2 hI=>?_) (λc st2 hI=>?_) ⟨rfl,0,k,rfl,by omega,by omega,by omega,λi hi=>by omega,λi g1 g2=>by omega⟩) λc st2 hI=>?_)
  ·obtain⟨e1,l,r,e2,hlr,hrk,hm,hlo,hhi⟩:=hI
   subst e1 e2;dsimp only;by_cases hge:l>=r
   ·rw[if_pos hge]
    have:l=r:=by omega
    subst this;exact Ad1 ⟨rfl,l,l,rfl,hrk,hlo,hhi⟩
   ·rw[if_neg hge]
    refine Ab1 (yb2 C h0 B' (i:=lo+k) (j:=lo+(l+r) / 2) (by omega) (by omega) ?_);show wpS _ _ _ _ (if κ.blt (KK κ (arrOf st2) (lo+k)) (KK κ (arrOf st2) (lo+(l+r) / 2))=true then _ else _) _ _;cases hb:κ.blt (KK κ (arrOf st2) (lo+k)) (KK κ (arrOf st2) (lo+(l+r) / 2))
    ·rw[if_neg At0]
     refine Ad1 ⟨rfl,(l+r) / 2+1,r,rfl,by omega,by omega,by omega,λi g1=>?_,hhi⟩;exact KeyOrd.kle_trans (hu' (lo+i) (lo+(l+r) / 2) (by omega) (by omega) (by omega)) hb
    ·rw[if_pos rfl]
     refine Ad1 ⟨rfl,l,(l+r) / 2,rfl,by omega,by omega,by omega,hlo,λi g1 g2=>?_⟩;exact KeyOrd.kle_trans (KeyOrd.kle_of_klt hb) (hu' (lo+(l+r) / 2) (lo+i) (by omega) (by omega) (by omega))
  ·obtain⟨e1,l,r,e2,hlr,hrk,hm,hlo,hhi⟩:=hI
   have:l=r:=by omega
   subst this;exact⟨e1,l,l,e2,hrk,hlo,hhi⟩
  ·obtain⟨e1,l,r,e2,hlk,hlo,hhi⟩:=hI
   subst e1 e2;show wpS _ _ _ _ (moveDown' (lo+k) (lo+l) >>= λ_=>pure (ForInStep.yield (none,()))) _ _;rw[moveDown'_eq];have ds:lo+k-(lo+l)<=lo+k:=by omega
   refine Ab1 (Am1 (Ad1 ⟨rfl,B'.arr (bubble_perm _ _ _),?_,ho.trans λi hi=>?_⟩))
   ·rw[show min (k+1) n=k+1 by omega]
    intro i j g1 g2 g3;show κ.kle (KK κ (bubble (arrOf st2) (lo+k) (lo+k-(lo+l))) i) (KK κ (bubble (arrOf st2) (lo+k) (lo+k-(lo+l))) j);rw[wa2 hks ds,wa2 hks ds,show lo+k-(lo+k-(lo+l))=lo+l by omega];by_cases i1:i=lo+l
    ·rw[if_pos i1]
     by_cases j1:j=lo+l
     ·rw[if_pos j1];exact KeyOrd.kle_refl _
     ·rw[if_neg j1,if_pos ⟨by omega,by omega⟩]
      have:=hhi (j-1-lo) (by omega) (by omega);rwa [show lo+(j-1-lo)=j-1 by omega] at this
    ·rw[if_neg i1]
     by_cases i2:lo+l<i/\i<=lo+k
     ·rw[if_pos i2,if_neg (by omega),if_pos ⟨by omega,by omega⟩]
      exact hu' _ _ (by omega) (by omega) (by omega)
     ·rw[if_neg i2]
      by_cases j1:j=lo+l
      ·rw[if_pos j1]
       have:=hlo (i-lo) (by omega);rwa [show lo+(i-lo)=i by omega] at this
      ·rw[if_neg j1]
       by_cases j2:lo+l<j/\j<=lo+k
       ·rw[if_pos j2]
        exact hu' _ _ (by omega) (by omega) (by omega)
       ·rw[if_neg j2]
        exact hu' _ _ (by omega) (by omega) (by omega)
   ·show (bubble (arrOf st2) (lo+k) (lo+k-(lo+l)))[i]?=_
    rw[getElem?_bubble hks _ ds,if_neg (by omega),if_neg (by omega)]
 ·obtain⟨e,B',hu',ho⟩:=hI
  rw[show min (max (max ok 1) n) n=n by omega] at hu';exact⟨e,B',hu',ho⟩
 ·by_cases h1:ok=0
  ·exact Up.one (by omega)
  ·exact λi j g1 g2 g3=>hu i j g1 g2 (by omega)
 ·obtain⟨e,B',hu',ho⟩:=hI
  subst e;exact Ad1 (h st' B' hu' ho)
end
local macro_rules
 | `(tactic| omega)=>`(tactic| omega +splitDisjunctions)
noncomputable abbrev SM:=StateT SortSt Sem
noncomputable def gal:Bool->Keyed->Array Keyed->Nat->Nat->Nat->SM (Option Nat):=sortPriv% PySem.Builtin.gallop
noncomputable def far(left:Bool)(key:Keyed)(arr:Array Keyed)(base i:Nat):SM (Option Bool):=do
 let x <-elem' arr (base+i)
 if left then lt' x key else return (<-lt' key x).map (!·)
noncomputable def ve7(left:Bool)(key:Keyed)(arr:Array Keyed)(base n p0 q0:Nat):SM (Option Nat):=do
 let mut p:=p0
 let mut q:=q0
 for _ in [0:n] do
  if p>=q then break
  let m:=p+(q-p) / 2
  let some y <-far left key arr base m | return none
  if y then p:=m+1 else q:=m
 return some q
def wo1(left:Bool)(key:Keyed)(arr:Array Keyed)(base n hint:Nat):gal left key arr base n hint=(do
 let mut u:=0
 let mut v:=1
 let some r <-far left key arr base hint | return none
 if r then
  for _ in [0:n] do
   if v>=n-hint then break
   let some y <-far left key arr base (hint+v) | return none
   if !y then break
   u:=v
   v:=2*v+1
  ve7 left key arr base n (hint+u+1) (hint+min v (n-hint))
 else
  for _ in [0:n] do
   if v>=hint+1 then break
   let some y <-far left key arr base (hint-v) | return none
   if y then break
   u:=v
   v:=2*v+1
  ve7 left key arr base n (hint+1-min v (hint+1)) (hint-u)):=rfl
section
variable{prog:Program}{w:World}{A:Around}{E:Value->Shared->Prop}{s:Shared}{κ:KeyKind}{knd:SortKind}{st:SortSt}{left:Bool}{key:Keyed}{arr:Array Keyed}{base n:Nat}{f:Nat->Bool}
structure Cut(prog:Program)(w:World)(A:Around)(E:Value->Shared->Prop)(s:Shared)(knd:SortKind)(left:Bool)(key:Keyed)(arr:Array Keyed)(base n:Nat)(f:Nat->Bool):Prop where
 far:∀(i:Nat) (st:SortSt) (Q:Option Bool->SortSt->Prop),i<n->kindOf st=knd->Q (some (f i)) st->wpS (model prog w) A E s (far left key arr base i) Q st
 mono:∀i j,i<=j->j<n->f j=true->f i=true
def yu9(F:Cut prog w A E s knd left key arr base n f)(hk:kindOf st=knd){p q:Nat}(hpq:p<=q)(hq:q<=n)(hp1:∀i,i<p->f i=true)(hq1:∀i,q<=i->i<n->f i=false){Q:Option Nat->SortSt->Prop}(h:∀k,k<=n->(∀i,i<k->f i=true)->(∀i,k<=i->i<n->f i=false)->Q (some k) st):wpS (model prog w) A E s (ve7 left key arr base n p q) Q st:=by
 unfold ve7;refine Ab1 (Al1 (Af1 (I:=λx c st'=>st'=st/\∃p q,c=(none,p,q)/\p<=q/\q<=n/\q-p<=n-x/\(∀i,i<p->f i=true)/\∀i,q<=i->i<n->f i=false) (Q:=λc st'=>st'=st/\∃p,c=(none,p,p)/\p<=n/\(∀i,i<p->f i=true)/\∀i,p<=i->i<n->f i=false) (λx c st' hx1 hx2 hI=>?_) (λc st' hI=>?_) ⟨rfl,p,q,rfl,hpq,hq,by omega,hp1,hq1⟩) λc st' hI=>?_)
 ·obtain⟨e1,p,q,e2,g1,g2,g3,g4,g5⟩:=hI
  subst e1 e2;dsimp only;by_cases hge:p>=q
  ·rw[if_pos hge]
   have:p=q:=by omega
   subst this;exact Ad1 ⟨rfl,p,rfl,g2,g4,g5⟩
  ·rw[if_neg hge]
   refine Ab1 (F.far _ _ _ (by omega) hk ?_);show wpS _ _ _ _ (if f (p+(q-p) / 2)=true then _ else _) _ _;cases hf:f (p+(q-p) / 2)
   ·rw[if_neg At0]
    refine Ad1 ⟨rfl,p,p+(q-p) / 2,rfl,by omega,by omega,by omega,g4,λi k1 k2=>?_⟩;cases hi:f i
    ·rfl
    ·rw[F.mono _ i k1 k2 hi] at hf;cases hf
   ·rw[if_pos rfl]
    refine Ad1 ⟨rfl,p+(q-p) / 2+1,q,rfl,by omega,by omega,by omega,λi k1=>?_,g5⟩;exact F.mono i _ (by omega) (by omega) hf
 ·obtain⟨e1,p,q,e2,g1,g2,g3,g4,g5⟩:=hI
  have:p=q:=by omega
  subst this;exact⟨e1,p,e2,g2,g4,g5⟩
 ·obtain⟨e1,p,e2,g2,g4,g5⟩:=hI
  subst e1 e2;exact Ad1 (h p g2 g4 g5)
def yf5(F:Cut prog w A E s knd left key arr base n f)(hk:kindOf st=knd){hint:Nat}(hh:hint<n){Q:Option Nat->SortSt->Prop}(h:∀k,k<=n->(∀i,i<k->f i=true)->(∀i,k<=i->i<n->f i=false)->Q (some k) st):wpS (model prog w) A E s (gal left key arr base n hint) Q st:=by
 rw[wo1];have dn:∀i,i<n->f i=false->∀j,i<=j->j<n->f j=false:=λi hi hf j h1 h2=>by
  cases hj:f j
  ·rfl
  ·rw[F.mono i j h1 h2 hj] at hf;cases hf
 refine Ab1 (F.far hint _ _ hh hk ?_);dsimp only;cases hr:f hint
 ·rw[if_neg At0]
  refine Ab1 (Al1 (Af1 (I:=λx c st'=>st'=st/\∃u v,c=(none,u,v)/\u<=hint/\f (hint-u)=false/\u<v/\x<v) (Q:=λc st'=>st'=st/\∃u v,c=(none,u,v)/\u<=hint/\f (hint-u)=false/\u<v/\(v>=hint+1\/f (hint-v)=true)) (λx c st' hx1 hx2 hI=>?_) (λc st' hI=>?_) ⟨rfl,0,1,rfl,by omega,hr,by omega,by omega⟩) λc st' hI=>?_)
  ·obtain⟨e1,u,v,e2,g1,g2,g3,g4⟩:=hI
   subst e1 e2;dsimp only;by_cases hv:v>=hint+1
   ·rw[if_pos hv]
    exact Ad1 ⟨rfl,u,v,rfl,g1,g2,g3,.inl hv⟩
   ·rw[if_neg hv]
    refine Ab1 (F.far _ _ _ (by omega) hk ?_);show wpS _ _ _ _ (if f (hint-v)=true then _ else _) _ _;cases hf:f (hint-v)
    ·rw[if_neg At0]
     exact Ad1 ⟨rfl,v,2*v+1,rfl,by omega,hf,by omega,by omega⟩
    ·rw[if_pos rfl]
     exact Ad1 ⟨rfl,u,v,rfl,g1,g2,g3,.inr hf⟩
  ·obtain⟨e1,u,v,e2,g1,g2,g3,g4⟩:=hI
   exact⟨e1,u,v,e2,g1,g2,g3,.inl (by omega)⟩
  ·obtain⟨e1,u,v,e2,g1,g2,g3,g4⟩:=hI
   subst e1 e2;refine yu9 F hk (p:=hint+1-min v (hint+1)) (q:=hint-u) (by omega) (by omega) (λi hi=>?_) (λi k1 k2=>dn _ (by omega) g2 i k1 k2) h;rcases g4 with g4 | g4
   ·omega
   ·exact F.mono i (hint-v) (by omega) (by omega) g4
 ·rw[if_pos rfl]
  refine Ab1 (Al1 (Af1 (I:=λx c st'=>st'=st/\∃u v,c=(none,u,v)/\hint+u<n/\f (hint+u)=true/\u<v/\x<v) (Q:=λc st'=>st'=st/\∃u v,c=(none,u,v)/\hint+u<n/\f (hint+u)=true/\u<v/\(v>=n-hint\/hint+v<n/\f (hint+v)=false)) (λx c st' hx1 hx2 hI=>?_) (λc st' hI=>?_) ⟨rfl,0,1,rfl,by omega,hr,by omega,by omega⟩) λc st' hI=>?_)
  ·obtain⟨e1,u,v,e2,g1,g2,g3,g4⟩:=hI
   subst e1 e2;dsimp only;by_cases hv:v>=n-hint
   ·rw[if_pos hv]
    exact Ad1 ⟨rfl,u,v,rfl,g1,g2,g3,.inl hv⟩
   ·rw[if_neg hv]
    refine Ab1 (F.far _ _ _ (by omega) hk ?_);show wpS _ _ _ _ (if (!f (hint+v))=true then _ else _) _ _;cases hf:f (hint+v)
    ·rw[if_pos (show (!false)=true from rfl)]
     exact Ad1 ⟨rfl,u,v,rfl,g1,g2,g3,.inr ⟨by omega,hf⟩⟩
    ·rw[if_neg (by decide)]
     exact Ad1 ⟨rfl,v,2*v+1,rfl,by omega,hf,by omega,by omega⟩
  ·obtain⟨e1,u,v,e2,g1,g2,g3,g4⟩:=hI
   exact⟨e1,u,v,e2,g1,g2,g3,.inl (by omega)⟩
  ·obtain⟨e1,u,v,e2,g1,g2,g3,g4⟩:=hI
   subst e1 e2;refine yu9 F hk (p:=hint+u+1) (q:=hint+min v (n-hint)) (by omega) (by omega) (λi hi=>F.mono i (hint+u) (by omega) g1 g2) (λi k1 k2=>?_) h;rcases g4 with g4 | ⟨g4,g5⟩
   ·omega
   ·exact dn _ g4 g5 i (by omega) k2
end
end Ts
namespace Ts
open PySem PyProof.Rows
noncomputable def mlo:Array Keyed->Array Keyed->SM (Array Keyed):=sortPriv% PySem.Builtin.mergeLo
noncomputable def vd2(g:Nat):SM Unit:=(sortPriv% PySem.Builtin.setMinGallop) g
noncomputable abbrev wt4(a b out:Array Keyed)(ia ib:Nat):Array Keyed:=out++a.extract ia a.size++b.extract ib b.size
noncomputable abbrev ww5(a b out:Array Keyed)(ia ib:Nat):Array Keyed:=out++b.extract ib b.size++a.extract ia a.size
def wm4(a b:Array Keyed):mlo a b=(do
 rule "list.sort.merge-lo"
 let mut out:Array Keyed:=#[<-elem' b 0]
 let mut ia:=0
 let mut ib:=1
 if ib == b.size then return wt4 a b out ia ib
 if ia+1 == a.size then return ww5 a b out ia ib
 let mut mg:=gallopOf (<-get)
 for _ in [0:a.size+b.size] do
  let mut ca:=0
  let mut cb:=0
  for _ in [0:a.size+b.size] do
   let some y <-lt' (<-elem' b ib) (<-elem' a ia) | return wt4 a b out ia ib
   if y then
    out:=out.push (<-elem' b ib)
    ib:=ib+1
    cb:=cb+1
    ca:=0
    if ib == b.size then return wt4 a b out ia ib
    if cb>=mg then break
   else
    out:=out.push (<-elem' a ia)
    ia:=ia+1
    ca:=ca+1
    cb:=0
    if ia+1 == a.size then return ww5 a b out ia ib
    if ca>=mg then break
  rule "list.sort.gallop"
  mg:=mg+1
  for _ in [0:a.size+b.size] do
   if mg>1 then mg:=mg-1
   vd2 mg
   let some k <-gal false (<-elem' b ib) a ia (a.size-ia) 0 | return wt4 a b out ia ib
   ca:=k
   if k>0 then
    out:=out++a.extract ia (ia+k)
    ia:=ia+k
    if ia+1 == a.size then return ww5 a b out ia ib
    if ia == a.size then return wt4 a b out ia ib
   out:=out.push (<-elem' b ib)
   ib:=ib+1
   if ib == b.size then return wt4 a b out ia ib
   let some k <-gal true (<-elem' a ia) b ib (b.size-ib) 0 | return wt4 a b out ia ib
   cb:=k
   if k>0 then
    out:=out++b.extract ib (ib+k)
    ib:=ib+k
    if ib == b.size then return wt4 a b out ia ib
   out:=out.push (<-elem' a ia)
   ia:=ia+1
   if ia+1 == a.size then return ww5 a b out ia ib
   if ca<7&&cb<7 then break
  mg:=mg+1
  vd2 mg
 unsupported "internal:list.sort.merge-bound"):=rfl
section
variable{κ:KeyKind}{a b:Array Keyed}{out:List Keyed}{ia ib:Nat}
noncomputable abbrev le(κ:KeyKind)(x y:Keyed):Prop:=κ.kle (ky κ x) (ky κ y)
def ws6{xs:Array Keyed}{i:Nat}(h:i<xs.size):KK κ xs i=ky κ xs[i]:=by
 unfold KK ky;rw[Ak0 h]
structure Mg(κ:KeyKind)(a b:Array Keyed)(out:List Keyed)(ia ib:Nat):Prop where
 perm:(out++(a.toList.drop ia++b.toList.drop ib)).Perm (a.toList++b.toList)
 up:out.Pairwise (le κ)
 la:∀x∈out,∀i,ia<=i->i<a.size->κ.kle (ky κ x) (KK κ a i)
 lb:∀x∈out,∀i,ib<=i->i<b.size->κ.kle (ky κ x) (KK κ b i)
def yk6{xs:Array Keyed}{i:Nat}(h:i<xs.size):xs.toList.drop i=xs[i]::xs.toList.drop (i+1):=by
 rw[Cb0 (by simpa using h)];simp
def yr9{x:Keyed}(hu:out.Pairwise (le κ))(h:∀z∈out,le κ z x):(out++[x]).Pairwise (le κ):=
 Bl0.mpr ⟨hu,List.pairwise_singleton _ _,λz hz y hy=>by rw[Aq0.mp hy];exact h z hz⟩
def Mg.pushA(m:Mg κ a b out ia ib)(ua:Up κ a 0 a.size)(hi:ia<a.size)(h:∀j,ib<=j->j<b.size->κ.kle (KK κ a ia) (KK κ b j)):Mg κ a b (out++[a[ia]]) (ia+1) ib:=by
 refine⟨?_,yr9 m.up λz hz=>?_,λx hx i h1 h2=>?_,λx hx i h1 h2=>?_⟩
 ·have:=m.perm
  rw[yk6 hi] at this;simpa [Av0] using this
 ·have:=m.la z hz ia (Ad0 _) hi
  rwa [ws6 hi] at this
 ·rcases Ap0.mp hx with hx | hx
  ·exact m.la x hx i (by omega) h2
  ·rw[Aq0.mp hx,<-ws6 hi]
   exact ua ia i (Am0 _) (by omega) h2
 ·rcases Ap0.mp hx with hx | hx
  ·exact m.lb x hx i h1 h2
  ·rw[Aq0.mp hx,<-ws6 hi]
   exact h i h1 h2
def Mg.pushB(m:Mg κ a b out ia ib)(ub:Up κ b 0 b.size)(hi:ib<b.size)(h:∀j,ia<=j->j<a.size->κ.kle (KK κ b ib) (KK κ a j)):Mg κ a b (out++[b[ib]]) ia (ib+1):=by
 refine⟨?_,yr9 m.up λz hz=>?_,λx hx i h1 h2=>?_,λx hx i h1 h2=>?_⟩
 ·have:=m.perm
  rw[yk6 hi] at this;refine List.Perm.trans ?_ this;rw[Av0];exact List.Perm.append_left _ (show (b[ib]::(a.toList.drop ia++b.toList.drop (ib+1))).Perm _ from List.perm_middle.symm)
 ·have:=m.lb z hz ib (Ad0 _) hi
  rwa [ws6 hi] at this
 ·rcases Ap0.mp hx with hx | hx
  ·exact m.la x hx i h1 h2
  ·rw[Aq0.mp hx,<-ws6 hi]
   exact h i h1 h2
 ·rcases Ap0.mp hx with hx | hx
  ·exact m.lb x hx i (by omega) h2
  ·rw[Aq0.mp hx,<-ws6 hi]
   exact ub ib i (Am0 _) (by omega) h2
def xe8{xs:Array Keyed}{i k:Nat}(h:i+k<xs.size):(xs.toList.drop i).take (k+1)=(xs.toList.drop i).take k++[xs[i+k]]:=by
 rw[Bk0,List.getElem?_drop];simp[Ak0 h]
theorem Mg.takeA(m:Mg κ a b out ia ib)(ua:Up κ a 0 a.size):∀k,ia+k<=a.size->(∀i,i<k->∀j,ib<=j->j<b.size->κ.kle (KK κ a (ia+i)) (KK κ b j))->Mg κ a b (out++(a.toList.drop ia).take k) (ia+k) ib
 | 0,_,_=>by simpa using m
 | k+1,hk,h=>by
   have ih:=Mg.takeA m ua k (by omega) λi hi=>h i (by omega)
   have:=ih.pushA ua (by omega) (h k (by omega));rw[xe8 (by omega),<-Av0];exact this
theorem Mg.takeB(m:Mg κ a b out ia ib)(ub:Up κ b 0 b.size):∀k,ib+k<=b.size->(∀i,i<k->∀j,ia<=j->j<a.size->κ.kle (KK κ b (ib+i)) (KK κ a j))->Mg κ a b (out++(b.toList.drop ib).take k) ia (ib+k)
 | 0,_,_=>by simpa using m
 | k+1,hk,h=>by
   have ih:=Mg.takeB m ub k (by omega) λi hi=>h i (by omega)
   have:=ih.pushB ub (by omega) (h k (by omega));rw[xe8 (by omega),<-Av0];exact this
noncomputable def ww6(κ:KeyKind)(a b:Array Keyed)(r:List Keyed):Prop:=r.Perm (a.toList++b.toList)/\r.Pairwise (le κ)
def yi2{xs:Array Keyed}{i:Nat}(u:Up κ xs 0 xs.size):(xs.toList.drop i).Pairwise (le κ):=by
 rw[Cn0];intro p q hp hq hpq;rw[Cf0,Ah0] at hp hq;have:=u (i+p) (i+q) (Am0 _) (by omega) (by omega);rw[ws6 (by omega),ws6 (by omega)] at this;simpa [Cx0] using this
def zs4{xs:Array Keyed}{i:Nat}{x:Keyed}(h:x∈xs.toList.drop i):∃j,i<=j/\j<xs.size/\ky κ x=KK κ xs j:=by
 obtain⟨j,hj,e⟩:=Bg0 h;rw[Cf0,Ah0] at hj;refine⟨i+j,by omega,by omega,?_⟩;rw[ws6 (by omega),<-e];simp[Cx0]
def Mg.doneB(m:Mg κ a b out ia ib)(ua:Up κ a 0 a.size)(h:b.size<=ib):ww6 κ a b (out++a.toList.drop ia++b.toList.drop ib):=by
 have hb:b.toList.drop ib=[]:=List.drop_eq_nil_of_le (by simpa using h);refine⟨by rw[Av0];exact m.perm,?_⟩;rw[hb,Bq0];refine Bl0.mpr ⟨m.up,yi2 ua,λx hx y hy=>?_⟩;obtain⟨j,h1,h2,e⟩:=zs4 (κ:=κ) hy;show κ.kle (ky κ x) (ky κ y);rw[e];exact m.la x hx j h1 h2
def Mg.doneA(m:Mg κ a b out ia ib)(ub:Up κ b 0 b.size)(h:a.size<=ia):ww6 κ a b (out++a.toList.drop ia++b.toList.drop ib):=by
 have ha:a.toList.drop ia=[]:=List.drop_eq_nil_of_le (by simpa using h);refine⟨by rw[Av0];exact m.perm,?_⟩;rw[ha,Bq0];refine Bl0.mpr ⟨m.up,yi2 ub,λx hx y hy=>?_⟩;obtain⟨j,h1,h2,e⟩:=zs4 (κ:=κ) hy;show κ.kle (ky κ x) (ky κ y);rw[e];exact m.lb x hx j h1 h2
def Mg.last(m:Mg κ a b out ia ib)(ub:Up κ b 0 b.size)(h:ia+1=a.size)(hl:∀j,j<b.size->κ.kle (KK κ b j) (KK κ a ia)):ww6 κ a b (out++b.toList.drop ib++a.toList.drop ia):=by
 have ha:a.toList.drop ia=[a[ia]]:=by rw[yk6 (by omega),List.drop_eq_nil_of_le (by simp;omega)]
 refine⟨?_,?_⟩
 ·refine List.Perm.trans ?_ m.perm
  rw[Av0];exact List.Perm.append_left _ List.perm_append_comm
 ·rw[ha]
  refine yr9 (Bl0.mpr ⟨m.up,yi2 ub,λx hx y hy=>?_⟩) λz hz=>?_
  ·obtain⟨j,h1,h2,e⟩:=zs4 (κ:=κ) hy
   show κ.kle (ky κ x) (ky κ y);rw[e];exact m.lb x hx j h1 h2
  ·show κ.kle (ky κ z) (ky κ a[ia])
   rw[<-ws6 (by omega)];rcases Ap0.mp hz with hz | hz
   ·exact m.la z hz ia (Ad0 _) (by omega)
   ·obtain⟨j,h1,h2,e⟩:=zs4 (κ:=κ) hz
    rw[e];exact hl j h2
end
section
variable{prog:Program}{w:World}{A:Around}{E:Value->Shared->Prop}{s:Shared}{κ:KeyKind}{knd:SortKind}{st:SortSt}{a b:Array Keyed}
structure wv4(st st':SortSt):Prop where
 arr:arrOf st'=arrOf st
 pend:pendingOf st'=pendingOf st
 fail:failedOf st'=failedOf st
 kind:kindOf st'=kindOf st
def wv4.refl:wv4 st st:=⟨rfl,rfl,rfl,rfl⟩
def we8(g:Nat):vd2 g=modify λs=>SortSt.mk' (kindOf s) (arrOf s) (pendingOf s) g (failedOf s):=rfl
def yh8{st0:SortSt}{g:Nat}{Q:Unit->SortSt->Prop}(l:wv4 st0 st)(h:∀st',wv4 st0 st'->Q () st'):wpS (model prog w) A E s (vd2 g) Q st:=by
 rw[we8];exact Am1 (h _ ⟨l.arr,l.pend,l.fail,l.kind⟩)
def zd6{xs:Array Keyed}{i:Nat}(h:i<xs.size){Q:Keyed->SortSt->Prop}(hq:Q xs[i] st):wpS (model prog w) A E s (elem' xs i) Q st:=by
 rw[elem'_eq,Ak0 h];exact Ad1 hq
def yf4(C:Cmp prog w A E s κ knd)(hk:kindOf st=knd)(ka:KeysOf κ a)(kb:KeysOf κ b){i j:Nat}(hi:i<a.size)(hj:j<b.size){Q:Option Bool->SortSt->Prop}(h:Q (some (κ.blt (KK κ a i) (KK κ b j))) st) :
 wpS (model prog w) A E s (lt' a[i] b[j]) Q st:=by
 obtain⟨x,hx⟩:=ka a[i] (Array.getElem_mem_toList hi);obtain⟨y,hy⟩:=kb b[j] (Array.getElem_mem_toList hj);refine C st _ _ x y Q hk hx hy ?_;rw[ws6 hi,ws6 hj] at h;unfold ky at h;rw[hx,hy] at h;exact h
def vw4(C:Cmp prog w A E s κ knd)(ka:KeysOf κ a)(kb:KeysOf κ b)(ua:Up κ a 0 a.size){base n j:Nat}(hn:base+n<=a.size)(hj:j<b.size):Cut prog w A E s knd false b[j] a base n (λi=>!κ.blt (KK κ b j) (KK κ a (base+i))) where
 far:=λi st Q hi hk h=>by
  unfold far;refine Ab1 (zd6 (by omega) ?_);show wpS _ _ _ _ (lt' b[j] a[base+i] >>= λx=>pure (x.map (!·))) Q st;exact Ab1 (yf4 C hk kb ka hj (by omega) (Ad1 h))
 mono:=λi k h1 h2 h=>by
  have h:κ.blt (KK κ b j) (KK κ a (base+k))=false:=by simpa using h
  have:=KeyOrd.kle_trans (ua (base+i) (base+k) (Am0 _) (by omega) (by omega)) h;have:κ.blt (KK κ b j) (KK κ a (base+i))=false:=this;simp[this]
def vw5(C:Cmp prog w A E s κ knd)(ka:KeysOf κ a)(kb:KeysOf κ b)(ub:Up κ b 0 b.size){base n i:Nat}(hn:base+n<=b.size)(hi:i<a.size):Cut prog w A E s knd true a[i] b base n (λk=>κ.blt (KK κ b (base+k)) (KK κ a i)) where
 far:=λk st Q hk2 hk h=>by
  unfold far;refine Ab1 (zd6 (by omega) ?_);show wpS _ _ _ _ (lt' b[base+k] a[i]) Q st;exact yf4 C hk kb ka (by omega) hi h
 mono:=λp q h1 h2 h=>KeyOrd.klt_of_kle_of_klt (ub (base+p) (base+q) (Am0 _) (by omega) (by omega)) h
def zg3{xs:Array Keyed}{i j:Nat}(h:j<=xs.size):(xs.extract i j).toList=(xs.toList.drop i).take (j-i):=by
 simp[Array.toList_extract,List.extract_eq_drop_take]
structure Mid(κ:KeyKind)(a b:Array Keyed)(st:SortSt)(out:Array Keyed)(ia ib:Nat)(st':SortSt)(lo:Nat):Prop where
 m:Mg κ a b out.toList ia ib
 ha:ia+1<a.size
 hb:ib<b.size
 like:wv4 st st'
 far:lo<=ia+ib
def Mid.le{st:SortSt}{out:Array Keyed}{ia ib lo lo2:Nat}{st':SortSt}(M:Mid κ a b st out ia ib st' lo)(h:lo2<=lo):Mid κ a b st out ia ib st' lo2:=⟨M.m,M.ha,M.hb,M.like,Ba0 h M.far⟩
structure Two(prog:Program)(w:World)(A:Around)(E:Value->Shared->Prop)(s:Shared)(κ:KeyKind)(knd:SortKind)(a b:Array Keyed)(st:SortSt):Prop where
 C:Cmp prog w A E s κ knd
 ka:KeysOf κ a
 kb:KeysOf κ b
 ua:Up κ a 0 a.size
 ub:Up κ b 0 b.size
 hl:∀j,j<b.size->κ.kle (KK κ b j) (KK κ a (a.size-1))
 hk:kindOf st=knd
noncomputable abbrev wz9(κ:KeyKind)(a b:Array Keyed)(st:SortSt)(r:Array Keyed)(st':SortSt):Prop:=wv4 st st'/\ww6 κ a b r.toList
def yp4(out:Array Keyed)(ia ib:Nat):(wt4 a b out ia ib).toList=out.toList++a.toList.drop ia++b.toList.drop ib:=by
 unfold wt4;rw[Bn0,Bn0,zg3 (Ad0 _),zg3 (Ad0 _),Bp0 (by simp),Bp0 (by simp)]
def xk4(out:Array Keyed)(ia ib:Nat):(ww5 a b out ia ib).toList=out.toList++b.toList.drop ib++a.toList.drop ia:=by
 unfold ww5;rw[Bn0,Bn0,zg3 (Ad0 _),zg3 (Ad0 _),Bp0 (by simp),Bp0 (by simp)]
section
variable{out:Array Keyed}{ia ib lo:Nat}{st':SortSt}(T:Two prog w A E s κ knd a b st)
include T
def Two.dB(m:Mg κ a b out.toList ia ib)(h:b.size<=ib)(l:wv4 st st'):wz9 κ a b st (wt4 a b out ia ib) st':=⟨l,by rw[yp4];exact m.doneB T.ua h⟩
def Two.dA(m:Mg κ a b out.toList ia ib)(h:a.size<=ia)(l:wv4 st st'):wz9 κ a b st (wt4 a b out ia ib) st':=⟨l,by rw[yp4];exact m.doneA T.ub h⟩
def Two.dL(m:Mg κ a b out.toList ia ib)(h:ia+1=a.size)(l:wv4 st st'):wz9 κ a b st (ww5 a b out ia ib) st':=⟨l,by rw[xk4];exact m.last T.ub h (by rw[show ia=a.size-1 by omega];exact T.hl)⟩
def Two.kind(l:wv4 st st'):kindOf st'=knd:=l.kind.trans T.hk
end
noncomputable abbrev S6:=Option (Array Keyed)×Array Keyed×Nat×Nat×Nat×Nat
noncomputable abbrev S7:=Option (Array Keyed)×Array Keyed×Nat×Nat×Nat×Nat×Nat
noncomputable def vm9(a b:Array Keyed)(mg:Nat)(c:S6):SM S6:=forIn [0:a.size+b.size] c λ_ r=>do
 let y <-elem' b r.2.2.2.1
 let x <-elem' a r.2.2.1
 let z <-lt' y x
 match z with
 | some t=>
   if t=true then do
    let y <-elem' b r.2.2.2.1
    if (r.2.2.2.1+1 == b.size)=true then pure (ForInStep.done (some (wt4 a b (r.2.1.push y) r.2.2.1 (r.2.2.2.1+1)),r.2.1.push y,r.2.2.1,r.2.2.2.1+1,0,r.2.2.2.2.2+1))
    else if r.2.2.2.2.2+1>=mg then pure (ForInStep.done (none,r.2.1.push y,r.2.2.1,r.2.2.2.1+1,0,r.2.2.2.2.2+1)) else pure (ForInStep.yield (none,r.2.1.push y,r.2.2.1,r.2.2.2.1+1,0,r.2.2.2.2.2+1))
   else do
    let x <-elem' a r.2.2.1
    if (r.2.2.1+1+1 == a.size)=true then pure (ForInStep.done (some (ww5 a b (r.2.1.push x) (r.2.2.1+1) r.2.2.2.1),r.2.1.push x,r.2.2.1+1,r.2.2.2.1,r.2.2.2.2.1+1,0))
    else if r.2.2.2.2.1+1>=mg then pure (ForInStep.done (none,r.2.1.push x,r.2.2.1+1,r.2.2.2.1,r.2.2.2.2.1+1,0)) else pure (ForInStep.yield (none,r.2.1.push x,r.2.2.1+1,r.2.2.2.1,r.2.2.2.2.1+1,0))
 | _=>pure (ForInStep.done (some (wt4 a b r.2.1 r.2.2.1 r.2.2.2.1),r.2.1,r.2.2.1,r.2.2.2.1,r.2.2.2.2.1,r.2.2.2.2.2))
def wb0(T:Two prog w A E s κ knd a b st){out:Array Keyed}{ia ib lo mg ca cb:Nat}{st':SortSt}(M:Mid κ a b st out ia ib st' lo){Q:S6->SortSt->Prop}(hr:∀r z st2,wz9 κ a b st r st2->Q (some r,z) st2)(hn:∀out ia ib ca cb st2,Mid κ a b st out ia ib st2 (lo+1)->Q (none,out,ia,ib,ca,cb) st2) :
 wpS (model prog w) A E s (vm9 a b mg (none,out,ia,ib,ca,cb)) Q st':=by
 unfold vm9;refine Af1 (I:=λy c st2=>∃out ia ib ca cb,c=(none,out,ia,ib,ca,cb)/\Mid κ a b st out ia ib st2 (lo+y)) (λy c st2 hy1 hy2 hI=>?_) (λc st2 hI=>?_) ⟨out,ia,ib,ca,cb,rfl,M⟩
 ·obtain⟨out,ia,ib,ca,cb,e,M⟩:=hI
  subst e;have i1:=M.ha;have i2:=M.hb;have i3:=M.far;refine Ab1 (zd6 i2 (Ab1 (zd6 (show ia<a.size by omega) (Ab1 (yf4 T.C (T.kind M.like) T.kb T.ka i2 (by omega) ?_)))));show wpS _ _ _ _ (if κ.blt (KK κ b ib) (KK κ a ia)=true then _ else _) _ _;cases hb:κ.blt (KK κ b ib) (KK κ a ia)
  ·rw[if_neg At0]
   refine Ab1 (zd6 (show ia<a.size by omega) ?_);have m2:Mg κ a b (out.push a[ia]).toList (ia+1) ib:=by
    rw[Array.toList_push];exact M.m.pushA T.ua (by omega) λj g1 g2=>KeyOrd.kle_trans hb (T.ub ib j (Am0 _) g1 g2)
   show wpS _ _ _ _ (if (ia+1+1 == a.size)=true then _ else _) _ _;by_cases h1:ia+1+1=a.size
   ·rw[if_pos (beq_iff_eq.mpr h1)]
    exact Ad1 (hr _ _ _ (T.dL m2 h1 M.like))
   ·rw[if_neg (λz=>h1 (beq_iff_eq.mp z))]
    show wpS _ _ _ _ (if ca+1>=mg then _ else _) _ _;have M2:Mid κ a b st (out.push a[ia]) (ia+1) ib st2 (lo+(y+1)):=⟨m2,by omega,i2,M.like,by omega⟩;by_cases h2:ca+1>=mg
    ·rw[if_pos h2]
     exact Ad1 (hn _ _ _ _ _ _ (M2.le (by omega)))
    ·rw[if_neg h2]
     exact Ad1 ⟨_,_,_,_,_,rfl,M2⟩
  ·rw[if_pos rfl]
   refine Ab1 (zd6 i2 ?_);have m2:Mg κ a b (out.push b[ib]).toList ia (ib+1):=by
    rw[Array.toList_push];exact M.m.pushB T.ub i2 λj g1 g2=>KeyOrd.kle_trans (KeyOrd.kle_of_klt hb) (T.ua ia j (Am0 _) g1 g2)
   show wpS _ _ _ _ (if (ib+1 == b.size)=true then _ else _) _ _;by_cases h1:ib+1=b.size
   ·rw[if_pos (beq_iff_eq.mpr h1)]
    exact Ad1 (hr _ _ _ (T.dB m2 (show b.size<=ib+1 by omega) M.like))
   ·rw[if_neg (λz=>h1 (beq_iff_eq.mp z))]
    show wpS _ _ _ _ (if cb+1>=mg then _ else _) _ _;have M2:Mid κ a b st (out.push b[ib]) ia (ib+1) st2 (lo+(y+1)):=⟨m2,i1,by omega,M.like,by omega⟩;by_cases h2:cb+1>=mg
    ·rw[if_pos h2]
     exact Ad1 (hn _ _ _ _ _ _ (M2.le (by omega)))
    ·rw[if_neg h2]
     exact Ad1 ⟨_,_,_,_,_,rfl,M2⟩
 ·obtain⟨out,ia,ib,ca,cb,e,M⟩:=hI
  have:=M.ha;have:=M.hb;have:=M.far;omega
noncomputable def Gq(κ:KeyKind)(a b:Array Keyed)(st:SortSt)(lo:Nat)(r:ForInStep S7)(st':SortSt):Prop:=
 match r with
 | .done c=>(∃q z,c=(some q,z)/\wz9 κ a b st q st')\/∃out ia ib mg ca cb,c=(none,out,ia,ib,mg,ca,cb)/\Mid κ a b st out ia ib st' lo
 | .yield c=>∃out ia ib mg ca cb,c=(none,out,ia,ib,mg,ca,cb)/\Mid κ a b st out ia ib st' lo
noncomputable def G3(a b out:Array Keyed)(ia ib mg ca cb:Nat):SM (ForInStep S7):=do
 let x <-elem' a ia
 if (ia+1+1 == a.size)=true then pure (ForInStep.done ((some (ww5 a b (out.push x) (ia+1) ib),out.push x,ia+1,ib,mg,ca,cb):S7))
 else if (decide (ca<7)&&decide (cb<7))=true then pure (ForInStep.done ((none,out.push x,ia+1,ib,mg,ca,cb):S7)) else pure (ForInStep.yield ((none,out.push x,ia+1,ib,mg,ca,cb):S7))
def vj0(T:Two prog w A E s κ knd a b st){out:Array Keyed}{ia ib lo mg ca cb:Nat}{st':SortSt}(m:Mg κ a b out.toList ia ib)(i1:ia+1<a.size)(i2:ib<b.size)(l:wv4 st st')(hlo:lo<=ia+ib+1)(hb:κ.blt (KK κ b ib) (KK κ a ia)=false) :
 wpS (model prog w) A E s (G3 a b out ia ib mg ca cb) (Gq κ a b st lo) st':=by
 unfold G3;refine Ab1 (zd6 (show ia<a.size by omega) ?_);have m2:Mg κ a b (out.push a[ia]).toList (ia+1) ib:=by
  rw[Array.toList_push];exact m.pushA T.ua (by omega) λj g1 g2=>KeyOrd.kle_trans hb (T.ub ib j (Am0 _) g1 g2)
 by_cases h1:ia+1+1=a.size
 ·rw[if_pos (beq_iff_eq.mpr h1)]
  exact Ad1 (.inl ⟨_,_,rfl,T.dL m2 h1 l⟩)
 ·rw[if_neg (λz=>h1 (beq_iff_eq.mp z))]
  have M2:Mid κ a b st (out.push a[ia]) (ia+1) ib st' lo:=⟨m2,by omega,i2,l,by omega⟩;split
  ·exact Ad1 (.inr ⟨_,_,_,_,_,_,rfl,M2⟩)
  ·exact Ad1 ⟨_,_,_,_,_,_,rfl,M2⟩
noncomputable def G2(a b out:Array Keyed)(ia ib mg ca cb:Nat):SM (ForInStep S7):=do
 let y <-elem' b ib
 if (ib+1 == b.size)=true then pure (ForInStep.done ((some (wt4 a b (out.push y) ia (ib+1)),out.push y,ia,ib+1,mg,ca,cb):S7))
 else do
  let x <-elem' a ia
  let k <-gal true x b (ib+1) (b.size-(ib+1)) 0
  match k with
  | some k=>
    if k>0 then
     if (ib+1+k == b.size)=true then pure (ForInStep.done ((some (wt4 a b (out.push y++b.extract (ib+1) (ib+1+k)) ia (ib+1+k)),out.push y++b.extract (ib+1) (ib+1+k),ia,ib+1+k,mg,ca,k):S7))
     else G3 a b (out.push y++b.extract (ib+1) (ib+1+k)) ia (ib+1+k) mg ca k
    else G3 a b (out.push y) ia (ib+1) mg ca k
  | _=>pure (ForInStep.done ((some (wt4 a b (out.push y) ia (ib+1)),out.push y,ia,ib+1,mg,ca,cb):S7))
def vj1(T:Two prog w A E s κ knd a b st){out:Array Keyed}{ia ib lo mg ca cb:Nat}{st':SortSt}(m:Mg κ a b out.toList ia ib)(i1:ia+1<a.size)(i2:ib<b.size)(l:wv4 st st')(hlo:lo<=ia+ib+1)(hb:∀j,ia<=j->j<a.size->κ.kle (KK κ b ib) (KK κ a j)) :
 wpS (model prog w) A E s (G2 a b out ia ib mg ca cb) (Gq κ a b st lo) st':=by
 unfold G2;refine Ab1 (zd6 i2 ?_);have m2:Mg κ a b (out.push b[ib]).toList ia (ib+1):=by
  rw[Array.toList_push];exact m.pushB T.ub i2 hb
 by_cases h1:ib+1=b.size
 ·rw[if_pos (beq_iff_eq.mpr h1)]
  exact Ad1 (.inl ⟨_,_,rfl,T.dB m2 (by omega) l⟩)
 rw[if_neg (λz=>h1 (beq_iff_eq.mp z))];refine Ab1 (zd6 (show ia<a.size by omega) (Ab1 (yf5 (vw5 T.C T.ka T.kb T.ub (by omega) (by omega)) (T.kind l) (by omega) λk hk hlt hge=>?_)));show wpS _ _ _ _ (if k>0 then _ else _) _ _;by_cases hk0:k>0
 ·rw[if_pos hk0]
  have m3:Mg κ a b (out.push b[ib]++b.extract (ib+1) (ib+1+k)).toList ia (ib+1+k):=by
   rw[Bn0,zg3 (by omega),show ib+1+k-(ib+1)=k by omega];exact m2.takeB T.ub k (by omega) λi hi j g1 g2=>KeyOrd.kle_trans (KeyOrd.kle_of_klt (hlt i hi)) (T.ua ia j (Am0 _) g1 g2)
  by_cases h2:ib+1+k=b.size
  ·rw[if_pos (beq_iff_eq.mpr h2)]
   exact Ad1 (.inl ⟨_,_,rfl,T.dB m3 (by omega) l⟩)
  ·rw[if_neg (λz=>h2 (beq_iff_eq.mp z))]
   exact vj0 T m3 i1 (by omega) l (by omega) (hge k (Ad0 _) (by omega))
 ·rw[if_neg hk0]
  have hk00:k=0:=by omega
  subst hk00;exact vj0 T m2 i1 (by omega) l (by omega) (hge 0 (Ad0 _) (by omega))
noncomputable def G1(a b out:Array Keyed)(ia ib mg ca cb:Nat):SM (ForInStep S7):=do
 vd2 mg
 let y <-elem' b ib
 let k <-gal false y a ia (a.size-ia) 0
 match k with
 | some k=>
   if k>0 then
    if (ia+k+1 == a.size)=true then pure (ForInStep.done ((some (ww5 a b (out++a.extract ia (ia+k)) (ia+k) ib),out++a.extract ia (ia+k),ia+k,ib,mg,k,cb):S7))
    else if (ia+k == a.size)=true then pure (ForInStep.done ((some (wt4 a b (out++a.extract ia (ia+k)) (ia+k) ib),out++a.extract ia (ia+k),ia+k,ib,mg,k,cb):S7))
    else G2 a b (out++a.extract ia (ia+k)) (ia+k) ib mg k cb
   else G2 a b out ia ib mg k cb
 | _=>pure (ForInStep.done ((some (wt4 a b out ia ib),out,ia,ib,mg,ca,cb):S7))
def vn8(T:Two prog w A E s κ knd a b st){out:Array Keyed}{ia ib lo mg ca cb:Nat}{st':SortSt}(M:Mid κ a b st out ia ib st' lo):wpS (model prog w) A E s (G1 a b out ia ib mg ca cb) (Gq κ a b st (lo+1)) st':=by
 unfold G1;have i1:=M.ha;have i2:=M.hb;have i3:=M.far;refine Ab1 (yh8 M.like λst2 l=>?_);refine Ab1 (zd6 i2 (Ab1 (yf5 (vw4 T.C T.ka T.kb T.ua (by omega) i2) (T.kind l) (by omega) λk hk hlt hge=>?_)));show wpS _ _ _ _ (if k>0 then _ else _) _ _;have ab:∀j,ia+k<=j->j<a.size->κ.kle (KK κ b ib) (KK κ a j):=λj g1 g2=>by
  have:=hge (j-ia) (by omega) (by omega);rw[show ia+(j-ia)=j by omega] at this;exact KeyOrd.kle_of_klt (show κ.blt (KK κ b ib) (KK κ a j)=true by simpa using this)
 by_cases hk0:k>0
 ·rw[if_pos hk0]
  have m3:Mg κ a b (out++a.extract ia (ia+k)).toList (ia+k) ib:=by
   rw[Bn0,zg3 (by omega),show ia+k-ia=k by omega];refine M.m.takeA T.ua k (by omega) λi hi j g1 g2=>?_
   have:=hlt i hi;exact KeyOrd.kle_trans (show κ.blt (KK κ b ib) (KK κ a (ia+i))=false by simpa using this) (T.ub ib j (Am0 _) g1 g2)
  by_cases h1:ia+k+1=a.size
  ·rw[if_pos (beq_iff_eq.mpr h1)]
   exact Ad1 (.inl ⟨_,_,rfl,T.dL m3 h1 l⟩)
  rw[if_neg (λz=>h1 (beq_iff_eq.mp z))];by_cases h2:ia+k=a.size
  ·rw[if_pos (beq_iff_eq.mpr h2)]
   exact Ad1 (.inl ⟨_,_,rfl,T.dA m3 (by omega) l⟩)
  rw[if_neg (λz=>h2 (beq_iff_eq.mp z))];exact vj1 T m3 (by omega) i2 l (by omega) ab
 ·rw[if_neg hk0]
  have hk00:k=0:=by omega
  subst hk00;exact vj1 T M.m i1 i2 l (by omega) ab
noncomputable def vn2(a b:Array Keyed)(c:S7):SM S7:=forIn [0:a.size+b.size] c λ_ r=>
 if r.2.2.2.2.1>1 then G1 a b r.2.1 r.2.2.1 r.2.2.2.1 (r.2.2.2.2.1-1) r.2.2.2.2.2.1 r.2.2.2.2.2.2 else G1 a b r.2.1 r.2.2.1 r.2.2.2.1 r.2.2.2.2.1 r.2.2.2.2.2.1 r.2.2.2.2.2.2
noncomputable abbrev S5:=Option (Array Keyed)×Array Keyed×Nat×Nat×Nat
noncomputable def vf5(a b:Array Keyed)(r:S5):SM (ForInStep S5):=do
 let c <-vm9 a b r.2.2.2.2 (none,r.2.1,r.2.2.1,r.2.2.2.1,0,0)
 match c.1 with
 | some q=>pure (ForInStep.done (some q,c.2.1,c.2.2.1,c.2.2.2.1,r.2.2.2.2))
 | none=>do
   rule "list.sort.gallop"
   let d <-vn2 a b (none,c.2.1,c.2.2.1,c.2.2.2.1,r.2.2.2.2+1,c.2.2.2.2.1,c.2.2.2.2.2)
   match d.1 with
   | some q=>pure (ForInStep.done (some q,d.2.1,d.2.2.1,d.2.2.2.1,d.2.2.2.2.1))
   | none=>do
     vd2 (d.2.2.2.2.1+1)
     pure (ForInStep.yield (none,d.2.1,d.2.2.1,d.2.2.2.1,d.2.2.2.2.1+1))
noncomputable def vz6(c:S5):SM (Array Keyed):=match c.1 with
 | some q=>pure q
 | none=>unsupported "internal:list.sort.merge-bound"
open H in
def we6(a b:Array Keyed):mlo a b=(do
 rule "list.sort.merge-lo"
 let y <-elem' b 0
 if (1 == b.size)=true then pure (wt4 a b #[y] 0 1)
 else if (0+1 == a.size)=true then pure (ww5 a b #[y] 0 1)
 else do
  let st <-get
  let c <-forIn [0:a.size+b.size] ((none,#[y],0,1,gallopOf st):S5) λ_ r=>vf5 a b r
  vz6 c):=by
 rw[wm4];refine congrArg _ (funext λ_=>congrArg _ (funext λy=>?_));dsimp only;refine congrArg _ (congrArg _ (congrArg _ (funext λst=>?_)));refine congr (congrArg bind (congrArg _ (funext λ_=>funext λr=>?_))) ?_
 ·unfold vf5
  refine congr (congrArg bind ?_) (funext λc=>?_)
  ·unfold vm9;rfl
  ·obtain⟨c1,c2⟩:=c
   cases c1 with
   | some q=>rfl
   | none=>
     dsimp only;refine congrArg _ (funext λ_=>?_);refine congr (congrArg bind ?_) (funext λd=>?_)
     ·unfold vn2
      refine congrArg _ (funext λ_=>funext λr=>?_);unfold G1 G2 G3;by_cases hm:r.2.2.2.2.1>1
      ·first | rewrite [if_pos hm,if_pos hm] | rewrite [if_pos hm]
       refine congrArg _ (funext λ_=>congrArg _ (funext λ_=>congrArg _ (funext λk=>?_)));cases k with
       | none=>rfl
       | some k=>rfl
      ·first | rewrite [if_neg hm,if_neg hm] | rewrite [if_neg hm]
       refine congrArg _ (funext λ_=>congrArg _ (funext λ_=>congrArg _ (funext λk=>?_)));cases k with
       | none=>rfl
       | some k=>rfl
     ·obtain⟨d1,d2⟩:=d
      cases d1<;>rfl
 ·funext c
  obtain⟨c1,c2⟩:=c;cases c1<;>rfl
def wb5(T:Two prog w A E s κ knd a b st){out:Array Keyed}{ia ib lo mg ca cb:Nat}{st':SortSt}(M:Mid κ a b st out ia ib st' lo){Q:S7->SortSt->Prop}(h1:∀q z st3,wz9 κ a b st q st3->Q (some q,z) st3)(h2:∀out ia ib mg ca cb st3,Mid κ a b st out ia ib st3 lo->Q (none,out,ia,ib,mg,ca,cb) st3):wpS (model prog w) A E s (vn2 a b (none,out,ia,ib,mg,ca,cb)) Q st':=by
 unfold vn2;refine Af1 (I:=λy c st3=>∃out ia ib mg ca cb,c=(none,out,ia,ib,mg,ca,cb)/\Mid κ a b st out ia ib st3 (lo+y)) (λy c st3 hy1 hy2 hI=>?_) (λc st3 hI=>?_) ⟨out,ia,ib,mg,ca,cb,rfl,M⟩
 ·obtain⟨out,ia,ib,mg,ca,cb,e,M⟩:=hI
  subst e;have fin:∀(mg:Nat),wpS (model prog w) A E s (G1 a b out ia ib mg ca cb) (λr st4=>match r with | .done c'=>Q c' st4 | .yield c'=>∃out ia ib mg ca cb,c'=(none,out,ia,ib,mg,ca,cb)/\Mid κ a b st out ia ib st4 (lo+(y+1))) st3:=λmg=>Al1 (vn8 T M) λr st4 hq=>by
   cases r with
   | done c'=>
     rcases hq with⟨q,z,e,f⟩ | ⟨out,ia,ib,mg,ca,cb,e,M⟩
     ·subst e;exact h1 q z st4 f
     ·subst e;exact h2 _ _ _ _ _ _ st4 (M.le (by omega))
   | yield c'=>exact hq
  show wpS _ _ _ _ (if mg>1 then G1 a b out ia ib (mg-1) ca cb else G1 a b out ia ib mg ca cb) _ _;by_cases hm:mg>1
  ·rw[if_pos hm];exact Al1 (fin (mg-1)) λr st4 hq=>by cases r<;>exact hq
  ·rw[if_neg hm];exact Al1 (fin mg) λr st4 hq=>by cases r<;>exact hq
 ·obtain⟨out,ia,ib,mg,ca,cb,e,M⟩:=hI
  have:=M.ha;have:=M.hb;have:=M.far;omega
def wi4(T:Two prog w A E s κ knd a b st)(ha:0<a.size)(hb:0<b.size)(hf:κ.kle (KK κ b 0) (KK κ a 0)){Q:Array Keyed->SortSt->Prop}(h:∀r st',wv4 st st'->ww6 κ a b r.toList->Q r st'):wpS (model prog w) A E s (mlo a b) Q st:=by
 rw[we6];refine Ab1 (wpS_lift (Aj1 ⟨rfl,?_⟩));refine Ab1 (zd6 hb ?_);have m0:Mg κ a b [b[0]] 0 1:=by
  have z:Mg κ a b [] 0 0:=⟨by simp,List.Pairwise.nil,λx hx=>absurd hx (by simp),λx hx=>absurd hx (by simp)⟩;exact z.pushB T.ub hb λj _ h2=>KeyOrd.kle_trans hf (T.ua 0 j (Ad0 _) (Am0 _) h2)
 by_cases h1:(1 == b.size)=true
 ·rw[if_pos h1]
  have f:=T.dB (out:=#[b[0]]) m0 (by have:=beq_iff_eq.mp h1;omega) wv4.refl;exact Ad1 (h _ _ f.1 f.2)
 rw[if_neg h1];by_cases h2:(0+1 == a.size)=true
 ·rw[if_pos h2]
  have f:=T.dL (out:=#[b[0]]) m0 (by simpa using h2) wv4.refl;exact Ad1 (h _ _ f.1 f.2)
 rw[if_neg h2];have hb1:1<b.size:=by
  have:¬1=b.size:=by simpa using h1
  omega
 have ha1:1<a.size:=by
  have:¬1=a.size:=by simpa using h2
  omega
 refine Ab1 (wpS_get ?_);refine Ab1 (Al1 (Af1 (I:=λx c st'=>∃out ia ib mg,c=(none,out,ia,ib,mg)/\Mid κ a b st out ia ib st' (1+x)) (Q:=λc st'=>∃r z,c=(some r,z)/\wz9 κ a b st r st') (λx c st' hx1 hx2 hI=>?_) (λc st' hI=>?_) ⟨#[b[0]],0,1,_,rfl,m0,by omega,by omega,wv4.refl,by omega⟩) λc st' hI=>?_)
 ·obtain⟨out,ia,ib,mg,e,M⟩:=hI
  subst e;unfold vf5;refine Ab1 (wb0 T M (λr z st2 f=>?_) λout ia ib ca cb st2 M2=>?_)
  ·exact Ad1 ⟨r,_,rfl,f⟩
  ·refine Ab1 (wpS_lift (Aj1 ⟨rfl,?_⟩))
   refine Ab1 (wb5 T M2 (λq z st3 f=>?_) λout ia ib mg ca cb st3 M3=>?_)
   ·exact Ad1 ⟨q,_,rfl,f⟩
   ·exact Ab1 (yh8 M3.like λst4 l=>Ad1 ⟨out,ia,ib,_,rfl,M3.m,M3.ha,M3.hb,l,M3.far⟩)
 ·obtain⟨out,ia,ib,mg,e,M⟩:=hI
  have:=M.ha;have:=M.hb;have:=M.far;omega
 ·obtain⟨r,z,e,f⟩:=hI
  subst e;exact Ad1 (h _ _ f.1 f.2)
end
noncomputable def mhi:Array Keyed->Array Keyed->SM (Array Keyed):=sortPriv% PySem.Builtin.mergeHi
noncomputable abbrev wt3(a b out:Array Keyed)(na nb:Nat):Array Keyed:=a.extract 0 na++b.extract 0 nb++out.reverse
noncomputable abbrev vc4(a b out:Array Keyed)(na nb:Nat):Array Keyed:=b.extract 0 nb++a.extract 0 na++out.reverse
def wm5(a b:Array Keyed):mhi a b=(do
 rule "list.sort.merge-hi"
 let mut na:=a.size-1
 let mut nb:=b.size
 let mut out:Array Keyed:=#[<-elem' a na]
 if na == 0 then return wt3 a b out na nb
 if nb == 1 then return vc4 a b out na nb
 let mut mg:=gallopOf (<-get)
 for _ in [0:a.size+b.size] do
  let mut ca:=0
  let mut cb:=0
  for _ in [0:a.size+b.size] do
   let some y <-lt' (<-elem' b (nb-1)) (<-elem' a (na-1)) | return wt3 a b out na nb
   if y then
    na:=na-1
    out:=out.push (<-elem' a na)
    ca:=ca+1
    cb:=0
    if na == 0 then return wt3 a b out na nb
    if ca>=mg then break
   else
    nb:=nb-1
    out:=out.push (<-elem' b nb)
    cb:=cb+1
    ca:=0
    if nb == 1 then return vc4 a b out na nb
    if cb>=mg then break
  rule "list.sort.gallop"
  mg:=mg+1
  for _ in [0:a.size+b.size] do
   if mg>1 then mg:=mg-1
   vd2 mg
   let some p <-gal false (<-elem' b (nb-1)) a 0 na (na-1) | return wt3 a b out na nb
   ca:=na-p
   if na-p>0 then
    out:=out++(a.extract p na).reverse
    na:=p
    if na == 0 then return wt3 a b out na nb
   nb:=nb-1
   out:=out.push (<-elem' b nb)
   if nb == 1 then return vc4 a b out na nb
   let some p <-gal true (<-elem' a (na-1)) b 0 nb (nb-1) | return wt3 a b out na nb
   cb:=nb-p
   if nb-p>0 then
    out:=out++(b.extract p nb).reverse
    nb:=p
    if nb == 1 then return vc4 a b out na nb
    if nb == 0 then return wt3 a b out na nb
   na:=na-1
   out:=out.push (<-elem' a na)
   if na == 0 then return wt3 a b out na nb
   if ca<7&&cb<7 then break
  mg:=mg+1
  vd2 mg
 unsupported "internal:list.sort.merge-bound"):=rfl
section
variable{κ:KeyKind}{a b:Array Keyed}{t:List Keyed}{na nb:Nat}
structure Mh(κ:KeyKind)(a b:Array Keyed)(t:List Keyed)(na nb:Nat):Prop where
 perm:((a.toList.take na++b.toList.take nb)++t).Perm (a.toList++b.toList)
 up:t.Pairwise (le κ)
 la:∀x∈t,∀i,i<na->κ.kle (KK κ a i) (ky κ x)
 lb:∀x∈t,∀i,i<nb->κ.kle (KK κ b i) (ky κ x)
def yb4{xs:Array Keyed}{i:Nat}(h:i<xs.size):xs.toList.take (i+1)=xs.toList.take i++[xs[i]]:=by
 rw[Bk0];simp[Ak0 h]
def Mh.pushA(m:Mh κ a b t (na+1) nb)(ua:Up κ a 0 a.size)(hi:na<a.size)(h:∀j,j<nb->κ.kle (KK κ b j) (KK κ a na)):Mh κ a b (a[na]::t) na nb:=by
 refine⟨?_,Cg0.mpr ⟨λz hz=>?_,m.up⟩,λx hx i h1=>?_,λx hx i h1=>?_⟩
 ·have:=m.perm
  rw[yb4 hi] at this;refine List.Perm.trans ?_ this;rw[Av0,Av0,Av0];exact List.Perm.append_left _ (List.perm_middle (l₁:=b.toList.take nb))
 ·have:=m.la z hz na (by omega)
  rwa [ws6 hi] at this
 ·rcases Aj0.mp hx with hx | hx
  ·rw[hx,<-ws6 hi]
   exact ua i na (Am0 _) (by omega) hi
  ·exact m.la x hx i (by omega)
 ·rcases Aj0.mp hx with hx | hx
  ·rw[hx,<-ws6 hi]
   exact h i h1
  ·exact m.lb x hx i h1
def Mh.pushB(m:Mh κ a b t na (nb+1))(ub:Up κ b 0 b.size)(hi:nb<b.size)(h:∀j,j<na->κ.kle (KK κ a j) (KK κ b nb)):Mh κ a b (b[nb]::t) na nb:=by
 refine⟨?_,Cg0.mpr ⟨λz hz=>?_,m.up⟩,λx hx i h1=>?_,λx hx i h1=>?_⟩
 ·have:=m.perm
  rw[yb4 hi] at this;simpa [Av0] using this
 ·have:=m.lb z hz nb (by omega)
  rwa [ws6 hi] at this
 ·rcases Aj0.mp hx with hx | hx
  ·rw[hx,<-ws6 hi]
   exact h i h1
  ·exact m.la x hx i h1
 ·rcases Aj0.mp hx with hx | hx
  ·rw[hx,<-ws6 hi]
   exact ub i nb (Am0 _) (by omega) hi
  ·exact m.lb x hx i (by omega)
def xi6{xs:Array Keyed}{i k:Nat}(h:i<xs.size):(xs.toList.drop i).take (k+1)=xs[i]::(xs.toList.drop (i+1)).take k:=by
 rw[yk6 h,List.take_succ_cons]
theorem Mh.takeA(ua:Up κ a 0 a.size):∀(k p:Nat) (t:List Keyed),Mh κ a b t (p+k) nb->p+k<=a.size->(∀i,p<=i->i<p+k->∀j,j<nb->κ.kle (KK κ b j) (KK κ a i))->Mh κ a b ((a.toList.drop p).take k++t) p nb
 | 0,p,t,m,_,_=>by simpa using m
 | k+1,p,t,m,hk,h=>by
   have ih:=Mh.takeA ua k (p+1) t (by rw[show p+1+k=p+(k+1) by omega];exact m) (by omega) λi h1 h2=>h i (by omega) (by omega)
   have:=ih.pushA ua (by omega) (h p (Ad0 _) (by omega));rw[xi6 (by omega)];exact this
theorem Mh.takeB(ub:Up κ b 0 b.size):∀(k p:Nat) (t:List Keyed),Mh κ a b t na (p+k)->p+k<=b.size->(∀i,p<=i->i<p+k->∀j,j<na->κ.kle (KK κ a j) (KK κ b i))->Mh κ a b ((b.toList.drop p).take k++t) na p
 | 0,p,t,m,_,_=>by simpa using m
 | k+1,p,t,m,hk,h=>by
   have ih:=Mh.takeB ub k (p+1) t (by rw[show p+1+k=p+(k+1) by omega];exact m) (by omega) λi h1 h2=>h i (by omega) (by omega)
   have:=ih.pushB ub (by omega) (h p (Ad0 _) (by omega));rw[xi6 (by omega)];exact this
def yr3{xs:Array Keyed}{i:Nat}(u:Up κ xs 0 xs.size):(xs.toList.take i).Pairwise (le κ):=(yi2 (i:=0) u).sublist (List.take_sublist _ _)
def zv5{xs:Array Keyed}{i:Nat}{x:Keyed}(h:x∈xs.toList.take i):∃j,j<i/\j<xs.size/\ky κ x=KK κ xs j:=by
 obtain⟨j,hj,e⟩:=Bg0 h;rw[Bd0,Ah0] at hj;refine⟨j,by omega,by omega,?_⟩;rw[ws6 (by omega),<-e];simp[List.getElem_take]
def Mh.doneB(m:Mh κ a b t na 0)(ua:Up κ a 0 a.size):ww6 κ a b (a.toList.take na++b.toList.take 0++t):=by
 refine⟨m.perm,?_⟩;rw[List.take_zero,Bq0];refine Bl0.mpr ⟨yr3 ua,m.up,λx hx y hy=>?_⟩;obtain⟨j,h1,h2,e⟩:=zv5 (κ:=κ) hx;show κ.kle (ky κ x) (ky κ y);rw[e];exact m.la y hy j h1
def Mh.doneA(m:Mh κ a b t 0 nb)(ub:Up κ b 0 b.size):ww6 κ a b (a.toList.take 0++b.toList.take nb++t):=by
 refine⟨m.perm,?_⟩;rw[List.take_zero,List.nil_append];refine Bl0.mpr ⟨yr3 ub,m.up,λx hx y hy=>?_⟩;obtain⟨j,h1,h2,e⟩:=zv5 (κ:=κ) hx;show κ.kle (ky κ x) (ky κ y);rw[e];exact m.lb y hy j h1
def Mh.first(m:Mh κ a b t na 1)(ua:Up κ a 0 a.size)(hb:0<b.size)(hf:∀j,j<a.size->κ.kle (KK κ b 0) (KK κ a j)):ww6 κ a b (b.toList.take 1++a.toList.take na++t):=by
 have e:b.toList.take 1=[b[0]]:=by rw[yb4 hb];simp
 refine⟨?_,?_⟩
 ·refine List.Perm.trans (List.Perm.append_right _ List.perm_append_comm) m.perm
 ·rw[e,Av0,List.singleton_append]
  refine Cg0.mpr ⟨λy hy=>?_,Bl0.mpr ⟨yr3 ua,m.up,λx hx y hy=>?_⟩⟩
  ·show κ.kle (ky κ b[0]) (ky κ y)
   rw[<-ws6 hb];rcases Ap0.mp hy with hy | hy
   ·obtain⟨j,h1,h2,e⟩:=zv5 (κ:=κ) hy
    rw[e];exact hf j h2
   ·exact m.lb y hy 0 (by omega)
  ·obtain⟨j,h1,h2,e⟩:=zv5 (κ:=κ) hx
   show κ.kle (ky κ x) (ky κ y);rw[e];exact m.la y hy j h1
end
section
variable{prog:Program}{w:World}{A:Around}{E:Value->Shared->Prop}{s:Shared}{κ:KeyKind}{knd:SortKind}{st:SortSt}{a b:Array Keyed}
structure Hid(κ:KeyKind)(a b:Array Keyed)(st:SortSt)(na nb:Nat)(out:Array Keyed)(st':SortSt)(lo:Nat):Prop where
 m:Mh κ a b out.toList.reverse na nb
 ha:0<na
 hb:1<nb
 la:na<=a.size
 lb:nb<=b.size
 like:wv4 st st'
 far:na+nb+lo<=a.size+b.size
def Hid.le{st:SortSt}{out:Array Keyed}{na nb lo lo2:Nat}{st':SortSt}(M:Hid κ a b st na nb out st' lo)(h:lo2<=lo):Hid κ a b st na nb out st' lo2:=⟨M.m,M.ha,M.hb,M.la,M.lb,M.like,by have:=M.far;omega⟩
def yh0(out:Array Keyed){na nb:Nat}(ha:na<=a.size)(hb:nb<=b.size):(wt3 a b out na nb).toList=a.toList.take na++b.toList.take nb++out.toList.reverse:=by
 unfold wt3;rw[Bn0,Bn0,zg3 ha,zg3 hb,Array.toList_reverse];simp
def xm4(out:Array Keyed){na nb:Nat}(ha:na<=a.size)(hb:nb<=b.size):(vc4 a b out na nb).toList=b.toList.take nb++a.toList.take na++out.toList.reverse:=by
 unfold vc4;rw[Bn0,Bn0,zg3 ha,zg3 hb,Array.toList_reverse];simp
structure Tw(prog:Program)(w:World)(A:Around)(E:Value->Shared->Prop)(s:Shared)(κ:KeyKind)(knd:SortKind)(a b:Array Keyed)(st:SortSt):Prop extends Two prog w A E s κ knd a b st where
 hf:∀j,j<a.size->κ.kle (KK κ b 0) (KK κ a j)
section
variable{out:Array Keyed}{na nb lo:Nat}{st':SortSt}(T:Tw prog w A E s κ knd a b st)
include T
def Tw.dB(m:Mh κ a b out.toList.reverse na nb)(ha:na<=a.size)(h:nb=0)(l:wv4 st st'):wz9 κ a b st (wt3 a b out na nb) st':=⟨l,by subst h;rw[yh0 _ ha (Am0 _)];exact m.doneB T.ua⟩
def Tw.dA(m:Mh κ a b out.toList.reverse na nb)(hb:nb<=b.size)(h:na=0)(l:wv4 st st'):wz9 κ a b st (wt3 a b out na nb) st':=⟨l,by subst h;rw[yh0 _ (Am0 _) hb];exact m.doneA T.ub⟩
def Tw.dF(m:Mh κ a b out.toList.reverse na nb)(ha:na<=a.size)(hb:nb<=b.size)(h:nb=1)(l:wv4 st st'):wz9 κ a b st (vc4 a b out na nb) st':=⟨l,by subst h;rw[xm4 _ ha hb];exact m.first T.ua hb T.hf⟩
end
def yv4(out:Array Keyed)(x:Keyed):(out.push x).toList.reverse=x::out.toList.reverse:=by simp
def xg1(out:Array Keyed){xs:Array Keyed}{p q:Nat}(h:q<=xs.size):(out++(xs.extract p q).reverse).toList.reverse=(xs.toList.drop p).take (q-p)++out.toList.reverse:=by
 rw[Bn0,Array.toList_reverse,zg3 h,List.reverse_append,List.reverse_reverse]
section
variable{out:Array Keyed}{na nb lo:Nat}{st':SortSt}(T:Tw prog w A E s κ knd a b st)
include T
def Tw.putA(m:Mh κ a b out.toList.reverse na nb)(h0:0<na)(ha:na<=a.size)(h:∀j,j<nb->κ.kle (KK κ b j) (KK κ a (na-1))):Mh κ a b (out.push (a[na-1]'(by omega))).toList.reverse (na-1) nb:=by
 obtain⟨n,rfl⟩:∃n,na=n+1:=⟨na-1,by omega⟩;rw[yv4];exact m.pushA T.ua (show n<a.size by omega) h
def Tw.putB(m:Mh κ a b out.toList.reverse na nb)(h0:0<nb)(hb:nb<=b.size)(h:∀j,j<na->κ.kle (KK κ a j) (KK κ b (nb-1))):Mh κ a b (out.push (b[nb-1]'(by omega))).toList.reverse na (nb-1):=by
 obtain⟨n,rfl⟩:∃n,nb=n+1:=⟨nb-1,by omega⟩;rw[yv4];exact m.pushB T.ub (show n<b.size by omega) h
def Tw.manyA(m:Mh κ a b out.toList.reverse na nb){p:Nat}(hp:p<=na)(ha:na<=a.size)(h:∀i,p<=i->i<na->∀j,j<nb->κ.kle (KK κ b j) (KK κ a i)):Mh κ a b (out++(a.extract p na).reverse).toList.reverse p nb:=by
 rw[xg1 out ha];exact Mh.takeA T.ua (na-p) p _ (by rw[show p+(na-p)=na by omega];exact m) (by omega) λi h1 h2=>h i h1 (by omega)
def Tw.manyB(m:Mh κ a b out.toList.reverse na nb){p:Nat}(hp:p<=nb)(hb:nb<=b.size)(h:∀i,p<=i->i<nb->∀j,j<na->κ.kle (KK κ a j) (KK κ b i)):Mh κ a b (out++(b.extract p nb).reverse).toList.reverse na p:=by
 rw[xg1 out hb];exact Mh.takeB T.ub (nb-p) p _ (by rw[show p+(nb-p)=nb by omega];exact m) (by omega) λi h1 h2=>h i h1 (by omega)
end
noncomputable abbrev H6:=Option (Array Keyed)×Nat×Nat×Array Keyed×Nat×Nat
noncomputable abbrev H7:=Option (Array Keyed)×Nat×Nat×Array Keyed×Nat×Nat×Nat
noncomputable def ve5(a b:Array Keyed)(mg:Nat)(c:H6):SM H6:=forIn [0:a.size+b.size] c λ_ r=>do
 let y <-elem' b (r.2.2.1-1)
 let x <-elem' a (r.2.1-1)
 let z <-lt' y x
 match z with
 | some t=>
   if t=true then do
    let x <-elem' a (r.2.1-1)
    if (r.2.1-1 == 0)=true then pure (ForInStep.done (some (wt3 a b (r.2.2.2.1.push x) (r.2.1-1) r.2.2.1),r.2.1-1,r.2.2.1,r.2.2.2.1.push x,r.2.2.2.2.1+1,0))
    else if r.2.2.2.2.1+1>=mg then pure (ForInStep.done (none,r.2.1-1,r.2.2.1,r.2.2.2.1.push x,r.2.2.2.2.1+1,0)) else pure (ForInStep.yield (none,r.2.1-1,r.2.2.1,r.2.2.2.1.push x,r.2.2.2.2.1+1,0))
   else do
    let y <-elem' b (r.2.2.1-1)
    if (r.2.2.1-1 == 1)=true then pure (ForInStep.done (some (vc4 a b (r.2.2.2.1.push y) r.2.1 (r.2.2.1-1)),r.2.1,r.2.2.1-1,r.2.2.2.1.push y,0,r.2.2.2.2.2+1))
    else if r.2.2.2.2.2+1>=mg then pure (ForInStep.done (none,r.2.1,r.2.2.1-1,r.2.2.2.1.push y,0,r.2.2.2.2.2+1)) else pure (ForInStep.yield (none,r.2.1,r.2.2.1-1,r.2.2.2.1.push y,0,r.2.2.2.2.2+1))
 | _=>pure (ForInStep.done (some (wt3 a b r.2.2.2.1 r.2.1 r.2.2.1),r.2.1,r.2.2.1,r.2.2.2.1,r.2.2.2.2.1,r.2.2.2.2.2))
def xq9(T:Tw prog w A E s κ knd a b st){out:Array Keyed}{na nb lo mg ca cb:Nat}{st':SortSt}(M:Hid κ a b st na nb out st' lo){Q:H6->SortSt->Prop}(hr:∀r z st2,wz9 κ a b st r st2->Q (some r,z) st2)(hn:∀out na nb ca cb st2,Hid κ a b st na nb out st2 (lo+1)->Q (none,na,nb,out,ca,cb) st2) :
 wpS (model prog w) A E s (ve5 a b mg (none,na,nb,out,ca,cb)) Q st':=by
 unfold ve5;refine Af1 (I:=λy c st2=>∃out na nb ca cb,c=(none,na,nb,out,ca,cb)/\Hid κ a b st na nb out st2 (lo+y)) (λy c st2 hy1 hy2 hI=>?_) (λc st2 hI=>?_) ⟨out,na,nb,ca,cb,rfl,M⟩
 ·obtain⟨out,na,nb,ca,cb,e,M⟩:=hI
  subst e;have i1:=M.ha;have i2:=M.hb;have i3:=M.far;have i4:=M.la;have i5:=M.lb;refine Ab1 (zd6 (show nb-1<b.size by omega) (Ab1 (zd6 (show na-1<a.size by omega) (Ab1 (yf4 T.C (T.kind M.like) T.kb T.ka (by omega) (by omega) ?_)))));show wpS _ _ _ _ (if κ.blt (KK κ b (nb-1)) (KK κ a (na-1))=true then _ else _) _ _;cases hb:κ.blt (KK κ b (nb-1)) (KK κ a (na-1))
  ·rw[if_neg At0]
   refine Ab1 (zd6 (show nb-1<b.size by omega) ?_);have m2:=T.putB M.m (by omega) i5 λj g1=>KeyOrd.kle_trans (T.ua j (na-1) (Am0 _) (by omega) (by omega)) hb
   show wpS _ _ _ _ (if (nb-1 == 1)=true then _ else _) _ _;by_cases h1:nb-1=1
   ·rw[if_pos (beq_iff_eq.mpr h1)]
    exact Ad1 (hr _ _ _ (T.dF m2 i4 (show nb-1<=b.size by omega) h1 M.like))
   ·rw[if_neg (λz=>h1 (beq_iff_eq.mp z))]
    show wpS _ _ _ _ (if cb+1>=mg then _ else _) _ _;have M2:Hid κ a b st na (nb-1) (out.push b[nb-1]) st2 (lo+(y+1)):=⟨m2,i1,by omega,i4,by omega,M.like,by omega⟩;by_cases h2:cb+1>=mg
    ·rw[if_pos h2]
     exact Ad1 (hn _ _ _ _ _ _ (M2.le (by omega)))
    ·rw[if_neg h2]
     exact Ad1 ⟨_,_,_,_,_,rfl,M2⟩
  ·rw[if_pos rfl]
   refine Ab1 (zd6 (show na-1<a.size by omega) ?_);have m2:=T.putA M.m i1 i4 λj g1=>KeyOrd.kle_trans (T.ub j (nb-1) (Am0 _) (by omega) (by omega)) (KeyOrd.kle_of_klt hb)
   show wpS _ _ _ _ (if (na-1 == 0)=true then _ else _) _ _;by_cases h1:na-1=0
   ·rw[if_pos (beq_iff_eq.mpr h1)]
    exact Ad1 (hr _ _ _ (T.dA m2 i5 h1 M.like))
   ·rw[if_neg (λz=>h1 (beq_iff_eq.mp z))]
    show wpS _ _ _ _ (if ca+1>=mg then _ else _) _ _;have M2:Hid κ a b st (na-1) nb (out.push a[na-1]) st2 (lo+(y+1)):=⟨m2,by omega,i2,by omega,i5,M.like,by omega⟩;by_cases h2:ca+1>=mg
    ·rw[if_pos h2]
     exact Ad1 (hn _ _ _ _ _ _ (M2.le (by omega)))
    ·rw[if_neg h2]
     exact Ad1 ⟨_,_,_,_,_,rfl,M2⟩
 ·obtain⟨out,na,nb,ca,cb,e,M⟩:=hI
  have:=M.ha;have:=M.hb;have:=M.far;omega
noncomputable def Hq(κ:KeyKind)(a b:Array Keyed)(st:SortSt)(lo:Nat)(r:ForInStep H7)(st':SortSt):Prop:=
 match r with
 | .done c=>(∃q z,c=(some q,z)/\wz9 κ a b st q st')\/∃na nb out mg ca cb,c=(none,na,nb,out,mg,ca,cb)/\Hid κ a b st na nb out st' lo
 | .yield c=>∃na nb out mg ca cb,c=(none,na,nb,out,mg,ca,cb)/\Hid κ a b st na nb out st' lo
noncomputable def H3(a b:Array Keyed)(na nb:Nat)(out:Array Keyed)(mg ca cb:Nat):SM (ForInStep H7):=do
 let x <-elem' a (na-1)
 if (na-1 == 0)=true then pure (ForInStep.done ((some (wt3 a b (out.push x) (na-1) nb),na-1,nb,out.push x,mg,ca,cb):H7))
 else if (decide (ca<7)&&decide (cb<7))=true then pure (ForInStep.done ((none,na-1,nb,out.push x,mg,ca,cb):H7)) else pure (ForInStep.yield ((none,na-1,nb,out.push x,mg,ca,cb):H7))
def vi8(T:Tw prog w A E s κ knd a b st){out:Array Keyed}{na nb lo mg ca cb:Nat}{st':SortSt}(m:Mh κ a b out.toList.reverse na nb)(i1:0<na)(i2:1<nb)(i4:na<=a.size)(i5:nb<=b.size)(l:wv4 st st')(hlo:na+nb+lo<=a.size+b.size+1)(hb:∀j,j<nb->κ.kle (KK κ b j) (KK κ a (na-1))) :
 wpS (model prog w) A E s (H3 a b na nb out mg ca cb) (Hq κ a b st lo) st':=by
 unfold H3;refine Ab1 (zd6 (show na-1<a.size by omega) ?_);have m2:=T.putA m i1 i4 hb;by_cases h1:na-1=0
 ·rw[if_pos (beq_iff_eq.mpr h1)]
  exact Ad1 (.inl ⟨_,_,rfl,T.dA m2 i5 h1 l⟩)
 ·rw[if_neg (λz=>h1 (beq_iff_eq.mp z))]
  have M2:Hid κ a b st (na-1) nb (out.push a[na-1]) st' lo:=⟨m2,by omega,i2,by omega,i5,l,by omega⟩;split
  ·exact Ad1 (.inr ⟨_,_,_,_,_,_,rfl,M2⟩)
  ·exact Ad1 ⟨_,_,_,_,_,_,rfl,M2⟩
noncomputable def H2(a b:Array Keyed)(na nb:Nat)(out:Array Keyed)(mg ca cb:Nat):SM (ForInStep H7):=do
 let y <-elem' b (nb-1)
 if (nb-1 == 1)=true then pure (ForInStep.done ((some (vc4 a b (out.push y) na (nb-1)),na,nb-1,out.push y,mg,ca,cb):H7))
 else do
  let x <-elem' a (na-1)
  let p <-gal true x b 0 (nb-1) (nb-1-1)
  match p with
  | some p=>
    if nb-1-p>0 then
     if (p == 1)=true then pure (ForInStep.done ((some (vc4 a b (out.push y++(b.extract p (nb-1)).reverse) na p),na,p,out.push y++(b.extract p (nb-1)).reverse,mg,ca,nb-1-p):H7))
     else if (p == 0)=true then pure (ForInStep.done ((some (wt3 a b (out.push y++(b.extract p (nb-1)).reverse) na p),na,p,out.push y++(b.extract p (nb-1)).reverse,mg,ca,nb-1-p):H7))
     else H3 a b na p (out.push y++(b.extract p (nb-1)).reverse) mg ca (nb-1-p)
    else H3 a b na (nb-1) (out.push y) mg ca (nb-1-p)
  | _=>pure (ForInStep.done ((some (wt3 a b (out.push y) na (nb-1)),na,nb-1,out.push y,mg,ca,cb):H7))
def vi9(T:Tw prog w A E s κ knd a b st){out:Array Keyed}{na nb lo mg ca cb:Nat}{st':SortSt}(m:Mh κ a b out.toList.reverse na nb)(i1:0<na)(i2:1<nb)(i4:na<=a.size)(i5:nb<=b.size)(l:wv4 st st')(hlo:na+nb+lo<=a.size+b.size+1)(hb:∀j,j<na->κ.kle (KK κ a j) (KK κ b (nb-1))) :
 wpS (model prog w) A E s (H2 a b na nb out mg ca cb) (Hq κ a b st lo) st':=by
 unfold H2;refine Ab1 (zd6 (show nb-1<b.size by omega) ?_);have m2:=T.putB m (by omega) i5 hb;by_cases h1:nb-1=1
 ·rw[if_pos (beq_iff_eq.mpr h1)]
  exact Ad1 (.inl ⟨_,_,rfl,T.dF m2 i4 (by omega) h1 l⟩)
 rw[if_neg (λz=>h1 (beq_iff_eq.mp z))];refine Ab1 (zd6 (show na-1<a.size by omega) (Ab1 (yf5 (vw5 T.C T.ka T.kb T.ub (by omega) (by omega)) (T.kind l) (by omega) λp hp hlt hge=>?_)));show wpS _ _ _ _ (if nb-1-p>0 then _ else _) _ _;simp only[Al0] at hlt hge;have bel:∀j,j<p->κ.kle (KK κ b j) (KK κ a (na-1)):=λj hj=>KeyOrd.kle_of_klt (hlt j hj)
 by_cases hk0:nb-1-p>0
 ·rw[if_pos hk0]
  have m3:=T.manyB m2 hp (by omega) λi h1 h2 j h3=>KeyOrd.kle_trans (T.ua j (na-1) (Am0 _) (by omega) (by omega)) (hge i h1 (by omega))
  by_cases h2:p=1
  ·rw[if_pos (beq_iff_eq.mpr h2)]
   exact Ad1 (.inl ⟨_,_,rfl,T.dF m3 i4 (by omega) h2 l⟩)
  rw[if_neg (λz=>h2 (beq_iff_eq.mp z))];by_cases h3:p=0
  ·rw[if_pos (beq_iff_eq.mpr h3)]
   exact Ad1 (.inl ⟨_,_,rfl,T.dB m3 i4 h3 l⟩)
  rw[if_neg (λz=>h3 (beq_iff_eq.mp z))];exact vi8 T m3 i1 (by omega) i4 (by omega) l (by omega) bel
 ·rw[if_neg hk0]
  exact vi8 T m2 i1 (by omega) i4 (by omega) l (by omega) (λj hj=>bel j (by omega))
noncomputable def H1(a b:Array Keyed)(na nb:Nat)(out:Array Keyed)(mg ca cb:Nat):SM (ForInStep H7):=do
 vd2 mg
 let y <-elem' b (nb-1)
 let p <-gal false y a 0 na (na-1)
 match p with
 | some p=>
   if na-p>0 then
    if (p == 0)=true then pure (ForInStep.done ((some (wt3 a b (out++(a.extract p na).reverse) p nb),p,nb,out++(a.extract p na).reverse,mg,na-p,cb):H7))
    else H2 a b p nb (out++(a.extract p na).reverse) mg (na-p) cb
   else H2 a b na nb out mg (na-p) cb
 | _=>pure (ForInStep.done ((some (wt3 a b out na nb),na,nb,out,mg,ca,cb):H7))
def vn7(T:Tw prog w A E s κ knd a b st){out:Array Keyed}{na nb lo mg ca cb:Nat}{st':SortSt}(M:Hid κ a b st na nb out st' lo):wpS (model prog w) A E s (H1 a b na nb out mg ca cb) (Hq κ a b st (lo+1)) st':=by
 unfold H1;have i1:=M.ha;have i2:=M.hb;have i3:=M.far;have i4:=M.la;have i5:=M.lb;refine Ab1 (yh8 M.like λst2 l=>?_);refine Ab1 (zd6 (show nb-1<b.size by omega) (Ab1 (yf5 (vw4 T.C T.ka T.kb T.ua (by omega) (by omega)) (T.kind l) (by omega) λp hp hlt hge=>?_)));show wpS _ _ _ _ (if na-p>0 then _ else _) _ _;simp only[Al0] at hlt hge;have ab:∀j,j<p->κ.kle (KK κ a j) (KK κ b (nb-1)):=λj g1=>by
  have:=hlt j g1;exact(show κ.blt (KK κ b (nb-1)) (KK κ a j)=false by simpa using this)
 by_cases hk0:na-p>0
 ·rw[if_pos hk0]
  have m3:=T.manyA M.m hp i4 λi h1 h2 j h3=>by
   have:=hge i h1 h2;exact KeyOrd.kle_trans (T.ub j (nb-1) (Am0 _) (by omega) (by omega)) (KeyOrd.kle_of_klt (show κ.blt (KK κ b (nb-1)) (KK κ a i)=true by simpa using this))
  by_cases h1:p=0
  ·rw[if_pos (beq_iff_eq.mpr h1)]
   exact Ad1 (.inl ⟨_,_,rfl,T.dA m3 i5 h1 l⟩)
  rw[if_neg (λz=>h1 (beq_iff_eq.mp z))];exact vi9 T m3 (by omega) i2 (by omega) i5 l (by omega) ab
 ·rw[if_neg hk0]
  exact vi9 T M.m i1 i2 i4 i5 l (by omega) (λj hj=>ab j (by omega))
noncomputable def vn1(a b:Array Keyed)(c:H7):SM H7:=forIn [0:a.size+b.size] c λ_ r=>
 if r.2.2.2.2.1>1 then H1 a b r.2.1 r.2.2.1 r.2.2.2.1 (r.2.2.2.2.1-1) r.2.2.2.2.2.1 r.2.2.2.2.2.2 else H1 a b r.2.1 r.2.2.1 r.2.2.2.1 r.2.2.2.2.1 r.2.2.2.2.2.1 r.2.2.2.2.2.2
noncomputable abbrev H5:=Option (Array Keyed)×Nat×Nat×Array Keyed×Nat
noncomputable def vf6(a b:Array Keyed)(r:H5):SM (ForInStep H5):=do
 let c <-ve5 a b r.2.2.2.2 (none,r.2.1,r.2.2.1,r.2.2.2.1,0,0)
 match c.1 with
 | some q=>pure (ForInStep.done (some q,c.2.1,c.2.2.1,c.2.2.2.1,r.2.2.2.2))
 | none=>do
   rule "list.sort.gallop"
   let d <-vn1 a b (none,c.2.1,c.2.2.1,c.2.2.2.1,r.2.2.2.2+1,c.2.2.2.2.1,c.2.2.2.2.2)
   match d.1 with
   | some q=>pure (ForInStep.done (some q,d.2.1,d.2.2.1,d.2.2.2.1,d.2.2.2.2.1))
   | none=>do
     vd2 (d.2.2.2.2.1+1)
     pure (ForInStep.yield (none,d.2.1,d.2.2.1,d.2.2.2.1,d.2.2.2.2.1+1))
noncomputable def vz7(c:H5):SM (Array Keyed):=match c.1 with
 | some q=>pure q
 | none=>unsupported "internal:list.sort.merge-bound"
open H in
def we7(a b:Array Keyed):mhi a b=(do
 rule "list.sort.merge-hi"
 let x <-elem' a (a.size-1)
 if (a.size-1 == 0)=true then pure (wt3 a b #[x] (a.size-1) b.size)
 else if (b.size == 1)=true then pure (vc4 a b #[x] (a.size-1) b.size)
 else do
  let st <-get
  let c <-forIn [0:a.size+b.size] ((none,a.size-1,b.size,#[x],gallopOf st):H5) λ_ r=>vf6 a b r
  vz7 c):=by
 rw[wm5];refine congrArg _ (funext λ_=>?_);dsimp only;refine congrArg _ (funext λy=>?_);refine congrArg _ (congrArg _ (congrArg _ (funext λst=>?_)));refine congr (congrArg bind (congrArg _ (funext λ_=>funext λr=>?_))) ?_
 ·unfold vf6
  refine congr (congrArg bind ?_) (funext λc=>?_)
  ·unfold ve5;rfl
  ·obtain⟨c1,c2⟩:=c
   cases c1 with
   | some q=>rfl
   | none=>
     dsimp only;refine congrArg _ (funext λ_=>?_);refine congr (congrArg bind ?_) (funext λd=>?_)
     ·unfold vn1
      refine congrArg _ (funext λ_=>funext λr=>?_);unfold H1 H2 H3;by_cases hm:r.2.2.2.2.1>1
      ·first | rewrite [if_pos hm,if_pos hm] | rewrite [if_pos hm]
       refine congrArg _ (funext λ_=>congrArg _ (funext λ_=>congrArg _ (funext λk=>?_)));cases k with
       | none=>rfl
       | some k=>rfl
      ·first | rewrite [if_neg hm,if_neg hm] | rewrite [if_neg hm]
       refine congrArg _ (funext λ_=>congrArg _ (funext λ_=>congrArg _ (funext λk=>?_)));cases k with
       | none=>rfl
       | some k=>rfl
     ·obtain⟨d1,d2⟩:=d
      cases d1<;>rfl
 ·funext c
  obtain⟨c1,c2⟩:=c;cases c1<;>rfl
def wb2(T:Tw prog w A E s κ knd a b st){out:Array Keyed}{na nb lo mg ca cb:Nat}{st':SortSt}(M:Hid κ a b st na nb out st' lo){Q:H7->SortSt->Prop}(h1:∀q z st3,wz9 κ a b st q st3->Q (some q,z) st3)(h2:∀na nb out mg ca cb st3,Hid κ a b st na nb out st3 lo->Q (none,na,nb,out,mg,ca,cb) st3):wpS (model prog w) A E s (vn1 a b (none,na,nb,out,mg,ca,cb)) Q st':=by
 unfold vn1;refine Af1 (I:=λy c st3=>∃na nb out mg ca cb,c=(none,na,nb,out,mg,ca,cb)/\Hid κ a b st na nb out st3 (lo+y)) (λy c st3 hy1 hy2 hI=>?_) (λc st3 hI=>?_) ⟨na,nb,out,mg,ca,cb,rfl,M⟩
 ·obtain⟨na,nb,out,mg,ca,cb,e,M⟩:=hI
  subst e;have fin:∀(mg:Nat),wpS (model prog w) A E s (H1 a b na nb out mg ca cb) (λr st4=>match r with | .done c'=>Q c' st4 | .yield c'=>∃na nb out mg ca cb,c'=(none,na,nb,out,mg,ca,cb)/\Hid κ a b st na nb out st4 (lo+(y+1))) st3:=λmg=>Al1 (vn7 T M) λr st4 hq=>by
   cases r with
   | done c'=>
     rcases hq with⟨q,z,e,f⟩ | ⟨na,nb,out,mg,ca,cb,e,M⟩
     ·subst e;exact h1 q z st4 f
     ·subst e;exact h2 _ _ _ _ _ _ st4 (M.le (by omega))
   | yield c'=>exact hq
  show wpS _ _ _ _ (if mg>1 then H1 a b na nb out (mg-1) ca cb else H1 a b na nb out mg ca cb) _ _;by_cases hm:mg>1
  ·rw[if_pos hm];exact Al1 (fin (mg-1)) λr st4 hq=>by cases r<;>exact hq
  ·rw[if_neg hm];exact Al1 (fin mg) λr st4 hq=>by cases r<;>exact hq
 ·obtain⟨na,nb,out,mg,ca,cb,e,M⟩:=hI
  have:=M.ha;have:=M.hb;have:=M.far;omega
def wi5(T:Tw prog w A E s κ knd a b st)(ha:0<a.size)(hb:0<b.size){Q:Array Keyed->SortSt->Prop}(h:∀r st',wv4 st st'->ww6 κ a b r.toList->Q r st'):wpS (model prog w) A E s (mhi a b) Q st:=by
 rw[we7];refine Ab1 (wpS_lift (Aj1 ⟨rfl,?_⟩));refine Ab1 (zd6 (show a.size-1<a.size by omega) ?_);have m0:Mh κ a b (#[a[a.size-1]]:Array Keyed).toList.reverse (a.size-1) b.size:=by
  have z:Mh κ a b [] a.size b.size:=⟨by rw[Bp0 (by simp),Bp0 (by simp),Bq0],List.Pairwise.nil,λx hx=>absurd hx (by simp),λx hx=>absurd hx (by simp)⟩;exact T.putA (out:=#[]) z ha (Ad0 _) T.hl
 by_cases h1:(a.size-1 == 0)=true
 ·rw[if_pos h1]
  have f:=T.dA (out:=#[a[a.size-1]]) m0 (Ad0 _) (beq_iff_eq.mp h1) wv4.refl;exact Ad1 (h _ _ f.1 f.2)
 rw[if_neg h1];by_cases h2:(b.size == 1)=true
 ·rw[if_pos h2]
  have f:=T.dF (out:=#[a[a.size-1]]) m0 (by omega) (Ad0 _) (beq_iff_eq.mp h2) wv4.refl;exact Ad1 (h _ _ f.1 f.2)
 rw[if_neg h2];have hb1:1<b.size:=by
  have:¬b.size=1:=by simpa using h2
  omega
 have ha1:1<a.size:=by
  have:¬a.size-1=0:=λz=>h1 (beq_iff_eq.mpr z)
  omega
 refine Ab1 (wpS_get ?_);refine Ab1 (Al1 (Af1 (I:=λx c st'=>∃na nb out mg,c=(none,na,nb,out,mg)/\Hid κ a b st na nb out st' (1+x)) (Q:=λc st'=>∃r z,c=(some r,z)/\wz9 κ a b st r st') (λx c st' hx1 hx2 hI=>?_) (λc st' hI=>?_) ⟨a.size-1,b.size,#[a[a.size-1]],_,rfl,m0,by omega,by omega,by omega,by omega,wv4.refl,by omega⟩) λc st' hI=>?_)
 ·obtain⟨na,nb,out,mg,e,M⟩:=hI
  subst e;unfold vf6;refine Ab1 (xq9 T M (λr z st2 f=>?_) λout na nb ca cb st2 M2=>?_)
  ·exact Ad1 ⟨r,_,rfl,f⟩
  ·refine Ab1 (wpS_lift (Aj1 ⟨rfl,?_⟩))
   refine Ab1 (wb2 T M2 (λq z st3 f=>?_) λna nb out mg ca cb st3 M3=>?_)
   ·exact Ad1 ⟨q,_,rfl,f⟩
   ·exact Ab1 (yh8 M3.like λst4 l=>Ad1 ⟨na,nb,out,_,rfl,M3.m,M3.ha,M3.hb,M3.la,M3.lb,l,M3.far⟩)
 ·obtain⟨na,nb,out,mg,e,M⟩:=hI
  have:=M.ha;have:=M.hb;have:=M.far;omega
 ·obtain⟨r,z,e,f⟩:=hI
  subst e;exact Ad1 (h _ _ f.1 f.2)
end
noncomputable def back(sa:Nat)(l:List Keyed)(xs:Array Keyed):Array Keyed:=l.zipIdx.foldl (λu (p,j)=>u.setIfInBounds (sa+j) p) xs
def wm8(i:Nat):mergeAt' i=(do
 let z <-get
 let (some (sa,na,pw),some (sb,nb,_)):=((pendingOf z)[i]?,(pendingOf z)[i+1]?) | unsupported "internal:list.sort.pending"
 set (setPending z (((pendingOf z).setIfInBounds i (sa,na+nb,pw)).eraseIdxIfInBounds (i+1)))
 let some k <-gal false (<-elem' (arrOf z) sb) (arrOf z) sa na 0 | return false
 let (sa,na):=(sa+k,na-k)
 if na == 0 then return true
 let some nb <-gal true (<-elem' (arrOf z) (sa+na-1)) (arrOf z) sb nb (nb-1) | return false
 if nb == 0 then return true
 let x:=(arrOf z).extract sa sb
 let y:=(arrOf z).extract sb (sb+nb)
 let out <-if na<=nb then mlo x y else mhi x y
 modify λv=>setArr v (back sa out.toList (arrOf v))
 return (failedOf (<-get)).isNone):=rfl
theorem xp2(sa:Nat)(l:List Keyed)(xs:Array Keyed):(back sa l xs).size=xs.size:=by
 unfold back
 suffices h:∀(l:List (Keyed×Nat)) (xs:Array Keyed),(l.foldl (λu (p,j)=>u.setIfInBounds (sa+j) p) xs).size=xs.size from h _ _
 intro l;induction l with
 | nil=>intro xs;rfl
 | cons q l ih=>intro xs;rw[List.foldl_cons,ih];simp
theorem wh7(sa:Nat)(l:List Keyed)(xs:Array Keyed)(h:sa+l.length<=xs.size)(i:Nat):(back sa l xs)[i]?=if sa<=i/\i<sa+l.length then l[i-sa]? else xs[i]?:=by
 unfold back
 suffices g:∀(l:List Keyed) (n:Nat) (xs:Array Keyed),sa+n+l.length<=xs.size->((l.zipIdx n).foldl (λu (p,j)=>u.setIfInBounds (sa+j) p) xs)[i]?=if sa+n<=i/\i<sa+n+l.length then l[i-(sa+n)]? else xs[i]? by
  have:=g l 0 xs (by simpa using h);simpa using this
 intro l;induction l with
 | nil=>intro n xs _;simp;omega
 | cons q l ih=>
   intro n xs h;simp only[Ar0] at h;rw[List.zipIdx_cons,List.foldl_cons,ih (n+1) _ (by simp;omega)];rw[Array.getElem?_setIfInBounds];by_cases h1:sa+n=i
   ·subst h1
    rw[if_neg (by omega),if_pos rfl,if_pos (by omega),if_pos (by simp)];simp
   ·rw[if_neg (show ¬sa+n=i from h1)]
    by_cases h2:sa+n<=i/\i<sa+n+(l.length+1)
    ·rw[if_pos (by omega),if_pos (by simpa using h2)]
     rw[show i-(sa+n)=(i-(sa+(n+1)))+1 by omega];simp
    ·rw[if_neg (by omega),if_neg (by simpa using h2)]
def xp3(sa:Nat)(l:List Keyed)(xs:Array Keyed)(h:sa+l.length<=xs.size):(back sa l xs).toList=xs.toList.take sa++(l++xs.toList.drop (sa+l.length)):=by
 refine List.ext_getElem? λi=>?_
 have:=wh7 sa l xs h i;rw[<-Bf0] at this;have lt:xs.toList.length=xs.size:=by simp
 rw[this,List.getElem?_append,Bd0,Nat.min_eq_left (by omega)];by_cases h1:i<sa
 ·rw[if_neg (by omega),if_pos h1,List.getElem?_take,if_pos h1]
  simp
 ·rw[if_neg h1,List.getElem?_append]
  by_cases h2:i<sa+l.length
  ·rw[if_pos (by omega),if_pos (by omega)]
  ·rw[if_neg (by omega),if_neg (by omega),List.getElem?_drop]
   simp;congr 1;omega
section
variable{prog:Program}{w:World}{A:Around}{E:Value->Shared->Prop}{s:Shared}{κ:KeyKind}{knd:SortKind}{a₀:Array Keyed}{st:SortSt}
def xc8{z:SortSt}{Q:PUnit->SortSt->Prop}(h:Q ⟨⟩ z):wpS (model prog w) A E s (set z:SM PUnit) Q st:=by
 unfold wpS;rw[StateT.run_set];exact Ac1 ⟨rfl,h⟩
def xa6{xs:Array Keyed}(h:xs.toList.Pairwise (le κ)):Up κ xs 0 xs.size:=λi j _ g2 g3=>by
 by_cases e:i=j
 ·subst e;exact KeyOrd.kle_refl _
 ·have:=Cn0.mp h i j (by simp;omega) (by simp;omega) (by omega)
  rw[ws6 (by omega),ws6 g3];simpa using this
def xt4{xs:Array Keyed}{i k:Nat}{x:Keyed}(h:x∈(xs.toList.drop i).take k):∃j,i<=j/\j<i+k/\j<xs.size/\ky κ x=KK κ xs j:=by
 obtain⟨j,hj,e⟩:=Bg0 h;rw[Bd0,Cf0,Ah0] at hj;refine⟨i+j,by omega,by omega,by omega,?_⟩;rw[ws6 (by omega),<-e];simp[List.getElem_take,Cx0]
def xe5{xs:Array Keyed}{p q:Nat}(hq:q<=xs.size)(u:Up κ xs p q){lo hi:Nat}(h1:p<=lo)(h2:hi<=q)(h3:lo<=hi):Up κ (xs.extract lo hi) 0 (xs.extract lo hi).size:=λi j _ g2 g3=>by
 have sz:(xs.extract lo hi).size=hi-lo:=by simp;omega
 rw[sz] at g3;have e:∀t,t<hi-lo->KK κ (xs.extract lo hi) t=KK κ xs (lo+t):=λt ht=>KK_congr (by rw[Array.getElem?_extract];simp;omega)
 rw[e i (by omega),e j g3];exact u _ _ (by omega) (by omega) (by omega)
def yz8{xs:Array Keyed}{lo hi t:Nat}(hq:hi<=xs.size)(ht:lo+t<hi):KK κ (xs.extract lo hi) t=KK κ xs (lo+t):=KK_congr (by rw[Array.getElem?_extract];simp;omega)
def yo3{xs:Array Keyed}(h:KeysOf κ xs){lo hi:Nat}:KeysOf κ (xs.extract lo hi):=λp hp=>h p (by
 rw[Array.toList_extract,List.extract_eq_drop_take] at hp;exact List.mem_of_mem_drop (Cm0 hp))
def wn8{xs:Array Keyed}{k n m:Nat}{l:List Keyed}(hk:k<=n)(hnm:n<=m)(hm:m<=xs.size)(W:ww6 κ (xs.extract k n) (xs.extract n m) l)(u1:Up κ xs 0 n)(u2:Up κ xs n xs.size)(c1:∀i,i<k->∀j,n<=j->j<xs.size->κ.kle (KK κ xs i) (KK κ xs j))(c2:∀i,i<n->∀j,m<=j->j<xs.size->κ.kle (KK κ xs i) (KK κ xs j)) :
 (back k l xs).Perm xs/\Up κ (back k l xs) 0 (back k l xs).size:=by
 have ll:l.length=m-k:=by
  have:=W.1.length_eq;rw[Ai0,Ah0,Ah0] at this;simp at this;omega
 have bl:=xp3 k l xs (by omega);rw[ll,show k+(m-k)=m by omega] at bl;have e1:(xs.extract k n).toList++(xs.extract n m).toList=(xs.toList.drop k).take (m-k):=by
  rw[zg3 (by omega),zg3 hm,show m-k=(n-k)+(m-n) by omega,List.take_add,List.drop_drop,show k+(n-k)=n by omega]
 have W1:=W.1;rw[e1] at W1;refine⟨?_,xa6 ?_⟩
 ·rw[Array.perm_iff_toList_perm,bl]
  have:xs.toList=xs.toList.take k++((xs.toList.drop k).take (m-k)++xs.toList.drop m):=by
   rw[show m=k+(m-k) by omega,<-List.drop_drop,show k+(m-k)-k=m-k by omega,List.take_append_drop,List.take_append_drop]
  refine List.Perm.trans (List.Perm.append_left _ (List.Perm.append_right _ W1)) ?_;rw[<-this]
 ·rw[bl]
  have up1:∀{p q:Nat},q<=xs.size->Up κ xs p q->((xs.toList.drop p).take (q-p)).Pairwise (le κ):=λ{p q} hq u=>by
   rw[Cn0];intro i j hi hj hij;rw[Bd0,Cf0,Ah0] at hi hj;have:=u (p+i) (p+j) (by omega) (by omega) (by omega);rw[ws6 (by omega),ws6 (by omega)] at this;simpa [Cx0,List.getElem_take] using this
  have lm:∀x∈l,∃j,k<=j/\j<m/\ky κ x=KK κ xs j:=λx hx=>by
   obtain⟨j,h1,h2,_,e⟩:=xt4 (κ:=κ) (W1.mem_iff.mp hx);exact⟨j,h1,by omega,e⟩
  refine Bl0.mpr ⟨?_,Bl0.mpr ⟨W.2,?_,λx hx y hy=>?_⟩,λx hx y hy=>?_⟩
  ·have:=up1 (p:=0) (q:=k) (by omega) (λi j g1 g2 g3=>u1 i j g1 g2 (by omega))
   simpa using this
  ·have:=up1 (p:=m) (q:=xs.size) (Ad0 _) (λi j g1 g2 g3=>u2 i j (by omega) g2 g3)
   rwa [Bp0 (by simp)] at this
  ·obtain⟨i,h1,h2,e⟩:=lm x hx
   obtain⟨j,h3,h4,e2⟩:=zs4 (κ:=κ) hy;show κ.kle (ky κ x) (ky κ y);rw[e,e2];by_cases hi:i<n
   ·exact c2 i hi j h3 h4
   ·exact u2 i j (by omega) (by omega) h4
  ·obtain⟨i,h1,h2,e⟩:=zv5 (κ:=κ) hx
   show κ.kle (ky κ x) (ky κ y);rw[e];rcases Ap0.mp hy with hy | hy
   ·obtain⟨j,h3,h4,e2⟩:=lm y hy
    rw[e2];by_cases hj:j<n
    ·exact u1 i j (Am0 _) (by omega) hj
    ·exact c1 i h1 j (by omega) (by omega)
   ·obtain⟨j,h3,h4,e2⟩:=zs4 (κ:=κ) hy
    rw[e2];exact c1 i h1 j (by omega) h4
def xw4{xs:Array Keyed}{n:Nat}(h0:0<n)(hn:n<xs.size)(u1:Up κ xs 0 n)(u2:Up κ xs n xs.size)(h:κ.kle (KK κ xs (n-1)) (KK κ xs n)):Up κ xs 0 xs.size:=λi j g1 g2 g3=>by
 by_cases hj:j<n
 ·exact u1 i j g1 g2 hj
 ·by_cases hi:n<=i
  ·exact u2 i j hi g2 g3
  ·exact KeyOrd.kle_trans (u1 i (n-1) g1 (by omega) (by omega)) (KeyOrd.kle_trans h (u2 n j (Ad0 _) (by omega) g3))
def vs9(C:Cmp prog w A E s κ knd)(ka:KeysOf κ a₀){base n j:Nat}(ua:Up κ a₀ base (base+n))(hn:base+n<=a₀.size)(hj:j<a₀.size):Cut prog w A E s knd false a₀[j] a₀ base n (λi=>!κ.blt (KK κ a₀ j) (KK κ a₀ (base+i))) where
 far:=λi st Q hi hk h=>by
  unfold far;refine Ab1 (zd6 (by omega) ?_);show wpS _ _ _ _ (lt' a₀[j] a₀[base+i] >>= λx=>pure (x.map (!·))) Q st;exact Ab1 (yf4 C hk ka ka hj (by omega) (Ad1 h))
 mono:=λi k h1 h2 h=>by
  have h:κ.blt (KK κ a₀ j) (KK κ a₀ (base+k))=false:=by simpa using h
  have:=KeyOrd.kle_trans (ua (base+i) (base+k) (by omega) (by omega) (by omega)) h;have:κ.blt (KK κ a₀ j) (KK κ a₀ (base+i))=false:=this;simp[this]
def vt0(C:Cmp prog w A E s κ knd)(ka:KeysOf κ a₀){base n i:Nat}(ub:Up κ a₀ base (base+n))(hn:base+n<=a₀.size)(hi:i<a₀.size):Cut prog w A E s knd true a₀[i] a₀ base n (λk=>κ.blt (KK κ a₀ (base+k)) (KK κ a₀ i)) where
 far:=λk st Q hk2 hk h=>by
  unfold far;refine Ab1 (zd6 (by omega) ?_);show wpS _ _ _ _ (lt' a₀[base+k] a₀[i]) Q st;exact yf4 C hk ka ka (by omega) hi h
 mono:=λp q h1 h2 h=>KeyOrd.klt_of_kle_of_klt (ub (base+p) (base+q) (by omega) (by omega) (by omega)) h
def xk8{xs:Array Keyed}(h:KeysOf κ a₀)(p:xs.Perm a₀):KeysOf κ xs:=λq hq=>h q ((Array.perm_iff_toList_perm.mp p).mem_iff.mp hq)
def wi6(C:Cmp prog w A E s κ knd)(h0:KeysOf κ a₀){n1 n2 pw:Nat}(B:Bs a₀ knd #[(0,n1,pw),(n1,n2,0)] st)(hn1:0<n1)(hn2:0<n2)(hs:n1+n2=a₀.size)(u1:Up κ (arrOf st) 0 n1)(u2:Up κ (arrOf st) n1 a₀.size){Q:Bool->SortSt->Prop}(h:∀st',Bs a₀ knd #[(0,n1+n2,pw)] st'->Up κ (arrOf st') 0 a₀.size->Q true st'):wpS (model prog w) A E s (mergeAt' 0) Q st:=by
 rw[wm8];refine Ab1 (wpS_get ?_);have e0:(pendingOf st)[0]?=some (0,n1,pw):=by rw[B.pend];rfl
 have e1:(pendingOf st)[0+1]?=some (n1,n2,0):=by rw[B.pend];rfl
 have e2:∀z:Nat×Nat×Nat,((pendingOf st).setIfInBounds 0 z).eraseIdxIfInBounds (0+1)=#[z]:=λz=>by rw[B.pend];simp[Array.eraseIdxIfInBounds]
 rw[e0,e1];dsimp only;rw[e2];refine Ab1 (xc8 ?_);have sz:=B.size;have ks:=xk8 h0 B.perm;have u2':Up κ (arrOf st) n1 (arrOf st).size:=by rw[sz];exact u2
 have B1:Bs a₀ knd #[(0,n1+n2,pw)] (setPending st #[(0,n1+n2,pw)]):=⟨B.perm,B.kind,B.fail,rfl⟩;generalize hst1:setPending st #[(0,n1+n2,pw)]=st1 at B1;have ea:arrOf st1=arrOf st:=by rw[<-hst1]
 rw[<-ea] at sz ks u1 u2' ⊢;have fin:Up κ (arrOf st1) 0 (arrOf st1).size->Q true st1:=λu=>h st1 B1 (by rw[<-sz];exact u)
 generalize hxs:arrOf st1=xs at *;refine Ab1 (zd6 (show n1<xs.size by omega) (Ab1 (yf5 (vs9 C ks (base:=0) (n:=n1) (by simpa using u1) (by omega) (by omega)) B1.kind (by omega) λk hk hlt hge=>?_)));dsimp only;simp only[Al0] at hlt hge ⊢;have hlt:∀i,i<k->κ.kle (KK κ xs i) (KK κ xs n1):=λi hi=>(show κ.blt (KK κ xs n1) (KK κ xs i)=false by simpa using hlt i hi)
 have hge:∀i,k<=i->i<n1->κ.blt (KK κ xs n1) (KK κ xs i)=true:=λi h1 h2=>by simpa using hge i h1 h2
 by_cases hz:n1-k=0
 ·rw[if_pos (beq_iff_eq.mpr hz)]
  exact Ad1 (fin (xw4 hn1 (by omega) u1 u2' (hlt _ (by omega))))
 rw[if_neg (λz=>hz (beq_iff_eq.mp z))];have ei:k+(n1-k)-1=n1-1:=by omega
 rw[ei];refine Ab1 (zd6 (show n1-1<xs.size by omega) (Ab1 (yf5 (vt0 C ks (base:=n1) (n:=n2) (by rw[show n1+n2=xs.size by omega];exact u2') (by omega) (by omega)) B1.kind (by omega) λm hm hlt2 hge2=>?_)));dsimp only;by_cases hz2:m=0
 ·rw[if_pos (beq_iff_eq.mpr hz2)]
  have:=hge2 0 (by omega) (by omega);exact Ad1 (fin (xw4 hn1 (by omega) u1 u2' this))
 rw[if_neg (λz=>hz2 (beq_iff_eq.mp z))];have hge2:∀j,n1+m<=j->j<xs.size->κ.kle (KK κ xs (n1-1)) (KK κ xs j):=λj g1 g2=>by
  have:=hge2 (j-n1) (by omega) (by omega);rw[show n1+(j-n1)=j by omega] at this;exact this
 have s1:(xs.extract k n1).size=n1-k:=by simp;omega
 have s2:(xs.extract n1 (n1+m)).size=m:=by simp;omega
 have ff:∀j,j<n1-k->κ.kle (KK κ xs n1) (KK κ xs (k+j)):=λj hj=>KeyOrd.kle_of_klt (hge _ (by omega) (by omega))
 have T:Tw prog w A E s κ knd (xs.extract k n1) (xs.extract n1 (n1+m)) st1:=by
  refine⟨⟨C,yo3 ks,yo3 ks,xe5 (by omega) u1 (Am0 _) (Ad0 _) (by omega),xe5 (Ad0 _) u2' (Ad0 _) (by omega) (by omega),λj hj=>?_,B1.kind⟩,λj hj=>?_⟩
  ·rw[s2] at hj
   rw[s1,yz8 (by omega) (by omega),yz8 (by omega) (by omega),show k+(n1-k-1)=n1-1 by omega];exact KeyOrd.kle_of_klt (hlt2 j hj)
  ·rw[s1] at hj
   rw[yz8 (by omega) (by omega),yz8 (by omega) (by omega)];exact ff j hj
 have aft:∀(r:Array Keyed) (st':SortSt),wv4 st1 st'->ww6 κ (xs.extract k n1) (xs.extract n1 (n1+m)) r.toList->wpS (model prog w) A E s (do
  modify λv=>setArr v (back k r.toList (arrOf v))
  return (failedOf (<-get)).isNone) Q st':=λr st' l W=>by
  have J:=wn8 (by omega) (by omega) (by omega) W u1 u2' (λi hi j g1 g2=>KeyOrd.kle_trans (hlt i hi) (u2' n1 j (Ad0 _) g1 g2)) (λi hi j g1 g2=>KeyOrd.kle_trans (u1 i (n1-1) (Am0 _) (by omega) (by omega)) (hge2 j g1 g2));refine Ab1 (Am1 (Ab1 (wpS_get ?_)));have ef:failedOf st'=none:=l.fail.trans B1.fail;have ea2:arrOf st'=xs:=l.arr.trans hxs;have e3:(failedOf (setArr st' (back k r.toList (arrOf st')))).isNone=true:=by show (failedOf st').isNone=true;rw[ef];rfl
  rw[e3];refine Ad1 (h _ ⟨?_,l.kind.trans B1.kind,ef,l.pend.trans B1.pend⟩ ?_)
  ·show (back k r.toList (arrOf st')).Perm a₀
   rw[ea2];have:=B1.perm;rw[hxs] at this;exact J.1.trans this
  ·show Up κ (back k r.toList (arrOf st')) 0 a₀.size
   rw[ea2];have:=J.2;rwa [xp2,sz] at this
 by_cases hw:n1-k<=m
 ·rw[if_pos hw]
  refine Ab1 (wi4 T.toTwo (by omega) (by omega) (T.hf 0 (by omega)) aft)
 ·rw[if_neg hw]
  refine Ab1 (wi5 T (by omega) (by omega) aft)
def wg3{n:Nat}(h2:2<=n)(h:n<128):∃m,minRun' n n 0=m/\1<=m/\m<=n/\n<=2*m:=by
 obtain⟨f,rfl⟩:∃f,n=f+1+1:=⟨n-2,by omega⟩;rw[minRun'_succ];by_cases h64:f+1+1<64
 ·rw[if_pos h64]
  exact⟨_,rfl,by omega,by omega,by omega⟩
 ·rw[if_neg h64,minRun'_succ,if_pos (by omega)]
  exact⟨_,rfl,by omega,by omega,by omega⟩
def wa1{xs ys:Array Keyed}{lo hi i:Nat}(o:Out xs ys lo hi)(h:i<lo\/hi<=i):KK κ ys i=KK κ xs i:=KK_congr (o i h)
def Up.out{xs ys:Array Keyed}{lo hi n:Nat}(u:Up κ xs 0 n)(o:Out xs ys lo hi)(h:n<=lo):Up κ ys 0 n:=λi j g1 g2 g3=>by
 rw[wa1 o (.inl (by omega)),wa1 o (.inl (by omega))];exact u i j g1 g2 g3
noncomputable def vt8(κ:KeyKind)(a₀:Array Keyed)(knd:SortKind)(m x lo:Nat)(st:SortSt):Prop:=
 (x=0/\lo=0/\Bs a₀ knd #[] st)\/
 (x=1/\lo<a₀.size/\m<=lo/\Bs a₀ knd #[(0,lo,0)] st/\Up κ (arrOf st) 0 lo)\/
 (1<=x/\lo=a₀.size/\∃pw,Bs a₀ knd #[(0,a₀.size,pw)] st/\Up κ (arrOf st) 0 a₀.size)\/
 (2<=x/\lo=a₀.size/\∃n1 n2 pw,0<n1/\0<n2/\n1+n2=a₀.size/\Bs a₀ knd #[(0,n1,pw),(n1,n2,0)] st/\Up κ (arrOf st) 0 n1/\Up κ (arrOf st) n1 a₀.size)
noncomputable def vb4(κ:KeyKind)(a₀:Array Keyed)(knd:SortKind)(st:SortSt):Prop:=
 (∃pw,Bs a₀ knd #[(0,a₀.size,pw)] st/\Up κ (arrOf st) 0 a₀.size)\/
 ∃n1 n2 pw,0<n1/\0<n2/\n1+n2=a₀.size/\Bs a₀ knd #[(0,n1,pw),(n1,n2,0)] st/\Up κ (arrOf st) 0 n1/\Up κ (arrOf st) n1 a₀.size
def Bs.push{P:Array (Nat×Nat×Nat)}(B:Bs a₀ knd P st)(z:Nat×Nat×Nat):Bs a₀ knd (P.push z) (setPending st ((pendingOf st).push z)):=⟨B.perm,B.kind,B.fail,by show (pendingOf st).push z=_;rw[B.pend]⟩
def vj4{m n:Nat}(B:Bs a₀ knd #[] st)(h1:m<=n)(hm:1<=m)(h2:n<=a₀.size)(u:Up κ (arrOf st) 0 (0+n)):vt8 κ a₀ knd m (0+1) (0+n) (setPending st ((pendingOf st).push (0,n,0))):=by
 have B2:=B.push (0,n,0);simp only[Al0] at u ⊢;by_cases hn:n=a₀.size
 ·subst hn
  exact .inr (.inr (.inl ⟨by omega,rfl,0,B2,u⟩))
 ·exact .inr (.inl ⟨rfl,by omega,h1,B2,u⟩)
def wa9(C:Cmp prog w A E s κ knd)(h0:KeysOf κ a₀)(B:Bs a₀ knd #[] st)(h2:2<=a₀.size)(h128:a₀.size<128){Q:Unit->SortSt->Prop}(h:∀st',(arrOf st').Perm a₀->failedOf st'=none->Up κ (arrOf st') 0 a₀.size->Q () st'):wpS (model prog w) A E s sortRuns' Q st:=by
 rw[sortRuns'_eq];refine Ab1 (wpS_get ?_);dsimp only;obtain⟨m,em,hm1,hm2,hm3⟩:=wg3 h2 h128;simp only[B.size,em];refine Ab1 (Al1 (Af1 (I:=λx c st'=>∃lo,c=(none,lo)/\vt8 κ a₀ knd m x lo st') (Q:=λc st'=>∃lo,c=(none,lo)/\vb4 κ a₀ knd st') ?step ?fin ⟨0,rfl,.inl ⟨rfl,rfl,B⟩⟩) ?post);case fin=>
  rintro c st' ⟨lo,rfl,R⟩;rcases R with⟨hx,_,_⟩ | ⟨hx,_,_⟩ | ⟨_,_,R⟩ | ⟨_,_,R⟩
  ·omega
  ·omega
  ·exact⟨lo,rfl,.inl R⟩
  ·exact⟨lo,rfl,.inr R⟩
 case step=>
  rintro x c st' _ hx ⟨lo,rfl,R⟩;dsimp only;rcases R with⟨rfl,rfl,B1⟩ | ⟨rfl,hlo,hml,B1,u1⟩ | ⟨_,rfl,R⟩ | ⟨_,rfl,R⟩
  ·rw[if_neg (by omega)]
   refine Ab1 (yb3 C h0 B1 (by omega) (by omega) λn st2 B2 hn1 hn2 un o=>?_);dsimp only;by_cases hlt:n<m
   ·rw[if_pos hlt]
    refine Ab1 (wpS_lift (Aj1 ⟨rfl,?_⟩));rw[Nat.sub_zero,Nat.min_eq_right hm2];refine Ab1 (yl8 C h0 B2 (by omega) (by omega) un λst3 B3 u3 o3=>?_);simp only[Bool.not_true,Bw0,if_false];refine Ab1 (wpS_get ?_);have hb:(pendingOf st3).back?=none:=by rw[B3.pend];rfl
    rw[hb];dsimp only;exact Ab1 (Am1 (Ad1 ⟨_,rfl,vj4 B3 (Ad0 _) hm1 hm2 u3⟩))
   ·rw[if_neg hlt]
    refine Ab1 (wpS_get ?_);have hb:(pendingOf st2).back?=none:=by rw[B2.pend];rfl
    rw[hb];dsimp only;exact Ab1 (Am1 (Ad1 ⟨_,rfl,vj4 B2 (by omega) hm1 (by omega) un⟩))
  ·rw[if_neg (by omega)]
   have aft:∀(st2:SortSt) (n:Nat),n=a₀.size-lo->Bs a₀ knd #[(0,lo,0)] st2->Up κ (arrOf st2) lo (lo+n)->Up κ (arrOf st2) 0 lo->∀pw,vt8 κ a₀ knd m (1+1) (lo+n) (setPending (setPending st2 ((pendingOf st2).modify ((pendingOf st2).size-1) λ(st,len,_)=>(st,len,pw))) ((pendingOf (setPending st2 ((pendingOf st2).modify ((pendingOf st2).size-1) λ(st,len,_)=>(st,len,pw)))).push (lo,n,0))):=λst2 n hn B2 u2 u1 pw=>by
    subst hn;rw[show lo+(a₀.size-lo)=a₀.size by omega] at u2 ⊢;refine .inr (.inr (.inr ⟨by omega,rfl,lo,a₀.size-lo,pw,by omega,by omega,by omega,⟨B2.perm,B2.kind,B2.fail,?_⟩,u1,u2⟩));show ((pendingOf st2).modify ((pendingOf st2).size-1) _).push _=_;rw[B2.pend];rfl
   have brk:∀(st2:SortSt) (n pw:Nat) (Q':ForInStep (Option Unit×Nat)->SortSt->Prop),Bs a₀ knd #[(0,lo,0)] st2->True:=λ_ _ _ _ _=>trivial
   refine Ab1 (yb3 C h0 B1 (by omega) (by omega) λn st2 B2 hn1 hn2 un o=>?_);have u1':=u1.out o (Ad0 _);dsimp only;by_cases hlt:n<m
   ·rw[if_pos hlt]
    refine Ab1 (wpS_lift (Aj1 ⟨rfl,?_⟩));rw[Nat.min_eq_left (show a₀.size-lo<=m by omega)];refine Ab1 (yl8 C h0 B2 (by omega) (by omega) un λst3 B3 u3 o3=>?_);have u1'':=u1'.out o3 (Ad0 _);simp only[Bool.not_true,Bw0,if_false];refine Ab1 (wpS_get ?_);have hb:(pendingOf st3).back?=some (0,lo,0):=by rw[B3.pend];rfl
    rw[hb];dsimp only;refine Ab1 (Al1 (Af1 (I:=λ_ c st4=>c=(none,())/\st4=st3) (Q:=λc st4=>c=(none,())/\st4=st3) (λy c st4 hy1 hy2 hI=>?_) (λc st4 hI=>hI) ⟨rfl,rfl⟩) λc st4 hI=>?_)
    ·obtain⟨e1,e2⟩:=hI
     subst e1;rw[e2];refine Ab1 (wpS_get ?_);have e3:(pendingOf st3).size=1:=by rw[B3.pend];rfl
     rw[if_neg (show ¬(pendingOf st3).size>1 by omega)];exact Ad1 ⟨rfl,rfl⟩
    ·obtain⟨e1,e2⟩:=hI
     subst e1 e2;dsimp only;exact Ab1 (Am1 (Ab1 (Am1 (Ad1 ⟨_,rfl,aft _ _ rfl B3 u3 u1'' _⟩))))
   ·rw[if_neg hlt]
    refine Ab1 (wpS_get ?_);have hb:(pendingOf st2).back?=some (0,lo,0):=by rw[B2.pend];rfl
    rw[hb];dsimp only;refine Ab1 (Al1 (Af1 (I:=λ_ c st4=>c=(none,())/\st4=st2) (Q:=λc st4=>c=(none,())/\st4=st2) (λy c st4 hy1 hy2 hI=>?_) (λc st4 hI=>hI) ⟨rfl,rfl⟩) λc st4 hI=>?_)
    ·obtain⟨e1,e2⟩:=hI
     subst e1;rw[e2];refine Ab1 (wpS_get ?_);have e3:(pendingOf st2).size=1:=by rw[B2.pend];rfl
     rw[if_neg (show ¬(pendingOf st2).size>1 by omega)];exact Ad1 ⟨rfl,rfl⟩
    ·obtain⟨e1,e2⟩:=hI
     subst e1 e2;dsimp only;exact Ab1 (Am1 (Ab1 (Am1 (Ad1 ⟨_,rfl,aft _ _ (by omega) B2 un u1' _⟩))))
  ·rw[if_pos (Ad0 _)]
   exact Ad1 ⟨_,rfl,.inl R⟩
  ·rw[if_pos (Ad0 _)]
   exact Ad1 ⟨_,rfl,.inr R⟩
 case post=>
  rintro c st' ⟨lo,rfl,R⟩;dsimp only;refine Ab1 (Al1 (Af1 (I:=λx c st''=>c=(none,())/\((x=0/\vb4 κ a₀ knd st'')\/∃pw,Bs a₀ knd #[(0,a₀.size,pw)] st''/\Up κ (arrOf st'') 0 a₀.size)) (Q:=λc st''=>c=(none,())/\∃pw,Bs a₀ knd #[(0,a₀.size,pw)] st''/\Up κ (arrOf st'') 0 a₀.size) ?_ ?_ ⟨rfl,.inl ⟨rfl,R⟩⟩) ?_)
  ·rintro x c st'' _ _ ⟨rfl,R⟩
   refine Ab1 (wpS_get ?_);have one:(∃pw,Bs a₀ knd #[(0,a₀.size,pw)] st''/\Up κ (arrOf st'') 0 a₀.size)->(pendingOf st'').size=1:=λ⟨pw,B,_⟩=>by rw[B.pend];rfl
   rcases R with⟨_,R | ⟨n1,n2,pw,g1,g2,g3,B3,u1,u2⟩⟩ | R
   ·rw[if_pos (by rw[one R];exact Ad0 1)]
    exact Ad1 ⟨rfl,R⟩
   ·have e3:(pendingOf st'').size=2:=by rw[B3.pend];rfl
    rw[if_neg (by omega),e3];show wpS _ _ _ _ (mergeAt' 0 >>= _) _ _;refine Ab1 (wi6 C h0 B3 g1 g2 g3 u1 u2 λst4 B4 u4=>?_);rw[g3] at B4;exact Ad1 ⟨rfl,.inr ⟨pw,B4,u4⟩⟩
   ·rw[if_pos (by rw[one R];exact Ad0 1)]
    exact Ad1 ⟨rfl,R⟩
  ·rintro c st'' ⟨rfl,R⟩
   rcases R with⟨hx,_⟩ | R
   ·omega
   ·exact⟨rfl,R⟩
  ·rintro c st'' ⟨rfl,pw,B,u⟩
   exact Ad1 (h _ B.perm B.fail u)
end
open PySem PyProof PyProof.Rows
noncomputable def wx6(h:Heap):Value->Option (Int×Int)
 | .ref a=>match h.get? a with
   | some o=>match o.data with
     | .seq xs _=>match xs.toList with
       | [.int x _,.int y _]=>some (x,y)
       | _=>none
     | _=>none
   | none=>none
 | _=>none
noncomputable def wr5(h:Heap)(v:Value)(p:Int×Int):Prop:=∃a o n t u,v=.ref a/\h.get? a=some o/\o.cls=.type "tuple"/\o.data=.seq #[.int p.1 t,.int p.2 u] n
def wr5.key{h:Heap}{v:Value}{p:Int×Int}(z:wr5 h v p):wx6 h v=some p:=by
 obtain⟨a,o,n,t,u,rfl,g,_,d⟩:=z;simp[wx6,g,d]
open H in
def yg9{h:Heap}{v:Value}{p:Int×Int}(z:wx6 h v=some p):∃a o n t u,v=.ref a/\h.get? a=some o/\o.data=.seq #[.int p.1 t,.int p.2 u] n:=by
 unfold wx6 at z;split at z
 ·rename_i a
  split at z
  ·rename_i o g
   split at z
   ·rename_i xs n d
    split at z
    ·rename_i x t y u e
     cases z;refine⟨a,o,n,t,u,rfl,g,?_⟩;rw[d];congr 1;exact Array.toList_inj.mp e
    ·cases z
   ·cases z
  ·cases z
 ·cases z
noncomputable def lx(a b:Int×Int):Bool:=decide (a.1<b.1\/a.1=b.1/\a.2<b.2)
def yw8{a b:Int×Int}:lx a b=true↔(a.1<b.1\/a.1=b.1/\a.2<b.2):=decide_eq_true_iff
def yw7{a b:Int×Int}:lx a b=false↔¬(a.1<b.1\/a.1=b.1/\a.2<b.2):=decide_eq_false_iff_not
noncomputable def vf4(h:Heap):KeyKind where
 α:=Int×Int
 blt:=lx
 irrefl:=λa=>yw7.mpr (by omega)
 trans:=λa b c h1 h2=>by rw[yw8] at *;omega
 negTrans:=λa b c h1=>by rw[yw8,yw8];rw[yw8] at h1;omega
 total:=λa b h1 h2=>by rw[yw7] at *;exact Prod.ext (by omega) (by omega)
 keyOf:=wx6 h
 dflt:=(0,0)
section
variable{prog:Program}{w:World}{A:Around}{E:Value->Shared->Prop}{s:Shared}
def yo6(f:Bool)(x y:Value):keyLt' (tuples' f) x y=(do
 let us <-Builtin.List.listItems x
 let vs <-Builtin.List.listItems y
 for ((p,q),i) in (us.toList.zip vs.toList).zipIdx do
  if !(<-eqBool p q) then return <-oneLt' (f&&i == 0) p q
 return decide (us.size<vs.size)):=rfl
def wn0{x y:Int}{t u:Tok}{Q:Bool->Shared->Prop}(h:Q (decide (x<y)) s):wpAny (model prog w) A (oneLt' false (.int x t) (.int y u)) Q E s:=by
 rw[oneLt'_eq];simp only[Bw0,if_false];refine Aa1 (wpAny_richCompare_same (id:="int.__lt__") (typeIs_int s x t) (typeIs_int s y u) slot_int_lt (call_int_lt ⟨by simp,?_⟩));exact Ai1 h
def xv4:Cmp prog w A E s (vf4 s.heap) (tuples' true):=by
 intro st x y a b Q hk hx hy h;obtain⟨i,o,n,t,u,e1,g1,d1⟩:=yg9 hx;obtain⟨j,o2,n2,t2,u2,e2,g2,d2⟩:=yg9 hy;rw[lt'_eq];refine Ab1 (wpS_get ?_);rw[hk,yo6,e1,e2];refine Ab1 (wpS_lift (wpAny_attempt (Aa1 (listItems_at g1 d1 (Aa1 (listItems_at g2 d2 ?_))))));simp only[List.zip_cons_cons,List.zipIdx_cons,List.forIn_cons,List.zip_nil_left,List.zipIdx_nil,List.forIn_nil];refine Aa1 (Aa1 (Aa1 (wpAny_eqBool_int ?_)));by_cases c1:a.1=b.1
 ·rw[if_neg (by simp[c1])]
  refine Ac1 (Aa1 (Aa1 (wpAny_eqBool_int ?_)));by_cases c2:a.2=b.2
  ·rw[if_neg (by simp[c2])]
   refine Ac1 (Ac1 (Ac1 ⟨rfl,Ad1 ?_⟩));rw[show (vf4 s.heap).blt a b=false from yw7.mpr (by omega)] at h;exact h
  ·rw[if_pos (by simp[c2])]
   refine Aa1 (wn0 (Ac1 (Ac1 (Ac1 ⟨rfl,Ad1 ?_⟩))));rw[show (vf4 s.heap).blt a b=decide (a.2<b.2) from decide_eq_decide.mpr (by omega)] at h;exact h
 ·rw[if_pos (by simp[c1])]
  refine Aa1 (oneLt_int (Ac1 (Ac1 (Ac1 ⟨rfl,Ad1 ?_⟩))));rw[show (vf4 s.heap).blt a b=decide (a.1<b.1) from decide_eq_decide.mpr (by omega)] at h;exact h
theorem xd5{α β:Type}{f:α->Sem β}{g:α->β}:∀(l:List α) (Q:List β->Shared->Prop),(∀x∈l,∀R:β->Shared->Prop,R (g x) s->wpAny (model prog w) A (f x) R E s)->Q (l.map g) s->wpAny (model prog w) A (l.mapM f) Q E s
 | [],Q,_,h=>by rw[List.mapM_nil];exact Ac1 h
 | x::l,Q,k,h=>by
   rw[List.mapM_cons];exact Aa1 (k x (Bi0 ..) _ (Aa1 (xd5 l _ (λy hy=>k y (Ay0 _ hy)) (Ac1 h))))
noncomputable def fst?(h:Heap)(v:Value):Option Value:=match v with
 | .ref a=>match h.get? a with
   | some o=>match o.data with
     | .seq xs _=>xs[0]?
     | _=>none
   | none=>none
 | _=>none
def xu7(v:Value):firstOfTuple' v=(do
 if (<-typeOf v) != .type "tuple" then return none
 return (<-Builtin.List.listItems v)[0]?):=rfl
def wr5.fst{h:Heap}{v:Value}{p:Int×Int}(z:wr5 h v p):∃t,fst? h v=some (.int p.1 t):=by
 obtain⟨a,o,n,t,u,rfl,g,_,d⟩:=z;exact⟨t,by simp[fst?,g,d]⟩
def xk6{vs:List Value}(hv:∀v∈vs,∃p,wr5 s.heap v p)(h0:vs≠[]){Q:SortKind->Shared->Prop}(h:Q (tuples' true) s):wpAny (model prog w) A (keyKind' vs.toArray) Q E s:=by
 rw[keyKind'_eq,List.mapM_toArray];refine Aa1 ?_;rw[map_eq_pure_bind];refine Aa1 (xd5 (g:=fst? s.heap) vs _ (λv m R hR=>?_) (Ac1 ?_))
 ·obtain⟨p,z⟩:=hv v m
  obtain⟨a,o,n,t,u,rfl,g,c,d⟩:=z;rw[xu7];refine Aa1 (wpAny_typeOf (T:="tuple") ⟨o,g,c⟩ ?_);rw[if_neg (by simp)];refine Aa1 (listItems_at g d (Ac1 ?_));have:fst? s.heap (.ref a)=some (.int p.1 t):=by simp[fst?,g,d]
  rw[this] at hR;exact hR
 ·have all:((vs.map (fst? s.heap)).toArray.all (·.isSome))=true:=by
   simp only[List.all_toArray,List.all_map,Co0];intro v m;obtain⟨p,z⟩:=hv v m;obtain⟨t,e⟩:=z.fst;simp[e]
  rw[if_pos all];refine Aa1 (Aj1 ?_);have ex:∀us:List Value,(∀v∈us,∃p,wr5 s.heap v p)->∃ns:List Int,IntsAre ((us.map (fst? s.heap)).filterMap id) ns/\ns.length=us.length:=by
   intro us;induction us with
   | nil=>intro _;exact⟨[],.nil,rfl⟩
   | cons v us ih=>
     intro k;obtain⟨ns,i,l⟩:=ih λx hx=>k x (Ay0 _ hx)
     obtain⟨p,z⟩:=k v (Bi0 ..);obtain⟨t,e⟩:=z.fst;refine⟨p.1::ns,?_,by simp[l]⟩;rw[Ax0,e];show IntsAre (Value.int p.1 t::(us.map (fst? s.heap)).filterMap id) _;exact .cons _ _ i
  obtain⟨ns,hi,hl⟩:=ex vs hv;have et:(vs.map (fst? s.heap)).toArray.filterMap id=((vs.map (fst? s.heap)).filterMap id).toArray:=by simp
  rw[et];cases hc:(vs.map (fst? s.heap)).filterMap id with
  | nil=>
    rw[hc] at hi;cases hi;cases vs with
    | nil=>exact absurd rfl h0
    | cons _ _=>simp at hl
  | cons v1 rest=>
    rw[hc] at hi;rw[oneTypeOnly'_eq,List.mapM_toArray,mapM_typeOf_ints hi];simp only[map_pure,pure_bind];have hall:((List.map (λ_=>Value.type "int") (v1::rest)).toArray.all λx=>x == Value.type "int")=true:=by
     simp only[List.all_toArray,List.all_map,Co0];intro _ _;rfl
    have h1:(List.map (λ_=>Value.type "int") (v1::rest)).toArray[0]?=some (Value.type "int"):=by simp
    rw[h1];simp only[hall,if_true,pure_bind];exact Ac1 h
end
noncomputable abbrev wt8(h:Heap)(v:Value):Int×Int:=(wx6 h v).getD (0,0)
noncomputable def lxle(a b:Int×Int):Prop:=a.1<b.1\/a.1=b.1/\a.2<=b.2
def wf0{a b:Int×Int}(h:lx b a=false):lxle a b:=by rw[yw7] at h;unfold lxle;omega
section
variable{prog:Program}{w:World}{A:Around}{E:Value->Shared->Prop}{s:Shared}
noncomputable abbrev Up1(h:Heap)(a:Addr)(vs:List Value):Heap:=((h.update a (Obj.mapSeq λ_=>#[])).push (seqObj "tuple" vs.toArray 0)).push (seqObj "list" #[] 0)
def wj1{h:Heap}{a b:Addr}{o:Obj}{vs:List Value}(g:h.get? b=some o)(ne:b≠a):(Up1 h a vs).get? b=some o:=by
 have hb:=Heap.lt_size g;unfold Up1;rw[Cy0 _ _ _ (by rw[size_push',Heap.size_update];exact As0 (Nat.lt_succ_of_lt hb)),Cy0 _ _ _ (by rw[Heap.size_update];exact As0 hb),Heap.get?_update_ne _ _ _ _ ne];exact g
def wr5.up1{h:Heap}{a:Addr}{n:Nat}{vs us:List Value}(o1:h.get? a=some (seqObj "list" vs.toArray n)){v:Value}{p:Int×Int}(z:wr5 h v p):wr5 (Up1 h a us) v p:=by
 obtain⟨b,o,m,t,u,rfl,g,c,d⟩:=z;refine⟨b,o,m,t,u,rfl,wj1 g λe=>?_,c,d⟩;subst e;rw[o1] at g;cases g;exact absurd (Value.type.inj c) (by decide)
def wf8{h:Heap}{a:Addr}{n:Nat}{vs us:List Value}(o1:h.get? a=some (seqObj "list" vs.toArray n)){v:Value}(z:∃p,wr5 h v p):wx6 (Up1 h a us) v=wx6 h v:=by
 obtain⟨p,z⟩:=z;rw[z.key,(z.up1 o1).key]
def yb6{a:Addr}{vs:List Value}{n:Nat}{P:Fin->Shared->Prop}(o1:s.heap.get? a=some (seqObj "list" vs.toArray n))(hv:∀v∈vs,∃p,wr5 s.heap v p)(h128:vs.length<128)(h:∀out:Array Value,out.toList.Perm vs->out.toList.Pairwise (λx y=>lxle (wt8 s.heap x) (wt8 s.heap y))->P (.done (.ret .none)) { s with heap:=sortedHeap s.heap a vs out }) :
 wpAny (model prog w) A (Builtin.«list.sort» ⟨[.ref a],[]⟩) P E s:=by
 rw[list_sort_plain];have la:a<s.heap.objs.size:=Heap.lt_size o1;refine Aa1 (listItems_at o1 rfl ?_);refine Aa1 (listUpdate_at o1 rfl ?_);obtain⟨e1,o2⟩:∃e1,(s.heap.update a (Obj.mapSeq λ_=>#[])).get? a=some (seqObj "list" #[] e1):=⟨_,get?_update_seq o1 (λ_=>#[])⟩;refine Aa1 (seqEpoch_at o2 rfl ?_);refine Aa1 (wpAny_newTuple (Aa1 (wpAny_newList (wpAny_holding ?_))));have o3:(Up1 s.heap a vs).get? a=some (seqObj "list" #[] e1):=by
  unfold Up1;rw[Cy0 _ _ _ (by rw[size_push',Heap.size_update];exact As0 (Nat.lt_succ_of_lt la)),Cy0 _ _ _ (by rw[Heap.size_update];exact As0 la)];exact o2
 show wpAny (model prog w) A _ P E { s with heap:=Up1 s.heap a vs };dsimp only;have sz:vs.toArray.size=vs.length:=by simp
 have fin:∀st':SortSt,(arrOf st').Perm (pairsOf vs)->Up (vf4 (Up1 s.heap a vs)) (arrOf st') 0 (pairsOf vs).size->P (.done (.ret .none)) { s with heap:=sortedHeap s.heap a vs ((arrOf st').map (·.2)) }:=by
  intro st' hp hs;have hl:(arrOf st').toList.Perm (vs.zip vs):=by rw[<-pairsOf_toList];exact Array.perm_iff_toList_perm.mp hp
  have hm:∀p,p∈(arrOf st').toList->p.1=p.2/\p.1∈vs:=λp hp'=>mem_zip_self (hl.mem_iff.mp hp')
  refine h _ ?_ ?_
  ·rw[Array.toList_map]
   have:=hl.map (·.2);rwa [List.map_snd_zip (Ad0 _)] at this
  ·rw[Array.toList_map,Cd0,Cn0]
   intro i j hi hj hij;have hi':i<(arrOf st').size:=by simpa using hi
   have hj':j<(arrOf st').size:=by simpa using hj
   have h1:=hs i j (Am0 _) (Ce0 hij) (by rw[<-hp.size_eq];exact hj');rw[ws6 hi',ws6 hj'] at h1;have k:∀t (ht:t<(arrOf st').size),ky (vf4 (Up1 s.heap a vs)) (arrOf st')[t]=wt8 s.heap (arrOf st')[t].2:=λt ht=>by
    have m:=hm _ (Array.getElem_mem_toList ht);show (wx6 (Up1 s.heap a vs) (arrOf st')[t].1).getD (0,0)=_;rw[wf8 o1 (hv _ m.2),m.1]
   rw[k i hi',k j hj'] at h1;have:=wf0 h1;simpa using this
 by_cases h2:vs.toArray.size<2
 ·rw[if_pos h2,if_pos h2]
  refine Aa1 (Ac1 ?_);rw[StateT.run_pure];refine Aa1 (Ac1 ?_);dsimp only;refine Aa1 (seqEpoch_at o3 rfl ?_);refine Aa1 (listUpdate_at o3 rfl ?_ (hsz2:=Ba0 (Nat.le_of_eq ((Array.size_map ..).trans (pairsOf_size _))) (by rw[sizeLine_eq];omega)));simp only[bne_self_eq_false,Bw0,if_false];exact Ac1 (fin (SortSt.mk' general' (vs.toArray.zip vs.toArray) #[] 7 none) (Array.Perm.refl _) (Up.one (by rw[pairsOf_size];omega)))
 ·rw[if_neg h2,if_neg h2]
  refine Aa1 (xk6 (s:={ s with heap:=Up1 s.heap a vs }) (λv m=>(hv v m).imp λp z=>z.up1 o1) (λe=>by subst e;simp at h2) ?_);refine Aa1 (Ah1 (wa9 (s:={ s with heap:=Up1 s.heap a vs }) (a₀:=pairsOf vs) (st:=SortSt.mk' (tuples' true) (vs.toArray.zip vs.toArray) #[] 7 none) (Q:=λ_ st'=>(arrOf st').Perm (pairsOf vs)/\failedOf st'=none/\Up (vf4 (Up1 s.heap a vs)) (arrOf st') 0 (pairsOf vs).size) xv4 (λp hp=>?_) ⟨Array.Perm.refl _,rfl,rfl,rfl⟩ (by rw[pairsOf_size];omega) (by rw[pairsOf_size];exact h128) λst' a1 a2 a3=>⟨a1,a2,a3⟩) ?_ λ_ _ e=>e)
  ·rw[pairsOf_toList] at hp
   obtain⟨q,z⟩:=hv _ (mem_zip_self hp).2;exact⟨q,(z.up1 o1).key⟩
  ·rintro ⟨⟨⟩,st'⟩ s' ⟨rfl,hp,hf,hs⟩
   dsimp only;refine Aa1 (seqEpoch_at o3 rfl ?_);refine Aa1 (listUpdate_at o3 rfl ?_ (hsz2:=Ba0 (Nat.le_of_eq ((Array.size_map ..).trans (hp.size_eq.trans (pairsOf_size _)))) (by rw[sizeLine_eq];omega)));rw[hf];simp only[bne_self_eq_false,Bw0,if_false];exact Ac1 (fin st' hp hs)
def yr7{l:Addr}{vs:List Value}{Q:Value->Shared->Prop}(hl:s.heap.IsList l vs.toArray)(hv:∀v∈vs,∃p,wr5 s.heap v p)(h128:vs.length<128)(h:∀out:Array Value,out.toList.Perm vs->out.toList.Pairwise (λx y=>lxle (wt8 s.heap x) (wt8 s.heap y))->Q (.ref (s.heap.objs.size+1)) { s with heap:=sortedAll s.heap vs out }) :
 wpAny (model prog w) A (call (.builtin "sorted") [.ref l]) Q E s:=by
 refine Calls.call_function_entry kind_sorted plain_sorted entry_sorted (args_sorted1 _) ?_;unfold Builtin.«sorted»;refine Aa1 (m:=checkCount "sorted" 1 1 _) (Ac1 (Aa1 (collect_list hl ?_ (by rw[sizeLine_eq];omega))));refine Aa1 (wpAny_newList ?_);have sz:((s.heap.push (seqObj "list" #[] 0)).update s.heap.objs.size (Obj.mapSeq (·++vs.toArray))).objs.size=s.heap.objs.size+1:=by
  rw[Heap.size_update,size_push']
 have o1:(((s.heap.push (seqObj "list" #[] 0)).update s.heap.objs.size (Obj.mapSeq (·++vs.toArray))).push (seqObj "list" vs.toArray 0)).get? (s.heap.objs.size+1)=some (seqObj "list" vs.toArray 0):=by
  rw[<-sz];exact Af0 _ rfl
 show wpAny _ _ _ _ _ { s with heap:=((s.heap.push (seqObj "list" #[] 0)).update s.heap.objs.size (Obj.mapSeq (·++vs.toArray))).push (seqObj "list" vs.toArray 0) };rw[sz];generalize hH:((s.heap.push (seqObj "list" #[] 0)).update s.heap.objs.size (Obj.mapSeq (·++vs.toArray))).push (seqObj "list" vs.toArray 0)=H1 at o1 ⊢;have old:∀b o,s.heap.get? b=some o->H1.get? b=some o:=λb o g=>by
  have hb:=Heap.lt_size g;rw[<-hH,Cy0 _ _ _ (by rw[sz];exact As0 (Nat.lt_succ_of_lt hb)),Heap.get?_update_ne _ _ _ _ (As0 hb),Cy0 _ _ _ (As0 hb)];exact g
 have keep:∀v p,wr5 s.heap v p->wr5 H1 v p:=λv p z=>by
  obtain⟨b,o,m,t,u,rfl,g,c,d⟩:=z;exact⟨b,o,m,t,u,rfl,old _ _ g,c,d⟩
 have ke:∀v∈vs,wt8 H1 v=wt8 s.heap v:=λv m=>by
  obtain⟨p,z⟩:=hv v m;unfold wt8;rw[z.key,(keep _ _ z).key]
 refine Aa1 (wpAny_holding (Ak1 slot_list_sort ⟨_,o1,rfl⟩ entry_list_sort (yb6 (s:={ s with heap:=H1 }) o1 (λv m=>(hv v m).imp λp z=>keep v p z) h128 λout a1 a2=>⟨_,rfl,?_⟩) (args_list_sort _)));refine Ac1 ⟨_,rfl,?_⟩;have:=h out a1 (a2.imp_of_mem λ{x y} hx hy q=>by
  rw[<-ke x (a1.mem_iff.mp hx),<-ke y (a1.mem_iff.mp hy)];exact q)
 unfold sortedAll at this;rw[hH] at this;exact this
end
end Ts
namespace L2
open PySem PySem.Spec PyProof PyProof.Rows Ts
theorem yc3{α β:Type}{F:α->β->Prop}{bs bs':List β}(p:bs'.Perm bs):∀{as:List α},Paired F as bs->∃as',as'.Perm as/\Paired F as' bs':=by
 induction p with
 | nil=>intro as h;exact⟨as,.refl _,h⟩
 | cons x _ ih=>
   intro as h;cases h with
   | cons h1 h2=>
     obtain⟨as',p',h'⟩:=ih h2;exact⟨_,p'.cons _,.cons h1 h'⟩
 | swap x y l=>
   intro as h;cases h with
   | cons h1 h2=>cases h2 with
     | cons h3 h4=>exact⟨_,List.Perm.swap ..,.cons h3 (.cons h1 h4)⟩
 | trans _ _ ih1 ih2=>
   intro as h;obtain⟨as1,p1,h1⟩:=ih2 h;obtain⟨as2,p2,h2⟩:=ih1 h1;exact⟨as2,p2.trans p1,h2⟩
noncomputable abbrev P2:=Int×Int
noncomputable def lxB(a b:P2):Bool:=decide (a.1<b.1\/a.1=b.1/\a.2<=b.2)
noncomputable def vi5(a:P2):List P2->List P2
 | []=>[a]
 | b::l=>if lxB a b then a::b::l else b::vi5 a l
noncomputable def wr6(l:List P2):List P2:=l.foldr vi5 []
theorem yd6(a:P2):∀l,(vi5 a l).Perm (a::l)
 | []=>.refl _
 | b::l=>by
   unfold vi5;split
   ·exact .refl _
   ·exact((yd6 a l).cons b).trans (List.Perm.swap ..)
theorem zg1:∀l,(wr6 l).Perm l
 | []=>.refl _
 | a::l=>(yd6 a (wr6 l)).trans ((zg1 l).cons a)
def xb9(h1:lxle a b)(h2:lxle b c):lxle a c:=by unfold lxle at *;omega
def xk0(h1:lxle a b)(h2:lxle b a):a=b:=by unfold lxle at *;exact Prod.ext (by omega) (by omega)
open H in
theorem xm0(a:P2):∀l,l.Pairwise lxle->(vi5 a l).Pairwise lxle
 | [],_=>List.pairwise_singleton _ _
 | b::l,h=>by
   have h':=Cg0.mp h;unfold vi5;split
   ·rename_i q
    have q:lxle a b:=(of_decide_eq_true q:a.1<b.1\/a.1=b.1/\a.2<=b.2);refine Cg0.mpr ⟨λx hx=>?_,h⟩;rcases Aj0.mp hx with rfl | hx
    ·exact q
    ·exact xb9 q (h'.1 x hx)
   ·rename_i q
    have q:lxle b a:=by
     have:¬(a.1<b.1\/a.1=b.1/\a.2<=b.2):=λz=>q (Ap1 z)
     unfold lxle;omega
    refine Cg0.mpr ⟨λx hx=>?_,xm0 a l h'.2⟩;rcases Aj0.mp ((yd6 a l).mem_iff.mp hx) with rfl | hx
    ·exact q
    ·exact h'.1 x hx
theorem yi5:∀l,(wr6 l).Pairwise lxle
 | []=>List.Pairwise.nil
 | a::l=>xm0 a _ (yi5 l)
def zw1(p:m.Perm l)(u:m.Pairwise lxle):m=wr6 l:=
 (p.trans (zg1 l).symm).eq_of_pairwise (λa b _ _ h1 h2=>xk0 h1 h2) u (yi5 l)
noncomputable abbrev PrV(H:Hp):List V->List P2->Prop:=Paired λv p=>∃b,v=.ref b/\H b=some (.tup [.int p.1,.int p.2])
section
variable{X:Cx}{S:Type}{W:Wd S}{c:Dx W}{g ga gb gc:Gr}{a b:Expr}{fa fb fc:Fn S}{pos p2:Pos}
def yq1:wu0 X (.builtin "sorted") (λxs H Q=>∃(a:Addr) (vs:List V) (ps:List P2),xs=[.ref a]/\SqL X.K H a vs/\PrV H vs ps/\ps.length<128/\∀p vs',H p=none->PrV H vs' (wr6 ps)->Q (.ref p) (upd H p (.lst vs'))):=by
 intro A3 s σ H xs us Q I r h;obtain⟨a,vs,ps,rfl,hq,hp,h128,q⟩:=h;obtain⟨u,rfl,r1⟩:=wv6 r;cases r1;obtain⟨its,rv,pl,hz⟩:=I.list hq;have three:∀{vs:List V} {its:List Value} {ps:List P2},wr4 vs its->PrV H vs ps->Paired (λv u=>wr3 v u/\∃p,(∃b,v=.ref b/\H b=some (.tup [.int p.1,.int p.2]))/\wr5 s.heap u p) vs its/\its.map (wt8 s.heap)=ps:=by
  intro vs its ps rv;induction rv generalizing ps with
  | nil=>intro hp;cases hp;exact⟨.nil,rfl⟩
  | cons r1 _ ih=>
    intro hp;cases hp with
    | cons z hp=>
      obtain⟨i1,i2⟩:=ih hp;obtain⟨b,e,hb⟩:=z;have r0:=r1;rw[e] at r0;obtain⟨js,rj,⟨o,g,cl,n,d⟩,_⟩:=I.tuple (SqT.of hb);cases rj with
      | cons x1 rj=>cases rj with
        | cons x2 rj=>
          cases rj;obtain⟨t1,rfl⟩:=x1;obtain⟨t2,rfl⟩:=x2;have tw:wr5 s.heap (.ref b) _:=⟨b,o,n,t1,t2,rfl,g,cl,d⟩;cases r0;refine⟨.cons ⟨r1,_,⟨b,e,hb⟩,tw⟩ i1,?_⟩;rw[Ax0,i2];unfold wt8;rw[tw.key];rfl
 obtain⟨t3,ek⟩:=three rv hp;have hm:∀{vs:List V} {its:List Value},Paired (λv u=>wr3 v u/\∃p,(∃b,v=.ref b/\H b=some (.tup [.int p.1,.int p.2]))/\wr5 s.heap u p) vs its->(∀v∈its,∃p,wr5 s.heap v p)/\wr4 vs its/\PrV H vs (its.map (wt8 s.heap)):=by
  intro vs its z;induction z with
  | nil=>exact⟨λv m=>absurd m (by simp),.nil,.nil⟩
  | cons y _ ih=>
    obtain⟨r1,p,z,tw⟩:=y;refine⟨λv m=>?_,.cons r1 ih.2.1,.cons ?_ ih.2.2⟩
    ·rcases Aj0.mp m with rfl | m
     ·exact⟨p,tw⟩
     ·exact ih.1 v m
    ·unfold wt8;rw[tw.key];exact z
 have hl:=rv.length;have hl2:=Paired.length hp;refine yr7 pl.isList (hm t3).1 (by omega) λout p1 u1=>?_
 obtain⟨vs',pv,t3'⟩:=yc3 p1 t3;have es:out.toList.map (wt8 s.heap)=wr6 ps:=zw1 (by rw[<-ek];exact p1.map _) (by rw[Cd0];exact u1);obtain⟨_,r2,w2⟩:=hm t3';rw[es] at w2;obtain⟨e,he⟩:=sortedAll_at s.heap its out;refine⟨.ref (s.heap.objs.size+1),_,I.laid (t':=s.toks) (a:=s.heap.objs.size+1) (o:=.lst vs') (λb o e=>sortedAll_old e) (Nat.le_succ _) ?_,rfl,q _ _ (I.hok.fresh (Nat.le_succ _)) w2⟩;exact⟨by rw[pv.length_eq];exact Ce0 (zp6 (by omega)),out.toList,e,r2,he⟩
noncomputable abbrev prD(p:P2):D:=.tup [.int p.1,.int p.2]
noncomputable def wt1:List D->Option (List P2)
 | []=>some []
 | .tup [.int x,.int y]::l=>(wt1 l).map λr=>(x,y)::r
 | _=>none
theorem zq3:∀ps:List P2,wt1 (ps.map prD)=some ps
 | []=>rfl
 | p::ps=>by rw[Ax0];unfold wt1;rw[zq3 ps];rfl
open H in
theorem yi9{K:PySem.W.Frag}{A:Addr->Prop}{H:Hp}:∀{l:List D} {vs:List V} {ps:List P2},wt1 l=some ps->IsL K A H l vs->PrV H vs ps
 | [],vs,ps,e,h=>by cases e;rw[IsL.nil.mp h];exact .nil
 | d::l,vs,ps,e,h=>by
   obtain⟨v,r,e1,i1,i2⟩:=IsL.cons.mp h;unfold wt1 at e;split at e
   ·rename_i he;cases he
   ·rename_i x y m he
    cases he;cases q:wt1 l with
    | none=>rw[q] at e;cases e
    | some rs=>
      rw[q] at e;cases e;obtain⟨b,ws,e2,hb,i3⟩:=Is.tup_iff.mp i1;obtain⟨v1,r1,e3,j1,j2⟩:=IsL.cons.mp i3;obtain⟨v2,r2,e4,j3,j4⟩:=IsL.cons.mp j2;rw[Is.int_iff.mp j1] at e3;rw[Is.int_iff.mp j3,IsL.nil.mp j4] at e4;rw[e1];refine .cons ⟨b,e2,?_⟩ (yi9 q i2);rw[hb,e3,e4]
   ·cases e
theorem yv6{K:PySem.W.Frag}{A:Addr->Prop}{H:Hp}:∀{ps:List P2} {vs:List V},PrV H vs ps->IsL K A H (ps.map prD) vs
 | _,_,.nil=>IsL.nil.mpr rfl
 | _,_,.cons h t=>IsL.cons.mpr ⟨_,_,rfl,by
   obtain⟨b,e,hb⟩:=h;rw[e];exact Is.tup hb (IsL.cons.mpr ⟨_,_,rfl,Is.int_iff.mpr rfl,IsL.cons.mpr ⟨_,_,rfl,Is.int_iff.mpr rfl,IsL.nil.mpr rfl⟩⟩),yv6 t⟩
theorem zv8:∀ps:List P2,D.immL (ps.map prD)=true
 | []=>rfl
 | n::ns=>by simp[D.immL,D.imm,zv8 ns]
noncomputable def xj4:List D->Option D
 | [.lst l]=>(wt1 l).bind λps=>if ps.length<128 then some (.lst ((wr6 ps).map prD)) else none
 | _=>none
open H in
def xv6{K:PySem.W.Frag}(hK:c.K=K):wu3 c (λxs H Q=>∃(a:Addr) (vs:List V) (ps:List P2),xs=[.ref a]/\SqL K H a vs/\PrV H vs ps/\ps.length<128/\∀p vs',H p=none->PrV H vs' (wr6 ps)->Q (.ref p) (upd H p (.lst vs'))) xj4:=by
 subst hK;intro l vs H st d Q ok z e q;unfold xj4 at e;split at e
 ·rename_i m
  cases qq:wt1 m with
  | none=>rw[qq] at e;cases e
  | some ps=>
    rw[qq] at e;have e:(if ps.length<128 then some (D.lst ((wr6 ps).map prD)) else none)=some d:=e;split at e
    ·rename_i h128
     cases e;obtain⟨v,r,e1,i1,i2⟩:=IsL.cons.mp z;obtain⟨a,us,ea,_,s1,i3⟩:=Is.lst_iff.mp i1;rw[IsL.nil.mp i2,ea] at e1;exact⟨a,us,ps,e1,.of s1,yi9 qq i3,h128,λp vs' hp w=>q _ _ (Ext.laid hp) (zg6 ok hp) (New.lst ok hp (λ_ n=>n) (zv8 _) (yv6 (A:=λb=>¬W.mv b) w))⟩
    ·cases e
 ·cases e
end
end L2
namespace HT
open PySem PyProof PyProof.Rows
section
variable{prog:Program}{w:World}{A:Around}{E:Value->Shared->Prop}{s:Shared}
end
end HT
namespace L2
open PySem PySem.Spec PyProof PyProof.Rows
section
variable{X:Cx}{S:Type}{W:Wd S}{c:Dx W}{g ga gb gc:Gr}{a b:Expr}{fa fb fc:Fn S}{pos p2:Pos}
end
end L2
namespace HT
open PySem PyProof PyProof.Rows Ts
section
variable{prog:Program}{w:World}{A:Around}{R:Result->Shared->Prop}{I:Addr}{fp wr:List Addr}{n:Nat}{P:Nat->Value->Prop}{St:Nat->Heap->Prop}{base:Heap}{E:Value->Shared->Prop}{s:Shared}
def wr5.tup{h:Heap}{v:Value}{p:Int×Int}(z:wr5 h v p):∃a items,v=.ref a/\IsTup h a items/\IntsAre items.toList [p.1,p.2]:=by
 obtain⟨a,o,n,t,u,rfl,g,c,d⟩:=z;exact⟨a,_,rfl,⟨o,g,c,n,d⟩,.cons _ _ (.cons _ _ .nil)⟩
end
end HT
namespace L2
open PySem PySem.Spec PyProof PyProof.Rows Ts
section
variable{X:Cx}{S:Type}{W:Wd S}{c:Dx W}{g ga gb gc:Gr}{a b:Expr}{fa fb fc:Fn S}{pos p2:Pos}
end
def g0{α:Type}{a:α}{l:List α}:(a::l)[0]?=some a:=rfl
def gS{α:Type}{a:α}{l:List α}{i:Nat}:(a::l)[i+1]?=l[i]?:=rfl
def s0{α:Type}{a b:α}{l:List α}:(a::l).set 0 b=b::l:=rfl
def sS{α:Type}{a b:α}{l:List α}{i:Nat}:(a::l).set (i+1) b=a::l.set i b:=rfl
def lC{α:Type}{a:α}{l:List α}:(a::l).length=l.length+1:=rfl
def lN{α:Type}:([]:List α).length=0:=rfl
def rl1_{α:Type}{i:Nat}:([]:List α)[i]?=none:=rfl
def rl2_{α β:Type}{f:α->β}{a:α}{l:List α}:(a::l).map f=f a::l.map f:=rfl
def rl3_{α β:Type}{f:α->β}:([]:List α).map f=[]:=rfl
def rl4_{α β:Type}{a:α}{f:α->Option β}:(some a).bind f=f a:=rfl
def rl5_{α:Type}{a:α}{o:Option α}:(some a).or o=some a:=rfl
def rl6_{α:Type}{o:Option α}:(none:Option α).or o=o:=rfl
def rl7_{α:Type}{a:α}:List.replicate 0 a=[]:=rfl
def rl8_{α:Type}{a:α}{n:Nat}:List.replicate (n+1) a=a::List.replicate n a:=rfl
def rl9_{α:Type}{a:α}{l m:List α}:(a::l)++m=a::(l++m):=rfl
def rl0_{α:Type}{l:List α}:[]++l=l:=rfl
def EV_:(type_of% @D.bl.injEq)/\(type_of% @D.int.injEq)/\(type_of% @D.str.injEq)/\(type_of% @Nat.zero_add)/\(type_of% @if_true.{1})/\(type_of% @if_false.{1})/\(type_of% @Bool.and_true)/\(type_of% @Bool.true_and)/\(type_of% @Bool.and_self)/\(type_of% @Bool.false_eq_true)/\(type_of% @Option.some.injEq.{0})/\(type_of% @exists_eq_left'.{1})/\(type_of% @exists_eq_left.{1})/\(type_of% @exists_eq_right.{1})/\(type_of% @true_or)/\(type_of% @or_true)/\(type_of% @true_and)/\(type_of% @and_true)/\(type_of% @Bool.not_true)/\(type_of% @Bool.not_false):=
 ⟨@D.bl.injEq,@D.int.injEq,@D.str.injEq,@Nat.zero_add,@if_true.{1},@if_false.{1},@Bool.and_true,@Bool.true_and,@Bool.and_self,@Bool.false_eq_true,@Option.some.injEq.{0},@exists_eq_left'.{1},@exists_eq_left.{1},@exists_eq_right.{1},@true_or,@or_true,@true_and,@and_true,@Bool.not_true,@Bool.not_false⟩
section
variable{S:Type}{X:Cx}{W:Wd S}{c:Dx W}{g:Gr}{e:Expr}{es:List Expr}{o:D->D->Option D}{p q:Rho->Option D}{oA:List D->Option D}{qa:Rho->Option (List D)}{T:Bt}
noncomputable def fP(S:Type)(p:Rho->Option D):Fn S:=λρ st=>ws3 (p ρ) st
noncomputable def aP(S:Type)(q:Rho->Option (List D)):FnA S:=λρ st=>ws3 (q ρ) st
noncomputable def tP(S:Type)(q:Rho->Option Bool):FnT S:=λρ st=>ws3 (q ρ) st
noncomputable def vr(i:Nat):Rho->Option D:=λρ=>rd ρ i
noncomputable def cn(d:D):Rho->Option D:=λ_=>some d
noncomputable def o2(o:D->D->Option D)(p q:Rho->Option D):Rho->Option D:=λρ=>(p ρ).bind λa=>(q ρ).bind λb=>o a b
noncomputable def nl:Rho->Option (List D):=λ_=>some []
noncomputable def cs(p:Rho->Option D)(q:Rho->Option (List D)):Rho->Option (List D):=λρ=>(p ρ).bind λa=>(q ρ).bind λl=>some (a::l)
noncomputable def o1(o:List D->Option D)(q:Rho->Option (List D)):Rho->Option D:=λρ=>(q ρ).bind o
noncomputable def ti(T:Bt)(p:Rho->Option D):Rho->Option D:=λρ=>(p ρ).bind λd=>some (.bl (isI T d))
noncomputable def tb(p:Rho->Option D):Rho->Option Bool:=λρ=>(p ρ).bind D.bool?
open H in
theorem vw0{o:D->D->Option D}{p q:Rho->Option D}:f2 S o (fP S p) (fP S q)=fP S (o2 o p q):=by
 funext ρ st;unfold f2 fP o2;cases p ρ with
 | none=>rfl
 | some a=>cases q ρ<;>rfl
open H in
theorem wi0{p:Rho->Option D}{q:Rho->Option (List D)}:wt6 S (fP S p) (aP S q)=aP S (cs p q):=by
 funext ρ st;unfold wt6 fP aP cs;cases p ρ with
 | none=>rfl
 | some a=>cases q ρ<;>rfl
open H in
def vz5{o:List D->Option D}{q:Rho->Option (List D)}:fA S o (aP S q)=fP S (o1 o q):=by
 funext ρ st;unfold fA fP aP o1;cases q ρ<;>rfl
open H in
def vr9{T:Bt}{p:Rho->Option D}:fIs S T (fP S p)=fP S (ti T p):=by
 funext ρ st;unfold fIs fP ti;cases p ρ<;>rfl
open H in
def vz4{p:Rho->Option D}:fB S (fP S p)=tP S (tb p):=by
 funext ρ st;unfold fB fP tP tb;cases p ρ<;>rfl
def wp_fP{p:Rho->Option D}{ρ:Rho}{st:S}{Q:D->S->Prop}{E:Exn->S->Prop}:wpR (fP S p ρ st) Q E↔wpR (ws3 (p ρ) st) Q E:=Iff.rfl
def wp_aP{p:Rho->Option (List D)}{ρ:Rho}{st:S}{Q:List D->S->Prop}{E:Exn->S->Prop}:wpR (aP S p ρ st) Q E↔wpR (ws3 (p ρ) st) Q E:=Iff.rfl
def wp_tP{p:Rho->Option Bool}{ρ:Rho}{st:S}{Q:Bool->S->Prop}{E:Exn->S->Prop}:wpR (tP S p ρ st) Q E↔wpR (ws3 (p ρ) st) Q E:=Iff.rfl
def boS{α β:Type}{a:α}{f:α->Option β}:(some a).bind f=f a:=rfl
def dbb{b:Bool}:D.bool? (.bl b)=some b:=rfl
def za2{i j pos}:DE X c g (.Constant (.int i) j pos) (fP S (cn (.int i))):=wp7
def zd5{x j pos}:DE X c g (.Constant (.str x) j pos) (fP S (cn (.str x))):=wp4
def zl8{i j pos}:DE X c g (.Constant (.bool i) j pos) (fP S (cn (.bl i))):=vs4
def ye5{j pos}:DE X c g (.Constant .none j pos) (fP S (cn .non)):=wp6
def za0{i:Nat}{x:Str}{pos:Pos}(h:PE X (.Name x pos) (wy6 i)):DE X c .R (.Name x pos) (fP S (vr i)):=wp3 h
def yy4{x:Str}{i:Int}{pos:Pos}(hc:∃t,X.mg x=some (.int i t))(hg:Gl X x)(hd:(x == ("__debug__" : Str))=false:=by decide):DE X c g (.Name x pos) (fP S (cn (.int i))):=xv1 hc hg hd
def za1:DA X c [] (aP S nl):=wp9
def g2_(h:DE X c g e (f2 S o (fP S p) (fP S q))):DE X c g e (fP S (o2 o p q)):=vw0▸h
def gA_(h:DE X c g e (fA S oA (aP S qa))):DE X c g e (fP S (o1 oA qa)):=vz5▸h
def gI_(h:DE X c g e (fIs S T (fP S p))):DE X c g e (fP S (ti T p)):=vr9▸h
def gC_(h:DA X c es (wt6 S (fP S p) (aP S qa))):DA X c es (aP S (cs p qa)):=wi0▸h
def gB_(h:DT X c e (fB S (fP S p))):DT X c e (tP S (tb p)):=vz4▸h
def gT_{e:Expr}(h:DT X c e (fB S (f2 S o (fP S p) (fP S q)))):DT X c e (tP S (tb (o2 o p q))):=gB_ (vw0▸h)
end
def wa4{S:Type}{F G:FnS S}{ρ:Rho}{st:S}{Q:Fl->S->Prop}{E:Exn->S->Prop}(h:∀P:Fl->S->Prop,(∀ρ1 st1,wpR (G ρ1 st1) Q E->P (.nx ρ1) st1)->(∀d st1,Q (.rt d) st1->P (.rt d) st1)->(∀r st1,Q (.bk r) st1->P (.bk r) st1)->(∀r st1,Q (.ct r) st1->P (.ct r) st1)->wpR (F ρ st) P E):wpR (vi1 S F G ρ st) Q E:=
 zb5.mpr (h _ (λ_ _ z=>z) (λ_ _ z=>z) (λ_ _ z=>z) (λ_ _ z=>z))
section
variable{X:Cx}{S:Type}{W:Wd S}{c:Dx W}{g:Gr}{e a b:Expr}{es:List Expr}{o:D->D->Option D}{p q:Rho->Option D}{qa:Rho->Option (List D)}{pos:Pos}{f fa fb:Fn S}{rr:FnA S}{ga gb gc:Gr}{fc:Fn S}{p2:Pos}{fk:Fn S}{ρ:Rho}{st:S}{Q:D->S->Prop}{E:Exn->S->Prop}{tg:Expr}
def wr1{x:Str}(h:DE X c .R (.Name x pos) (fP S p))(hr:DA X c es (aP S qa)):DA X c (.Name x pos::es) (aP S (cs p qa)):=gC_ (zh4 h hr)
def vi6{x:Str}(h:DE X c .R (.Name x pos) f)(hr:DA X c es rr):DA X c (.Name x pos::es) (wt6 S f rr):=zh4 h hr
def wr7{k:Const}{j}(h:DE X c .R (.Constant k j pos) (fP S p))(hr:DA X c es (aP S qa)):DA X c (.Constant k j pos::es) (aP S (cs p qa)):=gC_ (zh4 h hr)
def vd4{k:Const}{j}(h:DE X c .R (.Constant k j pos) f)(hr:DA X c es rr):DA X c (.Constant k j pos::es) (wt6 S f rr):=zh4 h hr
def wu5{a b:Expr}(h:DE X c .R (.Subscript a b pos) (fP S p))(hr:DA X c es (aP S qa)):DA X c (.Subscript a b pos::es) (aP S (cs p qa)):=gC_ (zh4 h hr)
def vn3{a b:Expr}(h:DE X c .R (.Subscript a b pos) f)(hr:DA X c es rr):DA X c (.Subscript a b pos::es) (wt6 S f rr):=zh4 h hr
def va5{as:List Expr}{x1}(h:DE X c .R (.Tuple as x1 pos) (fP S p))(hr:DA X c es (aP S qa)):DA X c (.Tuple as x1 pos::es) (aP S (cs p qa)):=gC_ (zh4 h hr)
def vz3{as:List Expr}{x1}(h:DE X c .R (.Tuple as x1 pos) f)(hr:DA X c es rr):DA X c (.Tuple as x1 pos::es) (wt6 S f rr):=zh4 h hr
def vf2{a:Expr}{as:List Expr}{ks}(h:DE X c .R (.Call a as ks pos) (fP S p))(hr:DA X c es (aP S qa)):DA X c (.Call a as ks pos::es) (aP S (cs p qa)):=gC_ (zh4 h hr)
def vf1{a:Expr}{as:List Expr}{ks}(h:DE X c .R (.Call a as ks pos) f)(hr:DA X c es rr):DA X c (.Call a as ks pos::es) (wt6 S f rr):=zh4 h hr
def wz2{a b:Expr}{op}(h:DE X c .R (.BinOp a op b pos) (fP S p))(hr:DA X c es (aP S qa)):DA X c (.BinOp a op b pos::es) (aP S (cs p qa)):=gC_ (zh4 h hr)
def va4{a b:Expr}{op}(h:DE X c .R (.BinOp a op b pos) f)(hr:DA X c es rr):DA X c (.BinOp a op b pos::es) (wt6 S f rr):=zh4 h hr
def vr5{a:Expr}{op}(h:DE X c .R (.UnaryOp op a pos) f)(hr:DA X c es rr):DA X c (.UnaryOp op a pos::es) (wt6 S f rr):=zh4 h hr
def vd3{a:Expr}{gs scope}(h:DE X c .R (.ListComp a gs scope pos) f)(hr:DA X c es rr):DA X c (.ListComp a gs scope pos::es) (wt6 S f rr):=zh4 h hr
def vv5{a:Expr}{ops bs}(h:DE X c .R (.Compare a ops bs pos) f)(hr:DA X c es rr):DA X c (.Compare a ops bs pos::es) (wt6 S f rr):=zh4 h hr
def gU_{x1}(h:DA X c es (aP S qa)):DE X c g (.Tuple es x1 pos) (fP S (o1 wx3 qa)):=gA_ (zt6 h)
def gL_(h:DA X c es (aP S qa)):DE X c g (.List es pos) (fP S (o1 vb9 qa)):=gA_ (yp6 h)
def gX_(h:c.K=X.K)(ha:DE X c .R a (fP S p))(hb:DE X c .R b (fP S q))(hs:yf1 b):DE X c g (.Subscript a b pos) (fP S (o2 oIx p q)):=g2_ (vl8 xy6 (vk8 h) ha hb hs)
def gY_(h:c.K=X.K)(ha:DE X c .R a fa)(hb:DE X c .R b fb)(hs:yf1 b):DE X c g (.Subscript a b pos) (f2 S oIx fa fb):=vl8 xy6 (vk8 h) ha hb hs
def gP_(h:c.K=X.K)(ha:DE X c .R a (fP S p))(hb:DE X c .R b (fP S q)):DE X c g (.BinOp a .Add b pos) (fP S (o2 ws0 p q)):=g2_ (ws8 xj1 (xj3 h) ha hb)
def gp_(h:c.K=X.K)(ha:DE X c .R a fa)(hb:DE X c .R b fb):DE X c g (.BinOp a .Add b pos) (f2 S ws0 fa fb):=ws8 xj1 (xj3 h) ha hb
end
section
variable{prog:Program}{w:World}{A:Around}{E:Value->Shared->Prop}{s:Shared}{X:Cx}{tg:Expr}{S:Type}{W:Wd S}{c:Dx W}{g:Gr}
end
section
variable{S:Type}{ρ:Rho}{st:S}{Q:D->S->Prop}{E:Exn->S->Prop}{out:Str}{f:Fn S}{fs:List (Fn S)}
end
open PySem PySem.Spec PyProof PyProof.Rows
section
variable{X:Cx}{S:Type}{W:Wd S}{c:Dx W}{i j:Nat}{ρ:Rho}{st:S}{Q:Fl->S->Prop}{E:Exn->S->Prop}{g:Gr}
noncomputable def vm4(S:Type)(i j:Nat):FnS S:=λρ st=>match wr8 ρ j with
 | some l=>match l.getLast? with
   | some d=>(ws3 (put (ρ.set j (.own (.lst l.dropLast))) i d) st).bind λρ' st2=>.ok (.nx ρ') st2
   | none=>.bad
 | none=>.bad
def IsL.dropLast{K:PySem.W.Frag}{A:Addr->Prop}{H:Hp}{l:List D}{vs:List V}(h:IsL K A H l vs):IsL K A H l.dropLast vs.dropLast:=by
 rw[List.dropLast_eq_take,List.dropLast_eq_take,h.length];exact h.take _
theorem zv9:∀{l:List D} {d:D},D.immL l=true->d∈l->d.imm=true
 | [],_,_,h=>nomatch h
 | a::l,d,m,h=>by
   have m':a.imm=true/\D.immL l=true:=by simpa [D.immL] using m
   rcases Aj0.mp h with e | h
   ·rw[e];exact m'.1
   ·exact zv9 m'.2 h
def wo8{x y:Str}(hN:X.N.Nodup)(hi:X.N[i]?=some y)(hy:Loc X.env.scope y)(hx:PE X (.Name x p1) (wy6 j))(hbase:attributeBase (.Name x p1) "pop" X.env (eval (.Name x p1) X.env)=eval (.Name x p1) X.env:=by rfl)(hline:(p2.endLine == p3.line)=true:=by rfl)(hs:swapsWith (.Call (.Attribute (.Name x p1) "pop" p2) [] [] p3) (some (.Name y p4)) pos.line X.env=pure false:=by rfl)(hf:X.fn y=true\/X.env.scope.names.lookup y=some .local:=by first | exact .inl rfl | exact .inr rfl | assumption) :
 DS X c (.Assign [.Name y p4] (.Call (.Attribute (.Name x p1) "pop" p2) [] [] p3) pos) (vm4 S i j):=
 (zt3 hN hi hy (xx7 PySem.F.plainAttrs_list PySem.F.slot_list_pop PySem.F.type_list_pop wm2 hx hbase hline) hs hf).imp λD σ H hI42=>by
  obtain⟨ρ,st,R,ok,w⟩:=hI42;unfold vm4 at w;cases q:wr8 ρ j with
  | none=>rw[q] at w;exact w.elim
  | some l=>
    rw[q] at w;cases ql:l.getLast? with
    | none=>simp only[ql] at w;exact w.elim
    | some d=>
      simp only[ql] at w;obtain⟨ρ',ep,w⟩:=zb2.mp (za5.mp w);obtain⟨a,vs,ea,eH,z,nm⟩:=R.lstAt q;obtain⟨es,im⟩:=zr1 q;have hl:l[l.length-1]?=some d:=by rw[<-List.getLast?_eq_getElem?];exact ql
      obtain⟨v,hv,zv⟩:=z.get hl;rw[z.length] at hv;obtain⟨R1,F1⟩:=R.wr (d':=.lst l.dropLast) (o:=.lst vs.dropLast) es ea ⟨(λu z=>by cases z),(λob u z=>by cases z)⟩ λk=>⟨vs.dropLast,zb3,IsL.mono k z.dropLast⟩
      have di:d.imm=true:=zv9 im (List.mem_of_getLast? ql);have ks:∀b o,H b=some o->vt7 o->upd H a (.lst vs.dropLast) b=some o:=λb o h s=>by
       by_cases e:b=a
       ·subst e;rw[eH] at h;cases h;rcases s with⟨u,e⟩ | ⟨ob,u,e⟩<;>cases e
       ·rw[za9 e];exact h
      have kt:wr9 (λ_=>False) (λ_=>False) H (upd H a (.lst vs.dropLast)):=⟨ks,λ_ _ f=>False.elim f⟩;have zv':Is c.K (λ_=>False) (upd H a (.lst vs.dropLast)) d v:=Is.mono kt (Is.ofImm di zv);obtain⟨l1,rfl⟩:=zm2 ep;have R2:=R1.setB l1 (show Is c.K (Av c σ (ρ.set j (.own (.lst l.dropLast)))) (upd H a (.lst vs.dropLast)) d v from Is.ofImm di zv');exact⟨.ref a,ea,.inl ⟨rfl,vs,.of eH⟩,a,vs,v,rfl,rfl,eH,hv,w _ _ (F1.trans zg2) (yc7 ok nm) R2⟩
theorem wa7:wpR (vm4 S i j ρ st) Q E↔∃l d ρ',wr8 ρ j=some l/\l.getLast?=some d/\put (ρ.set j (.own (.lst l.dropLast))) i d=some ρ'/\Q (.nx ρ') st:=by
 unfold vm4;cases q:wr8 ρ j with
 | none=>exact⟨λh=>h.elim,λ⟨l,d,ρ',e,_⟩=>by cases e⟩
 | some l=>
   cases ql:l.getLast? with
   | none=>simp only[ql];exact⟨λh=>h.elim,λ⟨l',d,ρ',e,e2,_⟩=>by cases e;rw[ql] at e2;cases e2⟩
   | some d=>
     simp only[ql];rw[za5,zb2];constructor
     ·rintro ⟨ρ',e,h⟩;exact⟨l,d,ρ',rfl,ql,e,h⟩
     ·rintro ⟨l',d',ρ',e,e2,e3,h⟩
      cases e;rw[ql] at e2;cases e2;exact⟨ρ',e3,h⟩
noncomputable def wj4(tk tv:TE):TE:=λσ H Q=>∀p,H p=none->ym1 [(tk,tv)] σ (upd H p (.dT [])) λps H2=>∃ks b y,ps=[(.ref b,y)]/\H2 b=some (.tup (ks.map kV))/\H2 p=some (.dT [])/\Q (.ref p) (upd H2 p (.dT [(ks,y)]))
theorem xs6(hu:X.A.units+1<cLine)(hk:PE X k tk)(hv:PE X v tv):PE X (.Dict [some k] [v] pos) (wj4 tk tv):=by
 intro A3 s σ H Q I q;have hn:=I.hok.fresh (Ad0 s.heap.objs.size);have I1:=I.laid (a:=s.heap.objs.size) (o:=.dT []) (h':=s.heap.push { cls:=.type "dict",data:=.dict #[] }) (t':=s.toks) (λ_ _ q=>Ab0 _ q) (Ad0 _) (yk5 s.heap I.big);refine wpAny_Dict_any rfl rfl (by simp) (show (1:Nat)<=15 by decide) (thn (zz8 hk hv ys3 A3 _ σ _ _ I1 (q _ hn)) λws s2 hI118=>?_);obtain⟨ps,H2,I2,rel,ks,b,y,ep,hb,hp,q2⟩:=hI118;subst ep;cases rel with
 | @cons a0 w0 as bs h0 t0=>
   cases t0;obtain⟨u,r⟩:=w0;obtain⟨ru,rr⟩:=h0;cases (show u=Value.ref b from ru);obtain⟨z,hd,xs,rel,dd⟩:=vh8 I2.hok hp;cases rel;have one:storeAll s.heap.objs.size [(Value.ref b,r)]=(do dictSet s.heap.objs.size (.ref b) r;pure PUnit.unit):=by
    unfold storeAll;simp only[List.forIn_cons,List.forIn_nil,bind_assoc,pure_bind]
   rw[one];refine Aa1 (wpAny_dictSet_heap (knd:=tupleKind (ze5 X.prog X.w)) (show X.A.units<cLine by omega) (zy9 I2.hok hb) dd λh' dd' hs=>Ac1 ⟨.ref s.heap.objs.size,_,?_,rfl,q2⟩);obtain⟨qo,es,epc,hq,h2,h3,h4,_,h5⟩:=dd';refine ye7 I2 (by rw[hp];exact True.intro) hs ⟨qo,hq⟩ ⟨by show 1<=sizeLine;decide,hd,[(ks,b,r)],.cons ⟨rfl,?_,rr⟩ .nil,qo,es,epc,hq,h2,h3,h4,h5⟩;rw[za9 (vc0 hb hp (λz=>nomatch z))];exact hb
noncomputable def xz1(S:Type)(fk fv:Fn S):Fn S:=λρ st=>(fk ρ st).bind λdk st1=>(fv ρ st1).bind λdv st2=>match zc8 dk with
 | some kk=>if dv.imm=true then .ok (.dct [.non,wr2 kk] [dv]) st2 else .bad
 | none=>.bad
def xv2(hu:X.A.units+1<cLine)(hk:DE X c .R k fk)(hv:DE X c .R v fv):DE X c g (.Dict [some k] [v] pos) (xz1 S fk fv):=
 (xs6 hu hk hv).imp λσ H Q hI43=>by
  obtain⟨ρ,st,R,ok,w⟩:=hI43;intro p hp;have np:¬W.mv p:=zm9 ok hp;refine⟨ρ,st,R.ext ok (Ext.laid hp),zg6 ok hp,za6 (za5.mp w) (λdk st1 q x H1 e1 ok1 z1=>?_) λx st1 q H1 e1 ok1=>q H1 ((Ext.laid hp).trans e1) ok1⟩;refine⟨ρ,st1,(R.ext ok (Ext.laid hp)).ext (zg6 ok hp) e1,ok1,za6 (za5.mp q) (λdv st2 q y H2 e2 ok2 z2=>?_) λx st2 q H2 e2 ok2=>q H2 (((Ext.laid hp).trans e1).trans e2) ok2⟩;cases qk:zc8 dk with
  | none=>simp only[qk] at q;exact q.elim
  | some kk=>
    simp only[qk] at q;by_cases im:dv.imm=true
    ·rw[if_pos im] at q
     have zk:Is c.K (λb=>¬W.mv b) H2 dk x:=(show Val c .R σ ρ _ H1 dk x from z1).ext e2 ok1;obtain⟨b,eb,hb,_⟩:=zv7 qk zk;have hp1:=e1 p _ (zb3 (H:=H) (o:=.dT [])) np;have hp2:H2 p=some (.dT []):=e2 p _ hp1 np;have ex:Ext W H (upd H2 p (.dT [(kk,y)])):=λb o hb nm=>by
      have b1:b≠p:=zb7 hb hp;rw[za9 b1];exact e2 b o (e1 b o (by rw[za9 b1];exact hb) nm) nm
     have ks:∀b o,H2 b=some o->vt7 o->upd H2 p (.dT [(kk,y)]) b=some o:=λb o h s=>by
      by_cases e:b=p
      ·subst e;rw[hp2] at h;cases h;rcases s with⟨u,e⟩ | ⟨ob,u,e⟩<;>cases e
      ·rw[za9 e];exact h
     have kt:wr9 (λ_=>False) (λ_=>False) H2 (upd H2 p (.dT [(kk,y)])):=⟨ks,λ_ _ f=>False.elim f⟩;have zy:Is c.K (λ_=>False) (upd H2 p (.dT [(kk,y)])) dv y:=Is.mono kt (Is.ofImm im (show Is c.K (λb=>¬W.mv b) H2 dv y from z2));refine⟨kk,b,y,by rw[eb],hb,hp2,q _ _ ex (yc7 ok2 np) (New.val R (Is.dct_iff.mpr ⟨p,[y],rfl,⟨np,hp⟩,IsL.one (Is.ofImm im zy),.inr ⟨[kk],rfl,rfl,zb3⟩⟩) g)⟩
    ·rw[if_neg im] at q;exact q.elim
theorem xe0{fk fv:Fn S}{ρ:Rho}{st:S}{Q:D->S->Prop}{E:Exn->S->Prop}:wpR (xz1 S fk fv ρ st) Q E↔wpR (fk ρ st) (λdk st1=>wpR (fv ρ st1) (λdv st2=>∃kk,zc8 dk=some kk/\dv.imm=true/\Q (.dct [.non,wr2 kk] [dv]) st2) E) E:=wpB λdk st1=>wpB λdv st2=>by
 cases qk:zc8 dk with
 | none=>exact⟨λh=>h.elim,λ⟨kk,e,_⟩=>by cases e⟩
 | some kk=>
   show wpR (if dv.imm=true then Res.ok (D.dct [.non,wr2 kk] [dv]) st2 else .bad) Q E↔_;by_cases im:dv.imm=true
   ·rw[if_pos im];exact⟨λh=>⟨kk,rfl,im,h⟩,λ⟨k',e,_,h⟩=>by cases e;exact h⟩
   ·rw[if_neg im];exact⟨λh=>h.elim,λ⟨k',e,h,_⟩=>absurd h im⟩
end
section
variable{prog:Program}{w:World}{A:Around}{E:Value->Shared->Prop}{s:Shared}
noncomputable abbrev vd5(es:Array DictEntry)(ep:Nat):Obj:={ cls:=.type "dict",dict:=none,data:=.dict es ep,slots:=#[] }
noncomputable abbrev wy1(d:Addr)(i n ep:Nat):Obj:={ cls:=.type "dict_keyiterator",dict:=none,data:=.fields #[.ref d,.int i 0,.int n 0,.int ep 0],slots:=#[] }
def wf6(it d:Addr)(i n ep:Nat)(es:Array DictEntry)(e:DictEntry)(hn:es.size=n)(he:es[i]?=some e) :
 Meets (Builtin.«dict_keyiterator.__next__» ⟨[.ref it],[]⟩) (λ_ R s=>s.heap.get? it=some (wy1 d i n ep)/\s.heap.get? d=some (vd5 es ep)/\R (.ok (.ret e.key)) { s with heap:=s.heap.update it (Obj.mapFields λx=>x.setIfInBounds 1 (rawInt ((i:Int)+1))),toks:=s.toks }):=
 .of_wp λprog w A R s h=>by
  obtain⟨hp,g,dd,tk,os⟩:=s;obtain⟨hl,hd,h⟩:=h;wp_walk;have e1:(if ((i:Nat):Int)<0 then none else es[((i:Nat):Int).toNat]?)=some e:=by rw[if_neg (by omega),Bu0,he]
  simp only[e1]
  wp_walk
  exact⟨_,rfl,h⟩
def wn1(it d:Addr)(n ep:Nat)(es:Array DictEntry)(hn:es.size=n)(hh:A.handled=none)(h1:s.heap.get? it=some (wy1 d n n ep))(h2:s.heap.get? d=some (vd5 es ep))(h:∀a h' tk,(∀b o,b≠it->s.heap.get? b=some o->h'.get? b=some o)->(∃o,h'.get? a=some o/\o.cls=.type "StopIteration")->E (.ref a) { s with heap:=h',toks:=tk }) :
 wpAny (model prog w) A (Builtin.«dict_keyiterator.__next__» ⟨[.ref it],[]⟩) R E s:=by
 obtain⟨hp,g,dd,tk,os⟩:=s;wp_walk;have e1:(if ((n:Nat):Int)<0 then none else es[((n:Nat):Int).toNat]?)=none:=by rw[if_neg (by omega),Bu0,Bz0 (by omega)]
 simp only[e1]
 wp_walk
 unfold raiseNew;refine Aa1 (wpAny_handled ?_);rw[hh];refine Aa1 (Ac1 (wpAny_throw (h _ _ _ (λb o hb e=>?_) ⟨_,Af0 _ rfl,rfl⟩)));exact Ab0 _ (Ab0 _ ((Ct0 _ _ (Ne.symm hb)).trans e))
def wf5(d:Addr)(es:Array DictEntry)(ep:Nat)(hd:(d == sysModules)=false) :
 Meets (Builtin.«dict.__iter__» ⟨[.ref d],[]⟩) (λ_ R s=>s.heap.get? d=some (vd5 es ep)/\R (.ok (.ret (.ref s.heap.objs.size))) { s with heap:=s.heap.push (wy1 d 0 es.size ep),toks:=s.toks }):=
 .of_wp λprog w A R s h=>by
  obtain⟨hp,g,dd,tk,os⟩:=s;obtain⟨hl,h⟩:=h;wp_walk;exact⟨_,rfl,h⟩
open H in
def xj7{i n ep:Nat}(hn:es.size=n)(he:es[i]?=some e)(h1:s.heap.get? it=some (wy1 d i n ep))(h2:s.heap.get? d=some (vd5 es ep))(h:∀h' tk,h'.get? it=some (wy1 d (i+1) n ep)->(∀b o,b≠it->s.heap.get? b=some o->h'.get? b=some o)->Q (some e.key) { s with heap:=h',toks:=tk }):wpAny (model prog w) A (pyNext (.ref it)) Q E s:=by
 have ty:s.TypeIs (.ref it) "dict_keyiterator":=⟨_,h1,rfl⟩;have new:=Ci0 (Obj.mapFields λx=>x.setIfInBounds 1 (rawInt ((i:Int)+1))) h1 rfl;unfold pyNext;exact Aa1 (wpAny_attempt (wpAny_callSpecial?_slot (name:=Str.ofString "__next__") ty F.slot_dict_keyiterator_next (call_meets F.slot_dict_keyiterator_next ty F.entry_dict_keyiterator_next (F.args_dict_keyiterator_next_1 _) (wf6 it d i n ep es e hn he)
  ⟨h1,h2,Ac1 (h _ _ new λb o hb g=>(Ct0 _ _ (Ne.symm hb)).trans g)⟩)))
open H in
def xt3{n ep:Nat}(hh:A.handled=none)(hn:es.size=n)(h1:s.heap.get? it=some (wy1 d n n ep))(h2:s.heap.get? d=some (vd5 es ep))(h:∀h' tk,(∀b o,b≠it->s.heap.get? b=some o->h'.get? b=some o)->Q none { s with heap:=h',toks:=tk }):wpAny (model prog w) A (pyNext (.ref it)) Q E s:=by
 have ty:s.TypeIs (.ref it) "dict_keyiterator":=⟨_,h1,rfl⟩;unfold pyNext;refine Aa1 (wpAny_attempt (wpAny_callSpecial?_slot (name:=Str.ofString "__next__") ty F.slot_dict_keyiterator_next (Ak1 F.slot_dict_keyiterator_next ty F.entry_dict_keyiterator_next (wn1 it d n ep es hn (A:=A.in1) hh h1 h2 λa h' tk hk hc=>?_) (F.args_dict_keyiterator_next_1 _))));exact Aa1 (wpAny_isInstance (T:="StopIteration") (b:=true) hc isSubtype_stop (Ac1 (h _ _ hk)))
def xl7{ep:Nat}(hd:(d == sysModules)=false)(h2:s.heap.get? d=some (vd5 es ep))(h:Q (.ref s.heap.objs.size) { s with heap:=s.heap.push (wy1 d 0 es.size ep) }):wpAny (model prog w) A (pyIter (.ref d)) Q E s:=by
 have ty:s.TypeIs (.ref d) "dict":=⟨_,h2,rfl⟩;exact wpAny_pyIter_slot ty F.slot_dict_iter (call_meets F.slot_dict_iter ty F.entry_dict_iter (F.args_dict_iter_1 _) (wf5 d es ep hd) ⟨h2,"dict_keyiterator",_,⟨_,Af0 _ rfl,rfl⟩,F.slot_dict_keyiterator_next.lookup,h⟩)
def xa5(hh:A.handled=none)(it d:Addr)(hne:d≠it)(es:Array DictEntry)(ep:Nat) :
 Walks prog w A it [it,d] [it] es.size (λi v=>∃e,es[i]?=some e/\v=e.key) (λi h=>h.get? it=some (wy1 d i es.size ep)/\h.get? d=some (vd5 es ep)) where
 sub:=λb hb=>by simp at hb;simp[hb]
 frame:=λ_ _ _ st hk=>⟨hk it (by simp) _ st.1,hk d (by simp) _ st.2⟩
 item:=λi s Q E hi st hQ=>xj7 rfl (Ak0 hi) st.1 st.2 λh' tk a b=>hQ _ h' tk ⟨_,Ak0 hi,rfl⟩ ⟨a,b d _ hne st.2⟩ λc o hc e=>b c o (λz=>hc (by simp[z])) e
 done:=λs Q E st hQ=>xt3 hh rfl st.1 st.2 λh' tk b=>hQ h' tk λc o hc e=>b c o (λz=>hc (by simp[z])) e
 self:=λi s Q E st hQ=>wpAny_pyIter_keyiter ⟨_,st.1,rfl,rfl⟩ hQ
def xr7(hd:(d == sysModules)=false)(es:Array DictEntry)(ep:Nat):PySem.W.KdlSrc prog w "dict" d d es.size (λi v=>∃e,es[i]?=some e/\v=e.key) (λh=>h.get? d=some (vd5 es ep)) where
 type:=λ_ hm=>⟨_,hm,rfl⟩
 there:=λ_ hm=>⟨Heap.lt_size hm,Heap.lt_size hm⟩
 keep:=λ_ _ hm hk=>hk d (.inl rfl) _ hm
 notList:=by decide
 notTuple:=by decide
 hint:=λ_ _ _ _ hm hq=>PySem.W.kdl_hint_dict ⟨_,hm,rfl⟩ hq
 iter:=λ_ _ hh hm=>⟨_,_,(λ_ _ hq=>xl7 hd hm hq),xa5 hh _ d (As0 (Heap.lt_size hm)) es ep,⟨Af0 _ rfl,Ab0 _ hm⟩⟩
def ym3{n:Nat}(o1:h.get? a=some (seqObj "list" vs.toArray n)):∃m,(sortedHeap h a vs out).get? a=some (seqObj "list" out m):=by
 have la:a<h.objs.size:=Heap.lt_size o1;have o2:=get?_update_seq o1 (λ_=>(#[]:Array Value));unfold sortedHeap;have o3:(((h.update a (Obj.mapSeq λ_=>#[])).push (seqObj "tuple" vs.toArray 0)).push (seqObj "list" #[] 0)).get? a=_:=Ab0 _ (Ab0 _ o2);exact⟨_,get?_update_seq o3 (λ_=>out)⟩
def yf7(hb:b≠a)(g:h.get? b=some o):(sortedHeap h a vs out).get? b=some o:=by
 unfold sortedHeap;rw[Heap.get?_update_ne _ _ _ _ hb];exact Ab0 _ (Ab0 _ (by rw[Heap.get?_update_ne _ _ _ _ hb];exact g))
def yr8{ep:Nat}(hh:A.handled=none)(hd:(d == sysModules)=false)(h2:s.heap.get? d=some (vd5 es ep))(hv:∀e∈es.toList,∃p,wr5 s.heap e.key p)(h128:es.size<128)(h:∀(p:Addr) (h1 h':Heap) (tk n:Nat) (out:Array Value),(∀b o,s.heap.get? b=some o->h1.get? b=some o)->h1.objs.size<=p->(∀b o,h1.get? b=some o->h'.get? b=some o)->h'.get? p=some (seqObj "list" out n)->out.toList.Perm (es.toList.map (·.key))->out.toList.Pairwise (λx y=>lxle (wt8 s.heap x) (wt8 s.heap y))->Q (.ref p) { s with heap:=h',toks:=tk }) :
 wpAny (model prog w) A (call (.builtin "sorted") [.ref d]) Q E s:=by
 refine Calls.call_function_entry kind_sorted plain_sorted entry_sorted (args_sorted1 _) ?_;unfold Builtin.«sorted»;refine Aa1 (m:=checkCount "sorted" 1 1 _) (Ac1 (Aa1 (PySem.W.kdu_collect (A:=A.in1) (xr7 hd es ep) hh h2 (by rw[sizeLine_eq];omega) λh' tk acc hk hacc=>?_)));have ha:acc.toList=es.toList.map (·.key):=by
  apply List.ext_getElem?;intro j;rw[An0,Bf0,Bf0];by_cases hj:j<es.size
  ·obtain⟨e,he,hv⟩:=hacc.2 j _ (Ak0 (by rw[hacc.1];exact hj))
   rw[Ak0 (by rw[hacc.1];exact hj),hv,he];rfl
  ·rw[Bz0 (by rw[hacc.1];omega),Bz0 (by omega)];rfl
 rw[ha];have hlen:(es.toList.map (·.key)).length=es.size:=by simp
 refine Aa1 (wpAny_newList ?_ (by rw[hlen,sizeLine_eq];omega));show wpAny _ _ _ _ _ { s with heap:=h'.push (seqObj "list" (es.toList.map (·.key)).toArray 0),toks:=tk };have o1:(h'.push (seqObj "list" (es.toList.map (·.key)).toArray 0)).get? h'.objs.size=some (seqObj "list" (es.toList.map (·.key)).toArray 0):=Af0 _ rfl;have old:∀b o,h'.get? b=some o->(h'.push (seqObj "list" (es.toList.map (·.key)).toArray 0)).get? b=some o:=λb o g=>Ab0 _ g
 generalize hH:h'.push (seqObj "list" (es.toList.map (·.key)).toArray 0)=H1 at o1 old ⊢;have keep:∀v p,wr5 s.heap v p->wr5 H1 v p:=λv p z=>by
  obtain⟨b,o,m,t,u,rfl,g,c,d⟩:=z;exact⟨b,o,m,t,u,rfl,old _ _ (hk _ _ g),c,d⟩
 have two:∀v∈es.toList.map (·.key),∃p,wr5 s.heap v p:=λv m=>by
  obtain⟨e,he,rfl⟩:=Au0.mp m;exact hv e he
 have ke:∀v∈es.toList.map (·.key),wt8 H1 v=wt8 s.heap v:=λv m=>by
  obtain⟨p,z⟩:=two v m;unfold wt8;rw[z.key,(keep _ _ z).key]
 refine Aa1 (wpAny_holding (Ak1 slot_list_sort ⟨_,o1,rfl⟩ entry_list_sort (yb6 (s:={ s with heap:=H1,toks:=tk }) o1 (λv m=>(two v m).imp λp z=>keep v p z) (by rw[hlen];exact h128) λout a1 a2=>⟨_,rfl,Ac1 ⟨_,rfl,?_⟩⟩) (args_list_sort _)));obtain⟨m,om⟩:=ym3 (out:=out) o1;refine h _ h' _ _ m out hk (Ad0 _) (λb o g=>yf7 (λe=>?_) (old b o g)) om a1 (a2.imp_of_mem λ{x y} hx hy q=>by
  rw[<-ke x (a1.mem_iff.mp hx),<-ke y (a1.mem_iff.mp hy)];exact q)
 exact absurd (Heap.lt_size g) (by rw[e];exact Bt0 _)
end
section
variable{X:Cx}{S:Type}{W:Wd S}{c:Dx W}
noncomputable def PrK:List (List Key×V)->List P2->Prop:=Paired λkv p=>kv.1=[.inl p.1,.inl p.2]
def zz2(hc:X.calm=true):wu0 X (.builtin "sorted") (λxs H Q=>∃(a:Addr) (kvs:List (List Key×V)) (ps:List P2),xs=[.ref a]/\H a=some (.dT kvs)/\PrK kvs ps/\ps.length<128/\∀p vs',H p=none->PrV H vs' (wr6 ps)->Q (.ref p) (upd H p (.lst vs'))):=by
 intro A3 s σ H xs us Q I r h;obtain⟨a,kvs,ps,rfl,hq,hp,h128,q⟩:=h;obtain⟨u,rfl,r1⟩:=wv6 r;cases r1;obtain⟨z,hd,xs,rel,o,es,ep,g,ex,dat,et,nd⟩:=(show ws2 X.prog X.w H s.heap a (.dT kvs) from I.hok a _ hq);have eo:o=vd5 es ep:=by
  obtain⟨cl,di,da,sl⟩:=o;obtain⟨e1,e2,e3⟩:=ex;simp only at e1 e2 e3 dat;subst e1 e2 e3 dat;rfl
 subst eo;have three:∀{kvs:List (List Key×V)} {xs:List (List Key×Addr×Value)} {ps:List P2},Paired (λ(p:List Key×V) (q:List Key×Addr×Value)=>p.1=q.1/\H q.2.1=some (.tup (p.1.map kV))/\wr3 p.2 q.2.2) kvs xs->PrK kvs ps->
  Paired (λv u=>wr3 v u/\∃p,(∃b,v=.ref b/\H b=some (.tup [.int p.1,.int p.2]))/\wr5 s.heap u p) (xs.map λx=>V.ref x.2.1) (xs.map λx=>Value.ref x.2.1)/\(xs.map λx=>Value.ref x.2.1).map (wt8 s.heap)=ps:=by
  intro kvs xs ps rel;induction rel generalizing ps with
  | nil=>intro hp;cases hp;exact⟨.nil,rfl⟩
  | @cons p x _ _ h1 _ ih=>
    intro hp;cases hp with
    | @cons _ pp _ _ y hp=>
      obtain⟨i1,i2⟩:=ih hp;obtain⟨e1,hb,_⟩:=h1;rw[show p.1=_ from y] at hb;obtain⟨js,rj,⟨o,g,cl,n,d⟩,_⟩:=I.tuple (SqT.of (show H x.2.1=some (.tup [.int pp.1,.int pp.2]) from hb));cases rj with
      | cons x1 rj=>cases rj with
        | cons x2 rj=>
          cases rj;obtain⟨t1,rfl⟩:=x1;obtain⟨t2,rfl⟩:=x2;have tw:wr5 s.heap (.ref x.2.1) pp:=⟨x.2.1,o,n,t1,t2,rfl,g,cl,d⟩;refine⟨.cons ⟨rfl,pp,⟨x.2.1,rfl,hb⟩,tw⟩ i1,?_⟩;rw[Ax0,Ax0,i2];unfold wt8;rw[tw.key];rfl
 obtain⟨t3,ek⟩:=three rel hp;have hm:∀{vs:List V} {its:List Value},Paired (λv u=>wr3 v u/\∃p,(∃b,v=.ref b/\H b=some (.tup [.int p.1,.int p.2]))/\wr5 s.heap u p) vs its->(∀v∈its,∃p,wr5 s.heap v p)/\wr4 vs its/\PrV H vs (its.map (wt8 s.heap)):=by
  intro vs its z;induction z with
  | nil=>exact⟨λv m=>absurd m (by simp),.nil,.nil⟩
  | cons y _ ih=>
    obtain⟨r1,p,z,tw⟩:=y;refine⟨λv m=>?_,.cons r1 ih.2.1,.cons ?_ ih.2.2⟩
    ·rcases Aj0.mp m with rfl | m
     ·exact⟨p,tw⟩
     ·exact ih.1 v m
    ·unfold wt8;rw[tw.key];exact z
 have ekey:es.toList.map (·.key)=xs.map λx=>Value.ref x.2.1:=by rw[et,Bm0];rfl
 have hsz:es.size=ps.length:=by
  have h1:=congrArg List.length ekey;rw[Aa0,Aa0,Ah0] at h1;rw[h1,<-Paired.length rel,Paired.length hp]
 refine yr8 (I.ok.hd hc) hd g (λe he=>?_) (by omega) λp h1 h' tk n out k1 lp k2 go p1 u1=>?_
 ·exact(hm t3).1 _ (by rw[<-ekey];exact Au0.mpr ⟨e,he,rfl⟩)
 ·rw[ekey] at p1
  obtain⟨vs',pv,t3'⟩:=yc3 p1 t3;have es':out.toList.map (wt8 s.heap)=wr6 ps:=zw1 (by rw[<-ek];exact p1.map _) (by rw[Cd0];exact u1);obtain⟨_,r2,w2⟩:=hm t3';rw[es'] at w2;have I1:Inv X A3 σ H { s with heap:=h1,toks:=tk }:=I.kept k1;have hlen:vs'.length<=127:=by
   have h1:=pv.length_eq;rw[Aa0,<-Paired.length rel,Paired.length hp] at h1;omega
  exact⟨.ref p,_,I1.laid (t':=tk) (a:=p) (o:=.lst vs') k2 lp ⟨Ce0 (zp6 (by omega)),out.toList,n,r2,go⟩,rfl,q _ _ (I1.hok.fresh lp) w2⟩
noncomputable def yw1:List D->Option D
 | [.dct (.non::ks) _]=>(wt1 ks).bind λps=>if ps.length<128 then some (.lst ((wr6 ps).map prD)) else none
 | _=>none
open H in
theorem xx5:∀{kk:List (List Key)} {ps:List P2} {vs:List V},wt1 (kk.map wr2)=some ps->kk.length=vs.length->PrK (kk.zip vs) ps
 | [],ps,vs,e,_=>by cases e;exact .nil
 | k::kk,ps,[],_,h=>by cases h
 | k::kk,ps,v::vs,e,h=>by
   rw[Ax0] at e;unfold wt1 at e;split at e
   ·rename_i he;cases he
   ·rename_i x y m he
    injection he with he1 he2
    subst he2;cases q:wt1 (kk.map wr2) with
    | none=>rw[q] at e;cases e
    | some rs=>
      rw[q] at e;cases e;refine .cons ?_ (xx5 q (by simpa using h));unfold wr2 at he1;injection he1 with he1
      cases k with
      | nil=>cases he1
      | cons a k=>cases k with
        | nil=>simp at he1
        | cons b k=>cases k with
          | nil=>
            simp only[Ax0,Cz0,List.cons.injEq,and_true] at he1;obtain⟨e1,e2⟩:=he1;cases a<;>cases b<;>simp[va7] at e1 e2;subst e1 e2;rfl
          | cons d k=>simp at he1
   ·cases e
open H in
def yz3:wu3 c (λxs H Q=>∃(a:Addr) (kvs:List (List Key×V)) (ps:List P2),xs=[.ref a]/\H a=some (.dT kvs)/\PrK kvs ps/\ps.length<128/\∀p vs',H p=none->PrV H vs' (wr6 ps)->Q (.ref p) (upd H p (.lst vs'))) yw1:=by
 intro l vs H st d Q ok z e q;unfold yw1 at e;split at e
 ·rename_i ks ws
  cases qq:wt1 ks with
  | none=>rw[qq] at e;cases e
  | some ps=>
    rw[qq] at e;have e:(if ps.length<128 then some (D.lst ((wr6 ps).map prD)) else none)=some d:=e;split at e
    ·rename_i h128
     cases e;obtain⟨v,r,e1,i1,i2⟩:=IsL.cons.mp z;obtain⟨a,us,ea,_,i3,hk⟩:=Is.dct_iff.mp i1;rw[IsL.nil.mp i2,ea] at e1;rcases hk with⟨kk,ek,_,_⟩ | ⟨kk,ek,el,hh⟩
     ·cases kk with
      | nil=>cases ek
      | cons k kk=>cases k<;>cases ek
     ·injection ek with _ ek
      subst ek;exact⟨a,_,ps,e1,hh,xx5 qq el,h128,λp vs' hp w=>q _ _ (Ext.laid hp) (zg6 ok hp) (New.lst ok hp (λ_ n=>n) (zv8 _) (yv6 (A:=λb=>¬W.mv b) w))⟩
    ·cases e
 ·cases e
end
noncomputable def vw8(h:Heap)(x T:Addr)(C:Value):Prop:=
 ∃(oe:Obj) (vs:Array Value) (a0:Value) (oT:Obj) (ts:Array Value),h.get? x=some oe/\oe.cls=C/\vs[0]?=some a0/\oe.data=.fields vs/\vs[1]?=some (.ref T)/\T≠x/\
  h.get? T=some oT/\oT.data=.fields ts/\ts[3]?=some .none
def vw8.of(t:h.TracedW B x C a0):∃T,B.get? T=none/\vw8 h x T C:=by
 obtain⟨oe,vs,T,oT,ts,h1,⟨h2,h3⟩,h4,h5,hB,h6,h7,h8,h9⟩:=t;exact⟨T,hB,oe,vs,a0,oT,ts,h1,h2,h3,h4,h5,h6,h7,h8,h9⟩
section
variable{X:Cx}{A3:List (Addr×Obj)}{σ:St}{H:Hp}{s:Shared}{h':Heap}{v:Value}{CX:CXT}{k:Nat}{f:Addr}{fd:FuncData}{ps:List Str}{sp:Sp}{E:XK}{x:Str}{p pos:Pos}{e:Expr}{es:List Expr}{t:TA}
end
section
variable{prog:Program}{w:World}{A:Around}{E:Value->Shared->Prop}{h:Heap}{g:Array GenState}{d:Drawn}{t:Nat}{os:OsState}{a C:Addr}{o:Obj}{K:PySem.W.Frag}
end
section
variable{X:Cx}{E:XK}{C:Addr}{n:Str}{P:Program}{w:World}{K:PySem.W.Frag}{mg:Str->Option Value}{base:Heap}{p:Addr×Obj}{A3:List (Addr×Obj)}{σ:St}{H:Hp}{s:Shared}
end
open PySem.SeqAt
section
variable{X:Cx}{S:Type}{W:Wd S}{c:Dx W}{prog:Program}{w:World}{A:Around}{E:Value->Shared->Prop}{h:Heap}{g:Array GenState}{d:Drawn}{t:Nat}{os:OsState}{nm q:Str}{C N f:Addr}{bs bm bmB:List Value}{hd:Bool}{sn:List Str}{sub:List Value}{ab:Bool}{col:Option Bool}{dd:Option Addr}{k0 k1 k2 k3 k5:Option Value}{B newId initId:String}{a dx:Addr}{o:Obj}{K:PySem.W.Frag}{A3:List (Addr×Obj)}{σ:St}{H H':Hp}{s:Shared}{e:Addr}{h':Heap}
end
section
variable{X:Cx}{A3:List (Addr×Obj)}{σ:St}{H:Hp}{s:Shared}{e C C0:Addr}{o:Obj}{e1 e2:Expr}{t1 t2:TE}{B nm q:Str}{N:Addr}{bs bm:List Value}{hd:Bool}{sn:List Str}{sub:List Value}{ab:Bool}{col:Option Bool}{dd:Option Addr}{k0 k1 k2 k3 k5:Option Value}{dx:Addr}{i j:Nat}{x y name:Str}{v:V}{id1:String}{fr:List Addr}{n1 n2:Addr->Prop}{h h1 h2:Heap}
end
section
variable{M:Model}{A:Around}{E:Value->Shared->Prop}{s:Shared}{x T L:Addr}{C v c fl:Value}{od:Option Addr}{env:Env}{outer:List Env}{base:Heap}{Q:Unit->Shared->Prop}{P:Program}{w:World}{fs:List Addr}{H H':Hp}{h h1 h2:Heap}{no:Addr->Prop}{X:Cx}{A3:List (Addr×Obj)}{σ:St}{a:Addr}{o:HO}
end
section
variable{X:Cx}{CX:CXT}{k:Nat}{f:Addr}{fd:FuncData}{ps:List Str}{sp:Sp}{E:XK}{x:Str}{p pos:Pos}{e:Expr}{es:List Expr}{t:TA}{A3:List (Addr×Obj)}{σ:St}{H:Hp}{s:Shared}{C:Addr}{n:Str}{S:Type}{W:Wd S}{c:Dx W}{P:Program}{w:World}{K:PySem.W.Frag}{mg:Str->Option Value}{base:Heap}{g:Gr}{v:V}{C0:Addr}{st:Stmt}{nm q qual:Str}{M:Addr}{bs bm:List Value}{sn:List Str}{sub:List Value}{ab:Bool}{col:Option Bool}{dd:Option Addr}{k0 k1 k2 k3 k5:Option Value}{x1 x2:Str}{j1 j2:Nat}{pB pA pc pe p1 p2 p3 p4 p5 p6 p7 p8 q1 q2 q3 q4 r1 r2 r3 r4:Pos}
end
section
variable{X:Cx}{S:Type}{W:Wd S}{c:Dx W}{g:Gr}{k:Nat}{x:Str}{ps:List Str}{p pos:Pos}{e:Expr}{es:List Expr}{E:XK}{C:Addr}{G:List D->Res Unit D}{f:FnA S}
end
section
variable{prog:Program}{w:World}{A:Around}{E:Value->Shared->Prop}{s:Shared}
variable{nm q:Str}{C N:Addr}{bs bm:List Value}{hd:Bool}{sn:List Str}{sub:List Value}{ab:Bool}{col:Option Bool}{dd:Option Addr}{k0 k1 k2 k3 k5:Option Value}{newId:String}
end
section
variable{M:Model}{A:Around}{E:Value->Shared->Prop}{s:Shared}{x T L:Addr}{C v c fl:Value}{od:Option Addr}{env:Env}{Q:Unit->Shared->Prop}{X:Cx}{A3:List (Addr×Obj)}{σ:St}{H:Hp}{k:Nat}
end
section
variable{X:Cx}{S:Type}{W:Wd S}{c:Dx W}{k:Nat}{x:Str}{ps:List Str}{e:Expr}{es:List Expr}{E:XK}{C:Addr}{G:List D->Res Unit D}{f:FnA S}
noncomputable def wy4{α:Type}(k:Nat)(y:α)(xs:List α):List α:=xs.take k++y::xs.drop k
def yt5{α:Type}{k:Nat}{y:α}{xs:List α}:(wy4 k y xs).length=xs.length+1:=by
 unfold wy4;rw[Ai0,Ar0,Bd0,Cf0];omega
noncomputable def vv0:V->List V->Hp->VK->Prop:=λx vs H Q=>∃l xs i y,x=.ref l/\vs=[.int i,y]/\H l=some (.lst xs)/\0<=i/\i<=xs.length/\xs.length<sizeLine/\Q .non (upd H l (.lst (wy4 i.toNat y xs)))
def wm3:MtM X "list.insert" vv0:=by
 intro A3 s σ H x vs v us Q I rx rv h;obtain⟨l,xs,i,y,rfl,rfl,hH,h1,h2,hz,q⟩:=h;cases rx;obtain⟨u,u2,rfl,ru,ru2⟩:=vd6 rv;obtain⟨t,rfl⟩:=ru;obtain⟨z,its,n,r,hl,e⟩:=I.lstM hH;have hsz:(sizeLine:Int)<2 ^ 63:=by decide
 have hf:Builtin.List.listFitsIndex i=true:=fitsIndex_both (by omega) (by omega);refine call_meets F.slot_list_insert ⟨_,e,rfl⟩ F.entry_list_insert (F.args_list_insert_3 _ _ _) (AutoSeq1.list_insert_list_int_val_1 l its.toArray n i t u2 (by rw[hf];decide) (by rw[Ag0];omega)) ⟨e,?_⟩;refine⟨.non,_,I.lset (its':=wy4 i.toNat u2 its) hH e ?_ ((r.take _).append (.cons ru2 (r.drop _))) (show (wy4 i.toNat y xs).length<=sizeLine by rw[yt5];omega),rfl,q⟩;have k0:(if i<0 then (i+(its.toArray.size:Int)).toNat else min i.toNat its.toArray.size)=i.toNat:=by
  rw[if_neg (by omega),Ag0];omega
 show (its.toArray.extract 0 (if i<0 then (i+(its.toArray.size:Int)).toNat else min i.toNat its.toArray.size)).push u2++its.toArray.extract (if i<0 then (i+(its.toArray.size:Int)).toNat else min i.toNat its.toArray.size)=_;rw[k0];apply Array.toList_inj.mp;simp[wy4];exact Bp0 (by simp)
end
section
variable{X:Cx}{S:Type}{W:Wd S}{c:Dx W}{i:Nat}
noncomputable def vm5(S:Type)(i:Nat)(o:List D->List D->Option (List D))(f:FnA S):FnS S:=λρ st=>match wr8 ρ i with
 | some l=>(f ρ st).bind λd st1=>(ws3 (o l d) st1).bind λl' st2=>.ok (.nx (ρ.set i (.own (.lst l')))) st2
 | none=>.bad
noncomputable def MtA{S:Type}{W:Wd S}(c:Dx W)(r:V->List V->Hp->VK->Prop)(o:List D->List D->Option (List D)):Prop:=∀l d l' a vs us H (Q:VK),o l d=some l'->D.immL l=true->H a=some (.lst vs)->IsL c.K (λb=>¬W.mv b) H l vs->IsL c.K (λb=>¬W.mv b) H d us->
 (∀y ws,D.immL l'=true->IsL c.K (λb=>¬W.mv b) H l' ws->Q y (upd H a (.lst ws)))->r (.ref a) us H Q
def wo9{x m:Str}{id:String}(hm:MtR X id r)(ho:MtA c r o)(slot:Slot "list" m id)(hty:typeOf (.builtin id)=pure (.type "method_descriptor"))(hx:PE X (.Name x p1) (wy6 i))(he:DA X c (e::es) f)(hbase:attributeBase (.Name x p1) m X.env (eval (.Name x p1) X.env)=eval (.Name x p1) X.env:=by rfl)(hfew:((backTo p3 (starEach (e::es) X.env)).all (λx=>!x.1)&&(backToKw p3 (keywordEach [] X.env)).all (λx=>x.1.isSome)
  && decide ((e::es).length+([]:List Keyword).length+(if ([]:List Keyword).isEmpty then 0 else 1)<30))=true:=by rfl)(hline:(p2.endLine == p3.line)=true:=by rfl)(hs:starEach (e::es) X.env=(false,eval e X.env)::starEach es X.env:=by rfl)(hplain:(backTo p3 (starEach es X.env)).any (·.1)=false:=by rfl)(hsw:swapsWith (.Call (.Attribute (.Name x p1) m p2) (e::es) [] p3) none p4.line X.env=pure false:=by rfl) :
 DS X c (.Expr (.Call (.Attribute (.Name x p1) m p2) (e::es) [] p3) p4) (vm5 S i o f):=
 (ys2 (vk6 PySem.F.plainAttrs_list slot hty hm hx he hbase hfew hline hs hplain) hsw).imp λD σ H hI44=>by
  obtain⟨ρ,st,R,ok,w⟩:=hI44;unfold vm5 at w;cases q:wr8 ρ i with
  | none=>rw[q] at w;exact w.elim
  | some l=>
    rw[q] at w;obtain⟨a,vs,ea,eH,z,nm⟩:=R.lstAt q;refine⟨.ref a,ea,.inl ⟨rfl,vs,.of eH⟩,ρ,st,R,ok,za6 (za5.mp w) (λd st1 q v H1 e ok1 zv=>?_) λx st1 q H1 e ok1=>q H1 (e.f0 R) ok1⟩;obtain⟨l',e',q'⟩:=zb2.mp (za5.mp q);have R1:=R.ext ok e;have eH1:=e a _ eH nm;have kA:wr9 (Av c σ ρ) (λb=>¬W.mv b) H1 H1:=⟨λ_ _ z _=>z,λb o a z=>⟨a.1,z⟩⟩;refine ho l d l' a vs v H1 _ e' (zr1 (by assumption)).2 eH1 (IsL.mono kA (z.mono (e.keepT ok λb a=>⟨a.1,a⟩))) zv λy us m' z'=>?_
    obtain⟨R2,F2⟩:=R1.wr (d':=.lst l') (o:=.lst us) (zs5 (by assumption)) ea ⟨(λu z=>by cases z),(λob u z=>by cases z)⟩ λk=>⟨us,zb3,IsL.mono k (IsL.ofImm m' z')⟩
    exact q' σ _ (e.frm.trans F2) (yc7 ok1 nm) R2
noncomputable def vq6(l d:List D):Option (List D):=match d with
 | [.int j,x]=>if x.imm=true/\0<=j/\j<=l.length/\l.length<sizeLine then some (wy4 j.toNat x l) else none
 | _=>none
theorem xu2:D.immL l=true↔∀d∈l,d.imm=true:=⟨λh d hd=>zv9 h hd,λh=>by
 induction l with
 | nil=>rfl
 | cons a l ih=>simp[D.immL,h a (.head _),ih λd hd=>h d (.tail _ hd)]⟩
open H in
def wm7:MtA c vv0 vq6:=by
 intro l d l' a vs us H Q e im eH z zv q;unfold vq6 at e;split at e
 ·rename_i j x
  split at e
  ·rename_i h
   cases e;obtain⟨v,r,e1,i1,i2⟩:=IsL.cons.mp zv;obtain⟨v2,r2,e2,i3,i4⟩:=IsL.cons.mp i2;have e4:=IsL.nil.mp i4;have e5:=Is.int_iff.mp i1;subst e1 e2 e4 e5;refine⟨a,vs,j,v2,rfl,rfl,eH,h.2.1,by rw[<-z.length];exact h.2.2.1,by rw[<-z.length];exact h.2.2.2,q _ _ (xu2.mpr λd hd=>?_) ((z.take _).append (IsL.cons.mpr ⟨v2,_,rfl,i3,z.drop _⟩))⟩;rcases Ap0.mp hd with hd | hd
   ·exact zv9 im (Cm0 hd)
   ·rcases Aj0.mp hd with hd | hd
    ·rw[hd];exact h.1
    ·exact zv9 im (List.mem_of_mem_drop hd)
  ·cases e
 ·cases e
section
variable{ρ:Rho}{st:S}{Q:Fl->S->Prop}{E:Exn->S->Prop}
theorem wa8:wpR (vm5 S i o f ρ st) Q E↔∃l,wr8 ρ i=some l/\wpR (f ρ st) (λd st1=>∃l',o l d=some l'/\Q (.nx (ρ.set i (.own (.lst l')))) st1) E:=by
 unfold vm5;cases wr8 ρ i with
 | none=>exact yk1
 | some l=>
   refine yk0 (wpB λd st1=>?_);rw[za5,zb2];exact Iff.rfl
end
end
section
variable{X:Cx}{S:Type}{W:Wd S}{c:Dx W}{A3:List (Addr×Obj)}{σ:St}{H:Hp}{s:Shared}{prog:Program}{w:World}{A:Around}{E:Value->Shared->Prop}{I l:Addr}{its:Array Value}{e:Expr}{te:TE}{g ga:Gr}
noncomputable def vg6(l:List D):Option D:=if l.length<=sizeLine then some (.tup l) else none
noncomputable def f1(S:Type)(o:D->Option D)(f:Fn S):Fn S:=λρ st=>(f ρ st).bind λd st1=>ws3 (o d) st1
def vn9{o:D->Option D}{f:Fn S}{ρ:Rho}{st:S}{Q:D->S->Prop}{E:Exn->S->Prop}:wpR (f1 S o f ρ st) Q E↔wpR (f ρ st) (λd st1=>∃d',o d=some d'/\Q d' st1) E:=wpB λd st1=>zb2
end
end L2
namespace St
open PySem PySem.SetTable
noncomputable def vt3(m:Nat):SetTable:={ SetTable.fresh 0 0 true with mask:=m }
noncomputable def adv(m:Nat)(p:Probe):Probe:=(vt3 m).advance p
noncomputable def seq(m:Nat)(p:Probe):Nat->Probe
 | 0=>p
 | n+1=>seq m (adv m p) n
theorem yb8(m:Nat):∀(a b:Nat) (p:Probe),seq m p (a+b)=seq m (seq m p a) b
 | 0,b,p=>by rw[Al0];rfl
 | a+1,b,p=>by
   rw[show a+1+b=(a+b)+1 by omega];exact yb8 m a b _
def vp6(m i:Nat):runEnd m i-i<=9:=by unfold runEnd;split<;>omega
theorem zw7(m:Nat):∀(k:Nat) (p:Probe),k<=p.more->seq m p k={ p with j:=p.j+k,more:=p.more-k }
 | 0,p,_=>rfl
 | k+1,p,h=>by
   show seq m (adv m p) k=_;have e:adv m p={ p with j:=p.j+1,more:=p.more-1 }:=by unfold adv SetTable.advance;rw[if_pos (by omega)]
   rw[e,zw7 m k _ (by show k<=p.more-1;omega)];show Probe.mk (p.j+1+k) (p.more-1-k) _ _ _=Probe.mk (p.j+(k+1)) (p.more-(k+1)) _ _ _;congr 1<;>omega
noncomputable def leaps(m:Nat):Nat->Nat×Nat->Nat×Nat
 | 0,x=>x
 | n+1,x=>leaps m n (leap m x.1 x.2)
def zz5(m:Nat)(p:Probe):seq m p (p.more+1)={ p with j:=(leap m p.i p.perturb).1,more:=runEnd m (leap m p.i p.perturb).1-(leap m p.i p.perturb).1,i:=(leap m p.i p.perturb).1,perturb:=(leap m p.i p.perturb).2 }:=by
 rw[yb8,zw7 m _ p (Ad0 _)];show adv m _=_;unfold adv SetTable.advance;rw[if_neg (by show ¬p.more-p.more>0;omega)];rfl
theorem ym5(m:Nat):∀(n:Nat) (p:Probe),p.more<=9->∃s,s<=10*(n+1)/\(seq m p s).j=(leaps m (n+1) (p.i,p.perturb)).1
 | 0,p,h=>⟨p.more+1,by omega,by rw[zz5];rfl⟩
 | n+1,p,h=>by
   obtain⟨s,hs,e⟩:=ym5 m n (seq m p (p.more+1)) (by rw[zz5];exact vp6 _ _);refine⟨p.more+1+s,by omega,?_⟩;rw[yb8,e,zz5];rfl
noncomputable def lcg(m i:Nat):Nat:=(i*5+1) % (m+1)
noncomputable def vc1(m:Nat):Nat->Nat->Nat
 | 0,i=>i
 | n+1,i=>vc1 m n (lcg m i)
theorem ya2(m:Nat):∀(a b i:Nat),vc1 m (a+b) i=vc1 m b (vc1 m a i)
 | 0,b,i=>by rw[Al0];rfl
 | a+1,b,i=>by
   rw[show a+1+b=(a+b)+1 by omega];exact ya2 m a b _
theorem zr2(m:Nat):∀(a b:Nat) (x:Nat×Nat),leaps m (a+b) x=leaps m b (leaps m a x)
 | 0,b,i=>by rw[Al0];rfl
 | a+1,b,i=>by
   rw[show a+1+b=(a+b)+1 by omega];exact zr2 m a b _
theorem yd4(m:Nat):∀(n i u:Nat),(leaps m n (i,u)).2=u / 32 ^ n
 | 0,i,u=>by simp[leaps]
 | n+1,i,u=>by
   show (leaps m n (leap m i u)).2=_;rw[show leap m i u=((leap m i u).1,u / 32) from rfl,yd4 m n,Nat.div_div_eq_div_mul,Nat.pow_succ,Nat.mul_comm]
theorem zx5(m:Nat):∀(n i:Nat),(leaps m n (i,0)).1=vc1 m n i
 | 0,i=>rfl
 | n+1,i=>by
   show (leaps m n (leap m i 0)).1=vc1 m n (lcg m i);rw[show leap m i 0=(lcg m i,0) by simp[leap,lcg],zx5 m n]
structure Cyc(m:Nat):Prop where
 back:vc1 m (m+1) 0=0
 all:∀r,r<=m->∃a,a<=m/\vc1 m a 0=r
def Cyc.from{m:Nat}(C:Cyc m){i r:Nat}(hi:i<=m)(hr:r<=m):∃q,q<=m/\vc1 m q i=r:=by
 obtain⟨a,ha,ea⟩:=C.all i hi;obtain⟨b,hb,eb⟩:=C.all r hr;by_cases h:a<=b
 ·refine⟨b-a,by omega,?_⟩
  rw[<-ea,<-ya2,show a+(b-a)=b by omega,eb]
 ·refine⟨m+1-a+b,by omega,?_⟩
  rw[<-ea,<-ya2,show a+(m+1-a+b)=(m+1)+b by omega,ya2,C.back,eb]
def Cyc.seen{m:Nat}(C:Cyc m){p:Probe}(h9:p.more<=9)(h64:p.perturb<2 ^ 64){r:Nat}(hr:r<=m):∃n,n<10*turns m/\(seq m p n).j=r:=by
 have i13:(leaps m 13 (p.i,p.perturb)).1<=m:=by
  have:leaps m 13 (p.i,p.perturb)=leap m (leaps m 12 (p.i,p.perturb)).1 (leaps m 12 (p.i,p.perturb)).2:=zr2 m 12 1 _;rw[this];exact Cu0 (Nat.mod_lt _ (Nat.succ_pos m))
 obtain⟨q,hq,e⟩:=C.from i13 hr;obtain⟨s,hs,es⟩:=ym5 m (12+q) p h9;refine⟨s,by unfold turns;omega,?_⟩;rw[es,show 12+q+1=13+q by omega,zr2];rw[show leaps m 13 (p.i,p.perturb)=((leaps m 13 (p.i,p.perturb)).1,0) by
  refine Prod.ext rfl ?_;rw[yd4];exact Nat.div_eq_of_lt (Nat.lt_trans h64 (by decide))]
 rw[zx5,e]
noncomputable def orb(m:Nat):Nat->Nat->List Nat
 | 0,_=>[]
 | n+1,i=>i::orb m n (lcg m i)
theorem xj0(m:Nat):∀(n i r:Nat),r∈orb m n i->∃a,a<n/\vc1 m a i=r
 | 0,i,r,h=>absurd h (by simp[orb])
 | n+1,i,r,h=>by
   rcases Aj0.mp h with e | e
   ·exact⟨0,by omega,e.symm⟩
   ·obtain⟨a,ha,ea⟩:=xj0 m n _ r e
    exact⟨a+1,by omega,ea⟩
def yy8{m:Nat}(h1:Nat.beq (vc1 m (m+1) 0) 0=true)(h2:(List.range (m+1)).all (λr=>(orb m (m+1) 0).any (Nat.beq r))=true):Cyc m:=
 ⟨Nat.eq_of_beq_eq_true h1,λr hr=>by
  have:=Co0.mp h2 r (Bv0.mpr (by omega));obtain⟨x,hx,e⟩:=List.any_eq_true.mp this;obtain⟨a,ha,ea⟩:=xj0 m _ _ _ hx;exact⟨a,by omega,ea.trans (Nat.eq_of_beq_eq_true e).symm⟩⟩
def vw3:Cyc 7:=yy8 rfl rfl
def vs8:Cyc 31:=yy8 rfl rfl
def wq2:Cyc 127:=yy8 (by decide +kernel) (by decide +kernel)
def wq1:Cyc 511:=yy8 (by decide +kernel) (by decide +kernel)
def wy3{l:List Nat}(u:l.Pairwise (· < ·)){i k x y:Nat}(h:i<k)(hx:l[i]?=some x)(hy:l[k]?=some y):x<y:=by
 obtain⟨h1,e1⟩:=Ae0.mp hx;obtain⟨h2,e2⟩:=Ae0.mp hy;rw[<-e1,<-e2];exact Cn0.mp u i k h1 h2 h
theorem yl4{xs:Array Nat}{j:Nat}(u:xs.toList.Pairwise (· < ·)):∀(fuel lo hi:Nat),hi-lo<=fuel->lo<=hi->hi<=xs.size->
 (∀i x,i<lo->xs.toList[i]?=some x->x<j)->(∀i x,hi<=i->xs.toList[i]?=some x->j<=x)->
 below.go xs j fuel lo hi<=xs.size/\(∀i x,i<below.go xs j fuel lo hi->xs.toList[i]?=some x->x<j)/\∀i x,below.go xs j fuel lo hi<=i->xs.toList[i]?=some x->j<=x
 | 0,lo,hi,h1,h2,h3,a,b=>by
   have:lo=hi:=by omega
   subst this;exact⟨h3,a,b⟩
 | fuel+1,lo,hi,h1,h2,h3,a,b=>by
   unfold below.go;by_cases hl:lo<hi
   ·rw[if_pos hl]
    have hm:(lo+hi) / 2<xs.size:=by omega
    have e:xs.getD ((lo+hi) / 2) j=xs[(lo+hi) / 2]:=by simp[Array.getD,hm]
    have e2:xs.toList[(lo+hi) / 2]?=some xs[(lo+hi) / 2]:=by simp[hm]
    dsimp only;rw[e];by_cases hc:xs[(lo+hi) / 2]<j
    ·rw[if_pos hc]
     refine yl4 u fuel _ _ (by omega) (by omega) h3 (λi x hi' ex=>?_) b;by_cases q:i=(lo+hi) / 2
     ·subst q;rw[e2] at ex;cases ex;exact hc
     ·exact Nat.lt_trans (wy3 u (by omega) ex e2) hc
    ·rw[if_neg hc]
     refine yl4 u fuel _ _ (by omega) (by omega) (by omega) a (λi x hi' ex=>?_);by_cases q:i=(lo+hi) / 2
     ·subst q;rw[e2] at ex;cases ex;omega
     ·have:=wy3 u (show (lo+hi) / 2<i by omega) e2 ex;omega
   ·rw[if_neg hl]
    have:lo=hi:=by omega
    subst this;exact⟨h3,a,b⟩
def yl3{xs:Array Nat}{j:Nat}(u:xs.toList.Pairwise (· < ·)):below xs j<=xs.size/\(∀i x,i<below xs j->xs.toList[i]?=some x->x<j)/\∀i x,below xs j<=i->xs.toList[i]?=some x->j<=x:=
 yl4 u _ _ _ (by omega) (by omega) (Ad0 _) (λi x h=>absurd h (by omega)) (λi x h e=>by
  have:=(Ae0.mp e).1;simp at this;omega)
def xf6{t:SetTable}(u:t.place.toList.Pairwise (· < ·)){i j:Nat}(h:t.place.toList[i]?=some j):t.slot j=.live i:=by
 obtain⟨_,b1,b2⟩:=yl3 (j:=j) u;have e:below t.place j=i:=by
  have h1:¬i<below t.place j:=λz=>Bt0 _ (b1 i j z h)
  by_cases q:below t.place j=i
  ·exact q
  ·have hi:=(Ae0.mp h).1
   have e3:=Ac0 (show below t.place j<t.place.toList.length by omega);have:=wy3 u (show below t.place j<i by omega) e3 h;have:=b2 _ _ (Ad0 _) e3;omega
 unfold slot;dsimp only;rw[e,if_pos (by rw[<-Bf0,h];simp)]
def xb2{t:SetTable}(nd:t.dummies=#[]){j:Nat}(h:j∉t.place.toList):t.slot j=.empty:=by
 unfold slot;dsimp only;rw[if_neg (λz=>h (by
  have z:t.place[below t.place j]?=some j:=by simpa using z
  rw[<-Bf0] at z;exact Ao0 z)),nd]
 have:has #[] j=false:=by simp[has]
 rw[this];rfl
noncomputable def ws4(m:Nat)(h:Int):Probe:={ j:=bits h % (m+1),more:=runEnd m (bits h % (m+1))-bits h % (m+1),i:=bits h % (m+1),perturb:=bits h,dummy:=none }
def yq7(m:Nat)(p:Probe):(adv m p).dummy=p.dummy:=by unfold adv SetTable.advance;split<;>rfl
theorem ym6(m:Nat):∀(n:Nat) (p:Probe),(seq m p n).dummy=p.dummy
 | 0,p=>rfl
 | n+1,p=>(ym6 m n (adv m p)).trans (yq7 m p)
def wq6(m:Nat){p:Probe}(h:p.more<=9/\p.perturb<2 ^ 64/\p.j+p.more<=m):(adv m p).more<=9/\(adv m p).perturb<2 ^ 64/\(adv m p).j+(adv m p).more<=m:=by
 unfold adv SetTable.advance;split
 ·exact⟨by show p.more-1<=9;omega,h.2.1,by show p.j+1+(p.more-1)<=m;omega⟩
 ·refine⟨vp6 _ _,Nat.lt_of_le_of_lt (Nat.div_le_self _ _) h.2.1,?_⟩
  show (leap m p.i p.perturb).1+(runEnd m (leap m p.i p.perturb).1-(leap m p.i p.perturb).1)<=m;have:(leap m p.i p.perturb).1<=m:=Cu0 (Nat.mod_lt _ (Nat.succ_pos m));unfold runEnd;split<;>omega
theorem yv2(m:Nat):∀(n:Nat) {p:Probe},p.more<=9/\p.perturb<2 ^ 64/\p.j+p.more<=m->(seq m p n).more<=9/\(seq m p n).perturb<2 ^ 64/\(seq m p n).j+(seq m p n).more<=m
 | 0,p,h=>h
 | n+1,p,h=>yv2 m n (wq6 m h)
def xp1(h:Int):bits h<2 ^ 64:=by unfold bits;omega
def zz4(m:Nat)(h:Int):(ws4 m h).more<=9/\(ws4 m h).perturb<2 ^ 64/\(ws4 m h).j+(ws4 m h).more<=m:=by
 refine⟨vp6 _ _,xp1 h,?_⟩;show bits h % (m+1)+(runEnd m (bits h % (m+1))-bits h % (m+1))<=m;have:bits h % (m+1)<=m:=Cu0 (Nat.mod_lt _ (Nat.succ_pos m));unfold runEnd;split<;>omega
theorem vl3{t:SetTable}{hashAt:Nat->Int}{h:Int}:∀(N fuel:Nat) (p:Probe),p.dummy=none->N<fuel->(∀k,k<N->∃i,t.slot (seq t.mask p k).j=.live i/\hashAt i≠h)->
 (t.slot (seq t.mask p N).j=.empty->probe.go t hashAt h fuel p=some (.empty (seq t.mask p N).j none))/\∀i,t.slot (seq t.mask p N).j=.live i->hashAt i=h->probe.go t hashAt h fuel p=some (.candidate (seq t.mask p N).j i (seq t.mask p (N+1)))
 | N,0,p,_,hf,_=>absurd hf (by omega)
 | 0,fuel+1,p,hd,_,_=>by
   refine⟨λe=>?_,λi e eh=>?_⟩
   ·unfold probe.go
    rw[show t.slot p.j=.empty from e];dsimp only;rw[hd];rfl
   ·unfold probe.go
    rw[show t.slot p.j=.live i from e];dsimp only;rw[if_pos (by simpa using eh)];rfl
 | N+1,fuel+1,p,hd,hf,hk=>by
   obtain⟨i,e,ne⟩:=hk 0 (by omega);have st:probe.go t hashAt h (fuel+1) p=probe.go t hashAt h fuel (adv t.mask p):=by
    rw[probe.go];rw[show t.slot p.j=.live i from e];dsimp only;rw[if_neg (by simpa using ne)];rfl
   rw[st];exact vl3 N fuel (adv t.mask p) ((yq7 _ _).trans hd) (by omega) λk hk'=>hk (k+1) (by omega)
noncomputable def Fnd(pl:List Nat)(m:Nat)(h:Int)(j:Nat):Prop:=∃n,(seq m (ws4 m h) n).j=j/\∀k,k<n->(seq m (ws4 m h) k).j∈pl
def Fnd.mono{pl pl':List Nat}{m:Nat}{h:Int}{j:Nat}(f:Fnd pl m h j)(s:∀x∈pl,x∈pl'):Fnd pl' m h j:=let ⟨n,e,q⟩:=f;⟨n,e,λk hk=>s _ (q k hk)⟩
noncomputable abbrev Ent:=Int×Value
structure Tb(b:Bool)(es:Array Ent)(t:SetTable):Prop where
 sz:t.place.size=es.size
 up:t.place.toList.Pairwise (· < ·)
 le:∀j∈t.place.toList,j<=t.mask
 nod:t.dummies=#[]
 cy:Cyc t.mask
 few:es.size<=t.mask
 led:t.led=b
 plain:t.plain=true
 find:∀x∈t.place.toList.zip es.toList,Fnd t.place.toList t.mask x.2.1 x.1
theorem vu4:∀{l m:List Nat},l.Nodup->(∀x∈l,x∈m)->l.length<=m.length
 | [],_,_,_=>Am0 _
 | a::l,m,nd,hs=>by
   have pm:=List.perm_cons_erase (hs a Bi0);have nd':=Bx0.mp nd;have:=vu4 (l:=l) (m:=m.erase a) nd'.2 λx hx=>by
    rcases Aj0.mp (pm.mem_iff.mp (hs x (Ay0 _ hx))) with z | z
    ·exact absurd (z▸hx) nd'.1
    ·exact z
   rw[pm.length_eq];exact Nat.succ_le_succ this
def xm8{l:List Nat}{m:Nat}(h:l.length<=m):∃r,r<=m/\r∉l:=
 Classical.byContradiction λno=>by
  have:=vu4 (l:=List.range (m+1)) (m:=l) List.nodup_range λx hx=>Classical.byContradiction λz=>no ⟨x,by have:=Bv0.mp hx;omega,z⟩
  rw[Cj0] at this;omega
theorem vl1{p:Nat->Prop}:∀n,p n->∃k,k<=n/\p k/\∀j,j<k->¬p j:=λn=>by
 induction n using Nat.strongRecOn with
 | ind n ih=>
   intro h;by_cases z:∃k,k<n/\p k
   ·obtain⟨k,h1,h2⟩:=z
    obtain⟨q,a,b,c⟩:=ih k h1 h2;exact⟨q,by omega,b,c⟩
   ·exact⟨n,Ad0 _,h,λj hj pj=>z ⟨j,hj,pj⟩⟩
section
variable{b:Bool}{es:Array Ent}{t:SetTable}
def Tb.fits(T:Tb b es t):t.fits es.size=true:=by
 have:=T.few;simp[SetTable.fits,SetTable.fill,T.sz,T.nod,this]
def Tb.empty(T:Tb b es t){p:Probe}(h:p.more<=9/\p.perturb<2 ^ 64/\p.j+p.more<=t.mask):∃n,n<10*turns t.mask/\(seq t.mask p n).j∉t.place.toList/\∀k,k<n->(seq t.mask p k).j∈t.place.toList:=by
 obtain⟨r,hr,hn⟩:=xm8 (l:=t.place.toList) (m:=t.mask) (by rw[Ah0,T.sz];exact T.few);obtain⟨n,h1,h2⟩:=T.cy.seen h.1 h.2.1 hr;obtain⟨k,a,bb,c⟩:=vl1 (p:=λn=>(seq t.mask p n).j∉t.place.toList) n (by rw[h2];exact hn);exact⟨k,by omega,bb,λj hj=>Classical.not_not.mp (c j hj)⟩
def Tb.slot(T:Tb b es t){j:Nat}(h:j∈t.place.toList):∃i e,t.slot j=.live i/\es[i]?=some e/\(j,e)∈t.place.toList.zip es.toList:=by
 obtain⟨i,hi,e⟩:=Bg0 h;have hi2:i<es.toList.length:=by rw[Ah0] at hi ⊢;rw[<-T.sz];exact hi
 refine⟨i,es.toList[i],xf6 T.up (by rw[Ac0 hi,e]),by rw[<-Bf0,Ac0 hi2],?_⟩;have:(t.place.toList.zip es.toList)[i]?=some (j,es.toList[i]):=by
  rw[List.getElem?_zip_eq_some];exact⟨by rw[Ac0 hi,e],Ac0 hi2⟩
 exact Ao0 this
def Tb.probe(T:Tb b es t){p:Probe}{h:Int}(hd:p.dummy=none)(hp:p.more<=9/\p.perturb<2 ^ 64/\p.j+p.more<=t.mask){hashAt:Nat->Int}(hh:∀i e,es[i]?=some e->hashAt i=e.1) :
 ∃N,(∀k,k<N->∃e,((seq t.mask p k).j,e)∈t.place.toList.zip es.toList/\e.1≠h)/\
  (((seq t.mask p N).j∉t.place.toList/\t.probe hashAt h p=some (.empty (seq t.mask p N).j none))\/
   ∃i e,((seq t.mask p N).j,e)∈t.place.toList.zip es.toList/\e.1=h/\es[i]?=some e/\t.slot (seq t.mask p N).j=.live i/\t.probe hashAt h p=some (.candidate (seq t.mask p N).j i (seq t.mask p (N+1)))):=by
 obtain⟨n,h1,h2,h3⟩:=T.empty hp;obtain⟨N,a,bb,c⟩:=vl1 (p:=λk=>k=n\/∃i e,t.slot (seq t.mask p k).j=.live i/\es[i]?=some e/\((seq t.mask p k).j,e)∈t.place.toList.zip es.toList/\e.1=h) n (.inl rfl);have ah:∀k,k<N->∃i e,t.slot (seq t.mask p k).j=.live i/\es[i]?=some e/\((seq t.mask p k).j,e)∈t.place.toList.zip es.toList/\e.1≠h:=λk hk=>by
  obtain⟨i,e,x1,x2,x3⟩:=T.slot (h3 k (by omega));exact⟨i,e,x1,x2,x3,λz=>c k hk (.inr ⟨i,e,x1,x2,x3,z⟩)⟩
 have G:=vl3 (t:=t) (hashAt:=hashAt) (h:=h) N (10*turns t.mask) p hd (by omega) λk hk=>by
  obtain⟨i,e,x1,x2,x3,x4⟩:=ah k hk;exact⟨i,x1,by rw[hh i e x2];exact x4⟩
 refine⟨N,λk hk=>by obtain⟨i,e,_,_,x3,x4⟩:=ah k hk;exact⟨e,x3,x4⟩,?_⟩;by_cases q:∃i e,t.slot (seq t.mask p N).j=.live i/\es[i]?=some e/\((seq t.mask p N).j,e)∈t.place.toList.zip es.toList/\e.1=h
 ·obtain⟨i,e,x1,x2,x3,x4⟩:=q
  exact .inr ⟨i,e,x3,x4,x2,x1,G.2 i x1 (by rw[hh i e x2];exact x4)⟩
 ·have:N=n:=bb.resolve_right q
  subst this;exact .inl ⟨h2,G.1 (xb2 T.nod h2)⟩
def yj6{α:Type}(xs:Array α)(p:Nat)(x:α):(insertAt xs p x).toList=xs.toList.take p++x::xs.toList.drop p:=by
 unfold insertAt;simp[Array.toList_extract,List.extract_eq_take_drop];rw[Bp0 (by simp)]
def yj5{α:Type}(xs:Array α)(p:Nat)(x:α):(insertAt xs p x).toList.Perm (x::xs.toList):=by
 rw[yj6];refine List.perm_middle.trans ?_;rw[List.take_append_drop]
def Tb.put(T:Tb b es t){h:Int}{x:Value}{j:Nat}(hj:j<=t.mask)(hn:j∉t.place.toList)(hf:Fnd t.place.toList t.mask h j)(h1:es.size+1<=t.mask) :
 Tb b (insertAt es (t.put j).2 (h,x)) (t.put j).1:=by
 obtain⟨b0,b1,b2⟩:=yl3 (j:=j) T.up;have e0:has t.dummies j=false:=by rw[T.nod];simp[has]
 have ep:(t.put j).2=below t.place j:=rfl;have et:(t.put j).1={ t with place:=insertAt t.place (below t.place j) j }:=by unfold SetTable.put;rw[e0];rfl
 rw[ep,et];generalize below t.place j=p at *;have pl:=yj6 t.place p j;have pp:=yj5 t.place p j;have pe:=yj5 es p (h,x);have mem:∀y∈t.place.toList,y∈(insertAt t.place p j).toList:=λy hy=>pp.mem_iff.mpr (Ay0 _ hy)
 have sz:(insertAt es p (h,x)).size=es.size+1:=by rw[<-Ah0,pe.length_eq];simp
 refine⟨?_,?_,?_,T.nod,T.cy,by rw[sz];exact h1,T.led,T.plain,?_⟩
 ·show (insertAt t.place p j).size=_
  rw[sz,<-Ah0,pp.length_eq];simp[T.sz]
 ·show (insertAt t.place p j).toList.Pairwise _
  rw[pl];refine Bl0.mpr ⟨T.up.sublist (List.take_sublist _ _),Cg0.mpr ⟨λy hy=>?_,T.up.sublist (List.drop_sublist _ _)⟩,λa ha b hb=>?_⟩
  ·obtain⟨k,hk,e⟩:=Bg0 hy
   rw[Cx0] at e;have:=b2 (p+k) y (by omega) (by rw[Ac0 (by rw[Cf0] at hk;omega),e]);have ne:j≠y:=λz=>hn (z▸(List.drop_sublist _ _).subset hy)
   omega
  ·obtain⟨i,hi,e⟩:=Bg0 ha
   rw[List.getElem_take] at e;rw[Bd0] at hi;have ea:t.place.toList[i]?=some a:=by rw[Ac0 (by omega),e]
   rcases Aj0.mp hb with r | r
   ·rw[r];exact b1 i a (by omega) ea
   ·obtain⟨k,hk,e'⟩:=Bg0 r
    rw[Cx0] at e';exact wy3 T.up (show i<p+k by omega) ea (by rw[Ac0 (by rw[Cf0] at hk;omega),e'])
 ·intro y hy
  rcases Aj0.mp (pp.mem_iff.mp hy) with r | r
  ·rw[r];exact hj
  ·exact T.le y r
 ·intro y hy
  show Fnd (insertAt t.place p j).toList t.mask y.2.1 y.1;rw[show ({ t with place:=insertAt t.place p j }:SetTable).place=insertAt t.place p j from rfl,pl,yj6 es p (h,x)] at hy;have hlen:(t.place.toList.take p).length=(es.toList.take p).length:=by rw[Bd0,Bd0,Ah0,Ah0,T.sz]
  rw[List.zip_append hlen,List.zip_cons_cons] at hy;have old:∀z∈t.place.toList.zip es.toList,Fnd (insertAt t.place p j).toList t.mask z.2.1 z.1:=λz hz=>(T.find z hz).mono mem
  rcases Ap0.mp hy with q | q
  ·refine old y ?_
   rw[List.zip,<-List.take_zipWith] at q;exact(List.take_sublist _ _).subset q
  ·rcases Aj0.mp q with q | q
   ·rw[q];exact hf.mono mem
   ·refine old y ?_
    rw[List.zip,<-List.drop_zipWith] at q;exact(List.drop_sublist _ _).subset q
end
def Cyc.leaps{m:Nat}(C:Cyc m)(i:Nat){u:Nat}(h64:u<2 ^ 64){r:Nat}(hr:r<=m):∃n,n<turns m/\(St.leaps m n (i,u)).1=r:=by
 have i13:(St.leaps m 13 (i,u)).1<=m:=by
  have:St.leaps m 13 (i,u)=leap m (St.leaps m 12 (i,u)).1 (St.leaps m 12 (i,u)).2:=zr2 m 12 1 _;rw[this];exact Cu0 (Nat.mod_lt _ (Nat.succ_pos m))
 obtain⟨q,hq,e⟩:=C.from i13 hr;refine⟨13+q,by unfold turns;omega,?_⟩;rw[zr2,show St.leaps m 13 (i,u)=((St.leaps m 13 (i,u)).1,0) by
  refine Prod.ext rfl ?_;rw[yd4];exact Nat.div_eq_of_lt (Nat.lt_trans h64 (by decide)),zx5,e]
structure Own(m:Nat)(owner:Array (Option Nat))(js:List Nat):Prop where
 sz:owner.size=m+1
 own:∀j q:Nat,owner[j]?=some (some q)↔js[q]?=some j
 nd:js.Nodup
 le:∀j∈js,j<=m
section
variable{m:Nat}{owner:Array (Option Nat)}{js:List Nat}
def Own.none(O:Own m owner js){j:Nat}(hj:j<=m):(owner.getD j (some 0)).isNone=true↔j∉js:=by
 have hs:j<owner.size:=by rw[O.sz];omega
 have e:owner[j]?=some owner[j]:=Ak0 hs;rw[show owner.getD j (some 0)=owner[j] by simp[Array.getD,hs]];constructor
 ·intro h z
  obtain⟨q,hq,eq⟩:=Bg0 z;have:=(O.own j q).mpr (by rw[Ac0 hq,eq]);rw[e] at this;rw[Option.some.inj this] at h;cases h
 ·intro h
  cases ho:owner[j] with
  | none=>rfl
  | some q=>exact absurd (Ao0 ((O.own j q).mp (by rw[e,ho]))) h
theorem xm7(O:Own m owner js):∀(fuel i u:Nat),i<=m->(∃n,n<fuel/\(leaps m n (i,u)).1∉js)->
 ∃N,layClean.free m owner fuel i u=some (seq m ⟨i,runEnd m i-i,i,u,none⟩ N).j/\(seq m ⟨i,runEnd m i-i,i,u,none⟩ N).j∉js/\∀k,k<N->(seq m ⟨i,runEnd m i-i,i,u,none⟩ k).j∈js
 | 0,i,u,_,h=>by obtain⟨n,h1,_⟩:=h;omega
 | fuel+1,i,u,hi,h=>by
   have re:runEnd m i<=m/\i<=runEnd m i:=by unfold runEnd;split<;>omega
   unfold layClean.free;cases q:(List.range (runEnd m i+1-i)).find? λk=>(owner.getD (i+k) (some 0)).isNone with
   | some k=>
     obtain⟨h1,h2,h3⟩:=List.find?_range_eq_some.mp q;have hk:=Bv0.mp h2;refine⟨k,?_,?_,λk' hk'=>?_⟩
     ·rw[zw7 m k _ (by show k<=runEnd m i-i;omega)]
     ·rw[zw7 m k _ (by show k<=runEnd m i-i;omega)]
      show i+k∉js;exact(O.none (by omega)).mp h1
     ·rw[zw7 m k' _ (by show k'<=runEnd m i-i;omega)]
      refine Classical.not_not.mp λz=>?_
      have:=h3 k' hk';rw[(O.none (j:=i+k') (by omega)).mpr z] at this;cases this
   | none=>
     have h3:=List.find?_range_eq_none.mp q;have run:∀k,k<=runEnd m i-i->i+k∈js:=λk hk=>Classical.not_not.mp λz=>by
      have:=h3 k (by omega);rw[(O.none (j:=i+k) (by omega)).mpr z] at this;cases this
     obtain⟨n,h1,h2⟩:=h;cases n with
     | zero=>exact absurd (run 0 (Am0 _)) h2
     | succ n=>
       have hi':(leap m i u).1<=m:=Cu0 (Nat.mod_lt _ (Nat.succ_pos m));obtain⟨N,a,b,c⟩:=xm7 O fuel (leap m i u).1 (leap m i u).2 hi' ⟨n,by omega,h2⟩;have e:∀k,seq m ⟨i,runEnd m i-i,i,u,none⟩ (runEnd m i-i+1+k)=seq m ⟨(leap m i u).1,runEnd m (leap m i u).1-(leap m i u).1,(leap m i u).1,(leap m i u).2,none⟩ k:=λk=>by
        rw[yb8,show seq m ⟨i,runEnd m i-i,i,u,none⟩ (runEnd m i-i+1)=_ from zz5 m ⟨i,runEnd m i-i,i,u,none⟩]
       refine⟨runEnd m i-i+1+N,?_,?_,λk hk=>?_⟩
       ·rw[e];exact a
       ·rw[e];exact b
       ·by_cases z:k<=runEnd m i-i
        ·rw[zw7 m k _ z]
         exact run k z
        ·rw[show k=runEnd m i-i+1+(k-(runEnd m i-i+1)) by omega,e]
         exact c _ (by omega)
def Own.add(O:Own m owner js){j:Nat}(hj:j<=m)(hn:j∉js):Own m (owner.setIfInBounds j (some js.length)) (js++[j]):=by
 refine⟨by simp[O.sz],λi q=>?_,?_,λx hx=>?_⟩
 ·rw[Array.getElem?_setIfInBounds]
  by_cases e:j=i
  ·subst e
   rw[if_pos rfl,if_pos (by rw[O.sz];omega)];constructor
   ·intro h;cases h;simp
   ·intro h
    by_cases z:q<js.length
    ·rw[Bc0 z] at h
     exact absurd (Ao0 h) hn
    ·have:=(Ae0.mp h).1
     rw[Ai0] at this;simp at this;rw[show q=js.length by omega]
  ·rw[if_neg e]
   constructor
   ·intro h
    have:=(O.own i q).mp h;rw[Bc0 (Ae0.mp this).1];exact this
   ·intro h
    refine(O.own i q).mpr ?_;by_cases z:q<js.length
    ·rw[Bc0 z] at h;exact h
    ·rw[Cl0 (by omega)] at h
     cases w:q-js.length with
     | zero=>rw[w] at h;simp at h;exact absurd h e
     | succ w'=>rw[w] at h;simp at h
 ·exact Cw0.mpr ⟨O.nd,by simp,λa ha b hb=>by rw[Aq0.mp hb];exact λz=>hn (z▸ha)⟩
 ·rcases Ap0.mp hx with z | z
  ·exact O.le x z
  ·rw[Aq0.mp z];exact hj
theorem yy9(C:Cyc m):∀(hs:List Int) (done:List Int) (owner:Array (Option Nat)) (js:List Nat),Own m owner js->js.length=done.length->(∀(q:Nat) (h:Int) (j:Nat),done[q]?=some h->js[q]?=some j->Fnd js m h j)->done.length+hs.length<=m->
 ∃owner' js',hs.foldl (λacc h=>do
  let (owner,k) <-acc
  let j <-layClean.free m owner (turns m) (bits h % (m+1)) (bits h)
  pure (owner.setIfInBounds j (some k),k+1)) (some (owner,done.length))=some (owner',(done++hs).length)/\Own m owner' js'/\js'.length=(done++hs).length/\∀(q:Nat) (h:Int) (j:Nat),(done++hs)[q]?=some h->js'[q]?=some j->Fnd js' m h j
 | [],done,owner,js,O,hl,hf,_=>⟨owner,js,by simp,O,by simpa using hl,by simpa using hf⟩
 | h::hs,done,owner,js,O,hl,hf,hm=>by
   rw[Ar0] at hm;obtain⟨r,hr,hn⟩:=xm8 (l:=js) (m:=m) (by omega);obtain⟨n,h1,h2⟩:=C.leaps (bits h % (m+1)) (xp1 h) hr;obtain⟨N,a,b,c⟩:=xm7 O (turns m) (bits h % (m+1)) (bits h) (Cu0 (Nat.mod_lt _ (Nat.succ_pos m))) ⟨n,h1,by rw[h2];exact hn⟩;generalize hj:(seq m ⟨bits h % (m+1),runEnd m (bits h % (m+1))-bits h % (m+1),bits h % (m+1),bits h,none⟩ N).j=j at a b;have jm:j<=m:=by
    have:=(yv2 m N (zz4 m h)).2.2;have e:(seq m (ws4 m h) N).j=j:=hj;omega
   have fj:Fnd js m h j:=⟨N,hj,c⟩;have O':=O.add jm b;have sub:∀x∈js,x∈js++[j]:=λx hx=>Bo0 _ hx
   obtain⟨ow,js',e,o1,o2,o3⟩:=yy9 C hs (done++[h]) _ (js++[j]) O' (by simp[hl]) (λq h' j' e1 e2=>by
    by_cases z:q<done.length
    ·rw[Bc0 z] at e1
     rw[Bc0 (by omega)] at e2;exact(hf q h' j' e1 e2).mono sub
    ·rw[Cl0 (by omega)] at e1
     rw[Cl0 (by omega)] at e2;rw[hl] at e2;cases w:q-done.length with
     | zero=>
       rw[w] at e1 e2;simp at e1 e2;rw[<-e1,<-e2];exact fj.mono sub
     | succ w'=>rw[w] at e1;simp at e1) (by rw[Ai0];simp;omega)
   have ap:done++h::hs=done++[h]++hs:=by simp
   refine⟨ow,js',?_,o1,by rw[ap];exact o2,by rw[ap];exact o3⟩;rw[List.foldl_cons,ap,<-e];congr 1;show (do
    let j <-layClean.free m owner (turns m) (bits h % (m+1)) (bits h)
    pure (owner.setIfInBounds j (some done.length),done.length+1))=some (owner.setIfInBounds j (some js.length),(done++[h]).length)
   rw[a,hl];simp
end
def xv5{m:Nat}(C:Cyc m){hs:Array Int}(h:hs.size<=m):∃owner js,layClean m hs=some owner/\Own m owner js/\js.length=hs.size/\∀(q:Nat) (x:Int) (j:Nat),hs[q]?=some x->js[q]?=some j->Fnd js m x j:=by
 have O0:Own m (Array.replicate (m+1) none) []:=⟨by simp,λj q=>by simp[Array.getElem?_replicate],List.nodup_nil,λj hj=>absurd hj (by simp)⟩;obtain⟨owner,js,e,a,b,c⟩:=yy9 C hs.toList [] (Array.replicate (m+1) none) [] O0 rfl (λq h j e=>by simp at e) (by simpa using h);refine⟨owner,js,?_,a,by simpa using b,λq x j e1 e2=>c q x j (by simpa using e1) e2⟩;unfold layClean;rw[<-Array.foldl_toList];rw[show (some (Array.replicate (m+1) none,0):Option (Array (Option Nat)×Nat))=some (Array.replicate (m+1) none,([]:List Int).length) from rfl,e];rfl
theorem yx5{α:Type}:∀l:List α,(List.range l.length).filterMap (λi=>l[i]?)=l
 | []=>rfl
 | a::l=>by
   rw[Ar0,List.range_succ_eq_map,List.filterMap_cons];simp only[List.getElem?_cons_zero,List.filterMap_map];congr 1;refine Eq.trans ?_ (yx5 l);congr 1
theorem xw1{α:Type}{es:Array α}:∀{L:List (Nat×Nat)},(∀x∈L,x.2<es.size)->((L.map (·.2)).filterMap (λq=>es[q]?)).length=L.length/\∀y∈(L.map (·.1)).zip ((L.map (·.2)).filterMap (λq=>es[q]?)),∃q,(y.1,q)∈L/\es[q]?=some y.2
 | [],_=>⟨rfl,λy hy=>absurd hy (by simp)⟩
 | (j,q)::L,h=>by
   obtain⟨a,b⟩:=xw1 (L:=L) λx hx=>h x (Ay0 _ hx)
   have hq:q<es.size:=h (j,q) Bi0;have e:es[q]?=some es[q]:=Ak0 hq;simp only[Ax0,List.filterMap_cons,e];refine⟨by simp only[Ar0,a],λy hy=>?_⟩;rw[List.zip_cons_cons] at hy;rcases Aj0.mp hy with r | r
   ·rw[r];exact⟨q,Bi0,e⟩
   ·obtain⟨q',h1,h2⟩:=b y r
    exact⟨q',Ay0 _ h1,h2⟩
def wf4{m:Nat}(C:Cyc m){es:Array Ent}(h:es.size<=m)(finger moves:Nat)(b:Bool):∃t order,laid m finger moves b true (es.map (·.1))=some (t,order)/\Tb b (order.filterMap (es[·]?)) t/\t.mask=m/\(order.filterMap (es[·]?)).toList.Perm es.toList:=by
 obtain⟨owner,js,e,O,hl,hf⟩:=xv5 C (hs:=es.map (·.1)) (by simpa using h);rw[Array.size_map] at hl;unfold laid;rw[e];generalize hL:(List.range (m+1)).filterMap (λj=>(owner.getD j none).map (j,·))=L;have mem:∀j q:Nat,(j,q)∈L↔js[q]?=some j:=λj q=>by
  rw[<-hL,List.mem_filterMap];constructor
  ·rintro ⟨i,hi,z⟩
   have hi:=Bv0.mp hi;cases ho:owner.getD i none with
   | none=>rw[ho] at z;cases z
   | some q'=>
     rw[ho] at z;have z:some (i,q')=some (j,q):=z;obtain⟨r1,r2⟩:=Prod.mk.inj (Option.some.inj z);subst r1 r2;refine(O.own _ _).mp ?_;have hs:i<owner.size:=by rw[O.sz];exact hi
     rw[Ak0 hs,<-ho];simp[Array.getD,hs]
  ·intro z
   have hj:=O.le j (Ao0 z);refine⟨j,Bv0.mpr (by omega),?_⟩;have:=(O.own j q).mpr z;have hs:j<owner.size:=by rw[O.sz];omega
   rw[Ak0 hs] at this;rw[show owner.getD j none=owner[j] by simp[Array.getD,hs],Option.some.inj this];rfl
 have up:L.Pairwise (λa b=>a.1<b.1):=by
  rw[<-hL];refine List.pairwise_filterMap.mpr (Cr0.imp λ{a b} hab x hx y hy=>?_);cases ha:owner.getD a none with
  | none=>rw[ha] at hx;cases hx
  | some p=>cases hb:owner.getD b none with
    | none=>rw[hb] at hy;cases hy
    | some q=>rw[ha] at hx;rw[hb] at hy;cases hx;cases hy;exact hab
 have ndO:(L.map (·.2)).Nodup:=by
  refine Cd0.mpr (up.imp_of_mem λ{a b} ha hb hab z=>?_);have h1:=(mem a.1 a.2).mp ha;have h2:=(mem b.1 b.2).mp hb;rw[z,h2] at h1;have:=Option.some.inj h1;omega
 have pO:(L.map (·.2)).Perm (List.range es.size):=(List.perm_ext_iff_of_nodup ndO List.nodup_range).mpr λq=>by
  rw[Bv0,<-hl];constructor
  ·intro z
   obtain⟨x,hx,ex⟩:=Au0.mp z;have:=(mem x.1 x.2).mp hx;rw[ex] at this;exact(Ae0.mp this).1
  ·intro z
   exact Au0.mpr ⟨(js[q],q),(mem _ _).mpr (Ac0 z),rfl⟩
 have lL:L.length=es.size:=by have:=pO.length_eq;simpa using this
 obtain⟨z1,z2⟩:=xw1 (es:=es) (L:=L) λx hx=>by
  have:=(Ae0.mp ((mem x.1 x.2).mp hx)).1;omega
 have eE:((L.map (·.2)).toArray.filterMap (es[·]?)).toList=(L.map (·.2)).filterMap (λq=>es[q]?):=by simp
 have szE:((L.map (·.2)).toArray.filterMap (es[·]?)).size=es.size:=by rw[<-Ah0,eE,z1,lL]
 refine⟨{ mask:=m,place:=(L.map (·.1)).toArray,dummies:=#[],finger,led:=b,moves,plain:=true },(L.map (·.2)).toArray,by rw[<-hL];rfl,⟨?_,?_,?_,rfl,C,?_,rfl,rfl,?_⟩,rfl,?_⟩
 ·rw[szE];simp[lL]
 ·show (L.map (·.1)).toArray.toList.Pairwise _
  exact Cd0.mpr up
 ·intro j hj
  obtain⟨x,hx,ex⟩:=Au0.mp (show j∈L.map (·.1) from hj);rw[<-ex];exact O.le _ (Ao0 ((mem x.1 x.2).mp hx))
 ·rw[szE];exact h
 ·intro y hy
  rw[eE] at hy;obtain⟨q,h1,h2⟩:=z2 y hy;have:=hf q y.2.1 y.1 (by rw[Array.getElem?_map,h2];rfl) ((mem _ _).mp h1);refine this.mono λx hx=>?_
  obtain⟨q',hq',e'⟩:=Bg0 hx;exact Au0.mpr ⟨(x,q'),(mem _ _).mpr (by rw[Ac0 hq',e']),rfl⟩
 ·rw[eE]
  refine(pO.filterMap _).trans ?_;have:=yx5 es.toList;rw[Ah0] at this;simp only[Bf0] at this;rw[this]
noncomputable def Msk(n m:Nat):Prop:=n*5<m*3/\(m=7\/m=31\/m=127\/m=511)
def Msk.cyc{n m:Nat}(h:Msk n m):Cyc m:=by
 rcases h.2 with r | r | r | r<;>subst r
 ·exact vw3
 ·exact vs8
 ·exact wq2
 ·exact wq1
def Msk.grow{n m:Nat}(h:Msk n m)(hn:n<300)(hf:¬(n+1)*5<m*3):Msk (n+1) (sizeAbove (grown (n+1))-1)/\n+1<=sizeAbove (grown (n+1))-1:=by
 obtain⟨h1,h2⟩:=h;have:n=4\/n=18\/n=76:=by rcases h2 with r | r | r | r<;>subst r<;>omega
 unfold Msk;rcases this with r | r | r<;>subst r<;>decide
section
variable{prog:Program}{w:World}{A:Around}{E:Value->Shared->Prop}{s:Shared}
def wh5(n:Nat){v:Value}(h:carriedByValue v=true):ofAClassStatement n v=pure false:=by
 cases n<;>cases v<;>first | rfl | cases h
theorem yh9{M:Model}{α β:Type}{f:α->β->Sem (ForInStep β)}{b:β}{Q:β->Shared->Prop}:∀{l:List α},(∀x∈l,∀R:ForInStep β->Shared->Prop,R (.yield b) s->wpAny M A (f x b) R E s)->Q b s->wpAny M A (forIn l b f) Q E s
 | [],_,q=>by rw[List.forIn_nil];exact Ac1 q
 | x::l,h,q=>by
   rw[List.forIn_cons];exact Aa1 (h x Bi0 _ (yh9 (λy hy=>h y (Ay0 _ hy)) q))
def xw2{ks:List Int}{a:Addr}{Q:Bool->Shared->Prop}(z:IsTupleKey (intKind prog w) s.heap ks a)(q:Q false s):wpAny (model prog w) A (ofAClassStatement 8 (.ref a)) Q E s:=by
 have ty:=z.typeIs;obtain⟨_,its,_,g,_,d,ia⟩:=z;unfold ofAClassStatement;refine Aa1 (wpAny_typeOf ty ?_);dsimp only;rw[if_pos (by decide)];refine Aa1 (Ac1 ?_);rw[if_neg (by decide)];refine Aa1 (An1 g d ?_);refine Aa1 ?_;show wpAny _ _ (forIn its _ _) _ _ _;rw[<-Array.forIn_toList];exact yh9 (λv m R r=>by rw[wh5 _ (ia.byValue v m)];exact Aa1 (Ac1 (by rw[if_neg At0];exact Ac1 r))) (Ac1 q)
def wa5{ks:List Int}{a:Addr}{Q:Bool->Shared->Prop}(hk:IsTupleKey (intKind prog w) s.heap ks a){l:List Value}(hl:∀y∈l,∃b ks',y=.ref b/\IsTupleKey (intKind prog w) s.heap ks' b)(h:Q false s):wpAny (model prog w) A (searchCouldBeSeen (.ref a) l) Q E s:=by
 unfold searchCouldBeSeen;refine Aa1 (yh9 (λv m R r=>?_) (Ac1 h));obtain⟨b,ks',rfl,hb⟩:=hl v m;have f:∀{X Y:Sem (ForInStep (Option Bool×PUnit))} {t:Bool},t=false->wpAny (model prog w) A Y R E s->wpAny (model prog w) A (if t=true then X else Y) R E s:=λe y=>by rw[if_neg (by rw[e];exact At0)];exact y
 dsimp only;refine wpAny_ite ?_;split
 ·exact Ac1 r
 ·exact Aa1 (wpAny_eqIsQuiet_tuple hk (f rfl (Aa1 (wpAny_eqIsQuiet_tuple hb (f rfl (Aa1 (xw2 hk (f rfl (Aa1 (xw2 hb (f rfl (Ac1 r))))))))))))
noncomputable def Ens(prog:Program)(w:World)(G:Addr->Prop)(h:Heap)(e:Ent)(ks:List Int):Prop:=∃b,e.2=.ref b/\G b/\IsTupleKey (intKind prog w) h ks b/\e.1=tupleKeyHash (intKind prog w) ks
def Ens.inj{G:Addr->Prop}{h:Heap}{e:Ent}{x y:List Int}(a:Ens prog w G h e x)(b:Ens prog w G h e y):x=y:=by
 obtain⟨c,e1,_,k1,_⟩:=a;obtain⟨d,e2,_,k2,_⟩:=b;rw[e1] at e2;cases e2;exact k1.inj k2
def xq1{l:List Nat}{es:List Ent}(u:l.Pairwise (· < ·)){j:Nat}{e e':Ent}(h:(j,e)∈l.zip es)(h':(j,e')∈l.zip es):e=e':=by
 obtain⟨i,hi,ei⟩:=Bg0 h;obtain⟨k,hk,ek⟩:=Bg0 h';have g1:(l.zip es)[i]?=some (j,e):=by rw[Ac0 hi,ei]
 have g2:(l.zip es)[k]?=some (j,e'):=by rw[Ac0 hk,ek]
 rw[List.getElem?_zip_eq_some] at g1 g2;have:i=k:=by
  rcases Nat.lt_trichotomy i k with z | z | z
  ·exact absurd (wy3 u z g1.1 g2.1) (by simp)
  ·exact z
  ·exact absurd (wy3 u z g2.1 g1.1) (by simp)
 subst this;exact Option.some.inj (g1.2.symm.trans g2.2)
theorem xc9{G:Addr->Prop}{S:Addr}{o:Obj}{es:Array Ent}{ep:Nat}{t:SetTable}{lb:Bool}{ks:List Int}{a:Addr}{Q:SetFound->Shared->Prop}(hu:A.units<cLine)(ho:s.heap.get? S=some o)(hd:o.data=.set es ep t)(T:Tb lb es t)(M:Msk es.size t.mask)(he:∀e∈es.toList,∃k,Ens prog w G s.heap e k)(hk:IsTupleKey (intKind prog w) s.heap ks a)(h1:(∃e∈es.toList,Ens prog w G s.heap e ks)->Q (.there none) s)(h2:(¬∃e∈es.toList,Ens prog w G s.heap e ks)->∀j,j<=t.mask->j∉t.place.toList->Fnd t.place.toList t.mask (tupleKeyHash (intKind prog w) ks) j->Q (.free j false) s) :
 ∀(fuel n:Nat) (st:Option Probe),st.getD (t.probeStart (tupleKeyHash (intKind prog w) ks))=seq t.mask (ws4 t.mask (tupleKeyHash (intKind prog w) ks)) n->
  (∀k,k<n->∃e,((seq t.mask (ws4 t.mask (tupleKeyHash (intKind prog w) ks)) k).j,e)∈t.place.toList.zip es.toList/\¬Ens prog w G s.heap e ks)->10*turns t.mask<=fuel+n->
  wpAny (model prog w) A (setSearchFrom S (.ref a) (tupleKeyHash (intKind prog w) ks) true fuel st) Q E s:=by
 have fits:=T.fits;have odd:t.gaveWay=false:=by unfold SetTable.gaveWay;rcases M.2 with r | r | r | r<;>rw[r]<;>rfl
 generalize hh:tupleKeyHash (intKind prog w) ks=h at *
 -- the first empty place
 obtain⟨B,hB,hB1,hB2⟩:=T.empty (zz4 t.mask h);intro fuel;induction fuel with
 | zero=>
   intro n st _ hn hf;obtain⟨e,z,_⟩:=hn B (by omega);exact absurd (Cp0 z).1 hB1
 | succ fuel ih=>
   intro n st hst hn hf;unfold setSearchFrom;refine Aa1 (wpAny_setState_of ho hd fits ?_);dsimp only;rw[odd];simp only[Bw0,if_false];rw[hst];have nok:=yv2 t.mask n (zz4 t.mask h);obtain⟨N,hN,R⟩:=T.probe (h:=h) (p:=seq t.mask (ws4 t.mask h) n) (hashAt:=λi=>(es[i]?.map (·.1)).getD 0) (by rw[ym6];rfl) nok (λi e q=>by rw[q];rfl);simp only[<-yb8] at hN R;have all:∀k,k<n+N->∃e,((seq t.mask (ws4 t.mask h) k).j,e)∈t.place.toList.zip es.toList/\¬Ens prog w G s.heap e ks:=λk hk'=>by
    by_cases z:k<n
    ·exact hn k z
    ·obtain⟨e,a1,a2⟩:=hN (k-n) (by omega)
     rw[show n+(k-n)=k by omega] at a1;exact⟨e,a1,λ⟨b,_,_,_,q⟩=>a2 (q.trans hh)⟩
   rcases R with⟨hno,hp⟩ | ⟨i,e,hz,heq,hei,hsl,hp⟩
   ·erw [hp]
    dsimp only;refine Ac1 (h2 ?_ _ ?_ hno ⟨n+N,rfl,λk hk'=>?_⟩)
    ·rintro ⟨e,hm,en⟩
     obtain⟨i,hi,ei⟩:=Bg0 hm;have hi2:i<t.place.toList.length:=by rw[Ah0] at hi ⊢;rw[T.sz];exact hi
     have zz:(t.place.toList[i],e)∈t.place.toList.zip es.toList:=Ao0 (i:=i) (by rw[List.getElem?_zip_eq_some];exact⟨Ac0 hi2,by rw[Ac0 hi,ei]⟩);obtain⟨m,e1,e2⟩:=T.find _ zz;have e1:(seq t.mask (ws4 t.mask e.1) m).j=t.place.toList[i]:=e1;have e0:e.1=h:=by obtain⟨_,_,_,_,q⟩:=en;exact q.trans hh
     simp only[e0] at e1 e2;have hm:m<n+N:=by
      refine Nat.lt_of_not_le λz=>?_
      by_cases z2:m=n+N
      ·rw[z2] at e1;rw[e1] at hno;exact hno (List.getElem_mem hi2)
      ·exact hno (e2 (n+N) (by omega))
     obtain⟨e',a1,a2⟩:=all m hm;rw[e1] at a1;rw[xq1 T.up a1 zz] at a2;exact a2 en
    ·have:=(yv2 t.mask (n+N) (zz4 t.mask h)).2.2;omega
    ·obtain⟨e,a1,_⟩:=all k hk'
     exact(Cp0 a1).1
   ·erw [hp]
    dsimp only;have mem:e∈es.toList:=(Cp0 hz).2;obtain⟨k',b,eb,gb,ib,hb⟩:=he e mem;obtain⟨eh,ev⟩:=e;cases eb;have sm:t.sameMemory t.moves t.mask=some true:=by unfold SetTable.sameMemory;rw[if_pos (by simp)]
    refine wpAny_ite ?_;split;case' isTrue=>
     refine Aa1 (wa5 hk (λy hy=>?_) ?_)
     ·obtain⟨e,he',rfl⟩:=Au0.mp hy
      obtain⟨k2,b2,q1,_,q2,_⟩:=he e (by rw[Array.toList_filter] at he';exact(List.mem_filter.mp he').1);exact⟨b2,k2,q1,q2⟩
     rw[if_neg At0]
    all_goals
     rw[hei];dsimp only;refine Aa1 (wpAny_holding (wpAny_eqBool_tuple hu ib hk ?_));refine Aa1 (wpAny_setState_of ho hd fits ?_);dsimp only;by_cases q:k'=ks
     ·rw[if_pos (by simp[q])]
      exact Ac1 (h1 ⟨_,mem,b,rfl,gb,q▸ib,heq.trans hh.symm⟩)
     ·rw[if_neg (by simp[q]),sm]
      dsimp only;rw[if_pos rfl,hsl];dsimp only;rw[hei];dsimp only;refine Aa1 (wpAny_isSame_ref_self ?_);rw[if_pos rfl];refine Aa1 (Ac1 ?_);dsimp only;rw[if_neg (by simp[q])];refine ih (n+(N+1)) _ rfl (λk hk'=>?_) (by omega);by_cases z:k<n+N
      ·exact all k z
      ·rw[show k=n+N by omega]
       exact⟨_,hz,λen=>q ((Ens.inj ⟨b,rfl,gb,ib,hb⟩ en))⟩
end
def wg2(n:Nat){v:Value}{k:Int}(h:∃t,v=.int k t):hashByValue n v=pure true:=by
 obtain⟨t,rfl⟩:=h;cases n<;>rfl
theorem xi8{α β:Type}{F:α->β->Prop}{bs bs':List β}(p:bs'.Perm bs):∀{as:List α},Paired F as bs->∃as',as'.Perm as/\Paired F as' bs':=by
 induction p with
 | nil=>intro as h;exact⟨as,.refl _,h⟩
 | cons x p ih=>
   intro as h;cases h with
   | cons a b=>
     obtain⟨as',q,r⟩:=ih b;exact⟨_::as',q.cons _,.cons a r⟩
 | swap x y l=>
   intro as h;cases h with
   | cons a b=>cases b with
     | cons c d=>exact⟨_::_::_,.swap _ _ _,.cons c (.cons a d)⟩
 | trans p q ih1 ih2=>
   intro as h;obtain⟨as1,q1,r1⟩:=ih2 h;obtain⟨as2,q2,r2⟩:=ih1 r1;exact⟨as2,q2.trans q1,r2⟩
theorem ya1{α β:Type}{F G:α->β->Prop}(i:∀a b,F a b->G a b):∀{as:List α} {bs:List β},Paired F as bs->Paired G as bs
 | _,_,.nil=>.nil
 | _,_,.cons a b=>.cons (i _ _ a) (ya1 i b)
theorem yc4{α β:Type}{F:α->β->Prop}:∀{as:List α} {bs:List β},Paired F as bs->(∀b∈bs,∃a∈as,F a b)/\(∀a∈as,∃b∈bs,F a b)/\as.length=bs.length
 | _,_,.nil=>⟨λb h=>absurd h (by simp),λb h=>absurd h (by simp),rfl⟩
 | _,_,.cons x r=>by
   obtain⟨h1,h2,h3⟩:=yc4 r;refine⟨λb hb=>?_,λb hb=>?_,by simp[h3]⟩
   ·rcases Aj0.mp hb with e | e
    ·rw[e];exact⟨_,Bi0,x⟩
    ·obtain⟨a,ha,z⟩:=h1 b e;exact⟨a,Ay0 _ ha,z⟩
   ·rcases Aj0.mp hb with e | e
    ·rw[e];exact⟨_,Bi0,x⟩
    ·obtain⟨a,ha,z⟩:=h2 b e;exact⟨a,Ay0 _ ha,z⟩
section
variable{prog:Program}{w:World}{A:Around}{E:Value->Shared->Prop}{s:Shared}
theorem wg0{ks:List Int}{vs:List Value}(z:ItemsAre (intKind prog w) ks vs):∀v∈vs,∃k t,v=.int k t:=by
 induction z with
 | nil=>exact λv m=>absurd m (by simp)
 | @cons k u _ _ e _ ih=>
   intro v m;rcases Aj0.mp m with r | r
   ·rw[r]
    cases u with
    | int i t=>exact⟨i,t,rfl⟩
    | _=>exact nomatch e
   ·exact ih v r
def wi8{ks:List Int}{a:Addr}{Q:Bool->Shared->Prop}(z:IsTupleKey (intKind prog w) s.heap ks a)(q:Q true s):wpAny (model prog w) A (hashByValue 8 (.ref a)) Q E s:=by
 have ty:=z.typeIs;obtain⟨_,its,_,g,_,d,ia⟩:=z;unfold hashByValue;refine Aa1 (wpAny_specialOf ty F.slot_tuple_hash.lookup ?_);dsimp only;refine Aa1 (An1 g d (Aa1 ?_));show wpAny _ _ (forIn its _ _) _ _ _;rw[<-Array.forIn_toList];exact yh9 (λv m R r=>by obtain⟨k,hv⟩:=wg0 ia v m;rw[wg2 _ hv];exact Aa1 (Ac1 (by rw[if_neg (by decide)];exact Ac1 r))) (Ac1 q)
def yj4{h h':Heap}{ks:List Int}{a S:Addr}{o:Obj}{es:Array Ent}{ep:Nat}{t:SetTable}(x:IsTupleKey (intKind prog w) h ks a)(ho:h.get? S=some o)(hd:o.data=.set es ep t)(hs:Heap.SameBut S h h'):IsTupleKey (intKind prog w) h' ks a:=
 let ⟨u,its,n,g,c,d,i⟩:=x
 ⟨u,its,n,(hs.2 a λe=>by rw[e,ho] at g;cases g;rw[hd] at d;exact nomatch d).trans g,c,d,i⟩
noncomputable def vd0(prog:Program)(w:World)(G:Addr->Prop)(h:Heap)(S:Addr)(ks:List (List Int)):Prop:=
 ∃o es ep t ks',h.get? S=some o/\o.ExactSet/\o.data=.set es ep t/\Tb (!w.params.followText "set-order") es t/\Msk es.size t.mask/\Paired (λk e=>Ens prog w G h e k) ks' es.toList/\ks'.Perm ks
noncomputable def vc9(ks:List (List Int))(k:List Int):List (List Int):=if k∈ks then ks else ks++[k]
def xh2{h:Heap}{a:Addr}{o:Obj}{es:Array Ent}{ep:Nat}{t:SetTable}(ho:h.get? a=some o)(hd:o.data=.set es ep t)(es':Array Ent)(t':SetTable):(h.update a (Obj.putSet es' t')).get? a=some { o with data:=.set es' (ep+1) t' }:=by
 have e:=putSet_of es' t' hd;exact(Ci0 _ ho (by rw[e];rfl)).trans (congrArg some e)
def wj0{G:Addr->Prop}{S:Addr}{ks:List (List Int)}{k:List Int}{a:Addr}{Q:Bool->Shared->Prop}(hu:A.units<cLine)(hS:vd0 prog w G s.heap S ks)(hn:ks.length<300)(hG:G a)(hk:IsTupleKey (intKind prog w) s.heap k a)(h:∀b h',Heap.SameBut S s.heap h'->vd0 prog w G h' S (vc9 ks k)->Q b { s with heap:=h' }):wpAny (model prog w) A (setAddHashed S (.ref a) (tupleKeyHash (intKind prog w) k)) Q E s:=by
 obtain⟨o,es,ep,t,ks',ho,hex,hd,T,M,hp,pm⟩:=hS;obtain⟨l1,l2,l3⟩:=yc4 hp;have hsz:es.size<300:=by rw[<-Ah0,<-l3,pm.length_eq];exact hn
 have line:∀{n:Nat},n<1000->n<=sizeLine:=λh=>by rw[sizeLine_eq];omega
 unfold setAddHashed setAddHashedIn;refine wpAny_holding (Aa1 (wpAny_setState_of ho hd T.fits ?_));dsimp only;rw[show byScan (.ref a) es=false from rfl];simp only[Bw0,if_false];have tn:10*turns t.mask<=100000+0:=by unfold turns;rcases M.2 with r | r | r | r<;>rw[r]<;>decide
 refine Aa1 (xc9 hu ho hd T M (λe he=>(l1 e he).imp λk z=>z.2) hk (λhyes=>?ya) (λhno j hj hjn hf=>?yb) 100000 0 none rfl (λk hk=>absurd hk (by omega)) tn);case ya=>
  obtain⟨e,he,en⟩:=hyes;dsimp only;have km:k∈ks:=by
   obtain⟨k',m',en'⟩:=l1 e he;exact pm.mem_iff.mp (Ens.inj en en'▸m')
  have:=h false s.heap (Heap.SameBut.refl S s.heap) (by unfold vc9;rw[if_pos km];exact⟨o,es,ep,t,ks',ho,hex,hd,T,M,hp,pm⟩);have e:s={ s with heap:=s.heap }:=by cases s;rfl
  rw[e];exact Ac1 this
 case yb=>
  dsimp only;refine Aa1 (wpAny_setState_of ho hd T.fits ?_);dsimp only;have km:k∉ks:=λz=>hno (by obtain⟨e,m,en⟩:=l2 k (pm.mem_iff.mpr z);exact⟨e,m,en⟩)
  have few:es.size+1<=t.mask:=by have:=M.1;rcases M.2 with r | r | r | r<;>omega
  have T2:=T.put (x:=.ref a) hj hjn hf few;have pl:(t.put j).1.plain=true:=T.plain;have mk:(t.put j).1.mask=t.mask:=rfl;generalize t.put j=tp at T2 pl mk ⊢;obtain⟨t2,p⟩:=tp;dsimp only at T2 pl mk ⊢;rw[if_pos pl];refine Aa1 (wi8 hk ?_);rw[if_pos rfl];generalize he2:insertAt es p (tupleKeyHash (intKind prog w) k,Value.ref a)=es2 at T2 ⊢;have pe:es2.toList.Perm ((tupleKeyHash (intKind prog w) k,Value.ref a)::es.toList):=by rw[<-he2];exact yj5 _ _ _
  have sz2:es2.size=es.size+1:=by rw[<-Ah0,pe.length_eq];simp
  refine Aa1 (wpAny_storeSet_of ho hd ?_ (line (by omega)));have g1:=xh2 ho hd es2 t2;have sb1:=Heap.SameBut.update s.heap S (Obj.putSet es2 t2)
  -- what the things are behind it
  have fin:∀(h':Heap) (o':Obj) (es':Array Ent) (ep':Nat) (t':SetTable),Heap.SameBut S s.heap h'->h'.get? S=some o'->o'.ExactSet->o'.data=.set es' ep' t'->Tb (!w.params.followText "set-order") es' t'->Msk es'.size t'.mask->es'.toList.Perm es2.toList->Q true { s with heap:=h' }:=λh' o' es' ep' t' sb g ex' d' T' M' p'=>by
   refine h true h' sb ?_;have kp:∀k e,Ens prog w G s.heap e k->Ens prog w G h' e k:=λk e ⟨b,e1,e0,e2,e3⟩=>⟨b,e1,e0,yj4 e2 ho hd sb,e3⟩
   have hp2:Paired (λk e=>Ens prog w G h' e k) (k::ks') ((tupleKeyHash (intKind prog w) k,Value.ref a)::es.toList):=.cons ⟨a,rfl,hG,yj4 hk ho hd sb,rfl⟩ (ya1 kp hp);obtain⟨ks3,q1,q2⟩:=xi8 (p'.trans pe) hp2;refine⟨o',es',ep',t',ks3,g,ex',d',T',M',q2,q1.trans ?_⟩;unfold vc9;rw[if_neg km];exact((List.Perm.cons k pm).trans (List.perm_append_singleton k ks).symm)
  by_cases full:(es.size+1)*5<t.mask*3
  ·have nf:t2.tooFull=false:=by
    simp only[SetTable.tooFull,SetTable.fill,T2.sz,T2.nod,mk,sz2];simp;omega
   rw[nf];simp only[Bool.and_false,Bw0,if_false];exact Ac1 (fin _ _ es2 _ t2 sb1 g1 hex rfl T2 ⟨by rw[sz2,mk];exact full,by rw[mk];exact M.2⟩ (.refl _))
  ·have nf:t2.tooFull=true:=by
    simp only[SetTable.tooFull,SetTable.fill,T2.sz,T2.nod,mk,sz2];simp;omega
   obtain⟨M3,few3⟩:=M.grow hsz full;rw[nf];simp only[Bool.not_false,Bool.and_self,if_true];unfold setRelay;refine Aa1 (Aa1 (wpAny_setState_of (s:={ s with heap:=s.heap.update S (Obj.putSet es2 t2) }) g1 rfl T2.fits ?_));dsimp only;have big:sizeAbove (grown (es.size+1))<=512:=by rcases M3.2 with r | r | r | r<;>omega
   rw[if_neg (by rw[sizeLine_eq];omega)];obtain⟨t3,order,e3,T3,m3,p3⟩:=wf4 M3.cyc (es:=es2) (by rw[sz2];exact few3) t2.finger (t2.movedTo (sizeAbove (grown (es.size+1))-1)) (!w.params.followText "set-order");have er:t2.relaid (es2.map (·.1)) (grown (es.size+1))=some (t3,order):=by
    unfold SetTable.relaid;rw[T2.led,T2.plain];exact e3
   rw[er];refine Aa1 ?_;show wpAny (model prog w) A (do
    let es':=order.filterMap (es2[·]?)
    if es'.size != es2.size then unsupported "internal:set-table-lost-an-element"
    pure (es',t3)) _ _ _
   dsimp only;have s3:(order.filterMap (es2[·]?)).size=es2.size:=by rw[<-Ah0,p3.length_eq,Ah0]
   rw[if_neg (by rw[s3];simp)];refine Ac1 ?_;dsimp only;refine wpAny_storeSet_of g1 rfl ?_ (line (by rw[s3];omega));refine Ac1 (fin _ _ _ _ t3 (sb1.trans (Heap.SameBut.update _ S _)) (xh2 g1 rfl _ t3) hex rfl T3 ⟨?_,?_⟩ p3)
   ·rw[s3,m3,sz2];exact M3.1
   ·rw[m3];exact M3.2
end
noncomputable def zr6(ks l:List (List Int)):List (List Int):=l.foldl vc9 ks
theorem yq9:∀{l ks:List (List Int)},ks.length<=(zr6 ks l).length
 | [],ks=>Ad0 _
 | k::l,ks=>Ba0 (by unfold vc9;split<;>simp) (yq9 (l:=l) (ks:=vc9 ks k))
section
variable{prog:Program}{w:World}{A:Around}{E:Value->Shared->Prop}{s:Shared}
def vd0.moved{G:Addr->Prop}{h h':Heap}{S:Addr}{ks:List (List Int)}(z:vd0 prog w G h S ks)(q:∀b o,h.get? b=some o->(b=S\/∃k,IsTupleKey (intKind prog w) h k b)->h'.get? b=some o):vd0 prog w G h' S ks:=by
 obtain⟨o,es,ep,t,ks',g,ex,d,T,M,p,pm⟩:=z;exact⟨o,es,ep,t,ks',q S o g (.inl rfl),ex,d,T,M,ya1 (λk e ⟨b,e1,e0,e2,e3⟩=>⟨b,e1,e0,by
  obtain⟨u,its,n,a1,a2,a3,a4⟩:=e2;exact⟨u,its,n,q b u a1 (.inr ⟨k,u,its,n,a1,a2,a3,a4⟩),a2,a3,a4⟩,e3⟩) p,pm⟩
theorem xq2{G:Addr->Prop}{R:Result->Shared->Prop}{S it l:Addr}{items:Array Value}(kf:List (List Int))(hh:A.in1.handled=none)(hu:A.in1.units<cLine)(hne:l≠it)(hSi:S≠it)(hSl:S≠l)(hlen:kf.length=items.size) :
 ∀(n i:Nat) (s:Shared) (ks:List (List Int)),items.size-i=n->i<=items.size->s.heap.IsListIter it l i->s.heap.IsList l items->vd0 prog w G s.heap S ks->(zr6 ks (kf.drop i)).length<300->
  (∀(j:Nat) (v:Value) (k:List Int),items[j]?=some v->kf[j]?=some k->∃a,v=Value.ref a/\a≠it/\G a/\IsTupleKey (intKind prog w) s.heap k a)->
  (∀h' tk,(∀b o,b≠S->b≠it->s.heap.get? b=some o->h'.get? b=some o)->vd0 prog w G h' S (zr6 ks (kf.drop i))->R (.ok (.ret .none)) { s with heap:=h',toks:=tk })->
  codeAny (model prog w) A (.builtin "set.update.loop" ⟨[.ref S,.ref it],[]⟩) R s:=by
 intro n;induction n with
 | zero=>
   intro i s ks hn hi hit hl hS _ hk q;have e:i=items.size:=by omega
   refine codeAny_builtin PyProof.Rows.F.entry_set_update_loop ?_;rw[Around.under_plainId PyProof.Rows.F.plain_set_update_loop _];show wpAny _ A.in1 (pyNext (.ref it) >>= _) _ _ s;refine Aa1 (wpAny_pyNext_list_end hh hit hl (by rw[e];simp) λh' eb=>?_);refine Ac1 ?_;have kp:∀b o,b≠it->s.heap.get? b=some o->h'.get? b=some o:=eb;have:=q h' s.toks (λb o _ hb g=>kp b o hb g) (by
    rw[e,List.drop_of_length_le (by omega)];obtain⟨itO,itg,itc,itd⟩:=hit;exact hS.moved λb o g z=>kp b o (by
     rcases z with r | ⟨k,u,its,m,a1,a2,_⟩
     ·rw[r];exact hSi
     ·intro eq
      rw[eq,itg] at a1;cases a1;rw[a2] at itc;exact absurd (Value.type.inj itc) (by decide)) g)
   exact this
 | succ n ih=>
   intro i s ks hn hi hit hl hS hks hk q;refine codeAny_builtin PyProof.Rows.F.entry_set_update_loop ?_;rw[Around.under_plainId PyProof.Rows.F.plain_set_update_loop _];show wpAny _ A.in1 (pyNext (.ref it) >>= _) _ _ s;have hi':i<items.size:=by omega
   refine Aa1 (wpAny_pyNext_list_item hit hl (x:=items[i]) (Ak0 hi') λh1 hit1 sb1=>?_);have hdr:zr6 ks (kf.drop i)=zr6 (vc9 ks kf[i]) (kf.drop (i+1)):=by rw[Cb0 (by omega)];rfl
   have hk3:ks.length<300:=Nat.lt_of_le_of_lt yq9 hks;obtain⟨a,ea,ha,hG,ka⟩:=hk i items[i] kf[i] (Ak0 hi') (Ac0 (by omega));have kp:∀b o,b≠it->s.heap.get? b=some o->h1.get? b=some o:=λb o hb g=>(sb1.2 b hb).trans g
   have kk:∀{b:Addr} {k:List Int},b≠it->IsTupleKey (intKind prog w) s.heap k b->IsTupleKey (intKind prog w) h1 k b:=λhb ⟨u,its,n,a1,a2⟩=>⟨u,its,n,kp _ _ hb a1,a2⟩
   have notit:∀{b:Addr} {k:List Int},IsTupleKey (intKind prog w) s.heap k b->b≠it:=λhI45 eq=>by
    obtain⟨u,its,m,a1,a2,_⟩:=hI45;obtain⟨itO,itg,itc,itd⟩:=hit;rw[eq,itg] at a1;cases a1;rw[a2] at itc;exact absurd (Value.type.inj itc) (by decide)
   have hS1:vd0 prog w G h1 S ks:=hS.moved λb o g z=>kp b o (by
    rcases z with r | ⟨k,z⟩
    ·rw[r];exact hSi
    ·exact notit z) g
   rw[ea];show wpAny _ A.in1 (holding [Value.ref a] (setAdd S (.ref a)) >>= _) _ _ _;refine Aa1 (wpAny_holding ?_);unfold setAdd;refine wpAny_holding (Aa1 (wpAny_pyHash_tuple hu (kk ha ka) ?_));refine wj0 (s:={ s with heap:=h1,toks:=s.toks+(kf[i].length+1) }) hu hS1 hk3 hG (kk ha ka) λb h2 sb2 hS2=>?_
   refine Ac1 ⟨plainId_quiet PyProof.Rows.F.plain_set_update_loop _,ih (i+1) _ (vc9 ks kf[i]) (by omega) (by omega) ?_ ?_ hS2 (by rw[<-hdr];exact hks) (λj v k e1 e2=>?_) λh3 tk kp3 hS3=>?_⟩
   ·exact hit1.at λo e=>(sb2.2 it (Ne.symm hSi)).trans e
   ·exact hl.at λo e=>(sb2.2 l (Ne.symm hSl)).trans (kp l o hne e)
   ·obtain⟨a',e3,e4,e6,e5⟩:=hk j v k e1 e2
    obtain⟨o,es,ep,t,ks',g,ex,d,_⟩:=hS1;exact⟨a',e3,e4,e6,yj4 (kk e4 e5) g d sb2⟩
   ·refine q h3 tk (λb o hb1 hb2 g=>kp3 b o hb1 hb2 ((sb2.2 b hb1).trans (kp b o hb2 g))) ?_
    rw[Cb0 (by omega)];exact hS3
noncomputable abbrev setO(w:World):Obj:={ cls:=.type "set",dict:=none,data:=.set #[] 0 (.fresh 0 0 (!w.params.followText "set-order")) }
def xr9{G:Addr->Prop}{h:Heap}{S:Addr}(g:h.get? S=some (setO w)):vd0 prog w G h S []:=
 ⟨_,#[],0,_,[],g,⟨rfl,rfl,rfl⟩,rfl,⟨rfl,.nil,λj hj=>absurd hj (by simp[SetTable.fresh]),rfl,vw3,Am0 _,rfl,rfl,λx hx=>absurd hx (by simp)⟩,⟨by show 0*5<7*3;decide,.inl rfl⟩,.nil,.refl _⟩
def wj8(v:Value){P:Value->Shared->Prop}(q:P (.ref s.heap.objs.size) { s with heap:=s.heap.push (setO w) }):codeAny (model prog w) A (.call (.builtin "set.__new__") ⟨[.type "set",v],[]⟩) (wants P E) s:=
 codeAny_of_tree (show wpAny _ A.in1 (do checkBuiltinCall "set.__new__" ⟨[.type "set",v],[]⟩;again (.builtin "set.__new__" ⟨[.type "set",v],[]⟩)) _ _ s from
  Aa1 (wpAny_of_eq (F.newCall_set_1 v) (Ac1 ⟨plainId_quiet F.plain_set_new _,codeAny_builtin F.entry_set_new (by
   rw[Around.under_plainId F.plain_set_new _];unfold Builtin.«set.__new__» Builtin.Frozenset.newClass;have sub:=sub_set_self;obtain⟨hp,g,d,tk,os⟩:=s;dsimp only at q ⊢
   wp_walk
   refine wpAny_askSetting (Ac1 ?_);simp only[newObj];exact Aa1 (wpAny_alloc (Ac1 (Ac1 q))))⟩)))
set_option maxHeartbeats 3200000 in
theorem xc8{G:Addr->Prop}{l:Addr}{items:Array Value}{kf:List (List Int)}{Q:Value->Shared->Prop}(hh:A.handled=none)(hu:A.units+5<cLine)(hl:s.heap.IsList l items)(hlen:kf.length=items.size)(hfew:(zr6 [] kf).length<300)(hk:∀(j:Nat) (v:Value) (k:List Int),items[j]?=some v->kf[j]?=some k->∃a,v=Value.ref a/\G a/\IsTupleKey (intKind prog w) s.heap k a)(h:∀h' tk,vd0 prog w G h' s.heap.objs.size (zr6 [] kf)->(∀b o,b<s.heap.objs.size->s.heap.get? b=some o->h'.get? b=some o)->Q (.ref s.heap.objs.size) { s with heap:=h',toks:=tk }) :
 wpAny (model prog w) A (call (.type "set") [.ref l]) Q E s:=by
 obtain⟨c,tl,r1⟩:=F.called_set.mro;have r2:=F.called_set.made;have r3:=F.called_set.sub;refine wpAny_call (codeAny_of_tree ?_);show wpAny _ _ (callAny (.type "set") _) _ _ _;refine Ac1 ⟨Code.quiet_builtin _ (by decide +kernel),codeAny_builtin F.entry_type_call ?_⟩;rw[Around.under_plain (weight_type_call_type "set" [.ref l] []) rfl];have r4:=F.called_set.notType;have r5:=F.called_set.canCreate;have r6:=F.typeCall_set_1 (.ref l);repeat (any_goals (first | assumption | wp_step))
 refine codeAny_mono (wj8 (.ref l) (E:=E) (P:=λv s1=>v=.ref s.heap.objs.size/\s1={ s with heap:=s.heap.push (setO w) }) ⟨rfl,rfl⟩) λr s1 hr=>?_
 cases r with
 | error e=>exact hr
 | ok fl=>
   cases fl with
   | ret v=>
     obtain⟨rfl,rfl⟩:=hr;have gS:(s.heap.push (setO w)).get? s.heap.objs.size=some (setO w):=Af0 _ rfl;have ty:Shared.TypeIs { s with heap:=s.heap.push (setO w) } (.ref s.heap.objs.size) "set":=⟨_,gS,rfl⟩;have r7:=F.called_set.init.lookup;have r8:=F.called_set.init.bind (.ref s.heap.objs.size);repeat (any_goals (first | assumption | wp_step))
     refine codeAny_mono (codeAny_call_builtin (R:=wants (λr s2=>r=.none/\∃h' tk,s2={ s with heap:=h',toks:=tk }/\vd0 prog w G h' s.heap.objs.size (zr6 [] kf)/\∀b o,b<s.heap.objs.size->s.heap.get? b=some o->h'.get? b=some o) E) F.called_set.init.plain F.entry_set_init (check_set_init_1 ty ?_)) λr2 s2 hr2=>?_
     ·have lS:l<s.heap.objs.size:=by obtain⟨_,g,_⟩:=hl;exact Heap.lt_size g
      have hl1:=hl.push (setO w);obtain⟨⟨oc,od,oa,os⟩,g,c1,n,c2⟩:=hl;simp only at c1 c2;subst c1 c2;have g1:=Ab0 (setO w) g;have q1:=F.sub_list_set;have q2:=F.sub_list_frozenset;have q3:(Value.type "list" == Value.type "dict")=false:=by decide
      unfold Builtin.«set.__init__» noKeywords Builtin.Frozenset.updateFrom;generalize hPI:pyIter=PI
      wp_walk
      subst hPI;refine wpAny_pyIter_list hl1 ?_;refine Aa1 (wpAny_runValue ?_);have zI:(s.heap.push (setO w)).objs.size=s.heap.objs.size+1:=Bs0 ..;have lt:∀{b:Addr},b<s.heap.objs.size->b≠(s.heap.push (setO w)).objs.size:=λq=>by rw[zI];exact As0 (Nat.lt_succ_of_lt q)
      refine xq2 (G:=G) (A:=A.in1.in1) (l:=l) (items:=items) kf (by simp[hh]) (by rw[Around.in1_units,Around.in1_units,Around.in1_units];omega) (lt lS) (by rw[zI];exact As0 (Nat.lt_succ_self _)) (Nat.ne_of_gt lS) hlen (items.size-0) 0 _ [] rfl (Am0 _) ⟨_,Af0 _ rfl,rfl,rfl⟩ (hl1.push _) (xr9 (Ab0 _ gS)) hfew (λj v k e1 e2=>?_) λh' tk kp z=>?_
      ·obtain⟨a,ea,gg,u,its,m,a1,a2⟩:=hk j v k e1 e2
       exact⟨a,ea,lt (Heap.lt_size a1),gg,u,its,m,Ab0 _ (Ab0 _ a1),a2⟩
      ·show wpAny _ _ _ _ _ _
       refine Ac1 ?_;show wpAny _ _ (ret Value.none) _ _ _;exact Ac1 ⟨rfl,h',tk,rfl,z,λb o hb g=>kp b o (As0 hb) (lt hb) (Ab0 _ (Ab0 _ g))⟩
     ·cases r2 with
      | error e=>exact hr2
      | ok fl2=>
        cases fl2 with
        | ret r=>
          obtain⟨rfl,h',tk,rfl,z1,z2⟩:=hr2;repeat (any_goals (first | assumption | wp_step))
          exact h _ _ z1 z2
        | _=>exact hr2.elim
   | _=>exact hr.elim
end
theorem yx7{α:Type}:∀{l:List α} {k:Nat} {c:α},l[k]?=some c->l.Perm (c::l.eraseIdx k)
 | a::l,0,c,h=>by cases h;exact .refl _
 | a::l,k+1,c,h=>((yx7 (l:=l) (k:=k) h).cons a).trans (.swap c a _)
 | [],_,_,h=>by simp at h
theorem xh8{α:Type}(f:Nat->Nat):∀(n k:Nat) (l:List α) (out:Array α),l.length=n->(pickOrder.go f n k l out).toList.Perm (out.toList++l)
 | 0,k,l,out,h=>by
   rw[List.length_eq_zero_iff.mp h];unfold pickOrder.go;simp
 | n+1,k,l,out,h=>by
   have hk:f k % l.length<l.length:=Nat.mod_lt _ (by omega);unfold pickOrder.go;rw[Ac0 hk];dsimp only;refine(xh8 f n (k+1) _ _ (by rw[List.length_eraseIdx,if_pos hk];omega)).trans ?_;rw[Array.toList_push,Av0];exact List.Perm.append_left _ (yx7 (Ac0 hk)).symm
def xh7{α:Type}(f:Nat->Nat)(xs:Array α):(pickOrder f xs).toList.Perm xs.toList:=by
 have:=xh8 f xs.size 0 xs.toList #[] (by simp);simpa [pickOrder] using this
def xv9{xs:Array Nat}{i j:Nat}(u:xs.toList.Pairwise (· < ·))(hi:i<=xs.size)(h1:∀k x,k<i->xs.toList[k]?=some x->x<j)(h2:∀k x,i<=k->xs.toList[k]?=some x->j<=x):below xs j=i:=by
 obtain⟨b0,b1,b2⟩:=yl3 (j:=j) u;rcases Nat.lt_trichotomy (below xs j) i with z | z | z
 ·have e:=Ac0 (l:=xs.toList) (i:=below xs j) (by simp;omega)
  have:=h1 _ _ z e;have:=b2 _ _ (Ad0 _) e;omega
 ·exact z
 ·have e:=Ac0 (l:=xs.toList) (i:=i) (by simp;omega)
  have:=b1 _ _ z e;have:=h2 _ _ (Ad0 _) e;omega
noncomputable def vi2(t:SetTable):Nat->Nat
 | 0=>0
 | i+1=>t.place.getD i 0+1
def xw0{t:SetTable}(u:t.place.toList.Pairwise (· < ·)){i:Nat}(hi:i<=t.place.size):below t.place (vi2 t i)=i:=by
 refine xv9 u hi (λk x hk e=>?_) (λk x hk e=>?_)
 ·cases i with
  | zero=>omega
  | succ i=>
    have hs:i<t.place.size:=by omega
    have e2:t.place.toList[i]?=some t.place[i]:=by simp[hs]
    show x<t.place.getD i 0+1;rw[show t.place.getD i 0=t.place[i] by simp[Array.getD,hs]];by_cases z:k=i
    ·subst z;rw[e2] at e;cases e;omega
    ·have:=wy3 u (show k<i by omega) e e2;omega
 ·cases i with
  | zero=>exact Am0 _
  | succ i=>
    have hs:i<t.place.size:=by omega
    have e2:t.place.toList[i]?=some t.place[i]:=by simp[hs]
    show t.place.getD i 0+1<=x;rw[show t.place.getD i 0=t.place[i] by simp[Array.getD,hs]];have:=wy3 u (show i<k by omega) e2 e;omega
section
variable{prog:Program}{w:World}{A:Around}{E:Value->Shared->Prop}{s:Shared}
noncomputable def ww4(w:World)(S:Addr)(ep:Nat)(es:Array Ent):Array Ent:=if w.params.followText "set-order" = true then pickOrder (w.params.setOrder S ep) es else es
def zm3{S:Addr}{ep:Nat}{es:Array Ent}:(ww4 w S ep es).toList.Perm es.toList:=by
 unfold ww4;split
 ·exact xh7 _ _
 ·exact .refl _
noncomputable def va0(w:World)(t:SetTable)(i:Nat):Nat:=if w.params.followText "set-order" = true then 0 else vi2 t i
open H in
def xd4{S:Addr}{o:Obj}{es:Array Ent}{ep:Nat}{t:SetTable}{i:Nat}{Q:Option (Value×Nat)->Shared->Prop}(ho:s.heap.get? S=some o)(hd:o.data=.set es ep t)(T:Tb (!w.params.followText "set-order") es t)(hi:i<=es.size)(h:Q ((ww4 w S ep es)[i]?.map λe=>(e.2,va0 w t (i+1))) s):wpAny (model prog w) A (setNext S (va0 w t i) i ep) Q E s:=by
 unfold setNext;refine Aa1 (wpAny_setState_of ho hd T.fits ?_);dsimp only;unfold setsByText;refine Aa1 (Aa1 (wpAny_askSetting (Ac1 ?_)));by_cases bt:w.params.followText "set-order" = true
 ·rw[if_pos (show (model prog w).w.params.followText "set-order" = true from bt),if_neg (by simp)]
  have e1:va0 w t i=va0 w t (i+1):=by unfold va0;rw[if_pos bt,if_pos bt]
  have e2:ww4 w S ep es=pickOrder (w.params.setOrder S ep) es:=if_pos bt;unfold setWalk;refine Aa1 (Aa1 (wpAny_setState_of ho hd T.fits ?_));dsimp only;unfold setsByText;refine Aa1 (Aa1 (wpAny_askSetting (Ac1 ?_)));rw[if_pos (show (model prog w).w.params.followText "set-order" = true from bt)];refine Aa1 (wpAny_askSetting (Ac1 (Ac1 ?_)));rw[e2,<-e1] at h;exact h
 ·have bf:w.params.followText "set-order" = false:=by simpa using bt
  rw[if_neg (show ¬(model prog w).w.params.followText "set-order" = true from bt)];have e1:va0 w t i=vi2 t i:=if_neg bt;have e2:ww4 w S ep es=es:=if_neg bt;have e3:va0 w t (i+1)=vi2 t (i+1):=if_neg bt;refine wpAny_ite ?_;split
  ·rename_i z
   have z:(!t.plain&&decide (es.size>1))=true:=z;rw[T.plain] at z;cases z
  ·refine Aa1 ?_
   show wpAny _ _ (if (!t.led&&!es.isEmpty)=true then unsupported "set:maker-not-led" else pure PUnit.unit) _ _ _;rw[if_neg (by rw[T.led,bf];simp)];refine Ac1 (Ac1 ?_);rw[e1,xw0 T.up (by rw[T.sz];exact hi)];rw[e2,e3] at h;by_cases z:i<es.size
   ·have z2:i<t.place.size:=by rw[T.sz];exact z
    rw[Ak0 z,Ak0 z2];rw[Ak0 z] at h;dsimp only;have:vi2 t (i+1)=t.place[i]+1:=by show t.place.getD i 0+1=_;simp[Array.getD,z2]
    rw[<-this];exact h
   ·rw[Bz0 (by omega)] at h ⊢
    exact h
noncomputable abbrev vb6(S:Addr)(p i n ep:Nat):Obj:={ cls:=.type "set_iterator",dict:=none,data:=.fields #[.int p 0,.int i 0,.ref S,.int n 0,.int ep 0],slots:=#[] }
set_option maxHeartbeats 1000000 in
open H in
def wc4{it S:Addr}{o:Obj}{es:Array Ent}{ep i:Nat}{t:SetTable}{e:Ent}{P:Fin->Shared->Prop}(h1:s.heap.get? it=some (vb6 S (va0 w t i) i es.size ep))(ho:s.heap.get? S=some o)(hd:o.data=.set es ep t)(T:Tb (!w.params.followText "set-order") es t)(he:(ww4 w S ep es)[i]?=some e)(h:∀h',h'.get? it=some (vb6 S (va0 w t (i+1)) (i+1) es.size ep)->Heap.SameBut it s.heap h'->P (.done (.ret e.2)) { s with heap:=h' }):wpAny (model prog w) A (Builtin.«set_iterator.__next__» ⟨[.ref it],[]⟩) P E s:=by
 obtain⟨hp,g,dd,tk,os⟩:=s;have hf:=T.fits;have is:i<es.size:=by
  have:=(Array.getElem?_eq_some_iff.mp he).1;rw[<-Ah0,zm3.length_eq,Ah0] at this;exact this
 have fe:t.fill=es.size:=by simp[SetTable.fill,T.sz,T.nod]
 wp_walk
 rw[hd];dsimp only;rw[if_neg (by rw[T.sz,fe];have:=T.few;simp;omega)];refine Ac1 (Ac1 ?_);dsimp only;rw[if_neg (by simp)];simp only[Bu0];refine Aa1 (xd4 ho hd T (Ce0 is) ?_);rw[he];dsimp only[Aw0];refine Aa1 (wpAny_setField h1 rfl (by simp) ?_);have g1:=Ci0 (Obj.mapFields λx=>x.setIfInBounds 0 (rawInt (va0 w t (i+1)))) h1 rfl;refine Aa1 (wpAny_setField g1 rfl (by simp) ?_);have g2:=Ci0 (Obj.mapFields λx=>x.setIfInBounds 1 (rawInt ((i:Int)+1))) g1 rfl;exact Ac1 (h _ g2 ((Heap.SameBut.update _ it _).trans (Heap.SameBut.update _ it _)))
set_option maxHeartbeats 1000000 in
open H in
def wj9{it S:Addr}{o:Obj}{es:Array Ent}{ep:Nat}{t:SetTable}{P:Fin->Shared->Prop}(hh:A.handled=none)(h1:s.heap.get? it=some (vb6 S (va0 w t es.size) es.size es.size ep))(ho:s.heap.get? S=some o)(hd:o.data=.set es ep t)(T:Tb (!w.params.followText "set-order") es t)(h:∀a h' tk,(∀b o,b≠it->s.heap.get? b=some o->h'.get? b=some o)->(∃o,h'.get? a=some o/\o.cls=.type "StopIteration")->E (.ref a) { s with heap:=h',toks:=tk }):wpAny (model prog w) A (Builtin.«set_iterator.__next__» ⟨[.ref it],[]⟩) P E s:=by
 obtain⟨hp,g,dd,tk,os⟩:=s;have fe:t.fill=es.size:=by simp[SetTable.fill,T.sz,T.nod]
 have he:(ww4 w S ep es)[es.size]?=none:=by
  refine Bz0 ?_;rw[<-Ah0,zm3.length_eq,Ah0];exact Ad0 _
 wp_walk
 rw[hd];dsimp only;rw[if_neg (by rw[T.sz,fe];have:=T.few;simp;omega)];refine Ac1 (Ac1 ?_);dsimp only;rw[if_neg (by simp)];simp only[Bu0];refine Aa1 (xd4 ho hd T (Ad0 _) ?_);rw[he];dsimp only[Option.map_none];refine Aa1 (wpAny_setField h1 rfl (by simp) ?_)
 wp_walk
 unfold raiseNew;refine Aa1 (wpAny_handled ?_);rw[hh];refine Aa1 (Ac1 (wpAny_throw (h _ _ _ (λb o hb e=>?_) ⟨_,Af0 _ rfl,rfl⟩)));exact Ab0 _ (Ab0 _ ((Ct0 _ _ (Ne.symm hb)).trans e))
set_option maxHeartbeats 1000000 in
open H in
def wc3{S:Addr}{o:Obj}{es:Array Ent}{ep:Nat}{t:SetTable}{P:Fin->Shared->Prop}(ho:s.heap.get? S=some o)(hd:o.data=.set es ep t)(T:Tb (!w.params.followText "set-order") es t)(h:P (.done (.ret (.ref s.heap.objs.size))) { s with heap:=s.heap.push (vb6 S 0 0 es.size ep) }):wpAny (model prog w) A (Builtin.«frozenset.__iter__» ⟨[.ref S],[]⟩) P E s:=by
 obtain⟨hp,g,dd,tk,os⟩:=s;have fe:t.fill=es.size:=by simp[SetTable.fill,T.sz,T.nod]
 have st:∀{Q:(Array Ent×Nat×SetTable)->Shared->Prop},Q (es,ep,t) ⟨hp,g,dd,tk,os⟩->wpAny (model prog w) A (setState S) Q E ⟨hp,g,dd,tk,os⟩:=λq=>wpAny_setState_of ho hd T.fits q
 unfold Builtin.«frozenset.__iter__» Builtin.Frozenset.slot0 slotArgs;simp only[List.isEmpty_nil,Bool.not_true,Bw0,if_false,Ch0,bne_self_eq_false,bind_assoc,pure_bind];unfold Builtin.Frozenset.addrOf Builtin.Frozenset.sizeOf setEntries setDrawn setsByText;refine Aa1 (Ac1 ?_);refine Aa1 (Aa1 (Aa1 (st (Ac1 (Ac1 ?_)))));refine Aa1 (Aa1 (st ?_));dsimp only;refine Aa1 (Aa1 (wpAny_askSetting (Ac1 (Ac1 ?_))));refine wpAny_ite ?_;split
 ·rename_i z
  have z:(!(model prog w).w.params.followText "set-order"&&(!t.plain&&decide (es.size>1)))=true:=z;rw[T.plain] at z;simp at z
 ·unfold setEpoch
  refine Aa1 (Aa1 (st (Ac1 ?_)));exact Aa1 (wpAny_newObj_type (Ac1 h))
def zw6:Slot "set_iterator" "__next__" "set_iterator.__next__":=.of (owner:="set_iterator") (n:="__next__") (by rw[typeLookup_type,builtinLookup_eq_fast];kernel_rfl) (by decide +kernel) (by decide +kernel) (by decide +kernel) (by first | exact .inl (by decide +kernel) | exact .inr (by decide +kernel)) (by rw[isSubtype_type];kernel_rfl)
def yy0:entryFor table "set_iterator.__next__" = some Builtin.«set_iterator.__next__»:=entryFor_of_tree (by kernel_rfl)
def xp5(a:Value):argsOk "set_iterator.__next__" ⟨[a],[]⟩:=by
 unfold argsOk;rw[signature?_of (id:="set_iterator.__next__") (n:="__next__".toList.reverse) (o:="set_iterator".toList.reverse) (by kernel_rfl) (show Manifest.owners.lookup (String.ofList "set_iterator".toList.reverse.reverse)=some Manifest.sig_set_iterator by kernel_rfl)]
 kernel_rfl
def xu9:entryFor table "set.__iter__" = some Builtin.«frozenset.__iter__»:=entryFor_alias (id':="frozenset.__iter__") (by kernel_rfl) rfl (by decide +kernel) (by kernel_rfl)
end
def xf5:Slot "set_iterator" "__iter__" "set_iterator.__iter__":=.of (owner:="set_iterator") (n:="__iter__") (by rw[typeLookup_type,builtinLookup_eq_fast];kernel_rfl) (by decide +kernel) (by decide +kernel) (by decide +kernel) (by first | exact .inl (by decide +kernel) | exact .inr (by decide +kernel)) (by rw[isSubtype_type];kernel_rfl)
def xu8:entryFor table "set_iterator.__iter__" = some Builtin.«dict_keyiterator.__iter__»:=entryFor_alias (id':="dict_keyiterator.__iter__") (by kernel_rfl) rfl (by decide +kernel) (by kernel_rfl)
def wh8(a:Value):argsOk "set_iterator.__iter__" ⟨[a],[]⟩:=by
 unfold argsOk;rw[signature?_of (id:="set_iterator.__iter__") (n:="__iter__".toList.reverse) (o:="set_iterator".toList.reverse) (by kernel_rfl) (show Manifest.owners.lookup (String.ofList "set_iterator".toList.reverse.reverse)=some Manifest.sig_set_iterator by kernel_rfl)]
 kernel_rfl
section
variable{prog:Program}{w:World}{A:Around}{E:Value->Shared->Prop}{s:Shared}
variable{S it:Addr}{o:Obj}{es:Array Ent}{ep:Nat}{t:SetTable}
def xe3(hh:A.handled=none)(hne:S≠it)(hd:o.data=.set es ep t)(T:Tb (!w.params.followText "set-order") es t) :
 Walks prog w A it [it,S] [it] es.size (λi v=>∃e,(ww4 w S ep es)[i]?=some e/\v=e.2) (λi h=>h.get? it=some (vb6 S (va0 w t i) i es.size ep)/\h.get? S=some o) where
 sub:=λb hb=>by simp at hb;simp[hb]
 frame:=λ_ _ _ st hk=>⟨hk it (by simp) _ st.1,hk S (by simp) _ st.2⟩
 item:=λi s Q E hi st hQ=>by
  have hi2:i<(ww4 w S ep es).size:=by rw[<-Ah0,zm3.length_eq,Ah0];exact hi
  have he:=Ak0 hi2;have ty:s.TypeIs (.ref it) "set_iterator":=⟨_,st.1,rfl⟩;unfold pyNext;exact Aa1 (wpAny_attempt (wpAny_callSpecial?_slot (name:=Str.ofString "__next__") ty zw6 (Ak1 zw6 ty yy0 (wc4 st.1 st.2 hd T he λh' g sb=>⟨_,rfl,Ac1 (hQ _ h' _ ⟨_,he,rfl⟩ ⟨g,(sb.2 S hne).trans st.2⟩ λc u hc e=>(sb.2 c λz=>hc (by simp[z])).trans e)⟩) (xp5 _))))
 done:=λs Q E st hQ=>by
  have ty:s.TypeIs (.ref it) "set_iterator":=⟨_,st.1,rfl⟩;unfold pyNext;exact Aa1 (wpAny_attempt (wpAny_callSpecial?_slot (name:=Str.ofString "__next__") ty zw6 (Ak1 zw6 ty yy0 (wj9 (A:=A.in1) hh st.1 st.2 hd T λa h' tk hk hc=>Aa1 (wpAny_isInstance (T:="StopIteration") (b:=true) hc isSubtype_stop (Ac1 (hQ h' tk λc u hc e=>hk c u (λz=>hc (by simp[z])) e)))) (xp5 _))))
 self:=λi s Q E st hQ=>by
  have ty:s.TypeIs (.ref it) "set_iterator":=⟨_,st.1,rfl⟩;exact wpAny_pyIter_slot ty xf5 (Ak1 xf5 ty xu8 (show wpAny _ _ (ret (.ref it)) _ _ s from Ac1 ⟨_,rfl,"set_iterator",_,ty,zw6.lookup,hQ⟩) (wh8 _))
def xu3{Q:Bool->Shared->Prop}(ty:s.TypeIs (.ref S) "set")(q:Q false s):wpAny (model prog w) A (Builtin.List.listLengthHint (.ref S)) Q E s:=by
 unfold Builtin.List.listLengthHint;refine Aa1 (wpAny_specialOf ty F.slot_set_len.lookup ?_);generalize hid:("set.__len__" : String)=id0
 wp_delta
 rw[show splitId id0=some ("set","__len__") from by subst hid;decide +kernel];subst hid;refine Aa1 (wpAny_isInstance (T:="set") (b:=true) ty sub_set_self ?_);refine wpAny_ite_split (λz=>absurd z (by decide)) λ_=>?_
 refine wpAny_ite_split (λ_=>?_) λz=>absurd (by decide +kernel) z
 exact Aa1 (wpAny_typeOf ty (Ac1 q))
def wc1(hd:o.data=.set es ep t)(hc:o.cls=.type "set")(T:Tb (!w.params.followText "set-order") es t):PySem.W.KdlSrc prog w "set" S S es.size (λi v=>∃e,(ww4 w S ep es)[i]?=some e/\v=e.2) (λh=>h.get? S=some o) where
 type:=λ_ hm=>⟨_,hm,hc⟩
 there:=λ_ hm=>⟨Heap.lt_size hm,Heap.lt_size hm⟩
 keep:=λ_ _ hm hk=>hk S (.inl rfl) _ hm
 notList:=by decide
 notTuple:=by decide
 hint:=λ_ _ _ _ hm hq=>xu3 ⟨_,hm,hc⟩ hq
 iter:=λA s hh hm=>⟨_,_,(λE Q hq=>by
  have ty:s.TypeIs (.ref S) "set":=⟨_,hm,hc⟩;exact wpAny_pyIter_slot ty F.slot_set_iter (Ak1 F.slot_set_iter ty xu9 (wc3 hm hd T ⟨_,rfl,"set_iterator",_,⟨_,Af0 _ rfl,rfl⟩,zw6.lookup,hq⟩) (F.args_set_iter_1 _))),xe3 hh (As0 (Heap.lt_size hm)) hd T,⟨by
   rw[Af0 _ rfl];unfold va0 vi2;split<;>rfl,Ab0 _ hm⟩⟩
end
end St
namespace L2
open PySem PySem.Spec PyProof PyProof.Rows Ts
section
variable{prog:Program}{w:World}{A:Around}{E:Value->Shared->Prop}{s:Shared}{T:String}{r d:Addr}{n:Nat}{P:Nat->Value->Prop}{OK:Heap->Prop}
def xb0{Q:Value->Shared->Prop}(K:PySem.W.KdlSrc prog w T r d n P OK)(hh:A.handled=none)(hok:OK s.heap)(hn:n<128)(hv:∀i v,P i v->∃p,wr5 s.heap v p)(h:∀(p:Addr) (h1 h':Heap) (tk m:Nat) (out acc:Array Value),(∀b o,s.heap.get? b=some o->h1.get? b=some o)->h1.objs.size<=p->(∀b o,h1.get? b=some o->h'.get? b=some o)->h'.get? p=some (seqObj "list" out m)->ItemsOf P acc n->out.toList.Perm acc.toList->out.toList.Pairwise (λx y=>lxle (wt8 s.heap x) (wt8 s.heap y))->Q (.ref p) { s with heap:=h',toks:=tk }) :
 wpAny (model prog w) A (call (.builtin "sorted") [.ref r]) Q E s:=by
 refine Calls.call_function_entry kind_sorted plain_sorted entry_sorted (args_sorted1 _) ?_;unfold Builtin.«sorted»;refine Aa1 (m:=checkCount "sorted" 1 1 _) (Ac1 (Aa1 (PySem.W.kdu_collect (A:=A.in1) K hh hok (by rw[sizeLine_eq];omega) λh' tk acc hk hacc=>?_)));have hlen:acc.toList.length=n:=by rw[Ah0];exact hacc.1
 refine Aa1 (wpAny_newList ?_ (by rw[hlen,sizeLine_eq];omega));show wpAny _ _ _ _ _ { s with heap:=h'.push (seqObj "list" acc.toList.toArray 0),toks:=tk };have o1:(h'.push (seqObj "list" acc.toList.toArray 0)).get? h'.objs.size=some (seqObj "list" acc.toList.toArray 0):=Af0 _ rfl;have old:∀b o,h'.get? b=some o->(h'.push (seqObj "list" acc.toList.toArray 0)).get? b=some o:=λb o g=>Ab0 _ g
 generalize hH:h'.push (seqObj "list" acc.toList.toArray 0)=H1 at o1 old ⊢;have keep:∀v p,wr5 s.heap v p->wr5 H1 v p:=λv p z=>by
  obtain⟨b,o,m,t,u,rfl,g,c,d⟩:=z;exact⟨b,o,m,t,u,rfl,old _ _ (hk _ _ g),c,d⟩
 have two:∀v∈acc.toList,∃p,wr5 s.heap v p:=λv m=>by
  obtain⟨j,hj,e⟩:=Bg0 m;exact hv j v (hacc.2 j v (by rw[<-Bf0,Ac0 hj,e]))
 have ke:∀v∈acc.toList,wt8 H1 v=wt8 s.heap v:=λv m=>by
  obtain⟨p,z⟩:=two v m;unfold wt8;rw[z.key,(keep _ _ z).key]
 refine Aa1 (wpAny_holding (Ak1 slot_list_sort ⟨_,o1,rfl⟩ entry_list_sort (yb6 (s:={ s with heap:=H1,toks:=tk }) o1 (λv m=>(two v m).imp λp z=>keep v p z) (by rw[hlen];exact hn) λout a1 a2=>⟨_,rfl,Ac1 ⟨_,rfl,?_⟩⟩) (args_list_sort _)));obtain⟨m,om⟩:=ym3 (out:=out) o1;refine h _ h' _ _ m out acc hk (Ad0 _) (λb o g=>yf7 (λe=>?_) (old b o g)) om hacc a1 (a2.imp_of_mem λ{x y} hx hy q=>by
  rw[<-ke x (a1.mem_iff.mp hx),<-ke y (a1.mem_iff.mp hy)];exact q)
 exact absurd (Heap.lt_size g) (by rw[e];exact Bt0 _)
noncomputable def k2(p:Int×Int):List Int:=[p.1,p.2]
def xe6{h:Heap}{a:Addr}{p:Int×Int}(z:wr5 h (.ref a) p):IsTupleKey (intKind prog w) h (k2 p) a:=by
 obtain⟨b,o,n,t,u,e,g,c,d⟩:=z;cases e;exact⟨o,_,n,g,c,d,.cons (intKind_is _ _ _ _) (.cons (intKind_is _ _ _ _) .nil)⟩
end
open PySem PySem.Spec PyProof PyProof.Rows Ts St
noncomputable def ww7(l:List P2)(p:P2):List P2:=if p∈l then l else l++[p]
noncomputable def ddP(l:List P2):List P2:=l.foldl ww7 []
def wn7{p q:P2}(h:k2 p=k2 q):p=q:=by
 have h:[p.1,p.2]=[q.1,q.2]:=h;simp only[List.cons.injEq,and_true] at h;exact Prod.ext h.1 h.2
def wh9{l:List P2}{p:P2}:vc9 (l.map k2) (k2 p)=(ww7 l p).map k2:=by
 unfold vc9 ww7;have:k2 p∈l.map k2↔p∈l:=⟨λz=>by obtain⟨q,hq,e⟩:=Au0.mp z;rw[<-wn7 e];exact hq,λz=>Au0.mpr ⟨p,z,rfl⟩⟩;by_cases z:p∈l
 ·rw[if_pos z,if_pos (this.mpr z)]
 ·rw[if_neg z,if_neg (λy=>z (this.mp y)),Bb0];rfl
theorem yq8:∀(l acc:List P2),zr6 (acc.map k2) (l.map k2)=(l.foldl ww7 acc).map k2
 | [],acc=>rfl
 | p::l,acc=>by
   show zr6 (vc9 (acc.map k2) (k2 p)) (l.map k2)=_;rw[wh9];exact yq8 l (ww7 acc p)
noncomputable def un2(l:List Int):P2:=(l.getD 0 0,l.getD 1 0)
def vj3(p:P2):un2 (k2 p)=p:=rfl
section
variable{X:Cx}{A3:List (Addr×Obj)}{σ:St}{H:Hp}{s:Shared}
theorem xx4(I:Inv X A3 σ H s):∀{vs:List V} {its:List Value} {ps:List P2},wr4 vs its->PrV H vs ps->ps.length=its.length/\∀(j:Nat) (u:Value) (p:P2),its[j]?=some u->ps[j]?=some p->∃b,u=.ref b/\H b=some (.tup [.int p.1,.int p.2])/\wr5 s.heap u p
 | _,_,_,.nil,.nil=>⟨rfl,λj u p e=>by simp at e⟩
 | _,_,_,.cons r1 rv,.cons z hp=>by
   obtain⟨h1,h2⟩:=xx4 I rv hp;refine⟨by simp[h1],λj u p e1 e2=>?_⟩;cases j with
   | succ j=>exact h2 j u p (by simpa using e1) (by simpa using e2)
   | zero=>
     simp only[List.getElem?_cons_zero,Option.some.injEq] at e1 e2;subst e1 e2;obtain⟨b,e,hb⟩:=z;rw[e] at r1;cases r1;obtain⟨js,rj,⟨o,g,cl,n,d⟩,_⟩:=I.tuple (SqT.of hb);cases rj with
     | cons x1 rj=>cases rj with
       | cons x2 rj=>
         cases rj;obtain⟨t1,rfl⟩:=x1;obtain⟨t2,rfl⟩:=x2;exact⟨b,rfl,hb,b,o,n,t1,t2,rfl,g,cl,d⟩
theorem xe4{h:Heap}:∀{l:List Value},(∀u∈l,∃(b:Addr) (p:P2),u=.ref b/\H b=some (.tup [.int p.1,.int p.2])/\wr5 h u p)->∃vs,wr4 vs l/\PrV H vs (l.map (wt8 h))
 | [],_=>⟨[],.nil,.nil⟩
 | u::l,z=>by
   obtain⟨b,p,e,hb,tw⟩:=z u Bi0;obtain⟨vs,h1,h2⟩:=xe4 (l:=l) λu hu=>z u (Ay0 _ hu)
   subst e;refine⟨.ref b::vs,.cons rfl h1,.cons ⟨b,rfl,?_⟩ h2⟩;unfold wt8;rw[tw.key];exact hb
end
section
variable{X:Cx}{e:Expr}{te:TE}{S:Type}{W:Wd S}{c:Dx W}{g ga:Gr}
theorem yv9{α β γ:Type}{f:α->γ}{g:β->γ}:∀{as:List α} {bs:List β},Paired (λa b=>f a=g b) as bs->as.map f=bs.map g
 | _,_,.nil=>rfl
 | _,_,.cons e r=>by rw[Ax0,Ax0,e,yv9 r]
def xt9{n:Nat}{acc:Array Value}{o:Array Ent}(hn:o.size=n)(h:ItemsOf (λi v=>∃e,o[i]?=some e/\v=e.2) acc n):acc.toList=o.toList.map (·.2):=by
 apply List.ext_getElem?;intro j;rw[An0,Bf0,Bf0];by_cases hj:j<n
 ·have ha:j<acc.size:=by rw[h.1];exact hj
  obtain⟨e,he,hv⟩:=h.2 j _ (Ak0 ha);rw[Ak0 ha,hv,he];rfl
 ·rw[Bz0 (by rw[h.1];omega),Bz0 (by omega)];rfl
def xv7:bootBuiltins "set" = some (.type "set"):=by first | rfl | kernel_rfl
noncomputable def xr1(te:TE):TE:=λσ H Q=>te σ H λv H1=>∃(l:Addr) (xs:List V) (ps:List P2),[v]=[V.ref l]/\H1 l=some (.lst xs)/\PrV H1 xs ps/\(ddP ps).length<128/\∀p vs',H1 p=none->PrV H1 vs' (wr6 (ddP ps))->Q (.ref p) (upd H1 p (.lst vs'))
open H in
def xb4{p1 p2 p3 p4:Pos}(hc:X.A.handled=none)(hu:X.A.units+5<cLine)(g1:Gl X "sorted")(m1:X.mg "sorted" = none)(g2:Gl X "set")(m2:X.mg "set" = none)(he:PE X e te)(s1:starEach [e] X.env=(false,eval e X.env)::starEach [] X.env:=by rfl)(n1:(backTo p3 (starEach [] X.env)).any (·.1)=false:=by rfl)(s2:starEach [.Call (.Name "set" p2) [e] [] p3] X.env=(false,eval (.Call (.Name "set" p2) [e] [] p3) X.env)::starEach [] X.env:=by rfl)(n2:(backTo p4 (starEach [] X.env)).any (·.1)=false:=by rfl) :
 PE X (.Call (.Name "sorted" p1) [.Call (.Name "set" p2) [e] [] p3] [] p4) (xr1 te):=by
 intro A3 s σ H Q I h;refine wpAny_Call_Name_kw (zy8 I g1 m1 boot_sorted ?_ (by decide) (by decide));refine PyProof.Rows.callWith_builtin1 (Q:=EP X A3 σ Q) ?_ s2 n2;rw[s2];refine Calls.spliced_cons ?_;refine wpAny_Call_Name_kw (zy8 I g2 m2 xv7 ?_ (by decide) (by decide));refine PyProof.Rows.callWith_type1 ?_ s1 n1;refine thn (zi2 he zp2 s1 p3 A3 s σ H (λvs H1=>∃(l:Addr) (xs:List V) (ps:List P2),vs=[V.ref l]/\H1 l=some (.lst xs)/\PrV H1 xs ps/\(ddP ps).length<128/\∀p vs',H1 p=none->PrV H1 vs' (wr6 (ddP ps))->Q (.ref p) (upd H1 p (.lst vs'))) I ?_) λus t hI119=>?_
 ·exact h
 obtain⟨vs,H1,I1,r1,l,xs,ps,ev,hl,hp,h128,q⟩:=hI119;subst ev;obtain⟨u,rfl,ru⟩:=wv6 r1;cases ru;obtain⟨z,its,n,r,hlen,eo⟩:=I1.lstM hl;obtain⟨pl,pa⟩:=xx4 I1 r hp;have e0:zr6 [] (ps.map k2)=(ddP ps).map k2:=yq8 ps [];refine xc8 (G:=λb=>∃p:P2,H1 b=some (.tup [.int p.1,.int p.2])/\wr5 t.heap (.ref b) p) (kf:=ps.map k2) (items:=its.toArray) hc hu ⟨_,eo,rfl,n,rfl⟩ (by simp[pl]) (by rw[e0,Aa0];omega) (λj v k e1 e2=>?_) λh' tk zs keep=>?_
 ·rw[An0] at e2
  cases hpj:ps[j]? with
  | none=>rw[hpj] at e2;cases e2
  | some p=>
    rw[hpj] at e2;cases e2;obtain⟨b,rfl,hb,tw⟩:=pa j v p (by simpa using e1) hpj;exact⟨b,rfl,⟨p,hb,tw⟩,xe6 tw⟩
 refine Calls.spliced_nil ?_;obtain⟨o,es,ep,tb,ks',g,ex,d,T,M,pk,pm⟩:=zs;rw[e0] at pm;have ktw:∀{v:Value} {p:P2},wr5 t.heap v p->wr5 h' v p:=λ⟨b,o,m,x,y,e,a1,a2⟩=>⟨b,o,m,x,y,e,keep b o (Heap.lt_size a1) a1,a2⟩
 have ent:∀k (e:Ent),Ens X.prog X.w (λb=>∃p:P2,H1 b=some (.tup [.int p.1,.int p.2])/\wr5 t.heap (.ref b) p) h' e k->∃(b:Addr) (p:P2),e.2=.ref b/\H1 b=some (.tup [.int p.1,.int p.2])/\wr5 h' e.2 p/\k=k2 p:=λk e ⟨b,x1,⟨p,hb,tw⟩,ik,_⟩=>⟨b,p,x1,hb,by rw[x1];exact ktw tw,ik.inj (xe6 (ktw tw))⟩
 obtain⟨l1,l2,l3⟩:=yc4 pk;have esz:es.size=(ddP ps).length:=by rw[<-Ah0,<-l3,pm.length_eq,Aa0]
 have osz:(ww4 X.w t.heap.objs.size ep es).size=es.size:=by rw[<-Ah0,zm3.length_eq,Ah0]
 refine xb0 (s:={ t with heap:=h',toks:=tk }) (wc1 d ex.1 T) hc g (by omega) (λi v hI120=>?_) λp h1 h2 tk2 m out acc kp1 lp kp2 gp hi po uo=>?_
 ·obtain⟨e,he,ev⟩:=hI120
  obtain⟨k,_,en⟩:=l1 e (zm3.mem_iff.mp (by rw[<-Bf0] at he;exact Ao0 he));obtain⟨b,p,x1,_,tw,_⟩:=ent k e en;rw[ev];exact⟨p,tw⟩
 ·have ae:=xt9 osz hi
  have mo:∀u∈out.toList,∃(b:Addr) (p:P2),u=.ref b/\H1 b=some (.tup [.int p.1,.int p.2])/\wr5 h' u p:=λu hu=>by
   have:=po.mem_iff.mp hu;rw[ae] at this;obtain⟨e,he,rfl⟩:=Au0.mp this;obtain⟨k,_,en⟩:=l1 e (zm3.mem_iff.mp he);obtain⟨b,p,x1,hb,tw,_⟩:=ent k e en;exact⟨b,p,x1,hb,tw⟩
  obtain⟨vs',v1,v2⟩:=xe4 mo;have pmap:ks'.map un2=es.toList.map λe=>wt8 h' e.2:=yv9 (ya1 (λk e en=>by
   obtain⟨b,p,x1,hb,tw,ek⟩:=ent k e en;show un2 k=wt8 h' e.2;unfold wt8;rw[ek,vj3,tw.key];rfl) pk)
  have pd:(out.toList.map (wt8 h')).Perm (ddP ps):=by
   refine(po.map _).trans ?_;rw[ae,Bm0];refine(zm3.map _).trans ?_;have:=pm.map un2;rw[pmap,Bm0] at this;refine this.trans ?_;rw[show (un2 ∘ k2)=id from funext λp=>vj3 p,List.map_id]
  rw[zw1 pd (by rw[Cd0];exact uo)] at v2;have ge:t.heap.objs.size<=p:=Ba0 (Ce0 (Heap.lt_size (kp1 _ _ g))) lp;have ol:out.toList.length=es.size:=by rw[po.length_eq,ae,Aa0,zm3.length_eq,Ah0]
  refine⟨.ref p,_,I1.laid (o:=.lst vs') (λb o e=>kp2 b o (kp1 b o (keep b o (Heap.lt_size e) e))) ge ⟨?_,out.toList,m,v1,gp⟩,rfl,q _ _ (I1.hok.fresh ge) v2⟩;have:=v1.length;exact Ce0 (zp6 (by omega))
noncomputable def yw0(d:D):Option D:=match d with
 | .lst l=>(wt1 l).bind λps=>if (ddP ps).length<128 then some (.lst ((wr6 (ddP ps)).map prD)) else none
 | _=>none
def xc4{k:Nat}{p1 p2 p3 p4:Pos}{f:Fn S}(hr:ws5 k X.A)(g1:Gl X "sorted")(m1:X.mg "sorted" = none)(g2:Gl X "set")(m2:X.mg "set" = none)(he:DE X c ga e f)(s1:starEach [e] X.env=(false,eval e X.env)::starEach [] X.env:=by rfl)(n1:(backTo p3 (starEach [] X.env)).any (·.1)=false:=by rfl)(s2:starEach [.Call (.Name "set" p2) [e] [] p3] X.env=(false,eval (.Call (.Name "set" p2) [e] [] p3) X.env)::starEach [] X.env:=by rfl)(n2:(backTo p4 (starEach [] X.env)).any (·.1)=false:=by rfl) :
 DE X c g (.Call (.Name "sorted" p1) [.Call (.Name "set" p2) [e] [] p3] [] p4) (f1 S yw0 f):=
 (xb4 hr.hd (by have:=hr.units;exact Nat.lt_of_le_of_lt (by omega) this) g1 m1 g2 m2 he s1 n1 s2 n2).imp λσ H Q hI46=>by
  obtain⟨ρ,st,R,ok,w⟩:=hI46;refine⟨ρ,st,R,ok,za6 (za5.mp w) (λd st1 q v H1 e1 ok1 z=>?_) λx st1 q=>q⟩;obtain⟨d',ed,q⟩:=zb2.mp q;cases d with
  | lst l=>
    have ed:(wt1 l).bind (λps=>if (ddP ps).length<128 then some (D.lst ((wr6 (ddP ps)).map prD)) else none)=some d':=ed;cases qq:wt1 l with
    | none=>rw[qq] at ed;cases ed
    | some ps=>
      rw[qq] at ed;have ed:(if (ddP ps).length<128 then some (D.lst ((wr6 (ddP ps)).map prD)) else none)=some d':=ed;by_cases im:(ddP ps).length<128
      ·rw[if_pos im] at ed
       cases ed;obtain⟨a,vs,rfl,_,hv,zl⟩:=Is.lst_iff.mp z.toR;exact⟨a,vs,ps,rfl,hv,yi9 qq zl,im,λp vs' hp w=>q _ _ (e1.trans (Ext.laid hp)) (zg6 ok1 hp) (((New.lst ok1 hp (λ_ n=>n) (zv8 _) (yv6 (A:=λb=>¬W.mv b) w)).val (R.ext ok e1) g).back e1 ok1)⟩
      ·rw[if_neg im] at ed;cases ed
  | _=>cases ed
end
section
variable{X:Cx}{S:Type}{W:Wd S}{c:Dx W}
noncomputable def vx0(c:Dx W)(b:Addr):Prop:=¬W.mv b/\c.H0 b=none
noncomputable def tN(c:Dx W)(f:Fn S):TE:=λσ H Q=>∃ρ st,Rep c H σ ρ/\W.ok st H/\
 wpR (f ρ st) (λd st'=>∀v H',Ext W H H'->W.ok st' H'->Is c.K (vx0 c) H' d v->Q v H') λx st'=>∀H',Ext W H H'->W.ok st' H'->c.Ex x st' H'
noncomputable def DN(X:Cx){S:Type}{W:Wd S}(c:Dx W)(e:Expr)(f:Fn S):Prop:=PE X e (tN c f)
noncomputable def tNs(c:Dx W)(f:FnA S):TA:=λσ H Q=>∃ρ st,Rep c H σ ρ/\W.ok st H/\
 wpR (f ρ st) (λl st'=>∀vs H',Ext W H H'->W.ok st' H'->IsL c.K (vx0 c) H' l vs->Q vs H') λx st'=>∀H',Ext W H H'->W.ok st' H'->c.Ex x st' H'
noncomputable def DNs(X:Cx){S:Type}{W:Wd S}(c:Dx W)(es:List Expr)(f:FnA S):Prop:=PA X es (tNs c f)
def wg9:DNs X c [] (vl9 S):=zp2.imp λσ H Q ⟨ρ,st,R,ok,w⟩=>w [] H Ext.refl ok (IsL.nil.mpr rfl)
def yy3{e:Expr}{es:List Expr}{f:Fn S}{r:FnA S}(h:DN X c e f)(hr:DNs X c es r)(hs:starEach (e::es) X.env=(false,eval e X.env)::starEach es X.env:=by rfl):DNs X c (e::es) (wt6 S f r):=
 (zi2 h hr hs).imp λσ H Q hI47=>by
  obtain⟨ρ,st,R,ok,w⟩:=hI47;refine⟨ρ,st,R,ok,za6 (za5.mp w) (λd st1 q v H1 e ok1 z=>?_) λx st1 q=>q⟩;refine⟨ρ,st1,R.ext ok e,ok1,za6 (za5.mp q) (λl st2 q vs H2 e2 ok2 z2=>?_) λx st2 q H2 e2 ok2=>q H2 (e.trans e2) ok2⟩;exact q (v::vs) H2 (e.trans e2) ok2 (IsL.cons.mpr ⟨v,vs,rfl,z.ext e2 ok1 (λb n=>n.1),z2⟩)
noncomputable def vv6(S:Type)(i:Nat):Fn S:=λρ st=>ws3 (own? ρ i) st
open H in
theorem xz2{i:Nat}{x:Str}{p:Pos}(h:PE X (.Name x p) (wy6 i)):DN X c (.Name x p) (vv6 S i):=h.imp λσ H Q hI48=>by
 obtain⟨ρ,st,R,ok,w⟩:=hI48;obtain⟨d,e,q⟩:=zb2.mp w;unfold own? at e;cases hs:ρ[i]? with
 | none=>rw[hs] at e;cases e
 | some s=>
   rw[hs] at e;have z:=R.slot i s hs;cases s with
   | no=>cases e
   | hnd=>cases e
   | bor d'=>
     have e:(if d'.imm=true then some d' else none)=some d:=e;split at e
     ·rename_i m
      cases e;obtain⟨v,e1,i1⟩:=z;exact⟨v,zg8 e1,q v H Ext.refl ok (Is.ofImm m i1)⟩
     ·cases e
   | own d'=>
     have e:(if d'.flat=true then some d' else none)=some d:=e;split at e
     ·rename_i m
      cases e;obtain⟨a,e1,n,f,t⟩:=z;have tt:Is c.K (λb=>¬W.mv b) H d (.ref a):=(t.mono (A':=λb=>¬W.mv b) ⟨λ_ _ z _=>z,λb o a z=>⟨a.1,z⟩⟩ λo z=>z).isTop n.1;exact⟨_,zg8 e1,q _ H Ext.refl ok (yj9 tt m ⟨n.1,f⟩)⟩
     ·cases e
open H in
def wp0{es:List Expr}{x1}{pos:Pos}{f:FnA S}(h:DNs X c es f):DN X c (.Tuple es x1 pos) (fA S vg6 f):=(xx6 h).imp λσ H Q hI49=>by
 obtain⟨ρ,st,R,ok,w⟩:=hI49;refine⟨ρ,st,R,ok,za6 (za5.mp w) (λl st1 q vs H1 e ok1 z=>?_) λx st1 q=>q⟩;obtain⟨d,e1,q⟩:=zb2.mp q;unfold vg6 at e1;split at e1
 ·rename_i h
  cases e1;exact⟨by rw[<-z.length];exact h,λp hp=>q _ _ (e.trans (Ext.laid hp)) (zg6 ok1 hp) (Is.tup zb3 (z.ext (Ext.laid hp) ok1 λb n=>n.1))⟩
 ·cases e1
noncomputable def vj9(S:Type)(f:Fn S):FnS S:=λρ st=>(f ρ st).bind λd st1=>.ok (.rt d) st1
def wg8{e:Expr}{f:Fn S}{pos:Pos}(h:DN X c e f):DS X c (.Return (some e) pos) (vj9 S f):=
 (yg1 h).imp λD σ H ⟨ρ,st,R,ok,w⟩=>⟨ρ,st,R,ok,za6 (za5.mp w) (λd st1 q v H1 e ok1 z=>q v H1 (e.f0 R) ok1 z) λx st1 q H1 e ok1=>q H1 (e.f0 R) ok1⟩
section
variable{Q:D->S->Prop}{QF:Fl->S->Prop}{E:Exn->S->Prop}{ρ:Rho}{st:S}{f:Fn S}{i:Nat}
def wb6:wpR (vv6 S i ρ st) Q E↔∃d,own? ρ i=some d/\Q d st:=zb2
def xq5:wpR (vj9 S f ρ st) QF E↔wpR (f ρ st) (λd st1=>QF (.rt d) st1) E:=za5
end
end
theorem ln1{α:Type}{us:List α}(h:us.length=1):∃a,us=[a]:=by
 match us,h with
 | [a],_=>exact⟨a,rfl⟩
theorem ln2{α:Type}{us:List α}(h:us.length=2):∃a b,us=[a,b]:=by
 match us,h with
 | [a,b],_=>exact⟨a,b,rfl⟩
theorem ln3{α:Type}{us:List α}(h:us.length=3):∃a b c,us=[a,b,c]:=by
 match us,h with
 | [a,b,c],_=>exact⟨a,b,c,rfl⟩
theorem ln4{α:Type}{us:List α}(h:us.length=4):∃a b c d,us=[a,b,c,d]:=by
 match us,h with
 | [a,b,c,d],_=>exact⟨a,b,c,d,rfl⟩
theorem ln5{α:Type}{us:List α}(h:us.length=5):∃a b c d e,us=[a,b,c,d,e]:=by
 match us,h with
 | [a,b,c,d,e],_=>exact⟨a,b,c,d,e,rfl⟩
noncomputable def At(K:PySem.W.Frag)(x:Str)(st:Stmt):Prop:=∃f fd,nsIn K mainGlobals x=some (some (.ref f))/\Fun K x x st f fd
noncomputable def vu2(x:Str)(st:Stmt)(ps:List Str):Prop:=∀(kV doc pm:Value) (an:Option Addr) (cdv ct:Value) (us:List Value),us.length=ps.length->bindArgs (fnOf x x (zu0 st) (zc3 st) (za4 st) .none kV doc pm an cdv ct) ⟨us,[]⟩=pure (ps.zip us)
section
variable{K:PySem.W.Frag}{h:Heap}{mg:Str->Option Value}{x:Str}{st:Stmt}{N ps:List Str}{k j:Nat}{P:Program}{w:World}{base:Heap}{sp:Sp}
def zc2.up(C:zc2 P w K mg base k x ps sp)(hk:k<=j:=by decide):zc2 P w K mg base j x ps sp:=by
 obtain⟨f,fd,a,b,c,d⟩:=C.ex;exact⟨f,fd,a,b,c,d.mono hk⟩
def wy5(P:Program)(w:World)(base:Heap)(X:K.In h)(G:h.Ns mainGlobals mg){B:FnS Unit}(a:At K x st)(S:zc6 N ps (za4 st))(hb:∀(f:Addr) (cdv:Value) (A:Around) (outer:List Env) (s:Shared) (H:Hp) (E:XK),ws5 k (A.deeper (envOfC x (za4 st) s.heap.objs.size f cdv))->DSs (wt9 CX0 P w K mg base N x (za4 st) f cdv A outer s H E).nox (cx0 K H) (zc3 st) B)(bd:vu2 x st ps:=by (intro _ _ _ _ _ _ us hl;first | (obtain⟨_,rfl⟩:=ln1 hl;rfl) | (obtain⟨_,_,rfl⟩:=ln2 hl;rfl) | (obtain⟨_,_,_,rfl⟩:=ln3 hl;rfl) | (obtain⟨_,_,_,_,rfl⟩:=ln4 hl;rfl) | (obtain⟨_,_,_,_,_,rfl⟩:=ln5 hl;rfl))) :
 zc2 P w K mg base (k+1) x ps (sp0 K (dfn N.length ps.length B)):=by
 obtain⟨f,fd,n,F⟩:=a;exact⟨f,fd,mg_of X G n,F.kp,F.binds bd,Fun.d0 F S λcdv A outer s H E hr=>hb f cdv A outer s H E hr⟩
def vi7{Sx:Type}{W:Wd Sx}(P:Program)(w:World)(base:Heap)(X:K.In h)(G:h.Ns mainGlobals mg){B:FnS Sx}(a:At K x st)(S:zc6 N ps (za4 st))(hb:∀(f:Addr) (cdv:Value) (A:Around) (outer:List Env) (s:Shared) (H:Hp) (E:XK),ws5 k (A.deeper (envOfC x (za4 st) s.heap.objs.size f cdv))->DSs (wt9 CX0 P w K mg base N x (za4 st) f cdv A outer s H E).nox (cxS W K H) (zc3 st) B)(bd:vu2 x st ps:=by (intro _ _ _ _ _ _ us hl;first | (obtain⟨_,rfl⟩:=ln1 hl;rfl) | (obtain⟨_,_,rfl⟩:=ln2 hl;rfl) | (obtain⟨_,_,_,rfl⟩:=ln3 hl;rfl) | (obtain⟨_,_,_,_,rfl⟩:=ln4 hl;rfl) | (obtain⟨_,_,_,_,_,rfl⟩:=ln5 hl;rfl))) :
 zc2 P w K mg base (k+1) x ps (spS W K (vb2 N.length ps.length B)):=by
 obtain⟨f,fd,n,F⟩:=a;exact⟨f,fd,mg_of X G n,F.kp,F.binds bd,Fun.dS F S λcdv A outer s H E hr=>hb f cdv A outer s H E hr⟩
def vt2(P:Program)(w:World)(base:Heap)(X:K.In h)(G:h.Ns mainGlobals mg)(a:At K x st)(ok:∀f fd,Fun K x x st f fd->wy0 P w K mg base CX0 k f fd ps sp)(bd:vu2 x st ps:=by (intro _ _ _ _ _ _ us hl;first | (obtain⟨_,rfl⟩:=ln1 hl;rfl) | (obtain⟨_,_,rfl⟩:=ln2 hl;rfl) | (obtain⟨_,_,_,rfl⟩:=ln3 hl;rfl) | (obtain⟨_,_,_,_,rfl⟩:=ln4 hl;rfl) | (obtain⟨_,_,_,_,_,rfl⟩:=ln5 hl;rfl))):zc2 P w K mg base k x ps sp:=by
 obtain⟨f,fd,n,F⟩:=a;exact⟨f,fd,mg_of X G n,F.kp,F.binds bd,ok f fd F⟩
end
end L2
section
open L2
local macro_rules
 | `(tactic| simp?! [$ls,*])=>do
   let x:=("wp_ok wp_bad wp_some wp_none wp_sNil wp_sSet wp_sSetB wp_sAsg wp_sPar wp_sIf wp_sRet wp_sRetV wp_sMt wp_sBad wp_fC wp_fVk wp_f2 wp_fA wp_aNil wp_aCons wp_fCall wp_fCallS wp_fAndV wp_fOrV wp_fNotV wp_fIfE wp_fNeg wp_pNo wp_pSo wp_iSeq wp_iArgs wp_fComp wp_fB wp_fAnd wp_fOr wp_fNot wp_fTrue wp_sPar3 wp_sDPut wp_fChain wp_fDisp wp_sTab2 wp_fGet wp_sFor wp_fP wp_aP wp_tP own? frz frz1 pickR gN gT gsCons gsNil D.seq? D.immL flat_lst flat_dct flat_int flat_str flat_bl flat_non flat_tup imm_int imm_str imm_bl imm_non imm_tup rho0 rhoS rhoL g0 gS s0 sS lC lN rd putN put im kp vr cn o2 cs nl o1 ti tb boS dbb rl0_ rl1_ rl2_ rl3_ rl4_ rl5_ rl6_ rl7_ rl8_ rl9_".splitOn " ").toArray.map λn=>Lean.mkIdent n.toName
   `(tactic| try simp only[$[$x:term],*,EV_,Nat.reduceAdd,Nat.reduceLT,Nat.reduceLeDiff,Nat.reduceSub,reduceIte,$ls,*])
local macro_rules
 | `(tactic| simp_all!)=>do
   let a:=Lean.mkIdent `hN_
   `(tactic| ((try with_reducible refine $a _ _ ?_);with_reducible refine wa4 fun $(Lean.mkIdent `P_) $a $(Lean.mkIdent `hR_) $(Lean.mkIdent `hB_) $(Lean.mkIdent `hC_)=>?_))
 | `(tactic| simp!)=>`(tactic| simp! [wp_ok])
 | `(tactic| simp! [$ls,*])=>do
   let a:=Lean.mkIdent `hN_
   `(tactic| ((try with_reducible refine $a _ _ ?_);simp?! [$ls,*];(repeat (first | with_reducible refine $a _ _ ?_ | with_reducible refine $(Lean.mkIdent `hR_) _ _ ?_ | with_reducible refine $(Lean.mkIdent `hB_) _ _ ?_ | with_reducible refine $(Lean.mkIdent `hC_) _ _ ?_));simp?! [$ls,*]))
namespace K44
open L2
noncomputable def top(i:Nat):Stmt:=PySem.Challenge.pw_slidehall_k44_reaches.main.body.getD i (.Pass ⟨0,0,0,0⟩)
structure Cst(K:PySem.W.Frag)(mg:Str->Option Value):Prop where
 ok:True
 WALL:∃t,mg "WALL" = some (.int (-1) t)
 STEPS:∃a0,mg "STEPS" = some (.ref a0)/\vt5 K a0 [(1,0),(0,1),(-1,0),(0,-1)]
noncomputable abbrev zx9:Stmt:=top 16
noncomputable abbrev yn8:List Str:=["_law_script","_law_cells"]
def zo4:zc6 yn8 ["_law_script"] (za4 zx9):=by and_intros
noncomputable abbrev yb9:Stmt:=top 17
noncomputable abbrev ys8:List Str:=["_law_state","_law_many","_law_turn","_law_place","_law_cell","_law_digit","_law_mixed"]
def zf9:zc6 ys8 ["_law_state","_law_many"] (za4 yb9):=by and_intros
section
variable{P:Program}{w:World}{K:PySem.W.Frag}{mg:Str->Option Value}{base:Heap}
def xt0(F:Fun K "_law_begin" "_law_begin" zx9 f fd)(hm:Bn mg):wy0 P w K mg base CX0 1 f fd ["_law_script"] (yr6 K):=by
 refine F.ok zo4 (λvs H Q E h=>?_) (λcdv A outer s H vs Q E hr h=>?_)
 ·obtain⟨a,ns,rfl,_⟩:=h;rfl
 ·obtain⟨a,ns,rfl,hS,h63,q⟩:=h
  have hcut:vh9 (ns.map V.int) none (some 63)=ns.map V.int:=vt1 h63;refine⟨_,zh1 (zt3 (i:=1) zo4.nd rfl (Or.inl rfl) (yn2 yq2 (by rfl) hm.list boot_list (zi2 (xs4 wc2 (pv 0) wd2 (wd1 zj5)) zp2))) (zh1 (vg3 (ys0 (zg0 hr) (pv 1) (xi2 zp2) (xy2 _)) (yc1 (zt3 (i:=1) zo4.nd rfl (Or.inl rfl) (xi2 (zi2 zj5 zp2)))) ys1) (yc1 (yg1 (xi4 (zz8 zv0 (pv 1) (zz8 zv0 zj5 ys3)) rfl rfl (by simp) (by show 2<=15;decide))))),?_⟩;refine⟨.ref a,rfl,63,rfl,a,_,rfl,hS,λp1 hp1=>?_⟩;rw[hcut];refine⟨p1,_,rfl,.inl (.of zb3),λp2 hp2=>?_⟩;have n12:p1≠p2:=zb7 zb3 hp2;have s2:wx7 H (upd (upd H p1 (.lst (ns.map V.int))) p2 (.lst (ns.map V.int))):=λb o e=>by
   have b1:b≠p1:=zb7 e hp1;have b2:b≠p2:=λz=>by subst z;rw[za9 b1,e] at hp2;cases hp2
   rw[za9 b2,za9 b1];exact e
  refine⟨_,rfl,(by show 0<=sizeLine;decide),λp3 hp3=>?_⟩;have n23:p2≠p3:=zb7 zb3 hp3;refine⟨λ_=>True,.lst (ns.map D.int),.lst [],ns.isEmpty,?_,?_,?_,?_,?_⟩
  ·exact Is.lst trivial (by rw[za9 n23];exact zb3) (xl9 ns)
  ·exact Is.lst trivial zb3 (IsL.nil.mpr rfl)
  ·exact xu0 ns
  ·cases ns<;>rfl
  have fin:∀(H3:Hp) (q2:Addr) (xs:List Int),wx7 H H3->H q2=none->H3 q2=some (.lst (xs.map V.int))->xs=zo9 ns->
   vj5 [(λ_ H Q=>Q (.str "cells") H,wy6 1),(λ_ H Q=>Q (.str "turn") H,λ_ H Q=>Q (.int 0) H)] [some (.ref a),some (.ref q2)] H3 Q:=λH3 q2 xs sm hn hl ex=>by
   intro r hr';have nr:q2≠r:=zb7 hl hr';refine⟨_,rfl,zb3,[(Sum.inr "cells",.ref q2),(Sum.inr "turn",.int 0)],rfl,(by show 2<=15;decide),?_⟩;refine q r q2 _ (λb o e=>?_) ?_ ?_ ?_ ?_
   ·have br:b≠r:=zb7 (sm b o e) hr'
    rw[za9 br,za9 br];exact sm b o e
   ·cases z:H r with
    | none=>rfl
    | some o=>rw[sm r o z] at hr';cases hr'
   ·exact hn
   ·rw[zb3];exact congrArg (λz=>some (HO.dK z)) wm6
   ·rw[za9 nr,za9 nr,hl,ex]
  have g2:H p2=none:=by
   cases z:H p2 with
   | none=>rfl
   | some o=>
     have b1:p2≠p1:=n12.symm;rw[za9 b1,z] at hp2;cases hp2
  cases ns with
  | nil=>
    refine⟨_,rfl,vi4 ?_⟩;refine⟨(by show 1<=sizeLine;decide),λp4 hp4=>?_⟩;have s3:wx7 H (upd (upd (upd (upd H p1 (.lst [])) p2 (.lst [])) p3 (.lst [])) p4 (.lst [.int 7])):=λb o e=>by
     have z2:=s2 b o e;have b3:b≠p3:=zb7 z2 hp3;have b4:b≠p4:=λz=>by subst z;rw[za9 b3,z2] at hp4;cases hp4
     rw[za9 b4,za9 b3];exact z2
    refine fin _ p4 [7] s3 ?_ zb3 rfl;cases z:H p4 with
    | none=>rfl
    | some o=>
      have z2:=s2 p4 o z;have b3:p4≠p3:=zb7 z2 hp3;rw[za9 b3,z2] at hp4;cases hp4
  | cons n0 ns=>
    refine⟨_,rfl,vl2 ?_⟩;have s3:wx7 H (upd (upd (upd H p1 (.lst ((n0::ns).map V.int))) p2 (.lst ((n0::ns).map V.int))) p3 (.lst [])):=λb o e=>by
     have z2:=s2 b o e;have b3:b≠p3:=zb7 z2 hp3;rw[za9 b3];exact z2
    exact fin _ p2 (n0::ns) s3 g2 (by rw[za9 n23];exact zb3) rfl
open H in
def we0(F:Fun K "_law_take" "_law_take" yb9 f fd)(hlen:mg "len" = none)(hdm:mg "divmod" = none):wy0 P w K mg base CX0 1 f fd ["_law_state","_law_many"] (spS (WdS p l) K wt0):=by
 refine F.ok zf9 (λvs H Q E h=>?_) (λcdv A outer s H vs Q E hr h=>?_)
 ·obtain⟨ds,us,st,rfl,i,ok,w⟩:=h
  unfold wt0 at w;split at w
  ·rw[Ar0,<-i.length];rfl
  ·exact w.elim
 ·obtain⟨ds,us,st,rfl,i,ok,w⟩:=h
  unfold wt0 at w;split at w
  ·rename_i many
   split at w
   ·rename_i hb
    obtain⟨v,r,ev,i1,i2⟩:=IsL.cons.mp i;rw[IsL.nil.mp i2,Is.int_iff.mp i1] at ev;subst ev;have hu:=wu9 hr;obtain⟨hp,hl,hne,h63,h0⟩:=id ok;have npl:p≠l:=vc0 hp hl (by intro z;cases z);refine⟨_,zh1 (zt3 (i:=2) zf9.nd rfl (Or.inl rfl) (wt5 yn5 (yc2 hu (pv 0) zv0 (λ_ _=>rfl)) zj5)) (zh1 (xh3 hu (pv 0) zv0 (pv 2) rfl) (zh1 (zt3 (i:=3) zf9.nd rfl (Or.inl rfl) (wt5 zv1 (pv 2) (ya0 zd8 (by rfl) hlen PySem.boot_len (zi2 (yc2 hu (pv 0) zv0 (λ_ _=>rfl)) zp2)))) (zh1 (zt3 (i:=4) zf9.nd rfl (Or.inl rfl) (vg4 xl4 (yc2 hu (pv 0) zv0 (λ_ _=>rfl)) (pv 3) (λ_ _=>rfl))) (zh1 (vg3 (ys0 vq4 (pv 4) (wt5 xx8 zj5 zj5) (xy2 _)) (zh1 (xh4 (ya0 yu1 (by rfl) hdm boot_divmod (zi2 (pv 4) (zi2 (pv 1) zp2))) (xi1 (n:=2) rfl (zu9 (wk8 (yc2 hu (pv 0) zv0 (λ_ _=>rfl)) (pv 3) xr8) (zu9 (yj0 (i:=5) zf9.nd rfl (Or.inl rfl)) ys4)))) (yc1 (yg1 (pv 5)))) ys1) (zh1 (zt3 (i:=6) zf9.nd rfl (Or.inl rfl) (wt5 zv1 (wt5 yc6 (wt5 yn5 (wt5 yn5 (wt5 zv1 (pv 4) zj5) (wt5 yc6 (wt5 yc6 (pv 2) (pv 2)) zj5)) zj5) zj5) zj5)) (zh1 (zt3 (i:=6) zf9.nd rfl (Or.inl rfl) (wt5 zv1 (wt5 yc6 (pv 6) (pv 6)) zj5)) (yc1 (yg1 (wt5 zv1 (wt5 wd8 (wt5 zv1 (wt5 yc6 (wt5 yn5 (pv 6) (wt5 yc6 (pv 2) zj5)) zj5) zj5) zj5) (pv 1)))))))))),?_⟩;have n0:(0:Int)<(st.1.length:Int):=by
     have:st.1.length≠0:=λz=>hne (List.length_eq_zero_iff.mp z)
     omega
    have pl0:0<=(st.2+1) % (st.1.length:Int):=Int.emod_nonneg _ (by omega);have pl1:(st.2+1) % (st.1.length:Int)<(st.1.length:Int):=Int.emod_lt_of_pos _ n0;have ple:((plc st:Nat):Int)=(st.2+1) % (st.1.length:Int):=Int.toNat_of_nonneg pl0;have plt:plc st<st.1.length:=by omega
    have cel:(st.1.map V.int)[plc st]?=some (.int (st.1.getD (plc st) 0)):=by
     rw[An0,Ac0 plt,Ca0,Ac0 plt];rfl
    have H1p:∀o,(upd H p o) l=some (.lst (st.1.map V.int)):=λo=>by rw[za9 npl.symm];exact hl
    have g0:ww8 H p (.str "turn") (some (.int st.2)):=by
     have q:=ww8.k (k:=(Sum.inr "turn" : Key)) hp;rw[xf1] at q;exact q
    have p0:vf0 H p (.str "turn") (.int (st.2+1)) (upd H p (.dK (stD l (st.2+1)))):=by
     have q:=vf0.k (k:=(Sum.inr "turn" : Key)) (v:=.int (st.2+1)) hp (by show 2<sizeLine;decide);rw[wj7] at q;exact q
    have gc:∀{H2:Hp},H2 p=some (.dK (stD l (st.2+1)))->ww8 H2 p (.str "cells") (some (.ref l)):=λ{H2} e=>by
     have q:=ww8.k (k:=(Sum.inr "cells" : Key)) e;rw[xr6] at q;exact q
    have lenI:(((st.1.map V.int).length:Nat):Int)=(st.1.length:Int):=by rw[Aa0]
    -- turn,its store,the place
    refine⟨_,rfl,p,.int st.2,rfl,g0,st.2,1,rfl,rfl,_,rfl,_,rfl,p,_,rfl,p0,?_⟩;refine⟨_,rfl,_,rfl,p,.ref l,rfl,gc zb3,l,_,rfl,.inl (SqL.of (H1p _)),st.2+1,_,rfl,rfl,by rw[lenI];exact n0,?_⟩
    -- the cell
    refine⟨_,rfl,p,.ref l,rfl,gc zb3,_,rfl,l,_,_,.int (st.1.getD (plc st) 0),rfl,rfl,SqL.of (H1p _),by rw[lenI,<-ple];exact yu3 cel,?_⟩;refine⟨_,rfl,10,18,rfl,rfl,⟨by decide,by decide,by decide⟩,st.1.getD (plc st) 0,_,rfl,rfl,_,rfl,?_⟩;have e18:((10:Int) ^ (18:Int).toNat)=1000000000000000000:=by decide
    by_cases hc:1000000000000000000<=st.1.getD (plc st) 0
    ·rw[if_pos hc] at w
     rw[e18,Ap1 hc];refine vi4 ?_;refine⟨_,rfl,_,rfl,st.1.getD (plc st) 0,many,rfl,⟨hb.1,hb.2.1⟩,λq hq=>?_⟩;have qp:p≠q:=zb7 zb3 hq;have ql:l≠q:=zb7 (H1p _) hq;refine⟨q,_,rfl,SqT.of zb3,rfl,_,_,rfl,_,rfl,p,.ref l,rfl,gc (by rw[za9 qp];exact zb3),_,rfl,l,_,_,plc st,rfl,rfl,by rw[za9 ql];exact H1p _,?_,_,_,rfl,rfl,?_⟩
     ·rw[lenI,<-ple]
      unfold ixN;rw[if_pos (by omega),if_pos (by rw[Aa0];omega)];simp
     ·refine⟨_,rfl,w _ _ (λb o hb' nm=>?_) ⟨?_,?_,?_,?_,?_⟩ (Is.int_iff.mpr rfl)⟩
      ·have b1:b≠p:=λz=>nm (.inl z)
       have b2:b≠l:=λz=>nm (.inr z)
       have b3:b≠q:=λz=>by
        subst z;rw[za9 b1,hb'] at hq;cases hq
       rw[za9 b2,za9 b3,za9 b1];exact hb'
      ·rw[za9 npl,za9 qp];exact zb3
      ·rw[zb3]
       congr 2;rw[List.map_set]
      ·intro z
       have:=congrArg List.length z;rw[Cc0] at this;exact hne (List.length_eq_zero_iff.mp this)
      ·show (st.1.set _ _).length<=63
       rw[Cc0];exact h63
      ·show 0<=st.2+1
       omega
    ·rw[if_neg hc] at w
     rw[e18,Ao1 hc];refine vl2 ?_;have tb:-(2 ^ 64)<st.2+1/\st.2+1<2 ^ 64:=⟨by omega,by omega⟩;have big:∀(j:Int),-(2 ^ 64)<j/\j<2 ^ 64->∀i:Int,va9 i j:=λj h i=>.inr h
     refine⟨_,rfl,st.1.getD (plc st) 0,2147483629,rfl,rfl,(by show (0:Int)<2147483629;decide),_,rfl,_,rfl,_,_,rfl,rfl,.inl tb,_,_,rfl,rfl,big _ ⟨by decide,by decide⟩ _,_,_,rfl,rfl,_,_,rfl,rfl,_,_,rfl,rfl,big _ ⟨by decide,by decide⟩ _,_,_,rfl,rfl,(by show (0:Int)<2147483647;decide),?_⟩;have m0:0<=vi3 (st.1.getD (plc st) 0) (st.2+1):=Int.emod_nonneg _ (by decide);have m1:vi3 (st.1.getD (plc st) 0) (st.2+1)<2147483647:=Int.emod_lt_of_pos _ (by decide);refine⟨_,rfl,_,rfl,vi3 (st.1.getD (plc st) 0) (st.2+1),vi3 (st.1.getD (plc st) 0) (st.2+1),rfl,rfl,.inl ⟨by omega,by omega⟩,_,_,rfl,rfl,(by show (0:Int)<2147483587;decide),?_⟩;refine⟨_,rfl,_,rfl,st.2+1,104729,rfl,rfl,big _ ⟨by decide,by decide⟩ _,vv3 (st.1.getD (plc st) 0) (st.2+1),_,rfl,rfl,_,39373,rfl,rfl,big _ ⟨by decide,by decide⟩ _,_,2147483629,rfl,rfl,(by show (0:Int)<2147483629;decide),_,64,rfl,rfl,⟨by decide,by decide⟩,_,rfl,vv2 (st.1.getD (plc st) 0) (st.2+1),many,rfl,rfl,hb.1,?_⟩;refine w _ _ (λb o hb' nm=>?_) ⟨zb3,H1p _,hne,h63,by show 0<=st.2+1;omega⟩ (Is.int_iff.mpr rfl);rw[za9 (λz=>nm (.inl z))];exact hb'
   ·exact w.elim
  ·exact w.elim
end
set_option hygiene false
open Lean in
def mT:="A0rfl A0za2 #4 =203 #5 A0za1 #6 #7 #3 =201 ? #2 =20. X #0 =ǯ0K #1 #9 =ǳ0ń =@1( =s0( #10 #12 =20+ A0hr =@16 Q00 =X0r @2.nd =ǵ02 =20B #8 =I00 =20) A1gU_ A0none A1some =Ð0, =Ǹ0- A0zd5 A1pv =V0( =O0Ż =20% =ȑ1; A0zl8 [3 =Â07 [1 =Ƕ0ń =â1( A1gL_ =Ȏ0- =÷1÷ #11 =ɚ1ɛ [2 - =C0Ŗ =ƺ01 =÷1] !i =W1] =20* =ɞ0; =ǀ0ű =`0' #13 '_law_y =Ð0/ =ɢ1? =÷1C =Ĺ2( =ɤ0Å =O0Ľ =Ɏ0; A1DW.dt =ɪ1ɫ =Ň0) =ƴ1w =î0$ =Ƽ0Ò #14 =ǀ0Ƽ =Ǵ0# =ǻ0# =ơ0ź A2vi6 @5 =>0B =į1ɸ =÷1I =@0+ =s07 =Ĭ0Ż =Ţ1( A1zt6 =ȓ0; =ȏ0# =Ƚ3# =Û1ł =Ƹ1? =a1P =ǅ3, A0hm.tuple A0boot_tuple '_law_x =ɲ0ɳ =x1$ =ů1Ɲ =ȟ0K =ʈ0K =C0Ɖ =ɽ0É A0ye5 =20' =Ĺ26 =o0ʋ @6 =ƈ0á =ʇ0# =ć0H =603 A2vf1 =Ƴ10 =ȇ05 =Ⱦ0E =>2r =ę2Ĝ =ɡ0ź =Ī1R =Ġ0Ġ =ŉ0Ċ A2zf1 =@03 R1 =ƻ0Ç =Ł4^ A2wr7 =Ĭ0{ =208 =ĺ0G =ĳ0Ű =ɿ0^ =[0ġ =Ĭ0Ľ '_law_begin_here =ǲ0- =ʩ05 =ŏ0ƪ =Ĵ0ÿ =ű0Ƅ =ʔ0% =Ŧ3ś [4 [0 =E0Ų =Ų2( =X2] =a0Ċ =ʎ1ʏ Q21 =ǹ0# A2wu5 =Ð02 =ß1( =ƿ0Å =ã4ã =O1À =ƾ06 A0hm.sorted =@01 =ʓ0F A;yy2 =ų1$ =ɣ0ǂ A2ya5 =Ä0ʡ =Ȓ3# =ʪ1( =ʍ0ǂ =é1é =ʒ1Ő =@0. A0zz1 A1yp6 =ğ0ğ =ɒ0$ =î0J '_law_cell '_law_state =ƶ13 A0hm.int A0boot_int =ƴ1ŀ =S0ġ A0hm.dict A0boot_dict =ɠ0# =ţ0ľ =ƶ11 =<13 =ʕ1Ĉ A2zw2 A0wy9 =Ŏ12 =ô0ʠ A1g2_ =Ȟ1ŋ =ʞ1Ŵ =å0Ŭ =ʛ1# '_law_due =ć0x =[0F A0hm.str A0boot_str @4 =Ť0$ =Ǿ0` =ȿ0# =ť0Ƭ A0wu2 [5 .R =ɑ0. A0zv1 !j =Ý0Ý =W1C A1yc5 A0PassesOwn.never A0boot_sorted '_law_place =ɰ0ɱ =X1r =ɻ0# =ɹ0Ǆ A0hm.min A0boot_min A@yt8 !k A1zd4 A2vr5 A2xn7 !N' !ixs =ŧ0Ȱ =ȡ0Ȣ A0yf0 A0xo7 #15 A0va2 =ɯ2Ǆ A2vf2 A2va4 =Ȭ0# =ɓ1( =ȶ0ř =Ȫ0ȫ .list A0hm.list A0boot_list .tuple =ǅ3& '_law_one '_law_other =ɬ05 =ȹ05 =ȼ0# =Ŷ0ų =Ƞ0# A0zg4 =ɺ0# A2wz2 '_law_wide '_law_high '_law_shuts =ȯ0ń @3 =ĳ0ƹ 'j 'x 'i 'y A0yy5 A2yy4 A0cs.WALL =Ý0( Q02 =ʌ0ń A3yy1 A1gT_ =ɷ0n A1zz2 A0yz3 =ʅ1ʆ '_law_j '_law_i Q03 =ç0ç A<xn4 '_law_broad A1xn2 A2zr5 A1xy9 A0xo8 @7 A5xz6 A1yz5 A0hm.any A0boot_any #16 A1yh2 A0xx9 A0xy1 .dict A1ye3 '_law_name '_law_found A0zo8 A1xy0 .str A2yy3 A1xz2 A2vv5 =00ɼ A0vk7 =ɜ2S =ā1$ =Ƀ0Ʉ =ƽ1ƽ =Ư2ɀ A1yz4 A1xz7 R2 =00Ŀ =Ȁ0` =Ȅ1; =ȁ10 =Ƶ2w =ȗ05 =Ƹ1Ȕ A1gA_ =ȕ0# A2zc5 =ƻ0Ė =Û1Æ =ú1É A0wv9 A0zq5 =ɍ0` Q04 =ɏ0ɐ =ī0R A4wh1 A0hm.enumerate A?wg7 !tbl !a0 A0cs.STEPS A8wp8 Q45 A3xv2 A6wo8 A5xn3 A0wd7 A0we3 A7xc4 A0hm.set A;wh2 A0wh0 Q06 A3vs3 A3wp1 A0hm.zip .int A2wp5 .bool A0hm.bool A0boot_bool A1wg8 A1wp0 A0wg9 A7wo9 A0wm3 A0wm7 A0PySem.F.slot_list_insert A0PySem.F.type_list_insert A2vz3 A0yq1 A1xv6 A0xx8 A1wo7 @8 A1za0 A2za3 =Ƴ0ǰ =Ǳ1- !ga A1Or.inl A2wr1 !gb A1za7 =ë0Ƿ Q17 A4gX_ =Ǻ3Ć A5zb9 =Ǽ2# =ǽ1? A4zb1 =ǿ2# R3 A5zb6 =Ȃ3K =ȃ2# A7zd7 =ȅ6# =Ȇ1T A0zd0 =00Ȉ =Ʒ3ȉ A3ws1 =Ȋ0ȋ =Ȍ2- =ȍ1- A1ze2 A4zd1 =Ȑ2# A6ws7 A1zg0 Q18 A2zg9 A6ws8 =Ȗ1T =Ʒ20 A6zh8 =Ș0ș =Ț5- =ț4- =Ȝ3- =ȝ2# A1zf0 A3gP_ Q19 Q3: A3zi6.scope =ȣ2Ə !osc =Ȥ1ȥ A1za4 =Ȧ1ȧ @0 =Ȩ1ȩ !N A3gp_ A2zl7 !g =ȭ0Ȯ @1 A0zi3 A7zi4 =Ŝ1ȱ =Ȳ6ȳ =ȴ4# =ȵ1Ś A7zn7 =ȷ6# =ȸ1T A3ze6 A0hm.range =Ⱥ1Ȼ A6wv1 A2va5 A1Or.inr A0zk1 A4zp5 =Ɂ2# =ɂ1# !n A9zf4 =Ʌ75 =Ɇ4# A0hm.isinstance =ɇ3Ɉ =ɉ2# A8ww1 =ɋ7# =Ɍ5K A1wu9 A1gI_ =Ɋ1# =Ʈ1ư A2vd4 A2vd3 A0PySem.boot_len =č4ɔ A0hm.len =ɕ3ɖ A1zw4 =ɗ2ɘ =ə2# A0zd8 =ý3t A1zy1 =ƿ0ɝ A4gY_ =ɟ3Ć A1gB_ =Ƶ2ŀ =ż1ǁ =ò1Æ A0PySem.F.type_list_append =ǃ4ɥ A0PySem.F.slot_list_append =ɦ3ɧ A0zl5 =ɨ2ɩ A0zj6 A3ye6 A0zx1 A1zt0 =Ė2ɮ =ż1ɭ A0zx0 =[1ō '_law_kind_here A6zx8 =ɴ3T =ɵ25 =ɶ1K A1zx7 A1zs9 A1zs8 A1zn8 A2yp3 =Ņ1É =ƺ03 =Ņ1ɾ A0PySem.F.type_list_extend =ǃ4ʀ A0PySem.F.slot_list_extend =ʁ3ʂ A0zr0 =ʃ2ʄ A0zq9 A1yn6 A1ye4 A2vc8 A1yp2 =ʉ1ʊ !gc =ƹ1ǁ =ż3$ A0vk9 =ƾ4œ =ʐ3Œ =ʑ2ő =Q2G =ƌ1% =ƭ0ē A0boot_all =š3ʖ A0hm.all =ʗ2ʘ A1ya9 =ʙ1ʚ =ì4Í =ʜ3Ì =ʝ2ŵ =ǆ0ǆ '_law_taken =ʟ0( A:ya7 =ʢ7$ =ʣ6ł =ʤ5ł =ʥ4İ =ʦ3Š =ʧ2Ɔ =ʨ1T A2vn3".splitOn " "|>.map String.toList|>.toArray
open Lean in
def mQ(a:Nat->Term):Nat->MacroM Term
  |0=>`(by decide)
  |1=>`(($(a 0), $(a 1)))
  |2=>`(-1)
  |3=>`(by decide +kernel)
  |4=>`(_)
  |5=>`(⟨ $(a 0), $(a 1), $(a 2), $(a 3)⟩)
  |6=>`(by simp)
  |7=>`(λ_ _=> $(a 0))
  |8=>`(show (($(a 0)):List Str).Nodup by decide +kernel)
  |9=>`(λav cl C s H fp=> $(a 0))
  |_=>`(⟨ $(a 0), $(a 1), $(a 2)⟩)
open Lean in
def mA(I:Array Syntax):Nat->Char->List Syntax->Nat->MacroM (List Syntax×Nat)
  |0,_,s,n=>pure (s,n)
  |f+1,c,s,n=>do
   let c:=c.toNat
   let p (k:Nat)(t:Syntax):MacroM (List Syntax×Nat):=pure (t::s.drop k,n)
   let a (k:Nat):Term:=⟨s[k]!⟩
   let N (x:List Char):=mkIdent (String.ofList x).toName
   match mT[if c<127 then c-35 else c-100]! with
   |['=',a,i,b]=>do
    let i:=i.toNat-48
    let (r,n)←mA I f b (s.drop i) n
    mA I f a (s.take i++r) n
   |'A'::k::x=>
    let k:=k.toNat-48
    p k (Syntax.mkApp (N x) ((s.take k).map TSyntax.mk).toArray)
   |'.'::x=>p 0 (mkNode ``Parser.Term.dotIdent #[mkAtom ".",N x])
   |'@'::k::x=>p 0 (mkIdent (I[k.toNat-48]!.getId++(String.ofList (x.drop 1)).toName))
   |'#'::x=>p 0 (Syntax.mkNumLit (String.ofList x))
   |'\''::x=>p 0 (Syntax.mkStrLit (String.ofList x))
   |'!'::x=>p 1 (mkNode ``Parser.Term.namedArgument #[mkAtom "(",N x,mkAtom ":=",s[0]!,mkAtom ")"])
   |['[',k]=>do
    let k:=k.toNat-48
    let x:TSyntaxArray `term:=((s.take k).map TSyntax.mk).toArray
    p k (←`([$x,*]))
   |'?'::_=>do
    let h:=mkIdent (Name.mkSimple s!"q{n}")
    return ((←`(?$h:ident)).raw::s,n+1)
   |'X'::_=>do p 1 (←`(tactic|exact $(a 0)))
   |['R',k]=>do
    let mut t←`(tactic|refine' $(a 0))
    let mut i:=1
    for x in s[0]!.topDown do
     if x.isOfKind ``Parser.Term.syntheticHole then
      let h:Ident:=⟨x[1]⟩
      let y:TSyntax `tactic:=⟨s[i]!⟩
      t←`(tactic|($t:tactic;case $h:ident=>$y:tactic))
      i:=i+1
    p i t
   |['Q',k,j]=>do p (k.toNat-48) (←mQ a (j.toNat-48))
   |_=>Macro.throwUnsupported
local macro_rules
 |`(tactic|exact $s:str $x*)=>do
  let mut r:List Lean.Syntax×Nat:=([],0)
  for c in s.getString.toList.reverse do
   r←mA x 99 c r.1 r.2
  return r.1[0]!
local macro_rules
 |`(command|example($m:ident $s:ident $n:ident $c:ident):$h:str:=$b:str)=>do
  let L(x:String):=do
   let y:=((x.splitOn " ").filter (·≠"")).map λz=>(Lean.Syntax.mkStrLit z:Lean.Term)
   let y:=y.toArray
   `([$y,*])
  let I(x:String):=Lean.mkIdent x.toName
  let w:=h.getString.splitOn "/"
  let c0:=w[0]!.front
  let d:=c0 != 'U'
  let k:=Lean.Syntax.mkNumLit (String.ofList (w[0]!.toList.drop 1))
  let x:=Lean.Syntax.mkStrLit w[1]!
  let u←if d then `(Dr) else `(Unit)
  let e←if c0=='U' then `(cx0 K H) else if c0=='D' then `(cxS (WdS p l) K H) else `(cxS (WdS p l) K (λ_=>none))
  let y←if c0=='L' then `((zc3 $s).drop 1) else `(zc3 $s)
  let mut t←`(∀f cdv A outer s H E,ws5 k (A.deeper (envOfC $x (za4 $s) s.heap.objs.size f cdv))->DSs (wt9 CX0 P w K mg base $n $x (za4 $s) f cdv A outer s H E).nox $e $y B)
  let mut G:Array Lean.Ident:=#[]
  let mut C:Array Lean.Ident:=#[]
  for z in w.drop 4 do
   C:=C.push (I s!"C{C.size}")
   G:=G.push (I s!"G{G.size}")
  for (z,i) in ((w.drop 4).zipIdx).reverse do
   let v:=z.splitOn " "
   let g:=G[i]!
   let y←if z.front=='D' then `(spS (WdS p l) K $g) else `(sp0 K $g)
   let q:=C[i]!
   t←`(∀($q:ident:zc2 P w K mg base k $(Lean.Syntax.mkStrLit (String.ofList (v[0]!.toList.drop 1))) $(←L (" ".intercalate (v.drop 1))) $y),$t)
  t←`(∀(hm:Bn mg) (cs:Cst K mg) k,$t)
  t←if d then `(∀P w K mg base (p l:Addr),$t) else `(∀P w K mg base,$t)
  let p:=if d then #[I "p",I "l"] else #[]
  return Lean.mkNullNode #[←`(command|abbrev $s:ident:Stmt:=top $k),←`(command|abbrev $n:ident:List Str:=$(←L (w[2]!++" "++w[3]!))),←`(command|def $c:ident:zc6 $n $(←L w[2]!) (za4 $s):=by and_intros),
   ←`(command|def $m:ident $[($G)]* :{B:FnS $u//$t}:=by
    refine⟨?B,?h⟩
    case h=>
     intro P w K mg base $p* hm cs k $C* f cdv A outer s H E hr
     exact $b $s $n $c $C*)]
set_option hygiene true
example(yi1 zz6 yw4 xf9):"U2/within/wide high cell/":="]Ñøh,øh&"
example(ye9 zq0 yd0 zn2):"U3/covered/kind place/x y cells i":="ùÒ3Ņi.i+%Ljúûi'CüýþŽžſƀþFG.G'G+ÿû^þŽžſƀĀ&/ā:,Ó%"
example(yd9 zu8 yn7 zk9):"U4/holders/hall stand/held wall n kind cell/Ucovered kind place":=">.ƁvH+Ô.:Ƃƃ#júǇ##ǈƄÕ%'IvM@'k&N)Ô.DNÓ."
example(xm5 yv3 xy3 wc5):"U7/goes/ways direction/":="Ăă,JlĄņ&$ă,JlĄņ&$l,J"
example(zo7 zk7 zv2 zt1):"U8/one_further/place direction/east north":="_0ǉǊþą31ą13ąƅ1ą1ƅ`.Ň+ǋ1##ǌ#?##ww&ĆĀH/āH:"
example(yj2 zz7 yw5 zp7):"U9/met_by/hall stand held n direction/kind met cell holder/Ugoes ways direction/Ucovered kind place/Uone_further place direction/Uwithin wide high cell":=">'xH:ayMćĈ'6%Ö>)Lvmz×ĉO{Ø&:%*|Ǎ5TƆn/b:ǎ####aÙĊAƂƃ#yOÚň6*ÖIŉo}cA:ÛŊ;ÜADp))ACÓ)"
example(zh9 zf7 zm4 zt7):"U11/without_trolleys/hall/":="]EňÝU("
example(zm7 zj2 zt4 zd2):"U12/places_alone/hall kind place/alone walls known waiting at direction further/Uholders hall stand/Uwithout_trolleys hall/Uone_further place direction/Umet_by hall stand held n direction":="ċ+EňÝUÞ%Mßm61U('Ǐn/P)V6._àƇŋ--cDL~0ǐ`*q?#wK)d7B~r4O{<*BWo}ƈǑ5Tn24×áǒǓČÚâ6*@%s6BÖj0Ɖ'24Pp))24č'Ɗ#ƋĎŌ"
example(zw9 zs1 yg6 zo3):"U14/reach_of/hall stand n/kind cells place/Uplaces_alone hall kind place/Ucovered kind place":="ã+xH/%L_vMďÀk&/'Cüm<+'ǔ5;#Ď#ǕN"
example(zn1 zg7 zm8 zl2):"U18/_law_covered/_law_kind_here _law_place/_law_found _law_i":=">.Lúûi+Cƌ..ýQƍƎōĐG+3ÿû^QƍƎōĀh&āh,CÓ."
example(zn0 zj3 zt5 zp9):"U19/_law_room_of/_law_wide _law_high _law_kind_here/_law_across _law_up":="_0đ`+Ň%#?##=##äĒē,hĒē&h#ǖ5nĔŎ:NĔ:ĔNĔ$Ǘ##ǘ==ƏhĆ"
example(zr8 zm0 zy4 zu7):"D20/_law_sized/_law_state _law_broad/_law_way/D_law_take _law_state _law_many":="ŏaå&ĕ.RĂă/$ĕă/$ĕĕ"
example(zu3 zo5 yd1 zd3):"D21/_law_kind/_law_state _law_wide _law_high _law_broad/_law_sizes _law_across _law_up _law_ways _law_great/D_law_take _law_state _law_many":=">%VssssÁ0đeq#?##=##äĖz&ėæNŐőŒœĖz/ėæNŐőŒœ#>*æVƐç(Wå:>*æVƐç(èbJđeq#?##=##äĘ&R$#IèbJđeq#?##=##ä$Ę/R#|RèA$Ŕeqŕ*#?###===###ę$Ę/ÂÃĚě7éJĜ#XèA$Ŕeqŕ*#?###===###ęĘ&ÂÃĚê7$éJĜ#èA$Ŕeqŕ*#?###===###ęĚê7Ěě7éJĜ#IëŖ-ëÄ-àz--×àz--D0zbėæĝĞĞğŗŘ5$("
example(zu4 zh3 zl4 zc1):"D22/_law_hall/_law_state _law_broad _law_much/_law_wide _law_high _law_cells _law_shuts _law_taken _law_kinds _law_places _law_rooms _law_turn _law_kind_here _law_place _law_own _law_room_here _law_cell/D_law_sized _law_state _law_broad/U_law_covered _law_kind_here _law_place/D_law_take _law_state _law_many/D_law_kind _law_state _law_wide _law_high _law_broad/U_law_room_of _law_wide _law_high _law_kind_here":="ùÂÞÕ+%'mâÀ@%Ġ7UÁX0Ƒ`)řQġĢƒŚĐG13S'ś#?##t'Ŝ^QġĢƒƓáÅÆģ{kVÁì6.ŝŞĤĥ$,#Ħ*ÇíħSF))ħEďîP(Ɣ#ƕ;ƖĨĩãBL4L>8$dėĪĝīï77ìÞŝŞĤĥYċ9ĬÚÀĭ%fÄßïĮ:9ĉïĮN9um<9fşČƗ<%9IWoįÈİZB$}ÈŠıðş/yšíĲñ*uuĲĳƘ5Tn,&ƙ#ƚƛ>8ıðş0pBB29~0p442fĴSutuÉƜÔ*2ƜP]EâÀ@%Ţĵ6)Ãĵ6BÃĵ64"
example(zp0 zk8 zv3 yf2):"U23/_law_behind/_law_place _law_direction/":="IëŖ-ëÄ-àţ--ŤHĪĝĞŗŘ5$7&0ţŤHĪĝĞğŗŘ5$(&("
example(zu5 zo6 yd2 ym8):"U24/_law_goes/_law_kind_here _law_direction/":="]Ǚ5lHJƝlHxVç(Ąņ&"
noncomputable abbrev zj0:Stmt:=top 25
noncomputable abbrev zo8:List Str:=["_law_found","_law_due"]
def ym7:zc6 zo8 ["_law_found","_law_due"] (za4 zj0):=by and_intros
noncomputable def zu1(D0):{ B:FnS Unit // ∀P w K mg base (hm:Bn mg) (cs:Cst K mg) k (B8:zc2 P w K mg base k "_law_same" ["_law_found","_law_due"] (sp0 K D0)) f cdv A outer s H E,ws5 k (A.deeper (envOfC "_law_same" (za4 zj0) s.heap.objs.size f cdv))->
 DSs (wt9 CX0 P w K mg base zo8 "_law_same" (za4 zj0) f cdv A outer s H E).nox (cx0 K H) (zc3 zj0) B }:=by
 refine⟨?B,λP w K mg base hm cs k B8 f cdv A outer s H E hr=>?h⟩;case h=>exact"XaÛƞƟ&ÖòƞƟ,ÖWĶƠĨĩ_ÊÙơåËƠĨĩcZ1Z3ķťŦQƢƣĸĐG13S3ŧƤt3^QƢƣĸÑòƥ;Ü,&MĹ&,k/,ĂWÙĶŨũŪĶūÌÍĂÊcËŨũŪŬŨũŪÊÙcËūÌÍŬūÌÍcZ1Z3ķťŦ[ŭŮĺF[13ŧƤǚ#ǛäÒ1Ò3ó[ŭŮ[ŭŮMĭ1aĶƦĻļÑËƦĻļl,&ůËǜĤĥÑǝ5ËǞǟǠl,&" zj0 k zj0 B8
example(zu2 zh2 zl3 zc9):"D26/_law_room/_law_state _law_wide _law_high _law_much/_law_cells _law_shuts _law_taken _law_rows _law_rooms _law_turn _law_kind_here _law_place _law_own _law_room_here _law_cell/U_law_covered _law_kind_here _law_place/D_law_take _law_state _law_many/D_law_kind _law_state _law_wide _law_high _law_broad/U_law_room_of _law_wide _law_high _law_kind_here":=">%MâêěĠ7UÁ0ƑeřôĢŚñ1S%ś#?##t%Ŝ^ôĢƓáÅÆģĽ7$,#ŏĦ)ÇíħSF''ħEďîP(Ɣ#ƕ;ƖĨĩ*L|$dīõ7(4ċ8ïêěîP(YÄßõĮ&8ĉõĮ/89M<8YfOÚê<.8IWoįÈİZ*$}ÈŠıAf:yšíĲñ)99ĲĳƘ5Tn,&ƙ#ƚƛ|ıAf0p**E<8YIĴS9t9ÉuÔ)2uPCǡǢƧƨK'ƧƨK*ǣ"
example(zr7 ze7 zh6 zc0):"D27/_law_split/_law_state _law_much/_law_many _law_high _law_shuts _law_rows _law_begin_here _law_turn _law_wide _law_own _law_more _law_kind_here _law_place _law_kinds/D_law_take _law_state _law_many/D_law_room _law_state _law_wide _law_high _law_much":="ċ.ľÇƩŰÅÆR$(ŝŞĤĥ+ľR%L'LXĦ)$d6.*|ľÂkVÁē/$ƪõ@Bĭ+Õ48XWÈƫb$j0üý[göñ)ÿű6+^[göE<31Ŀ)ŀĒD0üƬQÎgöĐF)44óQÎgöQÎgöĀ/,ÞjĴS8t8ÕY9CǤeǥǦǧǨK'ßÂƭZ'U@YUŲDĈ9ćĈ9(Ŀ)ŀųDA_rfÇŁÏĺF''óÏÏ,ŴŵÌÍÄǩE@)ÀŢĵÃč%Ǫǫ#ĎŌ6fĉÇŁÏĺF''óÏÏ&ŴŵÌÍ"
example(zk2 zh0 zp4 zw8):"D28/_law_some_hall/_law_state _law_much//D_law_take _law_state _law_many/D_law_split _law_state _law_much/D_law_hall _law_state _law_broad _law_much":="_aáƫłR$õÞïƩŰÅÆR$ŶŎ&$("
example(zk3 zf2 zj9 zb8):"U29/_law_places_of/_law_hall_here _law_stand _law_number/_law_wide _law_high _law_shuts _law_kinds _law_found _law_at _law_direction _law_place _law_cells _law_fine/U_law_behind _law_place _law_direction/U_law_covered _law_kind_here _law_place/U_law_goes _law_kind_here _law_direction":="ùÒ1Ʈ%Ưi+i%ưi'É)*Vk&/|$àƇŋ--ÈİAZ*jd74ã8MØbA4YmØD/8~r9ķŁŃÎgŷŸŹŃFFG+G%G'YYóŃÎgŷŸŹŃÎgŷŸŹůø,/Ñø&:òŊ;ÜEĭ1NŉoįźO{ØD/4}å29ÛŊ;Üðbp**ðĿBwĒACÓ*"
example(zr9 zm1 zy5 zk6):"U30/_law_reach/_law_hall_here _law_stand _law_number/_law_cells _law_place _law_cell/U_law_places_of _law_hall_here _law_stand _law_number/U_law_covered _law_kind_here _law_place":=">+ƁvMď<3.%IvmØH/%'Ô+×P]č+Ɗ#ƋĎŌ"
example(vh1 wv7 wx5 zp8):"L31/law/_law_script/_law_state _law_turn _law_hall_here _law_stand _law_before _law_number _law_due _law_again _law_found _law_own/D_law_take _law_state _law_many/D_law_some_hall _law_state _law_much/U_law_reach _law_hall_here _law_stand _law_number/Ureach_of hall stand n/U_law_same _law_found _law_due/U_law_covered _law_kind_here _law_place":="_dīģŻ7(.ùģĽŶĄǬ$(Õ+%'ìU<+%Ʊ;Ʋ#Ļļ~dÃZ%)XĦ*Č{<%)d7B>4ČÚ<%)ÊyOƗ<4*j0ǭK4p44EÁ~r8OǮĹÐ:DkNDÊÙyķíôĸñ*88ôĸòƥ;Ü,&o}ĊÐxÐ:DJcbðÊcìU<+%Ʊ;Ʋ#Ļļ×P"
section
variable{P:Program}{w:World}{K:PySem.W.Frag}{mg:Str->Option Value}{base:Heap}
open H in
def wl8(F:Fun K "law" "law" wv7 f fd){k:Nat}(CB:zc2 P w K mg base k "_law_begin" ["_law_script"] (yr6 K))(hb:∀(p l:Addr) (cdv:Value) (A:Around) (outer:List Env) (s:Shared) (H:Hp) (E:XK),ws5 k (A.deeper (envOfC "law" (za4 wv7) s.heap.objs.size f cdv))->DSs (wt9 CX0 P w K mg base wx5 "law" (za4 wv7) f cdv A outer s H E).nox (cxS (WdS p l) K (λ_=>none)) ((zc3 wv7).drop 1) B)(hB:∀ns:List Int,ns.length<=63->wpR (B (rhoL wx5.length) (zo9 ns,0)) (λfl _=>fl=.rt (.bl true)) λ_ _=>False):wy0 P w K mg base CX0 (k+1) f fd ["_law_script"] (spLaw K):=by
 refine F.ok zp8 (λvs H Q E h=>?_) (λcdv A outer s H vs Q E hr h=>?_)
 ·obtain⟨a,ns,rfl,_⟩:=h;rfl
 ·obtain⟨a,ns,rfl,hS,h63,q⟩:=h
  obtain⟨fa,fd',m1,m2,m3,m4⟩:=CB.ex;refine⟨_,zh1 (zt3 (i:=1) zp8.nd rfl (Or.inl rfl) (ys5 (E:=E0) m4 hr (by rfl) m1 m2 m3 .nil vg5 (zi2 (pv 0) zp2))) (wc8 (K:=K) λp l=>hb p l cdv A outer s H E hr),?_⟩;refine⟨.ref a,rfl,a,ns,rfl,hS,h63,λp l H' sm hp hl h1 h2=>?_⟩;have cl:(zo9 ns).length<=63/\zo9 ns≠[]:=by
   unfold zo9;split
   ·exact⟨by decide,by simp⟩
   ·rename_i hne;exact⟨h63,hne⟩
  refine⟨p,l,rhoL wx5.length,(zo9 ns,0),vp7 (m:=wx5.length-2),⟨h1,h2,cl.2,cl.1,Int.le_refl 0⟩,?_⟩;refine za6 (hB ns h63) (λfl st' e=>?_) λx st' e=>e.elim
  subst e;intro v H2 _ _ z;rw[Is.bl_iff.mp z];exact q H2
end
section
variable{S:Type}{E:Exn->S->Prop}{Q:Fl->S->Prop}{B:FnS S}
def xd9{g:FnG}(I:Nat->Rho->S->Prop){l:List D}{ρ:Rho}{st:S}(n:Nat)(h0:I n ρ st)(hs:∀i d ρ st,l[i]?=some d->I (n+i) ρ st->∀P:Fl->S->Prop,(∀ρ2 st',I (n+i+1) ρ2 st'->P (.nx ρ2) st')->(∀d st',Q (.rt d) st'->P (.rt d) st')->∃ρ1,g d ρ=some ρ1/\wpR (B ρ1 st) P E)(he:∀ρ st,I (n+l.length) ρ st->Q (.nx ρ) st):wpR (va6 S g B l ρ st) Q E:=
 yr2 I n h0 (λi d ρ st h h'=>hs i d ρ st h h' _ (λ_ _ z=>z) λ_ _ z=>z) he
def zf5{g:FnG}(I:Nat->Rho->S->Prop){l:List D}{ρ:Rho}{st:S}(n:Nat)(h0:I n ρ st)(hs:∀i d ρ st,l[i]?=some d->I (n+i) ρ st->∀P:Fl->S->Prop,(∀ρ2 st',I (n+i+1) ρ2 st'->P (.nx ρ2) st')->∃ρ1,g d ρ=some ρ1/\wpR (B ρ1 st) P E)(he:∀ρ st,I (n+l.length) ρ st->Q (.nx ρ) st):wpR (va6 S g B l ρ st) Q E:=
 yr2 I n h0 (λi d ρ st h h'=>hs i d ρ st h h' _ λ_ _ z=>z) he
def zm6{F G:FnS S}{ρ:Rho}{st:S}(I:Rho->S->Prop)(h1:∀P:Fl->S->Prop,(∀ρ1 st1,I ρ1 st1->P (.nx ρ1) st1)->wpR (F ρ st) P E)(h2:∀ρ1 st1,I ρ1 st1->wpR (G ρ1 st1) Q E):wpR (vi1 S F G ρ st) Q E:=
 wi9 I (h1 _ λρ1 st1 h=>⟨ρ1,rfl,h⟩) h2
def yl6{t:FnT S}{ρ:Rho}{st:S}(I:Rho->S->Prop)(μ:Rho->S->Nat)(h0:I ρ st)(hs:∀ρ st,I ρ st->∀(P:Fl->S->Prop) (Z:S->Prop),(∀ρ2 st2,I ρ2 st2->μ ρ2 st2<μ ρ st->P (.nx ρ2) st2)->(∀d st',Q (.rt d) st'->P (.rt d) st')->(∀st1,Q (.nx ρ) st1->Z st1)->wpR (t ρ st) (λb st1=>if b=true then wpR (B ρ st1) P E else Z st1) E):wpR (yf9 S t B ρ st) Q E:=
 xd1 I μ h0 λρ st h=>hs ρ st h _ (λst1=>Q (.nx ρ) st1) (λ_ _ a b=>⟨a,b⟩) (λ_ _ z=>z) λ_ z=>z
end
def zn3{i j:Int}(h:va9 i j):vd9 (.int i) (.int j)=some (.int (i*j)):=by
 unfold vd9;rw[xm2 h];rfl
noncomputable abbrev wq8:=Int×Int
noncomputable def wq7(p:wq8):D:=.tup [.int p.1,.int p.2]
def zb0(p:wq8):(wq7 p).imm=true:=by simp[wq7,D.imm,D.immL]
def wh6(p:wq8):(wq7 p).lw=true:=wm9 (by simp[D.lwL,D.lw]) (by simp)
def yl1(p:wq8):(wq7 p).dep<=1:=by simp[wq7,D.dep,D.depL]
noncomputable def wx1(h:Int)(p:wq8)(i:Nat):List wq8:=(List.range h.toNat).map λ(j:Nat)=>(p.1+(i:Int),p.2+(j:Int))
noncomputable def cov(w h:Int)(p:wq8):List wq8:=(List.range w.toNat).flatMap (wx1 h p)
def zk0{w h:Int}:q∈cov w h p↔p.1<=q.1/\q.1<p.1+w/\p.2<=q.2/\q.2<p.2+h:=by
 unfold cov wx1;simp only[List.mem_flatMap,Bv0,Au0];constructor
 ·rintro ⟨i,hi,j,hj,rfl⟩
  refine⟨?_,?_,?_,?_⟩<;>simp<;>omega
 ·rintro ⟨h1,h2,h3,h4⟩
  refine⟨(q.1-p.1).toNat,by omega,(q.2-p.2).toNat,by omega,?_⟩;refine Prod.ext ?_ ?_<;>simp<;>omega
def zs7{w h:Int}:(cov w h p).length=w.toNat*h.toNat:=by
 unfold cov wx1;rw[List.length_flatMap];simp only[Aa0,Cj0,List.map_const',List.sum_replicate_nat]
noncomputable def kd(w h:Int)(ways:Str)(s:Int):D:=.tup [.int w,.int h,.str ways,.int s]
def wn6{w h:Int}{ways:Str}{s:Int}:(kd w h ways s).imm=true:=by simp[kd,D.imm,D.immL]
def at0:atI [a,b,c,d] 0=some a:=rfl
def at1:atI [a,b,c,d] 1=some b:=rfl
def at2:atI [a,b,c,d] 2=some c:=rfl
def at3:atI [a,b,c,d] 3=some d:=rfl
def pt0:atI [a,b] 0=some a:=rfl
def pt1:atI [a,b] 1=some b:=rfl
noncomputable def zi5:List D->Res Unit D:=dfn 4 2 zn1.1
def yc9(h1:D.immL m=true)(h2:l.length+m.length<=1000):vq7 l (.lst m)=some (l++m):=by
 show (if D.immL m=true/\l.length+m.length<=sizeLine then some (l++m) else none)=_;rw[if_pos ⟨h1,zf6 h2⟩]
def zn6{a b c d:Nat}(h1:a<=c)(h2:b<=d):a*b<=c*d:=Nat.mul_le_mul h1 h2
def zi9{w h:Int}{ways:Str}{s:Int}(hw:w<=30)(hh:h<=30)(h0:0<=w)(h1:0<=h)(hq:Q (.lst ((cov w h p).map wq7)) ()):wpR (zi5 [kd w h ways s,wq7 p]) Q E:=by
 refine zk4 rfl (by decide) ?_;unfold zn1;dsimp only;simp?! [zb5,wx4,kd,oIx,at0,at1];rw[ze1 (by omega) h0];refine zf5 (λi ρ st'=>∃x,ρ=[.bor (kd w h ways s),.bor (wq7 p),.own (.lst (((List.range i).flatMap (wx1 h p)).map wq7)),x]) 0 ⟨_,rfl⟩ (λi d ρ st' hd hI P pn=>?_) λρ st' hI=>?_
 ·obtain⟨x,e⟩:=hI
  obtain⟨rfl,hi⟩:=ze0 hd;subst e;have him:∀i:Nat,D.immL (((List.range i).flatMap (wx1 h p)).map wq7)=true:=λi=>za8 zb0 _
  refine⟨_,rfl,?_⟩;simp?! [zb5,wr8,him,kd,oIx,at0,at1];rw[ze1 (by omega) h1];refine zd9 (λd=>match d with | .int j=>wq7 (p.1+(i:Int),p.2+j) | _=>.non) (λρ=>∃x,ρ=[x,.bor (.int (0+(i:Int))),.bor (wq7 p)]) ⟨_,rfl⟩ (λd hd ρ hI121=>?_) (zf6 (by rw[ze3];omega)) ?_
  ·obtain⟨x,e⟩:=hI121
   subst e;obtain⟨j,hj⟩:=List.getElem?_of_mem hd;obtain⟨rfl,hj'⟩:=ze0 hj;refine⟨_,rfl,⟨_,rfl⟩,⟨rfl,rfl⟩,?_⟩;simp?! [zb5,wq7,oIx,pt0,pt1,ws0,ws9,wt2];simp
  ·have e:(zl1 0 h.toNat).map (λd=>match d with | .int j=>wq7 (p.1+(i:Int),p.2+j) | _=>D.non)=(wx1 h p i).map wq7:=by
    unfold zl1 wx1;rw[Bm0,Bm0];refine List.map_congr_left λj _=>?_
    simp[wq7]
   rw[e];refine⟨_,yc9 (za8 zb0 _) ?_,pn _ _ ⟨.bor (.int (0+(i:Int))),?_⟩⟩
   ·rw[Aa0,Aa0,List.length_flatMap]
    unfold wx1;simp only[Aa0,Cj0,List.map_const',List.sum_replicate_nat];have:i*h.toNat<=29*30:=zn6 (by omega) (by omega);omega
   ·rw[List.range_succ,List.flatMap_append,Bb0]
    simp[kd]
 ·obtain⟨x,e⟩:=hI
  subst e;rw[ze3,Al0];have him:∀i:Nat,D.immL (((List.range i).flatMap (wx1 h p)).map wq7)=true:=λi=>za8 zb0 _
  simp?! [zb5,him];exact hq
noncomputable def vb7:List D->Res Unit D:=dfn 5 3 zn0.1
noncomputable def zt2(A4 high w h:Int)(ways:Str):Int:=if ways = "any" then (A4-w+1)*(high-h+1) else if ways = "row" then A4-w+1 else if ways = "column" then high-h+1 else 1
noncomputable def wx9(x:Str):Prop:=x = "any"\/x = "row"\/x = "column"\/x = "none"
def xd2{A4 high w h:Int}{ways:Str}{s:Int}(h1:0<=A4-w)(h2:A4-w<=100)(h3:0<=high-h)(h4:high-h<=100)(hw:wx9 ways)(hq:Q (.int (zt2 A4 high w h ways)) ()):wpR (vb7 [.int A4,.int high,kd w h ways s]) Q E:=by
 refine zk4 rfl (by decide) ?_;unfold zn0;dsimp only;have cm:va9 (A4-w+1) (high-h+1):=.inl ⟨by omega,by omega⟩;simp?! [zb5,kd,oIx,at0,at1,at2,ws9,ws0,vm0,zn3 cm];have pk:va1 ways ["any","row","column","none"] [D.int ((A4-w+1)*(high-h+1)),D.int (A4-w+1),D.int (high-h+1),D.int 1]=some (.int (zt2 A4 high w h ways)):=by
  rcases hw with e | e | e | e<;>subst e<;>rfl
 rw[pk];exact⟨.inl imm_int,hq⟩
noncomputable def xf7:List D->Dr->Res Dr D:=vb2 3 2 (zr8 wt0).1
theorem xq4{B9:Bool}{st:Dr}{Q:D->Dr->Prop}{E:Exn->Dr->Prop}(hs:st.2<2 ^ 39)(h:∀(w h:Int) st',1<=w->w<=9->1<=h->h<=9->(B9=true->5<=w/\4<=h)->st'.2<=st.2+3->Q (.tup [.int w,.int h]) st'):wpR (xf7 [.bl B9] st) Q E:=by
 refine zw5 rfl (by decide) ?_;unfold zr8;dsimp only;simp?! [zb5];cases B9 with
 | true=>
   simp?! [zb5];refine zc4 (by decide) (by decide) (by omega) λv1 st1 a1 b1 c1=>?_
   simp?! [ws0,ws9,zb5];refine zc4 (by decide) (by decide) (by omega) λv2 st2 a2 b2 c2=>?_
   simp?! [ws0,ws9,zb5,wt2];exact h _ _ _ (by omega) (by omega) (by omega) (by omega) (λ_=>⟨by omega,by omega⟩) (by omega)
 | false=>
   simp?! [zb5];refine zc4 (by decide) (by decide) (by omega) λv1 st1 a1 b1 c1=>?_
   simp?! [oEq,D.dep,D.eqq,Am0,Aw0,zb5];split
   ·refine zc4 (by decide) (by decide) (by omega) λv2 st2 a2 b2 c2=>?_
    simp?! [ws0,ws9,zb5];refine zc4 (by decide) (by decide) (by omega) λv3 st3 a3 b3 c3=>?_
    simp?! [ws0,ws9,zb5,wt2];exact h _ _ _ (by omega) (by omega) (by omega) (by omega) (λe=>by cases e) (by omega)
   ·split
    ·refine zc4 (by decide) (by decide) (by omega) λv2 st2 a2 b2 c2=>?_
     simp?! [ws0,ws9,zb5];refine zc4 (by decide) (by decide) (by omega) λv3 st3 a3 b3 c3=>?_
     simp?! [ws0,ws9,zb5,wt2];exact h _ _ _ (by omega) (by omega) (by omega) (by omega) (λe=>by cases e) (by omega)
    ·refine zc4 (by decide) (by decide) (by omega) λv2 st2 a2 b2 c2=>?_
     simp?! [ws0,ws9,zb5];refine zc4 (by decide) (by decide) (by omega) λv3 st3 a3 b3 c3=>?_
     simp?! [ws0,ws9,zb5,wt2];exact h _ _ _ (by omega) (by omega) (by omega) (by omega) (λe=>by cases e) (by omega)
def yf8{v:Int}(h0:0<=v)(h1:v<6):∃s:Int,oIx (.lst [.int 1,.int 1,.int 1,.int 2,.int 2,.int 3]) (.int v)=some (.int s)/\1<=s/\s<=3:=by
 obtain⟨d,hd,e⟩:=yx0 (l:=[.int 1,.int 1,.int 1,.int 2,.int 2,.int 3]) (by simp[D.immL,D.imm]) h0 (by simpa using h1);rw[e];simp only[Aj0,Bj0,or_false] at hd;rcases hd with r | r | r | r | r | r<;>subst r<;>exact⟨_,rfl,by decide,by decide⟩
def xa4{v:Int}(h0:0<=v)(h1:v<6):∃s:Str,oIx (.lst [.str "any",.str "any",.str "row",.str "column",.str "row",.str "none"]) (.int v)=some (.str s)/\wx9 s:=by
 obtain⟨d,hd,e⟩:=yx0 (l:=[.str "any",.str "any",.str "row",.str "column",.str "row",.str "none"]) (by simp[D.immL,D.imm]) h0 (by simpa using h1);rw[e];simp only[Aj0,Bj0,or_false] at hd;rcases hd with r | r | r | r | r | r<;>subst r<;>exact⟨_,rfl,by simp[wx9]⟩
def xa3{v:Int}(h0:0<=v)(h1:v<6):∃s:Str,oIx (.lst [.str "row",.str "column",.str "row",.str "column",.str "any",.str "none"]) (.int v)=some (.str s)/\wx9 s:=by
 obtain⟨d,hd,e⟩:=yx0 (l:=[.str "row",.str "column",.str "row",.str "column",.str "any",.str "none"]) (by simp[D.immL,D.imm]) h0 (by simpa using h1);rw[e];simp only[Aj0,Bj0,or_false] at hd;rcases hd with r | r | r | r | r | r<;>subst r<;>exact⟨_,rfl,by simp[wx9]⟩
def yr5{v:Int}(h0:0<=v)(h1:v<6):∃s:Int,oIx (.lst [.int 0,.int 0,.int 1,.int 1,.int 1,.int (-1)]) (.int v)=some (.int s)/\(s=0\/s=1\/s=-1):=by
 obtain⟨d,hd,e⟩:=yx0 (l:=[.int 0,.int 0,.int 1,.int 1,.int 1,.int (-1)]) (by simp[D.immL,D.imm]) h0 (by simpa using h1);rw[e];simp only[Aj0,Bj0,or_false] at hd;rcases hd with r | r | r | r | r | r<;>subst r<;>exact⟨_,rfl,by decide⟩
def vb8(h1:a.imm=true)(h2:b.imm=true)(h3:c.imm=true)(h4:d.imm=true):wx3 [a,b,c,d]=some (.tup [a,b,c,d]):=yj1 (by simp[D.immL,h1,h2,h3,h4]) (by simp)
noncomputable def vc2:List D->Dr->Res Dr D:=vb2 9 4 (zu3 wt0).1
noncomputable def vb1(a b:Int):Int:=if b<a then b else a
def yn9{a b:Int}:xj5 (λi j=>if j<i then j else i) [.int a,.int b]=some (.int (vb1 a b)):=rfl
def zx4{a b:Int}:vb1 a b<=a/\vb1 a b<=b/\(vb1 a b=a\/vb1 a b=b):=by unfold vb1;split<;>omega
def xd7{A4 high:Int}{B9:Bool}{st:Dr}{Q:D->Dr->Prop}{E:Exn->Dr->Prop}(hs:st.2<2 ^ 39)(h1:1<=A4)(h2:A4<=9)(h3:1<=high)(h4:high<=9)(hb:B9=true->5<=A4/\4<=high)(h:∀(a u:Int) (ways:Str) (s:Int) st',1<=a->a<=A4->1<=u->u<=high->wx9 ways->(s=0\/s=1\/s=-1)->st'.2<=st.2+11->Q (kd a u ways s) st'):wpR (vc2 [.int A4,.int high,.bl B9] st) Q E:=by
 refine zw5 rfl (by decide) ?_;unfold zu3;dsimp only;simp_all!;simp! [zt8];simp_all!;simp!;refine zc4 (by decide) (by decide) (by omega) λv1 st1 a1 b1 c1=>?_
 obtain⟨s1,e1,l1,u1⟩:=yf8 a1 b1;simp! [e1,yn9];refine zc4 (by decide) (by decide) (by omega) λv2 st2 a2 b2 c2=>?_
 obtain⟨s2,e2,l2,u2⟩:=yf8 a2 b2;simp! [e2,yn9];simp_all!;simp! [zt8];refine zc4 (by decide) (by decide) (by omega) λv3 st3 a3 b3 c3=>?_
 obtain⟨x1,e3,w1⟩:=xa4 a3 b3;simp! [e3];have m1:=zx4 (a:=A4) (b:=s1);have m2:=zx4 (a:=high) (b:=s2);generalize vb1 A4 s1=A1 at m1;generalize vb1 high s2=A2 at m2;refine zm6 (λρ st'=>∃(a u:Int) (x:Str) (y:Sl),ρ=[Sl.hnd,.bor (.int A4),.bor (.int high),.bor (.bl B9),.own (.lst [.int 1,.int 1,.int 1,.int 2,.int 2,.int 3]),.bor (.int a),.bor (.int u),.bor (.str x),y]/\1<=a/\a<=A4/\1<=u/\u<=high/\wx9 x/\st'.2<=st.2+6) ?_ ?_
 ·intro P1 pn1
  simp!;cases B9 with
  | false=>
    simp!;exact pn1 _ _ ⟨A1,A2,x1,_,rfl,by omega,by omega,by omega,by omega,w1,by omega⟩
  | true=>
    obtain⟨k1,k2⟩:=hb rfl;rw[if_pos rfl,zb5];simp! [zt8];refine zc4 (by decide) (by decide) (by omega) λv4 st4 a4 b4 c4=>?_
    obtain⟨x2,e4,w2⟩:=xa3 a4 b4;simp! [e4];refine zm6 (λρ st'=>∃(a u:Int) (y:Sl),ρ=[Sl.hnd,.bor (.int A4),.bor (.int high),.bor (.bl true),.own (.lst [.int 1,.int 1,.int 1,.int 2,.int 2,.int 3]),.bor (.int a),.bor (.int u),.bor (.str x2),y]/\1<=a/\a<=A4/\1<=u/\u<=high/\st'.2<=st4.2+1) ?_ ?_
    ·intro P2 pn2
     simp! [oEq,D.dep,D.eqq,Am0,Aw0];split
     ·refine zc4 (by decide) (by decide) (by omega) λv5 st5 a5 b5 c5=>?_
      simp! [ws9];exact pn2 _ _ ⟨_,_,_,rfl,by omega,by omega,by omega,by omega,by omega⟩
     ·exact pn2 _ _ ⟨A1,A2,_,rfl,by omega,by omega,by omega,by omega,by omega⟩
    ·rintro ρ1 st5 ⟨a,u,y,rfl,g1,g2,g3,g4,g5⟩
     simp! [oEq,D.dep,D.eqq,Am0,Aw0];split
     ·refine zc4 (by decide) (by decide) (by omega) λv5 st6 a5 b5 c5=>?_
      simp! [ws9];exact pn1 _ _ ⟨_,_,_,_,rfl,by omega,by omega,by omega,by omega,w2,by omega⟩
     ·exact pn1 _ _ ⟨a,u,_,_,rfl,by omega,by omega,by omega,by omega,w2,by omega⟩
 ·rintro ρ1 st4 ⟨a,u,x,y,rfl,g1,g2,g3,g4,g5,g6⟩
  simp_all!;simp!;refine zc4 (by decide) (by decide) (by omega) λv4 st5 a4 b4 c4=>?_
  simp!;refine zm6 (λρ st'=>∃(a u:Int) (x:Str),ρ=[Sl.hnd,.bor (.int A4),.bor (.int high),.bor (.bl B9),.own (.lst [.int 1,.int 1,.int 1,.int 2,.int 2,.int 3]),.bor (.int a),.bor (.int u),.bor (.str x),.bor (.int v4)]/\1<=a/\a<=A4/\1<=u/\u<=high/\wx9 x/\st'.2<=st5.2+1) ?_ ?_
  ·intro P3 pn3
   simp! [oEq,D.dep,D.eqq,Am0,Aw0];split
   ·have m3:=zx4 (a:=high) (b:=3)
    simp! [yn9];generalize vb1 high 3=B at m3;refine zc4 (by omega) (by omega) (by omega) λv5 st6 a5 b5 c5=>?_
    simp! [ws9];exact pn3 _ _ ⟨_,_,_,rfl,by omega,by omega,by omega,by omega,by simp[wx9],by omega⟩
   ·exact pn3 _ _ ⟨a,u,x,rfl,by omega,by omega,by omega,by omega,g5,by omega⟩
  ·rintro ρ1 st6 ⟨a,u,x,rfl,g1,g2,g3,g4,g5,g7⟩
   refine zm6 (λρ st'=>∃(a u:Int) (x:Str),ρ=[Sl.hnd,.bor (.int A4),.bor (.int high),.bor (.bl B9),.own (.lst [.int 1,.int 1,.int 1,.int 2,.int 2,.int 3]),.bor (.int a),.bor (.int u),.bor (.str x),.bor (.int v4)]/\1<=a/\a<=A4/\1<=u/\u<=high/\wx9 x/\st'.2<=st6.2+1) ?_ ?_
   ·intro P4 pn4
    simp! [oEq,D.dep,D.eqq,Am0,Aw0];split
    ·have m3:=zx4 (a:=A4) (b:=3)
     simp! [yn9];generalize vb1 A4 3=B at m3;refine zc4 (by omega) (by omega) (by omega) λv5 st7 a5 b5 c5=>?_
     simp! [ws9];exact pn4 _ _ ⟨_,_,_,rfl,by omega,by omega,by omega,by omega,by simp[wx9],by omega⟩
    ·exact pn4 _ _ ⟨a,u,x,rfl,by omega,by omega,by omega,by omega,g5,by omega⟩
   ·rintro ρ1 st7 ⟨a,u,x,rfl,g1,g2,g3,g4,g5,g8⟩
    refine zm6 (λρ st'=>∃(a u:Int) (x:Str),ρ=[Sl.hnd,.bor (.int A4),.bor (.int high),.bor (.bl B9),.own (.lst [.int 1,.int 1,.int 1,.int 2,.int 2,.int 3]),.bor (.int a),.bor (.int u),.bor (.str x),.bor (.int v4)]/\1<=a/\a<=A4/\1<=u/\u<=high/\wx9 x/\st'.2<=st7.2) ?_ ?_
    ·intro P5 pn5
     simp! [oEq,D.dep,D.eqq,Am0,Aw0];split
     ·have m3:=zx4 (a:=A4) (b:=4)
      have m4:=zx4 (a:=high) (b:=4);simp! [yn9];generalize vb1 A4 4=B at m3;generalize vb1 high 4=B' at m4;exact pn5 _ _ ⟨_,_,_,rfl,by omega,by omega,by omega,by omega,by simp[wx9],by omega⟩
     ·exact pn5 _ _ ⟨a,u,x,rfl,by omega,by omega,by omega,by omega,g5,by omega⟩
    ·rintro ρ1 st8 ⟨a,u,x,rfl,g1,g2,g3,g4,g5,g9⟩
     simp! [zt8];refine zc4 (by decide) (by decide) (by omega) λv5 st9 a5 b5 c5=>?_
     obtain⟨s5,e5,w5⟩:=yr5 a5 b5;simp! [e5,vb8];exact h a u x s5 st9 g1 g2 g3 g4 g5 w5 (by omega)
structure Tr where
 w:Int
 h:Int
 ways:Str
 s:Int
 x:Int
 y:Int
noncomputable def Tr.kind(t:Tr):D:=kd t.w t.h t.ways t.s
noncomputable def Tr.place(t:Tr):D:=wq7 (t.x,t.y)
noncomputable def Tr.cells(t:Tr):List wq8:=cov t.w t.h (t.x,t.y)
structure vw7(A4 high:Int)(sh:List wq8)(t:Tr):Prop where
 w1:1<=t.w
 h1:1<=t.h
 x0:0<=t.x
 xw:t.x+t.w<=A4
 y0:0<=t.y
 yh:t.y+t.h<=high
 ways:wx9 t.ways
 st:t.s=0\/t.s=1\/t.s=-1
 free:∀c∈t.cells,c∉sh
structure wa3(A4 high:Int)(sh:List wq8)(ts:List Tr):Prop where
 w1:1<=A4
 w9:A4<=9
 h1:1<=high
 h9:high<=9
 sub:sh.Sublist (cov A4 high (0,0))
 few:ts.length<=12
 tr:∀t∈ts,vw7 A4 high sh t
 apart:ts.Pairwise λa b=>∀c∈a.cells,c∉b.cells
noncomputable def wq9(A4 high:Int)(sh:List wq8)(ts:List Tr):D:=.tup [.int A4,.int high,.tup (sh.map wq7),.tup (ts.map Tr.kind)]
noncomputable def zc7(ts:List Tr):D:=.tup (ts.map Tr.place)
def ze4(t:Tr):t.kind.imm=true:=wn6
def zi1(t:Tr):t.place.imm=true:=zb0 _
noncomputable def ck(c:wq8):List Key:=[.inl c.1,.inl c.2]
def zf3(c:wq8):zc8 (wq7 c)=some (ck c):=rfl
def xo3(h:ck a=ck b):a=b:=by
 unfold ck at h;have h1:a.1=b.1/\a.2=b.2:=by simpa using h
 exact Prod.ext h1.1 h1.2
noncomputable def inT(T:List wq8)(k:List Key):Prop:=∃c∈T,ck c=k
def xy8:inT T (ck c)↔c∈T:=⟨λ⟨d,hd,e⟩=>by rw[<-xo3 e];exact hd,λh=>⟨c,h,rfl⟩⟩
def zw3{w h:Int}(hw:w<=9)(hh:h<=9):(cov w h p).length<=81:=by
 rw[zs7];exact zn6 (c:=9) (d:=9) (by omega) (by omega)
noncomputable def vr4(T:List wq8):D->D
 | .tup [.int x,.int y]=>.bl (decide ((x,y)∈T))
 | _=>.non
def yx4(T:List wq8)(l:List wq8):(l.map wq7).map (vr4 T)=l.map λc=>.bl (decide (c∈T)):=by rw[Bm0];rfl
noncomputable def vh2:List D->Dr->Res Dr D:=vb2 17 3 (zu4 xf7 zi5 wt0 vc2 vb7).1
noncomputable def wv8(d:D):D:=.tup [d,.bl true]
theorem yg2(l:List wq8):zq4 ((l.map wq7).map wv8)=some (l.map λc=>(ck c,.bl true)):=by
 induction l with
 | nil=>rfl
 | cons c l ih=>
   show zq4 (.tup [wq7 c,.bl true]::(l.map wq7).map wv8)=_;unfold zq4;rw[if_pos (by simp[D.imm]),zf3,ih];rfl
open H in
def wb3{B9:Bool}{much:Int}{st:Dr}{Q:D->Dr->Prop}{E:Exn->Dr->Prop}(hs:st.2<2 ^ 38)(hm1:1<=much)(hm2:much<=1000000000000)(hq:∀A4 high sh ts st',wa3 A4 high sh ts->st'.2<=st.2+500->Q (.tup [wq9 A4 high sh ts,zc7 ts]) st'):wpR (vh2 [.bl B9,.int much] st) Q E:=by
 refine zw5 rfl (by decide) ?_;unfold zu4;dsimp only;simp_all!;simp!;refine xq4 (by omega) λA4 high st1 w1 w9 h1 h9 hb t1=>?_
 simp!;simp_all!;simp! [vb8,wt2];refine zi9 (ways:="none") (s:=0) (p:=(0,0)) (by omega) (by omega) (by omega) (by omega) ?_;simp! [za8 zb0];simp_all!;simp!;have hc81:(cov A4 high (0,0)).length<=81:=zw3 w9 h9;refine zz3 (λn acc ρ st'=>∃sh x,acc=sh.map wq7/\sh.Sublist ((cov A4 high (0,0)).take n)/\ρ=[x,Sl.hnd,.bor (.bl B9)]/\st'.2<=st1.2+n) 0 ⟨[],_,rfl,by simp,rfl,by simp⟩ (λi d acc ρ st' hd hI=>?_) λacc ρ st' hI=>?_
 ·obtain⟨sh,x,e1,e2,e3,e4⟩:=hI
  rw[An0] at hd;cases q:(cov A4 high (0,0))[i]? with
  | none=>rw[q] at hd;cases hd
  | some c=>
    rw[q] at hd;cases hd;subst e1 e3;have hi:i<(cov A4 high (0,0)).length:=(Ae0.mp q).1;have hsl:=e2.length_le;rw[Bd0] at hsl;have tk:(cov A4 high (0,0)).take (i+1)=(cov A4 high (0,0)).take i++[c]:=by rw[Bk0,q];rfl
    rw[Al0] at e2 e4;refine⟨_,rfl,?_⟩;simp! [vl0,ve0,xl3];have tk2:∃m:Int,(if B9=true then D.int 20 else D.int 9)=.int m/\0<m/\m<1073741824:=by
     split
     ·exact⟨_,rfl,by decide,by decide⟩
     ·exact⟨_,rfl,by decide,by decide⟩
    obtain⟨m,em,m0,m1⟩:=tk2;rw[em];refine zc4 m0 m1 (by omega) λv st2 a2 b2 c2=>?_
    simp! [oEq,D.dep,D.eqq,Am0,Aw0];split
    ·refine⟨zb0 c,lt_size (by rw[Aa0];omega),sh++[c],_,by rw[Bb0];rfl,?_,rfl,by omega⟩
     rw[tk];exact e2.append (List.Sublist.refl _)
    ·refine⟨sh,_,rfl,?_,rfl,by omega⟩
     rw[tk];exact e2.trans (List.sublist_append_left _ _)
 ·obtain⟨sh,x,e1,e2,e3,e4⟩:=hI
  subst e1;rw[Al0,Aa0,Br0] at e2;rw[Al0,Aa0] at e4;have hsh:sh.length<=81:=Ba0 e2.length_le hc81;simp! [za8 zb0];simp_all!;simp!;refine zd9 wv8 (λρ=>∃x,ρ=[x]) ⟨_,rfl⟩ (λd hd ρ hI122=>?_) (zf6 (by rw[Aa0];omega)) ?_
  ·obtain⟨x,e⟩:=hI122
   subst e;obtain⟨c,hc,rfl⟩:=Au0.mp hd;refine⟨_,rfl,⟨_,rfl⟩,⟨rfl,rfl⟩,?_⟩;simp! [wt2,zb0,wv8]
  ·have od:ve1 [.lst ((sh.map wq7).map wv8)]=some (.dct (.non::(zf8 (sh.map λc=>(ck c,.bl true)) ([],[])).1) (zf8 (sh.map λc=>(ck c,.bl true)) ([],[])).2):=by
    show (if ((sh.map wq7).map wv8).length<sizeLine then (zq4 ((sh.map wq7).map wv8)).map _ else none)=_;rw[if_pos (lt_size (by simp;omega)),yg2];rfl
   have hh:=Holds.all (ps:=sh.map λc=>(ck c,D.bl true)) (Holds.nil (n:=0)) (λp hp=>by obtain⟨c,_,rfl⟩:=Au0.mp hp;exact imm_bl);have hT:Holds (.dct (.non::(zf8 (sh.map λc=>(ck c,.bl true)) ([],[])).1) (zf8 (sh.map λc=>(ck c,.bl true)) ([],[])).2) sh.length (inT sh):=hh.imp (by simp) λk=>by
    simp only[false_or,Au0,inT];constructor
    ·rintro ⟨p,⟨c,hc,rfl⟩,e⟩;exact⟨c,hc,e⟩
    ·rintro ⟨c,hc,e⟩;exact⟨_,⟨c,hc,rfl⟩,e⟩
   rw[od];generalize D.dct (.non::(zf8 (sh.map λc=>(ck c,.bl true)) ([],[])).1) (zf8 (sh.map λc=>(ck c,.bl true)) ([],[])).2=tk at hT;have fl:=hT.flat;simp! [fl];simp_all!;simp! [wx4];simp_all!;simp! [wx4];simp_all!;simp!;simp_all!;simp!;refine zc4 (by decide) (by decide) (by omega) λv2 st2 a2 b2 c2=>?_
   have hmany:∃many:Int,(if B9=true then D.int 30 else D.int (2+v2))=.int many/\0<=many/\many<=30:=by
    split
    ·exact⟨_,rfl,by omega,by omega⟩
    ·exact⟨_,rfl,by omega,by omega⟩
   obtain⟨many,em,hm0,hm3⟩:=hmany;simp! [ws0,ws9,vl0,ve0,xl3,em];rw[ze1 (by omega) hm0];refine zf5 (λi ρ st''=>∃(ts:List Tr) (T:List wq8) (tk:D) (A9:Int) (y11 y12 y13 y14 y15 y16:Sl),ρ=[Sl.hnd,.bor (.bl B9),.bor (.int much),.bor (.int A4),.bor (.int high),.own (.lst ((cov A4 high (0,0)).map wq7)),.own (.lst (sh.map wq7)),.own tk,.own (.lst (ts.map Tr.kind)),.own (.lst (ts.map Tr.place)),.bor (.int A9),y11,y12,y13,y14,y15,y16]/\wa3 A4 high sh ts/\Holds tk (81+81*i) (inT T)/\(∀c,c∈T↔c∈sh\/∃t∈ts,c∈t.cells)/\1<=A9/\A9<=much/\st''.2<=st2.2+13*i) 0 ⟨[],sh,tk,1,_,_,_,_,_,_,rfl,⟨w1,w9,h1,h9,e2,by simp,λt ht=>(by cases ht),List.Pairwise.nil⟩,hT.imp (by omega) λ_=>Iff.rfl,by simp,by omega,by omega,by simp⟩ (λi d ρ st'' hd hI P pn=>?_) λρ st'' hI=>?_
   ·obtain⟨ts,T,tk,A9,y11,y12,y13,y14,y15,y16,er,ho,hT,hc,hr1,hr2,hst⟩:=hI
    obtain⟨rfl,hi⟩:=ze0 hd;subst er;rw[Al0] at hT hst;have hb2:st''.2<2 ^ 38+1000:=by omega
    have hi30:i<30:=by omega
    clear hs t1 e4 c2 a2 b2 hm0 hm3 hi em;refine⟨_,rfl,?_⟩;simp_all!;simp!;refine xd7 (by omega) w1 w9 h1 h9 hb λa u ways s st3 g1 g2 g3 g4 g5 g6 t3=>?_
    have kf:(kd a u ways s).flat=false:=rfl;simp! [kf];simp_all!;simp! [kd,oIx,at0,at1,ws9,ws0];refine zc4 (by omega) (by omega) (by omega) λx st4 a4 b4 c4=>?_
    refine zc4 (by omega) (by omega) (by omega) λy st5 a5 b5 c5=>?_
    simp! [wt2];simp_all!;simp!;refine zi9 (p:=(x,y)) (by omega) (by omega) (by omega) (by omega) ?_;simp! [za8 zb0];simp_all!;simp!;refine xd2 (by omega) (by omega) (by omega) (by omega) g5 ?_;have hroom:1<=zt2 A4 high a u ways/\zt2 A4 high a u ways<=81:=by
     have z1:1<=A4-a+1/\A4-a+1<=9:=by omega
     have z2:1<=high-u+1/\high-u+1<=9:=by omega
     unfold zt2;split
     ·constructor
      ·have:=Int.mul_le_mul z1.1 z2.1 (by omega) (by omega);omega
      ·have:=Int.mul_le_mul z1.2 z2.2 (by omega) (by omega);omega
     ·split
      ·omega
      ·split<;>omega
    generalize zt2 A4 high a u ways=room at hroom;have hown:(cov a u (x,y)).length<=81:=zw3 (by omega) (by omega);have cm:va9 A9 room:=.inr ⟨by omega,by omega⟩;simp! [wz7,Aa0,ws9,zn3 cm];split
    ·rename_i hlen
     have hlen:ts.length<12:=by have:=of_decide_eq_true hlen;omega
     split
     ·rename_i hle
      have hle:A9*room<=much:=of_decide_eq_true hle;refine zd9 (vr4 T) (λρ=>∃x,ρ=[x,.bor tk]) ⟨_,rfl⟩ (λd hd ρ hI123=>?_) (zf6 (by rw[Aa0];omega)) ?_
      ·obtain⟨x',e⟩:=hI123
       subst e;obtain⟨c,hc',rfl⟩:=Au0.mp hd;refine⟨_,rfl,⟨_,rfl⟩,⟨rfl,rfl⟩,?_⟩;simp! [(hT.in_ (zf3 c) (b:=decide (c∈T)) (by rw[decide_eq_true_eq,xy8])).1];rfl
      ·rw[yx4]
       simp! [zy2,zj1,Aw0];split
       ·rename_i hany
        have hfree:∀c∈cov a u (x,y),c∉T:=λc hc' hcT=>by
         have:(List.map (λc=>decide (c∈T)) (cov a u (x,y))).any id=true:=by
          rw[List.any_map,List.any_eq_true];exact⟨c,hc',by simpa using hcT⟩
         rw[this] at hany;cases hany
        have hpos:1<=A9*room:=by have:=Int.mul_le_mul hr1 hroom.1 (by omega) (by omega);omega
        simp_all!;simp! [zn3 cm];simp_all!;simp! [wr8,za8 ze4];refine⟨_,zx3 (by simp[D.imm,D.immL]) (by rw[Aa0];omega),?_⟩;simp_all!;simp! [wr8,za8 zi1];refine⟨_,zx3 (by simp[D.imm,D.immL]) (by rw[Aa0];omega),?_⟩;simp!;refine zf5 (λj ρ st''=>∃(tk':D) (y16:Sl),ρ=[Sl.hnd,.bor (.bl B9),.bor (.int much),.bor (.int A4),.bor (.int high),.own (.lst ((cov A4 high (0,0)).map wq7)),.own (.lst (sh.map wq7)),.own tk',.own (.lst (ts.map Tr.kind++[D.tup [.int a,.int u,.str ways,.int s]])),.own (.lst (ts.map Tr.place++[D.tup [.int x,.int y]])),.bor (.int (A9*room)),.bor (.int (0+(i:Int))),.bor (D.tup [.int a,.int u,.str ways,.int s]),.bor (D.tup [.int x,.int y]),.bor (.lst ((cov a u (x,y)).map wq7)),.bor (.int room),y16]/\Holds tk' (81+81*i+j) (inT (T++(cov a u (x,y)).take j))/\st''=st5) 0 ⟨tk,_,rfl,by simpa using hT,rfl⟩ (λj d ρ st'' hd hI P2 pn2=>?_) λρ st'' hI=>?_
        ·obtain⟨tk',y16,er,hT',es⟩:=hI
         rw[An0] at hd;cases q:(cov a u (x,y))[j]? with
         | none=>rw[q] at hd;cases hd
         | some c=>
           rw[q] at hd;cases hd;subst er es;have hj:j<(cov a u (x,y)).length:=(Ae0.mp q).1;obtain⟨ks,vs,rfl,k1,k2,k3,k4⟩:=id hT';refine⟨_,rfl,?_⟩;simp! [wv2,k1,zf3];refine⟨ks,vs,rfl,yg7 (by omega),pn2 _ _ ⟨_,_,rfl,?_,rfl⟩⟩;refine(hT'.put (k:=ck c) (v:=.bl true) imm_bl).imp (by omega) λk=>?_
           rw[Al0,Bk0,q];simp only[inT,Ap0,Option.toList,Aq0];constructor
           ·rintro (⟨c',h1,h2⟩ | h)
            ·exact⟨c',by rcases h1 with h1 | h1<;>simp[h1],h2⟩
            ·exact⟨c,by simp,h⟩
           ·rintro ⟨c',h1,h2⟩
            rcases h1 with h1 | h1 | h1
            ·exact .inl ⟨c',.inl h1,h2⟩
            ·exact .inl ⟨c',.inr h1,h2⟩
            ·subst h1;exact .inr h2
        ·obtain⟨tk',y16,er,hT',es⟩:=hI
         subst er es;rw[Al0,Aa0,Br0] at hT';have hnew:vw7 A4 high sh ⟨a,u,ways,s,x,y⟩:=⟨g1,g3,a4,by show x+a<=A4;omega,a5,by show y+u<=high;omega,g5,g6,λc hc' hcs=>hfree c hc' ((hc c).mpr (.inl hcs))⟩;refine pn _ _ ⟨ts++[⟨a,u,ways,s,x,y⟩],T++cov a u (x,y),tk',A9*room,.bor (.int (0+(i:Int))),.bor (D.tup [.int a,.int u,.str ways,.int s]),.bor (D.tup [.int x,.int y]),.bor (.lst ((cov a u (x,y)).map wq7)),.bor (.int room),y16,?_,⟨w1,w9,h1,h9,ho.sub,by rw[Ai0];simp;omega,λt ht=>?_,?_⟩,hT'.imp (by omega) λ_=>Iff.rfl,λc=>?_,hpos,hle,by omega⟩
         ·rw[Bb0,Bb0];rfl
         ·rcases Ap0.mp ht with ht | ht
          ·exact ho.tr t ht
          ·rw[Aq0.mp ht];exact hnew
         ·refine Bl0.mpr ⟨ho.apart,List.pairwise_singleton _ _,λt ht t' ht' c hc1 hc2=>?_⟩
          rw[Aq0.mp ht'] at hc2;exact hfree c hc2 ((hc c).mpr (.inr ⟨t,ht,hc1⟩))
         ·rw[Ap0,hc c]
          constructor
          ·rintro ((h | ⟨t,ht,h⟩) | h)
           ·exact .inl h
           ·exact .inr ⟨t,by simp[ht],h⟩
           ·exact .inr ⟨⟨a,u,ways,s,x,y⟩,by simp,h⟩
          ·rintro (h | ⟨t,ht,h⟩)
           ·exact .inl (.inl h)
           ·rcases Ap0.mp ht with ht | ht
            ·exact .inl (.inr ⟨t,ht,h⟩)
            ·rw[Aq0.mp ht] at h;exact .inr h
       ·exact pn _ _ ⟨ts,T,tk,A9,_,_,_,_,_,_,rfl,ho,hT.imp (by omega) λ_=>Iff.rfl,hc,hr1,hr2,by omega⟩
     ·exact pn _ _ ⟨ts,T,tk,A9,_,_,_,_,_,_,rfl,ho,hT.imp (by omega) λ_=>Iff.rfl,hc,hr1,hr2,by omega⟩
    ·exact pn _ _ ⟨ts,T,tk,A9,_,_,_,_,_,_,rfl,ho,hT.imp (by omega) λ_=>Iff.rfl,hc,hr1,hr2,by omega⟩
   ·obtain⟨ts,T,tk,A9,y11,y12,y13,y14,y15,y16,er,ho,hT,hc,hr1,hr2,hst⟩:=hI
    subst er;rw[ze3,Al0] at hst;simp! [yg5,za8 zb0,za8 ze4,za8 zi1,vb8,wt2];exact hq A4 high sh ts st'' ho (by omega)
noncomputable def dx(d:Int):Int:=if d=0 then 1 else if d=2 then -1 else 0
noncomputable def dy(d:Int):Int:=if d=1 then 1 else if d=3 then -1 else 0
noncomputable def Dir(d:Int):Prop:=0<=d/\d<4
def Dir.cases{d:Int}(h:Dir d):d=0\/d=1\/d=2\/d=3:=by obtain⟨h1,h2⟩:=h;omega
noncomputable def yu2:List D->Res Unit D:=dfn 2 2 zp0.1
def xe2{d:Int}(hd:Dir d)(hq:Q (wq7 (p.1+dx d,p.2+dy d)) ()):wpR (yu2 [wq7 p,.int d]) Q E:=by
 refine zk4 rfl (by decide) ?_;unfold zp0;dsimp only;have l4:∀a b c e:Int,vb9 [.int a,.int b,.int c,.int e]=some (.lst [.int a,.int b,.int c,.int e]):=λa b c e=>zt8 (by simp[D.immL,D.imm]) (by simp)
 rcases hd.cases with r | r | r | r<;>subst r<;>simp?! [zb5,wq7,oIx,pt0,pt1,l4,at0,at1,at2,at3,ws0,ws9,wt2]<;>exact hq
noncomputable def vh4:List D->Res Unit D:=dfn 2 2 zu5.1
noncomputable def wv0(ways:Str)(d:Int):Bool:=ways == "any"||ways == (if d % 2=0 then "row" else "column")
def wb4{w h s d:Int}{ways:Str}(hd:Dir d)(hq:Q (.bl (wv0 ways d)) ()):wpR (vh4 [kd w h ways s,.int d]) Q E:=by
 refine zk4 rfl (by decide) ?_;unfold zu5;dsimp only;have cm:(0:Int)<2:=by decide
 have i2:∀{d:Int},iOp (λ_ j=>0<j) (λi j=>D.int (i % j)) (.int d) (.int 2)=some (.int (d % 2)):=λ{d}=>xm2 (C:=λ_ j=>0<j) cm
 simp?! [zb5,kd,oIx,at2,zt9,ve0,i2];by_cases hw:ways == ("any" : Str)
 ·simp?! [hw,zb5]
  have:wv0 ways d=true:=by simp[wv0,hw]
  rw[this] at hq;exact hq
 ·have hw':(ways == ("any" : Str))=false:=by simpa using hw
  simp?! [hw',zb5];have e:wv0 ways d=(ways == (if d % 2=0 then "row" else "column")):=by simp[wv0,hw']
  rw[e] at hq;rcases hd.cases with r | r | r | r<;>subst r<;>exact⟨.inl imm_bl,hq⟩
noncomputable def Tr.ahead(t:Tr)(d:Int):List wq8:=cov t.w t.h (t.x+dx d,t.y+dy d)
noncomputable def Tr.to(t:Tr)(d:Int):Tr:={ t with x:=t.x+dx d,y:=t.y+dy d }
noncomputable def okT(A4 high:Int)(sh:List wq8)(t:Tr)(d:Int):Prop:=wv0 t.ways d=true/\∀c∈t.ahead d,c∉sh/\0<=c.1/\c.1<A4/\0<=c.2/\c.2<high
theorem yd7(c:wq8):∀l:List wq8,inD (wq7 c) (l.map wq7)=some (decide (c∈l))
 | []=>by simp[inD]
 | a::l=>by
   show ((D.eqq (wq7 a) (wq7 c)).bind λb=>(inD (wq7 c) (l.map wq7)).map λx=>b||x)=_;rw[yd7 c l];have e:D.eqq (wq7 a) (wq7 c)=some (decide (a=c)):=by
    show (D.eqq (.int a.1) (.int c.1)).bind (λx=>(D.eqL [.int a.2] [.int c.2]).map λy=>x&&y)=_;rw[yt7];show (D.eqL [.int a.2] [.int c.2]).map (λy=>(a.1 == c.1)&&y)=_;show ((D.eqq (.int a.2) (.int c.2)).bind (λx=>(D.eqL [] []).map λy=>x&&y)).map (λy=>(a.1 == c.1)&&y)=_;rw[yt7];show some ((a.1 == c.1)&&((a.2 == c.2)&&true))=_;rw[Option.some.injEq,Bool.eq_iff_iff];simp[Prod.ext_iff]
   rw[e];simp only[Option.bind_some,Aw0,Option.some.injEq];by_cases h:a=c
   ·subst h;simp
   ·have h':c≠a:=λz=>h z.symm
    simp[h,h',Aj0]
def yc8{neg:Bool}{c:wq8}{l:List wq8}:oIn neg (wq7 c) (.tup (l.map wq7))=some (.bl (if neg then !decide (c∈l) else decide (c∈l)))/\oIn neg (wq7 c) (.lst (l.map wq7))=some (.bl (if neg then !decide (c∈l) else decide (c∈l))):=by
 have hd:D.depL (l.map wq7)<=30:=Ba0 (ya6 yl1 l) (by decide);constructor
 ·show (if D.depL (l.map wq7)<=30 then (inD (wq7 c) (l.map wq7)).map λx=>D.bl (if neg then !x else x) else none)=_
  rw[if_pos hd,yd7];rfl
 ·show (if D.depL (l.map wq7)<=30 then (inD (wq7 c) (l.map wq7)).map λx=>D.bl (if neg then !x else x) else none)=_
  rw[if_pos hd,yd7];rfl
def yj8{ts:List Tr}{m:Nat}{t:Tr}(h:ts[m]?=some t):oIx (.tup (ts.map Tr.kind)) (.int m)=some t.kind:=(xl5 (ze4 t) (by omega) (by rw[Bu0,An0,h];rfl)).2
def zr3{ts:List Tr}{m:Nat}{t:Tr}(h:ts[m]?=some t):oIx (.tup (ts.map Tr.place)) (.int m)=some t.place:=(xl5 (zi1 t) (by omega) (by rw[Bu0,An0,h];rfl)).2
structure Cfg(A4 high:Int)(sh:List wq8)(ts:List Tr):Prop where
 few:ts.length<=12
 sh:sh.length<=81
 wh:∀t∈ts,0<=t.w/\t.w<=9/\0<=t.h/\t.h<=9
noncomputable def wy8:List D->Res Unit D:=dfn 6 2 ye9.1
def yr1{w h:Int}{ways:Str}{s:Int}(hw:w<=30)(hh:h<=30)(h0:0<=w)(h1:0<=h)(hq:Q (.lst ((cov w h p).map wq7)) ()):wpR (wy8 [kd w h ways s,wq7 p]) Q E:=by
 refine zk4 rfl (by decide) ?_;unfold ye9;dsimp only;simp_all!;simp! [wq7];simp_all!;simp! [wx4];simp_all!;simp! [kd,oIx,at0,at1];rw[ze1 (by omega) h0];refine zf5 (λi ρ st'=>∃x,ρ=[.bor (kd w h ways s),.bor (wq7 p),.bor (.int p.1),.bor (.int p.2),.own (.lst (((List.range i).flatMap (wx1 h p)).map wq7)),x]) 0 ⟨_,rfl⟩ (λi d ρ st' hd hI P pn=>?_) λρ st' hI=>?_
 ·obtain⟨x,e⟩:=hI
  obtain⟨rfl,hi⟩:=ze0 hd;subst e;have him:∀i:Nat,D.immL (((List.range i).flatMap (wx1 h p)).map wq7)=true:=λi=>za8 zb0 _
  refine⟨_,rfl,?_⟩;simp! [wr8,him,kd,oIx,at0,at1];rw[ze1 (by omega) h1];refine zd9 (λd=>match d with | .int j=>wq7 (p.1+(i:Int),p.2+j) | _=>.non) (λρ=>∃x,ρ=[x,.bor (.int p.1),.bor (.int (0+(i:Int))),.bor (.int p.2)]) ⟨_,rfl⟩ (λd hd ρ hI124=>?_) (zf6 (by rw[ze3];omega)) ?_
  ·obtain⟨x,e⟩:=hI124
   subst e;obtain⟨j,hj⟩:=List.getElem?_of_mem hd;obtain⟨rfl,hj'⟩:=ze0 hj;refine⟨_,rfl,⟨_,rfl⟩,⟨rfl,rfl⟩,?_⟩;simp! [wq7,ws0,ws9,wt2];simp
  ·have e:(zl1 0 h.toNat).map (λd=>match d with | .int j=>wq7 (p.1+(i:Int),p.2+j) | _=>D.non)=(wx1 h p i).map wq7:=by
    unfold zl1 wx1;rw[Bm0,Bm0];refine List.map_congr_left λj _=>?_
    simp[wq7]
   rw[e];refine⟨_,yc9 (za8 zb0 _) ?_,pn _ _ ⟨.bor (.int (0+(i:Int))),?_⟩⟩
   ·rw[Aa0,Aa0,List.length_flatMap]
    unfold wx1;simp only[Aa0,Cj0,List.map_const',List.sum_replicate_nat];have:i*h.toNat<=29*30:=zn6 (by omega) (by omega);omega
   ·rw[List.range_succ,List.flatMap_append,Bb0]
    simp[wq7,kd]
 ·obtain⟨x,e⟩:=hI
  subst e;rw[ze3,Al0];have him:∀i:Nat,D.immL (((List.range i).flatMap (wx1 h p)).map wq7)=true:=λi=>za8 zb0 _
  simp! [him];exact hq
def xg0{α:Type}{P:List α->Prop}(nil:P [])(append_singleton:∀l a,P l->P (l++[a]))(l:List α):P l:=by
 have h:∀l:List α,P l.reverse:=λl=>by
  induction l with
  | nil=>exact nil
  | cons a l ih=>rw[Cv0];exact append_singleton _ _ ih
 have:=h l.reverse;rwa [List.reverse_reverse] at this
noncomputable def ww0(W:List (wq8×Int))(c:wq8):Option Int:=(W.reverse.find? λp=>decide (p.1=c)).map (·.2)
def xk5:ww0 [] c=none:=rfl
def yg8{v:Int}:ww0 (W++[(c0,v)]) c=if c0=c then some v else ww0 W c:=by
 unfold ww0;rw[List.reverse_append];show ((((c0,v)::W.reverse).find? λp=>decide (p.1=c))).map (·.2)=_;rw[Cq0];by_cases h:c0=c
 ·simp[h]
 ·simp[h]
theorem yt3{l:List wq8}{c:wq8}{v:Int}:ww0 (l.map λq=>(q,v)) c=if c∈l then some v else none:=by
 induction l using xg0 with
 | nil=>rfl
 | append_singleton l a ih=>
   rw[Bb0];show ww0 ((l.map λq=>(q,v))++[(a,v)]) c=_;rw[yg8,ih];by_cases h:a=c
   ·subst h;simp
   ·have h':c≠a:=λz=>h z.symm
    simp[h,h']
theorem yp8:∀{ks vs:List D},ks.length=vs.length->wr0 k ks (List.zipWith (λd u=>if zc8 d=some k' then v else u) ks vs)=if k=k' then (wr0 k ks vs).map λ_=>v else wr0 k ks vs
 | [],[],_=>by simp[wr0]
 | a::ks,b::vs,h=>by
   show wr0 k (a::ks) ((if zc8 a=some k' then v else b)::List.zipWith _ ks vs)=_;unfold wr0;by_cases e:zc8 a=some k
   ·rw[if_pos e,if_pos e,e]
    by_cases z:k=k'
    ·subst z;simp
    ·simp[z]
   ·rw[if_neg e,if_neg e];exact yp8 (by simpa using h)
 | [],_::_,h=>by cases h
 | _::_,[],h=>by cases h
theorem yh3:∀{ks vs:List D},ks.length=vs.length->wr0 k (ks++[wr2 k']) (vs++[v])=(wr0 k ks vs).or (if k'=k then some v else none)
 | [],[],_=>by
   show wr0 k [wr2 k'] [v]=_;unfold wr0;rw[zh7];by_cases e:k'=k
   ·simp[e,wr0]
   ·simp[e,wr0]
 | a::ks,b::vs,h=>by
   show wr0 k (a::(ks++[wr2 k'])) (b::(vs++[v]))=_;unfold wr0;by_cases e:zc8 a=some k
   ·rw[if_pos e,if_pos e];rfl
   ·rw[if_neg e,if_neg e];exact yh3 (by simpa using h)
 | [],_::_,h=>by cases h
 | _::_,[],h=>by cases h
open H in
def xv3(h:ks.length=vs.length):wr0 k (wt7 k' v ks vs).1 (wt7 k' v ks vs).2=if k'=k then some v else wr0 k ks vs:=by
 unfold wt7;split
 ·rename_i hs
  rw[yp8 h];by_cases e:k'=k
  ·subst e
   obtain⟨d,hd⟩:=Option.isSome_iff_exists.mp hs;rw[hd];simp
  ·have e':k≠k':=λz=>e z.symm
   simp[e,e']
 ·rename_i hs
  rw[yh3 h];by_cases e:k'=k
  ·subst e
   have hn:wr0 k' ks vs=none:=by simpa using hs
   rw[hn];simp
  ·simp[e]
noncomputable def wv5(d:D)(W:List (wq8×Int)):Prop:=∃ks vs,d=.dct (.non::ks) vs/\D.immL vs=true/\ks.length=vs.length/\ks.length<=W.length/\∀c,wr0 (ck c) ks vs=(ww0 W c).map D.int
def wv5.nil:wv5 (.dct [.non] []) []:=⟨[],[],rfl,rfl,rfl,Ad0 _,λc=>by simp[wr0,xk5]⟩
def wv5.put{v:Int}(h:wv5 (.dct (.non::ks) vs) W):wv5 (.dct (.non::(wt7 (ck c0) (.int v) ks vs).1) (wt7 (ck c0) (.int v) ks vs).2) (W++[(c0,v)]):=by
 obtain⟨ks',vs',e,h1,h2,h3,h4⟩:=h;cases e;refine⟨_,_,rfl,yd8 imm_int h1,(ya8 h2).1,by have:=(ya8 (k:=ck c0) (v:=.int v) h2).2;simp;omega,λc=>?_⟩;rw[xv3 h2,yg8,h4 c];by_cases e:c0=c
 ·subst e;simp
 ·have e':ck c0≠ck c:=λz=>e (xo3 z)
  simp[e,e']
def wv5.flat(h:wv5 d W):d.flat=true:=by
 obtain⟨ks,vs,rfl,h1,_⟩:=h;exact h1
noncomputable def wr(ts:List Tr):List (wq8×Int):=ts.zipIdx.flatMap λp=>p.1.cells.map λc=>(c,(p.2:Int))
def xc6:wr (ts++[u])=wr ts++u.cells.map λc=>(c,(ts.length:Int)):=by
 unfold wr;rw[List.zipIdx_append,List.flatMap_append];simp
noncomputable def wz8(sh:List wq8)(ts:List Tr):List (wq8×Int):=(sh.map λc=>(c,-1))++wr ts
noncomputable def yj7:List D->Res Unit D:=dfn 7 2 (yd9 wy8).1
def vh3{A4 high:Int}:oIx (wq9 A4 high sh ts) (.int 2)=some (.tup (sh.map wq7)):=by
 show im (some (D.tup (sh.map wq7)))=_;simp[im,imm_tup,za8 zb0 sh]
def hall3'{A4 high:Int}:oIx (wq9 A4 high sh ts) (.int 3)=some (.tup (ts.map Tr.kind)):=by
 show im (some (D.tup (ts.map Tr.kind)))=_;simp[im,imm_tup,za8 ze4 ts]
theorem wi3(h:∀t∈ts,t.cells.length<=81):(wr ts).length<=81*ts.length:=by
 induction ts using xg0 with
 | nil=>simp[wr]
 | append_singleton ts u ih=>
   rw[xc6,Ai0,Aa0,Ai0];have h1:=ih λt ht=>h t (by simp[ht])
   have h2:=h u (by simp);simp only[Ar0,Ch0];omega
def xa2{A4 high:Int}(hc:Cfg A4 high sh ts)(hq:∀d,wv5 d (wz8 sh ts)->Q d ()):wpR (yj7 [wq9 A4 high sh ts,zc7 ts]) Q E:=by
 refine zk4 rfl (by decide) ?_;unfold yd9;dsimp only;have h81:∀t∈ts,t.cells.length<=81:=λt ht=>zw3 (hc.wh t ht).2.1 (hc.wh t ht).2.2.2
 have few:=hc.few;have shl:=hc.sh;simp_all!;simp!;simp_all!;simp! [vh3];refine zf5 (λi ρ st'=>∃(d:D) (x3 x4 x5 x6:Sl),ρ=[Sl.bor (wq9 A4 high sh ts),.bor (zc7 ts),.own d,x3,x4,x5,x6]/\wv5 d ((sh.take i).map λc=>(c,-1))) 0 ⟨_,_,_,_,_,rfl,wv5.nil⟩ (λi e ρ st' he hI P pn=>?_) λρ st' hI=>?_
 ·obtain⟨d,x3,x4,x5,x6,er,hd⟩:=hI
  rw[An0] at he;cases q:sh[i]? with
  | none=>rw[q] at he;cases he
  | some c=>
    rw[q] at he;cases he;subst er;rw[Al0] at hd;obtain⟨ks,vs,rfl,k1,k2,k3,k4⟩:=id hd;rw[Aa0,Bd0] at k3;refine⟨_,rfl,?_⟩;simp! [wv2,k1,zf3];refine⟨ks,vs,rfl,yg7 (by omega),pn _ _ ⟨_,_,_,_,_,rfl,?_⟩⟩;rw[Al0];have:=hd.put (c0:=c) (v:=-1);rwa [show (sh.take i).map (λc=>(c,(-1:Int)))++[(c,-1)]=(sh.take (i+1)).map λc=>(c,(-1:Int)) by rw[Bk0,q,Bb0];rfl] at this
 ·obtain⟨d,x3,x4,x5,x6,er,hd⟩:=hI
  subst er;rw[Al0,Aa0,Br0] at hd;simp!;simp_all!;have en:vg8 [.tup (ts.map Tr.kind)]=some (zs2 (ts.map Tr.kind)):=if_pos (za8 ze4 ts);simp! [hall3',en];refine zf5 (λi ρ st'=>∃(d:D) (x3 x4 x5 x6:Sl),ρ=[Sl.bor (wq9 A4 high sh ts),.bor (zc7 ts),.own d,x3,x4,x5,x6]/\wv5 d (wz8 sh (ts.take i))) 0 ⟨_,_,_,_,_,rfl,by unfold wz8 wr;simpa using hd⟩ (λi e ρ st' he hI P pn=>?_) λρ st' hI=>?_
  ·obtain⟨d,x3,x4,x5,x6,er,hd⟩:=hI
   obtain⟨kk,hk,rfl⟩:=zy3 he;rw[An0] at hk;cases q:ts[i]? with
   | none=>rw[q] at hk;cases hk
   | some t=>
     rw[q] at hk;cases hk;subst er;rw[Al0] at hd;obtain⟨q1,q2,q3,q4⟩:=hc.wh t (Ao0 q);have hil:i<ts.length:=(Ae0.mp q).1;refine⟨_,rfl,?_⟩;simp! [zc7,zr3 q];refine yr1 (p:=(t.x,t.y)) (by omega) (by omega) q1 q3 ?_;have hcu:cov t.w t.h (t.x,t.y)=t.cells:=rfl;rw[hcu];simp!;refine zf5 (λj ρ st'=>∃(d:D) (x3 x6:Sl),ρ=[Sl.bor (wq9 A4 high sh ts),.bor (zc7 ts),.own d,x3,.bor (.int i),.bor t.kind,x6]/\wv5 d (wz8 sh (ts.take i)++(t.cells.take j).map λc=>(c,(i:Int)))) 0 ⟨_,_,_,rfl,by simpa using hd⟩ (λj e ρ st' he hI P2 pn2=>?_) λρ st' hI=>?_
     ·obtain⟨d,x3,x6,er,hd⟩:=hI
      rw[An0] at he;cases q5:t.cells[j]? with
      | none=>rw[q5] at he;cases he
      | some c=>
        rw[q5] at he;cases he;subst er;rw[Al0] at hd;obtain⟨ks,vs,rfl,k1,k2,k3,k4⟩:=id hd;have w1:=wi3 (ts:=ts.take i) λt ht=>h81 t (Cm0 ht)
        have w2:=h81 t (Ao0 q);have kl:ks.length<=3000:=by
         unfold wz8 at k3;rw[Ai0,Ai0,Aa0,Aa0,Bd0] at k3;rw[Bd0] at w1;omega
        refine⟨_,rfl,?_⟩;simp! [wv2,k1,zf3];refine⟨ks,vs,rfl,yg7 (by omega),pn2 _ _ ⟨_,_,_,rfl,?_⟩⟩;rw[Al0];have:=hd.put (c0:=c) (v:=i);rwa [show wz8 sh (ts.take i)++(t.cells.take j).map (λc=>(c,(i:Int)))++[(c,(i:Int))]=wz8 sh (ts.take i)++(t.cells.take (j+1)).map λc=>(c,(i:Int)) by rw[Bk0,q5,Bb0,Av0];rfl] at this
     ·obtain⟨d,x3,x6,er,hd⟩:=hI
      subst er;rw[Al0,Aa0,Br0] at hd;refine pn _ _ ⟨d,_,_,_,_,rfl,?_⟩;rw[Al0];have e1:wz8 sh (ts.take (i+1))=wz8 sh (ts.take i)++t.cells.map λc=>(c,(i:Int)):=by
       unfold wz8;rw[Bk0,q];show _++wr (ts.take i++[t])=_;rw[xc6,Bd0,Nat.min_eq_left (by omega),Av0]
      rw[e1];exact hd
  ·obtain⟨d,x3,x4,x5,x6,er,hd⟩:=hI
   subst er;rw[Al0,zq6,Aa0,Br0] at hd;simp! [hd.flat];exact hq d hd
noncomputable def xi0:List D->Res Unit D:=dfn 2 2 xm5.1
def xq7{ways:Str}{d:Int}(hw:wx9 ways)(hd:Dir d)(hq:Q (.bl (wv0 ways d)) ()):wpR (xi0 [.str ways,.int d]) Q E:=by
 refine zk4 rfl (by decide) ?_;unfold xm5;dsimp only;have i2:∀{d:Int},iOp (λ_ j=>0<j) (λi j=>D.int (i % j)) (.int d) (.int 2)=some (.int (d % 2)):=λ{d}=>xm2 (C:=λ_ j=>0<j) (by decide)
 rw  [zb5];simp! [zt9,zx2,i2];rcases hw with r | r | r | r<;>subst r
 ·rw  [zb5]
  simp! [zt9];exact hq
 ·rcases hd.cases with r | r | r | r<;>subst r<;>exact hq
 ·rw  [zb5]
  simp! [zt9,zx2,i2];rcases hd.cases with r | r | r | r<;>subst r<;>exact hq
 ·rw  [zb5]
  simp! [zt9];rcases hd.cases with r | r | r | r<;>subst r<;>exact hq
noncomputable def zw0:List D->Res Unit D:=dfn 4 2 zo7.1
def yf6{d:Int}(hd:Dir d)(hq:Q (wq7 (p.1+dx d,p.2+dy d)) ()):wpR (zw0 [wq7 p,.int d]) Q E:=by
 refine zk4 rfl (by decide) ?_;unfold zo7;dsimp only;rw  [zb5];simp!;rcases hd.cases with r | r | r | r<;>subst r<;>refine⟨_,_,rfl,by decide,rfl,?_⟩<;>simp?! [wq7,oIx,pt0,pt1,ws0,ws9,wt2]<;>exact hq
noncomputable def zz0(A4 high:Int)(c:wq8):Bool:=(decide (0<=c.1)&&decide (c.1<A4))&&(decide (0<=c.2)&&decide (c.2<high))
noncomputable def yi8:List D->Res Unit D:=dfn 3 3 yi1.1
def xa0{w h:Int}(hq:Q (.bl (zz0 w h c)) ()):wpR (yi8 [.int w,.int h,wq7 c]) Q E:=by
 refine zk4 rfl (by decide) ?_;unfold yi1;dsimp only;simp! [wq7,oIx,pt0,pt1,ws9];unfold zz0 at hq;by_cases h1:0<=c.1<;>by_cases h2:c.1<w<;>by_cases h3:0<=c.2<;>by_cases h4:c.2<h<;>simp[h1,h2,h3,h4,D.imm] at hq ⊢<;>exact hq
def zx6{w h:Int}:zz0 w h c=true↔0<=c.1/\c.1<w/\0<=c.2/\c.2<h:=by
 simp[zz0];omega
def xu5{n:Int}(h4:∀c,wr0 (ck c) ks vs=(ww0 W c).map D.int):wz0 (.dct (.non::ks) vs) (wq7 c) (.int n)=some (.int ((ww0 W c).getD n)):=by
 show im (some ((wr0 (ck c) ks vs).getD (.int n)))=_;rw[h4 c];cases ww0 W c<;>rfl
def wf3{sh:List wq8}{c:wq8}:ww0 (wz8 sh []) c=if c∈sh then some (-1) else none:=by
 unfold wz8 wr;simp only[List.zipIdx_nil,List.flatMap_nil,Bq0];exact yt3
noncomputable def vr0:List D->Res Unit D:=dfn 9 5 (yj2 xi0 wy8 zw0 yi8).1
def wb1{A4 high:Int}{sh:List wq8}{d:Int}{t:Tr}{dd:D}{Q:D->Unit->Prop}{E:Exn->Unit->Prop}(wh:0<=t.w/\t.w<=9/\0<=t.h/\t.h<=9)(wy:wx9 t.ways)(hd:Dir d)(hh:wv5 dd (wz8 sh []))(hN:¬okT A4 high sh t d->Q .non ())(hL:okT A4 high sh t d->Q (.lst []) ()):wpR (vr0 [wq9 A4 high sh [t],zc7 [t],dd,.int 0,.int d]) Q E:=by
 refine zk4 rfl (by decide) ?_;unfold yj2;dsimp only;obtain⟨ks,vs,rfl,k1,k2,k3,k4⟩:=hh;obtain⟨q1,q2,q3,q4⟩:=wh;have kw:∀t:Tr,oIx t.kind (.int 2)=some (.str t.ways):=λt=>rfl
 have h0:oIx (wq9 A4 high sh [t]) (.int 0)=some (.int A4):=rfl;have h1:oIx (wq9 A4 high sh [t]) (.int 1)=some (.int high):=rfl;have gk:oIx (.tup [t.kind]) (.int 0)=some t.kind:=yj8 (ts:=[t]) (m:=0) rfl;have gp:oIx (.tup [t.place]) (.int 0)=some t.place:=zr3 (ts:=[t]) (m:=0) rfl;have h3:oIx (wq9 A4 high sh [t]) (.int 3)=some (.tup [t.kind]):=hall3';simp_all!;simp! [h3,gk];simp_all!;simp! [kw];refine xq7 wy hd ?_;by_cases hgo:wv0 t.ways d=true
 ·rw[hgo]
  simp!;simp_all!;simp! [wx4];rw  [zb5];have es:zc7 [t]=.tup [t.place]:=rfl;simp! [es,gp];refine yf6 (p:=(t.x,t.y)) hd ?_;refine yr1 (p:=((t.x,t.y).1+dx d,(t.x,t.y).2+dy d)) (by omega) (by omega) q1 q3 ?_;have ha:cov t.w t.h ((t.x,t.y).1+dx d,(t.x,t.y).2+dy d)=t.ahead d:=rfl;rw[ha];simp!;refine xd9 (λi ρ st'=>∃(x7 x8:Sl),ρ=[Sl.bor (wq9 A4 high sh [t]),.bor (.tup [t.place]),.bor (.dct (.non::ks) vs),.bor (.int 0),.bor (.int d),.bor t.kind,.own (.lst []),x7,x8]/\∀c∈(t.ahead d).take i,c∉sh/\0<=c.1/\c.1<A4/\0<=c.2/\c.2<high) 0 ⟨_,_,rfl,λc hc=>absurd hc (by simp)⟩ (λi e ρ st' he hI P pn pr=>?_) λρ st' hI=>?_
  ·obtain⟨x7,x8,er,F6⟩:=hI
   rw[An0] at he;cases q:(t.ahead d)[i]? with
   | none=>rw[q] at he;cases he
   | some c=>
     rw[q] at he;cases he;subst er;rw[Al0] at F6 pn;have hca:=Ao0 q;refine⟨_,rfl,?_⟩;have gh:wz0 (.dct (.non::ks) vs) (wq7 c) (.int 0)=some (.int ((ww0 (wz8 sh []) c).getD 0)):=xu5 k4;rw[wf3] at gh;simp_all!;simp!;refine⟨ks,vs,rfl,?_⟩;simp! [gh];simp_all!;simp! [zx2];by_cases hsh:c∈sh
     ·rw[if_pos hsh]
      simp! [Option.getD_some,Aq1];exact pr _ _ (hN λok=>(ok.2 c hca).1 hsh)
     ·rw[if_neg hsh]
      have v1:((Option.none:Option Int).getD 0 == -1)=false:=by decide
      rw[v1];simp! [h0,h1];refine xa0 ?_;by_cases hin:zz0 A4 high c=true
      ·rw[hin]
       have hin':=zx6.mp hin;have v2:((Option.none:Option Int).getD 0 == 0)=true:=by decide
       simp! [zx2,v2];refine pn _ _ ⟨_,_,rfl,λc' hc'=>?_⟩;rw[Bk0,q] at hc';rcases Ap0.mp hc' with h | h
       ·exact F6 c' h
       ·have h:c'=c:=by simpa using h
        subst h;exact⟨hsh,hin'⟩
      ·have hin2:zz0 A4 high c=false:=by simpa using hin
       rw[hin2];simp!;exact pr _ _ (hN λok=>hin (zx6.mpr (ok.2 c hca).2))
  ·obtain⟨x7,x8,er,F6⟩:=hI
   subst er;rw[Al0,Aa0,Br0] at F6;simp!;exact hL ⟨hgo,F6⟩
 ·have hgo2:wv0 t.ways d=false:=by simpa using hgo
  rw[hgo2];simp!;exact hN λok=>hgo ok.1
noncomputable def Tr.put(t:Tr)(c:wq8):Tr:={ t with x:=c.1,y:=c.2 }
noncomputable def nxt(c:wq8)(d:Int):wq8:=(c.1+dx d,c.2+dy d)
inductive Rch(A4 high:Int)(sh:List wq8)(t:Tr)(p:wq8):wq8->Prop where
 | self:Rch A4 high sh t p p
 | more {c:wq8} {d:Int}:Rch A4 high sh t p c->Dir d->okT A4 high sh (t.put c) d->Rch A4 high sh t p (nxt c d)
def wl9{A4 high:Int}{sh:List wq8}{t:Tr}{c:wq8}{d:Int}(w1:1<=t.w)(h1:1<=t.h)(h:okT A4 high sh (t.put c) d):nxt c d∈cov A4 high (0,0):=by
 have hm:nxt c d∈(t.put c).ahead d:=zk0.mpr ⟨Int.le_refl _,by show c.1+dx d<c.1+dx d+t.w;omega,Int.le_refl _,by show c.2+dy d<c.2+dy d+t.h;omega⟩;obtain⟨_,a,b,e,f⟩:=h.2 _ hm;exact zk0.mpr ⟨a,by show (nxt c d).1<0+A4;omega,e,by show (nxt c d).2<0+high;omega⟩
theorem Rch.box{A4 high:Int}{sh:List wq8}{t:Tr}{p q:wq8}(w1:1<=t.w)(h1:1<=t.h)(h:Rch A4 high sh t p q):q∈p::cov A4 high (0,0):=by
 cases h with
 | self=>simp
 | more _ _ ok=>exact Ay0 _ (wl9 w1 h1 ok)
theorem zq7{α:Type}[DecidableEq α]:∀{l m:List α},l.Nodup->(∀x∈l,x∈m)->l.length<=m.length
 | [],_,_,_=>Am0 _
 | a::l,m,nd,h=>by
   obtain⟨n1,n2⟩:=Bx0.mp nd;have ha:a∈m:=h a (by simp);have:=zq7 (l:=l) (m:=m.erase a) n2 λx hx=>(List.mem_erase_of_ne (λ(e:x=a)=>n1 (by rw[<-e];exact hx))).mpr (h x (by simp[hx]))
   rw[List.length_erase_of_mem ha] at this;have hp:0<m.length:=List.length_pos_of_mem ha;rw[Ar0];omega
def zs0{A4 high:Int}{sh:List wq8}{t:Tr}{p:wq8}{L:List wq8}(w1:1<=t.w)(h1:1<=t.h)(hw:A4<=9)(hh:high<=9)(nd:L.Nodup)(hr:∀c∈L,Rch A4 high sh t p c):L.length<=82:=by
 have h:=zq7 nd λc hc=>(hr c hc).box w1 h1
 rw[Ar0] at h;have:=zw3 (p:=(0,0)) hw hh;omega
noncomputable def ve9(A4 high:Int)(sh:List wq8)(t:Tr)(p:wq8)(L:List wq8):Prop:=L.Nodup/\L.length<=82/\∀c,c∈L↔Rch A4 high sh t p c
noncomputable def Cl(A4 high:Int)(sh:List wq8)(t:Tr)(L:List wq8)(c:wq8):Prop:=∀d,Dir d->okT A4 high sh (t.put c) d->nxt c d∈L
def Cl.mono{A4 high:Int}{sh:List wq8}{t:Tr}{L M:List wq8}{c:wq8}(h:Cl A4 high sh t L c)(s:∀x∈L,x∈M):Cl A4 high sh t M c:=λd hd ok=>s _ (h d hd ok)
def xm6{A4 high:Int}{sh:List wq8}{t:Tr}{p:wq8}{L:List wq8}(nd:L.Nodup)(hl:L.length<=82)(hp:p∈L)(hr:∀c∈L,Rch A4 high sh t p c)(cl:∀c∈L,Cl A4 high sh t L c):ve9 A4 high sh t p L:=
 ⟨nd,hl,λc=>⟨hr c,λh=>by
  induction h with
  | self=>exact hp
  | more _ hd ok ih=>exact cl _ ih _ hd ok⟩⟩
noncomputable def tt(L:List wq8):List D:=L.map λ_=>D.bl true
noncomputable abbrev zm5(L:List wq8):D:=.dct (.non::L.map wq7) (tt L)
def yv1(L:List wq8):D.immL (tt L)=true:=za8 (λ_=>imm_bl) L
theorem zs6{c:wq8}:∀L:List wq8,wr0 (ck c) (L.map wq7) (tt L)=if c∈L then some (.bl true) else none
 | []=>rfl
 | a::L=>by
   show wr0 (ck c) (wq7 a::L.map wq7) (.bl true::tt L)=_;unfold wr0;rw[zf3,zs6 L];by_cases h:a=c
   ·subst h;simp
   ·have h1:¬some (ck a)=some (ck c):=λz=>h (xo3 (Option.some.inj z))
    have h2:c≠a:=λz=>h z.symm
    rw[if_neg h1];simp[h2]
def xt7{neg:Bool}{c:wq8}{L:List wq8}:ve2 neg (wq7 c) (zm5 L)=some (.bl (if neg then !decide (c∈L) else decide (c∈L))):=by
 show (zc8 (wq7 c)).map (λkk=>D.bl (if neg then !(wr0 kk (L.map wq7) (tt L)).isSome else (wr0 kk (L.map wq7) (tt L)).isSome))=_;rw[zf3];show some (D.bl (if neg then !(wr0 (ck c) (L.map wq7) (tt L)).isSome else (wr0 (ck c) (L.map wq7) (tt L)).isSome))=_;rw[zs6];by_cases h:c∈L<;>simp[h]
def yo2{c:wq8}{L:List wq8}(h:c∉L):wt7 (ck c) (.bl true) (L.map wq7) (tt L)=((L++[c]).map wq7,tt (L++[c])):=by
 unfold wt7;rw[zs6,if_neg h];unfold tt;rw[Bb0,Bb0];rfl
def xc0{W:List wq8}(h:W≠[]):∃(V:List wq8) (c:wq8),W=V++[c]:=⟨W.dropLast,W.getLast h,(List.dropLast_concat_getLast h).symm⟩
def yv7{V:List wq8}{c:wq8}:((V++[c]).map wq7).getLast?=some (wq7 c)/\((V++[c]).map wq7).dropLast=V.map wq7:=by
 rw[Bb0];constructor
 ·exact List.getLast?_concat
 ·exact List.dropLast_concat
def we5{neg:Bool}(h:D.depL l<=29):oEq neg (.lst l) (.lst [])=some (.bl (if neg then !decide (l=[]) else decide (l=[]))):=by
 unfold oEq;rw[if_pos (by unfold D.dep;omega)];cases l<;>simp[D.eqq,D.eqL]
def xo5(l:List wq8):D.depL (l.map wq7)<=29:=Ba0 (ya6 yl1 l) (by decide)
noncomputable def yi0:List D->Res Unit D:=dfn 1 1 zh9.1
def yz9{A4 high:Int}{sh:List wq8}{ts:List Tr}{Q:D->Unit->Prop}{E:Exn->Unit->Prop}(hq:Q (wq9 A4 high sh []) ()):wpR (yi0 [wq9 A4 high sh ts]) Q E:=by
 refine zk4 rfl (by decide) ?_;unfold zh9;dsimp only;have h0:oIx (wq9 A4 high sh ts) (.int 0)=some (.int A4):=rfl;have h1:oIx (wq9 A4 high sh ts) (.int 1)=some (.int high):=rfl;have t0:wx3 []=some (.tup []):=rfl;have tp:wx3 [.int A4,.int high,.tup (sh.map wq7),.tup []]=some (wq9 A4 high sh []):=yj1 (by simp only[D.immL,D.imm,za8 zb0,Bool.and_self]) (by simp);simp! [h0,h1,vh3,t0,tp];exact⟨.inl (by simp only[wq9,D.imm,D.immL,za8 zb0,Cz0,Bool.and_self]),hq⟩
noncomputable def muA(ρ:Rho):Nat:=match ρ[5]? with
 | some (Sl.own (D.dct ks _))=>(match ρ[6]? with
   | some (Sl.own (D.lst w))=>2*(90-ks.length)+w.length
   | _=>0)
 | _=>0
noncomputable def ys6:List D->Res Unit D:=dfn 10 3 (zm7 yj7 yi0 zw0 vr0).1
def xd3{A4 high:Int}{sh:List wq8}{ts:List Tr}{t:Tr}{p:wq8}{Q:D->Unit->Prop}{E:Exn->Unit->Prop}(wh:1<=t.w/\t.w<=9/\1<=t.h/\t.h<=9)(wy:wx9 t.ways)(hw:A4<=9)(hh:high<=9)(shl:sh.length<=81)(hq:∀L,ve9 A4 high sh t p L->Q (.lst ((wr6 L).map prD)) ()):wpR (ys6 [wq9 A4 high sh ts,t.kind,wq7 p]) Q E:=by
 refine zk4 rfl (by decide) ?_;unfold zm7;dsimp only;obtain⟨w1,w9,h1,h9⟩:=wh;have g0':oIx (wq9 A4 high sh ts) (.int 0)=some (.int A4):=rfl;have g1':oIx (wq9 A4 high sh ts) (.int 1)=some (.int high):=rfl;have t0:wx3 []=some (.tup []):=rfl;have tk:wx3 [t.kind]=some (.tup [t.kind]):=rfl;have ci:D.immL (sh.map wq7)=true:=za8 zb0 sh;have tp:wx3 [.int A4,.int high,.tup (sh.map wq7),.tup [t.kind]]=some (wq9 A4 high sh [t]):=yj1 (by simp only[D.immL,D.imm,ci,ze4,Bool.and_self]) (by simp);have es:D.tup []=zc7 []:=rfl;have hf:(wq9 A4 high sh [t]).flat=false:=rfl;have cb:Cfg A4 high sh []:=⟨by simp,shl,λt ht=>nomatch ht⟩;simp_all!;simp! [g0',g1',vh3,tk,tp,hf];simp_all!;simp!;with_reducible refine yz9 ?_
 simp! [t0];rewrite [es];refine xa2 cb λdd hdd=>?_
 have fl:=hdd.flat;simp! [fl];simp_all!;simp! [xe0];refine⟨ck p,zf3 p,?_⟩;have kd1:D.dct [.non,wr2 (ck p)] [.bl true]=zm5 [p]:=rfl;have kf:∀L,(zm5 L).flat=true:=λL=>yv1 L
 have ol:vb9 [wq7 p]=some (.lst ([p].map wq7)):=rfl;have lf:∀l:List wq8,(D.lst (l.map wq7)).flat=true:=λl=>za8 zb0 l
 rewrite [kd1];simp! [kf];simp_all!;simp! [ol,lf];simp_all!;refine yl6 (λρ st=>∃(L W:List wq8) (x7 x8 x9:Sl),ρ=[Sl.bor (wq9 A4 high sh ts),.bor t.kind,.bor (wq7 p),.bor (wq9 A4 high sh [t]),.own dd,.own (zm5 L),.own (.lst (W.map wq7)),x7,x8,x9]/\L.Nodup/\p∈L/\(∀c∈L,Rch A4 high sh t p c)/\(∀c∈W,c∈L)/\(∀c∈L,c∈W\/Cl A4 high sh t L c)/\W.length<=L.length) (λρ _=>muA ρ)
  ⟨[p],[p],_,_,_,rfl,by simp,by simp,λc hc=>by rw[Aq0.mp hc];exact .self,λc hc=>hc,λc hc=>.inl hc,Ad0 _⟩ ?_
 rintro ρ st ⟨L,W,x7,x8,x9,rfl,nd,hp,hr,hs,hcl,hWl⟩ P Z pn pr pz;have hl:=zs0 w1 h1 hw hh nd hr;have l0:vb9 []=some (.lst []):=rfl;simp! [l0,we5 (xo5 W)];by_cases hW:W=[]
 ·have e0:decide (W.map wq7=[])=true:=by simp[hW]
  rw[e0];simp!;refine pz _ ?_;subst hW;have fu:ve9 A4 high sh t p L:=xm6 nd hl hp hr λc hc=>(hcl c hc).resolve_left (by simp)
  have so:yw1 [zm5 L]=some (.lst ((wr6 L).map prD)):=by
   show ((wt1 (L.map prD)).bind λps=>if ps.length<128 then some (D.lst ((wr6 ps).map prD)) else none)=_;rw[zq3,Option.bind_some,if_pos (by omega)]
  simp! [so];exact⟨.inr (zv8 _),hq L fu⟩
 ·have e0:decide (W.map wq7=[])=false:=by simp[hW]
  rw[e0];simp!;obtain⟨V,c,rfl⟩:=xc0 hW;have hcL:c∈L:=hs c (by simp);simp_all!;simp only[wa7];have ll:wr8 [Sl.bor (wq9 A4 high sh ts),.bor t.kind,.bor (wq7 p),.bor (wq9 A4 high sh [t]),.own dd,.own (zm5 L),.own (.lst ((V++[c]).map wq7)),x7,x8,x9] 6=some ((V++[c]).map wq7):=by
   show (if D.immL ((V++[c]).map wq7)=true then some ((V++[c]).map wq7) else none)=_;rw[if_pos (za8 zb0 _)]
  refine⟨_,_,_,ll,yv7.1,rfl,?_⟩;simp! [yv7.2];rw[ze1 (by decide) (by decide)];refine zf5 (λj ρ st=>∃(M U:List wq8) (x8 x9:Sl),ρ=[Sl.bor (wq9 A4 high sh ts),.bor t.kind,.bor (wq7 p),.bor (wq9 A4 high sh [t]),.own dd,.own (zm5 M),.own (.lst (U.map wq7)),.bor (wq7 c),x8,x9]/\M.Nodup/\p∈M/\(∀c∈M,Rch A4 high sh t p c)/\(∀c∈U,c∈M)/\c∈M/\(∀q∈M,q=c\/q∈U\/Cl A4 high sh t M q)/\(∀k:Nat,k<j->okT A4 high sh (t.put c) (k:Int)->nxt c (k:Int)∈M)/\2*(90-M.length)+U.length<=2*(90-L.length)+V.length/\U.length<=M.length) 0
   ⟨L,V,_,_,rfl,nd,hp,hr,λq hq=>hs q (by simp[hq]),hcL,λq hq=>by
    rcases hcl q hq with h | h
    ·rcases Ap0.mp h with h | h
     ·exact .inr (.inl h)
     ·exact .inl (Aq0.mp h)
    ·exact .inr (.inr h),λk hk=>absurd hk (Nat.not_lt_zero _),Ad0 _,by rw[Ai0] at hWl;simp only[Ar0,Ch0] at hWl;omega⟩ (λj e ρ st he hI P2 pn2=>?_) λρ st hI=>?_
  ·obtain⟨M,U,x8,x9,er,nd2,hp2,hr2,hs2,hc2,hcl2,hk2,hm2,hul⟩:=hI
   obtain⟨rfl,hj⟩:=ze0 he;have hj4:j<4:=hj;subst er;rw[Al0] at pn2 hk2;rw[Int.zero_add];have hd:Dir (j:Int):=⟨by omega,by omega⟩;have hl2:=zs0 w1 h1 hw hh nd2 hr2;refine⟨_,rfl,?_⟩;simp_all!;simp!;with_reducible refine yf6 (p:=c) hd ?_
   have ne:(c.1+dx (j:Int),c.2+dy (j:Int))=nxt c (j:Int):=rfl;rewrite [ne];have pf:∀q:wq8,(wq7 q).flat=false:=λ_=>rfl
   simp! [pf,xt7];have keep:(nxt c (j:Int)∈M\/¬okT A4 high sh (t.put c) (j:Int))->∀x8 x9,P2 (.nx [Sl.bor (wq9 A4 high sh ts),.bor t.kind,.bor (wq7 p),.bor (wq9 A4 high sh [t]),.own dd,.own (zm5 M),.own (.lst (U.map wq7)),.bor (wq7 c),x8,x9]) st:=λh x8 x9=>pn2 _ _ ⟨M,U,x8,x9,rfl,nd2,hp2,hr2,hs2,hc2,hcl2,λk hk ok=>by
    by_cases e:k=j
    ·subst e
     rcases h with h | h
     ·exact h
     ·exact absurd ok h
    ·exact hk2 k (by omega) ok,hm2,hul⟩
   by_cases hin:nxt c (j:Int)∈M
   ·simp! [Ap1 hin]
    exact keep (.inl hin) _ _
   ·have st1:wx3 [wq7 c]=some (zc7 [t.put c]):=rfl
    have ha:wq9 A4 high sh [t]=wq9 A4 high sh [t.put c]:=rfl;simp! [Ao1 hin,st1];rewrite [ha];refine wb1 (t:=t.put c) ⟨by show 0<=t.w;omega,w9,by show 0<=t.h;omega,h9⟩ wy hd hdd (λnok=>?_) λok=>?_
    ·have i1:wx8 true .non .non=some (.bl false):=rfl
     simp! [i1];exact keep (.inr nok) _ _
    ·have i2:wx8 true (.lst []) .non=some (.bl true):=rfl
     simp! [i2];simp_all!;simp! [wv2,yv1];refine⟨_,_,rfl,ck (nxt c (j:Int)),zf3 _,yg7 (by rw[Aa0];omega),?_⟩;rewrite [yo2 hin];simp! [wr8,za8 zb0];refine⟨_,zx3 (zb0 _) ?_,pn2 _ _ ⟨M++[nxt c (j:Int)],U++[nxt c (j:Int)],.bor (.int (j:Int)),.bor (wq7 (nxt c (j:Int))),?_,?_,by simp[hp2],λq hq=>?_,λq hq=>?_,by simp[hc2],λq hq=>?_,λk hk ok'=>?_,?_,?_⟩⟩
     ·rw[Aa0];omega
     ·rw[<-ha];simp only[zm5,Bb0,Ax0,Cz0]
     ·exact Cw0.mpr ⟨nd2,by simp,λa ha b hb=>by rw[Aq0.mp hb];intro e;exact hin (e▸ha)⟩
     ·rcases Ap0.mp hq with h | h
      ·exact hr2 q h
      ·rw[Aq0.mp h];exact(hr2 c hc2).more hd ok
     ·rcases Ap0.mp hq with h | h
      ·exact Bo0 _ (hs2 q h)
      ·exact Be0 _ h
     ·rcases Ap0.mp hq with h | h
      ·rcases hcl2 q h with e | e | e
       ·exact .inl e
       ·exact .inr (.inl (Bo0 _ e))
       ·exact .inr (.inr (e.mono λx hx=>Bo0 _ hx))
      ·exact .inr (.inl (Be0 _ h))
     ·by_cases e:k=j
      ·subst e;simp
      ·exact Bo0 _ (hk2 k (by omega) ok')
     ·rw[Ai0,Ai0]
      simp only[Ar0,Ch0];omega
     ·rw[Ai0,Ai0];omega
  ·obtain⟨M,U,x8,x9,er,nd2,hp2,hr2,hs2,hc2,hcl2,hk2,hm2,hul⟩:=hI
   subst er;refine pn _ _ ⟨M,U,_,_,_,rfl,nd2,hp2,hr2,hs2,λq hq=>?_,hul⟩ ?_
   ·rcases hcl2 q hq with e | e | e
    ·subst e
     refine .inr λd hd ok=>?_
     have e:d=((d.toNat:Nat):Int):=by obtain⟨a,b⟩:=hd;omega
     rw[e] at ok ⊢;exact hk2 d.toNat (by obtain⟨a,b⟩:=hd;show d.toNat<0+4;omega) ok
    ·exact .inl e
    ·exact .inr e
   ·show 2*(90-(D.non::M.map wq7).length)+(U.map wq7).length<2*(90-(D.non::L.map wq7).length)+((V++[c]).map wq7).length
    have hl2:=zs0 w1 h1 hw hh nd2 hr2;rw[Ar0,Ar0,Aa0,Aa0,Aa0,Aa0,Ai0];simp only[Ar0,Ch0];omega
structure InH(A4 high:Int)(t:Tr):Prop where
 w1:1<=t.w
 h1:1<=t.h
 x0:0<=t.x
 xw:t.x+t.w<=A4
 y0:0<=t.y
 yh:t.y+t.h<=high
 ways:wx9 t.ways
 st:t.s=0\/t.s=1\/t.s=-1
noncomputable def wu4(t:Tr):D:=.tup [t.kind,t.place]
def yc0(t:Tr):(wu4 t).imm=true:=by
 have h1:=ze4 t;have h2:=zi1 t;simp[wu4,D.imm,D.immL,h1,h2]
noncomputable def xk1:List D->Dr->Res Dr D:=vb2 15 4 (zu2 zi5 wt0 vc2 vb7).1
open H in
def xq8{A4 high much:Int}{st:Dr}{Q:D->Dr->Prop}{E:Exn->Dr->Prop}(hs:st.2<2 ^ 38)(w1:1<=A4)(w3:A4<=3)(h1:1<=high)(h4:high<=4)(hm1:1<=much)(hm2:much<=1000000000000)(hq:∀(sh:List wq8) (ts:List Tr) st',sh.length<=12->(∀c∈sh,c∈cov A4 high (0,0))->ts.length<=4->(∀t∈ts,InH A4 high t)->st'.2<=st.2+100->Q (.tup [.lst (sh.map wq7),.lst (ts.map wu4)]) st'):wpR (xk1 [.int A4,.int high,.int much] st) Q E:=by
 refine zw5 rfl (by decide) ?_;unfold zu2;dsimp only;simp_all!;simp! [vb8,wt2];refine zi9 (ways:="none") (s:=0) (p:=(0,0)) (by omega) (by omega) (by omega) (by omega) ?_;simp! [za8 zb0];simp_all!;simp!;have hc12:(cov A4 high (0,0)).length<=12:=by
  rw[zs7];exact zn6 (c:=3) (d:=4) (by omega) (by omega)
 refine zz3 (λn acc ρ st'=>∃sh x,acc=sh.map wq7/\(sh.length<=n/\∀c∈sh,c∈cov A4 high (0,0))/\ρ=[x,Sl.hnd]/\st'.2<=st.2+n) 0 ⟨[],_,rfl,⟨by simp,λc h=>by cases h⟩,rfl,by simp⟩ (λi d acc ρ st' hd hI=>?_) λacc ρ st' hI=>?_
 ·obtain⟨sh,x,e1,e2,e3,e4⟩:=hI
  rw[An0] at hd;cases q:(cov A4 high (0,0))[i]? with
  | none=>rw[q] at hd;cases hd
  | some c=>
    rw[q] at hd;cases hd;subst e1 e3;have hi:i<(cov A4 high (0,0)).length:=(Ae0.mp q).1;rw[Al0] at e2 e4;obtain⟨e2,e5⟩:=e2;refine⟨_,rfl,?_⟩;simp!;refine zc4 (by decide) (by decide) (by omega) λv st2 a2 b2 c2=>?_
    simp! [oEq,D.dep,D.eqq,Am0,Aw0];split
    ·refine⟨zb0 c,lt_size (by rw[Aa0];omega),sh++[c],_,by rw[Bb0];rfl,⟨by rw[Ai0];simp;omega,λb hb=>?_⟩,rfl,by omega⟩
     rcases Ap0.mp hb with hb | hb
     ·exact e5 b hb
     ·rw[Aq0.mp hb];exact Ao0 q
    ·exact⟨sh,_,rfl,⟨by omega,e5⟩,rfl,by omega⟩
 ·obtain⟨sh,x,e1,e2,e3,e4⟩:=hI
  subst e1;rw[Al0,Aa0] at e2 e4;have hsh:sh.length<=12:=Ba0 e2.1 hc12;simp! [za8 zb0];simp_all!;simp!;refine zd9 wv8 (λρ=>∃x,ρ=[x]) ⟨_,rfl⟩ (λd hd ρ hI125=>?_) (zf6 (by rw[Aa0];omega)) ?_
  ·obtain⟨x,e⟩:=hI125
   subst e;obtain⟨c,hc,rfl⟩:=Au0.mp hd;refine⟨_,rfl,⟨_,rfl⟩,⟨rfl,rfl⟩,?_⟩;simp! [wt2,zb0,wv8]
  ·have od:ve1 [.lst ((sh.map wq7).map wv8)]=some (.dct (.non::(zf8 (sh.map λc=>(ck c,.bl true)) ([],[])).1) (zf8 (sh.map λc=>(ck c,.bl true)) ([],[])).2):=by
    show (if ((sh.map wq7).map wv8).length<sizeLine then (zq4 ((sh.map wq7).map wv8)).map _ else none)=_;rw[if_pos (lt_size (by simp;omega)),yg2];rfl
   have hh:=Holds.all (ps:=sh.map λc=>(ck c,D.bl true)) (Holds.nil (n:=0)) (λp hp=>by obtain⟨c,_,rfl⟩:=Au0.mp hp;exact imm_bl);have hT:Holds (.dct (.non::(zf8 (sh.map λc=>(ck c,.bl true)) ([],[])).1) (zf8 (sh.map λc=>(ck c,.bl true)) ([],[])).2) sh.length (inT sh):=hh.imp (by simp) λk=>by
    simp only[false_or,Au0,inT];constructor
    ·rintro ⟨p,⟨c,hc,rfl⟩,e⟩;exact⟨c,hc,e⟩
    ·rintro ⟨c,hc,e⟩;exact⟨_,⟨c,hc,rfl⟩,e⟩
   rw[od];generalize D.dct (.non::(zf8 (sh.map λc=>(ck c,.bl true)) ([],[])).1) (zf8 (sh.map λc=>(ck c,.bl true)) ([],[])).2=tk at hT;have fl:=hT.flat;simp! [fl];simp_all!;simp! [wx4];simp_all!;simp!;simp_all!;simp!;refine zc4 (by decide) (by decide) (by omega) λv2 st2 a2 b2 c2=>?_
   simp! [ws0,ws9];rw[ze1 (by omega) (by omega)];refine zf5 (λi ρ st''=>∃(ts:List Tr) (T:List wq8) (tk:D) (A9:Int) (y9 y10 y11 y12 y13 y14:Sl),ρ=[Sl.hnd,.bor (.int A4),.bor (.int high),.bor (.int much),.own (.lst ((cov A4 high (0,0)).map wq7)),.own (.lst (sh.map wq7)),.own tk,.own (.lst (ts.map wu4)),.bor (.int A9),y9,y10,y11,y12,y13,y14]/\(∀t∈ts,InH A4 high t)/\ts.length<=4/\Holds tk (81+81*i) (inT T)/\1<=A9/\A9<=much/\st''.2<=st2.2+13*i) 0 ⟨[],sh,tk,1,_,_,_,_,_,_,rfl,λt ht=>(by cases ht),by simp,hT.imp (by omega) λ_=>Iff.rfl,by omega,by omega,by simp⟩ (λi d ρ st'' hd hI P pn=>?_) λρ st'' hI=>?_
   ·obtain⟨ts,T,tk,A9,y9,y10,y11,y12,y13,y14,er,ho,hts,hT,hr1,hr2,hst⟩:=hI
    obtain⟨rfl,hi⟩:=ze0 hd;subst er;rw[Al0] at hT hst;have hb2:st''.2<2 ^ 38+1000:=by omega
    have hi30:i<30:=by omega
    clear hs e4 c2 hi;refine⟨_,rfl,?_⟩;simp_all!;simp!;refine xd7 (by omega) w1 (by omega) h1 (by omega) (λe=>by cases e) λa u ways s st3 g1 g2 g3 g4 g5 g6 t3=>?_
    have kf:(kd a u ways s).flat=false:=rfl;simp! [kf];simp_all!;simp! [kd,oIx,at0,at1,ws9,ws0];refine zc4 (by omega) (by omega) (by omega) λx st4 a4 b4 c4=>?_
    refine zc4 (by omega) (by omega) (by omega) λy st5 a5 b5 c5=>?_
    simp! [wt2];simp_all!;simp!;refine zi9 (p:=(x,y)) (by omega) (by omega) (by omega) (by omega) ?_;simp! [za8 zb0];simp_all!;simp!;refine xd2 (by omega) (by omega) (by omega) (by omega) g5 ?_;have hroom:1<=zt2 A4 high a u ways/\zt2 A4 high a u ways<=81:=by
     have z1:1<=A4-a+1/\A4-a+1<=9:=by omega
     have z2:1<=high-u+1/\high-u+1<=9:=by omega
     unfold zt2;split
     ·constructor
      ·have:=Int.mul_le_mul z1.1 z2.1 (by omega) (by omega);omega
      ·have:=Int.mul_le_mul z1.2 z2.2 (by omega) (by omega);omega
     ·split
      ·omega
      ·split<;>omega
    generalize zt2 A4 high a u ways=room at hroom;have hown:(cov a u (x,y)).length<=81:=zw3 (by omega) (by omega);have cm:va9 A9 room:=.inr ⟨by omega,by omega⟩;simp! [wz7,Aa0,ws9,zn3 cm];split
    ·rename_i hlen
     have hlen:ts.length<4:=by have:=of_decide_eq_true hlen;omega
     split
     ·rename_i hle
      have hle:A9*room<=much:=of_decide_eq_true hle;refine zd9 (vr4 T) (λρ=>∃x,ρ=[x,.bor tk]) ⟨_,rfl⟩ (λd hd ρ hI126=>?_) (zf6 (by rw[Aa0];omega)) ?_
      ·obtain⟨x',e⟩:=hI126
       subst e;obtain⟨c,hc',rfl⟩:=Au0.mp hd;refine⟨_,rfl,⟨_,rfl⟩,⟨rfl,rfl⟩,?_⟩;simp! [(hT.in_ (zf3 c) (b:=decide (c∈T)) (by rw[decide_eq_true_eq,xy8])).1];rfl
      ·rw[yx4]
       simp! [zy2,zj1,Aw0];split
       ·have hpos:1<=A9*room:=by have:=Int.mul_le_mul hr1 hroom.1 (by omega) (by omega);omega
        simp_all!;simp! [zn3 cm];simp_all!;have ot:wx3 [D.tup [.int a,.int u,.str ways,.int s],D.tup [.int x,.int y]]=some (wu4 ⟨a,u,ways,s,x,y⟩):=wt2 (by simp[D.imm,D.immL]) (by simp[D.imm,D.immL]);simp! [wr8,za8 yc0,ot];refine⟨_,zx3 (yc0 _) (by rw[Aa0];omega),?_⟩;simp!;refine zf5 (λj ρ st''=>∃(tk':D) (y14:Sl),ρ=[Sl.hnd,.bor (.int A4),.bor (.int high),.bor (.int much),.own (.lst ((cov A4 high (0,0)).map wq7)),.own (.lst (sh.map wq7)),.own tk',.own (.lst (ts.map wu4++[wu4 ⟨a,u,ways,s,x,y⟩])),.bor (.int (A9*room)),.bor (.int (0+(i:Int))),.bor (D.tup [.int a,.int u,.str ways,.int s]),.bor (D.tup [.int x,.int y]),.bor (.lst ((cov a u (x,y)).map wq7)),.bor (.int room),y14]/\Holds tk' (81+81*i+j) (inT (T++(cov a u (x,y)).take j))/\st''=st5) 0 ⟨tk,_,rfl,by simpa using hT,rfl⟩ (λj d ρ st'' hd hI P2 pn2=>?_) λρ st'' hI=>?_
        ·obtain⟨tk',y14,er,hT',es⟩:=hI
         rw[An0] at hd;cases q:(cov a u (x,y))[j]? with
         | none=>rw[q] at hd;cases hd
         | some c=>
           rw[q] at hd;cases hd;subst er es;have hj:j<(cov a u (x,y)).length:=(Ae0.mp q).1;obtain⟨ks,vs,rfl,k1,k2,k3,k4⟩:=id hT';refine⟨_,rfl,?_⟩;simp! [wv2,k1,zf3];refine⟨ks,vs,rfl,yg7 (by omega),pn2 _ _ ⟨_,_,rfl,?_,rfl⟩⟩;refine(hT'.put (k:=ck c) (v:=.bl true) imm_bl).imp (by omega) λk=>?_
           rw[Al0,Bk0,q];simp only[inT,Ap0,Option.toList,Aq0];constructor
           ·rintro (⟨c',h1,h2⟩ | h)
            ·exact⟨c',by rcases h1 with h1 | h1<;>simp[h1],h2⟩
            ·exact⟨c,by simp,h⟩
           ·rintro ⟨c',h1,h2⟩
            rcases h1 with h1 | h1 | h1
            ·exact .inl ⟨c',.inl h1,h2⟩
            ·exact .inl ⟨c',.inr h1,h2⟩
            ·subst h1;exact .inr h2
        ·obtain⟨tk',y14,er,hT',es⟩:=hI
         subst er es;rw[Al0,Aa0,Br0] at hT';refine pn _ _ ⟨ts++[⟨a,u,ways,s,x,y⟩],T++cov a u (x,y),tk',A9*room,.bor (.int (0+(i:Int))),.bor (D.tup [.int a,.int u,.str ways,.int s]),.bor (D.tup [.int x,.int y]),.bor (.lst ((cov a u (x,y)).map wq7)),.bor (.int room),y14,?_,λt ht=>?_,by rw[Ai0];simp;omega,hT'.imp (by omega) λ_=>Iff.rfl,hpos,hle,by omega⟩
         ·rw[Bb0];rfl
         ·rcases Ap0.mp ht with ht | ht
          ·exact ho t ht
          ·rw[Aq0.mp ht]
           exact⟨g1,g3,a4,by show x+a<=A4;omega,a5,by show y+u<=high;omega,g5,g6⟩
       ·exact pn _ _ ⟨ts,T,tk,A9,_,_,_,_,_,_,rfl,ho,hts,hT.imp (by omega) λ_=>Iff.rfl,hr1,hr2,by omega⟩
     ·exact pn _ _ ⟨ts,T,tk,A9,_,_,_,_,_,_,rfl,ho,hts,hT.imp (by omega) λ_=>Iff.rfl,hr1,hr2,by omega⟩
    ·exact pn _ _ ⟨ts,T,tk,A9,_,_,_,_,_,_,rfl,ho,hts,hT.imp (by omega) λ_=>Iff.rfl,hr1,hr2,by omega⟩
   ·obtain⟨ts,T,tk,A9,y9,y10,y11,y12,y13,y14,er,ho,hts,hT,hr1,hr2,hst⟩:=hI
    subst er;rw[ze3,Al0] at hst;have o5:own? [Sl.hnd,.bor (.int A4),.bor (.int high),.bor (.int much),.own (.lst ((cov A4 high (0,0)).map wq7)),.own (.lst (sh.map wq7)),.own tk,.own (.lst (ts.map wu4)),.bor (.int A9),y9,y10,y11,y12,y13,y14] 5=some (.lst (sh.map wq7)):=if_pos (za8 zb0 sh);have o7:own? [Sl.hnd,.bor (.int A4),.bor (.int high),.bor (.int much),.own (.lst ((cov A4 high (0,0)).map wq7)),.own (.lst (sh.map wq7)),.own tk,.own (.lst (ts.map wu4)),.bor (.int A9),y9,y10,y11,y12,y13,y14] 7=some (.lst (ts.map wu4)):=if_pos (za8 yc0 ts);have ot:vg6 [.lst (sh.map wq7),.lst (ts.map wu4)]=some (.tup [.lst (sh.map wq7),.lst (ts.map wu4)]):=if_pos (show 2<=sizeLine by decide);simp! [xq5,wb6];refine⟨_,o5,_,o7,?_⟩;simp! [ot];exact hq sh ts st'' hsh e2.2 hts ho (by omega)
def InH.mono{w w' h:Int}{t:Tr}(i:InH w h t)(e:w<=w'):InH w' h t:=⟨i.w1,i.h1,i.x0,by have:=i.xw;omega,i.y0,i.yh,i.ways,i.st⟩
structure HC(A4 high:Int)(sh:List wq8)(ts:List Tr):Prop where
 few:ts.length<=12
 w:A4<=9
 h:high<=9
 shl:sh.length<=81
 tr:∀t∈ts,InH A4 high t
 shb:∀c∈sh,0<=c.1/\c.1<=9/\0<=c.2/\c.2<=9
 w0:0<=A4
 h0:0<=high
noncomputable def xf2:List D->Dr->Res Dr D:=vb2 14 2 (zr7 wt0 xk1).1
def xb1{l:List wq8}(h:l.length<=127):xj4 [.lst (l.map wq7)]=some (.lst ((wr6 l).map wq7)):=by
 show (wt1 (l.map prD)).bind (λps=>if ps.length<128 then some (D.lst ((wr6 ps).map prD)) else none)=_;rw[zq3,Option.bind_some,if_pos (by omega)];rfl
noncomputable def xw9(b:Int):D->D
 | .tup [.int x,.int y]=>wq7 (b+x,y)
 | _=>.non
noncomputable def vj2(b:Int):D->D
 | .int y=>wq7 (b,y)
 | _=>.non
def xt5{α:Type}{n:Nat}{x y:α}{l:List α}(h:y∈wy4 n x l):y=x\/y∈l:=by
 unfold wy4 at h;rcases Ap0.mp h with h | h
 ·exact .inr (Cm0 h)
 ·rcases Aj0.mp h with h | h
  ·exact .inl h
  ·exact .inr (List.mem_of_mem_drop h)
def we9{α β:Type}{f:α->β}{n:Nat}{x:α}{l:List α}:(wy4 n x l).map f=wy4 n (f x) (l.map f):=by
 unfold wy4;simp[List.map_take,List.map_drop]
def wf2{α:Type}{n:Nat}{x:α}{l:List α}:(wy4 n x l).length=l.length+1:=by
 unfold wy4;simp;omega
def xt8(ts:List Tr):(ts.map wu4).map (λd=>match d with | .tup [k,_]=>k | _=>D.non)=ts.map Tr.kind:=by rw[Bm0];rfl
def xh6(ts:List Tr):(ts.map wu4).map (λd=>match d with | .tup [_,p]=>p | _=>D.non)=ts.map Tr.place:=by rw[Bm0];rfl
noncomputable def Bd(b:Int)(sh:List wq8):Prop:=∀c∈sh,0<=c.1/\c.1<=b/\0<=c.2/\c.2<=9
def xq3{much:Int}{st:Dr}{Q:D->Dr->Prop}{E:Exn->Dr->Prop}(hs:st.2<2 ^ 37)(hm1:1<=much)(hm2:much<=1000000000000)(hq:∀A4 high sh ts st',HC A4 high sh ts->st'.2<=st.2+500->Q (.tup [wq9 A4 high sh ts,zc7 ts]) st'):wpR (xf2 [.int much] st) Q E:=by
 refine zw5 rfl (by decide) ?_;unfold zr7;dsimp only;simp_all!;simp!;refine zc4 (by decide) (by decide) (by omega) λv1 st1 a1 b1 c1=>?_
 obtain⟨many,em,wm,hmw⟩:∃many:Int,2+(if (v1 == 0)=true then (1:Int) else 0)=many/\∃wm:Int,(many=2/\wm=3\/many=3/\wm=2):=by
  by_cases e:(v1 == 0)=true
  ·exact⟨3,by rw[if_pos e];rfl,2,.inr ⟨rfl,rfl⟩⟩
  ·exact⟨2,by rw[if_neg e];rfl,3,.inl ⟨rfl,rfl⟩⟩
 have hm23:2<=many/\many<=3:=by omega
 have oi:vl0 [.bl (v1 == 0)]=some (.int (if (v1 == 0)=true then 1 else 0)):=rfl;simp! [zx2,oi,ws0,ws9,em];simp_all!;simp!;refine zc4 (by decide) (by decide) (by omega) λv2 st2 a2 b2 c2=>?_
 obtain⟨high,eh,h1,h4⟩:∃high:Int,1+v2=high/\1<=high/\high<=4:=⟨_,rfl,by omega,by omega⟩;simp! [ws0,ws9,eh];simp_all!;simp! [wx4];simp_all!;simp! [wx4];simp_all!;simp!;simp_all!;simp!;rw[ze1 (by omega) (by omega)];refine zf5 (λi ρ st''=>∃(sh:List wq8) (ts:List Tr) (b:Int) (y7 y8 y9 y10 y11 y12 y13:Sl),ρ=[Sl.hnd,.bor (.int much),.bor (.int many),.bor (.int high),.own (.lst (sh.map wq7)),.own (.lst (ts.map wu4)),.bor (.int b),y7,y8,y9,y10,y11,y12,y13]/\
  (∀t∈ts,InH b high t)/\ts.length<=4*i/\(sh.length<=16*i/\Bd b sh)/\0<=b/\b<=4*i/\(many=3->b<=3*i)/\st''.2<=st2.2+105*i) 0 ⟨[],[],0,_,_,_,_,_,_,_,rfl,λt ht=>(by cases ht),by simp,⟨by simp,λc h=>by cases h⟩,by omega,by omega,λ_=>by omega,by simp⟩ (λi d ρ st'' hd hI P pn=>?_) λρ st'' hI=>?_
 ·obtain⟨sh,ts,b,y7,y8,y9,y10,y11,y12,y13,er,ht,htl,hsl,b0,b4,b3,hst⟩:=hI
  obtain⟨rfl,hi⟩:=ze0 hd;subst er;rw[Al0] at htl hsl b4 b3 hst;have hi3:i<3:=by omega
  obtain⟨hsl,hbd⟩:=hsl;refine⟨_,rfl,?_⟩;simp_all!;have ix:oIx (.lst [.int 3,.int 2]) (.int (many-2))=some (.int wm):=by rcases hmw with⟨r1,r2⟩ | ⟨r1,r2⟩<;>subst r1 r2<;>rfl
  simp! [ve0,ws9,ix];refine zc4 (by omega) (by omega) (by omega) λv3 st3 a3 b3' c3=>?_
  obtain⟨A4,ew,w1,w3,w2⟩:∃A4:Int,1+v3=A4/\1<=A4/\A4<=3/\(many=3->A4<=2):=⟨_,rfl,by omega,by omega,by omega⟩;simp! [ws0,ws9,ew];simp_all!;simp!;with_reducible refine xq8 (by omega) w1 w3 h1 h4 hm1 hm2 λsh2 ts2 st4 hs2 hc2 ht2 hi2 c4=>?_
  simp!;have lf:∀l:List wq8,D.immL (l.map wq7)=true:=λl=>za8 zb0 l
  refine zm6 (λρ st'=>∃(sh':List wq8) (b':Int),ρ=[Sl.hnd,.bor (.int much),.bor (.int many),.bor (.int high),.own (.lst (sh'.map wq7)),.own (.lst (ts.map wu4)),.bor (.int b'),.bor (.int (0+(i:Int))),.bor (.int A4),.bor (.lst (sh2.map wq7)),.bor (.lst (ts2.map wu4)),y11,y12,y13]/\(sh'.length<=sh.length+4/\Bd b' sh')/\b<=b'/\b'<=b+1/\st'=st4) (λP1 pn1=>?_) λρ st' hI=>?_
  ·simp! [ws9]
   by_cases h0:0+(i:Int)>0
   ·rw[Ap1 h0]
    simp!;simp_all!;simp! [wr8,lf];rw[ze1 (by omega) (by omega)];refine zd9 (vj2 b) (λρ=>∃x,ρ=[x,.bor (.int b)]) ⟨_,rfl⟩ (λd hd ρ hI127=>?_) (zf6 (by rw[ze3];omega)) ?_
    ·obtain⟨x,e⟩:=hI127
     subst e;obtain⟨j,hj⟩:=List.getElem?_of_mem hd;obtain⟨rfl,hj'⟩:=ze0 hj;refine⟨_,rfl,⟨_,rfl⟩,⟨rfl,rfl⟩,?_⟩;simp! [wt2];rfl
    ·obtain⟨ws,ew2,lw,bw⟩:∃ws:List wq8,(zl1 0 high.toNat).map (vj2 b)=ws.map wq7/\ws.length<=4/\∀c∈ws,c.1=b/\0<=c.2/\c.2<=9:=⟨(List.range high.toNat).map λ(j:Nat)=>(b,0+(j:Int)),by unfold zl1;rw[Bm0,Bm0];rfl,by rw[Aa0,Cj0];omega,λc hc=>by
      obtain⟨j,hj,rfl⟩:=Au0.mp hc;have:=Bv0.mp hj;exact⟨rfl,by show 0<=0+(j:Int);omega,by show 0+(j:Int)<=9;omega⟩⟩
     rw[ew2];refine⟨_,yc9 (lf _) (by rw[Aa0,Aa0];omega),?_⟩;simp! [ws0,ws9];refine pn1 _ _ ⟨sh++ws,b+1,by rw[Bb0],⟨by rw[Ai0];omega,λc hc=>?_⟩,by omega,by omega,rfl⟩;rcases Ap0.mp hc with hc | hc
     ·have:=hbd c hc;omega
     ·have:=bw c hc;omega
   ·rw[Ao1 h0]
    simp!;exact pn1 _ _ ⟨sh,b,rfl,⟨by omega,hbd⟩,by omega,by omega,rfl⟩
  ·obtain⟨sh',b',er,⟨hs',hbd'⟩,hb1,hb2,rfl⟩:=hI
   subst er;simp_all!;simp! [wr8,lf];refine zd9 (xw9 b') (λρ=>∃x y,ρ=[x,y,.bor (.int b')]) ⟨_,_,rfl⟩ (λd hd ρ hI128=>?_) (zf6 (by rw[Aa0];omega)) ?_
   ·obtain⟨x,y,e⟩:=hI128
    subst e;obtain⟨c,hc',rfl⟩:=Au0.mp hd;refine⟨_,rfl,⟨_,_,rfl⟩,⟨rfl,rfl⟩,?_⟩;simp! [ws0,ws9,wt2];rfl
   ·have es:(sh2.map wq7).map (xw9 b')=(sh2.map λc=>(b' + c.1,c.2)).map wq7:=by rw[Bm0,Bm0];rfl
    rw[es];refine⟨_,yc9 (lf _) (by rw[Aa0,Aa0,Aa0];omega),?_⟩;rw[<-Bb0];obtain⟨sh3,e3,l3,bd3⟩:∃sh3:List wq8,sh'++sh2.map (λc=>(b' + c.1,c.2))=sh3/\sh3.length<=16*(i+1)/\Bd (b' + A4) sh3:=⟨_,rfl,by rw[Ai0,Aa0];omega,λc hc=>by
     rcases Ap0.mp hc with hc | hc
     ·have:=hbd' c hc;omega
     ·obtain⟨e,he,rfl⟩:=Au0.mp hc
      obtain⟨k1,k2,k3,k4⟩:=zk0.mp (hc2 e he);simp only at k1 k2 k3 k4 ⊢;omega⟩
    rw[e3];simp!;refine zm6 (λρ st''=>∃(ts3:List Tr) (y11 y12:Sl),ρ=[Sl.hnd,.bor (.int much),.bor (.int many),.bor (.int high),.own (.lst (sh3.map wq7)),.own (.lst (ts3.map wu4)),.bor (.int b'),.bor (.int (0+(i:Int))),.bor (.int A4),.bor (.lst (sh2.map wq7)),.bor (.lst (ts2.map wu4)),y11,y12,y13]/\ts3.length<=4*(i+1)/\(∀t∈ts3,InH (b' + A4) high t)/\st''.2<=st'.2+4) (λP1 pn1=>?_) λρ st'' hI=>?_
    ·simp!
     refine zf5 (λj ρ st''=>∃(ts3:List Tr) (y11 y12:Sl),ρ=[Sl.hnd,.bor (.int much),.bor (.int many),.bor (.int high),.own (.lst (sh3.map wq7)),.own (.lst (ts3.map wu4)),.bor (.int b'),.bor (.int (0+(i:Int))),.bor (.int A4),.bor (.lst (sh2.map wq7)),.bor (.lst (ts2.map wu4)),y11,y12,y13]/\ts3.length=ts.length+j/\(∀t∈ts3,InH (b' + A4) high t)/\st''.2<=st'.2+j) 0 ⟨ts,_,_,rfl,rfl,λt h=>(ht t h).mono (by omega),by omega⟩ (λj d ρ st'' hd hI P2 pn2=>?_) λρ st'' hI=>?_
     ·obtain⟨ts3,y11,y12,er,hl3,hi3',hst3⟩:=hI
      rw[An0] at hd;cases q:ts2[j]? with
      | none=>rw[q] at hd;cases hd
      | some t=>
        rw[q] at hd;cases hd;have hj:j<ts2.length:=(Ae0.mp q).1;have tin:=hi2 t (Ao0 q);subst er;rw[Al0] at hl3 hst3;have ln:wz7 [.lst (ts3.map wu4)]=some (.int ts3.length):=by unfold wz7;simp
        have p0:oIx t.place (.int 0)=some (.int t.x):=rfl;have p1:oIx t.place (.int 1)=some (.int t.y):=rfl;have kp':t.kind.imm=true:=ze4 t;have ot:wx3 [.int (b' + t.x),.int t.y]=some (wq7 (b' + t.x,t.y)):=rfl;have ot2:wx3 [t.kind,wq7 (b' + t.x,t.y)]=some (wu4 { t with x:=b' + t.x }):=wt2 (ze4 t) (zb0 _);refine⟨_,rfl,?_⟩;simp! [wa8,wr8,za8 yc0,ln,ws0,ws9];refine zc4 (by omega) (by omega) (by omega) λv st5 a5 b5 c5=>?_
        simp! [p0,p1,ws0,ws9,ot,ot2];refine⟨_,(show vq6 (ts3.map wu4) [.int v,wu4 { t with x:=b' + t.x }]=some (wy4 v.toNat (wu4 { t with x:=b' + t.x }) (ts3.map wu4)) from if_pos ⟨yc0 _,a5,by rw[Aa0];omega,lt_size (by rw[Aa0];omega)⟩),?_⟩;rw[<-we9];refine pn2 _ _ ⟨wy4 v.toNat { t with x:=b' + t.x } ts3,_,_,rfl,by rw[wf2];omega,λu hu=>?_,by omega⟩;rcases xt5 hu with r | r
        ·rw[r]
         exact⟨tin.w1,tin.h1,by have:=tin.x0;show 0<=b' + t.x;omega,by have:=tin.xw;show b' + t.x+t.w<=b' + A4;omega,tin.y0,tin.yh,tin.ways,tin.st⟩
        ·exact hi3' u r
     ·obtain⟨ts3,y11,y12,er,hl3,hi3',hst3⟩:=hI
      rw[Al0,Aa0] at hl3 hst3;exact pn1 _ _ ⟨ts3,y11,y12,er,by omega,hi3',by omega⟩
    ·obtain⟨ts3,y11,y12,er,hl3,hi3',hst3⟩:=hI
     subst er;simp! [ws0,ws9];exact pn _ _ ⟨sh3,ts3,b' + A4,_,_,_,_,_,_,_,rfl,hi3',by omega,⟨by omega,bd3⟩,by omega,by omega,λe=>by have:=w2 e;have:=b3 e;omega,by omega⟩
 ·obtain⟨sh,ts,b,y7,y8,y9,y10,y11,y12,y13,er,ht,htl,hsl,b0,b4,b3,hst⟩:=hI
  subst er;rw[ze3,Al0] at htl hsl b4 b3 hst;have hm3:many.toNat<=3:=by omega
  have hb9:b<=9:=by rcases hmw with⟨r1,r2⟩ | ⟨r1,r2⟩<;>subst r1 r2<;>omega
  obtain⟨hsl,hbd⟩:=hsl;have hl48:sh.length<=48:=by omega
  have hl12:ts.length<=12:=by omega
  simp_all!;simp!;refine zd9 (λd=>match d with | .tup [k,_]=>k | _=>D.non) (λρ=>∃x y,ρ=[x,y]) ⟨_,_,rfl⟩ (λd hd ρ hI129=>?_) (zf6 (by rw[Aa0];omega)) ?_
  ·obtain⟨x,y,e⟩:=hI129
   subst e;obtain⟨t,ht',rfl⟩:=Au0.mp hd;refine⟨_,rfl,⟨_,_,rfl⟩,⟨rfl,rfl⟩,?_⟩;have:=ze4 t;simp! [wu4,this]
  rw[xt8];have tk:yg5 [.lst (ts.map Tr.kind)]=some (.tup (ts.map Tr.kind)):=if_pos (za8 ze4 ts);have tp:yg5 [.lst (ts.map Tr.place)]=some (.tup (ts.map Tr.place)):=if_pos (za8 zi1 ts);have tc:yg5 [.lst ((wr6 sh).map wq7)]=some (.tup ((wr6 sh).map wq7)):=if_pos (za8 zb0 _);simp! [tk,xb1 (l:=sh) (by omega),tc,vb8,za8 zb0,za8 ze4];refine zd9 (λd=>match d with | .tup [_,p]=>p | _=>D.non) (λρ=>∃x y,ρ=[x,y]) ⟨_,_,rfl⟩ (λd hd ρ hI130=>?_) (zf6 (by rw[Aa0];omega)) ?_
  ·obtain⟨x,y,e⟩:=hI130
   subst e;obtain⟨t,ht',rfl⟩:=Au0.mp hd;refine⟨_,rfl,⟨_,_,rfl⟩,⟨rfl,rfl⟩,?_⟩;have:=zi1 t;simp! [wu4,this]
  rw[xh6];simp! [tp,wt2,za8 zb0,za8 ze4,za8 zi1];exact hq b high (wr6 sh) ts st'' ⟨hl12,hb9,by omega,by rw[(zg1 sh).length_eq];omega,ht,λc hc=>by have:=hbd c ((zg1 sh).mem_iff.mp hc);omega,by omega,by omega⟩ (by omega)
noncomputable def vg1:List D->Dr->Res Dr D:=vb2 2 2 (zk2 wt0 xf2 vh2).1
def yl7{st:Dr}{Q:D->Dr->Prop}{E:Exn->Dr->Prop}(hs:st.2<2 ^ 36)(hq:∀A4 high sh ts st',HC A4 high sh ts->st'.2<=st.2+510->Q (.tup [wq9 A4 high sh ts,zc7 ts]) st'):wpR (vg1 [.int 1000000] st) Q E:=by
 refine zw5 rfl (by decide) ?_;unfold zk2;dsimp only;have hi:∀A4 high sh ts,(D.tup [wq9 A4 high sh ts,zc7 ts]).imm=true:=λA4 high sh ts=>by
  have h1:D.immL (sh.map wq7)=true:=za8 zb0 sh;have h2:D.immL (ts.map Tr.kind)=true:=za8 ze4 ts;have h3:D.immL (ts.map Tr.place)=true:=za8 zi1 ts;simp[wq9,zc7,D.imm,D.immL,h1,h2,h3]
 simp_all!;simp!;refine zc4 (by decide) (by decide) (by omega) λv1 st1 a1 b1 c1=>?_
 simp! [ws9];by_cases h0:v1>0
 ·rw[Ap1 h0]
  simp!;with_reducible refine xq3 (by omega) (by decide) (by decide) λA4 high sh ts st' hc t=>?_
  simp! [hi];exact hq A4 high sh ts st' hc (by omega)
 ·rw[Ao1 h0]
  have cm:vd9 (.int 1000000) (.int 4)=some (.int 4000000):=zn3 (.inl ⟨by decide,by decide⟩);simp!;refine zc4 (by decide) (by decide) (by omega) λv2 st2 a2 b2 c2=>?_
  simp! [zx2,cm];with_reducible refine wb3 (by omega) (by decide) (by decide) λA4 high sh ts st' ho t=>?_
  simp! [hi];refine hq A4 high sh ts st' ⟨ho.few,ho.w9,ho.h9,Ba0 ho.sub.length_le (zw3 ho.w9 ho.h9),λt ht=>?_,λc hc=>?_,by have:=ho.w1;omega,by have:=ho.h1;omega⟩ (by omega)
  ·have to:=ho.tr t ht
   exact⟨to.w1,to.h1,to.x0,to.xw,to.y0,to.yh,to.ways,to.st⟩
  ·obtain⟨k1,k2,k3,k4⟩:=zk0.mp (ho.sub.subset hc)
   have:=ho.w9;have:=ho.h9;simp only at k1 k2 k3 k4;omega
noncomputable def yj3:List D->Res Unit D:=dfn 13 3 (zk3 yu2 zi5 vh4).1
noncomputable def muL(ρ:Rho):Nat:=match ρ[8]? with
 | some (Sl.bor (D.int a))=>200-a.toNat
 | _=>0
def xu6{ps:List wq8}{n:Nat}{c:wq8}(h:ps[n]?=some c):oIx (.lst (ps.map wq7)) (.int n)=some (wq7 c):=(xl5 (zb0 c) (by omega) (by rw[Bu0,An0,h];rfl)).1
noncomputable def ww9(A4 high:Int)(sh:List wq8)(c:wq8):Bool:=zz0 A4 high c&&!decide (c∈sh)
noncomputable def frD(A4 high:Int)(sh:List wq8):D->D
 | .tup [.int x,.int y]=>.bl (ww9 A4 high sh (x,y))
 | _=>.non
def wg4(A4 high:Int)(sh l:List wq8):(l.map wq7).map (frD A4 high sh)=l.map λc=>.bl (ww9 A4 high sh c):=by rw[Bm0];rfl
def we1{A4 high:Int}{sh:List wq8}{t:Tr}{c:wq8}{d:Int}:okT A4 high sh (t.put c) d↔wv0 t.ways d=true/\(cov t.w t.h (nxt c d)).all (ww9 A4 high sh)=true:=by
 unfold okT;refine and_congr Iff.rfl ?_;rw[Co0];refine forall_congr' λq=>forall_congr' λ_=>?_
 unfold ww9;rw[Bool.and_eq_true,zx6,Bool.not_eq_true',decide_eq_false_iff_not];exact and_comm
def xa1{A4 high:Int}{sh:List wq8}{ts:List Tr}{n:Nat}{t:Tr}{Q:D->Unit->Prop}{E:Exn->Unit->Prop}(hn:ts[n]?=some t)(wh:1<=t.w/\t.w<=9/\1<=t.h/\t.h<=9)(hw:A4<=9)(hh:high<=9)(hq:∀L,ve9 A4 high sh t (t.x,t.y) L->Q (.lst (L.map wq7)) ()):wpR (yj3 [wq9 A4 high sh ts,zc7 ts,.int n]) Q E:=by
 refine zk4 rfl (by decide) ?_;unfold zk3;dsimp only;obtain⟨w1,w9,h1,h9⟩:=wh;have gp:oIx (zc7 ts) (.int n)=some (wq7 (t.x,t.y)):=zr3 hn;have ki:D.immL (ts.map Tr.kind)=true:=za8 ze4 ts;have ci:D.immL (sh.map wq7)=true:=za8 zb0 sh;have lf:∀l:List wq8,(D.lst (l.map wq7)).flat=true:=λl=>za8 zb0 l
 simp_all!;simp! [wq9];have ol:vb9 [wq7 (t.x,t.y)]=some (.lst ([(t.x,t.y)].map wq7)):=rfl;simp_all!;simp! [gp,ol,lf];simp_all!;simp!;simp_all!;refine yl6 (λρ st=>∃(L:List wq8) (a:Nat) (x9 x10 x11 x12:Sl),ρ=[Sl.bor (wq9 A4 high sh ts),.bor (zc7 ts),.bor (.int n),.bor (.int A4),.bor (.int high),.bor (.tup (sh.map wq7)),.bor (.tup (ts.map Tr.kind)),.own (.lst (L.map wq7)),.bor (.int a),x9,x10,x11,x12]/\L.Nodup/\(t.x,t.y)∈L/\(∀c∈L,Rch A4 high sh t (t.x,t.y) c)/\a<=L.length/\∀i c,i<a->L[i]?=some c->Cl A4 high sh t L c) (λρ _=>muL ρ)
  ⟨[(t.x,t.y)],0,_,_,_,_,rfl,by simp,by simp,λc hc=>by rw[Aq0.mp hc];exact .self,by simp,λi c hi=>absurd hi (Nat.not_lt_zero _)⟩ ?_
 rintro ρ st ⟨L,a,x9,x10,x11,x12,rfl,nd,hp,hr,hal,hcl⟩ P Z pn pr pz;have hl:=zs0 w1 h1 hw hh nd hr;have ln:wz7 [.lst (L.map wq7)]=some (.int L.length):=by unfold wz7;simp
 simp! [ln,ws9];by_cases ha:(a:Int)<(L.length:Int)
 ·have haL:a<L.length:=by omega
  obtain⟨c,hca⟩:∃c,L[a]?=some c:=⟨_,Ac0 haL⟩;rw[Ap1 ha];simp!;refine zm6 (λρ st=>∃(N:List wq8) (x9 x10 x11 x12:Sl),ρ=[Sl.bor (wq9 A4 high sh ts),.bor (zc7 ts),.bor (.int n),.bor (.int A4),.bor (.int high),.bor (.tup (sh.map wq7)),.bor (.tup (ts.map Tr.kind)),.own (.lst ((L++N).map wq7)),.bor (.int a),x9,x10,x11,x12]/\(L++N).Nodup/\(∀c∈L++N,Rch A4 high sh t (t.x,t.y) c)/\Cl A4 high sh t (L++N) c) (λP1 pn1=>?_) λρ st hI=>?_
  ·simp!
   rw[ze1 (by decide) (by decide)];refine zf5 (λj ρ st=>∃(N:List wq8) (x9 x10 x11 x12:Sl),ρ=[Sl.bor (wq9 A4 high sh ts),.bor (zc7 ts),.bor (.int n),.bor (.int A4),.bor (.int high),.bor (.tup (sh.map wq7)),.bor (.tup (ts.map Tr.kind)),.own (.lst ((L++N).map wq7)),.bor (.int a),x9,x10,x11,x12]/\(L++N).Nodup/\(∀c∈L++N,Rch A4 high sh t (t.x,t.y) c)/\∀k:Nat,k<j->okT A4 high sh (t.put c) (k:Int)->nxt c (k:Int)∈L++N) 0 ⟨[],x9,x10,x11,x12,by rw[Bq0],by rw[Bq0];exact nd,by rw[Bq0];exact hr,λk hk=>absurd hk (Nat.not_lt_zero _)⟩ (λj e ρ st he hI P2 pn2=>?_) λρ st hI=>?_
   ·obtain⟨N,x9,x10,x11,x12,er,nd2,hr2,hk2⟩:=hI
    obtain⟨rfl,hj⟩:=ze0 he;have hj4:j<4:=hj;subst er;rw[Al0] at pn2 hk2;rw[Int.zero_add];have hd:Dir (j:Int):=⟨by omega,by omega⟩;have hl2:=zs0 w1 h1 hw hh nd2 hr2;have gc:oIx (.lst ((L++N).map wq7)) (.int (a:Int))=some (wq7 c):=xu6 (by rw[Bc0 haL];exact hca);have gk:=yj8 hn;have pf:∀q:wq8,(wq7 q).flat=false:=λ_=>rfl
    refine⟨_,rfl,?_⟩;simp_all!;simp! [gc];with_reducible refine xe2 (p:=c) hd ?_
    have ne:(c.1+dx (j:Int),c.2+dy (j:Int))=nxt c (j:Int):=rfl;rewrite [ne];simp! [pf];simp_all!;simp! [gk];refine zi9 (p:=nxt c (j:Int)) (by omega) (by omega) (by omega) (by omega) ?_;simp! [lf];have h81:(cov t.w t.h (nxt c (j:Int))).length<=81:=zw3 w9 h9;have okf:=we1 (A4:=A4) (high:=high) (sh:=sh) (t:=t) (c:=c) (d:=(j:Int));generalize hcv:cov t.w t.h (nxt c (j:Int))=cv at h81 okf;simp_all!;simp!;refine zd9 (frD A4 high sh) (λρ=>∃x y,ρ=[x,y,Sl.bor (.int A4),.bor (.int high),.bor (.tup (sh.map wq7))]) ⟨_,_,rfl⟩ (λe he ρ hI131=>?_) (zf6 (by rw[Aa0];omega)) ?_
    ·obtain⟨x',y',er⟩:=hI131
     subst er;obtain⟨q,hq',rfl⟩:=Au0.mp he;refine⟨_,rfl,⟨_,_,rfl⟩,⟨rfl,rfl⟩,?_⟩;have oc:wx3 [.int q.1,.int q.2]=some (wq7 q):=rfl;have e:frD A4 high sh (wq7 q)=.bl (ww9 A4 high sh q):=rfl;have nin:=(yc8 (neg:=true) (c:=q) (l:=sh)).1;simp! [ws9,oc,nin];rw[e];unfold ww9 zz0;by_cases g1:0<=q.1<;>by_cases g2:q.1<A4<;>by_cases g3:0<=q.2<;>by_cases g4:q.2<high<;>simp[g1,g2,g3,g4,D.imm,oc,nin]
    ·rw[wg4]
     have ea:(cv.map λq=>ww9 A4 high sh q).all id=cv.all (ww9 A4 high sh):=by rw[List.all_map];rfl
     simp! [zy2,zj1,Aw0,ea];have keep:(nxt c (j:Int)∈L++N\/¬okT A4 high sh (t.put c) (j:Int))->∀x9 x10 x11 x12,P2 (.nx [Sl.bor (wq9 A4 high sh ts),.bor (zc7 ts),.bor (.int n),.bor (.int A4),.bor (.int high),.bor (.tup (sh.map wq7)),.bor (.tup (ts.map Tr.kind)),.own (.lst ((L++N).map wq7)),.bor (.int a),x9,x10,x11,x12]) st:=λh x9 x10 x11 x12=>pn2 _ _ ⟨N,x9,x10,x11,x12,rfl,nd2,hr2,λk hk ok=>by
      by_cases e:k=j
      ·subst e
       rcases h with h | h
       ·exact h
       ·exact absurd ok h
      ·exact hk2 k (by omega) ok⟩
     simp! [gk];refine wb4 (w:=t.w) (h:=t.h) (ways:=t.ways) (s:=t.s) hd ?_;by_cases hgo:wv0 t.ways (j:Int)=true
     ·simp! [hgo]
      by_cases hfr:cv.all (ww9 A4 high sh)=true
      ·have ok:okT A4 high sh (t.put c) (j:Int):=okf.mpr ⟨hgo,hfr⟩
       simp! [hfr,(yc8 (neg:=true) (c:=nxt c (j:Int)) (l:=L++N)).2];by_cases hin:nxt c (j:Int)∈L++N
       ·simp! [Ap1 hin]
        exact keep (.inl hin) _ _ _ _
       ·simp! [Ao1 hin,wr8,za8 zb0]
        refine⟨_,zx3 (zb0 _) (by rw[Aa0];omega),pn2 _ _ ⟨N++[nxt c (j:Int)],.bor (.int (j:Int)),.bor (wq7 (nxt c (j:Int))),.own (.lst (cv.map wq7)),.bor (.bl true),?_,?_,λq hq=>?_,λk hk ok'=>?_⟩⟩
        ·simp only[<-Av0,Bb0,Ax0,Cz0]
        ·rw[<-Av0]
         exact Cw0.mpr ⟨nd2,by simp,λa ha b hb=>by rw[Aq0.mp hb];intro e;exact hin (e▸ha)⟩
        ·rw[<-Av0] at hq
         rcases Ap0.mp hq with h | h
         ·exact hr2 q h
         ·rw[Aq0.mp h];exact(hr c (Ao0 hca)).more hd ok
        ·rw[<-Av0]
         by_cases e:k=j
         ·subst e;simp
         ·exact Bo0 _ (hk2 k (by omega) ok')
      ·have hfr2:cv.all (ww9 A4 high sh)=false:=by simpa using hfr
       simp! [hfr2];exact keep (.inr λok=>hfr (okf.mp ok).2) _ _ _ _
     ·have hgo2:wv0 t.ways (j:Int)=false:=by simpa using hgo
      simp! [hgo2];exact keep (.inr λok=>hgo (okf.mp ok).1) _ _ _ _
   ·obtain⟨N,x9,x10,x11,x12,er,nd2,hr2,hk2⟩:=hI
    subst er;refine pn1 _ _ ⟨N,_,_,_,_,rfl,nd2,hr2,λd hd ok=>?_⟩;have e:d=((d.toNat:Nat):Int):=by obtain⟨a,b⟩:=hd;omega
    rw[e] at ok ⊢;exact hk2 d.toNat (by obtain⟨a,b⟩:=hd;show d.toNat<0+4;omega) ok
  ·obtain⟨N,x9,x10,x11,x12,er,nd2,hr2,hc2⟩:=hI
   subst er;have ad:ws0 (.int (a:Int)) (.int 1)=some (.int (((a+1:Nat):Nat):Int)):=rfl;simp! [ad];refine pn _ _ ⟨L++N,a+1,_,_,_,_,rfl,nd2,Bo0 _ hp,hr2,by rw[Ai0];omega,λi q hi hq=>?_⟩ ?_
   ·by_cases e:i=a
    ·subst e
     rw[Bc0 haL,hca] at hq;cases hq;exact hc2
    ·rw[Bc0 (by omega)] at hq
     exact(hcl i q (by omega) hq).mono λx hx=>Bo0 _ hx
   ·show 200-((a+1:Nat):Int).toNat<200-(a:Int).toNat
    omega
 ·rw[Ao1 ha]
  simp!;refine pz _ ?_;simp! [za8 zb0];refine hq L (xm6 nd hl hp hr λc hc=>?_);obtain⟨i,hi⟩:=List.getElem?_of_mem hc;exact hcl i c (by have:=(Ae0.mp hi).1;omega) hi
def wh4{h:Int}{p:wq8}{i:Nat}:(wx1 h p i).Pairwise Ts.lxle:=by
 unfold wx1;rw[Cd0];exact Cr0.imp λ{a b} hab=>.inr ⟨rfl,by show p.2+(a:Int)<=p.2+(b:Int);omega⟩
def wq3{w h:Int}{p:wq8}:(cov w h p).Pairwise Ts.lxle:=by
 unfold cov;rw[List.pairwise_flatMap];refine⟨λi _=>wh4,Cr0.imp λ{a b} hab x hx y hy=>?_⟩;unfold wx1 at hx hy;obtain⟨j,_,rfl⟩:=Au0.mp hx;obtain⟨k,_,rfl⟩:=Au0.mp hy;exact .inl (by show p.1+(a:Int)<p.1+(b:Int);omega)
def xo2{w h:Int}{p:wq8}:(cov w h p).Nodup:=by
 unfold cov;rw[List.Nodup,List.pairwise_flatMap];refine⟨λi _=>?_,Cr0.imp λ{a b} hab x hx y hy e=>?_⟩
 ·unfold wx1
  rw[Cd0];exact Cr0.imp λ{a b} hab e=>by
   have:=congrArg Prod.snd e;simp only at this;omega
 ·unfold wx1 at hx hy
  obtain⟨j,_,rfl⟩:=Au0.mp hx;obtain⟨k,_,rfl⟩:=Au0.mp hy;have:=congrArg Prod.fst e;simp only at this;omega
def xf4{w h:Int}{p:wq8}{l:List wq8}(q:l.Perm (cov w h p)):wr6 l=cov w h p:=(zw1 q.symm wq3).symm
open H in
theorem yw6{x:wq8}:∀{l acc:List wq8},x∈l.foldl ww7 acc↔x∈acc\/x∈l
 | [],acc=>by simp
 | a::l,acc=>by
   show x∈l.foldl ww7 (ww7 acc a)↔_;rw[yw6];have:x∈ww7 acc a↔x∈acc\/x=a:=by
    unfold ww7;split
    ·rename_i h
     exact⟨.inl,λz=>by rcases z with z | z;exact z;rw[z];exact h⟩
    ·simp
   rw[this,Aj0,or_assoc]
open H in
theorem xj8:∀{l acc:List wq8},acc.Nodup->(l.foldl ww7 acc).Nodup
 | [],acc,h=>h
 | a::l,acc,h=>by
   show (l.foldl ww7 (ww7 acc a)).Nodup;refine xj8 ?_;unfold ww7;split
   ·exact h
   ·rename_i n
    exact Cw0.mpr ⟨h,by simp,λu hu b hb=>by rw[Aq0.mp hb];intro e;exact n (e▸hu)⟩
def yo0{x:wq8}{l:List wq8}:x∈ddP l↔x∈l:=by unfold ddP;rw[yw6];simp
def ve3{l:List wq8}:(ddP l).Nodup:=xj8 List.nodup_nil
theorem yy7:∀{l acc:List wq8},(acc++l).Nodup->l.foldl ww7 acc=acc++l
 | [],acc,_=>by simp
 | a::l,acc,h=>by
   have ha:a∉acc:=λz=>(Cw0.mp h).2.2 a z a (by simp) rfl
   show l.foldl ww7 (ww7 acc a)=_;have e:ww7 acc a=acc++[a]:=if_neg ha;rw[e,yy7 (by simpa using h)];simp
def xf3{a b:List wq8}(ha:a.Nodup)(hb:b.Nodup)(h:∀x,x∈a↔x∈b):wr6 a=wr6 b:=zw1 ((zg1 a).trans ((List.perm_ext_iff_of_nodup ha hb).mpr h)) (yi5 a)
noncomputable def wv3(t:Tr)(L:List wq8):List wq8:=L.flatMap (cov t.w t.h)
noncomputable def zk5(t:Tr)(L:List wq8):List wq8:=wr6 (ddP (wv3 t L))
def yg0{t:Tr}{L M:List wq8}(h:∀x,x∈L↔x∈M):zk5 t L=zk5 t M:=xf3 ve3 ve3 λx=>by
 unfold wv3;simp only[yo0,List.mem_flatMap,h]
def xj9{t:Tr}{L:List wq8}{x:wq8}:x∈zk5 t L↔∃c∈L,x∈cov t.w t.h c:=by
 unfold zk5;rw[(zg1 _).mem_iff,yo0];unfold wv3;rw[List.mem_flatMap]
theorem xx2{A4 high:Int}{sh:List wq8}{t:Tr}{p c:wq8}(h:Rch A4 high sh t p c)(hp:∀q∈cov t.w t.h p,q∈cov A4 high (0,0)):∀q∈cov t.w t.h c,q∈cov A4 high (0,0):=by
 cases h with
 | self=>exact hp
 | more _ _ ok=>
   refine λq hq=>?_
   obtain⟨_,a,b,e,f⟩:=ok.2 q hq;exact zk0.mpr ⟨a,by show q.1<0+A4;omega,e,by show q.2<0+high;omega⟩
def InH.cells{A4 high:Int}{t:Tr}(h:InH A4 high t):∀q∈cov t.w t.h (t.x,t.y),q∈cov A4 high (0,0):=λq hq=>by
 obtain⟨a,b,c,d⟩:=zk0.mp hq;have:=h.x0;have:=h.xw;have:=h.y0;have:=h.yh;simp only at a b c d;exact zk0.mpr ⟨by show 0<=q.1;omega,by show q.1<0+A4;omega,by show 0<=q.2;omega,by show q.2<0+high;omega⟩
def xz8{a:Int}(h1:1<=a)(h9:a<=9)(b:Int)(hb:b<=9):(b-a+1).toNat*a.toNat<=25:=by
 have e:(b-a+1).toNat<=10-a.toNat:=by omega
 refine Ba0 (Nat.mul_le_mul_right _ e) ?_;have h:a=1\/a=2\/a=3\/a=4\/a=5\/a=6\/a=7\/a=8\/a=9:=by omega
 rcases h with r | r | r | r | r | r | r | r | r<;>subst r<;>decide
theorem ya4{w h:Int}:∀L:List wq8,(L.flatMap (cov w h)).length=L.length*(w.toNat*h.toNat)
 | []=>by simp
 | c::L=>by rw[List.flatMap_cons,Ai0,ya4 L,zs7,Ar0,Nat.add_mul,Nat.one_mul,Nat.add_comm]
def ye1{A4 high:Int}{sh:List wq8}{t:Tr}{L:List wq8}(hw:A4<=9)(hh:high<=9)(ih:InH A4 high t)(nd:L.Nodup)(hr:∀c∈L,Rch A4 high sh t (t.x,t.y) c):(wv3 t L).length<=625/\(ddP (wv3 t L)).length<=81:=by
 have w1:=ih.w1;have h1:=ih.h1;have:=ih.x0;have:=ih.xw;have:=ih.y0;have:=ih.yh;constructor
 ·have hl:L.length<=(A4-t.w+1).toNat*(high-t.h+1).toNat:=by
   rw[<-zs7 (p:=(0,0))];refine zq7 nd λc hc=>?_
   have hi:=xx2 (hr c hc) ih.cells;obtain⟨a1,_,a2,_⟩:=zk0.mp (hi c (zk0.mpr ⟨by omega,by omega,by omega,by omega⟩));obtain⟨_,b1,_,b2⟩:=zk0.mp (hi (c.1+t.w-1,c.2+t.h-1) (zk0.mpr ⟨by show c.1<=c.1+t.w-1;omega,by show c.1+t.w-1<c.1+t.w;omega,by show c.2<=c.2+t.h-1;omega,by show c.2+t.h-1<c.2+t.h;omega⟩));simp only at a1 a2 b1 b2;exact zk0.mpr ⟨a1,by show c.1<0+(A4-t.w+1);omega,a2,by show c.2<0+(high-t.h+1);omega⟩
  unfold wv3;rw[ya4];refine Ba0 (Nat.mul_le_mul_right _ hl) ?_;rw[Nat.mul_mul_mul_comm];exact zn6 (c:=25) (d:=25) (xz8 w1 (by omega) _ hw) (xz8 h1 (by omega) _ hh)
 ·refine Ba0 (zq7 (m:=cov A4 high (0,0)) ve3 λx hx=>?_) (zw3 hw hh)
  obtain⟨c,hc,hx⟩:=List.mem_flatMap.mp (yo0.mp hx);exact xx2 (hr c hc) ih.cells x hx
def xc1{c:wq8}{L:List wq8}:wt7 (ck c) (.bl true) (L.map wq7) (tt L)=((ww7 L c).map wq7,tt (ww7 L c)):=by
 unfold ww7;by_cases h:c∈L
 ·rw[if_pos h]
  unfold wt7;rw[zs6,if_pos h,if_pos (show (some (D.bl true)).isSome=true from rfl)];congr 1;clear h;induction L with
  | nil=>rfl
  | cons a L ih=>
    show (if zc8 (wq7 a)=some (ck c) then D.bl true else D.bl true)::List.zipWith (λd u=>if zc8 d=some (ck c) then D.bl true else u) (L.map wq7) (tt L)=_;rw[ih,ite_self];rfl
 ·rw[if_neg h];exact yo2 h
noncomputable def xg4:List D->Res Unit D:=dfn 6 3 (zw9 ys6 wy8).1
def ye0{A4 high:Int}{sh:List wq8}{ts:List Tr}{n:Nat}{t:Tr}(hn:ts[n]?=some t):oIx (wq9 A4 high sh ts) (.int 3)=some (.tup (ts.map Tr.kind))/\oIx (.tup (ts.map Tr.kind)) (.int n)=some t.kind:=⟨hall3',yj8 hn⟩
def xq6{A4 high:Int}{sh:List wq8}{ts:List Tr}{n:Nat}{t:Tr}{Q:D->Unit->Prop}{E:Exn->Unit->Prop}(hn:ts[n]?=some t)(hc:HC A4 high sh ts)(hq:∀L,ve9 A4 high sh t (t.x,t.y) L->Q (.lst ((zk5 t L).map wq7)) ()):wpR (xg4 [wq9 A4 high sh ts,zc7 ts,.int n]) Q E:=by
 refine zk4 rfl (by decide) ?_;unfold zw9;dsimp only;have ih:=hc.tr t (Ao0 hn);have w1:=ih.w1;have h1:=ih.h1;have:=ih.x0;have:=ih.xw;have:=ih.y0;have:=ih.yh;have:=hc.w;have:=hc.h;obtain⟨k1,k2⟩:=ye0 (A4:=A4) (high:=high) (sh:=sh) hn;have gp:oIx (zc7 ts) (.int n)=some (wq7 (t.x,t.y)):=zr3 hn;have kf:t.kind.flat=false:=rfl;simp_all!;simp! [k1,k2,kf];simp_all!;simp! [wx4];simp_all!;simp! [gp];with_reducible refine xd3 (t:=t) ⟨w1,by omega,h1,by omega⟩ ih.ways hc.w hc.h hc.shl λL hL=>?_
 obtain⟨nd,_,hm⟩:=hL;have nds:(wr6 L).Nodup:=(zg1 L).nodup_iff.mpr nd;have hms:∀c,c∈wr6 L↔Rch A4 high sh t (t.x,t.y) c:=λc=>by rw[(zg1 L).mem_iff];exact hm c
 have fm:=ye1 hc.w hc.h ih nds λc h=>(hms c).mp h
 have hfull:ve9 A4 high sh t (t.x,t.y) (wr6 L):=⟨nds,zs0 w1 h1 hc.w hc.h nds λc h=>(hms c).mp h,hms⟩
 replace hq:=hq _ hfull
 generalize wr6 L=M at nds hms fm hq;have lf:∀l:List wq8,D.immL (l.map wq7)=true:=λl=>za8 zb0 l
 have pc:M.map prD=M.map wq7:=rfl;rw[pc];simp!;have tkl:∀i,(wv3 t (M.take i)).length<=625:=λi=>by
  unfold wv3;rw[ya4];refine Ba0 (Nat.mul_le_mul_right _ (show (M.take i).length<=M.length by rw[Bd0];omega)) ?_;rw[<-ya4];exact fm.1
 refine zf5 (λi ρ st=>∃x,ρ=[Sl.bor (wq9 A4 high sh ts),.bor (zc7 ts),.bor (.int n),.bor t.kind,.own (.lst ((wv3 t (M.take i)).map wq7)),x]) 0 ⟨_,rfl⟩ (λi d ρ st hd hI P pn=>?_) λρ st hI=>?_
 ·obtain⟨x,rfl⟩:=hI
  rw[An0] at hd;cases q:M[i]? with
  | none=>rw[q] at hd;cases hd
  | some c=>
    rw[q] at hd;cases hd;rw[Al0] at pn ⊢;refine⟨_,rfl,?_⟩;simp! [wr8,lf];refine yr1 (w:=t.w) (h:=t.h) (ways:=t.ways) (s:=t.s) (p:=c) (by omega) (by omega) (by omega) (by omega) ?_;have ea:wv3 t (M.take (i+1))=wv3 t (M.take i)++cov t.w t.h c:=by
     unfold wv3;rw[Bk0,q,List.flatMap_append];simp
    have:=tkl (i+1);refine⟨_,yc9 (lf _) (by rw[Aa0,Aa0];rw[ea,Ai0] at this;omega),pn _ _ ⟨.bor (wq7 c),?_⟩⟩;rw[ea,Bb0]
 ·obtain⟨x,rfl⟩:=hI
  have e0:M.take (0+(M.map wq7).length)=M:=by rw[Al0,Aa0,Br0]
  rw[e0];have os:yw0 (.lst ((wv3 t M).map wq7))=some (.lst ((zk5 t M).map wq7)):=by
   show (wt1 ((wv3 t M).map prD)).bind (λps=>if (ddP ps).length<128 then some (D.lst ((wr6 (ddP ps)).map prD)) else none)=_;rw[zq3,Option.bind_some,if_pos (by omega)];rfl
  simp! [vn9,os];exact⟨.inr (lf _),hq⟩
noncomputable def yt2:List D->Res Unit D:=dfn 6 3 (zr9 yj3 zi5).1
def xd6{A4 high:Int}{sh:List wq8}{ts:List Tr}{n:Nat}{t:Tr}{Q:D->Unit->Prop}{E:Exn->Unit->Prop}(hn:ts[n]?=some t)(hc:HC A4 high sh ts)(hq:∀L,ve9 A4 high sh t (t.x,t.y) L->Q (.lst ((zk5 t L).map wq7)) ()):wpR (yt2 [wq9 A4 high sh ts,zc7 ts,.int n]) Q E:=by
 refine zk4 rfl (by decide) ?_;unfold zr9;dsimp only;have ih:=hc.tr t (Ao0 hn);have w1:=ih.w1;have h1:=ih.h1;have:=ih.x0;have:=ih.xw;have:=ih.y0;have:=ih.yh;have:=hc.w;have:=hc.h;obtain⟨k1,k2⟩:=ye0 (A4:=A4) (high:=high) (sh:=sh) hn;have kf:∀L,(zm5 L).flat=true:=λL=>yv1 L
 have k0:D.dct [.non] []=zm5 []:=rfl;simp_all!;simp!;simp_all!;simp!;with_reducible refine xa1 hn ⟨w1,by omega,h1,by omega⟩ hc.w hc.h λL hL=>?_
 replace hq:=hq _ hL
 obtain⟨nd,_,hm⟩:=hL;have fm:=ye1 hc.w hc.h ih nd λc h=>(hm c).mp h
 have sub:∀(A B:List wq8),(∀x∈A,x∈B)->(ddP A).length<=(ddP B).length:=λA B h=>zq7 ve3 λx hx=>yo0.mpr (h x (yo0.mp hx))
 simp!;refine zf5 (λi ρ st=>∃x y,ρ=[Sl.bor (wq9 A4 high sh ts),.bor (zc7 ts),.bor (.int n),.own (zm5 (ddP (wv3 t (L.take i)))),x,y]) 0 ⟨_,_,rfl⟩ (λi d ρ st hd hI P pn=>?_) λρ st hI=>?_
 ·obtain⟨x,y,rfl⟩:=hI
  rw[An0] at hd;cases q:L[i]? with
  | none=>rw[q] at hd;cases hd
  | some c=>
    rw[q] at hd;cases hd;rw[Al0] at pn ⊢;refine⟨_,rfl,?_⟩;simp! [k1,k2];refine zi9 (w:=t.w) (h:=t.h) (ways:=t.ways) (s:=t.s) (p:=c) (by omega) (by omega) (by omega) (by omega) ?_;simp!;have ea:wv3 t (L.take (i+1))=wv3 t (L.take i)++cov t.w t.h c:=by
     unfold wv3;rw[Bk0,q,List.flatMap_append];simp
    refine zf5 (λj ρ st=>∃y,ρ=[Sl.bor (wq9 A4 high sh ts),.bor (zc7 ts),.bor (.int n),.own (zm5 (ddP (wv3 t (L.take i)++(cov t.w t.h c).take j))),.bor (wq7 c),y]) 0 ⟨y,by rw[List.take_zero,Bq0]⟩ (λj d ρ st hd hI P2 pn2=>?_) λρ st hI=>?_
    ·obtain⟨y,rfl⟩:=hI
     rw[An0] at hd;cases q2:(cov t.w t.h c)[j]? with
     | none=>rw[q2] at hd;cases hd
     | some e=>
       rw[q2] at hd;cases hd;rw[Al0] at pn2 ⊢;have l81:(ddP (wv3 t (L.take i)++(cov t.w t.h c).take j)).length<=81:=Ba0 (sub _ (wv3 t L) λx hx=>by
        unfold wv3 at hx ⊢;rw[List.mem_flatMap];rcases Ap0.mp hx with hx | hx
        ·obtain⟨c',hc',hx⟩:=List.mem_flatMap.mp hx
         exact⟨c',Cm0 hc',hx⟩
        ·exact⟨c,Ao0 q,Cm0 hx⟩) fm.2
       have e2:ddP (wv3 t (L.take i)++(cov t.w t.h c).take (j+1))=ww7 (ddP (wv3 t (L.take i)++(cov t.w t.h c).take j)) e:=by
        unfold ddP;rw[Bk0,q2,<-Av0,List.foldl_append (l':=Option.toList (some e))];rfl
       refine⟨_,rfl,?_⟩;simp! [wv2,yv1];refine⟨_,_,rfl,ck e,zf3 _,yg7 (by rw[Aa0];omega),?_⟩;rewrite [xc1];exact pn2 _ _ ⟨.bor (wq7 e),by rw[e2]⟩
    ·obtain⟨y,rfl⟩:=hI
     refine pn _ _ ⟨.bor (wq7 c),y,?_⟩;rw[Al0,Aa0,Br0,ea]
 ·obtain⟨x,y,rfl⟩:=hI
  have e0:L.take (0+(L.map wq7).length)=L:=by rw[Al0,Aa0,Br0]
  rw[e0];have so:yw1 [zm5 (ddP (wv3 t L))]=some (.lst ((zk5 t L).map wq7)):=by
   show ((wt1 ((ddP (wv3 t L)).map prD)).bind λps=>if ps.length<128 then some (D.lst ((wr6 ps).map prD)) else none)=_;rw[zq3,Option.bind_some,if_pos (by omega)];rfl
  simp! [so];exact⟨.inr (za8 zb0 _),hq⟩
def yb7{i:Int}(h1:-5000000000000000<=i)(h2:i<=5000000000000000):shD (.int i)=true:=by
 show decide (i.natAbs.log2<1920)=true;refine Ap1 ?_;by_cases h:i.natAbs=0
 ·rw[h];decide
 ·exact Az0 ((Nat.log2_lt h).mpr (show i.natAbs<2 ^ 60 by omega)) (by decide)
theorem yi7{α:Type}{f:α->D}:∀{l:List α},(∀a∈l,shD (f a)=true)->shL (l.map f)=true
 | [],_=>rfl
 | a::l,h=>by
   show (shD (f a)&&shL (l.map f))=true;rw[h a (by simp),yi7 λb hb=>h b (by simp[hb])];rfl
theorem yi4{α:Type}{f:α->D}{k:Nat}:∀{l:List α},(∀a∈l,szD (f a)+2<=k)->szL (l.map f)<=k*l.length
 | [],_=>Am0 _
 | a::l,h=>by
   show szD (f a)+2+szL (l.map f)<=k*(l.length+1);have h1:=h a (by simp);have h2:=yi4 (l:=l) λb hb=>h b (by simp[hb])
   rw[Nat.mul_succ];omega
theorem yk7{α:Type}{f:α->D}{k:Nat}:∀{l:List α},(∀a∈l,dpD (f a)<=k)->dpL (l.map f)<=k
 | [],_=>Am0 _
 | a::l,h=>Nat.max_le.mpr ⟨h a (by simp),yk7 (l:=l) λb hb=>h b (by simp[hb])⟩
def xo6{c:wq8}(h1:0<=c.1)(h2:c.1<=9)(h3:0<=c.2)(h4:c.2<=9):shD (wq7 c)=true:=by
 show (shD (.int c.1)&&(shD (.int c.2)&&true))=true;rw[yb7 (by omega) (by omega),yb7 (by omega) (by omega)];rfl
def xk7{A4 high:Int}{sh:List wq8}{ts:List Tr}(ho:HC A4 high sh ts){t:Tr}(ht:t∈ts):shD t.kind=true/\szD t.kind+2<=6000:=by
 have to:=ho.tr t ht;have:=to.w1;have:=to.h1;have:=to.xw;have:=to.yh;have:=to.x0;have:=to.y0;have:=ho.w;have:=ho.h;have hs:=to.st;have h3:shD (.int t.s)=true:=by rcases hs with r | r | r<;>rw[r]<;>exact yb7 (by decide) (by decide)
 constructor
 ·show (shD (.int t.w)&&(shD (.int t.h)&&(true&&(shD (.int t.s)&&true))))=true
  rw[yb7 (i:=t.w) (by omega) (by omega),yb7 (i:=t.h) (by omega) (by omega),h3];rfl
 ·have hr:(reprText t.ways).length<=10:=by
   rcases to.ways with r | r | r | r<;>rw[r]<;>decide +kernel
  show 1921+2+(1921+2+((reprText t.ways).length+2+(1921+2+0)))+3+2<=6000;omega
def xr5{A4 high:Int}{sh:List wq8}{ts:List Tr}(ho:HC A4 high sh ts):wx2 [wq9 A4 high sh ts,zc7 ts]:=by
 have shl:=ho.shl;have few:=ho.few;have w1:=ho.w0;have w9:=ho.w;have h1:=ho.h0;have h9:=ho.h;have hsb:∀c∈sh,shD (wq7 c)=true:=λc hc=>by
  obtain⟨k1,k2,k3,k4⟩:=ho.shb c hc;exact xo6 (by omega) (by omega) (by omega) (by omega)
 have hpb:∀t∈ts,shD t.place=true:=λt ht=>by
  have to:=ho.tr t ht;have:=to.w1;have:=to.h1;have:=to.xw;have:=to.yh;have:=to.x0;have:=to.y0;exact xo6 (c:=(t.x,t.y)) (by show 0<=t.x;omega) (by show t.x<=9;omega) (by show 0<=t.y;omega) (by show t.y<=9;omega)
 refine⟨?_,?_,?_,?_⟩
 ·simp only[wq9,zc7,D.immL,D.imm,za8 zb0,za8 ze4,za8 zi1,Bool.and_self]
 ·show ((shD (.int A4)&&(shD (.int high)&&(shL (sh.map wq7)&&(shL (ts.map Tr.kind)&&true))))&&(shL (ts.map Tr.place)&&true))=true
  rw[yb7 (i:=A4) (by omega) (by omega),yb7 (i:=high) (by omega) (by omega),yi7 hsb,yi7 hpb,yi7 λt ht=>(xk7 ho ht).1];rfl
 ·have d1:dpL (sh.map wq7)<=1:=yk7 λc _=>by show max 0 (max 0 0)+1<=1;decide
  have d2:dpL (ts.map Tr.place)<=1:=yk7 λc _=>by show max 0 (max 0 0)+1<=1;decide
  have d3:dpL (ts.map Tr.kind)<=1:=yk7 λc _=>by show max 0 (max 0 (max 0 (max 0 0)))+1<=1;decide
  show max (max 0 (max 0 (max (dpL (sh.map wq7)+1) (max (dpL (ts.map Tr.kind)+1) 0)))+1) (max (dpL (ts.map Tr.place)+1) 0)<60;omega
 ·have d1:szL (sh.map wq7)<=4000*sh.length:=yi4 λc _=>by show 1921+2+(1921+2+0)+3+2<=4000;decide
  have d2:szL (ts.map Tr.place)<=4000*ts.length:=yi4 λc _=>by show 1921+2+(1921+2+0)+3+2<=4000;decide
  have d3:szL (ts.map Tr.kind)<=6000*ts.length:=yi4 λt ht=>(xk7 ho ht).2
  have sz:sizeLine=16777216:=by decide
  show (1921+2+(1921+2+(szL (sh.map wq7)+3+2+(szL (ts.map Tr.kind)+3+2+0)))+3)+2+(szL (ts.map Tr.place)+3+2+0)+3<=sizeLine;omega
noncomputable def wy7:Nat->List D->Res Unit D
 | 0=>vw2
 | n+1=>dfn 2 2 (zu1 (wy7 n)).1
theorem xd0:∀(n:Nat) {d:D} {Q:D->Unit->Prop} {E:Exn->Unit->Prop},d.dep<n->d.lw=true->Q (.bl true) ()->wpR (wy7 n [d,d]) Q E
 | 0,d,Q,E,h,_,_=>absurd h (Nat.not_lt_zero _)
 | n+1,d,Q,E,hd,hp,h=>by
   refine zk4 rfl (by decide) ?_;unfold zu1;dsimp only;have lall:∀{l:List D},(∀x∈l,x.dep<n/\x.lw=true)->l.length<=sizeLine->∀{Q:List D->Unit->Prop} {E:Exn->Unit->Prop},Q ((wu8 l l).map λ_=>.bl true) ()->
    wpR (ww2 Unit (gT 2 (gsCons (gN 0) (gsCons (gN 1) gsNil))) (vh6 Unit) (vc7 Unit (wy7 n) (aP Unit (cs (vr 0) (cs (vr 1) nl)))) (wu8 l l) [] [Sl.no,Sl.no] ()) Q E:=λ{l} hx hz {Q E} hQ=>by
    refine zd9 (λ_=>.bl true) (λρ=>∃x y,ρ=[x,y]) ⟨_,_,rfl⟩ (λd hd ρ hI132=>?_) (by unfold wu8;rw[List.length_zipWith];omega) hQ;obtain⟨x,y,e⟩:=hI132;subst e;obtain⟨x,hx',rfl⟩:=xi7 hd;refine⟨_,rfl,⟨_,_,rfl⟩,⟨rfl,rfl⟩,?_⟩;simp?! [zb5];exact xd0 n (hx x hx').1 (hx x hx').2 (by first | exact rfl | exact⟨rfl,rfl⟩ | exact⟨rfl,rfl,rfl⟩)
   cases d with
   | bl b=>simp[D.lw] at hp
   | dct k v=>simp[D.lw] at hp
   | fl l=>simp[D.lw] at hp
   | fd _ _=>simp[D.lw] at hp
   | non=>
     rw  [zb5];simp! [wx8,D.isNon];exact h
   | int i=>
     rw  [zb5];simp! [wx8,D.isNon,isI];rw  [zb5];simp! [wx8,D.isNon,isI];rw  [zb5];simp! [wx8,D.isNon,isI];rw  [zb5];simp! [wx8,D.isNon,isI];simp! [isI,oEq,D.dep,D.eqq,Aq1,Aw0,Am0];exact h
   | str i=>
     rw  [zb5];simp! [wx8,D.isNon,isI];rw  [zb5];simp! [wx8,D.isNon,isI];rw  [zb5];simp! [wx8,D.isNon,isI];rw  [zb5];simp! [isI,oEq,D.dep,D.eqq,Aq1,Aw0,Am0];exact h
   | tup l=>
     have hp':D.lwL l=true/\l.length<=sizeLine:=by simpa [D.lw] using hp
     have hx:∀x∈l,x.dep<n/\x.lw=true:=λx hx=>⟨by have:=xn6 hx;unfold D.dep at hd;omega,yt1.mp hp'.1 x hx⟩
     rw  [zb5];simp! [wx8,D.isNon,isI];rw  [zb5];simp! [wx8,D.isNon,isI];rw  [zb5];simp! [wx8,D.isNon,isI];rw  [zb5];simp! [isI,oEq,D.dep,D.eqq,wz7,Am0,Aw0,Aq1];rw  [zb5];simp! [isI,oEq,D.dep,D.eqq,wz7,Am0,Aw0,Aq1];simp! [vn0];refine lall hx hp'.2 ?_;simp?! [zy2,yz7,Aw0,zb5];rw[show ((wu8 l l).map λ_=>true).all id=true by simp];exact h
   | lst l=>
     have hp':D.lwL l=true/\l.length<=sizeLine:=by simpa [D.lw] using hp
     have hx:∀x∈l,x.dep<n/\x.lw=true:=λx hx=>⟨by have:=xn6 hx;unfold D.dep at hd;omega,yt1.mp hp'.1 x hx⟩
     rw  [zb5];simp! [wx8,D.isNon,isI];rw  [zb5];simp! [wx8,D.isNon,isI];rw  [zb5];simp! [wx8,D.isNon,isI];rw  [zb5];simp! [isI,oEq,D.dep,D.eqq,wz7,Am0,Aw0,Aq1];rw  [zb5];simp! [isI,oEq,D.dep,D.eqq,wz7,Am0,Aw0,Aq1];simp! [vn0];refine lall hx hp'.2 ?_;simp?! [zy2,yz7,Aw0,zb5];rw[show ((wu8 l l).map λ_=>true).all id=true by simp];exact h
theorem wa6{S:Type}{i:Nat}{ρ:Rho}{st:S}{Q:Fl->S->Prop}{E:Exn->S->Prop}:wpR (vm3 S i ρ st) Q E↔∃l,wr8 ρ i=some l/\Q (.nx (ρ.set i (.own (.lst l.reverse)))) st:=by
 unfold vm3;cases h:wr8 ρ i with
 | none=>exact⟨λq=>q.elim,λ⟨l,e,_⟩=>by cases e⟩
 | some l=>exact⟨λq=>⟨l,rfl,q⟩,λ⟨m,e,q⟩=>by cases e;exact q⟩
def xb3{l:List wq8}(h:l.length<=1000):(D.lst (l.map wq7)).dep<3/\(D.lst (l.map wq7)).lw=true:=by
 constructor
 ·have:D.depL (l.map wq7)<=1:=ya6 (n:=1) yl1 l
  unfold D.dep;omega
 ·have:D.lwL (l.map wq7)=true:=yt1.mpr λd hd=>by
   obtain⟨j,_,rfl⟩:=Au0.mp hd;exact wh6 j
  simp only[D.lw,this,Bool.true_and,decide_eq_true_eq];exact zf6 (by rw[Aa0];exact h)
def vo9{A4 high:Int}{sh:List wq8}{t:Tr}{L:List wq8}(hL:ve9 A4 high sh t (t.x,t.y) L)(hw:t.ways = "none"):zk5 t L=cov t.w t.h (t.x,t.y):=by
 have h1:∀c,c∈L↔c∈[(t.x,t.y)]:=λc=>by
  rw[hL.2.2 c,Aq0];constructor
  ·intro h
   cases h with
   | self=>rfl
   | more _ _ ok=>
     have:=ok.1;rw[show (t.put _).ways=t.ways from rfl,hw] at this;unfold wv0 at this;split at this<;>exact absurd this (by decide)
  ·rintro rfl;exact .self
 rw[yg0 h1];unfold zk5 wv3;rw[List.flatMap_singleton];refine xf4 ?_;have:ddP (cov t.w t.h (t.x,t.y))=cov t.w t.h (t.x,t.y):=yy7 (acc:=[]) xo2;rw[this]
noncomputable def inD'(l:List wq8):D->D
 | .tup [.int x,.int y]=>.bl (decide ((x,y)∈l))
 | _=>.non
def inD'_map(T:List wq8)(l:List wq8):(l.map wq7).map (inD' T)=l.map λc=>.bl (decide (c∈T)):=by rw[Bm0];rfl
def wi7(ns:List Int)(hn:ns.length<=63):wpR ((vh1 wt0 vg1 yt2 xg4 (wy7 3) zi5).1 (rhoL wx5.length) (zo9 ns,0)) (λfl _=>fl=.rt (.bl true)) λ_ _=>False:=by
 unfold vh1;dsimp only;have rh:rhoL wx5.length=[Sl.no,.hnd,.no,.no,.no,.no,.no,.no,.no,.no,.no]:=rfl;rw[rh,zb5];obtain⟨st0,hst0,h00⟩:∃st0:Dr,(zo9 ns,(0:Int))=st0/\st0.2=0:=⟨_,rfl,rfl⟩;rw[hst0];have pw:iOp vn5 (λi j=>D.int (i ^ j.toNat)) (.int 10) (.int 6)=some (.int 1000000):=rfl;simp!;refine zc4 (by decide) (by decide) (by omega) λv1 st1 a1 b1 c1=>?_
 simp! [ws0,ws9];rw[ze1 (by omega) (by omega)];refine xd9 (λi ρ st'=>∃(x2 x3 x4 x5 x6 x7 x8 x9 x10:Sl),ρ=[Sl.no,.hnd,x2,x3,x4,x5,x6,x7,x8,x9,x10]/\st'.2<=st1.2+700*i) 0 ⟨_,_,_,_,_,_,_,_,_,rfl,by omega⟩ (λi e ρ st' he hI P pn pr=>?_) λρ st' hI=>?_
 ·obtain⟨x2,x3,x4,x5,x6,x7,x8,x9,x10,er,hst⟩:=hI
  obtain⟨rfl,hi⟩:=ze0 he;subst er;rw[Al0] at hst;refine⟨_,rfl,?_⟩;simp_all!;simp! [pw];with_reducible refine yl7 (by omega) λA4 high sh ts st3 hc t3=>?_
  have hf:(wq9 A4 high sh ts).flat=false:=rfl;have sf:(zc7 ts).flat=false:=rfl;have hs:=xr5 hc;have him:=hs.1;have ot:wx3 [wq9 A4 high sh ts,zc7 ts]=some (.tup [wq9 A4 high sh ts,zc7 ts]):=if_pos ⟨him,zf6 (by simp)⟩;have os:vg7 [.tup [wq9 A4 high sh ts,zc7 ts]]=some (.str (pyD (.tup [wq9 A4 high sh ts,zc7 ts])).shown):=if_pos hs;generalize (pyD (.tup [wq9 A4 high sh ts,zc7 ts])).shown=text at os;have few:=hc.few;have ls:wz7 [zc7 ts]=some (.int ts.length):=by unfold wz7 zc7;simp
  simp! [hf,sf];simp_all!;simp! [ot,os];with_reducible refine zm6 (λρ st'=>∃(x6 x7 x8 x9 x10:Sl),ρ=[Sl.no,.hnd,.bor (.int (0+(i:Int))),.bor (wq9 A4 high sh ts),.bor (zc7 ts),.bor (.str text),x6,x7,x8,x9,x10]/\st'=st3) (λP1 pn1=>?_) λρ st' hI=>?_
  ·simp! [ls]
   rw[ze1 (by omega) (by omega)];refine zf5 (λj ρ st'=>∃(x6 x7 x8 x9 x10:Sl),ρ=[Sl.no,.hnd,.bor (.int (0+(i:Int))),.bor (wq9 A4 high sh ts),.bor (zc7 ts),.bor (.str text),x6,x7,x8,x9,x10]/\st'=st3) 0 ⟨_,_,_,_,_,rfl,rfl⟩ (λj e ρ st' he hI P2 pn2=>?_) λρ st' hI=>?_
   ·obtain⟨x6,x7,x8,x9,x10,er,rfl⟩:=hI
    obtain⟨rfl,hj⟩:=ze0 he;subst er;rw[Int.zero_add];obtain⟨t,ht⟩:∃t,ts[j]?=some t:=⟨_,Ac0 (by omega)⟩;have ih:=hc.tr t (Ao0 ht);have w1:=ih.w1;have h1:=ih.h1;have:=ih.x0;have:=ih.xw;have:=ih.y0;have:=ih.yh;have:=hc.w;have:=hc.h;obtain⟨k1,k2⟩:=ye0 (A4:=A4) (high:=high) (sh:=sh) ht;have gp:oIx (zc7 ts) (.int j)=some (wq7 (t.x,t.y)):=zr3 ht;have g2:oIx t.kind (.int 2)=some (.str t.ways):=rfl;have lf:∀l:List wq8,D.immL (l.map wq7)=true:=λl=>za8 zb0 l
    refine⟨_,rfl,?_⟩;simp_all!;simp!;with_reducible refine xd6 ht hc λL hL=>?_
    have hl81:(zk5 t L).length<=81:=by
     unfold zk5;rw[(zg1 _).length_eq];exact(ye1 hc.w hc.h ih hL.1 λc h=>(hL.2.2 c).mp h).2
    have hmem:∀c∈cov t.w t.h (t.x,t.y),c∈zk5 t L:=λc h=>xj9.mpr ⟨_,(hL.2.2 _).mpr .self,h⟩
    have hst2:=vo9 hL;have hsame:∀M,ve9 A4 high sh t (t.x,t.y) M->zk5 t M=zk5 t L:=λM hM=>yg0 λx=>by rw[hM.2.2,hL.2.2]
    generalize zk5 t L=R at hl81 hmem hst2 hsame;obtain⟨sm1,sm2⟩:=xb3 (l:=R) (by omega);simp! [lf];with_reducible refine zm6 (λρ st''=>∃(x8 x9:Sl),ρ=[Sl.no,.hnd,.bor (.int (0+(i:Int))),.bor (wq9 A4 high sh ts),.bor (zc7 ts),.bor (.str text),.bor (.int (j:Int)),.own (.lst (R.map wq7)),x8,x9,x10]/\st''=st') (λP3 pn3=>?_) λρ st'' hI=>?_
    ·simp!
     rw[ze1 (by decide) (by decide)];refine zf5 (λk ρ st''=>∃(x8 x9:Sl),ρ=[Sl.no,.hnd,.bor (.int (0+(i:Int))),.bor (wq9 A4 high sh ts),.bor (zc7 ts),.bor (.str text),.bor (.int (j:Int)),.own (.lst (R.map wq7)),x8,x9,x10]/\st''=st') 0 ⟨_,_,rfl,rfl⟩ (λk e ρ st'' he hI P4 pn4=>?_) λρ st'' hI=>?_
     ·obtain⟨x8,x9,er,rfl⟩:=hI
      obtain⟨rfl,hk⟩:=ze0 he;subst er;refine⟨_,rfl,?_⟩;simp_all!;simp!;with_reducible refine xq6 ht hc λM hM=>?_
      rw[hsame M hM];simp! [lf];simp_all!;simp!;with_reducible refine xd0 3 sm1 sm2 ?_
      simp!;simp_all!;have ll:∀x:Sl,wr8 [Sl.no,.hnd,.bor (.int (0+(i:Int))),.bor (wq9 A4 high sh ts),.bor (zc7 ts),.bor (.str text),.bor (.int (j:Int)),.own (.lst (R.map wq7)),x,.own (.lst (R.map wq7)),x10] 9=some (R.map wq7):=λx=>by
       show (if D.immL (R.map wq7)=true then some (R.map wq7) else none)=_;rw[if_pos (lf R)]
      simp only[wa6];refine⟨_,ll _,?_⟩;have rv:(R.map wq7).reverse=R.reverse.map wq7:=List.map_reverse.symm;rw[rv];have t00:wx3 [.int 0,.int 0]=some (wq7 (0,0)):=rfl;simp! [wr8,lf,t00];refine⟨_,zx3 (zb0 _) (by rw[Aa0,List.length_reverse];omega),pn4 _ _ ⟨_,_,rfl,rfl⟩⟩
     ·exact pn3 _ _ hI
    ·obtain⟨x8,x9,er,rfl⟩:=hI
     subst er;simp_all!;simp! [k1,k2,gp];refine zi9 (w:=t.w) (h:=t.h) (ways:=t.ways) (s:=t.s) (p:=(t.x,t.y)) (by omega) (by omega) (by omega) (by omega) ?_;simp! [lf];have hc81:(cov t.w t.h (t.x,t.y)).length<=81:=zw3 (by omega) (by omega);refine zd9 (inD' R) (λρ=>∃x,ρ=[x,.bor (.lst (R.map wq7))]) ⟨_,rfl⟩ (λd hd ρ hI133=>?_) (zf6 (by rw[Aa0];omega)) ?_
     ·obtain⟨x',e⟩:=hI133
      subst e;obtain⟨c,hc',rfl⟩:=Au0.mp hd;refine⟨_,rfl,⟨_,rfl⟩,⟨rfl,rfl⟩,?_⟩;simp! [(yc8 (neg:=false) (c:=c) (l:=R)).2];rfl
     ·rw[inD'_map]
      have ea:((cov t.w t.h (t.x,t.y)).map λc=>decide (c∈R)).all id=true:=by
       rw[List.all_map,Co0];exact λc h=>Ap1 (hmem c h)
      simp! [zy2,zj1,Aw0,ea,k1,k2,g2,zt9];by_cases hnone:t.ways = "none"
      ·have e1:(t.ways == "none")=true:=by rw[hnone];rfl
       rw[<-hst2 hnone];simp! [e1,xt2 (neg:=true) sm2 (Ba0 (Ce0 sm1) (by decide))];exact pn2 _ _ ⟨_,_,_,_,_,rfl,rfl⟩
      ·have e1:(t.ways == "none")=false:=by simpa using hnone
       simp! [e1];exact pn2 _ _ ⟨_,_,_,_,_,rfl,rfl⟩
   ·exact pn1 _ _ hI
  ·obtain⟨x6,x7,x8,x9,x10,er,rfl⟩:=hI
   subst er;have e1:(text == text)=true:=by simp
   simp! [ot,os,zt9,e1];exact pn _ _ ⟨_,_,_,_,_,_,_,_,_,rfl,by omega⟩
 ·obtain⟨x2,x3,x4,x5,x6,x7,x8,x9,x10,er,hst⟩:=hI
  subst er;simp!
end K44
section
set_option maxHeartbeats 0
namespace K44
open L2
def vs7(s:Stmt):dA s=zu0 s:=by cases s<;>rfl
def vs6(s:Stmt):dB s=zc3 s:=by cases s<;>rfl
def vs5(s:Stmt):dS s=za4 s:=by cases s<;>rfl
def FnAt.to{K:PySem.W.Frag}{x:Str}{i:Nat}(h:FnAt K x i):At K x (top i):=by
 obtain⟨f,oc,od,an,osl,kV,doc,pm,cdv,ct,a,l,c,k⟩:=h;rw[vs7,vs6,vs5] at l;exact⟨f,_,a,wo2 (st:=top i) l c k⟩
theorem all_mk{l:PySem.W.OpenLaw}{w:World}{K:PySem.W.Frag}{h:Heap}{mg:Str->Option Value}{fa:Addr}(X:K.In h)(G:h.Ns mainGlobals mg)(hfa:mg "law" = some (.ref fa))(F:Facts K) :
 ∃fd:FuncData,(∀(s:Shared) (v:Value),BindsTo s fd ⟨[v],[]⟩ [("_law_script",v)])/\∀base:Heap,K.In base->base.Ns mainGlobals mg->wy0 l.prog w K mg base CX0 6 fa fd ["_law_script"] (spLaw K):=by
 cases F with
 | mk h_0 h_1 h_2 h_3 h_4 h_5 h_6 h_7 h_8 h_9 h_10 h_11 h_12 h_13 h_14 h_15 h_16 h_17 h_18 h_19 h_20 h_21 h_22 h_23 h_24 K6 J1 K2 J8 K7 K3 K8 K4 E9 K9 L0 L1 L3 G5 J9 J2 L4 L5 L6 G7 L7 K5 K0 J3 J4 J5 J6 J7=>
 obtain⟨fl,dl,al,Fl⟩:=h_24.to;obtain⟨_,_,kV,dc,pm,an,cd,ct,_,rfl,_,_⟩:=Fl.ex;have e:=hfa.symm.trans (mg_of X G al);cases e;have mn:=λ{x:Str} (z:nsIn K mainGlobals x=some none)=>mg_none_of X G z
 have hm:Bn mg:=⟨mn K6,mn J1,mn K2,mn J8,mn K7,mn K3,mn K8,mn K4,mn E9,mn K9,mn L0,mn L1,mn L3,mn G5,mn J9,mn J2,mn L4,mn L5,mn L6,mn G7,mn L7⟩;have cs:Cst K mg:=⟨trivial,⟨_,mg_of X G K5⟩,⟨_,mg_of X G K0,xr0 (p0:=(1,0)) (p1:=(0,1)) (p2:=(-1,0)) (p3:=(0,-1)) J3 J4 J5 J6 J7⟩⟩;refine⟨fnOf "law" "law" (zu0 wv7) (zc3 wv7) (za4 wv7) .none kV dc pm an cd ct,λs v=>.of_eq rfl,λbase _ _=>?_⟩;have CB:zc2 l.prog w K mg base 1 "_law_begin" ["_law_script"] (yr6 K):=vt2 _ _ _ X G h_0.to λf fd F=>xt0 F hm
 have C_1:=λp q=>vt2 (sp:=spS (WdS p q) K wt0) l.prog w base X G h_1.to λf fd F=>we0 F hm.len hm.divmod
 have C_2:=wy5 l.prog w base X G h_2.to xf9 (yi1.2 _ _ _ _ _ hm cs 0 );have C_3:=wy5 l.prog w base X G h_3.to zn2 (ye9.2 _ _ _ _ _ hm cs 0 );have C_4:=wy5 l.prog w base X G h_4.to zk9 ((yd9 wy8).2 _ _ _ _ _ hm cs 1 C_3.up);have C_5:=wy5 l.prog w base X G h_5.to wc5 (xm5.2 _ _ _ _ _ hm cs 0 );have C_6:=wy5 l.prog w base X G h_6.to zt1 (zo7.2 _ _ _ _ _ hm cs 0 );have C_7:=wy5 l.prog w base X G h_7.to zp7 ((yj2 xi0 wy8 zw0 yi8).2 _ _ _ _ _ hm cs 1 C_5.up C_3.up C_6.up C_2.up);have C_8:=wy5 l.prog w base X G h_8.to zt7 (zh9.2 _ _ _ _ _ hm cs 0 );have C_9:=wy5 l.prog w base X G h_9.to zd2 ((zm7 yj7 yi0 zw0 vr0).2 _ _ _ _ _ hm cs 2 C_4.up C_8.up C_6.up C_7.up);have C_10:=wy5 l.prog w base X G h_10.to zo3 ((zw9 ys6 wy8).2 _ _ _ _ _ hm cs 3 C_9.up C_3.up);have C_11:=wy5 l.prog w base X G h_11.to zl2 (zn1.2 _ _ _ _ _ hm cs 0 );have C_12:=wy5 l.prog w base X G h_12.to zp9 (zn0.2 _ _ _ _ _ hm cs 0 );have C_13:=λp q=>vi7 l.prog w base X G h_13.to zu7 ((zr8 wt0).2 _ _ _ _ _ p q hm cs 1 (C_1 p q).up)
 have L8:=λp q=>vi7 l.prog w base X G h_14.to zd3 ((zu3 wt0).2 _ _ _ _ _ p q hm cs 1 (C_1 p q).up)
 have C_15:=λp q=>vi7 l.prog w base X G h_15.to zc1 ((zu4 xf7 zi5 wt0 vc2 vb7).2 _ _ _ _ _ p q hm cs 2 (C_13 p q).up C_11.up (C_1 p q).up (L8 p q).up C_12.up)
 have C_16:=wy5 l.prog w base X G h_16.to yf2 (zp0.2 _ _ _ _ _ hm cs 0 );have C_17:=wy5 l.prog w base X G h_17.to ym8 (zu5.2 _ _ _ _ _ hm cs 0 );have C_18:∀n:Nat,zc2 l.prog w K mg base n "_law_same" ["_law_found","_law_due"] (sp0 K (wy7 n)):=λn=>by
  induction n with
  | zero=>exact vt2 _ _ _ X G h_18.to λf fd F=>wo3
  | succ n ih=>exact wy5 _ _ _ X G h_18.to ym7 ((zu1 (wy7 n)).2 _ _ _ _ _ hm cs n ih)
 have C_18:=C_18 3;have C_19:=λp q=>vi7 l.prog w base X G h_19.to zc9 ((zu2 zi5 wt0 vc2 vb7).2 _ _ _ _ _ p q hm cs 2 C_11.up (C_1 p q).up (L8 p q).up C_12.up)
 have C_20:=λp q=>vi7 l.prog w base X G h_20.to zc0 ((zr7 wt0 xk1).2 _ _ _ _ _ p q hm cs 3 (C_1 p q).up (C_19 p q).up)
 have C_21:=λp q=>vi7 l.prog w base X G h_21.to zw8 ((zk2 wt0 xf2 vh2).2 _ _ _ _ _ p q hm cs 4 (C_1 p q).up (C_20 p q).up (C_15 p q).up)
 have C_22:=wy5 l.prog w base X G h_22.to zb8 ((zk3 yu2 zi5 vh4).2 _ _ _ _ _ hm cs 1 C_16.up C_11.up C_17.up);have C_23:=wy5 l.prog w base X G h_23.to zk6 ((zr9 yj3 zi5).2 _ _ _ _ _ hm cs 2 C_22.up C_11.up);exact wl8 Fl (k:=5) CB.up (λp q cdv A outer s H E hr=>(vh1 wt0 vg1 yt2 xg4 (wy7 3) zi5).2 _ _ _ _ _ p q hm cs 5 (C_1 p q).up (C_21 p q).up C_23.up C_10.up C_18.up C_11.up _ cdv A outer s H E hr) wi7
end K44
open PySem PySem.W PyProof.Rows
theorem PySem.Challenge.cw_slidehall_k44_reaches_holds : PySem.Challenge.rw_slidehall_k44_reaches.Holds :=
 K44.early λq loose XP YP d K hd hn hY facts =>
 L2.walk_of (l:=PySem.Challenge.rw_slidehall_k44_reaches) (n:=63) (k:=6) (x:="_law_script") (CX:=λ_=>L2.CX0) (sp:=λw=>L2.spLaw (K w.params)) rfl (by decide) hd ⟨rfl,by decide,by decide,rfl⟩ hY (λw mg fa h KX G hmg=>K44.all_mk KX G (hn▸hmg) (facts w.params)) (λ_ _ a ns hl _ hS=>⟨a,ns,rfl,hS,hl,λ_=>rfl⟩) λ_ _ _ _ _ z=>z
end
end

