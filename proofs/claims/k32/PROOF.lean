import PyProof.Rows.All
import Wide.All
import OpenK.AllK
import Wide.FinOn
import KE.KDictSum
import KE.KIsAll
import KE.KListMore
import KE.KRevIter
import Lean
import OpenK.KCls
import OpenK.KOwn
import OpenK.KRaise
import PyProof.AutoRange
import PyProof.AutoSeq1
import PyProof.DictFindH
import PyProof.DictTruth
import PyProof.DictWalks
import PyProof.EqAt
import PyProof.EqKinds
import PyProof.ExcArgsOwn
import PyProof.ExcBaseAll.ValueError
import PyProof.FactsAll.range_2
import PyProof.FactsAll.tuple_2
import PyProof.InstStore
import PyProof.InstStoreFacts
import PyProof.ListMulRoad
import PyProof.MeetsDictList
import PyProof.NeKinds
import PyProof.NsDelKeeps
import PyProof.ReprLen
import PyProof.ReprRoads
import PyProof.Rows.Range3
import PyProof.Rows.RegStrFacts
import PyProof.Rows.SortRunsK
import PyProof.Rows.SortShell
import PyProof.Rows.TupDisplay
import PyProof.TupleCall
import PyProof.WalkInts
import PyProof.ExcClass
import PySem.Challenge.RW_slidehall_k32_orders_round_rings
section
set_option Elab.async false
set_option linter.all false
set_option maxRecDepth 100000
set_option maxHeartbeats 0
namespace K32
open PySem PySem.Spec PyProof.Rows PySem.W
def tp (i:Nat):Stmt:=PySem.Challenge.pw_slidehall_k32_orders_round_rings.main.body.getD i (.Pass ⟨0,0,0,0⟩)
def dA (s:Stmt):Arguments:=match s with
 | .FunctionDef _ z _ _ _ _ _ _ _ _=>z
 | _=>⟨[],[],none,[],[],none,[]⟩
def dB (s:Stmt):List Stmt:=match s with
 | .FunctionDef _ _ z _ _ _ _ _ _ _=>z
 | _=>[]
def dS (s:Stmt):Scope:=match s with
 | .FunctionDef _ _ _ _ _ _ z _ _ _=>z
 | _=>{ kind:=.function,names:=[],isGenerator:=false,isCoroutine:=false }
def FnAt (K:Frag)(x:Str)(i:Nat):Prop:=∃ (f:Addr)(oc:Value)(od an:Option Addr)(osl:Array (Option Value))(kV doc pm cdv ct:Value),nsIn K mainGlobals x=some (some (.ref f)) ∧
 K.lookup f=some ⟨oc,od,.func (fnOf x x (dA (tp i)) (dB (tp i)) (dS (tp i)) .none kV doc pm an cdv ct),osl⟩/\codeIn K cdv x=true/\keepIn K (.ref f)=true
theorem FnAt.of {K:Frag}{x:Str}{i:Nat}{f:Addr}{oc:Value}{od an:Option Addr}{osl:Array (Option Value)}{kV doc pm cdv ct:Value}(a:nsIn K mainGlobals x=some (some (.ref f)):=by k_is)
  (l:K.lookup f=some ⟨oc,od,.func (fnOf x x (dA (tp i)) (dB (tp i)) (dS (tp i)) .none kV doc pm an cdv ct),osl⟩:=by k_is)(c:codeIn K cdv x=true:=by k_is)(k:keepIn K (.ref f)=true:=by k_is):FnAt K x i:=⟨f,oc,od,an,osl,kV,doc,pm,cdv,ct,a,l,c,k⟩
def nZ(K)(x):=nsIn K mainGlobals x=some none
theorem nZ.of{K:Frag}{x}(h:nsIn K mainGlobals x=some none:=by k_is):nZ K x:=h
inductive Facts(K:Frag):Prop
|mk    (_:FnAt K "_law_begin" 16)(_:FnAt K "_law_take" 17)(_:FnAt K "covered" 2)(_:FnAt K "holders" 3)(_:FnAt K "free_cells" 4)(_:FnAt K "one_further" 7)(_:FnAt K "without_trolleys" 9)(_:FnAt K "floor_of" 10)(_:FnAt K "all_are_single" 11)(_:FnAt K "neighbours_on" 12)(_:FnAt K "ring_of" 13)(_:FnAt K "ring_order" 14)(_:FnAt K "_law_covered" 18)(_:FnAt K "_law_room_of" 19)(_:FnAt K "_law_sized" 20)(_:FnAt K "_law_kind" 21)(_:FnAt K "_law_hall" 22)(_:FnAt K "_law_single_hall" 24)(_:FnAt K "_law_ring_hall" 23)(_:FnAt K "_law_two_rings" 32)(_:FnAt K "_law_behind" 25)(_:FnAt K "_law_open" 26)(_:FnAt K "_law_single" 27)(_:FnAt K "_law_ring" 28)(_:FnAt K "_law_stands" 29)(_:FnAt K "_law_other_stand" 30)(_:FnAt K "_law_same" 31)(_:FnAt K "law" 33)(_:nZ K "len")(_:nZ K "divmod")(_:nZ K "list")(_:nZ K "tuple")(_:nZ K "int")(_:nZ K "bool")(_:nZ K "str")(_:nZ K "dict")(_:nZ K "isinstance")(_:nZ K "all")(_:nZ K "any")(_:nZ K "sum")(_:nZ K "zip")(_:nZ K "enumerate")(_:nZ K "range")(_:nZ K "sorted")(_:nZ K "min")(_:nZ K "max")(_:nZ K "abs")(_:nZ K "reversed"){c8:Tok}(d5:nsIn K mainGlobals "WALL"=some (some (.int (-1) c8))){a0 a3 a4 a1 a2:Addr}{b9 b0 a7 a9 b2:Option Addr}{c6 a8 b1 a5 a6:Array (Option Value)}{c7 b7 c5 c4 b4:Nat}{c3 c2 b3 b5 b6 b8 c1 c0:Tok}(d4:nsIn K mainGlobals "STEPS"=some (some (.ref a0)))(d1:K.lookup a0=some ⟨.type "tuple",b9,.seq #[.ref a3,.ref a4,.ref a1,.ref a2] c7,c6⟩)(d2:K.lookup a3=some ⟨.type "tuple",b0,.seq #[.int (1) c3,.int (0) c2] b7,a8⟩)(d0:K.lookup a4=some ⟨.type "tuple",a7,.seq #[.int (0) b3,.int (1) b5] c5,b1⟩)(c9:K.lookup a1=some ⟨.type "tuple",a9,.seq #[.int (-1) b6,.int (0) b8] c4,a5⟩)(d3:K.lookup a2=some ⟨.type "tuple",b2,.seq #[.int (0) c1,.int (-1) c0] b4,a6⟩):Facts K
end K32
open PySem PySem.W PyProof.Rows PySem.Challenge
noncomputable def vw:Program:=view rw_slidehall_k32_orders_round_rings.row.toRowW.prog [1,2,3,4,6,7,9,10,11,12,13,14,16,17,18,19,20,21,22,23,24,25,26,27,28,29,30,31,32,33]
local macro_rules
 | `(tactic| o_head $H)=>`(tactic| (
  refine holds_open (q:=vw) (loose:=[]) (N:=5700) (Xt:=λs=>xlAt vw [] s && recOk rw_slidehall_k32_orders_round_rings.row.toRowW.records s) (XP:=XL vw []) (Yf:=Hook.obs $H) (Ya:=Hook.val $H) (YP:=Hook.says $H) ?hl (Hook.of $H) (Hook.keeps $H) (λs e=>xl_of s (Bool.and_eq_true_iff.mp e).1) XL.keeps (by rfl) (by rfl) (by rfl) (λs e=>recFacts_of (Bool.and_eq_true_iff.mp e).2) (by rfl) (by first | assumption | decide +kernel) (by decide +kernel) ⟨rfl,rfl,rfl,rfl,rfl,by decide +kernel⟩ ?hw ?hc
  (case hl=>intro w; kernel_rfl)
  (case hw=>w_witness2)))
theorem K32.early (W:∀ (q:Program) (loose:List Str) (XP:(Str->Option Value)->Heap->Prop) (YP:World->Heap->Prop) (d:DefRec) (K:Params->Frag),d.params.defaults = []->d.name = "law"->(∀ (w:World) (h:Heap),YP w h->(K w.params).In h)->(∀ P:Params,K32.Facts (K P)) →
  WalkO q loose XP YP rw_slidehall_k32_orders_round_rings.row.toRowW d [] (λf vs=>PySem.call f vs)):rw_slidehall_k32_orders_round_rings.Holds:=by
 w_on; o_law; k_head
 k_fill
 refine W _ _ _ _ _ _ rfl rfl (λw h Y=>kIn_of Y) ?F
 case F =>
  intro P
  exact .mk .of .of .of .of .of .of .of .of .of .of .of .of .of .of .of .of .of .of .of .of .of .of .of .of .of .of .of .of .of .of .of .of .of .of .of .of .of .of .of .of .of .of .of .of .of .of .of .of (by k_is) (by k_is) (by k_is) (by k_is) (by k_is) (by k_is) (by k_is)

end
noncomputable section
local macro_rules
 |`(command|open H in $c)=>`(command|set_option tactic.hygienic true in $c)
local macro_rules
 | `(tactic| and_intros)=>`(tactic| exact ⟨rfl,rfl,rfl,by decide +kernel,rfl,by decide +kernel,by decide +kernel⟩)
open PySem renaming wpAny_bind→Aa1,wpAny_pure→Ac1,wpAny_field→Ae1,wpAny_setField_rec→Af1,wpAny_mono→Ag1,wpAny_truthy_bool→Ah1,wpAny_call_entry→Aj1,wpAny_seqItems→Ak1
open List renaming length_map→Aa0,getElem?_eq_getElem→Ac0,getElem?_eq_some_iff→Ae0,size_toArray→Af0,getElem?_map→Ai0,mem_cons→Aj0,length_append→Ak0,mem_singleton→Al0,map_append→Am0,not_mem_nil→Ao0,map_cons→Aq0,mem_of_getElem?→Ar0,mem_append→Av0,length_take→Aw0,length_cons→Ax0,mem_append_right→Az0,getElem?_set_ne→Ba0,take_length→Bb0,length_set→Bc0,mem_map→Bd0,map_map→Bg0,mem_cons_self→Bh0,nodup_cons→Bi0,take_add_one→Bj0,length_filter_le→Bl0,mem_filter→Bn0,mem_cons_of_mem→Br0,replicate_succ→Bs0,getD_eq_getElem?_getD→Bt0,mem_append_left→Bu0,nodup_append→Bv0,length_range→Bw0,map_congr_left→By0,flatMap_append→Bz0,eraseIdx_sublist→Cc0,pairwise_map→Ce0,flatten_cons→Cf0,length_nil→Cg0,find?_cons→Ch0,getElem?_set_self→Ci0,append_assoc→Cj0,eraseIdxIfInBounds_toArray→Cl0,drop_zero→Cm0
open PySem.Heap renaming get?_push_of_some→Ab0,get?_push_size→Ad0,get?_update_other→Bf0,size_push→Bm0,get?_update_self→Cd0,get?_push_ne→Ck0
open Nat renaming le_refl→Ag0,zero_add→Ah0,ne_of_lt→An0,le_trans→Ap0,lt_of_lt_of_le→At0,zero_le→Be0,lt_irrefl→Bq0,le_of_lt→Ca0
open Array renaming getElem?_eq_getElem→As0,length_toList→Bp0,getElem?_toList→Cn0
open Bool renaming false_ne_true→Au0,false_eq_true→Bo0,eq_iff_iff→Cb0
open Option renaming map_some→Ay0
open Int renaming toNat_natCast→Bk0,le_refl→Bx0
open PySem PySem.Spec PyProof.Rows
open PySem.W (nsIn keepIn codeIn mg_of mg_none_of fnOf sortI eq_sortI)
def Ab1:type_of% @wpS_bind:=@wpS_bind
def Ad1:type_of% @wpS_pure:=@wpS_pure
def Ai1:type_of% @wpAny_rule:=@wpAny_rule
def Al1:type_of% @decide_eq_false:=@decide_eq_false
def Am1:type_of% @decide_eq_true:=@decide_eq_true
set_option Elab.async false
set_option linter.all false
set_option maxRecDepth 100000
set_option tactic.hygienic false
set_option bootstrap.genMatcherCode false
set_option maxHeartbeats 0
set_option compiler.extract_closed false
local macro_rules
 | `(tactic| omega)=>`(tactic| first | lia | omega +splitDisjunctions)
namespace L2
abbrev Key:=Sum Int Str
def wz2:Key->Value->Bool
 | .inl k,v=>Value.isInt k v
 | .inr x,v=>Value.isStrOf x v
def vv6(w:World):Key->Int
 | .inl k=>hashInt k
 | .inr x=>hashStr w x
theorem zg0:∀{k:Key} {v:Value},wz2 k v=true->(∃i t,k=Sum.inl i/\v=Value.int i t)\/(∃x t,k=Sum.inr x/\v=Value.str x t)
 | .inl i,v,h=>by
   obtain⟨t,e⟩:=Value.isInt_shape (k:=i) (v:=v) h;exact .inl ⟨i,t,rfl,e⟩
 | .inr x,v,h=>by
   obtain⟨t,e⟩:=Value.isStrOf_shape (x:=x) (v:=v) h;exact .inr ⟨x,t,rfl,e⟩
def xn7(i:Int)(t:Tok):wz2 (.inl i) (.int i t)=true:=by simp[wz2,Value.isInt]
def xn6(x:Str)(t:Tok):wz2 (.inr x) (.str x t)=true:=by simp[wz2,Value.isStrOf]
def wn2(a b:Int):decide ((Sum.inl a:Key)=Sum.inl b)=(a == b):=by
 by_cases e:a=b
 ·subst e;simp
 ·have h:¬(Sum.inl a:Key)=Sum.inl b:=λq=>e (Sum.inl.inj q)
  rw[Al1 h];exact(beq_eq_false_iff_ne.mpr e).symm
def wm9(a b:Str):decide ((Sum.inr a:Key)=Sum.inr b)=decide (a=b):=by
 by_cases e:a=b
 ·subst e;simp
 ·have h:¬(Sum.inr a:Key)=Sum.inr b:=λq=>e (Sum.inr.inj q)
  rw[Al1 h,Al1 e]
def wn1(a:Int)(b:Str):decide ((Sum.inl a:Key)=Sum.inr b)=false:=Al1 (λq=>nomatch q)
def wn0(a:Str)(b:Int):decide ((Sum.inr a:Key)=Sum.inl b)=false:=Al1 (λq=>nomatch q)
def zg6(prog:Program)(w:World):PySem.KeyKind prog w Key where
 is:=wz2
 hash:=vv6 w
 inj:=λv a b ha hb=>by
  rcases zg0 ha with⟨i,t,rfl,rfl⟩ | ⟨x,t,rfl,rfl⟩
  ·rcases zg0 hb with⟨j,u,rfl,e⟩ | ⟨y,u,rfl,e⟩
   ·injection e with e1 _;rw[e1]
   ·exact nomatch e
  ·rcases zg0 hb with⟨j,u,rfl,e⟩ | ⟨y,u,rfl,e⟩
   ·exact nomatch e
   ·injection e with e1 _;rw[e1]
 byValue:=λk v h=>by
  rcases zg0 h with⟨i,t,rfl,rfl⟩ | ⟨x,t,rfl,rfl⟩<;>rfl
 pyHash:=λhv h=>by
  rcases zg0 hv with⟨i,t,rfl,rfl⟩ | ⟨x,t,rfl,rfl⟩
  ·exact wpAny_pyHash_int h
  ·exact wpAny_pyHash_str h
 eqBool:=λhu hv h=>by
  rcases zg0 hu with⟨i,t,rfl,rfl⟩ | ⟨x,t,rfl,rfl⟩
  ·rcases zg0 hv with⟨j,u,rfl,rfl⟩ | ⟨y,u,rfl,rfl⟩
   ·rw[wn2] at h;exact wpAny_eqBool_int h
   ·rw[wn1] at h;exact SeqAt.EqAt.int_str i t y u _ _ _ _ h
  ·rcases zg0 hv with⟨j,u,rfl,rfl⟩ | ⟨y,u,rfl,rfl⟩
   ·rw[wn0] at h;exact SeqAt.EqAt.str_int x t j u _ _ _ _ h
   ·rw[wm9] at h;exact wpAny_eqBool_str h
 «strs»:=λk x t v h=>by
  rcases zg0 h with⟨i,u,rfl,e⟩ | ⟨y,u,rfl,e⟩
  ·exact nomatch e
  ·injection e with e1 _
   subst e1;cases v<;>rfl
def yx3(prog:Program)(w:World)(i:Int)(t:Tok):(zg6 prog w).is (.inl i) (.int i t)=true:=xn7 i t
def yx2(prog:Program)(w:World)(x:Str)(t:Tok):(zg6 prog w).is (.inr x) (.str x t)=true:=xn6 x t
inductive V where
 | non | bl (b:Bool) | int (i:Int) | str (x:Str) | byt (b:Array UInt8) | flt (b:UInt64) | ref (a:Addr) | ty (n:String)
 deriving DecidableEq
def wq2:V->Value->Prop
 | .non,u=>u=Value.none
 | .bl b,u=>u=Value.bool b
 | .int i,u=>∃t,u=Value.int i t
 | .str x,u=>∃t,u=Value.str x t
 | .byt b,u=>∃t,u=Value.bytes b t
 | .flt b,u=>∃t,u=Value.float b t
 | .ref a,u=>u=Value.ref a
 | .ty n,u=>u=Value.type n
abbrev wq4:List V->List Value->Prop:=Paired wq2
def wq4.length{xs:List V}{us:List Value}(r:wq4 xs us):xs.length=us.length:=Paired.length r
theorem wq4.get:∀{xs:List V} {us:List Value} {i:Nat} {x:V},wq4 xs us->xs[i]?=some x->∃u,us[i]?=some u/\wq2 x u
 | _,_,_,_,.nil,e=>by simp at e
 | _,_,0,_,.cons r _,e=>by simp at e;subst e;exact⟨_,rfl,r⟩
 | _,_,i+1,x,.cons _ t,e=>by
   obtain⟨u,h1,h2⟩:=wq4.get (i:=i) (x:=x) t (by simpa using e);exact⟨u,by simpa using h1,h2⟩
theorem wq4.set(r:wq2 x u):∀{xs:List V} {us:List Value} (i:Nat),wq4 xs us->wq4 (xs.set i x) (us.set i u)
 | _,_,_,.nil=>.nil
 | _,_,0,.cons _ t=>.cons r t
 | _,_,i+1,.cons q t=>.cons q (wq4.set r i t)
theorem wq4.append:∀{xs ys:List V} {us ws:List Value},wq4 xs us->wq4 ys ws->wq4 (xs++ys) (us++ws)
 | _,_,_,_,.nil,s=>s
 | _,_,_,_,.cons r t,s=>.cons r (wq4.append t s)
theorem wq4.take:∀{xs:List V} {us:List Value} (n:Nat),wq4 xs us->wq4 (xs.take n) (us.take n)
 | _,_,0,_=>.nil
 | _,_,_+1,.nil=>.nil
 | _,_,n+1,.cons r t=>.cons r (wq4.take n t)
theorem wq4.drop:∀{xs:List V} {us:List Value} (n:Nat),wq4 xs us->wq4 (xs.drop n) (us.drop n)
 | _,_,0,r=>r
 | _,_,_+1,.nil=>.nil
 | _,_,n+1,.cons _ t=>wq4.drop n t
def vb8:Option V->Option Value->Prop
 | some v,some u=>wq2 v u
 | none,none=>True
 | _,_=>False
def KV{κ:Type}:List (κ×V)->List (κ×Value)->Prop:=Paired λ(p:κ×V) (q:κ×Value)=>p.1=q.1/\wq2 p.2 q.2
def kV:Key->V
 | .inl i=>.int i
 | .inr x=>.str x
inductive HO where
 /-- a list -/
 | lst (xs:List V)
 /-- a tuple (never changes) -/
 | tup (xs:List V)
 /-- a dict whose keys are ints and texts;one whose keys are tuples of ints and texts (the empty one is both) -/
 | dK (kvs:List (Key×V)) | dT (kvs:List (List Key×V))
 /-- a set of ints: its members,its size -/
 | set (S:Int->Bool) (n:Nat)
 /-- an instance of the class at C,its dict at dx,its attributes -/
 | ins (C dx:Addr) (fs:List (Str×V))
 /-- the dict of the instance at x -/
 | own (x:Addr)
 /-- the dict of an exception -/
 | xd (fs:List (Str×V))
 /-- a bound method,f of x -/
 | met (f x:Addr)
 /-- a range object lo,lo+1,.. below hi -/
 | rng (lo hi:Int)
 /-- a thing that is known to the object (the script;a dict while a loop walks it): read,never written while it is so -/
 | frz (o:Obj) (u:HO)
 /-- a code object's table -/
 | tbl (ps:Array Value)
 /-- any other thing,by what is true of its one object (a def of one's own: SetO a S n:=HO.ext λh=>..) -/
 | ext (φ:Heap->Prop)
abbrev Hp:=Addr->Option HO
def upd(H:Hp)(a:Addr)(o:HO):Hp:=λb=>if b=a then some o else H b
def zb4:upd H a o a=some o:=by unfold upd;rw[if_pos rfl]
def zb3(h:b≠a):upd H a o b=H b:=by unfold upd;rw[if_neg h]
open H in
def upd_upd:upd (upd H a o) a u=upd H a u:=by
 funext b;unfold upd;split<;>rfl
def va9{H:Hp}{a b:Addr}{o u:HO}(h:H a=some o)(h':H b=some u)(d:o≠u):a≠b:=by
 intro e;subst e;rw[h] at h';exact d (Option.some.inj h')
def zb7{H:Hp}{a b:Addr}{o:HO}(h:H a=some o)(h':H b=none):a≠b:=by
 intro e;subst e;rw[h] at h';cases h'
section
variable(P:Program)(w:World)
def NoD(h:Heap)(a:Addr):Prop:=∃o,h.get? a=some o/\o.dict=none
def wq9(H:Hp)(h:Heap)(a:Addr):HO->Prop
 | .lst xs=>xs.length<=sizeLine/\∃(its:List Value) (n:Nat),wq4 xs its/\h.get? a=some { cls:=.type "list",data:=.seq its.toArray n }
 | .tup xs=>xs.length<=sizeLine/\∃its:List Value,wq4 xs its/\IsTup h a its.toArray/\NoD h a
 | .dK kvs=>kvs.length<=sizeLine/\(a == sysModules)=false/\∃vs,KV kvs vs/\h.DictOf (zg6 P w) a vs
 | .dT kvs=>kvs.length<=sizeLine/\(a == sysModules)=false/\∃xs:List (List Key×Addr×Value),
  Paired (λ(p:List Key×V) (q:List Key×Addr×Value)=>p.1=q.1/\H q.2.1=some (.tup (p.1.map kV))/\wq2 p.2 q.2.2) kvs xs/\
  ∃o es ep,h.get? a=some o/\o.ExactDict/\o.data=.dict es ep/\es.toList=xs.map (entryOfKey (tupleKind (zg6 P w)))/\(xs.map (·.1)).Nodup
 | .set S n=>h.SetOf (intKind P w) a S n
 | .ins C dx fs=>H dx=some (.own a)/\fs.length<=1000/\dx≠a/\h.get? a=some (PySem.W.instObj C dx)/\
  ∃mA,h.Ns1 dx mA/\(∀f,vb8 (fs.lookup f) (mA f))/\PySem.Within mA (fs.map (·.1))
 | .own _=>∃o,h.get? a=some o
 | .xd fs=>∃mA,h.Ns1 a mA/\∀f,vb8 (fs.lookup f) (mA f)
 | .rng lo hi=>∃t u v,h.get? a=some { cls:=.type "range",data:=.fields #[.int lo t,.int hi u,.int 1 v] }
 | .frz o u=>h.get? a=some o/\wq9 H h a u
 | .tbl ps=>h.get? a=some { cls:=.none,data:=.fields ps }
 | .met f x=>h.get? a=some (PySem.W.methodObj (.ref f) (.ref x))
 | .ext φ=>φ h/\(∃o,h.get? a=some o)/\∀h1 h2:Heap,φ h1->(∀o,h1.get? a=some o->h2.get? a=some o)->φ h2
def HOk(H:Hp)(h:Heap):Prop:=∀a o,H a=some o->wq9 P w H h a o
end
section
variable{P:Program}{w:World}{H H':Hp}{h h':Heap}{a:Addr}{o:HO}
theorem wq9.lt(x:wq9 P w H h a o):a<h.objs.size:=by
 cases o with
 | lst xs=>obtain⟨_,_,_,_,e⟩:=x;exact Heap.lt_size e
 | tup xs=>obtain⟨_,_,_,p,_⟩:=x;exact p.lt
 | dK kvs=>obtain⟨_,_,_,_,o,_,_,e,_⟩:=x;exact Heap.lt_size e
 | dT kvs=>obtain⟨_,_,_,_,o,_,_,e,_⟩:=x;exact Heap.lt_size e
 | set S n=>obtain⟨o,_,_,_,e,_⟩:=x;exact Heap.lt_size e
 | ins C dx fs=>obtain⟨_,_,_,e,_⟩:=x;exact Heap.lt_size e
 | own y=>obtain⟨_,e⟩:=x;exact Heap.lt_size e
 | xd fs=>obtain⟨_,⟨_,_,_,e,_⟩,_⟩:=x;exact Heap.lt_size e
 | rng lo hi=>obtain⟨_,_,_,e⟩:=x;exact Heap.lt_size e
 | frz ob u=>obtain⟨e,_⟩:=x;exact Heap.lt_size e
 | tbl ps=>exact Heap.lt_size (show h.get? a=some _ from x)
 | met f y=>exact Heap.lt_size (show h.get? a=some _ from x)
 | ext φ=>obtain⟨_,⟨_,e⟩,_⟩:=x;exact Heap.lt_size e
theorem Paired.mapP{α β:Type}{F G:α->β->Prop}:∀{l₁:List α} {l₂:List β},Paired F l₁ l₂->(∀a b,F a b->G a b)->Paired G l₁ l₂
 | _,_,.nil,_=>.nil
 | _,_,.cons r t,f=>.cons (f _ _ r) (Paired.mapP t f)
theorem wq9.stay(x:wq9 P w H h a o)(k:∀b u,(b=a\/H b=some (.own a))->h.get? b=some u->h'.get? b=some u)(ho:∀b,H b=some (.own a)->H' b=some (.own a))(ht:∀b xs,H b=some (.tup xs)->H' b=some (.tup xs)):wq9 P w H' h' a o:=by
 induction o with
 | lst xs=>obtain⟨z,its,n,r,e⟩:=x;exact⟨z,its,n,r,k _ _ (.inl rfl) e⟩
 | tup xs=>obtain⟨z,its,r,⟨ob,e,c⟩,od,e2,c2⟩:=x;exact⟨z,its,r,⟨ob,k _ _ (.inl rfl) e,c⟩,od,k _ _ (.inl rfl) e2,c2⟩
 | dK kvs=>obtain⟨z,y,vs,r,ob,es,ep,e,c⟩:=x;exact⟨z,y,vs,r,ob,es,ep,k _ _ (.inl rfl) e,c⟩
 | dT kvs=>
   obtain⟨z,y,xs,r,ob,es,ep,e,c⟩:=x;exact⟨z,y,xs,Paired.mapP r λp q z=>⟨z.1,ht _ _ z.2.1,z.2.2⟩,ob,es,ep,k _ _ (.inl rfl) e,c⟩
 | set S n=>obtain⟨ob,es,ep,t,e,c⟩:=x;exact⟨ob,es,ep,t,k _ _ (.inl rfl) e,c⟩
 | ins C dx fs=>
   obtain⟨d,z,ne,e,mA,⟨od,es,ep,e2,c⟩,r⟩:=x;exact⟨ho _ d,z,ne,k _ _ (.inl rfl) e,mA,⟨od,es,ep,k _ _ (.inr d) e2,c⟩,r⟩
 | own y=>obtain⟨ob,e⟩:=x;exact⟨ob,k _ _ (.inl rfl) e⟩
 | xd fs=>obtain⟨mA,⟨od,es,ep,e,c⟩,r⟩:=x;exact⟨mA,⟨od,es,ep,k _ _ (.inl rfl) e,c⟩,r⟩
 | rng lo hi=>obtain⟨t,u,v,e⟩:=x;exact⟨t,u,v,k _ _ (.inl rfl) e⟩
 | frz ob u ih=>obtain⟨e,q⟩:=x;exact⟨k _ _ (.inl rfl) e,ih q⟩
 | tbl ps=>
   have e:h.get? a=some { cls:=.none,data:=.fields ps }:=x;show h'.get? a=some { cls:=.none,data:=.fields ps };exact k a _ (.inl rfl) e
 | met f y=>
   have e:h.get? a=some (PySem.W.methodObj (.ref f) (.ref y)):=x;show h'.get? a=some (PySem.W.methodObj (.ref f) (.ref y));exact k a _ (.inl rfl) e
 | ext φ=>obtain⟨p,⟨o,e⟩,st⟩:=x;exact⟨st _ _ p λo q=>k _ _ (.inl rfl) q,⟨o,k _ _ (.inl rfl) e⟩,st⟩
def HOk.lt(x:HOk P w H h)(e:H a=some o):a<h.objs.size:=(x a o e).lt
theorem HOk.fresh(x:HOk P w H h)(e:h.objs.size<=a):H a=none:=by
 cases q:H a with
 | none=>rfl
 | some u=>exact absurd (At0 (x.lt q) e) (Bq0 _)
def HOk.kept(x:HOk P w H h)(k:∀b u,h.get? b=some u->h'.get? b=some u):HOk P w H h':=λa o e=>
 (x a o e).stay (λb u _ q=>k b u q) (λ_ q=>q) λ_ _ q=>q
def HOk.laid(x:HOk P w H h)(k:∀b u,h.get? b=some u->h'.get? b=some u)(hp:h.objs.size<=a)(new:wq9 P w (upd H a o) h' a o):HOk P w (upd H a o) h':=λb u e=>by
 have hn:=x.fresh hp;by_cases hb:b=a
 ·subst hb;rw[zb4] at e;cases e;exact new
 ·rw[zb3 hb] at e
  exact(x b u e).stay (λc v _ q=>k c v q) (λc q=>by rw[zb3 (zb7 q hn)];exact q) λc xs q=>by rw[zb3 (zb7 q hn)];exact q
end
def Rd(H:Hp)(a:Addr)(u:HO):Prop:=H a=some u\/∃o,H a=some (.frz o u)
def Rd.ok(r:Rd H a u)(x:HOk P w H h):wq9 P w H h a u:=by
 rcases r with r | ⟨o,r⟩
 ·exact x a u r
 ·obtain⟨_,q⟩:=x a _ r
  exact q
def Mut:Option HO->Prop
 | some (.lst _)=>True
 | some (.dK _)=>True
 | some (.dT _)=>True
 | some (.set _ _)=>True
 | some (.ins _ _ _)=>True
 | some (.ext _)=>True
 | _=>False
section
variable{P:Program}{w:World}{H:Hp}{h h':Heap}{x e:Addr}{o':HO}
def HOk.write(ok:HOk P w H h)(mu:Mut (H x))(he:e=x\/H e=some (.own x))(k:∀b u,b≠e->h.get? b=some u->h'.get? b=some u)(heo:∃u,h'.get? e=some u)(new:wq9 P w (upd H x o') h' x o'):HOk P w (upd H x o') h':=λb u q=>by
 have nown:∀c y,H c=some (.own y)->c≠x:=λc y r z=>by subst z;rw[r] at mu;exact mu
 have ntup:∀c xs,H c=some (.tup xs)->c≠x:=λc xs r z=>by subst z;rw[r] at mu;exact mu
 by_cases hb:b=x
 ·subst hb;rw[zb4] at q;cases q;exact new
 ·rw[zb3 hb] at q
  by_cases hbe:b=e
  ·have q':H b=some (.own x):=by
    rcases he with z | z
    ·exact absurd (hbe.trans z) hb
    ·rw[hbe];exact z
   rw[q] at q';cases q';obtain⟨v,hv⟩:=heo;exact⟨v,by rw[hbe];exact hv⟩
  ·refine(ok b u q).stay (λc v hc r=>k c v ?_ r) (λc r=>by rw[zb3 (nown c b r)];exact r) λc xs r=>by rw[zb3 (ntup c xs r)];exact r
   rcases hc with rfl | hc
   ·exact hbe
   ·rintro rfl
    rcases he with z | z
    ·exact nown c b hc z
    ·rw[hc] at z;cases z;exact hb rfl
end
structure Un(fs ex:List Addr)(H H':Hp)(h h':Heap):Prop where
 keep:∀b o,h.get? b=some o->H b=none->b∉fs->b∉ex->h'.get? b=some o
 slot:∀b o,h.get? b=some o->H b=none->b∈fs->b∉ex->∃sl,h'.get? b=some { o with slots:=sl }
 free:∀b o,h.get? b=some o->H b=none->b∉ex->H' b=none
 there:∀b o,h.get? b=some o->b∉ex->∃o',h'.get? b=some o'
 tups:∀b xs,H b=some (.tup xs)->H' b=some (.tup xs)
 frzs:∀b o u,H b=some (.frz o u)->H' b=some (.frz o u)
 tbls:∀b ps,H b=some (.tbl ps)->∃more,H' b=some (.tbl (ps++more))
section
variable{fs fs' ex ex':List Addr}{H H1 H2:Hp}{h h1 h2 h':Heap}{a x e:Addr}{o:HO}
def Un.any(u:Un fs ex H H1 h h1){b:Addr}{ob:Obj}(q:h.get? b=some ob)(n:H b=none)(hx:b∉ex):∃sl,h1.get? b=some { ob with slots:=sl }:=by
 by_cases hb:b∈fs
 ·exact u.slot b ob q n hb hx
 ·exact⟨ob.slots,u.keep b ob q n hb hx⟩
def Un.kept(k:∀b u,h.get? b=some u->h'.get? b=some u):Un fs ex H H h h':=
 ⟨λb ob q _ _ _=>k b ob q,λb ob q _ _ _=>⟨ob.slots,k b ob q⟩,λ_ _ _ n _=>n,λb ob q _=>⟨ob,k b ob q⟩,λ_ _ q=>q,λ_ _ _ q=>q,λ_ ps q=>⟨#[],by rw[q];simp⟩⟩
def Un.refl:Un fs ex H H h h:=Un.kept λ_ _ q=>q
def Un.laid(k:∀b u,h.get? b=some u->h'.get? b=some u)(hp:h.objs.size<=a)(hn:H a=none):Un fs ex H (upd H a o) h h' where
 keep:=λb u q _ _ _=>k b u q
 slot:=λb u q _ _ _=>⟨u.slots,k b u q⟩
 free:=λb u q n _=>by rw[zb3 (An0 (At0 (Heap.lt_size q) hp))];exact n
 there:=λb u q _=>⟨u,k b u q⟩
 tups:=λb xs q=>by rw[zb3 (zb7 q hn)];exact q
 frzs:=λb u xs q=>by rw[zb3 (zb7 q hn)];exact q
 tbls:=λb ps q=>⟨#[],by rw[zb3 (zb7 q hn),q];simp⟩
def Un.write(mu:Mut (H x))(he:e=x\/H e=some (.own x))(k:∀b u,b≠e->h.get? b=some u->h'.get? b=some u)(heo:∃u,h'.get? e=some u):Un fs ex H (upd H x o) h h':=by
 have hx:∀b,H b=none->b≠x:=λb n z=>by subst z;rw[n] at mu;exact mu
 have hb:∀b,H b=none->b≠e:=λb n z=>by
  subst z;rcases he with r | r
  ·exact hx b n r
  ·rw[n] at r;cases r
 have hm:∀b u,H b=some u->¬Mut (some u)->b≠x:=λb u q nm z=>by subst z;rw[q] at mu;exact nm mu
 refine⟨λb u q n _ _=>k b u (hb b n) q,λb u q n _ _=>⟨u.slots,k b u (hb b n) q⟩,λb u q n _=>by rw[zb3 (hx b n)];exact n,λb u q _=>?_,
  λb xs q=>by rw[zb3 (hm b _ q λz=>z)];exact q,λb u xs q=>by rw[zb3 (hm b _ q λz=>z)];exact q,λb ps q=>⟨#[],by rw[zb3 (hm b _ q λz=>z),q];simp⟩⟩
 by_cases hbe:b=e
 ·subst hbe;exact heo
 ·exact⟨u,k b u hbe q⟩
end
def trk(h:Heap)(H:Hp):List Addr:=(List.range h.objs.size).filter λa=>(H a).isSome
def vd1(h:Heap)(H:Hp):Heap:=PySem.W.hideAll h (trk h H)
def xo7(h:Heap)(H:Hp):(vd1 h H).objs.size=h.objs.size:=PySem.W.hideAll_size _ _
def xw9(e:h.get? b=some o)(n:H b=none):(vd1 h H).get? b=some o:=
 PySem.W.hideAll_get _ e λhm=>by
  have q:(H b).isSome=true:=(Bn0.mp hm).2;rw[n] at q;simp at q
theorem wf4(e:(vd1 h H).get? b=some o):h.get? b=some o/\H b=none:=by
 have e':h.get? b=some o:=PySem.W.of_hideAll (trk h H) e;refine⟨e',?_⟩;cases q:H b with
 | none=>rfl
 | some x=>
   have hm:b∈trk h H:=Bn0.mpr ⟨List.mem_range.mpr (Heap.lt_size e'),by simp[q]⟩;have z:(vd1 h H).get? b=none:=PySem.W.hideAll_none (trk h H) hm;rw[z] at e;cases e
structure Mod(K:PySem.W.Frag)(mg:Str->Option Value)(base:Heap):Prop where
 kin:K.In base
 glob:base.Ns mainGlobals mg
 blt:∃mb,base.Ns builtinsNs mb/\∀x:Str,x≠"__name__"->mb x=bootBuiltins x
 nolimit:base.NoLimit
structure Cx where
 prog:Program
 w:World
 K:PySem.W.Frag
 mg:Str->Option Value
 base:Heap
 A:Around
 N:List Str
 s₀:Shared
 H₀:Hp
 env:Env
 outer:List Env
 stack:List Env
 ex:List Addr
 fn:Str->Bool
 calm:Bool
 pn:List (Addr×Obj)
 xe:Value->Shared->Prop
def frs(l:List Env):List Addr:=l.filterMap (·.frame)
abbrev Cx.fs(X:Cx):List Addr:=frs X.outer
def Vis(sc:Scope)(x:Str):Prop:=sc.names.lookup x=some .local\/sc.names.lookup x=some .cell\/sc.names.lookup x=some .free
def Loc(sc:Scope)(x:Str):Prop:=sc.names.lookup x=some .local\/sc.names.lookup x=some .cell
def vw5(env:Env)(h:Heap)(m:Str->Option Value)(x:Str)(u:Value):Prop:=
 (env.kindOf x=some .local/\m x=some u)\/((env.kindOf x=some .cell\/env.kindOf x=some .free)/\∃c,env.cells.lookup x=some c/\h.IsCell c (some u))
structure Cx.Ok(X:Cx):Prop where
 mod:Mod X.K X.mg X.base
 kind:X.env.scope.kind=.function
 glob:X.env.globals=mainGlobals
 blt:X.env.builtins=builtinsNs
 above:X.s₀.heap.objs.size<=X.env.locals
 inj:∀x y c,X.env.cells.lookup x=some c->X.env.cells.lookup y=some c->x=y
 has:∀x,(X.env.kindOf x=some .cell\/X.env.kindOf x=some .free)->∃c,X.env.cells.lookup x=some c
 cab:∀x c,X.fn x=true->X.env.cells.lookup x=some c->X.s₀.heap.objs.size<=c
 hd:X.calm=true->X.A.handled=none
 frames:X.A.frames=some X.stack
 stk:X.stack=X.outer\/(X.stack=X.env::X.outer/\X.env.frame=some X.env.locals)
 exf:∀b∈X.ex,b≠X.env.locals/\∀x c,X.env.cells.lookup x=some c->c≠b
 bs:∀b o,X.base.get? b=some o->X.s₀.heap.get? b=some o/\X.H₀ b=none
 bsz:X.base.objs.size<=X.s₀.heap.objs.size
 noex:∀b o,X.base.get? b=some o->b∉X.ex
 exfs:∀b∈X.ex,b∉X.fs
 funs:X.s₀.heap.FunFrames X.base X.outer
 frf:∀b∈X.fs,X.H₀ b=none
structure Inv(X:Cx)(A3:List (Addr×Obj))(σ:List (Option V))(H:Hp)(s:Shared):Prop where
 ok:X.Ok
 os:s.os=X.s₀.os
 bare:AllBare s.gens
 base:Un X.fs X.ex X.H₀ H X.s₀.heap s.heap
 loc:∃m,s.heap.Ns X.env.locals m/\∀(i:Nat) (x:Str) (v:V),X.N[i]?=some x->σ[i]?=some (some v)->Vis X.env.scope x->∃u,wq2 v u/\vw5 X.env s.heap m x u
 cell:∀x c,X.env.cells.lookup x=some c->∃v,s.heap.IsCell c v
 free:H X.env.locals=none
 freeC:∀x c,X.env.cells.lookup x=some c->H c=none
 pin:∀p∈X.pn++A3,s.heap.get? p.1=some p.2/\H p.1=none/\p.1≠X.env.locals/\p.1∉X.fs/\∀v,p.2.data≠.cell v
 hok:HOk X.prog X.w H s.heap
 len:σ.length=X.N.length
section
variable{X:Cx}{A3:List (Addr×Obj)}{σ:List (Option V)}{H H':Hp}{s:Shared}{h':Heap}
def Cx.Ok.nofr(ok:X.Ok)(e:X.base.get? b=some o):b∉X.fs:=λhb=>by
 have:=(ok.funs.mem hb).1;rw[e] at this;cases this
def Inv.bs(I:Inv X A3 σ H s):∀b o,X.base.get? b=some o->s.heap.get? b=some o/\H b=none:=λb o e=>
 ⟨I.base.keep b o (I.ok.bs b o e).1 (I.ok.bs b o e).2 (I.ok.nofr e) (I.ok.noex b o e),I.base.free b o (I.ok.bs b o e).1 (I.ok.bs b o e).2 (I.ok.noex b o e)⟩
def Inv.bk(I:Inv X A3 σ H s):∀b o,X.base.get? b=some o->s.heap.get? b=some o:=λb o e=>(I.bs b o e).1
def Inv.mod(I:Inv X A3 σ H s):Mod X.K X.mg X.base:=I.ok.mod
def Inv.kIn(I:Inv X A3 σ H s):X.K.In s.heap:=I.ok.mod.kin.keeps I.bk
def Inv.lt(I:Inv X A3 σ H s):X.env.locals<s.heap.objs.size:=let ⟨_,hn,_⟩:=I.loc;hn.lt
def Inv.sz(I:Inv X A3 σ H s):X.s₀.heap.objs.size<=s.heap.objs.size:=Ap0 I.ok.above (Ca0 I.lt)
def Inv.nofs(I:Inv X A3 σ H s)(h:s.heap.objs.size<=a):a∉X.fs:=λhb=>by
 obtain⟨_,o,ho,_⟩:=I.ok.funs.mem hb;exact absurd (At0 (Heap.lt_size ho) (Ap0 I.sz h)) (Bq0 _)
def Inv.cne(I:Inv X A3 σ H s):∀x c,X.env.cells.lookup x=some c->c≠X.env.locals:=λx c e z=>by
 obtain⟨v,o,ho,hd⟩:=I.cell x c e;obtain⟨m,⟨o',es,ep,ho',hd',_⟩,_⟩:=I.loc;rw[z,ho'] at ho;cases ho;rw[hd'] at hd;cases hd
def Inv.funs(I:Inv X A3 σ H s):s.heap.FunFrames X.base X.outer:=by
 have all:∀(l:List Env),(∀b∈frs l,b∈X.fs)->X.s₀.heap.FunFrames X.base l->s.heap.FunFrames X.base l:=by
  intro l;induction l with
  | nil=>intro _ _;trivial
  | cons env r ih=>
    intro hs hl;obtain⟨hk,⟨L,o,hf,hn,ho,hd⟩,hr⟩:=hl;have hL:L∈X.fs:=hs L (by unfold frs;rw[List.filterMap_cons,hf];exact Bh0);obtain⟨sl,e⟩:=I.base.slot L o ho (I.ok.frf L hL) hL λz=>I.ok.exfs L z hL
    exact⟨hk,⟨L,_,hf,hn,e,hd⟩,ih (λb hb=>hs b (by unfold frs;rw[List.filterMap_cons,hf];exact Br0 _ hb)) hr⟩
 exact all X.outer (λ_ hb=>hb) I.ok.funs
def Inv.stack(I:Inv X A3 σ H s):s.heap.FunFrames X.base X.stack:=by
 rcases I.ok.stk with e | ⟨e,hf⟩
 ·rw[e];exact I.funs
 ·rw[e]
  obtain⟨m,hn,_⟩:=I.loc;refine .cons (by rw[I.ok.kind];decide) hf hn ?_ I.funs;exact Heap.get?_none_of_le (Ap0 I.ok.bsz I.ok.above)
def Inv.stkSub(I:Inv X A3 σ H s):∀b∈frs X.stack,b∈X.env.locals::X.fs:=λb hb=>by
 rcases I.ok.stk with e | ⟨e,hf⟩
 ·rw[e] at hb;exact Br0 _ hb
 ·rw[e] at hb
  unfold frs at hb;rw[List.filterMap_cons,hf] at hb;exact hb
def Inv.stkFree(I:Inv X A3 σ H s):∀b∈frs X.stack,H b=none:=λb hb=>by
 rcases Aj0.mp (I.stkSub b hb) with e | hb
 ·rw[e];exact I.free
 ·obtain⟨_,o,ho,_⟩:=I.ok.funs.mem hb
  exact I.base.free b o ho (I.ok.frf b hb) λz=>I.ok.exfs b z hb
def Inv.step{g':Array GenState}{t':Nat}{d':Drawn}{ch:List Addr}(I:Inv X A3 σ H s)(hch:∀b∈ch,(b∈X.ex\/X.s₀.heap.objs.size<=b)/\b≠X.env.locals/\(∀x c,X.env.cells.lookup x=some c->c≠b)/\∀p∈X.pn++A3,p.1≠b)(keep:∀b o,b≠X.env.locals->b∉X.fs->b∉ch->s.heap.get? b=some o->H b=none->h'.get? b=some o)(slot:∀b o,b≠X.env.locals->b∈X.fs->b∉ch->s.heap.get? b=some o->H b=none->∃sl,h'.get? b=some { o with slots:=sl })(free:∀b o,b∉ch->s.heap.get? b=some o->H b=none->H' b=none)(there:∀b o,b∉ch->s.heap.get? b=some o->∃o',h'.get? b=some o')(tups:∀b xs,H b=some (.tup xs)->H' b=some (.tup xs))(frzs:∀b o u,H b=some (.frz o u)->H' b=some (.frz o u))(tbls:∀b ps,H b=some (.tbl ps)->∃more,H' b=some (.tbl (ps++more)))(ns:∀m,s.heap.Ns X.env.locals m->h'.Ns X.env.locals m)(hok:HOk X.prog X.w H' h')(hg:AllBare g') :
 Inv X A3 σ H' { s with heap:=h',gens:=g',drawn:=d',toks:=t' }:=by
 have neL:∀b o,X.s₀.heap.get? b=some o->b≠X.env.locals:=λb o e=>An0 (At0 (Heap.lt_size e) I.ok.above)
 have neC:∀b o,X.s₀.heap.get? b=some o->b∉X.ex->b∉ch:=λb o e hx hb=>by
  rcases (hch b hb).1 with z | z
  ·exact hx z
  ·exact absurd (At0 (Heap.lt_size e) z) (Bq0 _)
 have cellK:∀x c,X.env.cells.lookup x=some c->∀v,s.heap.IsCell c v->h'.IsCell c v:=λx c e v hI1=>by
  obtain⟨o,ho,hd⟩:=hI1;have nch:c∉ch:=λz=>(hch c z).2.2.1 x c e rfl
  by_cases hc:c∈X.fs
  ·obtain⟨sl,q⟩:=slot c o (I.cne x c e) hc nch ho (I.freeC x c e)
   exact⟨_,q,hd⟩
  ·exact⟨o,keep c o (I.cne x c e) hc nch ho (I.freeC x c e),hd⟩
 refine⟨I.ok,I.os,hg,⟨λb o e n hb hx=>?_,λb o e n hb hx=>?_,λb o e n hx=>?_,λb o e hx=>?_,λb xs e=>tups b xs (I.base.tups b xs e),λb o xs e=>frzs b o xs (I.base.frzs b o xs e),λb ps e=>?_⟩,?_,λx c e=>?_,?_,λx c e=>?_,λp hp=>?_,hok,I.len⟩
 ·exact keep b o (neL b o e) hb (neC b o e hx) (I.base.keep b o e n hb hx) (I.base.free b o e n hx)
 ·obtain⟨sl,e1⟩:=I.base.slot b o e n hb hx
  obtain⟨sl',e2⟩:=slot b _ (neL b o e) hb (neC b o e hx) e1 (I.base.free b o e n hx);exact⟨sl',e2⟩
 ·obtain⟨o',e1⟩:=I.base.there b o e hx
  exact free b o' (neC b o e hx) e1 (I.base.free b o e n hx)
 ·obtain⟨o',e1⟩:=I.base.there b o e hx
  exact there b o' (neC b o e hx) e1
 ·obtain⟨m1,e1⟩:=I.base.tbls b ps e
  obtain⟨m2,e2⟩:=tbls b _ e1;exact⟨m1++m2,by rw[e2,Array.append_assoc]⟩
 ·obtain⟨m,hn,hl⟩:=I.loc
  refine⟨m,ns m hn,λi x v e1 e2 e3=>?_⟩;obtain⟨u,r,l⟩:=hl i x v e1 e2 e3;refine⟨u,r,?_⟩;rcases l with l | ⟨k,c,e,z⟩
  ·exact .inl l
  ·exact .inr ⟨k,c,e,cellK x c e _ z⟩
 ·obtain⟨v,z⟩:=I.cell x c e
  exact⟨v,cellK x c e v z⟩
 ·obtain⟨m,⟨o,_,_,ho,_⟩,_⟩:=I.loc
  exact free _ o (λz=>(hch _ z).2.1 rfl) ho I.free
 ·obtain⟨v,o,ho,hd⟩:=I.cell x c e
  exact free c o (λz=>(hch c z).2.2.1 x c e rfl) ho (I.freeC x c e)
 ·obtain⟨e,n,ne,nf,d⟩:=I.pin p hp
  have nch:p.1∉ch:=λz=>(hch p.1 z).2.2.2 p hp rfl
  exact⟨keep p.1 p.2 ne nf nch e n,free p.1 p.2 nch e n,ne,nf,d⟩
def Inv.un{t':Nat}(I:Inv X A3 σ H s)(u:Un X.fs [] H H' s.heap h')(hok:HOk X.prog X.w H' h'):Inv X A3 σ H' { s with heap:=h',toks:=t' }:=by
 obtain⟨m,⟨o,es,ep,ho,r⟩,_⟩:=id I.loc;obtain⟨sl,hL⟩:=u.any ho I.free (by simp);exact I.step (g':=s.gens) (d':=s.drawn) (ch:=[]) (λ_ z=>nomatch z) (λb o _ hb _ e n=>u.keep b o e n hb (by simp)) (λb o _ hb _ e n=>u.slot b o e n hb (by simp)) (λb o _ e n=>u.free b o e n (by simp)) (λb o _ e=>u.there b o e (by simp)) u.tups u.frzs u.tbls (λm' hm=>by
  obtain⟨o',es',ep',ho',r'⟩:=hm;rw[ho] at ho';cases ho';exact⟨_,es',ep',hL,r'⟩) hok I.bare
def Inv.call{g':Array GenState}{t':Nat}{d':Drawn}{ch:List Addr}(I:Inv X A3 σ H s)(u:Un (frs X.stack) ch H H' s.heap h')(hok:HOk X.prog X.w H' h')(hg:AllBare g')(hch:∀b∈ch,(b∈X.ex\/X.s₀.heap.objs.size<=b)/\b≠X.env.locals/\(∀x c,X.env.cells.lookup x=some c->c≠b)/\∀p∈X.pn++A3,p.1≠b) :
 Inv X A3 σ H' { s with heap:=h',gens:=g',drawn:=d',toks:=t' }:=by
 obtain⟨m,⟨o,es,ep,ho,r⟩,_⟩:=id I.loc;obtain⟨sl,hL⟩:=u.any ho I.free λz=>(hch _ z).2.1 rfl
 exact I.step (ch:=ch) hch (λb o hL hb hc e n=>u.keep b o e n (λz=>(Aj0.mp (I.stkSub b z)).elim hL hb) hc) (λb o _ _ hc e n=>u.any e n hc) (λb o hc e n=>u.free b o e n hc) (λb o hc e=>u.there b o e hc) u.tups u.frzs u.tbls (λm' hm=>by
  obtain⟨o',es',ep',ho',r'⟩:=hm;rw[ho] at ho';cases ho';exact⟨_,es',ep',hL,r'⟩) hok hg
def Inv.turned{t':Nat}{it:Addr}(I:Inv X A3 σ H s)(k:∀b o,b≠it->s.heap.get? b=some o->h'.get? b=some o)(hn:H it=none)(hL:it≠X.env.locals)(h1:it∈X.ex\/X.s₀.heap.objs.size<=it)(h2:∀x c,X.env.cells.lookup x=some c->c≠it)(h3:∀p∈X.pn++A3,p.1≠it):Inv X A3 σ H { s with heap:=h',toks:=t' }:=by
 have nit:∀b u,H b=some u->b≠it:=λb u e z=>by rw[z,hn] at e;cases e
 refine I.step (g':=s.gens) (d':=s.drawn) (ch:=[it]) (λb hb=>?_) (λb o _ _ hc e _=>k b o (λz=>hc (by simp[z])) e) (λb o _ _ hc e _=>⟨o.slots,k b o (λz=>hc (by simp[z])) e⟩) (λ_ _ _ _ n=>n)
  (λb o hc e=>⟨o,k b o (λz=>hc (by simp[z])) e⟩) (λ_ _ e=>e) (λ_ _ _ e=>e) (λb ps e=>⟨#[],by rw[e];simp⟩) (λm hm=>?_) (λb u e=>?_) I.bare
 ·have e:b=it:=by simpa using hb
  subst e;exact⟨h1,hL,h2,h3⟩
 ·obtain⟨o,es,ep,ho,r⟩:=hm
  exact⟨o,es,ep,k _ o (Ne.symm hL) ho,r⟩
 ·refine(I.hok b u e).stay (λc v hc q=>k c v ?_ q) (λ_ q=>q) λ_ _ q=>q
  rcases hc with z | z
  ·rw[z];exact nit b u e
  ·exact nit c _ z
def Inv.tok(I:Inv X A3 σ H s)(t:Nat):Inv X A3 σ H { s with toks:=t }:=I.un (h':=s.heap) (t':=t) Un.refl I.hok
def Inv.kept{t':Nat}(I:Inv X A3 σ H s)(k:∀b u,s.heap.get? b=some u->h'.get? b=some u):Inv X A3 σ H { s with heap:=h',toks:=t' }:=I.un (Un.kept k) (I.hok.kept k)
def Inv.laid{a:Addr}{o:HO}{t':Nat}(I:Inv X A3 σ H s)(k:∀b u,s.heap.get? b=some u->h'.get? b=some u)(hp:s.heap.objs.size<=a)(new:wq9 X.prog X.w (upd H a o) h' a o) :
 Inv X A3 σ (upd H a o) { s with heap:=h',toks:=t' }:=I.un (Un.laid k hp (I.hok.fresh hp)) (I.hok.laid k hp new)
def Inv.write{t':Nat}(I:Inv X A3 σ H s)(mu:Mut (H x))(he:e=x\/H e=some (.own x))(k:∀b u,b≠e->s.heap.get? b=some u->h'.get? b=some u)(heo:∃u,h'.get? e=some u)(new:wq9 X.prog X.w (upd H x o) h' x o):Inv X A3 σ (upd H x o) { s with heap:=h',toks:=t' }:=I.un (Un.write mu he k heo) (I.hok.write mu he k heo new)
def Inv.pins_of(I:Inv X A3 σ H s)(h:∀p∈pins',s.heap.get? p.1=some p.2/\H p.1=none/\p.1≠X.env.locals/\p.1∉X.fs/\∀v,p.2.data≠.cell v):Inv X pins' σ H s:=
 ⟨I.ok,I.os,I.bare,I.base,I.loc,I.cell,I.free,I.freeC,λp hp=>(Av0.mp hp).elim (λz=>I.pin p (Bu0 _ z)) (h p),I.hok,I.len⟩
def xa3{N:List Str}(hN:N.Nodup){i j:Nat}{x:Str}(a:N[i]?=some x)(b:N[j]?=some x):i=j:=by
 obtain⟨h1,e1⟩:=Ae0.mp a;obtain⟨h2,e2⟩:=Ae0.mp b;exact(List.getElem_inj hN).mp (e1.trans e2.symm)
def yp9{M:Model}{A:Around}{E:Value->Shared->Prop}{i:Nat}{x:Str}{v:V}{u:Value}{Q:Unit->Shared->Prop}(I:Inv X A3 σ H s)(hN:X.N.Nodup)(hi:X.N[i]?=some x)(hx:Loc X.env.scope x)(r:wq2 v u)(h:∀s',Inv X A3 (σ.set i (some v)) H s'->(∃a,Heap.SameBut a s.heap s'.heap/\(a=X.env.locals\/X.env.cells.lookup x=some a))->Q () s')(hf:X.fn x=true\/X.env.scope.names.lookup x=some .local:=by first | exact .inl rfl | exact .inr rfl | assumption):wpAny M A (storeName X.env x u) Q E s:=by
 obtain⟨m,hn,hl⟩:=id I.loc;have hcls:(X.env.scope.kind == .class||(X.env.scope.kind == .module&&X.env.locals != X.env.globals))=false:=by rw[I.ok.kind];rfl
 have hiσ:i<σ.length:=by rw[I.len];exact(Ae0.mp hi).1
 have cne:=I.cne;have tracked:∀{a:Addr} {h':Heap},(∃o,s.heap.get? a=some o/\H a=none)->Heap.SameBut a s.heap h'->HOk X.prog X.w H h':=λ{a h'} ha hs b ob e=>by
  obtain⟨_,_,hfree⟩:=ha;refine(I.hok b ob e).stay (λc w' hc q=>(hs.2 c ?_).trans q) (λ_ q=>q) λ_ _ q=>q
  rintro rfl;rcases hc with rfl | hc
  ·rw[hfree] at e;cases e
  ·rw[hfree] at hc;cases hc
 rcases hx with hk | hk
 ·refine wpAny_storeName_local hk hn (λh' hn' hs=>?_) hcls
  obtain⟨oL,_,_,hoL,_⟩:=id hn;refine h _ ⟨I.ok,I.os,I.bare,⟨λb o e n hb hx=>?_,λb o e n hb hx=>?_,I.base.free,λb o e hx=>?_,I.base.tups,I.base.frzs,I.base.tbls⟩,⟨_,hn',λj y v' e1 e2 e3=>?_⟩,λy c e=>?_,I.free,I.freeC,λp hp=>?_,tracked ⟨oL,hoL,I.free⟩ hs,by simpa using I.len⟩ ⟨_,hs,.inl rfl⟩
  ·exact(hs.2 b (An0 (At0 (Heap.lt_size e) I.ok.above))).trans (I.base.keep b o e n hb hx)
  ·obtain⟨sl,e1⟩:=I.base.slot b o e n hb hx
   exact⟨sl,(hs.2 b (An0 (At0 (Heap.lt_size e) I.ok.above))).trans e1⟩
  ·obtain⟨o',e1⟩:=I.base.there b o e hx
   exact⟨o',(hs.2 b (An0 (At0 (Heap.lt_size e) I.ok.above))).trans e1⟩
  ·by_cases hj:j=i
   ·subst hj
    rw[hi] at e1;cases e1;rw[Ci0 hiσ] at e2;cases e2;exact⟨u,r,.inl ⟨hk,by simp⟩⟩
   ·rw[Ba0 (Ne.symm hj)] at e2
    obtain⟨u',r',q⟩:=hl j y v' e1 e2 e3;refine⟨u',r',?_⟩;rcases q with⟨k,e⟩ | ⟨k,c,e,z⟩
    ·refine .inl ⟨k,?_⟩
     have:y≠x:=λe=>hj (xa3 hN e1 (e▸hi))
     simp[this,e]
    ·exact .inr ⟨k,c,e,z.sameBut hs (cne y c e)⟩
  ·obtain⟨w',z⟩:=I.cell y c e
   exact⟨w',z.sameBut hs (cne y c e)⟩
  ·obtain⟨e,n,ne,nf,d⟩:=I.pin p hp
   exact⟨(hs.2 p.1 ne).trans e,n,ne,nf,d⟩
 ·have hfn:X.fn x=true:=by
   rcases hf with z | z
   ·exact z
   ·rw[z] at hk;cases hk
  obtain⟨c,hc⟩:=I.ok.has x (.inl hk);obtain⟨w',z⟩:=I.cell x c hc;refine wpAny_storeName_cell I.ok.kind hk hc z (λh' hc' hs=>?_);obtain⟨oc,hoc,hocd⟩:=id z;refine h { s with heap:=h' } ⟨I.ok,I.os,I.bare,⟨λb o e n hb hx=>?_,λb o e n hb hx=>?_,I.base.free,λb o e hx=>?_,I.base.tups,I.base.frzs,I.base.tbls⟩,⟨m,hn.sameBut hs (Ne.symm (cne x c hc)),λj y v' e1 e2 e3=>?_⟩,λy c' e=>?_,I.free,I.freeC,λp hp=>?_,tracked ⟨oc,hoc,I.freeC x c hc⟩ hs,by simpa using I.len⟩ ⟨c,hs,.inr hc⟩
  ·exact(hs.2 b (An0 (At0 (Heap.lt_size e) (I.ok.cab x c hfn hc)))).trans (I.base.keep b o e n hb hx)
  ·obtain⟨sl,e1⟩:=I.base.slot b o e n hb hx
   exact⟨sl,(hs.2 b (An0 (At0 (Heap.lt_size e) (I.ok.cab x c hfn hc)))).trans e1⟩
  ·obtain⟨o',e1⟩:=I.base.there b o e hx
   exact⟨o',(hs.2 b (An0 (At0 (Heap.lt_size e) (I.ok.cab x c hfn hc)))).trans e1⟩
  ·by_cases hj:j=i
   ·subst hj
    rw[hi] at e1;cases e1;rw[Ci0 hiσ] at e2;cases e2;exact⟨u,r,.inr ⟨.inl hk,c,hc,hc'⟩⟩
   ·rw[Ba0 (Ne.symm hj)] at e2
    obtain⟨u',r',q⟩:=hl j y v' e1 e2 e3;refine⟨u',r',?_⟩;rcases q with q | ⟨k,c',e,z'⟩
    ·exact .inl q
    ·refine .inr ⟨k,c',e,z'.sameBut hs ?_⟩
     rintro rfl;exact hj (xa3 hN e1 (I.ok.inj _ _ _ e hc▸hi))
  ·by_cases hcc:c'=c
   ·subst hcc;exact⟨_,hc'⟩
   ·obtain⟨w2,z2⟩:=I.cell y c' e
    exact⟨w2,z2.sameBut hs hcc⟩
  ·obtain⟨e,n,ne,nf,d⟩:=I.pin p hp
   refine⟨(hs.2 p.1 ?_).trans e,n,ne,nf,d⟩;intro q;rw[q,hoc] at e;have q':oc=p.2:=Option.some.inj e;exact d w' (by rw[<-q'];exact hocd)
def zr4{M:Model}{A:Around}{E:Value->Shared->Prop}{i:Nat}{x:Str}{v:V}{u:Value}{Q:Unit->Shared->Prop}(I:Inv X A3 σ H s)(hN:X.N.Nodup)(hi:X.N[i]?=some x)(hx:Loc X.env.scope x)(r:wq2 v u)(h:∀s',Inv X A3 (σ.set i (some v)) H s'->Q () s')(hf:X.fn x=true\/X.env.scope.names.lookup x=some .local:=by first | exact .inl rfl | exact .inr rfl | assumption):wpAny M A (storeName X.env x u) Q E s:=
 yp9 I hN hi hx r (λs' I' _=>h s' I') hf
def Inv.call'(I:Inv X A3 σ H s)(ho:s'.os=s.os)(u:Un (frs X.stack) ch H H' s.heap s'.heap)(hok:HOk X.prog X.w H' s'.heap)(hg:AllBare s'.gens)(hch:∀b∈ch,(b∈X.ex\/X.s₀.heap.objs.size<=b)/\b≠X.env.locals/\(∀x c,X.env.cells.lookup x=some c->c≠b)/\∀p∈X.pn++A3,p.1≠b):Inv X A3 σ H' s':=by
 obtain⟨h',g',d',t',o'⟩:=s';have e:o'=s.os:=ho;subst e;exact I.call (g':=g') (t':=t') (d':=d') u hok hg hch
end
abbrev XK:=Value->Option Addr->Hp->Prop
abbrev St:=List (Option V)
abbrev VK:=V->Hp->Prop
abbrev TE:=St->Hp->VK->Prop
abbrev TT:=St->Hp->(Bool->Hp->Prop)->Prop
abbrev TA:=St->Hp->(List V->Hp->Prop)->Prop
structure wx9 where
 nx:St->Hp->Prop
 rt:VK
 bk:St->Hp->Prop:=λ_ _=>False
 ct:St->Hp->Prop:=λ_ _=>False
abbrev TS:=wx9->St->Hp->Prop
def EP(X:Cx)(A3:List (Addr×Obj))(σ:St)(Q:VK)(u:Value)(s':Shared):Prop:=∃v H',Inv X A3 σ H' s'/\wq2 v u/\Q v H'
def TP(X:Cx)(A3:List (Addr×Obj))(σ:St)(Q:Bool->Hp->Prop)(b:Bool)(s':Shared):Prop:=∃H',Inv X A3 σ H' s'/\Q b H'
def AP(X:Cx)(A3:List (Addr×Obj))(σ:St)(Q:List V->Hp->Prop)(us:List Value)(s':Shared):Prop:=∃vs H',Inv X A3 σ H' s'/\wq4 vs us/\Q vs H'
open H in
def SP(X:Cx)(A3:List (Addr×Obj))(D:wx9)(f:Flow)(s':Shared):Prop:=
 match f with
 | .next=>∃σ' H',Inv X A3 σ' H' s'/\D.nx σ' H'
 | .brk=>∃σ' H',Inv X A3 σ' H' s'/\D.bk σ' H'
 | .cont=>∃σ' H',Inv X A3 σ' H' s'/\D.ct σ' H'
 | .ret u=>∃v σ' H',Inv X A3 σ' H' s'/\wq2 v u/\D.rt v H'
def PE(X:Cx)(e:Expr)(t:TE):Prop:=
 ∀(A3:List (Addr×Obj)) (s:Shared) (σ:St) (H:Hp) (Q:VK),Inv X A3 σ H s->t σ H Q->wpAny (model X.prog X.w) X.A (eval e X.env) (EP X A3 σ Q) X.xe s
def PT(X:Cx)(e:Expr)(t:TT):Prop:=
 ∀(A3:List (Addr×Obj)) (s:Shared) (σ:St) (H:Hp) (Q:Bool->Hp->Prop),Inv X A3 σ H s->t σ H Q->wpAny (model X.prog X.w) X.A (isTrue e X.env (eval e X.env)) (TP X A3 σ Q) X.xe s
def PW(X:Cx)(e:Expr)(t:TT):Prop:=
 ∀(whole:Sem Value) (A3:List (Addr×Obj)) (s:Shared) (σ:St) (H:Hp) (Q:Bool->Hp->Prop),Inv X A3 σ H s->t σ H Q->wpAny (model X.prog X.w) X.A (isTrue e X.env whole) (TP X A3 σ Q) X.xe s
def PW.pt{X:Cx}{e:Expr}{t:TT}(h:PW X e t):PT X e t:=h _
def PA(X:Cx)(es:List Expr)(t:TA):Prop:=
 ∀(pos:Pos) (A3:List (Addr×Obj)) (s:Shared) (σ:St) (H:Hp) (Q:List V->Hp->Prop),Inv X A3 σ H s->t σ H Q->wpAny (model X.prog X.w) X.A (spliced (backTo pos (starEach es X.env))) (AP X A3 σ Q) X.xe s
def PS(X:Cx)(st:Stmt)(t:TS):Prop:=
 ∀(A3:List (Addr×Obj)) (s:Shared) (σ:St) (H:Hp) (D:wx9),Inv X A3 σ H s->t D σ H->wpAny (model X.prog X.w) X.A (exec st X.env) (SP X A3 D) X.xe s
def PSs(X:Cx)(st:List Stmt)(t:TS):Prop:=
 ∀(A3:List (Addr×Obj)) (s:Shared) (σ:St) (H:Hp) (D:wx9),Inv X A3 σ H s->t D σ H->wpAny (model X.prog X.w) X.A (execs st X.env) (SP X A3 D) X.xe s
def thn{α:Type}{t:Sem α}{Q Q':α->Shared->Prop}{M:Model}{A:Around}{E:Value->Shared->Prop}{s:Shared}(h:wpAny M A t Q E s)(hQ:∀a s,Q a s->Q' a s):wpAny M A t Q' E s:=Ag1 h hQ λ_ _ x=>x
section
variable{X:Cx}
def wu2(i:Nat):TE:=λσ H Q=>∃v,σ[i]?=some (some v)/\Q v H
def tC(v:V):TE:=λ_ H Q=>Q v H
def wl0{i:Nat}{x:Str}(hN:X.N[i]?=some x)(hv:Vis X.env.scope x)(hd:(x == ("__debug__" : Str))=false:=by decide)(hcd:(x == ("__classdict__" : Str))=false:=by decide):PE X (.Name x pos) (wu2 i):=by
 intro A3 s σ H Q I h;obtain⟨v,e,h⟩:=h;obtain⟨m,hn,hl⟩:=I.loc;obtain⟨u,r,l⟩:=hl i x v hN e hv;have fin:EP X A3 σ Q u s:=⟨v,H,I,r,h⟩;rcases l with⟨hk,hm⟩ | ⟨hk,c,hc,hcell⟩
 ·exact wpAny_Name (wpAny_loadName_local I.ok.kind hk hn hm fin) hd
 ·rcases hk with hk | hk
  ·exact wpAny_Name (wpAny_loadName_cell I.ok.kind hk hc hcell fin) hd
  ·exact wpAny_Name (wpAny_loadName_free I.ok.kind hk hc hcell fin hcd) hd
def zl7{i j pos}:PE X (.Constant (.int i) j pos) (tC (.int i)):=λ_ _ _ H _ I h=>wpAny_Constant_int ⟨.int i,H,I.tok _,⟨_,rfl⟩,h⟩
def vn8{b j pos}:PE X (.Constant (.bool b) j pos) (tC (.bl b)):=λ_ _ _ H _ I h=>Constant_bool ⟨.bl b,H,I,rfl,h⟩
def wl3{j pos}:PE X (.Constant .none j pos) (tC .non):=λ_ _ _ H _ I h=>Constant_none ⟨.non,H,I,rfl,h⟩
def zz3{x j pos}:PE X (.Constant (.str x) j pos) (tC (.str x)):=λ_ _ _ H _ I h=>Calls.Constant_str ⟨.str x,H,I.tok _,⟨_,rfl⟩,h⟩
def Gl(X:Cx)(x:Str):Prop:=X.env.kindOf x=some .globalImplicit
def xn0{E:Value->Shared->Prop}{A3:List (Addr×Obj)}{s:Shared}{σ:St}{H:Hp}{x:Str}{u:Value}{pos:Pos}{Q:Value->Shared->Prop}(I:Inv X A3 σ H s)(hg:Gl X x)(hm:X.mg x=some u)(h:Q u s)(hd:(x == ("__debug__" : Str))=false:=by decide):wpAny (model X.prog X.w) X.A (eval (.Name x pos) X.env) Q E s:=
 Calls.Name_function_global I.ok.kind hg (Calls.loadGlobal_global (by rw[I.ok.glob];exact I.mod.glob.keeps I.bk) hm h) hd
def yk5{E:Value->Shared->Prop}{A3:List (Addr×Obj)}{s:Shared}{σ:St}{H:Hp}{x:Str}{u:Value}{pos:Pos}{Q:Value->Shared->Prop}(I:Inv X A3 σ H s)(hg:Gl X x)(hm:X.mg x=none)(hv:bootBuiltins x=some u)(h:Q u s)(hn:x≠"__name__":=by decide)(hd:(x == ("__debug__" : Str))=false:=by decide):wpAny (model X.prog X.w) X.A (eval (.Name x pos) X.env) Q E s:=by
 obtain⟨mb,h1,h2⟩:=I.mod.blt;exact Calls.Name_function_global I.ok.kind hg (Calls.loadGlobal_builtin (by rw[I.ok.glob];exact I.mod.glob.keeps I.bk) hm (by rw[I.ok.blt];exact h1.keeps I.bk) ((h2 x hn).trans hv) h) hd
def xk7{x:Str}(hg:Gl X x)(hm:X.mg x=some u)(r:wq2 v u)(hd:(x == ("__debug__" : Str))=false:=by decide):PE X (.Name x pos) (tC v):=
 λ_ _ _ H _ I h=>xn0 I hg hm ⟨v,H,I,r,h⟩ hd
def wf0{x:Str}(hg:Gl X x)(hm:X.mg x=none)(hv:bootBuiltins x=some u)(r:wq2 v u)(hn:x≠"__name__":=by decide)(hd:(x == ("__debug__" : Str))=false:=by decide):PE X (.Name x pos) (tC v):=
 λ_ _ _ H _ I h=>yk5 I hg hm hv ⟨v,H,I,r,h⟩ hn hd
variable{a b:Expr}{ta tb:TE}{pos:Pos}
def PC(X:Cx)(op:CmpOp)(a b:Expr)(t:TE):Prop:=
 ∀(A3:List (Addr×Obj)) (s:Shared) (σ:St) (H:Hp) (Q:VK),Inv X A3 σ H s->t σ H Q->
  wpAny (model X.prog X.w) X.A (eval a X.env) (λv s₁=>wpAny (model X.prog X.w) X.A (eval b X.env) (λu s₂=>wpAny (model X.prog X.w) X.A (compareOp op v u) (EP X A3 σ Q) X.xe s₂) X.xe s₁) X.xe s
def tB(t:TE):TT:=λσ H Q=>t σ H λx H1=>∃c,x=.bl c/\Q c H1
def wl4(h:PC X op a b t)(h1:behindInMarks op b=false:=by first | exact nobehind _ (by decide) (by decide) | rfl):PE X (.Compare a [op] [b] pos) t:=λA3 s σ H Q I hw=>wpAny_Compare1 (h A3 s σ H Q I hw) h1
def xz4{op:CmpOp}{t:TE}(h:PC X op a b t)(h1:behindInMarks op b=false:=by first | exact nobehind _ (by decide) (by decide) | rfl):PT X (.Compare a [op] [b] pos) (tB t):=by
 intro A3 s σ H Q I hw;refine wpAny_isTrue_Compare1 (thn (h A3 s σ H _ I hw) λv s1 h1=>thn h1 λu s2 h2=>thn h2 λc s3 hI59=>?_) h1;obtain⟨x,H1,I1,r1,q1⟩:=hI59;obtain⟨d,rfl,q⟩:=q1;cases r1;exact Ah1 ⟨H1,I1,q⟩
def wk3{e:Expr}{t:TE}(h:PE X e t)(he:∀whole,isTrue e X.env whole=(do let v <-whole;standAt e.pos;holding [v] (truthy v)):=by intro _;rfl):PT X e (tB t):=by
 intro A3 s σ H Q I hw;refine isTrue_plain (thn (h A3 s σ H _ I hw) λv s1 hI60=>?_) (he _);obtain⟨x,H1,I1,r1,q1⟩:=hI60;obtain⟨d,rfl,q⟩:=q1;cases r1;exact Ah1 ⟨H1,I1,q⟩
variable{tA tB':TT}{rest:List Expr}
def vv2(t u:TT):TT:=λσ H Q=>t σ H λc H1=>if c=true then u σ H1 Q else Q false H1
def tOr(t u:TT):TT:=λσ H Q=>t σ H λc H1=>if c=true then Q true H1 else u σ H1 Q
def vu6(t:TT):TT:=λσ H Q=>t σ H λc H1=>Q (!c) H1
theorem pw_and1(ha:PT X a tA):PW X (.BoolOp .And [a] pos) tA:=by
 intro wh A3 s σ H Q I h;refine isTrue_and (thn (ha A3 s σ H Q I h) λc s1 e=>?_);cases c with
 | true=>exact isTrue_and_nil e
 | false=>exact e
theorem pw_or1(ha:PT X a tA):PW X (.BoolOp .Or [a] pos) tA:=by
 intro wh A3 s σ H Q I h;refine isTrue_or (thn (ha A3 s σ H Q I h) λc s1 e=>?_);cases c with
 | false=>exact isTrue_or_nil e
 | true=>exact e
theorem pw_and(ha:PT X a tA)(hb:PW X (.BoolOp .And (b::rest) pos) tB'):PW X (.BoolOp .And (a::b::rest) pos) (vv2 tA tB'):=by
 intro wh A3 s σ H Q I h;refine isTrue_and (thn (ha A3 s σ H _ I h) λc s1 hI61=>?_);obtain⟨H1,I1,q1⟩:=hI61;cases c with
 | true=>exact hb wh A3 s1 σ H1 Q I1 q1
 | false=>exact⟨H1,I1,q1⟩
theorem pw_or(ha:PT X a tA)(hb:PW X (.BoolOp .Or (b::rest) pos) tB'):PW X (.BoolOp .Or (a::b::rest) pos) (tOr tA tB'):=by
 intro wh A3 s σ H Q I h;refine isTrue_or (thn (ha A3 s σ H _ I h) λc s1 hI62=>?_);obtain⟨H1,I1,q1⟩:=hI62;cases c with
 | true=>exact⟨H1,I1,q1⟩
 | false=>exact hb wh A3 s1 σ H1 Q I1 q1
def wk4(ha:PT X a tA):PT X (.UnaryOp .Not a pos) (vu6 tA):=by
 intro A3 s σ H Q I h;exact isTrue_not (ha A3 s σ H (λc H1=>Q (!c) H1) I h)
def vm2(ta tb:TE):TE:=λσ H Q=>ta σ H λx H1=>∃c,x=.bl c/\if c=true then tb σ H1 Q else Q (.bl false) H1
def vl8(ta:TE):TE:=λσ H Q=>ta σ H λx H1=>∃c,x=.bl c/\Q (.bl (!c)) H1
def wl1{op}(h:PE X a t):PE X (.BoolOp op [a] pos) t:=λA3 s σ H Q I hw=>BoolOp_one (h A3 s σ H Q I hw)
theorem wl6(ha:PE X a ta)(hb:PE X (.BoolOp .And (b::rest) pos) tb):PE X (.BoolOp .And (a::b::rest) pos) (vm2 ta tb):=by
 intro A3 s σ H Q I h;refine BoolOp_and (thn (ha A3 s σ H _ I h) λv s1 hI63=>?_);obtain⟨x,H1,I1,r1,q1⟩:=hI63;obtain⟨c,rfl,q1⟩:=q1;cases r1;refine Ah1 ?_;cases c with
 | true=>exact hb A3 s1 σ H1 Q I1 q1
 | false=>exact⟨.bl false,H1,I1,rfl,q1⟩
def wl2(ha:PE X a ta):PE X (.UnaryOp .Not a pos) (vl8 ta):=by
 intro A3 s σ H Q I h;refine UnaryOp_ (thn (ha A3 s σ H _ I h) λv s1 hI64=>?_);obtain⟨x,H1,I1,r1,q1⟩:=hI64;obtain⟨c,rfl,q1⟩:=q1;cases r1;exact not_of (Ah1 ⟨.bl (!c),H1,I1,rfl,q1⟩)
def tIf(t:TT)(ta tb:TE):TE:=λσ H Q=>t σ H λc H1=>if c=true then ta σ H1 Q else tb σ H1 Q
theorem xv2{c:Expr}(hc:PT X c tA)(ha:PE X a ta)(hb:PE X b tb):PE X (.IfExp c a b pos) (tIf tA ta tb):=by
 intro A3 s σ H Q I h;refine wpAny_IfExp (thn (hc A3 s σ H _ I h) λd s1 hI65=>?_);obtain⟨H1,I1,q1⟩:=hI65;cases d with
 | true=>exact ha A3 s1 σ H1 Q I1 q1
 | false=>exact hb A3 s1 σ H1 Q I1 q1
end
def SqL(K:PySem.W.Frag)(H:Hp)(a:Addr)(xs:List V):Prop:=
 Rd H a (.lst xs)\/
  ∃(o:Obj) (its:Array Value) (n:Nat),K.lookup a=some o/\o.cls=.type "list"/\o.dict=none/\o.data=.seq its n/\its.size<=sizeLine/\wq4 xs its.toList
def SqT(K:PySem.W.Frag)(H:Hp)(a:Addr)(xs:List V):Prop:=
 Rd H a (.tup xs)\/
  ∃(o:Obj) (its:Array Value) (n:Nat),K.lookup a=some o/\o.cls=.type "tuple"/\o.data=.seq its n/\its.size<=sizeLine/\wq4 xs its.toList
def vw4:Value->Option V
 | .none=>some .non
 | .bool b=>some (.bl b)
 | .int i _=>some (.int i)
 | .str x _=>some (.str x)
 | .bytes b _=>some (.byt b)
 | .float b _=>some (.flt b)
 | .ref a=>some (.ref a)
 | .type n=>some (.ty n)
 | _=>none
theorem wq2.abs(r:wq2 x u):vw4 u=some x:=by
 cases x with
 | non=>cases r;rfl
 | bl _=>cases r;rfl
 | int _=>obtain⟨t,rfl⟩:=r;rfl
 | str _=>obtain⟨t,rfl⟩:=r;rfl
 | byt _=>obtain⟨t,rfl⟩:=r;rfl
 | flt _=>obtain⟨t,rfl⟩:=r;rfl
 | ref _=>cases r;rfl
 | ty _=>cases r;rfl
def wq2.inj(r:wq2 x u)(q:wq2 y u):x=y:=Option.some.inj (r.abs.symm.trans q.abs)
theorem wq4.inj:∀{xs ys:List V} {us:List Value},wq4 xs us->wq4 ys us->xs=ys
 | _,_,_,.nil,.nil=>rfl
 | _,_,_,.cons r t,.cons r' t'=>by rw[r.inj r',wq4.inj t t']
section
variable{X:Cx}{A3:List (Addr×Obj)}{σ:St}{H:Hp}{s:Shared}{a:Addr}{xs ys:List V}
def SqL.of{K:PySem.W.Frag}(h:H a=some (.lst xs)):SqL K H a xs:=.inl (.inl h)
def SqT.of{K:PySem.W.Frag}(h:H a=some (.tup xs)):SqT K H a xs:=.inl (.inl h)
def Inv.list(I:Inv X A3 σ H s)(h:SqL X.K H a xs):∃its:List Value,wq4 xs its/\PlainL s.heap a its.toArray/\xs.length<=sizeLine:=by
 rcases h with h | ⟨o,its,n,hk,hc,hd,hs,hz,r⟩
 ·obtain⟨z,its,n,r,e⟩:=h.ok I.hok
  exact⟨its,r,⟨_,n,e,rfl,rfl,rfl⟩,z⟩
 ·refine⟨its.toList,r,⟨o,n,I.kIn a o hk,hc,hd,by simpa using hs⟩,?_⟩
  have e:=r.length;simp only[Bp0] at e;omega
def Inv.tuple(I:Inv X A3 σ H s)(h:SqT X.K H a xs):∃its:List Value,wq4 xs its/\IsTup s.heap a its.toArray/\xs.length<=sizeLine:=by
 rcases h with h | ⟨o,its,n,hk,hc,hs,hz,r⟩
 ·obtain⟨z,its,r,p,_⟩:=h.ok I.hok
  exact⟨its,r,p,z⟩
 ·refine⟨its.toList,r,⟨o,I.kIn a o hk,hc,n,by simpa using hs⟩,?_⟩
  have e:=r.length;simp only[Bp0] at e;omega
def Inv.list_inj(I:Inv X A3 σ H s)(h:SqL X.K H a xs)(h':SqL X.K H a ys):xs=ys:=by
 obtain⟨its,r,⟨o,n,e,_,_,d⟩,_⟩:=I.list h;obtain⟨its',r',⟨o',n',e',_,_,d'⟩,_⟩:=I.list h';rw[e] at e';cases e';rw[d] at d';injection d' with d1 _
 have:its=its':=by simpa using congrArg Array.toList d1
 subst this;exact r.inj r'
def Inv.tuple_inj(I:Inv X A3 σ H s)(h:SqT X.K H a xs)(h':SqT X.K H a ys):xs=ys:=by
 obtain⟨its,r,⟨o,e,_,n,d⟩,_⟩:=I.tuple h;obtain⟨its',r',⟨o',e',_,n',d'⟩,_⟩:=I.tuple h';rw[e] at e';cases e';rw[d] at d';injection d' with d1 _
 have:its=its':=by simpa using congrArg Array.toList d1
 subst this;exact r.inj r'
end
abbrev Cx.wish(X:Cx)(E:Value->Shared->Prop):Cx:={ X with xe:=E }
abbrev Cx.nox(X:Cx):Cx:=X.wish λ_ _=>False
def Cx.Ok.wish{X:Cx}(ok:X.Ok)(E:Value->Shared->Prop):(X.wish E).Ok:=
 ⟨ok.mod,ok.kind,ok.glob,ok.blt,ok.above,ok.inj,ok.has,ok.cab,ok.hd,ok.frames,ok.stk,ok.exf,ok.bs,ok.bsz,ok.noex,ok.exfs,ok.funs,ok.frf⟩
def Cx.Ok.unwish{X:Cx}{E:Value->Shared->Prop}(ok:(X.wish E).Ok):X.Ok:=
 ⟨ok.mod,ok.kind,ok.glob,ok.blt,ok.above,ok.inj,ok.has,ok.cab,ok.hd,ok.frames,ok.stk,ok.exf,ok.bs,ok.bsz,ok.noex,ok.exfs,ok.funs,ok.frf⟩
section
variable{X:Cx}{A3:List (Addr×Obj)}{σ:St}{H:Hp}{s:Shared}{E:Value->Shared->Prop}{st:Stmt}{rest:List Stmt}{t u:TS}{e:Expr}{te:TE}{pos:Pos}
def Inv.wish(I:Inv X A3 σ H s)(E:Value->Shared->Prop):Inv (X.wish E) A3 σ H s:=⟨I.ok.wish E,I.os,I.bare,I.base,I.loc,I.cell,I.free,I.freeC,I.pin,I.hok,I.len⟩
def Inv.unwish(I:Inv (X.wish E) A3 σ H s):Inv X A3 σ H s:=⟨I.ok.unwish,I.os,I.bare,I.base,I.loc,I.cell,I.free,I.freeC,I.pin,I.hok,I.len⟩
open H in
theorem SP.unwish(h:SP (X.wish E) A3 D f s'):SP X A3 D f s':=by
 cases f with
 | next=>obtain⟨σ',H',I,q⟩:=h;exact⟨σ',H',I.unwish,q⟩
 | brk=>obtain⟨σ',H',I,q⟩:=h;exact⟨σ',H',I.unwish,q⟩
 | cont=>obtain⟨σ',H',I,q⟩:=h;exact⟨σ',H',I.unwish,q⟩
 | ret u=>obtain⟨v,σ',H',I,r,q⟩:=h;exact⟨v,σ',H',I.unwish,r,q⟩
def PSs.nox{st:List Stmt}{t:TS}(h:PSs X.nox st t):PSs X st t:=λA3 s σ H D I hw=>
 Ag1 (h A3 s σ H D (I.wish _) hw) (λ_ _ q=>q.unwish) λ_ _ z=>False.elim z
def vl9:TS:=λD σ H=>D.nx σ H
def vu3(t u:TS):TS:=λD σ H=>t { D with nx:=u D } σ H
def yw5:PSs X [] vl9:=λ_ _ σ H _ I h=>wpAny_execs_nil ⟨σ,H,I,h⟩
open H in
theorem zi5(h1:PS X st t)(h2:PSs X rest u):PSs X (st::rest) (vu3 t u):=by
 intro A3 s σ H D I h;refine wpAny_execs_cons (thn (h1 A3 s σ H { D with nx:=u D } I h) λf s1 q=>?_);cases f with
 | next=>
   obtain⟨σ',H',I',q⟩:=q;exact h2 A3 s1 σ' H' D I' q
 | ret v=>exact q
 | brk=>exact q
 | cont=>exact q
open H in
theorem yf3(h1:PS X st t):PSs X [st] t:=by
 intro A3 s σ H D I h;refine wpAny_execs_cons (thn (h1 A3 s σ H D I h) λf s1 q=>?_);cases f with
 | next=>exact wpAny_execs_nil q
 | ret v=>exact q
 | brk=>exact q
 | cont=>exact q
def Inv.quiet{A3:List (Addr×Obj)}{σ:St}{H:Hp}{s:Shared}(I:Inv X A3 σ H s):interactive X.env=false:=by simp[interactive,I.ok.kind]
def vm0(te:TE):TS:=λD σ H=>te σ H λ_ H1=>D.nx σ H1
def ym6(he:PE X e te)(hs:swapsWith e none pos.line X.env=pure false:=by rfl):PS X (.Expr e pos) (vm0 te):=by
 intro A3 s σ H D I h;exact wpAny_Expr_any (thn (he A3 s σ H _ I h) λv s1 ⟨x,H1,I1,r1,q1⟩=>⟨σ,H1,I1,q1⟩) I.quiet hs
def vu4(te:TE):TS:=λD σ H=>te σ H D.rt
def yq8(he:PE X e te):PS X (.Return (some e) pos) (vu4 te):=by
 intro A3 s σ H D I h;exact wpAny_Return_some (thn (he A3 s σ H _ I h) λv s1 ⟨x,H1,I1,r1,q1⟩=>⟨x,σ,H1,I1,r1,q1⟩)
def vu8(c:TT)(t u:TS):TS:=λD σ H=>c σ H λb H1=>if b=true then t D σ H1 else u D σ H1
theorem vf2{c:Expr}{a b:List Stmt}{tc:TT}(hc:PT X c tc)(ha:PSs X a t)(hb:PSs X b u):PS X (.If c a b pos) (vu8 tc t u):=by
 intro A3 s σ H D I h;refine wpAny_If (thn (hc A3 s σ H _ I h) λd s1 hI66=>?_);obtain⟨H1,I1,q1⟩:=hI66;cases d with
 | true=>exact ha A3 s1 σ H1 D I1 q1
 | false=>exact hb A3 s1 σ H1 D I1 q1
end
abbrev TG:=V->St->Hp->(St->Hp->Prop)->Prop
abbrev TGs:=List V->St->Hp->(St->Hp->Prop)->Prop
def PG(X:Cx)(target:Expr)(t:TG):Prop:=
 ∀(A3:List (Addr×Obj)) (s:Shared) (σ:St) (H:Hp) (v:V) (u:Value) (Q:St->Hp->Prop),Inv X A3 σ H s->wq2 v u->t v σ H Q->
  wpAny (model X.prog X.w) X.A (assign target X.env u) (λ_ s'=>∃σ' H',Inv X A3 σ' H' s'/\Q σ' H') X.xe s
def PGs(X:Cx)(ts:List Expr)(t:TGs):Prop:=
 ∀(A3:List (Addr×Obj)) (s:Shared) (σ:St) (H:Hp) (vs:List V) (us:List Value) (Q:St->Hp->Prop),Inv X A3 σ H s->wq4 vs us->t vs σ H Q->
  wpAny (model X.prog X.w) X.A (assignInOrder ((assignEach ts X.env).map (·.2)) us) (λ_ s'=>∃σ' H',Inv X A3 σ' H' s'/\Q σ' H') X.xe s
abbrev vq9:=V->V->V->Hp->(Hp->Prop)->Prop
def vu1(X:Cx)(t:vq9):Prop:=
 ∀(A3:List (Addr×Obj)) (s:Shared) (σ:St) (H:Hp) (o i v:V) (ov iv u:Value) (Q:Hp->Prop),Inv X A3 σ H s->wq2 o ov->wq2 i iv->wq2 v u->t o i v H Q->
  wpAny (model X.prog X.w) X.A (setItem ov iv u) (λ_ s'=>∃H',Inv X A3 σ H' s'/\Q H') X.xe s
section
variable{X:Cx}{pos:Pos}
def wz4(i:Nat):TG:=λv σ H Q=>Q (σ.set i (some v)) H
def yn0{i:Nat}{x:Str}(hN:X.N.Nodup)(hi:X.N[i]?=some x)(hx:Loc X.env.scope x)(hf:X.fn x=true\/X.env.scope.names.lookup x=some .local:=by first | exact .inl rfl | exact .inr rfl | assumption):PG X (.Name x pos) (wz4 i):=by
 intro A3 s σ H v u Q I r h;exact wpAny_assign_Name (zr4 I hN hi hx r (λs' I'=>⟨_,H,I',h⟩) hf)
def vs8:TGs:=λvs σ H Q=>vs=[]/\Q σ H
def vg7(t:TG)(u:TGs):TGs:=λvs σ H Q=>∃v r,vs=v::r/\t v σ H λσ' H'=>u r σ' H' Q
def ym9:PGs X [] vs8:=by
 intro A3 s σ H vs us Q I r h;obtain⟨e,h⟩:=h;subst e;cases r;exact assignInOrder_nil ⟨σ,H,I,h⟩
theorem zr7{e:Expr}{es:List Expr}{t:TG}{u:TGs}(h1:PG X e t)(h2:PGs X es u)(hs:(assignEach (e::es) X.env).map (·.2)=assign e X.env::(assignEach es X.env).map (·.2):=by rfl):PGs X (e::es) (vg7 t u):=by
 intro A3 s σ H vs us Q I r h;obtain⟨v,vr,e1,h⟩:=h;subst e1;cases r with
 | cons r rr=>
   rw[hs];refine assignInOrder_cons (thn (h1 A3 s σ H _ _ _ I r h) λ_ s1 hI67=>?_);obtain⟨σ1,H1,I1,q1⟩:=hI67;exact h2 A3 s1 σ1 H1 _ _ Q I1 rr q1
def vs7(K:PySem.W.Frag)(n:Nat)(t:TGs):TG:=λv σ H Q=>∃a xs,v=.ref a/\SqT K H a xs/\xs.length=n/\t xs σ H Q
def yz5{k:Nat}{n:Nat}(hc:X.calm=true)(h:PGs X es t)(hn:(assignEach es X.env).length=n:=by rfl)(hst:(assignEach es X.env).findIdx? (·.1)=none:=by rfl):PG X (.Tuple es k pos) (vs7 X.K n t):=by
 intro A3 s σ H v u Q I r hw;obtain⟨a,xs,e1,hq,hl,hw⟩:=hw;subst e1;cases r;obtain⟨its,rv,ht,hz⟩:=I.tuple hq;refine assign_Tuple_tuple (I.ok.hd hc) ht (by simp[hn,<-hl,rv.length]) hst λh' hx=>?_
 have I1:Inv X A3 σ H { s with heap:=h' }:=I.kept (t':=s.toks) λb o e=>hx b o (An0 (Heap.lt_size e)) e
 exact h A3 _ σ H xs _ Q I1 (by simpa using rv) hw
def vd7(to ti:TE)(t:vq9):TG:=λv σ H Q=>to σ H λo H1=>ti σ H1 λi H2=>t o i v H2 λH3=>Q σ H3
def yz6{o i:Expr}{to ti:TE}{t:vq9}(ho:PE X o to)(hi:PE X i ti)(hs:vu1 X t)(ha:∀v,assign (.Subscript o i pos) X.env v=(do
  let ov <-holding [v] (eval o X.env)
  let iv <-holding [v,ov] (eval i X.env)
  standAt pos
  holding [v,ov,iv] (setItem ov iv v)
  release [v,ov,iv] []):=by intro _;rfl):PG X (.Subscript o i pos) (vd7 to ti t):=by
 intro A3 s σ H v u Q I r h;rw[ha];refine Aa1 (wpAny_holding (thn (ho A3 s σ H _ I h) λov s1 hI68=>?_));obtain⟨x,H1,I1,r1,q1⟩:=hI68;refine Aa1 (wpAny_holding (thn (hi A3 s1 σ H1 _ I1 q1) λiv s2 hI69=>?_));obtain⟨y,H2,I2,r2,q2⟩:=hI69;refine Aa1 (wpAny_standAt (Aa1 (wpAny_holding (thn (hs A3 s2 σ H2 x y v ov iv u _ I2 r1 r2 r q2) λ_ s3 hI70=>?_))));obtain⟨H3,I3,q3⟩:=hI70;exact wpAny_release ⟨σ,H3,I3,q3⟩
def ve5(te:TE)(g:TG):TS:=λD σ H=>te σ H λx H1=>g x σ H1 D.nx
def yq9{tg e:Expr}{te:TE}{g:TG}(he:PE X e te)(hg:PG X tg g)(hs:swapsWithSole [tg] e pos.line X.env=pure false:=by rfl)(hw:swappedStores [tg] e X.env=pure none:=by rfl)(h1:(assignEach [tg] X.env).map (·.2)=[assign tg X.env]:=by rfl):PS X (.Assign [tg] e pos) (ve5 te g):=by
 intro A3 s σ H D I h;refine wpAny_Assign_stores (thn (he A3 s σ H _ I h) λv s1 hI71=>?_) hs hw;obtain⟨x,H1,I1,r1,q1⟩:=hI71;rw[h1];exact thn (hg A3 s1 σ H1 x v _ I1 r1 q1) λ_ s2 q=>q
def zu5{i:Nat}{x:Str}{e:Expr}{te:TE}{pos':Pos}(hN:X.N.Nodup)(hi:X.N[i]?=some x)(hx:Loc X.env.scope x)(he:PE X e te)(hs:swapsWith e (some (.Name x pos')) pos.line X.env=pure false:=by rfl)(hf:X.fn x=true\/X.env.scope.names.lookup x=some .local:=by first | exact .inl rfl | exact .inr rfl | assumption) :
 PS X (.Assign [.Name x pos'] e pos) (ve5 te (wz4 i)):=by
 intro A3 s σ H D I h;refine wpAny_Assign_Name (thn (he A3 s σ H _ I h) λv s1 hI72=>?_) hs;obtain⟨y,H1,I1,r1,q1⟩:=hI72;exact zr4 I1 hN hi hx r1 (λs2 I2=>⟨_,H1,I2,q1⟩) hf
def vu5(i j:Nat)(ta:TA):TS:=λD σ H=>ta σ H λvs H1=>∃v w,vs=[v,w]/\D.nx ((σ.set i (some v)).set j (some w)) H1
def wk5{i j:Nat}{x y:Str}{a b:Expr}{ta:TA}{px py pt:Pos}{kt k2 pt2}(hc:X.calm=true)(hN:X.N.Nodup)(hi:X.N[i]?=some x)(hj:X.N[j]?=some y)(hij:i≠j)(hx:X.env.scope.names.lookup x=some .local)(hy:X.env.scope.names.lookup y=some .local)(ha:PA X [a,b] ta)(hw:swappedStores [.Tuple [.Name x px,.Name y py] kt pt] (.Tuple [a,b] k2 pt2) X.env=pure (some [x,y]))(hs:swapsWithSole [.Tuple [.Name x px,.Name y py] kt pt] (.Tuple [a,b] k2 pt2) pos.line X.env=pure false:=by rfl) :
 PS X (.Assign [.Tuple [.Name x px,.Name y py] kt pt] (.Tuple [a,b] k2 pt2) pos) (vu5 i j ta):=by
 intro A3 s σ H D I h;rw[exec_Assign_arm];refine Aa1 (wpAny_standAt ?_);rw[hs];refine Aa1 (Ac1 ?_);rw[if_neg (by decide)];refine Aa1 (Tuple_ (thn (ha _ A3 s σ H _ I h) λus s1 hI73=>?_));obtain⟨vs,H1,I1,r1,q1⟩:=hI73;obtain⟨v,w,e1,q1⟩:=q1;subst e1;obtain⟨u1,u2,rfl,rv,rw'⟩:∃u1 u2,us=[u1,u2]/\wq2 v u1/\wq2 w u2:=by
  cases r1 with
  | cons p q=>
    cases q with
    | cons p' q'=>
      cases q';exact⟨_,_,rfl,p,p'⟩
 refine wpAny_newObj_type ?_ (by show 2<=sizeLine;decide);have I2:Inv X A3 σ H1 { s1 with heap:=s1.heap.push { cls:=.type "tuple",data:=.seq [u1,u2].toArray } }:=I1.kept (t':=s1.toks) λb o e=>Ab0 _ e
 rw[hw];refine Aa1 (Ac1 ?_);show wpAny (model X.prog X.w) X.A (do rule "assign.swapped-stores";let items <-unpackItems (.ref s1.heap.objs.size) 2 none;assignInOrder [λv=>bindName X.env y v,λv=>bindName X.env x v] items.reverse;pure Flow.next) _ _ _;refine Aa1 (Ai1 (Aa1 (unpackItems_tuple (items:=#[u1,u2]) (I.ok.hd hc) (IsTup.new s1.heap _) λh' hx'=>?_)));have I3:=I2.kept (h':=h') (t':=s1.toks) λb o e=>hx' b o (An0 (Heap.lt_size e)) e
 show wpAny _ _ (assignInOrder [λv=>bindName X.env y v,λv=>bindName X.env x v] [u2,u1] >>= λ_=>pure Flow.next) _ _ _;refine Aa1 (assignInOrder_cons (wpAny_bindName (zr4 I3 hN hj (.inl hy) rw' (λs2 I4=>?_) (.inr hy))));refine assignInOrder_cons (wpAny_bindName (zr4 I4 hN hi (.inl hx) rv (λs3 I5=>assignInOrder_nil (Ac1 ?_)) (.inr hx)));rw[List.set_comm _ _ (Ne.symm hij)] at I5;exact⟨_,H1,I5,q1⟩
def wj6(c:TT)(tb:TS):TS:=λD σ H=>∃W:Nat->St->Hp->Prop,(∃m,W m σ H)/\∀m σ H,W m σ H->
 c σ H λb H1=>if b=true then ∃N:St->Hp->Prop,(∀σ' H',N σ' H'->∃m',m' < m/\W m' σ' H')/\tb { D with nx:=N,ct:=N,bk:=D.nx } σ H1 else D.nx σ H1
open H in
theorem xu8{c:Expr}{body:List Stmt}{tc:TT}{tb:TS}(hp:PassesOwn (model X.prog X.w) X.A X.env X.xe)(hc:PT X c tc)(hb:PSs X body tb):PS X (.While c body [] pos) (wj6 tc tb):=by
 intro A3 s σ H D I h;obtain⟨W,⟨m0,w0⟩,turn⟩:=h;refine wpAny_While (codeAny_whileLoop (λn s'=>∃σ' H',Inv X A3 σ' H' s'/\W n σ' H') ?_ m0 ⟨σ,H,I,w0⟩);rintro n s1 ⟨σ1,H1,I1,w1⟩;refine wpAny_passesOwn hp (thn (hc A3 s1 σ1 H1 _ I1 (turn n σ1 H1 w1)) λb s2 hI74=>?_);obtain⟨H2,I2,q2⟩:=hI74;cases b with
 | true=>
   obtain⟨N,hN,q2⟩:=q2;rw[if_pos rfl];refine wpAny_passesOwn hp (thn (hb A3 s2 σ1 H2 _ I2 q2) λf s3 q3=>?_);cases f with
   | next=>
     obtain⟨σ3,H3,I3,n3⟩:=q3;obtain⟨m',hm,w3⟩:=hN σ3 H3 n3;exact⟨m',hm,σ3,H3,I3,w3⟩
   | cont=>
     obtain⟨σ3,H3,I3,n3⟩:=q3;obtain⟨m',hm,w3⟩:=hN σ3 H3 n3;exact⟨m',hm,σ3,H3,I3,w3⟩
   | brk=>exact q3
   | ret v=>exact q3
 | false=>
   rw[if_neg Au0];exact wpAny_execs_nil ⟨σ1,H2,I2,q2⟩
end
structure It where
 go:Nat->Hp->Prop
 yld:Nat->Hp->V->Hp->Prop
 stop:Nat->Hp->Prop
def wx8(X:Cx)(A3:List (Addr×Obj))(H:Hp)(b:Addr):Prop:=
 H b=none/\b≠X.env.locals/\b∉X.fs/\(b∈X.ex\/X.s₀.heap.objs.size<=b)/\(∀x c,X.env.cells.lookup x=some c->c≠b)/\∀p∈X.pn++A3,p.1≠b
def Inv.fpOk{X:Cx}{A3:List (Addr×Obj)}{σ:St}{H H':Hp}{s:Shared}{b:Addr}(I:Inv X A3 σ H s)(hb:s.heap.objs.size<=b)(hn:H' b=none):wx8 X A3 H' b:=by
 refine⟨hn,Nat.ne_of_gt (At0 I.lt hb),I.nofs hb,.inr (Ap0 I.sz hb),λx c e z=>?_,λp hp z=>?_⟩
 ·obtain⟨v,q⟩:=I.cell x c e
  exact absurd (At0 q.lt (by rw[z];exact hb)) (Bq0 _)
 ·exact absurd (At0 (Heap.lt_size (I.pin p hp).1) (by rw[z];exact hb)) (Bq0 _)
structure vd9(P:Program)(w:World)(K:PySem.W.Frag)(tg:Expr)(J:It)(fp:List Addr)(it:Addr)(tn:Nat->Heap->Prop):Prop where
 mem:it∈fp
 obj:∀i h,tn i h->∀b∈fp,∃o,h.get? b=some o/\∀v,o.data≠.cell v
 keep:∀i h h',tn i h->(∀b∈fp,∀o,h.get? b=some o->h'.get? b=some o)->tn i h'
 item:∀(X:Cx),X.prog=P->X.w=w->X.K=K->X.calm=true->∀(i:Nat) (A3:List (Addr×Obj)) (s:Shared) (σ:St) (H:Hp) (E:Value->Shared->Prop),Inv X A3 σ H s->(∀b∈fp,wx8 X A3 H b)->tn i s.heap->J.go i H->
  wpAny (model P w) X.A (pyNext (.ref it)) (λr s1=>∃u,r=some u/\
   wpAny (model P w) X.A (letOwnedTupleGo tg (.ref it) u) (λ_ s2=>∃x H',Inv X A3 σ H' s2/\wq2 x u/\J.yld i H x H'/\tn (i+1) s2.heap/\∀b∈fp,H' b=none) E s1) E s
 done:∀(X:Cx),X.prog=P->X.w=w->X.K=K->X.calm=true->∀(i:Nat) (A3:List (Addr×Obj)) (s:Shared) (σ:St) (H:Hp) (E:Value->Shared->Prop),Inv X A3 σ H s->(∀b∈fp,wx8 X A3 H b)->tn i s.heap->J.stop i H->
  wpAny (model P w) X.A (pyNext (.ref it)) (λr s1=>r=none/\Inv X A3 σ H s1) E s
 self:∀(A:Around) (i:Nat) (s:Shared) (Q:Value->Shared->Prop) (E:Value->Shared->Prop),tn i s.heap->Q (.ref it) s->wpAny (model P w) A (pyIter (.ref it)) Q E s
abbrev TI:=St->Hp->(It->Hp->Prop)->Prop
def PIE(X:Cx)(A3:List (Addr×Obj))(σ:St)(tg:Expr)(R:It->Hp->Prop)(itv:Value)(s2:Shared):Prop:=
 ∃(it:Addr) (fp:List Addr) (tn:Nat->Heap->Prop) (J:It) (H':Hp),itv=.ref it/\Inv X A3 σ H' s2/\vd9 X.prog X.w X.K tg J fp it tn/\tn 0 s2.heap/\(∀b∈fp,wx8 X A3 H' b)/\R J H'
def PI(X:Cx)(tg iter:Expr)(wi:TI):Prop:=
 ∀(A3:List (Addr×Obj)) (s:Shared) (σ:St) (H:Hp) (R:It->Hp->Prop),Inv X A3 σ H s->wi σ H R->
  wpAny (model X.prog X.w) X.A (eval iter X.env) (λv s1=>wpAny (model X.prog X.w) X.A (pyIter v) (PIE X A3 σ tg R) X.xe s1) X.xe s
def vd2{n:String}(ho:s.heap.get? it=some o)(hc:o.cls=.type n)(hd:o.data=.fields vs)(hn:["enumerate","zip","dict_itemiterator","dict_reverseitemiterator","odict_iterator","itertools.zip_longest","itertools.pairwise"].contains n=false)(hQ:Q () s):wpAny M A (letOwnedTupleGo tg (.ref it) u) Q E s:=by
 unfold letOwnedTupleGo;cases tg<;>first
  | exact Ac1 hQ
  | (cases u<;>first
   | exact Ac1 hQ
   | (refine Aa1 (wpAny_load ho ?_)
      rw[hc,hd];show wpAny M A (if (["enumerate","zip","dict_itemiterator","dict_reverseitemiterator","odict_iterator","itertools.zip_longest","itertools.pairwise"].contains n&&vs[0]? == some (rawInt _))=true then _ else _) Q E s;rw[if_neg (by intro h;rw[hn,Bool.false_and] at h;cases h)];exact Ac1 hQ))
def Itl(K:PySem.W.Frag)(a:Addr):It:=
 ⟨λi H=>∃xs x,SqL K H a xs/\xs[i]?=some x,λi H x H'=>H'=H/\∀xs,SqL K H a xs->xs[i]?=some x,λi H=>∃xs,SqL K H a xs/\xs.length<=i⟩
def Itt(K:PySem.W.Frag)(a:Addr):It:=
 ⟨λi H=>∃xs x,SqT K H a xs/\xs[i]?=some x,λi H x H'=>H'=H/\∀xs,SqT K H a xs->xs[i]?=some x,λi H=>∃xs,SqT K H a xs/\xs.length<=i⟩
def Itr(lo:Int)(n:Nat):It:=⟨λi _=>i<n,λi H x H'=>H'=H/\x=.int (lo+i),λi _=>n<=i⟩
def xh9{P:Program}{w:World}{K:PySem.W.Frag}{tg:Expr}(a it:Addr):vd9 P w K tg (Itl K a) [it] it (λi h=>h.IsListIter it a i) where
 mem:=by simp
 obj:=λi h st b hb=>by
  have e:b=it:=by simpa using hb
  subst e;obtain⟨o,e,c,d⟩:=st;exact⟨o,e,λv z=>by rw[d] at z;cases z⟩
 keep:=λi h h' st k=>st.at λo e=>k it (by simp) o e
 item:=by
  intro X hP hw hK hc i A3 s σ H E I hf st hg;subst hP hw hK;obtain⟨xs,x,hq,hx⟩:=hg;obtain⟨its,rv,p,hz⟩:=I.list hq;obtain⟨u,hu,ru⟩:=rv.get hx;obtain⟨f0,f1,f2,f3,f4,f5⟩:=hf it (by simp);refine wpAny_pyNext_list_item st p.isList (x:=u) (by simpa using hu) λh' st' sb=>?_
  have I1:Inv X A3 σ H { s with heap:=h' }:=I.turned (t':=s.toks) (λb o hb e=>(sb.2 b hb).trans e) f0 f1 f3 f4 f5;obtain⟨o,e,c,d⟩:=id st';exact⟨u,rfl,vd2 (s:={ s with heap:=h' }) e c d (by decide) ⟨x,H,I1,ru,⟨rfl,λys hy=>by rw[I.list_inj hy hq];exact hx⟩,st',λb hb=>(hf b hb).1⟩⟩
 done:=by
  intro X hP hw hK hc i A3 s σ H E I hf st hg;subst hP hw hK;obtain⟨xs,hq,hx⟩:=hg;obtain⟨its,rv,p,hz⟩:=I.list hq;obtain⟨f0,f1,f2,f3,f4,f5⟩:=hf it (by simp);have hl:=rv.length;exact wpAny_pyNext_list_end (I.ok.hd hc) st p.isList (by simp;omega) λh' eb=>⟨rfl,I.turned (t':=s.toks) (λb o hb e=>eb b o hb e) f0 f1 f3 f4 f5⟩
 self:=λ_ _ _ _ _ st h=>wpAny_pyIter_listiter st h
def xe4{P:Program}{w:World}{K:PySem.W.Frag}{tg:Expr}(a it:Addr):vd9 P w K tg (Itt K a) [it] it (λi h=>h.IsTupleIter it a i) where
 mem:=by simp
 obj:=λi h st b hb=>by
  have e:b=it:=by simpa using hb
  subst e;obtain⟨o,e,c,d⟩:=st;exact⟨o,e,λv z=>by rw[d] at z;cases z⟩
 keep:=λi h h' st k=>st.at λo e=>k it (by simp) o e
 item:=by
  intro X hP hw hK hc i A3 s σ H E I hf st hg;subst hP hw hK;obtain⟨xs,x,hq,hx⟩:=hg;obtain⟨its,rv,p,hz⟩:=I.tuple hq;obtain⟨u,hu,ru⟩:=rv.get hx;obtain⟨f0,f1,f2,f3,f4,f5⟩:=hf it (by simp);refine wpAny_pyNext_tuple_item st (show s.heap.IsTuple a its.toArray from p) (x:=u) (by simpa using hu) λh' st' sb=>?_
  have I1:Inv X A3 σ H { s with heap:=h' }:=I.turned (t':=s.toks) (λb o hb e=>(sb.2 b hb).trans e) f0 f1 f3 f4 f5;obtain⟨o,e,c,d⟩:=id st';exact⟨u,rfl,vd2 (s:={ s with heap:=h' }) e c d (by decide) ⟨x,H,I1,ru,⟨rfl,λys hy=>by rw[I.tuple_inj hy hq];exact hx⟩,st',λb hb=>(hf b hb).1⟩⟩
 done:=by
  intro X hP hw hK hc i A3 s σ H E I hf st hg;subst hP hw hK;obtain⟨xs,hq,hx⟩:=hg;obtain⟨its,rv,p,hz⟩:=I.tuple hq;obtain⟨f0,f1,f2,f3,f4,f5⟩:=hf it (by simp);have hl:=rv.length;exact wpAny_pyNext_tuple_end (I.ok.hd hc) st (show s.heap.IsTuple a its.toArray from p) (by simp;omega) λh' eb=>⟨rfl,I.turned (t':=s.toks) (λb o hb e=>eb b o hb e) f0 f1 f3 f4 f5⟩
 self:=λ_ _ _ _ _ st h=>wpAny_pyIter_tupleiter st h
def xe5{P:Program}{w:World}{K:PySem.W.Frag}{tg:Expr}(it:Addr)(lo:Int)(n:Nat):vd9 P w K tg (Itr lo n) [it] it (λi h=>IsRangeIter h it (lo+(i:Nat)*1) ((n:Int)-(i:Nat)) 1) where
 mem:=by simp
 obj:=λi h st b hb=>by
  have e:b=it:=by simpa using hb
  subst e;exact⟨_,st,λv z=>by
   have z':Data.fields _=Data.cell v:=z;cases z'⟩
 keep:=λi h h' st k=>k it (by simp) _ st
 item:=by
  intro X hP hw hK hc i A3 s σ H E I hf st hg;subst hP hw hK;obtain⟨f0,f1,f2,f3,f4,f5⟩:=hf it (by simp);have W:=Walks.range (prog:=X.prog) (w:=X.w) (I.ok.hd hc) it lo 1 n;refine W.item i s _ _ hg st λv h' tk hv st' kk=>?_
  obtain⟨t,rfl⟩:=hv;have I1:Inv X A3 σ H { s with heap:=h',toks:=tk }:=I.turned (λb o hb e=>kk b o (by simpa using hb) e) f0 f1 f3 f4 f5;refine⟨_,rfl,vd2 (s:={ s with heap:=h',toks:=tk }) (n:="range_iterator") st' rfl rfl (by decide) ⟨.int (lo+i),H,I1,⟨t,?_⟩,⟨rfl,rfl⟩,st',λb hb=>(hf b hb).1⟩⟩;rw[Int.mul_one]
 done:=by
  intro X hP hw hK hc i A3 s σ H E I hf st hg;subst hP hw hK;obtain⟨f0,f1,f2,f3,f4,f5⟩:=hf it (by simp);exact wpAny_pyNext_range_end (I.ok.hd hc) st (by have:n<=i:=hg;omega) λh' eb=>⟨rfl,I.turned (t':=s.toks) (λb o hb e=>eb b o hb e) f0 f1 f3 f4 f5⟩
 self:=λ_ _ _ _ _ st h=>wpAny_pyIter_rangeiter st h
section
variable{X:Cx}{tg:Expr}
def vp0(K:PySem.W.Frag)(tl:TE):TI:=λσ H R=>tl σ H λx H1=>∃a,x=.ref a/\(∃xs,SqL K H1 a xs)/\R (Itl K a) H1
def vv7(K:PySem.W.Frag)(tl:TE):TI:=λσ H R=>tl σ H λx H1=>∃a,x=.ref a/\(∃xs,SqT K H1 a xs)/\R (Itt K a) H1
def xk5{l:Expr}{tl:TE}(hl:PE X l tl):PI X tg l (vp0 X.K tl):=by
 intro A3 s σ H R I h;refine thn (hl A3 s σ H _ I h) λv s1 hI75=>?_
 obtain⟨x,H1,I1,r1,q1⟩:=hI75;obtain⟨a,e,⟨xs,hq⟩,q⟩:=q1;subst e;cases r1;obtain⟨its,rv,p,hz⟩:=I1.list hq;refine wpAny_pyIter_list p.isList ?_;refine⟨s1.heap.objs.size,[s1.heap.objs.size],_,_,H1,rfl,I1.kept (t':=s1.toks) λb o e=>Ab0 _ e,xh9 a _,⟨_,Ad0 _ rfl,rfl,rfl⟩,λb hb=>?_,q⟩;have e:b=s1.heap.objs.size:=by simpa using hb
 subst e;exact I1.fpOk (Ag0 _) (I1.hok.fresh (Ag0 _))
def wk8{l:Expr}{tl:TE}(hl:PE X l tl):PI X tg l (vv7 X.K tl):=by
 intro A3 s σ H R I h;refine thn (hl A3 s σ H _ I h) λv s1 hI76=>?_
 obtain⟨x,H1,I1,r1,q1⟩:=hI76;obtain⟨a,e,⟨xs,hq⟩,q⟩:=q1;subst e;cases r1;obtain⟨its,rv,p,hz⟩:=I1.tuple hq;refine wpAny_pyIter_tuple (show s1.heap.IsTuple a its.toArray from p) ?_;refine⟨s1.heap.objs.size,[s1.heap.objs.size],_,_,H1,rfl,I1.kept (t':=s1.toks) λb o e=>Ab0 _ e,xe4 a _,⟨_,Ad0 _ rfl,rfl,rfl⟩,λb hb=>?_,q⟩;have e:b=s1.heap.objs.size:=by simpa using hb
 subst e;exact I1.fpOk (Ag0 _) (I1.hok.fresh (Ag0 _))
def xu6{A3:List (Addr×Obj)}{σ:St}{H:Hp}{s:Shared}{R:It->Hp->Prop}{E:Value->Shared->Prop}{lo hi:Int}{t u v:Tok}{tk:Nat}(I:Inv X A3 σ H s)(h1:-(2 ^ 62)<=lo)(h2:lo<2 ^ 62)(h3:-(2 ^ 62)<=hi)(h4:hi<2 ^ 62)(q:R (Itr lo (hi-lo).toNat) H):wpAny (model X.prog X.w) X.A (pyIter (.ref s.heap.objs.size)) (PIE X A3 σ tg R) E { s with heap:=s.heap.push { cls:=.type "range",data:=.fields #[.int lo t,.int hi u,.int 1 v] },toks:=tk }:=by
 refine wpAny_pyIter_range (IsRange.new ..) (small_one h1 h2 h3 h4) ?_;have I1:Inv X A3 σ H { s with heap:=s.heap.push { cls:=.type "range",data:=.fields #[.int lo t,.int hi u,.int 1 v] },toks:=tk }:=I.kept λb o e=>Ab0 _ e
 refine⟨(s.heap.push { cls:=.type "range",data:=.fields #[.int lo t,.int hi u,.int 1 v] }).objs.size,[(s.heap.push { cls:=.type "range",data:=.fields #[.int lo t,.int hi u,.int 1 v] }).objs.size],_,_,H,rfl,I1.kept (t':=tk) λb o e=>Ab0 _ e,xe5 _ lo (hi-lo).toNat,?_,λb hb=>?_,q⟩
 ·have e1:lo+((0:Nat):Int)*1=lo:=by simp
  have e2:(((hi-lo).toNat:Nat):Int)-((0:Nat):Int)=Builtin.Range.rangeSize lo hi 1:=by rw[rangeSize_one];split<;>omega
  show IsRangeIter _ _ (lo+((0:Nat):Int)*1) ((((hi-lo).toNat:Nat):Int)-((0:Nat):Int)) 1;rw[e1,e2];exact Ad0 _ rfl
 ·have e:b=(s.heap.push { cls:=.type "range",data:=.fields #[.int lo t,.int hi u,.int 1 v] }).objs.size:=by simpa using hb
  subst e;exact I1.fpOk (Ag0 _) (I1.hok.fresh (Ag0 _))
def vo9(ta:TA):TI:=λσ H R=>ta σ H λvs H1=>∃j:Int,vs=[.int j]/\-(2 ^ 62)<=j/\j<2 ^ 62/\R (Itr 0 j.toNat) H1
theorem xk4{a:Expr}{ta:TA}{p pos:Pos}(hg:Gl X "range")(hm:X.mg "range" = none)(ha:PA X [a] ta)(hs:starEach [a] X.env=[(false,eval a X.env)]:=by rfl):PI X tg (.Call (.Name "range" p) [a] [] pos) (vo9 ta):=by
 intro A3 s σ H R I h;refine Call_ (yk5 I hg hm boot_range (PyProof.Rows.callWith_type1 (thn (ha pos A3 s σ H _ I h) λus s1 hI77=>?_) hs rfl));obtain⟨vs,H1,I1,r1,q1⟩:=hI77;obtain⟨j,e,q1,q2,q⟩:=q1;subst e;cases r1 with
 | cons r rr=>
   cases rr;obtain⟨t,rfl⟩:=r;exact call_range_1 (xu6 I1 (by omega) (by omega) q1 q2 (by simpa using q))
def vu9(wi:TI)(g:TG)(tb:TS):TS:=λD σ H=>wi σ H λJ H1=>∃W:Nat->Nat->St->Hp->Prop,(∃m,W 0 m σ H1)/\∀i m σ H,W i m σ H->
 (J.stop i H/\D.nx σ H)\/(J.go i H/\∃N:St->Hp->Prop,(∀σ' H',N σ' H'->∃m',m' < m/\W (i+1) m' σ' H')/\∀x H',J.yld i H x H'->g x σ H' λσ2 H2=>tb { D with nx:=N,ct:=N,bk:=D.nx } σ2 H2)
def yr0(fp:List Addr)(h:Heap):List (Addr×Obj):=fp.filterMap λb=>(h.get? b).map λo=>(b,o)
def zv9{fp:List Addr}{h:Heap}{b:Addr}{o:Obj}(hb:b∈fp)(e:h.get? b=some o):(b,o)∈yr0 fp h:=List.mem_filterMap.mpr ⟨b,hb,by rw[e];rfl⟩
theorem xl6(hp:p∈yr0 fp h):p.1∈fp/\h.get? p.1=some p.2:=by
 obtain⟨b,hb,e⟩:=List.mem_filterMap.mp hp;cases q:h.get? b with
 | none=>rw[q] at e;cases e
 | some o=>
   rw[q] at e;have e':(b,o)=p:=Option.some.inj e;subst e';exact⟨hb,q⟩
def Inv.pinned{A3:List (Addr×Obj)}{σ:St}{H:Hp}{s:Shared}{fp:List Addr}(I:Inv X A3 σ H s)(hf:∀b∈fp,wx8 X A3 H b)(ho:∀b∈fp,∃o,s.heap.get? b=some o/\∀v,o.data≠.cell v):Inv X (A3++yr0 fp s.heap) σ H s:=
 I.pins_of λp hp=>(Av0.mp hp).elim (λz=>I.pin p (Az0 _ z)) λz=>by
  obtain⟨hb,e⟩:=xl6 z;obtain⟨f0,f1,f2,_⟩:=hf p.1 hb;obtain⟨o,e',d⟩:=ho p.1 hb;rw[e] at e';cases e';exact⟨e,f0,f1,f2,d⟩
def Inv.unpinned{A3 pl:List (Addr×Obj)}{σ:St}{H:Hp}{s:Shared}(I:Inv X (A3++pl) σ H s):Inv X A3 σ H s:=I.pins_of λp hp=>I.pin p (Az0 _ (Bu0 _ hp))
open H in
def wk6{iter:Expr}{body:List Stmt}{wi:TI}{g:TG}{tb:TS}{pos:Pos}(hp:PassesOwn (model X.prog X.w) X.A X.env X.xe)(hc:X.calm=true)(hi:PI X tg iter wi)(hg:PG X tg g)(hb:PSs X body tb)(hs:∀x,foldedSetIterable iter X.env x=pure x:=by intro _;rfl):PS X (.For tg iter body [] pos) (vu9 wi g tb):=by
 intro A3 s σ H D I h;refine wpAny_For (thn (hi A3 s σ H _ I h) λv s1 h1=>thn h1 λitv s2 h2=>?_) hs;obtain⟨it,fp,tn,J,H2,e,I2,T,st2,f2,W,⟨m0,w0⟩,turn⟩:=h2;subst e
 -- what stays true of the iterator's objects through the loop
 have stat:∀{H':Hp},(∀b∈fp,H' b=none)->∀b∈fp,wx8 X A3 H' b:=λhn b hb=>⟨hn b hb,(f2 b hb).2⟩
 refine codeAny_forLoop_any (λn s'=>∃i σ' H',Inv X A3 σ' H' s'/\tn i s'.heap/\(∀b∈fp,H' b=none)/\W i n σ' H') ?_ m0 ⟨0,σ,H2,I2,st2,λb hb=>(f2 b hb).1,w0⟩;rintro n s3 ⟨i,σ3,H3,I3,st3,fr3,w3⟩;rcases turn i n σ3 H3 w3 with⟨stop,qn⟩ | ⟨go,N,hN,step⟩
 ·refine wpAny_passesOwn hp (thn (T.done X rfl rfl rfl hc i A3 s3 σ3 H3 X.xe I3 (stat fr3) st3 stop) λr s4 hI78=>?_)
  obtain⟨hr,I4⟩:=hI78;subst hr;exact wpAny_execs_nil ⟨σ3,H3,I4,qn⟩
 ·refine wpAny_passesOwn hp (thn (T.item X rfl rfl rfl hc i A3 s3 σ3 H3 X.xe I3 (stat fr3) st3 go) λr s4 hI79=>?_)
  obtain⟨u,hr,h4⟩:=hI79;subst hr;refine wpAny_passesOwn hp (thn h4 λ_ s5 hI80=>?_);obtain⟨x,H5,I5,r5,y5,st5,fr5⟩:=hI80;have I5':=I5.pinned (stat fr5) (T.obj _ _ st5);refine wpAny_passesOwn hp (thn (hg _ s5 σ3 H5 x u _ I5' r5 (step x H5 y5)) λ_ s6 hI81=>?_);obtain⟨σ6,H6,I6,q6⟩:=hI81;refine wpAny_passesOwn hp (thn (hb _ s6 σ6 H6 _ I6 q6) λf s7 q7=>?_);have again:∀{σ7:St} {H7:Hp},Inv X (A3++yr0 fp s5.heap) σ7 H7 s7->N σ7 H7->∃m,m<n/\∃i σ' H',Inv X A3 σ' H' s7/\tn i s7.heap/\(∀b∈fp,H' b=none)/\W i m σ' H':=λ{σ7 H7} I7 n7=>by
   obtain⟨m',hm,w7⟩:=hN σ7 H7 n7;refine⟨m',hm,i+1,σ7,H7,I7.unpinned,T.keep _ _ _ st5 λb hb o e=>(I7.pin (b,o) (Az0 _ (Az0 _ (zv9 hb e)))).1,λb hb=>?_,w7⟩;obtain⟨o,e,d⟩:=T.obj _ _ st5 b hb;exact(I7.pin (b,o) (Az0 _ (Az0 _ (zv9 hb e)))).2.1
  cases f with
  | next=>obtain⟨σ7,H7,I7,n7⟩:=q7;exact again I7 n7
  | cont=>obtain⟨σ7,H7,I7,n7⟩:=q7;exact again I7 n7
  | brk=>obtain⟨σ7,H7,I7,q7⟩:=q7;exact⟨σ7,H7,I7.unpinned,q7⟩
  | ret v=>obtain⟨x7,σ7,H7,I7,r7,q7⟩:=q7;exact⟨x7,σ7,H7,I7.unpinned,r7,q7⟩
end
abbrev R2:=V->V->Hp->VK->Prop
def OpR(X:Cx)(f:Value->Value->Sem Value)(r:R2):Prop:=
 ∀(A3:List (Addr×Obj)) (s:Shared) (σ:St) (H:Hp) (x y:V) (v u:Value) (Q:VK),Inv X A3 σ H s->wq2 x v->wq2 y u->r x y H Q->
  wpAny (model X.prog X.w) X.A (f v u) (EP X A3 σ Q) X.xe s
def UnR(X:Cx)(f:Value->Sem Value)(r:V->Hp->VK->Prop):Prop:=
 ∀(A3:List (Addr×Obj)) (s:Shared) (σ:St) (H:Hp) (x:V) (v:Value) (Q:VK),Inv X A3 σ H s->wq2 x v->r x H Q->
  wpAny (model X.prog X.w) X.A (f v) (EP X A3 σ Q) X.xe s
def ws7(X:Cx)(f:Value)(r:List V->Hp->VK->Prop):Prop:=
 ∀(A3:List (Addr×Obj)) (s:Shared) (σ:St) (H:Hp) (xs:List V) (us:List Value) (Q:VK),Inv X A3 σ H s->wq4 xs us->r xs H Q->
  wpAny (model X.prog X.w) X.A (call f us) (EP X A3 σ Q) X.xe s
def tOp(r:R2)(ta tb:TE):TE:=λσ H Q=>ta σ H λx H1=>tb σ H1 λy H2=>r x y H2 Q
def tUn(r:V->Hp->VK->Prop)(ta:TE):TE:=λσ H Q=>ta σ H λx H1=>r x H1 Q
def rI(C:Int->Int->Prop)(g:Int->Int->V):R2:=λx y H Q=>∃i j,x=.int i/\y=.int j/\C i j/\Q (g i j) H
def rI0(g:Int->Int->V):R2:=λx y H Q=>∃i j,x=.int i/\y=.int j/\Q (g i j) H
def rU(g:Int->V):V->Hp->VK->Prop:=λx H Q=>∃i,x=.int i/\Q (g i) H
section
variable{X:Cx}{a b c:Expr}{ta tb tc:TE}{pos:Pos}
def vq7(ha:PE X a ta)(hb:PE X b tb){A3:List (Addr×Obj)}{s:Shared}{σ:St}{H:Hp}{R:V->V->Hp->Prop}(I:Inv X A3 σ H s)(h:ta σ H λx H1=>tb σ H1 λy H2=>R x y H2){Q:Value->Shared->Prop}{f:Value->Value->Sem Value}(hf:∀v u s2 x y H2,Inv X A3 σ H2 s2->wq2 x v->wq2 y u->R x y H2->wpAny (model X.prog X.w) X.A (f v u) Q X.xe s2) :
 wpAny (model X.prog X.w) X.A (eval a X.env) (λv s₁=>wpAny (model X.prog X.w) X.A (eval b X.env) (λu s₂=>wpAny (model X.prog X.w) X.A (f v u) Q X.xe s₂) X.xe s₁) X.xe s:=by
 refine thn (ha A3 s σ H _ I h) λv s1 hI82=>?_
 obtain⟨x,H1,I1,r1,q1⟩:=hI82;refine thn (hb A3 s1 σ H1 _ I1 q1) λu s2 hI83=>?_
 obtain⟨y,H2,I2,r2,q2⟩:=hI83;exact hf v u s2 x y H2 I2 r1 r2 q2
def wr8{op:Operator}{r:R2}(ho:OpR X (binaryOp op) r)(ha:PE X a ta)(hb:PE X b tb):PE X (.BinOp a op b pos) (tOp r ta tb):=by
 intro A3 s σ H Q I h;exact wpAny_BinOp (vq7 ha hb I h λv u s2 x y H2 I2 rx ry q=>ho A3 s2 σ H2 x y v u Q I2 rx ry q)
def vn6{op:UnaryOp}{r:V->Hp->VK->Prop}(ho:UnR X (unaryOp op) r)(ha:PE X a ta):PE X (.UnaryOp op a pos) (tUn r ta):=by
 intro A3 s σ H Q I h;exact UnaryOp_ (thn (ha A3 s σ H _ I h) λv s1 ⟨x,H1,I1,r1,q1⟩=>ho A3 s1 σ H1 x v Q I1 r1 q1)
def opI{f:Value->Value->Sem Value}{C:Int->Int->Prop}{g:Int->Int->Int}(rule:∀(i j:Int) (t u:Tok) (s:Shared) (Q:Value->Shared->Prop) (E:Value->Shared->Prop),C i j->Q (.int (g i j) s.toks) { s with toks:=s.toks+1 }->wpAny (model X.prog X.w) X.A (f (.int i t) (.int j u)) Q E s) :
 OpR X f (rI C λi j=>.int (g i j)):=by
 intro A3 s σ H x y v u Q I rx ry h;obtain⟨i,j,rfl,rfl,hc,q⟩:=h;obtain⟨t,rfl⟩:=rx;obtain⟨t',rfl⟩:=ry;exact rule i j t t' s _ _ hc ⟨.int (g i j),H,I.tok _,⟨_,rfl⟩,q⟩
def vs1{f:Value->Value->Sem Value}{g:Int->Int->Int}(rule:∀(i j:Int) (t u:Tok) (s:Shared) (Q:Value->Shared->Prop) (E:Value->Shared->Prop),Q (.int (g i j) s.toks) { s with toks:=s.toks+1 }->wpAny (model X.prog X.w) X.A (f (.int i t) (.int j u)) Q E s) :
 OpR X f (rI0 λi j=>.int (g i j)):=by
 intro A3 s σ H x y v u Q I rx ry h;obtain⟨i,j,rfl,rfl,q⟩:=h;obtain⟨t,rfl⟩:=rx;obtain⟨t',rfl⟩:=ry;exact rule i j t t' s _ _ ⟨.int (g i j),H,I.tok _,⟨_,rfl⟩,q⟩
def vk6{f:Value->Value->Sem Value}{g:Int->Int->Bool}(rule:∀(i j:Int) (t u:Tok) (s:Shared) (Q:Value->Shared->Prop) (E:Value->Shared->Prop),Q (.bool (g i j)) s->wpAny (model X.prog X.w) X.A (f (.int i t) (.int j u)) Q E s) :
 OpR X f (rI0 λi j=>.bl (g i j)):=by
 intro A3 s σ H x y v u Q I rx ry h;obtain⟨i,j,rfl,rfl,q⟩:=h;obtain⟨t,rfl⟩:=rx;obtain⟨t',rfl⟩:=ry;exact rule i j t t' s _ _ ⟨.bl (g i j),H,I,rfl,q⟩
def vl4(i j:Int):Prop:=0<j/\j<1073741824
def vk2(i j:Int):Prop:=j≠0/\j.natAbs<1073741824
def vl3(i j:Int):Prop:=0<=j/\j<=1000000/\i.natAbs<2 ^ 64
def va0(i j:Int):Prop:=(-(2 ^ 64)<i/\i<2 ^ 64)\/(-(2 ^ 64)<j/\j<2 ^ 64)
def va0.ok{i j:Int}(h:va0 i j):IntMulOk i j:=by
 rcases h with⟨h1,h2⟩ | ⟨h1,h2⟩
 ·exact .of_left (intBits_le_64 h1 h2)
 ·exact .of_right (intBits_le_64 h1 h2)
def yr6:OpR X (binaryOp .Add) (rI0 λi j=>.int (i+j)):=vs1 λ_ _ _ _ _ _ _ q=>add_int q
def zk5:OpR X (binaryOp .Sub) (rI0 λi j=>.int (i-j)):=vs1 λ_ _ _ _ _ _ _ q=>sub_int q
def yf5:OpR X (binaryOp .Mult) (rI va0 λi j=>.int (i*j)):=opI λ_ _ _ _ _ _ _ hc q=>mul_int q hc.ok
def wf1:OpR X (binaryOp .FloorDiv) (rI vl4 λi j=>.int (i / j)):=opI λi j _ _ _ _ _ hc q=>by
 have h1:(0:Int)<j:=hc.1;have h2:j<1073741824:=hc.2;exact floordiv_int (by omega) (by rw[Int.fdiv_eq_ediv_of_nonneg i (by omega)];exact q) (.inl (PyProof.noPylong_small (by omega)))
def yk2:OpR X (binaryOp .Mod) (rI (λ_ j=>0<j) λi j=>.int (i % j)):=opI λi j _ _ _ _ _ hc q=>by
 have h1:(0:Int)<j:=hc;exact mod_int' (by omega) (by rw[Int.fmod_eq_emod_of_nonneg i (by omega)];exact q)
def xz8:OpR X (binaryOp .Pow) (rI vl3 λi j=>.int (i ^ j.toNat)):=opI λ_ _ _ _ _ _ _ hc q=>pow_int_small hc.1 hc.2.1 hc.2.2 q
def unI{f:Value->Sem Value}{g:Int->Int}(rule:∀(i:Int) (t:Tok) (s:Shared) (Q:Value->Shared->Prop) (E:Value->Shared->Prop),Q (.int (g i) s.toks) { s with toks:=s.toks+1 }->wpAny (model X.prog X.w) X.A (f (.int i t)) Q E s) :
 UnR X f (rU λi=>.int (g i)):=by
 intro A3 s σ H x v Q I rx h;obtain⟨i,rfl,q⟩:=h;obtain⟨t,rfl⟩:=rx;exact rule i t s _ _ ⟨.int (g i),H,I.tok _,⟨_,rfl⟩,q⟩
def wj4:UnR X (unaryOp .USub) (rU λi=>.int (-i)):=unI λ_ _ _ _ _ q=>neg_int q
def wo0{k k':Bool}(I:Inv X A3 σ H s)(q:Q (.bl k) H)(e:k=k'):EP X A3 σ Q (.bool k') s:=by
 subst e;exact⟨.bl k,H,I,rfl,q⟩
def wy8:OpR X (compareOp .Lt) (rI0 λi j=>.bl (decide (i<j))):=vk6 λ_ _ _ _ _ _ _ q=>lt_int q
def vf6:OpR X (compareOp .LtE) (rI0 λi j=>.bl (decide (i<=j))):=vk6 λ_ _ _ _ _ _ _ q=>le_int q
def vi4:OpR X (compareOp .Gt) (rI0 λi j=>.bl (decide (j<i))):=vk6 λ_ _ _ _ _ _ _ q=>gt_int q
def vn9:OpR X (compareOp .GtE) (rI0 λi j=>.bl (decide (j<=i))):=vk6 λ_ _ _ _ _ _ _ q=>ge_int q
def xl4:OpR X (compareOp .Is) (λx y H Q=>y=.non/\Q (.bl (decide (x=.non))) H):=by
 intro A3 s σ H x y v u Q I rx ry h;obtain⟨rfl,q⟩:=h;cases ry;refine is_none_gen (wo0 I q ?_);cases x<;>first
  | (cases rx;rfl)
  | (obtain⟨t,rfl⟩:=rx;rfl)
def OpR.or(h:OpR X f r)(h':OpR X f r'):OpR X f (λx y H Q=>r x y H Q\/r' x y H Q):=by
 intro A3 s σ H x y v u Q I rx ry q;rcases q with q | q
 ·exact h A3 s σ H x y v u Q I rx ry q
 ·exact h' A3 s σ H x y v u Q I rx ry q
def wa1(b:Expr)(h:op≠.In:=by decide)(h2:op≠.NotIn:=by decide):behindInMarks op b=false:=by
 have e1:(op == CmpOp.In)=false:=by cases op<;>first | rfl | exact absurd rfl h
 have e2:(op == CmpOp.NotIn)=false:=by cases op<;>first | rfl | exact absurd rfl h2
 cases b<;>simp[behindInMarks,e1,e2]
def we9(ho:OpR X (compareOp op) r)(ha:PE X a ta)(hb:PE X b tb)(hm:behindInMarks op b=false):PE X (.Compare a [op] [b] pos) (tOp r ta tb):=by
 intro A3 s σ H Q I h;exact wpAny_Compare1 (vq7 ha hb I h λv u s2 x y H2 I2 rx ry q=>ho A3 s2 σ H2 x y v u Q I2 rx ry q) hm
def vh7(t:TE):TT:=λσ H Q=>t σ H λx H'=>∃k,x=.bl k/\Q k H'
def yw4{op:CmpOp}{r:R2}(ho:OpR X (compareOp op) r)(ha:PE X a ta)(hb:PE X b tb)(hm:behindInMarks op b=false):PT X (.Compare a [op] [b] pos) (vh7 (tOp r ta tb)):=by
 intro A3 s σ H Q I h;refine wpAny_isTrue_Compare1 (thn (ha A3 s σ H _ I h) λv s1 ⟨x,H1,I1,r1,q1⟩=>thn (hb A3 s1 σ H1 _ I1 q1) λu s2 ⟨y,H2,I2,r2,q2⟩=>thn (ho A3 s2 σ H2 x y v u _ I2 r1 r2 q2) λc s3 hI84=>?_) hm;obtain⟨z,H3,I3,r3,k,e,q3⟩:=hI84;subst e;cases r3;exact Ah1 ⟨H3,I3,q3⟩
def xy9(r r':R2)(ta tb tc:TE):TE:=λσ H Q=>ta σ H λx H1=>tb σ H1 λy H2=>r x y H2 λz H3=>∃k,z=.bl k/\
 (if k=true then tc σ H3 λw' H4=>r' y w' H4 Q else Q (.bl false) H3)
theorem xu7{op op':CmpOp}{r r':R2}(ho:OpR X (compareOp op) r)(ho':OpR X (compareOp op') r')(ha:PE X a ta)(hb:PE X b tb)(hc:PE X c tc)(hm:lastMarks [op,op'] [b,c]=false:=by with_unfolding_all rfl):PT X (.Compare a [op,op'] [b,c] pos) (vh7 (xy9 r r' ta tb tc)):=by
 intro A3 s σ H Q I h;refine isTrue_chain (thn (ha A3 s σ H _ I h) λv s1 ⟨x,H1,I1,r1,q1⟩=>test_link (thn (hb A3 s1 σ H1 _ I1 q1) λu s2 ⟨y,H2,I2,r2,q2⟩=>thn (ho A3 s2 σ H2 x y v u _ I2 r1 r2 q2) λd s3 hI85=>?_)) hm;obtain⟨z,H3,I3,r3,k,e,q3⟩:=hI85;subst e;cases r3;refine Ah1 ?_;cases k with
 | false=>
   obtain⟨k',e',q'⟩:=q3;cases e';exact ite_ff ⟨H3,I3,q'⟩
 | true=>
   refine ite_tt (test_last (thn (hc A3 s3 σ H3 _ I3 q3) λw' s4 ⟨z',H4,I4,r4,q4⟩=>thn (ho' A3 s4 σ H4 y z' u w' _ I4 r2 r4 q4) λd' s5 hI86=>?_));obtain⟨z2,H5,I5,r5,k2,e2,q5⟩:=hI86;subst e2;cases r5;exact Ah1 ⟨H5,I5,q5⟩
def ys1:(sizeLine:Nat)<2 ^ 63:=by rw[sizeLine_eq];decide
theorem wt7(r:wq4 [x] us):∃u,us=[u]/\wq2 x u:=by
 cases r with
 | cons r1 r2=>cases r2;exact⟨_,rfl,r1⟩
theorem ve0(r:wq4 [x,y] us):∃u w',us=[u,w']/\wq2 x u/\wq2 y w':=by
 cases r with
 | cons r1 r2=>
   cases r2 with
   | cons r3 r4=>cases r4;exact⟨_,_,rfl,r1,r3⟩
def zp0(hc:X.calm=true):ws7 X (.builtin "min") (λxs H Q=>∃i j,xs=[.int i,.int j]/\Q (.int (if j<i then j else i)) H):=by
 intro A3 s σ H xs us Q I r h;obtain⟨i,j,rfl,q⟩:=h;obtain⟨u,w',rfl,⟨t,rfl⟩,⟨t',rfl⟩⟩:=ve0 r;refine min_two_ints (I.ok.hd hc) λh' tk k=>⟨_,H,I.kept k,?_,q⟩
 by_cases hj:j<i
 ·rw[if_pos hj,if_pos hj];exact⟨_,rfl⟩
 ·rw[if_neg hj,if_neg hj];exact⟨_,rfl⟩
def yb2:ws7 X (.type "int") (λxs H Q=>(∃i,xs=[.int i]/\Q (.int i) H)\/∃k,xs=[.bl k]/\Q (.int (if k then 1 else 0)) H):=by
 intro A3 s σ H xs us Q I r h;rcases h with⟨i,rfl,q⟩ | ⟨k,rfl,q⟩
 ·obtain⟨u,rfl,t,rfl⟩:=wt7 r
  exact call_int_int ⟨.int i,H,I,⟨_,rfl⟩,q⟩
 ·obtain⟨u,rfl,r1⟩:=wt7 r
  cases r1;exact call_int_bool ⟨.int (if k then 1 else 0),H,I.tok _,⟨_,rfl⟩,q⟩
def yy1:ws7 X (.builtin "divmod") (λxs H Q=>∃i j,xs=[.int i,.int j]/\vl4 i j/\∀p,H p=none->Q (.ref p) (upd H p (.tup [.int (i / j),.int (i % j)]))):=by
 intro A3 s σ H xs us Q I r h;obtain⟨i,j,rfl,⟨h1,h2⟩,q⟩:=h;obtain⟨u,w',rfl,⟨t,rfl⟩,⟨t',rfl⟩⟩:=ve0 r;refine divmod_int (by omega) ?_ (.inl (PyProof.noPylong_small (by omega)));rw[Int.fdiv_eq_ediv_of_nonneg i (by omega),Int.fmod_eq_emod_of_nonneg i (by omega)];have hn:H s.heap.objs.size=none:=I.hok.fresh (Ag0 _);refine⟨.ref s.heap.objs.size,_,?_,rfl,q _ hn⟩;refine I.laid (λb o e=>Ab0 _ e) (Ag0 _) ⟨by simp only[Ax0,Cg0];rw[sizeLine_eq];decide,[.int (i / j) s.toks,.int (i % j) (s.toks+1)],.cons ⟨_,rfl⟩ (.cons ⟨_,rfl⟩ .nil),?_⟩;exact⟨⟨_,Ad0 s.heap rfl,rfl,0,rfl⟩,⟨_,Ad0 _ rfl,rfl⟩⟩
end
structure vr1(h:Heap)(x dx C:Addr)(mA:Str->Option Value):Prop where
 obj:h.get? x=some (PySem.W.instObj C dx)
 ns:h.Ns1 dx mA
 ne:dx≠x
open H in
def xm9{h:Heap}{dx:Addr}{mA:Str->Option Value}(n:h.Ns1 dx mA):∃od,h.get? dx=some od/\∀name,PySem.W.lookIn name od=some (mA name):=by
 obtain⟨o,es,ep,ho,hd,hk,_,hm⟩:=n;refine⟨o,ho,λname=>?_⟩;have e:=hm name;unfold nsFind findBy at e;rw[<-Array.find?_toList] at e;unfold PySem.W.lookIn;rw[hd];dsimp only;split
 ·rename_i y q
  rw[q] at e;exact congrArg some e
 ·rename_i q
  rw[q] at e;have a:es.toList.any (·.refKey)=false:=by
   rw[List.any_eq_false];intro y hy;obtain⟨z,t,hkey⟩:=hk y (Array.mem_toList_iff.mp hy);simp[DictEntry.refKey,hkey]
  have a':¬es.toList.any (·.refKey)=true:=by rw[a];exact Au0
  rw[if_neg a'];exact congrArg some e
def vr1.look(I:vr1 h x dx C mA):∃od,PySem.W.InstAt h x (PySem.W.instObj C dx) C (some od)/\∀name,PySem.W.lookIn name od=some (mA name):=
 let ⟨od,ho,hl⟩:=xm9 I.ns
 ⟨od,⟨I.obj,rfl,rfl,ho⟩,hl⟩
section
variable{prog:Program}{w:World}{A:Around}{E:Value->Shared->Prop}{s:Shared}{K:PySem.W.Frag}{x dx C f:Addr}{mA:Str->Option Value}{name:Str}{v:Value}
end
theorem vb8.some_of(r:vb8 (some v) o):∃u,o=some u/\wq2 v u:=by
 cases o with
 | none=>exact(show False from r).elim
 | some u=>exact⟨u,rfl,r⟩
section
variable{P:Program}{w:World}{H H':Hp}{h h':Heap}{a C dx:Addr}{fs fs':List (Str×V)}
def wg7(hok:HOk P w H h)(e:H a=some (.ins C dx fs)):∃mA,vr1 h a dx C mA/\(∀f,vb8 (fs.lookup f) (mA f))/\PySem.Within mA (fs.map (·.1))/\fs.length<=1000/\H dx=some (.own a):=by
 obtain⟨d,z,ne,ob,mA,n,r,q⟩:=(show wq9 P w H h a (.ins C dx fs) from hok a _ e);exact⟨mA,⟨ob,n,ne⟩,r,q,z,d⟩
end
structure Cls(K:PySem.W.Frag)(C:Addr):Prop where
 pg:PySem.W.plainGet K C Str.empty=true
 hd:PySem.W.hasDictIn K C=true
 po:PySem.W.plainOver K C=true
 sa:PySem.W.findIn K (.ref C) "__setattr__" = some (some (.builtin "object.__setattr__"))
def Cls.get{K:PySem.W.Frag}{C:Addr}(c:Cls K C)(f:Str):PySem.W.plainGet K C f=true:=c.pg
section
variable{X:Cx}{A3:List (Addr×Obj)}{σ:St}{H:Hp}{s:Shared}{a C dx:Addr}{fs:List (Str×V)}{f:Str}{v:V}{A:Around}{E:Value->Shared->Prop}{o e value:Expr}{pos pos' tpos:Pos}{ta tv:TE}{Q:Value->Shared->Prop}{c:Value}{b:Bool}
inductive wz9(K:PySem.W.Frag)(H:Hp):V->Value->Prop where
 | non:wz9 K H .non (.type "NoneType")
 | bl (x:Bool):wz9 K H (.bl x) (.type "bool")
 | int (i:Int):wz9 K H (.int i) (.type "int")
 | str (x:Str):wz9 K H (.str x) (.type "str")
 | flt (x:UInt64):wz9 K H (.flt x) (.type "float")
 | lst {a:Addr} {xs:List V} (e:H a=some (.lst xs)):wz9 K H (.ref a) (.type "list")
 | frz {a:Addr} {o:Obj} {xs:List V} (e:H a=some (.frz o (.lst xs))):wz9 K H (.ref a) (.type "list")
 | tup {a:Addr} {xs:List V} (e:H a=some (.tup xs)):wz9 K H (.ref a) (.type "tuple")
 | dK {a:Addr} {kvs:List (Key×V)} (e:H a=some (.dK kvs)):wz9 K H (.ref a) (.type "dict")
 | dT {a:Addr} {kvs:List (List Key×V)} (e:H a=some (.dT kvs)):wz9 K H (.ref a) (.type "dict")
 | ins {a C dx:Addr} {fs:List (Str×V)} (e:H a=some (.ins C dx fs)) (cl:Cls K C) (ha:PySem.W.findIn K (.ref C) "__class__" = some (some (.builtin "object.__class__")))
  (hn:PySem.W.specialIn K (.builtin "object.__class__") "__get__" = some (some (.builtin "getset_descriptor.__get__"))) (htk:PySem.W.takesIn K (.builtin "object.__class__")=some true)
  (hm:PySem.W.mroIn K C (.type "object")=some true):wz9 K H (.ref a) (.ref C)
theorem zm0(I:Inv X A3 σ H s)(rx:wq2 x u)(ty:wz9 X.K H x t)(e:PySem.W.kitOne X.K t c=some b)(h:∀tk,Q (.bool b) { s with toks:=tk }) :
 wpAny (model X.prog X.w) A (call (.builtin "isinstance") [u,c]) Q E s:=by
 cases ty with
 | non=>cases (show u=Value.none from rx);exact PySem.W.kia_one PySem.W.kitx_none I.kIn True.intro e (λz=>nomatch z) h
 | bl y=>cases (show u=Value.bool y from rx);exact PySem.W.kia_one PySem.W.kitx_bool I.kIn True.intro e (λz=>nomatch z) h
 | int i=>obtain⟨t,q⟩:=(show ∃t,u=Value.int i t from rx);cases q;exact PySem.W.kia_one PySem.W.kitx_int I.kIn True.intro e (λz=>nomatch z) h
 | str y=>obtain⟨t,q⟩:=(show ∃t,u=Value.str y t from rx);cases q;exact PySem.W.kia_one PySem.W.kitx_str I.kIn True.intro e (λz=>nomatch z) h
 | flt y=>obtain⟨t,q⟩:=(show ∃t,u=Value.float y t from rx);cases q;exact PySem.W.kia_one PySem.W.kitx_float I.kIn True.intro e (λz=>nomatch z) h
 | @lst a xs ea=>
   cases (show u=Value.ref a from rx);obtain⟨_,_,n,_,h1⟩:=(show wq9 X.prog X.w H s.heap a (.lst xs) from I.hok a _ ea);exact PySem.W.kia_one PySem.W.kitx_list I.kIn ⟨_,h1,rfl⟩ e (λz=>nomatch z) h
 | @frz a ob xs ea=>
   cases (show u=Value.ref a from rx);obtain⟨_,_,_,n,_,h1⟩:=(show wq9 X.prog X.w H s.heap a (.frz ob (.lst xs)) from I.hok a _ ea);exact PySem.W.kia_one PySem.W.kitx_list I.kIn ⟨_,h1,rfl⟩ e (λz=>nomatch z) h
 | @tup a xs ea=>
   cases (show u=Value.ref a from rx);obtain⟨_,_,_,p,_⟩:=(show wq9 X.prog X.w H s.heap a (.tup xs) from I.hok a _ ea);obtain⟨o,h1,h2,_⟩:=p;exact PySem.W.kia_one PySem.W.kitx_tuple I.kIn ⟨o,h1,h2⟩ e (λz=>nomatch z) h
 | @dK a kvs ea=>
   cases (show u=Value.ref a from rx);obtain⟨_,_,vs,_,p⟩:=(show wq9 X.prog X.w H s.heap a (.dK kvs) from I.hok a _ ea);obtain⟨o,es,ep,h1,h2,_⟩:=p;exact PySem.W.kia_one PySem.W.kitx_dict I.kIn ⟨o,h1,h2.1⟩ e (λz=>nomatch z) h
 | @dT a kvs ea=>
   cases (show u=Value.ref a from rx);obtain⟨_,_,xs,_,o,es,ep,h1,h2,_⟩:=(show wq9 X.prog X.w H s.heap a (.dT kvs) from I.hok a _ ea);exact PySem.W.kia_one PySem.W.kitx_dict I.kIn ⟨o,h1,h2.1⟩ e (λz=>nomatch z) h
 | @ins a C dx fs ea cl ha hn htk hm=>
   cases (show u=Value.ref a from rx);obtain⟨mA,O,_⟩:=wg7 I.hok ea;obtain⟨od,J,_⟩:=O.look;exact PySem.W.kia_one (PySem.W.kitx_own (cl.get _) cl.hd ha hn htk hm) I.kIn J e (λz=>nomatch z) h
end
structure wr2(k:Nat)(A:Around):Prop where
 hd:A.handled=none
 dp:A.depth+3*k+5<recursionLimit
 un:A.units+16*k+200<cLine
 gd:A.guards=some []
def wr2.mono{j k:Nat}(r:wr2 k A)(h:j<=k):wr2 j A:=⟨r.hd,by have:=r.dp;omega,by have:=r.un;omega,r.gd⟩
def wr2.deeper{k:Nat}(r:wr2 (k+1) A)(env:Env):wr2 k (A.deeper env):=
 ⟨r.hd,by have:=r.dp;show A.depth+1+3*k+5<_;omega,by have:=r.un;show A.units+3+16*k+200<_;omega,r.gd⟩
def wr2.depth{k:Nat}(r:wr2 k A):A.depth<recursionLimit:=by have:=r.dp;omega
def wr2.units{k:Nat}(r:wr2 k A):A.units+64<cLine:=by have:=r.un;omega
def vr3:TA:=λ_ H Q=>Q [] H
def vc2(ta:TE)(tr:TA):TA:=λσ H Q=>ta σ H λx H1=>tr σ H1 λxs H2=>Q (x::xs) H2
section
variable{X:Cx}{e:Expr}{es:List Expr}{te:TE}{t:TA}{pos:Pos}
def zp4:PA X [] vr3:=λ_ _ _ _ H Q I h=>Calls.spliced_nil ⟨[],H,I,.nil,h⟩
def zi1(ha:PE X e te)(hr:PA X es t)(hs:starEach (e::es) X.env=(false,eval e X.env)::starEach es X.env:=by rfl):PA X (e::es) (vc2 te t):=by
 intro pos A3 s σ H Q I h;rw[hs];show wpAny _ _ (spliced ((false,eval e X.env)::backTo pos (starEach es X.env))) _ _ s;refine Calls.spliced_cons (thn (ha A3 s σ H _ I h) λu s1 hI87=>?_);obtain⟨x,H1,I1,r1,q1⟩:=hI87;exact thn (hr pos A3 s1 σ H1 _ I1 q1) λus s2 ⟨xs,H2,I2,r2,q2⟩=>⟨x::xs,H2,I2,.cons r1 r2,q2⟩
def vu2(t:TA):TE:=λσ H Q=>t σ H λxs H1=>xs.length<=sizeLine/\∀p,H1 p=none->Q (.ref p) (upd H1 p (.tup xs))
def vu7(t:TA):TE:=λσ H Q=>t σ H λxs H1=>xs.length<=sizeLine/\∀p,H1 p=none->Q (.ref p) (upd H1 p (.lst xs))
def xz6{x1}(h:PA X es t):PE X (.Tuple es x1 pos) (vu2 t):=by
 intro A3 s σ H Q I hq;refine wpAny_Tuple_spliced (thn (h pos A3 s σ H _ I hq) λus s1 ⟨xs,H1,I1,r,z,q⟩=>⟨by rw[<-r.length];exact z,?_⟩);have hf:H1 s1.heap.objs.size=none:=I1.hok.fresh (Ag0 _);refine⟨.ref s1.heap.objs.size,upd H1 s1.heap.objs.size (.tup xs),I1.laid (t':=s1.toks) (λb u e=>Ab0 _ e) (Ag0 _) ?_,rfl,q _ hf⟩;exact⟨z,us,r,⟨_,Ad0 _ rfl,rfl,_,rfl⟩,⟨_,Ad0 _ rfl,rfl⟩⟩
def xk6(h:PA X es t):PE X (.List es pos) (vu7 t):=by
 intro A3 s σ H Q I hq;refine wpAny_List_spliced (thn (h pos A3 s σ H _ I hq) λus s1 ⟨xs,H1,I1,r,z,q⟩=>⟨by rw[<-r.length];exact z,?_⟩);have hf:H1 s1.heap.objs.size=none:=I1.hok.fresh (Ag0 _);refine⟨.ref s1.heap.objs.size,upd H1 s1.heap.objs.size (.lst xs),I1.laid (t':=s1.toks) (λb u e=>Ab0 _ e) (Ag0 _) ?_,rfl,q _ hf⟩;exact⟨z,us,0,r,Ad0 _ rfl⟩
end
abbrev Sp:=List V->Hp->VK->XK->Prop
abbrev CXT:=List Env->Hp->Shared->XK->Value->Shared->Prop
structure vl2(P:Program)(w:World)(K:PySem.W.Frag)(mg:Str->Option Value)(base:Heap)(A:Around)(outer:List Env)(s:Shared)(H:Hp):Prop where
 frames:A.frames=some outer
 mod:Mod K mg base
 bs:∀b o,base.get? b=some o->s.heap.get? b=some o/\H b=none
 bsz:base.objs.size<=s.heap.objs.size
 funs:s.heap.FunFrames base outer
 frf:∀b∈frs outer,H b=none
 hok:HOk P w H s.heap
 bare:AllBare s.gens
def CE(outer:List Env)(P:Program)(w:World)(H:Hp)(s:Shared)(Q:VK)(u:Value)(s':Shared):Prop:=
 ∃v H',s'.os=s.os/\AllBare s'.gens/\Un (frs outer) [] H H' s.heap s'.heap/\HOk P w H' s'.heap/\wq2 v u/\Q v H'
def CR(CX:CXT)(outer:List Env)(P:Program)(w:World)(H:Hp)(s:Shared)(Q:VK)(E:XK)(r:Result)(s':Shared):Prop:=
 match r with
 | .ok (.ret u)=>CE outer P w H s Q u s'
 | .ok _=>False
 | .error e=>CX outer H s E e s'
structure ww5(P:Program)(w:World)(K:PySem.W.Frag)(mg:Str->Option Value)(base:Heap)(CX:CXT)(k:Nat)(f:Addr)(fd:FuncData)(ps:List Str)(sp:Sp):Prop where
 len:∀vs H Q E,sp vs H Q E->vs.length=ps.length
 run:∀(A:Around) (outer:List Env) (s:Shared) (H:Hp) (args:Args) (us:List Value) (vs:List V) (Q:VK) (E:XK),wr2 k A->vl2 P w K mg base A outer s H->BindsTo s fd args (ps.zip us)->wq4 vs us->sp vs H Q E->
  codeAny (model P w) A (.call (.ref f) args) (CR CX outer P w H s Q E) s
def ww5.mono{P:Program}{w:World}{K:PySem.W.Frag}{mg:Str->Option Value}{base:Heap}{CX:CXT}{j k:Nat}{f:Addr}{fd:FuncData}{ps:List Str}{sp:Sp}(F:ww5 P w K mg base CX j f fd ps sp)(h:j<=k) :
 ww5 P w K mg base CX k f fd ps sp:=⟨F.len,λA outer s H args us vs Q E hr=>F.run A outer s H args us vs Q E (hr.mono h)⟩
section
variable{X:Cx}{A3:List (Addr×Obj)}{σ:St}{H:Hp}{s s':Shared}
def Inv.env0(I:Inv X A3 σ H s):vl2 X.prog X.w X.K X.mg X.base X.A X.stack s H:=
 ⟨I.ok.frames,I.ok.mod,I.bs,Ap0 I.ok.bsz I.sz,I.stack,I.stkFree,I.hok,I.bare⟩
def Inv.after(I:Inv X A3 σ H s)(h:CE X.stack X.prog X.w H s Q u s'):EP X A3 σ Q u s':=by
 obtain⟨v,H',os,bare,un,hok,r,q⟩:=h;obtain⟨hh,g,d,t,os'⟩:=s';obtain rfl:os'=s.os:=os;exact⟨v,H',I.call (h':=hh) (g':=g) (d':=d) (t':=t) (ch:=[]) un hok bare (λb z=>absurd z (by simp)),r,q⟩
end
def ve4(sp:Sp)(dvs:List V)(E:XK)(t:TA):TE:=λσ H Q=>t σ H λvs H1=>sp (vs++dvs) H1 Q E
def wz8(K:PySem.W.Frag)(fd:FuncData)(ps:List Str)(ds:List Value):Prop:=
 ∀(s:Shared) (us:List Value),K.In s.heap->(us++ds).length=ps.length->BindsTo s fd ⟨us,[]⟩ (ps.zip (us++ds))
def wz8.all{K:PySem.W.Frag}{fd:FuncData}{ps:List Str}(h:∀us:List Value,us.length=ps.length->bindArgs fd ⟨us,[]⟩=pure (ps.zip us)):wz8 K fd ps []:=λs us _ hl=>by
 rw[List.append_nil] at hl ⊢;exact .of_eq (h us hl)
def xs0(CX:CXT)(X:Cx)(E:XK):Prop:=∀(A3:List (Addr×Obj)) (σ:St) (H:Hp) (s:Shared) (e:Value) (s':Shared),Inv X A3 σ H s->CX X.stack H s E e s'->X.xe e s'
section
variable{X:Cx}{CX:CXT}{k:Nat}{f C:Addr}{fd:FuncData}{ps:List Str}{sp:Sp}{dvs:List V}{ds:List Value}{E:XK}{x m:Str}{p pos apos:Pos}{e o:Expr}{es:List Expr}{ta:TE}{t:TA}{ks:List Str}{kpos:Pos}{kws:List Keyword}{te:TE}{tk:TA}{nm:Option Str}{g:List Value->List Value->List Value}{gV:List V->List V->List V}
open H in
theorem wk1{A3:List (Addr×Obj)}{σ:St}{H:Hp}{s:Shared}{Q:VK}{us:List Value}{vs:List V}(F:ww5 X.prog X.w X.K X.mg X.base CX k f fd ps sp)(hr:wr2 k X.A)(hb:wz8 X.K fd ps ds)(hd:wq4 dvs ds)(hx:xs0 CX X E)(I:Inv X A3 σ H s)(r:wq4 vs us)(h:sp (vs++dvs) H Q E):wpAny (model X.prog X.w) X.A (call (.ref f) us) (EP X A3 σ Q) X.xe s:=by
 have r2:wq4 (vs++dvs) (us++ds):=r.append hd;have hl:(us++ds).length=ps.length:=by rw[<-r2.length];exact F.len _ _ _ _ h
 refine wpAny_call (codeAny_mono (F.run X.A X.stack s H ⟨us,[]⟩ (us++ds) (vs++dvs) Q E hr I.env0 (hb s us I.kIn hl) r2 h) λr s' hq=>?_);cases r with
 | error e=>exact hx A3 σ H s e s' I hq
 | ok fl=>
   cases fl with
   | ret u=>exact I.after hq
   | next=>exact False.elim hq
   | brk=>exact False.elim hq
   | cont=>exact False.elim hq
def yw6(F:ww5 X.prog X.w X.K X.mg X.base CX k f fd ps sp)(hr:wr2 k X.A)(hg:Gl X x)(hm:X.mg x=some (.ref f))(hk:keepIn X.K (.ref f)=true)(hb:wz8 X.K fd ps ds)(hd:wq4 dvs ds)(hx:xs0 CX X E)(ha:PA X (e::es) t)(hdb:(x == ("__debug__" : Str))=false:=by decide)(he:starEach (e::es) X.env=(false,eval e X.env)::starEach es X.env:=by rfl)(hpl:(backTo pos (starEach es X.env)).any (·.1)=false:=by rfl) :
 PE X (.Call (.Name x p) (e::es) [] pos) (ve4 sp dvs E t):=by
 intro A3 s σ H Q I h;refine wpAny_Call_Name_kw (xn0 I hg hm ?_ hdb);refine PySem.W.callWith_K (h₀:=X.base) I.ok.mod.kin hk (thn (ha pos A3 s σ H _ I h) λus s1 ⟨vs,H1,I1,r,q⟩=>⟨I1.kIn,?_⟩) he hpl;exact wk1 F hr hb hd hx I1 r q
end
structure zd1(N P:List Str)(sc:Scope):Prop where
 kind:sc.kind=.function
 co:sc.isCoroutine=false
 gen:sc.isGenerator=false
 nd:N.Nodup
 pre:N.take P.length=P
 par:∀x∈P,sc.names.lookup x=some .local\/sc.names.lookup x=some .cell
 nofree:∀y∈sc.names,y.2≠.free
theorem yu7{kindOf:Str->Option NameKind}{x:Str}:∀{binds:List (Str×Value)} {m:Str->Option Value},(∀v,(x,v)∉binds)->bindL kindOf binds m x=m x
 | [],_,_=>rfl
 | (n,v)::r,m,h=>by
   unfold bindL;rw[yu7 λw hw=>h w (Br0 _ hw)];split
   ·have:x≠n:=by rintro rfl;exact h v Bh0
    simp[this]
   ·rfl
theorem yu9{kindOf:Str->Option NameKind}{x:Str}:∀{binds:List (Str×Value)} {m:Str->Option Value},(∀v,(x,v)∉binds)->bindC kindOf binds m x=m x
 | [],_,_=>rfl
 | (n,v)::r,m,h=>by
   unfold bindC;rw[yu9 λw hw=>h w (Br0 _ hw)];split
   ·rfl
   ·have:x≠n:=by rintro rfl;exact h v Bh0
    simp[this]
theorem yu8{kindOf:Str->Option NameKind}{x:Str}{v:Value}:∀{P:List Str} {vs:List Value} {i:Nat} {m:Str->Option Value},P.Nodup->P[i]?=some x->vs[i]?=some v->kindOf x=some .local->
 bindL kindOf (P.zip vs) m x=some v
 | [],_,_,_,_,h,_,_=>by simp at h
 | _::_,[],_,_,_,_,h,_=>by simp at h
 | p::P,w::vs,0,m,nd,h1,h2,hk=>by
   simp at h1 h2;subst h1;subst h2;show bindL kindOf ((p,w)::P.zip vs) m p=_;unfold bindL;rw[yu7 λv hv=>(Bi0.mp nd).1 (List.of_mem_zip hv).1,if_pos hk];simp
 | p::P,w::vs,i+1,m,nd,h1,h2,hk=>by
   show bindL kindOf ((p,w)::P.zip vs) m x=_;unfold bindL;exact yu8 (i:=i) (Bi0.mp nd).2 (by simpa using h1) (by simpa using h2) hk
theorem yv0{kindOf:Str->Option NameKind}{x:Str}{v:Value}:∀{P:List Str} {vs:List Value} {i:Nat} {m:Str->Option Value},P.Nodup->P[i]?=some x->vs[i]?=some v->kindOf x≠some .local->
 bindC kindOf (P.zip vs) m x=some v
 | [],_,_,_,_,h,_,_=>by simp at h
 | _::_,[],_,_,_,_,h,_=>by simp at h
 | p::P,w::vs,0,m,nd,h1,h2,hk=>by
   simp at h1 h2;subst h1;subst h2;show bindC kindOf ((p,w)::P.zip vs) m p=_;unfold bindC;rw[yu9 λv hv=>(Bi0.mp nd).1 (List.of_mem_zip hv).1,if_neg hk];simp
 | p::P,w::vs,i+1,m,nd,h1,h2,hk=>by
   show bindC kindOf ((p,w)::P.zip vs) m x=_;unfold bindC;exact yv0 (i:=i) (Bi0.mp nd).2 (by simpa using h1) (by simpa using h2) hk
def start(N:List Str)(vs:List V):St:=vs.map some++List.replicate (N.length-vs.length) none
def ws3(CX:CXT)(P:Program)(w:World)(K:PySem.W.Frag)(mg:Str->Option Value)(base:Heap)(N:List Str)(qual:Str)(scope:Scope)(f:Addr)(cd:Value)(A:Around)(outer:List Env)(s:Shared)(H:Hp)(E:XK):Cx where
 prog:=P
 w:=w
 K:=K
 mg:=mg
 base:=base
 A:=A.deeper (envOfC qual scope s.heap.objs.size f cd)
 N:=N
 s₀:=s
 H₀:=H
 env:=envOfC qual scope s.heap.objs.size f cd
 outer:=outer
 stack:=envOfC qual scope s.heap.objs.size f cd::outer
 ex:=[]
 calm:=true
 fn:=λ_=>true
 pn:=[]
 xe:=λe s'=>wpAny (model P w) (A.deeper (envOfC qual scope s.heap.objs.size f cd)) (leaving (envOfC qual scope s.heap.objs.size f cd) e) (λ_ s''=>CX outer H s E e s'') (λe' s''=>CX outer H s E e' s'') s'
def xd1{sc:Scope}{n:Nat}{x:Str}(h:sc.names.lookup x=some .cell):∃c,(cellsFrom n sc.names []).lookup x=some c:=by
 have q:=PySem.W.cellsFrom_some sc.names n [] (.inl h);exact Option.isSome_iff_exists.mp q
def xo3{CX:CXT}{P:Program}{w:World}{K:PySem.W.Frag}{mg:Str->Option Value}{base:Heap}{N ps:List Str}{qual:Str}{scope:Scope}{f:Addr}{cd:Value}{A:Around}{outer:List Env}{s s1:Shared}{H:Hp}{E:XK}{us:List Value}{vs:List V}(S:zd1 N ps scope)(hd:A.handled=none)(e0:vl2 P w K mg base A outer s H)(hl:vs.length=ps.length)(r:wq4 vs us)(x:InCallC s s.heap.objs.size (bindL (envOfC qual scope s.heap.objs.size f cd).kindOf (ps.zip us) λ_=>none) (cellsFrom (s.heap.objs.size+1) scope.names []) (bindC (envOfC qual scope s.heap.objs.size f cd).kindOf (ps.zip us) λ_=>none) s1) :
 Inv (ws3 CX P w K mg base N qual scope f cd A outer s H E) [] (start N vs) H s1:=by
 have hpl:ps.length<=N.length:=by have:=congrArg List.length S.pre;rw[Aw0] at this;omega
 obtain⟨h1,tk,rfl,hk⟩:=x.done;have noA:∀b:Addr,b∉(ws3 CX P w K mg base N qual scope f cd A outer s H E).ex:=λb z=>absurd (show b∈([]:List Addr) from z) (by simp)
 refine⟨⟨e0.mod,S.kind,rfl,rfl,Ag0 _,λy z c h1 h2=>?_,λy hy=>?_,λy c _ h=>?_,λ_=>hd,Around.frames_deeper e0.frames,.inr ⟨rfl,rfl⟩,λb z=>absurd z (noA b),e0.bs,e0.bsz,λb _ _=>noA b,λb z=>absurd z (noA b),e0.funs,e0.frf⟩,rfl,e0.bare,Un.kept hk,⟨_,x.toInCall.ns,λi y v h1 h2 h3=>?_⟩,λy c h=>⟨_,x.cell y c h⟩,e0.hok.fresh (Ag0 _),λy c h=>?_,λp hp=>absurd (show p∈([]:List (Addr×Obj)) from hp) (by simp),e0.hok.kept hk,?_⟩
 ·exact name_of_addr x.apart (PySem.mem_of_lookup h1) (PySem.mem_of_lookup h2)
 ·have hy:scope.names.lookup y=some .cell\/scope.names.lookup y=some .free:=hy
  rcases hy with hy | hy
  ·exact xd1 hy
  ·exact absurd rfl (S.nofree _ (PySem.mem_of_lookup hy))
 ·exact Ca0 (x.above y c (PySem.mem_of_lookup h))
 ·have hi:i<vs.length:=by
   unfold start at h2;by_cases hi:i<vs.length
   ·exact hi
   ·rw[List.getElem?_append_right (by simpa using hi)] at h2
    rw[List.getElem?_replicate] at h2;split at h2<;>cases h2
  have ha:vs[i]?=some v:=by
   unfold start at h2;rw[List.getElem?_append_left (by simpa using hi),Ai0] at h2;cases e:vs[i]? with
   | none=>rw[e] at h2;cases h2
   | some a=>rw[e] at h2;cases h2;rfl
  obtain⟨u,hu,rv⟩:=r.get ha;have hp:ps[i]?=some y:=by
   rw[<-S.pre,List.getElem?_take_of_lt (by omega)];exact h1
  have ndP:ps.Nodup:=by rw[<-S.pre];exact S.nd.sublist (List.take_sublist _ _)
  refine⟨u,rv,?_⟩;rcases S.par y (Ar0 hp) with k | k
  ·exact .inl ⟨k,yu8 ndP hp hu k⟩
  ·obtain⟨c,e⟩:=xd1 (n:=s.heap.objs.size+1) k
   refine .inr ⟨.inl k,c,e,?_⟩;have q:=x.cell y c e;rw[yv0 ndP hp hu (by show scope.names.lookup y≠_;rw[k];decide)] at q;exact q
 ·exact e0.hok.fresh (Ca0 (x.above y c (PySem.mem_of_lookup h)))
 ·unfold start
  show _=N.length;rw[Ak0,Aa0,List.length_replicate];omega
open H in
theorem vp1{CX:CXT}{P:Program}{w:World}{K:PySem.W.Frag}{mg:Str->Option Value}{base:Heap}{k:Nat}{f:Addr}{name qual:Str}{params:Arguments}{body:List Stmt}{scope:Scope}{dV kV doc pm cdv ct oc:Value}{an od:Option Addr}{osl:Array (Option Value)}{N ps:List Str}{sp:Sp}(lk:K.lookup f=some ⟨oc,od,.func (fnOf name qual params body scope dV kV doc pm an cdv ct),osl⟩)(hcd:codeIn K cdv qual=true)(S:zd1 N ps scope)(len:∀vs H Q E,sp vs H Q E->vs.length=ps.length)(hbody:∀(A:Around) (outer:List Env) (s:Shared) (H:Hp) (vs:List V) (Q:VK) (E:XK),wr2 k (A.deeper (envOfC qual scope s.heap.objs.size f cdv))->sp vs H Q E->
  ∃t,PSs (ws3 CX P w K mg base N qual scope f cdv A outer s H E) body t/\t { nx:=λ_ H'=>Q .non H',rt:=Q } (start N vs) H) :
 ww5 P w K mg base CX (k+1) f (fnOf name qual params body scope dV kV doc pm an cdv ct) ps sp:=by
 refine⟨len,λA outer s H args us vs Q E hr e0 hb r hsp=>?_⟩;have hl:=len _ _ _ _ hsp;have KX:K.In s.heap:=e0.mod.kin.keeps λb o e=>(e0.bs b o e).1
 have lim:s.heap.NoLimit:=e0.mod.nolimit.keeps λb o e=>(e0.bs b o e).1
 have hkind:∀y∈ps.zip us,scope.names.lookup y.1=some .local\/(scope.names.lookup y.1=some .cell/\((cellsFrom (s.heap.objs.size+1) scope.names []).lookup y.1).isSome=true):=λhI2 hy=>by
  obtain⟨n,v⟩:=hI2;rcases S.par n (List.of_mem_zip hy).1 with q | q
  ·exact .inl q
  ·exact .inr ⟨q,PySem.W.cellsFrom_some _ _ _ (.inl q)⟩
 refine codeAny_call_function hr.depth (KX _ _ lk) rfl S.co S.gen rfl (PySem.W.codeRec_of KX hcd) (hb _ _ _ _ ?_);refine wpAny_newFunctionEnv_cells S.kind hkind λenv he s1 x=>?_
 subst he;refine⟨lim.keeps x.toInCall.keep,codeAny_func ?_⟩;obtain⟨t,ht,hq⟩:=hbody A outer s H vs Q E (hr.deeper _) hsp;have I:Inv (ws3 CX P w K mg base N qual scope f cdv A outer s H E) [] (start N vs) H s1:=xo3 S hr.hd e0 hl r x;refine Ag1 (ht [] s1 (start N vs) H _ I hq) (λfl s' hs=>?_) λe s' hs=>hs
 have fin:∀{σ':St} {H':Hp} {v:V} {u:Value},Inv (ws3 CX P w K mg base N qual scope f cdv A outer s H E) [] σ' H' s'->wq2 v u->Q v H'->CE outer P w H s Q u s':=
  λ{σ' H' v u} J rv q=>⟨v,H',J.os,J.bare,J.base,J.hok,rv,q⟩
 cases fl with
 | ret u=>
   obtain⟨v,σ',H',J,rv,q⟩:=hs;exact fin J rv q
 | next=>
   obtain⟨σ',H',J,q⟩:=hs;exact fin (v:=V.non) (u:=Value.none) J rfl q
 | brk=>
   obtain⟨_,_,_,q⟩:=hs;exact False.elim q
 | cont=>
   obtain⟨_,_,_,q⟩:=hs;exact False.elim q
section
variable{X:Cx}{x:Str}{p pos:Pos}{e:Expr}{es:List Expr}{t:TA}{id T:String}{r:List V->Hp->VK->Prop}
def tCB(r:List V->Hp->VK->Prop)(t:TA):TE:=λσ H Q=>t σ H λvs H1=>r vs H1 Q
def yd5(hc:ws7 X (.builtin id) r)(hg:Gl X x)(hm:X.mg x=none)(hv:bootBuiltins x=some (.builtin id))(ha:PA X (e::es) t)(hn:x≠"__name__":=by decide)(hdb:(x == ("__debug__" : Str))=false:=by decide)(he:starEach (e::es) X.env=(false,eval e X.env)::starEach es X.env:=by rfl)(hpl:(backTo pos (starEach es X.env)).any (·.1)=false:=by rfl):PE X (.Call (.Name x p) (e::es) [] pos) (tCB r t):=by
 intro A3 s σ H Q I h;refine wpAny_Call_Name_kw (yk5 I hg hm hv ?_ hn hdb);exact PyProof.Rows.callWith_builtin1 (thn (ha pos A3 s σ H _ I h) λus s1 ⟨vs,H1,I1,r1,q1⟩=>hc A3 s1 σ H1 vs us Q I1 r1 q1) he hpl
def yr2(hc:ws7 X (.type T) r)(hg:Gl X x)(hm:X.mg x=none)(hv:bootBuiltins x=some (.type T))(ha:PA X (e::es) t)(hn:x≠"__name__":=by decide)(hdb:(x == ("__debug__" : Str))=false:=by decide)(he:starEach (e::es) X.env=(false,eval e X.env)::starEach es X.env:=by rfl)(hpl:(backTo pos (starEach es X.env)).any (·.1)=false:=by rfl):PE X (.Call (.Name x p) (e::es) [] pos) (tCB r t):=by
 intro A3 s σ H Q I h;refine wpAny_Call_Name_kw (yk5 I hg hm hv ?_ hn hdb);exact PyProof.Rows.callWith_type1 (thn (ha pos A3 s σ H _ I h) λus s1 ⟨vs,H1,I1,r1,q1⟩=>hc A3 s1 σ H1 vs us Q I1 r1 q1) he hpl
end
end L2
namespace HT
open PySem PyProof.Rows
def wt0:List Int->List Int->Bool
 | [],[]=>false
 | [],_::_=>true
 | _::_,[]=>false
 | x::xs,y::ys=>if x=y then wt0 xs ys else decide (x<y)
def xg0(x y:Int)(xs ys:List Int):wt0 (x::xs) (y::ys)=if x=y then wt0 xs ys else decide (x<y):=rfl
def yn7:wt0 [] []=false:=rfl
def yj0(y:Int)(ys:List Int):wt0 [] (y::ys)=true:=rfl
def yj1(x:Int)(xs:List Int):wt0 (x::xs) []=false:=rfl
def xx7(A:Around)(s:Shared)(a:Int)(t:Tok)(c:Int)(u:Tok):∃e,SeqAt.EqAt A s (.int a t) (.int c u) e/\(e=true↔a=c):=
 ⟨(a == c),SeqAt.EqAt.int_int a t c u,by simp⟩
def xu5(A:Around)(s:Shared)(a:Int)(t:Tok)(c:Int)(u:Tok)(prog:Program)(w:World)(E:Value->Shared->Prop)(Q:Value->Shared->Prop)(h:Q (.bool (decide (a<c))) s) :
 wpAny (model prog w) A (richCompare .Lt (.int a t) (.int c u)) Q E s:=
 (PyProof.Rows.lt_int h:wpAny (model prog w) A (compareOp .Lt (.int a t) (.int c u)) Q E s)
section
open PySem.SeqAt
open PySem.AutoSeq1 (wpAny_loadPart')
open PySem.MeetsSeq PySem.MeetsSeq2 PySem.MeetsSeq3
def ym3(l b:Addr)(items items2:Array Value)(n n2:Nat)(dd dd2:Option Addr)(sl sl2:Array (Option Value))(ns ms:List Int)(hi:IntsAre items.toList ns)(hj:IntsAre items2.toList ms) :
 Meets (Builtin.«tuple.__lt__» ⟨[.ref l,.ref b],[]⟩)
  (λ_ R s=>s.heap.get? l=some { cls:=.type "tuple",dict:=dd,data:=.seq items n,slots:=sl }/\s.heap.get? b=some { cls:=.type "tuple",dict:=dd2,data:=.seq items2 n2,slots:=sl2 }/\
   R (.ok (.ret (.bool (wt0 ns ms)))) s):=
 .of_wp λprog w A R s h=>by
  obtain⟨hp,g,d,tk,os⟩:=s;obtain⟨hl,hb,h⟩:=h;have f2:=AutoSeq1.sub_tuple_tuple;have z1:items.size=ns.length:=by rw[<-hi.length];simp
  have z2:items2.size=ms.length:=by rw[<-hj.length];simp
  wp_walk using wpAny_loadPart' hl,wpAny_loadPart' hb,wpAny_forIn_list _ (λrest b s'=>b.1=none/\s'=⟨hp,g,d,tk,os⟩/\∃(vs ws:List Value) (ns' ms':List Int),rest=vs.zip ws/\
   IntsAre vs ns'/\IntsAre ws ms'/\ns'.length+items2.size=ms'.length+items.size/\R (.ok (.ret (.bool (wt0 ns' ms')))) ⟨hp,g,d,tk,os⟩) _
  case turn=>
   rintro ⟨y,x⟩ rest b s' ⟨hb',rfl,vs,ws,ns',ms',hz,hvi,hwi,hlen,hR⟩;cases hvi with
   | nil=>rw[List.zip_nil_left] at hz;cases hz
   | cons a t hvi'=>
     cases hwi with
     | nil=>rw[List.zip_nil_right] at hz;cases hz
     | cons c u hwi'=>
       rw[List.zip_cons_cons] at hz;injection hz with hyx hrest
       injection hyx with hy hx
       subst hy hx;rw[xg0] at hR;simp only[Ax0] at hlen;obtain⟨e,he,hiff⟩:=xx7 A.in1 ⟨hp,g,d,tk,os⟩ a t c u;refine Aa1 (he prog w _ _ ?_);cases e with
       | true=>
         rw[if_pos (hiff.mp rfl)] at hR
         wp_walk
         exact⟨rfl,rfl,_,_,_,_,hrest,hvi',hwi',by omega,hR⟩
       | false=>
         rw[if_neg (λq=>absurd (hiff.mpr q) Au0)] at hR;have hri:=xu5 A.in1 ⟨hp,g,d,tk,os⟩ a t c u prog w
         wp_walk using hri
         exact⟨_,rfl,by simpa using hR⟩
  case fin=>
   rintro ⟨b1,b2⟩ s' ⟨hb',rfl,vs,ws,ns',ms',hz,hvi,hwi,hlen,hR⟩;simp only at hb';subst hb';have hv:wt0 ns' ms'=decide (items.size<items2.size):=by
    cases hvi with
    | nil=>
      cases hwi with
      | nil=>
        simp only[Cg0] at hlen;rw[yn7];exact(Al1 (by omega)).symm
      | cons c u hw=>
        simp only[Cg0,Ax0] at hlen;rw[yj0];exact(Am1 (by omega)).symm
    | cons a t hv=>
      cases hwi with
      | nil=>
        simp only[Cg0,Ax0] at hlen;rw[yj1];exact(Al1 (by omega)).symm
      | cons c u hw=>
        rw[List.zip_cons_cons] at hz;cases hz
   rw[hv] at hR
   wp_walk
   exact⟨_,rfl,by simpa [Builtin.Tuple.tupleCompareSizes] using hR⟩
  case h=>
   exact⟨rfl,rfl,items.toList,items2.toList,ns,ms,rfl,hi,hj,by omega,h⟩
end
section
variable{prog:Program}{w:World}{A:Around}{E:Value->Shared->Prop}{s:Shared}
def xf9{ns ms:List Int}(hl:IsTup s.heap l items)(hb:IsTup s.heap b items2)(hi:IntsAre items.toList ns)(hj:IntsAre items2.toList ms)(hu:A.units<cLine)(h:Q (.bool (wt0 ns ms)) s):wpAny (model prog w) A (compareOp .Lt (.ref l) (.ref b)) Q E s:=by
 obtain⟨⟨cls,dd,data,sl⟩,ho,hc,n,hd⟩:=id hl;obtain⟨⟨cls2,dd2,data2,sl2⟩,ho2,hc2,n2,hd2⟩:=id hb;simp only at hc hd hc2 hd2;subst hc hd hc2 hd2;exact richCompare_meets_room (op:=.Lt) ⟨_,ho,rfl⟩ ⟨_,ho2,rfl⟩ PySem.F.slot_tuple_lt PySem.F.entry_tuple_lt (PySem.F.args_tuple_lt_2 _ _) (ym3 l b items items2 n n2 dd dd2 sl sl2 ns ms hi hj)
  ⟨ho,ho2,show Value.bool (wt0 ns ms)≠Value.notImplemented/\Q (.bool (wt0 ns ms)) s from⟨(λx=>nomatch x),h⟩⟩ hu
def cat_tup(ht:IsTup s.heap t vs.toArray)(hb:IsTup s.heap b ws.toArray)(hv:vs≠[])(h1:ws=[]->Q (.ref t) s)(h2:ws≠[]->Q (.ref s.heap.objs.size) { s with heap:=s.heap.push { cls:=.type "tuple",data:=.seq (vs++ws).toArray } })(hsz:vs.length+ws.length<=sizeLine):wpAny (model prog w) A (binaryOp .Add (.ref t) (.ref b)) Q E s:=by
 obtain⟨⟨cls,dd,data,sl⟩,ho,hc,n,hd⟩:=id ht;obtain⟨⟨cls2,dd2,data2,sl2⟩,ho2,hc2,n2,hd2⟩:=id hb;simp only at hc hd hc2 hd2;subst hc hd hc2 hd2;have e:vs.toArray++ws.toArray=(vs++ws).toArray:=by simp
 by_cases hw:ws=[]
 ·exact concat_meets ⟨_,ho,rfl⟩ ⟨_,ho2,rfl⟩ noFill_tuple_add seq_tuple_add PySem.F.slot_tuple_add PySem.F.entry_tuple_add (PySem.F.args_tuple_add_2 _ _)
   (tuple_addW1 t b vs.toArray ws.toArray n n2 dd dd2 sl sl2 (by simpa using hv) (by simp[hw])) ⟨ho,ho2,h1 hw⟩
 ·refine concat_meets ⟨_,ho,rfl⟩ ⟨_,ho2,rfl⟩ noFill_tuple_add seq_tuple_add PySem.F.slot_tuple_add PySem.F.entry_tuple_add (PySem.F.args_tuple_add_2 _ _)
   (tuple_addW2 t b vs.toArray ws.toArray n n2 dd dd2 sl sl2 (by simpa using hv) (by simpa using hw) (by rw[Af0,Af0];exact hsz)) ⟨ho,ho2,?_⟩
  rw[e];exact h2 hw
def sIx(n d:Nat):Option Int->Nat
 | none=>d
 | some v=>if v<0 then (v+(n:Int)).toNat else min v.toNat n
def sIx_none(n d:Nat):sIx n d none=d:=rfl
def sIx_nat(n d k:Nat):sIx n d (some (k:Int))=min k n:=by
 show (if (k:Int)<0 then ((k:Int)+(n:Int)).toNat else min (k:Int).toNat n)=min k n;rw[if_neg (by omega),Bk0]
theorem wk0(n d:Nat)(hd:d<=n)(o:Option Int):sIx n d o<=n:=by
 cases o with
 | none=>exact hd
 | some v=>
   show (if v<0 then (v+(n:Int)).toNat else min v.toNat n)<=n;by_cases hv:v<0
   ·rw[if_pos hv];omega
   ·rw[if_neg hv];exact Nat.min_le_right _ _
def xr1(v:Int)(n d:Nat):(if v<0 then max (v+(n:Int)) 0 else min v (n:Int))=((sIx n d (some v):Nat):Int):=by
 show (if v<0 then max (v+(n:Int)) 0 else min v (n:Int))=(((if v<0 then (v+(n:Int)).toNat else min v.toNat n):Nat):Int);by_cases hv:v<0
 ·simp only[if_pos hv];omega
 ·simp only[if_neg hv];omega
def xg7(lo hi:Option Int)(n:Nat):Builtin.Slice.sliceAdjust lo hi 1 (n:Int)=(((sIx n 0 lo:Nat):Int),((sIx n n hi:Nat):Int)):=by
 have h1:¬((1:Int)<0):=by omega
 unfold Builtin.Slice.sliceAdjust;simp only[h1,if_false];refine Prod.ext ?_ ?_
 ·cases lo with
  | none=>rfl
  | some v=>exact xr1 v n 0
 ·cases hi with
  | none=>rfl
  | some v=>exact xr1 v n n
def xe9(i j:Nat):Builtin.Slice.slicePlaces (i:Int) (j:Int) 1=j-i:=by
 unfold Builtin.Slice.slicePlaces;have h1:(1:Int)>0:=by omega
 simp only[h1,if_true,Int.ediv_one];split<;>omega
theorem yj5(p:IsPart v o)(h:Q o s):wpAny (model prog w) A (Builtin.Slice.slicePartIndex v) Q E s:=by
 cases p with
 | none=>exact slicePart_none h
 | int i t=>exact slicePart_int h
def yd0{sl:Addr}{vl vu:Value}{lo hi:Option Int}{n:Nat}{Q:Int×Int×Nat->Shared->Prop}(hs:s.heap.IsSliceOf sl vl vu .none)(pl:IsPart vl lo)(pu:IsPart vu hi)(h:Q (((sIx n 0 lo:Nat):Int),1,sIx n n hi-sIx n 0 lo) s):wpAny (model prog w) A (Builtin.Slice.sliceApplied (.ref sl) (pure (n:Int))) Q E s:=by
 obtain⟨os,hos,hcs,hds⟩:=id hs;unfold Builtin.Slice.sliceApplied Builtin.Slice.sliceFields;refine Aa1 (Aa1 (Ae1 hos hds (x:=vl) rfl (Aa1 (Ae1 hos hds (x:=vu) rfl (Aa1 (Ae1 hos hds (x:=.none) rfl (Ac1 ?_)))))));refine Aa1 (slicePart_none ?_);show wpAny _ _ (if ((1:Int) == 0)=true then _ else _) _ _ s;rw[if_neg (by decide)];refine Aa1 (yj5 pl (Aa1 (yj5 pu (Aa1 (Ac1 ?_)))));show wpAny _ _ (match Builtin.Slice.sliceAdjust lo hi 1 (n:Int) with | (lo,hi)=>pure (lo,(1:Int),Builtin.Slice.slicePlaces lo hi 1)) _ _ s;rw[xg7 lo hi n];show wpAny _ _ (pure (((sIx n 0 lo:Nat):Int),(1:Int),Builtin.Slice.slicePlaces ((sIx n 0 lo:Nat):Int) ((sIx n n hi:Nat):Int) 1)) _ _ s;rw[xe9];exact Ac1 h
open H in
def xv0(xs:Array Value)(i k:Nat):((List.range k).filterMap λ(m:Nat)=>xs[((i:Int)+(m:Int)*1).toNat]?).toArray=((xs.toList.drop i).take k).toArray:=by
 have e:(λ(m:Nat)=>xs[((i:Int)+(m:Int)*1).toNat]?)=λm=>xs[i+m]?:=by
  funext m;have:((i:Int)+(m:Int)*1).toNat=i+m:=by omega
  rw[this]
 rw[e];have:=pick_run xs i k;rw[List.filterMap_map] at this;have e2:((λx=>xs[x]?) ∘ λx=>i+x)=λm=>xs[i+m]?:=rfl
 rw[e2] at this;rw[this]
def getItem_tuple_cut{t sl:Addr}{items:Array Value}{vl vu:Value}{lo hi:Option Int}{Q:Value->Shared->Prop}(ht:IsTup s.heap t items)(hs:s.heap.IsSliceOf sl vl vu .none)(pl:IsPart vl lo)(pu:IsPart vu hi)(hw:¬(sIx items.size 0 lo=0/\sIx items.size items.size hi=items.size))(h:Q (.ref s.heap.objs.size) { s with heap:=s.heap.push { cls:=.type "tuple",data:=.seq ((items.toList.drop (sIx items.size 0 lo)).take (sIx items.size items.size hi-sIx items.size 0 lo)).toArray } })(hsz:items.size<=sizeLine):wpAny (model prog w) A (getItem (.ref t) (.ref sl)) Q E s:=by
 have htake:sizeOk (.seq ((items.toList.drop (sIx items.size 0 lo)).take (sIx items.size items.size hi-sIx items.size 0 lo)).toArray):=by
  show ((items.toList.drop (sIx items.size 0 lo)).take (sIx items.size items.size hi-sIx items.size 0 lo)).toArray.size<=sizeLine;rw[Af0,Aw0,List.length_drop,Bp0];omega
 have hj:sIx items.size items.size hi<=items.size:=wk0 _ _ (Ag0 _) hi;obtain⟨os,hos,hcs,hds⟩:=id hs;have hTs:s.TypeIs (.ref sl) "slice":=⟨os,hos,hcs⟩;unfold getItem;try with_reducible refine wpAny_holding ?_
 first | refine Aa1 (Ac1 ?_) | skip
 refine Aa1 (wpAny_sequenceKey ht.typeIs (by decide) ?_);refine Aa1 (wpAny_callSpecial?_slot (name:=Str.ofString "__getitem__") ht.typeIs PyProof.Rows.slot_tuple_getitem (Aj1 PyProof.Rows.slot_tuple_getitem ht.typeIs entry_tuple_getitem ?_ (args_tuple_getitem _ _)));show wpAny _ _ (Builtin.Tuple.tupleItemsOf (.ref t) >>= _) _ _ s;refine Aa1 (tupleItemsOf_ ht ?_);refine Aa1 (wpAny_typeOf hTs ?_);rw[if_pos (by decide)];refine Aa1 (yd0 hs pl pu ?_);have hno:¬((((sIx items.size 0 lo:Nat):Int) == 0&&(1:Int) == 1&&(sIx items.size items.size hi-sIx items.size 0 lo) == items.size)=true):=by
  intro q;rw[Bool.and_eq_true,Bool.and_eq_true] at q;have q1:((sIx items.size 0 lo:Nat):Int)=0:=eq_of_beq q.1.1;have q2:sIx items.size items.size hi-sIx items.size 0 lo=items.size:=eq_of_beq q.2;exact hw ⟨by omega,by omega⟩
 show wpAny _ _ (if (((sIx items.size 0 lo:Nat):Int) == 0&&(1:Int) == 1&&(sIx items.size items.size hi-sIx items.size 0 lo) == items.size)=true then _ else _) _ _ s;rw[if_neg hno,xv0];first
  | exact Aa1 (m:=Builtin.Tuple.tupleExact _) (wpAny_newObj_type (Ac1 ⟨_,rfl,Ac1 h⟩) htake)
  | exact Aa1 (m:=Builtin.Tuple.tupleExact _) (wpAny_newObj_type (Aa1 (Ac1 (Ac1 ⟨_,rfl,Ac1 h⟩))) htake)
  | exact Aa1 (Aa1 (m:=Builtin.Tuple.tupleExact _) (wpAny_newObj_type (Ac1 (Ac1 ⟨_,rfl,Ac1 h⟩)) htake))
  | exact Aa1 (Aa1 (m:=Builtin.Tuple.tupleExact _) (wpAny_newObj_type (Ac1 ⟨_,rfl,Ac1 h⟩) htake))
end
end HT
namespace L2
abbrev TO:=St->Hp->(Option Int->Hp->Prop)->Prop
def PO(X:Cx)(e:Option Expr)(t:TO):Prop:=
 ∀(A3:List (Addr×Obj)) (s:Shared) (σ:St) (H:Hp) (Q:Option Int->Hp->Prop),Inv X A3 σ H s->t σ H Q->
  wpAny (model X.prog X.w) X.A (evalPart e X.env) (λu s'=>∃o H',Inv X A3 σ H' s'/\IsPart u o/\Q o H') X.xe s
def wd7:TO:=λ_ H Q=>Q none H
def vl6(t:TE):TO:=λσ H Q=>t σ H λx H1=>∃i,x=.int i/\Q (some i) H1
theorem xg4{ns:List Int}:∀{us:List Value},wq4 (ns.map V.int) us->IntsAre us ns:=by
 induction ns with
 | nil=>intro us r;rw[List.map_nil] at r;cases r;exact .nil
 | cons n ns ih=>
   intro us r;rw[Aq0] at r;cases r with
   | cons r1 r2=>
     obtain⟨t,e⟩:=r1;subst e;exact .cons n t (ih r2)
section
variable{X:Cx}{e:Expr}{te:TE}{lo hi:Option Expr}{tl th:TO}{pos p2:Pos}
def xk3:PO X none wd7:=by
 intro A3 s σ H Q I h;rw[evalPart_none];exact Ac1 ⟨none,H,I,.none,h⟩
def xk2(h:PE X e te):PO X (some e) (vl6 te):=by
 intro A3 s σ H Q I hw;rw[evalPart_some];refine thn (h A3 s σ H _ I hw) λu s1 hI88=>?_
 obtain⟨x,H1,I1,r1,q1⟩:=hI88;obtain⟨i,rfl,q⟩:=q1;obtain⟨t,rfl⟩:=r1;exact⟨some i,H1,I1,.int i t,q⟩
def SlR(X:Cx)(r:V->Option Int->Option Int->Hp->VK->Prop):Prop:=
 ∀(A3:List (Addr×Obj)) (s:Shared) (σ:St) (H:Hp) (x:V) (v vl vu:Value) (lo hi:Option Int) (sl:Addr) (Q:VK),Inv X A3 σ H s->wq2 x v->s.heap.IsSliceOf sl vl vu .none->IsPart vl lo->IsPart vu hi->r x lo hi H Q->
  ∃T id,typeLookup (.type T) "__getitem__" = pure (some (.builtin id))/\s.TypeIs v T/\wpAny (model X.prog X.w) X.A (getItem v (.ref sl)) (EP X A3 σ Q) X.xe s
def SlR.or(h:SlR X r)(h':SlR X r'):SlR X (λx lo hi H Q=>r x lo hi H Q\/r' x lo hi H Q):=by
 intro A3 s σ H x v vl vu lo hi sl Q I rx hs pl pu q;rcases q with q | q
 ·exact h A3 s σ H x v vl vu lo hi sl Q I rx hs pl pu q
 ·exact h' A3 s σ H x v vl vu lo hi sl Q I rx hs pl pu q
def tSl(r:V->Option Int->Option Int->Hp->VK->Prop)(te:TE)(tl th:TO):TE:=λσ H Q=>te σ H λx H1=>tl σ H1 λl H2=>th σ H2 λu H3=>r x l u H3 Q
def yz7(hr:SlR X r)(he:PE X e te)(hl:PO X lo tl)(hu:PO X hi th):PE X (.Subscript e (.Slice lo hi none p2) pos) (tSl r te tl th):=by
 intro A3 s σ H Q I h;refine Subscript_ (thn (he A3 s σ H _ I h) λv s1 hI89=>?_);obtain⟨x,H1,I1,r1,q1⟩:=hI89;refine wpAny_Slice (thn (hl A3 s1 σ H1 _ I1 q1) λvl s2 ⟨l,H2,I2,pl,q2⟩=>thn (hu A3 s2 σ H2 _ I2 q2) λvu s3 hI90=>?_);obtain⟨u,H3,I3,pu,q3⟩:=hI90;rw[evalPart_none];refine Ac1 ?_;have I4:Inv X A3 σ H3 { s3 with heap:=s3.heap.push { cls:=.type "slice",data:=.fields #[vl,vu,.none] } }:=I3.kept (t':=s3.toks) λb ob q=>Ab0 _ q
 obtain⟨T,id,hT,ht,hg⟩:=hr A3 { s3 with heap:=s3.heap.push { cls:=.type "slice",data:=.fields #[vl,vu,.none] } } σ H3 x v vl vu l u s3.heap.objs.size Q I4 r1 (Heap.IsSliceOf.new ..) pl pu q3;show wpAny (model X.prog X.w) X.A (subscriptTail e (.Slice lo hi none p2) v (.ref s3.heap.objs.size)) (EP X A3 σ Q) X.xe { s3 with heap:=s3.heap.push { cls:=.type "slice",data:=.fields #[vl,vu,.none] } };exact tail_any (ops:=[.ref s3.heap.objs.size,v]) ht hT hg (by with_unfolding_all rfl)
def vb6(xs:List V)(lo hi:Option Int):List V:=(xs.drop (HT.sIx xs.length 0 lo)).take (HT.sIx xs.length xs.length hi-HT.sIx xs.length 0 lo)
def yi3(xs:List V)(lo hi:Option Int):(vb6 xs lo hi).length<=xs.length:=by
 unfold vb6;rw[Aw0,List.length_drop];omega
def vv4(K:PySem.W.Frag):V->Option Int->Option Int->Hp->VK->Prop:=λx lo hi H Q=>∃a xs,x=.ref a/\SqT K H a xs/\
 ¬(HT.sIx xs.length 0 lo=0/\HT.sIx xs.length xs.length hi=xs.length)/\∀p,H p=none->Q (.ref p) (upd H p (.tup (vb6 xs lo hi)))
def wj9:SlR X (vv4 X.K):=by
 intro A3 s σ H x v vl vu lo hi sl Q I rx hs pl pu h;obtain⟨a,xs,rfl,hx,hw,q⟩:=h;cases rx;obtain⟨its,r,ht,hz⟩:=I.tuple hx;have hlen:its.toArray.size=xs.length:=by rw[Af0];exact r.length.symm
 refine⟨"tuple",_,PyProof.Rows.slot_tuple_getitem.lookup,ht.typeIs,?_⟩;refine HT.getItem_tuple_cut ht hs pl pu (by rw[hlen];exact hw) ?_ (by rw[hlen];exact hz);rw[hlen];refine⟨.ref s.heap.objs.size,_,I.laid (t':=s.toks) (o:=.tup (vb6 xs lo hi)) (λb ob q=>Ab0 _ q) (Ag0 _) ?_,rfl,q _ (I.hok.fresh (Ag0 _))⟩;exact⟨Ap0 (yi3 xs lo hi) hz,_,(r.drop (HT.sIx xs.length 0 lo)).take (HT.sIx xs.length xs.length hi-HT.sIx xs.length 0 lo),IsTup.new _ _,⟨_,Ad0 _ rfl,rfl⟩⟩
def vc5(K:PySem.W.Frag):R2:=λx y H Q=>∃a b xs ys,x=.ref a/\y=.ref b/\SqT K H a xs/\SqT K H b ys/\xs≠[]/\xs.length+ys.length<=sizeLine/\
 (ys=[]->Q (.ref a) H)/\(ys≠[]->∀p,H p=none->Q (.ref p) (upd H p (.tup (xs++ys))))
theorem wq4.nil_iff(r:wq4 xs us):us=[]↔xs=[]:=by
 cases r with
 | nil=>simp
 | cons _ _=>simp
def wf2:OpR X (binaryOp .Add) (vc5 X.K):=by
 intro A3 s σ H x y v u Q I rx ry h;obtain⟨a,b,xs,ys,rfl,rfl,ha,hb,hx,hz,q1,q2⟩:=h;cases rx;cases ry;obtain⟨its,r1,p1,_⟩:=I.tuple ha;obtain⟨its2,r2,p2,_⟩:=I.tuple hb;refine HT.cat_tup p1 p2 (λz=>hx (r1.nil_iff.mp z)) (λz=>⟨.ref a,H,I,rfl,q1 (r2.nil_iff.mp z)⟩) (λz=>?_) (by rw[<-r1.length,<-r2.length];exact hz);refine⟨.ref s.heap.objs.size,_,I.laid (t':=s.toks) (o:=.tup (xs++ys)) (λb ob q=>Ab0 _ q) (Ag0 _) ?_,rfl,q2 (λw=>z (r2.nil_iff.mpr w)) _ (I.hok.fresh (Ag0 _))⟩;exact⟨by rw[Ak0];exact hz,_,r1.append r2,IsTup.new _ _,⟨_,Ad0 _ rfl,rfl⟩⟩
end
def ixN(n:Nat)(i:Int):Option Nat:=if 0<=i then (if i<n then some i.toNat else none) else if -(n:Int)<=i then some (i+n).toNat else none
def atI{α:Type}(xs:List α)(i:Int):Option α:=(ixN xs.length i).bind λj=>xs[j]?
def xo1{n:Nat}{i:Int}{j:Nat}(h:ixN n i=some j):seqIndex? i n=some j/\j<n/\-(n:Int)<=i/\i<n:=by
 unfold ixN at h;by_cases h0:0<=i
 ·rw[if_pos h0] at h
  by_cases h1:i<n
  ·rw[if_pos h1] at h
   have e:i.toNat=j:=Option.some.inj h;exact⟨by rw[seqIndex_of h0 h1,e],by omega,by omega,h1⟩
  ·rw[if_neg h1] at h;cases h
 ·rw[if_neg h0] at h
  by_cases h1:-(n:Int)<=i
  ·rw[if_pos h1] at h
   have e:(i+n).toNat=j:=Option.some.inj h;exact⟨by rw[seqIndex_neg (by omega) h1,e],by omega,h1,by omega⟩
  ·rw[if_neg h1] at h;cases h
theorem yy4{α:Type}{xs:List α}{i:Int}{v:α}(h:atI xs i=some v):∃j,seqIndex? i xs.length=some j/\xs[j]?=some v/\j<xs.length/\-(xs.length:Int)<=i/\i<xs.length:=by
 unfold atI at h;cases e:ixN xs.length i with
 | none=>rw[e] at h;cases h
 | some j=>
   rw[e] at h;obtain⟨h1,h2,h3,h4⟩:=xo1 e;exact⟨j,h1,h,h2,h3,h4⟩
def yy3{α:Type}{xs:List α}{j:Nat}{v:α}(h:xs[j]?=some v):atI xs (j:Int)=some v:=by
 have hj:j<xs.length:=(Ae0.mp h).1;have e:ixN xs.length (j:Int)=some j:=by
  unfold ixN;rw[if_pos (by omega),if_pos (by omega)];simp
 unfold atI;rw[e];exact h
def yi6(b:Expr):Prop:=∀o i,subscripted b false o i=operate [o,i] (getItem o i)
def IxR(X:Cx)(r:R2):Prop:=
 ∀(value slice:Expr) (A3:List (Addr×Obj)) (s:Shared) (σ:St) (H:Hp) (x y:V) (v u:Value) (Q:VK),Inv X A3 σ H s->wq2 x v->wq2 y u->r x y H Q->
  subscripted slice false v u=operate [v,u] (getItem v u)->wpAny (model X.prog X.w) X.A (subscriptTail value slice v u) (EP X A3 σ Q) X.xe s
def MtR(X:Cx)(id:String)(r:V->List V->Hp->VK->Prop):Prop:=
 ∀(A3:List (Addr×Obj)) (s:Shared) (σ:St) (H:Hp) (x:V) (xs:List V) (v:Value) (us:List Value) (Q:VK),Inv X A3 σ H s->wq2 x v->wq4 xs us->r x xs H Q->
  wpAny (model X.prog X.w) X.A (call (.builtin id) (v::us)) (EP X A3 σ Q) X.xe s
section
variable{X:Cx}{a b:Expr}{ta tb:TE}{pos:Pos}
def IxR.or(h:IxR X r)(h':IxR X r'):IxR X (λx y H Q=>r x y H Q\/r' x y H Q):=by
 intro value slice A3 s σ H x y v u Q I rx ry q hs;rcases q with q | q
 ·exact h value slice A3 s σ H x y v u Q I rx ry q hs
 ·exact h' value slice A3 s σ H x y v u Q I rx ry q hs
def vf3(hr:IxR X r)(ha:PE X a ta)(hb:PE X b tb)(hs:yi6 b):PE X (.Subscript a b pos) (tOp r ta tb):=by
 intro A3 s σ H Q I h;exact Subscript_ (vq7 ha hb I h λv u s2 x y H2 I2 rx ry q=>hr a b A3 s2 σ H2 x y v u Q I2 rx ry q (hs _ _))
def vr9(K:PySem.W.Frag):R2:=λx y H Q=>∃p xs i v,x=.ref p/\y=.int i/\SqL K H p xs/\atI xs i=some v/\Q v H
def vr7(K:PySem.W.Frag):R2:=λx y H Q=>∃p xs i v,x=.ref p/\y=.int i/\SqT K H p xs/\atI xs i=some v/\Q v H
def vr8:R2:=λx y H Q=>∃z i c,x=.str z/\y=.int i/\z.length<=sizeLine/\atI z.cps.toList i=some c/\Q (.str ⟨#[c]⟩) H
def xo0:IxR X (vr9 X.K):=by
 intro value slice A3 s σ H x y v u Q I rx ry h hs;obtain⟨p,xs,i,z,rfl,rfl,hq,he,q⟩:=h;cases rx;obtain⟨t,rfl⟩:=ry;obtain⟨its,r,pl,hz⟩:=I.list hq;obtain⟨j,h1,h2,h3,h4,h5⟩:=yy4 he;obtain⟨w,ew,rw'⟩:=r.get h2;have hl:=r.length;have hn:=ys1;have fin:EP X A3 σ Q w s:=⟨z,H,I,rw',q⟩;by_cases h0:0<=i
 ·have hj:i.toNat=j:=by
   rw[seqIndex_of h0 h5] at h1;exact Option.some.inj h1
  exact item_listR pl.isList h0 (by omega) (by rw[hj];simpa using ew) fin hs
 ·have hj:(i+(its.toArray.size:Int)).toNat=j:=by
   rw[seqIndex_neg (by omega) h4] at h1;rw[Af0,<-hl];exact Option.some.inj h1
  exact subscriptTail_builtinR (x:=w) pl.isList.typeIs slot_list_getitem.lookup
   (wpAny_getItem_list_neg (Q:=λr s'=>r=w/\EP X A3 σ Q r s') pl.isList (by omega) (by rw[Af0]<;>omega) (by omega) (by rw[hj];simpa using ew) ⟨rfl,fin⟩) hs
def wa4:IxR X (vr7 X.K):=by
 intro value slice A3 s σ H x y v u Q I rx ry h hs;obtain⟨p,xs,i,z,rfl,rfl,hq,he,q⟩:=h;cases rx;obtain⟨t,rfl⟩:=ry;obtain⟨its,r,pl,hz⟩:=I.tuple hq;obtain⟨j,h1,h2,h3,h4,h5⟩:=yy4 he;obtain⟨w,ew,rw'⟩:=r.get h2;have hl:=r.length;have hn:=ys1;have fin:EP X A3 σ Q w s:=⟨z,H,I,rw',q⟩;exact subscriptTail_builtinR (x:=w) pl.typeIs slot_tuple_getitem.lookup
  (getItem_tuple (j:=j) (Q:=λr s'=>r=w/\EP X A3 σ Q r s') pl (by omega) (by omega) (by rw[Af0,<-hl];exact h1) (by simpa using ew) ⟨rfl,fin⟩) hs
def wn3:IxR X vr8:=by
 intro value slice A3 s σ H x y v u Q I rx ry h hs;obtain⟨z,i,c,rfl,rfl,hz,he,q⟩:=h;obtain⟨t,rfl⟩:=rx;obtain⟨t',rfl⟩:=ry;obtain⟨j,h1,h2,h3,h4,h5⟩:=yy4 he;have hl:z.cps.toList.length=z.length:=by simp[Str.length]
 rw[hl] at h1 h4 h5;have hn:=ys1;exact tail_any (typeIs_str s z t) slot_str_getitem.lookup (getItem_str (c:=c) (by
  have e1:decide (i < -(2 ^ 63:Int))=false:=Al1 (by omega);have e2:decide (i>=2 ^ 63)=false:=Al1 (by omega);rw[e1,e2,Bool.or_false]) (by rw[h1];simpa using h2) ⟨.str ⟨#[c]⟩,H,I.tok _,⟨_,rfl⟩,q⟩) hs
def rIx(K:PySem.W.Frag):R2:=λx y H Q=>vr9 K x y H Q\/vr7 K x y H Q\/vr8 x y H Q
def xa7:IxR X (rIx X.K):=xo0.or (wa4.or wn3)
def xf7(its:List Value)(n j:Nat)(u:Value):Obj.mapSeq (·.setIfInBounds j u) { cls:=.type "list",data:=.seq its.toArray n }={ cls:=.type "list",data:=.seq (its.set j u).toArray n }:=by
 simp[Obj.mapSeq]
def Inv.lst{A3:List (Addr×Obj)}{σ:St}{H:Hp}{s:Shared}{p:Addr}{xs:List V}(I:Inv X A3 σ H s)(h:H p=some (.lst xs)) :
 ∃(its:List Value) (n:Nat),wq4 xs its/\s.heap.get? p=some { cls:=.type "list",data:=.seq its.toArray n }/\xs.length<=sizeLine:=by
 obtain⟨z,its,n,r,e⟩:=I.hok p _ h;exact⟨its,n,r,e,z⟩
def Inv.lstUpd{A3:List (Addr×Obj)}{σ:St}{H:Hp}{s:Shared}{p:Addr}{xs ys:List V}{its its':List Value}{n n':Nat}{f:Obj->Obj}(I:Inv X A3 σ H s)(h:H p=some (.lst xs))(ho:s.heap.get? p=some { cls:=.type "list",data:=.seq its.toArray n })(hf:f { cls:=.type "list",data:=.seq its.toArray n }={ cls:=.type "list",data:=.seq its'.toArray n' })(r:wq4 ys its')(hz:ys.length<=sizeLine)(t:Nat) :
 Inv X A3 σ (upd H p (.lst ys)) { s with heap:=s.heap.update p f,toks:=t }:=by
 have e:(s.heap.update p f).get? p=some { cls:=.type "list",data:=.seq its'.toArray n' }:=by
  rw[Cd0 f ho (by rw[hf]<;>rfl),hf]
 refine I.write (x:=p) (e:=p) (by rw[h];trivial) (.inl rfl) (λb u hb q=>(Bf0 _ _ (Ne.symm hb)).trans q) ⟨_,e⟩ ?_;exact⟨hz,its',n',r,e⟩
def ww6:V->V->V->Hp->(Hp->Prop)->Prop:=λo i v H Q=>∃p xs k j,o=.ref p/\i=.int k/\H p=some (.lst xs)/\ixN xs.length k=some j/\Q (upd H p (.lst (xs.set j v)))
def yd2:vu1 X ww6:=by
 intro A3 s σ H o i v ov iv u Q I ro ri rv h;obtain⟨p,xs,k,j,rfl,rfl,hp,hj,q⟩:=h;cases ro;obtain⟨t,rfl⟩:=ri;obtain⟨its,n,r,ho,hz⟩:=I.lst hp;obtain⟨h1,h2,h3,h4⟩:=xo1 hj;have hl:=r.length;have hn:=ys1;have I':Inv X A3 σ (upd H p (.lst (xs.set j v))) { s with heap:=s.heap.update p (Obj.mapSeq (·.setIfInBounds j u)) }:=
  I.lstUpd hp ho (xf7 its n j u) (r.set rv j) (by rw[Bc0];exact hz) s.toks
 by_cases h0:0<=k
 ·have hk:k.toNat=j:=by
   rw[seqIndex_of h0 h4] at h1;exact Option.some.inj h1
  exact PySem.W.ki_setAt ho h0 (by omega) (by rw[Af0,<-hl];exact h4) (by rw[hk];exact⟨_,I',q⟩)
 ·have hk:(k+(its.toArray.size:Int)).toNat=j:=by
   rw[seqIndex_neg (by omega) h3] at h1;rw[Af0,<-hl];exact Option.some.inj h1
  exact PySem.W.ki_setBack ho (by omega) (by rw[Af0,<-hl];exact h3) (by omega) (by rw[hk];exact⟨_,I',q⟩)
def yq1(lo hi:Option Int)(n:Nat):(sliceBounds lo hi none n).1=((HT.sIx n 0 lo:Nat):Int)/\(sliceBounds lo hi none n).2.1=((HT.sIx n n hi:Nat):Int)/\(sliceBounds lo hi none n).2.2=1:=by
 refine⟨?_,?_,rfl⟩
 ·cases lo with
  | none=>simp[sliceBounds,HT.sIx]
  | some i=>
    simp only[sliceBounds,HT.sIx,Option.getD_none,show (1:Int)>0 by decide,if_true];by_cases h:i<0
    ·simp only[h,if_true]<;>omega
    ·simp only[h,if_false]<;>omega
 ·cases hi with
  | none=>simp[sliceBounds,HT.sIx]
  | some i=>
    simp only[sliceBounds,HT.sIx,Option.getD_none,show (1:Int)>0 by decide,if_true];by_cases h:i<0
    ·simp only[h,if_true]<;>omega
    ·simp only[h,if_false]<;>omega
def ym4(its:List Value)(lo hi:Option Int):slicePick its.toArray lo hi none=((its.drop (HT.sIx its.length 0 lo)).take (HT.sIx its.length its.length hi-HT.sIx its.length 0 lo)).toArray:=by
 obtain⟨h1,h2,h3⟩:=yq1 lo hi its.toArray.size;unfold slicePick;rw[h1,h2,h3];simp only[sliceRange_one,pick_run,Af0]<;>rfl
def vv5(K:PySem.W.Frag):V->Option Int->Option Int->Hp->VK->Prop:=λx lo hi H Q=>∃a xs,x=.ref a/\SqL K H a xs/\∀p,H p=none->Q (.ref p) (upd H p (.lst (vb6 xs lo hi)))
def xi5:SlR X (vv5 X.K):=by
 intro A3 s σ H x v vl vu lo hi sl Q I rx hs pl pu h;obtain⟨a,xs,rfl,hx,q⟩:=h;cases rx;obtain⟨its,r,ht,hz⟩:=I.list hx;have hlen:=r.length;refine⟨"list",_,slot_list_getitem.lookup,ht.isList.typeIs,?_⟩;refine wpAny_getItem_list_slice ht.isList hs pl pu .none (by simp) ?_ (by rw[Af0]<;>omega);rw[ym4,<-hlen];refine⟨.ref s.heap.objs.size,_,I.laid (t':=s.toks) (o:=.lst (vb6 xs lo hi)) (λb ob q=>Ab0 _ q) (Ag0 _) ?_,rfl,q _ (I.hok.fresh (Ag0 _))⟩;exact⟨Ap0 (yi3 xs lo hi) hz,_,0,(r.drop (HT.sIx xs.length 0 lo)).take (HT.sIx xs.length xs.length hi-HT.sIx xs.length 0 lo),Ad0 _ rfl⟩
def zc1:ws7 X (.builtin "len") (λxs H Q=>∃p ys,xs=[.ref p]/\(SqL X.K H p ys\/SqT X.K H p ys)/\Q (.int ys.length) H):=by
 intro A3 s σ H xs us Q I r h;obtain⟨p,ys,rfl,hq,q⟩:=h;obtain⟨u,rfl,rx⟩:=wt7 r;cases rx;have hn:=ys1;rcases hq with hq | hq
 ·obtain⟨its,r',pl,hz⟩:=I.list hq
  have hlen:=r'.length;exact Calls.call_len_list pl.isList (by simp only[Af0]<;>omega) ⟨.int ys.length,H,I.tok _,⟨s.toks+1,by rw[Af0,hlen]⟩,q⟩
 ·obtain⟨its,r',pl,hz⟩:=I.tuple hq
  have hlen:=r'.length;exact len_tuple pl (by simp only[Af0]<;>omega) ⟨.int ys.length,H,I.tok _,⟨s.toks+1,by rw[Af0,hlen]⟩,q⟩
def zp7:ws7 X (.type "list") (λxs H Q=>∃p ys,xs=[.ref p]/\(SqL X.K H p ys\/SqT X.K H p ys)/\∀l,H l=none->Q (.ref l) (upd H l (.lst ys))):=by
 intro A3 s σ H xs us Q I r h;obtain⟨p,ys,rfl,hq,q⟩:=h;obtain⟨u,rfl,rx⟩:=wt7 r;cases rx;have fin:∀(its:List Value),wq4 ys its->ys.length<=sizeLine->∀(h':Heap) (c':Nat),(∀b o',s.heap.get? b=some o'->h'.get? b=some o')->
  h'.get? s.heap.objs.size=some { cls:=.type "list",dict:=none,data:=.seq its.toArray c',slots:=#[] }->EP X A3 σ Q (.ref s.heap.objs.size) { s with heap:=h' }:=λits r' hz h' c' kp e=>
  ⟨.ref s.heap.objs.size,_,I.laid (t':=s.toks) kp (Ag0 _) (show wq9 X.prog X.w _ h' _ (.lst ys) from⟨hz,its,c',r',e⟩),rfl,q _ (I.hok.fresh (Ag0 _))⟩
 rcases hq with hq | hq
 ·obtain⟨its,r',pl,hz⟩:=I.list hq
  have hlen:=r'.length;obtain⟨o,ho,hc,n,hd⟩:=pl.isList;exact call_list_seq p (.inl rfl) ho hc hd (λh' c' kp e=>fin its r' hz h' c' kp e) (by simp only[Af0]<;>omega)
 ·obtain⟨its,r',pl,hz⟩:=I.tuple hq
  have hlen:=r'.length;obtain⟨o,ho,hc,n,hd⟩:=pl;exact call_list_seq p (.inr rfl) ho hc hd (λh' c' kp e=>fin its r' hz h' c' kp e) (by simp only[Af0]<;>omega)
def ze6:ws7 X (.type "tuple") (λxs H Q=>∃p ys,xs=[.ref p]/\((SqL X.K H p ys/\∀l,H l=none->Q (.ref l) (upd H l (.tup ys)))\/(SqT X.K H p ys/\Q (.ref p) H))):=by
 intro A3 s σ H xs us Q I r h;obtain⟨p,ys,rfl,h⟩:=h;obtain⟨u,rfl,rx⟩:=wt7 r;cases rx;rcases h with⟨hq,q⟩ | ⟨hq,q⟩
 ·obtain⟨its,r',pl,hz⟩:=I.list hq
  have hlen:=r'.length;refine call_tuple_list pl.isList (λh' kp=>?_) (by simp only[Af0]<;>omega);have I1:Inv X A3 σ H { s with heap:=h' }:=I.kept (t':=s.toks) kp;have I2:Inv X A3 σ (upd H h'.objs.size (.tup ys)) { s with heap:=h'.push { cls:=.type "tuple",data:=.seq its.toArray } }:=
   I1.laid (t':=s.toks) (λb o e=>Ab0 _ e) (Ag0 _) (show wq9 X.prog X.w _ _ _ (.tup ys) from⟨hz,its,r',IsTup.new _ _,⟨_,Ad0 _ rfl,rfl⟩⟩)
  exact⟨.ref h'.objs.size,_,I2,rfl,q _ (I1.hok.fresh (Ag0 _))⟩
 ·obtain⟨its,r',pl,hz⟩:=I.tuple hq
  exact call_tuple_same pl ⟨.ref p,H,I,rfl,q⟩
def tyV(K:PySem.W.Frag)(T:String)(x:V)(H:Hp):Prop:=match x with
 | .str _=>T = "str"
 | .int _=>T = "int"
 | .ref p=>(T = "list"/\∃xs,SqL K H p xs)\/(T = "tuple"/\∃o,K.lookup p=some o/\o.cls=.type "tuple"/\o.dict=none)\/
  (T = "dict"/\((∃kvs,H p=some (.dK kvs))\/∃kvs,H p=some (.dT kvs)))\/(T = "set"/\∃S n,H p=some (.set S n))
 | _=>False
theorem wj5{T:String}(I:Inv X A3 σ H s)(r:wq2 x v)(ty:tyV X.K T x H) :
 s.TypeIs v T/\∀a,v=.ref a->∃ob,s.heap.get? a=some ob/\ob.dict=none:=by
 cases x with
 | str z=>
   obtain⟨t,rfl⟩:=r;cases (show T = "str" from ty);exact⟨typeIs_str s z t,λ_ e=>nomatch e⟩
 | int i=>
   obtain⟨t,rfl⟩:=r;cases (show T = "int" from ty);exact⟨typeIs_int s i t,λ_ e=>nomatch e⟩
 | ref p=>
   cases r;rcases ty with⟨rfl,xs,hq⟩ | ⟨rfl,o,hk,hc,hd⟩ | ⟨rfl,hk⟩ | ⟨rfl,S,n,hk⟩
   ·obtain⟨its,_,pl,_⟩:=I.list hq
    refine⟨pl.isList.typeIs,λa e=>?_⟩;cases e;obtain⟨o,n,e,c,hd,_⟩:=pl;exact⟨o,e,hd⟩
   ·refine⟨⟨o,I.kIn p o hk,hc⟩,λa e=>?_⟩
    cases e;exact⟨o,I.kIn _ o hk,hd⟩
   ·have z:∃o,s.heap.get? p=some o/\o.ExactDict:=by
     rcases hk with⟨kvs,hk⟩ | ⟨kvs,hk⟩
     ·obtain⟨_,_,_,_,o,_,_,e,ex,_⟩:=I.hok p _ hk
      exact⟨o,e,ex⟩
     ·obtain⟨_,_,_,_,o,_,_,e,ex,_⟩:=I.hok p _ hk
      exact⟨o,e,ex⟩
    obtain⟨o,e,ex⟩:=z;refine⟨⟨o,e,ex.1⟩,λa e2=>?_⟩;cases e2;exact⟨o,e,ex.2.1⟩
   ·obtain⟨o,_,_,_,e,ex,_⟩:=I.hok p _ hk
    refine⟨⟨o,e,ex.1⟩,λa e2=>?_⟩;cases e2;exact⟨o,e,ex.2.1⟩
 | _=>exact False.elim ty
def tBM(K:PySem.W.Frag)(T:String)(r:V->List V->Hp->VK->Prop)(to:TE)(t:TA):TE:=λσ H Q=>to σ H λx H1=>tyV K T x H1/\t σ H1 λxs H2=>r x xs H2 Q
variable{o e:Expr}{es:List Expr}{to:TE}{t:TA}{name:Str}{apos cpos:Pos}{T id:String}{r:V->List V->Hp->VK->Prop}
def wy7(pa:PlainAttrs T)(slot:Slot T name id)(hty:typeOf (.builtin id)=pure (.type "method_descriptor"))(hm:MtR X id r)(ho:PE X o to)(ha:PA X (e::es) t)(hbase:attributeBase o name X.env (eval o X.env)=eval o X.env:=by rfl)(hfew:((backTo cpos (starEach (e::es) X.env)).all (λx=>!x.1)&&(backToKw cpos (keywordEach [] X.env)).all (λx=>x.1.isSome)
  && decide ((e::es).length+([]:List Keyword).length+(if ([]:List Keyword).isEmpty then 0 else 1)<30))=true:=by rfl)(hline:(apos.endLine == cpos.line)=true:=by rfl)(hs:starEach (e::es) X.env=(false,eval e X.env)::starEach es X.env:=by rfl)(hplain:(backTo cpos (starEach es X.env)).any (·.1)=false:=by rfl) :
 PE X (.Call (.Attribute o name apos) (e::es) [] cpos) (tBM X.K T r to t):=by
 intro A3 s σ H Q I h;refine wpAny_Call_method_late hbase hfew hline rfl (thn (ho A3 s σ H _ I h) λv s1 hI91=>?_);obtain⟨x,H1,I1,r1,ty,q1⟩:=hI91;obtain⟨h1,h2⟩:=wj5 I1 r1 ty;refine⟨T,id,pa,slot,hty,h1,h2,?_⟩;have hA:=ha cpos A3 s1 σ H1 _ I1 q1;rw[hs] at hA ⊢;refine Calls.callWith_builtin (by show (false||(backTo cpos (starEach es X.env)).any (·.1))=false;rw[hplain]<;>rfl) (Calls.evalArgs_plain ?_);exact thn hA λus s2 ⟨vs,H2,I2,r2,q2⟩=>hm A3 s2 σ H2 x vs v us Q I2 r1 r2 q2
end
def MtM(X:Cx)(id:String)(r:V->List V->Hp->VK->Prop):Prop:=
 ∀(A3:List (Addr×Obj)) (s:Shared) (σ:St) (H:Hp) (x:V) (xs:List V) (v:Value) (us:List Value) (Q:VK),Inv X A3 σ H s->wq2 x v->wq4 xs us->r x xs H Q->
  wpAny (model X.prog X.w) X.A (call (.builtin id) (v::us)) (EP X A3 σ Q) X.xe s
theorem wq4.unc{x:V}{xs:List V}{us:List Value}(h:wq4 (x::xs) us):∃u r,us=u::r/\wq2 x u/\wq4 xs r:=by
 cases h with
 | cons r t=>exact⟨_,_,rfl,r,t⟩
def wq4.unn{us:List Value}(h:wq4 [] us):us=[]:=by
 cases h;rfl
def wq4.one{x:V}{us:List Value}(h:wq4 [x] us):∃u,us=[u]/\wq2 x u:=by
 obtain⟨u,r,e,a,b⟩:=h.unc;rw[b.unn] at e;exact⟨u,e,a⟩
theorem wq4.eraseIdx:∀{xs:List V} {us:List Value} (i:Nat),wq4 xs us->wq4 (xs.eraseIdx i) (us.eraseIdx i)
 | _,_,_,.nil=>.nil
 | _,_,0,.cons _ t=>t
 | _,_,i+1,.cons r t=>.cons r (wq4.eraseIdx i t)
theorem wq4.rep(h:wq4 xs us):∀k:Nat,wq4 (List.replicate k xs).flatten (List.replicate k us).flatten
 | 0=>.nil
 | k+1=>by
   rw[Bs0,Bs0,Cf0,Cf0];exact wq4.append h (wq4.rep h k)
theorem zv0{α:Type}:∀(l:List α) (i:Nat),(l.eraseIdx i).length<=l.length
 | [],_=>Ag0 _
 | _::_,0=>Nat.le_succ _
 | _::r,i+1=>Nat.succ_le_succ (zv0 r i)
theorem yt5(its:List Value):∀(k:Nat) (acc:List Value),
 List.foldl (λx1 x2=>x1++x2) acc.toArray (List.replicate k its.toArray)=(acc++(List.replicate k its).flatten).toArray
 | 0,acc=>by simp
 | k+1,acc=>by
   have e:acc.toArray++its.toArray=(acc++its).toArray:=by simp
   have e2:(acc++its)++(List.replicate k its).flatten=acc++(List.replicate (k+1) its).flatten:=by
    rw[Bs0,Cf0,Cj0]
   rw[<-e2,<-yt5 its k (acc++its),<-e,Bs0,List.foldl_cons]
section
variable{X:Cx}{A3:List (Addr×Obj)}{σ:St}{H:Hp}{s:Shared}{l b:Addr}{xs ys zs:List V}{prog:Program}{w:World}{A:Around}{E:Value->Shared->Prop}
def Inv.lset{its its':List Value}{n:Nat}{f:Array Value->Array Value}{t':Nat}(I:Inv X A3 σ H s)(hH:H l=some (.lst xs))(e:s.heap.get? l=some { cls:=.type "list",data:=.seq its.toArray n })(hf:f its.toArray=its'.toArray)(hv:wq4 ys its')(hz:ys.length<=sizeLine) :
 Inv X A3 σ (upd H l (.lst ys)) { s with heap:=s.heap.update l (Obj.mapSeq f),toks:=t' }:=by
 have q:=PySem.IsL.update e f;rw[hf] at q;refine I.write (x:=l) (e:=l) (by rw[hH];exact trivial) (.inl rfl) (λb' u hb hu=>(Bf0 s.heap (Obj.mapSeq f) (Ne.symm hb)).trans hu) ⟨_,q⟩ ?_;exact⟨hz,its',_,hv,q⟩
def Inv.lnew{t':Nat}(I:Inv X A3 σ H s)(hv:wq4 ys its)(hz:ys.length<=sizeLine) :
 Inv X A3 σ (upd H s.heap.objs.size (.lst ys)) { s with heap:=s.heap.push { cls:=.type "list",data:=.seq its.toArray },toks:=t' }:=
 I.laid (λ_ _ q=>Ab0 _ q) (Ag0 _) ⟨hz,its,0,hv,Ad0 _ rfl⟩
def Inv.fresh(I:Inv X A3 σ H s):H s.heap.objs.size=none:=I.hok.fresh (Ag0 _)
def Inv.lstM(I:Inv X A3 σ H s)(hH:H l=some (.lst xs)):xs.length<=sizeLine/\∃(its:List Value) (n:Nat),wq4 xs its/\xs.length=its.length/\s.heap.get? l=some { cls:=.type "list",data:=.seq its.toArray n }:=by
 obtain⟨z,its,n,r,e⟩:=I.hok l _ hH;exact⟨z,its,n,r,r.length,e⟩
def xa2{n:Nat}(h:n<=sizeLine):Builtin.List.listTooLong n=false:=by
 unfold Builtin.List.listTooLong;exact Al1 (by omega)
def xj5:V->List V->Hp->VK->Prop:=λx vs H Q=>∃l xs y,x=.ref l/\vs=[y]/\H l=some (.lst xs)/\xs.length<sizeLine/\Q .non (upd H l (.lst (xs++[y])))
def zl8:MtM X "list.append" xj5:=by
 intro A3 s σ H x vs v us Q I rx rv h;obtain⟨l,xs,y,rfl,rfl,hH,hz,q⟩:=h;cases rx;obtain⟨u,rfl,ru⟩:=rv.one;obtain⟨z,its,n,r,hl,e⟩:=I.lstM hH;refine call_meets F.slot_list_append ⟨_,e,rfl⟩ F.entry_list_append (F.args_list_append_2 _ _) (PySem.list_append l its.toArray n u (by rw[Af0];omega)) ⟨e,?_⟩;refine⟨.non,_,I.lset (its':=its++[u]) hH e (by simp) (r.append (.cons ru .nil)) ?_,rfl,q⟩;rw[Ak0,List.length_singleton];omega
def xj4:V->List V->Hp->VK->Prop:=λx vs H Q=>∃l b xs zs,x=.ref l/\vs=[.ref b]/\H l=some (.lst xs)/\H b=some (.lst zs)/\xs.length+zs.length<=sizeLine/\Q .non (upd H l (.lst (xs++zs)))
def yg2:MtM X "list.extend" xj4:=by
 intro A3 s σ H x vs v us Q I rx rv h;obtain⟨l,b,xs,zs,rfl,rfl,hH,hB,hz,q⟩:=h;cases rx;obtain⟨u,rfl,ru⟩:=rv.one;cases ru;obtain⟨z,its,n,r,hl,e⟩:=I.lstM hH;obtain⟨z2,its2,n2,r2,hl2,e2⟩:=I.lstM hB;have hsz:its.toArray.size+its2.toArray.size<=sizeLine:=by rw[Af0,Af0];omega
 have hlong:¬(!its.toArray.isEmpty&&Builtin.List.listTooLong (its.toArray.size+its2.toArray.size))=true:=by
  rw[xa2 hsz,Bool.and_false];exact Au0
 refine call_meets F.slot_list_extend ⟨_,e,rfl⟩ F.entry_list_extend (F.args_list_extend_2 _ _)
  (AutoSeq1.list_extend_list_list_0 l its.toArray n b its2.toArray n2 hlong (by rw[Af0];omega) (by omega)) ⟨e,e2,?_⟩
 refine⟨.non,_,I.lset (its':=its++its2) hH e (by simp) (r.append r2) ?_,rfl,q⟩;rw[Ak0];omega
def xz3:V->List V->Hp->VK->Prop:=λx vs H Q=>∃l xs i k y,x=.ref l/\vs=[.int i]/\H l=some (.lst xs)/\-(2 ^ 63)<=i/\i<2 ^ 63/\seqIndex? i xs.length=some k/\xs[k]?=some y/\Q y (upd H l (.lst (xs.eraseIdx k)))
def xw2:MtM X "list.pop" xz3:=by
 intro A3 s σ H x vs v us Q I rx rv h;obtain⟨l,xs,i,k,y,rfl,rfl,hH,h1,h2,hk,hy,q⟩:=h;cases rx;obtain⟨u,rfl,ru⟩:=rv.one;obtain⟨t,rfl⟩:=ru;obtain⟨z,its,n,r,hl,e⟩:=I.lstM hH;obtain⟨w,hw,rw'⟩:=r.get hy;refine call_meets F.slot_list_pop ⟨_,e,rfl⟩ F.entry_list_pop (F.args_list_pop_2 _ _)
  (MeetsSeq.list_pop_at l its.toArray n i t k w (fitsIndex_both h1 h2) (by rw[Af0,<-hl];exact hk) (by rw[<-Cn0];exact hw) (by rw[Af0];omega)) ⟨e,?_⟩
 refine⟨y,_,I.lset (its':=its.eraseIdx k) hH e ?_ (r.eraseIdx k) ?_,rw',q⟩
 ·show its.toArray.eraseIdxIfInBounds k=(its.eraseIdx k).toArray
  rw[Cl0]
 ·have:=zv0 xs k
  omega
def vk5:R2:=λx y H Q=>∃l b xs zs,x=.ref l/\y=.ref b/\H l=some (.lst xs)/\H b=some (.lst zs)/\xs.length+zs.length<=sizeLine/\∀p,H p=none->Q (.ref p) (upd H p (.lst (xs++zs)))
def wl8:OpR X (binaryOp .Add) vk5:=by
 intro A3 s σ H x y v u Q I rx ry h;obtain⟨l,b,xs,zs,rfl,rfl,hH,hB,hz,q⟩:=h;cases rx;cases ry;obtain⟨z,its,n,r,hl,e⟩:=I.lstM hH;obtain⟨z2,its2,n2,r2,hl2,e2⟩:=I.lstM hB;refine PySem.P.add_list e e2 ?_ (by rw[Af0,Af0];omega);have ea:its.toArray++its2.toArray=(its++its2).toArray:=by simp
 rw[ea];exact⟨.ref _,_,I.lnew (t':=s.toks) (r.append r2) (by rw[Ak0];omega),rfl,q _ I.fresh⟩
def vk4:R2:=λx y H Q=>∃l k xs,x=.ref l/\y=.int k/\H l=some (.lst xs)/\-(2 ^ 63)<=k/\k<2 ^ 63/\xs.length*k.toNat<=sizeLine/\
 ∀p,H p=none->Q (.ref p) (upd H p (.lst (List.replicate k.toNat xs).flatten))
theorem wg1{α:Type}(xs:List α)(k:Nat):(List.replicate k xs).flatten.length=k*xs.length:=by
 induction k with
 | zero=>simp
 | succ k ih=>rw[Bs0,Cf0,Ak0,ih,Nat.succ_mul,Nat.add_comm]
def wl7:OpR X (binaryOp .Mult) vk4:=by
 intro A3 s σ H x y v u Q I rx ry h;obtain⟨l,k,xs,rfl,rfl,hH,h1,h2,hz,q⟩:=h;cases rx;obtain⟨t,rfl⟩:=ry;obtain⟨z,its,n,r,hl,e⟩:=I.lstM hH;have hlen:its.toArray.size*k.toNat<=sizeLine:=by rw[Af0,<-hl];exact hz
 have hcap:¬its.toArray.size*k.toNat>(2 ^ 63-1) / 8:=by
  have:(sizeLine:Nat)<=(2 ^ 63-1) / 8:=by decide
  omega
 have hfit:¬(!Builtin.List.listFitsIndex k)=true:=by
  rw[fitsIndex_both h1 h2];exact Au0
 have hlong:¬Builtin.List.listTooLong (its.toArray.size*k.toNat)=true:=by
  rw[xa2 hlen];exact Au0
 have hnew:List.foldl (λx1 x2=>x1++x2) #[] (List.replicate (if its.toArray.isEmpty=true then 0 else k.toNat) its.toArray)=(List.replicate k.toNat its).flatten.toArray:=by
  have f0:∀m:Nat,List.foldl (λx1 x2=>x1++x2) #[] (List.replicate m its.toArray)=(List.replicate m its).flatten.toArray:=λm=>by
   have:=yt5 its m [];rw[List.nil_append] at this;exact this
  rw[f0];cases its with
  | nil=>simp
  | cons a r'=>rw[if_neg (by simp)]
 refine wpAny_binaryOp_repeat_ref (T:="list") (U:="int") (by decide) ⟨_,e,rfl⟩ (λs'=>typeIs_int s' k t) noFill_list_mul F.fills_int_mul F.slot_int_rmul repeat_list F.slot_int_index.lookup
  (call_meets F.slot_int_rmul (typeIs_int s k t) F.entry_int_rmul (F.args_int_rmul_2 _ _) (int___rmul___int_list k t l its.toArray n)
   ⟨e,rfl,⟨_,e,rfl⟩,call_meets F.slot_list_mul ⟨_,e,rfl⟩ F.entry_list_mul (F.args_list_mul_2 _ _) (AutoListH.list___mul___list_int_3 l its.toArray n k t hfit hcap hlong) ⟨e,?_⟩⟩)
 rw[hnew];exact⟨.ref _,_,I.lnew (t':=s.toks) (r.rep k.toNat) (by rw[wg1,Nat.mul_comm];exact hz),rfl,q _ I.fresh⟩
end
end L2
namespace Att
open PySem PySem.W PySem.Calls PyProof.Rows
theorem yh0:∀(ns:List Int) (vs:List Value),WellAll P h vs (ns.map WData.int)->IntsAre vs ns:=by
 intro ns;induction ns with
 | nil=>
   intro vs w;rw[List.map_nil] at w;cases w;exact .nil
 | cons n ns ih=>
   intro vs w;rw[Aq0] at w;cases w with
   | cons a b=>
     cases a;exact .cons _ _ (ih _ b)
theorem xi7{l:OpenLaw}{n:Nat}(hn:l.most=some n){P:Params}{h:Heap}{args:List WData}{vals:List Value}(hpre:l.row.toRowW.claim.pre args=true)(hwl:WellAll P h vals args) :
 ∃a vs ns,vals=[Value.ref a]/\args=[WData.list (ns.map WData.int)]/\h.get? a=some { cls:=.type "list",data:=.seq vs.toArray }/\IntsAre vs ns/\ns.length<=n:=by
 have hsh:WShape.hasAll [] args [.list .int]=true:=(pre_splitW hpre).1;have hc:l.pre.holds [] { args:=args }=true:=(pre_splitW hpre).2;obtain⟨d,r,rfl,h1,h2⟩:=hasAllW_cons hsh;obtain rfl:=hasAllW_nil h2;obtain⟨xs,rfl,h3⟩:=hasW_list h1;obtain⟨ns,rfl⟩:=items_int h3;have hlen:ns.length<=n:=by
  unfold OpenLaw.pre at hc;have h4:(WTm.not (.lt (.lit (.int (n:Int))) (.len (.arg 0)))).holds [] { args:=[.list (ns.map .int)] }=true:=by
   have h4:=(holds_andW hc).1;rw[hn] at h4;exact h4
  have h5:=condW_of h4 (w_not (w_lt w_lit (w_len_list (w_arg rfl))));rw[Aa0] at h5;refine Nat.le_of_not_lt λq=>?_
  have q':(n:Int)<((ns.length:Nat):Int):=by omega
  first
   | (rw[Am1 q'] at h5;exact absurd h5 (by decide))
   | (simp at h5;omega)
 cases hwl with
 | cons w1 w2=>
   cases w2;cases w1 with
   | list ho hall=>exact⟨_,_,ns,rfl,rfl,ho,yh0 ns _ hall,hlen⟩
def xk0(l:OpenLaw)(args:List WData):l.row.toRowW.claim.post args (.bool true) args=true:=
 postW_of (r:=l.row.toRowW) (X:=(true == true))
  (show WShape.has [] (.bool true) .bool=true by first | rfl | decide | simp[WShape.has,WShape.arms,WShape.armsAll])
  (show (WTm.eq .res (.lit (.bool true))).value [] { args:=args,res:=some (.bool true),after:=args }=some (.bool (true == true)) from w_eq_bool (w_res rfl) w_lit) rfl
def attach_call{l:OpenLaw}{n:Nat}{q:Program}{loose:List Str}{XP:(Str->Option Value)->Heap->Prop}{YP:World->Heap->Prop}{d:DefRec}(hn:l.most=some n)(hdf:d.params.defaults=[])(call:∀(w:World) (s₀ s₁:Shared) (mg mb:Str->Option Value) (fa:Addr) (o:Obj) (pm cd doc:Value) (a:Addr) (vs:List Value) (ns:List Int),
  Ground q loose [] XP w s₀ mg mb s₁.heap->YP w s₁.heap->
  s₁.heap.get? fa=some o->o.data=.func (docDef d.name d.params d.body d.scope pm cd doc)->s₁.heap.CodeRec cd d.name->mg d.name=some (.ref fa)->
  s₁.heap.get? a=some { cls:=.type "list",data:=.seq vs.toArray }->IntsAre vs ns->ns.length<=n->s₁.gens=#[]->
  codeAny (model l.prog w) callerA (.call (.ref fa) ⟨[.ref a],[]⟩) (λr s'=>r=.ok (.ret (.bool true))/\OldK s₁.heap s'.heap/\s'.os=s₁.os/\AllBare s'.gens) s₁) :
 WalkO q loose XP YP l.row.toRowW d [] (λf vs=>PySem.call f vs):=by
 intro w s₀ s₁ mg mb G Y fa o pm cd doc dV kV ho hd hcd hD hmg hg args vals as hpre hlay hrd hwl hlo;obtain rfl:dV=.none:=Dflts.none hD hdf;obtain rfl:kV=.none:=Dflts.noKw hD;obtain⟨a,vs,ns,rfl,rfl,hobj,hints,hlen⟩:=xi7 hn hpre hwl;refine enter_call (codeAny_mono (call w s₀ s₁ mg mb fa o pm cd doc a vs ns G Y ho (fd_plain hd) hcd hmg hobj hints hlen hg) λr s' hq=>?_);obtain⟨rfl,h2,h3,h4⟩:=hq;exact⟨.inl ⟨.bool true,.bool true,[],rfl,λ_=>rfl,.bool true,xk0 l _,λ_=>⟨List.Pairwise.nil,λ_ hm=>(nomatch hm)⟩⟩,h2,h3,h4⟩
section
variable{prog:Program}{w:World}{A:Around}{E:Value->Shared->Prop}{s:Shared}{K:Frag}
end
end Att
namespace L2
theorem yp5:∀{vs:List Value} {ns:List Int},IntsAre vs ns->wq4 (ns.map V.int) vs
 | _,_,.nil=>.nil
 | _,_,.cons n t h=>.cons ⟨t,rfl⟩ (yp5 h)
def vr0(H:Hp):Prop:=∀b,H b=none\/∃o xs,H b=some (.frz o (.lst xs))
open H in
theorem xw5{P:Program}{w:World}{K:PySem.W.Frag}{mg mb:Str->Option Value}{CX:CXT}{k:Nat}{fa a:Addr}{fd:FuncData}{x:Str}{sp:Sp}{s₁:Shared}{vs:List Value}{ns:List Int}(KX:K.In s₁.heap)(hns:s₁.heap.Ns mainGlobals mg)(hb:s₁.heap.Ns builtinsNs mb)(hbb:∀x:Str,x≠"__name__"->mb x=bootBuiltins x)(hlim:s₁.heap.NoLimit)(hg:s₁.gens=#[])(ha:s₁.heap.get? a=some { cls:=.type "list",data:=.seq vs.toArray })(hi:IntsAre vs ns)(hl:ns.length<=sizeLine)(hr:wr2 k callerA)(F:∀base:Heap,K.In base->base.Ns mainGlobals mg->ww5 P w K mg base CX k fa fd [x] sp)(hbind:∀(s:Shared) (u:Value),BindsTo s fd ⟨[u],[]⟩ [(x,u)])(hsp:∀H:Hp,vr0 H->SqL K H a (ns.map V.int)->sp [.ref a] H (λv _=>v=.bl true) λ_ _ _=>False)(hCX:∀H e s',CX [] H s₁ (λ_ _ _=>False) e s'->False) :
 codeAny (model P w) callerA (.call (.ref fa) ⟨[.ref a],[]⟩) (λr s'=>r=.ok (.ret (.bool true))/\OldK s₁.heap s'.heap/\s'.os=s₁.os/\AllBare s'.gens) s₁:=by
 have rv:=yp5 hi;have lenV:=hi.length
 -- from an abstract heap in which nothing but the script may be tracked
 have core:∀H:Hp,vr0 H->SqL K H a (ns.map V.int)->HOk P w H s₁.heap->(∀b,H b≠none->b=a)->(H a≠none->K.lookup a=none)->
  codeAny (model P w) callerA (.call (.ref fa) ⟨[.ref a],[]⟩) (λr s'=>r=.ok (.ret (.bool true))/\OldK s₁.heap s'.heap/\s'.os=s₁.os/\AllBare s'.gens) s₁:=by
  intro H hO hS hok hA hK;have base_of:∀{b:Addr} {o:Obj},s₁.heap.get? b=some o->H b=none->(vd1 s₁.heap H).get? b=some o:=λe n=>xw9 e n
  have noA:∀{b:Addr} {o:Obj} {es:Array DictEntry} {ep:Nat},s₁.heap.get? b=some o->o.data=.dict es ep->H b=none:=λ{b o es ep} e d=>by
   cases q:H b with
   | none=>rfl
   | some u=>
     have e':b=a:=hA b (by rw[q];simp);subst e';rw[ha] at e;cases e;have d':Data.seq vs.toArray _=Data.dict es ep:=d;cases d'
  have nsK:∀{b:Addr} {m:Str->Option Value},s₁.heap.Ns b m->(vd1 s₁.heap H).Ns b m:=λ{b m} ⟨o,es,ep,e,d,r⟩=>⟨o,es,ep,base_of e (noA e d),d,r⟩
  have hKb:K.In (vd1 s₁.heap H):=λb o e=>base_of (KX b o e) (by
   cases q:H b with
   | none=>rfl
   | some u=>
     have e':b=a:=hA b (by rw[q];simp);subst e';rw[hK (by rw[q];simp)] at e;cases e)
  have hM:Mod K mg (vd1 s₁.heap H):=⟨hKb,nsK hns,⟨mb,nsK hb,hbb⟩,let ⟨mc,h1,h2⟩:=hlim;⟨mc,nsK h1,h2⟩⟩;have e0:vl2 P w K mg (vd1 s₁.heap H) callerA [] s₁ H:=⟨rfl,hM,λb o e=>wf4 e,Nat.le_of_eq (xo7 _ _),trivial,λb hb=>absurd (show b∈([]:List Addr) from hb) (by simp),hok,.of_eq hg⟩;refine codeAny_mono ((F _ hKb (nsK hns)).run callerA [] s₁ H ⟨[.ref a],[]⟩ [.ref a] [.ref a] _ _ hr e0 (hbind s₁ (.ref a)) (.cons rfl .nil) (hsp H hO hS)) λr s' h=>?_
  cases r with
  | error e=>exact(hCX H e s' h).elim
  | ok fl=>
    cases fl with
    | next=>exact False.elim h
    | brk=>exact False.elim h
    | cont=>exact False.elim h
    | ret u=>
      obtain⟨v,H',os,bare,un,hok',r',q⟩:=h;have q':v=.bl true:=q;subst q';obtain rfl:u=Value.bool true:=r';refine⟨rfl,OldK.of_keep λb o e=>?_,os,bare⟩;cases q:H b with
      | none=>exact un.keep b o e q (by intro z;exact absurd (show b∈([]:List Addr) from z) (by simp)) (by simp)
      | some u=>
        rcases hO b with z | ⟨ob,xs,z⟩
        ·rw[q] at z;cases z
        ·have z2:=un.frzs b ob _ z
         obtain⟨e1,_⟩:=hok b _ z;obtain⟨e2,_⟩:=hok' b _ z2;rw[e] at e1;cases e1;exact e2
 cases hk:K.lookup a with
 | some o=>
   -- the script is one of the module's own objects
   have e:=KX a o hk;rw[ha] at e;cases e;refine core (λ_=>none) (λ_=>.inl rfl) (.inr ⟨_,vs.toArray,_,hk,rfl,rfl,rfl,by rw[Af0,lenV];exact hl,by simpa using rv⟩) (λb u z=>by have z':(none:Option HO)=some u:=z;cases z') (λb z=>absurd rfl z) λz=>absurd rfl z
 | none=>
   refine core (λb=>if b=a then some (.frz { cls:=.type "list",data:=.seq vs.toArray } (.lst (ns.map V.int))) else none) (λb=>?_) (.inl (.inr ⟨{ cls:=.type "list",data:=.seq vs.toArray },if_pos rfl⟩)) (λb u z=>?_) (λb z=>?_) λ_=>hk
   ·by_cases hb:b=a
    ·exact .inr ⟨_,_,if_pos hb⟩
    ·exact .inl (if_neg hb)
   ·by_cases hb:b=a
    ·have z':=(if_pos hb).symm.trans z
     cases z';subst hb;exact⟨ha,by rw[Aa0];exact hl,vs,_,rv,ha⟩
    ·have z':=(if_neg hb).symm.trans z
     cases z'
   ·by_cases hb:b=a
    ·exact hb
    ·exact absurd (if_neg hb) z
def walk_of{l:PySem.W.OpenLaw}{n k:Nat}{q:Program}{loose:List Str}{XP:(Str->Option Value)->Heap->Prop}{YP:World->Heap->Prop}{d:DefRec}{K:Params->PySem.W.Frag}{CX:World->CXT}{sp:World->Sp}{x:Str}(hn:l.most=some n)(hn2:n<=sizeLine)(hdf:d.params.defaults=[])(hr:wr2 k callerA)(hY:∀(w:World) (h:Heap),YP w h->(K w.params).In h)(F:∀(w:World) (mg:Str->Option Value) (fa:Addr) (h:Heap),(K w.params).In h->h.Ns mainGlobals mg->mg d.name=some (.ref fa)->
  ∃fd:FuncData,(∀(s:Shared) (u:Value),BindsTo s fd ⟨[u],[]⟩ [(x,u)])/\
   ∀base:Heap,(K w.params).In base->base.Ns mainGlobals mg->ww5 l.prog w (K w.params) mg base (CX w) k fa fd [x] (sp w))(hsp:∀(w:World) (H:Hp) (a:Addr) (ns:List Int),ns.length<=n->vr0 H->SqL (K w.params) H a (ns.map V.int)->sp w [.ref a] H (λv _=>v=.bl true) λ_ _ _=>False)(hCX:∀(w:World) (H:Hp) (s:Shared) (e:Value) (s':Shared),CX w [] H s (λ_ _ _=>False) e s'->False) :
 PySem.W.WalkO q loose XP YP l.row.toRowW d [] (λf vs=>PySem.call f vs):=by
 refine Att.attach_call hn hdf λw s₀ s₁ mg mb fa o pm cd doc a vs ns G Y ho hd hcd hmg hobj hints hlen hg=>?_
 have KX:=hY w _ Y;obtain⟨fd,hb,hF⟩:=F w mg fa _ KX G.T.g hmg;exact xw5 KX G.T.g G.T.b G.T.builtins G.T.nolimit hg hobj hints (Ap0 hlen hn2) hr hF hb (λH hO hS=>hsp w H a ns hlen hO hS) λH e s'=>hCX w H s₁ e s'
def zy2(s:Stmt):Arguments:=match s with
 | .FunctionDef _ a _ _ _ _ _ _ _ _=>a
 | _=>{ posonlyargs:=[],args:=[],vararg:=none,kwonlyargs:=[],kw_defaults:=[],kwarg:=none,defaults:=[] }
def zc2(s:Stmt):List Stmt:=match s with
 | .FunctionDef _ _ b _ _ _ _ _ _ _=>b
 | _=>[]
def za5(s:Stmt):Scope:=match s with
 | .FunctionDef _ _ _ _ _ _ sc _ _ _=>sc
 | _=>{ kind:=.function,names:=[],isGenerator:=false,isCoroutine:=false }
abbrev CX0:CXT:=λ_ _ _ _ _ _=>False
abbrev E0:XK:=λ_ _ _=>False
def vf5:xs0 CX0 X E0:=λ_ _ _ _ _ _ _ h=>h.elim
structure Fun(K:PySem.W.Frag)(x qual:Str)(st:Stmt)(f:Addr)(fd:FuncData):Prop where
 ex:∃(oc:Value) (od:Option Addr) (kV doc pm:Value) (an:Option Addr) (cdv ct:Value) (osl:Array (Option Value)),
  fd=fnOf x qual (zy2 st) (zc2 st) (za5 st) .none kV doc pm an cdv ct/\K.lookup f=some ⟨oc,od,.func fd,osl⟩/\codeIn K cdv qual=true
 kp:keepIn K (.ref f)=true
section
variable{P:Program}{w:World}{K:PySem.W.Frag}{mg:Str->Option Value}{base:Heap}
def Fun.ok{x qual:Str}{st:Stmt}{f:Addr}{fd:FuncData}{N ps:List Str}{k:Nat}{sp:Sp}(F:Fun K x qual st f fd)(S:zd1 N ps (za5 st))(len:∀vs H Q E,sp vs H Q E->vs.length=ps.length)(hbody:∀(cdv:Value) (A:Around) (outer:List Env) (s:Shared) (H:Hp) (vs:List V) (Q:VK) (E:XK),wr2 k (A.deeper (envOfC qual (za5 st) s.heap.objs.size f cdv))->sp vs H Q E->
  ∃t,PSs (ws3 CX0 P w K mg base N qual (za5 st) f cdv A outer s H E).nox (zc2 st) t/\t { nx:=λ_ H'=>Q .non H',rt:=Q } (start N vs) H):ww5 P w K mg base CX0 (k+1) f fd ps sp:=by
 obtain⟨oc,od,kV,doc,pm,an,cdv,ct,osl,rfl,lk,hcd⟩:=F.ex;refine vp1 lk hcd S len λA outer s H vs Q E hr hsp=>?_
 obtain⟨t,h,q⟩:=hbody cdv A outer s H vs Q E hr hsp;exact⟨t,h.nox,q⟩
def Fun.binds{x qual:Str}{st:Stmt}{f:Addr}{fd:FuncData}{ps:List Str}(F:Fun K x qual st f fd)(h:∀(kV doc pm:Value) (an:Option Addr) (cdv ct:Value) (us:List Value),us.length=ps.length->bindArgs (fnOf x qual (zy2 st) (zc2 st) (za5 st) .none kV doc pm an cdv ct) ⟨us,[]⟩=pure (ps.zip us)):wz8 K fd ps []:=by
 obtain⟨oc,od,kV,doc,pm,an,cdv,ct,osl,rfl,lk,hcd⟩:=F.ex;exact .all (h kV doc pm an cdv ct)
def wn8{x qual:Str}{st:Stmt}{f:Addr}{oc:Value}{od an:Option Addr}{osl:Array (Option Value)}{kV doc pm cdv ct:Value}(l:K.lookup f=some ⟨oc,od,.func (fnOf x qual (zy2 st) (zc2 st) (za5 st) .none kV doc pm an cdv ct),osl⟩)(c:codeIn K cdv qual=true)(k:keepIn K (.ref f)=true):Fun K x qual st f (fnOf x qual (zy2 st) (zc2 st) (za5 st) .none kV doc pm an cdv ct):=⟨⟨oc,od,kV,doc,pm,an,cdv,ct,osl,rfl,l,c⟩,k⟩
end
def wr3{k:Nat}(hr:wr2 k A):A.units+1<cLine:=Nat.lt_of_le_of_lt (Nat.add_le_add_left (by decide:1<=64) _) hr.units
def zy8{n:Nat}(h:n<=1000):n<sizeLine:=Nat.lt_of_le_of_lt h (by decide)
section
variable{X:Cx}
def pv(i:Nat){x:Str}(hN:X.N[i]?=some x:=by rfl)(hv:Vis X.env.scope x:=by first | exact Or.inl rfl | exact Or.inr (Or.inl rfl) | exact Or.inr (Or.inr rfl))(hd:(x == ("__debug__" : Str))=false:=by decide)(hcd:(x == ("__classdict__" : Str))=false:=by decide):PE X (.Name x pos) (wu2 i):=wl0 hN hv hd hcd
end
def vi9{A B:Prop}(h:B):if false=true then A else B:=by
 rw[if_neg Au0];exact h
def vh5{A B:Prop}(h:A):if true=true then A else B:=by
 rw[if_pos rfl];exact h
def ww1(H H':Hp):Prop:=∀b o,H b=some o->H' b=some o
def ww1.refl(H:Hp):ww1 H H:=λ_ _ h=>h
section
variable{κ:Type}[DecidableEq κ]
def wv3(kvs:List (κ×V))(k:κ):Option V:=(kvs.find? λkv=>decide (kv.1=k)).map (·.2)
def wt2(kvs:List (κ×V))(k:κ)(v:V):List (κ×V):=
 if (kvs.any λkv=>decide (kv.1=k))=true then kvs.map (λkv=>if kv.1=k then (kv.1,v) else kv) else kvs++[(k,v)]
def zr2{p:κ×V}{r:List (κ×V)}{k:κ}(e:p.1=k):wv3 (p::r) k=some p.2:=by simp[wv3,Ch0,e]
def zr3{p:κ×V}{r:List (κ×V)}{k:κ}(e:¬p.1=k):wv3 (p::r) k=wv3 r k:=by simp[wv3,Ch0,e]
theorem zy7(k:κ):∀kvs:List (κ×V),(kvs.any λkv=>decide (kv.1=k))=(wv3 kvs k).isSome
 | []=>rfl
 | p::r=>by
   rw[List.any_cons];by_cases e:p.1=k
   ·simp only[zr2 e,Am1 e,Bool.true_or,Option.isSome_some]
   ·rw[zr3 e,Al1 e,Bool.false_or];exact zy7 k r
def zo6(kvs:List (κ×V))(k:κ)(v:V):(wt2 kvs k v).length<=kvs.length+1:=by
 unfold wt2;split
 ·rw[Aa0];omega
 ·rw[Ak0,Ax0,Cg0];omega
theorem vb8.isSome_eq(r:vb8 o u):o.isSome=u.isSome:=by
 cases o with
 | none=>cases u with
   | none=>rfl
   | some _=>exact(show False from r).elim
 | some _=>cases u with
   | none=>exact(show False from r).elim
   | some _=>rfl
theorem KV.val(r:KV kvs vs)(k:κ):vb8 (wv3 kvs k) (valueAt vs k):=by
 unfold KV at r;induction r with
 | nil=>exact True.intro
 | @cons p q ps qs h t ih=>
   obtain⟨h1,h2⟩:=h;by_cases e:p.1=k
   ·have e':q.1=k:=h1.symm.trans e
    have b:valueAt (q::qs) k=some q.2:=by simp[valueAt,Ch0,e']
    rw[zr2 e,b];exact h2
   ·have e':¬q.1=k:=λz=>e (h1.trans z)
    have b:valueAt (q::qs) k=valueAt qs k:=by simp[valueAt,Ch0,e']
    rw[zr3 e,b];exact ih
theorem KV.any{kvs:List (κ×V)}{vs:List (κ×Value)}(r:KV kvs vs)(k:κ):(kvs.any λkv=>decide (kv.1=k))=vs.any λkv=>decide (kv.1=k):=by
 unfold KV at r;induction r with
 | nil=>rfl
 | cons h t ih=>rw[List.any_cons,List.any_cons,ih,h.1]
theorem KV.repl(r:KV kvs vs)(k:κ)(ry:wq2 y u) :
 KV (kvs.map λkv=>if kv.1=k then (kv.1,y) else kv) (vs.map λkv=>if kv.1=k then (kv.1,u) else kv):=by
 unfold KV at r ⊢;induction r with
 | nil=>exact .nil
 | @cons p q ps qs h t ih=>
   rw[Aq0,Aq0];refine .cons ?_ ih;obtain⟨h1,h2⟩:=h;by_cases e:p.1=k
   ·rw[if_pos e,if_pos (h1.symm.trans e)];exact⟨h1,ry⟩
   ·rw[if_neg e,if_neg (λz=>e (h1.trans z))];exact⟨h1,h2⟩
def KV.put(r:KV kvs vs)(k:κ)(ry:wq2 y u):KV (wt2 kvs k y) (stored vs k u):=by
 unfold wt2 stored;rw[r.any k];by_cases e:(vs.any λkv=>decide (kv.1=k))=true
 ·rw[if_pos e,if_pos e];exact r.repl k ry
 ·rw[if_neg e,if_neg e];exact Paired.snoc r ⟨rfl,ry⟩
def KV.length{kvs:List (κ×V)}{vs:List (κ×Value)}(r:KV kvs vs):kvs.length=vs.length:=Paired.length r
end
theorem wz3(r:wq2 (kV k) u):(zg6 P w).is k u=true:=by
 cases k with
 | inl i=>obtain⟨t,e⟩:=(show ∃t,u=Value.int i t from r);subst e;exact yx3 P w i t
 | inr x=>obtain⟨t,e⟩:=(show ∃t,u=Value.str x t from r);subst e;exact yx2 P w x t
theorem ys8:∀{ks:List Key} {us:List Value},wq4 (ks.map kV) us->ItemsAre (zg6 P w) ks us
 | [],_,r=>by rw[List.map_nil] at r;cases r;exact .nil
 | k::ks,_,r=>by
   rw[Aq0] at r;cases r with
   | cons h t=>exact .cons (wz3 h) (ys8 t)
abbrev KT(H:Hp):List (List Key×V)->List (List Key×Addr×Value)->Prop:=Paired λp q=>p.1=q.1/\H q.2.1=some (.tup (p.1.map kV))/\wq2 p.2 q.2.2
theorem KT.val(r:KT H kvs xs)(k:List Key):vb8 (wv3 kvs k) ((atKey xs k).map (·.2)):=by
 induction r with
 | nil=>exact True.intro
 | @cons p q ps qs h t ih=>
   obtain⟨h1,_,h2⟩:=h;by_cases e:p.1=k
   ·have e':q.1=k:=h1.symm.trans e
    have b:atKey (q::qs) k=some q.2:=by simp[atKey,Ch0,e']
    rw[zr2 e,b];exact h2
   ·have e':¬q.1=k:=λz=>e (h1.trans z)
    have b:atKey (q::qs) k=atKey qs k:=by simp[atKey,Ch0,e']
    rw[zr3 e,b];exact ih
theorem KT.repl(r:KT H kvs xs)(k:List Key)(ry:wq2 y u) :
 KT H (kvs.map λkv=>if kv.1=k then (kv.1,y) else kv) (xs.map (putAt k u)):=by
 induction r with
 | nil=>exact .nil
 | @cons p q ps qs h t ih=>
   rw[Aq0,Aq0];refine .cons ?_ ih;obtain⟨h1,h2,h3⟩:=h;unfold putAt;by_cases e:p.1=k
   ·rw[if_pos e,if_pos (h1.symm.trans e)];exact⟨h1,h2,ry⟩
   ·rw[if_neg e,if_neg (λz=>e (h1.trans z))];exact⟨h1,h2,h3⟩
def KT.put(r:KT H kvs xs)(k:List Key)(hb:H b=some (.tup (k.map kV)))(ry:wq2 y u) :
 KT H (wt2 kvs k y) (storedH xs k b u):=by
 have e:(kvs.any λkv=>decide (kv.1=k))=(atKey xs k).isSome:=by
  rw[zy7,(r.val k).isSome_eq,Option.isSome_map]
 unfold wt2 storedH;rw[e];by_cases q:(atKey xs k).isSome=true
 ·rw[if_pos q,if_pos q];exact r.repl k ry
 ·rw[if_neg q,if_neg q];exact Paired.snoc r ⟨rfl,hb,ry⟩
def KT.keeps(r:KT H kvs xs)(ht:∀b ys,H b=some (.tup ys)->H' b=some (.tup ys)):KT H' kvs xs:=
 Paired.mapP r λ_ _ z=>⟨z.1,ht _ _ z.2.1,z.2.2⟩
section
variable{P:Program}{w:World}{H:Hp}{h:Heap}{a:Addr}
def vi3(ok:HOk P w H h)(e:Rd H a u):wq9 P w H h a u:=e.ok ok
def vb5(ok:HOk P w H h)(e:Rd H a (.dK kvs)):kvs.length<=sizeLine/\(a == sysModules)=false/\∃vs,KV kvs vs/\h.DictOf (zg6 P w) a vs:=
 show wq9 P w H h a (.dK kvs) from vi3 ok e
def vj7(ok:HOk P w H h)(e:H a=some (.dK kvs)):kvs.length<=sizeLine/\(a == sysModules)=false/\∃vs,KV kvs vs/\h.DictOf (zg6 P w) a vs:=vb5 ok (.inl e)
def yg9(ok:HOk P w H h)(e:H a=some (.tup (ks.map kV))):(tupleKind (zg6 P w)).is h ks a:=by
 obtain⟨_,its,r,⟨o,h1,h2,n,h3⟩,_⟩:=(show wq9 P w H h a (.tup (ks.map kV)) from ok a _ e);exact⟨o,its.toArray,n,h1,h2,h3,by simpa using ys8 r⟩
def vb4(ok:HOk P w H h)(e:Rd H a (.dT kvs)):kvs.length<=sizeLine/\(a == sysModules)=false/\
 ∃xs,KT H kvs xs/\h.DictOfH (tupleKind (zg6 P w)) a xs:=by
 obtain⟨z,y,xs,r,o,es,ep,h1,h2,h3,h4,h5⟩:=(show wq9 P w H h a (.dT kvs) from vi3 ok e);refine⟨z,y,xs,r,o,es,ep,h1,h2,h3,h4,λx hx=>?_,h5⟩;have all:∀{l:List (List Key×V)} {m:List (List Key×Addr×Value)},KT H l m->∀x∈m,(tupleKind (zg6 P w)).is h x.1 x.2.1:=by
  intro l m q;induction q with
  | nil=>intro x hx;exact nomatch hx
  | @cons p q ps qs hq t ih=>
    intro x hx;rcases Aj0.mp hx with e | hx
    ·subst e
     exact yg9 ok (by rw[<-hq.1];exact hq.2.1)
    ·exact ih x hx
 exact all r x hx
def vg9(ok:HOk P w H h)(e:H a=some (.dT kvs)):kvs.length<=sizeLine/\(a == sysModules)=false/\
 ∃xs,KT H kvs xs/\h.DictOfH (tupleKind (zg6 P w)) a xs:=vb4 ok (.inl e)
end
def wu9(H:Hp)(a:Addr)(y:V)(r:Option V):Prop:=
 (∃kvs k,Rd H a (.dK kvs)/\y=kV k/\r=wv3 kvs k)\/∃kvs k b,Rd H a (.dT kvs)/\y=.ref b/\H b=some (.tup (k.map kV))/\r=wv3 kvs k
def vd6(H:Hp)(a:Addr)(y v:V)(H':Hp):Prop:=
 (∃kvs k,H a=some (.dK kvs)/\y=kV k/\kvs.length<sizeLine/\H'=upd H a (.dK (wt2 kvs k v)))\/
 ∃kvs k b,H a=some (.dT kvs)/\y=.ref b/\H b=some (.tup (k.map kV))/\kvs.length<sizeLine/\H'=upd H a (.dT (wt2 kvs k v))
def wu9.k{H:Hp}{a:Addr}{kvs:List (Key×V)}{k:Key}(e:H a=some (.dK kvs)):wu9 H a (kV k) (wv3 kvs k):=.inl ⟨kvs,k,.inl e,rfl,rfl⟩
def wu9.t{H:Hp}{a b:Addr}{kvs:List (List Key×V)}{k:List Key}(e:H a=some (.dT kvs))(eb:H b=some (.tup (k.map kV))):wu9 H a (.ref b) (wv3 kvs k):=.inr ⟨kvs,k,b,.inl e,rfl,eb,rfl⟩
def vd6.k{H:Hp}{a:Addr}{kvs:List (Key×V)}{k:Key}{v:V}(e:H a=some (.dK kvs))(hl:kvs.length<sizeLine):vd6 H a (kV k) v (upd H a (.dK (wt2 kvs k v))):=.inl ⟨kvs,k,e,rfl,hl,rfl⟩
def vd6.t{H:Hp}{a b:Addr}{kvs:List (List Key×V)}{k:List Key}{v:V}(e:H a=some (.dT kvs))(eb:H b=some (.tup (k.map kV)))(hl:kvs.length<sizeLine) :
 vd6 H a (.ref b) v (upd H a (.dT (wt2 kvs k v))):=.inr ⟨kvs,k,b,e,rfl,eb,hl,rfl⟩
section
variable{X:Cx}{A3:List (Addr×Obj)}{σ:St}{H:Hp}{s:Shared}{a:Addr}{y v:V}{u r:Value}{o:Option V}{A:Around}{E:Value->Shared->Prop}
def Inv.big(I:Inv X A3 σ H s):sysModules<s.heap.objs.size:=by
 have h:mainGlobals<s.heap.objs.size:=(I.mod.glob.keeps I.bk).lt;exact Nat.lt_trans (by decide) h
def xq5(hu:A.units+1<cLine)(I:Inv X A3 σ H s)(g:wu9 H a y (some v))(ry:wq2 y u)(h:∀w' s',Inv X A3 σ H s'->wq2 v w'->Q w' s') :
 wpAny (model X.prog X.w) A (getItem (.ref a) u) Q E s:=by
 rcases g with⟨kvs,k,e,ey,l⟩ | ⟨kvs,k,b,e,ey,eb,l⟩
 ·subst ey
  obtain⟨z,hd,vs,rel,dd⟩:=vb5 I.hok e;obtain⟨w',hw,rw'⟩:=vb8.some_of (v:=v) (o:=valueAt vs k) (by rw[l];exact rel.val k);exact wpAny_getItem_of (wz3 ry) dd.mapOf hw (h w' _ (I.tok _) rw')
 ·subst ey
  cases (show u=Value.ref b from ry);obtain⟨z,hd,xs,rel,dd⟩:=vb4 I.hok e;obtain⟨w',hw,rw'⟩:=vb8.some_of (v:=v) (o:=(atKey xs k).map (·.2)) (by rw[l];exact rel.val k);obtain⟨p,hp,hp2⟩:=Option.map_eq_some_iff.mp hw;refine wpAny_getItem_heap (tupleKind_room_in1 hu) (yg9 I.hok eb) dd hp ?_;rw[hp2];exact h w' _ (I.tok _) rw'
def vw3(hu:A.units+1<cLine)(I:Inv X A3 σ H s)(g:wu9 H a y o)(ry:wq2 y u)(h:∀s',Inv X A3 σ H s'->Q (.bool o.isSome) s') :
 wpAny (model X.prog X.w) A (compareOp .In u (.ref a)) Q E s:=by
 rcases g with⟨kvs,k,e,ey,l⟩ | ⟨kvs,k,b,e,ey,eb,l⟩
 ·subst ey
  obtain⟨z,hd,vs,rel,dd⟩:=vb5 I.hok e;refine wpAny_in_of (wz3 ry) hd dd.mapOf ?_;rw[<-(rel.val k).isSome_eq,<-l];exact h _ (I.tok _)
 ·subst ey
  cases (show u=Value.ref b from ry);obtain⟨z,hd,xs,rel,dd⟩:=vb4 I.hok e;refine wpAny_in_heap (tupleKind_room_in1 hu) (yg9 I.hok eb) hd dd ?_;have q:=(rel.val k).isSome_eq;rw[Option.isSome_map] at q;rw[<-q,<-l];exact h _ (I.tok _)
def wi1(hu:A.units+1<cLine)(I:Inv X A3 σ H s)(g:wu9 H a y o)(ry:wq2 y u)(h:∀s',Inv X A3 σ H s'->Q (.bool (!o.isSome)) s') :
 wpAny (model X.prog X.w) A (compareOp .NotIn u (.ref a)) Q E s:=by
 rcases g with⟨kvs,k,e,ey,l⟩ | ⟨kvs,k,b,e,ey,eb,l⟩
 ·subst ey
  obtain⟨z,hd,vs,rel,dd⟩:=vb5 I.hok e;refine wpAny_notIn_of (wz3 ry) hd dd.mapOf ?_;rw[<-(rel.val k).isSome_eq,<-l];exact h _ (I.tok _)
 ·subst ey
  cases (show u=Value.ref b from ry);obtain⟨z,hd,xs,rel,dd⟩:=vb4 I.hok e;refine wpAny_notIn_heap (tupleKind_room_in1 hu) (yg9 I.hok eb) hd dd ?_;have q:=(rel.val k).isSome_eq;rw[Option.isSome_map] at q;rw[<-q,<-l];exact h _ (I.tok _)
def yi2{t':Nat}(I:Inv X A3 σ H s)(mu:Mut (H a))(hs:Heap.SameBut a s.heap h')(he:∃q,h'.get? a=some q)(new:wq9 X.prog X.w (upd H a ob) h' a ob) :
 Inv X A3 σ (upd H a ob) { s with heap:=h',toks:=t' }:=
 I.write (x:=a) (e:=a) mu (.inl rfl) (λb q hb z=>(hs.2 b hb).trans z) he new
def wa7(z:kvs.length<=sizeLine)(hd:(a == sysModules)=false)(rel:KV kvs vs)(dd:h'.DictOf (zg6 P w) a vs) :
 wq9 P w H' h' a (.dK kvs):=⟨z,hd,vs,rel,dd⟩
def xq4(hu:A.units+1<cLine)(I:Inv X A3 σ H s)(g:vd6 H a y v H')(ry:wq2 y u)(rv:wq2 v r)(h:∀s',Inv X A3 σ H' s'->Q () s') :
 wpAny (model X.prog X.w) A (setItem (.ref a) u r) Q E s:=by
 rcases g with⟨kvs,k,e,ey,l,eH⟩ | ⟨kvs,k,b,e,ey,eb,l,eH⟩
 ·subst ey eH
  obtain⟨z,hd,vs,rel,dd⟩:=vj7 I.hok e;have hz:vs.length<=sizeLine:=by rw[<-rel.length];exact z
  have hl:(wt2 kvs k v).length<=sizeLine:=by have:=zo6 kvs k v;omega
  refine wpAny_setItem_pairs (hsz:=hz) (wz3 ry) dd λh' dd' hs=>h _ ?_
  have he:∃q,h'.get? a=some q:=let ⟨q,_,_,hq,_⟩:=dd';⟨q,hq⟩;exact yi2 I (by rw[e];exact True.intro) hs he (wa7 hl hd (rel.put k rv) dd')
 ·subst ey eH
  cases (show u=Value.ref b from ry);obtain⟨z,hd,xs,rel,dd⟩:=vg9 I.hok e;have hz:xs.length<=sizeLine:=by rw[<-Paired.length rel];exact z
  have hl:(wt2 kvs k v).length<=sizeLine:=by have:=zo6 kvs k v;omega
  refine wpAny_setItem_heap (hsz:=hz) (tupleKind_room_in1 hu) (yg9 I.hok eb) dd λh' dd' hs=>h _ ?_
  obtain⟨q,es,ep,hq,h2,h3,h4,_,h5⟩:=dd';refine yi2 I (by rw[e];exact True.intro) hs ⟨q,hq⟩ ⟨hl,hd,_,(rel.put k eb rv).keeps λc ys ec=>?_,q,es,ep,hq,h2,h3,h4,h5⟩;rw[zb3 (va9 ec e (λz=>nomatch z))];exact ec
end
section
variable{X:Cx}{A3:List (Addr×Obj)}{σ:St}{H:Hp}{s:Shared}{a:Addr}{kvs:List (Key×V)}{k:Key}{u:Value}{A:Around}{E:Value->Shared->Prop}
end
def vk0(i:Expr):Prop:=∀ov iv,subscripted i false ov iv=operate [ov,iv] (getItem ov iv)
def wd9{T id:String}(hl:typeLookup (.type T) "__getitem__" = pure (some (.builtin id)))(hs:vk0 slice)(h:wpAny (model prog w) A (eval value env) (λo s₁=>wpAny (model prog w) A (eval slice env) (λi s₂=>s₂.TypeIs o T/\wpAny (model prog w) A (getItem o i) Q E s₂) E s₁) E s) :
 wpAny (model prog w) A (eval (.Subscript value slice pos) env) Q E s:=by
 refine Subscript_ (Ag1 h (λo s₁ h₁=>Ag1 h₁ (λi s₂ h₂=>?_) λ_ _ x=>x) λ_ _ x=>x);obtain⟨hT,h₂⟩:=h₂;unfold subscriptTail;refine Aa1 ?_;rw[getitemInPython_of_ne hT.not_modules];refine Aa1 (wpAny_specialOf hT hl ?_);have fin:wpAny (model prog w) A (subscripted slice false o i) (λr s₃=>wpAny (model prog w) A (letTemporaryGo value o r >>= λ_=>pure r) Q E s₃) E s₂:=by
  rw[hs o i];exact wpAny_operating (Ag1 h₂ (λr s₃ h₃=>Aa1 (wpAny_letTemporaryGo (Ac1 h₃))) λ_ _ x=>x)
 first
  | exact Ac1 (Aa1 fin)
  | exact Aa1 (Ac1 (Aa1 fin))
  | exact Aa1 fin
def yx9(I:Inv X A3 σ H s)(g:wu9 H a y o):s.TypeIs (.ref a) "dict":=by
 rcases g with⟨kvs,k,e,_,_⟩ | ⟨kvs,k,b,e,_,_,_⟩
 ·obtain⟨_,_,vs,_,dd⟩:=vb5 I.hok e
  exact dd.typeIs
 ·obtain⟨_,_,xs,_,dd⟩:=vb4 I.hok e
  exact dd.typeIs
def vm1(td ty:TE):TE:=λσ H Q=>td σ H λx H1=>ty σ H1 λy H2=>∃a v,x=.ref a/\wu9 H2 a y (some v)/\Q v H2
def vv0(ty td:TE):TE:=λσ H Q=>ty σ H λy H1=>td σ H1 λx H2=>∃a o,x=.ref a/\wu9 H2 a y o/\Q (.bl o.isSome) H2
def wd8(ty td:TE):TE:=λσ H Q=>ty σ H λy H1=>td σ H1 λx H2=>∃a o,x=.ref a/\wu9 H2 a y o/\Q (.bl (!o.isSome)) H2
def vm8(td ty tv:TE):TS:=λD σ H=>tv σ H λv H1=>td σ H1 λx H2=>ty σ H2 λy H3=>∃a H4,x=.ref a/\vd6 H3 a y v H4/\D.nx σ H4
section
variable{X:Cx}{o i e value:Expr}{pos pos' tpos:Pos}{td ty tv:TE}
def zx3(hu:X.A.units+1<cLine)(ho:PE X o td)(hi:PE X i ty)(hs:vk0 i):PE X (.Subscript o i pos) (vm1 td ty):=by
 intro A3 s σ H Q I h;refine wd9 PySem.F.slot_dict_getitem.lookup hs (thn (ho A3 s σ H _ I h) λu s1 ⟨x,H1,I1,rx,q1⟩=>thn (hi A3 s1 σ H1 _ I1 q1) λiv s2 hI92=>?_);obtain⟨y,H2,I2,ry,a,v,ex,g,q2⟩:=hI92;subst ex;obtain rfl:u=Value.ref a:=rx;exact⟨yx9 I2 g,xq5 hu I2 g ry λw' s3 I3 rw'=>⟨v,H2,I3,rw',q2⟩⟩
def xz7(hu:X.A.units+1<cLine)(hi:PE X i ty)(ho:PE X o td):PC X .In i o (vv0 ty td):=by
 intro A3 s σ H Q I h;refine thn (hi A3 s σ H _ I h) λiv s1 ⟨y,H1,I1,ry,q1⟩=>thn (ho A3 s1 σ H1 _ I1 q1) λu s2 hI93=>?_
 obtain⟨x,H2,I2,rx,a,ov,ex,g,q2⟩:=hI93;subst ex;obtain rfl:u=Value.ref a:=rx;exact vw3 hu I2 g ry λs3 I3=>⟨.bl ov.isSome,H2,I3,rfl,q2⟩
def xk9(hu:X.A.units+1<cLine)(hi:PE X i ty)(ho:PE X o td):PC X .NotIn i o (wd8 ty td):=by
 intro A3 s σ H Q I h;refine thn (hi A3 s σ H _ I h) λiv s1 ⟨y,H1,I1,ry,q1⟩=>thn (ho A3 s1 σ H1 _ I1 q1) λu s2 hI94=>?_
 obtain⟨x,H2,I2,rx,a,ov,ex,g,q2⟩:=hI94;subst ex;obtain rfl:u=Value.ref a:=rx;exact wi1 hu I2 g ry λs3 I3=>⟨.bl (!ov.isSome),H2,I3,rfl,q2⟩
def xj7(hu:X.A.units+1<cLine)(ho:PE X o td)(hi:PE X i ty)(hv:PE X value tv)(hs:swapsWith value (some (.Subscript o i pos')) pos.line X.env=pure false) :
 PS X (.Assign [.Subscript o i pos'] value pos) (vm8 td ty tv):=by
 intro A3 s σ H D I h;refine wpAny_Assign_Subscript (thn (hv A3 s σ H _ I h) λr s1 ⟨v,H1,I1,rv,q1⟩=>thn (ho A3 s1 σ H1 _ I1 q1) λu s2 ⟨x,H2,I2,rx,q2⟩=>thn (hi A3 s2 σ H2 _ I2 q2) λiv s3 hI95=>?_) hs;obtain⟨y,H3,I3,ry,a,H4,ex,g,q3⟩:=hI95;subst ex;obtain rfl:u=Value.ref a:=rx;exact xq4 hu I3 g ry rv λs4 I4=>⟨σ,H4,I4,q3⟩
end
def xx8(h:Heap)(hb:sysModules<h.objs.size):wq9 P w H (h.push { cls:=.type "dict",data:=.dict #[] }) h.objs.size (.dK []):=
 ⟨Be0 _,beq_eq_false_iff_ne.mpr (Ne.symm (An0 hb)),[],.nil,Heap.DictOf.new h⟩
def xc3(h:Heap)(hb:sysModules<h.objs.size):wq9 P w H (h.push { cls:=.type "dict",data:=.dict #[] }) h.objs.size (.dT []):=
 ⟨Be0 _,beq_eq_false_iff_ne.mpr (Ne.symm (An0 hb)),[],.nil,_,#[],0,Ad0 _ rfl,⟨rfl,rfl,rfl⟩,rfl,rfl,List.nodup_nil⟩
def wj7:TE:=λ_ H Q=>∀p,H p=none->Q (.ref p) (upd H p (.dT []))
section
variable{X:Cx}{pos:Pos}
def xv3:PE X (.Dict [] [] pos) wj7:=λA3 s σ H Q I h=>
 wpAny_Dict_empty ⟨.ref s.heap.objs.size,_,I.laid (a:=s.heap.objs.size) (o:=.dT []) (t':=s.toks) (λ_ _ q=>Ab0 _ q) (Ag0 _) (xc3 s.heap I.big),rfl,h _ (I.hok.fresh (Ag0 _))⟩
end
def yz1:List (TE×TE)->St->Hp->(List (V×V)->Hp->Prop)->Prop
 | [],_,H,Q=>Q [] H
 | (tk,tv)::r,σ,H,Q=>tk σ H λx H1=>tv σ H1 λy H2=>yz1 r σ H2 λps H3=>Q ((x,y)::ps) H3
abbrev VV:List (V×V)->List (Value×Value)->Prop:=Paired λp q=>wq2 p.1 q.1/\wq2 p.2 q.2
def PPs(X:Cx)(pos:Pos)(keys:List (Option Expr))(values:List Expr)(trs:List (TE×TE)):Prop:=
 ∀(A3:List (Addr×Obj)) (s:Shared) (σ:St) (H:Hp) (Q:List (V×V)->Hp->Prop),Inv X A3 σ H s->yz1 trs σ H Q->
  wpAny (model X.prog X.w) X.A (evalPairs (pairTrees keys values X.env pos)) (λvs s'=>∃ps H',Inv X A3 σ H' s'/\VV ps vs/\Q ps H') X.xe s
def xj9:PPs X pos [] [] []:=λA3 s σ H Q I h=>pairTrees_nil_walk ⟨[],H,I,.nil,h⟩
def ym8(hk:PE X k tk)(hv:PE X v tv)(hr:PPs X pos ks vs trs) :
 PPs X pos (some k::ks) (v::vs) ((tk,tv)::trs):=λA3 s σ H Q I h=>
 pairTrees_cons_walk (thn (hk A3 s σ H _ I h) λu s1 ⟨x,H1,I1,rx,q1⟩=>thn (hv A3 s1 σ H1 _ I1 q1) λw2 s2 ⟨y,H2,I2,ry,q2⟩=>
  thn (hr A3 s2 σ H2 _ I2 q2) λws s3 ⟨ps,H3,I3,rel,q3⟩=>⟨(x,y)::ps,H3,I3,.cons ⟨rx,ry⟩ rel,q3⟩)
def zz9(kvs more:List (Key×V)):List (Key×V):=more.foldl (λacc kv=>wt2 acc kv.1 kv.2) kvs
theorem KV.merge:∀{more:List (Key×V)} {rs:List (Key×Value)} {kvs:List (Key×V)} {vs:List (Key×Value)},KV more rs->KV kvs vs->KV (zz9 kvs more) (merged vs rs):=by
 intro more rs kvs vs r;unfold KV at r;induction r generalizing kvs vs with
 | nil=>intro q;exact q
 | @cons p q ps qs h t ih=>
   intro r0;have e:KV (wt2 kvs p.1 p.2) (stored vs q.1 q.2):=by
    have:=r0.put p.1 h.2;rw[<-h.1];exact this
   exact ih e
theorem ya1:∀(more kvs:List (Key×V)),(zz9 kvs more).length<=kvs.length+more.length
 | [],kvs=>by show kvs.length<=kvs.length+0;omega
 | p::r,kvs=>by
   have h1:=ya1 r (wt2 kvs p.1 p.2);have h2:=zo6 kvs p.1 p.2;show (zz9 (wt2 kvs p.1 p.2) r).length<=_;rw[Ax0];omega
theorem yl5:∀{kvs:List (Key×V)} {ws:List (Value×Value)},VV (kvs.map λkv=>(kV kv.1,kv.2)) ws->∃rs,Carries (zg6 P w) ws rs/\KV kvs rs
 | [],_,r=>by rw[List.map_nil] at r;cases r;exact⟨[],True.intro,.nil⟩
 | p::kvs,_,r=>by
   rw[Aq0] at r;cases r with
   | @cons a b as bs h t=>
     obtain⟨rs,c,q⟩:=yl5 (P:=P) (w:=w) t;obtain⟨b1,b2⟩:=b;exact⟨(p.1,b2)::rs,⟨wz3 h.1,rfl,c⟩,.cons ⟨rfl,h.2⟩ q⟩
def vh8(trs:List (TE×TE)):TE:=λσ H Q=>∀p,H p=none->yz1 trs σ (upd H p (.dK [])) λps H2=>H2 p=some (.dK [])/\∃kvs:List (Key×V),ps=kvs.map (λkv=>(kV kv.1,kv.2))/\kvs.length<=15/\Q (.ref p) (upd H2 p (.dK (zz9 [] kvs)))
def xk8(h:PPs X pos keys values trs)(hall:keys.all (·.isSome)=true)(hl:keys.length=values.length)(h0:keys≠[])(h15:keys.length<=15):PE X (.Dict keys values pos) (vh8 trs):=by
 intro A3 s σ H Q I q;have hn:=I.hok.fresh (Ag0 s.heap.objs.size);have I1:=I.laid (a:=s.heap.objs.size) (o:=.dK []) (h':=s.heap.push { cls:=.type "dict",data:=.dict #[] }) (t':=s.toks) (λ_ _ q=>Ab0 _ q) (Ag0 _) (xx8 s.heap I.big);refine wpAny_Dict_walk (knd:=zg6 X.prog X.w) hall hl h0 h15 (thn (h A3 _ σ _ _ I1 (q _ hn)) λws s2 hI96=>?_);obtain⟨ps,H2,I2,rel,e,kvs,ep,lk,q2⟩:=hI96;subst ep;obtain⟨rs,c,rk⟩:=yl5 (P:=X.prog) (w:=X.w) rel;obtain⟨z,hd,vs0,r0,dd⟩:=vj7 I2.hok e;cases r0;refine⟨rs,c,dd,λh' dd' hs=>⟨.ref s.heap.objs.size,_,?_,rfl,q2⟩⟩;have hz:(zz9 [] kvs).length<=sizeLine:=by
  have h1:=ya1 kvs [];rw[Cg0] at h1;rw[sizeLine_eq];omega
 have he:∃q,h'.get? s.heap.objs.size=some q:=let ⟨q,_,_,hq,_⟩:=dd';⟨q,hq⟩;exact yi2 I2 (by rw[e];exact True.intro) hs he (wa7 hz hd (rk.merge .nil) dd')
section
variable{X:Cx}{A3:List (Addr×Obj)}{σ:St}{H:Hp}{s:Shared}{a:Addr}{y d:V}{u r:Value}{o:Option V}{A:Around}{E:Value->Shared->Prop}
end
section
variable{X:Cx}{o e f:Expr}{apos cpos:Pos}{td ty tx:TE}{A3:List (Addr×Obj)}{σ:St}{H:Hp}{s:Shared}{a:Addr}{kvs:List (Key×V)}{A:Around}{E:Value->Shared->Prop}{y:V}{u:Value}
end
section
variable{κ:Type}[DecidableEq κ]
end
def wt5(cells:List (Str×Addr)):List (Str×NameKind)->List (Str×Addr)->List (Str×Addr)
 | [],cs=>cs
 | (n,k)::r,cs=>wt5 cells r (if k == .free then (match cells.lookup n with | some a=>(n,a)::cs | none=>cs) else cs)
theorem zv3:∀(names:List (Str×NameKind)) (cs:List (Str×Addr)),(∀y∈names,y.2=.free->∃a,env.cells.lookup y.1=some a)->
 (forIn (m:=Sem) names cs λ(x:Str×NameKind) (r:List (Str×Addr))=>
  match x with
  | (name,kind)=>if (kind == .free)=true then do let a <-cellOf env name;pure (ForInStep.yield ((name,a)::r)) else pure (ForInStep.yield r))=pure (wt5 env.cells names cs)
 | [],cs,_=>rfl
 | (n,k)::r,cs,h=>by
   rw[List.forIn_cons];have ih:=λcs'=>zv3 (env:=env) r cs' λy hy=>h y (Br0 _ hy)
   by_cases hk:(k == NameKind.free)=true
   ·have hk':k=.free:=by simpa using hk
    obtain⟨a,ha⟩:=h (n,k) Bh0 hk';simp only[hk,if_true,wt5,cellOf];have ha':env.cells.lookup n=some a:=ha;rw[ha'];exact ih _
   ·simp only[hk,wt5]
    exact ih _
def yo9(h:∀y∈scope.names,y.2=.free->∃a,env.cells.lookup y.1=some a):closureFor scope env=pure (wt5 env.cells scope.names []):=by
 simp only[closureFor];have e:=zv3 (env:=env) scope.names [] h;have e2:=congrArg (λm:Sem (List (Str×Addr))=>m >>= pure) e;exact e2
def zl9{α:Type}{x n:Str}{v:α}{l:List (Str×α)}:List.lookup x ((n,v)::l)=if x=n then some v else l.lookup x:=by
 rw[List.lookup_cons];by_cases e:x=n
 ·subst e;simp
 ·rw[if_neg e]
  have:(x == n)=false:=by simpa using e
  rw[this]
theorem xc9{cells:List (Str×Addr)}:∀(names:List (Str×NameKind)) (cs:List (Str×Addr)) (x:Str) (c:Addr),
 (∀x c,cs.lookup x=some c->cells.lookup x=some c)->(wt5 cells names cs).lookup x=some c->cells.lookup x=some c
 | [],cs,x,c,h,e=>h x c e
 | (n,k)::r,cs,x,c,h,e=>by
   refine xc9 r _ x c (λy d hy=>?_) e;by_cases hk:(k == NameKind.free)=true
   ·rw[if_pos hk] at hy
    cases ha:cells.lookup n with
    | none=>rw[ha] at hy;exact h y d hy
    | some a=>
      rw[ha] at hy;have hy:List.lookup y ((n,a)::cs)=some d:=hy;rw[zl9] at hy;by_cases e:y=n
      ·rw[if_pos e] at hy;cases hy;rw[e];exact ha
      ·rw[if_neg e] at hy;exact h y d hy
   ·rw[if_neg hk] at hy;exact h y d hy
theorem yu3{cells:List (Str×Addr)}:∀(names:List (Str×NameKind)) (cs:List (Str×Addr)) (x:Str),(∃c,cs.lookup x=some c)->∃c,(wt5 cells names cs).lookup x=some c
 | [],_,_,h=>h
 | (n,k)::r,cs,x,h=>by
   refine yu3 r _ x ?_;by_cases hk:(k == NameKind.free)=true
   ·rw[if_pos hk]
    cases ha:cells.lookup n with
    | none=>exact h
    | some a=>
      show ∃c,List.lookup x ((n,a)::cs)=some c;rw[zl9];by_cases e:x=n
      ·rw[if_pos e];exact⟨_,rfl⟩
      ·rw[if_neg e];exact h
   ·rw[if_neg hk];exact h
theorem xd0{cells:List (Str×Addr)}:∀(names:List (Str×NameKind)) (cs:List (Str×Addr)) (x:Str),(x,NameKind.free)∈names->(∃a,cells.lookup x=some a)->∃c,(wt5 cells names cs).lookup x=some c
 | [],_,_,h,_=>nomatch h
 | (n,k)::r,cs,x,h,ha=>by
   rcases Aj0.mp h with e | h'
   ·have e1:x=n:=congrArg Prod.fst e
    have e2:NameKind.free=k:=congrArg Prod.snd e;subst e1 e2;obtain⟨a,ha⟩:=ha;refine yu3 r _ x ?_;show ∃c,List.lookup x (if (NameKind.free == NameKind.free)=true then (match cells.lookup x with | some a=>(x,a)::cs | none=>cs) else cs)=some c;rw[if_pos (by rfl),ha];show ∃c,List.lookup x ((x,a)::cs)=some c;rw[zl9,if_pos rfl];exact⟨_,rfl⟩
   ·exact xd0 r _ x h' ha
def pick(σ:St)(ixs:List (Option Nat)):St:=ixs.map λo=>match o with
 | some i=>(σ[i]?).join
 | none=>none
def zi0(X:Cx)(N':List Str)(scope:Scope)(cl:List (Str×Addr))(C:Addr)(s:Shared)(H:Hp)(fp:List Addr):Cx:=
 { X with N:=N',s₀:=s,H₀:=H,env:=compEnvC scope cl C X.env,outer:=X.stack,ex:=fp,fn:=λ_=>false,pn:=[],xe:=λ_ _=>False }
def yc1(env:Env)(n:Str)(k:NameKind):NameKind:=if (k == NameKind.free&&env.scope.kind == .function&&env.kindOf n == some .cell)=true then .cell else k
theorem yc6{env:Env}:∀{names:List (Str×NameKind)} {x:Str},(names.map λ(n,k)=>if (k == NameKind.free&&env.scope.kind == .function&&env.kindOf n == some .cell) then (n,NameKind.cell) else (n,k)).lookup x=(names.lookup x).map (yc1 env x)
 | [],_=>rfl
 | (n,k)::r,x=>by
   have ih:=@yc6 env r x;rw[Aq0];have e1:(if (k == NameKind.free&&env.scope.kind == .function&&env.kindOf n == some .cell)=true then (n,NameKind.cell) else (n,k))=(n,yc1 env n k):=by
    unfold yc1;split<;>rfl
   show List.lookup x ((if (k == NameKind.free&&env.scope.kind == .function&&env.kindOf n == some .cell)=true then (n,NameKind.cell) else (n,k))::_)=_;rw[e1,zl9,zl9];by_cases e:x=n
   ·rw[if_pos e,if_pos e,e];rfl
   ·rw[if_neg e,if_neg e];exact ih
structure zk2(X:Cx)(N':List Str)(ixs:List (Option Nat))(scope:Scope):Prop where
 kind:scope.kind=.function
 nocell:∀y∈scope.names,y.2≠.cell
 loc:∀y∈scope.names,y.2=.local->scope.names.lookup y.1=some .local
 len:ixs.length=N'.length
 free:∀y∈scope.names,y.2=.free->X.env.scope.names.lookup y.1=some .cell\/X.env.scope.names.lookup y.1=some .free
 slot:∀(j i:Nat) (y:Str),N'[j]?=some y->ixs[j]?=some (some i)->X.N[i]?=some y/\scope.names.lookup y=some .free
section
variable{X:Cx}{A3:List (Addr×Obj)}{σ:St}{H:Hp}{s:Shared}{N':List Str}{ixs:List (Option Nat)}{scope:Scope}
open H in
def zk2.clos(S:zk2 X N' ixs scope)(I:Inv X A3 σ H s):closureFor scope X.env=pure (wt5 X.env.cells scope.names []):=
 yo9 λy hy hf=>I.ok.has y.1 (S.free y hy hf)
open H in
def Inv.comp{t':Nat}(I:Inv X A3 σ H s)(S:zk2 X N' ixs scope)(hf:∀b∈fp,wx8 X A3 H b)(hlt:∀b∈fp,∃o,s.heap.get? b=some o/\∀v,o.data≠.cell v)(hk:∀b o,s.heap.get? b=some o->h'.get? b=some o)(hn:h'.Ns s.heap.objs.size (λ_=>none)) :
 Inv (zi0 X N' scope (wt5 X.env.cells scope.names []) s.heap.objs.size s H fp) [] (pick σ ixs) H { s with heap:=h',toks:=t' }:=by
 have sub:∀x c,(wt5 X.env.cells scope.names []).lookup x=some c->X.env.cells.lookup x=some c:=λx c e=>xc9 _ _ x c (λ_ _ z=>absurd z (by simp)) e
 have cellOld:∀x c,X.env.cells.lookup x=some c->c<s.heap.objs.size:=λx c e=>by obtain⟨v,z⟩:=I.cell x c e;exact z.lt
 have fpOld:∀b∈fp,b<s.heap.objs.size:=λb hb=>by obtain⟨o,e,_⟩:=hlt b hb;exact Heap.lt_size e
 have kinds:∀x,Env.kindOf (compEnvC scope (wt5 X.env.cells scope.names []) s.heap.objs.size X.env) x=(scope.names.lookup x).map (yc1 X.env x):=λx=>yc6
 have hasF:∀x,scope.names.lookup x=some .free->∃c,(wt5 X.env.cells scope.names []).lookup x=some c:=λx e=>
  xd0 _ _ x (PySem.mem_of_lookup e) (I.ok.has x (S.free _ (PySem.mem_of_lookup e) rfl))
 have freeOf:∀x,(Env.kindOf (compEnvC scope (wt5 X.env.cells scope.names []) s.heap.objs.size X.env) x=some .cell\/Env.kindOf (compEnvC scope (wt5 X.env.cells scope.names []) s.heap.objs.size X.env) x=some .free)->scope.names.lookup x=some .free:=λx e=>by
  rw[kinds x] at e;cases q:scope.names.lookup x with
  | none=>rw[q] at e;rcases e with e | e<;>cases e
  | some k=>
    rw[q] at e;have nc:=S.nocell _ (PySem.mem_of_lookup q);unfold yc1 at e;rcases e with e | e
    ·have e:=Option.some.inj e
     dsimp only at e;split at e
     ·rename_i hh
      have:(k == NameKind.free)=true:=by
       cases hz:(k == NameKind.free) with
       | true=>rfl
       | false=>rw[hz] at hh;simp at hh
      rw[show k=.free by simpa using this]
     ·exact absurd e nc
    ·have e:=Option.some.inj e
     dsimp only at e;split at e
     ·cases e
     ·rw[e]
 refine⟨⟨I.ok.mod,S.kind,I.ok.glob,I.ok.blt,Ag0 _,λx y c h1 h2=>I.ok.inj x y c (sub x c h1) (sub y c h2),λx hx=>hasF x (freeOf x hx),(λ_ _ z _=>Bool.noConfusion z),I.ok.hd,I.ok.frames,.inl rfl,λb hb=>⟨An0 (fpOld b hb),λx c e=>(hf b hb).2.2.2.2.1 x c (sub x c e)⟩,λb o e=>I.bs b o e,Ap0 I.ok.bsz I.sz,λb o e hb=>?_,λb hb z=>?_,I.stack,I.stkFree⟩,rfl,I.bare,Un.kept hk,⟨_,hn,λj x v e1 e2 e3=>?_⟩,λx c e=>?_,I.hok.fresh (Ag0 _),λx c e=>I.freeC x c (sub x c e),(λp hp=>absurd (show p∈([]:List (Addr×Obj)) from hp) (by simp)),I.hok.kept hk,?_⟩
 ·-- base objects are no iterators
  have hf':=hf b hb;rcases hf'.2.2.2.1 with z | z
  ·exact I.ok.noex b o e z
  ·exact absurd (At0 (Heap.lt_size (I.ok.bs b o e).1) z) (Bq0 _)
 ·-- iterators are no frames
  have hf':=hf b hb;rcases Aj0.mp (I.stkSub b z) with e | e
  ·exact hf'.2.1 e
  ·exact hf'.2.2.1 e
 ·-- the names
  have e2':(pick σ ixs)[j]?=some (some v):=e2;unfold pick at e2';rw[Ai0] at e2';cases q:ixs[j]? with
  | none=>rw[q] at e2';cases e2'
  | some o=>
    rw[q] at e2';cases o with
    | none=>cases e2'
    | some i=>
      have e4:(σ[i]?).join=some v:=Option.some.inj e2';have e5:σ[i]?=some (some v):=by
       cases z:σ[i]? with
       | none=>rw[z] at e4;cases e4
       | some a=>rw[z] at e4;rw[show a=some v from e4]
      obtain⟨hx,hfr⟩:=S.slot j i x e1 q;obtain⟨m,_,hl⟩:=I.loc;have vis:Vis X.env.scope x:=by
       rcases S.free _ (PySem.mem_of_lookup hfr) rfl with z | z
       ·exact .inr (.inl z)
       ·exact .inr (.inr z)
      obtain⟨u,r,l⟩:=hl i x v hx e5 vis;refine⟨u,r,.inr ⟨?_,?_⟩⟩
      ·show Env.kindOf (compEnvC scope (wt5 X.env.cells scope.names []) s.heap.objs.size X.env) x=some .cell\/Env.kindOf (compEnvC scope (wt5 X.env.cells scope.names []) s.heap.objs.size X.env) x=some .free
       rw[kinds x,hfr];show some (yc1 X.env x .free)=_\/some (yc1 X.env x .free)=_;unfold yc1;split
       ·exact .inl rfl
       ·exact .inr rfl
      ·obtain⟨c,ec⟩:=hasF x hfr
       refine⟨c,ec,?_⟩;have ec':=sub x c ec;rcases l with⟨k,_⟩ | ⟨_,c2,e6,z⟩
       ·have k':X.env.scope.names.lookup x=some .local:=k
        rcases S.free _ (PySem.mem_of_lookup hfr) rfl with z | z<;>(rw[show ((x,NameKind.free):Str×NameKind).1=x from rfl,k'] at z;cases z)
       ·rw[ec'] at e6;cases e6
        obtain⟨o,ho,hd⟩:=z;exact⟨o,hk c o ho,hd⟩
 ·obtain⟨v,o,ho,hd⟩:=I.cell x c (sub x c e)
  exact⟨v,o,hk c o ho,hd⟩
 ·show (pick σ ixs).length=N'.length
  unfold pick;rw[Aa0];exact S.len
end
section
variable{prog:Program}{w:World}{A:Around}{R:Result->Shared->Prop}{s:Shared}
theorem yo8(I:Nat->Shared->Prop)(turn:∀n s,I n s->wpAny (model prog w) A (pyNext it) (λr s₁=>match r with
  | none=>R (.ok .next) s₁
  | some v=>wpAny (model prog w) A (letOwnedTupleGo target it v) (λ_ s₂=>wpAny (model prog w) A (assign target env v) (λ_ s₃=>
   wpAny (model prog w) A (forIn ifs true λc r=>if r=true then do let ok <-isTrue c env (eval c env);pure (ForInStep.yield ok) else pure (ForInStep.yield r)) (λok s₄=>
    if ok=true then wpAny (model prog w) A (eval elt env) (λx s₅=>
     wpAny (model prog w) A (call (.builtin "list.append") [acc,x]) (λ_ s₆=>∃m,m<n/\I m s₆) (λ_ _=>False) s₅) (λ_ _=>False) s₄
    else ∃m,m<n/\I m s₄) (λ_ _=>False) s₃) (λ_ _=>False) s₂) (λ_ _=>False) s₁) (λ_ _=>False) s)(n:Nat)(h:I n s) :
 codeAny (model prog w) A (.compLoop (.ListComp elt [⟨target,iter,ifs,0⟩] scope pos) 0 it acc env) R s:=by
 refine codeAny_loop rfl I (λn s hI=>?_) n h;show wpAny _ A ((compTurn (.ListComp elt [⟨target,iter,ifs,0⟩] scope pos) 0 it acc env).onRaise (λx=>do noteFrame x env;theTreesLotGoes x)) _ _ s;refine wpAny_noted ?_;rw[compTurn_list];refine Aa1 (wpAny_standAt (Aa1 (Ag1 (turn n s hI) (λr s₁ h₁=>?_) λ_ _ h'=>h'.elim)));cases r with
 | none=>exact Ac1 h₁
 | some v=>
   refine Aa1 (Ag1 h₁ (λ_ s₂ h₂=>Aa1 (Ag1 h₂ (λ_ s₃ h₃=>Aa1 (Ag1 h₃ (λok s₄ h₄=>?_) λ_ _ h'=>h'.elim)) λ_ _ h'=>h'.elim)) λ_ _ h'=>h'.elim);cases ok with
   | false=>exact Ac1 ⟨rfl,h₄⟩
   | true=>
     exact Aa1 (Aa1 (Ag1 h₄ (λx s₅ h₅=>Aa1 (Ag1 h₅ (λ_ s₆ h₆=>Ac1 (Ac1 ⟨rfl,h₆⟩)) λ_ _ h'=>h'.elim)) λ_ _ h'=>h'.elim))
end
def PTs(X:Cx)(ifs:List Expr)(t:TT):Prop:=
 ∀(A3:List (Addr×Obj)) (s:Shared) (σ:St) (H:Hp) (Q:Bool->Hp->Prop),Inv X A3 σ H s->t σ H Q->
  wpAny (model X.prog X.w) X.A (forIn ifs true λc r=>if r=true then do let ok <-isTrue c X.env (eval c X.env);pure (ForInStep.yield ok) else pure (ForInStep.yield r)) (TP X A3 σ Q) X.xe s
def vl5:TT:=λ_ H Q=>Q true H
def we2:PTs X [] vl5:=λ_ _ _ H _ I h=>wpAny_tests_nil ⟨H,I,h⟩
def we1(h:PT X c t):PTs X [c] t:=λA3 s σ H Q I q=>wpAny_tests_one (h A3 s σ H Q I q)
def ve3(wi:TI)(ixs:List (Option Nat))(g:TG)(tc:TT)(te:TE):TE:=λσ H Q=>wi σ H λJ H1=>∀D,H1 D=none->
 ∃W:Nat->Nat->St->Hp->Prop,(∃m,W 0 m (pick σ ixs) (upd H1 D (.lst [])))/\∀i m σ' H',W i m σ' H'->
  (J.stop i H'/\Q (.ref D) H')\/(J.go i H'/\∃N:St->Hp->Prop,(∀σ2 H2,N σ2 H2->∃m',m' < m/\W (i+1) m' σ2 H2)/\∀x H2,J.yld i H' x H2->g x σ' H2 λσ3 H3=>
   tc σ3 H3 λb H4=>if b=true then te σ3 H4 λy H5=>∃ys,H5 D=some (.lst ys)/\ys.length<sizeLine/\N σ3 (upd H5 D (.lst (ys++[y]))) else N σ3 H4)
section
variable{X:Cx}{N':List Str}{ixs:List (Option Nat)}{scope:Scope}{tg iter elt:Expr}{ifs:List Expr}{wi:TI}{g:TG}{tc:TT}{te:TE}{pos spos:Pos}
def yl4{A3:List (Addr×Obj)}{σ:St}{H2:Hp}{s2:Shared}{it:Addr}{fp:List Addr}{tn:Nat->Heap->Prop}{J:It}{E:Value->Shared->Prop}{RR:Value->Addr->Result->Shared->Prop}{Q:VK}(S:zk2 X N' ixs scope)(hc:X.calm=true)(I2:Inv X A3 σ H2 s2)(T:vd9 X.prog X.w X.K tg J fp it tn)(st2:tn 0 s2.heap)(f2:∀b∈fp,wx8 X A3 H2 b)(hin:∀cl C s H fp,PG (zi0 X N' scope cl C s H fp) tg g/\PTs (zi0 X N' scope cl C s H fp) ifs tc/\PE (zi0 X N' scope cl C s H fp) elt te)(hw:∀D,H2 D=none->∃W:Nat->Nat->St->Hp->Prop,(∃m,W 0 m (pick σ ixs) (upd H2 D (.lst [])))/\∀i m σ' H',W i m σ' H'->
  (J.stop i H'/\Q (.ref D) H')\/(J.go i H'/\∃N:St->Hp->Prop,(∀σ2 H2,N σ2 H2->∃m',m' < m/\W (i+1) m' σ2 H2)/\∀x H2,J.yld i H' x H2->g x σ' H2 λσ3 H3=>
   tc σ3 H3 λb H4=>if b=true then te σ3 H4 λy H5=>∃ys,H5 D=some (.lst ys)/\ys.length<sizeLine/\N σ3 (upd H5 D (.lst (ys++[y]))) else N σ3 H4))(hR:∀(D C:Addr) (H':Hp) (s':Shared) (m:Str->Option Value),s'.heap.Ns C m->C≠X.env.locals->H' C=none->X.s₀.heap.objs.size<=C->(∀x c,X.env.cells.lookup x=some c->c≠C)->(∀p∈X.pn++A3,p.1≠C)->C∉X.fs->Inv X A3 σ H' s'->Q (.ref D) H'->RR (.ref D) C (.ok .next) s') :
 wpAny (model X.prog X.w) X.A (newList []) (λacc s₃=>wpAny (model X.prog X.w) X.A (newFunctionEnv scope X.env.globals (wt5 X.env.cells scope.names []) [] X.env.qual none .none (some X.env)) (λcenv s₄=>
  codeAny (model X.prog X.w) X.A (.compStart (.ListComp elt [⟨tg,iter,ifs,0⟩] scope pos) 0 (.ref it) acc { cenv with scope:=relabel scope X.env }) (RR acc cenv.locals) s₄) E s₃) E s2:=by
 have fD:H2 s2.heap.objs.size=none:=I2.hok.fresh (Ag0 _);refine wpAny_newObj_type ?_;have I3:Inv X A3 σ (upd H2 s2.heap.objs.size (.lst [])) { s2 with heap:=s2.heap.push { cls:=.type "list",dict:=none,data:=.seq ([]:List Value).toArray } }:=
  I2.lnew (ys:=[]) (its:=[]) (t':=s2.toks) .nil (Be0 _)
 generalize hs3:({ s2 with heap:=s2.heap.push { cls:=.type "list",dict:=none,data:=.seq ([]:List Value).toArray } }:Shared)=s3 at I3;have kp3:∀b o,s2.heap.get? b=some o->s3.heap.get? b=some o:=λb o e=>by rw[<-hs3];exact Ab0 _ e
 have os3:s3.heap.objs.size=s2.heap.objs.size+1:=by rw[<-hs3];exact Bm0 _ _
 have goal:wpAny (model X.prog X.w) X.A (newFunctionEnv scope X.env.globals (wt5 X.env.cells scope.names []) [] X.env.qual none .none (some X.env)) (λcenv s₄=>
  codeAny (model X.prog X.w) X.A (.compStart (.ListComp elt [⟨tg,iter,ifs,0⟩] scope pos) 0 (.ref it) (.ref s2.heap.objs.size) { cenv with scope:=relabel scope X.env }) (RR (.ref s2.heap.objs.size) cenv.locals) s₄) E s3:=by
  refine wpAny_newFunctionEnv S.nocell (by intro y hy;simp at hy) (λh1 hns hsb=>?_) S.kind;have kp4:∀b o,s3.heap.get? b=some o->h1.get? b=some o:=λb o e=>hsb.extBut b o (An0 (Heap.lt_size e)) (Ab0 _ e)
  have fpO:∀b∈fp,∃o,s2.heap.get? b=some o/\∀v,o.data≠.cell v:=T.obj 0 s2.heap st2;have f3:∀b∈fp,wx8 X A3 (upd H2 s2.heap.objs.size (.lst [])) b:=λb hb=>by
   obtain⟨o,e,_⟩:=fpO b hb;exact⟨by rw[zb3 (An0 (Heap.lt_size e))];exact(f2 b hb).1,(f2 b hb).2⟩
  have I4:=I3.comp (h':=h1) (t':=s3.toks+([]:List (Str×Value)).length) S f3 (λb hb=>let ⟨o,e,d⟩:=fpO b hb;⟨o,kp3 b o e,d⟩) kp4 hns;have st4:tn 0 h1:=T.keep 0 _ _ st2 λb _ o e=>kp4 b o (kp3 b o e)
  show codeAny (model X.prog X.w) X.A (.compStart (.ListComp elt [⟨tg,iter,ifs,0⟩] scope pos) 0 (.ref it) (.ref s2.heap.objs.size) (compEnvC scope (wt5 X.env.cells scope.names []) s3.heap.objs.size X.env)) (RR (.ref s2.heap.objs.size) s3.heap.objs.size) { s3 with heap:=h1,toks:=s3.toks+([]:List (Str×Value)).length };have st4':tn 0 ({ s3 with heap:=h1,toks:=s3.toks+([]:List (Str×Value)).length }:Shared).heap:=st4;generalize ({ s3 with heap:=h1,toks:=s3.toks+([]:List (Str×Value)).length }:Shared)=s4 at I4 st4' ⊢;obtain⟨W,⟨m0,w0⟩,step⟩:=hw s2.heap.objs.size fD;have fpOld:∀b∈fp,b<s3.heap.objs.size:=λb hb=>by
   obtain⟨o,e,_⟩:=fpO b hb;exact Heap.lt_size (kp3 b o e)
  have stat:∀{H':Hp},(∀b∈fp,H' b=none)->∀b∈fp,wx8 (zi0 X N' scope (wt5 X.env.cells scope.names []) s3.heap.objs.size s3 (upd H2 s2.heap.objs.size (.lst [])) fp) [] H' b:=λhn b hb=>
   ⟨hn b hb,An0 (fpOld b hb),λz=>I4.ok.exfs b hb z,.inl hb,(I4.ok.exf b hb).2,λp hp=>absurd (show p∈([]:List (Addr×Obj)) from hp) (by simp)⟩
  have loop:codeAny (model X.prog X.w) X.A (.compLoop (.ListComp elt [⟨tg,iter,ifs,0⟩] scope pos) 0 (.ref it) (.ref s2.heap.objs.size) (compEnvC scope (wt5 X.env.cells scope.names []) s3.heap.objs.size X.env)) (RR (.ref s2.heap.objs.size) s3.heap.objs.size) s4:=by
   obtain⟨hg,ht,he⟩:=hin (wt5 X.env.cells scope.names []) s3.heap.objs.size s3 (upd H2 s2.heap.objs.size (.lst [])) fp;refine yo8 (λn s'=>∃i σ' H',Inv (zi0 X N' scope (wt5 X.env.cells scope.names []) s3.heap.objs.size s3 (upd H2 s2.heap.objs.size (.lst [])) fp) [] σ' H' s'/\tn i s'.heap/\(∀b∈fp,H' b=none)/\W i n σ' H') ?_ m0 ⟨0,_,_,I4,st4',λb hb=>(f3 b hb).1,w0⟩;rintro n s5 ⟨i,σ5,H5,I5,st5,fr5,w5⟩;rcases step i n σ5 H5 w5 with⟨stop,q⟩ | ⟨go,N,hN,go2⟩
   ·refine thn (T.done (zi0 X N' scope (wt5 X.env.cells scope.names []) s3.heap.objs.size s3 (upd H2 s2.heap.objs.size (.lst [])) fp) rfl rfl rfl hc i [] s5 σ5 H5 (λ_ _=>False) I5 (stat fr5) st5 stop) λr s6 hI97=>?_
    obtain⟨hr,I6⟩:=hI97;subst hr;obtain⟨m,hm,_⟩:=I6.loc;refine hR _ _ H5 s6 m hm (Ne.symm (An0 I3.lt)) I6.free I3.sz (λx c e z=>?_) (λp hp z=>?_) (I3.nofs (Ag0 _)) (I3.call' (ch:=fp) I6.os I6.base I6.hok I6.bare λb hb=>⟨(f3 b hb).2.2.2.1,(f3 b hb).2.1,(f3 b hb).2.2.2.2.1,(f3 b hb).2.2.2.2.2⟩) q
    ·obtain⟨v,y⟩:=I3.cell x c e
     have:=y.lt;rw[z] at this;exact absurd this (Bq0 _)
    ·have:=Heap.lt_size (I3.pin p hp).1
     rw[z] at this;exact absurd this (Bq0 _)
   ·refine thn (T.item (zi0 X N' scope (wt5 X.env.cells scope.names []) s3.heap.objs.size s3 (upd H2 s2.heap.objs.size (.lst [])) fp) rfl rfl rfl hc i [] s5 σ5 H5 (λ_ _=>False) I5 (stat fr5) st5 go) λr s6 hI98=>?_
    obtain⟨u,hr,h6⟩:=hI98;subst hr;refine thn h6 λ_ s7 hI99=>?_
    obtain⟨x,H7,I7,r7,y7,st7,fr7⟩:=hI99;have I7':=I7.pinned (stat fr7) (T.obj _ _ st7);refine thn (hg _ s7 σ5 H7 x u _ I7' r7 (go2 x H7 y7)) λ_ s8 hI100=>?_
    obtain⟨σ8,H8,I8,q8⟩:=hI100;refine thn (ht _ s8 σ8 H8 _ I8 q8) λok s9 hI101=>?_
    obtain⟨H9,I9,q9⟩:=hI101;have again:∀{sz:Shared} {σz:St} {Hz:Hp},Inv (zi0 X N' scope (wt5 X.env.cells scope.names []) s3.heap.objs.size s3 (upd H2 s2.heap.objs.size (.lst [])) fp) ([]++yr0 fp s7.heap) σz Hz sz->N σz Hz->
     ∃m,m<n/\∃i σ' H',Inv (zi0 X N' scope (wt5 X.env.cells scope.names []) s3.heap.objs.size s3 (upd H2 s2.heap.objs.size (.lst [])) fp) [] σ' H' sz/\tn i sz.heap/\(∀b∈fp,H' b=none)/\W i m σ' H':=λ{sz σz Hz} Iz nz=>by
     obtain⟨m',hm,wz⟩:=hN σz Hz nz;refine⟨m',hm,i+1,σz,Hz,Iz.unpinned,T.keep _ _ _ st7 λb hb o e=>(Iz.pin (b,o) (Az0 _ (Az0 _ (zv9 hb e)))).1,λb hb=>?_,wz⟩;obtain⟨o,e,d⟩:=T.obj _ _ st7 b hb;exact(Iz.pin (b,o) (Az0 _ (Az0 _ (zv9 hb e)))).2.1
    cases ok with
    | false=>
      rw[if_neg (by decide)] at q9 ⊢;exact again I9 q9
    | true=>
      rw[if_pos rfl] at q9 ⊢;refine thn (he _ s9 σ8 H9 _ I9 q9) λv s10 hI102=>?_
      obtain⟨y,H10,I10,r10,ys,hD,hz,q10⟩:=hI102;refine thn (zl8 _ s10 σ8 H10 (.ref s2.heap.objs.size) [y] (.ref s2.heap.objs.size) [v] (λ_ H=>N σ8 H) I10 rfl (.cons r10 .nil) ⟨_,ys,y,rfl,rfl,hD,hz,q10⟩) λ_ s11 hI103=>?_
      obtain⟨_,H11,I11,_,q11⟩:=hI103;exact again I11 q11
  refine codeAny_compStart_list loop (T.self _ 0 _ _ _ st4' loop)
 exact goal
def we8(S:zk2 X N' ixs scope)(hc:X.calm=true)(hi:PI X tg iter wi)(hin:∀cl C s H fp,PG (zi0 X N' scope cl C s H fp) tg g/\PTs (zi0 X N' scope cl C s H fp) ifs tc/\PE (zi0 X N' scope cl C s H fp) elt te)(hs:∀x,foldedSetIterable iter X.env x=pure x:=by intro _;rfl) :
 PE X (.ListComp elt [⟨tg,iter,ifs,0⟩] scope pos) (ve3 wi ixs g tc te):=by
 intro A3 s σ H Q I h;rw[eval_ListComp];refine wpAny_comprehension_free (use:=none) rfl hs (S.clos I) S.kind S.loc (thn (hi A3 s σ H _ I h) λv s1 h1=>thn h1 λitv s2 h2=>?_);obtain⟨it,fp,tn,J,H2,rfl,I2,T,st2,f2,hw⟩:=h2;refine yl4 (RR:=λacc C=>compPost (model X.prog X.w) X.A X.xe none (EP X A3 σ Q) acc C) S hc I2 T st2 f2 hin hw ?_;intro D C H' s' m hn hL hC hsz hcl hpn hfs I' q;refine⟨m,hn,λh' hs'=>⟨.ref D,H',?_,rfl,q⟩⟩;exact I'.turned (t':=s'.toks) (λb o hb e=>hs'.extBut b o hb e) hC hL (.inr hsz) hcl hpn
open H in
def we4{i:Nat}{y:Str}(S:zk2 X N' ixs scope)(hc:X.calm=true)(hN:X.N.Nodup)(hi:X.N[i]?=some y)(hy:X.env.scope.names.lookup y=some .local)(hit:PI X tg iter wi)(hin:∀cl C s H fp,PG (zi0 X N' scope cl C s H fp) tg g/\PTs (zi0 X N' scope cl C s H fp) ifs tc/\PE (zi0 X N' scope cl C s H fp) elt te)(hsw:swapsWith (.ListComp elt [⟨tg,iter,ifs,0⟩] scope pos) (some (.Name y py)) spos.line X.env=pure true)(hs:∀x,foldedSetIterable iter X.env x=pure x:=by intro _;rfl) :
 PS X (.Assign [.Name y py] (.ListComp elt [⟨tg,iter,ifs,0⟩] scope pos) spos) (ve5 (ve3 wi ixs g tc te) (wz4 i)):=by
 intro A3 s σ H D I h;rw[exec_Assign_Name_used _ _ _ _ hsw];refine Aa1 (wpAny_standAt (Aa1 ?_));show wpAny _ X.A (do let _ <-comprehension (.ListComp elt [⟨tg,iter,ifs,0⟩] scope pos) scope X.env _ (newList []) false (eval iter X.env) (some (assign (.Name y py) X.env))) _ _ s;refine Aa1 (Ag1 (wpAny_comprehension_free (use:=some (assign (.Name y py) X.env)) (Q:=λ_ s'=>SP X A3 D .next s') rfl hs (S.clos I) S.kind S.loc (thn (hit A3 s σ H _ I h) λv s1 h1=>thn h1 λitv s2 h2=>?_)) (λ_ s' hq=>Ac1 (Ac1 hq)) λ_ _ e=>e);obtain⟨it,fp,tn,J,H2,rfl,I2,T,st2,f2,hw⟩:=h2;refine yl4 (Q:=λx H1=>wz4 i x σ H1 D.nx) (RR:=λacc C=>compPost (model X.prog X.w) X.A X.xe (some (assign (.Name y py) X.env)) (λ_ s'=>SP X A3 D .next s') acc C) S hc I2 T st2 f2 hin hw ?_;intro D' C H' s' m hn hL hC hsz hcl hpn hfs I' q;show wpAny _ X.A (assign (.Name y py) X.env (.ref D')) _ _ _;refine wpAny_assign_Name (yp9 (v:=V.ref D') I' hN hi (.inl hy) rfl (λs3 I3 hI104=>?_) (.inr hy));obtain⟨a,hsb,ha⟩:=hI104;have hCa:C≠a:=by
  rcases ha with rfl | ha
  ·exact hL
  ·exact λz=>hcl y a ha z.symm
 refine⟨m,hn.sameBut hsb hCa,λh' hs'=>⟨_,H',?_,q⟩⟩;exact I3.turned (t':=s3.toks) (λb o hb e=>hs'.extBut b o hb e) hC hL (.inr hsz) hcl hpn
end
inductive D where
 | non | bl (b:Bool) | int (i:Int) | str (x:Str) | tup (l:List D) | lst (l:List D) | dct (ks vs:List D) | fl (l:List D) | fd (ks vs:List D)
def wx2:Key->D
 | .inl i=>.int i
 | .inr x=>.str x
def wp9(k:List Key):D:=.tup (k.map wx2)
mutual
def Is(K:PySem.W.Frag)(A:Addr->Prop)(H:Hp):D->V->Prop
 | .non,v=>v=.non
 | .bl b,v=>v=.bl b
 | .int i,v=>v=.int i
 | .str x,v=>v=.str x
 | .tup l,v=>∃a vs,v=.ref a/\H a=some (.tup vs)/\IsL K A H l vs
 | .lst l,v=>∃a vs,v=.ref a/\A a/\H a=some (.lst vs)/\IsL K A H l vs
 | .dct ks l,v=>∃a vs,v=.ref a/\A a/\IsL K A H l vs/\
  ((∃kk:List Key,ks=kk.map wx2/\kk.length=vs.length/\H a=some (.dK (kk.zip vs)))\/(∃kk:List (List Key),ks=D.non::kk.map wp9/\kk.length=vs.length/\H a=some (.dT (kk.zip vs))))
 | .fl l,v=>∃a o vs,v=.ref a/\H a=some (.frz o (.lst vs))/\IsL K A H l vs
 | .fd ks l,v=>∃(a:Addr) (o:Obj) (vs:List V) (kk:List (List Key)),v=.ref a/\ks=kk.map wp9/\kk.length=vs.length/\H a=some (.frz o (.dT (kk.zip vs)))/\IsL K A H l vs
def IsL(K:PySem.W.Frag)(A:Addr->Prop)(H:Hp):List D->List V->Prop
 | [],vs=>vs=[]
 | d::l,vs=>∃v r,vs=v::r/\Is K A H d v/\IsL K A H l r
end
def vj9(o:HO):Prop:=(∃u,o=.tup u)\/∃ob u,o=.frz ob u
structure wq8(A A':Addr->Prop)(H H':Hp):Prop where
 sty:∀b o,H b=some o->vj9 o->H' b=some o
 nod:∀b o,A b->H b=some o->A' b/\H' b=some o
section
variable{K:PySem.W.Frag}{A A':Addr->Prop}{H H':Hp}
def wq8.tup(k:wq8 A A' H H')(b:Addr)(u:List V)(h:H b=some (.tup u)):H' b=some (.tup u):=k.sty b _ h (.inl ⟨_,rfl⟩)
def wq8.frz(k:wq8 A A' H H')(b:Addr)(o:Obj)(u:HO)(h:H b=some (.frz o u)):H' b=some (.frz o u):=k.sty b _ h (.inr ⟨_,_,rfl⟩)
mutual
theorem Is.mono(k:wq8 A A' H H'):∀{d:D} {v:V},Is K A H d v->Is K A' H' d v
 | .non,_,h=>h
 | .bl _,_,h=>h
 | .int _,_,h=>h
 | .str _,_,h=>h
 | .tup l,v,h=>by
   unfold Is at h ⊢;obtain⟨a,vs,e,q,i⟩:=h;exact⟨a,vs,e,k.tup a vs q,IsL.mono k i⟩
 | .lst l,v,h=>by
   unfold Is at h ⊢;obtain⟨a,vs,e,n,q,i⟩:=h;exact⟨a,vs,e,(k.nod a _ n q).1,(k.nod a _ n q).2,IsL.mono k i⟩
 | .dct ks l,v,h=>by
   unfold Is at h ⊢;obtain⟨a,vs,e,n,i,q⟩:=h;refine⟨a,vs,e,?_,IsL.mono k i,?_⟩
   ·rcases q with⟨_,_,_,q⟩ | ⟨_,_,_,q⟩<;>exact(k.nod a _ n q).1
   ·rcases q with⟨kk,e1,e2,q⟩ | ⟨kk,e1,e2,q⟩
    ·exact .inl ⟨kk,e1,e2,(k.nod a _ n q).2⟩
    ·exact .inr ⟨kk,e1,e2,(k.nod a _ n q).2⟩
 | .fl l,v,h=>by
   unfold Is at h ⊢;obtain⟨a,o,vs,e,q,i⟩:=h;exact⟨a,o,vs,e,k.frz a o _ q,IsL.mono k i⟩
 | .fd ks l,v,h=>by
   unfold Is at h ⊢;obtain⟨a,o,vs,kk,e,e1,e2,q,i⟩:=h;exact⟨a,o,vs,kk,e,e1,e2,k.frz a o _ q,IsL.mono k i⟩
theorem IsL.mono(k:wq8 A A' H H'):∀{l:List D} {vs:List V},IsL K A H l vs->IsL K A' H' l vs
 | [],_,h=>h
 | d::l,vs,h=>by
   unfold IsL at h ⊢;obtain⟨v,r,e,i,j⟩:=h;exact⟨v,r,e,Is.mono k i,IsL.mono k j⟩
end
def IsL.nil:IsL K A H [] vs↔vs=[]:=by unfold IsL;rfl
def IsL.cons{d:D}{l:List D}{vs:List V}:IsL K A H (d::l) vs↔∃v r,vs=v::r/\Is K A H d v/\IsL K A H l r:=by conv=>lhs;unfold IsL
theorem IsL.length:∀{l:List D} {vs:List V},IsL K A H l vs->l.length=vs.length
 | [],vs,h=>by rw[IsL.nil.mp h];rfl
 | d::l,vs,h=>by
   obtain⟨v,r,e,_,j⟩:=IsL.cons.mp h;rw[e,Ax0,Ax0,IsL.length j]
theorem IsL.get:∀{l:List D} {vs:List V} {i:Nat} {d:D},IsL K A H l vs->l[i]?=some d->∃v,vs[i]?=some v/\Is K A H d v
 | [],_,_,_,_,e=>by simp at e
 | x::l,vs,0,d,h,e=>by
   obtain⟨v,r,e',i,_⟩:=IsL.cons.mp h;simp at e;subst e e';exact⟨v,rfl,i⟩
 | x::l,vs,i+1,d,h,e=>by
   obtain⟨v,r,e',_,j⟩:=IsL.cons.mp h;subst e';simpa using IsL.get (i:=i) j (by simpa using e)
theorem IsL.append:∀{l m:List D} {vs us:List V},IsL K A H l vs->IsL K A H m us->IsL K A H (l++m) (vs++us)
 | [],m,vs,us,h,g=>by rw[IsL.nil.mp h];exact g
 | d::l,m,vs,us,h,g=>by
   obtain⟨v,r,e,i,j⟩:=IsL.cons.mp h;subst e;exact IsL.cons.mpr ⟨v,r++us,rfl,i,IsL.append j g⟩
def IsL.one{d:D}{v:V}(h:Is K A H d v):IsL K A H [d] [v]:=IsL.cons.mpr ⟨v,[],rfl,h,IsL.nil.mpr rfl⟩
theorem IsL.take:∀{l:List D} {vs:List V} (n:Nat),IsL K A H l vs->IsL K A H (l.take n) (vs.take n)
 | _,_,0,_=>by simp only[List.take_zero];exact IsL.nil.mpr rfl
 | [],vs,n+1,h=>by rw[IsL.nil.mp h];simp only[List.take_nil];exact IsL.nil.mpr rfl
 | d::l,vs,n+1,h=>by
   obtain⟨v,r,e,i,j⟩:=IsL.cons.mp h;subst e;exact IsL.cons.mpr ⟨v,r.take n,rfl,i,IsL.take n j⟩
theorem IsL.drop:∀{l:List D} {vs:List V} (n:Nat),IsL K A H l vs->IsL K A H (l.drop n) (vs.drop n)
 | _,_,0,h=>by simpa only[Cm0] using h
 | [],vs,n+1,h=>by rw[IsL.nil.mp h];simp only[List.drop_nil];exact IsL.nil.mpr rfl
 | d::l,vs,n+1,h=>by
   obtain⟨v,r,e,i,j⟩:=IsL.cons.mp h;subst e;exact IsL.drop n j
theorem IsL.set:∀{l:List D} {vs:List V} (n:Nat) {d:D} {v:V},IsL K A H l vs->Is K A H d v->IsL K A H (l.set n d) (vs.set n v)
 | [],vs,n,d,v,h,_=>by rw[IsL.nil.mp h];simp only[List.set_nil];exact IsL.nil.mpr rfl
 | x::l,vs,0,d,v,h,g=>by
   obtain⟨w,r,e,i,j⟩:=IsL.cons.mp h;subst e;exact IsL.cons.mpr ⟨v,r,rfl,g,j⟩
 | x::l,vs,n+1,d,v,h,g=>by
   obtain⟨w,r,e,i,j⟩:=IsL.cons.mp h;subst e;exact IsL.cons.mpr ⟨w,r.set n v,rfl,i,IsL.set n j g⟩
end
mutual
def D.imm:D->Bool
 | .tup l=>D.immL l
 | .lst _=>false
 | .dct _ _=>false
 | .fd _ _=>false
 | .fl l=>D.immL l
 | _=>true
def D.immL:List D->Bool
 | []=>true
 | d::l=>D.imm d&&D.immL l
end
section
variable{K:PySem.W.Frag}{A A':Addr->Prop}{H:Hp}
mutual
theorem Is.ofImm:∀{d:D} {v:V},d.imm=true->Is K A H d v->Is K A' H d v
 | .non,_,_,h=>h
 | .bl _,_,_,h=>h
 | .int _,_,_,h=>h
 | .str _,_,_,h=>h
 | .tup l,v,m,h=>by
   unfold Is at h ⊢;obtain⟨a,vs,e,q,i⟩:=h;exact⟨a,vs,e,q,IsL.ofImm (by simpa [D.imm] using m) i⟩
 | .lst l,v,m,_=>by simp[D.imm] at m
 | .dct _ l,v,m,_=>by simp[D.imm] at m
 | .fd _ l,v,m,_=>by simp[D.imm] at m
 | .fl l,v,m,h=>by
   unfold Is at h ⊢;obtain⟨a,o,vs,e,q,i⟩:=h;exact⟨a,o,vs,e,q,IsL.ofImm (by simpa [D.imm] using m) i⟩
theorem IsL.ofImm:∀{l:List D} {vs:List V},D.immL l=true->IsL K A H l vs->IsL K A' H l vs
 | [],_,_,h=>h
 | d::l,vs,m,h=>by
   have m':d.imm=true/\D.immL l=true:=by simpa [D.immL] using m
   unfold IsL at h ⊢;obtain⟨v,r,e,i,j⟩:=h;exact⟨v,r,e,Is.ofImm m'.1 i,IsL.ofImm m'.2 j⟩
end
def Is.tup{a:Addr}{vs:List V}{l:List D}(h:H a=some (.tup vs))(i:IsL K A H l vs):Is K A H (.tup l) (.ref a):=by
 unfold Is;exact⟨a,vs,rfl,h,i⟩
def Is.lst{a:Addr}{vs:List V}{l:List D}(n:A a)(h:H a=some (.lst vs))(i:IsL K A H l vs):Is K A H (.lst l) (.ref a):=by
 unfold Is;exact⟨a,vs,rfl,n,h,i⟩
def Is.int_iff{i:Int}:Is K A H (.int i) v↔v=.int i:=by unfold Is;rfl
def Is.bl_iff{i:Bool}:Is K A H (.bl i) v↔v=.bl i:=by unfold Is;rfl
def Is.str_iff{i:Str}:Is K A H (.str i) v↔v=.str i:=by unfold Is;rfl
def Is.non_iff:Is K A H .non v↔v=.non:=by unfold Is;rfl
def Is.tup_iff:Is K A H (.tup l) v↔∃a vs,v=.ref a/\H a=some (.tup vs)/\IsL K A H l vs:=by conv=>lhs;unfold Is
def Is.tup_sq(h:Is K A H (.tup l) v):∃a vs,v=.ref a/\SqT K H a vs/\IsL K A H l vs:=let ⟨a,vs,e,s,i⟩:=Is.tup_iff.mp h;⟨a,vs,e,.of s,i⟩
def Is.lst_iff:Is K A H (.lst l) v↔∃a vs,v=.ref a/\A a/\H a=some (.lst vs)/\IsL K A H l vs:=by conv=>lhs;unfold Is
def Is.fl_iff:Is K A H (.fl l) v↔∃a o vs,v=.ref a/\H a=some (.frz o (.lst vs))/\IsL K A H l vs:=by conv=>lhs;unfold Is
def Is.fd_iff{ks l:List D}{v:V}:Is K A H (.fd ks l) v↔∃(a:Addr) (o:Obj) (vs:List V) (kk:List (List Key)),v=.ref a/\ks=kk.map wp9/\kk.length=vs.length/\H a=some (.frz o (.dT (kk.zip vs)))/\IsL K A H l vs:=by conv=>lhs;unfold Is
def Is.dct_iff:Is K A H (.dct ks l) v↔∃a vs,v=.ref a/\A a/\IsL K A H l vs/\
 ((∃kk:List Key,ks=kk.map wx2/\kk.length=vs.length/\H a=some (.dK (kk.zip vs)))\/(∃kk:List (List Key),ks=D.non::kk.map wp9/\kk.length=vs.length/\H a=some (.dT (kk.zip vs)))):=by conv=>lhs;unfold Is
end
structure Exn where
 cls:Str
 args:List D
inductive Res(S α:Type) where
 | ok (a:α) (st:S) | exc (x:Exn) (st:S) | bad
variable{S α β γ:Type}
def Res.bind(r:Res S α)(k:α->S->Res S β):Res S β:=match r with
 | .ok a st=>k a st
 | .exc x st=>.exc x st
 | .bad=>.bad
def wpR(r:Res S α)(Q:α->S->Prop)(E:Exn->S->Prop):Prop:=match r with
 | .ok a st=>Q a st
 | .exc x st=>E x st
 | .bad=>False
def za3:wpR (r.bind k) Q E↔wpR r (λa st=>wpR (k a st) Q E) E:=by
 cases r<;>rfl
theorem za6{r:Res S α}{Q Q':α->S->Prop}{E E':Exn->S->Prop}(h:wpR r Q E)(hQ:∀a st,Q a st->Q' a st)(hE:∀x st,E x st->E' x st):wpR r Q' E':=by
 cases r with
 | ok a st=>exact hQ a st h
 | exc x st=>exact hE x st h
 | bad=>exact h.elim
def wr1(o:Option α)(st:S):Res S α:=match o with
 | some a=>.ok a st
 | none=>.bad
theorem zb2{o:Option α}{st:S}{Q:α->S->Prop}{E:Exn->S->Prop}:wpR (wr1 o st) Q E↔∃a,o=some a/\Q a st:=by
 cases o with
 | none=>constructor
         ·intro h;exact h.elim
         ·rintro ⟨a,e,_⟩;cases e
 | some a=>constructor
           ·intro h;exact⟨a,rfl,h⟩
           ·rintro ⟨b,e,q⟩;cases e;exact q
@[simp] theorem Res.bind_ok (a:α) (st:S) (k:α->S->Res S β):(Res.ok a st).bind k=k a st:=rfl
structure Wd(S:Type) where
 ok:S->Hp->Prop
 mv:Addr->Prop
 h:V
 stay:∀st H H',ok st H->(∀b o,mv b->H b=some o->H' b=some o)->ok st H'
 live:∀st H b,ok st H->mv b->∃o,H b=some o/\(∀u,o≠.tup u)/\∀ob u,o≠.frz ob u
def W0:Wd Unit:=⟨λ_ _=>True,λ_=>False,.non,λ_ _ _ h _=>h,λ_ _ _ _ h=>h.elim⟩
inductive Sl where
 | no | bor (d:D) | own (d:D) | hnd
abbrev Rho:=List Sl
structure Dx{S:Type}(W:Wd S) where
 K:PySem.W.Frag
 H0:Hp
 Ex:Exn->S->Hp->Prop
 /-- addresses that no tree holds (a comprehension's list while it grows) -/
 av:Addr->Prop
def Ext{S:Type}(W:Wd S)(H H':Hp):Prop:=∀b o,H b=some o->¬W.mv b->H' b=some o
def Ext.refl{S:Type}{W:Wd S}{H:Hp}:Ext W H H:=λ_ _ h _=>h
def Ext.trans{S:Type}{W:Wd S}{H H1 H2:Hp}(a:Ext W H H1)(b:Ext W H1 H2):Ext W H H2:=λc o h n=>b c o (a c o h n) n
def Ext.laid{S:Type}{W:Wd S}{H:Hp}{p:Addr}{o:HO}(h:H p=none):Ext W H (upd H p o):=λb u e _=>by rw[zb3 (zb7 e h)];exact e
def ww1.ext{S:Type}{W:Wd S}{H H':Hp}(h:ww1 H H'):Ext W H H':=λb o e _=>h b o e
def Ow(σ:St)(ρ:Rho)(b:Addr):Prop:=∃(i:Nat) (d:D),ρ[i]?=some (Sl.own d)/\σ[i]?=some (some (V.ref b))
def Av{S:Type}{W:Wd S}(c:Dx W)(σ:St)(ρ:Rho)(b:Addr):Prop:=¬W.mv b/\¬Ow σ ρ b/\¬c.av b
def Top(K:PySem.W.Frag)(A:Addr->Prop)(H:Hp)(d:D)(a:Addr):Prop:=match d with
 | .lst l=>∃vs,H a=some (.lst vs)/\IsL K A H l vs
 | .dct ks l=>∃vs,IsL K A H l vs/\((∃kk:List Key,ks=kk.map wx2/\kk.length=vs.length/\H a=some (.dK (kk.zip vs)))\/(∃kk:List (List Key),ks=D.non::kk.map wp9/\kk.length=vs.length/\H a=some (.dT (kk.zip vs))))
 | _=>False
def wb1{S:Type}{W:Wd S}(c:Dx W)(H:Hp)(A:Addr->Prop)(ov:Option V):Sl->Prop
 | .no=>True
 | .bor d=>∃v,ov=some v/\Is c.K A H d v
 | .own d=>∃a,ov=some (.ref a)/\(¬W.mv a/\¬c.av a)/\c.H0 a=none/\Top c.K A H d a
 | .hnd=>ov=some W.h
structure Rep{S:Type}{W:Wd S}(c:Dx W)(H:Hp)(σ:St)(ρ:Rho):Prop where
 len:σ.length=ρ.length
 frame:∀b o,c.H0 b=some o->¬W.mv b->H b=some o
 slot:∀(i:Nat) (s:Sl),ρ[i]?=some s->wb1 c H (Av c σ ρ) (σ[i]?).join s
 avl:∀b,c.av b->¬W.mv b/\c.H0 b=none/\∃o,H b=some o/\(∀u,o≠.tup u)/\∀ob u,o≠.frz ob u
 uniq:∀(i j:Nat) (a:Addr) (d e:D),ρ[i]?=some (.own d)->ρ[j]?=some (.own e)->σ[i]?=some (some (.ref a))->σ[j]?=some (some (.ref a))->i=j
section
variable{S:Type}{W:Wd S}{c:Dx W}{H H':Hp}{σ:St}{ρ:Rho}{A A':Addr->Prop}
theorem Top.isTop(n:A a)(h:Top c.K A H d a):Is c.K A H d (.ref a):=by
 cases d with
 | lst l=>obtain⟨vs,e,i⟩:=h;exact Is.lst n e i
 | dct ks l=>obtain⟨vs,i,q⟩:=h;exact Is.dct_iff.mpr ⟨a,vs,rfl,n,i,q⟩
 | _=>exact h.elim
theorem Top.there(h:Top c.K A H d a):∃o,H a=some o/\(∀u,o≠.tup u)/\∀ob u,o≠.frz ob u:=by
 cases d with
 | lst l=>obtain⟨vs,e,i⟩:=h;exact⟨_,e,(λu z=>by cases z),(λob u z=>by cases z)⟩
 | dct ks l=>
   obtain⟨vs,i,⟨_,_,_,q⟩ | ⟨_,_,_,q⟩⟩:=h
   ·exact⟨_,q,(λu z=>by cases z),(λob u z=>by cases z)⟩
   ·exact⟨_,q,(λu z=>by cases z),(λob u z=>by cases z)⟩
 | _=>exact h.elim
theorem Top.mono{d:D}{a:Addr}(k:wq8 A A' H H')(e:∀o,H a=some o->H' a=some o)(h:Top c.K A H d a):Top c.K A' H' d a:=by
 cases d with
 | lst l=>obtain⟨vs,q,i⟩:=h;exact⟨vs,e _ q,i.mono k⟩
 | dct ks l=>
   obtain⟨vs,i,⟨kk,e1,e2,q⟩ | ⟨kk,e1,e2,q⟩⟩:=h
   ·exact⟨vs,i.mono k,.inl ⟨kk,e1,e2,e _ q⟩⟩
   ·exact⟨vs,i.mono k,.inr ⟨kk,e1,e2,e _ q⟩⟩
 | _=>exact h.elim
def Rep.owOk(R:Rep c H σ ρ)(h:Ow σ ρ b):¬W.mv b/\c.H0 b=none/\∃o,H b=some o/\(∀u,o≠.tup u)/\∀ob u,o≠.frz ob u:=by
 obtain⟨i,d,e1,e2⟩:=h;obtain⟨a,e,n,f,t⟩:=R.slot i _ e1;rw[e2] at e;have e:some (V.ref b)=some (V.ref a):=e;cases e;exact⟨n.1,f,t.there⟩
def zl2(ht:∀b o,H b=some o->(∃u,o=.tup u)\/(∃ob u,o=.frz ob u)->H' b=some o)(hn:∀b o,A b->H b=some o->A' b/\H' b=some o):wq8 A A' H H':=
 ⟨ht,hn⟩
def Ext.keepT{st:S}(e:Ext W H H')(ok:W.ok st H)(hA:∀b,A b->¬W.mv b/\A' b):wq8 A A' H H':=
 zl2 (λb o h t=>e b o h λm=>by
  obtain⟨o',h',n1,n2⟩:=W.live st H b ok m;rw[h] at h';cases h';rcases t with⟨u,z⟩ | ⟨ob,u,z⟩
  ·exact n1 u z
  ·exact n2 ob u z) λb o a h=>⟨(hA b a).2,e b o h (hA b a).1⟩
def Rep.ext{st:S}(R:Rep c H σ ρ)(ok:W.ok st H)(e:Ext W H H'):Rep c H' σ ρ where
 len:=R.len
 frame:=λb o h n=>e b o (R.frame b o h n) n
 avl:=λb h=>let ⟨n,z,o,h',q⟩:=R.avl b h;⟨n,z,o,e b o h' n,q⟩
 uniq:=R.uniq
 slot:=λi s h=>by
  have k:wq8 (Av c σ ρ) (Av c σ ρ) H H':=e.keepT ok λb a=>⟨a.1,a⟩
  have q:=R.slot i s h;cases s with
  | no=>trivial
  | bor d=>obtain⟨v,e1,i1⟩:=q;exact⟨v,e1,i1.mono k⟩
  | own d=>obtain⟨a,e1,n,f,t⟩:=q;exact⟨a,e1,n,f,t.mono k λo z=>e a o z n.1⟩
  | hnd=>exact q
end
def D.mut:D->Bool
 | .lst _=>true
 | .dct _ _=>true
 | _=>false
inductive Gr where
 | R | B | F
def Val{S:Type}{W:Wd S}(c:Dx W)(g:Gr)(σ:St)(ρ:Rho)(H H':Hp)(d:D)(v:V):Prop:=match g with
 | .R=>Is c.K (λb=>¬W.mv b) H' d v
 | .B=>Is c.K (Av c σ ρ) H' d v
 | .F=>Is c.K (Av c σ ρ) H' d v/\∀a,v=.ref a->d.mut=true->H a=none
section
variable{S:Type}{W:Wd S}{c:Dx W}{H H1 H':Hp}{σ:St}{ρ:Rho}{d:D}{v:V}{g:Gr}
theorem Val.toR(h:Val c g σ ρ H H' d v):Val c .R σ ρ H H' d v:=by
 have k:wq8 (Av c σ ρ) (λb=>¬W.mv b) H' H':=⟨λ_ _ z _=>z,λb o a z=>⟨a.1,z⟩⟩;cases g with
 | R=>exact h
 | B=>exact Is.mono k h
 | F=>exact Is.mono k h.1
def Val.toB(h:Val c .F σ ρ H H' d v):Val c .B σ ρ H H' d v:=h.1
theorem Val.imm(m:d.imm=true)(h:Val c .R σ ρ H H' d v)(g:Gr):Val c g σ ρ H H' d v:=by
 cases g with
 | R=>exact h
 | B=>exact Is.ofImm m h
 | F=>refine⟨Is.ofImm m h,λa e z=>?_⟩
      cases d<;>simp[D.mut,D.imm] at z m
end
abbrev Fn(S:Type):=Rho->S->Res S D
def tD{S:Type}{W:Wd S}(c:Dx W)(g:Gr)(f:Fn S):TE:=λσ H Q=>∃ρ st,Rep c H σ ρ/\W.ok st H/\
 wpR (f ρ st) (λd st'=>∀v H',Ext W H H'->W.ok st' H'->Val c g σ ρ H H' d v->Q v H') λx st'=>∀H',Ext W H H'->W.ok st' H'->c.Ex x st' H'
def DE(X:Cx){S:Type}{W:Wd S}(c:Dx W)(g:Gr)(e:Expr)(f:Fn S):Prop:=PE X e (tD c g f)
def PE.imp{X:Cx}{e:Expr}{t t':TE}(h:PE X e t)(i:∀σ H Q,t' σ H Q->t σ H Q):PE X e t':=λA3 s σ H Q I q=>h A3 s σ H Q I (i σ H Q q)
def PT.imp{X:Cx}{e:Expr}{t t':TT}(h:PT X e t)(i:∀σ H Q,t' σ H Q->t σ H Q):PT X e t':=λA3 s σ H Q I q=>h A3 s σ H Q I (i σ H Q q)
def PS.imp{X:Cx}{e:Stmt}{t t':TS}(h:PS X e t)(i:∀D σ H,t' D σ H->t D σ H):PS X e t':=λA3 s σ H D I q=>h A3 s σ H D I (i D σ H q)
def PSs.imp{X:Cx}{e:List Stmt}{t t':TS}(h:PSs X e t)(i:∀D σ H,t' D σ H->t D σ H):PSs X e t':=λA3 s σ H D I q=>h A3 s σ H D I (i D σ H q)
section
variable{X:Cx}{S:Type}{W:Wd S}{c:Dx W}{g:Gr}{e:Expr}{f:Fn S}
end
end L2
namespace L2
def Go{S:Type}{W:Wd S}(c:Dx W)(g:Gr)(σ:St)(f:Fn S)(H:Hp)(Q:VK)(ρ:Rho)(st:S):Prop:=
 wpR (f ρ st) (λd st'=>∀v H',Ext W H H'->W.ok st' H'->Val c g σ ρ H H' d v->Q v H') λx st'=>∀H',Ext W H H'->W.ok st' H'->c.Ex x st' H'
section
variable{S:Type}{W:Wd S}{c:Dx W}{H H1 H':Hp}{σ:St}{ρ:Rho}{d:D}{v:V}{g g':Gr}{st st1:S}
theorem Ext.none(e:Ext W H H1)(ok:W.ok st H1){a:Addr}(h:H1 a=none):H a=none:=by
 cases q:H a with
 | none=>rfl
 | some o=>
   have n:¬W.mv a:=λm=>by obtain⟨o',h',_⟩:=W.live st H1 a ok m;rw[h] at h';cases h'
   rw[e a o q n] at h;cases h
theorem Val.back(e:Ext W H H1)(ok:W.ok st H1)(h:Val c g σ ρ H1 H' d v):Val c g σ ρ H H' d v:=by
 cases g with
 | R=>exact h
 | B=>exact h
 | F=>exact⟨h.1,λa ea m=>e.none ok (h.2 a ea m)⟩
def Val.ext(e:Ext W H' H1)(ok:W.ok st H')(h:Val c .R σ ρ H H' d v):Val c .R σ ρ H H1 d v:=Is.mono (e.keepT ok λb n=>⟨n,n⟩) h
def Is.ext{A:Addr->Prop}(e:Ext W H' H1)(ok:W.ok st H')(hA:∀b,A b->¬W.mv b)(h:Is c.K A H' d v):Is c.K A H1 d v:=Is.mono (e.keepT ok λb n=>⟨hA b n,n⟩) h
def IsL.ext{A:Addr->Prop}{l:List D}{vs:List V}(e:Ext W H' H1)(ok:W.ok st H')(hA:∀b,A b->¬W.mv b)(h:IsL c.K A H' l vs):IsL c.K A H1 l vs:=IsL.mono (e.keepT ok λb n=>⟨hA b n,n⟩) h
def Go.from{f:Fn S}{Q:VK}(e:Ext W H H1)(ok:W.ok st1 H1)(h:Go c g σ f H Q ρ st):Go c g σ f H1 Q ρ st:=
 za6 h (λd st' q v H' a b z=>q v H' (e.trans a) b (z.back e ok)) λx st' q H' a b=>q H' (e.trans a) b
def Go.bind{f:Fn S}{k:D->Fn S}{Q:VK}(R:Rep c H σ ρ)(ok:W.ok st H)(h:Go c g σ (λρ st=>(f ρ st).bind λd st1=>k d ρ st1) H Q ρ st) :
 tD c g' f σ H λv H1=>∃d st1,Rep c H1 σ ρ/\W.ok st1 H1/\Ext W H H1/\Val c g' σ ρ H H1 d v/\Go c g σ (k d) H1 Q ρ st1:=by
 refine⟨ρ,st,R,ok,?_⟩;have h':=za3.mp h;refine za6 h' (λd st1 q v H1 e ok1 z=>?_) λx st1 q=>q
 exact⟨d,st1,R.ext ok e,ok1,e,z,za6 q (λd' st' q v' H' a b y=>q v' H' (e.trans a) b (y.back e ok1)) λx st' q H' a b=>q H' (e.trans a) b⟩
def Go.done(h:Go c g σ (λ_ st=>wr1 o st) H Q ρ st)(ok:W.ok st H):∃d,o=some d/\∀v H',Ext W H H'->W.ok st H'->Val c g σ ρ H H' d v->Q v H':=by
 obtain⟨d,e,q⟩:=zb2.mp h;exact⟨d,e,q⟩
def New{S:Type}{W:Wd S}(c:Dx W)(H H':Hp)(d:D)(v:V):Prop:=Is c.K (λb=>¬W.mv b/\H b=none) H' d v
theorem New.valF(R:Rep c H σ ρ)(h:New c H H' d v):Val c .F σ ρ H H' d v:=by
 have k:wq8 (λb=>¬W.mv b/\H b=Option.none) (Av c σ ρ) H' H':=⟨λ_ _ z _=>z,λb o a z=>⟨⟨a.1,(λw=>by
  obtain⟨_,_,o',h',_⟩:=R.owOk w;rw[a.2] at h';cases h'),λw=>by
  obtain⟨_,_,o',h',_⟩:=R.avl b w;rw[a.2] at h';cases h'⟩,z⟩⟩
 refine⟨Is.mono k h,λa ea m=>?_⟩;subst ea;cases d with
 | lst l=>obtain⟨b,vs,e,n,_⟩:=Is.lst_iff.mp h;cases e;exact n.2
 | dct ks l=>obtain⟨b,vs,e,n,_⟩:=Is.dct_iff.mp h;cases e;exact n.2
 | _=>simp[D.mut] at m
theorem New.val(R:Rep c H σ ρ)(h:New c H H' d v)(g:Gr):Val c g σ ρ H H' d v:=by
 cases g with
 | R=>exact(h.valF R).toR
 | B=>exact(h.valF R).toB
 | F=>exact h.valF R
def New.imm(m:d.imm=true)(h:Is c.K A H' d v):New c H H' d v:=Is.ofImm m h
def zh3(ok:W.ok st H)(h:H p=none):W.ok st (upd H p o):=W.stay st H _ ok λb u _ e=>by rw[zb3 (zb7 e h)];exact e
def zs2{p:Addr}(ok:W.ok st H)(h:H p=none):¬W.mv p:=λm=>by
 obtain⟨o',h',_⟩:=W.live st H p ok m;rw[h] at h';cases h'
def New.tup{p:Addr}{l:List D}{vs:List V}{A:Addr->Prop}(ok:W.ok st H)(h:H p=none)(hA:∀b,A b->¬W.mv b)(m:D.immL l=true)(i:IsL c.K A H l vs):New c H (upd H p (.tup vs)) (.tup l) (.ref p):=
 Is.tup zb4 (IsL.ofImm m (i.ext (Ext.laid h) ok hA))
def New.lst{p:Addr}{l:List D}{vs:List V}{A:Addr->Prop}(ok:W.ok st H)(h:H p=none)(hA:∀b,A b->¬W.mv b)(m:D.immL l=true)(i:IsL c.K A H l vs):New c H (upd H p (.lst vs)) (.lst l) (.ref p):=
 Is.lst ⟨zs2 ok h,h⟩ zb4 (IsL.ofImm m (i.ext (Ext.laid h) ok hA))
end
section
variable{X:Cx}{S:Type}{W:Wd S}{c:Dx W}{g:Gr}
def fC(S:Type)(d:D):Fn S:=λ_ st=>.ok d st
def wo9{i j pos}:DE X c g (.Constant (.int i) j pos) (fC S (.int i)):=zl7.imp λσ H Q ⟨ρ,st,R,ok,w⟩=>w _ _ Ext.refl ok (New.val R (show New c H H (.int _) (.int _) from Is.int_iff.mpr rfl) g)
def vq0{i j pos}:DE X c g (.Constant (.bool i) j pos) (fC S (.bl i)):=vn8.imp λσ H Q ⟨ρ,st,R,ok,w⟩=>w _ _ Ext.refl ok (New.val R (show New c H H (.bl _) (.bl _) from Is.bl_iff.mpr rfl) g)
def wo8{j pos}:DE X c g (.Constant .none j pos) (fC S .non):=wl3.imp λσ H Q ⟨ρ,st,R,ok,w⟩=>w _ _ Ext.refl ok (New.val R (show New c H H .non .non from Is.non_iff.mpr rfl) g)
def wo6{x j pos}:DE X c g (.Constant (.str x) j pos) (fC S (.str x)):=zz3.imp λσ H Q ⟨ρ,st,R,ok,w⟩=>w _ _ Ext.refl ok (New.val R (show New c H H (.str _) (.str _) from Is.str_iff.mpr rfl) g)
def rd(ρ:Rho)(i:Nat):Option D:=match ρ[i]? with
 | some (.bor d)=>some d
 | some (.own d)=>some d
 | _=>none
def kp(ρ:Rho)(i:Nat):Option D:=match ρ[i]? with
 | some (.bor d)=>some d
 | _=>none
def im(o:Option D):Option D:=o.bind λd=>if d.imm=true then some d else none
def fV(S:Type)(i:Nat):Fn S:=λρ st=>wr1 (rd ρ i) st
def fVk(S:Type)(i:Nat):Fn S:=λρ st=>wr1 (kp ρ i) st
theorem Rep.rd{H:Hp}{σ:St}{ρ:Rho}{i:Nat}{d:D}(R:Rep c H σ ρ)(h:L2.rd ρ i=some d):∃v,σ[i]?=some (some v)/\Is c.K (λb=>¬W.mv b) H d v:=by
 unfold L2.rd at h;have jn:∀{o:Option (Option V)} {v:V},o.join=some v->o=some (some v):=λ{o v} e=>by cases o with
  | none=>cases e
  | some a=>rw[show a=some v from e]
 cases q:ρ[i]? with
 | none=>rw[q] at h;cases h
 | some s=>
   rw[q] at h;have z:=R.slot i s q;cases s with
   | no=>cases h
   | hnd=>cases h
   | bor e=>
     cases h;obtain⟨v,e1,i1⟩:=z;exact⟨v,jn e1,i1.mono ⟨λ_ _ z _=>z,λb o a z=>⟨a.1,z⟩⟩⟩
   | own e=>
     cases h;obtain⟨a,e1,n,f,t⟩:=z;exact⟨_,jn e1,(t.mono (A':=λb=>¬W.mv b) ⟨λ_ _ z _=>z,λb o a z=>⟨a.1,z⟩⟩ λo z=>z).isTop n.1⟩
theorem Rep.kp{H:Hp}{σ:St}{ρ:Rho}{i:Nat}{d:D}(R:Rep c H σ ρ)(h:L2.kp ρ i=some d):∃v,σ[i]?=some (some v)/\Is c.K (Av c σ ρ) H d v:=by
 unfold L2.kp at h;cases q:ρ[i]? with
 | none=>rw[q] at h;cases h
 | some s=>
   rw[q] at h;have z:=R.slot i s q;cases s with
   | no=>cases h
   | hnd=>cases h
   | own e=>cases h
   | bor e=>
     cases h;obtain⟨v,e1,i1⟩:=z;refine⟨v,?_,i1⟩;cases w:σ[i]? with
     | none=>rw[w] at e1;cases e1
     | some a=>rw[w] at e1;rw[show a=some v from e1]
def xq1{i:Nat}{x:Str}{pos:Pos}(h:PE X (.Name x pos) (wu2 i)):DE X c .R (.Name x pos) (fV S i):=h.imp λσ H Q hI3=>by
 obtain⟨ρ,st,R,ok,w⟩:=hI3;obtain⟨d,e,q⟩:=zb2.mp w;obtain⟨v,e1,i1⟩:=R.rd e;exact⟨v,e1,q v H Ext.refl ok i1⟩
def ze4{i:Nat}{x:Str}{pos:Pos}(h:PE X (.Name x pos) (wu2 i)):DE X c .B (.Name x pos) (fVk S i):=h.imp λσ H Q hI4=>by
 obtain⟨ρ,st,R,ok,w⟩:=hI4;obtain⟨d,e,q⟩:=zb2.mp w;obtain⟨v,e1,i1⟩:=R.kp e;exact⟨v,e1,q v H Ext.refl ok i1⟩
def fI(S:Type)(f:Fn S):Fn S:=λρ st=>(f ρ st).bind λd st1=>if d.imm=true then .ok d st1 else .bad
def DE.imm(h:DE X c .R e f)(g:Gr):DE X c g e (fI S f):=h.imp λσ H Q hI5=>by
 obtain⟨ρ,st,R,ok,w⟩:=hI5;refine⟨ρ,st,R,ok,za6 (za3.mp w) (λd st1 q v H1 e ok1 z=>?_) λx st1 q=>q⟩;by_cases m:d.imm=true
 ·rw[if_pos m] at q
  exact q v H1 e ok1 (z.imm m g)
 ·rw[if_neg m] at q
  exact q.elim
def OpD{S:Type}{W:Wd S}(c:Dx W)(r:R2)(o:D->D->Option D):Prop:=∀d1 d2 v1 v2 H (st:S) d Q,W.ok st H->Is c.K (λb=>¬W.mv b) H d1 v1->Is c.K (λb=>¬W.mv b) H d2 v2->o d1 d2=some d->
 (∀v H',Ext W H H'->W.ok st H'->New c H H' d v->Q v H')->r v1 v2 H Q
def f2(S:Type)(o:D->D->Option D)(f1 f2:Fn S):Fn S:=λρ st=>(f1 ρ st).bind λd1 st1=>(f2 ρ st1).bind λd2 st2=>wr1 (o d1 d2) st2
def zh1(h:tD c g f σ H Q)(i:∀v H',Q v H'->Q' v H'):tD c g f σ H Q':=by
 obtain⟨ρ,st,R,ok,w⟩:=h;exact⟨ρ,st,R,ok,za6 w (λd st' q v H' a b z=>i v H' (q v H' a b z)) λx st' q=>q⟩
def wx5(hr:OpD c r o)(h:tD c g (f2 S o fa fb) σ H Q):tOp r (tD c ga fa) (tD c gb fb) σ H Q:=by
 obtain⟨ρ,st,R,ok,w⟩:=h;have w:Go c g σ (λρ st=>(fa ρ st).bind λd1 st1=>(λρ st1=>(fb ρ st1).bind λd2 st2=>wr1 (o d1 d2) st2) ρ st1) H Q ρ st:=w;refine zh1 (Go.bind (g':=ga) R ok w) λv1 H1 hI105=>?_
 obtain⟨d1,st1,R1,ok1,e1,z1,w1⟩:=hI105;refine zh1 (Go.bind (g':=gb) (f:=fb) (k:=λd2 _ st2=>wr1 (o d1 d2) st2) R1 ok1 w1) λv2 H2 hI106=>?_
 obtain⟨d2,st2,R2,ok2,e2,z2,w2⟩:=hI106;obtain⟨d,e,q⟩:=Go.done w2 ok2;exact hr d1 d2 v1 v2 H2 st2 d Q ok2 (z1.toR.ext e2 ok1) z2.toR e λv H' a b n=>q v H' a b (n.val R2 g)
def wr5{op:Operator}{r:R2}{o:D->D->Option D}{a b:Expr}{pos:Pos}{fa fb:Fn S}{ga gb:Gr}(ho:OpR X (binaryOp op) r)(hr:OpD c r o)(ha:DE X c ga a fa)(hb:DE X c gb b fb):DE X c g (.BinOp a op b pos) (f2 S o fa fb):=
 (wr8 ho ha hb).imp λσ H Q h=>wx5 hr h
def ya8(ho:OpR X (compareOp op) r)(hr:OpD c r o)(ha:DE X c ga a fa)(hb:DE X c gb b fb)(hm:behindInMarks op b=false):DE X c g (.Compare a [op] [b] pos) (f2 S o fa fb):=
 (we9 ho ha hb hm).imp λσ H Q h=>wx5 hr h
def vd4{r:R2}{o:D->D->Option D}{a b:Expr}{pos:Pos}{fa fb:Fn S}{ga gb:Gr}(ho:IxR X r)(hr:OpD c r o)(ha:DE X c ga a fa)(hb:DE X c gb b fb)(hs:yi6 b):DE X c g (.Subscript a b pos) (f2 S o fa fb):=
 (vf3 ho ha hb hs).imp λσ H Q h=>wx5 hr h
abbrev FnT(S:Type):=Rho->S->Res S Bool
def tDT{S:Type}{W:Wd S}(c:Dx W)(f:FnT S):TT:=λσ H Q=>∃ρ st,Rep c H σ ρ/\W.ok st H/\
 wpR (f ρ st) (λb st'=>∀H',Ext W H H'->W.ok st' H'->Q b H') λx st'=>∀H',Ext W H H'->W.ok st' H'->c.Ex x st' H'
def DT(X:Cx){S:Type}{W:Wd S}(c:Dx W)(e:Expr)(f:FnT S):Prop:=PT X e (tDT c f)
def D.bool?:D->Option Bool
 | .bl b=>some b
 | _=>none
def fB(S:Type)(f:Fn S):FnT S:=λρ st=>(f ρ st).bind λd st1=>wr1 d.bool? st1
theorem yp7(h:tDT c (fB S f) σ H Q):tB (tD c g f) σ H Q:=by
 obtain⟨ρ,st,R,ok,w⟩:=h;refine⟨ρ,st,R,ok,za6 (za3.mp w) (λd st1 q v H1 e ok1 z=>?_) λx st1 q=>q⟩;obtain⟨b,e1,q⟩:=zb2.mp q;cases d with
 | bl k=>
   cases e1;have z':Is c.K (λb=>¬W.mv b) H1 (.bl b) v:=z.toR;exact⟨_,Is.bl_iff.mp z',q H1 e ok1⟩
 | _=>cases e1
def zo8{e:Expr}{f:Fn S}(h:DE X c g e f)(he:∀whole,isTrue e X.env whole=(do let v <-whole;standAt e.pos;holding [v] (truthy v)):=by intro _;rfl):DT X c e (fB S f):=
 (wk3 h he).imp λσ H Q q=>yp7 q
def zc8{op:CmpOp}{r:R2}{o:D->D->Option D}{a b:Expr}{pos:Pos}{fa fb:Fn S}{ga gb:Gr}(ho:OpR X (compareOp op) r)(hr:OpD c r o)(ha:DE X c ga a fa)(hb:DE X c gb b fb)(hm:behindInMarks op b=false):DT X c (.Compare a [op] [b] pos) (fB S (f2 S o fa fb)):=
 (yw4 ho ha hb hm).imp λσ H Q q=>by
  have q':tB (tD c .R (f2 S o fa fb)) σ H Q:=yp7 q;exact wx5 (ga:=ga) (gb:=gb) hr q'
def vp6(S:Type)(f1 f2:FnT S):FnT S:=λρ st=>(f1 ρ st).bind λb st1=>if b=true then f2 ρ st1 else .ok false st1
def fOr(S:Type)(f1 f2:FnT S):FnT S:=λρ st=>(f1 ρ st).bind λb st1=>if b=true then .ok true st1 else f2 ρ st1
def vp2(S:Type)(f1:FnT S):FnT S:=λρ st=>(f1 ρ st).bind λb st1=>.ok (!b) st1
def DW(X:Cx){S:Type}{W:Wd S}(c:Dx W)(e:Expr)(f:FnT S):Prop:=PW X e (tDT c f)
def PW.imp{X:Cx}{e:Expr}{t t':TT}(h:PW X e t)(i:∀σ H Q,t' σ H Q->t σ H Q):PW X e t':=λw A3 s σ H Q I q=>h w A3 s σ H Q I (i σ H Q q)
def DW.dt{e:Expr}{f:FnT S}(h:DW X c e f):DT X c e f:=PW.pt h
def yo5{a:Expr}{pos:Pos}{f:FnT S}(h:DT X c a f):DW X c (.BoolOp .And [a] pos) f:=pw_and1 h
def yh9{a:Expr}{pos:Pos}{f:FnT S}(h:DT X c a f):DW X c (.BoolOp .Or [a] pos) f:=pw_or1 h
def yi0{a b:Expr}{rest:List Expr}{pos:Pos}{f1 f2:FnT S}(ha:DT X c a f1)(hb:DW X c (.BoolOp .And (b::rest) pos) f2):DW X c (.BoolOp .And (a::b::rest) pos) (vp6 S f1 f2):=
 (pw_and ha hb).imp λσ H Q hI6=>by
  obtain⟨ρ,st,R,ok,w⟩:=hI6;refine⟨ρ,st,R,ok,za6 (za3.mp w) (λb st1 q H1 e ok1=>?_) λx st1 q=>q⟩;cases b with
  | true=>exact⟨ρ,st1,R.ext ok e,ok1,za6 q (λb st2 q H2 e2=>q H2 (e.trans e2)) λx st2 q H2 e2=>q H2 (e.trans e2)⟩
  | false=>exact q H1 e ok1
def wv5{a b:Expr}{rest:List Expr}{pos:Pos}{f1 f2:FnT S}(ha:DT X c a f1)(hb:DW X c (.BoolOp .Or (b::rest) pos) f2):DW X c (.BoolOp .Or (a::b::rest) pos) (fOr S f1 f2):=
 (pw_or ha hb).imp λσ H Q hI7=>by
  obtain⟨ρ,st,R,ok,w⟩:=hI7;refine⟨ρ,st,R,ok,za6 (za3.mp w) (λb st1 q H1 e ok1=>?_) λx st1 q=>q⟩;cases b with
  | false=>exact⟨ρ,st1,R.ext ok e,ok1,za6 q (λb st2 q H2 e2=>q H2 (e.trans e2)) λx st2 q H2 e2=>q H2 (e.trans e2)⟩
  | true=>exact q H1 e ok1
def yc8{a:Expr}{pos:Pos}{f1:FnT S}(ha:DT X c a f1):DT X c (.UnaryOp .Not a pos) (vp2 S f1):=
 (wk4 ha).imp λσ H Q ⟨ρ,st,R,ok,w⟩=>⟨ρ,st,R,ok,za6 (za3.mp w) (λb st1 q H1 e ok1=>q H1 e ok1) λx st1 q=>q⟩
abbrev FnA(S:Type):=Rho->S->Res S (List D)
def tDA{S:Type}{W:Wd S}(c:Dx W)(f:FnA S):TA:=λσ H Q=>∃ρ st,Rep c H σ ρ/\W.ok st H/\
 wpR (f ρ st) (λl st'=>∀vs H',Ext W H H'->W.ok st' H'->IsL c.K (λb=>¬W.mv b) H' l vs->Q vs H') λx st'=>∀H',Ext W H H'->W.ok st' H'->c.Ex x st' H'
def DA(X:Cx){S:Type}{W:Wd S}(c:Dx W)(es:List Expr)(f:FnA S):Prop:=PA X es (tDA c f)
def PA.imp(h:PA X e t)(i:∀σ H Q,t' σ H Q->t σ H Q):PA X e t':=λp A3 s σ H Q I q=>h p A3 s σ H Q I (i σ H Q q)
def vl0(S:Type):FnA S:=λ_ st=>.ok [] st
def wt1(S:Type)(f:Fn S)(r:FnA S):FnA S:=λρ st=>(f ρ st).bind λd st1=>(r ρ st1).bind λl st2=>.ok (d::l) st2
def wp1:DA X c [] (vl0 S):=zp4.imp λσ H Q ⟨ρ,st,R,ok,w⟩=>w [] H Ext.refl ok (IsL.nil.mpr rfl)
def zj0{e:Expr}{es:List Expr}{f:Fn S}{r:FnA S}(h:DE X c g e f)(hr:DA X c es r)(hs:starEach (e::es) X.env=(false,eval e X.env)::starEach es X.env:=by rfl):DA X c (e::es) (wt1 S f r):=
 (zi1 h hr hs).imp λσ H Q hI8=>by
  obtain⟨ρ,st,R,ok,w⟩:=hI8;refine⟨ρ,st,R,ok,za6 (za3.mp w) (λd st1 q v H1 e ok1 z=>?_) λx st1 q=>q⟩;refine⟨ρ,st1,R.ext ok e,ok1,za6 (za3.mp q) (λl st2 q vs H2 e2 ok2 z2=>?_) λx st2 q H2 e2 ok2=>q H2 (e.trans e2) ok2⟩;exact q (v::vs) H2 (e.trans e2) ok2 (IsL.cons.mpr ⟨v,vs,rfl,z.toR.ext e2 ok1,z2⟩)
def fA(S:Type)(o:List D->Option D)(f:FnA S):Fn S:=λρ st=>(f ρ st).bind λl st1=>wr1 (o l) st1
def ws4{S:Type}{W:Wd S}(c:Dx W)(r:List V->Hp->VK->Prop)(o:List D->Option D):Prop:=∀l vs H (st:S) d Q,W.ok st H->IsL c.K (λb=>¬W.mv b) H l vs->o l=some d->
 (∀v H',Ext W H H'->W.ok st H'->New c H H' d v->Q v H')->r vs H Q
def yv8(hr:ws4 c r o)(h:tD c g (fA S o f) σ H Q):tDA c f σ H λvs H1=>r vs H1 Q:=by
 obtain⟨ρ,st,R,ok,w⟩:=h;refine⟨ρ,st,R,ok,za6 (za3.mp w) (λl st1 q vs H1 e ok1 z=>?_) λx st1 q=>q⟩;obtain⟨d,e1,q⟩:=zb2.mp q;exact hr l vs H1 st1 d Q ok1 z e1 λv H' a b n=>q v H' (e.trans a) b ((n.val (R.ext ok e) g).back e ok1)
def wt6(l:List D):Option D:=if D.immL l=true/\l.length<=sizeLine then some (.tup l) else none
def ww2(l:List D):Option D:=if D.immL l=true/\l.length<=sizeLine then some (.lst l) else none
open H in
def wp3:ws4 c (λxs H1 Q=>xs.length<=sizeLine/\∀p,H1 p=none->Q (.ref p) (upd H1 p (.tup xs))) wt6:=by
 intro l vs H st d Q ok z e q;unfold wt6 at e;split at e
 ·rename_i h
  cases e;exact⟨by rw[<-z.length];exact h.2,λp hp=>q _ _ (Ext.laid hp) (zh3 ok hp) (New.tup ok hp (λ_ n=>n) h.1 z)⟩
 ·cases e
open H in
def wp4:ws4 c (λxs H1 Q=>xs.length<=sizeLine/\∀p,H1 p=none->Q (.ref p) (upd H1 p (.lst xs))) ww2:=by
 intro l vs H st d Q ok z e q;unfold ww2 at e;split at e
 ·rename_i h
  cases e;exact⟨by rw[<-z.length];exact h.2,λp hp=>q _ _ (Ext.laid hp) (zh3 ok hp) (New.lst ok hp (λ_ n=>n) h.1 z)⟩
 ·cases e
def zr0{es:List Expr}{x1}{pos:Pos}{f:FnA S}(h:DA X c es f):DE X c g (.Tuple es x1 pos) (fA S wt6 f):=(xz6 h).imp λσ H Q q=>yv8 (g:=g) wp3 q
def yl1{es:List Expr}{pos:Pos}{f:FnA S}(h:DA X c es f):DE X c g (.List es pos) (fA S ww2 f):=(xk6 h).imp λσ H Q q=>yv8 (g:=g) wp4 q
def xc6{id:String}{x:Str}(h:PE X (.Call (.Name x p) (e::es) [] pos) (tCB r t))(ht:t=tDA c f)(hr:ws4 c r o):DE X c g (.Call (.Name x p) (e::es) [] pos) (fA S o f):=
 h.imp λσ H Q q=>by rw[ht];exact yv8 (g:=g) hr q
def sp0(K:PySem.W.Frag)(F:List D->Res Unit D):Sp:=λvs H Q _=>∃l,IsL K (λ_=>True) H l vs/\wpR (F l) (λd _=>∀v H',ww1 H H'->Is K (λb=>H b=none) H' d v->Q v H') λ_ _=>False
def spS{S:Type}(W:Wd S)(K:PySem.W.Frag)(F:List D->S->Res S D):Sp:=λvs H Q _=>∃l us st,vs=W.h::us/\IsL K (λb=>¬W.mv b) H l us/\W.ok st H/\
 wpR (F l st) (λd st'=>∀v H',Ext W H H'->W.ok st' H'->Is K (λb=>¬W.mv b/\H b=none) H' d v->Q v H') λ_ _=>False
def vd3(S:Type)(F:List D->Res Unit D)(f:FnA S):Fn S:=λρ st=>(f ρ st).bind λl st1=>match F l with
 | .ok d _=>.ok d st1
 | _=>.bad
theorem xu0(h:tD c g (vd3 S F f) σ H Q):ve4 (sp0 c.K F) [] E (tDA c f) σ H Q:=by
 obtain⟨ρ,st,R,ok,w⟩:=h;refine⟨ρ,st,R,ok,za6 (za3.mp w) (λl st1 q vs H1 e ok1 z=>?_) λx st1 q=>q⟩;show sp0 c.K F (vs++[]) H1 Q E;rw[List.append_nil];refine⟨l,IsL.mono (A:=λb=>¬W.mv b) ⟨λ_ _ z _=>z,λb o a z=>⟨trivial,z⟩⟩ z,?_⟩;cases q':F l with
 | ok d u=>
   rw[q'] at q;intro v H' s n;have okH:W.ok st1 H':=W.stay st1 H1 H' ok1 λb o _ hb=>s b o hb
   have n':New c H1 H' d v:=Is.mono (A:=λb=>H1 b=none) ⟨λ_ _ z _=>z,λb o a z=>⟨⟨zs2 ok1 a,a⟩,z⟩⟩ n;exact q v H' (e.trans s.ext) okH ((n'.val (R.ext ok e) g).back e ok1)
 | exc x u=>rw[q'] at q;exact q.elim
 | bad=>rw[q'] at q;exact q.elim
def yt6(S:Type)(F:List D->S->Res S D)(i:Nat)(f:FnA S):Fn S:=λρ st=>match ρ[i]? with
 | some .hnd=>(f ρ st).bind λl st1=>match F l st1 with
   | .ok d st2=>.ok d st2
   | _=>.bad
 | _=>.bad
theorem xt9{i:Nat}(h:tD c g (yt6 S F i f) σ H Q):ve4 (spS W c.K F) [] E (vc2 (wu2 i) (tDA c f)) σ H Q:=by
 obtain⟨ρ,st,R,ok,w⟩:=h;unfold yt6 at w;cases hi:ρ[i]? with
 | none=>rw[hi] at w;exact w.elim
 | some s=>
   rw[hi] at w;have zs:=R.slot i s hi;cases s with
   | no=>exact w.elim
   | bor d=>exact w.elim
   | own d=>exact w.elim
   | hnd=>
     have zs:(σ[i]?).join=some W.h:=zs;have ei:σ[i]?=some (some W.h):=by
      cases q:σ[i]? with
      | none=>rw[q] at zs;cases zs
      | some a=>rw[q] at zs;rw[show a=some W.h from zs]
     refine⟨W.h,ei,ρ,st,R,ok,za6 (za3.mp w) (λl st1 q vs H1 e ok1 z=>?_) λx st1 q=>q⟩;show spS W c.K F ((W.h::vs)++[]) H1 Q E;rw[List.append_nil];refine⟨l,vs,st1,rfl,z,ok1,?_⟩;cases q':F l st1 with
     | ok d st2=>
       rw[q'] at q;intro v H' s okH n;exact q v H' (e.trans s) okH ((New.val (R.ext ok e) n g).back e ok1)
     | exc x u=>rw[q'] at q;exact q.elim
     | bad=>rw[q'] at q;exact q.elim
end
inductive Fl where
 | nx (ρ:Rho) | rt (d:D) | bk (ρ:Rho) | ct (ρ:Rho)
abbrev FnS(S:Type):=Rho->S->Res S Fl
structure Frm{S:Type}{W:Wd S}(c:Dx W)(H:Hp)(σ:St)(ρ:Rho)(H':Hp)(σ':St)(ρ':Rho):Prop where
 keep:∀b o,H b=some o->¬W.mv b->¬Ow σ ρ b->H' b=some o
 own:∀b o,H b=some o->¬W.mv b->Ow σ' ρ' b->Ow σ ρ b
def F0{S:Type}{W:Wd S}(c:Dx W)(H':Hp):Prop:=∀b o,c.H0 b=some o->¬W.mv b->H' b=some o
def Nx{S:Type}{W:Wd S}(c:Dx W)(Q:St->Hp->Prop)(σ:St)(ρ:Rho)(H:Hp)(ρ':Rho)(st':S):Prop:=∀σ' H',Frm c H σ ρ H' σ' ρ'->W.ok st' H'->Rep c H' σ' ρ'->Q σ' H'
def Rt{S:Type}{W:Wd S}(c:Dx W)(Q:VK)(d:D)(st':S):Prop:=∀v H',F0 c H'->W.ok st' H'->Is c.K (λb=>¬W.mv b/\c.H0 b=none) H' d v->Q v H'
def wt3{S:Type}{W:Wd S}(c:Dx W)(D:wx9)(σ:St)(ρ:Rho)(H:Hp)(fl:Fl)(st':S):Prop:=match fl with
 | .nx ρ'=>Nx c D.nx σ ρ H ρ' st'
 | .bk ρ'=>Nx c D.bk σ ρ H ρ' st'
 | .ct ρ'=>Nx c D.ct σ ρ H ρ' st'
 | .rt d=>Rt c D.rt d st'
def wy4{S:Type}{W:Wd S}(c:Dx W)(x:Exn)(st':S):Prop:=∀H',F0 c H'->W.ok st' H'->c.Ex x st' H'
def tS{S:Type}{W:Wd S}(c:Dx W)(F:FnS S):TS:=λD σ H=>∃ρ st,Rep c H σ ρ/\W.ok st H/\wpR (F ρ st) (wt3 c D σ ρ H) (wy4 c)
def DS(X:Cx){S:Type}{W:Wd S}(c:Dx W)(s:Stmt)(F:FnS S):Prop:=PS X s (tS c F)
def DSs(X:Cx){S:Type}{W:Wd S}(c:Dx W)(s:List Stmt)(F:FnS S):Prop:=PSs X s (tS c F)
section
variable{S:Type}{W:Wd S}{c:Dx W}{H H1 H2 H':Hp}{σ σ1 σ2 σ':St}{ρ ρ1 ρ2 ρ':Rho}{st st1:S}
def Frm.refl:Frm c H σ ρ H σ ρ:=⟨λ_ _ h _ _=>h,λ_ _ _ _ h=>h⟩
def Frm.trans(a:Frm c H σ ρ H1 σ1 ρ1)(b:Frm c H1 σ1 ρ1 H2 σ2 ρ2):Frm c H σ ρ H2 σ2 ρ2 where
 keep:=λx o h m w=>b.keep x o (a.keep x o h m w) m λw1=>w (a.own x o h m w1)
 own:=λx o h m w=>by
  by_cases w0:Ow σ ρ x
  ·exact w0
  ·exact a.own x o h m (b.own x o (a.keep x o h m w0) m w)
def Ext.frm(e:Ext W H H'):Frm c H σ ρ H' σ ρ:=⟨λb o h m _=>e b o h m,λ_ _ _ _ h=>h⟩
def Ext.f0(R:Rep c H σ ρ)(e:Ext W H H'):F0 c H':=λb o h n=>e b o (R.frame b o h n) n
def Nx.from(h:Nx c Q σ ρ H ρ' st)(f:Frm c H σ ρ H1 σ1 ρ1):Nx c Q σ1 ρ1 H1 ρ' st:=λσ' H' g ok R=>h σ' H' (f.trans g) ok R
theorem wt3.from{D:wx9}{fl:Fl}(h:wt3 c D σ ρ H fl st)(f:Frm c H σ ρ H1 σ1 ρ1):wt3 c D σ1 ρ1 H1 fl st:=by
 cases fl with
 | nx r=>exact Nx.from h f
 | bk r=>exact Nx.from h f
 | ct r=>exact Nx.from h f
 | rt d=>exact h
def Frm.keepT(R:Rep c H σ ρ)(ok:W.ok st H)(f:Frm c H σ ρ H' σ' ρ'):wq8 (Av c σ ρ) (Av c σ' ρ') H H':=
 zl2 (λb o h t=>f.keep b o h (λm=>by
  obtain⟨o',h',n1,n2⟩:=W.live st H b ok m;rw[h] at h';cases h';rcases t with⟨u,z⟩ | ⟨ob,u,z⟩
  ·exact n1 u z
  ·exact n2 ob u z) λw=>by
  obtain⟨_,_,o',h',n1,n2⟩:=R.owOk w;rw[h] at h';cases h';rcases t with⟨u,z⟩ | ⟨ob,u,z⟩
  ·exact n1 u z
  ·exact n2 ob u z) λb o a h=>⟨⟨a.1,λw=>a.2.1 (f.own b o h a.1 w),a.2.2⟩,f.keep b o h a.1 a.2.1⟩
def zx0{g:Gr}{f:Fn S}{k:D->FnS S}{D:wx9}(h:tS c (λρ st=>(f ρ st).bind λd st1=>k d ρ st1) D σ H) :
 tD c g f σ H λv H1=>∃ρ d st0 st1,Rep c H σ ρ/\W.ok st0 H/\Rep c H1 σ ρ/\W.ok st1 H1/\Ext W H H1/\Val c g σ ρ H H1 d v/\wpR (k d ρ st1) (wt3 c D σ ρ H) (wy4 c):=by
 obtain⟨ρ,st,R,ok,w⟩:=h;refine⟨ρ,st,R,ok,za6 (za3.mp w) (λd st1 q v H1 e ok1 z=>?_) λx st1 q H1 e ok1=>q H1 (e.f0 R) ok1⟩;exact⟨ρ,d,st,st1,R,ok,R.ext ok e,ok1,e,z,q⟩
def wd5{f:FnT S}{k:Bool->FnS S}{D:wx9}(h:tS c (λρ st=>(f ρ st).bind λd st1=>k d ρ st1) D σ H) :
 tDT c f σ H λb H1=>∃ρ st1,Rep c H1 σ ρ/\W.ok st1 H1/\wpR (k b ρ st1) (wt3 c D σ ρ H1) (wy4 c):=by
 obtain⟨ρ,st,R,ok,w⟩:=h;refine⟨ρ,st,R,ok,za6 (za3.mp w) (λd st1 q H1 e ok1=>?_) λx st1 q H1 e ok1=>q H1 (e.f0 R) ok1⟩;exact⟨ρ,st1,R.ext ok e,ok1,za6 q (λfl st2 q=>q.from e.frm) λx st2 q=>q⟩
end
section
variable{X:Cx}{S:Type}{W:Wd S}{c:Dx W}
def vr5(S:Type):FnS S:=λρ st=>.ok (.nx ρ) st
def vh3(S:Type)(F G:FnS S):FnS S:=λρ st=>(F ρ st).bind λfl st1=>match fl with
 | .nx ρ1=>G ρ1 st1
 | .rt d=>.ok (.rt d) st1
 | .bk r=>.ok (.bk r) st1
 | .ct r=>.ok (.ct r) st1
def zc5:DSs X c [] (vr5 S):=yw5.imp λD σ H ⟨ρ,st,R,ok,w⟩=>w σ H Frm.refl ok R
def za4{s:Stmt}{r:List Stmt}{F G:FnS S}(h1:DS X c s F)(h2:DSs X c r G):DSs X c (s::r) (vh3 S F G):=
 (zi5 h1 h2).imp λD σ H hI9=>by
  obtain⟨ρ,st,R,ok,w⟩:=hI9;refine⟨ρ,st,R,ok,za6 (za3.mp w) (λfl st1 q=>?_) λx st1 q=>q⟩;cases fl with
  | nx ρ1=>exact λσ1 H1 f ok1 R1=>⟨ρ1,st1,R1,ok1,za6 q (λfl st2 q=>q.from f) λx st2 q=>q⟩
  | rt d=>exact q
  | bk r=>exact q
  | ct r=>exact q
def za8{s:Stmt}{F:FnS S}(h1:DS X c s F):DSs X c [s] F:=yf3 h1
def D.flat:D->Bool
 | .lst l=>D.immL l
 | .dct _ l=>D.immL l
 | _=>false
def vm5(S:Type)(f:Fn S):FnS S:=λρ st=>(f ρ st).bind λd st1=>if d.imm=true\/d.flat=true then .ok (.rt d) st1 else .bad
theorem xb7{K:PySem.W.Frag}{A A':Addr->Prop}{H:Hp}{d:D}{a:Addr}(h:Is K A H d (.ref a))(m:d.flat=true)(n:A' a):Is K A' H d (.ref a):=by
 cases d with
 | lst l=>
   obtain⟨b,vs,e,_,e2,i⟩:=Is.lst_iff.mp h;cases e;exact Is.lst n e2 (IsL.ofImm m i)
 | dct ks l=>
   obtain⟨b,vs,e,_,i,q⟩:=Is.dct_iff.mp h;cases e;exact Is.dct_iff.mpr ⟨a,vs,rfl,n,IsL.ofImm m i,q⟩
 | _=>simp[D.flat] at m
theorem xb6{K:PySem.W.Frag}{A:Addr->Prop}{H:Hp}{d:D}{v:V}(h:Is K A H d v)(m:d.flat=true):∃a,v=.ref a/\d.mut=true/\A a/\∃o,H a=some o:=by
 cases d with
 | lst l=>
   obtain⟨b,vs,e,n,e2,i⟩:=Is.lst_iff.mp h;exact⟨b,e,rfl,n,_,e2⟩
 | dct ks l=>
   obtain⟨b,vs,e,n,i,q⟩:=Is.dct_iff.mp h;rcases q with⟨_,_,_,q⟩ | ⟨_,_,_,q⟩<;>exact⟨b,e,rfl,n,_,q⟩
 | _=>simp[D.flat] at m
theorem Rep.none0{H:Hp}{σ:St}{ρ:Rho}{st:S}(R:Rep c H σ ρ)(ok:W.ok st H){a:Addr}(h:H a=none):c.H0 a=none:=by
 cases q:c.H0 a with
 | none=>rfl
 | some o=>rw[R.frame a o q (zs2 ok h)] at h;cases h
def zd5{e:Expr}{f:Fn S}{pos:Pos}(h:DE X c .F e f):DS X c (.Return (some e) pos) (vm5 S f):=
 (yq8 h).imp λD σ H q=>zh1 (zx0 (g:=.F) q) λv H1 hI10=>by
  obtain⟨ρ,d,st0,st1,R,ok,R1,ok1,e,z,w⟩:=hI10;by_cases m:d.imm=true\/d.flat=true
  ·rw[if_pos m] at w
   refine w v H1 (e.f0 R) ok1 ?_;rcases m with m | m
   ·exact Is.ofImm m z.1
   ·obtain⟨a,rfl,mu,av,_⟩:=xb6 z.1 m
    exact xb7 z.1 m ⟨av.1,R.none0 ok (z.2 a rfl mu)⟩
  ·rw[if_neg m] at w;exact w.elim
def own?(ρ:Rho)(i:Nat):Option D:=match ρ[i]? with
 | some (.own d)=>if d.flat=true then some d else none
 | some (.bor d)=>if d.imm=true then some d else none
 | _=>none
def ve8(S:Type)(i:Nat):FnS S:=λρ st=>(wr1 (own? ρ i) st).bind λd st1=>.ok (.rt d) st1
open H in
def yb9{i:Nat}{x:Str}{p pos:Pos}(h:PE X (.Name x p) (wu2 i)):DS X c (.Return (some (.Name x p)) pos) (ve8 S i):=
 (yq8 h).imp λD σ H hI11=>by
  obtain⟨ρ,st,R,ok,w⟩:=hI11;obtain⟨d,e,q⟩:=zb2.mp (za3.mp w);have jn:∀{o:Option (Option V)} {v:V},o.join=some v->o=some (some v):=λ{o v} e=>by cases o with
   | none=>cases e
   | some a=>rw[show a=some v from e]
  unfold own? at e;cases hs:ρ[i]? with
  | none=>rw[hs] at e;cases e
  | some s=>
    rw[hs] at e;have z:=R.slot i s hs;cases s with
    | no=>cases e
    | hnd=>cases e
    | bor d'=>
      have e:(if d'.imm=true then some d' else none)=some d:=e;split at e
      ·rename_i m
       cases e;obtain⟨v,e1,i1⟩:=z;exact⟨v,jn e1,q v H (λb o h n=>R.frame b o h n) ok (Is.ofImm m i1)⟩
      ·cases e
    | own d'=>
      have e:(if d'.flat=true then some d' else none)=some d:=e;split at e
      ·rename_i m
       cases e;obtain⟨a,e1,n,f,t⟩:=z;have tt:Is c.K (λb=>¬W.mv b) H d (.ref a):=(t.mono (A':=λb=>¬W.mv b) ⟨λ_ _ z _=>z,λb o a z=>⟨a.1,z⟩⟩ λo z=>z).isTop n.1;exact⟨_,jn e1,q _ H (λb o h n=>R.frame b o h n) ok (xb7 tt m ⟨n.1,f⟩)⟩
      ·cases e
def sIf(S:Type)(t:FnT S)(F G:FnS S):FnS S:=λρ st=>(t ρ st).bind λb st1=>if b=true then F ρ st1 else G ρ st1
open H in
def wq6{e:Expr}{a b:List Stmt}{pos:Pos}{t:FnT S}{F G:FnS S}(h:DT X c e t)(ha:DSs X c a F)(hb:DSs X c b G):DS X c (.If e a b pos) (sIf S t F G):=
 (vf2 h ha hb).imp λD σ H q=>by
  obtain⟨ρ,st,R,ok,w⟩:=wd5 (k:=λb=>if b=true then F else G) (by
   obtain⟨ρ,st,R,ok,w⟩:=q;refine⟨ρ,st,R,ok,?_⟩;have e:sIf S t F G ρ st=(t ρ st).bind λd st1=>(if d=true then F else G) ρ st1:=by
    unfold sIf;congr;funext d st1;cases d<;>rfl
   rw[e] at w;exact w)
  refine⟨ρ,st,R,ok,za6 w (λb st1 q H1 e ok1=>?_) λx st1 q=>q⟩;obtain⟨ρ1,st2,R1,ok2,w1⟩:=q H1 e ok1;cases b with
  | true=>exact⟨ρ1,st2,R1,ok2,w1⟩
  | false=>exact⟨ρ1,st2,R1,ok2,w1⟩
end
section
variable{X:Cx}{S:Type}{W:Wd S}{c:Dx W}{H H1 H':Hp}{σ σ':St}{ρ ρ':Rho}{st:S}{i:Nat}{d:D}{v:V}
def zb5{α:Type}{l:List α}{i j:Nat}{a b:α}(h:(l.set i a)[j]?=some b):(j=i/\b=a)\/(j≠i/\l[j]?=some b):=by
 by_cases e:j=i
 ·subst e
  rw[List.getElem?_set_self'] at h;cases q:l[j]? with
  | none=>rw[q] at h;cases h
  | some x=>rw[q] at h;exact .inl ⟨rfl,(Option.some.inj h).symm⟩
 ·rw[Ba0 (Ne.symm e)] at h
  exact .inr ⟨e,h⟩
theorem zf7(e:o.join=some v):o=some (some v):=by
 cases o with
 | none=>cases e
 | some a=>rw[show a=some v from e]
def yk1{b:Addr}(h:Ow (σ.set i (some v)) (ρ.set i (.bor d)) b):Ow σ ρ b:=by
 obtain⟨j,e,h1,h2⟩:=h;rcases zb5 h1 with⟨_,z⟩ | ⟨n,z⟩
 ·cases z
 ·rcases zb5 h2 with⟨m,_⟩ | ⟨_,y⟩
  ·exact absurd m n
  ·exact⟨j,e,z,y⟩
def Rep.setB(R:Rep c H σ ρ)(hi:i<ρ.length)(h:Is c.K (Av c σ ρ) H d v):Rep c H (σ.set i (some v)) (ρ.set i (.bor d)) where
 len:=by rw[Bc0,Bc0];exact R.len
 frame:=R.frame
 avl:=R.avl
 slot:=λj s hs=>by
  have k:wq8 (Av c σ ρ) (Av c (σ.set i (some v)) (ρ.set i (.bor d))) H H:=⟨λ_ _ z _=>z,λb o a z=>⟨⟨a.1,λw=>a.2.1 (yk1 w),a.2.2⟩,z⟩⟩;rcases zb5 hs with⟨e,z⟩ | ⟨n,z⟩
  ·subst z
   subst e;refine⟨v,?_,Is.mono k h⟩;rw[Ci0 (by rw[R.len];exact hi)];rfl
  ·rw[Ba0 (Ne.symm n)]
   have q:=R.slot j s z;cases s with
   | no=>trivial
   | bor e=>obtain⟨v',e1,i1⟩:=q;exact⟨v',e1,i1.mono k⟩
   | own e=>obtain⟨a,e1,n1,f,t⟩:=q;exact⟨a,e1,n1,f,t.mono k λo z=>z⟩
   | hnd=>exact q
 uniq:=λj j' a e e' h1 h2 h3 h4=>by
  rcases zb5 h1 with⟨_,z⟩ | ⟨n,z⟩
  ·cases z
  ·rcases zb5 h2 with⟨_,z'⟩ | ⟨n',z'⟩
   ·cases z'
   ·rw[Ba0 (Ne.symm n)] at h3
    rw[Ba0 (Ne.symm n')] at h4;exact R.uniq j j' a e e' z z' h3 h4
def zg9:Frm c H σ ρ H (σ.set i (some v)) (ρ.set i (.bor d)):=⟨λ_ _ h _ _=>h,λ_ _ _ _ w=>yk1 w⟩
def yk0{a b:Addr}(h:Ow (σ.set i (some (.ref a))) (ρ.set i (.own d)) b):Ow σ ρ b\/b=a:=by
 obtain⟨j,e,h1,h2⟩:=h;rcases zb5 h1 with⟨m,_⟩ | ⟨n,z⟩
 ·rcases zb5 h2 with⟨_,y⟩ | ⟨n,_⟩
  ·cases y;exact .inr rfl
  ·exact absurd m n
 ·rcases zb5 h2 with⟨m,_⟩ | ⟨_,y⟩
  ·exact absurd m n
  ·exact .inl ⟨j,e,z,y⟩
def Rep.setO{a:Addr}(R:Rep c H σ ρ)(ok:W.ok st H)(x:Ext W H H1){st1:S}(ok1:W.ok st1 H1)(hi:i<ρ.length)(h:Is c.K (Av c σ ρ) H1 d (.ref a))(m:d.flat=true)(hn:H a=none) :
 Rep c H1 (σ.set i (some (.ref a))) (ρ.set i (.own d))/\Frm c H σ ρ H1 (σ.set i (some (.ref a))) (ρ.set i (.own d)):=by
 have hmv:¬W.mv a:=zs2 ok hn;have k:wq8 (Av c σ ρ) (Av c (σ.set i (some (.ref a))) (ρ.set i (.own d))) H H1:=zl2 (λb o e t=>x b o e λmm=>by
  obtain⟨o',h',n1,n2⟩:=W.live st H b ok mm;rw[e] at h';cases h';rcases t with⟨u,z⟩ | ⟨ob,u,z⟩
  ·exact n1 u z
  ·exact n2 ob u z) λb o av e=>⟨⟨av.1,(λw=>by
   rcases yk0 w with w | w
   ·exact av.2.1 w
   ·subst w;rw[hn] at e;cases e),av.2.2⟩,x b o e av.1⟩
 refine⟨⟨by rw[Bc0,Bc0];exact R.len,λb o e n=>x b o (R.frame b o e n) n,λj s hs=>?_,(λb h=>let ⟨n,z,o,h',q⟩:=R.avl b h;⟨n,z,o,x b o h' n,q⟩),λj j' b e e' h1 h2 h3 h4=>?_⟩,⟨λb o e n w=>x b o e n,λb o e n w=>?_⟩⟩
 ·rcases zb5 hs with⟨e,z⟩ | ⟨n,z⟩
  ·subst z
   subst e;refine⟨a,by rw[Ci0 (by rw[R.len];exact hi)];rfl,⟨hmv,λw=>by obtain⟨_,_,o,h',_⟩:=R.avl a w;rw[hn] at h';cases h'⟩,R.none0 ok hn,?_⟩;cases d with
   | lst l=>
     obtain⟨b,vs,e,_,e2,i1⟩:=Is.lst_iff.mp h;cases e;exact⟨vs,e2,IsL.ofImm m i1⟩
   | dct ks l=>
     obtain⟨b,vs,e,_,i1,q⟩:=Is.dct_iff.mp h;cases e;exact⟨vs,IsL.ofImm m i1,q⟩
   | _=>simp[D.flat] at m
  ·rw[Ba0 (Ne.symm n)]
   have q:=R.slot j s z;cases s with
   | no=>trivial
   | bor e=>obtain⟨v',e1,i1⟩:=q;exact⟨v',e1,i1.mono k⟩
   | own e=>obtain⟨b,e1,n1,f,t⟩:=q;exact⟨b,e1,n1,f,t.mono k λo z=>x b o z n1.1⟩
   | hnd=>exact q
 ·have fresh:∀(j:Nat) (e:D),ρ[j]?=some (.own e)->σ[j]?=some (some (.ref a))->False:=λj e h1 h2=>by
   obtain⟨_,_,o,h',_⟩:=R.owOk ⟨j,e,h1,h2⟩;rw[hn] at h';cases h'
  rcases zb5 h1 with⟨m1,z⟩ | ⟨n,z⟩
  ·rcases zb5 h2 with⟨m2,z'⟩ | ⟨n',z'⟩
   ·rw[m1,m2]
   ·rw[Ba0 (Ne.symm n')] at h4
    rcases zb5 h3 with⟨_,y⟩ | ⟨n3,_⟩
    ·cases y;exact(fresh j' e' z' h4).elim
    ·exact absurd m1 n3
  ·rcases zb5 h2 with⟨m2,z'⟩ | ⟨n',z'⟩
   ·rw[Ba0 (Ne.symm n)] at h3
    rcases zb5 h4 with⟨_,y⟩ | ⟨n3,_⟩
    ·cases y;exact(fresh j e z h3).elim
    ·exact absurd m2 n3
   ·rw[Ba0 (Ne.symm n)] at h3
    rw[Ba0 (Ne.symm n')] at h4;exact R.uniq j j' b e e' z z' h3 h4
 ·rcases yk0 w with w | w
  ·exact w
  ·subst w;rw[hn] at e;cases e
def put(ρ:Rho)(i:Nat)(d:D):Option Rho:=if i<ρ.length then some (ρ.set i (.bor d)) else none
def putN(ρ:Rho)(i:Nat)(d:D):Option Rho:=if i<ρ.length then some (ρ.set i (if d.flat=true then .own d else .bor d)) else none
def vi0(S:Type)(i:Nat)(f:Fn S):FnS S:=λρ st=>(f ρ st).bind λd st1=>(wr1 (putN ρ i d) st1).bind λρ' st2=>.ok (.nx ρ') st2
def va1(S:Type)(i:Nat)(f:Fn S):FnS S:=λρ st=>(f ρ st).bind λd st1=>(wr1 (put ρ i d) st1).bind λρ' st2=>.ok (.nx ρ') st2
open H in
def xy8{f:Fn S}{D:wx9}(h:tS c (vi0 S i f) D σ H):ve5 (tD c .F f) (wz4 i) D σ H:=
 zh1 (zx0 (g:=.F) h) λv H1 hI12=>by
  obtain⟨ρ,d,st0,st1,R,ok,R1,ok1,e,z,w⟩:=hI12;obtain⟨ρ',e1,w⟩:=zb2.mp (za3.mp w);unfold putN at e1;split at e1
  ·rename_i hi
   by_cases m:d.flat=true
   ·rw[if_pos m] at e1
    cases e1;obtain⟨a,rfl,mu,av,_⟩:=xb6 z.1 m;obtain⟨R2,F2⟩:=R.setO (i:=i) ok e ok1 hi z.1 m (z.2 a rfl mu);exact w (σ.set i (some (.ref a))) H1 F2 ok1 R2
   ·rw[if_neg m] at e1
    cases e1;exact w _ H1 (e.frm.trans zg9) ok1 (R1.setB hi z.1)
  ·cases e1
open H in
def wd6{f:Fn S}{D:wx9}(h:tS c (va1 S i f) D σ H):ve5 (tD c .B f) (wz4 i) D σ H:=
 zh1 (zx0 (g:=.B) h) λv H1 hI13=>by
  obtain⟨ρ,d,st0,st1,R,ok,R1,ok1,e,z,w⟩:=hI13;obtain⟨ρ',e1,w⟩:=zb2.mp (za3.mp w);unfold put at e1;split at e1
  ·rename_i hi
   cases e1;exact w _ H1 (e.frm.trans zg9) ok1 (R1.setB hi z)
  ·cases e1
def zc3{x:Str}{e:Expr}{f:Fn S}{p pos:Pos}(hN:X.N.Nodup)(hi:X.N[i]?=some x)(hx:Loc X.env.scope x)(he:DE X c .F e f)(hs:swapsWith e (some (.Name x p)) pos.line X.env=pure false:=by rfl)(hf:X.fn x=true\/X.env.scope.names.lookup x=some .local:=by first | exact .inl rfl | exact .inr rfl | assumption) :
 DS X c (.Assign [.Name x p] e pos) (vi0 S i f):=(zu5 hN hi hx he hs hf).imp λD σ H q=>xy8 q
def yx7{x:Str}(hN:X.N.Nodup)(hi:X.N[i]?=some x)(hx:Loc X.env.scope x)(he:DE X c .B e f)(hs:swapsWith e (some (.Name x p)) pos.line X.env=pure false:=by rfl)(hf:X.fn x=true\/X.env.scope.names.lookup x=some .local:=by first | exact .inl rfl | exact .inr rfl | assumption) :
 DS X c (.Assign [.Name x p] e pos) (va1 S i f):=(zu5 hN hi hx he hs hf).imp λD σ H q=>wd6 q
abbrev FnG:=D->Rho->Option Rho
abbrev vc1:=List D->Rho->Option Rho
def tG{S:Type}{W:Wd S}(c:Dx W)(G:FnG):TG:=λv σ H Q=>∃ρ d ρ' st,Rep c H σ ρ/\W.ok st H/\Is c.K (Av c σ ρ) H d v/\G d ρ=some ρ'/\∀σ',Rep c H σ' ρ'->Frm c H σ ρ H σ' ρ'->Q σ' H
def tGs{S:Type}{W:Wd S}(c:Dx W)(G:vc1):TGs:=λvs σ H Q=>∃ρ l ρ' st,Rep c H σ ρ/\W.ok st H/\IsL c.K (Av c σ ρ) H l vs/\G l ρ=some ρ'/\∀σ',Rep c H σ' ρ'->Frm c H σ ρ H σ' ρ'->Q σ' H
def DG(X:Cx){S:Type}{W:Wd S}(c:Dx W)(e:Expr)(G:FnG):Prop:=PG X e (tG c G)
def DGs(X:Cx){S:Type}{W:Wd S}(c:Dx W)(e:List Expr)(G:vc1):Prop:=PGs X e (tGs c G)
def PG.imp(h:PG X e t)(i:∀v σ H Q,t' v σ H Q->t v σ H Q):PG X e t':=λA3 s σ H v u Q I r q=>h A3 s σ H v u Q I r (i v σ H Q q)
def PGs.imp(h:PGs X e t)(i:∀v σ H Q,t' v σ H Q->t v σ H Q):PGs X e t':=λA3 s σ H v u Q I r q=>h A3 s σ H v u Q I r (i v σ H Q q)
def gN(i:Nat):FnG:=λd ρ=>put ρ i d
open H in
def zb0{x:Str}{pos:Pos}(hN:X.N.Nodup)(hi:X.N[i]?=some x)(hx:Loc X.env.scope x)(hf:X.fn x=true\/X.env.scope.names.lookup x=some .local:=by first | exact .inl rfl | exact .inr rfl | assumption):DG X c (.Name x pos) (gN i):=
 (yn0 hN hi hx hf).imp λv σ H Q hI14=>by
  obtain⟨ρ,d,ρ',st,R,ok,z,e,q⟩:=hI14;unfold gN put at e;split at e
  ·rename_i h
   cases e;exact q _ (R.setB h z) zg9
  ·cases e
def gsNil:vc1:=λl ρ=>match l with
 | []=>some ρ
 | _=>none
def gsCons(G:FnG)(Gs:vc1):vc1:=λl ρ=>match l with
 | d::r=>(G d ρ).bind λρ1=>Gs r ρ1
 | []=>none
theorem zl0:DGs X c [] gsNil:=ym9.imp λv σ H Q hI15=>by
 obtain⟨ρ,l,ρ',st,R,ok,z,e,q⟩:=hI15;cases l with
 | nil=>cases e;exact⟨IsL.nil.mp z,q σ R Frm.refl⟩
 | cons _ _=>cases e
def zc9{e:Expr}{es:List Expr}{G:FnG}{Gs:vc1}(h1:DG X c e G)(h2:DGs X c es Gs)(hs:(assignEach (e::es) X.env).map (·.2)=assign e X.env::(assignEach es X.env).map (·.2):=by rfl):DGs X c (e::es) (gsCons G Gs):=
 (zr7 h1 h2 hs).imp λv σ H Q hI16=>by
  obtain⟨ρ,l,ρ',st,R,ok,z,e,q⟩:=hI16;cases l with
  | nil=>cases e
  | cons d r=>
    obtain⟨v1,vs,e1,i1,j1⟩:=IsL.cons.mp z;have e:(G d ρ).bind (λρ1=>Gs r ρ1)=some ρ':=e;cases q1:G d ρ with
    | none=>rw[q1] at e;cases e
    | some ρ1=>
      rw[q1] at e;refine⟨v1,vs,e1,ρ,d,ρ1,st,R,ok,i1,q1,λσ1 R1 F1=>?_⟩;exact⟨ρ1,r,ρ',st,R1,ok,j1.mono (F1.keepT R ok),e,λσ2 R2 F2=>q σ2 R2 (F1.trans F2)⟩
def gT(n:Nat)(Gs:vc1):FnG:=λd ρ=>match d with
 | .tup l=>if l.length=n then Gs l ρ else none
 | _=>none
open H in
def zt8{es:List Expr}{k:Nat}{pos:Pos}{Gs:vc1}{n:Nat}(hc:X.calm=true)(hK:c.K=X.K)(h:DGs X c es Gs)(hn:(assignEach es X.env).length=n:=by rfl)(hst:(assignEach es X.env).findIdx? (·.1)=none:=by rfl):DG X c (.Tuple es k pos) (gT n Gs):=
 (yz5 hc h hn hst).imp λv σ H Q hI17=>by
  obtain⟨ρ,d,ρ',st,R,ok,z,e,q⟩:=hI17;cases d with
  | tup l=>
    obtain⟨a,vs,e1,s1,j1⟩:=Is.tup_sq z;have e:(if l.length=n then Gs l ρ else none)=some ρ':=e;split at e
    ·rename_i hl
     exact⟨a,vs,e1,by rw[<-hK];exact s1,by rw[<-j1.length];exact hl,ρ,l,ρ',st,R,ok,j1,e,q⟩
    ·cases e
  | _=>cases e
def vm9(S:Type)(G:FnG)(f:Fn S):FnS S:=λρ st=>(f ρ st).bind λd st1=>(wr1 (G d ρ) st1).bind λρ' st2=>.ok (.nx ρ') st2
def ya7{tg e:Expr}{f:Fn S}{G:FnG}{pos:Pos}(he:DE X c .B e f)(hg:DG X c tg G)(hs:swapsWithSole [tg] e pos.line X.env=pure false:=by rfl)(hw:swappedStores [tg] e X.env=pure none:=by rfl)(h1:(assignEach [tg] X.env).map (·.2)=[assign tg X.env]:=by rfl):DS X c (.Assign [tg] e pos) (vm9 S G f):=
 (yq9 he hg hs hw h1).imp λD σ H q=>zh1 (zx0 (g:=.B) q) λv H1 hI18=>by
  obtain⟨ρ,d,st0,st1,R,ok,R1,ok1,e,z,w⟩:=hI18;obtain⟨ρ',e1,w⟩:=zb2.mp (za3.mp w);exact⟨ρ,d,ρ',st1,R1,ok1,z,e1,λσ' R' F'=>w σ' H1 (e.frm.trans F') ok1 R'⟩
end
def xs2{S:Type}{W:Wd S}(c:Dx W)(σ:St)(ρ:Rho)(H:Hp)(J:It)(l:List D):Prop:=∀(c':Dx W) (hK:c'.K=c.K) σ2 ρ2 H2 (st2:S),wq8 (Av c σ ρ) (Av c' σ2 ρ2) H H2->Rep c' H2 σ2 ρ2->W.ok st2 H2->∀i:Nat,
 (∀d,l[i]?=some d->J.go i H2/\∀x H3,J.yld i H2 x H3->ww1 H2 H3/\Is c.K (Av c' σ2 ρ2) H3 d x)/\(l.length<=i->J.stop i H2)
abbrev FnI(S:Type):=FnA S
def tI{S:Type}{W:Wd S}(c:Dx W)(f:FnI S):TI:=λσ H R=>∃ρ st,Rep c H σ ρ/\W.ok st H/\
 wpR (f ρ st) (λl st'=>∀J H',Ext W H H'->W.ok st' H'->xs2 c σ ρ H' J l->R J H') λx st'=>∀H',Ext W H H'->W.ok st' H'->c.Ex x st' H'
def DI(X:Cx){S:Type}{W:Wd S}(c:Dx W)(tg iter:Expr)(f:FnI S):Prop:=PI X tg iter (tI c f)
def PI.imp(h:PI X tg e t)(i:∀σ H R,t' σ H R->t σ H R):PI X tg e t':=λA3 s σ H R I q=>h A3 s σ H R I (i σ H R q)
section
variable{X:Cx}{S:Type}{W:Wd S}{c:Dx W}{tg:Expr}
def vb0(S:Type)(sel:D->Option (List D))(f:Fn S):FnI S:=λρ st=>(f ρ st).bind λd st1=>wr1 (sel d) st1
def D.tup?:D->Option (List D)
 | .tup l=>some l
 | _=>none
def D.lst?:D->Option (List D)
 | .lst l=>some l
 | _=>none
def wa8(hK:c.K=X.K)(h:DE X c .B e f):DI X c tg e (vb0 S D.tup? f):=
 (wk8 h).imp λσ H R hI19=>by
  obtain⟨ρ,st,R0,ok,w⟩:=hI19;refine⟨ρ,st,R0,ok,za6 (za3.mp w) (λd st1 q v H1 e ok1 z=>?_) λx st1 q=>q⟩;obtain⟨l,e1,q⟩:=zb2.mp q;cases d with
  | tup m=>
    cases e1;obtain⟨a,vs,ev,s0,i⟩:=Is.tup_iff.mp z;have s:SqT c.K H1 a vs:=.of s0;refine⟨a,ev,⟨vs,by rw[<-hK];exact s⟩,q _ H1 e ok1 ?_⟩;intro c' hK' σ2 ρ2 H2 st2 k R2 ok2 j;have s2:SqT c.K H2 a vs:=.of (k.tup a vs s0);have i2:IsL c.K (Av c' σ2 ρ2) H2 l vs:=i.mono k;refine⟨λd hd=>?_,λhl=>⟨vs,by rw[<-hK];exact s2,by rw[<-i2.length];exact hl⟩⟩;obtain⟨v1,hv,iv⟩:=i2.get hd;exact⟨⟨vs,v1,by rw[<-hK];exact s2,hv⟩,λx H3 hI20=>by
     obtain⟨e3,y⟩:=hI20;subst e3;have hx:=y vs (by rw[<-hK];exact s2);rw[hv] at hx;cases hx;exact⟨ww1.refl _,iv⟩⟩
  | _=>cases e1
def wo5(hK:c.K=X.K)(h:DE X c .B e f):DI X c tg e (vb0 S D.lst? f):=
 (xk5 h).imp λσ H R hI21=>by
  obtain⟨ρ,st,R0,ok,w⟩:=hI21;refine⟨ρ,st,R0,ok,za6 (za3.mp w) (λd st1 q v H1 e ok1 z=>?_) λx st1 q=>q⟩;obtain⟨l,e1,q⟩:=zb2.mp q;cases d with
  | lst m=>
    cases e1;obtain⟨a,vs,ev,n,s,i⟩:=Is.lst_iff.mp z;refine⟨a,ev,⟨vs,.of s⟩,q _ H1 e ok1 ?_⟩;intro c' hK' σ2 ρ2 H2 st2 k R2 ok2 j;have s2:H2 a=some (.lst vs):=(k.nod a _ n s).2;have i2:IsL c.K (Av c' σ2 ρ2) H2 l vs:=i.mono k;refine⟨λd hd=>?_,λhl=>⟨vs,.of s2,by rw[<-i2.length];exact hl⟩⟩;obtain⟨v1,hv,iv⟩:=i2.get hd;exact⟨⟨vs,v1,.of s2,hv⟩,λx H3 hI22=>by
     obtain⟨e3,y⟩:=hI22;subst e3;have hx:=y vs (.of s2);rw[hv] at hx;cases hx;exact⟨ww1.refl _,iv⟩⟩
  | _=>cases e1
def zl4(lo:Int)(n:Nat):List D:=(List.range n).map λ(k:Nat)=>D.int (lo+(k:Int))
def yx0:List D->Option (List D)
 | [.int j]=>if -(2 ^ 62)<=j/\j<2 ^ 62 then some (zl4 0 j.toNat) else none
 | _=>none
def vb1(S:Type)(o:List D->Option (List D))(f:FnA S):FnI S:=λρ st=>(f ρ st).bind λl st1=>wr1 (o l) st1
def xg3(lo:Int)(n:Nat):xs2 c σ ρ H (Itr lo n) (zl4 lo n):=by
 intro c' hK' σ2 ρ2 H2 st2 k R2 ok2 j;refine⟨λd hd=>?_,λhl=>?_⟩
 ·unfold zl4 at hd
  rw[Ai0] at hd;cases q:(List.range n)[j]? with
  | none=>rw[q] at hd;cases hd
  | some m=>
    rw[q] at hd;cases hd;obtain⟨h1,h2⟩:=Ae0.mp q;rw[List.getElem_range] at h2;subst h2;rw[Bw0] at h1;exact⟨h1,λx H3 ⟨e3,e4⟩=>by subst e3 e4;exact⟨ww1.refl _,Is.int_iff.mpr rfl⟩⟩
 ·unfold zl4 at hl
  rw[Aa0,Bw0] at hl;exact hl
open H in
def zf8{a:Expr}{f:FnA S}{p pos:Pos}(hg:Gl X "range")(hm:X.mg "range" = none)(ha:DA X c [a] f)(hs:starEach [a] X.env=[(false,eval a X.env)]:=by rfl):DI X c tg (.Call (.Name "range" p) [a] [] pos) (vb1 S yx0 f):=
 (xk4 hg hm ha hs).imp λσ H R hI23=>by
  obtain⟨ρ,st,R0,ok,w⟩:=hI23;refine⟨ρ,st,R0,ok,za6 (za3.mp w) (λl st1 q vs H1 e ok1 z=>?_) λx st1 q=>q⟩;obtain⟨m,e1,q⟩:=zb2.mp q;unfold yx0 at e1;split at e1
  ·rename_i j
   split at e1
   ·rename_i h
    cases e1;obtain⟨v,r,e2,i2,i3⟩:=IsL.cons.mp z;rw[IsL.nil.mp i3,Is.int_iff.mp i2] at e2;exact⟨j,e2,h.1,h.2,q _ H1 e ok1 (xg3 0 _)⟩
   ·cases e1
  ·cases e1
def frz1(i:Nat)(ρ:Rho):Rho:=match ρ[i]? with
 | some (.own d)=>ρ.set i (.bor d)
 | _=>ρ
def frz:List Nat->Rho->Rho
 | [],ρ=>ρ
 | i::r,ρ=>frz r (frz1 i ρ)
open H in
def Rep.frz1{H:Hp}{σ:St}{ρ:Rho}{st:S}(i:Nat)(R:Rep c H σ ρ)(ok:W.ok st H):Rep c H σ (frz1 i ρ)/\Frm c H σ ρ H σ (L2.frz1 i ρ):=by
 unfold L2.frz1;split
 ·rename_i d hi
  obtain⟨a,e1,n,f,t⟩:=R.slot i _ hi;have e1':=zf7 e1;have hlt:i<ρ.length:=(Ae0.mp hi).1;have sub:∀b,Ow σ (ρ.set i (.bor d)) b->Ow σ ρ b/\b≠a:=λb hI24=>by
   obtain⟨j,e,h1,h2⟩:=hI24;rcases zb5 h1 with⟨_,z⟩ | ⟨nj,z⟩
   ·cases z
   ·refine⟨⟨j,e,z,h2⟩,λq=>?_⟩
    subst q;exact nj (R.uniq j i b e d z hi h2 e1')
  have k:wq8 (Av c σ ρ) (Av c σ (ρ.set i (.bor d))) H H:=⟨λ_ _ z _=>z,λb o a z=>⟨⟨a.1,λw=>a.2.1 (sub b w).1,a.2.2⟩,z⟩⟩;refine⟨⟨by rw[Bc0];exact R.len,R.frame,λj s hs=>?_,R.avl,λj j' b e e' h1 h2 h3 h4=>?_⟩,⟨λb o h _ _=>h,λb o _ _ w=>(sub b w).1⟩⟩
  ·rcases zb5 hs with⟨ej,z⟩ | ⟨nj,z⟩
   ·subst z ej
    exact⟨_,e1,(t.mono k λo z=>z).isTop ⟨n.1,λw=>(sub a w).2 rfl,n.2⟩⟩
   ·have q:=R.slot j s z
    cases s with
    | no=>trivial
    | bor e=>obtain⟨v',e1,i1⟩:=q;exact⟨v',e1,i1.mono k⟩
    | own e=>obtain⟨b,e1,n1,f,t⟩:=q;exact⟨b,e1,n1,f,t.mono k λo z=>z⟩
    | hnd=>exact q
  ·rcases zb5 h1 with⟨_,z⟩ | ⟨_,z⟩
   ·cases z
   ·rcases zb5 h2 with⟨_,z'⟩ | ⟨_,z'⟩
    ·cases z'
    ·exact R.uniq j j' b e e' z z' h3 h4
 ·exact⟨R,Frm.refl⟩
theorem Rep.frz{H:Hp}{σ:St}{st:S}(ok:W.ok st H):∀(l:List Nat) {ρ:Rho},Rep c H σ ρ->Rep c H σ (L2.frz l ρ)/\Frm c H σ ρ H σ (L2.frz l ρ)
 | [],ρ,R=>⟨R,Frm.refl⟩
 | i::r,ρ,R=>by
   obtain⟨R1,F1⟩:=R.frz1 i ok;obtain⟨R2,F2⟩:=Rep.frz ok r R1;exact⟨R2,F1.trans F2⟩
def wz5(S:Type)(G:FnG)(B:FnS S):List D->FnS S
 | [],ρ,st=>.ok (.nx ρ) st
 | d::r,ρ,st=>(wr1 (G d ρ) st).bind λρ1 st1=>(B ρ1 st1).bind λfl st2=>match fl with
   | .nx ρ2=>wz5 S G B r ρ2 st2
   | .ct ρ2=>wz5 S G B r ρ2 st2
   | .bk ρ2=>.ok (.nx ρ2) st2
   | .rt d=>.ok (.rt d) st2
def vm7(S:Type)(fz:List Nat)(f:FnI S)(G:FnG)(B:FnS S):FnS S:=λρ st=>(f (frz fz ρ) st).bind λl st1=>wz5 S G B l (frz fz ρ) st1
def zi3{iter:Expr}{body:List Stmt}{f:FnI S}{G:FnG}{B:FnS S}{pos:Pos}(fz:List Nat)(hp:PassesOwn (model X.prog X.w) X.A X.env X.xe)(hc:X.calm=true)(hi:DI X c tg iter f)(hg:DG X c tg G)(hb:DSs X c body B)(hs:∀x,foldedSetIterable iter X.env x=pure x:=by intro _;rfl):DS X c (.For tg iter body [] pos) (vm7 S fz f G B):=
 (wk6 hp hc hi hg hb hs).imp λD σ H hI25=>by
  obtain⟨ρ,st,R,ok,w⟩:=hI25;obtain⟨Rf,Ff⟩:=R.frz ok fz;refine⟨frz fz ρ,st,Rf,ok,za6 (za3.mp w) (λl st1 q J H1 e ok1 it=>?_) λx st1 q H1 e ok1=>q H1 (e.f0 R) ok1⟩;have R1:=Rf.ext ok e;refine⟨λi m σ2 H2=>∃ρ2 st2,i<=l.length/\m=l.length-i/\Frm c H1 σ (frz fz ρ) H2 σ2 ρ2/\Rep c H2 σ2 ρ2/\W.ok st2 H2/\wpR (wz5 S G B (l.drop i) ρ2 st2) (wt3 c D σ2 ρ2 H2) (wy4 c),⟨l.length,frz fz ρ,st1,Be0 _,rfl,Frm.refl,R1,ok1,?_⟩,?_⟩
  ·rw[Cm0]
   exact za6 q (λfl st2 q=>(q.from Ff).from e.frm) λx st2 q=>q
  ·rintro i m σ2 H2 ⟨ρ2,st2,hle,rfl,F2,R2,ok2,w2⟩
   obtain⟨h1,h2⟩:=it c rfl σ2 ρ2 H2 st2 (F2.keepT R1 ok1) R2 ok2 i;by_cases hlt:i<l.length
   ·have hd:l[i]?=some l[i]:=Ac0 hlt
    obtain⟨go,yl⟩:=h1 _ hd;rw[List.drop_eq_getElem_cons hlt] at w2;refine .inr ⟨go,λσ3 H3=>∃ρ3 st3,Frm c H1 σ (frz fz ρ) H3 σ3 ρ3/\Rep c H3 σ3 ρ3/\W.ok st3 H3/\wpR (wz5 S G B (l.drop (i+1)) ρ3 st3) (wt3 c D σ3 ρ3 H3) (wy4 c),λσ3 H3 ⟨ρ3,st3,F3,R3,ok3,w3⟩=>⟨l.length-(i+1),by omega,ρ3,st3,hlt,rfl,F3,R3,ok3,w3⟩,λx H3 y=>?_⟩;obtain⟨sm,iv⟩:=yl x H3 y;have ex:Ext W H2 H3:=sm.ext;have ok3:W.ok st2 H3:=W.stay st2 H2 H3 ok2 λb o _ hb=>sm b o hb
    have R3:=R2.ext ok2 ex;obtain⟨ρ4,e4,w4⟩:=zb2.mp (za3.mp w2);refine⟨ρ2,_,ρ4,st2,R3,ok3,iv,e4,λσ4 R4 F4=>?_⟩;have F24:Frm c H2 σ2 ρ2 H3 σ4 ρ4:=ex.frm.trans F4;refine⟨ρ4,st2,R4,ok3,za6 (za3.mp w4) (λfl st5 q5=>?_) λx st5 q=>q⟩;have nxt:∀ρ5,wpR (wz5 S G B (l.drop (i+1)) ρ5 st5) (wt3 c D σ2 ρ2 H2) (wy4 c)->Nx c (λσ3 H3=>∃ρ3 st3,Frm c H1 σ (frz fz ρ) H3 σ3 ρ3/\Rep c H3 σ3 ρ3/\W.ok st3 H3/\wpR (wz5 S G B (l.drop (i+1)) ρ3 st3) (wt3 c D σ3 ρ3 H3) (wy4 c)) σ4 ρ4 H3 ρ5 st5:=
     λρ5 q5 σ5 H5 F5 ok5 R5=>⟨ρ5,st5,F2.trans (F24.trans F5),R5,ok5,za6 q5 (λfl st6 q=>q.from (F24.trans F5)) λx st6 q=>q⟩
    cases fl with
    | nx ρ5=>exact nxt ρ5 q5
    | ct ρ5=>exact nxt ρ5 q5
    | bk ρ5=>exact λσ5 H5 F5 ok5 R5=>q5 σ5 H5 (F24.trans F5) ok5 R5
    | rt d=>exact q5
   ·have e0:i=l.length:=by omega
    subst e0;rw[List.drop_length] at w2;exact .inl ⟨h2 (Ag0 _),w2 σ2 H2 Frm.refl ok2 R2⟩
end
theorem zh5:∀{l m:List D},D.immL l=true->D.immL m=true->D.immL (l++m)=true
 | [],_,_,h=>h
 | d::l,m,h,k=>by
   have h':d.imm=true/\D.immL l=true:=by simpa [D.immL] using h
   show (d.imm&&D.immL (l++m))=true;rw[h'.1,zh5 h'.2 k];rfl
abbrev Dx.avoid{S:Type}{W:Wd S}(c:Dx W)(av:Addr->Prop):Dx W:=⟨c.K,c.H0,c.Ex,av⟩
def pickR(ρ:Rho)(ixs:List (Option Nat)):Rho:=ixs.map λo=>match o with
 | some i=>(match ρ[i]? with
   | some (.bor d)=>.bor d
   | some (.own d)=>.bor d
   | some .hnd=>.hnd
   | _=>.no)
 | none=>.no
section
variable{S:Type}{W:Wd S}{c:Dx W}{H H1:Hp}{σ:St}{ρ:Rho}{st:S}
theorem yd4:¬Ow σ' (pickR ρ ixs) b:=λhI26=>by
 obtain⟨j,d,h,_⟩:=hI26;unfold pickR at h;rw[Ai0] at h;cases q:ixs[j]? with
 | none=>rw[q] at h;cases h
 | some o=>
   rw[q] at h;cases o with
   | none=>cases h
   | some i=>
     have h:(match ρ[i]? with | some (.bor d)=>Sl.bor d | some (.own d)=>.bor d | some .hnd=>.hnd | _=>.no)=Sl.own d:=Option.some.inj h;split at h<;>cases h
def Rep.pick{D:Addr}(R:Rep c H σ ρ)(ok:W.ok st H)(hD:H D=none)(ixs:List (Option Nat)):Rep (c.avoid λb=>c.av b\/b=D) (upd H D (.lst [])) (L2.pick σ ixs) (pickR ρ ixs) where
 len:=by unfold L2.pick pickR;rw[Aa0,Aa0]
 frame:=λb o h n=>by
  have e:H b=some o:=R.frame b o h n;show upd H D _ b=some o;rw[zb3 (zb7 e hD)];exact e
 uniq:=λi j a d e h1 _ _ _=>(yd4 (σ':=L2.pick σ ixs) (ρ:=ρ) (ixs:=ixs) (b:=a) ⟨i,d,h1,by assumption⟩).elim
 avl:=λb h=>by
  rcases h with h | h
  ·obtain⟨n,z,o,h',q⟩:=R.avl b h
   exact⟨n,z,o,by show upd H D _ b=some o;rw[zb3 (zb7 h' hD)];exact h',q⟩
  ·subst h
   exact⟨zs2 ok hD,R.none0 ok hD,_,zb4,(λu z=>by cases z),λob u z=>by cases z⟩
 slot:=λj s hs=>by
  unfold pickR at hs;rw[Ai0] at hs;have kk:∀{A:Addr->Prop},(∀b,A b->¬W.mv b/\¬c.av b)->wq8 A (Av (c.avoid λb=>c.av b\/b=D) (L2.pick σ ixs) (pickR ρ ixs)) H (upd H D (.lst [])):=λ{A} hA=>
   zl2 (λb o e _=>by rw[zb3 (zb7 e hD)];exact e) λb o a e=>⟨⟨(hA b a).1,yd4,λw=>w.elim (hA b a).2 (λz=>by subst z;rw[hD] at e;cases e)⟩,by rw[zb3 (zb7 e hD)];exact e⟩
  cases q:ixs[j]? with
  | none=>rw[q] at hs;cases hs
  | some o=>
    rw[q] at hs;have ej:(L2.pick σ ixs)[j]?=(ixs[j]?).map (λo=>match o with | some i=>(σ[i]?).join | none=>none):=by
     unfold L2.pick;rw[Ai0]
     all_goals rfl
    rw[ej,q];cases o with
    | none=>cases hs;trivial
    | some i=>
      have hs:(match ρ[i]? with | some (.bor d)=>Sl.bor d | some (.own d)=>.bor d | some .hnd=>.hnd | _=>.no)=s:=Option.some.inj hs;show wb1 _ _ _ (σ[i]?).join s;cases h:ρ[i]? with
      | none=>rw[h] at hs;cases hs;trivial
      | some s'=>
        rw[h] at hs;have z:=R.slot i s' h;cases s' with
        | no=>cases hs;trivial
        | hnd=>cases hs;exact z
        | bor d=>cases hs;obtain⟨v,e1,i1⟩:=z;exact⟨v,e1,i1.mono (kk λb a=>⟨a.1,a.2.2⟩)⟩
        | own d=>
          cases hs;obtain⟨a,e1,n,f,t⟩:=z;refine⟨.ref a,e1,?_⟩;have t':=t.mono (c:=c) (kk λb a=>⟨a.1,a.2.2⟩) λo z=>by rw[zb3 (zb7 z hD)];exact z
          obtain⟨o,ho,_⟩:=t.there;exact Top.isTop (c:=c) ⟨n.1,yd4,λw=>w.elim n.2 (λz=>by subst z;rw[hD] at ho;cases ho)⟩ t'
end
def wu0(S:Type)(G:FnG)(t:FnT S)(e:Fn S):List D->List D->Rho->S->Res S (List D)
 | [],acc,_,st=>.ok acc st
 | d::r,acc,ρ,st=>(wr1 (G d ρ) st).bind λρ1 st1=>(t ρ1 st1).bind λb st2=>if b=true then
    (e ρ1 st2).bind λy st3=>if y.imm=true/\acc.length<sizeLine then wu0 S G t e r (acc++[y]) ρ1 st3 else .bad
   else wu0 S G t e r acc ρ1 st2
def vb3(S:Type)(fz:List Nat)(ixs:List (Option Nat))(f:FnI S)(G:FnG)(t:FnT S)(e:Fn S):Fn S:=λρ st=>(f (frz fz ρ) st).bind λl st1=>(wu0 S G t e l [] (pickR (frz fz ρ) ixs) st1).bind λr st2=>.ok (.lst r) st2
def DTs(X:Cx){S:Type}{W:Wd S}(c:Dx W)(ifs:List Expr)(t:FnT S):Prop:=PTs X ifs (tDT c t)
def PTs.imp(h:PTs X e t)(i:∀σ H Q,t' σ H Q->t σ H Q):PTs X e t':=λA3 s σ H Q I q=>h A3 s σ H Q I (i σ H Q q)
def vj2(S:Type):FnT S:=λ_ st=>.ok true st
def zm4{X:Cx}{S:Type}{W:Wd S}{c:Dx W}:DTs X c [] (vj2 S):=we2.imp λσ H Q ⟨ρ,st,R,ok,w⟩=>w H Ext.refl ok
def zq0{X:Cx}{S:Type}{W:Wd S}{c:Dx W}{e:Expr}{t:FnT S}(h:DT X c e t):DTs X c [e] t:=we1 h
section
variable{X:Cx}{S:Type}{W:Wd S}{c:Dx W}{N':List Str}{ixs:List (Option Nat)}{scope:Scope}{tg iter elt:Expr}{ifs:List Expr}{f:FnI S}{G:FnG}{t:FnT S}{e:Fn S}{pos:Pos}{g:Gr}
def gEx{S:Type}{W:Wd S}(c:Dx W)(G:FnG):TG:=λv σ H Q=>∃av,tG (c.avoid av) G v σ H Q
def tEx{S:Type}{W:Wd S}(c:Dx W)(t:FnT S):TT:=λσ H Q=>∃av,tDT (c.avoid av) t σ H Q
def eEx{S:Type}{W:Wd S}(c:Dx W)(e:Fn S):TE:=λσ H Q=>∃av,tD (c.avoid av) .R e σ H Q
def vt7(S:Type){W:Wd S}(c:Dx W)(G:FnG)(t:FnT S)(e:Fn S)(l:List D)(A:Addr)(H1:Hp)(Pq:D->S->Prop)(Pe:Exn->S->Prop)(i:Nat)(σ2:St)(H2:Hp):Prop:=
 ∃ρ2 st2 acc ys,Rep (c.avoid λb=>c.av b\/b=A) H2 σ2 ρ2/\(∀b,¬Ow σ2 ρ2 b)/\W.ok st2 H2/\Ext W H1 H2/\H2 A=some (.lst ys)/\D.immL acc=true/\IsL c.K (λ_=>False) H2 acc ys/\
  wpR ((wu0 S G t e (l.drop i) acc ρ2 st2).bind λr st2=>.ok (.lst r) st2) Pq Pe
def cPq(S:Type){W:Wd S}(c:Dx W)(g:Gr)(σ:St)(ρ:Rho)(H:Hp)(Q:VK):D->S->Prop:=λd st'=>∀v H',Ext W H H'->W.ok st' H'->Val c g σ ρ H H' d v->Q v H'
def cPe(S:Type){W:Wd S}(c:Dx W)(H:Hp):Exn->S->Prop:=λx st'=>∀H',Ext W H H'->W.ok st' H'->c.Ex x st' H'
def xi1{fz:List Nat}(h:tD c g (vb3 S fz ixs f G t e) σ H Q):ve3 (tI c f) ixs (gEx c G) (tEx c t) (eEx c e) σ H Q:=by
 obtain⟨ρ,st,R,ok,w⟩:=h;obtain⟨Rf,Ff⟩:=R.frz ok fz;refine⟨frz fz ρ,st,Rf,ok,za6 (za3.mp w) (λl st1 q J H1 e1 ok1 it=>?_) λx st1 q=>q⟩;have R1:=R.ext ok e1;have Rf1:=Rf.ext ok e1;intro A hA;have hAm:¬W.mv A:=zs2 ok1 hA;have hA0:H A=none:=e1.none ok1 hA;refine⟨λi m σ2 H2=>i<=l.length/\m=l.length-i/\vt7 S c G t e l A H1 (cPq S c g σ ρ H Q) (cPe S c H) i σ2 H2,⟨l.length,Be0 _,rfl,pickR (frz fz ρ) ixs,st1,[],[],Rf1.pick ok1 hA ixs,λb=>yd4,zh3 ok1 hA,Ext.laid hA,zb4,rfl,IsL.nil.mpr rfl,by rw[Cm0];exact q⟩,?_⟩;intro i m σ2 H2 hI;obtain⟨hle,rfl,ρ2,st2,acc,ys,R2,no2,ok2,x2,hA2,im,il,w2⟩:=hI;have k2:wq8 (Av c σ (frz fz ρ)) (Av (c.avoid λb=>c.av b\/b=A) σ2 ρ2) H1 H2:=zl2 (λb o h tt=>x2 b o h λm=>by
  obtain⟨o',h',n1,n2⟩:=W.live st1 H1 b ok1 m;rw[h] at h';cases h';rcases tt with⟨u,z⟩ | ⟨ob,u,z⟩
  ·exact n1 u z
  ·exact n2 ob u z) λb o a h=>⟨⟨a.1,no2 b,λw=>w.elim a.2.2 (λz=>by subst z;rw[hA] at h;cases h)⟩,x2 b o h a.1⟩
 obtain⟨h1,h2⟩:=it (c.avoid λb=>c.av b\/b=A) rfl σ2 ρ2 H2 st2 k2 R2 ok2 i;by_cases hlt:i<l.length
 ·have hd:l[i]?=some l[i]:=Ac0 hlt
  obtain⟨go,yl⟩:=h1 _ hd;rw[List.drop_eq_getElem_cons hlt] at w2;refine .inr ⟨go,λσ3 H3=>vt7 S c G t e l A H1 (cPq S c g σ ρ H Q) (cPe S c H) (i+1) σ3 H3,λσ3 H3 hh=>⟨l.length-(i+1),by omega,hlt,rfl,hh⟩,λx H3 y=>?_⟩;obtain⟨sm,iv⟩:=yl x H3 y;have ex:Ext W H2 H3:=sm.ext;have ok3:W.ok st2 H3:=W.stay st2 H2 H3 ok2 λb o _ hb=>sm b o hb
  have R3:=R2.ext (c:=c.avoid λb=>c.av b\/b=A) ok2 ex;have w2:wpR (((wr1 (G l[i] ρ2) st2).bind λρ1 st1=>(t ρ1 st1).bind λb st2=>if b=true then
   (e ρ1 st2).bind λy st3=>if y.imm=true/\acc.length<sizeLine then wu0 S G t e (l.drop (i+1)) (acc++[y]) ρ1 st3 else .bad
   else wu0 S G t e (l.drop (i+1)) acc ρ1 st2).bind λr st2=>.ok (.lst r) st2) (cPq S c g σ ρ H Q) (cPe S c H):=w2
  obtain⟨ρ4,e4,w4⟩:=zb2.mp (za3.mp (za3.mp w2));refine⟨(λb=>c.av b\/b=A),ρ2,_,ρ4,st2,R3,ok3,iv,e4,λσ4 R4 F4=>?_⟩;have no4:∀b,¬Ow σ4 ρ4 b:=λb wb=>by
   obtain⟨n,_,o,ho,_⟩:=R4.owOk wb;exact no2 b (F4.own b o ho n wb)
  refine⟨(λb=>c.av b\/b=A),ρ4,st2,R4,ok3,za6 (za3.mp w4) (λb st5 q5 H5 x5 ok5=>?_) λx st5 q H5 x5 ok5=>q H5 ((e1.trans x2).trans (ex.trans x5)) ok5⟩;have R5:=R4.ext (c:=c.avoid λb=>c.av b\/b=A) ok3 x5;have hA5:H5 A=some (.lst ys):=x5 A _ (sm A _ hA2) hAm;cases b with
  | false=>
    exact⟨ρ4,st5,acc,ys,R5,no4,ok5,x2.trans (ex.trans x5),hA5,im,(il.ext ex ok2 λ_ z=>z.elim).ext x5 ok3 λ_ z=>z.elim,za3.mpr q5⟩
  | true=>
    refine⟨(λb=>c.av b\/b=A),ρ4,st5,R5,ok5,za6 (za3.mp q5) (λy st6 q6 v H6 x6 ok6 z6=>?_) λx st6 q H6 x6 ok6=>q H6 ((e1.trans x2).trans (ex.trans (x5.trans x6))) ok6⟩;by_cases hy:y.imm=true/\acc.length<sizeLine
    ·rw[if_pos hy] at q6
     have hA6:H6 A=some (.lst ys):=x6 A _ hA5 hAm;have il6:IsL c.K (λ_=>False) H6 acc ys:=((il.ext ex ok2 λ_ z=>z.elim).ext x5 ok3 λ_ z=>z.elim).ext x6 ok5 λ_ z=>z.elim
     refine⟨ys,hA6,by rw[<-il6.length];exact hy.2,ρ4,st6,acc++[y],ys++[v],?_,no4,?_,?_,zb4,?_,?_,za3.mpr q6⟩
     ·-- the slots do not see the list
      have R6:=R5.ext (c:=c.avoid λb=>c.av b\/b=A) ok5 x6;have nA:∀b,Av (c.avoid λb=>c.av b\/b=A) σ4 ρ4 b->b≠A:=λb a z=>a.2.2 (.inr z)
      have k:wq8 (Av (c.avoid λb=>c.av b\/b=A) σ4 ρ4) (Av (c.avoid λb=>c.av b\/b=A) σ4 ρ4) H6 (upd H6 A (.lst (ys++[v]))):=zl2 (λb o h tt=>by
       have hb:b≠A:=λz=>by
        subst z;rw[hA6] at h;cases h;rcases tt with⟨u,z⟩ | ⟨ob,u,z⟩<;>cases z
       rw[zb3 hb];exact h) λb o a h=>⟨a,by rw[zb3 (nA b a)];exact h⟩
      refine⟨R6.len,λb o h n=>?_,λj s hs=>?_,λb h=>?_,R6.uniq⟩
      ·have hb:b≠A:=λz=>by
        subst z;have:=(R6.avl b (.inr rfl)).2.1;rw[show (c.avoid λb'=>c.av b'\/b'=b).H0 b=c.H0 b from rfl] at this;rw[this] at h;cases h
       rw[zb3 hb];exact R6.frame b o h n
      ·have qs:=R6.slot j s hs
       cases s with
       | no=>trivial
       | bor d=>obtain⟨v',e1,i1⟩:=qs;exact⟨v',e1,i1.mono k⟩
       | own d=>obtain⟨a,ea,_,_,_⟩:=qs;exact(no4 a ⟨j,d,hs,zf7 ea⟩).elim
       | hnd=>exact qs
      ·obtain⟨n,z,o,h',qq⟩:=R6.avl b h
       by_cases hb:b=A
       ·subst hb
        exact⟨n,z,_,zb4,(λu z=>by cases z),λob u z=>by cases z⟩
       ·exact⟨n,z,o,by rw[zb3 hb];exact h',qq⟩
     ·exact W.stay st6 H6 _ ok6 λb o m h=>by
       have hb:b≠A:=λz=>hAm (z▸m)
       rw[zb3 hb];exact h
     ·intro b o h n
      have hb:b≠A:=λz=>by subst z;rw[hA] at h;cases h
      rw[zb3 hb];exact((x2.trans (ex.trans (x5.trans x6))) b o h n)
     ·exact zh5 im (by simp[D.immL,hy.1])
     ·have z6':Is c.K (λ_=>False) H6 y v:=Is.ofImm hy.1 z6
      have kk:wq8 (λ_=>False) (λ_=>False) H6 (upd H6 A (.lst (ys++[v]))):=zl2 (λb o h tt=>by
       have hb:b≠A:=λz=>by
        subst z;rw[hA6] at h;cases h;rcases tt with⟨u,z⟩ | ⟨ob,u,z⟩<;>cases z
       rw[zb3 hb];exact h) λb o a h=>a.elim
      exact(il6.append (IsL.one z6')).mono kk
    ·rw[if_neg hy] at q6;exact q6.elim
 ·have e0:i=l.length:=by omega
  subst e0;rw[List.drop_length] at w2;refine .inl ⟨h2 (Ag0 _),w2 (.ref A) H2 (e1.trans x2) ok2 (New.val R ?_ g)⟩;exact Is.lst ⟨hAm,hA0⟩ hA2 (IsL.ofImm im il)
def zi9(fz:List Nat)(CS:zk2 X N' ixs scope)(hc:X.calm=true)(hi:DI X c tg iter f)(hin:∀av cl C s H fp,DG (zi0 X N' scope cl C s H fp) (c.avoid av) tg G/\DTs (zi0 X N' scope cl C s H fp) (c.avoid av) ifs t/\DE (zi0 X N' scope cl C s H fp) (c.avoid av) .R elt e)(hs:∀x,foldedSetIterable iter X.env x=pure x:=by intro _;rfl):DE X c g (.ListComp elt [⟨tg,iter,ifs,0⟩] scope pos) (vb3 S fz ixs f G t e):=
 (we8 (g:=gEx c G) (tc:=tEx c t) (te:=eEx c e) CS hc hi (λcl C s H fp=>
  ⟨λA3 s' σ H' v u Q I r ⟨av,q⟩=>(hin av cl C s H fp).1 A3 s' σ H' v u Q I r q,λA3 s' σ H' Q I ⟨av,q⟩=>(hin av cl C s H fp).2.1 A3 s' σ H' Q I q,λA3 s' σ H' Q I ⟨av,q⟩=>(hin av cl C s H fp).2.2 A3 s' σ H' Q I q⟩) hs).imp λσ H Q q=>xi1 (g:=g) q
def zx9{i:Nat}{y:Str}{py spos:Pos}(fz:List Nat)(CS:zk2 X N' ixs scope)(hc:X.calm=true)(hN:X.N.Nodup)(hy0:X.N[i]?=some y)(hy:X.env.scope.names.lookup y=some .local)(hi:DI X c tg iter f)(hin:∀av cl C s H fp,DG (zi0 X N' scope cl C s H fp) (c.avoid av) tg G/\DTs (zi0 X N' scope cl C s H fp) (c.avoid av) ifs t/\DE (zi0 X N' scope cl C s H fp) (c.avoid av) .R elt e)(hsw:swapsWith (.ListComp elt [⟨tg,iter,ifs,0⟩] scope pos) (some (.Name y py)) spos.line X.env=pure true)(hs:∀x,foldedSetIterable iter X.env x=pure x:=by intro _;rfl):DS X c (.Assign [.Name y py] (.ListComp elt [⟨tg,iter,ifs,0⟩] scope pos) spos) (vi0 S i (vb3 S fz ixs f G t e)):=
 (we4 (g:=gEx c G) (tc:=tEx c t) (te:=eEx c e) CS hc hN hy0 hy hi (λcl C s H fp=>
  ⟨λA3 s' σ H' v u Q I r ⟨av,q⟩=>(hin av cl C s H fp).1 A3 s' σ H' v u Q I r q,λA3 s' σ H' Q I ⟨av,q⟩=>(hin av cl C s H fp).2.1 A3 s' σ H' Q I q,λA3 s' σ H' Q I ⟨av,q⟩=>(hin av cl C s H fp).2.2 A3 s' σ H' Q I q⟩) hsw hs).imp λD σ H q=>xi1 (g:=.F) (xy8 q)
def zk3(S:Type)(t:FnT S)(B:FnS S):Nat->FnS S
 | 0,_,_=>.bad
 | n+1,ρ,st=>(t ρ st).bind λb st1=>if b=true then (B ρ st1).bind λfl st2=>match fl with
    | .nx ρ2=>zk3 S t B n ρ2 st2
    | .ct ρ2=>zk3 S t B n ρ2 st2
    | .bk ρ2=>.ok (.nx ρ2) st2
    | .rt d=>.ok (.rt d) st2
   else .ok (.nx ρ) st1
open Classical in
def yj7(S:Type)(t:FnT S)(B:FnS S):FnS S:=λρ st=>if h:∃n,zk3 S t B n ρ st≠.bad then zk3 S t B h.choose ρ st else .bad
theorem zr1:∀(n k:Nat) (ρ:Rho) (st:S),zk3 S t B n ρ st≠.bad->zk3 S t B (n+k) ρ st=zk3 S t B n ρ st
 | 0,_,_,_,h=>(h rfl).elim
 | n+1,k,ρ,st,h=>by
   rw[show n+1+k=(n+k)+1 by omega];unfold zk3 at h ⊢;cases q:t ρ st with
   | bad=>rfl
   | exc x s=>rfl
   | ok b st1=>
     rw[q] at h;simp only[Res.bind_ok] at h ⊢;cases b with
     | false=>rfl
     | true=>
       simp only[if_true] at h ⊢;cases q2:B ρ st1 with
       | bad=>rfl
       | exc x s=>rfl
       | ok fl st2=>
         rw[q2] at h;simp only[Res.bind_ok] at h ⊢;cases fl with
         | nx ρ2=>exact zr1 n k ρ2 st2 h
         | ct ρ2=>exact zr1 n k ρ2 st2 h
         | bk ρ2=>rfl
         | rt d=>rfl
def yq6{t:FnT S}{B:FnS S}{n:Nat}{ρ:Rho}{st:S}(h:zk3 S t B n ρ st≠.bad):yj7 S t B ρ st=zk3 S t B n ρ st:=by
 unfold yj7;have hx:∃n,zk3 S t B n ρ st≠.bad:=⟨n,h⟩;rw[dif_pos hx];have h1:=zr1 n hx.choose ρ st h;have h2:=zr1 hx.choose n ρ st hx.choose_spec;rw[Nat.add_comm] at h2;exact h2.symm.trans h1
def yo6{test:Expr}{body:List Stmt}{t:FnT S}{B:FnS S}(hp:PassesOwn (model X.prog X.w) X.A X.env X.xe)(ht:DT X c test t)(hb:DSs X c body B):DS X c (.While test body [] pos) (yj7 S t B):=
 (xu8 hp ht hb).imp λD σ H hI27=>by
  obtain⟨ρ,st,R,ok,w⟩:=hI27;have hx:∃n,zk3 S t B n ρ st≠.bad:=by
   apply Classical.byContradiction;intro h;unfold yj7 at w;rw[dif_neg h] at w;exact w
  obtain⟨n,hn⟩:=hx;rw[yq6 hn] at w;refine⟨λm σ2 H2=>∃ρ2 st2,Rep c H2 σ2 ρ2/\W.ok st2 H2/\wpR (zk3 S t B m ρ2 st2) (wt3 c D σ2 ρ2 H2) (wy4 c),⟨n,ρ,st,R,ok,w⟩,?_⟩;rintro m σ2 H2 ⟨ρ2,st2,R2,ok2,w2⟩;cases m with
  | zero=>exact w2.elim
  | succ m=>
    refine⟨ρ2,st2,R2,ok2,za6 (za3.mp w2) (λb st3 q3 H3 x3 ok3=>?_) λx st3 q H3 x3 ok3=>q H3 (x3.f0 R2) ok3⟩;have R3:=R2.ext ok2 x3;cases b with
    | false=>exact q3 σ2 H3 x3.frm ok3 R3
    | true=>
      refine vh5 ?_;refine⟨λσ4 H4=>∃ρ4 st4,Rep c H4 σ4 ρ4/\W.ok st4 H4/\wpR (zk3 S t B m ρ4 st4) (wt3 c D σ4 ρ4 H4) (wy4 c),λσ4 H4 q=>⟨m,Nat.lt_succ_self m,q⟩,ρ2,st3,R3,ok3,za6 (za3.mp q3) (λfl st4 q4=>?_) λx st4 q=>q⟩;have nxt:∀ρ5,wpR (zk3 S t B m ρ5 st4) (wt3 c D σ2 ρ2 H2) (wy4 c)->Nx c (λσ4 H4=>∃ρ4 st4,Rep c H4 σ4 ρ4/\W.ok st4 H4/\wpR (zk3 S t B m ρ4 st4) (wt3 c D σ4 ρ4 H4) (wy4 c)) σ2 ρ2 H3 ρ5 st4:=
       λρ5 q5 σ5 H5 F5 ok5 R5=>⟨ρ5,st4,R5,ok5,za6 q5 (λfl st6 q=>q.from (x3.frm.trans F5)) λx st6 q=>q⟩
      cases fl with
      | nx ρ5=>exact nxt ρ5 q4
      | ct ρ5=>exact nxt ρ5 q4
      | bk ρ5=>exact λσ5 H5 F5 ok5 R5=>q4 σ5 H5 (x3.frm.trans F5) ok5 R5
      | rt d=>exact q4
end
def rho0(n:Nat)(l:List D):Rho:=l.map Sl.bor++List.replicate (n-l.length) .no
def rhoS(n:Nat)(l:List D):Rho:=Sl.hnd::(l.map Sl.bor++List.replicate (n-1-l.length) .no)
def vt5{S:Type}(r:Res S Fl):Res S D:=match r with
 | .ok (.rt d) st=>.ok d st
 | .ok (.nx _) st=>.ok .non st
 | .ok _ _=>.bad
 | .exc x st=>.exc x st
 | .bad=>.bad
def dfn(n p:Nat)(B:FnS Unit):List D->Res Unit D:=λl=>if l.length=p/\p<=n then vt5 (B (rho0 n l) ()) else .bad
def wz7{S:Type}(n p:Nat)(B:FnS S):List D->S->Res S D:=λl st=>if l.length+1=p/\p<=n then vt5 (B (rhoS n l) st) else .bad
abbrev cx0(K:PySem.W.Frag)(H:Hp):Dx W0:=⟨K,H,λ_ _ _=>False,λ_=>False⟩
abbrev cxS{S:Type}(W:Wd S)(K:PySem.W.Frag)(H:Hp):Dx W:=⟨K,H,λ_ _ _=>False,λ_=>False⟩
def zu3{n:Nat}{i:Nat}(h:(rho0 n l)[i]?=some s):(∃d,s=.bor d/\l[i]?=some d)\/s=.no:=by
 unfold rho0 at h;by_cases hi:i<l.length
 ·rw[List.getElem?_append_left (by rw[Aa0];exact hi),Ai0] at h
  cases q:l[i]? with
  | none=>rw[q] at h;cases h
  | some d=>rw[q] at h;cases h;exact .inl ⟨d,rfl,rfl⟩
 ·rw[List.getElem?_append_right (by rw[Aa0];omega),List.getElem?_replicate] at h
  split at h
  ·cases h;exact .inr rfl
  ·cases h
def ye9{i:Nat}(h:vs[i]?=some v):(start N vs)[i]?=some (some v):=by
 unfold start;have hi:i<vs.length:=(Ae0.mp h).1;rw[List.getElem?_append_left (by rw[Aa0];exact hi),Ai0,h];rfl
open H in
def xj2{K:PySem.W.Frag}{H:Hp}{N:List Str}{l:List D}{vs:List V}(hl:l.length<=N.length)(h:IsL K (λ_=>True) H l vs):Rep (cx0 K H) H (start N vs) (rho0 N.length l):=by
 have no:∀b,¬Ow (start N vs) (rho0 N.length l) b:=λb hI28=>by
  obtain⟨i,d,h1,_⟩:=hI28;rcases zu3 h1 with⟨_,z,_⟩ | z<;>cases z
 refine⟨?_,λb o e _=>e,λi s hs=>?_,λb z=>z.elim,λi j a d e h1 _ _ _=>?_⟩
 ·unfold start rho0
  rw[Ak0,Ak0,Aa0,Aa0,List.length_replicate,List.length_replicate,h.length]
 ·rcases zu3 hs with⟨d,rfl,hd⟩ | rfl
  ·obtain⟨v,hv,iv⟩:=h.get hd
   exact⟨v,by rw[ye9 hv];rfl,iv.mono ⟨λ_ _ z _=>z,λb o _ z=>⟨⟨λm=>m,no b,λm=>m⟩,z⟩⟩⟩
  ·trivial
 ·rcases zu3 h1 with⟨_,z,_⟩ | z<;>cases z
section
variable{P:Program}{w:World}{K:PySem.W.Frag}{mg:Str->Option Value}{base:Heap}
open H in
def Fun.d0{x qual:Str}{st:Stmt}{f:Addr}{fd:FuncData}{N ps:List Str}{k:Nat}{B:FnS Unit}(F:Fun K x qual st f fd)(S:zd1 N ps (za5 st))(hb:∀(cdv:Value) (A:Around) (outer:List Env) (s:Shared) (H:Hp) (E:XK),wr2 k (A.deeper (envOfC qual (za5 st) s.heap.objs.size f cdv))->
  DSs (ws3 CX0 P w K mg base N qual (za5 st) f cdv A outer s H E).nox (cx0 K H) (zc2 st) B):ww5 P w K mg base CX0 (k+1) f fd ps (sp0 K (dfn N.length ps.length B)):=by
 refine F.ok S (λvs H Q E h=>?_) λcdv A outer s H vs Q E hr h=>?_
 ·obtain⟨l,i,w⟩:=h
  unfold dfn at w;split at w
  ·rename_i hl
   rw[<-i.length];exact hl.1
  ·exact w.elim
 ·obtain⟨l,i,w⟩:=h
  unfold dfn at w;split at w
  ·rename_i hl
   refine⟨_,hb cdv A outer s H E hr,rho0 N.length l,(),xj2 (by omega) i,trivial,?_⟩;cases q:B (rho0 N.length l) () with
   | bad=>rw[q] at w;exact w.elim
   | exc x u=>rw[q] at w;exact w.elim
   | ok fl u=>
     rw[q] at w;have fin:∀d v H',F0 (cx0 K H) H'->Is K (λb=>¬W0.mv b/\H b=none) H' d v->(∀v H',ww1 H H'->Is K (λb=>H b=none) H' d v->Q v H')->Q v H':=λd v H' f0 z q=>
      q v H' (λb o e=>f0 b o e λm=>m) (z.mono ⟨λ_ _ z _=>z,λb o a z=>⟨a.2,z⟩⟩)
     cases fl with
     | rt d=>exact λv H' f0 _ z=>fin d v H' f0 z w
     | nx ρ=>exact λσ' H' fr _ R'=>fin .non .non H' (λb o e n=>R'.frame b o e n) (Is.non_iff.mpr rfl) w
     | bk ρ=>exact w.elim
     | ct ρ=>exact w.elim
  ·exact w.elim
open H in
def Fun.dS{Sx:Type}{W:Wd Sx}{x qual:Str}{st:Stmt}{f:Addr}{fd:FuncData}{N ps:List Str}{k:Nat}{B:FnS Sx}(F:Fun K x qual st f fd)(S:zd1 N ps (za5 st))(hb:∀(cdv:Value) (A:Around) (outer:List Env) (s:Shared) (H:Hp) (E:XK),wr2 k (A.deeper (envOfC qual (za5 st) s.heap.objs.size f cdv))->
  DSs (ws3 CX0 P w K mg base N qual (za5 st) f cdv A outer s H E).nox (cxS W K H) (zc2 st) B):ww5 P w K mg base CX0 (k+1) f fd ps (spS W K (wz7 N.length ps.length B)):=by
 refine F.ok S (λvs H Q E h=>?_) λcdv A outer s H vs Q E hr h=>?_
 ·obtain⟨l,us,st0,rfl,i,ok,w⟩:=h
  unfold wz7 at w;split at w
  ·rename_i hl
   rw[Ax0,<-i.length];exact hl.1
  ·exact w.elim
 ·obtain⟨l,us,st0,rfl,i,ok,w⟩:=h
  unfold wz7 at w;split at w
  ·rename_i hl
   have no:∀b,¬Ow (start N (W.h::us)) (rhoS N.length l) b:=λb hI29=>by
    obtain⟨j,d,h1,_⟩:=hI29;unfold rhoS at h1;cases j with
    | zero=>cases h1
    | succ j=>
      have h1:(l.map Sl.bor++List.replicate (N.length-1-l.length) .no)[j]?=some (.own d):=by simpa using h1
      rcases zu3 (n:=N.length-1) h1 with⟨_,z,_⟩ | z<;>cases z
   have R:Rep (cxS W K H) H (start N (W.h::us)) (rhoS N.length l):=by
    refine⟨?_,λb o e _=>e,λj s hs=>?_,λb z=>z.elim,λj j' a d e h1 _ h3 _=>(no a ⟨j,d,h1,h3⟩).elim⟩
    ·unfold start rhoS
     simp only[Ak0,Ax0,Aa0,List.length_replicate];have:=i.length;omega
    ·unfold rhoS at hs
     cases j with
     | zero=>cases hs;exact by rw[ye9 (v:=W.h) rfl];rfl
     | succ j=>
       have hs:(l.map Sl.bor++List.replicate (N.length-1-l.length) .no)[j]?=some s:=by simpa using hs
       rcases zu3 (n:=N.length-1) hs with⟨d,rfl,hd⟩ | rfl
       ·obtain⟨v,hv,iv⟩:=i.get hd
        exact⟨v,by rw[ye9 (v:=v) (by simpa using hv)];rfl,iv.mono ⟨λ_ _ z _=>z,λb o a z=>⟨⟨a,no b,λm=>m⟩,z⟩⟩⟩
       ·trivial
   refine⟨_,hb cdv A outer s H E hr,rhoS N.length l,st0,R,ok,?_⟩;cases q:B (rhoS N.length l) st0 with
   | bad=>rw[q] at w;exact w.elim
   | exc x u=>rw[q] at w;exact w.elim
   | ok fl u=>
     rw[q] at w;cases fl with
     | rt d=>exact λv H' f0 ok' z=>w v H' f0 ok' z
     | nx ρ=>exact λσ' H' fr ok' R'=>w .non H' (λb o e n=>R'.frame b o e n) ok' (Is.non_iff.mpr rfl)
     | bk ρ=>exact w.elim
     | ct ρ=>exact w.elim
  ·exact w.elim
end
structure zc4(P:Program)(w:World)(K:PySem.W.Frag)(mg:Str->Option Value)(base:Heap)(k:Nat)(x:Str)(ps:List Str)(sp:Sp):Prop where
 ex:∃f fd,mg x=some (.ref f)/\keepIn K (.ref f)=true/\wz8 K fd ps []/\ww5 P w K mg base CX0 k f fd ps sp
section
variable{X:Cx}{S:Type}{W:Wd S}{c:Dx W}{g:Gr}{k:Nat}{x:Str}{ps:List Str}{p pos:Pos}{e:Expr}{es:List Expr}
def zd6{G:List D->Res Unit D}{f:FnA S}(C:zc4 X.prog X.w X.K X.mg X.base k x ps (sp0 c.K G))(hr:wr2 k X.A)(hg:Gl X x)(ha:DA X c (e::es) f)(hdb:(x == ("__debug__" : Str))=false:=by decide)(he:starEach (e::es) X.env=(false,eval e X.env)::starEach es X.env:=by rfl)(hpl:(backTo pos (starEach es X.env)).any (·.1)=false:=by rfl):DE X c g (.Call (.Name x p) (e::es) [] pos) (vd3 S G f):=by
 obtain⟨fa,fd,hm,hk,hb,F⟩:=C.ex;exact(yw6 (E:=E0) F hr hg hm hk hb .nil vf5 ha hdb he hpl).imp λσ H Q q=>xu0 q
def za9{G:List D->S->Res S D}{f:FnA S}{i:Nat}{y:Str}{py:Pos}(C:zc4 X.prog X.w X.K X.mg X.base k x ps (spS W c.K G))(hr:wr2 k X.A)(hg:Gl X x)(hy:PE X (.Name y py) (wu2 i))(ha:DA X c es f)(hdb:(x == ("__debug__" : Str))=false:=by decide)(he:starEach (.Name y py::es) X.env=(false,eval (.Name y py) X.env)::starEach es X.env:=by rfl)(hpl:(backTo pos (starEach es X.env)).any (·.1)=false:=by rfl):DE X c g (.Call (.Name x p) (.Name y py::es) [] pos) (yt6 S G i f):=by
 obtain⟨fa,fd,hm,hk,hb,F⟩:=C.ex;exact(yw6 (E:=E0) F hr hg hm hk hb .nil vf5 (zi1 hy ha he) hdb he hpl).imp λσ H Q q=>xt9 q
def zm1{i:Int}:New c H H' (.int i) (.int i):=Is.int_iff.mpr rfl
def zu7{i:Bool}:New c H H' (.bl i) (.bl i):=Is.bl_iff.mpr rfl
def iOp(C:Int->Int->Prop)[∀i j,Decidable (C i j)](g:Int->Int->D):D->D->Option D
 | .int i,.int j=>if C i j then some (g i j) else none
 | _,_=>none
def wr4(g:Int->Int->D):D->D->Option D
 | .int i,.int j=>some (g i j)
 | _,_=>none
open H in
def vs2{C:Int->Int->Prop}[∀i j,Decidable (C i j)]{g:Int->Int->Int}:OpD c (rI C λi j=>.int (g i j)) (iOp C λi j=>.int (g i j)):=by
 intro d1 d2 v1 v2 H st d Q ok z1 z2 e q;unfold iOp at e;split at e
 ·rename_i i j
  split at e
  ·rename_i h
   cases e;exact⟨i,j,Is.int_iff.mp z1,Is.int_iff.mp z2,h,q _ H Ext.refl ok zm1⟩
  ·cases e
 ·cases e
open H in
def wr9{g:Int->Int->Int}:OpD c (rI0 λi j=>.int (g i j)) (wr4 λi j=>.int (g i j)):=by
 intro d1 d2 v1 v2 H st d Q ok z1 z2 e q;unfold wr4 at e;split at e
 ·rename_i i j
  cases e;exact⟨i,j,Is.int_iff.mp z1,Is.int_iff.mp z2,q _ H Ext.refl ok zm1⟩
 ·cases e
open H in
def wu5{g:Int->Int->Bool}:OpD c (rI0 λi j=>.bl (g i j)) (wr4 λi j=>.bl (g i j)):=by
 intro d1 d2 v1 v2 H st d Q ok z1 z2 e q;unfold wr4 at e;split at e
 ·rename_i i j
  cases e;exact⟨i,j,Is.int_iff.mp z1,Is.int_iff.mp z2,q _ H Ext.refl ok zu7⟩
 ·cases e
theorem OpD.or(h:OpD c r o)(h':OpD c r' o'):OpD c (λx y H Q=>r x y H Q\/r' x y H Q) (λa b=>(o a b).or (o' a b)):=by
 intro d1 d2 v1 v2 H st d Q ok z1 z2 e q;cases e1:o d1 d2 with
 | some d'=>
   have e:some d'=some d:=by simpa [e1] using e
   cases e;exact .inl (h d1 d2 v1 v2 H st d Q ok z1 z2 e1 q)
 | none=>
   have e:o' d1 d2=some d:=by simpa [e1] using e
   exact .inr (h' d1 d2 v1 v2 H st d Q ok z1 z2 e q)
instance (i j:Int):Decidable (vl4 i j):=by unfold vl4;infer_instance
instance (i j:Int):Decidable (va0 i j):=by unfold va0;infer_instance
instance (i j:Int):Decidable (vl3 i j):=by unfold vl3;infer_instance
instance (i j:Int):Decidable (vk2 i j):=by unfold vk2;infer_instance
def oIx:D->D->Option D
 | .tup l,.int i=>im (atI l i)
 | .lst l,.int i=>im (atI l i)
 | _,_=>none
theorem xr8{K:PySem.W.Frag}{A:Addr->Prop}{H:Hp}{l:List D}{vs:List V}{i:Int}{d:D}(z:IsL K A H l vs)(h:atI l i=some d):∃v,atI vs i=some v/\Is K A H d v:=by
 unfold atI at h ⊢;rw[<-z.length];cases q:ixN l.length i with
 | none=>rw[q] at h;cases h
 | some j=>
   rw[q] at h;exact z.get (i:=j) h
theorem yh4(h:im o=some d):o=some d/\d.imm=true:=by
 cases o with
 | none=>cases h
 | some x=>
   have h:(if x.imm=true then some x else none)=some d:=h;split at h
   ·cases h;exact⟨rfl,by assumption⟩
   ·cases h
open H in
def vi5{K:PySem.W.Frag}(hK:c.K=K):OpD c (rIx K) oIx:=by
 intro d1 d2 v1 v2 H st d Q ok z1 z2 e q;unfold oIx at e;split at e
 ·rename_i l i
  obtain⟨a,vs,ea,s,z⟩:=Is.tup_sq z1;obtain⟨e,m⟩:=yh4 e;obtain⟨v,hv,iv⟩:=xr8 z e;exact .inr (.inl ⟨a,vs,i,v,ea,Is.int_iff.mp z2,hK▸s,hv,q v H Ext.refl ok (New.imm m iv)⟩)
 ·rename_i l i
  obtain⟨a,vs,ea,n,s,z⟩:=Is.lst_iff.mp z1;obtain⟨e,m⟩:=yh4 e;obtain⟨v,hv,iv⟩:=xr8 z e;exact .inl ⟨a,vs,i,v,ea,Is.int_iff.mp z2,.of s,hv,q v H Ext.refl ok (New.imm m iv)⟩
 ·cases e
end
section
variable{X:Cx}{S:Type}{W:Wd S}{c:Dx W}{H H':Hp}{σ:St}{ρ:Rho}{st:S}{i:Nat}{d d':D}{a:Addr}{o:HO}
open H in
def xl0(hi:ρ[i]?=some (.own d))(b:Addr):Ow σ (ρ.set i (.own d')) b↔Ow σ ρ b:=by
 have hlt:i<ρ.length:=(Ae0.mp hi).1;constructor
 ·rintro ⟨j,e,h1,h2⟩
  rcases zb5 h1 with⟨m,_⟩ | ⟨_,z⟩
  ·subst m;exact⟨j,d,hi,h2⟩
  ·exact⟨j,e,z,h2⟩
 ·rintro ⟨j,e,h1,h2⟩
  by_cases m:j=i
  ·subst m;exact⟨j,d',Ci0 hlt,h2⟩
  ·exact⟨j,e,by rw[Ba0 (Ne.symm m)];exact h1,h2⟩
open H in
def Rep.wr(R:Rep c H σ ρ)(hi:ρ[i]?=some (.own d))(ha:σ[i]?=some (some (.ref a)))(ht:(∀u,o≠.tup u)/\∀ob u,o≠.frz ob u)(h:wq8 (Av c σ ρ) (Av c σ ρ) H (upd H a o)->Top c.K (Av c σ ρ) (upd H a o) d' a):Rep c (upd H a o) σ (ρ.set i (.own d'))/\Frm c H σ ρ (upd H a o) σ (ρ.set i (.own d')):=by
 have hlt:i<ρ.length:=(Ae0.mp hi).1;have wa:Ow σ ρ a:=⟨i,d,hi,ha⟩;obtain⟨nm,h0,o1,ho,n1,n2⟩:=R.owOk wa;have k:wq8 (Av c σ ρ) (Av c σ ρ) H (upd H a o):=zl2 (λb u e t=>by
  have hb:b≠a:=λz=>by
   subst z;rw[ho] at e;cases e;rcases t with⟨w,z⟩ | ⟨ob,w,z⟩
   ·exact n1 w z
   ·exact n2 ob w z
  rw[zb3 hb];exact e) λb u av e=>⟨av,by rw[zb3 (λ(z:b=a)=>av.2.1 (z▸wa))];exact e⟩
 have avEq:Av c σ (ρ.set i (.own d'))=Av c σ ρ:=by
  funext b;unfold Av;rw[xl0 (σ:=σ) (d':=d') hi b]
 have T:=h k;refine⟨⟨by rw[Bc0];exact R.len,λb u e n=>?_,λj s hs=>?_,λb hb=>?_,λj j' b e e' h1 h2 h3 h4=>?_⟩,⟨λb u e n w=>?_,λb u e n w=>(xl0 hi b).mp w⟩⟩
 ·have hb:b≠a:=λz=>by subst z;rw[show c.H0 b=none from h0] at e;cases e
  rw[zb3 hb];exact R.frame b u e n
 ·rw[avEq]
  rcases zb5 hs with⟨m,z⟩ | ⟨nj,z⟩
  ·subst z m
   obtain⟨b,e1,n,f,t⟩:=R.slot j _ hi;rw[ha] at e1;have e1:some (V.ref a)=some (V.ref b):=e1;cases e1;exact⟨a,by rw[ha];rfl,n,f,T⟩
  ·have q:=R.slot j s z
   cases s with
   | no=>trivial
   | bor e=>obtain⟨v',e1,i1⟩:=q;exact⟨v',e1,i1.mono k⟩
   | own e=>
     obtain⟨b,e1,n,f,t⟩:=q;have hb:b≠a:=λz'=>by
      subst z';exact nj (R.uniq j i b e d z hi (zf7 e1) ha)
     exact⟨b,e1,n,f,t.mono k λu z=>by rw[zb3 hb];exact z⟩
   | hnd=>exact q
 ·obtain⟨n,z,u,h',q⟩:=R.avl b hb
  have hba:b≠a:=λz'=>by
   subst z';obtain⟨b',e1,n',_⟩:=R.slot i _ hi;rw[ha] at e1;have e1:some (V.ref b)=some (V.ref b'):=e1;cases e1;exact n'.2 hb
  exact⟨n,z,u,by rw[zb3 hba];exact h',q⟩
 ·have fix:∀(j:Nat) (e:D),(ρ.set i (.own d'))[j]?=some (.own e)->∃e',ρ[j]?=some (.own e'):=λj e h1=>by
   rcases zb5 h1 with⟨m,_⟩ | ⟨_,z⟩
   ·subst m;exact⟨d,hi⟩
   ·exact⟨e,z⟩
  obtain⟨x1,y1⟩:=fix j e h1;obtain⟨x2,y2⟩:=fix j' e' h2;exact R.uniq j j' b x1 x2 y1 y2 h3 h4
 ·have hb:b≠a:=λz=>w (z▸wa)
  rw[zb3 hb];exact e
def wq5(ρ:Rho)(i:Nat):Option (List D):=match ρ[i]? with
 | some (.own (.lst l))=>if D.immL l=true then some l else none
 | _=>none
def ya0(h:wq5 ρ i=some l):ρ[i]?=some (.own (.lst l))/\D.immL l=true:=by
 unfold wq5 at h;split at h
 ·split at h
  ·cases h;exact⟨by assumption,by assumption⟩
  ·cases h
 ·cases h
def zn9(h:wq5 ρ i=some l):ρ[i]?=some (.own (.lst l)):=(ya0 h).1
def Rep.lstAt(R:Rep c H σ ρ)(h:wq5 ρ i=some l):∃a vs,σ[i]?=some (some (.ref a))/\H a=some (.lst vs)/\IsL c.K (Av c σ ρ) H l vs/\¬W.mv a:=by
 obtain⟨a,e1,n,f,vs,e2,z⟩:=R.slot i _ (zn9 h);exact⟨a,vs,zf7 e1,e2,z,n.1⟩
def zw6(ok:W.ok st H)(n:¬W.mv a):W.ok st (upd H a o):=W.stay st H _ ok λb u m e=>by rw[zb3 (λ(z:b=a)=>n (z▸m))];exact e
def sMt(S:Type)(i:Nat)(o:List D->D->Option (List D))(f:Fn S):FnS S:=λρ st=>match wq5 ρ i with
 | some l=>(f ρ st).bind λd st1=>(wr1 (o l d) st1).bind λl' st2=>.ok (.nx (ρ.set i (.own (.lst l')))) st2
 | none=>.bad
def MtD{S:Type}{W:Wd S}(c:Dx W)(r:V->List V->Hp->VK->Prop)(o:List D->D->Option (List D)):Prop:=∀l d l' a vs v H (Q:VK),o l d=some l'->H a=some (.lst vs)->IsL c.K (λb=>¬W.mv b) H l vs->Is c.K (λb=>¬W.mv b) H d v->
 (∀us,(D.immL l=true->D.immL l'=true/\IsL c.K (λb=>¬W.mv b) H l' us)->Q .non (upd H a (.lst us)))->r (.ref a) [v] H Q
def ww0{x m:Str}{id:String}{e:Expr}{f:Fn S}{p1 p2 p3 p4:Pos}{r:V->List V->Hp->VK->Prop}{o:List D->D->Option (List D)}(hm:MtR X id r)(ho:MtD c r o)(slot:Slot "list" m id)(hty:typeOf (.builtin id)=pure (.type "method_descriptor"))(hx:PE X (.Name x p1) (wu2 i))(he:DE X c .R e f)(hK:c.K=X.K)(hbase:attributeBase (.Name x p1) m X.env (eval (.Name x p1) X.env)=eval (.Name x p1) X.env:=by rfl)(hfew:((backTo p3 (starEach [e] X.env)).all (λx=>!x.1)&&(backToKw p3 (keywordEach [] X.env)).all (λx=>x.1.isSome)
  && decide (([e]:List Expr).length+([]:List Keyword).length+(if ([]:List Keyword).isEmpty then 0 else 1)<30))=true:=by rfl)(hline:(p2.endLine == p3.line)=true:=by rfl)(hs:starEach [e] X.env=(false,eval e X.env)::starEach [] X.env:=by rfl)(hplain:(backTo p3 (starEach [] X.env)).any (·.1)=false:=by rfl)(hsw:swapsWith (.Call (.Attribute (.Name x p1) m p2) [e] [] p3) none p4.line X.env=pure false:=by rfl) :
 DS X c (.Expr (.Call (.Attribute (.Name x p1) m p2) [e] [] p3) p4) (sMt S i o f):=
 (ym6 (wy7 PySem.F.plainAttrs_list slot hty hm hx (zi1 he zp4 hs) hbase hfew hline hs hplain) hsw).imp λD σ H hI30=>by
  obtain⟨ρ,st,R,ok,w⟩:=hI30;unfold sMt at w;cases q:wq5 ρ i with
  | none=>rw[q] at w;exact w.elim
  | some l=>
    rw[q] at w;obtain⟨a,vs,ea,eH,z,nm⟩:=R.lstAt q;refine⟨.ref a,ea,.inl ⟨rfl,vs,.of eH⟩,ρ,st,R,ok,za6 (za3.mp w) (λd st1 q v H1 e ok1 zv=>?_) λx st1 q H1 e ok1=>q H1 (e.f0 R) ok1⟩;obtain⟨l',e',q'⟩:=zb2.mp (za3.mp q);have R1:=R.ext ok e;have eH1:=e a _ eH nm;have kA:wq8 (Av c σ ρ) (λb=>¬W.mv b) H1 H1:=⟨λ_ _ z _=>z,λb o a z=>⟨a.1,z⟩⟩;refine ho l d l' a vs v H1 _ e' eH1 (IsL.mono kA (z.mono (e.keepT ok λb a=>⟨a.1,a⟩))) zv λus hus=>?_
    obtain⟨m',z'⟩:=hus (ya0 (by assumption)).2;obtain⟨R2,F2⟩:=R1.wr (d':=.lst l') (o:=.lst us) (zn9 (by assumption)) ea ⟨(λu z=>by cases z),(λob u z=>by cases z)⟩ λk=>⟨us,zb4,IsL.mono k (IsL.ofImm m' z')⟩
    exact q' σ _ (e.frm.trans F2) (zw6 ok1 nm) R2
def vo2(l:List D)(d:D):Option (List D):=if d.imm=true/\l.length<sizeLine then some (l++[d]) else none
def vo1(l:List D)(d:D):Option (List D):=match d with
 | .lst m=>if D.immL m=true/\l.length+m.length<=sizeLine then some (l++m) else none
 | _=>none
open H in
def zq9:MtD c xj5 vo2:=by
 intro l d l' a vs v H Q e eH z zv q;unfold vo2 at e;split at e
 ·rename_i h
  cases e;refine⟨a,vs,v,rfl,rfl,eH,by rw[<-z.length];exact h.2,q _ λm=>⟨zh5 m (by simp[D.immL,h.1]),z.append (IsL.one zv)⟩⟩
 ·cases e
open H in
def yg5:MtD c xj4 vo1:=by
 intro l d l' a vs v H Q e eH z zv q;unfold vo1 at e;split at e
 ·rename_i n
  split at e
  ·rename_i h
   cases e;obtain⟨b,us,eb,nb,hb,zb⟩:=Is.lst_iff.mp zv;subst eb;refine⟨a,b,vs,us,rfl,rfl,eH,hb,by rw[<-z.length,<-zb.length];exact h.2,q _ λm=>⟨zh5 m h.1,z.append zb⟩⟩
  ·cases e
 ·cases e
end
def zg5(N:List Str)(osc:Scope)(N':List Str)(ixs:List (Option Nat))(scope:Scope):Bool:=
 decide (scope.kind=.function)&&scope.names.all (λy=>decide (y.2≠.cell))&&scope.names.all (λy=>decide (y.2=.local->scope.names.lookup y.1=some .local))&&decide (ixs.length=N'.length) &&
 scope.names.all (λy=>decide (y.2=.free->osc.names.lookup y.1=some .cell\/osc.names.lookup y.1=some .free)) &&
 (List.range N'.length).all (λj=>match N'[j]?,ixs[j]? with
  | some y,some (some i)=>decide (N[i]?=some y)&&decide (scope.names.lookup y=some .free)
  | _,_=>true)
def zg5.scope{X:Cx}{N:List Str}{osc:Scope}{N':List Str}{ixs:List (Option Nat)}{scope:Scope}(h:zg5 N osc N' ixs scope=true)(hN:X.N=N:=by rfl)(hS:X.env.scope=osc:=by rfl):zk2 X N' ixs scope:=by
 unfold zg5 at h;simp only[Bool.and_eq_true,decide_eq_true_eq,List.all_eq_true] at h;obtain⟨⟨⟨⟨⟨h1,h2⟩,h3⟩,h4⟩,h5⟩,h6⟩:=h;refine⟨h1,h2,h3,h4,λy hy hf=>by rw[hS];exact h5 y hy hf,λj i y e1 e2=>?_⟩;have hj:j<N'.length:=(Ae0.mp e1).1;have q:=h6 j (List.mem_range.mpr hj);rw[e1,e2] at q;simp only[Bool.and_eq_true,decide_eq_true_eq] at q;exact⟨by rw[hN];exact q.1,q.2⟩
end L2
namespace PySem
open H in
def yi9(l:Addr)(items:Array Value)(n:Nat)(dct:Option Addr)(sl:Array (Option Value)) :
 Meets (Builtin.«enumerate.__new__» ⟨[.type "enumerate",.ref l],[]⟩) (λ_ R s=>s.heap.get? l=some { cls:=.type "tuple",dict:=dct,data:=.seq items n,slots:=sl }/\
  R (.ok (.ret (.ref (s.heap.push { cls:=.type "tuple_iterator",data:=.fields #[.ref l,.int 0 0] }).objs.size)))
    { s with heap:=(s.heap.push { cls:=.type "tuple_iterator",data:=.fields #[.ref l,.int 0 0] }).push { cls:=.type "enumerate",data:=.fields #[.none,.bool false,.ref s.heap.objs.size,rawInt 0,.none,.none] } }):=
 .of_wp λprog w A R s h=>by
  obtain⟨hp,g,d,tk,os⟩:=s;obtain⟨hl,h⟩:=h;have hsub:=sub_enumerate;have hT:Heap.IsTuple (Shared.heap ⟨hp,g,d,tk,os⟩) l items:=⟨_,hl,rfl,n,rfl⟩
  wp_walk using wpAny_loadPart' hl
  refine wpAny_stack_any λst=>Ac1 ?_
  split
  ·rename_i c _ _ _ _ _
   cases (c == Value.type "enumerate")<;>(wp_walk using wpAny_loadPart' hl,wpAny_pyIter_tuple hT;exact⟨_,rfl,h⟩)
  ·(wp_walk using wpAny_loadPart' hl,wpAny_pyIter_tuple hT;exact⟨_,rfl,h⟩)
section
variable{prog:Program}{w:World}{A:Around}{E:Value->Shared->Prop}{s:Shared}
def yp1(hL:s.heap.IsTuple l items)(h:∀h',IsEnum h' (s.heap.objs.size+1) s.heap.objs.size 0 .none->h'.IsTupleIter s.heap.objs.size l 0->(∀b o,s.heap.get? b=some o->h'.get? b=some o)->Q (.ref (s.heap.objs.size+1)) { s with heap:=h' }) :
 wpAny (model prog w) A (call (.type "enumerate") [.ref l]) Q E s:=by
 obtain⟨⟨c,dct,dt,sl⟩,hl,hc,n,hd⟩:=hL;have hc:c=.type "tuple":=hc;have hd:dt=.seq items n:=hd;subst hc hd;refine callType_new F.called_enumerate (by decide) (F.typeCall_enumerate_1 _) (F.newCall_enumerate_1 _) (λobj=>F.args_object_init_2 obj _) F.entry_enumerate_new (yi9 l items n dct sl) ⟨hl,?_⟩;generalize hg:s.heap.push { cls:=.type "tuple_iterator",data:=.fields #[.ref l,.int 0 0] }=g;have hz:g.objs.size=s.heap.objs.size+1:=by rw[<-hg];exact Bm0 ..
 have he:IsEnum (g.push { cls:=.type "enumerate",data:=.fields #[.none,.bool false,.ref s.heap.objs.size,rawInt 0,.none,.none] }) (s.heap.objs.size+1) s.heap.objs.size 0 .none:=by
  have:=Ad0 g (o:={ cls:=.type "enumerate",data:=.fields #[.none,.bool false,.ref s.heap.objs.size,rawInt 0,.none,.none] }) rfl;rw[hz] at this;exact this
 have hi:g.get? s.heap.objs.size=some { cls:=.type "tuple_iterator",data:=.fields #[.ref l,.int 0 0] }:=by rw[<-hg];exact Ad0 _ rfl
 show _/\_;rw[hz];exact⟨⟨_,he,rfl⟩,h _ he ⟨_,Ab0 _ hi,rfl,rfl⟩ λb o x=>Ab0 _ (by rw[<-hg];exact Ab0 _ x)⟩
open H in
def zq8{i:Nat}(hit:s.heap.IsTupleIter it l i)(hl:s.heap.IsTuple l items)(hx:items[i]?=some x)(hQ:∀h',h'.IsTupleIter it l (i+1)->Heap.SameBut it s.heap h'->Q x { s with heap:=h' }):wpAny (model prog w) A (Builtin.SmallTypes.nextOf (.ref it)) Q E s:=by
 obtain⟨o,ho,hc,hd⟩:=id hit;obtain⟨ol,hol,_,nl,hdl⟩:=hl;unfold Builtin.SmallTypes.nextOf;refine Aa1 (wpAny_callSpecial?_slot (name:=Str.ofString "__next__") hit.typeIs F.slot_tuple_iterator_next (Aj1 F.slot_tuple_iterator_next hit.typeIs F.entry_tuple_iterator_next ?_ (F.args_tuple_iterator_next_1 _)));show wpAny _ _ (field (.ref it) 0 >>= λ_=>_) _ _ s;refine Aa1 (Ae1 ho hd (x:=.ref l) rfl ?_);show wpAny _ _ (if (Value.ref l == Value.none)=true then _ else _) _ _ s;have nn:¬(Value.ref l == Value.none)=true:=Au0;rw[if_neg nn];refine Aa1 (m:=field (.ref it) 1) (Ae1 ho hd (x:=.int i 0) rfl ?_);refine Aa1 (m:=seqItems? (.ref l)) (Ak1 hol hdl ?_);simp only[Bk0,hx];refine Aa1 (wpAny_setField ho hd (by simp) (Ac1 ⟨x,rfl,Ac1 (hQ _ ?_ (Heap.SameBut.update ..))⟩));refine⟨_,Cd0 _ ho (Obj.isFreed_of_fields (Obj.data_mapFields hd _)),(Obj.cls_mapFields ..).trans hc,?_⟩;rw[Obj.data_mapFields hd];simp[rawInt]
open H in
def zt5{i:Nat}(hh:A.handled=none)(hit:s.heap.IsTupleIter it l i)(hl:s.heap.IsTuple l items)(hx:items[i]?=none)(hE:∀h' e,Heap.ExtBut it s.heap h'->(∃o,h'.get? e=some o/\o.cls=.type "StopIteration")->E (.ref e) { s with heap:=h' }):wpAny (model prog w) A (Builtin.SmallTypes.nextOf (.ref it)) Q E s:=by
 obtain⟨o,ho,hc,hd⟩:=id hit;obtain⟨ol,hol,_,nl,hdl⟩:=hl;unfold Builtin.SmallTypes.nextOf;refine Aa1 (wpAny_callSpecial?_slot (name:=Str.ofString "__next__") hit.typeIs F.slot_tuple_iterator_next (Aj1 F.slot_tuple_iterator_next hit.typeIs F.entry_tuple_iterator_next ?_ (F.args_tuple_iterator_next_1 _)));show wpAny _ _ (field (.ref it) 0 >>= λ_=>_) _ _ s;refine Aa1 (Ae1 ho hd (x:=.ref l) rfl ?_);show wpAny _ _ (if (Value.ref l == Value.none)=true then _ else _) _ _ s;have nn:¬(Value.ref l == Value.none)=true:=Au0;rw[if_neg nn];refine Aa1 (m:=field (.ref it) 1) (Ae1 ho hd (x:=.int i 0) rfl ?_);refine Aa1 (m:=seqItems? (.ref l)) (Ak1 hol hdl ?_);simp only[Bk0,hx];refine Aa1 (Ai1 (Aa1 (wpAny_setField ho hd (by simp) ?_)));refine Aa1 (m:=newExc (.type "StopIteration") []) ?_;simp only[newExc,newTuple];refine Aa1 (wpAny_newObj_type ?_ (by size_fits));refine Aa1 (m:=firstArgMember _ _) (wpAny_of_eq (a:=Value.none) (by first | rfl | (simp only[firstArgMember];rfl)) ?_);refine wpAny_newObj_type ?_ (by size_fits);simp only[raiseNew];refine Aa1 (wpAny_handled ?_);first | rw[show A.in1.handled=none from hh] | rw[hh]
 exact Aa1 (Ac1 (wpAny_throw (hE _ _ (((Heap.SameBut.update ..).extBut.push _).push _) ⟨_,Ad0 _ rfl,rfl⟩)))
def xp4{e it:Addr}{i:Nat}{x old:Value}{T:Heap->Prop}{Q:Value->Shared->Prop}(he:IsEnum s.heap e it i old)(hne:e≠it)(hT:∀h h',T h->(∀o,h.get? it=some o->h'.get? it=some o)->T h')(hnx:∀Q':Value->Shared->Prop,(∀h',T h'->Heap.SameBut it s.heap h'->Q' x { s with heap:=h' })->wpAny (model prog w) A (Builtin.SmallTypes.nextOf (.ref it)) Q' E s)(hQ:∀h',IsEnumOut h' e it ((i:Int)+1) x s.heap.objs.size->T h'->h'.get? s.heap.objs.size=some { cls:=.type "tuple",data:=.seq #[.int i s.toks,x] }->h'.objs.size=s.heap.objs.size+1->
  (∀b o,b≠e->b≠it->s.heap.get? b=some o->h'.get? b=some o)->Q (.ref s.heap.objs.size) { s with heap:=h',toks:=s.toks+1 }) :
 wpAny (model prog w) A (Builtin.«enumerate.__next__» ⟨[.ref e],[]⟩) (λfin s'=>∃v,fin=.done (.ret v)/\Q v s') E s:=by
 obtain⟨hp,g,d,tk,os⟩:=s;refine Aa1 (m:=field (.ref e) 2) (Ae1 he rfl (x:=.ref it) rfl ?_);refine Aa1 (hnx _ λh₁ t₁ hs₁=>?_);have hs₁:Heap.SameBut it hp h₁:=hs₁;have he₁:IsEnum h₁ e it i old:=(hs₁.2 e hne).trans he;show wpAny _ _ (field (.ref e) 3 >>= λ_=>_) _ _ ⟨h₁,g,d,tk,os⟩;refine Aa1 (Ae1 he₁ rfl (x:=rawInt i) rfl ?_);refine Aa1 (m:=field (.ref e) 4) (Ae1 he₁ rfl (x:=.none) rfl ?_);refine Aa1 (m:=mkInt i) (wpAny_mkInt ?_);refine Aa1 (m:=setField (.ref e) 3 (rawInt ((i:Int)+1))) (Af1 he₁ (by simp) λh₂ he₂ hs₂=>?_);have hs₂:Heap.SameBut e h₁ h₂:=hs₂;have he₂:IsEnum h₂ e it ((i:Int)+1) old:=he₂;refine Aa1 (m:=setField (.ref e) 4 .none) (Af1 he₂ (by simp) λh₃ he₃ hs₃=>?_);have hs₃:Heap.SameBut e h₂ h₃:=hs₃;have he₃:IsEnum h₃ e it ((i:Int)+1) old:=he₃;refine Aa1 (m:=newTuple [.int i tk,x]) (wpAny_newTuple ?_);have he₄:IsEnum (h₃.push { cls:=.type "tuple",data:=.seq #[.int i tk,x] }) e it ((i:Int)+1) old:=Ab0 _ he₃;generalize hh₄:h₃.push { cls:=.type "tuple",data:=.seq #[.int i tk,x] }=h₄ at he₄;have hsz:h₃.objs.size=hp.objs.size:=by rw[hs₃.1,hs₂.1,hs₁.1]
 have hel:hp.objs.size≠e:=Nat.ne_of_gt (Heap.lt_size he);have ht₄:h₄.get? hp.objs.size=some { cls:=.type "tuple",data:=.seq #[.int i tk,x] }:=by rw[<-hh₄,<-hsz];exact Ad0 _ rfl
 have hz₄:h₄.objs.size=hp.objs.size+1:=by rw[<-hh₄,Bm0,hsz]
 have up₄:∀b o,b≠e->h₁.get? b=some o->h₄.get? b=some o:=λb o hb q=>by
  rw[<-hh₄];exact Ab0 _ (hs₃.extBut b o hb (hs₂.extBut b o hb q))
 show wpAny _ _ (Builtin.SmallTypes.ownedTupleIsFree (.ref e) >>= λ_=>_) _ _ ⟨h₄,g,d,tk+1,os⟩;rw[hsz];refine Aa1 ?_;unfold Builtin.SmallTypes.ownedTupleIsFree;refine Aa1 (Ae1 he₄ rfl (x:=.none) rfl (Ac1 ?_));simp only[if_true];refine Aa1 (Ai1 (Aa1 (Ae1 he₄ rfl (x:=old) rfl ?_)));refine Aa1 (Af1 he₄ (by simp) λh₅ he₅ hs₅=>?_);have hs₅:Heap.SameBut e h₄ h₅:=hs₅;have he₅:IsEnum h₅ e it ((i:Int)+1) x:=he₅;show wpAny _ _ (Builtin.SmallTypes.ownedTupleHandOut (.ref e) (.ref hp.objs.size) >>= λ_=>_) _ _ ⟨h₅,g,d,tk+1,os⟩;refine Aa1 ?_;unfold Builtin.SmallTypes.ownedTupleHandOut;refine Aa1 (Af1 he₅ (by simp) λh₆ he₆ hs₆=>?_);have hs₆:Heap.SameBut e h₅ h₆:=hs₆;have he₆:IsEnumOut h₆ e it ((i:Int)+1) x hp.objs.size:=he₆;refine Af1 he₆ (by simp) λh₇ he₇ hs₇=>?_
 have hs₇:Heap.SameBut e h₆ h₇:=hs₇;have he₇:IsEnumOut h₇ e it ((i:Int)+1) x hp.objs.size:=he₇;have up₇:∀b o,b≠e->h₄.get? b=some o->h₇.get? b=some o:=λb o hb q=>hs₇.extBut b o hb (hs₆.extBut b o hb (hs₅.extBut b o hb q))
 refine Aa1 (wpAny_letGo (Ac1 ⟨_,rfl,hQ h₇ he₇ (hT h₁ h₇ t₁ λo q=>up₇ _ o (Ne.symm hne) (up₄ _ o (Ne.symm hne) q)) (up₇ _ _ hel ht₄) (by rw[hs₇.1,hs₆.1,hs₅.1,hz₄]) λb o hb hi q=>up₇ b o hb (up₄ b o hb (hs₁.extBut b o hi q))⟩))
end
end PySem
namespace L2
section
variable{X:Cx}{A3:List (Addr×Obj)}{σ:St}{H:Hp}{s:Shared}{h':Heap}
def Inv.turnedT{fp:List Addr}{p:Addr}{vs:List V}{its:List Value}{t':Nat}(I:Inv X A3 σ H s)(hf:∀b∈fp,wx8 X A3 H b)(k:∀b o,b∉fp->s.heap.get? b=some o->h'.get? b=some o)(hp:s.heap.objs.size<=p)(hv:wq4 vs its)(hz:vs.length<=sizeLine)(ht:IsTup h' p its.toArray)(hd:NoD h' p):Inv X A3 σ (upd H p (.tup vs)) { s with heap:=h',toks:=t' }:=by
 have hn:H p=none:=I.hok.fresh hp;have nfp:∀b u,H b=some u->b∉fp:=λb u e z=>by rw[(hf b z).1] at e;cases e
 have old:∀b u,H b=some u->upd H p (.tup vs) b=some u:=λb u e=>by rw[zb3 (zb7 e hn)];exact e
 refine I.step (g':=s.gens) (d':=s.drawn) (t':=t') (ch:=fp) (λb hb=>⟨(hf b hb).2.2.2.1,(hf b hb).2.1,(hf b hb).2.2.2.2.1,(hf b hb).2.2.2.2.2⟩) (λb o _ _ hc e _=>k b o hc e) (λb o _ _ hc e _=>⟨o.slots,k b o hc e⟩)
  (λb o _ e n=>by rw[zb3 (An0 (At0 (Heap.lt_size e) hp))];exact n) (λb o hc e=>⟨o,k b o hc e⟩) (λb xs e=>old b _ e) (λb o u e=>old b _ e) (λb ps e=>⟨#[],by rw[old b _ e];simp⟩) (λm hm=>?_) (λb u e=>?_) I.bare
 ·obtain⟨o,es,ep,ho,r⟩:=hm
  exact⟨o,es,ep,k _ o (λz=>(hf _ z).2.1 rfl) ho,r⟩
 ·by_cases hb:b=p
  ·subst hb
   rw[zb4] at e;cases e;exact⟨hz,its,hv,ht,hd⟩
  ·rw[zb3 hb] at e
   refine(I.hok b u e).stay (λd v hd q=>k d v ?_ q) (λd q=>old d _ q) λd xs q=>old d _ q
   rcases hd with z | z
   ·rw[z];exact nfp b u e
   ·exact nfp d _ z
def Inv.turnedF{fp:List Addr}{t':Nat}(I:Inv X A3 σ H s)(hf:∀b∈fp,wx8 X A3 H b)(k:∀b o,b∉fp->s.heap.get? b=some o->h'.get? b=some o):Inv X A3 σ H { s with heap:=h',toks:=t' }:=by
 have nfp:∀b u,H b=some u->b∉fp:=λb u e z=>by rw[(hf b z).1] at e;cases e
 refine I.step (g':=s.gens) (d':=s.drawn) (t':=t') (ch:=fp) (λb hb=>⟨(hf b hb).2.2.2.1,(hf b hb).2.1,(hf b hb).2.2.2.2.1,(hf b hb).2.2.2.2.2⟩) (λb o _ _ hc e _=>k b o hc e) (λb o _ _ hc e _=>⟨o.slots,k b o hc e⟩)
  (λb o _ e n=>n) (λb o hc e=>⟨o,k b o hc e⟩) (λb xs e=>e) (λb o u e=>e) (λb ps e=>⟨#[],by rw[e];simp⟩) (λm hm=>?_) (λb u e=>?_) I.bare
 ·obtain⟨o,es,ep,ho,r⟩:=hm
  exact⟨o,es,ep,k _ o (λz=>(hf _ z).2.1 rfl) ho,r⟩
 ·refine(I.hok b u e).stay (λd v hd q=>k d v ?_ q) (λd q=>q) λd xs q=>q
  rcases hd with z | z
  ·rw[z];exact nfp b u e
  ·exact nfp d _ z
end
def Ien(Sq:Hp->List V->Prop):It:=
 ⟨λi H=>∃xs x,Sq H xs/\xs[i]?=some x,λi H v H'=>∃p x,H p=none/\v=.ref p/\H'=upd H p (.tup [.int i,x])/\∀xs,Sq H xs->xs[i]?=some x,λi H=>∃xs,Sq H xs/\xs.length<=i⟩
open H in
def xe6{P:Program}{w:World}{K:PySem.W.Frag}{elts:List Expr}{x1}{pos:Pos}(a e it:Addr):vd9 P w K (.Tuple elts x1 pos) (Ien λH xs=>SqT K H a xs) [e,it] e (λi h=>e≠it/\(∃old,IsEnum h e it i old)/\h.IsTupleIter it a i) where
 mem:=by simp
 obj:=λi h st b hb=>by
  obtain⟨hne,⟨old,he⟩,o,ho,c,d⟩:=st;rcases Aj0.mp hb with z | hb
  ·subst z
   exact⟨_,he,λv z=>by
    have z':Data.fields _=Data.cell v:=z;cases z'⟩
  ·have z:b=it:=by simpa using hb
   subst z;exact⟨o,ho,λv z=>by rw[d] at z;cases z⟩
 keep:=λi h h' st k=>by
  obtain⟨hne,⟨old,he⟩,hi⟩:=st;exact⟨hne,⟨old,k e (by simp) _ he⟩,hi.at λo q=>k it (by simp) o q⟩
 item:=by
  intro X hP hw hK hc i A3 s σ H E I hf st hg;subst hP hw hK;obtain⟨xs,x,hq,hx⟩:=hg;obtain⟨hne,⟨old,he⟩,hi⟩:=st;obtain⟨its,rv,p,hz⟩:=I.tuple hq;obtain⟨u,hu,ru⟩:=rv.get hx;have pT:s.heap.IsTuple a its.toArray:=p;have hT:s.TypeIs (.ref e) "enumerate":=⟨_,he,rfl⟩;unfold pyNext;refine Aa1 (wpAny_attempt (wpAny_callSpecial?_slot (name:=Str.ofString "__next__") hT F.slot_enumerate_next (Aj1 F.slot_enumerate_next hT F.entry_enumerate_next (xp4 (T:=λh=>h.IsTupleIter it a (i+1)) he hne (λh h' t q=>t.at q) (λQ' hQ'=>zq8 hi pT (x:=u) (by simpa using hu) hQ') λh' ho hi' ht hs kk=>Ac1 ?_) (F.args_enumerate_next_1 _))));refine⟨_,rfl,wpAny_letOwnedTupleGo_enum (s:={ s with heap:=h',toks:=s.toks+1 }) ho λh2 he2 sb2=>?_⟩;have sb2:Heap.SameBut e h' h2:=sb2;have pe:s.heap.objs.size≠e:=Nat.ne_of_gt (Heap.lt_size he);have k2:∀b o,b∉[e,it]->s.heap.get? b=some o->h2.get? b=some o:=λb o hb q=>by
   have h1:b≠e:=λz=>hb (by simp[z])
   have h3:b≠it:=λz=>hb (by simp[z])
   exact sb2.extBut b o h1 (kk b o h1 h3 q)
  have tt:IsTup h2 s.heap.objs.size [Value.int i s.toks,u].toArray/\NoD h2 s.heap.objs.size:=⟨⟨_,sb2.extBut _ _ pe ht,rfl,_,rfl⟩,⟨_,sb2.extBut _ _ pe ht,rfl⟩⟩;have nn:∀b∈[e,it],b≠s.heap.objs.size:=λb hb z=>by
   obtain⟨o1,ho1,_⟩:=id hi;rcases Aj0.mp hb with y | y
   ·exact pe (by rw[<-z,y])
   ·have y:b=it:=by simpa using y
    rw[z] at y;rw[<-y] at ho1;exact absurd (Heap.lt_size ho1) (Bq0 _)
  refine⟨.ref s.heap.objs.size,_,I.turnedT (p:=s.heap.objs.size) (vs:=[.int i,x]) hf k2 (Ag0 _) (.cons ⟨_,rfl⟩ (.cons ru .nil)) (by show 2<=sizeLine;decide) tt.1 tt.2,rfl,⟨_,x,I.hok.fresh (Ag0 _),rfl,rfl,λys hy=>by rw[I.tuple_inj hy hq];exact hx⟩,⟨hne,⟨u,?_⟩,?_⟩,λb hb=>?_⟩
  ·have:((i+1:Nat):Int)=(i:Int)+1:=by omega
   rw[this];exact he2
  ·exact hi'.extBut sb2.extBut (Ne.symm hne)
  ·rw[zb3 (nn b hb)];exact(hf b hb).1
 done:=by
  intro X hP hw hK hc i A3 s σ H E I hf st hg;subst hP hw hK;obtain⟨xs,hq,hx⟩:=hg;obtain⟨hne,⟨old,he⟩,hi⟩:=st;obtain⟨its,rv,p,hz⟩:=I.tuple hq;have pT:s.heap.IsTuple a its.toArray:=p;have hl:=rv.length;have hT:s.TypeIs (.ref e) "enumerate":=⟨_,he,rfl⟩;unfold pyNext;refine Aa1 (wpAny_attempt (wpAny_callSpecial?_slot (name:=Str.ofString "__next__") hT F.slot_enumerate_next (Aj1 F.slot_enumerate_next hT F.entry_enumerate_next ?_ (F.args_enumerate_next_1 _))));refine Aa1 (m:=field (.ref e) 2) (Ae1 he rfl (x:=.ref it) rfl ?_);refine Aa1 (zt5 (I.ok.hd hc) hi pT (by simp;omega) λh' x he' hx'=>?_);obtain⟨o,ho,hcls⟩:=hx';refine Aa1 (wpAny_isInstance (T:="StopIteration") (b:=true) ⟨o,ho,hcls⟩ isSubtype_stop (Ac1 ⟨rfl,I.turnedF hf λb o hb q=>he' b o (λz=>hb (by simp[z])) q⟩))
 self:=λ_ _ _ _ _ st h=>let ⟨_,⟨_,he⟩,_⟩:=st;wpAny_pyIter_enum he h
section
variable{X:Cx}{elts:List Expr}{x1:Nat}{tpos:Pos}
def vv8(K:PySem.W.Frag)(ta:TA):TI:=λσ H R=>ta σ H λvs H1=>∃a xs,vs=[.ref a]/\SqT K H1 a xs/\R (Ien λH xs=>SqT K H a xs) H1
theorem xv1(hg:Gl X "enumerate")(hm:X.mg "enumerate" = none)(ha:PA X [a] ta)(hs:starEach [a] X.env=[(false,eval a X.env)]:=by rfl):PI X (.Tuple elts x1 tpos) (.Call (.Name "enumerate" p) [a] [] pos) (vv8 X.K ta):=by
 intro A3 s σ H R I h;refine Call_ (yk5 I hg hm boot_enumerate (PyProof.Rows.callWith_type1 (thn (ha pos A3 s σ H _ I h) λus s1 hI107=>?_) hs rfl));obtain⟨vs,H1,I1,r1,q1⟩:=hI107;obtain⟨l,xs,rfl,hq,q⟩:=q1;cases r1 with
 | cons r rr=>
   cases rr;cases r;obtain⟨its,rv,pt,hz⟩:=I1.tuple hq;refine yp1 (show s1.heap.IsTuple l its.toArray from pt) λh' he hi kk=>?_
   refine wpAny_pyIter_enum (s:={ s1 with heap:=h' }) he ?_;refine⟨s1.heap.objs.size+1,[s1.heap.objs.size+1,s1.heap.objs.size],_,_,H1,rfl,I1.kept (t':=s1.toks) kk,xe6 l _ _,⟨Nat.succ_ne_self _,⟨_,he⟩,hi⟩,λb hb=>?_,q⟩;have hb:s1.heap.objs.size<=b:=by
    rcases Aj0.mp hb with z | z
    ·rw[z];exact Nat.le_succ _
    ·have z:b=s1.heap.objs.size:=by simpa using z
     exact Nat.le_of_eq z.symm
   exact I1.fpOk hb (I1.hok.fresh hb)
variable{S:Type}{W:Wd S}{c:Dx W}
def zv8(l:List D):List D:=(l.zipIdx).map λp=>.tup [.int p.2,p.1]
def vf9:List D->Option (List D)
 | [.tup l]=>if D.immL l=true then some (zv8 l) else none
 | _=>none
theorem yc3{i:Nat}(h:(zv8 l)[i]?=some d):∃x,l[i]?=some x/\d=.tup [.int i,x]:=by
 unfold zv8 at h;rw[Ai0,List.getElem?_zipIdx] at h;cases q:l[i]? with
 | none=>rw[q] at h;cases h
 | some x=>rw[q] at h;cases h;exact⟨x,rfl,by simp⟩
def zu6(l:List D):(zv8 l).length=l.length:=by unfold zv8;rw[Aa0,List.length_zipIdx]
theorem xb0:∀{l:List D} {i:Nat} {d:D},D.immL l=true->l[i]?=some d->d.imm=true
 | [],_,_,_,h=>by simp at h
 | x::l,0,d,m,h=>by
   have m':x.imm=true/\D.immL l=true:=by simpa [D.immL] using m
   simp at h;subst h;exact m'.1
 | x::l,i+1,d,m,h=>by
   have m':x.imm=true/\D.immL l=true:=by simpa [D.immL] using m
   exact xb0 (i:=i) m'.2 (by simpa using h)
open H in
def wh7(hK:c.K=X.K)(hg:Gl X "enumerate")(hm:X.mg "enumerate" = none)(ha:DA X c [a] f)(hs:starEach [a] X.env=[(false,eval a X.env)]:=by rfl):DI X c (.Tuple elts x1 tpos) (.Call (.Name "enumerate" p) [a] [] pos) (vb1 S vf9 f):=
 (xv1 hg hm ha hs).imp λσ H R hI31=>by
  obtain⟨ρ,st,R0,ok,w⟩:=hI31;refine⟨ρ,st,R0,ok,za6 (za3.mp w) (λl st1 q vs H1 e ok1 z=>?_) λx st1 q=>q⟩;obtain⟨m,e1,q⟩:=zb2.mp q;unfold vf9 at e1;split at e1
  ·rename_i l
   split at e1
   ·rename_i im
    cases e1;obtain⟨v,r,e2,i2,i3⟩:=IsL.cons.mp z;obtain⟨a,xs,ea,s0,i⟩:=Is.tup_iff.mp i2;have s:SqT c.K H1 a xs:=.of s0;rw[IsL.nil.mp i3,ea] at e2;refine⟨a,xs,e2,hK▸s,q _ H1 e ok1 ?_⟩;intro c' hK' σ2 ρ2 H2 st2 k R2 ok2 j;have s2:SqT X.K H2 a xs:=by rw[<-hK];exact .of (k.tup a xs s0)
    have i1:IsL c.K (Av c σ ρ) H1 l xs:=IsL.ofImm im i;have i2:IsL c.K (Av c' σ2 ρ2) H2 l xs:=i1.mono k;refine⟨λd hd=>?_,λhl=>⟨xs,s2,by rw[zu6] at hl;rw[<-i2.length];exact hl⟩⟩;obtain⟨y,hy,rfl⟩:=yc3 hd;obtain⟨v1,hv,iv⟩:=i2.get hy;refine⟨⟨xs,v1,s2,hv⟩,?_⟩;rintro x H3 ⟨pp,x',hpn,rfl,rfl,hx⟩;have:=hx xs s2;rw[hv] at this;cases this;have sm:ww1 H2 (upd H2 pp (.tup [.int j,v1])):=λb o hb=>by rw[zb3 (zb7 hb hpn)];exact hb
    refine⟨sm,Is.tup zb4 (IsL.cons.mpr ⟨_,_,rfl,Is.int_iff.mpr rfl,IsL.one ?_⟩)⟩;exact Is.ofImm (xb0 im hy) (iv.mono (A':=Av c' σ2 ρ2) (zl2 (λb o hb _=>sm b o hb) λb o a hb=>⟨a,sm b o hb⟩))
   ·cases e1
  ·cases e1
end
section
variable{X:Cx}
def zu4{bs:List Bool}:(List.range bs.length).all (λi=>bs.getD i false)=bs.all id:=by
 apply Cb0.mpr;simp only[List.all_eq_true,List.mem_range,id];constructor
 ·intro h b hb
  obtain⟨i,hi,e⟩:=List.mem_iff_getElem.mp hb;have:=h i hi;rw[Bt0,Ac0 hi] at this;rw[<-e];exact this
 ·intro h i hi
  rw[Bt0,Ac0 hi];exact h _ (List.getElem_mem hi)
def xj3{bs:List Bool}:(List.range bs.length).any (λi=>bs.getD i false)=bs.any id:=by
 apply Cb0.mpr;simp only[List.any_eq_true,List.mem_range,id];constructor
 ·rintro ⟨i,hi,h⟩
  rw[Bt0,Ac0 hi] at h;exact⟨_,List.getElem_mem hi,h⟩
 ·rintro ⟨b,hb,h⟩
  obtain⟨i,hi,e⟩:=List.mem_iff_getElem.mp hb;refine⟨i,hi,?_⟩;rw[Bt0,Ac0 hi,e];exact h
def xd6{bs:List Bool}{its:List Value}(r:wq4 (bs.map V.bl) its){i:Nat}{v:Value}(h:its.toArray[i]?=some v):v=.bool (bs.getD i false):=by
 have hi:i<its.length:=by
  have:=(Array.getElem?_eq_some_iff.mp h).1;simpa using this
 have hl:=r.length;rw[Aa0] at hl;have hb:i<bs.length:=by omega
 obtain⟨u,hu,ru⟩:=r.get (i:=i) (x:=.bl bs[i]) (by rw[Ai0,Ac0 hb];rfl);have:its[i]?=some v:=by simpa using h
 rw[hu] at this;cases this;rw[Bt0,Ac0 hb];exact ru
def yb3(hc:X.calm=true):ws7 X (.builtin "all") (λxs H Q=>∃(a:Addr) (bs:List Bool),xs=[.ref a]/\SqL X.K H a (bs.map V.bl)/\Q (.bl (bs.all id)) H):=by
 intro A3 s σ H xs us Q I r h;obtain⟨a,bs,rfl,hq,q⟩:=h;obtain⟨u,rfl,r1⟩:=wt7 r;cases r1;obtain⟨its,rv,p,hz⟩:=I.list hq;have hh:X.A.in1.handled=none:=I.ok.hd hc;have lt:a<s.heap.objs.size:=by obtain⟨o,e,_⟩:=p.isList;exact Heap.lt_size e
 refine call_all_walk (wpAny_pyIter_list p.isList ⟨_,_,_,_,_,_,λi=>bs.getD i false,rfl,Walks.list hh s.heap.objs.size a (An0 lt) its.toArray,⟨⟨_,Ad0 _ rfl,rfl,rfl⟩,p.isList.push _⟩,?_,?_⟩)
 ·intro i v Q' E' s' hP hQ
  rw[xd6 rv hP];exact Ah1 hQ
 ·intro h' tk hk
  have e:(List.range its.toArray.size).all (λi=>bs.getD i false)=bs.all id:=by
   have hl:=rv.length;rw[Aa0] at hl;rw[Af0,<-hl,zu4]
  rw[e];refine⟨.bl _,H,?_,rfl,q⟩;refine I.kept (t':=tk) λb o e=>hk b o (λz=>?_) (Ab0 _ e)
  have z:b=s.heap.objs.size:=by simpa using z
  have lt:=Heap.lt_size e;rw[z] at lt;exact Bq0 _ lt
def xd5(hc:X.calm=true):ws7 X (.builtin "any") (λxs H Q=>∃(a:Addr) (bs:List Bool),xs=[.ref a]/\SqL X.K H a (bs.map V.bl)/\Q (.bl (bs.any id)) H):=by
 intro A3 s σ H xs us Q I r h;obtain⟨a,bs,rfl,hq,q⟩:=h;obtain⟨u,rfl,r1⟩:=wt7 r;cases r1;obtain⟨its,rv,p,hz⟩:=I.list hq;have hh:X.A.in1.handled=none:=I.ok.hd hc;have lt:a<s.heap.objs.size:=by obtain⟨o,e,_⟩:=p.isList;exact Heap.lt_size e
 refine call_any_walk (wpAny_pyIter_list p.isList ⟨_,_,_,_,_,_,λi=>bs.getD i false,rfl,Walks.list hh s.heap.objs.size a (An0 lt) its.toArray,⟨⟨_,Ad0 _ rfl,rfl,rfl⟩,p.isList.push _⟩,?_,?_⟩)
 ·intro i v Q' E' s' hP hQ
  rw[xd6 rv hP];exact Ah1 hQ
 ·intro h' tk hk
  have e:(List.range its.toArray.size).any (λi=>bs.getD i false)=bs.any id:=by
   have hl:=rv.length;rw[Aa0] at hl;rw[Af0,<-hl,xj3]
  rw[e];refine⟨.bl _,H,?_,rfl,q⟩;refine I.kept (t':=tk) λb o e=>hk b o (λz=>?_) (Ab0 _ e)
  have z:b=s.heap.objs.size:=by simpa using z
  have lt:=Heap.lt_size e;rw[z] at lt;exact Bq0 _ lt
end
open PySem.SeqAt
mutual
def D.eqq:D->D->Option Bool
 | .int i,.int j=>some (i == j)
 | .str i,.str j=>some (i == j)
 | .bl i,.bl j=>some (i == j)
 | .non,.non=>some true
 | .tup l,.tup m=>D.eqL l m
 | .lst l,.lst m=>if l.length=m.length then D.eqL l m else some false
 | _,_=>none
def D.eqL:List D->List D->Option Bool
 | [],[]=>some true
 | [],_::_=>some false
 | _::_,[]=>some false
 | a::l,b::m=>(D.eqq a b).bind λx=>(D.eqL l m).map λy=>x&&y
end
mutual
def D.dep:D->Nat
 | .tup l=>D.depL l+1
 | .lst l=>D.depL l+1
 | _=>0
def D.depL:List D->Nat
 | []=>0
 | d::l=>max (D.dep d) (D.depL l)
end
section
variable{X:Cx}{A3:List (Addr×Obj)}{σ:St}{H:Hp}{s:Shared}{A1 A2:Addr->Prop}
mutual
theorem yo3(I:Inv X A3 σ H s):∀{d1 d2:D} {v:V} {b:Bool},Is X.K A1 H d1 v->Is X.K A2 H d2 v->D.eqq d1 d2=some b->b=true
 | .int i,d2,v,b,h1,h2,e=>by
   rw[Is.int_iff.mp h1] at h2;cases d2 with
   | int j=>have:=Is.int_iff.mp h2;cases this;unfold D.eqq at e;simpa using e.symm
   | _=>unfold D.eqq at e;cases e
 | .str i,d2,v,b,h1,h2,e=>by
   rw[Is.str_iff.mp h1] at h2;cases d2 with
   | str j=>have:=Is.str_iff.mp h2;cases this;unfold D.eqq at e;simpa using e.symm
   | _=>unfold D.eqq at e;cases e
 | .bl i,d2,v,b,h1,h2,e=>by
   rw[Is.bl_iff.mp h1] at h2;cases d2 with
   | bl j=>have:=Is.bl_iff.mp h2;cases this;unfold D.eqq at e;simpa using e.symm
   | _=>unfold D.eqq at e;cases e
 | .non,d2,v,b,h1,h2,e=>by
   cases d2 with
   | non=>unfold D.eqq at e;simpa using e.symm
   | _=>unfold D.eqq at e;cases e
 | .tup l,d2,v,b,h1,h2,e=>by
   cases d2 with
   | tup m=>
     obtain⟨a,vs,ea,s1,i1⟩:=Is.tup_sq h1;obtain⟨a',us,ea',s2,i2⟩:=Is.tup_sq h2;rw[ea] at ea';cases ea';have:=I.tuple_inj s1 s2;subst this;unfold D.eqq at e;exact yo4 I i1 i2 e
   | _=>unfold D.eqq at e;cases e
 | .lst l,d2,v,b,h1,h2,e=>by
   cases d2 with
   | lst m=>
     obtain⟨a,vs,ea,_,s1,i1⟩:=Is.lst_iff.mp h1;obtain⟨a',us,ea',_,s2,i2⟩:=Is.lst_iff.mp h2;rw[ea] at ea';cases ea';have:vs=us:=by rw[s1] at s2;cases s2;rfl
     subst this;unfold D.eqq at e;have hl:l.length=m.length:=by rw[i1.length,i2.length]
     rw[if_pos hl] at e;exact yo4 I i1 i2 e
   | _=>unfold D.eqq at e;cases e
 | .dct _ _,d2,v,b,h1,h2,e=>by cases d2<;>(unfold D.eqq at e;cases e)
 | .fl _,d2,v,b,h1,h2,e=>by cases d2<;>(unfold D.eqq at e;cases e)
 | .fd _ _,d2,v,b,h1,h2,e=>by cases d2<;>(unfold D.eqq at e;cases e)
theorem yo4(I:Inv X A3 σ H s):∀{l m:List D} {vs:List V} {b:Bool},IsL X.K A1 H l vs->IsL X.K A2 H m vs->D.eqL l m=some b->b=true
 | [],m,vs,b,h1,h2,e=>by
   rw[IsL.nil.mp h1] at h2;cases m with
   | nil=>unfold D.eqL at e;simpa using e.symm
   | cons x r=>obtain⟨_,_,z,_⟩:=IsL.cons.mp h2;cases z
 | d::l,m,vs,b,h1,h2,e=>by
   obtain⟨v,r,ev,i1,j1⟩:=IsL.cons.mp h1;subst ev;cases m with
   | nil=>have:=IsL.nil.mp h2;cases this
   | cons x m=>
     obtain⟨v',r',ev',i2,j2⟩:=IsL.cons.mp h2;cases ev';unfold D.eqL at e;cases q1:D.eqq d x with
     | none=>rw[q1] at e;cases e
     | some b1=>
       cases q2:D.eqL l m with
       | none=>rw[q1,q2] at e;cases e
       | some b2=>
         rw[q1,q2] at e;have e:some (b1&&b2)=some b:=e;cases e;rw[yo3 I i1 i2 q1,yo4 I j1 j2 q2];rfl
end
def wu1:List D->List D->List Bool
 | a::l,b::m=>((D.eqq a b).getD false)::wu1 l m
 | _,_=>[]
theorem zp1:∀(l m:List D),(wu1 l m).length=min l.length m.length
 | [],m=>by cases m<;>simp[wu1]
 | a::l,[]=>by simp[wu1]
 | a::l,b::m=>by simp[wu1,zp1 l m]
theorem yh8:∀{l m:List D} {b:Bool},D.eqL l m=some b->b=((wu1 l m).all id&&l.length == m.length)
 | [],[],b,e=>by unfold D.eqL at e;simpa [wu1] using e.symm
 | [],_::_,b,e=>by unfold D.eqL at e;simpa [wu1] using e.symm
 | _::_,[],b,e=>by unfold D.eqL at e;simpa [wu1] using e.symm
 | a::l,x::m,b,e=>by
   unfold D.eqL at e;cases q1:D.eqq a x with
   | none=>rw[q1] at e;cases e
   | some b1=>
     cases q2:D.eqL l m with
     | none=>rw[q1,q2] at e;cases e
     | some b2=>
       rw[q1,q2] at e;have e:some (b1&&b2)=some b:=e;cases e;rw[yh8 q2];simp[wu1,q1,Bool.and_assoc]
theorem xc0:∀{l m:List D} {b:Bool} {j:Nat} {x y:D},D.eqL l m=some b->l[j]?=some x->m[j]?=some y->D.eqq x y=some ((wu1 l m).getD j false)
 | [],_,_,_,_,_,_,h,_=>by simp at h
 | _::_,[],_,_,_,_,_,_,h=>by simp at h
 | a::l,c::m,b,j,x,y,e,h1,h2=>by
   unfold D.eqL at e;cases q1:D.eqq a c with
   | none=>rw[q1] at e;cases e
   | some b1=>
     cases q2:D.eqL l m with
     | none=>rw[q1,q2] at e;cases e
     | some b2=>
       cases j with
       | zero=>simp at h1 h2;subst h1 h2;simp[wu1,q1]
       | succ j=>
         have:=xc0 (j:=j) q2 (by simpa using h1) (by simpa using h2);simpa [wu1] using this
theorem ye2:∀{l:List D} {j:Nat} {x:D},l[j]?=some x->x.dep<=D.depL l
 | [],_,_,h=>by simp at h
 | a::l,0,x,h=>by simp at h;subst h;unfold D.depL;omega
 | a::l,j+1,x,h=>by
   have:=ye2 (j:=j) (l:=l) (x:=x) (by simpa using h);unfold D.depL;omega
def D.plain:D->Bool
 | .tup _=>false
 | .lst _=>false
 | .dct _ _=>false
 | .fl _=>false
 | .fd _ _=>false
 | _=>true
theorem yk9{b:Bool}(hp:d1.plain=true)(e:D.eqq d1 d2=some b)(h1:Is X.K A1 H d1 v1)(h2:Is X.K A2 H d2 v2)(r1:wq2 v1 u1)(r2:wq2 v2 u2):EqAt A s u1 u2 b:=by
 cases d1 with
 | int i=>
   cases d2 with
   | int j=>
     have z1:=Is.int_iff.mp h1;have z2:=Is.int_iff.mp h2;subst z1 z2;obtain⟨t,rfl⟩:=r1;obtain⟨t',rfl⟩:=r2;unfold D.eqq at e;cases e;exact EqAt.int_int i t j t'
   | _=>unfold D.eqq at e;cases e
 | str i=>
   cases d2 with
   | str j=>
     have z1:=Is.str_iff.mp h1;have z2:=Is.str_iff.mp h2;subst z1 z2;obtain⟨t,rfl⟩:=r1;obtain⟨t',rfl⟩:=r2;unfold D.eqq at e;cases e;exact EqAt.str_str i t j t'
   | _=>unfold D.eqq at e;cases e
 | bl i=>
   cases d2 with
   | bl j=>
     have z1:=Is.bl_iff.mp h1;have z2:=Is.bl_iff.mp h2;subst z1 z2;cases r1;cases r2;unfold D.eqq at e;cases e;exact EqAt.bool_bool i j
   | _=>unfold D.eqq at e;cases e
 | non=>
   cases d2 with
   | non=>
     have z1:=Is.non_iff.mp h1;have z2:=Is.non_iff.mp h2;subst z1 z2;cases r1;cases r2;unfold D.eqq at e;cases e;exact EqAt.same _
   | _=>unfold D.eqq at e;cases e
 | tup l=>simp[D.plain] at hp
 | lst l=>simp[D.plain] at hp
 | dct _ _=>simp[D.plain] at hp
 | fl _=>simp[D.plain] at hp
 | fd _ _=>simp[D.plain] at hp
def zo0{n:Nat}{b:Bool}(e:D.eqL l m=some b)(i1:IsL X.K A1 H l vs)(i2:IsL X.K A2 H m us)(rv:wq4 vs its)(rv2:wq4 us its2)(ih:∀{d1 d2:D} {b:Bool} {v1 v2:V} {u1 u2:Value},d1.dep<=n->D.eqq d1 d2=some b->Is X.K A1 H d1 v1->Is X.K A2 H d2 v2->wq2 v1 u1->wq2 v2 u2->EqAt A s u1 u2 b)(hd:D.depL l<=n)(j:Nat)(h1:j<its.toArray.size)(h2:j<its2.toArray.size):EqAt A s its.toArray[j] its2.toArray[j] ((wu1 l m).getD j false):=by
 have h1':j<its.length:=by simpa using h1
 have h2':j<its2.length:=by simpa using h2
 have g1:j<l.length:=by rw[i1.length,rv.length];exact h1'
 have g2:j<m.length:=by rw[i2.length,rv2.length];exact h2'
 have x1:l[j]?=some l[j]:=Ac0 g1;have x2:m[j]?=some m[j]:=Ac0 g2;obtain⟨v1,hv1,z1⟩:=i1.get x1;obtain⟨v2,hv2,z2⟩:=i2.get x2;obtain⟨w1,hw1,r1⟩:=rv.get hv1;obtain⟨w2,hw2,r2⟩:=rv2.get hv2;have e1:its.toArray[j]=w1:=by
  rw[Ac0 h1'] at hw1;have:=Option.some.inj hw1;simpa using this
 have e2:its2.toArray[j]=w2:=by
  rw[Ac0 h2'] at hw2;have:=Option.some.inj hw2;simpa using this
 rw[e1,e2];exact ih (Ap0 (ye2 x1) hd) (xc0 e x1 x2) z1 z2 r1 r2
theorem xc1(I:Inv X A3 σ H s):∀(n:Nat) {A:Around} {d1 d2:D} {b:Bool} {v1 v2:V} {u1 u2:Value},d1.dep<=n->A.units+n<cLine->D.eqq d1 d2=some b->Is X.K A1 H d1 v1->Is X.K A2 H d2 v2->wq2 v1 u1->wq2 v2 u2->EqAt A s u1 u2 b:=by
 intro n;induction n with
 | zero=>
   intro A d1 d2 b v1 v2 u1 u2 hd hu e h1 h2 r1 r2;refine yk9 ?_ e h1 h2 r1 r2;cases d1 with
   | tup l=>unfold D.dep at hd;omega
   | lst l=>unfold D.dep at hd;omega
   | dct _ _=>cases d2<;>(unfold D.eqq at e;cases e)
   | fl _=>cases d2<;>(unfold D.eqq at e;cases e)
   | fd _ _=>cases d2<;>(unfold D.eqq at e;cases e)
   | _=>rfl
 | succ n ih=>
   intro A d1 d2 b v1 v2 u1 u2 hd hu e h1 h2 r1 r2;by_cases hp:d1.plain=true
   ·exact yk9 hp e h1 h2 r1 r2
   have hu0:A.units<cLine:=by omega
   have ih':∀{d1 d2:D} {b:Bool} {v1 v2:V} {u1 u2:Value},d1.dep<=n->D.eqq d1 d2=some b->Is X.K A1 H d1 v1->Is X.K A2 H d2 v2->wq2 v1 u1->wq2 v2 u2->EqAt A.in1 s u1 u2 b:=
    λhd e h1 h2 r1 r2=>ih (A:=A.in1) hd (by rw[Around.in1_units];omega) e h1 h2 r1 r2
   cases d1 with
   | tup l=>
     cases d2 with
     | tup m=>
       obtain⟨a,vs,ea,s1,i1⟩:=Is.tup_sq h1;obtain⟨a',us,ea',s2,i2⟩:=Is.tup_sq h2;have hb:a=a'->b=true:=λz=>by
        subst z;rw[ea'] at h2;rw[ea] at h1;exact yo3 I h1 h2 e
       subst ea ea';cases r1;cases r2;by_cases z:a=a'
       ·rw[hb z,z];exact EqAt.same _
       ·obtain⟨its,rv,p1,_⟩:=I.tuple s1
        obtain⟨its2,rv2,p2,_⟩:=I.tuple s2;unfold D.eqq at e;have dl:D.depL l<=n:=by unfold D.dep at hd;omega
        have q:=RcAt.tuples (A:=A) (e:=λj=>(wu1 l m).getD j false) (show s.heap.IsTuple a its.toArray from p1) (show s.heap.IsTuple a' its2.toArray from p2) hu0 (λj g1 g2=>zo0 e i1 i2 rv rv2 ih' dl j g1 g2);have eb:=yh8 e;have l1:its.toArray.size=l.length:=by rw[Af0,<-rv.length,<-i1.length]
        have l2:its2.toArray.size=m.length:=by rw[Af0,<-rv2.length,<-i2.length]
        rw[l1,l2,<-zp1,zu4,<-eb] at q;exact EqAt.of_refs z q
     | _=>unfold D.eqq at e;cases e
   | lst l=>
     cases d2 with
     | lst m=>
       obtain⟨a,vs,ea,_,s1,i1⟩:=Is.lst_iff.mp h1;obtain⟨a',us,ea',_,s2,i2⟩:=Is.lst_iff.mp h2;have hb:a=a'->b=true:=λz=>by
        subst z;rw[ea'] at h2;rw[ea] at h1;exact yo3 I h1 h2 e
       subst ea ea';cases r1;cases r2;by_cases z:a=a'
       ·rw[hb z,z];exact EqAt.same _
       ·obtain⟨its,rv,p1,_⟩:=I.list (.of s1)
        obtain⟨its2,rv2,p2,_⟩:=I.list (.of s2);have l1:its.toArray.size=l.length:=by rw[Af0,<-rv.length,<-i1.length]
        have l2:its2.toArray.size=m.length:=by rw[Af0,<-rv2.length,<-i2.length]
        unfold D.eqq at e;by_cases hl:l.length=m.length
        ·rw[if_pos hl] at e
         have dl:D.depL l<=n:=by unfold D.dep at hd;omega
         have q:=RcAt.lists (A:=A) (e:=λj=>(wu1 l m).getD j false) p1.isList p2.isList (by rw[l1,l2,hl]) hu0 (λj g1 g2=>zo0 e i1 i2 rv rv2 ih' dl j g1 g2);have eb:=yh8 e;have el:l.length=(wu1 l m).length:=by rw[zp1];omega
         rw[l1,el,zu4] at q;rw[hl] at eb;simp at eb;rw[eb];have:(wu1 l m).all id=(wu1 l m).all (λx=>x):=rfl;exact EqAt.of_refs z q
        ·rw[if_neg hl] at e
         cases e;exact EqAt.of_refs z (RcAt.lists_lengths p1.isList p2.isList (by rw[l1,l2];simpa using hl) hu0)
     | _=>unfold D.eqq at e;cases e
   | dct _ _=>cases d2<;>(unfold D.eqq at e;cases e)
   | fl _=>cases d2<;>(unfold D.eqq at e;cases e)
   | fd _ _=>cases d2<;>(unfold D.eqq at e;cases e)
   | _=>simp[D.plain] at hp
end
section
variable{X:Cx}{A3:List (Addr×Obj)}{σ:St}{H:Hp}{s:Shared}{A1 A2:Addr->Prop}
theorem xz2(I:Inv X A3 σ H s){n:Nat}{b:Bool}(hd:d1.dep<=n)(hu:A.units+n<cLine)(e:D.eqq d1 d2=some b)(h1:Is X.K A1 H d1 v1)(h2:Is X.K A2 H d2 v2)(r1:wq2 v1 u1)(r2:wq2 v2 u2) :
 RcAt A s u1 u2 b/\RcNeAt A s u1 u2 (!b):=by
 have hu0:A.units<cLine:=by omega
 cases d1 with
 | int i=>
   cases d2 with
   | int j=>
     have z1:=Is.int_iff.mp h1;have z2:=Is.int_iff.mp h2;subst z1 z2;obtain⟨t,rfl⟩:=r1;obtain⟨t',rfl⟩:=r2;unfold D.eqq at e;cases e;exact⟨RcAt.int_int i t j t',RcNeAt.int_int i t j t'⟩
   | _=>unfold D.eqq at e;cases e
 | str i=>
   cases d2 with
   | str j=>
     have z1:=Is.str_iff.mp h1;have z2:=Is.str_iff.mp h2;subst z1 z2;obtain⟨t,rfl⟩:=r1;obtain⟨t',rfl⟩:=r2;unfold D.eqq at e;cases e;exact⟨RcAt.str_str i t j t',RcNeAt.str_str i t j t'⟩
   | _=>unfold D.eqq at e;cases e
 | bl i=>
   cases d2 with
   | bl j=>
     have z1:=Is.bl_iff.mp h1;have z2:=Is.bl_iff.mp h2;subst z1 z2;cases r1;cases r2;unfold D.eqq at e;cases e;exact⟨RcAt.bool_bool i j,RcNeAt.bool_bool i j⟩
   | _=>unfold D.eqq at e;cases e
 | non=>
   cases d2 with
   | non=>
     have z1:=Is.non_iff.mp h1;have z2:=Is.non_iff.mp h2;subst z1 z2;cases r1;cases r2;unfold D.eqq at e;cases e;exact⟨RcAt.none_none,RcNeAt.none_none⟩
   | _=>unfold D.eqq at e;cases e
 | tup l=>
   cases d2 with
   | tup m=>
     obtain⟨a,vs,ea,s1,i1⟩:=Is.tup_sq h1;obtain⟨a',us,ea',s2,i2⟩:=Is.tup_sq h2;subst ea ea';cases r1;cases r2;obtain⟨its,rv,p1,_⟩:=I.tuple s1;obtain⟨its2,rv2,p2,_⟩:=I.tuple s2;unfold D.eqq at e;have hd':D.depL l+1<=n:=by unfold D.dep at hd;exact hd
     have ih':∀{d1 d2:D} {b:Bool} {v1 v2:V} {u1 u2:Value},d1.dep<=n-1->D.eqq d1 d2=some b->Is X.K A1 H d1 v1->Is X.K A2 H d2 v2->wq2 v1 u1->wq2 v2 u2->EqAt A.in1 s u1 u2 b:=
      λhd e h1 h2 r1 r2=>xc1 I (n-1) (A:=A.in1) hd (by rw[Around.in1_units];omega) e h1 h2 r1 r2
     have q:=RcAt.tuples (A:=A) (e:=λj=>(wu1 l m).getD j false) (show s.heap.IsTuple a its.toArray from p1) (show s.heap.IsTuple a' its2.toArray from p2) hu0 (λj g1 g2=>zo0 e i1 i2 rv rv2 ih' (by omega) j g1 g2);have q':=RcNeAt.tuples (A:=A) (e:=λj=>(wu1 l m).getD j false) (show s.heap.IsTuple a its.toArray from p1) (show s.heap.IsTuple a' its2.toArray from p2) hu0 (λj g1 g2=>zo0 e i1 i2 rv rv2 ih' (by omega) j g1 g2);have eb:=yh8 e;have l1:its.toArray.size=l.length:=by rw[Af0,<-rv.length,<-i1.length]
     have l2:its2.toArray.size=m.length:=by rw[Af0,<-rv2.length,<-i2.length]
     rw[l1,l2,<-zp1,zu4,<-eb] at q q';exact⟨q,q'⟩
   | _=>unfold D.eqq at e;cases e
 | lst l=>
   cases d2 with
   | lst m=>
     obtain⟨a,vs,ea,_,s1,i1⟩:=Is.lst_iff.mp h1;obtain⟨a',us,ea',_,s2,i2⟩:=Is.lst_iff.mp h2;subst ea ea';cases r1;cases r2;obtain⟨its,rv,p1,_⟩:=I.list (.of s1);obtain⟨its2,rv2,p2,_⟩:=I.list (.of s2);have l1:its.toArray.size=l.length:=by rw[Af0,<-rv.length,<-i1.length]
     have l2:its2.toArray.size=m.length:=by rw[Af0,<-rv2.length,<-i2.length]
     unfold D.eqq at e;by_cases hl:l.length=m.length
     ·rw[if_pos hl] at e
      have hd':D.depL l+1<=n:=by unfold D.dep at hd;exact hd
      have ih':∀{d1 d2:D} {b:Bool} {v1 v2:V} {u1 u2:Value},d1.dep<=n-1->D.eqq d1 d2=some b->Is X.K A1 H d1 v1->Is X.K A2 H d2 v2->wq2 v1 u1->wq2 v2 u2->EqAt A.in1 s u1 u2 b:=
       λhd e h1 h2 r1 r2=>xc1 I (n-1) (A:=A.in1) hd (by rw[Around.in1_units];omega) e h1 h2 r1 r2
      have q:=RcAt.lists (A:=A) (e:=λj=>(wu1 l m).getD j false) p1.isList p2.isList (by rw[l1,l2,hl]) hu0 (λj g1 g2=>zo0 e i1 i2 rv rv2 ih' (by omega) j g1 g2);have q':=RcNeAt.lists (A:=A) (e:=λj=>(wu1 l m).getD j false) p1.isList p2.isList (by rw[l1,l2,hl]) hu0 (λj g1 g2=>zo0 e i1 i2 rv rv2 ih' (by omega) j g1 g2);have eb:=yh8 e;have el:l.length=(wu1 l m).length:=by rw[zp1];omega
      rw[l1,el,zu4] at q q';have eb':b=(wu1 l m).all id:=by rw[eb,hl];simp
      rw[eb'];exact⟨q,q'⟩
     ·rw[if_neg hl] at e
      cases e;exact⟨RcAt.lists_lengths p1.isList p2.isList (by rw[l1,l2];simpa using hl) hu0,RcNeAt.lists_lengths p1.isList p2.isList (by rw[l1,l2];simpa using hl) hu0⟩
   | _=>unfold D.eqq at e;cases e
 | dct _ _=>cases d2<;>(unfold D.eqq at e;cases e)
 | fl _=>cases d2<;>(unfold D.eqq at e;cases e)
 | fd _ _=>cases d2<;>(unfold D.eqq at e;cases e)
def vn5(K:PySem.W.Frag)(neg:Bool):R2:=λx y H Q=>∃(A:Addr->Prop) (d1 d2:D) (b:Bool),Is K A H d1 x/\Is K A H d2 y/\d1.dep<=30/\D.eqq d1 d2=some b/\Q (.bl (if neg then !b else b)) H
def zf6{k:Nat}(hr:wr2 k X.A):OpR X (compareOp .Eq) (vn5 X.K false):=by
 intro A3 s σ H x y v u Q I rx ry h;obtain⟨A,d1,d2,b,h1,h2,hd,e,q⟩:=h;exact(xz2 I (n:=30) hd (by have:=hr.units;omega) e h1 h2 rx ry).1 _ _ _ _ ⟨.bl b,H,I,rfl,q⟩
def zq6{k:Nat}(hr:wr2 k X.A):OpR X (compareOp .NotEq) (vn5 X.K true):=by
 intro A3 s σ H x y v u Q I rx ry h;obtain⟨A,d1,d2,b,h1,h2,hd,e,q⟩:=h;exact(xz2 I (n:=30) hd (by have:=hr.units;omega) e h1 h2 rx ry).2 _ _ _ _ ⟨.bl (!b),H,I,rfl,q⟩
def inD(x:D):List D->Option Bool
 | []=>some false
 | d::l=>(D.eqq d x).bind λb=>(inD x l).map λc=>b||c
def vn4(K:PySem.W.Frag)(neg:Bool):R2:=λx y H Q=>∃(A:Addr->Prop) (d:D) (l:List D) (b:Bool),Is K A H d x/\(Is K A H (.lst l) y\/Is K A H (.tup l) y)/\D.depL l<=30/\inD d l=some b/\Q (.bl (if neg then !b else b)) H
open Classical in
def vd5(x:D)(l:List D)(us:List Value)(u:Value):Bool:=decide (∃(j:Nat) (d:D),us[j]?=some u/\l[j]?=some d/\D.eqq d x=some true)
def ye4:vd5 x l us u=true↔∃(j:Nat) (d:D),us[j]?=some u/\l[j]?=some d/\D.eqq d x=some true:=by
 classical
 unfold vd5;exact decide_eq_true_iff
theorem yt0:∀{l:List D} {b:Bool},inD x l=some b->∀(j:Nat) (d:D),l[j]?=some d->∃c,D.eqq d x=some c
 | [],_,_,_,_,h=>by simp at h
 | a::l,b,e,j,d,h=>by
   unfold inD at e;cases q1:D.eqq a x with
   | none=>rw[q1] at e;cases e
   | some c=>
     cases q2:inD x l with
     | none=>rw[q1,q2] at e;cases e
     | some c2=>
       cases j with
       | zero=>simp at h;subst h;exact⟨c,q1⟩
       | succ j=>exact yt0 q2 j d (by simpa using h)
theorem xo6:∀{l:List D} {b:Bool},inD x l=some b->(b=true↔∃(j:Nat) (d:D),l[j]?=some d/\D.eqq d x=some true)
 | [],b,e=>by
   unfold inD at e;cases e;constructor
   ·intro h;cases h
   ·rintro ⟨j,d,h,_⟩;simp at h
 | a::l,b,e=>by
   unfold inD at e;cases q1:D.eqq a x with
   | none=>rw[q1] at e;cases e
   | some c=>
     cases q2:inD x l with
     | none=>rw[q1,q2] at e;cases e
     | some c2=>
       rw[q1,q2] at e;have e:some (c||c2)=some b:=e;cases e;have ih:=xo6 q2;rw[Bool.or_eq_true];constructor
       ·rintro (h | h)
        ·subst h;exact⟨0,a,rfl,q1⟩
        ·obtain⟨j,d,h1,h2⟩:=ih.mp h
         exact⟨j+1,d,by simpa using h1,h2⟩
       ·rintro ⟨j,d,h1,h2⟩
        cases j with
        | zero=>
          simp at h1;subst h1;rw[q1] at h2;cases h2;exact .inl rfl
        | succ j=>exact .inr (ih.mpr ⟨j,d,by simpa using h1,h2⟩)
def yd7(I:Inv X A3 σ H s){b:Bool}(hd:D.depL l<=30)(hu:A.units+30<cLine)(e:inD x l=some b)(i:IsL X.K A1 H l vs)(rv:wq4 vs its)(h:Is X.K A1 H x v)(r:wq2 v u) :
 (∀y∈its.toArray,EqAt A s y u (vd5 x l its y))/\its.toArray.any (vd5 x l its)=b:=by
 have at_:∀(j:Nat) (y:Value),its[j]?=some y->∃d w,l[j]?=some d/\Is X.K A1 H d w/\wq2 w y:=λj y hy=>by
  have hj:j<its.length:=(Ae0.mp hy).1;have hl:j<l.length:=by rw[i.length,rv.length];exact hj
  obtain⟨w,hw,iw⟩:=i.get (Ac0 hl);obtain⟨y',hy',ry⟩:=rv.get hw;rw[hy] at hy';cases hy';exact⟨_,w,Ac0 hl,iw,ry⟩
 have eqs:∀(j:Nat) (y:Value) (d:D) (c:Bool),its[j]?=some y->l[j]?=some d->D.eqq d x=some c->EqAt A s y u c:=λj y d c hy hd' ec=>by
  obtain⟨d2,w,h2,iw,ry⟩:=at_ j y hy;rw[hd'] at h2;cases h2;exact xc1 I 30 (Ap0 (ye2 hd') hd) hu ec iw h ry r
 constructor
 ·intro y hy
  by_cases hc:∃(j:Nat) (d:D),its[j]?=some y/\l[j]?=some d/\D.eqq d x=some true
  ·obtain⟨j,d,h1,h2,h3⟩:=hc
   have:vd5 x l its y=true:=ye4.mpr ⟨j,d,h1,h2,h3⟩;rw[this];exact eqs j y d true h1 h2 h3
  ·have:vd5 x l its y=false:=by cases q:vd5 x l its y with
    | false=>rfl
    | true=>exact(hc (ye4.mp q)).elim
   rw[this];obtain⟨j,hj,ej⟩:=List.mem_iff_getElem.mp (show y∈its by simpa using hy);have hy':its[j]?=some y:=by rw[Ac0 hj,ej]
   obtain⟨d,w,h2,iw,ry⟩:=at_ j y hy';obtain⟨c,ec⟩:=yt0 e j d h2;cases c with
   | false=>exact eqs j y d false hy' h2 ec
   | true=>exact(hc ⟨j,d,hy',h2,ec⟩).elim
 ·apply Cb0.mpr
  rw[xo6 e];have e1:its.toArray.any (vd5 x l its)=its.any (vd5 x l its):=by simp
  rw[e1,List.any_eq_true];constructor
  ·rintro ⟨y,_,hy⟩
   obtain⟨j,d,_,h2,h3⟩:=ye4.mp hy;exact⟨j,d,h2,h3⟩
  ·rintro ⟨j,d,h2,h3⟩
   have hj:j<its.length:=by rw[<-rv.length,<-i.length];exact(Ae0.mp h2).1
   refine⟨its[j],List.getElem_mem hj,?_⟩;exact ye4.mpr ⟨j,d,Ac0 hj,h2,h3⟩
def yf6{k:Nat}(hr:wr2 k X.A):OpR X (compareOp .In) (vn4 X.K false):=by
 intro A3 s σ H x y v u Q I rx ry h;obtain⟨A,d,l,b,h1,h2,hd,e,q⟩:=h;have hu:X.A.in1.units+30<cLine:=by rw[Around.in1_units];have:=hr.units;omega
 rcases h2 with h2 | h2
 ·obtain⟨a,vs,ea,_,s1,i1⟩:=Is.lst_iff.mp h2
  subst ea;cases ry;obtain⟨its,rv,p,_⟩:=I.list (.of s1);obtain⟨g1,g2⟩:=yd7 I hd hu e i1 rv h1 rx;exact in_listAt _ p.isList g1 ⟨.bl b,H,I,by rw[g2];rfl,q⟩
 ·obtain⟨a,vs,ea,s1,i1⟩:=Is.tup_sq h2
  subst ea;cases ry;obtain⟨its,rv,p,_⟩:=I.tuple s1;obtain⟨g1,g2⟩:=yd7 I hd hu e i1 rv h1 rx;exact in_tupleAt _ p g1 ⟨.bl b,H,I,by rw[g2];rfl,q⟩
def yr5{k:Nat}(hr:wr2 k X.A):OpR X (compareOp .NotIn) (vn4 X.K true):=by
 intro A3 s σ H x y v u Q I rx ry h;obtain⟨A,d,l,b,h1,h2,hd,e,q⟩:=h;have hu:X.A.in1.units+30<cLine:=by rw[Around.in1_units];have:=hr.units;omega
 rcases h2 with h2 | h2
 ·obtain⟨a,vs,ea,_,s1,i1⟩:=Is.lst_iff.mp h2
  subst ea;cases ry;obtain⟨its,rv,p,_⟩:=I.list (.of s1);obtain⟨g1,g2⟩:=yd7 I hd hu e i1 rv h1 rx;exact notIn_listAt _ p.isList g1 ⟨.bl (!b),H,I,by rw[g2];rfl,q⟩
 ·obtain⟨a,vs,ea,s1,i1⟩:=Is.tup_sq h2
  subst ea;cases ry;obtain⟨its,rv,p,_⟩:=I.tuple s1;obtain⟨g1,g2⟩:=yd7 I hd hu e i1 rv h1 rx;exact notIn_tupleAt _ p g1 ⟨.bl (!b),H,I,by rw[g2];rfl,q⟩
variable{S:Type}{W:Wd S}{c:Dx W}
def oEq(neg:Bool)(a b:D):Option D:=if a.dep<=30 then (D.eqq a b).map λx=>.bl (if neg then !x else x) else none
def oIn(neg:Bool)(a b:D):Option D:=match b with
 | .lst l=>if D.depL l<=30 then (inD a l).map λx=>.bl (if neg then !x else x) else none
 | .tup l=>if D.depL l<=30 then (inD a l).map λx=>.bl (if neg then !x else x) else none
 | _=>none
open H in
def zd4{K:PySem.W.Frag}{neg:Bool}(hK:c.K=K):OpD c (vn5 K neg) (oEq neg):=by
 subst hK;intro d1 d2 v1 v2 H st d Q ok z1 z2 e q;unfold oEq at e;split at e
 ·rename_i hd
  cases h:D.eqq d1 d2 with
  | none=>rw[h] at e;cases e
  | some b=>
    rw[h] at e;cases e;exact⟨_,d1,d2,b,z1,z2,hd,h,q _ H Ext.refl ok zu7⟩
 ·cases e
open H in
def zz5{K:PySem.W.Frag}{neg:Bool}(hK:c.K=K):OpD c (vn4 K neg) (oIn neg):=by
 subst hK;intro d1 d2 v1 v2 H st d Q ok z1 z2 e q;unfold oIn at e;split at e
 ·rename_i l
  split at e
  ·rename_i hd
   cases h:inD d1 l with
   | none=>rw[h] at e;cases e
   | some b=>
     rw[h] at e;cases e;exact⟨_,d1,l,b,z1,.inl z2,hd,h,q _ H Ext.refl ok zu7⟩
  ·cases e
 ·rename_i l
  split at e
  ·rename_i hd
   cases h:inD d1 l with
   | none=>rw[h] at e;cases e
   | some b=>
     rw[h] at e;cases e;exact⟨_,d1,l,b,z1,.inr z2,hd,h,q _ H Ext.refl ok zu7⟩
  ·cases e
 ·cases e
end
section
variable{X:Cx}{S:Type}{W:Wd S}{c:Dx W}{g:Gr}{a b e:Expr}{rest:List Expr}{pos:Pos}{fa fb fc:Fn S}{ga gb gc:Gr}
def vj5(S:Type)(f1 f2:Fn S):Fn S:=λρ st=>(f1 ρ st).bind λd st1=>match d with
 | .bl true=>f2 ρ st1
 | .bl false=>.ok (.bl false) st1
 | _=>.bad
def vj3(S:Type)(f1:Fn S):Fn S:=λρ st=>(f1 ρ st).bind λd st1=>match d with
 | .bl b=>.ok (.bl (!b)) st1
 | _=>.bad
def xq3{op}(h:DE X c g a f):DE X c g (.BoolOp op [a] pos) f:=wl1 h
def xc7(ha:DE X c ga a fa)(hb:DE X c g (.BoolOp .And (b::rest) pos) fb):DE X c g (.BoolOp .And (a::b::rest) pos) (vj5 S fa fb):=
 (wl6 ha hb).imp λσ H Q hI32=>by
  obtain⟨ρ,st,R,ok,w⟩:=hI32;refine zh1 (Go.bind (g':=ga) (k:=λd ρ st1=>match d with | .bl true=>fb ρ st1 | .bl false=>.ok (.bl false) st1 | _=>.bad) R ok w) λv H1 hI108=>?_
  obtain⟨d,st1,R1,ok1,e1,z,w1⟩:=hI108;cases d with
  | bl k=>
    have zv:v=.bl k:=Is.bl_iff.mp (show Is c.K (λb=>¬W.mv b) H1 (.bl k) v from z.toR);refine⟨k,zv,?_⟩;cases k with
    | true=>exact vh5 ⟨ρ,st1,R1,ok1,w1⟩
    | false=>exact vi9 (w1 (.bl false) H1 Ext.refl ok1 (New.val R1 zu7 g))
  | _=>exact(show False from w1).elim
def wo7(ha:DE X c ga a fa):DE X c g (.UnaryOp .Not a pos) (vj3 S fa):=
 (wl2 ha).imp λσ H Q hI33=>by
  obtain⟨ρ,st,R,ok,w⟩:=hI33;refine zh1 (Go.bind (g':=ga) (k:=λd ρ st1=>match d with | .bl b=>.ok (.bl (!b)) st1 | _=>.bad) R ok w) λv H1 hI109=>?_
  obtain⟨d,st1,R1,ok1,e1,z,w1⟩:=hI109;cases d with
  | bl k=>
    have zv:v=.bl k:=Is.bl_iff.mp (show Is c.K (λb=>¬W.mv b) H1 (.bl k) v from z.toR);exact⟨k,zv,w1 (.bl (!k)) H1 Ext.refl ok1 (New.val R1 zu7 g)⟩
  | _=>exact(show False from w1).elim
def xb8(S:Type)(o o':D->D->Option D)(f1 f2 f3:Fn S):Fn S:=λρ st=>(f1 ρ st).bind λd1 st1=>(f2 ρ st1).bind λd2 st2=>match o d1 d2 with
 | some (.bl true)=>(f3 ρ st2).bind λd3 st3=>wr1 (o' d2 d3) st3
 | some (.bl false)=>.ok (.bl false) st2
 | _=>.bad
theorem xt8(hr:OpD c r o)(hr':OpD c r' o')(h:tD c g (xb8 S o o' fa fb fc) σ H Q):xy9 r r' (tD c ga fa) (tD c gb fb) (tD c gc fc) σ H Q:=by
 obtain⟨ρ,st,R,ok,w⟩:=h;refine zh1 (Go.bind (g':=ga) (k:=λd1 ρ st1=>(fb ρ st1).bind λd2 st2=>match o d1 d2 with | some (.bl true)=>(fc ρ st2).bind λd3 st3=>wr1 (o' d2 d3) st3 | some (.bl false)=>.ok (.bl false) st2 | _=>.bad) R ok w) λv1 H1 hI110=>?_
 obtain⟨d1,st1,R1,ok1,e1,z1,w1⟩:=hI110;refine zh1 (Go.bind (g':=gb) (k:=λd2 ρ st2=>match o d1 d2 with | some (.bl true)=>(fc ρ st2).bind λd3 st3=>wr1 (o' d2 d3) st3 | some (.bl false)=>.ok (.bl false) st2 | _=>.bad) R1 ok1 w1) λv2 H2 hI111=>?_
 obtain⟨d2,st2,R2,ok2,e2,z2,w2⟩:=hI111;cases q:o d1 d2 with
 | none=>simp only[q] at w2;exact(show False from w2).elim
 | some d=>
   simp only[q] at w2;cases d with
   | bl k=>
     refine hr d1 d2 v1 v2 H2 st2 (.bl k) _ ok2 (z1.toR.ext e2 ok1) z2.toR q λv H' e' ok' n=>?_
     refine⟨k,Is.bl_iff.mp n,?_⟩;have R':=R2.ext ok2 e';cases k with
     | false=>exact vi9 (w2 (.bl false) H' e' ok' (New.val R2 zu7 g))
     | true=>
       refine vh5 ?_;have w3:Go c g σ (λρ st=>(fc ρ st).bind λd3 st3=>wr1 (o' d2 d3) st3) H2 Q ρ st2:=w2;refine zh1 (Go.bind (g':=gc) (k:=λd3 _ st3=>wr1 (o' d2 d3) st3) R' ok' (w3.from e' ok')) λv3 H3 hI112=>?_
       obtain⟨d3,st3,R3,ok3,e3,z3,w4⟩:=hI112;obtain⟨d,e5,q5⟩:=Go.done w4 ok3;exact hr' d2 d3 v2 v3 H3 st3 d Q ok3 ((z2.toR.ext e' ok2).ext e3 ok') z3.toR e5 λv H' a b n=>q5 v H' a b (n.val R3 g)
   | _=>exact(show False from w2).elim
def xc4(ho:OpR X (compareOp op) r)(ho':OpR X (compareOp op') r')(hr:OpD c r o)(hr':OpD c r' o')(ha:DE X c ga a fa)(hb:DE X c gb b fb)(hd:DE X c gc d fc)(hm:lastMarks [op,op'] [b,d]=false:=by with_unfolding_all rfl):DT X c (.Compare a [op,op'] [b,d] pos) (fB S (xb8 S o o' fa fb fc)):=
 (xu7 ho ho' ha hb hd hm).imp λσ H Q q=>by
  have q':tB (tD c .R (xb8 S o o' fa fb fc)) σ H Q:=yp7 q;exact xt8 (ga:=ga) (gb:=gb) (gc:=gc) hr hr' q'
def D.isNon:D->Bool
 | .non=>true
 | _=>false
def va5(neg:Bool)(a b:D):Option D:=match b with
 | .non=>some (.bl (if neg then !a.isNon else a.isNon))
 | _=>none
theorem wn4{K:PySem.W.Frag}{A:Addr->Prop}{H:Hp}{d:D}{v:V}(h:Is K A H d v):(decide (v=V.non))=d.isNon:=by
 cases d with
 | non=>rw[Is.non_iff.mp h];rfl
 | bl b=>rw[Is.bl_iff.mp h];rfl
 | int i=>rw[Is.int_iff.mp h];rfl
 | str x=>rw[Is.str_iff.mp h];rfl
 | tup l=>obtain⟨a,vs,e,_⟩:=Is.tup_sq h;rw[e];rfl
 | lst l=>obtain⟨a,vs,e,_⟩:=Is.lst_iff.mp h;rw[e];rfl
 | dct k l=>obtain⟨a,vs,e,_⟩:=Is.dct_iff.mp h;rw[e];rfl
 | fl l=>obtain⟨a,o,vs,e,_⟩:=Is.fl_iff.mp h;rw[e];rfl
 | fd k l=>obtain⟨a,o,vs,kk,e,_⟩:=Is.fd_iff.mp h;rw[e];rfl
theorem xl7:OpD c (λx y H Q=>y=.non/\Q (.bl (decide (x=.non))) H) (va5 false):=by
 intro d1 d2 v1 v2 H st d Q ok z1 z2 e q;cases d2 with
 | non=>
   cases e;refine⟨Is.non_iff.mp z2,?_⟩;rw[wn4 z1];exact q _ H Ext.refl ok zu7
 | _=>cases e
def vp4(S:Type)(t:FnT S)(f1 f2:Fn S):Fn S:=λρ st=>(t ρ st).bind λk st1=>if k=true then f1 ρ st1 else f2 ρ st1
def vp9(ht:DT X c d t)(ha:DE X c g a fa)(hb:DE X c g b fb):DE X c g (.IfExp d a b pos) (vp4 S t fa fb):=
 (xv2 ht ha hb).imp λσ H Q hI34=>by
  obtain⟨ρ,st,R,ok,w⟩:=hI34;refine⟨ρ,st,R,ok,za6 (za3.mp w) (λk st1 q H1 e ok1=>?_) λx st1 q=>q⟩;have q':Go c g σ (if k=true then fa else fb) H Q ρ st1:=by
   cases k<;>exact q
  have q2:=q'.from e ok1;cases k with
  | true=>exact vh5 ⟨ρ,st1,R.ext ok e,ok1,q2⟩
  | false=>exact vi9 ⟨ρ,st1,R.ext ok e,ok1,q2⟩
def vt1(S:Type)(f:Fn S):Fn S:=λρ st=>(f ρ st).bind λd st1=>match d with
 | .int i=>.ok (.int (-i)) st1
 | _=>.bad
def yl0(ha:DE X c ga a fa):DE X c g (.UnaryOp .USub a pos) (vt1 S fa):=
 (vn6 wj4 ha).imp λσ H Q hI35=>by
  obtain⟨ρ,st,R,ok,w⟩:=hI35;refine zh1 (Go.bind (g':=ga) (k:=λd _ st1=>match d with | .int i=>.ok (.int (-i)) st1 | _=>.bad) R ok w) λv H1 hI113=>?_
  obtain⟨d,st1,R1,ok1,e1,z,w1⟩:=hI113;cases d with
  | int i=>exact⟨i,Is.int_iff.mp (show Is c.K (λb=>¬W.mv b) H1 (.int i) v from z.toR),w1 (.int (-i)) H1 Ext.refl ok1 (New.val R1 zm1 g)⟩
  | _=>exact(show False from w1).elim
end
def D.ty:D->String
 | .non=>"NoneType"
 | .bl _=>"bool"
 | .int _=>"int"
 | .str _=>"str"
 | .tup _=>"tuple"
 | .lst _=>"list"
 | .dct _ _=>"dict"
 | .fl _=>"list"
 | .fd _ _=>"dict"
inductive Bt where
 | int | bool | str | list | tuple | dict
def Bt.nm:Bt->String
 | .int=>"int"
 | .bool=>"bool"
 | .str=>"str"
 | .list=>"list"
 | .tuple=>"tuple"
 | .dict=>"dict"
def isI(T:Bt)(d:D):Bool:=match T,d with
 | .int,.int _=>true
 | .int,.bl _=>true
 | .bool,.bl _=>true
 | .str,.str _=>true
 | .list,.lst _=>true
 | .list,.fl _=>true
 | .tuple,.tup _=>true
 | .dict,.dct _ _=>true
 | .dict,.fd _ _=>true
 | _,_=>false
def wg4(K:PySem.W.Frag)(T:Bt)(d:D):PySem.W.kitOne K (.type d.ty) (.type T.nm)=some (isI T d):=by
 cases T<;>cases d<;>first | rfl | decide
section
variable{X:Cx}{A3:List (Addr×Obj)}{σ:St}{H:Hp}{s:Shared}
theorem wg6(T:Bt)(I:Inv X A3 σ H s)(h:Is X.K A H d v)(r:wq2 v u)(hq:∀tk,Q (.bool (isI T d)) { s with toks:=tk }) :
 wpAny (model X.prog X.w) A0 (call (.builtin "isinstance") [u,.type T.nm]) Q E s:=by
 have e:=wg4 X.K T d;cases d with
 | non=>rw[Is.non_iff.mp h] at r;exact zm0 I r .non e hq
 | bl b=>rw[Is.bl_iff.mp h] at r;exact zm0 I r (.bl b) e hq
 | int i=>rw[Is.int_iff.mp h] at r;exact zm0 I r (.int i) e hq
 | str x=>rw[Is.str_iff.mp h] at r;exact zm0 I r (.str x) e hq
 | lst l=>obtain⟨a,vs,ea,_,e1,_⟩:=Is.lst_iff.mp h;rw[ea] at r;exact zm0 I r (.lst e1) e hq
 | fl l=>obtain⟨a,o,vs,ea,e1,_⟩:=Is.fl_iff.mp h;rw[ea] at r;exact zm0 I r (.frz e1) e hq
 | dct k l=>
   obtain⟨a,vs,ea,_,_,q⟩:=Is.dct_iff.mp h;rw[ea] at r;rcases q with⟨_,_,_,e1⟩ | ⟨_,_,_,e1⟩
   ·exact zm0 I r (.dK e1) e hq
   ·exact zm0 I r (.dT e1) e hq
 | fd k l=>
   obtain⟨a,ob,vs,kk,ea,_,_,e1,_⟩:=Is.fd_iff.mp h;rw[ea] at r;cases (show u=Value.ref a from r);obtain⟨_,_,_,xs,_,o,es,ep,h1,h2,_⟩:=(show wq9 X.prog X.w H s.heap a (.frz ob (.dT (kk.zip vs))) from I.hok a _ e1);exact PySem.W.kia_one PySem.W.kitx_dict I.kIn ⟨o,h1,h2.1⟩ e (λz=>nomatch z) hq
 | tup l=>
   obtain⟨a,vs,ea,s1,_⟩:=Is.tup_sq h;rw[ea] at r;cases r;obtain⟨its,_,⟨o,h1,h2,_⟩,_⟩:=I.tuple s1;exact PySem.W.kia_one PySem.W.kitx_tuple I.kIn ⟨o,h1,h2⟩ e (λz=>nomatch z) hq
variable{S:Type}{W:Wd S}{c:Dx W}{g ga:Gr}
def fIs(S:Type)(T:Bt)(f:Fn S):Fn S:=λρ st=>(f ρ st).bind λd st1=>.ok (.bl (isI T d)) st1
def zg4{x:Str}(T:Bt)(hK:c.K=X.K)(hg:Gl X "isinstance")(hm:X.mg "isinstance" = none)(hg2:Gl X x)(hm2:X.mg x=none)(hv:bootBuiltins x=some (.type T.nm))(he:DE X c ga e f)(hs:starEach (e::[.Name x p2]) X.env=(false,eval e X.env)::starEach [.Name x p2] X.env:=by rfl)(hs2:starEach [.Name x p2] X.env=(false,eval (.Name x p2) X.env)::starEach [] X.env:=by rfl)(hpl:(backTo pos (starEach [.Name x p2] X.env)).any (·.1)=false:=by rfl)(hn:x≠"__name__":=by decide)(hd:(x == ("__debug__" : Str))=false:=by decide) :
 DE X c g (.Call (.Name "isinstance" p) [e,.Name x p2] [] pos) (fIs S T f):=by
 have hp:PE X (.Call (.Name "isinstance" p) [e,.Name x p2] [] pos) (tCB (λvs H Q=>∃A d v,vs=[v,.ty T.nm]/\Is X.K A H d v/\Q (.bl (isI T d)) H) (vc2 (tD c ga f) (vc2 (tC (.ty T.nm)) vr3))):=by
  refine yd5 (id:="isinstance") ?_ hg hm boot_isinstance (zi1 he (zi1 (wf0 hg2 hm2 hv rfl hn hd) zp4 hs2) hs) (by decide) (by decide) hs hpl;intro A3 s σ H xs us Q I r h;obtain⟨A,d,v,rfl,hi,q⟩:=h;obtain⟨u,w',rfl,r1,r2⟩:=ve0 r;cases r2;exact wg6 T I hi r1 λtk=>⟨.bl _,H,I.tok tk,rfl,q⟩
 refine hp.imp λσ H Q hI114=>?_
 obtain⟨ρ,st,R,ok,w⟩:=hI114;refine zh1 (Go.bind (g':=ga) (k:=λd _ st1=>.ok (.bl (isI T d)) st1) R ok w) λv H1 hI115=>?_
 obtain⟨d,st1,R1,ok1,e1,z,w1⟩:=hI115;exact⟨_,d,v,rfl,hK▸(show Is c.K (λb=>¬W.mv b) H1 d v from z.toR),w1 _ H1 Ext.refl ok1 (New.val R1 zu7 g)⟩
end
section
variable{X:Cx}{S:Type}{W:Wd S}{c:Dx W}
def wv6:List D->Option D
 | [.lst l]=>some (.int l.length)
 | [.tup l]=>some (.int l.length)
 | _=>none
open H in
def zo9{K:PySem.W.Frag}(hK:c.K=K):ws4 c (λxs H Q=>∃p ys,xs=[.ref p]/\(SqL K H p ys\/SqT K H p ys)/\Q (.int ys.length) H) wv6:=by
 subst hK;intro l vs H st d Q ok z e q;unfold wv6 at e;split at e
 ·rename_i m
  cases e;obtain⟨v,r,e1,i1,i2⟩:=IsL.cons.mp z;obtain⟨a,us,ea,_,s1,i3⟩:=Is.lst_iff.mp i1;rw[IsL.nil.mp i2,ea] at e1;exact⟨a,us,e1,.inl (.of s1),by rw[<-i3.length];exact q _ H Ext.refl ok zm1⟩
 ·rename_i m
  cases e;obtain⟨v,r,e1,i1,i2⟩:=IsL.cons.mp z;obtain⟨a,us,ea,s1,i3⟩:=Is.tup_sq i1;rw[IsL.nil.mp i2,ea] at e1;exact⟨a,us,e1,.inr s1,by rw[<-i3.length];exact q _ H Ext.refl ok zm1⟩
 ·cases e
def zo3:List D->Option D
 | [.lst l]=>if D.immL l=true then some (.tup l) else none
 | [.tup l]=>if D.immL l=true then some (.tup l) else none
 | _=>none
open H in
def zn6{K:PySem.W.Frag}(hK:c.K=K):ws4 c (λxs H Q=>∃p ys,xs=[.ref p]/\((SqL K H p ys/\∀l,H l=none->Q (.ref l) (upd H l (.tup ys)))\/(SqT K H p ys/\Q (.ref p) H))) zo3:=by
 subst hK;intro l vs H st d Q ok z e q;unfold zo3 at e;split at e
 ·rename_i m
  split at e
  ·rename_i im
   cases e;obtain⟨v,r,e1,i1,i2⟩:=IsL.cons.mp z;obtain⟨a,us,ea,_,s1,i3⟩:=Is.lst_iff.mp i1;rw[IsL.nil.mp i2,ea] at e1;exact⟨a,us,e1,.inl ⟨.of s1,λp hp=>q _ _ (Ext.laid hp) (zh3 ok hp) (New.tup ok hp (λ_ n=>n) im i3)⟩⟩
  ·cases e
 ·rename_i m
  split at e
  ·rename_i im
   cases e;obtain⟨v,r,e1,i1,i2⟩:=IsL.cons.mp z;obtain⟨a,us,ea,s1,i3⟩:=Is.tup_iff.mp i1;rw[IsL.nil.mp i2,ea] at e1;exact⟨a,us,e1,.inr ⟨.of s1,q _ H Ext.refl ok (Is.tup s1 (IsL.ofImm im i3))⟩⟩
  ·cases e
 ·cases e
def va3:List D->Option D
 | [.lst l]=>if D.immL l=true then some (.lst l) else none
 | [.tup l]=>if D.immL l=true then some (.lst l) else none
 | _=>none
open H in
def yy0{K:PySem.W.Frag}(hK:c.K=K):ws4 c (λxs H Q=>∃p ys,xs=[.ref p]/\(SqL K H p ys\/SqT K H p ys)/\∀l,H l=none->Q (.ref l) (upd H l (.lst ys))) va3:=by
 subst hK;intro l vs H st d Q ok z e q;unfold va3 at e;split at e
 ·rename_i m
  split at e
  ·rename_i im
   cases e;obtain⟨v,r,e1,i1,i2⟩:=IsL.cons.mp z;obtain⟨a,us,ea,_,s1,i3⟩:=Is.lst_iff.mp i1;rw[IsL.nil.mp i2,ea] at e1;exact⟨a,us,e1,.inl (.of s1),λp hp=>q _ _ (Ext.laid hp) (zh3 ok hp) (New.lst ok hp (λ_ n=>n) im i3)⟩
  ·cases e
 ·rename_i m
  split at e
  ·rename_i im
   cases e;obtain⟨v,r,e1,i1,i2⟩:=IsL.cons.mp z;obtain⟨a,us,ea,s1,i3⟩:=Is.tup_sq i1;rw[IsL.nil.mp i2,ea] at e1;exact⟨a,us,e1,.inr s1,λp hp=>q _ _ (Ext.laid hp) (zh3 ok hp) (New.lst ok hp (λ_ n=>n) im i3)⟩
  ·cases e
 ·cases e
def vi7:List D->Option D
 | [.int i]=>some (.int i)
 | [.bl k]=>some (.int (if k then 1 else 0))
 | _=>none
open H in
def xd3:ws4 c (λxs H Q=>(∃i,xs=[.int i]/\Q (.int i) H)\/∃k,xs=[.bl k]/\Q (.int (if k then 1 else 0)) H) vi7:=by
 intro l vs H st d Q ok z e q;unfold vi7 at e;split at e
 ·rename_i i
  cases e;obtain⟨v,r,e1,i1,i2⟩:=IsL.cons.mp z;rw[IsL.nil.mp i2,Is.int_iff.mp i1] at e1;exact .inl ⟨i,e1,q _ H Ext.refl ok zm1⟩
 ·rename_i i
  cases e;obtain⟨v,r,e1,i1,i2⟩:=IsL.cons.mp z;rw[IsL.nil.mp i2,Is.bl_iff.mp i1] at e1;exact .inr ⟨i,e1,q _ H Ext.refl ok zm1⟩
 ·cases e
def xm1(f:Int->Int->Int):List D->Option D
 | [.int i,.int j]=>some (.int (f i j))
 | _=>none
open H in
def zs7(f:Int->Int->Int):ws4 c (λxs H Q=>∃i j,xs=[.int i,.int j]/\Q (.int (f i j)) H) (xm1 f):=by
 intro l vs H st d Q ok z e q;unfold xm1 at e;split at e
 ·rename_i i j
  cases e;obtain⟨v,r,e1,i1,i2⟩:=IsL.cons.mp z;obtain⟨v',r',e1',i1',i2'⟩:=IsL.cons.mp i2;rw[e1',IsL.nil.mp i2',Is.int_iff.mp i1,Is.int_iff.mp i1'] at e1;exact⟨i,j,e1,q _ H Ext.refl ok zm1⟩
 ·cases e
def zj9:List D->Option (List Bool)
 | []=>some []
 | .bl b::l=>(zj9 l).map λr=>b::r
 | _=>none
theorem yl6{K:PySem.W.Frag}{A:Addr->Prop}{H:Hp}:∀{l:List D} {vs:List V} {bs:List Bool},zj9 l=some bs->IsL K A H l vs->vs=bs.map V.bl
 | [],vs,bs,e,h=>by cases e;exact IsL.nil.mp h
 | .bl b::l,vs,bs,e,h=>by
   unfold zj9 at e;cases q:zj9 l with
   | none=>rw[q] at e;cases e
   | some r=>
     rw[q] at e;cases e;obtain⟨v,us,e1,i1,i2⟩:=IsL.cons.mp h;rw[e1,Is.bl_iff.mp i1,yl6 q i2];rfl
 | .non::_,_,_,e,_=>by simp[zj9] at e
 | .int _::_,_,_,e,_=>by simp[zj9] at e
 | .str _::_,_,_,e,_=>by simp[zj9] at e
 | .tup _::_,_,_,e,_=>by simp[zj9] at e
 | .lst _::_,_,_,e,_=>by simp[zj9] at e
 | .dct _ _::_,_,_,e,_=>by simp[zj9] at e
def yc2(f:List Bool->Bool):List D->Option D
 | [.lst l]=>(zj9 l).map λbs=>.bl (f bs)
 | _=>none
open H in
def zs8{K:PySem.W.Frag}(f:List Bool->Bool):ws4 c (λxs H Q=>∃(a:Addr) (bs:List Bool),xs=[.ref a]/\SqL K H a (bs.map V.bl)/\Q (.bl (f bs)) H) (yc2 f):=by
 intro l vs H st d Q ok z e q;unfold yc2 at e;split at e
 ·rename_i m
  cases qb:zj9 m with
  | none=>rw[qb] at e;cases e
  | some bs=>
    rw[qb] at e;cases e;obtain⟨v,r,e1,i1,i2⟩:=IsL.cons.mp z;obtain⟨a,us,ea,_,s1,i3⟩:=Is.lst_iff.mp i1;rw[IsL.nil.mp i2,ea] at e1;rw[yl6 qb i3] at s1;exact⟨a,bs,e1,.of s1,q _ H Ext.refl ok zu7⟩
 ·cases e
def va8:D->D->Option D
 | .lst l,.lst m=>if D.immL l=true/\D.immL m=true/\l.length+m.length<=sizeLine then some (.lst (l++m)) else none
 | _,_=>none
open H in
def wm1:OpD c vk5 va8:=by
 intro d1 d2 v1 v2 H st d Q ok z1 z2 e q;unfold va8 at e;split at e
 ·rename_i l m
  split at e
  ·rename_i h
   cases e;obtain⟨a,vs,ea,_,s1,i1⟩:=Is.lst_iff.mp z1;obtain⟨b,us,eb,_,s2,i2⟩:=Is.lst_iff.mp z2;exact⟨a,b,vs,us,ea,eb,s1,s2,by rw[<-i1.length,<-i2.length];exact h.2.2,λp hp=>q _ _ (Ext.laid hp) (zh3 ok hp) (New.lst ok hp (λ_ n=>n) (zh5 h.1 h.2.1) (i1.append i2))⟩
  ·cases e
 ·cases e
def va7:D->D->Option D
 | .tup l,.tup m=>if D.immL l=true/\D.immL m=true/\l.length+m.length<=sizeLine/\l.isEmpty=false then some (.tup (l++m)) else none
 | _,_=>none
open H in
def wf5{K:PySem.W.Frag}(hK:c.K=K):OpD c (vc5 K) va7:=by
 subst hK;intro d1 d2 v1 v2 H st d Q ok z1 z2 e q;unfold va7 at e;split at e
 ·rename_i l m
  split at e
  ·rename_i h
   cases e;obtain⟨a,vs,ea,s1,i1⟩:=Is.tup_iff.mp z1;obtain⟨b,us,eb,s2,i2⟩:=Is.tup_sq z2;have hl:vs≠[]:=λz=>by
    have:=i1.length;rw[z] at this;have h4:=h.2.2.2;cases l with
    | nil=>cases h4
    | cons _ _=>cases this
   refine⟨a,b,vs,us,ea,eb,.of s1,s2,hl,by rw[<-i1.length,<-i2.length];exact h.2.2.1,λhz=>?_,λ_ p hp=>q _ _ (Ext.laid hp) (zh3 ok hp) (New.tup ok hp (λ_ n=>n) (zh5 h.1 h.2.1) (i1.append i2))⟩;have hm:m=[]:=by
    have:=i2.length;rw[hz] at this;exact List.length_eq_zero_iff.mp this
   rw[hm,List.append_nil] at q;exact q _ H Ext.refl ok (Is.tup s1 (IsL.ofImm h.1 i1))
  ·cases e
 ·cases e
end
def ys6:D->Option Key
 | .int i=>some (.inl i)
 | .str x=>some (.inr x)
 | _=>none
def ww9:List D->Option (List Key)
 | []=>some []
 | d::l=>(ys6 d).bind λk=>(ww9 l).map λr=>k::r
def zc7:D->Option (List Key)
 | .tup l=>ww9 l
 | _=>none
def yx5(k:Key):ys6 (wx2 k)=some k:=by cases k<;>rfl
theorem ys5:∀k:List Key,ww9 (k.map wx2)=some k
 | []=>rfl
 | a::k=>by
   show (ys6 (wx2 a)).bind (λx=>(ww9 (k.map wx2)).map λr=>x::r)=some (a::k);rw[yx5,ys5 k];rfl
def zh4(k:List Key):zc7 (wp9 k)=some k:=ys5 k
section
variable{K:PySem.W.Frag}{A:Addr->Prop}{H:Hp}
theorem xn5(e:ys6 d=some k)(h:Is K A H d v):v=kV k/\d=wx2 k:=by
 cases d with
 | int i=>cases e;exact⟨Is.int_iff.mp h,rfl⟩
 | str x=>cases e;exact⟨Is.str_iff.mp h,rfl⟩
 | _=>cases e
theorem xa6:∀{l:List D} {k:List Key} {vs:List V},ww9 l=some k->IsL K A H l vs->vs=k.map kV/\l=k.map wx2
 | [],k,vs,e,h=>by cases e;exact⟨IsL.nil.mp h,rfl⟩
 | d::l,k,vs,e,h=>by
   unfold ww9 at e;cases q1:ys6 d with
   | none=>rw[q1] at e;cases e
   | some a=>
     cases q2:ww9 l with
     | none=>rw[q1,q2] at e;cases e
     | some r=>
       rw[q1,q2] at e;have e:some (a::r)=some k:=e;cases e;obtain⟨v,us,e1,i1,i2⟩:=IsL.cons.mp h;obtain⟨e2,e3⟩:=xn5 q1 i1;obtain⟨e4,e5⟩:=xa6 q2 i2;subst e1 e2 e4;exact⟨rfl,by rw[e3,e5];rfl⟩
theorem zv1(e:zc7 d=some k)(h:Is K A H d v):∃b,v=.ref b/\H b=some (.tup (k.map kV))/\d=wp9 k:=by
 cases d with
 | tup l=>
   obtain⟨b,vs,e1,s,i⟩:=Is.tup_iff.mp h;obtain⟨e2,e3⟩:=xa6 (show ww9 l=some k from e) i;exact⟨b,e1,by rw[<-e2];exact s,by rw[e3];rfl⟩
 | _=>cases e
def wp8(k:List Key):List D->List D->Option D
 | d::ks,v::vs=>if zc7 d=some k then some v else wp8 k ks vs
 | _,_=>none
theorem ya9(k:List Key):∀{kk:List (List Key)} {vs:List D} {us:List V},kk.length=us.length->IsL K A H vs us->
 (wp8 k (kk.map wp9) vs=none/\wv3 (kk.zip us) k=none)\/∃d v,wp8 k (kk.map wp9) vs=some d/\wv3 (kk.zip us) k=some v/\Is K A H d v
 | [],vs,us,hl,h=>.inl ⟨by unfold wp8;cases vs<;>rfl,rfl⟩
 | x::kk,vs,us,hl,h=>by
   cases vs with
   | nil=>rw[IsL.nil.mp h] at hl;cases hl
   | cons d vs=>
     obtain⟨v,r,e1,i1,i2⟩:=IsL.cons.mp h;subst e1;have hl':kk.length=r.length:=by simpa using hl
     by_cases e:x=k
     ·refine .inr ⟨d,v,?_,zr2 (p:=(x,v)) e,i1⟩
      show (if zc7 (wp9 x)=some k then some d else _)=some d;rw[zh4,if_pos (by rw[e])]
     ·have e':¬zc7 (wp9 x)=some k:=by rw[zh4];exact λz=>e (Option.some.inj z)
      have a1:wp8 k ((x::kk).map wp9) (d::vs)=wp8 k (kk.map wp9) vs:=by
       show (if zc7 (wp9 x)=some k then some d else _)=_;rw[if_neg e']
      have a2:wv3 ((x::kk).zip (v::r)) k=wv3 (kk.zip r) k:=zr3 (p:=(x,v)) e;rw[a1,a2];exact ya9 k hl' i2
end
section
variable{X:Cx}{S:Type}{W:Wd S}{c:Dx W}{g ga gb:Gr}{a b:Expr}{pos:Pos}{fa fb:Fn S}
def zw2:DE X c g (.Dict [] [] pos) (fC S (.dct [.non] [])):=xv3.imp λσ H Q ⟨ρ,st,R,ok,w⟩ p hp=>
 w _ _ (Ext.laid hp) (zh3 ok hp) (New.val R (Is.dct_iff.mpr ⟨p,[],rfl,⟨zs2 ok hp,hp⟩,IsL.nil.mpr rfl,.inr ⟨[],rfl,rfl,zb4⟩⟩) g)
def wz1(neg:Bool)(k d:D):Option D:=match d with
 | .dct (.non::ks) vs=>(zc7 k).map λkk=>.bl (if neg then !(wp8 kk ks vs).isSome else (wp8 kk ks vs).isSome)
 | _=>none
def wa9{A:Addr->Prop}{H:Hp}{K:PySem.W.Frag}{k:D}{ks vs:List D}{kk:List Key}{v1 v2:V}(hk:zc7 k=some kk)(h1:Is K A H k v1)(h2:Is K A H (.dct (.non::ks) vs) v2) :
 ∃a o,v2=.ref a/\wu9 H a v1 o/\((wp8 kk ks vs=none/\o=none)\/∃d v,wp8 kk ks vs=some d/\o=some v/\Is K A H d v):=by
 obtain⟨b,eb,hb,_⟩:=zv1 hk h1;obtain⟨a,us,ea,_,i,q⟩:=Is.dct_iff.mp h2;rcases q with⟨k1,e1,_,_⟩ | ⟨k2,e2,el,eH⟩
 ·cases k1 with
  | nil=>cases e1
  | cons z r=>
    have:D.non=wx2 z:=(List.cons.inj e1).1;cases z<;>cases this
 ·have e3:ks=k2.map wp9:=(List.cons.inj e2).2
  subst e3 eb;refine⟨a,_,ea,wu9.t eH hb,?_⟩;rcases ya9 kk el i with⟨z1,z2⟩ | ⟨d,v,z1,z2,z3⟩
  ·exact .inl ⟨z1,z2⟩
  ·exact .inr ⟨d,v,z1,z2,z3⟩
open H in
def xi0{σ:St}{H:Hp}{Q:VK}{neg:Bool}(h:tD c g (f2 S (wz1 neg) fa fb) σ H Q):(λσ H Q=>tD c ga fa σ H λy H1=>tD c gb fb σ H1 λx H2=>∃a o,x=.ref a/\wu9 H2 a y o/\Q (.bl (if neg then !o.isSome else o.isSome)) H2) σ H Q:=by
 have hr:OpD c (λy x H2 Q=>∃a o,x=.ref a/\wu9 H2 a y o/\Q (.bl (if neg then !o.isSome else o.isSome)) H2) (wz1 neg):=by
  intro d1 d2 v1 v2 H st d Q ok z1 z2 e q;unfold wz1 at e;split at e
  ·rename_i ks vs
   cases hk:zc7 d1 with
   | none=>rw[hk] at e;cases e
   | some kk=>
     rw[hk] at e;cases e;obtain⟨a,o,ea,dg,ho⟩:=wa9 hk z1 z2;refine⟨a,o,ea,dg,?_⟩;have eo:o.isSome=(wp8 kk ks vs).isSome:=by
      rcases ho with⟨h1,h2⟩ | ⟨_,_,h1,h2,_⟩<;>rw[h1,h2]<;>rfl
     rw[eo];exact q _ H Ext.refl ok zu7
  ·cases e
 exact wx5 hr h
def wp0(hu:X.A.units+1<cLine)(ha:DE X c ga a fa)(hb:DE X c gb b fb)(hm:behindInMarks .In b=false:=by rfl):DE X c g (.Compare a [.In] [b] pos) (f2 S (wz1 false) fa fb):=
 (wl4 (xz7 hu ha hb) hm).imp λσ H Q q=>xi0 q
def xp7(hu:X.A.units+1<cLine)(ha:DE X c ga a fa)(hb:DE X c gb b fb)(hm:behindInMarks .In b=false:=by rfl):DT X c (.Compare a [.In] [b] pos) (fB S (f2 S (wz1 false) fa fb)):=
 (xz4 (xz7 hu ha hb) hm).imp λσ H Q q=>by
  have q':tB (tD c .R (f2 S (wz1 false) fa fb)) σ H Q:=yp7 q;exact xi0 (ga:=ga) (gb:=gb) q'
def va6(d k:D):Option D:=match d with
 | .dct (.non::ks) vs=>(zc7 k).bind λkk=>im (wp8 kk ks vs)
 | _=>none
open H in
def yo7(hu:X.A.units+1<cLine)(ha:DE X c ga a fa)(hb:DE X c gb b fb)(hs:vk0 b):DE X c g (.Subscript a b pos) (f2 S va6 fa fb):=by
 have hr:OpD c (λx y H2 Q=>∃a v,x=.ref a/\wu9 H2 a y (some v)/\Q v H2) va6:=by
  intro d1 d2 v1 v2 H st d Q ok z1 z2 e q;unfold va6 at e;split at e
  ·rename_i ks vs
   cases hk:zc7 d2 with
   | none=>rw[hk] at e;cases e
   | some kk=>
     rw[hk] at e;obtain⟨e,m⟩:=yh4 (show im (wp8 kk ks vs)=some d from e);obtain⟨a,o,ea,dg,ho⟩:=wa9 hk z2 z1;rcases ho with⟨h1,h2⟩ | ⟨d',v,h1,h2,h3⟩
     ·rw[e] at h1;cases h1
     ·rw[e] at h1;cases h1
      subst h2;exact⟨a,v,ea,dg,q v H Ext.refl ok (New.imm m h3)⟩
  ·cases e
 exact(zx3 hu ha hb hs).imp λσ H Q q=>wx5 hr q
end
def ws0(k:List Key)(v:D)(ks vs:List D):List D×List D:=
 if (wp8 k ks vs).isSome=true then (ks,List.zipWith (λd u=>if zc7 d=some k then v else u) ks vs) else (ks++[wp9 k],vs++[v])
section
variable{K:PySem.W.Frag}{A:Addr->Prop}{H:Hp}
theorem xj1(hd:Is K A H d v):∀{kk:List (List Key)} {vs:List D} {us:List V},kk.length=us.length->IsL K A H vs us->
 ∃us',IsL K A H (List.zipWith (λx u=>if zc7 x=some k then d else u) (kk.map wp9) vs) us'/\kk.length=us'.length/\(kk.zip us).map (λkv=>if kv.1=k then (kv.1,v) else kv)=kk.zip us'
 | [],vs,us,hl,h=>⟨[],by simpa using IsL.nil.mpr rfl,rfl,rfl⟩
 | x::kk,vs,us,hl,h=>by
   cases vs with
   | nil=>rw[IsL.nil.mp h] at hl;cases hl
   | cons e vs=>
     obtain⟨u,r,e1,i1,i2⟩:=IsL.cons.mp h;subst e1;obtain⟨us',g1,g2,g3⟩:=xj1 hd (kk:=kk) (by simpa using hl) i2;by_cases z:x=k
     ·refine⟨v::us',?_,by simp[g2],?_⟩
      ·show IsL K A H ((if zc7 (wp9 x)=some k then d else e)::_) _
       rw[zh4,if_pos (by rw[z])];exact IsL.cons.mpr ⟨v,us',rfl,hd,g1⟩
      ·show (if x=k then (x,v) else (x,u))::_=(x,v)::kk.zip us'
       rw[if_pos z,<-g3];rfl
     ·refine⟨u::us',?_,by simp[g2],?_⟩
      ·show IsL K A H ((if zc7 (wp9 x)=some k then d else e)::_) _
       rw[zh4,if_neg (λq=>z (Option.some.inj q))];exact IsL.cons.mpr ⟨u,us',rfl,i1,g1⟩
      ·show (if x=k then (x,v) else (x,u))::_=(x,u)::kk.zip us'
       rw[if_neg z,<-g3];rfl
def xq8{k:List Key}{d:D}{v:V}(hd:Is K A H d v){kk:List (List Key)}{vs:List D}{us:List V}(hl:kk.length=us.length)(h:IsL K A H vs us) :
 ∃(kk':List (List Key)) (us':List V),(ws0 k d (kk.map wp9) vs).1=kk'.map wp9/\IsL K A H (ws0 k d (kk.map wp9) vs).2 us'/\kk'.length=us'.length/\wt2 (kk.zip us) k v=kk'.zip us':=by
 have hv:=ya9 k hl h;unfold ws0 wt2;rw[zy7];rcases hv with⟨z1,z2⟩ | ⟨d',v',z1,z2,_⟩
 ·rw[z1,z2]
  refine⟨kk++[k],us++[v],?_,?_,?_,?_⟩
  ·simp
  ·simpa using h.append (IsL.one hd)
  ·simp[hl]
  ·simp[List.zip_append hl]
 ·rw[z1,z2]
  obtain⟨us',g1,g2,g3⟩:=xj1 (k:=k) hd hl h;exact⟨kk,us',rfl,g1,g2,g3⟩
end
theorem xa8(hd:d.imm=true):∀{ks vs:List D},D.immL vs=true->D.immL (List.zipWith (λx u=>if zc7 x=some k then d else u) ks vs)=true
 | [],vs,_=>by simp[D.immL]
 | x::ks,[],_=>by simp[D.immL]
 | x::ks,v::vs,h=>by
   have h':v.imm=true/\D.immL vs=true:=by simpa [D.immL] using h
   show (D.imm (if zc7 x=some k then d else v)&&D.immL _)=true;rw[xa8 hd h'.2];by_cases z:zc7 x=some k
   ·rw[if_pos z,hd];rfl
   ·rw[if_neg z,h'.1];rfl
def yh3(hd:d.imm=true)(h:D.immL vs=true):D.immL (ws0 k d ks vs).2=true:=by
 unfold ws0;split
 ·exact xa8 hd h
 ·exact zh5 h (by simp[D.immL,hd])
section
variable{X:Cx}{S:Type}{W:Wd S}{c:Dx W}{g ga gb:Gr}{a b:Expr}{fk fv:Fn S}{i:Nat}
def wr6(ρ:Rho)(i:Nat):Option (List D×List D):=match ρ[i]? with
 | some (.own (.dct (.non::ks) vs))=>if D.immL vs=true then some (ks,vs) else none
 | _=>none
def yl2(h:wr6 ρ i=some (ks,vs)):ρ[i]?=some (.own (.dct (.non::ks) vs))/\D.immL vs=true:=by
 unfold wr6 at h;split at h
 ·split at h
  ·cases h;exact⟨by assumption,by assumption⟩
  ·cases h
 ·cases h
def xz0(S:Type)(i:Nat)(fk fv:Fn S):FnS S:=λρ st=>(fv ρ st).bind λv st1=>match wr6 ρ i with
 | some (ks,vs)=>(fk ρ st1).bind λk st2=>match zc7 k with
   | some kk=>if v.imm=true/\ks.length<sizeLine then .ok (.nx (ρ.set i (.own (.dct (.non::(ws0 kk v ks vs).1) (ws0 kk v ks vs).2)))) st2 else .bad
   | none=>.bad
 | none=>.bad
def zq1{x:Str}{k value:Expr}{p1 p2 pos:Pos}(hu:X.A.units+1<cLine)(hx:PE X (.Name x p1) (wu2 i))(hk:DE X c ga k fk)(hv:DE X c gb value fv)(hs:swapsWith value (some (.Subscript (.Name x p1) k p2)) pos.line X.env=pure false:=by rfl) :
 DS X c (.Assign [.Subscript (.Name x p1) k p2] value pos) (xz0 S i fk fv):=
 (xj7 hu hx hk hv hs).imp λD σ H q=>by
  refine zh1 (zx0 (g:=gb) (k:=λv ρ st1=>match wr6 ρ i with
   | some (ks,vs)=>(fk ρ st1).bind λk st2=>match zc7 k with
     | some kk=>if v.imm=true/\ks.length<sizeLine then .ok (.nx (ρ.set i (.own (.dct (.non::(ws0 kk v ks vs).1) (ws0 kk v ks vs).2)))) st2 else .bad
     | none=>.bad
   | none=>.bad) q) λv H1 hh=>?_
  obtain⟨ρ,d,st0,st1,R,ok,R1,ok1,e1,z,w⟩:=hh;cases hd:wr6 ρ i with
  | none=>simp only[hd] at w;exact(show False from w).elim
  | some kv=>
    obtain⟨ks,vs⟩:=kv;simp only[hd] at w;obtain⟨ho,im⟩:=yl2 hd;obtain⟨ad,ea,nn,f0,us0,_⟩:=R1.slot i _ ho;refine⟨.ref ad,zf7 ea,ρ,st1,R1,ok1,za6 (za3.mp w) (λdk st2 q2 vk H2 e2 ok2 zk=>?_) λx st2 q2 H2 e2 ok2=>q2 H2 ((e1.trans e2).f0 R) ok2⟩;cases hkk:zc7 dk with
    | none=>simp only[hkk] at q2;exact(show False from q2).elim
    | some kk=>
      simp only[hkk] at q2;by_cases hc:d.imm=true/\ks.length<sizeLine
      ·rw[if_pos hc] at q2
       have R2:=R1.ext ok1 e2;obtain⟨ad',ea',nn',f0',us,iu,hq⟩:=R2.slot i _ ho;have:ad'=ad:=by
        have:=(zf7 ea').symm.trans (zf7 ea);cases this;rfl
       subst this;obtain⟨bk,ebk,hbk,_⟩:=zv1 hkk (show Is c.K (λb=>¬W.mv b) H2 dk vk from zk.toR);have zv:Is c.K (Av c σ ρ) H2 d v:=Is.ofImm hc.1 (z.toR.ext e2 ok1);rcases hq with⟨k1,x1,_,_⟩ | ⟨k2,x2,el,eH⟩
       ·cases k1 with
        | nil=>cases x1
        | cons y r=>
          have:L2.D.non=wx2 y:=(List.cons.inj x1).1;cases y<;>cases this
       ·have e3:ks=k2.map wp9:=(List.cons.inj x2).2
        subst e3;obtain⟨kk',us',g1,g2,g3,g4⟩:=xq8 (k:=kk) zv el iu;have hz:(k2.zip us).length<sizeLine:=by
         rw[List.length_zip,<-el,Nat.min_self];have:=hc.2;rw[Aa0] at this;exact this
        have dp:=vd6.t (v:=v) eH hbk hz;rw[g4] at dp;subst ebk;refine⟨ad',_,rfl,dp,?_⟩;obtain⟨R3,F3⟩:=R2.wr (d':=.dct (.non::(ws0 kk d (k2.map wp9) vs).1) (ws0 kk d (k2.map wp9) vs).2) (o:=.dT (kk'.zip us')) ho (zf7 ea') ⟨(λu z=>by cases z),(λob u z=>by cases z)⟩
         λkt=>⟨us',g2.mono kt,.inr ⟨kk',by rw[g1],g3,zb4⟩⟩
        exact q2 σ _ ((e1.trans e2).frm.trans F3) (zw6 ok2 nn.1) R3
      ·rw[if_neg hc] at q2;exact(show False from q2).elim
end
section
variable{X:Cx}{S:Type}{W:Wd S}{c:Dx W}{g ga gb:Gr}
def yz3(K:PySem.W.Frag):R2:=λx y H Q=>∃a b ys,x=.ref a/\y=.ref b/\SqT K H a []/\SqT K H b ys/\Q (.ref b) H
def xv6:OpR X (binaryOp .Add) (yz3 X.K):=by
 intro A3 s σ H x y v u Q I rx ry h;obtain⟨a,b,ys,rfl,rfl,ha,hb,q⟩:=h;cases rx;cases ry;obtain⟨its,r1,p1,_⟩:=I.tuple ha;obtain⟨its2,r2,p2,_⟩:=I.tuple hb;cases r1;obtain⟨⟨cls,dd,data,sl⟩,ho,hc,n,hd⟩:=id p1;obtain⟨⟨cls2,dd2,data2,sl2⟩,ho2,hc2,n2,hd2⟩:=id p2;simp only at hc hd hc2 hd2;subst hc hd hc2 hd2;exact concat_meets ⟨_,ho,rfl⟩ ⟨_,ho2,rfl⟩ noFill_tuple_add seq_tuple_add PySem.F.slot_tuple_add PySem.F.entry_tuple_add (PySem.F.args_tuple_add_2 _ _) (tuple_addW0 a b _ its2.toArray n n2 dd dd2 sl sl2 rfl) ⟨ho,ho2,⟨.ref b,H,I,rfl,q⟩⟩
def xa1:D->D->Option D
 | .tup [],.tup m=>if D.immL m=true then some (.tup m) else none
 | _,_=>none
open H in
def xv8{K:PySem.W.Frag}:OpD c (yz3 K) xa1:=by
 intro d1 d2 v1 v2 H st d Q ok z1 z2 e q;unfold xa1 at e;split at e
 ·rename_i m
  split at e
  ·rename_i im
   cases e;obtain⟨a,vs,ea,s1,i1⟩:=Is.tup_iff.mp z1;obtain⟨b,us,eb,s2,i2⟩:=Is.tup_iff.mp z2;rw[IsL.nil.mp i1] at s1;refine⟨a,b,us,ea,eb,.of s1,.of s2,?_⟩;rw[<-eb];exact q _ H Ext.refl ok (Is.ofImm (by show D.immL m=true;exact im) z2)
  ·cases e
 ·cases e
def vi2(S:Type)(i:Nat)(fk fv:Fn S):FnS S:=λρ st=>(fv ρ st).bind λv st1=>match wq5 ρ i with
 | some l=>(fk ρ st1).bind λk st2=>match k with
   | .int j=>match ixN l.length j with
     | some n=>if v.imm=true then .ok (.nx (ρ.set i (.own (.lst (l.set n v))))) st2 else .bad
     | none=>.bad
   | _=>.bad
 | none=>.bad
def xg6{x:Str}{i:Nat}(hx:PE X (.Name x p1) (wu2 i))(hk:DE X c ga k fk)(hv:DE X c gb value fv)(h:∀{tk tv:TE},PE X k tk->PE X value tv->PS X (.Assign [.Subscript (.Name x p1) k p2] value pos) (ve5 tv (vd7 (wu2 i) tk ww6))):DS X c (.Assign [.Subscript (.Name x p1) k p2] value pos) (vi2 S i fk fv):=
 (h hk hv).imp λD σ H q=>by
  refine zh1 (zx0 (g:=gb) (k:=λv ρ st1=>match wq5 ρ i with
   | some l=>(fk ρ st1).bind λk st2=>match k with
     | .int j=>match ixN l.length j with
       | some n=>if v.imm=true then .ok (.nx (ρ.set i (.own (.lst (l.set n v))))) st2 else .bad
       | none=>.bad
     | _=>.bad
   | none=>.bad) q) λv H1 hh=>?_
  obtain⟨ρ,d,st0,st1,R,ok,R1,ok1,e1,z,w⟩:=hh;cases hd:wq5 ρ i with
  | none=>simp only[hd] at w;exact(show False from w).elim
  | some l=>
    simp only[hd] at w;obtain⟨ad,vs,ea,eH,zz,nm⟩:=R1.lstAt hd;refine⟨.ref ad,ea,ρ,st1,R1,ok1,za6 (za3.mp w) (λdk st2 q2 vk H2 e2 ok2 zk=>?_) λx st2 q2 H2 e2 ok2=>q2 H2 ((e1.trans e2).f0 R) ok2⟩;cases dk with
    | int j=>
      have zj:vk=.int j:=Is.int_iff.mp (show Is c.K (λb=>¬W.mv b) H2 (.int j) vk from zk.toR);cases hn:ixN l.length j with
      | none=>simp only[hn] at q2;exact(show False from q2).elim
      | some n=>
        simp only[hn] at q2;by_cases hc:d.imm=true
        ·rw[if_pos hc] at q2
         have R2:=R1.ext ok1 e2;have eH2:=e2 ad _ eH nm;have z2:IsL c.K (Av c σ ρ) H2 l vs:=zz.mono (e2.keepT ok1 λb a=>⟨a.1,a⟩);have zv:Is c.K (Av c σ ρ) H2 d v:=Is.ofImm hc (z.toR.ext e2 ok1);refine⟨ad,vs,j,n,rfl,zj,eH2,by rw[<-z2.length];exact hn,?_⟩;obtain⟨R3,F3⟩:=R2.wr (d':=.lst (l.set n d)) (o:=.lst (vs.set n v)) (zn9 hd) ea ⟨(λu z=>by cases z),(λob u z=>by cases z)⟩ λkt=>⟨_,zb4,(z2.set n zv).mono kt⟩
         exact q2 σ _ ((e1.trans e2).frm.trans F3) (zw6 ok2 nm) R3
        ·rw[if_neg hc] at q2;exact(show False from q2).elim
    | _=>exact(show False from q2).elim
end
end L2
namespace PySem
structure Wlk(prog:Program)(w:World)(it l:Addr)(xs:List Value)(P:Nat->Heap->Prop):Prop where
 keep:∀k h h',P k h->(∀b o,b=it\/b=l->h.get? b=some o->h'.get? b=some o)->P k h'
 item:∀(A:Around) (E:Value->Shared->Prop) (s:Shared) (k:Nat) (x:Value) (Q:Value->Shared->Prop),P k s.heap->xs[k]?=some x->
  (∀h',P (k+1) h'->Heap.SameBut it s.heap h'->Q x { s with heap:=h' })->wpAny (model prog w) A (Builtin.SmallTypes.nextOf (.ref it)) Q E s
 stop:∀(A:Around) (E:Value->Shared->Prop) (s:Shared) (k:Nat) (Q:Value->Shared->Prop),A.handled=none->P k s.heap->xs[k]?=none->
  (∀h' e,Heap.ExtBut it s.heap h'->(∃o,h'.get? e=some o/\o.cls=.type "StopIteration")->E (.ref e) { s with heap:=h' })->wpAny (model prog w) A (Builtin.SmallTypes.nextOf (.ref it)) Q E s
section
variable{prog:Program}{w:World}{it l:Addr}{xs:List Value}
def Wlk.tup(hne:it≠l):Wlk prog w it l xs (λk h=>h.IsTupleIter it l k/\h.IsTuple l xs.toArray) where
 keep:=λk h h' ⟨a,b⟩ q=>⟨a.at λo e=>q it o (.inl rfl) e,by
  obtain⟨o,ho,r⟩:=b;exact⟨o,q l o (.inr rfl) ho,r⟩⟩
 item:=λA E s k x Q ⟨a,b⟩ hx hQ=>zq8 a b (by simpa using hx) λh' a' sb=>hQ h' ⟨a',by
  obtain⟨o,ho,r⟩:=b;exact⟨o,sb.extBut l o hne.symm ho,r⟩⟩ sb
 stop:=λA E s k Q hh ⟨a,b⟩ hx hE=>zt5 hh a b (by simpa using hx) hE
def Wlk.lst(hne:it≠l):Wlk prog w it l xs (λk h=>h.IsListIter it l k/\h.IsList l xs.toArray) where
 keep:=λk h h' ⟨a,b⟩ q=>⟨a.at λo e=>q it o (.inl rfl) e,b.at λo e=>q l o (.inr rfl) e⟩
 item:=λA E s k x Q ⟨a,b⟩ hx hQ=>wpAny_nextOf_list_item a b (by simpa using hx) λh' a' sb=>hQ h' ⟨a',b.extBut sb.extBut hne.symm⟩ sb
 stop:=λA E s k Q hh ⟨a,b⟩ hx hE=>wpAny_nextOf_list_end hh a b (by simpa using hx) hE
end
section
variable{prog:Program}{w:World}{A:Around}{E:Value->Shared->Prop}{s:Shared}{z TI TO i1 i2 l1 l2:Addr}{xs ys:List Value}{P1 P2:Nat->Heap->Prop}{k:Nat}{x y a b:Value}
structure ZAp(z TI TO i1 i2 l1 l2:Addr):Prop where
 zTI:z≠TI
 zTO:z≠TO
 z1:z≠i1
 z2:z≠i2
 io:TI≠TO
 I1:TI≠i1
 I2:TI≠i2
 O1:TO≠i1
 O2:TO≠i2
 ii:i1≠i2
 lz1:l1≠z
 lo1:l1≠TO
 li1:l1≠i2
 lz2:l2≠z
 lo2:l2≠TO
 li2:l2≠i1
def Wlk.ext(W:Wlk prog w it l xs P){k:Nat}(p:P k h)(e:Heap.ExtBut c h h')(n1:it≠c)(n2:l≠c):P k h':=
 W.keep k h h' p λb o hb q=>by
  rcases hb with r | r
  ·subst r;exact e _ o n1 q
  ·subst r;exact e _ o n2 q
def xs4{Q:Value->Shared->Prop}(W1:Wlk prog w i1 l1 xs P1)(W2:Wlk prog w i2 l2 ys P2)(D:ZAp z TI TO i1 i2 l1 l2)(hz:IsZip s.heap z TI TO .none)(hTI:IsPair s.heap TI (.ref i1) (.ref i2))(hTO:IsPair s.heap TO a b)(p1:P1 k s.heap)(p2:P2 k s.heap)(hx:xs[k]?=some x)(hy:ys[k]?=some y)(hQ:∀h',IsZip h' z TI TO (rawInt s.heap.objs.size)->IsPair h' TO x y->P1 (k+1) h'->P2 (k+1) h'->IsPair h' s.heap.objs.size x y->h'.objs.size=s.heap.objs.size+1->
  (∀c o,c∉[z,TO,i1,i2]->s.heap.get? c=some o->h'.get? c=some o)->Q (.ref s.heap.objs.size) { s with heap:=h' }) :
 wpAny (model prog w) A (Builtin.«zip.__next__» ⟨[.ref z],[]⟩) (λfin s'=>∃v,fin=.done (.ret v)/\Q v s') E s:=by
 show wpAny (model prog w) A (field (.ref z) 2 >>= λ_=>_) _ _ s;refine Aa1 (Ae1 hz rfl (x:=.bool false) rfl ?_);show wpAny (model prog w) A (field (.ref z) 3 >>= λ_=>_) _ _ s;refine Aa1 (Ae1 hz rfl (x:=.ref TI) rfl (Aa1 (Ak1 hTI rfl ?_)));show wpAny (model prog w) A (Builtin.SmallTypes.ownedTupleIsFree (.ref z) >>= λ_=>_) _ _ s;refine Aa1 ?_;unfold Builtin.SmallTypes.ownedTupleIsFree;refine Aa1 (Ae1 hz rfl (x:=.none) rfl (Ac1 ?_));rw[if_pos rfl];refine Aa1 (Ai1 (Aa1 (Ae1 hz rfl (x:=.ref TO) rfl (Aa1 (Af1 hz (by simp) λg1 z1 c1=>?_)))));have z1:IsZip g1 z TI TO .ellipsis:=z1;have c1:Heap.SameBut z s.heap g1:=c1;refine Aa1 ?_;simp only[List.zipIdx_cons,List.zipIdx_nil,List.forIn_cons,List.forIn_nil];refine Aa1 (Aa1 (wpAny_onRaise ?_));show wpAny (model prog w) _ (Builtin.SmallTypes.nextOf (.ref i1) >>= λ_=>_) _ _ _;refine Aa1 (W1.item _ _ _ k x _ (W1.ext p1 c1.extBut D.z1.symm D.lz1) hx λg2 q1 c2=>Ac1 ?_);have c2:Heap.SameBut i1 g1 g2:=c2;have t2:IsPair g2 TO a b:=c2.extBut _ _ D.O1 (c1.extBut _ _ D.zTO.symm hTO);refine Aa1 (Ak1 t2 rfl (Aa1 (wpAny_updateSeq_pair t2 λg3 t3 c3=>?_)));have t3:IsPair g3 TO x b:=t3;have c3:Heap.SameBut TO g2 g3:=c3;refine Aa1 (wpAny_letGo (Ac1 (Aa1 (Aa1 (wpAny_onRaise ?_)))));show wpAny (model prog w) _ (Builtin.SmallTypes.nextOf (.ref i2) >>= λ_=>_) _ _ _;have p2':P2 k g3:=W2.ext (W2.ext (W2.ext p2 c1.extBut D.z2.symm D.lz2) c2.extBut D.ii.symm D.li2) c3.extBut D.O2.symm D.lo2;refine Aa1 (W2.item _ _ _ k y _ p2' hy λg4 q2 c4=>Ac1 ?_);have c4:Heap.SameBut i2 g3 g4:=c4;have t4:IsPair g4 TO x b:=c4.extBut _ _ D.O2 t3;refine Aa1 (Ak1 t4 rfl (Aa1 (wpAny_updateSeq_pair t4 λg5 t5 c5=>?_)));have t5:IsPair g5 TO x y:=t5;have c5:Heap.SameBut TO g4 g5:=c5;refine Aa1 (wpAny_letGo (Ac1 (Ac1 (Aa1 (Ak1 t5 rfl (Aa1 (wpAny_newTuple ?_)))))));have sz:g5.objs.size=s.heap.objs.size:=by rw[c5.1,c4.1,c3.1,c2.1,c1.1]
 have k5:∀c o,c∉[z,TO,i1,i2]->s.heap.get? c=some o->g5.get? c=some o:=λc o n e=>by
  simp only[Aj0,Ao0,or_false,not_or] at n;exact c5.extBut _ _ n.2.1 (c4.extBut _ _ n.2.2.2 (c3.extBut _ _ n.2.1 (c2.extBut _ _ n.2.2.1 (c1.extBut _ _ n.1 e))))
 have z5:IsZip g5 z TI TO .ellipsis:=c5.extBut _ _ D.zTO (c4.extBut _ _ D.z2 (c3.extBut _ _ D.zTO (c2.extBut _ _ D.z1 z1)));have r1:P1 (k+1) g5:=W1.ext (W1.ext (W1.ext q1 c3.extBut D.O1.symm D.lo1) c4.extBut D.ii D.li1) c5.extBut D.O1.symm D.lo1;have r2:P2 (k+1) g5:=W2.ext q2 c5.extBut D.O2.symm D.lo2;show wpAny (model prog w) A (Builtin.SmallTypes.ownedTupleHandOut (.ref z) (.ref g5.objs.size) >>= λ_=>_) _ _ _;refine Aa1 ?_;unfold Builtin.SmallTypes.ownedTupleHandOut;have z6:IsZip (g5.push { cls:=.type "tuple",data:=.seq #[x,y] }) z TI TO .ellipsis:=Ab0 _ z5;have lt:z<g5.objs.size:=Heap.lt_size z5;have n5:(g5.push { cls:=.type "tuple",data:=.seq #[x,y] }).get? g5.objs.size=some { cls:=.type "tuple",data:=.seq #[x,y] }:=Ad0 _ rfl;refine Aa1 (Af1 z6 (by simp) λg7 z7 c7=>?_);have z7:IsZip g7 z TI TO (rawInt g5.objs.size):=z7;have c7:Heap.SameBut z (g5.push { cls:=.type "tuple",data:=.seq #[x,y] }) g7:=c7;refine Af1 z7 (by simp) λg8 z8 c8=>Ac1 ⟨_,rfl,?_⟩
 have z8:IsZip g8 z TI TO (rawInt g5.objs.size):=z8;have c8:Heap.SameBut z g7 g8:=c8;have up:∀c o,c≠z->g5.get? c=some o->g8.get? c=some o:=λc o n e=>c8.extBut _ _ n (c7.extBut _ _ n (Ab0 _ e))
 have ex:Heap.ExtBut z g5 g8:=λc o n e=>up c o n e
 have t8:IsPair g8 g5.objs.size x y:=c8.extBut _ _ (Nat.ne_of_gt lt) (c7.extBut _ _ (Nat.ne_of_gt lt) n5);have s8:g8.objs.size=g5.objs.size+1:=by rw[c8.1,c7.1,Bm0]
 show Q (.ref g5.objs.size) _;rw[sz] at z8 t8 s8 ⊢;exact hQ g8 z8 (up _ _ D.zTO.symm t5) (W1.ext r1 ex D.z1.symm D.lz1) (W2.ext r2 ex D.z2.symm D.lz2) t8 s8 λc o n e=>up c o (λh=>n (by simp[h])) (k5 c o n e)
theorem xs5(hh:A.handled=none)(W1:Wlk prog w i1 l1 xs P1)(W2:Wlk prog w i2 l2 ys P2)(D:ZAp z TI TO i1 i2 l1 l2)(hz:IsZip s.heap z TI TO .none)(hTI:IsPair s.heap TI (.ref i1) (.ref i2))(hTO:IsPair s.heap TO a b)(p1:P1 k s.heap)(p2:P2 k s.heap)(hend:xs[k]?=none\/ys[k]?=none)(hE:∀h' e,(∀c o,c∉[z,TO,i1,i2]->s.heap.get? c=some o->h'.get? c=some o)->(∃o,h'.get? e=some o/\o.cls=.type "StopIteration")->E (.ref e) { s with heap:=h' }) :
 wpAny (model prog w) A (Builtin.«zip.__next__» ⟨[.ref z],[]⟩) Q E s:=by
 have nz:∀{h:Heap} {e:Addr} {f0:Value} {o:Obj},IsZip h z TI TO f0->h.get? e=some o->o.cls=.type "StopIteration"->e≠z:=λ{h e f0 o} q1 q2 q3 q4=>by
  subst q4;rw[q1] at q2;cases q2;simp at q3
 show wpAny (model prog w) A (field (.ref z) 2 >>= λ_=>_) _ _ s;refine Aa1 (Ae1 hz rfl (x:=.bool false) rfl ?_);show wpAny (model prog w) A (field (.ref z) 3 >>= λ_=>_) _ _ s;refine Aa1 (Ae1 hz rfl (x:=.ref TI) rfl (Aa1 (Ak1 hTI rfl ?_)));show wpAny (model prog w) A (Builtin.SmallTypes.ownedTupleIsFree (.ref z) >>= λ_=>_) _ _ s;refine Aa1 ?_;unfold Builtin.SmallTypes.ownedTupleIsFree;refine Aa1 (Ae1 hz rfl (x:=.none) rfl (Ac1 ?_));rw[if_pos rfl];refine Aa1 (Ai1 (Aa1 (Ae1 hz rfl (x:=.ref TO) rfl (Aa1 (Af1 hz (by simp) λg1 z1 c1=>?_)))));have z1:IsZip g1 z TI TO .ellipsis:=z1;have c1:Heap.SameBut z s.heap g1:=c1;refine Aa1 ?_;simp only[List.zipIdx_cons,List.zipIdx_nil,List.forIn_cons,List.forIn_nil];refine Aa1 (Aa1 (wpAny_onRaise ?_));show wpAny (model prog w) _ (Builtin.SmallTypes.nextOf (.ref i1) >>= λ_=>_) _ _ _;have p1':P1 k g1:=W1.ext p1 c1.extBut D.z1.symm D.lz1;cases hx:xs[k]? with
 | none=>
   refine Aa1 (W1.stop _ _ _ k _ hh p1' hx λg2 e c2 he=>?_);obtain⟨oe,ho,hc⟩:=he;have z2:IsZip g2 z TI TO .ellipsis:=c2 _ _ D.z1 z1;refine Af1 z2 (by simp) λg3 _ c3=>hE g3 e (λc o n q=>?_) ⟨oe,c3.extBut _ _ (nz z2 ho hc) ho,hc⟩
   simp only[Aj0,Ao0,or_false,not_or] at n;exact c3.extBut _ _ n.1 (c2 _ _ n.2.2.1 (c1.extBut _ _ n.1 q))
 | some x=>
   have hy:ys[k]?=none:=by
    rcases hend with h | h
    ·rw[hx] at h;cases h
    ·exact h
   refine Aa1 (W1.item _ _ _ k x _ p1' hx λg2 q1 c2=>Ac1 ?_);have c2:Heap.SameBut i1 g1 g2:=c2;have t2:IsPair g2 TO a b:=c2.extBut _ _ D.O1 (c1.extBut _ _ D.zTO.symm hTO);refine Aa1 (Ak1 t2 rfl (Aa1 (wpAny_updateSeq_pair t2 λg3 t3 c3=>?_)));have c3:Heap.SameBut TO g2 g3:=c3;refine Aa1 (wpAny_letGo (Ac1 (Aa1 (Aa1 (wpAny_onRaise ?_)))));show wpAny (model prog w) _ (Builtin.SmallTypes.nextOf (.ref i2) >>= λ_=>_) _ _ _;have p2':P2 k g3:=W2.ext (W2.ext (W2.ext p2 c1.extBut D.z2.symm D.lz2) c2.extBut D.ii.symm D.li2) c3.extBut D.O2.symm D.lo2;refine Aa1 (W2.stop _ _ _ k _ hh p2' hy λg4 e c4 he=>?_);obtain⟨oe,ho,hc⟩:=he;have z4:IsZip g4 z TI TO .ellipsis:=c4 _ _ D.z2 (c3.extBut _ _ D.zTO (c2.extBut _ _ D.z1 z1));refine Af1 z4 (by simp) λg5 _ c5=>hE g5 e (λc o n q=>?_) ⟨oe,c5.extBut _ _ (nz z4 ho hc) ho,hc⟩
   simp only[Aj0,Ao0,or_false,not_or] at n;exact c5.extBut _ _ n.1 (c4 _ _ n.2.2.2 (c3.extBut _ _ n.2.1 (c2.extBut _ _ n.2.2.1 (c1.extBut _ _ n.1 q))))
end
def zO(nm:String)(l:Addr):Obj:={ cls:=.type nm,data:=.fields #[.ref l,.int 0 0] }
section
variable{prog:Program}{w:World}{A:Around}{E:Value->Shared->Prop}{s:Shared}
end
end PySem
namespace L2
def Izp(Sq:Hp->List V->List V->Prop):It:=
 ⟨λi H=>∃xs ys x y,Sq H xs ys/\xs[i]?=some x/\ys[i]?=some y,λi H v H'=>∃p x y,H p=none/\v=.ref p/\H'=upd H p (.tup [x,y])/\∀xs ys,Sq H xs ys->xs[i]?=some x/\ys[i]?=some y,λi H=>∃xs ys,Sq H xs ys/\(xs.length<=i\/ys.length<=i)⟩
structure ZW(P:Program)(w:World)(K:PySem.W.Frag)(l1 l2 i1 i2:Addr)(Sq:Hp->List V->List V->Prop)(T1 T2:Nat->Heap->Prop):Prop where
 obj:∀k h,(T1 k h->∃o,h.get? i1=some o/\∀v,o.data≠.cell v)/\(T2 k h->∃o,h.get? i2=some o/\∀v,o.data≠.cell v)
 keep:∀k h h',(T1 k h->(∀o,h.get? i1=some o->h'.get? i1=some o)->T1 k h')/\(T2 k h->(∀o,h.get? i2=some o->h'.get? i2=some o)->T2 k h')
 there:∀H xs ys,Sq H xs ys->H l1≠none/\H l2≠none
 vals:∀(X:Cx),X.K=K->∀A3 σ H s xs ys,Inv X A3 σ H s->Sq H xs ys->i1≠l1->i2≠l2->∃us vs,wq4 xs us/\wq4 ys vs/\(∀xs' ys',Sq H xs' ys'->xs'=xs/\ys'=ys)/\∃P1 P2:Nat->Heap->Prop,Wlk P w i1 l1 us P1/\Wlk P w i2 l2 vs P2/\
  (∀k,T1 k s.heap->P1 k s.heap)/\(∀k,T2 k s.heap->P2 k s.heap)/\∀k h,(P1 k h->T1 k h)/\(P2 k h->T2 k h)
def nd5(h:[a,b,c,d,e].Nodup):(a≠b/\a≠c/\a≠d/\a≠e)/\(b≠c/\b≠d/\b≠e)/\(c≠d/\c≠e)/\d≠e:=by
 simpa only[Bi0,Aj0,Ao0,or_false,not_or,List.nodup_nil,and_true,not_false_eq_true] using h
def vs5(h:x∈[a,b,c,d,e]):x=a\/x=b\/x=c\/x=d\/x=e:=by
 simpa only[Aj0,Ao0,or_false] using h
def nm5(h:x∉[a,b,c,d,e]):x≠a/\x∉[a,c,d,e]:=by
 simp only[Aj0,Ao0,or_false,not_or] at h ⊢;exact⟨h.1,h.1,h.2.2⟩
def nm4(h1:x≠a)(h2:x≠b)(h3:x≠c)(h4:x≠d):x∉[a,b,c,d]:=by
 simp only[Aj0,Ao0,or_false,not_or];exact⟨h1,h2,h3,h4⟩
def vo5(h:x∈[a,c,d,e]):x∈[a,b,c,d,e]:=by
 simp only[Aj0,Ao0,or_false] at h ⊢;rcases h with r | r | r | r
 ·exact .inl r
 ·exact .inr (.inr (.inl r))
 ·exact .inr (.inr (.inr (.inl r)))
 ·exact .inr (.inr (.inr (.inr r)))
open H in
def yz0{P:Program}{w:World}{K:PySem.W.Frag}{elts:List Expr}{x1}{pos:Pos}{l1 l2 z TI TO i1 i2:Addr}{Sq:Hp->List V->List V->Prop}{T1 T2:Nat->Heap->Prop}(Z:ZW P w K l1 l2 i1 i2 Sq T1 T2)(nd:[z,TI,TO,i1,i2].Nodup):vd9 P w K (.Tuple elts x1 pos) (Izp Sq) [z,TI,TO,i1,i2] z (λi h=>IsZip h z TI TO .none/\IsPair h TI (.ref i1) (.ref i2)/\(∃a b,IsPair h TO a b)/\T1 i h/\T2 i h) where
 mem:=by simp
 obj:=λi h st b hb=>by
  obtain⟨h1,h2,⟨_,_,h3⟩,h4,h5⟩:=st;have nc:∀{d:Data} {v:Option Value},d=Data.cell v->(∃u,d=.fields u)\/(∃u n,d=.seq u n)->False:=λe q=>by
   subst e;rcases q with⟨u,q⟩ | ⟨u,n,q⟩<;>cases q
  have hb:=vs5 hb;rcases hb with r | r | r | r | r
  ·subst r;exact⟨_,h1,λv e=>nc (v:=v) e (.inl ⟨_,rfl⟩)⟩
  ·subst r;exact⟨_,h2,λv e=>nc (v:=v) e (.inr ⟨_,_,rfl⟩)⟩
  ·subst r;exact⟨_,h3,λv e=>nc (v:=v) e (.inr ⟨_,_,rfl⟩)⟩
  ·subst r;exact(Z.obj i h).1 h4
  ·subst r;exact(Z.obj i h).2 h5
 keep:=λi h h' st q=>by
  obtain⟨h1,h2,⟨a,b,h3⟩,h4,h5⟩:=st;exact⟨q _ (by simp) _ h1,q _ (by simp) _ h2,⟨a,b,q _ (by simp) _ h3⟩,(Z.keep i h h').1 h4 λo e=>q _ (by simp) o e,(Z.keep i h h').2 h5 λo e=>q _ (by simp) o e⟩
 item:=by
  intro X hP hw hK hc i A3 s σ H E I hf st hg;subst hP hw;obtain⟨xs,ys,x,y,hq,hx,hy⟩:=hg;obtain⟨h1,h2,⟨a,b,h3⟩,h4,h5⟩:=st;obtain⟨n1,n2⟩:=Z.there H xs ys hq;have no:∀c∈[z,TI,TO,i1,i2],l1≠c/\l2≠c:=λc hb=>⟨λe=>n1 (by rw[e];exact(hf c hb).1),λe=>n2 (by rw[e];exact(hf c hb).1)⟩
  obtain⟨us,vs,ru,rv,inj,P1,P2,W1,W2,p1,p2,pt⟩:=Z.vals X hK A3 σ H s xs ys I hq (no i1 (by simp)).1.symm (no i2 (by simp)).2.symm;obtain⟨u,hu,rx⟩:=ru.get hx;obtain⟨v,hv,ry⟩:=rv.get hy;have nd:=nd5 nd;have D:ZAp z TI TO i1 i2 l1 l2:=⟨nd.1.1,nd.1.2.1,nd.1.2.2.1,nd.1.2.2.2,nd.2.1.1,nd.2.1.2.1,nd.2.1.2.2,nd.2.2.1.1,nd.2.2.1.2,nd.2.2.2,(no z (by simp)).1,(no TO (by simp)).1,(no i2 (by simp)).1,(no z (by simp)).2,(no TO (by simp)).2,(no i1 (by simp)).2⟩;have hT:s.TypeIs (.ref z) "zip":=⟨_,h1,rfl⟩;unfold pyNext;refine Aa1 (wpAny_attempt (wpAny_callSpecial?_slot (name:=Str.ofString "__next__") hT F.slot_zip_next (Aj1 F.slot_zip_next hT F.entry_zip_next (xs4 W1 W2 D h1 h2 h3 (p1 i h4) (p2 i h5) hu hv λh' a1 a2 a3 a4 a5 a6 kk=>Ac1 ?_) (F.args_zip_next_1 _))));refine⟨_,rfl,wpAny_letOwnedTupleGo_zip (s:={ s with heap:=h' }) a1 λg2 zz sb=>?_⟩;have sb:Heap.SameBut z h' g2:=sb;have lt:∀{c:Addr} {o:Obj},s.heap.get? c=some o->c≠s.heap.objs.size:=λe=>An0 (Heap.lt_size e)
  have k2:∀b o,b∉[z,TI,TO,i1,i2]->s.heap.get? b=some o->g2.get? b=some o:=λb o hb q=>by
   exact sb.extBut b o (nm5 hb).1 (kk b o (nm5 hb).2 q)
  have kTI:g2.get? TI=_:=sb.extBut TI _ D.zTI.symm (kk TI _ (nm4 D.zTI.symm D.io D.I1 D.I2) h2);have tt:IsTup g2 s.heap.objs.size [u,v].toArray/\NoD g2 s.heap.objs.size:=⟨⟨_,sb.extBut _ _ (lt h1).symm a5,rfl,_,rfl⟩,⟨_,sb.extBut _ _ (lt h1).symm a5,rfl⟩⟩;refine⟨.ref s.heap.objs.size,_,I.turnedT (t':=s.toks) (p:=s.heap.objs.size) (vs:=[x,y]) hf k2 (Ag0 _) (.cons rx (.cons ry .nil)) (by show 2<=sizeLine;decide) tt.1 tt.2,rfl,⟨_,x,y,I.hok.fresh (Ag0 _),rfl,rfl,λxs' ys' hy'=>by
   obtain⟨e1,e2⟩:=inj xs' ys' hy';rw[e1,e2];exact⟨hx,hy⟩⟩,⟨zz,kTI,⟨_,_,sb.extBut _ _ D.zTO.symm a2⟩,(Z.keep (i+1) h' g2).1 ((pt (i+1) h').1 a3) λo e=>sb.extBut _ o D.z1.symm e,(Z.keep (i+1) h' g2).2 ((pt (i+1) h').2 a4) λo e=>sb.extBut _ o D.z2.symm e⟩,λb hb=>?_⟩
  have nb:b≠s.heap.objs.size:=by
   have hb:=vs5 hb;rcases hb with r | r | r | r | r
   ·subst r;exact lt h1
   ·subst r;exact lt h2
   ·subst r;exact lt h3
   ·subst r;obtain⟨o,e,_⟩:=(Z.obj i s.heap).1 h4;exact lt e
   ·subst r;obtain⟨o,e,_⟩:=(Z.obj i s.heap).2 h5;exact lt e
  rw[zb3 nb];exact(hf b hb).1
 done:=by
  intro X hP hw hK hc i A3 s σ H E I hf st hg;subst hP hw;obtain⟨xs,ys,hq,hx⟩:=hg;obtain⟨h1,h2,⟨a,b,h3⟩,h4,h5⟩:=st;obtain⟨n1,n2⟩:=Z.there H xs ys hq;have no:∀c∈[z,TI,TO,i1,i2],l1≠c/\l2≠c:=λc hb=>⟨λe=>n1 (by rw[e];exact(hf c hb).1),λe=>n2 (by rw[e];exact(hf c hb).1)⟩
  obtain⟨us,vs,ru,rv,inj,P1,P2,W1,W2,p1,p2,pt⟩:=Z.vals X hK A3 σ H s xs ys I hq (no i1 (by simp)).1.symm (no i2 (by simp)).2.symm;have nd:=nd5 nd;have D:ZAp z TI TO i1 i2 l1 l2:=⟨nd.1.1,nd.1.2.1,nd.1.2.2.1,nd.1.2.2.2,nd.2.1.1,nd.2.1.2.1,nd.2.1.2.2,nd.2.2.1.1,nd.2.2.1.2,nd.2.2.2,(no z (by simp)).1,(no TO (by simp)).1,(no i2 (by simp)).1,(no z (by simp)).2,(no TO (by simp)).2,(no i1 (by simp)).2⟩;have hT:s.TypeIs (.ref z) "zip":=⟨_,h1,rfl⟩;have en:us[i]?=none\/vs[i]?=none:=by
   rcases hx with hx | hx
   ·exact .inl (List.getElem?_eq_none (by rw[<-ru.length];exact hx))
   ·exact .inr (List.getElem?_eq_none (by rw[<-rv.length];exact hx))
  unfold pyNext;refine Aa1 (wpAny_attempt (wpAny_callSpecial?_slot (name:=Str.ofString "__next__") hT F.slot_zip_next (Aj1 F.slot_zip_next hT F.entry_zip_next (xs5 (I.ok.hd hc) W1 W2 D h1 h2 h3 (p1 i h4) (p2 i h5) en λh' e kk he=>?_) (F.args_zip_next_1 _))));obtain⟨o,ho,hcls⟩:=he;refine Aa1 (wpAny_isInstance (T:="StopIteration") (b:=true) ⟨o,ho,hcls⟩ isSubtype_stop (Ac1 ⟨rfl,I.turnedF hf λb o hb q=>kk b o (λn=>hb (vo5 n)) q⟩))
 self:=λ_ _ _ _ _ st h=>wpAny_pyIter_zip st.1 h
def vm3(a b:Addr):Hp->List V->List V->Prop:=λH xs ys=>H a=some (.tup xs)/\H b=some (.tup ys)
def wi7{P:Program}{w:World}{K:PySem.W.Frag}{l1 l2 i1 i2:Addr}:ZW P w K l1 l2 i1 i2 (vm3 l1 l2) (λk h=>h.IsTupleIter i1 l1 k) (λk h=>h.IsTupleIter i2 l2 k) where
 obj:=λk h=>⟨λ⟨o,ho,c,d⟩=>⟨o,ho,λv z=>by rw[d] at z;cases z⟩,λ⟨o,ho,c,d⟩=>⟨o,ho,λv z=>by rw[d] at z;cases z⟩⟩
 keep:=λk h h'=>⟨λa q=>a.at q,λa q=>a.at q⟩
 there:=λH xs ys q=>⟨(λz=>by rw[q.1] at z;cases z),(λz=>by rw[q.2] at z;cases z)⟩
 vals:=λX hK A3 σ H s xs ys I q n1 n2=>by
  obtain⟨us,ru,t1,_⟩:=I.tuple (SqT.of q.1);obtain⟨vs,rv,t2,_⟩:=I.tuple (SqT.of q.2);exact⟨us,vs,ru,rv,λxs' ys' q'=>⟨I.tuple_inj (SqT.of q'.1) (SqT.of q.1),I.tuple_inj (SqT.of q'.2) (SqT.of q.2)⟩,_,_,Wlk.tup n1,Wlk.tup n2,λk z=>⟨z,t1⟩,λk z=>⟨z,t2⟩,λk h=>⟨λz=>z.1,λz=>z.1⟩⟩
section
variable{X:Cx}{elts:List Expr}{x1:Nat}{tpos:Pos}
def vo3(n:Nat):[n+4,n+2,n+3,n,n+1].Nodup:=by
 simp only[Bi0,Aj0,Ao0,or_false,not_or,List.nodup_nil,and_true,not_false_eq_true];omega
def wa2{b n:Nat}(h:b∈[n+4,n+2,n+3,n,n+1]):n<=b:=by
 simp only[Aj0,Ao0,or_false] at h;omega
variable{S:Type}{W:Wd S}{c:Dx W}{g:Gr}
def tDB{S:Type}{W:Wd S}(c:Dx W)(f:FnA S):TA:=λσ H Q=>∃ρ st,Rep c H σ ρ/\W.ok st H/\
 wpR (f ρ st) (λl st'=>∀vs H',Ext W H H'->W.ok st' H'->IsL c.K (Av c σ ρ) H' l vs->Q vs H') λx st'=>∀H',Ext W H H'->W.ok st' H'->c.Ex x st' H'
def DB(X:Cx){S:Type}{W:Wd S}(c:Dx W)(es:List Expr)(f:FnA S):Prop:=PA X es (tDB c f)
def zn0:DB X c [] (vl0 S):=zp4.imp λσ H Q ⟨ρ,st,R,ok,w⟩=>w [] H Ext.refl ok (IsL.nil.mpr rfl)
def zd0(h:DE X c .B e f)(hr:DB X c es r)(hs:starEach (e::es) X.env=(false,eval e X.env)::starEach es X.env:=by rfl):DB X c (e::es) (wt1 S f r):=
 (zi1 h hr hs).imp λσ H Q hI36=>by
  obtain⟨ρ,st,R,ok,w⟩:=hI36;refine⟨ρ,st,R,ok,za6 (za3.mp w) (λd st1 q v H1 e ok1 z=>?_) λx st1 q=>q⟩;refine⟨ρ,st1,R.ext ok e,ok1,za6 (za3.mp q) (λl st2 q vs H2 e2 ok2 z2=>?_) λx st2 q H2 e2 ok2=>q H2 (e.trans e2) ok2⟩;have z:Is c.K (Av c σ ρ) H1 d v:=z;exact q (v::vs) H2 (e.trans e2) ok2 (IsL.cons.mpr ⟨v,vs,rfl,z.ext e2 ok1 (λb n=>n.1),z2⟩)
def vc7(l:List D):Option D:=if l.length<=sizeLine then some (.tup l) else none
open H in
def xq2{x1}(h:DB X c es f):DE X c .B (.Tuple es x1 pos) (fA S vc7 f):=
 (xz6 h).imp λσ H Q hI37=>by
  obtain⟨ρ,st,R,ok,w⟩:=hI37;refine⟨ρ,st,R,ok,za6 (za3.mp w) (λl st1 q vs H1 e ok1 z=>?_) λx st1 q=>q⟩;obtain⟨d,e1,q⟩:=zb2.mp q;unfold vc7 at e1;split at e1
  ·rename_i hl
   cases e1;refine⟨by rw[<-z.length];exact hl,λp hp=>q _ _ (e.trans (Ext.laid hp)) (zh3 ok1 hp) ?_⟩;exact Is.tup zb4 (z.ext (Ext.laid hp) ok1 λb n=>n.1)
  ·cases e1
def wu4(l m:List D):List D:=List.zipWith (λa b=>.tup [a,b]) l m
theorem yr3{i:Nat}(h:(wu4 l m)[i]?=some d):∃x y,l[i]?=some x/\m[i]?=some y/\d=.tup [x,y]:=by
 unfold wu4 at h;rw[List.getElem?_zipWith] at h;cases q:l[i]? with
 | none=>rw[q] at h;simp at h
 | some x=>
   cases q2:m[i]? with
   | none=>rw[q,q2] at h;simp at h
   | some y=>rw[q,q2] at h;cases h;exact⟨x,y,rfl,rfl,rfl⟩
def xf0{i:Nat}(h:(wu4 l m).length<=i):l.length<=i\/m.length<=i:=by
 unfold wu4 at h;rw[List.length_zipWith] at h;omega
def yy6(hi:∀(c':Dx W) σ2 ρ2 H2,wq8 (Av c σ ρ) (Av c' σ2 ρ2) H1 H2->Sq H2 xs ys)(i1:IsL c.K (Av c σ ρ) H1 l xs)(i2:IsL c.K (Av c σ ρ) H1 m ys):xs2 c σ ρ H1 (Izp Sq) (wu4 l m):=by
 intro c' hK' σ2 ρ2 H2 st2 k R2 ok2 j;have s2:Sq H2 xs ys:=hi c' σ2 ρ2 H2 k;have j1:IsL c.K (Av c' σ2 ρ2) H2 l xs:=i1.mono k;have j2:IsL c.K (Av c' σ2 ρ2) H2 m ys:=i2.mono k;refine⟨λd hd=>?_,λhl=>⟨xs,ys,s2,by rw[<-j1.length,<-j2.length];exact xf0 hl⟩⟩;obtain⟨x,y,hx,hy,rfl⟩:=yr3 hd;obtain⟨v1,hv1,iv1⟩:=j1.get hx;obtain⟨v2,hv2,iv2⟩:=j2.get hy;refine⟨⟨xs,ys,v1,v2,s2,hv1,hv2⟩,?_⟩;rintro x' H3 ⟨pp,u1,u2,hpn,rfl,rfl,hx'⟩;obtain⟨e1,e2⟩:=hx' xs ys s2;rw[hv1] at e1;cases e1;rw[hv2] at e2;cases e2;have sm:ww1 H2 (upd H2 pp (.tup [v1,v2])):=λb o hb=>by rw[zb3 (zb7 hb hpn)];exact hb
 have kk:wq8 (Av c' σ2 ρ2) (Av c' σ2 ρ2) H2 (upd H2 pp (.tup [v1,v2])):=zl2 (λb o hb _=>sm b o hb) λb o a hb=>⟨a,sm b o hb⟩
 exact⟨sm,Is.tup zb4 (IsL.cons.mpr ⟨_,_,rfl,iv1.mono kk,IsL.one (iv2.mono kk)⟩)⟩
end
end L2
namespace HT
open PySem PyProof.Rows
section
variable{prog:Program}{w:World}{A:Around}{E:Value->Shared->Prop}{s:Shared}
end
end HT
namespace L2
section
variable{X:Cx}{e st:Expr}{te ts:TE}{p2 pos:Pos}
end
section
variable{X:Cx}{S:Type}{W:Wd S}{c:Dx W}{g ga gb:Gr}{a b:Expr}{fa fb:Fn S}{pos p2:Pos}
abbrev FnO(S:Type):=Rho->S->Res S (Option Int)
def tDO{S:Type}{W:Wd S}(c:Dx W)(f:FnO S):TO:=λσ H Q=>∃ρ st,Rep c H σ ρ/\W.ok st H/\
 wpR (f ρ st) (λo st'=>∀H',Ext W H H'->W.ok st' H'->Q o H') λx st'=>∀H',Ext W H H'->W.ok st' H'->c.Ex x st' H'
def DO(X:Cx){S:Type}{W:Wd S}(c:Dx W)(e:Option Expr)(f:FnO S):Prop:=PO X e (tDO c f)
def PO.imp(h:PO X e t)(i:∀σ H Q,t' σ H Q->t σ H Q):PO X e t':=λA3 s σ H Q I q=>h A3 s σ H Q I (i σ H Q q)
def pNo(S:Type):FnO S:=λ_ st=>.ok none st
def D.int?:D->Option Int
 | .int i=>some i
 | _=>none
def pSo(S:Type)(f:Fn S):FnO S:=λρ st=>(f ρ st).bind λd st1=>(wr1 d.int? st1).bind λi st2=>.ok (some i) st2
def zy1:DO X c none (pNo S):=xk3.imp λσ H Q ⟨ρ,st,R,ok,w⟩=>w H Ext.refl ok
theorem zy0(h:DE X c g a fa):DO X c (some a) (pSo S fa):=(xk2 h).imp λσ H Q hI38=>by
 obtain⟨ρ,st,R,ok,w⟩:=hI38;refine⟨ρ,st,R,ok,za6 (za3.mp w) (λd st1 q v H1 e ok1 z=>?_) λx st1 q=>q⟩;obtain⟨i,e1,q⟩:=zb2.mp (za3.mp q);cases d with
 | int j=>cases e1;exact⟨_,Is.int_iff.mp (show Is c.K (λb=>¬W.mv b) H1 (.int i) v from z.toR),q H1 e ok1⟩
 | _=>cases e1
def cutD(xs:List D)(lo hi:Option Int):List D:=(xs.drop (HT.sIx xs.length 0 lo)).take (HT.sIx xs.length xs.length hi-HT.sIx xs.length 0 lo)
def xr0{K:PySem.W.Frag}{A:Addr->Prop}{H:Hp}{l:List D}{vs:List V}{lo hi:Option Int}(h:IsL K A H l vs):IsL K A H (cutD l lo hi) (vb6 vs lo hi):=by
 unfold cutD vb6;rw[h.length];exact(h.drop _).take _
theorem yt1:∀{l:List D} {n:Nat},D.immL l=true->D.immL (l.take n)=true
 | [],_,_=>by simp[D.immL]
 | _::_,0,_=>by simp[D.immL]
 | x::l,n+1,m=>by
   have m':x.imm=true/\D.immL l=true:=by simpa [D.immL] using m
   simp only[List.take_succ_cons,D.immL,m'.1,yt1 m'.2,Bool.and_self]
theorem yt2:∀{l:List D} {n:Nat},D.immL l=true->D.immL (l.drop n)=true
 | [],_,_=>by simp[D.immL]
 | _::_,0,m=>m
 | x::l,n+1,m=>by
   have m':x.imm=true/\D.immL l=true:=by simpa [D.immL] using m
   exact yt2 (l:=l) (n:=n) m'.2
def xb1{l:List D}{lo hi:Option Int}(m:D.immL l=true):D.immL (cutD l lo hi)=true:=yt1 (yt2 m)
def vb9(lo hi:Option Int):D->Option D
 | .lst l=>if D.immL l=true then some (.lst (cutD l lo hi)) else none
 | .tup l=>if D.immL l=true/\¬(HT.sIx l.length 0 lo=0/\HT.sIx l.length l.length hi=l.length) then some (.tup (cutD l lo hi)) else none
 | _=>none
def vp5(S:Type)(f:Fn S)(lo hi:FnO S):Fn S:=λρ st=>(f ρ st).bind λd st1=>(lo ρ st1).bind λl st2=>(hi ρ st2).bind λh st3=>wr1 (vb9 l h d) st3
open H in
def yi1{lo hi:Option Expr}{fl fh:FnO S}(hK:c.K=X.K)(ha:DE X c ga a fa)(hl:DO X c lo fl)(hh:DO X c hi fh):DE X c g (.Subscript a (.Slice lo hi none p2) pos) (vp5 S fa fl fh):=
 (yz7 (xi5.or wj9) ha hl hh).imp λσ H Q hI39=>by
  obtain⟨ρ,st,R,ok,w⟩:=hI39;refine⟨ρ,st,R,ok,za6 (za3.mp w) (λd st1 q v H1 e ok1 z=>?_) λx st1 q=>q⟩;refine⟨ρ,st1,R.ext ok e,ok1,za6 (za3.mp q) (λl st2 q H2 e2 ok2=>?_) λx st2 q H2 e2 ok2=>q H2 (e.trans e2) ok2⟩;have R2:=(R.ext ok e).ext ok1 e2;refine⟨ρ,st2,R2,ok2,za6 (za3.mp q) (λh st3 q H3 e3 ok3=>?_) λx st3 q H3 e3 ok3=>q H3 ((e.trans e2).trans e3) ok3⟩;obtain⟨dd,e4,q⟩:=zb2.mp q;have ez:Ext W H1 H3:=e2.trans e3;have z3:Is c.K (λb=>¬W.mv b) H3 d v:=z.toR.ext ez ok1;have R3:=R2.ext ok2 e3;have et:Ext W H H3:=e.trans ez;cases d with
  | lst m=>
    have e4:(if D.immL m=true then some (D.lst (cutD m l h)) else none)=some dd:=e4;split at e4
    ·rename_i im
     cases e4;obtain⟨p,vs,ev,n,s0,i⟩:=Is.lst_iff.mp z3;refine .inl ⟨p,vs,ev,.of s0,λr hr=>?_⟩;exact q _ _ (et.trans (Ext.laid hr)) (zh3 ok3 hr) ((New.val R3 (New.lst ok3 hr (λ_ n=>n) (xb1 im) (xr0 i)) g).back et ok3)
    ·cases e4
  | tup m=>
    have e4:(if D.immL m=true/\¬(HT.sIx m.length 0 l=0/\HT.sIx m.length m.length h=m.length) then some (D.tup (cutD m l h)) else none)=some dd:=e4;split at e4
    ·rename_i im
     cases e4;obtain⟨p,vs,ev,s0,i⟩:=Is.tup_iff.mp z3;refine .inr ⟨p,vs,ev,.of s0,by rw[<-i.length];exact im.2,λr hr=>?_⟩;exact q _ _ (et.trans (Ext.laid hr)) (zh3 ok3 hr) ((New.val R3 (New.tup ok3 hr (λ_ n=>n) (xb1 im.1) (xr0 i)) g).back et ok3)
    ·cases e4
  | _=>cases e4
def zt7:List D->Option (List Int)
 | []=>some []
 | .int i::l=>(zt7 l).map λr=>i::r
 | _=>none
theorem ys9{K:PySem.W.Frag}{A:Addr->Prop}{H:Hp}:∀{l:List D} {vs:List V} {ns:List Int},zt7 l=some ns->IsL K A H l vs->vs=ns.map V.int
 | [],vs,ns,e,h=>by cases e;rw[IsL.nil.mp h];rfl
 | .int i::l,vs,ns,e,h=>by
   unfold zt7 at e;cases q:zt7 l with
   | none=>rw[q] at e;cases e
   | some r=>
     rw[q] at e;cases e;obtain⟨v,r',e1,i1,i2⟩:=IsL.cons.mp h;rw[e1,Is.int_iff.mp i1,ys9 q i2];rfl
 | .non::_,_,_,e,_=>by cases e
 | .bl _::_,_,_,e,_=>by cases e
 | .str _::_,_,_,e,_=>by cases e
 | .tup _::_,_,_,e,_=>by cases e
 | .lst _::_,_,_,e,_=>by cases e
 | .dct _ _::_,_,_,e,_=>by cases e
 | .fl _::_,_,_,e,_=>by cases e
 | .fd _ _::_,_,_,e,_=>by cases e
def vv3(S:Type):FnS S:=λ_ _=>.bad
def vr4(S:Type)(i j:Nat)(f:FnA S):FnS S:=λρ st=>(f ρ st).bind λl st1=>match l with
 | [d,e]=>(wr1 (put ρ i d) st1).bind λρ1 st2=>(wr1 (put ρ1 j e) st2).bind λρ2 st3=>.ok (.nx ρ2) st3
 | _=>.bad
open H in
def zp3{i:Nat}(h:put ρ i d=some ρ'):i<ρ.length/\ρ'=ρ.set i (.bor d):=by
 unfold put at h;split at h
 ·rename_i hi;cases h;exact⟨hi,rfl⟩
 ·cases h
open H in
def ya6{i j:Nat}{x y:Str}{kt k2 pt2}(hc:X.calm=true)(hN:X.N.Nodup)(hi:X.N[i]?=some x)(hj:X.N[j]?=some y)(hij:i≠j)(hx:X.env.scope.names.lookup x=some .local)(hy:X.env.scope.names.lookup y=some .local)(ha:DB X c [a,b] f)(hw:swappedStores [.Tuple [.Name x px,.Name y py] kt pt] (.Tuple [a,b] k2 pt2) X.env=pure (some [x,y]))(hs:swapsWithSole [.Tuple [.Name x px,.Name y py] kt pt] (.Tuple [a,b] k2 pt2) pos.line X.env=pure false:=by rfl) :
 DS X c (.Assign [.Tuple [.Name x px,.Name y py] kt pt] (.Tuple [a,b] k2 pt2) pos) (vr4 S i j f):=
 (wk5 hc hN hi hj hij hx hy ha hw hs).imp λD σ H hI40=>by
  obtain⟨ρ,st,R,ok,w⟩:=hI40;refine⟨ρ,st,R,ok,za6 (za3.mp w) (λl st1 q vs H1 e ok1 z=>?_) λx st1 q H' e ok'=>q H' (e.f0 R) ok'⟩;split at q
  ·rename_i d e'
   obtain⟨v,r,e2,i2,i3⟩:=IsL.cons.mp z;obtain⟨v',r',e3,i3,i4⟩:=IsL.cons.mp i3;rw[e3,IsL.nil.mp i4] at e2;obtain⟨ρ1,e4,q⟩:=zb2.mp (za3.mp q);obtain⟨ρ2,e5,q⟩:=zb2.mp (za3.mp q);obtain⟨h4,rfl⟩:=zp3 e4;obtain⟨h5,rfl⟩:=zp3 e5;have R1:=(R.ext ok e).setB h4 i2;have k1:wq8 (Av c σ ρ) (Av c (σ.set i (some v)) (ρ.set i (.bor d))) H1 H1:=Frm.keepT (R.ext ok e) ok1 zg9;have R2:=R1.setB h5 (i3.mono k1);exact⟨v,v',e2,q _ _ ((Ext.frm e).trans (zg9.trans zg9)) ok1 R2⟩
  ·exact q.elim
def wq3(a b:D):Option D:=(wr4 (λi j=>.int (i+j)) a b).or ((va8 a b).or ((va7 a b).or (xa1 a b)))
def xl5:OpR X (binaryOp .Add) (λx y H Q=>rI0 (λi j=>.int (i+j)) x y H Q\/(vk5 x y H Q\/(vc5 X.K x y H Q\/yz3 X.K x y H Q))):=yr6.or (wl8.or (wf2.or xv6))
def xl8{K:PySem.W.Frag}(hK:c.K=K):OpD c (λx y H Q=>rI0 (λi j=>.int (i+j)) x y H Q\/(vk5 x y H Q\/(vc5 K x y H Q\/yz3 K x y H Q))) wq3:=wr9.or (wm1.or ((wf5 hK).or xv8))
def D.seq?:D->Option (List D)
 | .tup l=>some l
 | .lst l=>some l
 | _=>none
theorem zg3{tg e:Expr}{f:Fn S}(hK:c.K=X.K)(h:DE X c .B e f):DI X c tg e (vb0 S D.seq? f):=by
 intro A3 s σ H R I q;obtain⟨ρ,st,R0,ok,w⟩:=q;unfold vb0 at w;cases q:f ρ st with
 | bad=>rw[q] at w;exact w.elim
 | exc x st1=>
   refine wa8 (tg:=tg) hK h A3 s σ H R I ⟨ρ,st,R0,ok,?_⟩;unfold vb0;rw[q] at w ⊢;exact w
 | ok d st1=>
   rw[q] at w;cases d with
   | tup l=>
     refine wa8 (tg:=tg) hK h A3 s σ H R I ⟨ρ,st,R0,ok,?_⟩;unfold vb0;rw[q];exact w
   | lst l=>
     refine wo5 (tg:=tg) hK h A3 s σ H R I ⟨ρ,st,R0,ok,?_⟩;unfold vb0;rw[q];exact w
   | _=>exact w.elim
def vt6:List D->Res Unit D:=λ_=>.bad
def wn9{P:Program}{w:World}{K:PySem.W.Frag}{mg:Str->Option Value}{base:Heap}{f:Addr}{fd:FuncData}{ps:List Str}{k:Nat}:ww5 P w K mg base CX0 k f fd ps (sp0 K vt6):=
 ⟨λvs H Q E ⟨_,_,h⟩=>h.elim,λA outer s H args us vs Q E _ _ _ _ ⟨_,_,h⟩=>h.elim⟩
def wq7{id:String}{x:Str}{p pos:Pos}{e:Expr}{es:List Expr}{r:List V->Hp->VK->Prop}{o:List D->Option D}{f:FnA S}(ha:DA X c (e::es) f)(hc:ws7 X (.builtin id) r)(hr:ws4 c r o)(hg:Gl X x)(hm:X.mg x=none)(hv:bootBuiltins x=some (.builtin id))(hn:x≠"__name__":=by decide)(hdb:(x == ("__debug__" : Str))=false:=by decide)(he:starEach (e::es) X.env=(false,eval e X.env)::starEach es X.env:=by rfl)(hpl:(backTo pos (starEach es X.env)).any (·.1)=false:=by rfl):DE X c g (.Call (.Name x p) (e::es) [] pos) (fA S o f):=
 xc6 (id:=id) (yd5 hc hg hm hv ha hn hdb he hpl) rfl hr
def ws6{T:String}{x:Str}{p pos:Pos}{e:Expr}{es:List Expr}{r:List V->Hp->VK->Prop}{o:List D->Option D}{f:FnA S}(ha:DA X c (e::es) f)(hc:ws7 X (.type T) r)(hr:ws4 c r o)(hg:Gl X x)(hm:X.mg x=none)(hv:bootBuiltins x=some (.type T))(hn:x≠"__name__":=by decide)(hdb:(x == ("__debug__" : Str))=false:=by decide)(he:starEach (e::es) X.env=(false,eval e X.env)::starEach es X.env:=by rfl)(hpl:(backTo pos (starEach es X.env)).any (·.1)=false:=by rfl):DE X c g (.Call (.Name x p) (e::es) [] pos) (fA S o f):=
 xc6 (id:=T) (yr2 hc hg hm hv ha hn hdb he hpl) rfl hr
end
end L2
namespace PySem
namespace F
def lk_list_keys:typeLookup (.type "list") "keys" = pure none:=by rw[typeLookup_type,builtinLookup_eq_fast];kernel_rfl
end F
section
variable{prog:Program}{w:World}{A:Around}{E:Value->Shared->Prop}{s:Shared}{a:Addr}{its:Array Value}
def xn4(hp:PlainL s.heap a its)(hA:A.handled=none)(h:∀h' tk,(∀b o,s.heap.get? b=some o->h'.get? b=some o)->Q none { s with heap:=h',toks:=tk }) :
 wpAny (model prog w) A (getAttr? (.ref a) "keys") Q E s:=by
 obtain⟨⟨c,dct,dat,sl⟩,k,hx,hc,hd,hdat⟩:=hp;simp only at hc hdat hd;subst hc hdat hd;obtain⟨hp,g,d,tk,os⟩:=s;have hT:∀tk',(⟨hp,g,d,tk',os⟩:Shared).TypeIs (.ref a) "list":=λ_=>⟨_,hx,rfl⟩
 have f1:=sub_AttributeError;have f3:=F.slot_list_getattribute.lookup;have f4:=F.slot_list_getattribute.bind (.ref a);have f5:=am_list_getattr_none;unfold getAttr? getAttrBy? getAttrBy;repeat (any_goals (first | assumption | exact hT _ | ((with_reducible show wpAny _ _ (call (Value.builtin "list.__getattribute__") _ _) _ _ _);refine call_meets F.slot_list_getattribute (hT _) am_entry_list_getattribute (F.args_list_getattribute_2 _ _) (meets_getattribute_miss_list a its k sl "keys" _ F.lk_list_keys (by decide +kernel) (by size_fits)) ⟨hx,hA,λh' tk' e hx'=>?_⟩) | wp_step))
 obtain⟨t',u',he⟩:=hx'.there;show wpAny _ _ (getattributeRaised _ _ _ _ _ _ _) _ _ _;unfold getattributeRaised;repeat (any_goals (first | assumption | wp_step))
 exact h h' tk' hx'.keeps
end
end PySem
namespace PySem.F
def plain_upd_loop:plainId "dict.update.loop" = true:=by decide +kernel
def entry_upd_loop:entryFor table "dict.update.loop" = some Builtin.«dict.update.loop»:=entryFor_of_fast (by kernel_rfl)
end PySem.F
namespace L2
def zt3(H:Hp):List V->List (List Key×V)->Prop
 | [],ps=>ps=[]
 | v::vs,ps=>∃t b k x r,ps=(k,x)::r/\v=.ref t/\H t=some (.tup [.ref b,x])/\H b=some (.tup (k.map kV))/\zt3 H vs r
def yg3(kvs ps:List (List Key×V)):List (List Key×V):=ps.foldl (λacc p=>wt2 acc p.1 p.2) kvs
theorem zt3.keep(hd:∀u,H d≠some (.tup u)):∀{vs:List V} {ps:List (List Key×V)},zt3 H vs ps->zt3 (upd H d o) vs ps
 | [],ps,h=>h
 | v::vs,ps,⟨t,b,k,x,r,e1,e2,h1,h2,h3⟩=>⟨t,b,k,x,r,e1,e2,by rw[zb3 (λz=>hd _ (z▸h1))];exact h1,by rw[zb3 (λz=>hd _ (z▸h2))];exact h2,zt3.keep hd h3⟩
section
variable{X:Cx}{A3:List (Addr×Obj)}{σ:St}
open H in
theorem xp9(hc:X.calm=true)(hu:X.A.in1.units+1<cLine):∀(n i:Nat) (s:Shared) (H:Hp) (kvs ps:List (List Key×V)) (t:Tok),vs.length-i=n->i<=vs.length->Inv X A3 σ H s->wx8 X A3 H it->
 s.heap.IsListIter it a i->H a=some (.lst vs)->H d=some (.dT kvs)->zt3 H (vs.drop i) ps->kvs.length+ps.length<sizeLine->Q (.ref d) (upd H d (.dT (yg3 kvs ps)))->
 codeAny (model X.prog X.w) X.A.in1 (.builtin "dict.update.loop" ⟨[.ref d,.ref it,.int i t,.none],[]⟩) (wants (λr s₂=>r=.none/\EP X A3 σ Q (.ref d) s₂) X.xe) s:=by
 intro n;induction n with
 | zero=>
   intro i s H kvs ps t hn hi I hfp hit ha hd hp hz q;have e:i=vs.length:=by omega
   subst e;rw[List.drop_length] at hp;have hp:ps=[]:=hp;subst hp;obtain⟨its,rv,pl,_⟩:=I.list (SqL.of ha);obtain⟨f0,f1,f2,f3,f4,f5⟩:=hfp;refine codeAny_builtin F.entry_upd_loop ?_;rw[Around.under_plainId F.plain_upd_loop _];show wpAny _ X.A.in1.in1 (pyNext (.ref it) >>= λ_=>_) _ _ s;have hl:=rv.length;refine Aa1 (wpAny_pyNext_list_end (I.ok.hd hc) hit pl.isList (by simp;omega) λh' eb=>?_);have I1:Inv X A3 σ H { s with heap:=h' }:=I.turned (t':=s.toks) (λb o hb e=>eb b o hb e) f0 f1 f3 f4 f5;show wpAny _ X.A.in1.in1 (Builtin.Dict.addKeywords d [] >>= λ_=>ret .none) _ _ _;refine Aa1 (Ac1 (Ac1 ?_));refine⟨rfl,.ref d,H,I1,rfl,?_⟩;have e2:upd H d (.dT (yg3 kvs []))=H:=by
    funext b;by_cases hb:b=d
    ·subst hb;rw[zb4,hd];rfl
    ·rw[zb3 hb]
   rw[e2] at q;exact q
 | succ n ih=>
   intro i s H kvs ps t hn hi I hfp hit ha hd hp hz q;have hi':i<vs.length:=by omega
   rw[List.drop_eq_getElem_cons hi'] at hp;obtain⟨tt,b,k,x,r,rfl,ev,ht,hb,hr⟩:=hp;obtain⟨its,rv,pl,_⟩:=I.list (SqL.of ha);obtain⟨u,hu',ru⟩:=rv.get (i:=i) (x:=vs[i]) (Ac0 hi');rw[ev] at ru;cases (show u=Value.ref tt from ru);obtain⟨f0,f1,f2,f3,f4,f5⟩:=id hfp;refine codeAny_builtin F.entry_upd_loop ?_;rw[Around.under_plainId F.plain_upd_loop _];show wpAny _ X.A.in1.in1 (pyNext (.ref it) >>= λ_=>_) _ _ s;refine Aa1 (wpAny_pyNext_list_item hit pl.isList (x:=.ref tt) (by simpa using hu') λh' hit' sb=>?_);have I1:Inv X A3 σ H { s with heap:=h' }:=I.turned (t':=s.toks) (λc o hb e=>(sb.2 c hb).trans e) f0 f1 f3 f4 f5;obtain⟨ps2,r2,p2,_⟩:=I1.tuple (SqT.of ht);obtain⟨o2,ho2,hc2,n2,hd2⟩:=id p2;obtain⟨u1,u2,rfl,rk,rx⟩:∃u1 u2,ps2=[u1,u2]/\wq2 (.ref b) u1/\wq2 x u2:=by
    cases r2 with
    | cons p q=>
      cases q with
      | cons p' q'=>cases q';exact⟨_,_,rfl,p,p'⟩
   cases (show u1=Value.ref b from rk);refine Aa1 (wpAny_holding (Aa1 (wpAny_tryCatch ?_)));unfold Builtin.Dict.pairItems;refine Aa1 (wpAny_typeOf (T:="tuple") ⟨o2,ho2,hc2⟩ ?_);rw[if_pos (by decide)];refine Aa1 (Ak1 ho2 hd2 (Ac1 ?_));obtain⟨z,hdm,xs,rel,dd⟩:=vg9 I1.hok hd;have hz1:xs.length<=sizeLine:=by rw[<-Paired.length rel];exact z
   have hlr:kvs.length+(r.length+1)<sizeLine:=by simpa using hz
   have hl:(wt2 kvs k x).length<=sizeLine:=by have:=zo6 kvs k x;omega
   show wpAny _ _ (holding [.ref b,u2] (dictSet d (.ref b) u2)) _ _ _;refine wpAny_holding (wpAny_dictSet_heap (hsz:=hz1) (tupleKind_room_in1 hu) (yg9 I1.hok hb) dd λh2 dd' hs=>Ac1 ?_);have I2:Inv X A3 σ (upd H d (.dT (wt2 kvs k x))) { s with heap:=h2,toks:=s.toks+(tupleKind (zg6 X.prog X.w)).draws k }:=by
    obtain⟨q,es,ep,hq,h2',h3,h4,_,h5⟩:=dd';refine yi2 (s:={ s with heap:=h' }) (t':=s.toks+(tupleKind (zg6 X.prog X.w)).draws k) I1 (by rw[hd];exact True.intro) hs ⟨q,hq⟩ ⟨hl,hdm,_,(rel.put k hb rx).keeps λc ys ec=>?_,q,es,ep,hq,h2',h3,h4,h5⟩;rw[zb3 (va9 ec hd (λz=>nomatch z))];exact ec
   have nit:it≠d:=λe=>by rw[e,hd] at f0;cases f0
   have nda:a≠d:=va9 ha hd (λz=>nomatch z);have hs:Heap.SameBut d h' h2:=hs;refine⟨plainId_quiet F.plain_upd_loop _,ih (i+1) _ _ (wt2 kvs k x) r _ (by omega) (by omega) I2 ⟨by rw[zb3 nit];exact f0,f1,f2,f3,f4,f5⟩ (hit'.extBut hs.extBut nit) (by rw[zb3 nda];exact ha) zb4 (hr.keep λu e=>by rw[hd] at e;cases e) ?_ ?_⟩
   ·have:=zo6 kvs k x;omega
   ·rw[upd_upd];exact q
def yi5(hc:X.calm=true)(hu:X.A.in1.units+1<cLine):ws7 X (.type "dict") (λxs H Q=>∃(a:Addr) (vs:List V) (ps:List (List Key×V)),xs=[.ref a]/\H a=some (.lst vs)/\zt3 H vs ps/\ps.length<sizeLine/\∀d,H d=none->Q (.ref d) (upd H d (.dT (yg3 [] ps)))):=by
 intro A3 s σ H xs us Q I r h;obtain⟨a,vs,ps,rfl,ha,hp,hz,q⟩:=h;obtain⟨u,rfl,r1⟩:=wt7 r;cases r1;have hhA:X.A.handled=none:=I.ok.hd hc;refine callType_codes (Q₁:=λobj s₁=>obj=.ref s.heap.objs.size/\s₁={ s with heap:=s.heap.push { cls:=.type "dict",data:=.dict #[] } }) F.kt_called_dict (F.kt_typeCall_dict_1 _) F.entry_dict_init (kt_code_dict_new _ ⟨rfl,rfl⟩) ?_;rintro obj s₁ ⟨rfl,rfl⟩;have hn:=I.hok.fresh (Ag0 s.heap.objs.size);have I1:=I.laid (a:=s.heap.objs.size) (o:=.dT []) (h':=s.heap.push { cls:=.type "dict",data:=.dict #[] }) (t':=s.toks) (λ_ _ q=>Ab0 _ q) (Ag0 _) (xc3 s.heap I.big);have hT:({ s with heap:=s.heap.push { cls:=.type "dict",data:=.dict #[] } }:Shared).TypeIs (.ref s.heap.objs.size) "dict":=⟨_,Ad0 _ rfl,rfl⟩;refine⟨hT,F.args_dict_init_2 _ _,?_⟩;unfold Builtin.«dict.__init__»;refine Aa1 ?_;unfold Builtin.Dict.selfAndRest;refine Aa1 (wpAny_notOrdered_dict hT ?_);show wpAny _ _ (pure (s.heap.objs.size,[Value.ref a])) _ _ _;refine Ac1 ?_;show wpAny _ _ (Builtin.Dict.updateFrom "dict.__init__" s.heap.objs.size (.ref a) [] .none) _ _ _;unfold Builtin.Dict.updateFrom;have nda:a≠s.heap.objs.size:=zb7 ha hn;have ha1:upd H s.heap.objs.size (.dT []) a=some (.lst vs):=by rw[zb3 nda];exact ha
 obtain⟨its,rv,pl,_⟩:=I1.list (SqL.of ha1);refine Aa1 (wpAny_typeOf pl.isList.typeIs ?_);rw[if_pos (by decide)];refine Aa1 (xn4 pl hhA λh2 tk2 k2=>?_);have I2:Inv X A3 σ (upd H s.heap.objs.size (.dT [])) { s with heap:=h2,toks:=tk2 }:=I1.kept (t':=tk2) k2;obtain⟨its2,rv2,pl2,_⟩:=I2.list (SqL.of ha1);rw[if_pos (by rfl)];refine Aa1 (Ai1 (Aa1 (wpAny_pyIter_list pl2.isList (Ac1 ?_))));have I3:Inv X A3 σ (upd H s.heap.objs.size (.dT [])) { s with heap:=h2.push { cls:=.type "list_iterator",data:=.fields #[.ref a,.int 0 0] },toks:=tk2 }:=I2.kept (t':=tk2) λb o e=>Ab0 _ e
 have fp:wx8 X A3 (upd H s.heap.objs.size (.dT [])) h2.objs.size:=I2.fpOk (Ag0 _) (I2.hok.fresh (Ag0 _));refine⟨plainId_quiet F.plain_upd_loop _,xp9 hc hu (a:=a) (vs:=vs) vs.length 0 _ _ [] ps _ (by omega) (by omega) I3 fp ⟨_,Ad0 _ rfl,rfl,rfl⟩ ha1 zb4 ?_ (by simpa using hz) ?_⟩
 ·rw[Cm0]
  exact hp.keep λu e=>by rw[hn] at e;cases e
 ·rw[L2.upd_upd];exact q _ hn
end
section
variable{X:Cx}{S:Type}{W:Wd S}{c:Dx W}{g ga gb gc:Gr}{a b:Expr}{fa fb fc:Fn S}{pos p2:Pos}
def zw5:List D->Option (List (List Key×D))
 | []=>some []
 | .tup [k,v]::l=>if v.imm=true then (zc7 k).bind λkk=>(zw5 l).map λr=>(kk,v)::r else none
 | _=>none
def zk4(ps:List (List Key×D))(acc:List D×List D):List D×List D:=ps.foldl (λacc p=>ws0 p.1 p.2 acc.1 acc.2) acc
def vg0:List D->Option D
 | [.lst l]=>if l.length<sizeLine then (zw5 l).map λps=>.dct (.non::(zk4 ps ([],[])).1) (zk4 ps ([],[])).2 else none
 | _=>none
open H in
theorem yr4{K:PySem.W.Frag}{A:Addr->Prop}{H:Hp}:∀{l:List D} {vs:List V} {ps:List (List Key×D)},zw5 l=some ps->IsL K A H l vs->
 ∃qs:List (List Key×V),zt3 H vs qs/\qs.map (·.1)=ps.map (·.1)/\IsL K A H (ps.map (·.2)) (qs.map (·.2))/\D.immL (ps.map (·.2))=true/\qs.length=l.length
 | [],vs,ps,e,h=>by
   cases e;rw[IsL.nil.mp h];exact⟨[],rfl,rfl,IsL.nil.mpr rfl,rfl,rfl⟩
 | d::l,vs,ps,e,h=>by
   unfold zw5 at e;split at e
   ·rename_i heq
    cases heq
   ·rename_i k v l' heq
    cases heq;split at e
    ·rename_i hv
     cases q1:zc7 k with
     | none=>rw[q1] at e;cases e
     | some kk=>
       cases q2:zw5 l with
       | none=>rw[q1,q2] at e;cases e
       | some r=>
         rw[q1,q2] at e;cases e;obtain⟨w,rr,e1,i1,i2⟩:=IsL.cons.mp h;obtain⟨t,us,et,ht,i3⟩:=Is.tup_iff.mp i1;obtain⟨w1,r1,e2,j1,j2⟩:=IsL.cons.mp i3;obtain⟨w2,r2,e3,j3,j4⟩:=IsL.cons.mp j2;obtain⟨b,eb,hb,_⟩:=zv1 q1 j1;obtain⟨qs,g1,g2,g3,g4,g5⟩:=yr4 q2 i2;refine⟨(kk,w2)::qs,?_,by simp[g2],IsL.cons.mpr ⟨_,_,rfl,j3,g3⟩,by simp[D.immL,hv,g4],by simp[g5]⟩;rw[e1];refine⟨t,b,kk,w2,qs,rfl,et,?_,hb,g1⟩;rw[ht,e2,e3,eb,IsL.nil.mp j4]
    ·cases e
   ·cases e
theorem yq7{K:PySem.W.Frag}{A:Addr->Prop}{H:Hp}:∀{ps:List (List Key×D)} {qs:List (List Key×V)},qs.map (·.1)=ps.map (·.1)->IsL K A H (ps.map (·.2)) (qs.map (·.2))->D.immL (ps.map (·.2))=true->
 ∀{kk:List (List Key)} {vs:List D} {us:List V},kk.length=us.length->IsL K A H vs us->D.immL vs=true->
 ∃(kk':List (List Key)) (us':List V),(zk4 ps (kk.map wp9,vs)).1=kk'.map wp9/\IsL K A H (zk4 ps (kk.map wp9,vs)).2 us'/\kk'.length=us'.length/\yg3 (kk.zip us) qs=kk'.zip us'/\D.immL (zk4 ps (kk.map wp9,vs)).2=true
 | [],qs,e,h,m,kk,vs,us,hl,hv,mv=>by
   have:qs=[]:=by simpa using e
   subst this;exact⟨kk,us,rfl,hv,hl,rfl,mv⟩
 | (k,d)::ps,qs,e,h,m,kk,vs,us,hl,hv,mv=>by
   cases qs with
   | nil=>cases e
   | cons q qs=>
     obtain⟨k',v⟩:=q;obtain⟨w,r,e1,i1,i2⟩:=IsL.cons.mp h;have e1:v::qs.map (·.2)=w::r:=e1;cases e1;have ek:k'=k/\qs.map (·.1)=ps.map (·.1):=by simpa using e
     obtain⟨rfl,ek⟩:=ek;have m':d.imm=true/\D.immL (ps.map (·.2))=true:=by simpa [D.immL] using m
     obtain⟨kk1,us1,g1,g2,g3,g4⟩:=xq8 (k:=k') i1 hl hv;have g5:=yh3 (k:=k') (ks:=kk.map wp9) m'.1 mv;obtain⟨kk2,us2,f1,f2,f3,f4,f5⟩:=yq7 ek i2 m'.2 (kk:=kk1) (vs:=(ws0 k' d (kk.map wp9) vs).2) g3 g2 g5;have eq:zk4 ((k',d)::ps) (kk.map wp9,vs)=zk4 ps (kk1.map wp9,(ws0 k' d (kk.map wp9) vs).2):=by
      show zk4 ps (ws0 k' d (kk.map wp9) vs)=_;rw[<-g1]
     rw[eq];refine⟨kk2,us2,f1,f2,f3,?_,f5⟩;show yg3 (wt2 (kk.zip us) k' v) qs=_;rw[g4];exact f4
open H in
def wi4:ws4 c (λxs H Q=>∃(a:Addr) (vs:List V) (ps:List (List Key×V)),xs=[.ref a]/\H a=some (.lst vs)/\zt3 H vs ps/\ps.length<sizeLine/\∀d,H d=none->Q (.ref d) (upd H d (.dT (yg3 [] ps)))) vg0:=by
 intro l vs H st d Q ok z e q;unfold vg0 at e;split at e
 ·rename_i m
  split at e
  ·rename_i hz
   cases q1:zw5 m with
   | none=>rw[q1] at e;cases e
   | some ps=>
     rw[q1] at e;cases e;obtain⟨v,r,e1,i1,i2⟩:=IsL.cons.mp z;obtain⟨a,us,ea,_,s1,i3⟩:=Is.lst_iff.mp i1;rw[IsL.nil.mp i2,ea] at e1;obtain⟨qs,g1,g2,g3,g4,g5⟩:=yr4 q1 i3;refine⟨a,us,qs,e1,s1,g1,by rw[g5];exact hz,λp hp=>?_⟩;obtain⟨kk,us',f1,f2,f3,f4,f5⟩:=yq7 g2 g3 g4 (kk:=[]) (vs:=[]) (us:=[]) rfl (IsL.nil.mpr rfl) rfl;have f1:(zk4 ps ([],[])).1=kk.map wp9:=f1;have f2:IsL c.K (λb=>¬W.mv b) H (zk4 ps ([],[])).2 us':=f2;have f4:yg3 [] qs=kk.zip us':=f4;refine q _ _ (Ext.laid hp) (zh3 ok hp) (Is.dct_iff.mpr ⟨p,us',rfl,⟨zs2 ok hp,hp⟩,IsL.ofImm f5 (f2.ext (Ext.laid hp) ok λ_ n=>n),.inr ⟨kk,by rw[f1],f3,?_⟩⟩);rw[zb4,f4]
  ·cases e
 ·cases e
def vl7(i j k:Nat)(ta:TA):TS:=λD σ H=>ta σ H λvs H1=>∃u v w,vs=[u,v,w]/\D.nx (((σ.set i (some u)).set j (some v)).set k (some w)) H1
def we5{i j k:Nat}{x y z:Str}{kt k2 pt2}(hc:X.calm=true)(hN:X.N.Nodup)(hi:X.N[i]?=some x)(hj:X.N[j]?=some y)(hk:X.N[k]?=some z)(hij:i≠j)(hik:i≠k)(hjk:j≠k)(hx:X.env.scope.names.lookup x=some .local)(hy:X.env.scope.names.lookup y=some .local)(hz:X.env.scope.names.lookup z=some .local)(ha:PA X [a,b,d] ta)(hw:swappedStores [.Tuple [.Name x px,.Name y py,.Name z pz] kt pt] (.Tuple [a,b,d] k2 pt2) X.env=pure (some [x,y,z]))(hs:swapsWithSole [.Tuple [.Name x px,.Name y py,.Name z pz] kt pt] (.Tuple [a,b,d] k2 pt2) pos.line X.env=pure false:=by rfl) :
 PS X (.Assign [.Tuple [.Name x px,.Name y py,.Name z pz] kt pt] (.Tuple [a,b,d] k2 pt2) pos) (vl7 i j k ta):=by
 intro A3 s σ H D I h;rw[exec_Assign_arm];refine Aa1 (wpAny_standAt ?_);rw[hs];refine Aa1 (Ac1 ?_);rw[if_neg (by decide)];refine Aa1 (Tuple_ (thn (ha _ A3 s σ H _ I h) λus s1 hI116=>?_));obtain⟨vs,H1,I1,r1,q1⟩:=hI116;obtain⟨u,v,w,e1,q1⟩:=q1;subst e1;obtain⟨u1,u2,u3,rfl,ru,rv,rw'⟩:∃u1 u2 u3,us=[u1,u2,u3]/\wq2 u u1/\wq2 v u2/\wq2 w u3:=by
  cases r1 with
  | cons p q=>
    cases q with
    | cons p' q'=>
      cases q' with
      | cons p'' q''=>cases q'';exact⟨_,_,_,rfl,p,p',p''⟩
 refine wpAny_newObj_type ?_ (by show 3<=sizeLine;decide);have I2:Inv X A3 σ H1 { s1 with heap:=s1.heap.push { cls:=.type "tuple",data:=.seq [u1,u2,u3].toArray } }:=I1.kept (t':=s1.toks) λb o e=>Ab0 _ e
 rw[hw];refine Aa1 (Ac1 ?_);show wpAny (model X.prog X.w) X.A (do rule "assign.swapped-stores";let items <-unpackItems (.ref s1.heap.objs.size) 3 none;assignInOrder [λv=>bindName X.env z v,λv=>bindName X.env y v,λv=>bindName X.env x v] items.reverse;pure Flow.next) _ _ _;refine Aa1 (Ai1 (Aa1 (unpackItems_tuple (items:=#[u1,u2,u3]) (I.ok.hd hc) (IsTup.new s1.heap _) λh' hx'=>?_)));have I3:=I2.kept (h':=h') (t':=s1.toks) λb o e=>hx' b o (An0 (Heap.lt_size e)) e
 show wpAny _ _ (assignInOrder [λv=>bindName X.env z v,λv=>bindName X.env y v,λv=>bindName X.env x v] [u3,u2,u1] >>= λ_=>pure Flow.next) _ _ _;refine Aa1 (assignInOrder_cons (wpAny_bindName (zr4 I3 hN hk (.inl hz) rw' (λs2 I4=>?_) (.inr hz))));refine assignInOrder_cons (wpAny_bindName (zr4 I4 hN hj (.inl hy) rv (λs3 I5=>?_) (.inr hy)));refine assignInOrder_cons (wpAny_bindName (zr4 I5 hN hi (.inl hx) ru (λs4 I6=>assignInOrder_nil (Ac1 ?_)) (.inr hx)));refine⟨_,H1,?_,q1⟩;have e:((σ.set k (some w)).set j (some v)).set i (some u)=((σ.set i (some u)).set j (some v)).set k (some w):=by
  have e1:(σ.set k (some w)).set j (some v)=(σ.set j (some v)).set k (some w):=List.set_comm _ _ (Ne.symm hjk);have e2:∀τ:St,(τ.set k (some w)).set i (some u)=(τ.set i (some u)).set k (some w):=λτ=>List.set_comm _ _ (Ne.symm hik)
  have e3:(σ.set j (some v)).set i (some u)=(σ.set i (some u)).set j (some v):=List.set_comm _ _ (Ne.symm hij);rw[e1,e2,e3]
 rw[e] at I6;exact I6
def vi1(S:Type)(i j k:Nat)(f:FnA S):FnS S:=λρ st=>(f ρ st).bind λl st1=>match l with
 | [d,e,h]=>(wr1 (put ρ i d) st1).bind λρ1 st2=>(wr1 (put ρ1 j e) st2).bind λρ2 st3=>(wr1 (put ρ2 k h) st3).bind λρ3 st4=>.ok (.nx ρ3) st4
 | _=>.bad
open H in
def yx8{i j k:Nat}{x y z:Str}{kt k2 pt2}(hc:X.calm=true)(hN:X.N.Nodup)(hi:X.N[i]?=some x)(hj:X.N[j]?=some y)(hk:X.N[k]?=some z)(hij:i≠j)(hik:i≠k)(hjk:j≠k)(hx:X.env.scope.names.lookup x=some .local)(hy:X.env.scope.names.lookup y=some .local)(hz:X.env.scope.names.lookup z=some .local)(ha:DB X c [a,b,d] f)(hw:swappedStores [.Tuple [.Name x px,.Name y py,.Name z pz] kt pt] (.Tuple [a,b,d] k2 pt2) X.env=pure (some [x,y,z]))(hs:swapsWithSole [.Tuple [.Name x px,.Name y py,.Name z pz] kt pt] (.Tuple [a,b,d] k2 pt2) pos.line X.env=pure false:=by rfl) :
 DS X c (.Assign [.Tuple [.Name x px,.Name y py,.Name z pz] kt pt] (.Tuple [a,b,d] k2 pt2) pos) (vi1 S i j k f):=
 (we5 hc hN hi hj hk hij hik hjk hx hy hz ha hw hs).imp λD σ H hI41=>by
  obtain⟨ρ,st,R,ok,w⟩:=hI41;refine⟨ρ,st,R,ok,za6 (za3.mp w) (λl st1 q vs H1 e ok1 zz=>?_) λx st1 q H' e ok'=>q H' (e.f0 R) ok'⟩;split at q
  ·rename_i d1 d2 d3
   obtain⟨v,r,e2,i2,i3⟩:=IsL.cons.mp zz;obtain⟨v',r',e3,i3,i4⟩:=IsL.cons.mp i3;obtain⟨v'',r'',e4,i4,i5⟩:=IsL.cons.mp i4;rw[e3,e4,IsL.nil.mp i5] at e2;obtain⟨ρ1,p1,q⟩:=zb2.mp (za3.mp q);obtain⟨ρ2,p2,q⟩:=zb2.mp (za3.mp q);obtain⟨ρ3,p3,q⟩:=zb2.mp (za3.mp q);obtain⟨h1,rfl⟩:=zp3 p1;obtain⟨h2,rfl⟩:=zp3 p2;obtain⟨h3,rfl⟩:=zp3 p3;have R1:=(R.ext ok e).setB h1 i2;have k1:wq8 (Av c σ ρ) (Av c (σ.set i (some v)) (ρ.set i (.bor d1))) H1 H1:=Frm.keepT (R.ext ok e) ok1 zg9;have R2:=R1.setB h2 (i3.mono k1);have k2:wq8 (Av c (σ.set i (some v)) (ρ.set i (.bor d1))) (Av c ((σ.set i (some v)).set j (some v')) ((ρ.set i (.bor d1)).set j (.bor d2))) H1 H1:=Frm.keepT R1 ok1 zg9;have R3:=R2.setB h3 ((i4.mono k1).mono k2);exact⟨v,v',v'',e2,q _ _ ((Ext.frm e).trans (zg9.trans (zg9.trans zg9))) ok1 R3⟩
  ·exact q.elim
def ve2{S:Type}{W:Wd S}(c:Dx W):List Str->List (Fn S)->List (TE×TE)
 | k::ks,f::fs=>(tC (.str k),tD c .R f)::ve2 c ks fs
 | _,_=>[]
def vj8(S:Type):List (Fn S)->FnA S
 | []=>vl0 S
 | f::fs=>wt1 S f (vj8 S fs)
theorem yp6:∀(ks:List Str) (fs:List (Fn S)) {σ:St} {H:Hp} {ρ:Rho} {st:S} {Q:List (V×V)->Hp->Prop},ks.length=fs.length->Rep c H σ ρ->W.ok st H->
 wpR (vj8 S fs ρ st) (λl st'=>∀vs H',Ext W H H'->W.ok st' H'->IsL c.K (λb=>¬W.mv b) H' l vs->Q ((ks.zip vs).map λkv=>(V.str kv.1,kv.2)) H') (λx st'=>∀H',Ext W H H'->W.ok st' H'->c.Ex x st' H')->yz1 (ve2 c ks fs) σ H Q
 | [],[],σ,H,ρ,st,Q,_,R,ok,w=>w [] H Ext.refl ok (IsL.nil.mpr rfl)
 | k::ks,f::fs,σ,H,ρ,st,Q,hl,R,ok,w=>by
   refine⟨ρ,st,R,ok,za6 (za3.mp w) (λd st1 q v H1 e ok1 z=>?_) λx st1 q=>q⟩;refine yp6 ks fs (by simpa using hl) (R.ext ok e) ok1 (za6 (za3.mp q) (λl st2 q vs H2 e2 ok2 z2=>?_) λx st2 q H2 e2 ok2=>q H2 (e.trans e2) ok2);exact q (v::vs) H2 (e.trans e2) ok2 (IsL.cons.mpr ⟨v,vs,rfl,z.toR.ext e2 ok1,z2⟩)
 | [],_::_,_,_,_,_,_,hl,_,_,_=>by cases hl
 | _::_,[],_,_,_,_,_,hl,_,_,_=>by cases hl
def wy6(x:Str):List Str->List D->Option D
 | k::ks,v::vs=>if k=x then some v else wy6 x ks vs
 | _,_=>none
theorem yc5:∀(kvs acc:List (Key×V)),(acc.map (·.1)++kvs.map (·.1)).Nodup->zz9 acc kvs=acc++kvs
 | [],acc,_=>by show acc=acc++[];simp
 | (k,v)::kvs,acc,h=>by
   have hk:∀p∈acc,p.1≠k:=λp hp e=>by
    have:=(Bv0.mp h).2.2 p.1 (List.mem_map_of_mem hp) k (by simp);exact this e
   have e:wt2 acc k v=acc++[(k,v)]:=by
    unfold wt2;rw[if_neg];intro z;obtain⟨p,hp,hq⟩:=List.any_eq_true.mp z;exact hk p hp (by simpa using hq)
   show zz9 (wt2 acc k v) kvs=_;rw[e,yc5 kvs (acc++[(k,v)]) (by simpa using h)];simp
def DKV(X:Cx){S:Type}{W:Wd S}(c:Dx W)(pos:Pos)(keys:List (Option Expr))(values:List Expr)(ks:List Str)(fs:List (Fn S)):Prop:=PPs X pos keys values (ve2 c ks fs)/\ks.length=fs.length
def wh5:DKV X c pos [] [] [] ([]:List (Fn S)):=⟨xj9,rfl⟩
def ye1{k:Str}{j}(hv:DE X c .R v f)(h:DKV X c pos keys values ks fs):DKV X c pos (some (.Constant (.str k) j p)::keys) (v::values) (k::ks) (f::fs):=
 ⟨ym8 zz3 hv h.1,by simp[h.2]⟩
def vj4(S:Type)(ks:List Str)(fs:List (Fn S))(fk:Fn S):Fn S:=λρ st=>(vj8 S fs ρ st).bind λl st1=>(fk ρ st1).bind λd st2=>match d with
 | .str x=>if D.immL l=true then wr1 (wy6 x ks l) st2 else .bad
 | _=>.bad
theorem yz4{K:PySem.W.Frag}{A:Addr->Prop}{H:Hp}{x:Str}:∀{ks:List Str} {l:List D} {vs:List V} {d:D},wy6 x ks l=some d->IsL K A H l vs->D.immL l=true->∃v,wv3 ((ks.zip vs).map λkv=>((Sum.inr kv.1:Key),kv.2)) (Sum.inr x:Key)=some v/\Is K A H d v/\d.imm=true
 | [],l,vs,d,e,_,_=>by cases l<;>cases e
 | k::ks,[],vs,d,e,_,_=>by cases e
 | k::ks,y::l,vs,d,e,h,m=>by
   obtain⟨v,r,e1,i1,i2⟩:=IsL.cons.mp h;subst e1;have m':y.imm=true/\D.immL l=true:=by simpa [D.immL] using m
   unfold wy6 at e;by_cases hk:k=x
   ·rw[if_pos hk] at e;cases e
    subst hk;exact⟨v,zr2 rfl,i1,m'.1⟩
   ·rw[if_neg hk] at e
    obtain⟨v',g1,g2,g3⟩:=yz4 e i2 m'.2;refine⟨v',?_,g2,g3⟩;show wv3 (((Sum.inr k:Key),v)::(ks.zip r).map λkv=>((Sum.inr kv.1:Key),kv.2)) (Sum.inr x:Key)=_;rw[zr3 (λz=>hk (Sum.inr.inj z))];exact g1
theorem yp2:∀{ks:List Str} {vs:List V},ks.Nodup->((ks.zip vs).map ((λx=>x.1) ∘ λkv=>((Sum.inr kv.1:Key),kv.2))).Nodup
 | [],_,_=>by simp
 | k::ks,[],_=>by simp
 | k::ks,v::vs,h=>by
   obtain⟨h1,h2⟩:=Bi0.mp h;show ((Sum.inr k:Key)::(ks.zip vs).map ((λx=>x.1) ∘ λkv=>((Sum.inr kv.1:Key),kv.2))).Nodup;refine Bi0.mpr ⟨λhm=>?_,yp2 h2⟩;obtain⟨⟨a,b⟩,hab,e⟩:=Bd0.mp hm;have e:a=k:=Sum.inr.inj e;subst e;exact h1 (List.of_mem_zip hab).1
open H in
def wi0(hu:X.A.units+1<cLine)(h:DKV X c dpos keys values ks fs)(hall:keys.all (·.isSome)=true)(hl:keys.length=values.length)(h0:keys≠[])(h15:keys.length<=15)(hks:ks.length<=15)(hnd:ks.Nodup)(hk:DE X c ga k fk)(hs:vk0 k):DE X c g (.Subscript (.Dict keys values dpos) k pos) (vj4 S ks fs fk):=
 (zx3 hu (xk8 h.1 hall hl h0 h15) hk hs).imp λσ H Q hI42=>by
  obtain⟨ρ,st,R,ok,w⟩:=hI42;intro p hp;have np:¬W.mv p:=zs2 ok hp;refine yp6 ks fs h.2 (R.ext ok (Ext.laid hp)) (zh3 ok hp) (za6 (za3.mp w) (λl st1 q vs H2 e2 ok2 z2=>?_) λx st1 q H2 e2 ok2=>q H2 ((Ext.laid hp).trans e2) ok2);have hp2:H2 p=some (.dK []):=e2 p _ zb4 np;refine⟨hp2,(ks.zip vs).map λkv=>((Sum.inr kv.1:Key),kv.2),by rw[Bg0];rfl,by rw[Aa0,List.length_zip];omega,?_⟩;have mk:zz9 [] ((ks.zip vs).map λkv=>((Sum.inr kv.1:Key),kv.2))=(ks.zip vs).map λkv=>((Sum.inr kv.1:Key),kv.2):=by
   rw[yc5 _ []]
   ·rfl
   ·show (((ks.zip vs).map λkv=>((Sum.inr kv.1:Key),kv.2)).map (·.1)).Nodup
    rw[Bg0];exact yp2 hnd
  rw[mk];have ex:Ext W H (upd H2 p (.dK ((ks.zip vs).map λkv=>((Sum.inr kv.1:Key),kv.2)))):=λb o hb nm=>by
   have b1:b≠p:=zb7 hb hp;rw[zb3 b1];exact e2 b o (by rw[zb3 b1];exact hb) nm
  have ok3:=zw6 (o:=.dK ((ks.zip vs).map λkv=>((Sum.inr kv.1:Key),kv.2))) ok2 np;have R3:=R.ext ok ex;refine⟨ρ,st1,R3,ok3,za6 (za3.mp q) (λd st2 q v H4 e4 ok4 z4=>?_) λx st2 q H4 e4 ok4=>q H4 (ex.trans e4) ok4⟩;split at q
  ·rename_i x
   split at q
   ·rename_i im
    obtain⟨dd,e5,q⟩:=zb2.mp q;have k1:wq8 (λ_=>False) (λb=>¬W.mv b/\H b=Option.none) H2 H4:=⟨λb u e sy=>by
     have b1:b≠p:=λz=>by
      subst z;rw[hp2] at e;cases e;rcases sy with⟨_,y⟩ | ⟨_,_,y⟩<;>cases y
     refine e4 b _ (by rw[zb3 b1];exact e) λm=>?_
     obtain⟨o',h',n1,n2⟩:=W.live st1 H2 b ok2 m;rw[e] at h';cases h';rcases sy with⟨y,z⟩ | ⟨y1,y2,z⟩
     ·exact n1 y z
     ·exact n2 y1 y2 z,λb o f=>f.elim⟩
    have z3:IsL c.K (λ_=>False) H2 l vs:=IsL.ofImm im z2;obtain⟨v',g1,g2,g3⟩:=yz4 e5 (z3.mono k1) im;have zx:Is c.K (λb=>¬W.mv b) H4 (.str x) v:=z4.toR;refine⟨p,v',rfl,?_,q v' H4 (ex.trans e4) ok4 ((New.val (R3.ext ok3 e4) (show New c H4 H4 dd v' from Is.ofImm g3 g2) g).back (ex.trans e4) ok4)⟩;rw[Is.str_iff.mp zx,<-g1];exact wu9.k (k:=(Sum.inr x:Key)) (e4 p _ zb4 np)
   ·exact q.elim
  ·exact q.elim
def wn7{A:Around}{k:Nat}(hr:wr2 k A):A.in1.units+1<cLine:=by
 have:=hr.units;show A.units+1+1<cLine;omega
def xp6(hu:X.A.units+1<cLine)(ha:DE X c ga a fa)(hb:DE X c gb b fb)(hm:behindInMarks .NotIn b=false:=by rfl):DT X c (.Compare a [.NotIn] [b] pos) (fB S (f2 S (wz1 true) fa fb)):=
 (xz4 (xk9 hu ha hb) hm).imp λσ H Q q=>by
  have q':tB (tD c .R (f2 S (wz1 true) fa fb)) σ H Q:=yp7 q;exact xi0 (ga:=ga) (gb:=gb) q'
end
abbrev Dr:=List Int×Int
def stD(l:Addr)(t:Int):List (Key×V):=[(Sum.inr "cells",.ref l),(Sum.inr "turn",.int t)]
def WdS(p l:Addr):Wd Dr where
 ok:=λst H=>H p=some (.dK (stD l st.2))/\H l=some (.lst (st.1.map V.int))/\st.1≠[]/\st.1.length<=63/\0<=st.2
 mv:=λb=>b=p\/b=l
 h:=.ref p
 stay:=λst H H' ⟨a,b,c⟩ k=>⟨k p _ (.inl rfl) a,k l _ (.inr rfl) b,c⟩
 live:=λst H b hI43 m=>by
  obtain⟨a,c,_⟩:=hI43;rcases m with m | m
  ·subst m;exact⟨_,a,(λu z=>by cases z),λob u z=>by cases z⟩
  ·subst m;exact⟨_,c,(λu z=>by cases z),λob u z=>by cases z⟩
def vh4(cell turn:Int):Int:=(cell % 2147483629+turn*turn*7919+11)*48271 % 2147483647
def vs4(cell turn:Int):Int:=vh4 cell turn*vh4 cell turn % 2147483587
def vs3(cell turn:Int):Int:=(vs4 cell turn+turn*104729)*39373 % 2147483629 / 64
def plc(st:Dr):Nat:=((st.2+1) % (st.1.length:Int)).toNat
def wr7(l:List D)(st:Dr):Res Dr D:=match l with
 | [.int many]=>if 0<many/\many<1073741824/\st.2<2 ^ 40 then
  (if 1000000000000000000<=st.1.getD (plc st) 0 then .ok (.int (st.1.getD (plc st) 0 % many)) (st.1.set (plc st) (st.1.getD (plc st) 0 / many),st.2+1)
   else .ok (.int (vs3 (st.1.getD (plc st) 0) (st.2+1) % many)) (st.1,st.2+1)) else .bad
 | _=>.bad
def ve6:¬((Sum.inr ("cells" : Str)):Key)=Sum.inr ("turn" : Str):=by decide +kernel
def xu1{t:Int}:wv3 (stD l t) (Sum.inr "cells" : Key)=some (.ref l):=by
 unfold stD;exact zr2 rfl
def xi2{t:Int}:wv3 (stD l t) (Sum.inr "turn" : Key)=some (.int t):=by
 unfold stD;rw[zr3 (λz=>ve6 z)];exact zr2 rfl
def wj8{t u:Int}:wt2 (stD l t) (Sum.inr "turn" : Key) (.int u)=stD l u:=by
 unfold wt2;rw[zy7,xi2];refine(if_pos (show (some (V.int t)).isSome=true from rfl)).trans ?_;unfold stD;simp only[Aq0,List.map_nil];rw[if_neg (λz=>ve6 z)];simp
structure Bn(mg:Str->Option Value):Prop where
 len:mg "len" = none
 divmod:mg "divmod" = none
 list:mg "list" = none
 tuple:mg "tuple" = none
 int:mg "int" = none
 bool:mg "bool" = none
 str:mg "str" = none
 dict:mg "dict" = none
 isinstance:mg "isinstance" = none
 all:mg "all" = none
 any:mg "any" = none
 sum:mg "sum" = none
 zip:mg "zip" = none
 enumerate:mg "enumerate" = none
 range:mg "range" = none
 sorted:mg "sorted" = none
 min:mg "min" = none
 max:mg "max" = none
 abs:mg "abs" = none
 reversed:mg "reversed" = none
def zs6(ns:List Int):List Int:=if ns=[] then [7] else ns
def yw0(K:PySem.W.Frag):Sp:=λvs H Q _=>∃(a:Addr) (ns:List Int),vs=[.ref a]/\SqL K H a (ns.map V.int)/\ns.length<=63/\
 ∀(p l:Addr) (H':Hp),ww1 H H'->H p=none->H l=none->H' p=some (.dK (stD l 0))->H' l=some (.lst ((zs6 ns).map V.int))->Q (.ref p) H'
def vq4{ns:List Int}(h:ns.length<=63):vb6 (ns.map V.int) none (some 63)=ns.map V.int:=by
 unfold vb6;have e:HT.sIx (ns.map V.int).length (ns.map V.int).length (some 63)=(ns.map V.int).length:=by
  have:HT.sIx (ns.map V.int).length (ns.map V.int).length (some ((63:Nat):Int))=min 63 (ns.map V.int).length:=HT.sIx_nat _ _ _;rw[show ((63:Nat):Int)=(63:Int) from rfl] at this;rw[this,Aa0];omega
 rw[e];show ((ns.map V.int).drop 0).take ((ns.map V.int).length-0)=_;rw[Cm0,Nat.sub_zero,Bb0]
theorem xo4{K:PySem.W.Frag}{A:Addr->Prop}{H:Hp}:∀ns:List Int,IsL K A H (ns.map D.int) (ns.map V.int)
 | []=>IsL.nil.mpr rfl
 | n::ns=>IsL.cons.mpr ⟨_,_,rfl,Is.int_iff.mpr rfl,xo4 ns⟩
theorem yt8:∀ns:List Int,D.depL (ns.map D.int)<=1
 | []=>by simp[D.depL]
 | n::ns=>by
   have:=yt8 ns;simp only[Aq0,D.depL,D.dep];omega
def yd6(ns:List Int):D.dep (.lst (ns.map D.int))<=30:=by
 have:=yt8 ns;simp only[D.dep];omega
def wm4:zz9 [] [((Sum.inr "cells" : Key),.ref l),((Sum.inr "turn" : Key),.int 0)]=stD l 0:=by
 show wt2 (wt2 [] (Sum.inr "cells" : Key) (.ref l)) (Sum.inr "turn" : Key) (.int 0)=_;have e1:wt2 [] (Sum.inr "cells" : Key) (.ref l)=[((Sum.inr "cells" : Key),.ref l)]:=rfl;rw[e1];unfold wt2;rw[zy7,zr3 (λz=>ve6 z)];rfl
def spLaw(K:PySem.W.Frag):Sp:=λvs H Q _=>∃(a:Addr) (ns:List Int),vs=[.ref a]/\SqL K H a (ns.map V.int)/\ns.length<=63/\∀H',Q (.bl true) H'
def rhoL(n:Nat):Rho:=.no::.hnd::List.replicate (n-2) .no
def exL{X:Cx}(K:PySem.W.Frag)(F:FnS Dr):TS:=λD σ H=>∃p l,tS (cxS (WdS p l) K (λ_=>none)) F D σ H
def we3{X:Cx}{K:PySem.W.Frag}{ss:List Stmt}{F:FnS Dr}(h:∀p l,DSs X (cxS (WdS p l) K (λ_=>none)) ss F):PSs X ss (exL (X:=X) K F):=λA3 s σ H D I ⟨p,l,q⟩=>h p l A3 s σ H D I q
def vn0{K:PySem.W.Frag}{H:Hp}{p l a:Addr}{m:Nat}:Rep (cxS (WdS p l) K (λ_=>none)) H (some (.ref a)::some (.ref p)::List.replicate m none) (rhoL (m+2)) where
 len:=by simp[rhoL]
 frame:=λb o e=>by cases e
 slot:=λi s h=>by
  unfold rhoL at h
  match i with
  | 0=>cases h;trivial
  | 1=>cases h;rfl
  | i+2=>
    have h:(List.replicate (m+2-2) Sl.no)[i]?=some s:=by simpa using h
    rw[List.getElem?_replicate] at h;split at h
    ·cases h;trivial
    ·cases h
 avl:=λb h=>h.elim
 uniq:=λi j b d e h1 h2 _ _=>by
  unfold rhoL at h1
  match i with
  | 0=>cases h1
  | 1=>cases h1
  | i+2=>
    have h1:(List.replicate (m+2-2) Sl.no)[i]?=some (.own d):=by simpa using h1
    rw[List.getElem?_replicate] at h1;split at h1
    ·cases h1
    ·cases h1
section
variable{S α β:Type}{E:Exn->S->Prop}{st:S}
open H in
def wpB(h:∀d st1,wpR (k d st1) Q E↔P d st1):wpR (r.bind k) Q E↔wpR r P E:=by
 rw[za3];exact iff_of_eq (congrArg (λz=>wpR r z E) (funext λd=>funext λst1=>propext (h d st1)))
def zx7{P:α->Prop}{a:α}{R:Prop}(k:R↔P a):R↔∃b,some a=some b/\P b:=⟨λq=>⟨a,rfl,k.mp q⟩,λh=>by obtain⟨_,e,q⟩:=h;cases e;exact k.mpr q⟩
def zx8{P:α->Prop}:False↔∃b,(none:Option α)=some b/\P b:=⟨False.elim,λh=>by obtain⟨_,e,q⟩:=h;cases e⟩
def vj6{P:Bool->Prop}{a:Bool}{R:Prop}(k:R↔P a):R↔∃b,D.bl a=.bl b/\P b:=⟨λq=>⟨a,rfl,k.mp q⟩,λh=>by obtain⟨_,e,q⟩:=h;cases e;exact k.mpr q⟩
def wo2{P:Int->Prop}{a:Int}{R:Prop}(k:R↔P a):R↔∃b,D.int a=.int b/\P b:=⟨λq=>⟨a,rfl,k.mp q⟩,λh=>by obtain⟨_,e,q⟩:=h;cases e;exact k.mpr q⟩
def wo1{P:Str->Prop}{a:Str}{R:Prop}(k:R↔P a):R↔∃b,D.str a=.str b/\P b:=⟨λq=>⟨a,rfl,k.mp q⟩,λh=>by obtain⟨_,e,q⟩:=h;cases e;exact k.mpr q⟩
def wz6{c:β->α}{d:α}{P:β->Prop}(h:∀b,d=c b->False):False↔∃b,d=c b/\P b:=⟨False.elim,λg=>by obtain⟨b,e,_⟩:=g;exact h b e⟩
def wa6{γ:Type}{c:β->α}{d:α}{P:β->γ->Prop}(h:∀b,d=c b->False):False↔∃b g,d=c b/\P b g:=⟨False.elim,λg=>by obtain⟨b,_,e,_⟩:=g;exact h b e⟩
def xp3{γ:Type}{P:Int->γ->Prop}{a:Int}{R:Prop}(k:R↔∃g,P a g):R↔∃b g,D.int a=.int b/\P b g:=⟨λh=>by obtain⟨g,q⟩:=k.mp h;exact⟨a,g,rfl,q⟩,λh=>by obtain⟨_,g,e,q⟩:=h;cases e;exact k.mpr ⟨g,q⟩⟩
def yy9{c:Prop}[Decidable c]:wpR (if c then r else .bad) Q E↔c/\wpR r Q E:=by
 by_cases h:c
 ·rw[if_pos h];exact⟨λq=>⟨h,q⟩,λq=>q.2⟩
 ·rw[if_neg h];exact⟨λq=>q.elim,λq=>h q.1⟩
def yv2:wpR ((wr1 o st).bind λρ1 st2=>Res.ok (Fl.nx ρ1) st2) Q E↔∃ρ1,o=some ρ1/\Q (.nx ρ1) st:=by rw[za3,zb2];exact Iff.rfl
def ym0{o:Option Rho}{k:Rho->S->Res S β}{Q:β->S->Prop}{P:Rho->Prop}(h:∀ρ1,wpR (k ρ1 st) Q E↔P ρ1):wpR ((wr1 o st).bind k) Q E↔∃ρ1,o=some ρ1/\P ρ1:=by
 rw[za3,zb2];exact exists_congr λρ1=>and_congr Iff.rfl (h ρ1)
end
theorem xy4{d:D}{b:Bool}:d.bool?=some b↔d=.bl b:=by
 cases d with
 | bl a=>exact⟨λe=>congrArg D.bl (Option.some.inj e),λe=>congrArg D.bool? e⟩
 | _=>exact⟨λe=>(by cases e),λe=>(by cases e)⟩
theorem int_iff{d:D}{b:Int}:d.int?=some b↔d=.int b:=by
 cases d with
 | int a=>exact⟨λe=>congrArg D.int (Option.some.inj e),λe=>congrArg D.int? e⟩
 | _=>exact⟨λe=>(by cases e),λe=>(by cases e)⟩
section
variable{S:Type}{E:Exn->S->Prop}{ρ:Rho}{st:S}
section
variable{Q:D->S->Prop}{f f1 f2' f3 fk:Fn S}
theorem wp_fAndV:wpR (vj5 S f1 f2' ρ st) Q E↔wpR (f1 ρ st) (λd st1=>∃b,d=.bl b/\(if b=true then wpR (f2' ρ st1) Q E else Q (.bl false) st1)) E:=wpB λd st1=>by
 cases d with
 | bl b=>cases b<;>exact vj6 Iff.rfl
 | _=>exact wz6 λb e=>by cases e
theorem wp_fNotV:wpR (vj3 S f ρ st) Q E↔wpR (f ρ st) (λd st1=>∃b,d=.bl b/\Q (.bl (!b)) st1) E:=wpB λd st1=>by
 cases d with
 | bl b=>exact vj6 Iff.rfl
 | _=>exact wz6 λb e=>by cases e
theorem wp_fNeg:wpR (vt1 S f ρ st) Q E↔wpR (f ρ st) (λd st1=>∃i,d=.int i/\Q (.int (-i)) st1) E:=wpB λd st1=>by
 cases d with
 | int b=>exact wo2 Iff.rfl
 | _=>exact wz6 λb e=>by cases e
def wp_pSo{Q:Option Int->S->Prop}:wpR (pSo S f ρ st) Q E↔wpR (f ρ st) (λd st1=>∃i,d=.int i/\Q (some i) st1) E:=wpB λd st1=>by
 rw[za3,zb2];exact exists_congr λi=>and_congr int_iff Iff.rfl
def wp_fB{Q:Bool->S->Prop}:wpR (fB S f ρ st) Q E↔wpR (f ρ st) (λd st1=>∃b,d=.bl b/\Q b st1) E:=wpB λd st1=>by
 rw[zb2];exact exists_congr λi=>and_congr xy4 Iff.rfl
theorem wp_fDisp{ks:List Str}{fs:List (Fn S)}:wpR (vj4 S ks fs fk ρ st) Q E↔wpR (vj8 S fs ρ st) (λl st1=>wpR (fk ρ st1) (λd st2=>∃x,d=.str x/\D.immL l=true/\wpR (wr1 (wy6 x ks l) st2) Q E) E) E:=wpB λl st1=>wpB λd st2=>by
 cases d with
 | str x=>exact wo1 yy9
 | _=>exact wz6 λb e=>by cases e
theorem xr2{r:Option D}{R1 R0:Res S D}:wpR (match r with
 | some (.bl true)=>R1
 | some (.bl false)=>R0
 | _=>.bad) Q E↔∃b,r=some (.bl b)/\(if b=true then wpR R1 Q E else wpR R0 Q E):=by
 cases r with
 | none=>exact wz6 (c:=λb=>some (D.bl b)) λb e=>by cases e
 | some d=>cases d with
   | bl b=>cases b<;>exact⟨λq=>⟨_,rfl,q⟩,λh=>by obtain⟨_,e,q⟩:=h;cases e;exact q⟩
   | _=>exact wz6 (c:=λb=>some (D.bl b)) λb e=>by cases e
def wp_fChain{o o':D->D->Option D}:wpR (xb8 S o o' f1 f2' f3 ρ st) Q E↔wpR (f1 ρ st) (λd1 st1=>wpR (f2' ρ st1) (λd2 st2=>∃b,o d1 d2=some (.bl b)/\(if b=true then wpR (f3 ρ st2) (λd3 st3=>wpR (wr1 (o' d2 d3) st3) Q E) E else Q (.bl false) st2)) E) E:=wpB λd1 st1=>wpB λd2 st2=>by
 refine xr2.trans ?_;rw[za3];exact Iff.rfl
end
section
variable{Q:Fl->S->Prop}{F G B:FnS S}{t:FnT S}{f fk fv:Fn S}{i j k:Nat}
theorem wp_sMt{o:List D->D->Option (List D)}:wpR (sMt S i o f ρ st) Q E↔∃l,wq5 ρ i=some l/\wpR (f ρ st) (λd st1=>∃l',o l d=some l'/\Q (.nx (ρ.set i (.own (.lst l')))) st1) E:=by
 unfold sMt;cases wq5 ρ i with
 | none=>exact zx8
 | some l=>
   refine zx7 (wpB λd st1=>?_);rw[za3,zb2];exact Iff.rfl
theorem wp_sItem:wpR (vi2 S i fk fv ρ st) Q E↔wpR (fv ρ st) (λv st1=>∃l,wq5 ρ i=some l/\wpR (fk ρ st1) (λd st2=>∃j n,d=.int j/\ixN l.length j=some n/\v.imm=true/\Q (.nx (ρ.set i (.own (.lst (l.set n v))))) st2) E) E:=wpB λv st1=>by
 cases wq5 ρ i with
 | none=>exact zx8
 | some l=>
   refine zx7 (wpB λd st2=>?_);cases d with
   | int j=>
     refine xp3 ?_;dsimp only;cases ixN l.length j with
     | none=>exact zx8
     | some n=>exact zx7 yy9
   | _=>exact wa6 λb e=>by cases e
theorem wp_sDPut:wpR (xz0 S i fk fv ρ st) Q E↔wpR (fv ρ st) (λv st1=>∃ks vs,wr6 ρ i=some (ks,vs)/\wpR (fk ρ st1) (λd st2=>∃kk,zc7 d=some kk/\v.imm=true/\ks.length<sizeLine/\Q (.nx (ρ.set i (.own (.dct (.non::(ws0 kk v ks vs).1) (ws0 kk v ks vs).2)))) st2) E) E:=wpB λv st1=>by
 cases wr6 ρ i with
 | none=>exact⟨False.elim,λh=>by obtain⟨_,_,e,_⟩:=h;cases e⟩
 | some l=>
   obtain⟨ks,vs⟩:=l;refine(wpB λd st2=>?_).trans ⟨λq=>⟨ks,vs,rfl,q⟩,λh=>by obtain⟨_,_,e,q⟩:=h;cases e;exact q⟩;cases zc7 d with
   | none=>exact zx8
   | some kk=>exact zx7 (yy9.trans and_assoc)
theorem wp_sPar{fa:FnA S}:wpR (vr4 S i j fa ρ st) Q E↔wpR (fa ρ st) (λl st1=>match l with
 | [d,e]=>∃ρ1,put ρ i d=some ρ1/\∃ρ2,put ρ1 j e=some ρ2/\Q (.nx ρ2) st1
 | _=>False) E:=wpB λl st1=>by
 match l with
 | []=>exact Iff.rfl
 | [_]=>exact Iff.rfl
 | [d,e]=>exact ym0 λ_=>yv2
 | _::_::_::_=>exact Iff.rfl
theorem wp_sPar3{fa:FnA S}:wpR (vi1 S i j k fa ρ st) Q E↔wpR (fa ρ st) (λl st1=>match l with
 | [d,e,h]=>∃ρ1,put ρ i d=some ρ1/\∃ρ2,put ρ1 j e=some ρ2/\∃ρ3,put ρ2 k h=some ρ3/\Q (.nx ρ3) st1
 | _=>False) E:=wpB λl st1=>by
 match l with
 | []=>exact Iff.rfl
 | [_]=>exact Iff.rfl
 | [_,_]=>exact Iff.rfl
 | [d,e,h]=>exact ym0 λ_=>ym0 λ_=>yv2
 | _::_::_::_::_=>exact Iff.rfl
end
end
section
variable{S α β:Type}{Q:α->S->Prop}{E:Exn->S->Prop}{ρ:Rho}{st:S}
def wp_ok{a:α}:wpR (Res.ok a st) Q E↔Q a st:=Iff.rfl
def wp_bad:wpR (Res.bad:Res S α) Q E↔False:=Iff.rfl
def wp_some{a:α}:wpR (wr1 (some a) st) Q E↔Q a st:=Iff.rfl
def wp_none:wpR (wr1 (none:Option α) st) Q E↔False:=Iff.rfl
end
section
variable{S:Type}{E:Exn->S->Prop}{ρ:Rho}{st:S}
variable{Q:Fl->S->Prop}{F G B:FnS S}{t:FnT S}{f:Fn S}{i j:Nat}
theorem zb9:wpR (vh3 S F G ρ st) Q E↔wpR (F ρ st) (λfl st1=>match fl with
 | .nx ρ1=>wpR (G ρ1 st1) Q E
 | .rt d=>Q (.rt d) st1
 | .bk r=>Q (.bk r) st1
 | .ct r=>Q (.ct r) st1) E:=by
 unfold vh3;rw[za3];cases F ρ st with
 | bad=>exact Iff.rfl
 | exc x s=>exact Iff.rfl
 | ok fl s=>cases fl<;>exact Iff.rfl
def wp_sNil:wpR (vr5 S ρ st) Q E↔Q (.nx ρ) st:=Iff.rfl
def wp_sSet:wpR (vi0 S i f ρ st) Q E↔wpR (f ρ st) (λd st1=>∃ρ1,putN ρ i d=some ρ1/\Q (.nx ρ1) st1) E:=by
 unfold vi0;rw[za3];have:∀d st1,wpR ((wr1 (putN ρ i d) st1).bind λρ' st2=>Res.ok (Fl.nx ρ') st2) Q E↔∃ρ1,putN ρ i d=some ρ1/\Q (.nx ρ1) st1:=λd st1=>by rw[za3,zb2];exact Iff.rfl
 simp only[this]
def wp_sSetB:wpR (va1 S i f ρ st) Q E↔wpR (f ρ st) (λd st1=>∃ρ1,put ρ i d=some ρ1/\Q (.nx ρ1) st1) E:=by
 unfold va1;rw[za3];have:∀d st1,wpR ((wr1 (put ρ i d) st1).bind λρ' st2=>Res.ok (Fl.nx ρ') st2) Q E↔∃ρ1,put ρ i d=some ρ1/\Q (.nx ρ1) st1:=λd st1=>by rw[za3,zb2];exact Iff.rfl
 simp only[this]
def wp_sAsg{g:FnG}:wpR (vm9 S g f ρ st) Q E↔wpR (f ρ st) (λd st1=>∃ρ1,g d ρ=some ρ1/\Q (.nx ρ1) st1) E:=by
 unfold vm9;rw[za3];have:∀d st1,wpR ((wr1 (g d ρ) st1).bind λρ' st2=>Res.ok (Fl.nx ρ') st2) Q E↔∃ρ1,g d ρ=some ρ1/\Q (.nx ρ1) st1:=λd st1=>by rw[za3,zb2];exact Iff.rfl
 simp only[this]
open H in
def wp_sIf:wpR (sIf S t F G ρ st) Q E↔wpR (t ρ st) (λb st1=>if b=true then wpR (F ρ st1) Q E else wpR (G ρ st1) Q E) E:=by
 unfold sIf;rw[za3];refine iff_of_eq (congrArg (λz=>wpR (t ρ st) z E) (funext λb=>funext λst1=>propext ?_));cases b<;>exact Iff.rfl
open H in
def wp_sRet:wpR (vm5 S f ρ st) Q E↔wpR (f ρ st) (λd st1=>(d.imm=true\/d.flat=true)/\Q (.rt d) st1) E:=by
 unfold vm5;rw[za3];refine iff_of_eq (congrArg (λz=>wpR (f ρ st) z E) (funext λb=>funext λst1=>propext ?_));by_cases h:b.imm=true\/b.flat=true
 ·rw[if_pos h];exact⟨λq=>⟨h,q⟩,λq=>q.2⟩
 ·rw[if_neg h];exact⟨λq=>q.elim,λq=>h q.1⟩
def wp_sRetV:wpR (ve8 S i ρ st) Q E↔∃d,own? ρ i=some d/\Q (.rt d) st:=by
 unfold ve8;rw[za3,zb2];exact Iff.rfl
def wp_sFor{fz:List Nat}{fi:FnI S}{g:FnG}:wpR (vm7 S fz fi g B ρ st) Q E↔wpR (fi (frz fz ρ) st) (λl st1=>wpR (wz5 S g B l (frz fz ρ) st1) Q E) E:=by unfold vm7;rw[za3]
def wp_sBad:wpR (vv3 S ρ st) Q E↔False:=Iff.rfl
theorem yv3(I:Nat->Rho->S->Prop):∀{l:List D} {ρ:Rho} {st:S} (n:Nat),I n ρ st->
 (∀i d ρ st,l[i]?=some d->I (n+i) ρ st->∃ρ1,g d ρ=some ρ1/\wpR (B ρ1 st) (λfl st'=>match fl with
  | .nx ρ2=>I (n+i+1) ρ2 st'
  | .ct ρ2=>I (n+i+1) ρ2 st'
  | .bk ρ2=>Q (.nx ρ2) st'
  | .rt d=>Q (.rt d) st') E)->(∀ρ st,I (n+l.length) ρ st->Q (.nx ρ) st)->wpR (wz5 S g B l ρ st) Q E
 | [],ρ,st,n,h0,_,he=>he ρ st h0
 | d::l,ρ,st,n,h0,hs,he=>by
   obtain⟨ρ1,e1,q⟩:=hs 0 d ρ st rfl h0;unfold wz5;rw[e1];refine za3.mpr (wp_some.mpr (za3.mpr (za6 q (λfl st' z=>?_) λx st' z=>z)));have go:∀ρ2,I (n+1) ρ2 st'->wpR (wz5 S g B l ρ2 st') Q E:=λρ2 z=>yv3 I (n+1) z (λi d ρ st h h'=>by
    have:=hs (i+1) d ρ st (by simpa using h) (by rw[show n+(i+1)=n+1+i by omega];exact h');rw[show n+(i+1)=n+1+i by omega] at this;exact this) λρ st h=>he ρ st (by rw[Ax0,show n+(l.length+1)=n+1+l.length by omega];exact h)
   cases fl with
   | nx ρ2=>exact go ρ2 z
   | ct ρ2=>exact go ρ2 z
   | bk ρ2=>exact z
   | rt d=>exact z
end
section
variable{S:Type}{E:Exn->S->Prop}{ρ:Rho}{st:S}{Q:D->S->Prop}{f f1 f2' f3:Fn S}{i:Nat}{t:FnT S}
def wp_fC{d:D}:wpR (fC S d ρ st) Q E↔Q d st:=Iff.rfl
def wp_fV:wpR (fV S i ρ st) Q E↔wpR (wr1 (rd ρ i) st) Q E:=Iff.rfl
def wp_fVk:wpR (fVk S i ρ st) Q E↔wpR (wr1 (kp ρ i) st) Q E:=Iff.rfl
open H in
def wp_fI:wpR (fI S f ρ st) Q E↔wpR (f ρ st) (λd st1=>d.imm=true/\Q d st1) E:=by
 unfold fI;rw[za3];refine iff_of_eq (congrArg (λz=>wpR (f ρ st) z E) (funext λb=>funext λst1=>propext ?_));by_cases h:b.imm=true
 ·rw[if_pos h];exact⟨λq=>⟨h,q⟩,λq=>q.2⟩
 ·rw[if_neg h];exact⟨λq=>q.elim,λq=>h q.1⟩
def wp_f2{o:D->D->Option D}:wpR (f2 S o f1 f2' ρ st) Q E↔wpR (f1 ρ st) (λd1 st1=>wpR (f2' ρ st1) (λd2 st2=>wpR (wr1 (o d1 d2) st2) Q E) E) E:=by
 unfold f2;rw[za3];simp only[za3]
def wp_fA{o:List D->Option D}{fa:FnA S}:wpR (fA S o fa ρ st) Q E↔wpR (fa ρ st) (λl st1=>wpR (wr1 (o l) st1) Q E) E:=by unfold fA;rw[za3]
def wp_aNil{Q:List D->S->Prop}:wpR (vl0 S ρ st) Q E↔Q [] st:=Iff.rfl
def wp_aCons{Q:List D->S->Prop}{r:FnA S}:wpR (wt1 S f r ρ st) Q E↔wpR (f ρ st) (λd st1=>wpR (r ρ st1) (λl st2=>Q (d::l) st2) E) E:=by
 unfold wt1;rw[za3];simp only[za3];exact Iff.rfl
open H in
def wp_fCall{F:List D->Res Unit D}{fa:FnA S}:wpR (vd3 S F fa ρ st) Q E↔wpR (fa ρ st) (λl st1=>wpR (F l) (λd _=>Q d st1) λ_ _=>False) E:=by
 unfold vd3;rw[za3];refine iff_of_eq (congrArg (λz=>wpR (fa ρ st) z E) (funext λb=>funext λst1=>propext ?_));cases F b<;>exact Iff.rfl
open H in
def wp_fCallS{F:List D->S->Res S D}{fa:FnA S}:wpR (yt6 S F i fa ρ st) Q E↔ρ[i]?=some .hnd/\wpR (fa ρ st) (λl st1=>wpR (F l st1) Q λ_ _=>False) E:=by
 unfold yt6;split
 ·rename_i h
  rw[za3];have:∀b st1,wpR (match F b st1 with
   | .ok d st2=>Res.ok d st2
   | _=>Res.bad) Q E↔wpR (F b st1) Q λ_ _=>False:=λb st1=>by cases F b st1<;>exact Iff.rfl
  refine(iff_of_eq (congrArg (λz=>wpR (fa ρ st) z E) (funext λd=>funext λst1=>propext (this d st1)))).trans ?_;exact⟨λq=>⟨h,q⟩,λq=>q.2⟩
 ·rename_i h
  exact⟨λq=>q.elim,λq=>h q.1⟩
open H in
def wp_fIfE:wpR (vp4 S t f1 f2' ρ st) Q E↔wpR (t ρ st) (λb st1=>if b=true then wpR (f1 ρ st1) Q E else wpR (f2' ρ st1) Q E) E:=by
 unfold vp4;rw[za3];refine iff_of_eq (congrArg (λz=>wpR (t ρ st) z E) (funext λb=>funext λst1=>propext ?_));cases b<;>exact Iff.rfl
def wp_fCut{lo hi:FnO S}:wpR (vp5 S f lo hi ρ st) Q E↔wpR (f ρ st) (λd st1=>wpR (lo ρ st1) (λl st2=>wpR (hi ρ st2) (λh st3=>wpR (wr1 (vb9 l h d) st3) Q E) E) E) E:=by
 unfold vp5;rw[za3];simp only[za3]
def wp_pNo{Q:Option Int->S->Prop}:wpR (pNo S ρ st) Q E↔Q none st:=Iff.rfl
def wp_iSeq{Q:List D->S->Prop}{sel:D->Option (List D)}:wpR (vb0 S sel f ρ st) Q E↔wpR (f ρ st) (λd st1=>wpR (wr1 (sel d) st1) Q E) E:=by unfold vb0;rw[za3]
def wp_iArgs{Q:List D->S->Prop}{o:List D->Option (List D)}{fa:FnA S}:wpR (vb1 S o fa ρ st) Q E↔wpR (fa ρ st) (λl st1=>wpR (wr1 (o l) st1) Q E) E:=by unfold vb1;rw[za3]
def wp_fComp{fz:List Nat}{ixs:List (Option Nat)}{fi:FnI S}{g:FnG}:wpR (vb3 S fz ixs fi g t f ρ st) Q E↔wpR (fi (frz fz ρ) st) (λl st1=>wpR (wu0 S g t f l [] (pickR (frz fz ρ) ixs) st1) (λr st2=>Q (.lst r) st2) E) E:=by
 unfold vb3;rw[za3];simp only[za3];exact Iff.rfl
theorem yd1{g:FnG}{Q:List D->S->Prop}(I:Nat->List D->Rho->S->Prop):∀{l acc:List D} {ρ:Rho} {st:S} (n:Nat),I n acc ρ st->
 (∀i d acc ρ st,l[i]?=some d->I (n+i) acc ρ st->∃ρ1,g d ρ=some ρ1/\wpR (t ρ1 st) (λb st1=>if b=true then wpR (f ρ1 st1) (λy st2=>y.imm=true/\acc.length<sizeLine/\I (n+i+1) (acc++[y]) ρ1 st2) E else I (n+i+1) acc ρ1 st1) E)->
 (∀acc ρ st,I (n+l.length) acc ρ st->Q acc st)->wpR (wu0 S g t f l acc ρ st) Q E
 | [],acc,ρ,st,n,h0,_,he=>he acc ρ st h0
 | d::l,acc,ρ,st,n,h0,hs,he=>by
   obtain⟨ρ1,e1,q⟩:=hs 0 d acc ρ st rfl h0;have go:∀acc st',I (n+1) acc ρ1 st'->wpR (wu0 S g t f l acc ρ1 st') Q E:=λacc st' z=>yd1 I (n+1) z (λi d acc ρ st h h'=>by
    have:=hs (i+1) d acc ρ st (by simpa using h) (by rw[show n+(i+1)=n+1+i by omega];exact h');rw[show n+(i+1)=n+1+i by omega] at this;exact this) λacc ρ st h=>he acc ρ st (by rw[Ax0,show n+(l.length+1)=n+1+l.length by omega];exact h)
   unfold wu0;rw[e1];refine za3.mpr (wp_some.mpr (za3.mpr (za6 q (λb st' z=>?_) λx st' z=>z)));cases b with
   | true=>
     have z:wpR (f ρ1 st') (λy st2=>y.imm=true/\acc.length<sizeLine/\I (n+0+1) (acc++[y]) ρ1 st2) E:=z;rw[if_pos rfl];refine za3.mpr (za6 z (λy st2 hI117=>?_) λx st' z=>z);obtain⟨h1,h2,h3⟩:=hI117;rw[if_pos ⟨h1,h2⟩];exact go _ _ h3
   | false=>exact go _ _ z
variable{Q:Bool->S->Prop}{t1 t2:FnT S}
open H in
def wp_fAnd:wpR (vp6 S t1 t2 ρ st) Q E↔wpR (t1 ρ st) (λb st1=>if b=true then wpR (t2 ρ st1) Q E else Q false st1) E:=by
 unfold vp6;rw[za3];refine iff_of_eq (congrArg (λz=>wpR (t1 ρ st) z E) (funext λb=>funext λst1=>propext ?_));cases b<;>exact Iff.rfl
open H in
def wp_fOr:wpR (fOr S t1 t2 ρ st) Q E↔wpR (t1 ρ st) (λb st1=>if b=true then Q true st1 else wpR (t2 ρ st1) Q E) E:=by
 unfold fOr;rw[za3];refine iff_of_eq (congrArg (λz=>wpR (t1 ρ st) z E) (funext λb=>funext λst1=>propext ?_));cases b<;>exact Iff.rfl
def wp_fNot:wpR (vp2 S t1 ρ st) Q E↔wpR (t1 ρ st) (λb st1=>Q (!b) st1) E:=by unfold vp2;rw[za3];exact Iff.rfl
def wp_fTrue:wpR (vj2 S ρ st) Q E↔Q true st:=Iff.rfl
end
theorem zj2{n p:Nat}{B:FnS Unit}{l:List D}{Q:D->Unit->Prop}{E:Exn->Unit->Prop}(hl:l.length=p)(hp:p<=n)(h:wpR (B (rho0 n l) ()) (λfl st=>match fl with
 | .rt d=>Q d st
 | .nx _=>Q .non st
 | _=>False) E):wpR (dfn n p B l) Q E:=by
 unfold dfn;rw[if_pos ⟨hl,hp⟩];cases q:B (rho0 n l) () with
 | bad=>rw[q] at h;exact h
 | exc x u=>rw[q] at h;exact h
 | ok fl u=>rw[q] at h;cases fl<;>exact h
theorem zw8{S:Type}{n p:Nat}{B:FnS S}{l:List D}{st:S}{Q:D->S->Prop}{E:Exn->S->Prop}(hl:l.length+1=p)(hp:p<=n)(h:wpR (B (rhoS n l) st) (λfl st=>match fl with
 | .rt d=>Q d st
 | .nx _=>Q .non st
 | _=>False) E):wpR (wz7 n p B l st) Q E:=by
 unfold wz7;rw[if_pos ⟨hl,hp⟩];cases q:B (rhoS n l) st with
 | bad=>rw[q] at h;exact h
 | exc x u=>rw[q] at h;exact h
 | ok fl u=>rw[q] at h;cases fl<;>exact h
def zb6{m:Int}{st:Dr}{Q:D->Dr->Prop}{E:Exn->Dr->Prop}(h0:0<m)(h1:m<1073741824)(h2:st.2<2 ^ 40)(h:∀v st',0<=v->v<m->st'.2=st.2+1->Q (.int v) st'):wpR (wr7 [.int m] st) Q E:=by
 unfold wr7;simp only;rw[if_pos ⟨h0,h1,h2⟩];split
 ·exact h _ _ (Int.emod_nonneg _ (by omega)) (Int.emod_lt_of_pos _ h0) rfl
 ·exact h _ _ (Int.emod_nonneg _ (by omega)) (Int.emod_lt_of_pos _ h0) rfl
def flat_lst{l:List D}:D.flat (.lst l)=D.immL l:=rfl
def flat_dct{k l:List D}:D.flat (.dct k l)=D.immL l:=rfl
def flat_int{i:Int}:D.flat (.int i)=false:=rfl
def flat_str{i:Str}:D.flat (.str i)=false:=rfl
def flat_bl{i:Bool}:D.flat (.bl i)=false:=rfl
def flat_non:D.flat .non=false:=rfl
def flat_tup{l:List D}:D.flat (.tup l)=false:=rfl
def zd9{n:Nat}(h:n<=1000):n<=sizeLine:=Ca0 (zy8 h)
def lt_size{n:Nat}(h:n<=1000):n<sizeLine:=zy8 h
theorem zb1{α:Type}{f:α->D}(h:∀a,(f a).imm=true):∀l:List α,D.immL (l.map f)=true
 | []=>rfl
 | a::l=>by simp only[Aq0,D.immL,h a,zb1 h l,Bool.and_self]
theorem xw8:D.immL l=true↔∀d∈l,d.imm=true:=by
 induction l with
 | nil=>simp[D.immL]
 | cons a l ih=>simp[D.immL,ih]
def xl9(m:D.immL l=true)(h:l.length<=1000):wt6 l=some (.tup l):=if_pos ⟨m,zd9 h⟩
def zr9(m:D.immL l=true)(h:l.length<=1000):ww2 l=some (.lst l):=if_pos ⟨m,zd9 h⟩
def ws5(h1:a.imm=true)(h2:b.imm=true):wt6 [a,b]=some (.tup [a,b]):=xl9 (by simp[D.immL,h1,h2]) (by simp)
def wv4:ww2 []=some (.lst []):=zr9 rfl (by simp)
def vi6(h1:a.imm=true)(h2:b.imm=true):ww2 [a,b]=some (.lst [a,b]):=zr9 (by simp[D.immL,h1,h2]) (by simp)
def zx4(m:d.imm=true)(h:l.length<=1000):vo2 l d=some (l++[d]):=if_pos ⟨m,lt_size h⟩
def imm_int{i:Int}:D.imm (.int i)=true:=by simp[D.imm]
def imm_str{i:Str}:D.imm (.str i)=true:=by simp[D.imm]
def imm_bl{i:Bool}:D.imm (.bl i)=true:=by simp[D.imm]
def imm_non:D.imm .non=true:=by simp[D.imm]
def imm_tup{l:List D}:D.imm (.tup l)=D.immL l:=by simp[D.imm]
def zk8{S:Type}{E:Exn->S->Prop}{ρ:Rho}{st:S}{Q:List D->S->Prop}{g:FnG}{t:FnT S}{f:Fn S}{l:List D}(h:D->D)(R:Rho->Prop)(h0:R ρ)(hs:∀d∈l,∀ρ,R ρ->∃ρ1,g d ρ=some ρ1/\R ρ1/\wpR (t ρ1 st) (λb st1=>b=true/\st1=st) E/\wpR (f ρ1 st) (λy st2=>y=h d/\y.imm=true/\st2=st) E)(hl:l.length<=sizeLine)(hq:Q (l.map h) st):wpR (wu0 S g t f l [] ρ st) Q E:=by
 refine yd1 (λn acc ρ' st'=>acc=(l.take n).map h/\R ρ'/\st'=st) 0 ⟨by simp,h0,rfl⟩ (λi d acc ρ' st' hd hI119=>?_) λacc ρ' st' hI118=>?_
 ·obtain⟨e1,r,e2⟩:=hI119
  subst e2;have hi:i<l.length:=(Ae0.mp hd).1;obtain⟨ρ1,q1,r1,q2,q3⟩:=hs d (Ar0 hd) ρ' r;refine⟨ρ1,q1,za6 q2 (λb st1 hI120=>?_) λx s z=>z⟩;obtain⟨eb,es⟩:=hI120;subst eb es;rw[if_pos rfl];refine za6 q3 (λy st2 ⟨ey,my,es⟩=>⟨my,?_,?_,r1,es⟩) λx s z=>z
  ·rw[e1,Aa0,Aw0];omega
  ·rw[e1,ey,Ah0,Bj0,hd,Am0];rfl
 ·obtain⟨e1,r,e2⟩:=hI118
  rw[Ah0,Bb0] at e1;subst e1 e2;exact hq
theorem zj1{α:Type}{f:α->Bool}:∀l:List α,zj9 (l.map λa=>.bl (f a))=some (l.map f)
 | []=>rfl
 | a::l=>by simp only[Aq0,zj9,zj1 l,Ay0]
def xn9(ha:a.imm=true)(hb:b.imm=true){c:Bool}:oIx (.lst [a,b]) (.int (if c=true then 1 else 0))=some (if c=true then b else a):=by
 cases c
 ·show im (some a)=some a
  simp[im,ha]
 ·show im (some b)=some b
  simp[im,hb]
def zd8{j:Int}(h:j<=1000)(h0:0<=j):yx0 [.int j]=some (zl4 0 j.toNat):=if_pos ⟨by omega,by omega⟩
def zd3{lo:Int}{n:Nat}:(zl4 lo n).length=n:=by unfold zl4;simp
theorem ze9{lo:Int}{n i:Nat}(h:(zl4 lo n)[i]?=some d):d=.int (lo+i)/\i<n:=by
 unfold zl4 at h;rw[Ai0] at h;cases q:(List.range n)[i]? with
 | none=>rw[q] at h;cases h
 | some k=>
   rw[q] at h;obtain⟨hi,e⟩:=Ae0.mp q;rw[List.getElem_range] at e;subst e;cases h;exact⟨rfl,by simpa using hi⟩
theorem zs4{α:Type}{f:α->D}{n:Nat}(h:∀a,(f a).dep<=n):∀l:List α,D.depL (l.map f)<=n
 | []=>Be0 _
 | a::l=>by
   have h1:=h a;have h2:=zs4 h l;simp only[Aq0,D.depL];omega
def yu2{k:Nat}:cutD l none (some (k:Int))=l.take k:=by
 unfold cutD;rw[HT.sIx_nat,HT.sIx_none,Nat.sub_zero,Cm0];by_cases h:k<=l.length
 ·rw[Nat.min_eq_left h]
 ·rw[Nat.min_eq_right (by omega),Bb0,List.take_of_length_le (by omega)]
section
variable{S:Type}{E:Exn->S->Prop}{ρ:Rho}{st:S}{Q:Fl->S->Prop}{f fk fv:Fn S}{i j k:Nat}{t:FnT S}{B:FnS S}
theorem ye6(I:Rho->S->Prop)(μ:Rho->S->Nat)(hs:∀ρ st,I ρ st->wpR (t ρ st) (λb st1=>if b=true then wpR (B ρ st1) (λfl st2=>match fl with
 | .nx ρ2=>I ρ2 st2/\μ ρ2 st2<μ ρ st
 | .ct ρ2=>I ρ2 st2/\μ ρ2 st2<μ ρ st
 | .bk ρ2=>Q (.nx ρ2) st2
 | .rt d=>Q (.rt d) st2) E else Q (.nx ρ) st1) E):∀(n:Nat) (ρ:Rho) (st:S),I ρ st->μ ρ st<n->wpR (zk3 S t B n ρ st) Q E
 | 0,_,_,_,h=>absurd h (Nat.not_lt_zero _)
 | n+1,ρ,st,h,hm=>by
   unfold zk3;refine za3.mpr (za6 (hs ρ st h) (λb st1 q=>?_) λx s z=>z);cases b with
   | false=>exact q
   | true=>
     have q:wpR (B ρ st1) _ E:=q;rw[if_pos rfl];refine za3.mpr (za6 q (λfl st2 z=>?_) λx s z=>z);cases fl with
     | nx ρ2=>exact ye6 I μ hs n ρ2 st2 z.1 (by have:=z.2;omega)
     | ct ρ2=>exact ye6 I μ hs n ρ2 st2 z.1 (by have:=z.2;omega)
     | bk ρ2=>exact z
     | rt d=>exact z
theorem xh1(I:Rho->S->Prop)(μ:Rho->S->Nat)(h0:I ρ st)(hs:∀ρ st,I ρ st->wpR (t ρ st) (λb st1=>if b=true then wpR (B ρ st1) (λfl st2=>match fl with
 | .nx ρ2=>I ρ2 st2/\μ ρ2 st2<μ ρ st
 | .ct ρ2=>I ρ2 st2/\μ ρ2 st2<μ ρ st
 | .bk ρ2=>Q (.nx ρ2) st2
 | .rt d=>Q (.rt d) st2) E else Q (.nx ρ) st1) E):wpR (yj7 S t B ρ st) Q E:=by
 have h:=ye6 (Q:=Q) (E:=E) I μ hs (μ ρ st+1) ρ st h0 (Nat.lt_succ_self _);rw[yq6 (n:=μ ρ st+1) (λz=>by rw[z] at h;exact h)];exact h
end
section
variable{S:Type}{E:Exn->S->Prop}{ρ:Rho}{st:S}{Q:D->S->Prop}{f1 f2' f3 fk:Fn S}
end
def wn6[∀i j,Decidable (C i j)]{i j:Int}(h:C i j):iOp C g (.int i) (.int j)=some (g i j):=if_pos h
section
variable{S:Type}{E:Exn->S->Prop}{ρ:Rho}{st:S}{Q:Fl->S->Prop}{F G:FnS S}
def wj1(I:Rho->S->Prop)(h1:wpR (F ρ st) (λfl st1=>∃ρ1,fl=.nx ρ1/\I ρ1 st1) E)(h2:∀ρ1 st1,I ρ1 st1->wpR (G ρ1 st1) Q E):wpR (vh3 S F G ρ st) Q E:=
 zb9.mpr (za6 h1 (λfl st1 ⟨ρ1,e,h⟩=>by subst e;exact h2 ρ1 st1 h) λx s z=>z)
end
def xa5{n:Nat}(h:n<=1000000):n<sizeLine:=by rw[sizeLine_eq];omega
def xr7{v:Int}(h0:0<=v)(h1:v<l.length):∃d,atI l v=some d/\l[v.toNat]?=some d:=by
 have hv:v.toNat<l.length:=by omega
 refine⟨l[v.toNat],?_,Ac0 hv⟩;have:=yy3 (Ac0 hv);rwa [show ((v.toNat:Nat):Int)=v by omega] at this
def yk8{v:Int}(m:D.immL l=true)(h0:0<=v)(h1:v<l.length):∃d∈l,oIx (.lst l) (.int v)=some d:=by
 obtain⟨d,e,e2⟩:=xr7 h0 h1;have hd:=Ar0 e2;refine⟨d,hd,?_⟩;show im (atI l v)=_;rw[e];simp[im,xw8.mp m d hd]
def ya2{v:Int}(m:d.imm=true)(h0:0<=v)(h:l[v.toNat]?=some d):oIx (.lst l) (.int v)=some d/\oIx (.tup l) (.int v)=some d:=by
 have h1:v<l.length:=by have:=(Ae0.mp h).1;omega
 obtain⟨d',e,e2⟩:=xr7 h0 h1;rw[h] at e2;cases e2;constructor
 ·show im (atI l v)=_
  rw[e];simp[im,m]
 ·show im (atI l v)=_
  rw[e];simp[im,m]
def zs3{i j:Int}:D.eqq (.int i) (.int j)=some (i == j):=by simp only[D.eqq]
def zj6{neg:Bool}{i j:Int}:oEq neg (.int i) (.int j)=some (.bl (if neg then !(i == j) else (i == j))):=by
 unfold oEq;rw[if_pos (by simp[D.dep]),zs3];rfl
theorem yt9:∀{ks vs:List D},ks.length=vs.length->(wp8 k ks (List.zipWith g ks vs)).isSome=(wp8 k ks vs).isSome
 | [],[],_=>rfl
 | a::ks,b::vs,h=>by
   show (wp8 k (a::ks) (g a b::List.zipWith g ks vs)).isSome=_;unfold wp8;by_cases e:zc7 a=some k
   ·rw[if_pos e,if_pos e];rfl
   ·rw[if_neg e,if_neg e];exact yt9 (by simpa using h)
 | [],_::_,h=>by cases h
 | _::_,[],h=>by cases h
theorem yu1:∀{ks vs:List D},ks.length=vs.length->(wp8 k (ks++[wp9 k']) (vs++[v])).isSome=((wp8 k ks vs).isSome||decide (k'=k))
 | [],[],_=>by
   show (wp8 k [wp9 k'] [v]).isSome=_;unfold wp8;rw[zh4];by_cases e:k'=k
   ·rw[if_pos (by rw[e])];simp[e]
   ·rw[if_neg (λz=>e (Option.some.inj z))];simp[wp8,e]
 | a::ks,b::vs,h=>by
   show (wp8 k (a::(ks++[wp9 k'])) (b::(vs++[v]))).isSome=_;unfold wp8;by_cases e:zc7 a=some k
   ·rw[if_pos e,if_pos e];rfl
   ·rw[if_neg e,if_neg e];exact yu1 (by simpa using h)
 | [],_::_,h=>by cases h
 | _::_,[],h=>by cases h
def ye3(h:ks.length=vs.length):(ws0 k v ks vs).1.length=(ws0 k v ks vs).2.length/\(ws0 k v ks vs).1.length<=ks.length+1:=by
 unfold ws0;split
 ·simp[List.length_zipWith,h]
 ·simp[h]
open H in
def xq7(h:ks.length=vs.length):(wp8 k (ws0 k' v ks vs).1 (ws0 k' v ks vs).2).isSome=((wp8 k ks vs).isSome||decide (k'=k)):=by
 unfold ws0;split
 ·rename_i hs
  rw[yt9 h];by_cases e:k'=k
  ·subst e;simp[hs]
  ·simp[e]
 ·exact yu1 h
def Holds(d:D)(n:Nat)(P:List Key->Prop):Prop:=∃ks vs,d=.dct (.non::ks) vs/\D.immL vs=true/\ks.length=vs.length/\ks.length<=n/\∀k,(wp8 k ks vs).isSome=true↔P k
def Holds.put{n:Nat}(h:Holds (.dct (.non::ks) vs) n P)(hv:v.imm=true):Holds (.dct (.non::(ws0 k v ks vs).1) (ws0 k v ks vs).2) (n+1) (λq=>P q\/k=q):=by
 obtain⟨ks',vs',e,h1,h2,h3,h4⟩:=h;cases e;refine⟨_,_,rfl,yh3 hv h1,(ye3 h2).1,by have:=(ye3 (k:=k) (v:=v) h2).2;omega,λq=>?_⟩;rw[xq7 h2,Bool.or_eq_true,h4 q,decide_eq_true_eq]
theorem Holds.all:∀{ps:List (List Key×D)} {ks vs:List D} {n:Nat} {P:List Key->Prop},Holds (.dct (.non::ks) vs) n P->(∀p∈ps,p.2.imm=true)->Holds (.dct (.non::(zk4 ps (ks,vs)).1) (zk4 ps (ks,vs)).2) (n+ps.length) (λq=>P q\/∃p∈ps,p.1=q)
 | [],ks,vs,n,P,h,_=>by
   obtain⟨ks',vs',e,h1,h2,h3,h4⟩:=h;exact⟨ks',vs',e,h1,h2,h3,λq=>by rw[h4 q];simp⟩
 | p::ps,ks,vs,n,P,h,hv=>by
   have h':=Holds.all (ps:=ps) (h.put (k:=p.1) (hv p (by simp))) λq hq=>hv q (by simp[hq])
   obtain⟨ks',vs',e,h1,h2,h3,h4⟩:=h';refine⟨ks',vs',e,h1,h2,by simp;omega,λq=>?_⟩;rw[h4 q];simp only[Aj0,exists_eq_or_imp];constructor
   ·rintro ((a | a) | a)
    ·exact .inl a
    ·exact .inr (.inl a)
    ·exact .inr (.inr a)
   ·rintro (a | a | a)
    ·exact .inl (.inl a)
    ·exact .inl (.inr a)
    ·exact .inr a
def Holds.in_{n:Nat}(h:Holds d n P)(hk:zc7 k=some kk){b:Bool}(hb:b=true↔P kk):wz1 false k d=some (.bl b)/\wz1 true k d=some (.bl (!b)):=by
 obtain⟨ks,vs,rfl,h1,h2,h3,h4⟩:=h;have e:(wp8 kk ks vs).isSome=b:=by rw[Cb0,h4,hb]
 constructor
 ·show (zc7 k).map _=_
  rw[hk];show some (D.bl (wp8 kk ks vs).isSome)=_;rw[e]
 ·show (zc7 k).map _=_
  rw[hk];show some (D.bl (!(wp8 kk ks vs).isSome))=_;rw[e]
def Holds.flat{n:Nat}(h:Holds d n P):d.flat=true:=by
 obtain⟨ks,vs,rfl,h1,h2,h3,h4⟩:=h;exact h1
def Holds.nil{n:Nat}:Holds (.dct [.non] []) n (λ_=>False):=⟨[],[],rfl,rfl,rfl,Be0 _,λk=>by simp[wp8]⟩
def Holds.imp{n m:Nat}(h:Holds d n P)(hm:n<=m)(hp:∀k,P k↔P' k):Holds d m P':=by
 obtain⟨ks,vs,e,h1,h2,h3,h4⟩:=h;exact⟨ks,vs,e,h1,h2,by omega,λk=>by rw[h4 k,hp k]⟩
def FrT(K:PySem.W.Frag)(a:Addr)(xs:List V):Prop:=∃(o:Obj) (its:Array Value) (n:Nat),K.lookup a=some o/\o.cls=.type "tuple"/\o.data=.seq its n/\its.size<=sizeLine/\wq4 xs its.toList
def FrT.sq{K:PySem.W.Frag}{a:Addr}{xs:List V}{H:Hp}(h:FrT K a xs):SqT K H a xs:=.inr h
def vq8(K:PySem.W.Frag)(a:Addr)(tbl:List (Int×Int)):Prop:=∃vs,FrT K a vs/\vs.length=tbl.length/\∀(i:Nat) (p:Int×Int),tbl[i]?=some p->∃b,vs[i]?=some (.ref b)/\FrT K b [.int p.1,.int p.2]
section
variable{X:Cx}{S:Type}{W:Wd S}{c:Dx W}{g ga gb gc:Gr}{a b:Expr}{fa fb fc:Fn S}{pos p2:Pos}{E:Exn->S->Prop}{ρ:Rho}{st:S}
def xy0{x:Str}{i:Int}(hc:∃t,X.mg x=some (.int i t))(hg:Gl X x)(hd:(x == ("__debug__" : Str))=false:=by decide):DE X c g (.Name x pos) (fC S (.int i)):=by
 obtain⟨t,hm⟩:=hc;exact(xk7 (v:=.int i) hg hm ⟨t,rfl⟩ hd).imp λσ H Q ⟨ρ,st,R,ok,w⟩=>w _ _ Ext.refl ok (New.val R (show New c H H (.int _) (.int _) from Is.int_iff.mpr rfl) g)
def vh9(S:Type)(tbl:List (Int×Int))(i j:Nat)(f:Fn S):FnS S:=λρ st=>(f ρ st).bind λd st1=>match d with
 | .int k=>if 0<=k then match tbl[k.toNat]? with
  | some p=>(wr1 (put ρ i (.int p.1)) st1).bind λρ1 st2=>(wr1 (put ρ1 j (.int p.2)) st2).bind λρ2 st3=>.ok (.nx ρ2) st3
  | none=>.bad
   else .bad
 | _=>.bad
open H in
def wh2{x n1 n2:Str}{e:Expr}{f:Fn S}{tbl:List (Int×Int)}{i j:Nat}{a0:Addr}{px p1 p2 pt ps:Pos}{kt}(hc:X.calm=true)(hK:c.K=X.K)(hm:∃a0,X.mg x=some (.ref a0)/\vq8 X.K a0 tbl)(hg:Gl X x)(hN:X.N.Nodup)(hi:X.N[i]?=some n1)(hj:X.N[j]?=some n2)(h1:Loc X.env.scope n1)(h2:Loc X.env.scope n2)(he:DE X c .R e f)(hpi:yi6 e)(hd:(x == ("__debug__" : Str))=false:=by decide)(hf1:X.fn n1=true\/X.env.scope.names.lookup n1=some .local:=by first | exact .inl rfl | exact .inr rfl | assumption)(hf2:X.fn n2=true\/X.env.scope.names.lookup n2=some .local:=by first | exact .inl rfl | exact .inr rfl | assumption)(hs:swapsWithSole [.Tuple [.Name n1 p1,.Name n2 p2] kt pt] (.Subscript (.Name x px) e ps) pos.line X.env=pure false:=by rfl)(hw:swappedStores [.Tuple [.Name n1 p1,.Name n2 p2] kt pt] (.Subscript (.Name x px) e ps) X.env=pure none:=by rfl)(ha:(assignEach [.Tuple [.Name n1 p1,.Name n2 p2] kt pt] X.env).map (·.2)=[assign (.Tuple [.Name n1 p1,.Name n2 p2] kt pt) X.env]:=by rfl)(hn:(assignEach [.Name n1 p1,.Name n2 p2] X.env).length=2:=by rfl)(hst:(assignEach [.Name n1 p1,.Name n2 p2] X.env).findIdx? (·.1)=none:=by rfl)(hs1:(assignEach [.Name n1 p1,.Name n2 p2] X.env).map (·.2)=assign (.Name n1 p1) X.env::(assignEach [.Name n2 p2] X.env).map (·.2):=by rfl)(hs2:(assignEach [.Name n2 p2] X.env).map (·.2)=assign (.Name n2 p2) X.env::(assignEach [] X.env).map (·.2):=by rfl) :
 DS X c (.Assign [.Tuple [.Name n1 p1,.Name n2 p2] kt pt] (.Subscript (.Name x px) e ps) pos) (vh9 S tbl i j f):=by
 obtain⟨a0,hm,vs,fr,hl,ht⟩:=hm;refine(yq9 (vf3 wa4 (xk7 (v:=.ref a0) hg hm rfl hd) he hpi) (yz5 (n:=2) hc (zr7 (yn0 (i:=i) hN hi h1 hf1) (zr7 (yn0 (i:=j) hN hj h2 hf2) ym9 hs2) hs1) hn hst) hs hw ha).imp λD σ H hI121=>?_
 obtain⟨ρ,st,R,ok,w⟩:=hI121;refine⟨ρ,st,R,ok,za6 (za3.mp w) (λd st1 q v H1 e1 ok1 z=>?_) λx st1 q H' e ok'=>q H' (e.f0 R) ok'⟩;split at q
 ·rename_i k
  split at q
  ·rename_i hk
   split at q
   ·rename_i p hp
    obtain⟨ρ1,p1',q⟩:=zb2.mp (za3.mp q);obtain⟨ρ2,p2',q⟩:=zb2.mp (za3.mp q);obtain⟨l1,rfl⟩:=zp3 p1';obtain⟨l2,rfl⟩:=zp3 p2';obtain⟨b,hb,frb⟩:=ht k.toNat p hp;have z':Is c.K (λb=>¬W.mv b) H1 (.int k) v:=z.toR;have R1:=(R.ext ok e1).setB l1 (show Is c.K (Av c σ ρ) H1 (.int p.1) (.int p.1) from Is.int_iff.mpr rfl);have R2:=R1.setB l2 (show Is c.K _ H1 (.int p.2) (.int p.2) from Is.int_iff.mpr rfl);refine⟨a0,vs,k,.ref b,rfl,Is.int_iff.mp z',fr.sq,?_,b,[.int p.1,.int p.2],rfl,frb.sq,rfl,_,_,rfl,_,_,rfl,rfl,?_⟩
    ·have:=yy3 hb
     rwa [show ((k.toNat:Nat):Int)=k by omega] at this
    ·exact q _ _ ((Ext.frm e1).trans (zg9.trans zg9)) ok1 R2
   ·exact q.elim
  ·exact q.elim
 ·exact q.elim
def vo0:D->D->Option D
 | .lst l,.int k=>if D.immL l=true/\-(2 ^ 63)<=k/\k<2 ^ 63/\l.length*k.toNat<=sizeLine then some (.lst (List.replicate k.toNat l).flatten) else none
 | _,_=>none
theorem xz1{K:PySem.W.Frag}{A:Addr->Prop}{H:Hp}{l:List D}{vs:List V}(h:IsL K A H l vs):∀k:Nat,IsL K A H (List.replicate k l).flatten (List.replicate k vs).flatten
 | 0=>IsL.nil.mpr rfl
 | k+1=>by
   rw[Bs0,Bs0,Cf0,Cf0];exact h.append (xz1 h k)
theorem xa9(h:D.immL l=true):∀k:Nat,D.immL (List.replicate k l).flatten=true
 | 0=>rfl
 | k+1=>by
   rw[Bs0,Cf0];exact zh5 h (xa9 h k)
open H in
def wm0:OpD c vk4 vo0:=by
 intro d1 d2 v1 v2 H st d Q ok h1 h2 e q;unfold vo0 at e;split at e
 ·rename_i l k
  split at e
  ·rename_i hc
   cases e;obtain⟨a,us,ea,n,s1,i3⟩:=Is.lst_iff.mp h1;refine⟨a,k,us,ea,Is.int_iff.mp h2,s1,hc.2.1,hc.2.2.1,by rw[<-i3.length];exact hc.2.2.2,λp hp=>?_⟩;exact q _ _ (Ext.laid hp) (zh3 ok hp) (New.lst ok hp (λ_ n=>n) (xa9 hc.1 _) (xz1 i3 _))
  ·cases e
 ·cases e
def vf7(a b:D):Option D:=(iOp va0 (λi j=>.int (i*j)) a b).or (vo0 a b)
def yw8:OpR X (binaryOp .Mult) (λx y H Q=>rI va0 (λi j=>.int (i*j)) x y H Q\/vk4 x y H Q):=yf5.or wl7
def yw9:OpD c (λx y H Q=>rI va0 (λi j=>.int (i*j)) x y H Q\/vk4 x y H Q) vf7:=vs2.or wm0
theorem wp_sTab2{Q:Fl->S->Prop}{i j:Nat}{f:Fn S}{tbl:List (Int×Int)}:wpR (vh9 S tbl i j f ρ st) Q E↔wpR (f ρ st) (λd st1=>∃k p,d=.int k/\0<=k/\tbl[k.toNat]?=some p/\∃ρ1,put ρ i (.int p.1)=some ρ1/\∃ρ2,put ρ1 j (.int p.2)=some ρ2/\Q (.nx ρ2) st1) E:=wpB λd st1=>by
 cases d with
 | int k=>
   refine xp3 ?_;refine(yy9.trans ?_).trans exists_and_left.symm;refine and_congr Iff.rfl ?_;cases tbl[k.toNat]? with
   | none=>exact zx8
   | some p=>exact zx7 (ym0 λ_=>yv2)
 | _=>exact wa6 λb e=>by cases e
end
theorem xt7{K:PySem.W.Frag}{a b0 b1 b2 b3:Addr}{p0 p1 p2 p3:Int×Int}{od od0 od1 od2 od3:Option Addr}{sl sl0 sl1 sl2 sl3:Array (Option Value)}{n n0 n1 n2 n3:Nat}{t0 t1 t2 t3 u0 u1 u2 u3:Tok}(h:K.lookup a=some ⟨.type "tuple",od,.seq #[.ref b0,.ref b1,.ref b2,.ref b3] n,sl⟩)(h0:K.lookup b0=some ⟨.type "tuple",od0,.seq #[.int p0.1 t0,.int p0.2 u0] n0,sl0⟩)(h1:K.lookup b1=some ⟨.type "tuple",od1,.seq #[.int p1.1 t1,.int p1.2 u1] n1,sl1⟩)(h2:K.lookup b2=some ⟨.type "tuple",od2,.seq #[.int p2.1 t2,.int p2.2 u2] n2,sl2⟩)(h3:K.lookup b3=some ⟨.type "tuple",od3,.seq #[.int p3.1 t3,.int p3.2 u3] n3,sl3⟩):vq8 K a [p0,p1,p2,p3]:=by
 have pr:∀{b:Addr} {p:Int×Int} {od:Option Addr} {sl:Array (Option Value)} {n:Nat} {t u:Tok},K.lookup b=some ⟨.type "tuple",od,.seq #[.int p.1 t,.int p.2 u] n,sl⟩->FrT K b [.int p.1,.int p.2]:=λ{b p od sl n t u} h=>
  ⟨_,_,_,h,rfl,rfl,by show 2<=sizeLine;decide,.cons ⟨t,rfl⟩ (.cons ⟨u,rfl⟩ .nil)⟩
 refine⟨[.ref b0,.ref b1,.ref b2,.ref b3],⟨_,_,_,h,rfl,rfl,by show 4<=sizeLine;decide,.cons rfl (.cons rfl (.cons rfl (.cons rfl .nil)))⟩,rfl,λi p hp=>?_⟩
 match i,hp with
 | 0,hp=>cases hp;exact⟨b0,rfl,pr h0⟩
 | 1,hp=>cases hp;exact⟨b1,rfl,pr h1⟩
 | 2,hp=>cases hp;exact⟨b2,rfl,pr h2⟩
 | 3,hp=>cases hp;exact⟨b3,rfl,pr h3⟩
 | i+4,hp=>simp at hp
end L2
namespace PySem
section
variable{prog:Program}{w:World}{A:Around}{E:Value->Shared->Prop}{s:Shared}
end
end PySem
namespace L2
section
variable{M:Model}{A:Around}{E:Value->Shared->Prop}{s:Shared}{env:Env}{X:Cx}{elts:List Expr}{x1:Nat}{tpos:Pos}{S:Type}{W:Wd S}{c:Dx W}{i:Nat}
end
section
variable{X:Cx}{S:Type}{W:Wd S}{c:Dx W}{g ga gb gc:Gr}{a b:Expr}{fa fb fc:Fn S}{pos p2:Pos}{A3:List (Addr×Obj)}{σ:St}{H:Hp}{s:Shared}{A:Addr->Prop}
end
def wt8(S:Type)(i:Nat)(fk:Fn S)(v:D):FnS S:=λρ st=>match wq5 ρ i with
 | some l=>(fk ρ st).bind λk st2=>match k with
   | .int j=>match ixN l.length j with
     | some n=>if v.imm=true then .ok (.nx (ρ.set i (.own (.lst (l.set n v))))) st2 else .bad
     | none=>.bad
   | _=>.bad
 | none=>.bad
def xi8(S:Type)(i:Nat)(fk fl fv:Fn S):FnS S:=λρ st=>(fv ρ st).bind λt st1=>match t with
 | .tup [a,b]=>if b.imm=true then (wt8 S i fk a ρ st1).bind λr st2=>match r with
   | .nx ρ1=>wt8 S i fl b ρ1 st2
   | _=>.bad
   else .bad
 | _=>.bad
section
variable{X:Cx}{S:Type}{W:Wd S}{c:Dx W}{g ga gb gc:Gr}{H1:Hp}{σ:St}{ρ:Rho}{st1:S}{A:Addr->Prop}
theorem wh0{i:Nat}(R1:Rep c H1 σ ρ)(ok1:W.ok st1 H1)(z:Is c.K A H1 d v)(w:wpR (wt8 S i fk d ρ st1) Qn (wy4 c)) :
 vd7 (wu2 i) (tD c ga fk) ww6 v σ H1 λσ' H'=>∃ρ' st',Frm c H1 σ ρ H' σ' ρ'/\W.ok st' H'/\Rep c H' σ' ρ'/\Qn (.nx ρ') st':=by
 unfold wt8 at w;cases hd:wq5 ρ i with
 | none=>simp only[hd] at w;exact(show False from w).elim
 | some l=>
   simp only[hd] at w;obtain⟨ad,vs,ea,eH,zz,nm⟩:=R1.lstAt hd;refine⟨.ref ad,ea,ρ,st1,R1,ok1,za6 (za3.mp w) (λdk st2 q2 vk H2 e2 ok2 zk=>?_) λx st2 q2 H2 e2 ok2=>q2 H2 (e2.f0 R1) ok2⟩;cases dk with
   | int j=>
     have zj:vk=.int j:=Is.int_iff.mp (show Is c.K (λb=>¬W.mv b) H2 (.int j) vk from zk.toR);cases hn:ixN l.length j with
     | none=>simp only[hn] at q2;exact(show False from q2).elim
     | some n=>
       simp only[hn] at q2;by_cases hc:d.imm=true
       ·rw[if_pos hc] at q2
        have R2:=R1.ext ok1 e2;have eH2:=e2 ad _ eH nm;have z2:IsL c.K (Av c σ ρ) H2 l vs:=zz.mono (e2.keepT ok1 λb a=>⟨a.1,a⟩);have zv:Is c.K (Av c σ ρ) H2 d v:=Is.ofImm (A:=Av c σ ρ) hc ((Is.ofImm (A':=Av c σ ρ) hc z).mono (e2.keepT ok1 λb a=>⟨a.1,a⟩));refine⟨ad,vs,j,n,rfl,zj,eH2,by rw[<-z2.length];exact hn,?_⟩;obtain⟨R3,F3⟩:=R2.wr (d':=.lst (l.set n d)) (o:=.lst (vs.set n v)) (zn9 hd) ea ⟨(λu z=>by cases z),(λob u z=>by cases z)⟩ λkt=>⟨_,zb4,(z2.set n zv).mono kt⟩
        exact⟨_,st2,e2.frm.trans F3,zw6 ok2 nm,R3,q2⟩
       ·rw[if_neg hc] at q2;exact(show False from q2).elim
   | _=>exact(show False from q2).elim
def xo9(mo:∀σ H P P',(∀v H,P v H->P' v H)->to σ H P->to σ H P')(mi:∀σ H P P',(∀v H,P v H->P' v H)->ti σ H P->ti σ H P')(mt:∀o i v H P P',(∀H,P H->P' H)->t o i v H P->t o i v H P')(h:vd7 to ti t v σ H Q)(k:∀σ H,Q σ H->Q' σ H):vd7 to ti t v σ H Q':=
 mo _ _ _ _ (λ_ _ h=>mi _ _ _ _ (λ_ _ h=>mt _ _ _ _ _ _ (λ_ h=>k _ _ h) h) h) h
def xe8(o i v:V)(H:Hp)(P P':Hp->Prop)(k:∀H,P H->P' H)(h:ww6 o i v H P):ww6 o i v H P':=
 let ⟨p,xs,kk,j,a,b,c,d,e⟩:=h;⟨p,xs,kk,j,a,b,c,d,k _ e⟩
def gsub_ok'{i:Nat}(R1:Rep c H1 σ ρ)(ok1:W.ok st1 H1)(z:Is c.K A H1 d v)(w:wpR (wt8 S i fk d ρ st1) Qn (wy4 c))(k:∀σ' H' ρ' st',Frm c H1 σ ρ H' σ' ρ'->W.ok st' H'->Rep c H' σ' ρ'->Qn (.nx ρ') st'->Q' σ' H'):vd7 (wu2 i) (tD c ga fk) ww6 v σ H1 Q':=
 xo9 (λ_ _ _ _ k ⟨x,e,h⟩=>⟨x,e,k _ _ h⟩) (λ_ _ _ _ k h=>zh1 h λv H h=>k v H h) xe8 (wh0 R1 ok1 z w) λσ' H' ⟨ρ',st',a,b,r,q⟩=>k σ' H' ρ' st' a b r q
open H in
def yx6{x:Str}{i n1:Nat}(hc:X.calm=true)(hx:PE X (.Name x p1) (wu2 i))(hx':PE X (.Name x p3) (wu2 i))(hk:DE X c ga k fk)(hl:DE X c gb l fl)(hv:DE X c .R value fv)(hK:X.K=c.K)(h:∀{tk tl tv:TE},PE X k tk->PE X l tl->PE X value tv->PS X (.Assign [.Tuple [.Subscript (.Name x p1) k p2,.Subscript (.Name x p3) l p4] n1 p5] value pos) (ve5 tv (vs7 X.K 2 (vg7 (vd7 (wu2 i) tk ww6) (vg7 (vd7 (wu2 i) tl ww6) vs8))))) :
 DS X c (.Assign [.Tuple [.Subscript (.Name x p1) k p2,.Subscript (.Name x p3) l p4] n1 p5] value pos) (xi8 S i fk fl fv):=
 (h hk hl hv).imp λD σ H q=>by
  refine zh1 (zx0 (g:=.R) (k:=λt ρ st1=>match t with
   | .tup [a,b]=>if b.imm=true then (wt8 S i fk a ρ st1).bind λr st2=>match r with
     | .nx ρ1=>wt8 S i fl b ρ1 st2
     | _=>.bad
     else .bad
   | _=>.bad) q) λv H1 ⟨ρ,d,st0,st1,R,ok,R1,ok1,e1,z,w⟩=>?_
  split at w
  ·rename_i a b
   by_cases hb:b.imm=true;case neg=>rw[if_neg hb] at w;exact(show False from w).elim
   rw[if_pos hb] at w;obtain⟨ad,vs,ea,es,i1⟩:=Is.tup_sq (show Is c.K (λb=>¬W.mv b) H1 (.tup [a,b]) v from z.toR);obtain⟨va,r,e2,ia,i2⟩:=IsL.cons.mp i1;obtain⟨vb,r',e3,ib,i3⟩:=IsL.cons.mp i2;rw[IsL.nil.mp i3] at e3;subst e3;refine⟨ad,vs,ea,by rw[hK];exact es,by rw[e2];rfl,va,_,e2,?_⟩;refine gsub_ok' R1 ok1 ia (za3.mp w) λσ2 H2 ρ2 st2 f2 ok2 R2 q2=>⟨vb,_,rfl,?_⟩
   have q2:wpR (wt8 S i fl b ρ2 st2) (wt3 c D σ ρ H) (wy4 c):=q2;have ib2:Is c.K (Av c σ2 ρ2) H2 b vb:=(Is.ofImm (A':=Av c σ ρ) hb ib).mono (f2.keepT R1 ok1);exact gsub_ok' R2 ok2 ib2 q2 λσ3 H3 ρ3 st3 f3 ok3 R3 q3=>⟨rfl,q3 σ3 H3 (e1.frm.trans (f2.trans f3)) ok3 R3⟩
  ·exact(show False from w).elim
end
def vi8(ρ:Rho)(i:Nat):Option (List D):=match ρ[i]? with
 | some (.own (.lst l))=>some l
 | _=>none
def ys0{i:Nat}(h:vi8 ρ i=some l):ρ[i]?=some (.own (.lst l)):=by
 unfold vi8 at h;split at h
 ·cases h;assumption
 ·cases h
def vc4(S:Type)(i:Nat)(f:Fn S):FnS S:=λρ st=>match vi8 ρ i with
 | some l=>(f ρ st).bind λd st1=>if l.length<sizeLine then .ok (.nx (ρ.set i (.own (.lst (l++[d]))))) st1 else .bad
 | none=>.bad
section
variable{X:Cx}{S:Type}{W:Wd S}{c:Dx W}{i:Nat}
def wh4{x:Str}(hx:PE X (.Name x p1) (wu2 i))(he:DE X c .B e f)(hK:c.K=X.K)(hbase:attributeBase (.Name x p1) "append" X.env (eval (.Name x p1) X.env)=eval (.Name x p1) X.env:=by rfl)(hfew:((backTo p3 (starEach [e] X.env)).all (λx=>!x.1)&&(backToKw p3 (keywordEach [] X.env)).all (λx=>x.1.isSome)
  && decide (([e]:List Expr).length+([]:List Keyword).length+(if ([]:List Keyword).isEmpty then 0 else 1)<30))=true:=by rfl)(hline:(p2.endLine == p3.line)=true:=by rfl)(hs:starEach [e] X.env=(false,eval e X.env)::starEach [] X.env:=by rfl)(hplain:(backTo p3 (starEach [] X.env)).any (·.1)=false:=by rfl)(hsw:swapsWith (.Call (.Attribute (.Name x p1) "append" p2) [e] [] p3) none p4.line X.env=pure false:=by rfl) :
 DS X c (.Expr (.Call (.Attribute (.Name x p1) "append" p2) [e] [] p3) p4) (vc4 S i f):=
 (ym6 (wy7 PySem.F.plainAttrs_list PySem.F.slot_list_append PySem.F.type_list_append zl8 hx (zi1 he zp4 hs) hbase hfew hline hs hplain) hsw).imp λD σ H hI44=>by
  obtain⟨ρ,st,R,ok,w⟩:=hI44;unfold vc4 at w;cases q:vi8 ρ i with
  | none=>rw[q] at w;exact w.elim
  | some l=>
    rw[q] at w;obtain⟨a,e1,n,f0,vs,e2,z⟩:=R.slot i _ (ys0 q);have ea:=zf7 e1;refine⟨.ref a,ea,.inl ⟨rfl,vs,.of e2⟩,ρ,st,R,ok,za6 (za3.mp w) (λd st1 q1 v H1 e ok1 zv=>?_) λx st1 q H1 e ok1=>q H1 (e.f0 R) ok1⟩;by_cases hl:l.length<sizeLine
    ·rw[if_pos hl] at q1
     have R1:=R.ext ok e;have eH1:=e a _ e2 n.1;have z1:IsL c.K (Av c σ ρ) H1 l vs:=z.mono (e.keepT ok λb a=>⟨a.1,a⟩);have zv:Is c.K (Av c σ ρ) H1 d v:=zv;refine⟨a,vs,v,rfl,rfl,eH1,by rw[<-z1.length];exact hl,?_⟩;obtain⟨R2,F2⟩:=R1.wr (d':=.lst (l++[d])) (o:=.lst (vs++[v])) (ys0 q) ea ⟨(λu z=>by cases z),(λob u z=>by cases z)⟩ λk=>⟨_,zb4,IsL.mono k (z1.append (IsL.one zv))⟩
     exact q1 σ _ (e.frm.trans F2) (zw6 ok1 n.1) R2
    ·rw[if_neg hl] at q1;exact(show False from q1).elim
def vm6(S:Type)(fz:List Nat)(F:FnS S):FnS S:=λρ st=>F (frz fz ρ) st
def wo3(fz:List Nat)(h:DS X c s F):DS X c s (vm6 S fz F):=h.imp λD σ H hI45=>by
 obtain⟨ρ,st,R,ok,w⟩:=hI45;obtain⟨R1,F1⟩:=Rep.frz ok fz R;exact⟨frz fz ρ,st,R1,ok,za6 (show wpR (F (frz fz ρ) st) _ _ from w) (λfl st' q=>q.from F1) λ_ _ q=>q⟩
section
variable{Q:Fl->S->Prop}{E:Exn->S->Prop}{ρ:Rho}{st:S}
def wb9{fz:List Nat}:wpR (vm6 S fz F ρ st) Q E↔wpR (F (frz fz ρ) st) Q E:=Iff.rfl
def xs9(h1:vi8 ρ i=some l)(h2:wpR (f ρ st) (λd st1=>l.length<sizeLine/\Q (.nx (ρ.set i (.own (.lst (l++[d]))))) st1) E):wpR (vc4 S i f ρ st) Q E:=by
 unfold vc4;rw[h1];refine za3.mpr (za6 h2 (λd st1 hI122=>?_) λ_ _ z=>z);obtain⟨h,q⟩:=hI122;rw[if_pos h];exact q
end
end
end L2
namespace PySem
def zA2(n1 n2:String)(h:Heap)(l1 l2:Addr):Heap:=(h.push (zO n1 l1)).push (zO n2 l2)
def zB2(n1 n2:String)(h:Heap)(l1 l2:Addr):Heap:=((zA2 n1 n2 h l1 l2).push { cls:=.type "tuple",data:=.seq #[.ref h.objs.size,.ref (h.push (zO n1 l1)).objs.size] }).push { cls:=.type "tuple",data:=.seq #[.none,.none] }
def zC2(n1 n2:String)(h:Heap)(l1 l2:Addr):Heap:=(zB2 n1 n2 h l1 l2).push { cls:=.type "zip",data:=.fields #[.none,.bool false,.bool false,.ref (zA2 n1 n2 h l1 l2).objs.size,.ref ((zA2 n1 n2 h l1 l2).push { cls:=.type "tuple",data:=.seq #[.ref h.objs.size,.ref (h.push (zO n1 l1)).objs.size] }).objs.size] }
def xf6(l1 l2:Addr)(xs ys:Array Value) :
 Meets (Builtin.«zip.__new__» ⟨[.type "zip",.ref l1,.ref l2],[]⟩) (λ_ R s=>s.heap.IsTuple l1 xs/\s.heap.IsList l2 ys/\
  R (.ok (.ret (.ref (zB2 "tuple_iterator" "list_iterator" s.heap l1 l2).objs.size))) { s with heap:=zC2 "tuple_iterator" "list_iterator" s.heap l1 l2 }):=
 .of_wp λprog w A R s h=>by
  obtain⟨hp,g,d,tk,os⟩:=s;obtain⟨hl1,hl2,h⟩:=h;have hsub:=sub_zip;have hL1:Heap.IsTuple (Shared.heap ⟨hp,g,d,tk,os⟩) l1 xs:=hl1;have hL2:Heap.IsList (Shared.heap ⟨hp.push { cls:=.type "tuple_iterator",data:=.fields #[.ref l1,.int 0 0] },g,d,tk,os⟩) l2 ys:=hl2.at λo e=>Ab0 _ e
  wp_walk using wpAny_pyIter_tuple hL1,wpAny_pyIter_list hL2
  exact⟨_,rfl,h⟩
def xg8(n1 n2:String)(h:Heap)(l1 l2:Addr):(h.push (zO n1 l1)).objs.size=h.objs.size+1/\(zA2 n1 n2 h l1 l2).objs.size=h.objs.size+2/\(zB2 n1 n2 h l1 l2).objs.size=h.objs.size+4:=by
 refine⟨Bm0 ..,?_,?_⟩
 ·unfold zA2;rw[Bm0,Bm0]
 ·unfold zB2 zA2;rw[Bm0,Bm0,Bm0,Bm0]
def yv1(n1 n2:String)(h:Heap)(l1 l2:Addr):IsZip (zC2 n1 n2 h l1 l2) (h.objs.size+4) (h.objs.size+2) (h.objs.size+3) .none/\IsPair (zC2 n1 n2 h l1 l2) (h.objs.size+2) (.ref h.objs.size) (.ref (h.objs.size+1))/\
 IsPair (zC2 n1 n2 h l1 l2) (h.objs.size+3) .none .none/\(zC2 n1 n2 h l1 l2).get? h.objs.size=some (zO n1 l1)/\(zC2 n1 n2 h l1 l2).get? (h.objs.size+1)=some (zO n2 l2)/\∀c o,h.get? c=some o->(zC2 n1 n2 h l1 l2).get? c=some o:=by
 obtain⟨s1,s2,s4⟩:=xg8 n1 n2 h l1 l2;have s3:((zA2 n1 n2 h l1 l2).push { cls:=.type "tuple",data:=.seq #[.ref h.objs.size,.ref (h.push (zO n1 l1)).objs.size] }).objs.size=h.objs.size+3:=by rw[Bm0,s2]
 have u:∀{c:Addr} {o:Obj},(zB2 n1 n2 h l1 l2).get? c=some o->(zC2 n1 n2 h l1 l2).get? c=some o:=λ{c o} q=>Ab0 _ q
 have v:∀{c:Addr} {o:Obj},(zA2 n1 n2 h l1 l2).get? c=some o->(zC2 n1 n2 h l1 l2).get? c=some o:=λ{c o} q=>u (Ab0 _ (Ab0 _ q))
 refine⟨?_,?_,?_,v (Ab0 _ (Ad0 _ rfl)),?_,λc o q=>v (Ab0 _ (Ab0 _ q))⟩
 ·have q:(zC2 n1 n2 h l1 l2).get? (zB2 n1 n2 h l1 l2).objs.size=some _:=Ad0 _ rfl
  rw[s4,s3,s2] at q;exact q
 ·have q:(zC2 n1 n2 h l1 l2).get? (zA2 n1 n2 h l1 l2).objs.size=some _:=u (Ab0 _ (Ad0 _ rfl))
  rw[s2,s1] at q;exact q
 ·have q:(zC2 n1 n2 h l1 l2).get? ((zA2 n1 n2 h l1 l2).push { cls:=.type "tuple",data:=.seq #[.ref h.objs.size,.ref (h.push (zO n1 l1)).objs.size] }).objs.size=some _:=u (Ad0 _ rfl)
  rw[s3] at q;exact q
 ·have q:(zA2 n1 n2 h l1 l2).get? (h.push (zO n1 l1)).objs.size=some (zO n2 l2):=Ad0 _ rfl
  rw[s1] at q;exact v q
section
variable{prog:Program}{w:World}{A:Around}{E:Value->Shared->Prop}{s:Shared}
end
end PySem
namespace L2
def vm4(a b:Addr):Hp->List V->List V->Prop:=λH xs ys=>H a=some (.tup xs)/\H b=some (.lst ys)
def wi8{P:Program}{w:World}{K:PySem.W.Frag}{l1 l2 i1 i2:Addr}:ZW P w K l1 l2 i1 i2 (vm4 l1 l2) (λk h=>h.IsTupleIter i1 l1 k) (λk h=>h.IsListIter i2 l2 k) where
 obj:=λk h=>⟨λ⟨o,ho,c,d⟩=>⟨o,ho,λv z=>by rw[d] at z;cases z⟩,λ⟨o,ho,c,d⟩=>⟨o,ho,λv z=>by rw[d] at z;cases z⟩⟩
 keep:=λk h h'=>⟨λa q=>a.at q,λa q=>a.at q⟩
 there:=λH xs ys q=>⟨(λz=>by rw[q.1] at z;cases z),(λz=>by rw[q.2] at z;cases z)⟩
 vals:=λX hK A3 σ H s xs ys I q n1 n2=>by
  obtain⟨us,ru,t1,_⟩:=I.tuple (SqT.of q.1);obtain⟨vs,rv,t2,_⟩:=I.list (SqL.of q.2);exact⟨us,vs,ru,rv,λxs' ys' q'=>⟨I.tuple_inj (SqT.of q'.1) (SqT.of q.1),I.list_inj (SqL.of q'.2) (SqL.of q.2)⟩,_,_,Wlk.tup n1,Wlk.lst n2,λk z=>⟨z,t1⟩,λk z=>⟨z,t2.isList⟩,λk h=>⟨λz=>z.1,λz=>z.1⟩⟩
section
variable{X:Cx}{elts:List Expr}{x1:Nat}{tpos:Pos}{S:Type}{W:Wd S}{c:Dx W}{g ga:Gr}{H:Hp}{st:S}
end
end L2
namespace Ts
open PySem PyProof.Rows
section
variable{prog:Program}{w:World}{A:Around}{E:Value->Shared->Prop}{s:Shared}{κ:KeyKind}{knd:SortKind}
def Cmp(prog:Program)(w:World)(A:Around)(E:Value->Shared->Prop)(s:Shared)(κ:KeyKind)(knd:SortKind):Prop:=
 ∀(st:SortSt) (x y:Keyed) (a b:κ.α) (Q:Option Bool->SortSt->Prop),kindOf st=knd->κ.keyOf x.1=some a->κ.keyOf y.1=some b->Q (some (κ.blt a b)) st->wpS (model prog w) A E s (lt' x y) Q st
def ky(κ:KeyKind)(x:Keyed):κ.α:=(κ.keyOf x.1).getD κ.dflt
structure Bs(a₀:Array Keyed)(knd:SortKind)(P:Array (Nat×Nat×Nat))(st:SortSt):Prop where
 perm:(arrOf st).Perm a₀
 kind:kindOf st=knd
 fail:failedOf st=none
 pend:pendingOf st=P
variable{a₀:Array Keyed}{P:Array (Nat×Nat×Nat)}{st:SortSt}
def Bs.size(B:Bs a₀ knd P st):(arrOf st).size=a₀.size:=B.perm.size_eq
def Bs.arr(B:Bs a₀ knd P st){xs:Array Keyed}(h:xs.Perm (arrOf st)):Bs a₀ knd P (setArr st xs):=⟨h.trans B.perm,B.kind,B.fail,B.pend⟩
def Bs.at(B:Bs a₀ knd P st)(h0:KeysOf κ a₀){i:Nat}(hi:i<a₀.size):∃x a,(arrOf st)[i]?=some x/\κ.keyOf x.1=some a/\KK κ (arrOf st) i=a:=by
 have hi':i<(arrOf st).size:=by rw[B.size];exact hi
 have hm:(arrOf st)[i]∈a₀.toList:=(Array.perm_iff_toList_perm.mp B.perm).mem_iff.mp (Array.getElem_mem_toList hi');obtain⟨a,ha⟩:=h0 _ hm;have e:(arrOf st)[i]?=some (arrOf st)[i]:=As0 hi';refine⟨_,a,e,ha,?_⟩;unfold KK;rw[e];show (κ.keyOf (arrOf st)[i].1).getD κ.dflt=a;rw[ha];rfl
def ye7(C:Cmp prog w A E s κ knd)(h0:KeysOf κ a₀)(B:Bs a₀ knd P st){i j:Nat}(hi:i<a₀.size)(hj:j<a₀.size){Q:Option Bool->SortSt->Prop}(h:Q (some (κ.blt (KK κ (arrOf st) i) (KK κ (arrOf st) j))) st):wpS (model prog w) A E s (ltAt' i j) Q st:=by
 obtain⟨x,a,e1,k1,r1⟩:=B.at h0 hi;obtain⟨y,b,e2,k2,r2⟩:=B.at h0 hj;rw[ltAt'_eq];refine Ab1 (wpS_get ?_);show wpS _ _ _ _ (elem' (arrOf st) i >>= λx=>elem' (arrOf st) j >>= λy=>lt' x y) Q st;rw[elem'_eq,elem'_eq,e1,e2];refine Ab1 (Ad1 (Ab1 (Ad1 (C st x y a b Q B.kind k1 k2 ?_))));rw[<-r1,<-r2];exact h
def Up(κ:KeyKind)(xs:Array Keyed)(lo hi:Nat):Prop:=∀i j,lo<=i->i<=j->j<hi->κ.kle (KK κ xs i) (KK κ xs j)
def Dn(κ:KeyKind)(xs:Array Keyed)(lo hi:Nat):Prop:=∀i j,lo<=i->i<=j->j<hi->κ.kle (KK κ xs j) (KK κ xs i)
def Up.one{xs:Array Keyed}{lo hi:Nat}(h:hi<=lo+1):Up κ xs lo hi:=λi j h1 h2 h3=>by
 have:i=j:=by omega
 subst this;exact KeyOrd.kle_refl _
def Up.snoc{xs:Array Keyed}{lo n:Nat}(h:Up κ xs lo (lo+n))(h1:1<=n)(hl:κ.kle (KK κ xs (lo+n-1)) (KK κ xs (lo+n))):Up κ xs lo (lo+(n+1)):=λi j g1 g2 g3=>by
 by_cases hj:j<lo+n
 ·exact h i j g1 g2 hj
 ·have:j=lo+n:=by omega
  subst this;by_cases hi:i=lo+n
  ·subst hi;exact KeyOrd.kle_refl _
  ·exact KeyOrd.kle_trans (h i (lo+n-1) g1 (by omega) (by omega)) hl
def Dn.snoc{xs:Array Keyed}{lo n:Nat}(h:Dn κ xs lo (lo+n))(h1:1<=n)(hl:κ.kle (KK κ xs (lo+n)) (KK κ xs (lo+n-1))):Dn κ xs lo (lo+(n+1)):=λi j g1 g2 g3=>by
 by_cases hj:j<lo+n
 ·exact h i j g1 g2 hj
 ·have:j=lo+n:=by omega
  subst this;by_cases hi:i=lo+n
  ·subst hi;exact KeyOrd.kle_refl _
  ·exact KeyOrd.kle_trans hl (h i (lo+n-1) g1 (by omega) (by omega))
def Out(xs ys:Array Keyed)(lo hi:Nat):Prop:=∀i,(i<lo\/hi<=i)->ys[i]?=xs[i]?
def xs1{xs:Array Keyed}{i j k:Nat}(hj:j<=xs.size):KK κ (mirror xs i j ((j-i) / 2)) k=if i<=k/\k<j then KK κ xs (i+j-1-k) else KK κ xs k:=KK_mirror hj k
def xy7(C:Cmp prog w A E s κ knd)(h0:KeysOf κ a₀)(B:Bs a₀ knd P st){lo A9 a:Nat}(hl:lo+A9<=a₀.size)(ha:1<=a)(han:a<=A9)(hu:Up κ (arrOf st) lo (lo+a)){Q:Option (Option Nat)×Nat->SortSt->Prop}(h:∀n,a<=n->n<=A9->Up κ (arrOf st) lo (lo+n)->(n=A9\/κ.blt (KK κ (arrOf st) (lo+n)) (KK κ (arrOf st) (lo+n-1))=true)->Q (none,n) st) :
 wpS (model prog w) A E s (forIn [a:A9] ((none,a):Option (Option Nat)×Nat) λ_ r=>do
  let x <-ltAt' (lo+r.2) (lo+r.2-1)
  match x with
  | some smaller=>if smaller=true then pure (ForInStep.done (none,r.2)) else pure (ForInStep.yield (none,r.2+1))
  | _=>pure (ForInStep.done (some none,r.2))) Q st:=by
 refine wpS_forRange (I:=λx c st'=>st'=st/\c=(none,x)/\Up κ (arrOf st) lo (lo+x)) (λi c st' h1 h2 hI124=>?_) (λc st' hI123=>?_) ⟨rfl,rfl,hu⟩
 ·obtain⟨e1,e2,hu⟩:=hI124
  subst e1 e2;refine Ab1 (ye7 C h0 B (by omega) (by omega) ?_);show wpS _ _ _ _ (if κ.blt (KK κ (arrOf st') (lo+i)) (KK κ (arrOf st') (lo+i-1))=true then _ else _) _ _;cases hb:κ.blt (KK κ (arrOf st') (lo+i)) (KK κ (arrOf st') (lo+i-1))
  ·rw[if_neg Au0]
   exact Ad1 ⟨rfl,rfl,hu.snoc (by omega) hb⟩
  ·rw[if_pos rfl]
   exact Ad1 (h i h1 (by omega) hu (.inr hb))
 ·obtain⟨e1,e2,hu⟩:=hI123
  subst e1 e2;have e:max a A9=A9:=by omega
  rw[e] at hu ⊢;exact h A9 han (Ag0 _) hu (.inl rfl)
def Out.refl{xs:Array Keyed}{lo hi:Nat}:Out xs xs lo hi:=λ_ _=>rfl
def Out.trans{xs ys zs:Array Keyed}{lo hi:Nat}(a:Out xs ys lo hi)(b:Out ys zs lo hi):Out xs zs lo hi:=λi h=>(b i h).trans (a i h)
def Out.mir{xs:Array Keyed}{lo hi p q:Nat}(hq:q<=xs.size)(h1:lo<=p)(h2:q<=hi):Out xs (mirror xs p q ((q-p) / 2)) lo hi:=λi h=>by
 rw[getElem?_mirror_all hq,if_neg (by omega)]
def yy5{xs:Array Keyed}{p q:Nat}{c:κ.α}(hq:q<=xs.size)(h:∀i,p<=i->i<q->KK κ xs i=c)(k:Nat):KK κ (mirror xs p q ((q-p) / 2)) k=KK κ xs k:=by
 rw[xs1 hq];by_cases hk:p<=k/\k<q
 ·rw[if_pos hk,h k hk.1 hk.2,h _ (by omega) (by omega)]
 ·rw[if_neg hk]
def Dn.turn{xs:Array Keyed}{lo n:Nat}(hq:lo+n<=xs.size)(h:Dn κ xs lo (lo+n)):Up κ (mirror xs lo (lo+n) ((lo+n-lo) / 2)) lo (lo+n):=λi j g1 g2 g3=>by
 rw[xs1 hq,xs1 hq,if_pos ⟨g1,by omega⟩,if_pos ⟨by omega,g3⟩];exact h _ _ (by omega) (by omega) (by omega)
def Dn.congr{xs ys:Array Keyed}{lo hi:Nat}(h:Dn κ xs lo hi)(e:∀k,KK κ ys k=KK κ xs k):Dn κ ys lo hi:=λi j g1 g2 g3=>by rw[e i,e j];exact h i j g1 g2 g3
def xh0(C:Cmp prog w A E s κ knd)(h0:KeysOf κ a₀)(B:Bs a₀ knd P st){lo A9 n:Nat}(hl:lo+A9<=a₀.size)(h1:1<=n)(hn:n<=A9)(hd:Dn κ (arrOf st) lo (lo+n)){Q:Option Nat->SortSt->Prop}(h:∀m st',Bs a₀ knd P st'->1<=m->m<=A9->Up κ (arrOf st') lo (lo+m)->Out (arrOf st) (arrOf st') lo (lo+A9)->Q (some m) st') :
 wpS (model prog w) A E s (do
  reverseSlice' lo (lo+n)
  let r <-forIn [n:A9] ((none,n):Option (Option Nat)×Nat) λ_ r=>do
   let x <-ltAt' (lo+r.2) (lo+r.2-1)
   match x with
   | some smaller=>if smaller=true then pure (ForInStep.done (none,r.2)) else pure (ForInStep.yield (none,r.2+1))
   | _=>pure (ForInStep.done (some none,r.2))
  match r.1 with
  | some r=>pure r
  | none=>pure (some r.2)) Q st:=by
 have hz:lo+n<=(arrOf st).size:=by rw[B.size];omega
 rw[reverseSlice'_eq];refine Ab1 (wpS_modify (Ab1 (xy7 C h0 (B.arr (mirror_perm _ _ _ _)) hl h1 hn (Dn.turn hz hd) λm g1 g2 g3 _=>?_)));exact Ad1 (h m _ (B.arr (mirror_perm _ _ _ _)) (by omega) g2 g3 (Out.mir hz (Ag0 _) (by omega)))
def xh5(C:Cmp prog w A E s κ knd)(h0:KeysOf κ a₀)(B:Bs a₀ knd P st){lo A9 n:Nat}(hl:lo+A9<=a₀.size)(h1:1<=n)(hn:n<=A9)(hd:Dn κ (arrOf st) lo (lo+n)){Q:Option Nat->SortSt->Prop}(h:∀m st',Bs a₀ knd P st'->1<=m->m<=A9->Up κ (arrOf st') lo (lo+m)->Out (arrOf st) (arrOf st') lo (lo+A9)->Q (some m) st') :
 wpS (model prog w) A E s (do
  liftM (rule "list.sort.descending-run")
  let r <-forIn [n:A9] ((none,n,0):Option (Option Nat)×Nat×Nat) λ_ r=>do
   let x <-ltAt' (lo+r.2.1) (lo+r.2.1-1)
   match x with
   | some smaller=>
     if smaller=true then
      if r.2.2>0 then do
       reverseSlice' (lo+r.2.1-(r.2.2+1)) (lo+r.2.1)
       pure (ForInStep.yield (none,r.2.1+1,0))
      else pure (ForInStep.yield (none,r.2.1+1,0))
     else do
      let x <-ltAt' (lo+r.2.1-1) (lo+r.2.1)
      match x with
      | some larger=>if larger=true then pure (ForInStep.done (none,r.2.1,r.2.2)) else pure (ForInStep.yield (none,r.2.1+1,r.2.2+1))
      | _=>pure (ForInStep.done (some none,r.2.1,r.2.2))
   | _=>pure (ForInStep.done (some none,r.2.1,r.2.2))
  match r.1 with
  | some r=>pure r
  | none=>
    if r.2.2>0 then do
     reverseSlice' (lo+r.2.1-(r.2.2+1)) (lo+r.2.1)
     reverseSlice' lo (lo+r.2.1)
     let r <-forIn [r.2.1:A9] ((none,r.2.1):Option (Option Nat)×Nat) λ_ r=>do
      let x <-ltAt' (lo+r.2) (lo+r.2-1)
      match x with
      | some smaller=>if smaller=true then pure (ForInStep.done (none,r.2)) else pure (ForInStep.yield (none,r.2+1))
      | _=>pure (ForInStep.done (some none,r.2))
     match r.1 with
     | some r=>pure r
     | none=>pure (some r.2)
    else do
     reverseSlice' lo (lo+r.2.1)
     let r <-forIn [r.2.1:A9] ((none,r.2.1):Option (Option Nat)×Nat) λ_ r=>do
      let x <-ltAt' (lo+r.2) (lo+r.2-1)
      match x with
      | some smaller=>if smaller=true then pure (ForInStep.done (none,r.2)) else pure (ForInStep.yield (none,r.2+1))
      | _=>pure (ForInStep.done (some none,r.2))
     match r.1 with
     | some r=>pure r
     | none=>pure (some r.2)) Q st:=by
 refine Ab1 (wpS_lift (Ai1 ⟨rfl,?_⟩));refine Ab1 (wpS_mono (wpS_forRange (I:=λx c st'=>∃q,c=(none,x,q)/\Bs a₀ knd P st'/\x<=A9/\Dn κ (arrOf st') lo (lo+x)/\q+1<=x/\(∀i,lo+x-(q+1)<=i->i<lo+x->KK κ (arrOf st') i=KK κ (arrOf st') (lo+x-1))/\Out (arrOf st) (arrOf st') lo (lo+A9)) (Q:=λc st'=>∃x q,c=(none,x,q)/\1<=x/\Bs a₀ knd P st'/\x<=A9/\Dn κ (arrOf st') lo (lo+x)/\q+1<=x/\(∀i,lo+x-(q+1)<=i->i<lo+x->KK κ (arrOf st') i=KK κ (arrOf st') (lo+x-1))/\Out (arrOf st) (arrOf st') lo (lo+A9))
  (λx c st' hx1 hx2 hI=>?_) (λc st' hI=>?_) ⟨0,rfl,B,hn,hd,h1,λi g1 g2=>by rw[show i=lo+n-1 by omega],Out.refl⟩) λc st' hI=>?_)
 ·obtain⟨q,e,B',hxn,hd',hq,he,ho⟩:=hI
  subst e;have hz:lo+x<=(arrOf st').size:=by rw[B'.size];omega
  refine Ab1 (ye7 C h0 B' (i:=lo+x) (j:=lo+x-1) (by omega) (by omega) ?_);show wpS _ _ _ _ (if κ.blt (KK κ (arrOf st') (lo+x)) (KK κ (arrOf st') (lo+x-1))=true then _ else _) _ _;cases hb:κ.blt (KK κ (arrOf st') (lo+x)) (KK κ (arrOf st') (lo+x-1))
  ·rw[if_neg Au0]
   refine Ab1 (ye7 C h0 B' (i:=lo+x-1) (j:=lo+x) (by omega) (by omega) ?_);show wpS _ _ _ _ (if κ.blt (KK κ (arrOf st') (lo+x-1)) (KK κ (arrOf st') (lo+x))=true then _ else _) _ _;cases hb2:κ.blt (KK κ (arrOf st') (lo+x-1)) (KK κ (arrOf st') (lo+x))
   ·rw[if_neg Au0]
    have ee:KK κ (arrOf st') (lo+x)=KK κ (arrOf st') (lo+x-1):=κ.total _ _ hb hb2;refine Ad1 ⟨q+1,rfl,B',by omega,hd'.snoc (by omega) (by rw[ee];exact KeyOrd.kle_refl _),by omega,λi g1 g2=>?_,ho⟩;have e3:lo+(x+1)-1=lo+x:=by omega
    rw[e3,ee];by_cases hi:i=lo+x
    ·rw[hi,ee]
    ·exact he i (by omega) (by omega)
   ·rw[if_pos rfl]
    exact Ad1 ⟨x,q,rfl,by omega,B',hxn,hd',hq,he,ho⟩
  ·rw[if_pos rfl]
   have lt:κ.kle (KK κ (arrOf st') (lo+x)) (KK κ (arrOf st') (lo+x-1)):=KeyOrd.kle_of_klt hb;by_cases hq0:q>0
   ·show wpS _ _ _ _ (if q>0 then _ else _) _ _
    rw[if_pos hq0];show wpS _ _ _ _ (reverseSlice' (lo+x-(q+1)) (lo+x) >>= λ_=>pure (ForInStep.yield (none,x+1,0))) _ _;rw[reverseSlice'_eq];have ks:∀k,KK κ (mirror (arrOf st') (lo+x-(q+1)) (lo+x) ((lo+x-(lo+x-(q+1))) / 2)) k=KK κ (arrOf st') k:=yy5 hz he;refine Ab1 (wpS_modify (Ad1 ⟨0,rfl,B'.arr (mirror_perm _ _ _ _),by omega,(hd'.congr ks).snoc (by omega) (by rw[ks,ks];exact lt),by omega,λi g1 g2=>?_,ho.trans (Out.mir hz (by omega) (by omega))⟩));rw[show i=lo+(x+1)-1 by omega]
   ·show wpS _ _ _ _ (if q>0 then _ else _) _ _
    rw[if_neg hq0];refine Ad1 ⟨0,rfl,B',by omega,hd'.snoc (by omega) lt,by omega,λi g1 g2=>?_,ho⟩;rw[show i=lo+(x+1)-1 by omega]
 ·obtain⟨q,e,B',hxn,hd',hq,he,ho⟩:=hI
  exact⟨_,q,e,by omega,B',hxn,hd',hq,he,ho⟩
 ·obtain⟨x,q,e,hx,B',hxn,hd',hq,he,ho⟩:=hI
  subst e;have hz:lo+x<=(arrOf st').size:=by rw[B'.size];omega
  by_cases hq0:q>0
  ·show wpS _ _ _ _ (if q>0 then _ else _) _ _
   rw[if_pos hq0];rw[reverseSlice'_eq (lo+x-(q+1)) (lo+x)];have ks:∀k,KK κ (mirror (arrOf st') (lo+x-(q+1)) (lo+x) ((lo+x-(lo+x-(q+1))) / 2)) k=KK κ (arrOf st') k:=yy5 hz he;refine Ab1 (wpS_modify ?_);exact xh0 C h0 (B'.arr (mirror_perm _ _ _ _)) hl hx hxn (hd'.congr ks) λm st2 B2 m1 m2 u2 o2=>h m st2 B2 m1 m2 u2 (ho.trans ((Out.mir hz (by omega) (by omega)).trans o2))
  ·show wpS _ _ _ _ (if q>0 then _ else _) _ _
   rw[if_neg hq0];exact xh0 C h0 B' hl hx hxn hd' λm st2 B2 m1 m2 u2 o2=>h m st2 B2 m1 m2 u2 (ho.trans o2)
open H in
def yv4(C:Cmp prog w A E s κ knd)(h0:KeysOf κ a₀)(B:Bs a₀ knd P st){lo A9:Nat}(hl:lo+A9<=a₀.size)(h1:1<=A9){Q:Option Nat->SortSt->Prop}(h:∀m st',Bs a₀ knd P st'->1<=m->m<=A9->Up κ (arrOf st') lo (lo+m)->Out (arrOf st) (arrOf st') lo (lo+A9)->Q (some m) st'):wpS (model prog w) A E s (countRun' lo A9) Q st:=by
 rw[countRun'_eq];refine Ab1 ?_;refine xy7 C h0 B hl (Ag0 1) h1 (Up.one (by omega)) λn g1 g2 g3 g4=>?_
 dsimp only;by_cases hn:n=A9
 ·rw[if_pos (by rw[hn];exact beq_self_eq_true _)]
  exact Ad1 (h n st B g1 g2 g3 Out.refl)
 rw[if_neg (by simpa using hn)];have hlt:κ.blt (KK κ (arrOf st) (lo+n)) (KK κ (arrOf st) (lo+n-1))=true:=g4.resolve_left hn;by_cases h2:n>1
 ·rw[if_pos h2]
  refine Ab1 (ye7 C h0 B (by omega) (by omega) ?_);show wpS _ _ _ _ (if κ.blt (KK κ (arrOf st) lo) (KK κ (arrOf st) (lo+n-1))=true then _ else _) _ _;cases hb:κ.blt (KK κ (arrOf st) lo) (KK κ (arrOf st) (lo+n-1));case true=>
   rw[if_pos rfl];exact Ad1 (h n st B g1 g2 g3 Out.refl)
  rw[if_neg Au0];have hz:lo+n<=(arrOf st).size:=by rw[B.size];omega
  have same:∀i,lo<=i->i<lo+n->KK κ (arrOf st) i=KK κ (arrOf st) lo:=λi k1 k2=>by
   have a1:=g3 lo i (Ag0 _) k1 k2;have a2:=KeyOrd.kle_trans (g3 i (lo+n-1) k1 (by omega) (by omega)) hb;exact KeyOrd.kle_antisymm a2 a1
  have ks:=yy5 hz same;rw[reverseSlice'_eq lo (lo+n)];refine Ab1 (wpS_modify ?_);have dn:Dn κ (arrOf st) lo (lo+n):=λi j k1 k2 k3=>by rw[same i k1 (by omega),same j (by omega) k3];exact KeyOrd.kle_refl _
  have go:=xh5 (Q:=Q) C h0 (B.arr (mirror_perm _ _ _ _)) hl (n:=n+1) (by omega) (by omega) ((dn.congr ks).snoc g1 (by rw[ks,ks];exact KeyOrd.kle_of_klt hlt)) λm st2 B2 m1 m2 u2 o2=>h m st2 B2 m1 m2 u2 ((Out.mir hz (Ag0 _) (by omega)).trans o2)
  refine Eq.mp ?_ go;congr 1;congr 1;funext _u;congr 1;funext i;obtain⟨r1,r2,r3⟩:=i;cases r1 with
  | some r=>rfl
  | none=>
    dsimp only;split
    ·congr 1;funext _v;congr 1;funext _v;congr 1;funext j;obtain⟨j1,j2⟩:=j;cases j1<;>rfl
    ·congr 1;funext _v;congr 1;funext j;obtain⟨j1,j2⟩:=j;cases j1<;>rfl
 ·rw[if_neg h2]
  have e1:n=1:=by omega
  have dn:Dn κ (arrOf st) lo (lo+n):=λi j k1 k2 k3=>by
   have:i=j:=by omega
   subst this;exact KeyOrd.kle_refl _
  have go:=xh5 (Q:=Q) C h0 B hl (n:=n+1) (by omega) (by omega) (dn.snoc g1 (KeyOrd.kle_of_klt hlt)) h;refine Eq.mp ?_ go;congr 1;congr 1;funext _u;congr 1;funext i;obtain⟨r1,r2,r3⟩:=i;cases r1 with
  | some r=>rfl
  | none=>
    dsimp only;split
    ·congr 1;funext _v;congr 1;funext _v;congr 1;funext j;obtain⟨j1,j2⟩:=j;cases j1<;>rfl
    ·congr 1;funext _v;congr 1;funext j;obtain⟨j1,j2⟩:=j;cases j1<;>rfl
end
section
variable{prog:Program}{w:World}{A:Around}{E:Value->Shared->Prop}{s:Shared}{κ:KeyKind}{knd:SortKind}{a₀:Array Keyed}{P:Array (Nat×Nat×Nat)}{st:SortSt}
def wb3{xs:Array Keyed}{src d k:Nat}(hs:src<xs.size)(hd:d<=src):KK κ (bubble xs src d) k=if k=src-d then KK κ xs src else if src-d<k/\k<=src then KK κ xs (k-1) else KK κ xs k:=KK_bubble hs hd k
def xh6(C:Cmp prog w A E s κ knd)(h0:KeysOf κ a₀)(B:Bs a₀ knd P st){lo n ok:Nat}(hl:lo+n<=a₀.size)(hok:ok<=n)(hu:Up κ (arrOf st) lo (lo+ok)){Q:Bool->SortSt->Prop}(h:∀st',Bs a₀ knd P st'->Up κ (arrOf st') lo (lo+n)->Out (arrOf st) (arrOf st') lo (lo+n)->Q true st'):wpS (model prog w) A E s (binarySort' lo n ok) Q st:=by
 rw[binarySort'_eq];refine Ab1 (wpS_mono (wpS_forRange (I:=λk c st'=>c=(none,())/\Bs a₀ knd P st'/\Up κ (arrOf st') lo (lo+min k n)/\Out (arrOf st) (arrOf st') lo (lo+n)) (Q:=λc st'=>c=(none,())/\Bs a₀ knd P st'/\Up κ (arrOf st') lo (lo+n)/\Out (arrOf st) (arrOf st') lo (lo+n)) (λk c st' hk1 hk2 hI=>?_) (λc st' hI=>?_) ⟨rfl,B,?_,Out.refl⟩) λc st' hI=>?_)
 ·obtain⟨e,B',hu',ho⟩:=hI
  subst e;rw[show min k n=k by omega] at hu';have hks:lo+k<(arrOf st').size:=by rw[B'.size];omega
  refine Ab1 (wpS_mono (wpS_forRange (I:=λx c st2=>st2=st'/\∃l r,c=(none,l,r)/\l<=r/\r<=k/\r-l<=k-x/\(∀i,i<l->κ.kle (KK κ (arrOf st') (lo+i)) (KK κ (arrOf st') (lo+k)))/\∀i,r<=i->i<k->κ.kle (KK κ (arrOf st') (lo+k)) (KK κ (arrOf st') (lo+i))) (Q:=λc st2=>st2=st'/\∃l r,c=(none,l,r)/\l<=k/\(∀i,i<l->κ.kle (KK κ (arrOf st') (lo+i)) (KK κ (arrOf st') (lo+k)))/\∀i,l<=i->i<k->κ.kle (KK κ (arrOf st') (lo+k)) (KK κ (arrOf st') (lo+i)))
   (λx c st2 hx1 hx2 hI=>?_) (λc st2 hI=>?_) ⟨rfl,0,k,rfl,by omega,by omega,by omega,λi hi=>by omega,λi g1 g2=>by omega⟩) λc st2 hI=>?_)
  ·obtain⟨e1,l,r,e2,hlr,hrk,hm,hlo,hhi⟩:=hI
   subst e1 e2;dsimp only;by_cases hge:l>=r
   ·rw[if_pos hge]
    have:l=r:=by omega
    subst this;exact Ad1 ⟨rfl,l,l,rfl,hrk,hlo,hhi⟩
   ·rw[if_neg hge]
    refine Ab1 (ye7 C h0 B' (i:=lo+k) (j:=lo+(l+r) / 2) (by omega) (by omega) ?_);show wpS _ _ _ _ (if κ.blt (KK κ (arrOf st2) (lo+k)) (KK κ (arrOf st2) (lo+(l+r) / 2))=true then _ else _) _ _;cases hb:κ.blt (KK κ (arrOf st2) (lo+k)) (KK κ (arrOf st2) (lo+(l+r) / 2))
    ·rw[if_neg Au0]
     refine Ad1 ⟨rfl,(l+r) / 2+1,r,rfl,by omega,by omega,by omega,λi g1=>?_,hhi⟩;exact KeyOrd.kle_trans (hu' (lo+i) (lo+(l+r) / 2) (by omega) (by omega) (by omega)) hb
    ·rw[if_pos rfl]
     refine Ad1 ⟨rfl,l,(l+r) / 2,rfl,by omega,by omega,by omega,hlo,λi g1 g2=>?_⟩;exact KeyOrd.kle_trans (KeyOrd.kle_of_klt hb) (hu' (lo+(l+r) / 2) (lo+i) (by omega) (by omega) (by omega))
  ·obtain⟨e1,l,r,e2,hlr,hrk,hm,hlo,hhi⟩:=hI
   have:l=r:=by omega
   subst this;exact⟨e1,l,l,e2,hrk,hlo,hhi⟩
  ·obtain⟨e1,l,r,e2,hlk,hlo,hhi⟩:=hI
   subst e1 e2;show wpS _ _ _ _ (moveDown' (lo+k) (lo+l) >>= λ_=>pure (ForInStep.yield (none,()))) _ _;rw[moveDown'_eq];have ds:lo+k-(lo+l)<=lo+k:=by omega
   refine Ab1 (wpS_modify (Ad1 ⟨rfl,B'.arr (bubble_perm _ _ _),?_,ho.trans λi hi=>?_⟩))
   ·rw[show min (k+1) n=k+1 by omega]
    intro i j g1 g2 g3;show κ.kle (KK κ (bubble (arrOf st2) (lo+k) (lo+k-(lo+l))) i) (KK κ (bubble (arrOf st2) (lo+k) (lo+k-(lo+l))) j);rw[wb3 hks ds,wb3 hks ds,show lo+k-(lo+k-(lo+l))=lo+l by omega];by_cases i1:i=lo+l
    ·rw[if_pos i1]
     by_cases j1:j=lo+l
     ·rw[if_pos j1];exact KeyOrd.kle_refl _
     ·rw[if_neg j1,if_pos ⟨by omega,by omega⟩]
      have:=hhi (j-1-lo) (by omega) (by omega);rwa [show lo+(j-1-lo)=j-1 by omega] at this
    ·rw[if_neg i1]
     by_cases i2:lo+l<i/\i<=lo+k
     ·rw[if_pos i2,if_neg (by omega),if_pos ⟨by omega,by omega⟩]
      exact hu' _ _ (by omega) (by omega) (by omega)
     ·rw[if_neg i2]
      by_cases j1:j=lo+l
      ·rw[if_pos j1]
       have:=hlo (i-lo) (by omega);rwa [show lo+(i-lo)=i by omega] at this
      ·rw[if_neg j1]
       by_cases j2:lo+l<j/\j<=lo+k
       ·rw[if_pos j2]
        exact hu' _ _ (by omega) (by omega) (by omega)
       ·rw[if_neg j2]
        exact hu' _ _ (by omega) (by omega) (by omega)
   ·show (bubble (arrOf st2) (lo+k) (lo+k-(lo+l)))[i]?=_
    rw[getElem?_bubble hks _ ds,if_neg (by omega),if_neg (by omega)]
 ·obtain⟨e,B',hu',ho⟩:=hI
  rw[show min (max (max ok 1) n) n=n by omega] at hu';exact⟨e,B',hu',ho⟩
 ·by_cases h1:ok=0
  ·exact Up.one (by omega)
  ·exact λi j g1 g2 g3=>hu i j g1 g2 (by omega)
 ·obtain⟨e,B',hu',ho⟩:=hI
  subst e;exact Ad1 (h st' B' hu' ho)
def vk1{xs:Array Keyed}{i:Nat}(h:i<xs.size):KK κ xs i=ky κ xs[i]:=by
 unfold KK ky;rw[As0 h]
def wg9{n:Nat}(h2:2<=n)(h:n<64):minRun' n n 0=n:=by
 obtain⟨f,rfl⟩:∃f,n=f+1:=⟨n-1,by omega⟩;rw[minRun'_succ,if_pos h]
def wx9(κ:KeyKind)(a₀:Array Keyed)(knd:SortKind)(st:SortSt):Prop:=Bs a₀ knd #[(0,a₀.size,0)] st/\Up κ (arrOf st) 0 a₀.size
def Bs.push{P:Array (Nat×Nat×Nat)}(B:Bs a₀ knd P st)(z:Nat×Nat×Nat):Bs a₀ knd (P.push z) (setPending st ((pendingOf st).push z)):=⟨B.perm,B.kind,B.fail,by show (pendingOf st).push z=_;rw[B.pend]⟩
def wc1(C:Cmp prog w A E s κ knd)(h0:KeysOf κ a₀)(B:Bs a₀ knd #[] st)(h2:2<=a₀.size)(h128:a₀.size<64){Q:Unit->SortSt->Prop}(h:∀st',(arrOf st').Perm a₀->failedOf st'=none->Up κ (arrOf st') 0 a₀.size->Q () st'):wpS (model prog w) A E s sortRuns' Q st:=by
 rw[sortRuns'_eq];refine Ab1 (wpS_get ?_);dsimp only;simp only[B.size,wg9 h2 h128];refine Ab1 (wpS_mono (wpS_forRange (I:=λx c st'=>∃lo,c=(none,lo)/\(x=0/\lo=0/\Bs a₀ knd #[] st'\/1<=x/\lo=a₀.size/\wx9 κ a₀ knd st')) (Q:=λc st'=>∃lo,c=(none,lo)/\wx9 κ a₀ knd st') ?step ?fin ⟨0,rfl,.inl ⟨rfl,rfl,B⟩⟩) ?post);case fin=>
  rintro c st' ⟨lo,rfl,⟨hx,_,_⟩ | ⟨_,_,R⟩⟩
  ·omega
  ·exact⟨lo,rfl,R⟩
 case step=>
  rintro x c st' _ hx ⟨lo,rfl,⟨rfl,rfl,B1⟩ | ⟨_,rfl,R⟩⟩
  ·dsimp only
   rw[if_neg (by omega)];refine Ab1 (yv4 C h0 B1 (by omega) (by omega) λn st2 B2 hn1 hn2 un o=>?_);dsimp only;by_cases hlt:n<a₀.size
   ·rw[if_pos hlt]
    refine Ab1 (wpS_lift (Ai1 ⟨rfl,?_⟩));rw[Nat.sub_zero,Nat.min_self];refine Ab1 (xh6 C h0 B2 (by omega) (by omega) un λst3 B3 u3 o3=>?_);simp only[Bool.not_true,Bo0,if_false];refine Ab1 (wpS_get ?_);have hb:(pendingOf st3).back?=none:=by rw[B3.pend];rfl
    rw[hb];dsimp only;exact Ab1 (wpS_modify (Ad1 ⟨_,rfl,.inr ⟨by omega,Ah0 _,B3.push _,(Ah0 a₀.size▸u3:Up κ (arrOf st3) 0 a₀.size)⟩⟩))
   ·rw[if_neg hlt]
    refine Ab1 (wpS_get ?_);have hb:(pendingOf st2).back?=none:=by rw[B2.pend];rfl
    rw[hb];dsimp only;obtain rfl:n=a₀.size:=by omega
    exact Ab1 (wpS_modify (Ad1 ⟨_,rfl,.inr ⟨by omega,Ah0 _,B2.push _,(Ah0 a₀.size▸un:Up κ (arrOf st2) 0 a₀.size)⟩⟩))
  ·dsimp only
   rw[if_pos (Ag0 _)];exact Ad1 ⟨_,rfl,R⟩
 case post=>
  rintro c st' ⟨lo,rfl,R⟩;dsimp only;refine Ab1 (wpS_mono (wpS_forRange (I:=λ_ c st''=>c=(none,())/\wx9 κ a₀ knd st'') (Q:=λc st''=>c=(none,())/\wx9 κ a₀ knd st'') ?_ (λ_ _ z=>z) ⟨rfl,R⟩) ?_)
  ·rintro x c st'' _ _ ⟨rfl,R⟩
   refine Ab1 (wpS_get ?_);rw[if_pos (by rw[R.1.pend];exact Ag0 1)];exact Ad1 ⟨rfl,R⟩
  ·rintro c st'' ⟨rfl,B,u⟩
   exact Ad1 (h _ B.perm B.fail u)
end
open PySem PyProof PyProof.Rows
def wv9(h:Heap):Value->Option (Int×Int)
 | .ref a=>match h.get? a with
   | some o=>match o.data with
     | .seq xs _=>match xs.toList with
       | [.int x _,.int y _]=>some (x,y)
       | _=>none
     | _=>none
   | none=>none
 | _=>none
def TwoAt(h:Heap)(v:Value)(p:Int×Int):Prop:=∃a o n t u,v=.ref a/\h.get? a=some o/\o.cls=.type "tuple"/\o.data=.seq #[.int p.1 t,.int p.2 u] n
def TwoAt.key{h:Heap}{v:Value}{p:Int×Int}(z:TwoAt h v p):wv9 h v=some p:=by
 obtain⟨a,o,n,t,u,rfl,g,_,d⟩:=z;simp[wv9,g,d]
open H in
def yk7{h:Heap}{v:Value}{p:Int×Int}(z:wv9 h v=some p):∃a o n t u,v=.ref a/\h.get? a=some o/\o.data=.seq #[.int p.1 t,.int p.2 u] n:=by
 unfold wv9 at z;split at z
 ·rename_i a
  split at z
  ·rename_i o g
   split at z
   ·rename_i xs n d
    split at z
    ·rename_i x t y u e
     cases z;refine⟨a,o,n,t,u,rfl,g,?_⟩;rw[d];congr 1;exact Array.toList_inj.mp e
    ·cases z
   ·cases z
  ·cases z
 ·cases z
def lx(a b:Int×Int):Bool:=decide (a.1<b.1\/a.1=b.1/\a.2<b.2)
def xa4{a b:Int×Int}:lx a b=true↔(a.1<b.1\/a.1=b.1/\a.2<b.2):=decide_eq_true_iff
def lx_not{a b:Int×Int}:lx a b=false↔¬(a.1<b.1\/a.1=b.1/\a.2<b.2):=decide_eq_false_iff_not
def ve1(h:Heap):KeyKind where
 α:=Int×Int
 blt:=lx
 irrefl:=λa=>lx_not.mpr (by omega)
 trans:=λa b c h1 h2=>by rw[xa4] at *;omega
 negTrans:=λa b c h1=>by rw[xa4,xa4];rw[xa4] at h1;omega
 total:=λa b h1 h2=>by rw[lx_not] at *;exact Prod.ext (by omega) (by omega)
 keyOf:=wv9 h
 dflt:=(0,0)
section
variable{prog:Program}{w:World}{A:Around}{E:Value->Shared->Prop}{s:Shared}
def ys7(f:Bool)(x y:Value):keyLt' (tuples' f) x y=(do
 let us <-Builtin.List.listItems x
 let vs <-Builtin.List.listItems y
 for ((p,q),i) in (us.toList.zip vs.toList).zipIdx do
  if !(<-eqBool p q) then return <-oneLt' (f&&i == 0) p q
 return decide (us.size<vs.size)):=rfl
def wm6{x y:Int}{t u:Tok}{Q:Bool->Shared->Prop}(h:Q (decide (x<y)) s):wpAny (model prog w) A (oneLt' false (.int x t) (.int y u)) Q E s:=by
 rw[oneLt'_eq];simp only[Bo0,if_false];refine Aa1 (wpAny_richCompare_same (id:="int.__lt__") (typeIs_int s x t) (typeIs_int s y u) slot_int_lt (call_int_lt ⟨by simp,?_⟩));exact Ah1 h
def xy2:Cmp prog w A E s (ve1 s.heap) (tuples' true):=by
 intro st x y a b Q hk hx hy h;obtain⟨i,o,n,t,u,e1,g1,d1⟩:=yk7 hx;obtain⟨j,o2,n2,t2,u2,e2,g2,d2⟩:=yk7 hy;rw[lt'_eq];refine Ab1 (wpS_get ?_);rw[hk,ys7,e1,e2];refine Ab1 (wpS_lift (wpAny_attempt (Aa1 (listItems_at g1 d1 (Aa1 (listItems_at g2 d2 ?_))))));simp only[List.zip_cons_cons,List.zipIdx_cons,List.forIn_cons,List.zip_nil_left,List.zipIdx_nil,List.forIn_nil];refine Aa1 (Aa1 (Aa1 (wpAny_eqBool_int ?_)));by_cases c1:a.1=b.1
 ·rw[if_neg (by simp[c1])]
  refine Ac1 (Aa1 (Aa1 (wpAny_eqBool_int ?_)));by_cases c2:a.2=b.2
  ·rw[if_neg (by simp[c2])]
   refine Ac1 (Ac1 (Ac1 ⟨rfl,Ad1 ?_⟩));rw[show (ve1 s.heap).blt a b=false from lx_not.mpr (by omega)] at h;exact h
  ·rw[if_pos (by simp[c2])]
   refine Aa1 (wm6 (Ac1 (Ac1 (Ac1 ⟨rfl,Ad1 ?_⟩))));rw[show (ve1 s.heap).blt a b=decide (a.2<b.2) from decide_eq_decide.mpr (by omega)] at h;exact h
 ·rw[if_pos (by simp[c1])]
  refine Aa1 (oneLt_int (Ac1 (Ac1 (Ac1 ⟨rfl,Ad1 ?_⟩))));rw[show (ve1 s.heap).blt a b=decide (a.1<b.1) from decide_eq_decide.mpr (by omega)] at h;exact h
theorem xh3{α β:Type}{f:α->Sem β}{g:α->β}:∀(l:List α) (Q:List β->Shared->Prop),(∀x∈l,∀R:β->Shared->Prop,R (g x) s->wpAny (model prog w) A (f x) R E s)->Q (l.map g) s->wpAny (model prog w) A (l.mapM f) Q E s
 | [],Q,_,h=>by rw[List.mapM_nil];exact Ac1 h
 | x::l,Q,k,h=>by
   rw[List.mapM_cons];exact Aa1 (k x (Bh0 ..) _ (Aa1 (xh3 l _ (λy hy=>k y (Br0 _ hy)) (Ac1 h))))
def fst?(h:Heap)(v:Value):Option Value:=match v with
 | .ref a=>match h.get? a with
   | some o=>match o.data with
     | .seq xs _=>xs[0]?
     | _=>none
   | none=>none
 | _=>none
def xx4(v:Value):firstOfTuple' v=(do
 if (<-typeOf v) != .type "tuple" then return none
 return (<-Builtin.List.listItems v)[0]?):=rfl
def TwoAt.fst{h:Heap}{v:Value}{p:Int×Int}(z:TwoAt h v p):∃t,fst? h v=some (.int p.1 t):=by
 obtain⟨a,o,n,t,u,rfl,g,_,d⟩:=z;exact⟨t,by simp[fst?,g,d]⟩
def xn3{vs:List Value}(hv:∀v∈vs,∃p,TwoAt s.heap v p)(h0:vs≠[]){Q:SortKind->Shared->Prop}(h:Q (tuples' true) s):wpAny (model prog w) A (keyKind' vs.toArray) Q E s:=by
 rw[keyKind'_eq,List.mapM_toArray];refine Aa1 ?_;rw[map_eq_pure_bind];refine Aa1 (xh3 (g:=fst? s.heap) vs _ (λv m R hR=>?_) (Ac1 ?_))
 ·obtain⟨p,z⟩:=hv v m
  obtain⟨a,o,n,t,u,rfl,g,c,d⟩:=z;rw[xx4];refine Aa1 (wpAny_typeOf (T:="tuple") ⟨o,g,c⟩ ?_);rw[if_neg (by simp)];refine Aa1 (listItems_at g d (Ac1 ?_));have:fst? s.heap (.ref a)=some (.int p.1 t):=by simp[fst?,g,d]
  rw[this] at hR;exact hR
 ·have all:((vs.map (fst? s.heap)).toArray.all (·.isSome))=true:=by
   simp only[List.all_toArray,List.all_map,List.all_eq_true];intro v m;obtain⟨p,z⟩:=hv v m;obtain⟨t,e⟩:=z.fst;simp[e]
  rw[if_pos all];refine Aa1 (Ai1 ?_);have ex:∀us:List Value,(∀v∈us,∃p,TwoAt s.heap v p)->∃ns:List Int,IntsAre ((us.map (fst? s.heap)).filterMap id) ns/\ns.length=us.length:=by
   intro us;induction us with
   | nil=>intro _;exact⟨[],.nil,rfl⟩
   | cons v us ih=>
     intro k;obtain⟨ns,i,l⟩:=ih λx hx=>k x (Br0 _ hx)
     obtain⟨p,z⟩:=k v (Bh0 ..);obtain⟨t,e⟩:=z.fst;refine⟨p.1::ns,?_,by simp[l]⟩;rw[Aq0,e];show IntsAre (Value.int p.1 t::(us.map (fst? s.heap)).filterMap id) _;exact .cons _ _ i
  obtain⟨ns,hi,hl⟩:=ex vs hv;have et:(vs.map (fst? s.heap)).toArray.filterMap id=((vs.map (fst? s.heap)).filterMap id).toArray:=by simp
  rw[et];cases hc:(vs.map (fst? s.heap)).filterMap id with
  | nil=>
    rw[hc] at hi;cases hi;cases vs with
    | nil=>exact absurd rfl h0
    | cons _ _=>simp at hl
  | cons v1 rest=>
    rw[hc] at hi;rw[oneTypeOnly'_eq,List.mapM_toArray,mapM_typeOf_ints hi];simp only[map_pure,pure_bind];have hall:((List.map (λ_=>Value.type "int") (v1::rest)).toArray.all λx=>x == Value.type "int")=true:=by
     simp only[List.all_toArray,List.all_map,List.all_eq_true];intro _ _;rfl
    have h1:(List.map (λ_=>Value.type "int") (v1::rest)).toArray[0]?=some (Value.type "int"):=by simp
    rw[h1];simp only[hall,if_true,pure_bind];exact Ac1 h
end
abbrev wu6(h:Heap)(v:Value):Int×Int:=(wv9 h v).getD (0,0)
def lxle(a b:Int×Int):Prop:=a.1<b.1\/a.1=b.1/\a.2<=b.2
def wg0{a b:Int×Int}(h:lx b a=false):lxle a b:=by rw[lx_not] at h;unfold lxle;omega
section
variable{prog:Program}{w:World}{A:Around}{E:Value->Shared->Prop}{s:Shared}
abbrev Up1(h:Heap)(a:Addr)(vs:List Value):Heap:=((h.update a (Obj.mapSeq λ_=>#[])).push (seqObj "tuple" vs.toArray 0)).push (seqObj "list" #[] 0)
def wj3{h:Heap}{a b:Addr}{o:Obj}{vs:List Value}(g:h.get? b=some o)(ne:b≠a):(Up1 h a vs).get? b=some o:=by
 have hb:=Heap.lt_size g;unfold Up1;rw[Ck0 _ _ _ (by rw[size_push',Heap.size_update];exact An0 (Nat.lt_succ_of_lt hb)),Ck0 _ _ _ (by rw[Heap.size_update];exact An0 hb),Heap.get?_update_ne _ _ _ _ ne];exact g
def TwoAt.up1{h:Heap}{a:Addr}{n:Nat}{vs us:List Value}(o1:h.get? a=some (seqObj "list" vs.toArray n)){v:Value}{p:Int×Int}(z:TwoAt h v p):TwoAt (Up1 h a us) v p:=by
 obtain⟨b,o,m,t,u,rfl,g,c,d⟩:=z;refine⟨b,o,m,t,u,rfl,wj3 g λe=>?_,c,d⟩;subst e;rw[o1] at g;cases g;exact absurd (Value.type.inj c) (by decide)
def wg5{h:Heap}{a:Addr}{n:Nat}{vs us:List Value}(o1:h.get? a=some (seqObj "list" vs.toArray n)){v:Value}(z:∃p,TwoAt h v p):wv9 (Up1 h a us) v=wv9 h v:=by
 obtain⟨p,z⟩:=z;rw[z.key,(z.up1 o1).key]
def yq0{a:Addr}{vs:List Value}{n:Nat}{P:Fin->Shared->Prop}(o1:s.heap.get? a=some (seqObj "list" vs.toArray n))(hv:∀v∈vs,∃p,TwoAt s.heap v p)(h128:vs.length<64)(h:∀out:Array Value,out.toList.Perm vs->out.toList.Pairwise (λx y=>lxle (wu6 s.heap x) (wu6 s.heap y))->P (.done (.ret .none)) { s with heap:=sortedHeap s.heap a vs out }) :
 wpAny (model prog w) A (Builtin.«list.sort» ⟨[.ref a],[]⟩) P E s:=by
 rw[list_sort_plain];have la:a<s.heap.objs.size:=Heap.lt_size o1;refine Aa1 (listItems_at o1 rfl ?_);refine Aa1 (listUpdate_at o1 rfl ?_);obtain⟨e1,o2⟩:∃e1,(s.heap.update a (Obj.mapSeq λ_=>#[])).get? a=some (seqObj "list" #[] e1):=⟨_,get?_update_seq o1 (λ_=>#[])⟩;refine Aa1 (seqEpoch_at o2 rfl ?_);refine Aa1 (wpAny_newTuple (Aa1 (wpAny_newList (wpAny_holding ?_))));have o3:(Up1 s.heap a vs).get? a=some (seqObj "list" #[] e1):=by
  unfold Up1;rw[Ck0 _ _ _ (by rw[size_push',Heap.size_update];exact An0 (Nat.lt_succ_of_lt la)),Ck0 _ _ _ (by rw[Heap.size_update];exact An0 la)];exact o2
 show wpAny (model prog w) A _ P E { s with heap:=Up1 s.heap a vs };dsimp only;have sz:vs.toArray.size=vs.length:=by simp
 have fin:∀st':SortSt,(arrOf st').Perm (pairsOf vs)->Up (ve1 (Up1 s.heap a vs)) (arrOf st') 0 (pairsOf vs).size->P (.done (.ret .none)) { s with heap:=sortedHeap s.heap a vs ((arrOf st').map (·.2)) }:=by
  intro st' hp hs;have hl:(arrOf st').toList.Perm (vs.zip vs):=by rw[<-pairsOf_toList];exact Array.perm_iff_toList_perm.mp hp
  have hm:∀p,p∈(arrOf st').toList->p.1=p.2/\p.1∈vs:=λp hp'=>mem_zip_self (hl.mem_iff.mp hp')
  refine h _ ?_ ?_
  ·rw[Array.toList_map]
   have:=hl.map (·.2);rwa [List.map_snd_zip (Ag0 _)] at this
  ·rw[Array.toList_map,Ce0,List.pairwise_iff_getElem]
   intro i j hi hj hij;have hi':i<(arrOf st').size:=by simpa using hi
   have hj':j<(arrOf st').size:=by simpa using hj
   have h1:=hs i j (Be0 _) (Ca0 hij) (by rw[<-hp.size_eq];exact hj');rw[vk1 hi',vk1 hj'] at h1;have k:∀t (ht:t<(arrOf st').size),ky (ve1 (Up1 s.heap a vs)) (arrOf st')[t]=wu6 s.heap (arrOf st')[t].2:=λt ht=>by
    have m:=hm _ (Array.getElem_mem_toList ht);show (wv9 (Up1 s.heap a vs) (arrOf st')[t].1).getD (0,0)=_;rw[wg5 o1 (hv _ m.2),m.1]
   rw[k i hi',k j hj'] at h1;have:=wg0 h1;simpa using this
 by_cases h2:vs.toArray.size<2
 ·rw[if_pos h2,if_pos h2]
  refine Aa1 (Ac1 ?_);rw[StateT.run_pure];refine Aa1 (Ac1 ?_);dsimp only;refine Aa1 (seqEpoch_at o3 rfl ?_);refine Aa1 (listUpdate_at o3 rfl ?_ (hsz2:=Ap0 (Nat.le_of_eq ((Array.size_map ..).trans (pairsOf_size _))) (by rw[sizeLine_eq];omega)));simp only[bne_self_eq_false,Bo0,if_false];exact Ac1 (fin (SortSt.mk' general' (vs.toArray.zip vs.toArray) #[] 7 none) (Array.Perm.refl _) (Up.one (by rw[pairsOf_size];omega)))
 ·rw[if_neg h2,if_neg h2]
  refine Aa1 (xn3 (s:={ s with heap:=Up1 s.heap a vs }) (λv m=>(hv v m).imp λp z=>z.up1 o1) (λe=>by subst e;simp at h2) ?_);refine Aa1 (Ag1 (wc1 (s:={ s with heap:=Up1 s.heap a vs }) (a₀:=pairsOf vs) (st:=SortSt.mk' (tuples' true) (vs.toArray.zip vs.toArray) #[] 7 none) (Q:=λ_ st'=>(arrOf st').Perm (pairsOf vs)/\failedOf st'=none/\Up (ve1 (Up1 s.heap a vs)) (arrOf st') 0 (pairsOf vs).size) xy2 (λp hp=>?_) ⟨Array.Perm.refl _,rfl,rfl,rfl⟩ (by rw[pairsOf_size];omega) (by rw[pairsOf_size];exact h128) λst' a1 a2 a3=>⟨a1,a2,a3⟩) ?_ λ_ _ e=>e)
  ·rw[pairsOf_toList] at hp
   obtain⟨q,z⟩:=hv _ (mem_zip_self hp).2;exact⟨q,(z.up1 o1).key⟩
  ·rintro ⟨⟨⟩,st'⟩ s' ⟨rfl,hp,hf,hs⟩
   dsimp only;refine Aa1 (seqEpoch_at o3 rfl ?_);refine Aa1 (listUpdate_at o3 rfl ?_ (hsz2:=Ap0 (Nat.le_of_eq ((Array.size_map ..).trans (hp.size_eq.trans (pairsOf_size _)))) (by rw[sizeLine_eq];omega)));rw[hf];simp only[bne_self_eq_false,Bo0,if_false];exact Ac1 (fin st' hp hs)
def yw1{l:Addr}{vs:List Value}{Q:Value->Shared->Prop}(hl:s.heap.IsList l vs.toArray)(hv:∀v∈vs,∃p,TwoAt s.heap v p)(h128:vs.length<64)(h:∀out:Array Value,out.toList.Perm vs->out.toList.Pairwise (λx y=>lxle (wu6 s.heap x) (wu6 s.heap y))->Q (.ref (s.heap.objs.size+1)) { s with heap:=sortedAll s.heap vs out }) :
 wpAny (model prog w) A (call (.builtin "sorted") [.ref l]) Q E s:=by
 refine Calls.call_function_entry kind_sorted plain_sorted entry_sorted (args_sorted1 _) ?_;unfold Builtin.«sorted»;refine Aa1 (m:=checkCount "sorted" 1 1 _) (Ac1 (Aa1 (collect_list hl ?_ (by rw[sizeLine_eq];omega))));refine Aa1 (wpAny_newList ?_);have sz:((s.heap.push (seqObj "list" #[] 0)).update s.heap.objs.size (Obj.mapSeq (·++vs.toArray))).objs.size=s.heap.objs.size+1:=by
  rw[Heap.size_update,size_push']
 have o1:(((s.heap.push (seqObj "list" #[] 0)).update s.heap.objs.size (Obj.mapSeq (·++vs.toArray))).push (seqObj "list" vs.toArray 0)).get? (s.heap.objs.size+1)=some (seqObj "list" vs.toArray 0):=by
  rw[<-sz];exact Ad0 _ rfl
 show wpAny _ _ _ _ _ { s with heap:=((s.heap.push (seqObj "list" #[] 0)).update s.heap.objs.size (Obj.mapSeq (·++vs.toArray))).push (seqObj "list" vs.toArray 0) };rw[sz];generalize hH:((s.heap.push (seqObj "list" #[] 0)).update s.heap.objs.size (Obj.mapSeq (·++vs.toArray))).push (seqObj "list" vs.toArray 0)=H1 at o1 ⊢;have old:∀b o,s.heap.get? b=some o->H1.get? b=some o:=λb o g=>by
  have hb:=Heap.lt_size g;rw[<-hH,Ck0 _ _ _ (by rw[sz];exact An0 (Nat.lt_succ_of_lt hb)),Heap.get?_update_ne _ _ _ _ (An0 hb),Ck0 _ _ _ (An0 hb)];exact g
 have keep:∀v p,TwoAt s.heap v p->TwoAt H1 v p:=λv p z=>by
  obtain⟨b,o,m,t,u,rfl,g,c,d⟩:=z;exact⟨b,o,m,t,u,rfl,old _ _ g,c,d⟩
 have ke:∀v∈vs,wu6 H1 v=wu6 s.heap v:=λv m=>by
  obtain⟨p,z⟩:=hv v m;unfold wu6;rw[z.key,(keep _ _ z).key]
 refine Aa1 (wpAny_holding (Aj1 slot_list_sort ⟨_,o1,rfl⟩ entry_list_sort (yq0 (s:={ s with heap:=H1 }) o1 (λv m=>(hv v m).imp λp z=>keep v p z) h128 λout a1 a2=>⟨_,rfl,?_⟩) (args_list_sort _)));refine Ac1 ⟨_,rfl,?_⟩;have:=h out a1 (a2.imp_of_mem λ{x y} hx hy q=>by
  rw[<-ke x (a1.mem_iff.mp hx),<-ke y (a1.mem_iff.mp hy)];exact q)
 unfold sortedAll at this;rw[hH] at this;exact this
end
end Ts
namespace L2
open PySem PySem.Spec PyProof PyProof.Rows Ts
theorem yf4{α β:Type}{F:α->β->Prop}{bs bs':List β}(p:bs'.Perm bs):∀{as:List α},Paired F as bs->∃as',as'.Perm as/\Paired F as' bs':=by
 induction p with
 | nil=>intro as h;exact⟨as,.refl _,h⟩
 | cons x _ ih=>
   intro as h;cases h with
   | cons h1 h2=>
     obtain⟨as',p',h'⟩:=ih h2;exact⟨_,p'.cons _,.cons h1 h'⟩
 | swap x y l=>
   intro as h;cases h with
   | cons h1 h2=>cases h2 with
     | cons h3 h4=>exact⟨_,List.Perm.swap ..,.cons h3 (.cons h1 h4)⟩
 | trans _ _ ih1 ih2=>
   intro as h;obtain⟨as1,p1,h1⟩:=ih2 h;obtain⟨as2,p2,h2⟩:=ih1 h1;exact⟨as2,p2.trans p1,h2⟩
abbrev P2:=Int×Int
def lxB(a b:P2):Bool:=decide (a.1<b.1\/a.1=b.1/\a.2<=b.2)
def vh6(a:P2):List P2->List P2
 | []=>[a]
 | b::l=>if lxB a b then a::b::l else b::vh6 a l
def wr0(l:List P2):List P2:=l.foldr vh6 []
theorem yh1(a:P2):∀l,(vh6 a l).Perm (a::l)
 | []=>.refl _
 | b::l=>by
   unfold vh6;split
   ·exact .refl _
   ·exact((yh1 a l).cons b).trans (List.Perm.swap ..)
theorem ze7:∀l,(wr0 l).Perm l
 | []=>.refl _
 | a::l=>(yh1 a (wr0 l)).trans ((ze7 l).cons a)
def xf8(h1:lxle a b)(h2:lxle b c):lxle a c:=by unfold lxle at *;omega
def xm6(h1:lxle a b)(h2:lxle b a):a=b:=by unfold lxle at *;exact Prod.ext (by omega) (by omega)
open H in
theorem xo5(a:P2):∀l,l.Pairwise lxle->(vh6 a l).Pairwise lxle
 | [],_=>List.pairwise_singleton _ _
 | b::l,h=>by
   have h':=List.pairwise_cons.mp h;unfold vh6;split
   ·rename_i q
    have q:lxle a b:=(of_decide_eq_true q:a.1<b.1\/a.1=b.1/\a.2<=b.2);refine List.pairwise_cons.mpr ⟨λx hx=>?_,h⟩;rcases Aj0.mp hx with rfl | hx
    ·exact q
    ·exact xf8 q (h'.1 x hx)
   ·rename_i q
    have q:lxle b a:=by
     have:¬(a.1<b.1\/a.1=b.1/\a.2<=b.2):=λz=>q (Am1 z)
     unfold lxle;omega
    refine List.pairwise_cons.mpr ⟨λx hx=>?_,xo5 a l h'.2⟩;rcases Aj0.mp ((yh1 a l).mem_iff.mp hx) with rfl | hx
    ·exact q
    ·exact h'.1 x hx
theorem yz2:∀l,(wr0 l).Pairwise lxle
 | []=>List.Pairwise.nil
 | a::l=>xo5 a _ (yz2 l)
def xb9(p:m.Perm l)(u:m.Pairwise lxle):m=wr0 l:=
 (p.trans (ze7 l).symm).eq_of_pairwise (λa b _ _ h1 h2=>xm6 h1 h2) u (yz2 l)
abbrev PrV(H:Hp):List V->List P2->Prop:=Paired λv p=>∃b,v=.ref b/\H b=some (.tup [.int p.1,.int p.2])
section
variable{X:Cx}{S:Type}{W:Wd S}{c:Dx W}{g ga gb gc:Gr}{a b:Expr}{fa fb fc:Fn S}{pos p2:Pos}
def zv4:ws7 X (.builtin "sorted") (λxs H Q=>∃(a:Addr) (vs:List V) (ps:List P2),xs=[.ref a]/\SqL X.K H a vs/\PrV H vs ps/\ps.length<64/\∀p vs',H p=none->PrV H vs' (wr0 ps)->Q (.ref p) (upd H p (.lst vs'))):=by
 intro A3 s σ H xs us Q I r h;obtain⟨a,vs,ps,rfl,hq,hp,h128,q⟩:=h;obtain⟨u,rfl,r1⟩:=wt7 r;cases r1;obtain⟨its,rv,pl,hz⟩:=I.list hq;have three:∀{vs:List V} {its:List Value} {ps:List P2},wq4 vs its->PrV H vs ps->Paired (λv u=>wq2 v u/\∃p,(∃b,v=.ref b/\H b=some (.tup [.int p.1,.int p.2]))/\TwoAt s.heap u p) vs its/\its.map (wu6 s.heap)=ps:=by
  intro vs its ps rv;induction rv generalizing ps with
  | nil=>intro hp;cases hp;exact⟨.nil,rfl⟩
  | cons r1 _ ih=>
    intro hp;cases hp with
    | cons z hp=>
      obtain⟨i1,i2⟩:=ih hp;obtain⟨b,e,hb⟩:=z;have r0:=r1;rw[e] at r0;obtain⟨js,rj,⟨o,g,cl,n,d⟩,_⟩:=I.tuple (SqT.of hb);cases rj with
      | cons x1 rj=>cases rj with
        | cons x2 rj=>
          cases rj;obtain⟨t1,rfl⟩:=x1;obtain⟨t2,rfl⟩:=x2;have tw:TwoAt s.heap (.ref b) _:=⟨b,o,n,t1,t2,rfl,g,cl,d⟩;cases r0;refine⟨.cons ⟨r1,_,⟨b,e,hb⟩,tw⟩ i1,?_⟩;rw[Aq0,i2];unfold wu6;rw[tw.key];rfl
 obtain⟨t3,ek⟩:=three rv hp;have hm:∀{vs:List V} {its:List Value},Paired (λv u=>wq2 v u/\∃p,(∃b,v=.ref b/\H b=some (.tup [.int p.1,.int p.2]))/\TwoAt s.heap u p) vs its->(∀v∈its,∃p,TwoAt s.heap v p)/\wq4 vs its/\PrV H vs (its.map (wu6 s.heap)):=by
  intro vs its z;induction z with
  | nil=>exact⟨λv m=>absurd m (by simp),.nil,.nil⟩
  | cons y _ ih=>
    obtain⟨r1,p,z,tw⟩:=y;refine⟨λv m=>?_,.cons r1 ih.2.1,.cons ?_ ih.2.2⟩
    ·rcases Aj0.mp m with rfl | m
     ·exact⟨p,tw⟩
     ·exact ih.1 v m
    ·unfold wu6;rw[tw.key];exact z
 have hl:=rv.length;have hl2:=Paired.length hp;refine yw1 pl.isList (hm t3).1 (by omega) λout p1 u1=>?_
 obtain⟨vs',pv,t3'⟩:=yf4 p1 t3;have es:out.toList.map (wu6 s.heap)=wr0 ps:=xb9 (by rw[<-ek];exact p1.map _) (by rw[Ce0];exact u1);obtain⟨_,r2,w2⟩:=hm t3';rw[es] at w2;obtain⟨e,he⟩:=sortedAll_at s.heap its out;refine⟨.ref (s.heap.objs.size+1),_,I.laid (t':=s.toks) (a:=s.heap.objs.size+1) (o:=.lst vs') (λb o e=>sortedAll_old e) (Nat.le_succ _) ?_,rfl,q _ _ (I.hok.fresh (Nat.le_succ _)) w2⟩;exact⟨by rw[pv.length_eq];exact Ca0 (zy8 (by omega)),out.toList,e,r2,he⟩
abbrev prD(p:P2):D:=.tup [.int p.1,.int p.2]
def ws1:List D->Option (List P2)
 | []=>some []
 | .tup [.int x,.int y]::l=>(ws1 l).map λr=>(x,y)::r
 | _=>none
theorem zz1:∀ps:List P2,ws1 (ps.map prD)=some ps
 | []=>rfl
 | p::ps=>by rw[Aq0];unfold ws1;rw[zz1 ps];rfl
open H in
theorem ym7{K:PySem.W.Frag}{A:Addr->Prop}{H:Hp}:∀{l:List D} {vs:List V} {ps:List P2},ws1 l=some ps->IsL K A H l vs->PrV H vs ps
 | [],vs,ps,e,h=>by cases e;rw[IsL.nil.mp h];exact .nil
 | d::l,vs,ps,e,h=>by
   obtain⟨v,r,e1,i1,i2⟩:=IsL.cons.mp h;unfold ws1 at e;split at e
   ·rename_i he;cases he
   ·rename_i x y m he
    cases he;cases q:ws1 l with
    | none=>rw[q] at e;cases e
    | some rs=>
      rw[q] at e;cases e;obtain⟨b,ws,e2,hb,i3⟩:=Is.tup_iff.mp i1;obtain⟨v1,r1,e3,j1,j2⟩:=IsL.cons.mp i3;obtain⟨v2,r2,e4,j3,j4⟩:=IsL.cons.mp j2;rw[Is.int_iff.mp j1] at e3;rw[Is.int_iff.mp j3,IsL.nil.mp j4] at e4;rw[e1];refine .cons ⟨b,e2,?_⟩ (ym7 q i2);rw[hb,e3,e4]
   ·cases e
theorem xj8{K:PySem.W.Frag}{A:Addr->Prop}{H:Hp}:∀{ps:List P2} {vs:List V},PrV H vs ps->IsL K A H (ps.map prD) vs
 | _,_,.nil=>IsL.nil.mpr rfl
 | _,_,.cons h t=>IsL.cons.mpr ⟨_,_,rfl,by
   obtain⟨b,e,hb⟩:=h;rw[e];exact Is.tup hb (IsL.cons.mpr ⟨_,_,rfl,Is.int_iff.mpr rfl,IsL.cons.mpr ⟨_,_,rfl,Is.int_iff.mpr rfl,IsL.nil.mpr rfl⟩⟩),xj8 t⟩
theorem yn9:∀ps:List P2,D.immL (ps.map prD)=true
 | []=>rfl
 | n::ns=>by simp[D.immL,D.imm,yn9 ns]
def yz9:List D->Option D
 | [.lst l]=>(ws1 l).bind λps=>if ps.length<64 then some (.lst ((wr0 ps).map prD)) else none
 | _=>none
open H in
def yp0{K:PySem.W.Frag}(hK:c.K=K):ws4 c (λxs H Q=>∃(a:Addr) (vs:List V) (ps:List P2),xs=[.ref a]/\SqL K H a vs/\PrV H vs ps/\ps.length<64/\∀p vs',H p=none->PrV H vs' (wr0 ps)->Q (.ref p) (upd H p (.lst vs'))) yz9:=by
 subst hK;intro l vs H st d Q ok z e q;unfold yz9 at e;split at e
 ·rename_i m
  cases qq:ws1 m with
  | none=>rw[qq] at e;cases e
  | some ps=>
    rw[qq] at e;have e:(if ps.length<64 then some (D.lst ((wr0 ps).map prD)) else none)=some d:=e;split at e
    ·rename_i h128
     cases e;obtain⟨v,r,e1,i1,i2⟩:=IsL.cons.mp z;obtain⟨a,us,ea,_,s1,i3⟩:=Is.lst_iff.mp i1;rw[IsL.nil.mp i2,ea] at e1;exact⟨a,us,ps,e1,.of s1,ym7 qq i3,h128,λp vs' hp w=>q _ _ (Ext.laid hp) (zh3 ok hp) (New.lst ok hp (λ_ n=>n) (yn9 _) (xj8 (A:=λb=>¬W.mv b) w))⟩
    ·cases e
 ·cases e
end
end L2
namespace HT
open PySem PyProof PyProof.Rows
section
variable{prog:Program}{w:World}{A:Around}{E:Value->Shared->Prop}{s:Shared}
end
end HT
namespace L2
open PySem PySem.Spec PyProof PyProof.Rows
section
variable{X:Cx}{S:Type}{W:Wd S}{c:Dx W}{g ga gb gc:Gr}{a b:Expr}{fa fb fc:Fn S}{pos p2:Pos}
end
end L2
namespace HT
open PySem PyProof PyProof.Rows Ts
section
variable{prog:Program}{w:World}{A:Around}{R:Result->Shared->Prop}{I:Addr}{fp wr:List Addr}{n:Nat}{P:Nat->Value->Prop}{St:Nat->Heap->Prop}{base:Heap}{E:Value->Shared->Prop}{s:Shared}
abbrev vl1(base h:Heap):Prop:=∀b o,base.get? b=some o->h.get? b=some o
theorem xv4{h:Heap}{a:Addr}(q:h.objs.size<=a):h.get? a=none:=by
 cases e:h.get? a with
 | none=>rfl
 | some o=>exact absurd (Heap.lt_size e) (Nat.not_lt.mpr q)
def wm7(a b:Int×Int):wt0 [a.1,a.2] [b.1,b.2]=lx a b:=by
 unfold lx;by_cases h1:a.1<b.1
 ·simp[wt0,h1];omega
 ·by_cases h2:a.1=b.1
  ·simp[wt0,h2];omega
  ·simp[wt0,h1,h2]
def TwoAt.tup{h:Heap}{v:Value}{p:Int×Int}(z:TwoAt h v p):∃a items,v=.ref a/\IsTup h a items/\IntsAre items.toList [p.1,p.2]:=by
 obtain⟨a,o,n,t,u,rfl,g,c,d⟩:=z;exact⟨a,_,rfl,⟨o,g,c,n,d⟩,.cons _ _ (.cons _ _ .nil)⟩
def TwoAt.over(ov:vl1 h h')(z:TwoAt h v p):TwoAt h' v p:=by
 obtain⟨a,o,n,t,u,e,g,c,d⟩:=z;exact⟨a,o,n,t,u,e,ov _ _ g,c,d⟩
def lt_two(hu:A.units<cLine)(x:TwoAt s.heap u p)(y:TwoAt s.heap v q)(h:Q (.bool (lx p q)) s):wpAny (model prog w) A (richCompare .Lt u v) Q E s:=by
 obtain⟨a,is,rfl,ta,ia⟩:=TwoAt.tup x;obtain⟨b,js,rfl,tb,ib⟩:=TwoAt.tup y;rw[<-wm7] at h;exact xf9 ta tb ia ib hu h
end
end HT
namespace L2
open PySem PySem.Spec PyProof PyProof.Rows Ts
section
variable{X:Cx}{S:Type}{W:Wd S}{c:Dx W}{g ga gb gc:Gr}{a b:Expr}{fa fb fc:Fn S}{pos p2:Pos}
theorem Inv.two(I:Inv X A3 σ H s)(r:wq2 v u)(h:∃b,v=.ref b/\H b=some (.tup [.int p.1,.int p.2])):TwoAt s.heap u p:=by
 obtain⟨b,e,hb⟩:=h;subst e;cases r;obtain⟨js,rj,⟨o,g,cl,n,d⟩,_⟩:=I.tuple (SqT.of hb);cases rj with
 | cons x1 rj=>cases rj with
   | cons x2 rj=>
     cases rj;obtain⟨t1,rfl⟩:=x1;obtain⟨t2,rfl⟩:=x2;exact⟨b,o,n,t1,t2,rfl,g,cl,d⟩
end
def g0{α:Type}{a:α}{l:List α}:(a::l)[0]?=some a:=rfl
def gS{α:Type}{a:α}{l:List α}{i:Nat}:(a::l)[i+1]?=l[i]?:=rfl
def s0{α:Type}{a b:α}{l:List α}:(a::l).set 0 b=b::l:=rfl
def sS{α:Type}{a b:α}{l:List α}{i:Nat}:(a::l).set (i+1) b=a::l.set i b:=rfl
def lC{α:Type}{a:α}{l:List α}:(a::l).length=l.length+1:=rfl
def lN{α:Type}:([]:List α).length=0:=rfl
def rl1_{α:Type}{i:Nat}:([]:List α)[i]?=none:=rfl
def rl2_{α β:Type}{f:α->β}{a:α}{l:List α}:(a::l).map f=f a::l.map f:=rfl
def rl3_{α β:Type}{f:α->β}:([]:List α).map f=[]:=rfl
def rl4_{α β:Type}{a:α}{f:α->Option β}:(some a).bind f=f a:=rfl
def rl5_{α:Type}{a:α}{o:Option α}:(some a).or o=some a:=rfl
def rl6_{α:Type}{o:Option α}:(none:Option α).or o=o:=rfl
def rl7_{α:Type}{a:α}:List.replicate 0 a=[]:=rfl
def rl8_{α:Type}{a:α}{n:Nat}:List.replicate (n+1) a=a::List.replicate n a:=rfl
def rl9_{α:Type}{a:α}{l m:List α}:(a::l)++m=a::(l++m):=rfl
def rl0_{α:Type}{l:List α}:[]++l=l:=rfl
def EV_:(type_of% @D.bl.injEq)/\(type_of% @D.int.injEq)/\(type_of% @D.str.injEq)/\(type_of% @Nat.zero_add)/\(type_of% @if_true.{1})/\(type_of% @if_false.{1})/\(type_of% @Bool.and_true)/\(type_of% @Bool.true_and)/\(type_of% @Bool.and_self)/\(type_of% @Bool.false_eq_true)/\(type_of% @Option.some.injEq.{0})/\(type_of% @exists_eq_left'.{1})/\(type_of% @exists_eq_left.{1})/\(type_of% @exists_eq_right.{1})/\(type_of% @true_or)/\(type_of% @or_true)/\(type_of% @true_and)/\(type_of% @and_true)/\(type_of% @Bool.not_true)/\(type_of% @Bool.not_false):=
 ⟨@D.bl.injEq,@D.int.injEq,@D.str.injEq,@Nat.zero_add,@if_true.{1},@if_false.{1},@Bool.and_true,@Bool.true_and,@Bool.and_self,@Bool.false_eq_true,@Option.some.injEq.{0},@exists_eq_left'.{1},@exists_eq_left.{1},@exists_eq_right.{1},@true_or,@or_true,@true_and,@and_true,@Bool.not_true,@Bool.not_false⟩
section
variable{S:Type}{X:Cx}{W:Wd S}{c:Dx W}{g:Gr}{e:Expr}{es:List Expr}{o:D->D->Option D}{p q:Rho->Option D}{oA:List D->Option D}{qa:Rho->Option (List D)}{T:Bt}
def fP(S:Type)(p:Rho->Option D):Fn S:=λρ st=>wr1 (p ρ) st
def aP(S:Type)(q:Rho->Option (List D)):FnA S:=λρ st=>wr1 (q ρ) st
def tP(S:Type)(q:Rho->Option Bool):FnT S:=λρ st=>wr1 (q ρ) st
def vr(i:Nat):Rho->Option D:=λρ=>rd ρ i
def cn(d:D):Rho->Option D:=λ_=>some d
def o2(o:D->D->Option D)(p q:Rho->Option D):Rho->Option D:=λρ=>(p ρ).bind λa=>(q ρ).bind λb=>o a b
def nl:Rho->Option (List D):=λ_=>some []
def cs(p:Rho->Option D)(q:Rho->Option (List D)):Rho->Option (List D):=λρ=>(p ρ).bind λa=>(q ρ).bind λl=>some (a::l)
def o1(o:List D->Option D)(q:Rho->Option (List D)):Rho->Option D:=λρ=>(q ρ).bind o
def ti(T:Bt)(p:Rho->Option D):Rho->Option D:=λρ=>(p ρ).bind λd=>some (.bl (isI T d))
def tb(p:Rho->Option D):Rho->Option Bool:=λρ=>(p ρ).bind D.bool?
open H in
theorem vt3{o:D->D->Option D}{p q:Rho->Option D}:f2 S o (fP S p) (fP S q)=fP S (o2 o p q):=by
 funext ρ st;unfold f2 fP o2;cases p ρ with
 | none=>rfl
 | some a=>cases q ρ<;>rfl
open H in
theorem wi6{p:Rho->Option D}{q:Rho->Option (List D)}:wt1 S (fP S p) (aP S q)=aP S (cs p q):=by
 funext ρ st;unfold wt1 fP aP cs;cases p ρ with
 | none=>rfl
 | some a=>cases q ρ<;>rfl
open H in
def vw2{o:List D->Option D}{q:Rho->Option (List D)}:fA S o (aP S q)=fP S (o1 o q):=by
 funext ρ st;unfold fA fP aP o1;cases q ρ<;>rfl
open H in
def vp3{T:Bt}{p:Rho->Option D}:fIs S T (fP S p)=fP S (ti T p):=by
 funext ρ st;unfold fIs fP ti;cases p ρ<;>rfl
open H in
def vw1{p:Rho->Option D}:fB S (fP S p)=tP S (tb p):=by
 funext ρ st;unfold fB fP tP tb;cases p ρ<;>rfl
def wp_fP{p:Rho->Option D}{ρ:Rho}{st:S}{Q:D->S->Prop}{E:Exn->S->Prop}:wpR (fP S p ρ st) Q E↔wpR (wr1 (p ρ) st) Q E:=Iff.rfl
def wp_aP{p:Rho->Option (List D)}{ρ:Rho}{st:S}{Q:List D->S->Prop}{E:Exn->S->Prop}:wpR (aP S p ρ st) Q E↔wpR (wr1 (p ρ) st) Q E:=Iff.rfl
def wp_tP{p:Rho->Option Bool}{ρ:Rho}{st:S}{Q:Bool->S->Prop}{E:Exn->S->Prop}:wpR (tP S p ρ st) Q E↔wpR (wr1 (p ρ) st) Q E:=Iff.rfl
def boS{α β:Type}{a:α}{f:α->Option β}:(some a).bind f=f a:=rfl
def dbb{b:Bool}:D.bool? (.bl b)=some b:=rfl
def za2{i j pos}:DE X c g (.Constant (.int i) j pos) (fP S (cn (.int i))):=wo9
def ze8{x j pos}:DE X c g (.Constant (.str x) j pos) (fP S (cn (.str x))):=wo6
def zm9{i j pos}:DE X c g (.Constant (.bool i) j pos) (fP S (cn (.bl i))):=vq0
def zs5{j pos}:DE X c g (.Constant .none j pos) (fP S (cn .non)):=wo8
def za0{i:Nat}{x:Str}{pos:Pos}(h:PE X (.Name x pos) (wu2 i)):DE X c .R (.Name x pos) (fP S (vr i)):=xq1 h
def xx9{x:Str}{i:Int}{pos:Pos}(hc:∃t,X.mg x=some (.int i t))(hg:Gl X x)(hd:(x == ("__debug__" : Str))=false:=by decide):DE X c g (.Name x pos) (fP S (cn (.int i))):=xy0 hc hg hd
def za1:DA X c [] (aP S nl):=wp1
def g2_(h:DE X c g e (f2 S o (fP S p) (fP S q))):DE X c g e (fP S (o2 o p q)):=vt3▸h
def gA_(h:DE X c g e (fA S oA (aP S qa))):DE X c g e (fP S (o1 oA qa)):=vw2▸h
def gI_(h:DE X c g e (fIs S T (fP S p))):DE X c g e (fP S (ti T p)):=vp3▸h
def gC_(h:DA X c es (wt1 S (fP S p) (aP S qa))):DA X c es (aP S (cs p qa)):=wi6▸h
def gB_(h:DT X c e (fB S (fP S p))):DT X c e (tP S (tb p)):=vw1▸h
def gT_{e:Expr}(h:DT X c e (fB S (f2 S o (fP S p) (fP S q)))):DT X c e (tP S (tb (o2 o p q))):=gB_ (vt3▸h)
end
def wb7{S:Type}{F G:FnS S}{ρ:Rho}{st:S}{Q:Fl->S->Prop}{E:Exn->S->Prop}(h:∀P:Fl->S->Prop,(∀ρ1 st1,wpR (G ρ1 st1) Q E->P (.nx ρ1) st1)->(∀d st1,Q (.rt d) st1->P (.rt d) st1)->(∀r st1,Q (.bk r) st1->P (.bk r) st1)->(∀r st1,Q (.ct r) st1->P (.ct r) st1)->wpR (F ρ st) P E):wpR (vh3 S F G ρ st) Q E:=
 zb9.mpr (h _ (λ_ _ z=>z) (λ_ _ z=>z) (λ_ _ z=>z) (λ_ _ z=>z))
section
variable{X:Cx}{S:Type}{W:Wd S}{c:Dx W}{g:Gr}{e a b:Expr}{es:List Expr}{o:D->D->Option D}{p q:Rho->Option D}{qa:Rho->Option (List D)}{pos:Pos}{f fa fb:Fn S}{rr:FnA S}{ga gb gc:Gr}{fc:Fn S}{p2:Pos}{fk:Fn S}{ρ:Rho}{st:S}{Q:D->S->Prop}{E:Exn->S->Prop}{tg:Expr}
def wq1{x:Str}(h:DE X c .R (.Name x pos) (fP S p))(hr:DA X c es (aP S qa)):DA X c (.Name x pos::es) (aP S (cs p qa)):=gC_ (zj0 h hr)
def vj0{x:Str}(h:DE X c .R (.Name x pos) f)(hr:DA X c es rr):DA X c (.Name x pos::es) (wt1 S f rr):=zj0 h hr
def wq0{k:Const}{j}(h:DE X c .R (.Constant k j pos) (fP S p))(hr:DA X c es (aP S qa)):DA X c (.Constant k j pos::es) (aP S (cs p qa)):=gC_ (zj0 h hr)
def wy1{k:Const}{j}(h:DE X c .R (.Constant k j pos) f)(hr:DA X c es rr):DA X c (.Constant k j pos::es) (wt1 S f rr):=zj0 h hr
def wu7{a b:Expr}(h:DE X c .R (.Subscript a b pos) (fP S p))(hr:DA X c es (aP S qa)):DA X c (.Subscript a b pos::es) (aP S (cs p qa)):=gC_ (zj0 h hr)
def vg6{a b:Expr}(h:DE X c .R (.Subscript a b pos) f)(hr:DA X c es rr):DA X c (.Subscript a b pos::es) (wt1 S f rr):=zj0 h hr
def wy2{as:List Expr}{x1}(h:DE X c .R (.Tuple as x1 pos) (fP S p))(hr:DA X c es (aP S qa)):DA X c (.Tuple as x1 pos::es) (aP S (cs p qa)):=gC_ (zj0 h hr)
def vs9{as:List Expr}{x1}(h:DE X c .R (.Tuple as x1 pos) f)(hr:DA X c es rr):DA X c (.Tuple as x1 pos::es) (wt1 S f rr):=zj0 h hr
def wx1{a:Expr}{as:List Expr}{ks}(h:DE X c .R (.Call a as ks pos) (fP S p))(hr:DA X c es (aP S qa)):DA X c (.Call a as ks pos::es) (aP S (cs p qa)):=gC_ (zj0 h hr)
def vb2{a:Expr}{as:List Expr}{ks}(h:DE X c .R (.Call a as ks pos) f)(hr:DA X c es rr):DA X c (.Call a as ks pos::es) (wt1 S f rr):=zj0 h hr
def wt9{a b:Expr}{op}(h:DE X c .R (.BinOp a op b pos) (fP S p))(hr:DA X c es (aP S qa)):DA X c (.BinOp a op b pos::es) (aP S (cs p qa)):=gC_ (zj0 h hr)
def wx0{a b:Expr}{op}(h:DE X c .R (.BinOp a op b pos) f)(hr:DA X c es rr):DA X c (.BinOp a op b pos::es) (wt1 S f rr):=zj0 h hr
def vk9{a:Expr}{op}(h:DE X c .R (.UnaryOp op a pos) f)(hr:DA X c es rr):DA X c (.UnaryOp op a pos::es) (wt1 S f rr):=zj0 h hr
def vc0{a:Expr}{gs scope}(h:DE X c .R (.ListComp a gs scope pos) f)(hr:DA X c es rr):DA X c (.ListComp a gs scope pos::es) (wt1 S f rr):=zj0 h hr
def vw0{a:Expr}{ops bs}(h:DE X c .R (.Compare a ops bs pos) (fP S p))(hr:DA X c es (aP S qa)):DA X c (.Compare a ops bs pos::es) (aP S (cs p qa)):=gC_ (zj0 h hr)
def gU_{x1}(h:DA X c es (aP S qa)):DE X c g (.Tuple es x1 pos) (fP S (o1 wt6 qa)):=gA_ (zr0 h)
def gL_(h:DA X c es (aP S qa)):DE X c g (.List es pos) (fP S (o1 ww2 qa)):=gA_ (yl1 h)
def gX_(h:c.K=X.K)(ha:DE X c .R a (fP S p))(hb:DE X c .R b (fP S q))(hs:yi6 b):DE X c g (.Subscript a b pos) (fP S (o2 oIx p q)):=g2_ (vd4 xa7 (vi5 h) ha hb hs)
def gY_(h:c.K=X.K)(ha:DE X c .R a fa)(hb:DE X c .R b fb)(hs:yi6 b):DE X c g (.Subscript a b pos) (f2 S oIx fa fb):=vd4 xa7 (vi5 h) ha hb hs
def gP_(h:c.K=X.K)(ha:DE X c .R a (fP S p))(hb:DE X c .R b (fP S q)):DE X c g (.BinOp a .Add b pos) (fP S (o2 wq3 p q)):=g2_ (wr5 xl5 (xl8 h) ha hb)
def gp_(h:c.K=X.K)(ha:DE X c .R a fa)(hb:DE X c .R b fb):DE X c g (.BinOp a .Add b pos) (f2 S wq3 fa fb):=wr5 xl5 (xl8 h) ha hb
end
section
variable{prog:Program}{w:World}{A:Around}{E:Value->Shared->Prop}{s:Shared}{X:Cx}{tg:Expr}{S:Type}{W:Wd S}{c:Dx W}{g:Gr}
end
section
variable{S:Type}{ρ:Rho}{st:S}{Q:D->S->Prop}{E:Exn->S->Prop}{out:Str}{f:Fn S}{fs:List (Fn S)}
end
open PySem PySem.Spec PyProof PyProof.Rows
section
variable{X:Cx}{S:Type}{W:Wd S}{c:Dx W}{i j:Nat}{ρ:Rho}{st:S}{Q:Fl->S->Prop}{E:Exn->S->Prop}{g:Gr}
theorem ya3:∀{l:List D} {d:D},D.immL l=true->d∈l->d.imm=true
 | [],_,_,h=>nomatch h
 | a::l,d,m,h=>by
   have m':a.imm=true/\D.immL l=true:=by simpa [D.immL] using m
   rcases Aj0.mp h with e | h
   ·rw[e];exact m'.1
   ·exact ya3 m'.2 h
end
section
variable{prog:Program}{w:World}{A:Around}{E:Value->Shared->Prop}{s:Shared}
abbrev wu8(es:Array DictEntry)(ep:Nat):Obj:={ cls:=.type "dict",dict:=none,data:=.dict es ep,slots:=#[] }
abbrev ww8(d:Addr)(i n ep:Nat):Obj:={ cls:=.type "dict_keyiterator",dict:=none,data:=.fields #[.ref d,.int i 0,.int n 0,.int ep 0],slots:=#[] }
def wg3(it d:Addr)(i n ep:Nat)(es:Array DictEntry)(e:DictEntry)(hn:es.size=n)(he:es[i]?=some e) :
 Meets (Builtin.«dict_keyiterator.__next__» ⟨[.ref it],[]⟩) (λ_ R s=>s.heap.get? it=some (ww8 d i n ep)/\s.heap.get? d=some (wu8 es ep)/\R (.ok (.ret e.key)) { s with heap:=s.heap.update it (Obj.mapFields λx=>x.setIfInBounds 1 (rawInt ((i:Int)+1))),toks:=s.toks }):=
 .of_wp λprog w A R s h=>by
  obtain⟨hp,g,dd,tk,os⟩:=s;obtain⟨hl,hd,h⟩:=h;wp_walk;have e1:(if ((i:Nat):Int)<0 then none else es[((i:Nat):Int).toNat]?)=some e:=by rw[if_neg (by omega),Bk0,he]
  simp only[e1]
  wp_walk
  exact⟨_,rfl,h⟩
def wm8(it d:Addr)(n ep:Nat)(es:Array DictEntry)(hn:es.size=n)(hh:A.handled=none)(h1:s.heap.get? it=some (ww8 d n n ep))(h2:s.heap.get? d=some (wu8 es ep))(h:∀a h' tk,(∀b o,b≠it->s.heap.get? b=some o->h'.get? b=some o)->(∃o,h'.get? a=some o/\o.cls=.type "StopIteration")->E (.ref a) { s with heap:=h',toks:=tk }) :
 wpAny (model prog w) A (Builtin.«dict_keyiterator.__next__» ⟨[.ref it],[]⟩) R E s:=by
 obtain⟨hp,g,dd,tk,os⟩:=s;wp_walk;have e1:(if ((n:Nat):Int)<0 then none else es[((n:Nat):Int).toNat]?)=none:=by rw[if_neg (by omega),Bk0,Array.getElem?_eq_none (by omega)]
 simp only[e1]
 wp_walk
 unfold raiseNew;refine Aa1 (wpAny_handled ?_);rw[hh];refine Aa1 (Ac1 (wpAny_throw (h _ _ _ (λb o hb e=>?_) ⟨_,Ad0 _ rfl,rfl⟩)));exact Ab0 _ (Ab0 _ ((Bf0 _ _ (Ne.symm hb)).trans e))
def wg2(d:Addr)(es:Array DictEntry)(ep:Nat)(hd:(d == sysModules)=false) :
 Meets (Builtin.«dict.__iter__» ⟨[.ref d],[]⟩) (λ_ R s=>s.heap.get? d=some (wu8 es ep)/\R (.ok (.ret (.ref s.heap.objs.size))) { s with heap:=s.heap.push (ww8 d 0 es.size ep),toks:=s.toks }):=
 .of_wp λprog w A R s h=>by
  obtain⟨hp,g,dd,tk,os⟩:=s;obtain⟨hl,h⟩:=h;wp_walk;exact⟨_,rfl,h⟩
open H in
def xm3{i n ep:Nat}(hn:es.size=n)(he:es[i]?=some e)(h1:s.heap.get? it=some (ww8 d i n ep))(h2:s.heap.get? d=some (wu8 es ep))(h:∀h' tk,h'.get? it=some (ww8 d (i+1) n ep)->(∀b o,b≠it->s.heap.get? b=some o->h'.get? b=some o)->Q (some e.key) { s with heap:=h',toks:=tk }):wpAny (model prog w) A (pyNext (.ref it)) Q E s:=by
 have ty:s.TypeIs (.ref it) "dict_keyiterator":=⟨_,h1,rfl⟩;have new:=Cd0 (Obj.mapFields λx=>x.setIfInBounds 1 (rawInt ((i:Int)+1))) h1 rfl;unfold pyNext;exact Aa1 (wpAny_attempt (wpAny_callSpecial?_slot (name:=Str.ofString "__next__") ty F.slot_dict_keyiterator_next (call_meets F.slot_dict_keyiterator_next ty F.entry_dict_keyiterator_next (F.args_dict_keyiterator_next_1 _) (wg3 it d i n ep es e hn he)
  ⟨h1,h2,Ac1 (h _ _ new λb o hb g=>(Bf0 _ _ (Ne.symm hb)).trans g)⟩)))
open H in
def xw1{n ep:Nat}(hh:A.handled=none)(hn:es.size=n)(h1:s.heap.get? it=some (ww8 d n n ep))(h2:s.heap.get? d=some (wu8 es ep))(h:∀h' tk,(∀b o,b≠it->s.heap.get? b=some o->h'.get? b=some o)->Q none { s with heap:=h',toks:=tk }):wpAny (model prog w) A (pyNext (.ref it)) Q E s:=by
 have ty:s.TypeIs (.ref it) "dict_keyiterator":=⟨_,h1,rfl⟩;unfold pyNext;refine Aa1 (wpAny_attempt (wpAny_callSpecial?_slot (name:=Str.ofString "__next__") ty F.slot_dict_keyiterator_next (Aj1 F.slot_dict_keyiterator_next ty F.entry_dict_keyiterator_next (wm8 it d n ep es hn (A:=A.in1) hh h1 h2 λa h' tk hk hc=>?_) (F.args_dict_keyiterator_next_1 _))));exact Aa1 (wpAny_isInstance (T:="StopIteration") (b:=true) hc isSubtype_stop (Ac1 (h _ _ hk)))
def xo2{ep:Nat}(hd:(d == sysModules)=false)(h2:s.heap.get? d=some (wu8 es ep))(h:Q (.ref s.heap.objs.size) { s with heap:=s.heap.push (ww8 d 0 es.size ep) }):wpAny (model prog w) A (pyIter (.ref d)) Q E s:=by
 have ty:s.TypeIs (.ref d) "dict":=⟨_,h2,rfl⟩;exact wpAny_pyIter_slot ty F.slot_dict_iter (call_meets F.slot_dict_iter ty F.entry_dict_iter (F.args_dict_iter_1 _) (wg2 d es ep hd) ⟨h2,"dict_keyiterator",_,⟨_,Ad0 _ rfl,rfl⟩,F.slot_dict_keyiterator_next.lookup,h⟩)
def xe3(hh:A.handled=none)(it d:Addr)(hne:d≠it)(es:Array DictEntry)(ep:Nat) :
 Walks prog w A it [it,d] [it] es.size (λi v=>∃e,es[i]?=some e/\v=e.key) (λi h=>h.get? it=some (ww8 d i es.size ep)/\h.get? d=some (wu8 es ep)) where
 sub:=λb hb=>by simp at hb;simp[hb]
 frame:=λ_ _ _ st hk=>⟨hk it (by simp) _ st.1,hk d (by simp) _ st.2⟩
 item:=λi s Q E hi st hQ=>xm3 rfl (As0 hi) st.1 st.2 λh' tk a b=>hQ _ h' tk ⟨_,As0 hi,rfl⟩ ⟨a,b d _ hne st.2⟩ λc o hc e=>b c o (λz=>hc (by simp[z])) e
 done:=λs Q E st hQ=>xw1 hh rfl st.1 st.2 λh' tk b=>hQ h' tk λc o hc e=>b c o (λz=>hc (by simp[z])) e
 self:=λi s Q E st hQ=>wpAny_pyIter_keyiter ⟨_,st.1,rfl,rfl⟩ hQ
def xu2(hd:(d == sysModules)=false)(es:Array DictEntry)(ep:Nat):PySem.W.KdlSrc prog w "dict" d d es.size (λi v=>∃e,es[i]?=some e/\v=e.key) (λh=>h.get? d=some (wu8 es ep)) where
 type:=λ_ hm=>⟨_,hm,rfl⟩
 there:=λ_ hm=>⟨Heap.lt_size hm,Heap.lt_size hm⟩
 keep:=λ_ _ hm hk=>hk d (.inl rfl) _ hm
 notList:=by decide
 notTuple:=by decide
 hint:=λ_ _ _ _ hm hq=>PySem.W.kdl_hint_dict ⟨_,hm,rfl⟩ hq
 iter:=λ_ _ hh hm=>⟨_,_,(λ_ _ hq=>xo2 hd hm hq),xe3 hh _ d (An0 (Heap.lt_size hm)) es ep,⟨Ad0 _ rfl,Ab0 _ hm⟩⟩
def xi3{n:Nat}(o1:h.get? a=some (seqObj "list" vs.toArray n)):∃m,(sortedHeap h a vs out).get? a=some (seqObj "list" out m):=by
 have la:a<h.objs.size:=Heap.lt_size o1;have o2:=get?_update_seq o1 (λ_=>(#[]:Array Value));unfold sortedHeap;have o3:(((h.update a (Obj.mapSeq λ_=>#[])).push (seqObj "tuple" vs.toArray 0)).push (seqObj "list" #[] 0)).get? a=_:=Ab0 _ (Ab0 _ o2);exact⟨_,get?_update_seq o3 (λ_=>out)⟩
def xe7(hb:b≠a)(g:h.get? b=some o):(sortedHeap h a vs out).get? b=some o:=by
 unfold sortedHeap;rw[Heap.get?_update_ne _ _ _ _ hb];exact Ab0 _ (Ab0 _ (by rw[Heap.get?_update_ne _ _ _ _ hb];exact g))
def yw2{ep:Nat}(hh:A.handled=none)(hd:(d == sysModules)=false)(h2:s.heap.get? d=some (wu8 es ep))(hv:∀e∈es.toList,∃p,TwoAt s.heap e.key p)(h128:es.size<64)(h:∀(p:Addr) (h1 h':Heap) (tk n:Nat) (out:Array Value),(∀b o,s.heap.get? b=some o->h1.get? b=some o)->h1.objs.size<=p->(∀b o,h1.get? b=some o->h'.get? b=some o)->h'.get? p=some (seqObj "list" out n)->out.toList.Perm (es.toList.map (·.key))->out.toList.Pairwise (λx y=>lxle (wu6 s.heap x) (wu6 s.heap y))->Q (.ref p) { s with heap:=h',toks:=tk }) :
 wpAny (model prog w) A (call (.builtin "sorted") [.ref d]) Q E s:=by
 refine Calls.call_function_entry kind_sorted plain_sorted entry_sorted (args_sorted1 _) ?_;unfold Builtin.«sorted»;refine Aa1 (m:=checkCount "sorted" 1 1 _) (Ac1 (Aa1 (PySem.W.kdu_collect (A:=A.in1) (xu2 hd es ep) hh h2 (by rw[sizeLine_eq];omega) λh' tk acc hk hacc=>?_)));have ha:acc.toList=es.toList.map (·.key):=by
  apply List.ext_getElem?;intro j;rw[Ai0,Cn0,Cn0];by_cases hj:j<es.size
  ·obtain⟨e,he,hv⟩:=hacc.2 j _ (As0 (by rw[hacc.1];exact hj))
   rw[As0 (by rw[hacc.1];exact hj),hv,he];rfl
  ·rw[Array.getElem?_eq_none (by rw[hacc.1];omega),Array.getElem?_eq_none (by omega)];rfl
 rw[ha];have hlen:(es.toList.map (·.key)).length=es.size:=by simp
 refine Aa1 (wpAny_newList ?_ (by rw[hlen,sizeLine_eq];omega));show wpAny _ _ _ _ _ { s with heap:=h'.push (seqObj "list" (es.toList.map (·.key)).toArray 0),toks:=tk };have o1:(h'.push (seqObj "list" (es.toList.map (·.key)).toArray 0)).get? h'.objs.size=some (seqObj "list" (es.toList.map (·.key)).toArray 0):=Ad0 _ rfl;have old:∀b o,h'.get? b=some o->(h'.push (seqObj "list" (es.toList.map (·.key)).toArray 0)).get? b=some o:=λb o g=>Ab0 _ g
 generalize hH:h'.push (seqObj "list" (es.toList.map (·.key)).toArray 0)=H1 at o1 old ⊢;have keep:∀v p,TwoAt s.heap v p->TwoAt H1 v p:=λv p z=>by
  obtain⟨b,o,m,t,u,rfl,g,c,d⟩:=z;exact⟨b,o,m,t,u,rfl,old _ _ (hk _ _ g),c,d⟩
 have two:∀v∈es.toList.map (·.key),∃p,TwoAt s.heap v p:=λv m=>by
  obtain⟨e,he,rfl⟩:=Bd0.mp m;exact hv e he
 have ke:∀v∈es.toList.map (·.key),wu6 H1 v=wu6 s.heap v:=λv m=>by
  obtain⟨p,z⟩:=two v m;unfold wu6;rw[z.key,(keep _ _ z).key]
 refine Aa1 (wpAny_holding (Aj1 slot_list_sort ⟨_,o1,rfl⟩ entry_list_sort (yq0 (s:={ s with heap:=H1,toks:=tk }) o1 (λv m=>(two v m).imp λp z=>keep v p z) (by rw[hlen];exact h128) λout a1 a2=>⟨_,rfl,Ac1 ⟨_,rfl,?_⟩⟩) (args_list_sort _)));obtain⟨m,om⟩:=xi3 (out:=out) o1;refine h _ h' _ _ m out hk (Ag0 _) (λb o g=>xe7 (λe=>?_) (old b o g)) om a1 (a2.imp_of_mem λ{x y} hx hy q=>by
  rw[<-ke x (a1.mem_iff.mp hx),<-ke y (a1.mem_iff.mp hy)];exact q)
 exact absurd (Heap.lt_size g) (by rw[e];exact Bq0 _)
end
section
variable{X:Cx}{S:Type}{W:Wd S}{c:Dx W}{A3:List (Addr×Obj)}{σ:St}{H:Hp}{s:Shared}{h':Heap}
def PrK:List (List Key×V)->List P2->Prop:=Paired λkv p=>kv.1=[.inl p.1,.inl p.2]
def yc9(hc:X.calm=true):ws7 X (.builtin "sorted") (λxs H Q=>∃(a:Addr) (kvs:List (List Key×V)) (ps:List P2),xs=[.ref a]/\H a=some (.dT kvs)/\PrK kvs ps/\ps.length<64/\∀p vs',H p=none->PrV H vs' (wr0 ps)->Q (.ref p) (upd H p (.lst vs'))):=by
 intro A3 s σ H xs us Q I r h;obtain⟨a,kvs,ps,rfl,hq,hp,h128,q⟩:=h;obtain⟨u,rfl,r1⟩:=wt7 r;cases r1;obtain⟨z,hd,xs,rel,o,es,ep,g,ex,dat,et,nd⟩:=(show wq9 X.prog X.w H s.heap a (.dT kvs) from I.hok a _ hq);have eo:o=wu8 es ep:=by
  obtain⟨cl,di,da,sl⟩:=o;obtain⟨e1,e2,e3⟩:=ex;simp only at e1 e2 e3 dat;subst e1 e2 e3 dat;rfl
 subst eo;have three:∀{kvs:List (List Key×V)} {xs:List (List Key×Addr×Value)} {ps:List P2},Paired (λ(p:List Key×V) (q:List Key×Addr×Value)=>p.1=q.1/\H q.2.1=some (.tup (p.1.map kV))/\wq2 p.2 q.2.2) kvs xs->PrK kvs ps->
  Paired (λv u=>wq2 v u/\∃p,(∃b,v=.ref b/\H b=some (.tup [.int p.1,.int p.2]))/\TwoAt s.heap u p) (xs.map λx=>V.ref x.2.1) (xs.map λx=>Value.ref x.2.1)/\(xs.map λx=>Value.ref x.2.1).map (wu6 s.heap)=ps:=by
  intro kvs xs ps rel;induction rel generalizing ps with
  | nil=>intro hp;cases hp;exact⟨.nil,rfl⟩
  | @cons p x _ _ h1 _ ih=>
    intro hp;cases hp with
    | @cons _ pp _ _ y hp=>
      obtain⟨i1,i2⟩:=ih hp;obtain⟨e1,hb,_⟩:=h1;rw[show p.1=_ from y] at hb;obtain⟨js,rj,⟨o,g,cl,n,d⟩,_⟩:=I.tuple (SqT.of (show H x.2.1=some (.tup [.int pp.1,.int pp.2]) from hb));cases rj with
      | cons x1 rj=>cases rj with
        | cons x2 rj=>
          cases rj;obtain⟨t1,rfl⟩:=x1;obtain⟨t2,rfl⟩:=x2;have tw:TwoAt s.heap (.ref x.2.1) pp:=⟨x.2.1,o,n,t1,t2,rfl,g,cl,d⟩;refine⟨.cons ⟨rfl,pp,⟨x.2.1,rfl,hb⟩,tw⟩ i1,?_⟩;rw[Aq0,Aq0,i2];unfold wu6;rw[tw.key];rfl
 obtain⟨t3,ek⟩:=three rel hp;have hm:∀{vs:List V} {its:List Value},Paired (λv u=>wq2 v u/\∃p,(∃b,v=.ref b/\H b=some (.tup [.int p.1,.int p.2]))/\TwoAt s.heap u p) vs its->(∀v∈its,∃p,TwoAt s.heap v p)/\wq4 vs its/\PrV H vs (its.map (wu6 s.heap)):=by
  intro vs its z;induction z with
  | nil=>exact⟨λv m=>absurd m (by simp),.nil,.nil⟩
  | cons y _ ih=>
    obtain⟨r1,p,z,tw⟩:=y;refine⟨λv m=>?_,.cons r1 ih.2.1,.cons ?_ ih.2.2⟩
    ·rcases Aj0.mp m with rfl | m
     ·exact⟨p,tw⟩
     ·exact ih.1 v m
    ·unfold wu6;rw[tw.key];exact z
 have ekey:es.toList.map (·.key)=xs.map λx=>Value.ref x.2.1:=by rw[et,Bg0];rfl
 have hsz:es.size=ps.length:=by
  have h1:=congrArg List.length ekey;rw[Aa0,Aa0,Bp0] at h1;rw[h1,<-Paired.length rel,Paired.length hp]
 refine yw2 (I.ok.hd hc) hd g (λe he=>?_) (by omega) λp h1 h' tk n out k1 lp k2 go p1 u1=>?_
 ·exact(hm t3).1 _ (by rw[<-ekey];exact Bd0.mpr ⟨e,he,rfl⟩)
 ·rw[ekey] at p1
  obtain⟨vs',pv,t3'⟩:=yf4 p1 t3;have es':out.toList.map (wu6 s.heap)=wr0 ps:=xb9 (by rw[<-ek];exact p1.map _) (by rw[Ce0];exact u1);obtain⟨_,r2,w2⟩:=hm t3';rw[es'] at w2;have I1:Inv X A3 σ H { s with heap:=h1,toks:=tk }:=I.kept k1;have hlen:vs'.length<=127:=by
   have h1:=pv.length_eq;rw[Aa0,<-Paired.length rel,Paired.length hp] at h1;omega
  exact⟨.ref p,_,I1.laid (t':=tk) (a:=p) (o:=.lst vs') k2 lp ⟨Ca0 (zy8 (by omega)),out.toList,n,r2,go⟩,rfl,q _ _ (I1.hok.fresh lp) w2⟩
def xm0:List D->Option D
 | [.dct (.non::ks) _]=>(ws1 ks).bind λps=>if ps.length<64 then some (.lst ((wr0 ps).map prD)) else none
 | _=>none
open H in
theorem xz5:∀{kk:List (List Key)} {ps:List P2} {vs:List V},ws1 (kk.map wp9)=some ps->kk.length=vs.length->PrK (kk.zip vs) ps
 | [],ps,vs,e,_=>by cases e;exact .nil
 | k::kk,ps,[],_,h=>by cases h
 | k::kk,ps,v::vs,e,h=>by
   rw[Aq0] at e;unfold ws1 at e;split at e
   ·rename_i he;cases he
   ·rename_i x y m he
    injection he with he1 he2
    subst he2;cases q:ws1 (kk.map wp9) with
    | none=>rw[q] at e;cases e
    | some rs=>
      rw[q] at e;cases e;refine .cons ?_ (xz5 q (by simpa using h));unfold wp9 at he1;injection he1 with he1
      cases k with
      | nil=>cases he1
      | cons a k=>cases k with
        | nil=>simp at he1
        | cons b k=>cases k with
          | nil=>
            simp only[Aq0,List.map_nil,List.cons.injEq,and_true] at he1;obtain⟨e1,e2⟩:=he1;cases a<;>cases b<;>simp[wx2] at e1 e2;subst e1 e2;rfl
          | cons d k=>simp at he1
   ·cases e
open H in
def xd2:ws4 c (λxs H Q=>∃(a:Addr) (kvs:List (List Key×V)) (ps:List P2),xs=[.ref a]/\H a=some (.dT kvs)/\PrK kvs ps/\ps.length<64/\∀p vs',H p=none->PrV H vs' (wr0 ps)->Q (.ref p) (upd H p (.lst vs'))) xm0:=by
 intro l vs H st d Q ok z e q;unfold xm0 at e;split at e
 ·rename_i ks ws
  cases qq:ws1 ks with
  | none=>rw[qq] at e;cases e
  | some ps=>
    rw[qq] at e;have e:(if ps.length<64 then some (D.lst ((wr0 ps).map prD)) else none)=some d:=e;split at e
    ·rename_i h128
     cases e;obtain⟨v,r,e1,i1,i2⟩:=IsL.cons.mp z;obtain⟨a,us,ea,_,i3,hk⟩:=Is.dct_iff.mp i1;rw[IsL.nil.mp i2,ea] at e1;rcases hk with⟨kk,ek,_,_⟩ | ⟨kk,ek,el,hh⟩
     ·cases kk with
      | nil=>cases ek
      | cons k kk=>cases k<;>cases ek
     ·injection ek with _ ek
      subst ek;exact⟨a,_,ps,e1,hh,xz5 qq el,h128,λp vs' hp w=>q _ _ (Ext.laid hp) (zh3 ok hp) (New.lst ok hp (λ_ n=>n) (yn9 _) (xj8 (A:=λb=>¬W.mv b) w))⟩
    ·cases e
 ·cases e
end
section
variable{X:Cx}{A3:List (Addr×Obj)}{σ:St}{H:Hp}{s:Shared}{h':Heap}{v:Value}{CX:CXT}{k:Nat}{f:Addr}{fd:FuncData}{ps:List Str}{sp:Sp}{E:XK}{x:Str}{p pos:Pos}{e:Expr}{es:List Expr}{t:TA}
end
section
variable{prog:Program}{w:World}{A:Around}{E:Value->Shared->Prop}{h:Heap}{g:Array GenState}{d:Drawn}{t:Nat}{os:OsState}{a C:Addr}{o:Obj}{K:PySem.W.Frag}
end
section
variable{X:Cx}{E:XK}{C:Addr}{n:Str}{P:Program}{w:World}{K:PySem.W.Frag}{mg:Str->Option Value}{base:Heap}{p:Addr×Obj}{A3:List (Addr×Obj)}{σ:St}{H:Hp}{s:Shared}
end
open PySem.SeqAt
section
variable{X:Cx}{S:Type}{W:Wd S}{c:Dx W}{prog:Program}{w:World}{A:Around}{E:Value->Shared->Prop}{h:Heap}{g:Array GenState}{d:Drawn}{t:Nat}{os:OsState}{nm q:Str}{C N f:Addr}{bs bm bmB:List Value}{hd:Bool}{sn:List Str}{sub:List Value}{ab:Bool}{col:Option Bool}{dd:Option Addr}{k0 k1 k2 k3 k5:Option Value}{B newId initId:String}{a dx:Addr}{o:Obj}{K:PySem.W.Frag}{A3:List (Addr×Obj)}{σ:St}{H H':Hp}{s:Shared}{e:Addr}{h':Heap}
end
section
variable{X:Cx}{A3:List (Addr×Obj)}{σ:St}{H:Hp}{s:Shared}{e C C0:Addr}{o:Obj}{e1 e2:Expr}{t1 t2:TE}{B nm q:Str}{N:Addr}{bs bm:List Value}{hd:Bool}{sn:List Str}{sub:List Value}{ab:Bool}{col:Option Bool}{dd:Option Addr}{k0 k1 k2 k3 k5:Option Value}{dx:Addr}{i j:Nat}{x y name:Str}{v:V}{id1:String}{fr:List Addr}{n1 n2:Addr->Prop}{h h1 h2:Heap}
end
section
variable{M:Model}{A:Around}{E:Value->Shared->Prop}{s:Shared}{x T L:Addr}{C v c fl:Value}{od:Option Addr}{env:Env}{outer:List Env}{base:Heap}{Q:Unit->Shared->Prop}{P:Program}{w:World}{fs:List Addr}{H H':Hp}{h h1 h2:Heap}{no:Addr->Prop}{X:Cx}{A3:List (Addr×Obj)}{σ:St}{a:Addr}{o:HO}
end
section
variable{X:Cx}{CX:CXT}{k:Nat}{f:Addr}{fd:FuncData}{ps:List Str}{sp:Sp}{E:XK}{x:Str}{p pos:Pos}{e:Expr}{es:List Expr}{t:TA}{A3:List (Addr×Obj)}{σ:St}{H:Hp}{s:Shared}{C:Addr}{n:Str}{S:Type}{W:Wd S}{c:Dx W}{P:Program}{w:World}{K:PySem.W.Frag}{mg:Str->Option Value}{base:Heap}{g:Gr}{v:V}{C0:Addr}{st:Stmt}{nm q qual:Str}{M:Addr}{bs bm:List Value}{sn:List Str}{sub:List Value}{ab:Bool}{col:Option Bool}{dd:Option Addr}{k0 k1 k2 k3 k5:Option Value}{x1 x2:Str}{j1 j2:Nat}{pB pA pc pe p1 p2 p3 p4 p5 p6 p7 p8 q1 q2 q3 q4 r1 r2 r3 r4:Pos}
end
section
variable{X:Cx}{S:Type}{W:Wd S}{c:Dx W}{g:Gr}{k:Nat}{x:Str}{ps:List Str}{p pos:Pos}{e:Expr}{es:List Expr}{E:XK}{C:Addr}{G:List D->Res Unit D}{f:FnA S}
end
section
variable{prog:Program}{w:World}{A:Around}{E:Value->Shared->Prop}{s:Shared}
variable{nm q:Str}{C N:Addr}{bs bm:List Value}{hd:Bool}{sn:List Str}{sub:List Value}{ab:Bool}{col:Option Bool}{dd:Option Addr}{k0 k1 k2 k3 k5:Option Value}{newId:String}
end
section
variable{M:Model}{A:Around}{E:Value->Shared->Prop}{s:Shared}{x T L:Addr}{C v c fl:Value}{od:Option Addr}{env:Env}{Q:Unit->Shared->Prop}{X:Cx}{A3:List (Addr×Obj)}{σ:St}{H:Hp}{k:Nat}
end
section
variable{X:Cx}{S:Type}{W:Wd S}{c:Dx W}{k:Nat}{x:Str}{ps:List Str}{e:Expr}{es:List Expr}{E:XK}{C:Addr}{G:List D->Res Unit D}{f:FnA S}
end
section
variable{X:Cx}{S:Type}{W:Wd S}{c:Dx W}{i:Nat}
def vk3(S:Type)(i:Nat)(o:List D->List D->Option (List D))(f:FnA S):FnS S:=λρ st=>match wq5 ρ i with
 | some l=>(f ρ st).bind λd st1=>(wr1 (o l d) st1).bind λl' st2=>.ok (.nx (ρ.set i (.own (.lst l')))) st2
 | none=>.bad
def MtA{S:Type}{W:Wd S}(c:Dx W)(r:V->List V->Hp->VK->Prop)(o:List D->List D->Option (List D)):Prop:=∀l d l' a vs us H (Q:VK),o l d=some l'->D.immL l=true->H a=some (.lst vs)->IsL c.K (λb=>¬W.mv b) H l vs->IsL c.K (λb=>¬W.mv b) H d us->
 (∀y ws,D.immL l'=true->IsL c.K (λb=>¬W.mv b) H l' ws->Q y (upd H a (.lst ws)))->r (.ref a) us H Q
def wo4{x m:Str}{id:String}(hm:MtR X id r)(ho:MtA c r o)(slot:Slot "list" m id)(hty:typeOf (.builtin id)=pure (.type "method_descriptor"))(hx:PE X (.Name x p1) (wu2 i))(he:DA X c (e::es) f)(hbase:attributeBase (.Name x p1) m X.env (eval (.Name x p1) X.env)=eval (.Name x p1) X.env:=by rfl)(hfew:((backTo p3 (starEach (e::es) X.env)).all (λx=>!x.1)&&(backToKw p3 (keywordEach [] X.env)).all (λx=>x.1.isSome)
  && decide ((e::es).length+([]:List Keyword).length+(if ([]:List Keyword).isEmpty then 0 else 1)<30))=true:=by rfl)(hline:(p2.endLine == p3.line)=true:=by rfl)(hs:starEach (e::es) X.env=(false,eval e X.env)::starEach es X.env:=by rfl)(hplain:(backTo p3 (starEach es X.env)).any (·.1)=false:=by rfl)(hsw:swapsWith (.Call (.Attribute (.Name x p1) m p2) (e::es) [] p3) none p4.line X.env=pure false:=by rfl) :
 DS X c (.Expr (.Call (.Attribute (.Name x p1) m p2) (e::es) [] p3) p4) (vk3 S i o f):=
 (ym6 (wy7 PySem.F.plainAttrs_list slot hty hm hx he hbase hfew hline hs hplain) hsw).imp λD σ H hI46=>by
  obtain⟨ρ,st,R,ok,w⟩:=hI46;unfold vk3 at w;cases q:wq5 ρ i with
  | none=>rw[q] at w;exact w.elim
  | some l=>
    rw[q] at w;obtain⟨a,vs,ea,eH,z,nm⟩:=R.lstAt q;refine⟨.ref a,ea,.inl ⟨rfl,vs,.of eH⟩,ρ,st,R,ok,za6 (za3.mp w) (λd st1 q v H1 e ok1 zv=>?_) λx st1 q H1 e ok1=>q H1 (e.f0 R) ok1⟩;obtain⟨l',e',q'⟩:=zb2.mp (za3.mp q);have R1:=R.ext ok e;have eH1:=e a _ eH nm;have kA:wq8 (Av c σ ρ) (λb=>¬W.mv b) H1 H1:=⟨λ_ _ z _=>z,λb o a z=>⟨a.1,z⟩⟩;refine ho l d l' a vs v H1 _ e' (ya0 (by assumption)).2 eH1 (IsL.mono kA (z.mono (e.keepT ok λb a=>⟨a.1,a⟩))) zv λy us m' z'=>?_
    obtain⟨R2,F2⟩:=R1.wr (d':=.lst l') (o:=.lst us) (zn9 (by assumption)) ea ⟨(λu z=>by cases z),(λob u z=>by cases z)⟩ λk=>⟨us,zb4,IsL.mono k (IsL.ofImm m' z')⟩
    exact q' σ _ (e.frm.trans F2) (zw6 ok1 nm) R2
theorem IsL.erase{K:PySem.W.Frag}{A:Addr->Prop}{H:Hp}:∀{l:List D} {vs:List V} (n:Nat),IsL K A H l vs->IsL K A H (l.eraseIdx n) (vs.eraseIdx n)
 | [],vs,n,h=>by rw[IsL.nil.mp h];exact IsL.nil.mpr rfl
 | x::l,vs,0,h=>by
   obtain⟨w,r,e,i,j⟩:=IsL.cons.mp h;subst e;exact j
 | x::l,vs,n+1,h=>by
   obtain⟨w,r,e,i,j⟩:=IsL.cons.mp h;subst e;exact IsL.cons.mpr ⟨w,r.eraseIdx n,rfl,i,IsL.erase n j⟩
theorem xb2:D.immL l=true↔∀d∈l,d.imm=true:=⟨λh d hd=>ya3 h hd,λh=>by
 induction l with
 | nil=>rfl
 | cons a l ih=>simp[D.immL,h a (.head _),ih λd hd=>h d (.tail _ hd)]⟩
def vo6{K:PySem.W.Frag}{A:Addr->Prop}{H:Hp}{a:Int}{vs:List V}(h:IsL K A H [.int a] vs):vs=[.int a]:=by
 obtain⟨v,r,e,i,j⟩:=IsL.cons.mp h;rw[e,Is.int_iff.mp i,IsL.nil.mp j]
section
variable{ρ:Rho}{st:S}{Q:Fl->S->Prop}{E:Exn->S->Prop}
theorem wc0:wpR (vk3 S i o f ρ st) Q E↔∃l,wq5 ρ i=some l/\wpR (f ρ st) (λd st1=>∃l',o l d=some l'/\Q (.nx (ρ.set i (.own (.lst l')))) st1) E:=by
 unfold vk3;cases wq5 ρ i with
 | none=>exact zx8
 | some l=>
   refine zx7 (wpB λd st1=>?_);rw[za3,zb2];exact Iff.rfl
end
end
section
variable{X:Cx}{S:Type}{W:Wd S}{c:Dx W}{A3:List (Addr×Obj)}{σ:St}{H:Hp}{s:Shared}
end
section
variable{X:Cx}{S:Type}{W:Wd S}{c:Dx W}{i j:Nat}
def wy9(l d:List D):Option (D×List D):=match d with
 | [.int k]=>if 0<=k/\k<l.length/\l.length<=sizeLine then (l[k.toNat]?).map λx=>(x,l.eraseIdx k.toNat) else none
 | _=>none
def xw0{l:List D}{k:Int}{x:D}(h0:0<=k)(h1:k<l.length)(h2:l.length<=1000)(hx:l[k.toNat]?=some x):wy9 l [.int k]=some (x,l.eraseIdx k.toNat):=by
 show (if 0<=k/\k<l.length/\l.length<=sizeLine then (l[k.toNat]?).map λx=>(x,l.eraseIdx k.toNat) else none)=_;rw[if_pos ⟨h0,h1,zd9 h2⟩,hx];rfl
open H in
def wk7{l ds:List D}{p:D×List D}{a:Addr}{vs us:List V}{H:Hp}{Q:VK}(e:wy9 l ds=some p)(im:D.immL l=true)(eH:H a=some (.lst vs))(z:IsL c.K (λb=>¬W.mv b) H l vs)(zu:IsL c.K (λb=>¬W.mv b) H ds us)(q:∀y ws,D.immL p.2=true->p.1.imm=true->IsL c.K (λb=>¬W.mv b) H p.2 ws->Is c.K (λb=>¬W.mv b) H p.1 y->Q y (upd H a (.lst ws))):xz3 (.ref a) us H Q:=by
 unfold wy9 at e;split at e
 ·rename_i k
  by_cases h:0<=k/\k<l.length/\l.length<=sizeLine
  ·rw[if_pos h] at e
   cases hx:l[k.toNat]? with
   | none=>rw[hx] at e;cases e
   | some x=>
     rw[hx] at e;cases e;have hu:=vo6 zu;subst hu;obtain⟨y,hy,zy⟩:=z.get hx;have hs:(sizeLine:Int)<2 ^ 63:=by decide
     exact⟨a,vs,k,k.toNat,y,rfl,rfl,eH,by omega,by omega,PySem.StrLaws.seqIndex_nonneg h.1 (by rw[<-z.length];exact h.2.1),hy,q y _ (xb2.mpr λd hd=>ya3 im (List.mem_of_mem_eraseIdx hd)) (ya3 im (Ar0 hx)) (z.erase _) zy⟩
  ·rw[if_neg h] at e;cases e
 ·cases e
def vc3(S:Type)(i j:Nat)(f:FnA S):FnS S:=λρ st=>match wq5 ρ j with
 | some l=>(f ρ st).bind λds st1=>(wr1 (wy9 l ds) st1).bind λp st2=>(wr1 (put (ρ.set j (.own (.lst p.2))) i p.1) st2).bind λρ' st3=>.ok (.nx ρ') st3
 | none=>.bad
def wh3{x y:Str}{e:Expr}{es:List Expr}{f:FnA S}{p1 p2 p3 p4 pos:Pos}(hN:X.N.Nodup)(hi:X.N[i]?=some y)(hy:Loc X.env.scope y)(hx:PE X (.Name x p1) (wu2 j))(he:DA X c (e::es) f)(hbase:attributeBase (.Name x p1) "pop" X.env (eval (.Name x p1) X.env)=eval (.Name x p1) X.env:=by rfl)(hfew:((backTo p3 (starEach (e::es) X.env)).all (λx=>!x.1)&&(backToKw p3 (keywordEach [] X.env)).all (λx=>x.1.isSome)
  && decide ((e::es).length+([]:List Keyword).length+(if ([]:List Keyword).isEmpty then 0 else 1)<30))=true:=by rfl)(hline:(p2.endLine == p3.line)=true:=by rfl)(hs:starEach (e::es) X.env=(false,eval e X.env)::starEach es X.env:=by rfl)(hplain:(backTo p3 (starEach es X.env)).any (·.1)=false:=by rfl)(hsw:swapsWith (.Call (.Attribute (.Name x p1) "pop" p2) (e::es) [] p3) (some (.Name y p4)) pos.line X.env=pure false:=by rfl)(hf:X.fn y=true\/X.env.scope.names.lookup y=some .local:=by first | exact .inl rfl | exact .inr rfl | assumption) :
 DS X c (.Assign [.Name y p4] (.Call (.Attribute (.Name x p1) "pop" p2) (e::es) [] p3) pos) (vc3 S i j f):=
 (zu5 hN hi hy (wy7 PySem.F.plainAttrs_list PySem.F.slot_list_pop PySem.F.type_list_pop xw2 hx he hbase hfew hline hs hplain) hsw hf).imp λD σ H hI47=>by
  obtain⟨ρ,st,R,ok,w⟩:=hI47;unfold vc3 at w;cases q:wq5 ρ j with
  | none=>rw[q] at w;exact w.elim
  | some l=>
    rw[q] at w;obtain⟨a,vs,ea,eH,z,nm⟩:=R.lstAt q;refine⟨.ref a,ea,.inl ⟨rfl,vs,.of eH⟩,ρ,st,R,ok,za6 (za3.mp w) (λd st1 q v H1 e ok1 zv=>?_) λx st1 q H1 e ok1=>q H1 (e.f0 R) ok1⟩;obtain⟨pr,e',q'⟩:=zb2.mp (za3.mp q);obtain⟨ρ',ep,q'⟩:=zb2.mp (za3.mp q');have R1:=R.ext ok e;have eH1:=e a _ eH nm;have kA:wq8 (Av c σ ρ) (λb=>¬W.mv b) H1 H1:=⟨λ_ _ z _=>z,λb o a z=>⟨a.1,z⟩⟩;refine wk7 e' (ya0 (by assumption)).2 eH1 (IsL.mono kA (z.mono (e.keepT ok λb a=>⟨a.1,a⟩))) zv λy us m' my z' zy=>?_
    obtain⟨R2,F2⟩:=R1.wr (d':=.lst pr.2) (o:=.lst us) (zn9 (by assumption)) ea ⟨(λu z=>by cases z),(λob u z=>by cases z)⟩ λk=>⟨us,zb4,IsL.mono k (IsL.ofImm m' z')⟩
    have ks:∀b o,H1 b=some o->vj9 o->upd H1 a (.lst us) b=some o:=λb o h s=>by
     by_cases e:b=a
     ·subst e;rw[eH1] at h;cases h;rcases s with⟨u,e⟩ | ⟨ob,u,e⟩<;>cases e
     ·rw[zb3 e];exact h
    have zy':Is c.K (λ_=>False) (upd H1 a (.lst us)) pr.1 y:=Is.mono ⟨ks,λ_ _ f=>False.elim f⟩ (Is.ofImm my zy);obtain⟨l1,rfl⟩:=zp3 ep;have R3:=R2.setB l1 (show Is c.K (Av c σ (ρ.set j (.own (.lst pr.2)))) (upd H1 a (.lst us)) pr.1 y from Is.ofImm my zy');exact q' _ _ ((e.frm.trans F2).trans zg9) (zw6 ok1 nm) R3
section
variable{ρ:Rho}{st:S}{Q:Fl->S->Prop}{E:Exn->S->Prop}
theorem xs8{f:FnA S}:wpR (vc3 S i j f ρ st) Q E↔∃l,wq5 ρ j=some l/\wpR (f ρ st) (λds st1=>∃p,wy9 l ds=some p/\∃ρ',put (ρ.set j (.own (.lst p.2))) i p.1=some ρ'/\Q (.nx ρ') st1) E:=by
 unfold vc3;cases wq5 ρ j with
 | none=>exact zx8
 | some l=>
   refine zx7 (wpB λd st1=>?_);rw[za3,zb2];constructor
   ·rintro ⟨p,e,h⟩;rw[za3,zb2] at h;exact⟨p,e,h⟩
   ·rintro ⟨p,e,h⟩;refine⟨p,e,?_⟩;rw[za3,zb2];exact h
end
end
def yd3:plainId "list.remove.loop" = true:=by decide +kernel
def xc2:entryFor table "list.remove.loop" = some Builtin.«list.remove.loop»:=entryFor_of_tree (by kernel_rfl)
theorem we0(a:Addr)(its:Array Value)(n:Nat)(x:Value)(f:Nat->Bool)(j:Nat)(hj:j<its.size)(hz:its.size<=sizeLine)(yes:f j=true)(d:Nat) :
 ∀i:Nat,i+d=j->(∀m,i<=m->m<j->f m=false)->Meets (Builtin.«list.remove.loop» ⟨[.ref a,x,rawInt i],[]⟩)
  (λA R s=>s.heap.get? a=some { cls:=.type "list",data:=.seq its n }/\(∀m y,its[m]?=some y->EqAt A.in1 s y x (f m))/\R (.ok (.ret .none)) { s with heap:=s.heap.update a (Obj.mapSeq λxs=>xs.eraseIdxIfInBounds j) }):=by
 induction d with
 | zero=>
   intro i hd no prog w A R s h;obtain⟨hp,gs,dr,tk,os⟩:=s;obtain⟨ha,heq,hR⟩:=h;have e:i=j:=by omega
   subst e
   wp_walk using wpAny_loadPart' ha
   have gi:its[((i:Nat):Int).toNat]?=some its[i]:=by simp[hj]
   rw[gi];refine Aa1 (heq i _ (As0 hj) prog w _ _ ?_);rw[yes];have hz':((λxs:Array Value=>xs.eraseIdxIfInBounds (((i:Nat):Int)).toNat) its).size<=sizeLine+1:=by
    show (its.eraseIdxIfInBounds (((i:Nat):Int)).toNat).size<=_;rw[Bk0,<-Array.toArray_toList (xs:=its),Cl0,Af0];have h3:(its.toList.eraseIdx i).length<=its.toList.length:=zv0 its.toList i;have h2:its.toList.length=its.size:=Bp0;show (its.toList.eraseIdx i).length<=_;omega
   wp_walk using (wpAny_updateSeq ha rfl (hz:=hz) (_hz':=hz'))
   simpa using hR
 | succ d ih=>
   intro i hd no prog w A R s h;obtain⟨hp,gs,dr,tk,os⟩:=s;obtain⟨ha,heq,hR⟩:=h;have hi:i<its.size:=by omega
   wp_walk using wpAny_loadPart' ha
   have gi:its[((i:Nat):Int).toNat]?=some its[i]:=by simp[hi]
   have up:((i:Nat):Int)+1=((i+1:Nat):Int):=by omega
   rw[gi];refine Aa1 (heq i _ (As0 hi) prog w _ _ ?_);rw[no i (Ag0 _) (by omega)]
   wp_walk
   rw[up];exact⟨plainId_quiet yd3 _,codeAny_builtin xc2 (by
    rw[Around.under_plainId yd3 _];exact ih (i+1) (by omega) (λm h1 h2=>no m (by omega) h2) prog w A R _ ⟨ha,heq,hR⟩)⟩
def xu3(a:Addr)(its:Array Value)(n:Nat)(x:Value)(f:Nat->Bool)(j:Nat)(hj:j<its.size)(hz:its.size<=sizeLine)(yes:f j=true)(no:∀m,m<j->f m=false) :
 Meets (Builtin.«list.remove» ⟨[.ref a,x],[]⟩) (λA R s=>s.heap.get? a=some { cls:=.type "list",data:=.seq its n }/\(∀m y,its[m]?=some y->EqAt A.in1 s y x (f m))/\R (.ok (.ret .none)) { s with heap:=s.heap.update a (Obj.mapSeq λxs=>xs.eraseIdxIfInBounds j) }):=by
 intro prog w A R s h;obtain⟨hp,gs,dr,tk,os⟩:=s
 wp_walk
 exact⟨plainId_quiet yd3 _,codeAny_builtin xc2 (by
  rw[Around.under_plainId yd3 _];exact we0 a its n x f j hj hz yes j 0 (by omega) (λm _ h2=>no m h2) prog w A R _ h)⟩
def ww3(x:D):List D->Option Nat
 | []=>none
 | d::l=>(D.eqq d x).bind λb=>if b=true then some 0 else (ww3 x l).map λn=>n+1
theorem yt4{x:D}:∀{l:List D} {n:Nat},ww3 x l=some n->n<l.length/\(∀m d,l[m]?=some d->m<n->D.eqq d x=some false)/\∀d,l[n]?=some d->D.eqq d x=some true
 | [],n,e=>by cases e
 | a::l,n,e=>by
   unfold ww3 at e;cases q1:D.eqq a x with
   | none=>rw[q1] at e;cases e
   | some b=>
     rw[q1] at e;cases b with
     | true=>
       cases e;exact⟨Nat.succ_pos _,λm d _ h=>absurd h (by omega),λd h=>by cases h;exact q1⟩
     | false=>
       cases q2:ww3 x l with
       | none=>rw[q2] at e;cases e
       | some k=>
         rw[q2] at e;have e:some (k+1)=some n:=e;cases e;obtain⟨h1,h2,h3⟩:=yt4 q2;refine⟨by rw[Ax0];omega,λm d hd hm=>?_,λd hd=>h3 d hd⟩;cases m with
         | zero=>cases hd;exact q1
         | succ m=>exact h2 m d hd (by omega)
section
variable{X:Cx}{A3:List (Addr×Obj)}{σ:St}{H:Hp}{s:Shared}
open Classical in
def eqN(x:D)(l:List D)(m:Nat):Bool:=decide (∃d,l[m]?=some d/\D.eqq d x=some true)
def yt3(I:Inv X A3 σ H s){A:Around}{A1:Addr->Prop}{x:D}{l:List D}{vs:List V}{its:List Value}{n:Nat}{v:V}{u:Value}(hd:D.depL l<=30)(hu:A.units+30<cLine)(e:ww3 x l=some n)(tot:∀d∈l,∃b,D.eqq d x=some b)(i:IsL X.K A1 H l vs)(rv:wq4 vs its)(h:Is X.K A1 H x v)(r:wq2 v u) :
 n<its.length/\eqN x l n=true/\(∀m,m<n->eqN x l m=false)/\∀m y,its[m]?=some y->EqAt A s y u (eqN x l m):=by
 classical
 obtain⟨h1,h2,h3⟩:=yt4 e;have hl:l.length=its.length:=i.length.trans rv.length;refine⟨by omega,Am1 ⟨_,Ac0 h1,h3 _ (Ac0 h1)⟩,λm hm=>Al1 λhI125=>?_,λm y hy=>?_⟩
 ·obtain⟨d,g1,g2⟩:=hI125
  rw[h2 m d g1 hm] at g2;cases g2
 ·have hm:m<l.length:=by rw[hl];exact(Ae0.mp hy).1
  have hld:=Ac0 hm;obtain⟨w,hw,iw⟩:=i.get hld;obtain⟨y',hy',ry⟩:=rv.get hw;rw[hy] at hy';cases hy';obtain⟨b,eb⟩:=tot _ (Ar0 hld);have q:=xc1 I 30 (Ap0 (ye2 hld) hd) hu eb iw h ry r;have:eqN x l m=b:=by
   cases b with
   | true=>exact Am1 ⟨_,hld,eb⟩
   | false=>exact Al1 λ⟨d,g1,g2⟩=>by rw[hld] at g1;cases g1;rw[eb] at g2;cases g2
  rw[this];exact q
def vr6(K:PySem.W.Frag):V->List V->Hp->VK->Prop:=λx vs H Q=>∃(l:Addr) (xs:List V) (y:V) (A1:Addr->Prop) (dl:List D) (d:D) (n:Nat),x=.ref l/\vs=[y]/\H l=some (.lst xs)/\IsL K A1 H dl xs/\Is K A1 H d y/\D.depL dl<=30/\(∀e∈dl,∃b,D.eqq e d=some b)/\ww3 d dl=some n/\Q .non (upd H l (.lst (xs.eraseIdx n)))
def wm3{k:Nat}(hr:wr2 k X.A):MtM X "list.remove" (vr6 X.K):=by
 intro A3 s σ H x vs v us Q I rx rv h;obtain⟨l,xs,y,A1,dl,d,n,rfl,rfl,hH,il,id',hd,tot,e,q⟩:=h;cases rx;obtain⟨u,rfl,ru⟩:=rv.one;obtain⟨z,its,m,r,hl,eo⟩:=I.lstM hH;have hu:X.A.in1.units+30<cLine:=by rw[Around.in1_units];have:=hr.units;omega
 obtain⟨g1,g2,g3,g4⟩:=yt3 I hd hu e tot il r id' ru;refine call_meets F.slot_list_remove ⟨_,eo,rfl⟩ F.entry_list_remove (F.args_list_remove_2 _ _) (xu3 l its.toArray m u (eqN d dl) n (by rw[Af0];exact g1) (by rw[Af0];omega) g2 g3) ⟨eo,λm y hy=>g4 m y (by simpa using hy),?_⟩;refine⟨.non,_,I.lset (its':=its.eraseIdx n) hH eo ?_ (r.eraseIdx n) ?_,rfl,q⟩
 ·show its.toArray.eraseIdxIfInBounds n=(its.eraseIdx n).toArray
  rw[Cl0]
 ·have:=zv0 xs n
  omega
variable{S:Type}{W:Wd S}{c:Dx W}
open Classical in
def vk7(l d:List D):Option (List D):=match d with
 | [x]=>if D.depL l<=30/\∀e∈l,∃b,D.eqq e x=some b then (ww3 x l).map λn=>l.eraseIdx n else none
 | _=>none
def wf6{l:List D}{x:D}{n:Nat}(hd:D.depL l<=30)(tot:∀e∈l,∃b,D.eqq e x=some b)(e:ww3 x l=some n):vk7 l [x]=some (l.eraseIdx n):=by
 classical
 show (if D.depL l<=30/\∀e∈l,∃b,D.eqq e x=some b then (ww3 x l).map λn=>l.eraseIdx n else none)=_;rw[if_pos ⟨hd,tot⟩,e];rfl
open H in
def wm5:MtA c (vr6 c.K) vk7:=by
 classical
 intro l d l' a vs us H Q e im eH z zv q;unfold vk7 at e;split at e
 ·rename_i x
  by_cases h:D.depL l<=30/\∀e∈l,∃b,D.eqq e x=some b
  ·rw[if_pos h] at e
   cases hn:ww3 x l with
   | none=>rw[hn] at e;cases e
   | some n=>
     rw[hn] at e;cases e;obtain⟨v,r,e1,i1,i2⟩:=IsL.cons.mp zv;rw[IsL.nil.mp i2] at e1;subst e1;exact⟨a,vs,v,_,l,x,n,rfl,rfl,eH,z,i1,h.1,h.2,hn,q _ _ (xb2.mpr λd hd=>ya3 im (List.mem_of_mem_eraseIdx hd)) (z.erase _)⟩
  ·rw[if_neg h] at e;cases e
 ·cases e
end
theorem xp2{M:Model}{A:Around}{E:Value->Shared->Prop}{s:Shared}{j:Nat}{β:Type}{body:Nat->β->Sem (ForInStep β)}{b r:β}{Q:β->Shared->Prop}{s':Shared}(hit:∀b Q,Q (ForInStep.done r) s'->wpAny M A (body j b) Q E s)(no:∀i Q,i<j->Q (ForInStep.yield b) s->wpAny M A (body i b) Q E s)(q:Q r s') :
 ∀(k i n:Nat),i+k=j->k<n->wpAny M A (forIn (List.range' i n 1) b body) Q E s:=by
 intro k;induction k with
 | zero=>
   intro i n e hn;obtain⟨n,rfl⟩:∃m,n=m+1:=⟨n-1,by omega⟩;rw[List.range'_succ,List.forIn_cons];have e:i=j:=by omega
   subst e;exact Aa1 (hit _ _ (Ac1 q))
 | succ k ih=>
   intro i n e hn;obtain⟨n,rfl⟩:∃m,n=m+1:=⟨n-1,by omega⟩;rw[List.range'_succ,List.forIn_cons];exact Aa1 (no i _ (by omega) (ih (i+1) n (by omega) (by omega)))
def xt6(a:Addr)(its:Array Value)(n:Nat)(dd:Option Addr)(sl:Array (Option Value))(x:Value)(f:Nat->Bool)(j:Nat)(hj:j<its.size)(yes:f j=true)(no:∀m,m<j->f m=false) :
 Meets (Builtin.«tuple.index» ⟨[.ref a,x],[]⟩) (λA R s=>s.heap.get? a=some { cls:=.type "tuple",dict:=dd,data:=.seq its n,slots:=sl }/\(∀m y,its[m]?=some y->EqAt A.in1 s y x (f m))/\R (.ok (.ret (.int j s.toks))) { s with toks:=s.toks+1 }):=by
 intro prog w A R s h;obtain⟨hp,gs,dr,tk,os⟩:=s;obtain⟨ha,heq,hR⟩:=h;unfold Builtin.«tuple.index»;simp only[Std.Legacy.Range.forIn_eq_forIn_range'];refine Aa1 (wpAny_of_eq (a:=(Value.ref a,[x])) rfl ?_);refine Aa1 ?_;unfold Builtin.Tuple.tupleItemsOf;refine Aa1 (Ak1 ha rfl (Ac1 ?_));dsimp only;refine Aa1 (Ac1 ?_);refine Aa1 (Ac1 ?_);have sz:([0:min its.size its.size]:Std.Legacy.Range).size=its.size:=by simp[Std.Legacy.Range.size]
 rw[sz];refine Aa1 (xp2 (j:=j) (r:=(some (Fin.done (.ret (.int j tk))),())) (s':={ heap:=hp,gens:=gs,drawn:=dr,toks:=tk+1,os:=os }) (λb Q q=>?_) (λi Q hi q=>?_) ?_ j 0 its.size (by omega) hj)
 ·rw[As0 hj]
  refine Aa1 (heq j _ (As0 hj) prog w _ _ ?_);rw[yes]
  wp_walk
  exact q
 ·have hi':i<its.size:=by omega
  rw[As0 hi'];refine Aa1 (heq i _ (As0 hi') prog w _ _ ?_);rw[no i hi];exact Ac1 q
 ·exact Ac1 hR
section
variable{X:Cx}{o e:Expr}{es:List Expr}{to:TE}{t:TA}{name:Str}{apos cpos:Pos}{id:String}{r:V->List V->Hp->VK->Prop}
def vv1(r:V->List V->Hp->VK->Prop)(to:TE)(t:TA):TE:=λσ H Q=>to σ H λx H1=>(∃p xs,x=.ref p/\H1 p=some (.tup xs))/\t σ H1 λxs H2=>r x xs H2 Q
def wl5(slot:Slot "tuple" name id)(hty:typeOf (.builtin id)=pure (.type "method_descriptor"))(hm:MtR X id r)(ho:PE X o to)(ha:PA X (e::es) t)(hbase:attributeBase o name X.env (eval o X.env)=eval o X.env:=by rfl)(hfew:((backTo cpos (starEach (e::es) X.env)).all (λx=>!x.1)&&(backToKw cpos (keywordEach [] X.env)).all (λx=>x.1.isSome)
  && decide ((e::es).length+([]:List Keyword).length+(if ([]:List Keyword).isEmpty then 0 else 1)<30))=true:=by rfl)(hline:(apos.endLine == cpos.line)=true:=by rfl)(hs:starEach (e::es) X.env=(false,eval e X.env)::starEach es X.env:=by rfl)(hplain:(backTo cpos (starEach es X.env)).any (·.1)=false:=by rfl) :
 PE X (.Call (.Attribute o name apos) (e::es) [] cpos) (vv1 r to t):=by
 intro A3 s σ H Q I h;refine wpAny_Call_method_late hbase hfew hline rfl (thn (ho A3 s σ H _ I h) λv s1 hI126=>?_);obtain⟨x,H1,I1,r1,⟨p,xs,ex,hp⟩,q1⟩:=hI126;subst ex;cases r1;obtain⟨_,its,_,⟨ob,g1,g2,_⟩,od,d1,d2⟩:=(show wq9 X.prog X.w H1 s1.heap p (.tup xs) from I1.hok p _ hp);refine⟨"tuple",id,PySem.F.plainAttrs_tuple,slot,hty,⟨ob,g1,g2⟩,λa e=>by cases e;exact⟨od,d1,d2⟩,?_⟩;have hA:=ha cpos A3 s1 σ H1 _ I1 q1;rw[hs] at hA ⊢;refine Calls.callWith_builtin (by show (false||(backTo cpos (starEach es X.env)).any (·.1))=false;rw[hplain]<;>rfl) (Calls.evalArgs_plain ?_);exact thn hA λus s2 ⟨vs,H2,I2,r2,q2⟩=>hm A3 s2 σ H2 (.ref p) vs (.ref p) us Q I2 rfl r2 q2
end
section
variable{X:Cx}{S:Type}{W:Wd S}{c:Dx W}{g:Gr}
def vn1(K:PySem.W.Frag):V->List V->Hp->VK->Prop:=λx vs H Q=>∃(p:Addr) (xs:List V) (y:V) (A1:Addr->Prop) (dl:List D) (d:D) (n:Nat),x=.ref p/\vs=[y]/\H p=some (.tup xs)/\IsL K A1 H dl xs/\Is K A1 H d y/\D.depL dl<=30/\(∀e∈dl,∃b,D.eqq e d=some b)/\ww3 d dl=some n/\Q (.int n) H
def wf7{k:Nat}(hr:wr2 k X.A):MtM X "tuple.index" (vn1 X.K):=by
 intro A3 s σ H x vs v us Q I rx rv h;obtain⟨p,xs,y,A1,dl,d,n,rfl,rfl,hH,il,id',hd,tot,e,q⟩:=h;cases rx;obtain⟨u,rfl,ru⟩:=rv.one;obtain⟨hz,its,r,⟨o,h1,h2,m,h3⟩,_⟩:=(show wq9 X.prog X.w H s.heap p (.tup xs) from I.hok p _ hH);obtain⟨oc,od,odt,osl⟩:=o;dsimp only at h2 h3;subst h2 h3;have hu:X.A.in1.units+30<cLine:=by rw[Around.in1_units];have:=hr.units;omega
 obtain⟨g1,g2,g3,g4⟩:=yt3 I hd hu e tot il r id' ru;exact call_meets F.slot_tuple_index ⟨_,h1,rfl⟩ F.entry_tuple_index (F.args_tuple_index_2 _ _) (xt6 p its.toArray m od osl u (eqN d dl) n (by rw[Af0];exact g1) g2 g3) ⟨h1,λm y hy=>g4 m y (by simpa using hy),.int n,H,I.tok _,⟨_,rfl⟩,q⟩
open Classical in
def vc9(a x:D):Option D:=match a with
 | .tup l=>if D.depL l<=30/\∀e∈l,∃b,D.eqq e x=some b then (ww3 x l).map λn=>.int n else none
 | _=>none
def xv9{l:List D}{x:D}{n:Nat}(hd:D.depL l<=30)(tot:∀e∈l,∃b,D.eqq e x=some b)(e:ww3 x l=some n):vc9 (.tup l) x=some (.int n):=by
 classical
 show (if D.depL l<=30/\∀e∈l,∃b,D.eqq e x=some b then (ww3 x l).map λn=>D.int n else none)=_;rw[if_pos ⟨hd,tot⟩,e];rfl
def vt0(S:Type)(fa fb:Fn S):Fn S:=λρ st=>(fa ρ st).bind λd1 st1=>match d1 with
 | .tup l=>(fb ρ st1).bind λd2 st2=>wr1 (vc9 (.tup l) d2) st2
 | _=>.bad
theorem wc9{fa fb:Fn S}{ρ:Rho}{st:S}{Q:D->S->Prop}{E:Exn->S->Prop}:wpR (vt0 S fa fb ρ st) Q E↔wpR (fa ρ st) (λd1 st1=>∃l,d1=.tup l/\wpR (fb ρ st1) (λd2 st2=>∃d,vc9 (.tup l) d2=some d/\Q d st2) E) E:=wpB λd1 st1=>by
 cases d1 with
 | tup l=>
   constructor
   ·intro h;exact⟨l,rfl,za6 (za3.mp h) (λ_ _ q=>zb2.mp q) λ_ _ q=>q⟩
   ·rintro ⟨l',e,h⟩
    cases e;exact za3.mpr (za6 h (λ_ _ q=>zb2.mpr q) λ_ _ q=>q)
 | _=>exact⟨λh=>h.elim,λ⟨l',e,_⟩=>by cases e⟩
def wh8{o e:Expr}{fa fb:Fn S}{k:Nat}{ga gb:Gr}{apos cpos:Pos}(hr:wr2 k X.A)(hK:c.K=X.K)(ho:DE X c ga o fa)(he:DE X c gb e fb)(hbase:attributeBase o "index" X.env (eval o X.env)=eval o X.env:=by rfl)(hfew:((backTo cpos (starEach [e] X.env)).all (λx=>!x.1)&&(backToKw cpos (keywordEach [] X.env)).all (λx=>x.1.isSome)
  && decide (([e]:List Expr).length+([]:List Keyword).length+(if ([]:List Keyword).isEmpty then 0 else 1)<30))=true:=by rfl)(hline:(apos.endLine == cpos.line)=true:=by rfl)(hs:starEach [e] X.env=(false,eval e X.env)::starEach [] X.env:=by rfl)(hplain:(backTo cpos (starEach [] X.env)).any (·.1)=false:=by rfl) :
 DE X c g (.Call (.Attribute o "index" apos) [e] [] cpos) (vt0 S fa fb):=
 (wl5 PySem.F.slot_tuple_index PySem.F.type_tuple_index (wf7 hr) ho (zi1 he zp4 hs) hbase hfew hline hs hplain).imp λσ H Q hI48=>by
  obtain⟨ρ,st,R,ok,w⟩:=hI48
  classical
  refine⟨ρ,st,R,ok,za6 (za3.mp w) (λd1 st1 q v1 H1 e1 ok1 z1=>?_) λx st1 q=>q⟩;cases d1 with
  | tup l=>
    obtain⟨p,xs,rfl,hp,il⟩:=Is.tup_iff.mp z1.toR;refine⟨⟨p,xs,rfl,hp⟩,ρ,st1,R.ext ok e1,ok1,za6 (za3.mp q) (λd2 st2 q2 v2 H2 e2 ok2 z2=>?_) λx st2 q H2 e2 ok2=>q H2 (e1.trans e2) ok2⟩;obtain⟨d',ed,q2⟩:=zb2.mp q2;have ed:(if D.depL l<=30/\∀e∈l,∃b,D.eqq e d2=some b then (ww3 d2 l).map λn=>D.int n else none)=some d':=ed;by_cases h:D.depL l<=30/\∀e∈l,∃b,D.eqq e d2=some b
    ·rw[if_pos h] at ed
     cases hn:ww3 d2 l with
     | none=>rw[hn] at ed;cases ed
     | some n=>
       rw[hn] at ed;have ed:some (D.int n)=some d':=ed;cases ed;have kt:wq8 (λb=>¬W.mv b) (λb=>¬W.mv b) H1 H2:=e2.keepT ok1 λb a=>⟨a,a⟩
       exact⟨p,xs,v2,_,l,d2,n,rfl,rfl,kt.tup p xs hp,hK▸il.mono kt,hK▸z2.toR,h.1,h.2,hn,q2 _ _ (e1.trans e2) ok2 (((zm1:New c H2 H2 (.int n) (.int n)).val ((R.ext ok e1).ext ok1 e2) g).back (e1.trans e2) ok2)⟩
    ·rw[if_neg h] at ed;cases ed
  | _=>exact(show False from q).elim
end
section
variable{prog:Program}{w:World}{A:Around}{E:Value->Shared->Prop}{s:Shared}{K:Type}[DecidableEq K]{knd:HeapKind prog w K}{d a:Addr}{xs:List (K×Addr×Value)}{k:K}{j:Nat}{p:Addr×Value}
theorem xp5{es:Array DictEntry}(he:es.toList=xs.map (entryOfKey knd)):(es.eraseIdxIfInBounds j).toList=(xs.eraseIdx j).map (entryOfKey knd):=by
 obtain⟨l⟩:=es;have he:l=xs.map (entryOfKey knd):=he;subst he;rw[Cl0];show (xs.map (entryOfKey knd)).eraseIdx j=_;clear he;induction xs generalizing j with
 | nil=>rfl
 | cons x xs ih=>cases j with
   | zero=>rfl
   | succ j=>rw[Aq0,List.eraseIdx_cons_succ,List.eraseIdx_cons_succ,Aq0,ih]
def xv5{Q:Option DictEntry->Shared->Prop}(hu:knd.room A)(hkey:knd.is s.heap k a)(hm:s.heap.DictOfH knd d xs)(hj:xs[j]?=some (k,p))(hz:xs.length<=sizeLine)(hQ:∀h' e,h'.DictOfH knd d (xs.eraseIdx j)->Heap.SameBut d s.heap h'->e.val=p.2->Q (some e) { s with heap:=h',toks:=s.toks+knd.draws k }):wpAny (model prog w) A (Builtin.Dict.takeOut d (.ref a)) Q E s:=by
 obtain⟨o,es,ep,ho,hc,hd,he,his,hn⟩:=hm;unfold Builtin.Dict.takeOut;refine wpAny_holding (Aa1 (knd.pyHash hu hkey (Aa1 (wpAny_dictFind_heap (s:={ s with toks:=s.toks+knd.draws k }) hu hkey ho hd he his hn (λno=>absurd hj (no j p)) λi q hi=>?_))));have ij:i=j:=idxH_unique hn hi hj;subst ij;rw[hj] at hi;cases hi;refine Aa1 (wpAny_dictEntries (s:={ s with toks:=s.toks+knd.draws k }) ho hd ?_);have g:es[i]?=some (entryOfKey knd (k,p)):=by
  rw[<-Cn0,he,Ai0,hj];rfl
 rw[g];have sz:es.size<=sizeLine:=by rw[<-Bp0,he,Aa0];exact hz
 refine Aa1 (wpAny_updateDictKeys (hz:=sz) (s:={ s with toks:=s.toks+knd.draws k }) ho hd (Ac1 (hQ _ _ ⟨_,_,ep+1,Cd0 _ ho (Obj.isFreed_of_dict (Obj.data_mapDictKeys hd _)),hc.mapDictKeys _,Obj.data_mapDictKeys hd _,xp5 he,λx hx=>knd.keeps (his x (List.mem_of_mem_eraseIdx hx)) ho hd (Heap.SameBut.update ..),?_⟩ (Heap.SameBut.update ..) rfl)));exact List.Nodup.sublist (List.Sublist.map _ (Cc0 _ _)) hn
def xu9{Q:Value->Shared->Prop}(hu:knd.room A.in1)(hkey:knd.is s.heap k a)(hm:s.heap.DictOfH knd d xs)(hj:xs[j]?=some (k,p))(hz:xs.length<=sizeLine)(hQ:∀h',h'.DictOfH knd d (xs.eraseIdx j)->Heap.SameBut d s.heap h'->Q p.2 { s with heap:=h',toks:=s.toks+knd.draws k }):wpAny (model prog w) A (call (.builtin "dict.pop") [.ref d,.ref a]) Q E s:=by
 refine Aj1 PySem.F.slot_dict_pop hm.typeIs PySem.F.entry_dict_pop ?_ (PySem.F.args_dict_pop_2 _ _);obtain⟨o,es,ep,ho,hc,hd,he,his,hn⟩:=id hm;unfold Builtin.«dict.pop»;refine Aa1 ?_;unfold Builtin.Dict.keyAndDefault;refine Aa1 (wpAny_notOrdered_dict hm.typeIs ?_);show wpAny _ _ (pure (d,Value.ref a,none)) _ _ s;refine Ac1 ?_;have kp:(keyPart (Value.ref a)).isSome=false:=rfl;simp only[kp,Bo0,if_false];refine Aa1 (wpAny_dictEntries ho hd ?_);have ne:es.isEmpty=false:=by
  have:0<es.size:=by
   rw[<-Bp0,he,Aa0];exact Nat.lt_of_le_of_lt (Be0 _) (Ae0.mp hj).1
  rw[Array.isEmpty_eq_false_iff];intro z;rw[z] at this;simp at this
 simp only[ne];refine Aa1 (Ac1 ?_);simp only[Bo0,if_false];refine Aa1 (xv5 hu hkey hm hj hz λh' e hm' hs' ev=>?_);simp only[Option.isNone_some,Bo0,if_false];exact Aa1 (wpAny_letGo (Ac1 ⟨e.val,rfl,by rw[ev];exact hQ h' hm' hs'⟩))
end
theorem KT.at{H:Hp}{kvs:List (List Key×V)}{xs:List (List Key×Addr×Value)}(r:KT H kvs xs):∀{j:Nat} {k:List Key} {y:V},kvs[j]?=some (k,y)->∃p,xs[j]?=some (k,p)/\wq2 y p.2:=by
 induction r with
 | nil=>intro j k y e;cases e
 | @cons p q ps qs hq t ih=>
   intro j k y e;cases j with
   | zero=>cases e;exact⟨q.2,by rw[List.getElem?_cons_zero];exact congrArg some (Prod.ext hq.1.symm rfl),hq.2.2⟩
   | succ j=>exact ih e
theorem KT.erase{H:Hp}{kvs:List (List Key×V)}{xs:List (List Key×Addr×Value)}(r:KT H kvs xs):∀{j:Nat},KT H (kvs.eraseIdx j) (xs.eraseIdx j):=by
 induction r with
 | nil=>intro j;exact .nil
 | @cons p q ps qs hq t ih=>
   intro j;cases j with
   | zero=>exact t
   | succ j=>exact .cons hq ih
section
variable{X:Cx}
def vn2:V->List V->Hp->VK->Prop:=λx vs H Q=>∃a kvs k b j y,x=.ref a/\vs=[.ref b]/\H a=some (.dT kvs)/\H b=some (.tup (k.map kV))/\kvs[j]?=some (k,y)/\Q y (upd H a (.dT (kvs.eraseIdx j)))
def wf8(hu:X.A.units+1<cLine):MtM X "dict.pop" vn2:=by
 intro A3 s σ H x vs v us Q I rx rv h;obtain⟨a,kvs,k,b,j,y,rfl,rfl,e,eb,ej,q⟩:=h;cases rx;obtain⟨u,rfl,ru⟩:=rv.one;cases ru;obtain⟨z,hd,xs,rel,dd⟩:=vg9 I.hok e;obtain⟨p,hp,rp⟩:=rel.at ej;have hz:xs.length<=sizeLine:=by rw[<-Paired.length rel];exact z
 refine xu9 (tupleKind_room_in1 hu) (yg9 I.hok eb) dd hp hz λh' dd' hs=>?_
 obtain⟨o,es,ep,hq,h2,h3,h4,_,h5⟩:=dd';refine⟨y,_,yi2 (ob:=.dT (kvs.eraseIdx j)) I (by rw[e];exact True.intro) hs ⟨o,hq⟩ ⟨?_,hd,_,rel.erase.keeps λc ys ec=>?_,o,es,ep,hq,h2,h3,h4,h5⟩,rp,q⟩
 ·have:=zv0 kvs j;omega
 ·rw[zb3 (va9 ec e (λz=>nomatch z))]
  exact ec
end
def vd8(k:List Key):List D->List D->Option (List D×List D)
 | x::ks,v::vs=>if zc7 x=some k then some (ks,vs) else (vd8 k ks vs).map λp=>(x::p.1,v::p.2)
 | _,_=>none
theorem xq9{K:PySem.W.Frag}{A:Addr->Prop}{H:Hp}{k:List Key}:∀{kk:List (List Key)} {vs:List D} {us:List V} {r:List D×List D},kk.length=us.length->IsL K A H vs us->vd8 k (kk.map wp9) vs=some r->
 ∃(j:Nat) (y:V) (kk':List (List Key)) (us':List V),(kk.zip us)[j]?=some (k,y)/\r.1=kk'.map wp9/\IsL K A H r.2 us'/\kk'.length=us'.length/\(kk.zip us).eraseIdx j=kk'.zip us'
 | [],vs,us,r,hl,h,e=>by cases vs<;>cases e
 | x::kk,vs,us,r,hl,h,e=>by
   cases vs with
   | nil=>cases e
   | cons d vs=>
     obtain⟨u,w,e1,i1,i2⟩:=IsL.cons.mp h;subst e1;have hl:kk.length=w.length:=by simpa using hl
     have e:(if zc7 (wp9 x)=some k then some (kk.map wp9,vs) else (vd8 k (kk.map wp9) vs).map λp=>(wp9 x::p.1,d::p.2))=some r:=e;rw[zh4] at e;by_cases z:x=k
     ·rw[if_pos (by rw[z])] at e
      cases e;exact⟨0,u,kk,w,by rw[<-z];rfl,rfl,i2,hl,rfl⟩
     ·rw[if_neg (λq=>z (Option.some.inj q))] at e
      obtain⟨r',e',er⟩:=Option.map_eq_some_iff.mp e;subst er;obtain⟨j,y,kk',us',g1,g2,g3,g4,g5⟩:=xq9 hl i2 e';refine⟨j+1,y,x::kk',u::us',g1,?_,IsL.cons.mpr ⟨u,us',rfl,i1,g3⟩,by simp[g4],?_⟩
      ·show wp9 x::r'.1=_
       rw[g2];rfl
      ·show (x,u)::(kk.zip w).eraseIdx j=(x,u)::kk'.zip us'
       rw[g5]
section
variable{X:Cx}{S:Type}{W:Wd S}{c:Dx W}{g:Gr}{fk:Fn S}{i:Nat}
def ve9(S:Type)(i:Nat)(fk:Fn S):FnS S:=λρ st=>match wr6 ρ i with
 | some (ks,vs)=>(fk ρ st).bind λk st2=>match zc7 k with
   | some kk=>match vd8 kk ks vs with
     | some r=>.ok (.nx (ρ.set i (.own (.dct (.non::r.1) r.2)))) st2
     | none=>.bad
   | none=>.bad
 | none=>.bad
theorem yl9{ρ:Rho}{st:S}{Q:Fl->S->Prop}{E:Exn->S->Prop}:wpR (ve9 S i fk ρ st) Q E↔∃ks vs,wr6 ρ i=some (ks,vs)/\wpR (fk ρ st) (λd st2=>∃kk r,zc7 d=some kk/\vd8 kk ks vs=some r/\Q (.nx (ρ.set i (.own (.dct (.non::r.1) r.2)))) st2) E:=by
 unfold ve9;cases hd:wr6 ρ i with
 | none=>exact⟨λh=>h.elim,λ⟨_,_,e,_⟩=>by cases e⟩
 | some kv=>
   obtain⟨ks,vs⟩:=kv;constructor
   ·intro h
    refine⟨ks,vs,rfl,za6 (za3.mp h) (λd st2 q=>?_) λ_ _ q=>q⟩;cases hk:zc7 d with
    | none=>simp only[hk] at q;exact(show False from q).elim
    | some kk=>
      simp only[hk] at q;cases hp:vd8 kk ks vs with
      | none=>simp only[hp] at q;exact(show False from q).elim
      | some r=>simp only[hp] at q;exact⟨kk,r,rfl,hp,q⟩
   ·rintro ⟨ks',vs',e,h⟩
    cases e;refine za3.mpr (za6 h (λd st2 hI127=>?_) λ_ _ q=>q);obtain⟨kk,r,hk,hp,q⟩:=hI127;simp only[hk,hp];exact q
def xp8{x:Str}{e:Expr}{p1 p2 p3 p4:Pos}(hu:X.A.units+1<cLine)(hx:PE X (.Name x p1) (wu2 i))(he:DE X c g e fk)(hbase:attributeBase (.Name x p1) "pop" X.env (eval (.Name x p1) X.env)=eval (.Name x p1) X.env:=by rfl)(hfew:((backTo p3 (starEach [e] X.env)).all (λx=>!x.1)&&(backToKw p3 (keywordEach [] X.env)).all (λx=>x.1.isSome)
  && decide (([e]:List Expr).length+([]:List Keyword).length+(if ([]:List Keyword).isEmpty then 0 else 1)<30))=true:=by rfl)(hline:(p2.endLine == p3.line)=true:=by rfl)(hs:starEach [e] X.env=(false,eval e X.env)::starEach [] X.env:=by rfl)(hplain:(backTo p3 (starEach [] X.env)).any (·.1)=false:=by rfl)(hsw:swapsWith (.Call (.Attribute (.Name x p1) "pop" p2) [e] [] p3) none p4.line X.env=pure false:=by rfl) :
 DS X c (.Expr (.Call (.Attribute (.Name x p1) "pop" p2) [e] [] p3) p4) (ve9 S i fk):=
 (ym6 (wy7 PySem.F.plainAttrs_dict PySem.F.slot_dict_pop PySem.F.type_dict_pop (wf8 hu) hx (zi1 he zp4 hs) hbase hfew hline hs hplain) hsw).imp λD σ H hI49=>by
  obtain⟨ρ,st,R,ok,w⟩:=hI49;obtain⟨ks,vs,hd,w⟩:=yl9.mp w;obtain⟨ho,im⟩:=yl2 hd;obtain⟨ad,ea,nn,f0,us0,iu0,hq0⟩:=R.slot i _ ho;have ty:tyV X.K "dict" (.ref ad) H:=by
   rcases hq0 with⟨k1,x1,_,_⟩ | ⟨k2,x2,el,eH⟩
   ·cases k1 with
    | nil=>cases x1
    | cons y r=>
      have:L2.D.non=wx2 y:=(List.cons.inj x1).1;cases y<;>cases this
   ·exact .inr (.inr (.inl ⟨rfl,.inr ⟨_,eH⟩⟩))
  refine⟨.ref ad,zf7 ea,ty,ρ,st,R,ok,za6 w (λdk st1 ⟨kk,r,hkk,hp,q⟩ vk H1 e1 ok1 zk=>?_) λx st1 q H1 e1 ok1=>q H1 (e1.f0 R) ok1⟩;have R1:=R.ext ok e1;obtain⟨ad',ea',nn',f0',us,iu,hq⟩:=R1.slot i _ ho;have:ad'=ad:=by
   have:=(zf7 ea').symm.trans (zf7 ea);cases this;rfl
  subst this;obtain⟨bk,ebk,hbk,_⟩:=zv1 hkk (show Is c.K (λb=>¬W.mv b) H1 dk vk from zk.toR);subst ebk;rcases hq with⟨k1,x1,_,_⟩ | ⟨k2,x2,el,eH⟩
  ·cases k1 with
   | nil=>cases x1
   | cons y r=>
     have:L2.D.non=wx2 y:=(List.cons.inj x1).1;cases y<;>cases this
  ·have e3:ks=k2.map wp9:=(List.cons.inj x2).2
   subst e3;obtain⟨j,y,kk',us',g1,g2,g3,g4,g5⟩:=xq9 el iu hp;refine⟨ad',_,kk,bk,j,y,rfl,rfl,eH,hbk,g1,?_⟩;rw[g5];obtain⟨R3,F3⟩:=R1.wr (d':=.dct (.non::r.1) r.2) (o:=.dT (kk'.zip us')) ho (zf7 ea') ⟨(λu z=>by cases z),(λob u z=>by cases z)⟩
    λkt=>⟨us',g3.mono kt,.inr ⟨kk',by rw[g2],g4,zb4⟩⟩
   exact q σ _ (e1.frm.trans F3) (zw6 ok1 nn.1) R3
end
section
variable{prog:Program}{w:World}{A:Around}{E:Value->Shared->Prop}{s:Shared}{X:Cx}{S:Type}{W:Wd S}{c:Dx W}
def xw3{d:Addr}{es:Array DictEntry}{ep:Nat}{R:Value->Shared->Prop}(hd:(d == sysModules)=false)(g:s.heap.get? d=some (wu8 es ep))(h:R (.int es.size s.toks) { s with toks:=s.toks+1 }):wpAny (model prog w) A (call (.builtin "dict.__len__") [.ref d]) R E s:=by
 refine Aj1 F.slot_dict_len ⟨_,g,rfl⟩ F.entry_dict_len ?_ (F.args_dict_len_1 _);show wpAny _ _ (PySem.dictSize d >>= _) _ _ s;unfold PySem.dictSize;refine Aa1 (Aa1 (wpAny_dictEntries g rfl (Ac1 ?_)));refine Aa1 (wpAny_pendingCount_other hd (wpAny_ret_mkInt ?_));show R (.int ((es.size:Int)+((0:Nat):Int)) s.toks) _;rw[show (es.size:Int)+((0:Nat):Int)=es.size by omega];exact h
def xw4{d:Addr}{es:Array DictEntry}{ep:Nat}{Q:Value->Shared->Prop}(hd:(d == sysModules)=false)(g:s.heap.get? d=some (wu8 es ep))(hz:es.size<=sizeLine)(h:Q (.int es.size (s.toks+1)) { s with toks:=s.toks+1+1 }):wpAny (model prog w) A (call (.builtin "len") [.ref d]) Q E s:=by
 have hs:sizeLine=16777216:=sizeLine_eq;refine Calls.call_function_entry kind_len plain_len entry_len (args_len1 _) ?_;unfold Builtin.«len»;refine Aa1 (m:=oneArg "len" _) (Ac1 (Aa1 (wpAny_callSpecial?_slot (name:=Str.ofString "__len__") ⟨_,g,rfl⟩ F.slot_dict_len (xw3 hd g ?_))));refine Aa1 (wpAny_holding (Ac1 (Aa1 (wpAny_letGo ?_))));have n1:¬((es.size:Int)<0):=by omega
 have n2:¬((es.size:Int)>=2 ^ 63):=by omega
 dsimp only;rw[if_neg n1,if_neg n2];exact Aa1 (wpAny_mkInt (Ac1 ⟨_,rfl,h⟩))
def xr5:ws7 X (.builtin "len") (λxs H Q=>∃(a:Addr) (kvs:List (List Key×V)),xs=[.ref a]/\H a=some (.dT kvs)/\kvs.length<=1000/\Q (.int kvs.length) H):=by
 intro A3 s σ H xs us Q I r h;obtain⟨a,kvs,rfl,hq,hl,q⟩:=h;obtain⟨u,rfl,r1⟩:=wt7 r;cases r1;obtain⟨z,hd,xs,rel,o,es,ep,g,ex,dat,et,nd⟩:=(show wq9 X.prog X.w H s.heap a (.dT kvs) from I.hok a _ hq);have eo:o=wu8 es ep:=by
  obtain⟨cl,di,da,sl⟩:=o;obtain⟨e1,e2,e3⟩:=ex;simp only at e1 e2 e3 dat;subst e1 e2 e3 dat;rfl
 subst eo;have hn:es.size=kvs.length:=by
  rw[<-Bp0,et,Aa0];exact(Paired.length rel).symm
 have hs:sizeLine=16777216:=sizeLine_eq;exact xw4 hd g (by omega) ⟨.int kvs.length,H,I.tok _,⟨_,by rw[hn]⟩,q⟩
def vf8:List D->Option D
 | [.dct (.non::ks) _]=>if ks.length<=1000 then some (.int ks.length) else none
 | _=>none
open H in
def wi3:ws4 c (λxs H Q=>∃(a:Addr) (kvs:List (List Key×V)),xs=[.ref a]/\H a=some (.dT kvs)/\kvs.length<=1000/\Q (.int kvs.length) H) vf8:=by
 intro l vs H st d Q ok z e q;unfold vf8 at e;split at e
 ·rename_i ks ws
  split at e
  ·rename_i hl
   cases e;obtain⟨v,r,e1,i1,i2⟩:=IsL.cons.mp z;obtain⟨a,us,ea,_,i3,hk⟩:=Is.dct_iff.mp i1;rw[IsL.nil.mp i2,ea] at e1;rcases hk with⟨kk,ek,_,_⟩ | ⟨kk,ek,el,hh⟩
   ·cases kk with
    | nil=>cases ek
    | cons k kk=>cases k<;>cases ek
   ·injection ek with _ ek
    subst ek;have ln:(kk.zip us).length=(kk.map wp9).length:=by rw[List.length_zip,el,Nat.min_self,Aa0,el]
    exact⟨a,_,e1,hh,by rw[ln];exact hl,by rw[ln];exact q _ H Ext.refl ok zm1⟩
  ·cases e
 ·cases e
end
section
variable{X:Cx}{S:Type}{W:Wd S}{c:Dx W}{g ga gb:Gr}{e a b:Expr}{f fa fb:Fn S}{pos:Pos}
def Inv.froze{A3:List (Addr×Obj)}{σ:St}{H:Hp}{s:Shared}{p:Addr}{u:HO}(I:Inv X A3 σ H s)(hp:H p=some u)(mu:Mut (some u))(hx:∃o,s.heap.get? p=some o):∃o,Inv X A3 σ (upd H p (.frz o u)) s:=by
 obtain⟨o,ho⟩:=hx;have no:∀b v,H b=some v->¬Mut (some v)->b≠p:=λb v e n z=>by subst z;rw[hp] at e;cases e;exact n mu
 exact⟨o,I.write (x:=p) (e:=p) (o:=.frz o u) (h':=s.heap) (t':=s.toks) (by rw[hp];exact mu) (.inl rfl) (λ_ _ _ e=>e) ⟨o,ho⟩
  ⟨ho,(I.hok p u hp).stay (λ_ _ _ e=>e) (λb e=>by rw[zb3 (no b _ e λz=>z)];exact e) λb xs e=>by rw[zb3 (no b _ e λz=>z)];exact e⟩⟩
def tFz(t:TE):TE:=λσ H Q=>t σ H λv H'=>∃p u,v=.ref p/\H' p=some u/\((∃l,u=.lst l)\/∃l,u=.dT l)/\∀o,Q v (upd H' p (.frz o u))
def vn7{t:TE}(h:PE X e t):PE X e (tFz t):=λA3 s σ H Q I q=>thn (h A3 s σ H _ I q) λv s1 hI50=>by
 obtain⟨x,H1,I1,r1,p,u,ep,hp,hu,q1⟩:=hI50;have ho:Mut (some u)/\∃o,s1.heap.get? p=some o:=by
  have z:=I1.hok p u hp;rcases hu with⟨l,rfl⟩ | ⟨l,rfl⟩
  ·obtain⟨_,its,n,_,e⟩:=z;exact⟨trivial,_,e⟩
  ·obtain⟨_,_,_,_,o,_,_,e,_⟩:=z;exact⟨trivial,_,e⟩
 obtain⟨o,I2⟩:=I1.froze hp ho.1 ho.2;exact⟨x,_,I2,r1,q1 o⟩
def oFz:D->Option D
 | .lst l=>if D.immL l=true then some (.fl l) else none
 | .dct (.non::ks) l=>if D.immL l=true then some (.fd ks l) else none
 | _=>none
def fFz(S:Type)(f:Fn S):Fn S:=λρ st=>(f ρ st).bind λd st1=>wr1 (oFz d) st1
def yp4{ρ:Rho}{st:S}{Q:D->S->Prop}{E:Exn->S->Prop}:wpR (fFz S f ρ st) Q E↔wpR (f ρ st) (λd st1=>wpR (wr1 (oFz d) st1) Q E) E:=za3
def xn8{A':Addr->Prop}{H1:Hp}{p:Addr}{u o:HO}(hp:H1 p=some u)(hs:¬vj9 u):wq8 (λ_=>False) A' H1 (upd H1 p o):=
 ⟨λb v hb st=>by rw[zb3 (λz=>by subst z;rw[hp] at hb;cases hb;exact hs st)];exact hb,λ_ _ h=>h.elim⟩
open H in
def vh0(h:DE X c .F e f):DE X c g e (fFz S f):=(vn7 h).imp λσ H Q hI51=>by
 obtain⟨ρ,st,R,ok,w⟩:=hI51;refine⟨ρ,st,R,ok,za6 (za3.mp w) (λd st1 q v H1 e1 ok1 z=>?_) λx st1 q=>q⟩;obtain⟨d',ed,q⟩:=zb2.mp q;have fin:∀(a:Addr) (u o:HO),v=.ref a->Av c σ ρ a->H a=none->d'.mut=false->(∀A',Is c.K A' (upd H1 a o) d' v)->Q v (upd H1 a o):=λa u o ev av fr m i=>by
  refine q v _ (λb o' hb n=>?_) (zw6 ok1 av.1) ?_
  ·rw[zb3 (zb7 hb fr)];exact e1 b o' hb n
  ·cases g with
   | R=>exact i _
   | B=>exact i _
   | F=>exact⟨i _,λ_ _ z=>by rw[m] at z;cases z⟩
 unfold oFz at ed;split at ed
 ·rename_i l
  split at ed
  ·rename_i im
   cases ed;obtain⟨a,vs,ev,av,ha,i⟩:=Is.lst_iff.mp z.1;have ns:¬vj9 (.lst vs):=λz=>by rcases z with⟨_,e⟩ | ⟨_,_,e⟩<;>cases e
   exact⟨a,_,ev,ha,.inl ⟨_,rfl⟩,λo=>fin a (.lst vs) _ ev av (z.2 a ev rfl) rfl λA'=>Is.fl_iff.mpr ⟨a,o,vs,ev,zb4,(IsL.ofImm im i).mono (xn8 ha ns)⟩⟩
  ·cases ed
 ·rename_i ks l
  split at ed
  ·rename_i im
   cases ed;obtain⟨a,vs,ev,av,i,hk⟩:=Is.dct_iff.mp z.1;rcases hk with⟨k1,e1,_,_⟩ | ⟨kk,e2,el,ha⟩
   ·cases k1 with
    | nil=>cases e1
    | cons z r=>
      have:D.non=wx2 z:=(List.cons.inj e1).1;cases z<;>cases this
   ·have ns:¬vj9 (.dT (kk.zip vs)):=λz=>by rcases z with⟨_,e⟩ | ⟨_,_,e⟩<;>cases e
    exact⟨a,_,ev,ha,.inr ⟨_,rfl⟩,λo=>fin a (.dT (kk.zip vs)) _ ev av (z.2 a ev rfl) rfl λA'=>Is.fd_iff.mpr ⟨a,o,vs,kk,ev,(List.cons.inj e2).2,el,zb4,(IsL.ofImm im i).mono (xn8 ha ns)⟩⟩
  ·cases ed
 ·cases ed
def Is.flSq{K:PySem.W.Frag}{A:Addr->Prop}{H:Hp}{l:List D}{v:V}(h:Is K A H (.fl l) v):∃a vs,v=.ref a/\SqL K H a vs/\IsL K A H l vs:=by
 obtain⟨a,o,vs,e,s,i⟩:=Is.fl_iff.mp h;exact⟨a,vs,e,.inl (.inr ⟨o,s⟩),i⟩
def vk8:D->D->Option D
 | .fl l,.int i=>im (atI l i)
 | _,_=>none
open H in
def xz9{K:PySem.W.Frag}(hK:c.K=K):OpD c (rIx K) vk8:=by
 intro d1 d2 v1 v2 H st d Q ok z1 z2 e q;unfold vk8 at e;split at e
 ·rename_i l i
  obtain⟨a,vs,ea,s,z⟩:=Is.flSq z1;obtain⟨e,m⟩:=yh4 e;obtain⟨v,hv,iv⟩:=xr8 z e;exact .inl ⟨a,vs,i,v,ea,Is.int_iff.mp z2,hK▸s,hv,q v H Ext.refl ok (New.imm m iv)⟩
 ·cases e
def wz0:List D->Option D
 | [.fl l]=>some (.int l.length)
 | _=>none
open H in
def xr3{K:PySem.W.Frag}(hK:c.K=K):ws4 c (λxs H Q=>∃p ys,xs=[.ref p]/\(SqL K H p ys\/SqT K H p ys)/\Q (.int ys.length) H) wz0:=by
 subst hK;intro l vs H st d Q ok z e q;unfold wz0 at e;split at e
 ·rename_i m
  cases e;obtain⟨v,r,e1,i1,i2⟩:=IsL.cons.mp z;obtain⟨a,us,ea,s1,i3⟩:=Is.flSq i1;rw[IsL.nil.mp i2,ea] at e1;exact⟨a,us,e1,.inl s1,by rw[<-i3.length];exact q _ H Ext.refl ok zm1⟩
 ·cases e
def D.fl?:D->Option (List D)
 | .fl l=>some l
 | _=>none
def vp7{tg:Expr}(hK:c.K=X.K)(h:DE X c .B e f):DI X c tg e (vb0 S D.fl? f):=
 (xk5 h).imp λσ H R hI52=>by
  obtain⟨ρ,st,R0,ok,w⟩:=hI52;refine⟨ρ,st,R0,ok,za6 (za3.mp w) (λd st1 q v H1 e ok1 z=>?_) λx st1 q=>q⟩;obtain⟨l,e1,q⟩:=zb2.mp q;cases d with
  | fl m=>
    cases e1;obtain⟨a,o,vs,ev,s,i⟩:=Is.fl_iff.mp z;refine⟨a,ev,⟨vs,.inl (.inr ⟨o,s⟩)⟩,q _ H1 e ok1 ?_⟩;intro c' hK' σ2 ρ2 H2 st2 k R2 ok2 j;have s2:SqL X.K H2 a vs:=.inl (.inr ⟨o,k.frz a o _ s⟩);have i2:IsL c.K (Av c' σ2 ρ2) H2 l vs:=i.mono k;refine⟨λd hd=>?_,λhl=>⟨vs,s2,by rw[<-i2.length];exact hl⟩⟩;obtain⟨v1,hv,iv⟩:=i2.get hd;exact⟨⟨vs,v1,s2,hv⟩,λx H3 hI53=>by
     obtain⟨e3,y⟩:=hI53;subst e3;have hx:=y vs s2;rw[hv] at hx;cases hx;exact⟨ww1.refl _,iv⟩⟩
  | _=>cases e1
def xa0(d k:D):Option D:=match d with
 | .fd ks vs=>(zc7 k).bind λkk=>im (wp8 kk ks vs)
 | _=>none
open H in
def xc5(hu:X.A.units+1<cLine)(ha:DE X c ga a fa)(hb:DE X c gb b fb)(hs:vk0 b):DE X c g (.Subscript a b pos) (f2 S xa0 fa fb):=by
 have hr:OpD c (λx y H2 Q=>∃a v,x=.ref a/\wu9 H2 a y (some v)/\Q v H2) xa0:=by
  intro d1 d2 v1 v2 H st d Q ok z1 z2 e q;unfold xa0 at e;split at e
  ·rename_i ks vs
   cases hk:zc7 d2 with
   | none=>rw[hk] at e;cases e
   | some kk=>
     rw[hk] at e;obtain⟨e,m⟩:=yh4 (show im (wp8 kk ks vs)=some d from e);obtain⟨b,eb,hb,_⟩:=zv1 hk z2;obtain⟨a,o,us,k2,ea,ek,el,hq,i⟩:=Is.fd_iff.mp z1;subst ek eb;rcases ya9 kk el i with⟨y1,y2⟩ | ⟨d',v,y1,y2,y3⟩
     ·rw[y1] at e;cases e
     ·rw[y1] at e;cases e
      exact⟨a,v,ea,y2▸(.inr ⟨_,kk,b,.inr ⟨o,hq⟩,rfl,hb,rfl⟩:wu9 H a (.ref b) (wv3 (k2.zip us) kk)),q v H Ext.refl ok (New.imm m y3)⟩
  ·cases e
 exact(zx3 hu ha hb hs).imp λσ H Q q=>wx5 (ga:=ga) (gb:=gb) hr q
end
open PySem PySem.Spec PyProof PyProof.Rows PySem.SeqAt
section
variable{prog:Program}{w:World}{A:Around}{E:Value->Shared->Prop}{s:Shared}{X:Cx}{tg:Expr}
theorem yt7{it t:Addr}{items:Array Value}(hne:t≠it):∀(n i:Nat) (s:Shared) (Q:List Value->Shared->Prop),s.heap.IsListIter it t i->s.heap.IsList t items->i+n<=items.size->
 (∀h',h'.IsListIter it t (i+n)->Heap.SameBut it s.heap h'->Q ((items.toList.drop i).take n) { s with heap:=h' })->wpAny (model prog w) A (draw (.ref it) n) Q E s
 | 0,i,s,Q,hit,_,_,hQ=>by
   show wpAny _ _ (pure []) Q E s;exact Ac1 (by simpa using hQ s.heap hit (Heap.SameBut.refl ..))
 | n+1,i,s,Q,hit,ht,hle,hQ=>by
   have hlt:i<items.size:=by omega
   show wpAny _ _ (pyNext (.ref it) >>= _) Q E s;refine Aa1 (wpAny_pyNext_list_item hit ht (x:=items[i]) (by simp[hlt]) λh₁ hit₁ hs₁=>?_);have ht₁:h₁.IsList t items:=by obtain⟨o,ho,r⟩:=ht;exact⟨o,hs₁.extBut t o hne ho,r⟩
   refine Aa1 (wpAny_holding (yt7 hne n (i+1) _ _ hit₁ ht₁ (by omega) λh₂ hit₂ hs₂=>Ac1 ?_));have hd:items.toList.drop i=items[i]::items.toList.drop (i+1):=by simp[List.drop_eq_getElem_cons,hlt]
   have:=hQ h₂ (by rw[show i+(n+1)=i+1+n by omega];exact hit₂) (hs₁.trans hs₂);rw[hd,List.take_succ_cons] at this;exact this
def yv5{env:Env}{elts:List Expr}{x1}{pos:Pos}{t:Addr}{items:Array Value}{Q:Unit->Shared->Prop}(hh:A.handled=none)(ht:s.heap.IsList t items)(hn:(assignEach elts env).length=items.size)(hstar:(assignEach elts env).findIdx? (·.1)=none)(h:∀h',Heap.ExtBut s.heap.objs.size s.heap h'->wpAny (model prog w) A (assignInOrder ((assignEach elts env).map (·.2)) items.toList) Q E { s with heap:=h' }) :
 wpAny (model prog w) A (assign (.Tuple elts x1 pos) env (.ref t)) Q E s:=by
 have hlt:t≠s.heap.objs.size:=by obtain⟨o,ho,_⟩:=ht;exact An0 (Heap.lt_size ho)
 rw[assign_Tuple];refine Aa1 (wpAny_standAt ?_);unfold unpack;rw[hn,hstar];refine Aa1 (wpAny_holding ?_);unfold unpackItems;refine Aa1 ?_;unfold notIterableAtAll;refine Aa1 (wpAny_specialOf ht.typeIs slot_list_iter.lookup ?_);refine Ac1 ?_;simp only[Bo0,if_false];refine Aa1 (wpAny_holding (wpAny_pyIter_list ht ?_));have kp:∀{o:Obj},(s.heap.push o).IsList t items:=by obtain⟨o,ho,r⟩:=ht;exact⟨o,Ab0 _ ho,r⟩
 refine Aa1 (wpAny_holding (yt7 hlt items.size 0 _ _ ⟨_,Ad0 _ rfl,rfl,rfl⟩ kp (by omega) λh₁ hit₁ hs₁=>?_));have hall:List.take items.size (List.drop 0 items.toList)=items.toList:=by
  rw[Cm0];exact List.take_of_length_le (by simp)
 rw[hall];rw[if_neg (by simp)];have ht₁:h₁.IsList t items:=by obtain⟨o,ho,r⟩:=(kp:(s.heap.push _).IsList t items);exact⟨o,hs₁.extBut t o hlt ho,r⟩
 refine Aa1 (wpAny_holding (wpAny_pyNext_list_end hh hit₁ ht₁ (by simp) λh₂ he₂=>?_));simp only[Option.isSome_none,Bo0,if_false];exact Ac1 (h h₂ λb o hb e=>he₂ b o hb (hs₁.extBut b o hb (Ab0 _ e)))
abbrev wx4(d:Addr)(i n ep:Nat):Obj:={ cls:=.type "dict_valueiterator",dict:=none,data:=.fields #[.ref d,.int i 0,.int n 0,.int ep 0],slots:=#[] }
abbrev wy5(d:Addr):Obj:={ cls:=.type "dict_values",dict:=none,data:=.fields #[.ref d],slots:=#[] }
def wd4(it d:Addr)(i n ep:Nat)(es:Array DictEntry)(e:DictEntry)(hn:es.size=n)(he:es[i]?=some e) :
 Meets (Builtin.«dict_valueiterator.__next__» ⟨[.ref it],[]⟩) (λ_ R s=>s.heap.get? it=some (wx4 d i n ep)/\s.heap.get? d=some (wu8 es ep)/\R (.ok (.ret e.val)) { s with heap:=s.heap.update it (Obj.mapFields λx=>x.setIfInBounds 1 (rawInt ((i:Int)+1))),toks:=s.toks }):=
 .of_wp λprog w A R s h=>by
  obtain⟨hp,g,dd,tk,os⟩:=s;obtain⟨hl,hd,h⟩:=h;wp_walk;have e1:(if ((i:Nat):Int)<0 then none else es[((i:Nat):Int).toNat]?)=some e:=by rw[if_neg (by omega),Bk0,he]
  simp only[e1]
  wp_walk
  exact⟨_,rfl,h⟩
def wj2(it d:Addr)(i n ep:Nat)(es:Array DictEntry)(hn:es.size=n)(hi:n<=i){R:Fin->Shared->Prop}(hh:A.handled=none)(h1:s.heap.get? it=some (wx4 d i n ep))(h2:s.heap.get? d=some (wu8 es ep))(h:∀a h' tk,(∀b o,b≠it->s.heap.get? b=some o->h'.get? b=some o)->(∃o,h'.get? a=some o/\o.cls=.type "StopIteration")->E (.ref a) { s with heap:=h',toks:=tk }) :
 wpAny (model prog w) A (Builtin.«dict_valueiterator.__next__» ⟨[.ref it],[]⟩) R E s:=by
 obtain⟨hp,g,dd,tk,os⟩:=s;wp_walk;have e1:(if ((i:Nat):Int)<0 then none else es[((i:Nat):Int).toNat]?)=none:=by rw[if_neg (by omega),Bk0,Array.getElem?_eq_none (by omega)]
 simp only[e1]
 wp_walk
 unfold raiseNew;refine Aa1 (wpAny_handled ?_);rw[hh];refine Aa1 (Ac1 (wpAny_throw (h _ _ _ (λb o hb e=>?_) ⟨_,Ad0 _ rfl,rfl⟩)));exact Ab0 _ (Ab0 _ ((Bf0 _ _ (Ne.symm hb)).trans e))
def wd3(v d:Addr)(es:Array DictEntry)(ep:Nat) :
 Meets (Builtin.«dict_values.__iter__» ⟨[.ref v],[]⟩) (λ_ R s=>s.heap.get? v=some (wy5 d)/\s.heap.get? d=some (wu8 es ep)/\R (.ok (.ret (.ref s.heap.objs.size))) { s with heap:=s.heap.push (wx4 d 0 es.size ep),toks:=s.toks }):=
 .of_wp λprog w A R s h=>by
  obtain⟨hp,g,dd,tk,os⟩:=s;obtain⟨hv,hl,h⟩:=h;wp_walk;exact⟨_,rfl,h⟩
def wd2(d:Addr)(es:Array DictEntry)(ep:Nat)(hd:(d == sysModules)=false) :
 Meets (Builtin.«dict.values» ⟨[.ref d],[]⟩) (λ_ R s=>s.heap.get? d=some (wu8 es ep)/\R (.ok (.ret (.ref s.heap.objs.size))) { s with heap:=s.heap.push (wy5 d),toks:=s.toks }):=
 .of_wp λprog w A R s h=>by
  obtain⟨hp,g,dd,tk,os⟩:=s;obtain⟨hl,h⟩:=h;wp_walk;exact⟨_,rfl,h⟩
open H in
def xf5{it d:Addr}{i n ep:Nat}{es:Array DictEntry}{e:DictEntry}{Q:Option Value->Shared->Prop}(hn:es.size=n)(he:es[i]?=some e)(h1:s.heap.get? it=some (wx4 d i n ep))(h2:s.heap.get? d=some (wu8 es ep))(h:∀h' tk,h'.get? it=some (wx4 d (i+1) n ep)->(∀b o,b≠it->s.heap.get? b=some o->h'.get? b=some o)->Q (some e.val) { s with heap:=h',toks:=tk }):wpAny (model prog w) A (pyNext (.ref it)) Q E s:=by
 have ty:s.TypeIs (.ref it) "dict_valueiterator":=⟨_,h1,rfl⟩;have new:=Cd0 (Obj.mapFields λx=>x.setIfInBounds 1 (rawInt ((i:Int)+1))) h1 rfl;unfold pyNext;exact Aa1 (wpAny_attempt (wpAny_callSpecial?_slot (name:=Str.ofString "__next__") ty F.slot_dict_valueiterator_next (call_meets F.slot_dict_valueiterator_next ty F.entry_dict_valueiterator_next (F.args_dict_valueiterator_next_1 _) (wd4 it d i n ep es e hn he)
  ⟨h1,h2,Ac1 (h _ _ new λb o hb g=>(Bf0 _ _ (Ne.symm hb)).trans g)⟩)))
open H in
def xm4{it d:Addr}{i n ep:Nat}{es:Array DictEntry}{Q:Option Value->Shared->Prop}(hh:A.handled=none)(hn:es.size=n)(hi:n<=i)(h1:s.heap.get? it=some (wx4 d i n ep))(h2:s.heap.get? d=some (wu8 es ep))(h:∀h' tk,(∀b o,b≠it->s.heap.get? b=some o->h'.get? b=some o)->Q none { s with heap:=h',toks:=tk }):wpAny (model prog w) A (pyNext (.ref it)) Q E s:=by
 have ty:s.TypeIs (.ref it) "dict_valueiterator":=⟨_,h1,rfl⟩;unfold pyNext;refine Aa1 (wpAny_attempt (wpAny_callSpecial?_slot (name:=Str.ofString "__next__") ty F.slot_dict_valueiterator_next (Aj1 F.slot_dict_valueiterator_next ty F.entry_dict_valueiterator_next (wj2 it d i n ep es hn hi (A:=A.in1) hh h1 h2 λa h' tk hk hc=>?_) (F.args_dict_valueiterator_next_1 _))));exact Aa1 (wpAny_isInstance (T:="StopIteration") (b:=true) hc isSubtype_stop (Ac1 (h _ _ hk)))
def Itv(ob:Obj)(a:Addr)(kvs:List (List Key×V)):It:=
 ⟨λi H=>H a=some (.frz ob (.dT kvs))/\i<kvs.length,λi H x H'=>H'=H/\(kvs[i]?).map (·.2)=some x,λi H=>H a=some (.frz ob (.dT kvs))/\kvs.length<=i⟩
def vo8(to:TE):TI:=λσ H R=>to σ H λx H1=>∃a ob kvs,x=.ref a/\H1 a=some (.frz ob (.dT kvs))/\R (Itv ob a kvs) H1
theorem yb6{α β:Type}{F:α->β->Prop}:∀{l:List α} {m:List β} {i:Nat} {x:α},Paired F l m->l[i]?=some x->∃y,m[i]?=some y/\F x y
 | _,_,i,x,.nil,e=>by simp at e
 | _,_,0,x,.cons h _,e=>⟨_,rfl,by cases e;exact h⟩
 | _,_,i+1,x,.cons _ t,e=>yb6 (i:=i) t (by simpa using e)
def xq6{P:Program}{w:World}{H:Hp}{h:Heap}{a:Addr}{ob:Obj}{kvs:List (List Key×V)}(z:wq9 P w H h a (.frz ob (.dT kvs))):(a == sysModules)=false/\∃(es:Array DictEntry) (ep:Nat),ob=wu8 es ep/\h.get? a=some (wu8 es ep)/\es.size=kvs.length/\∀(i:Nat) (p:List Key×V),kvs[i]?=some p->∃e,es[i]?=some e/\wq2 p.2 e.val:=by
 obtain⟨g0,_,hd,xs,rel,o,es,ep,g,ex,dat,et,nd⟩:=z;have eo:o=wu8 es ep:=by
  obtain⟨cl,di,da,sl⟩:=o;obtain⟨e1,e2,e3⟩:=ex;simp only at e1 e2 e3 dat;subst e1 e2 e3 dat;rfl
 subst eo;rw[g0] at g;cases g;have hl:=Paired.length rel;refine⟨hd,es,ep,rfl,g0,by rw[<-Bp0,et,Aa0];exact hl.symm,λi p hp=>?_⟩;obtain⟨q,hq,_,_,rq⟩:=yb6 rel hp;refine⟨entryOfKey (tupleKind (zg6 P w)) q,?_,rq⟩;rw[<-Cn0,et,Ai0,hq];rfl
def xh8{P:Program}{w:World}{K:PySem.W.Frag}{es:Array DictEntry}{ep:Nat}{a it:Addr}{kvs:List (List Key×V)}:vd9 P w K tg (Itv (wu8 es ep) a kvs) [it] it (λi h=>h.get? it=some (wx4 a i es.size ep)) where
 mem:=by simp
 obj:=λi h st b hb=>by
  have e:b=it:=by simpa using hb
  subst e;exact⟨_,st,λv z=>by cases z⟩
 keep:=λi h h' st k=>k it (by simp) _ st
 item:=by
  intro X hP hw hK hc i A3 s σ H E I hf st hg;subst hP hw hK;obtain⟨hq,hi⟩:=hg;obtain⟨_,es',ep',eo,g,sz,rel⟩:=xq6 (I.hok a _ hq);cases eo;obtain⟨e,he,re⟩:=rel i kvs[i] (Ac0 hi);obtain⟨f0,f1,f2,f3,f4,f5⟩:=hf it (by simp);refine xf5 rfl he st g λh' tk st' kp=>?_
  have I1:Inv X A3 σ H { s with heap:=h',toks:=tk }:=I.turned (t':=tk) (λb o hb e=>kp b o hb e) f0 f1 f3 f4 f5;exact⟨_,rfl,vd2 (s:={ s with heap:=h',toks:=tk }) st' rfl rfl (by decide) ⟨kvs[i].2,H,I1,re,⟨rfl,by rw[Ac0 hi];rfl⟩,st',λb hb=>(hf b hb).1⟩⟩
 done:=by
  intro X hP hw hK hc i A3 s σ H E I hf st hg;subst hP hw hK;obtain⟨hq,hi⟩:=hg;obtain⟨_,es',ep',eo,g,sz,rel⟩:=xq6 (I.hok a _ hq);cases eo;obtain⟨f0,f1,f2,f3,f4,f5⟩:=hf it (by simp);exact xm4 (I.ok.hd hc) rfl (by omega) st g λh' tk kp=>⟨rfl,I.turned (t':=tk) (λb o hb e=>kp b o hb e) f0 f1 f3 f4 f5⟩
 self:=λ_ _ _ _ _ st h=>wpAny_pyIter_valiter ⟨_,st,rfl,rfl⟩ h
def we7{o:Expr}{to:TE}{apos cpos:Pos}(ho:PE X o to)(hbase:attributeBase o "values" X.env (eval o X.env)=eval o X.env:=by rfl)(hline:(apos.endLine == cpos.line)=true:=by rfl):PI X tg (.Call (.Attribute o "values" apos) [] [] cpos) (vo8 to):=by
 intro A3 s σ H R I h;refine wpAny_Call_method0_late hbase hline (thn (ho A3 s σ H _ I h) λv s1 hI128=>?_);obtain⟨x,H1,I1,r1,a,ob,kvs,ex,hq,q⟩:=hI128;subst ex;cases r1;obtain⟨hd,es,ep,eo,g,sz,rel⟩:=xq6 (I1.hok a _ hq);subst eo;refine⟨"dict","dict.values",PySem.F.plainAttrs_dict,PySem.F.slot_dict_values,PySem.F.type_dict_values,⟨_,g,rfl⟩,λb e=>by cases e;exact⟨_,g,rfl⟩,?_⟩;refine Calls.callWith_builtin rfl (PySem.evalArgs_none (call_meets PySem.F.slot_dict_values ⟨_,g,rfl⟩ PySem.F.entry_dict_values (PySem.F.args_dict_values_1 _) (wd2 a es ep hd) ⟨g,?_⟩));have g2:(s1.heap.push (wy5 a)).get? s1.heap.objs.size=some (wy5 a):=Ad0 _ rfl;have ty:Shared.TypeIs { s1 with heap:=s1.heap.push (wy5 a) } (.ref s1.heap.objs.size) "dict_values":=⟨_,g2,rfl⟩;refine wpAny_pyIter_slot ty F.slot_dict_values_iter (call_meets F.slot_dict_values_iter ty F.entry_dict_values_iter (F.args_dict_values_iter_1 _) (wd3 _ a es ep) ⟨g2,Ab0 _ g,"dict_valueiterator",_,⟨_,Ad0 _ rfl,rfl⟩,F.slot_dict_valueiterator_next.lookup,?_⟩);have I2:Inv X A3 σ H1 { s1 with heap:=s1.heap.push (wy5 a),toks:=s1.toks }:=I1.kept (t':=s1.toks) λb o e=>Ab0 _ e
 refine⟨_,[_],_,_,H1,rfl,I2.kept (t':=s1.toks) λb o e=>Ab0 _ e,xh8,Ad0 _ rfl,λb hb=>?_,q⟩;have e:=Al0.mp hb;subst e;exact I2.fpOk (Ag0 _) (I2.hok.fresh (Ag0 _))
def vv9(K:PySem.W.Frag)(n:Nat)(t:TGs):TG:=λv σ H Q=>∃a xs,v=.ref a/\SqL K H a xs/\xs.length=n/\t xs σ H Q
def wk9{es:List Expr}{k:Nat}{t:TGs}{n:Nat}{pos:Pos}(hc:X.calm=true)(h:PGs X es t)(hn:(assignEach es X.env).length=n:=by rfl)(hst:(assignEach es X.env).findIdx? (·.1)=none:=by rfl):PG X (.Tuple es k pos) (vv9 X.K n t):=by
 intro A3 s σ H v u Q I r hw;obtain⟨a,xs,e1,hq,hl,hw⟩:=hw;subst e1;cases r;obtain⟨its,rv,ht,hz⟩:=I.list hq;refine yv5 (I.ok.hd hc) ht.isList (by simp[hn,<-hl,rv.length]) hst λh' hx=>?_
 have I1:Inv X A3 σ H { s with heap:=h' }:=I.kept (t':=s.toks) λb o e=>hx b o (An0 (Heap.lt_size e)) e
 exact h A3 _ σ H xs _ Q I1 (by simpa using rv) hw
def vn3(K:PySem.W.Frag):V->List V->Hp->VK->Prop:=λx vs H Q=>∃(p:Addr) (ns:List Int) (k:Int),x=.ref p/\vs=[.int k]/\SqL K H p (ns.map V.int)/\ns.length<=1000/\k∈ns/\Q (.int (ns.idxOf k:Nat)) H
def wf9:MtM X "list.index" (vn3 X.K):=by
 intro A3 s σ H x vs v us Q I rx rv h;obtain⟨p,ns,k,rfl,rfl,hq,hl,hk,q⟩:=h;cases rx;obtain⟨u,rfl,t,rfl⟩:=rv.one;obtain⟨its,r,pl,hz⟩:=I.list hq;have hi:IntsAre its ns:=xg4 r;have hlen:=hi.length;have hj:ns.idxOf k<ns.length:=List.idxOf_lt_length_iff.mpr hk;obtain⟨⟨cls,dd,data,sl⟩,ho,hc,n,hd⟩:=pl.isList;simp only at hc hd;subst hc hd;refine call_meets PySem.F.slot_list_index ⟨_,ho,rfl⟩ PySem.F.entry_list_index (PySem.F.args_list_index_2 _ _)
  (list_indexAt p its.toArray n dd sl (.int k t) (isInt k) (ns.idxOf k) (by simpa [hlen] using hj) (by omega) ?_ ?_) ⟨ho,λy hy=>(eq_isInt k t hi y (by simpa using hy)).at _ _,.int _,H,I.tok _,⟨_,rfl⟩,q⟩
 ·show isInt k its[ns.idxOf k]=true
  rw[isInt_at k hi _ (by omega) hj];simpa using List.getElem_idxOf hj
 ·intro j hjs hlt
  show isInt k its[j]=false;rw[isInt_at k hi j (by simpa using hjs) (by omega)];exact ne_of_lt_idxOf hlt _
end
section
variable{X:Cx}{S:Type}{W:Wd S}{c:Dx W}{g:Gr}
def D.fd?:D->Option (List D)
 | .fd _ l=>some l
 | _=>none
def wh6{tg o:Expr}{f:Fn S}{apos cpos:Pos}(h:DE X c .B o f)(hbase:attributeBase o "values" X.env (eval o X.env)=eval o X.env:=by rfl)(hline:(apos.endLine == cpos.line)=true:=by rfl) :
 DI X c tg (.Call (.Attribute o "values" apos) [] [] cpos) (vb0 S D.fd? f):=
 (we7 h hbase hline).imp λσ H R hI54=>by
  obtain⟨ρ,st,R0,ok,w⟩:=hI54;refine⟨ρ,st,R0,ok,za6 (za3.mp w) (λd st1 q v H1 e ok1 z=>?_) λx st1 q=>q⟩;obtain⟨l,e1,q⟩:=zb2.mp q;cases d with
  | fd ks m=>
    cases e1;obtain⟨a,ob,vs,kk,ev,_,el,s,i⟩:=Is.fd_iff.mp z;have hl:(kk.zip vs).length=vs.length:=by rw[List.length_zip,el,Nat.min_self]
    refine⟨a,ob,_,ev,s,q _ H1 e ok1 ?_⟩;intro c' hK' σ2 ρ2 H2 st2 k R2 ok2 j;have s2:=k.frz a ob _ s;have i2:IsL c.K (Av c' σ2 ρ2) H2 l vs:=i.mono k;refine⟨λd hd=>?_,λh=>⟨s2,by rw[hl,<-i2.length];exact h⟩⟩;obtain⟨v1,hv,iv⟩:=i2.get hd;have hj:j<vs.length:=(Ae0.mp hv).1;have hz:((kk.zip vs)[j]?).map (·.2)=some v1:=by
     have h2:(kk.zip vs)[j]?=some (kk[j]'(by omega),v1):=List.getElem?_zip_eq_some.mpr ⟨Ac0 (by omega),hv⟩;rw[h2]
     all_goals rfl
    exact⟨⟨s2,by rw[hl];exact hj⟩,λx H3 hI55=>by
     obtain⟨e3,y⟩:=hI55;subst e3;rw[hz] at y;cases y;exact⟨ww1.refl _,iv⟩⟩
  | _=>cases e1
def gF(n:Nat)(Gs:vc1):FnG:=λd ρ=>match d with
 | .fl l=>if l.length=n then Gs l ρ else none
 | _=>none
open H in
def vp8{es:List Expr}{k:Nat}{pos:Pos}{Gs:vc1}{n:Nat}(hc:X.calm=true)(hK:c.K=X.K)(h:DGs X c es Gs)(hn:(assignEach es X.env).length=n:=by rfl)(hst:(assignEach es X.env).findIdx? (·.1)=none:=by rfl):DG X c (.Tuple es k pos) (gF n Gs):=
 (wk9 hc h hn hst).imp λv σ H Q hI56=>by
  obtain⟨ρ,d,ρ',st,R,ok,z,e,q⟩:=hI56;cases d with
  | fl l=>
    obtain⟨a,vs,e1,s1,j1⟩:=Is.flSq z;have e:(if l.length=n then Gs l ρ else none)=some ρ':=e;split at e
    ·rename_i hl
     exact⟨a,vs,e1,by rw[<-hK];exact s1,by rw[<-j1.length];exact hl,ρ,l,ρ',st,R,ok,j1,e,q⟩
    ·cases e
  | _=>cases e
def va4(l:List D)(x:D):Option D:=match x with
 | .int k=>(zt7 l).bind λns=>if ns.length<=1000/\k∈ns then some (.int (ns.idxOf k:Nat)) else none
 | _=>none
def vt2(S:Type)(fa fb:Fn S):Fn S:=λρ st=>(fa ρ st).bind λd1 st1=>match d1 with
 | .lst l=>(fb ρ st1).bind λd2 st2=>wr1 (va4 l d2) st2
 | _=>.bad
theorem wd0{fa fb:Fn S}{ρ:Rho}{st:S}{Q:D->S->Prop}{E:Exn->S->Prop}:wpR (vt2 S fa fb ρ st) Q E↔wpR (fa ρ st) (λd1 st1=>∃l,d1=.lst l/\wpR (fb ρ st1) (λd2 st2=>∃d,va4 l d2=some d/\Q d st2) E) E:=wpB λd1 st1=>by
 cases d1 with
 | lst l=>
   constructor
   ·intro h;exact⟨l,rfl,za6 (za3.mp h) (λ_ _ q=>zb2.mp q) λ_ _ q=>q⟩
   ·rintro ⟨l',e,h⟩
    cases e;exact za3.mpr (za6 h (λ_ _ q=>zb2.mpr q) λ_ _ q=>q)
 | _=>exact⟨λh=>h.elim,λ⟨l',e,_⟩=>by cases e⟩
open H in
def wh9{o e:Expr}{fa fb:Fn S}{ga gb:Gr}{apos cpos:Pos}(hK:c.K=X.K)(ho:DE X c ga o fa)(he:DE X c gb e fb)(hbase:attributeBase o "index" X.env (eval o X.env)=eval o X.env:=by rfl)(hfew:((backTo cpos (starEach [e] X.env)).all (λx=>!x.1)&&(backToKw cpos (keywordEach [] X.env)).all (λx=>x.1.isSome)
  && decide (([e]:List Expr).length+([]:List Keyword).length+(if ([]:List Keyword).isEmpty then 0 else 1)<30))=true:=by rfl)(hline:(apos.endLine == cpos.line)=true:=by rfl)(hs:starEach [e] X.env=(false,eval e X.env)::starEach [] X.env:=by rfl)(hplain:(backTo cpos (starEach [] X.env)).any (·.1)=false:=by rfl) :
 DE X c g (.Call (.Attribute o "index" apos) [e] [] cpos) (vt2 S fa fb):=
 (wy7 PySem.F.plainAttrs_list PySem.F.slot_list_index PySem.F.type_list_index wf9 ho (zi1 he zp4 hs) hbase hfew hline hs hplain).imp λσ H Q hI57=>by
  obtain⟨ρ,st,R,ok,w⟩:=hI57;refine⟨ρ,st,R,ok,za6 (za3.mp w) (λd1 st1 q v1 H1 e1 ok1 z1=>?_) λx st1 q=>q⟩;cases d1 with
  | lst l=>
    obtain⟨p,xs,rfl,hm,hp,il⟩:=Is.lst_iff.mp z1.toR;refine⟨.inl ⟨rfl,xs,.of hp⟩,ρ,st1,R.ext ok e1,ok1,za6 (za3.mp q) (λd2 st2 q2 v2 H2 e2 ok2 z2=>?_) λx st2 q H2 e2 ok2=>q H2 (e1.trans e2) ok2⟩;obtain⟨d',ed,q2⟩:=zb2.mp q2;cases d2 with
    | int k=>
      cases hn:zt7 l with
      | none=>unfold va4 at ed;rw[hn] at ed;cases ed
      | some ns=>
        unfold va4 at ed;rw[hn] at ed;have ed:(if ns.length<=1000/\k∈ns then some (D.int (ns.idxOf k:Nat)) else none)=some d':=ed;split at ed
        ·rename_i h
         cases ed;have kt:wq8 (λb=>¬W.mv b) (λb=>¬W.mv b) H1 H2:=e2.keepT ok1 λb a=>⟨a,a⟩
         have z3:Is c.K (λb=>¬W.mv b) H2 (.int k) v2:=z2.toR;have s2:SqL X.K H2 p xs:=.of (kt.nod p _ hm hp).2;rw[ys9 hn il] at s2;exact⟨p,ns,k,rfl,by rw[Is.int_iff.mp z3],s2,h.1,h.2,q2 _ _ (e1.trans e2) ok2 (((zm1:New c H2 H2 (.int (ns.idxOf k:Nat)) (.int (ns.idxOf k:Nat))).val ((R.ext ok e1).ext ok1 e2) g).back (e1.trans e2) ok2)⟩
        ·cases ed
    | _=>cases ed
  | _=>exact(show False from q).elim
end
end L2
namespace HT
open PySem PyProof PyProof.Rows Ts
section
variable{prog:Program}{w:World}{A:Around}{R:Result->Shared->Prop}{I:Addr}{fp wr:List Addr}{n:Nat}{P:Nat->Value->Prop}{St:Nat->Heap->Prop}{base:Heap}{E:Value->Shared->Prop}{s:Shared}
def wb2(prog:Program)(w:World)(A:Around)(base:Heap)(P:Nat->Value->Prop)(x:Value):Prop:=
 ∀i u (s:Shared) (Q:Value->Shared->Prop) (E:Value->Shared->Prop),vl1 base s.heap->0<i->P i u->Q (.bool false) s->wpAny (model prog w) A (richCompare .Lt u x) Q E s
theorem xx5(W:Walks prog w A.in1 I fp wr n P St){x:Value}(cmp:wb2 prog w A.in1 base P x)(B:Addr)(bw:B∉wr)(nw:∀b∈wr,base.get? b=none) :
 ∀(k j:Nat) (s:Shared) (c:Nat),n-(j+1)=k->j+1<=n->St (j+1) s.heap->vl1 base s.heap->
 s.heap.get? B=some { cls:=.type "list",dict:=none,data:=.seq #[x,x] c,slots:=#[] }->
 (∀h' tk,(∀b o,b∉wr->b≠B->s.heap.get? b=some o->h'.get? b=some o)->R (.ok (.ret x)) { s with heap:=h',toks:=tk })->
 codeAny (model prog w) A (.builtin "min.loop" ⟨[.ref I,.none,.ref B],[]⟩) R s:=by
 have nm:(toString "min"++toString ".loop" : String) = "min.loop":=by decide
 intro k;induction k with
 | zero=>
   intro j s c hk hj st ov hB hR;have last:j+1=n:=by omega
   refine codeAny_builtin F.entry_min_loop ?_;rw[Around.under_plainId F.plain_min_loop _];show wpAny _ A.in1 (seqItems? (.ref B) >>= _) _ _ s;refine Aa1 (Ak1 hB rfl ?_);show wpAny _ A.in1 (tryCatch (pyNext (.ref I)) _ >>= _) _ _ s;refine Aa1 (wpAny_tryCatch (W.done s _ _ (last▸st) λh' tk kk=>?_));show wpAny _ A.in1 (updateSeq B (λ_=>#[]) >>= _) _ _ _;refine Aa1 (wpAny_updateSeq (kk B _ bw hB) rfl (Aa1 (wpAny_letGo (Ac1 ?_))));exact hR _ tk λb o b1 b2 e=>(Bf0 _ _ (Ne.symm b2)).trans (kk b o b1 e)
 | succ k ih=>
   intro j s c hk hj st ov hB hR;have more:j+1<n:=by omega
   refine codeAny_builtin F.entry_min_loop ?_;rw[Around.under_plainId F.plain_min_loop _];show wpAny _ A.in1 (seqItems? (.ref B) >>= _) _ _ s;refine Aa1 (Ak1 hB rfl ?_);show wpAny _ A.in1 (tryCatch (pyNext (.ref I)) _ >>= _) _ _ s;refine Aa1 (wpAny_tryCatch (W.item (j+1) s _ _ more st λv h' tk pv st' kk=>?_));have ov':vl1 base h':=λb o e=>kk b o (λm=>by rw[nw b m] at e;cases e) (ov b o e)
   show wpAny _ A.in1 (tryCatch (holding [v,v] (richCompare .Lt v x >>= _)) _ >>= _) _ _ _;refine Aa1 (wpAny_tryCatch (wpAny_holding (Aa1 (cmp (j+1) v _ _ _ ov' (Nat.succ_pos j) pv ?_))));refine Aa1 (wpAny_holding (Ah1 (Aa1 (wpAny_letGo (Ac1 ?_)))));simp only[Bo0,if_false];refine Aa1 (wpAny_letGo ?_);rw[nm];exact Ac1 ⟨plainId_quiet F.plain_min_loop _,ih (j+1) _ c (by omega) more st' ov' (kk B _ bw hB) λh2 tk2 k2=>hR h2 tk2 λb o b1 b2 e=>k2 b o b1 b2 (kk b o b1 e)⟩
def first_list{l:Addr}{items:Array Value}{x:Value}{Q:Value->Shared->Prop}(hh:A.handled=none)(hl:s.heap.IsList l items)(h0:items[0]?=some x)(cmp:wb2 prog w A.in1 s.heap (λi v=>items[i]?=some v) x)(h:∀h' tk,(∀b o,s.heap.get? b=some o->h'.get? b=some o)->Q x { s with heap:=h',toks:=tk }):wpAny (model prog w) A (call (.builtin "min") [.ref l]) Q E s:=by
 have nm:(toString "min"++toString ".loop" : String) = "min.loop":=by decide
 have hn:0<items.size:=(Array.getElem?_eq_some_iff.mp h0).1;have ll:l<s.heap.objs.size:=by obtain⟨_,e,_⟩:=hl;exact Heap.lt_size e
 refine call_function_tree F.kind_min F.plain_min F.entry_min (F.args_min1 _) ?_;show wpAny _ A.in1 (Builtin.Builtins.bindParams "min" ["key","default"] 0 ⟨[],[]⟩ >>= _) _ _ s;refine Aa1 (wpAny_of_eq (show Builtin.Builtins.bindParams "min" ["key","default"] 0 ⟨[],[]⟩=pure [none,none] from rfl) (Aa1 (Ac1 ?_)));refine Aa1 (wpAny_pyIter_list hl ?_);refine Aa1 (wpAny_newObj_type ?_);rw[nm];have W:=Walks.list (prog:=prog) (w:=w) (A:=A.in1) hh s.heap.objs.size l (An0 ll) items;obtain⟨hp,eh⟩:∃hp,s.heap.push { cls:=.type "list_iterator",data:=.fields #[.ref l,.int 0 0] }=hp:=⟨_,rfl⟩;have e2:hp.objs.size=s.heap.objs.size+1:=by rw[<-eh,Bm0]
 have st0:hp.IsListIter s.heap.objs.size l 0/\hp.IsList l items:=by rw[<-eh];exact⟨⟨_,Ad0 _ rfl,rfl,rfl⟩,hl.push _⟩
 have kp:∀b o,s.heap.get? b=some o->hp.get? b=some o:=by rw[<-eh];exact λb o e=>Ab0 _ e
 have bf:hp.objs.size∉[s.heap.objs.size,l]:=λm=>by
  rcases Aj0.mp m with m | m
  ·rw[e2] at m;exact Nat.succ_ne_self _ m
  ·rw[<-Al0.mp m,e2] at ll
   exact Nat.not_lt.mpr (Nat.le_succ _) ll
 have bw:hp.objs.size∉[s.heap.objs.size]:=λm=>bf (W.sub _ m)
 have nw:∀b∈[s.heap.objs.size],s.heap.get? b=none:=λb m=>by rw[Al0.mp m];exact xv4 (Ag0 _)
 rw[eh];have g0:(hp.push { cls:=.type "list",data:=.seq #[] }).get? hp.objs.size=some { cls:=.type "list",dict:=none,data:=.seq #[] 0,slots:=#[] }:=Ad0 _ rfl;refine Ac1 ⟨plainId_quiet F.plain_min_loop _,codeAny_builtin F.entry_min_loop ?_⟩;rw[Around.under_plainId F.plain_min_loop _];show wpAny _ A.in1 (seqItems? (.ref hp.objs.size) >>= _) _ _ _;refine Aa1 (Ak1 g0 rfl ?_);show wpAny _ A.in1 (tryCatch (pyNext (.ref s.heap.objs.size)) _ >>= _) _ _ _;refine Aa1 (wpAny_tryCatch (W.item 0 _ _ _ hn (W.frame _ _ _ st0 λb _ o e=>Ab0 _ e) λv h' tk pv st' kk=>?_));rw[show v=x from Option.some.inj ((show items[0]?=some v from pv).symm.trans h0)];have hB':=kk _ _ bw g0;show wpAny _ A.in1 (updateSeq hp.objs.size (λ_=>#[x,x]) >>= _) _ _ _;refine Aa1 (wpAny_updateSeq hB' rfl ?_);rw[nm];have old:∀b o,s.heap.get? b=some o->b∉[s.heap.objs.size]/\b≠hp.objs.size/\h'.get? b=some o:=λb o e=>by
  have lb:=Heap.lt_size e;have nb:b∉[s.heap.objs.size]:=λm=>by rw[Al0.mp m] at lb;exact Bq0 _ lb
  exact⟨nb,λz=>by rw[z,e2] at lb;exact Nat.not_lt.mpr (Nat.le_succ _) lb,kk b o nb (Ab0 _ (kp b o e))⟩
 refine Ac1 ⟨plainId_quiet F.plain_min_loop _,xx5 W cmp hp.objs.size bw nw _ 0 _ _ rfl hn (W.frame _ _ _ st' λb hb o e=>?_) (λb o e=>?_) (Cd0 _ hB' rfl) λh2 tk2 k2=>?_⟩
 ·exact(Bf0 _ _ (λh=>bf (by rw[h];exact hb))).trans e
 ·exact(Bf0 _ _ (Ne.symm (old b o e).2.1)).trans (old b o e).2.2
 ·exact h h2 tk2 λb o e=>k2 b o (old b o e).1 (old b o e).2.1 ((Bf0 _ _ (Ne.symm (old b o e).2.1)).trans (old b o e).2.2)
end
end HT
namespace L2
open PySem PySem.Spec PyProof PyProof.Rows Ts
section
variable{X:Cx}{S:Type}{W:Wd S}{c:Dx W}
theorem xr4(hc:X.calm=true){k:Nat}(hr:wr2 k X.A):ws7 X (.builtin "min") (λxs H Q=>∃(a:Addr) (v:V) (vs:List V) (p:P2) (ps:List P2),xs=[.ref a]/\SqL X.K H a (v::vs)/\PrV H (v::vs) (p::ps)/\(∀q∈ps,lx q p=false)/\Q v H):=by
 intro A3 s σ H xs us Q I r h;obtain⟨a,v,vs,p,ps,rfl,hq,hp,hl,q⟩:=h;obtain⟨u,rfl,r1⟩:=wt7 r;cases r1;obtain⟨its,rv,pl,hz⟩:=I.list hq;cases rv with
 | cons r0 rv=>
   cases hp with
   | cons z0 hp=>
     have hu:=hr.units;refine HT.first_list (I.ok.hd hc) pl.isList rfl (λi u s' Q' E' ov hi hu' hQ=>?_) λh' tk kp=>⟨v,H,I.kept kp,r0,q⟩
     obtain⟨i,rfl⟩:∃j,i=j+1:=⟨i-1,by omega⟩;have hu2:=hu';simp only[List.getElem?_toArray,List.getElem?_cons_succ] at hu2;obtain⟨v',h1,r'⟩:∃v',vs[i]?=some v'/\wq2 v' u:=by
      have hi':i<vs.length:=by rw[wq4.length rv];exact(Ae0.mp hu2).1
      obtain⟨u2,e2,r2⟩:=wq4.get rv (Ac0 hi');rw[hu2] at e2;cases e2;exact⟨_,Ac0 hi',r2⟩
     obtain⟨p',h2,z'⟩:=yb6 hp h1;rw[<-hl p' (Ar0 h2)] at hQ;exact HT.lt_two (by rw[Around.in1_units];omega) (HT.TwoAt.over ov (I.two r' z')) (HT.TwoAt.over ov (I.two r0 z0)) hQ
def vd0:List D->Option D
 | [.lst l]=>(ws1 l).bind λps=>match ps with
   | []=>none
   | p::r=>if ∀q∈r,lx q p=false then some (prD p) else none
 | _=>none
open H in
def wi2{K:PySem.W.Frag}(hK:c.K=K):ws4 c (λxs H Q=>∃(a:Addr) (v:V) (vs:List V) (p:P2) (ps:List P2),xs=[.ref a]/\SqL K H a (v::vs)/\PrV H (v::vs) (p::ps)/\(∀q∈ps,lx q p=false)/\Q v H) vd0:=by
 subst hK;intro l vs H st d Q ok z e q;unfold vd0 at e;split at e
 ·rename_i m
  cases qq:ws1 m with
  | none=>rw[qq] at e;cases e
  | some ps=>
    rw[qq] at e;cases ps with
    | nil=>cases e
    | cons p r=>
      have e:(if ∀q∈r,lx q p=false then some (prD p) else none)=some d:=e;split at e
      ·rename_i hl
       cases e;obtain⟨v,r',e1,i1,i2⟩:=IsL.cons.mp z;obtain⟨a,us,ea,_,s1,i3⟩:=Is.lst_iff.mp i1;rw[IsL.nil.mp i2,ea] at e1;have pv:=ym7 qq i3;cases pv with
       | cons w pv=>
         refine⟨a,_,_,p,r,e1,.of s1,.cons w pv,hl,?_⟩;obtain⟨b,eb,hb⟩:=w;rw[eb];exact q _ _ Ext.refl ok (show New c H H (prD p) _ from Is.tup hb (IsL.cons.mpr ⟨_,_,rfl,Is.int_iff.mpr rfl,IsL.cons.mpr ⟨_,_,rfl,Is.int_iff.mpr rfl,IsL.nil.mpr rfl⟩⟩))
      ·cases e
 ·cases e
end
end L2
namespace PySem
def yx4(l1 l2:Addr)(xs ys:Array Value) :
 Meets (Builtin.«zip.__new__» ⟨[.type "zip",.ref l1,.ref l2],[]⟩) (λ_ R s=>s.heap.IsTuple l1 xs/\s.heap.IsTuple l2 ys/\
  R (.ok (.ret (.ref (zB2 "tuple_iterator" "tuple_iterator" s.heap l1 l2).objs.size))) { s with heap:=zC2 "tuple_iterator" "tuple_iterator" s.heap l1 l2 }):=
 .of_wp λprog w A R s h=>by
  obtain⟨hp,g,d,tk,os⟩:=s;obtain⟨hl1,hl2,h⟩:=h;have hsub:=sub_zip;have hL1:Heap.IsTuple (Shared.heap ⟨hp,g,d,tk,os⟩) l1 xs:=hl1;have hL2:Heap.IsTuple (Shared.heap ⟨hp.push { cls:=.type "tuple_iterator",data:=.fields #[.ref l1,.int 0 0] },g,d,tk,os⟩) l2 ys:=hl2.at λo e=>Ab0 _ e
  wp_walk using wpAny_pyIter_tuple hL1,wpAny_pyIter_tuple hL2
  exact⟨_,rfl,h⟩
section
variable{prog:Program}{w:World}{A:Around}{E:Value->Shared->Prop}{s:Shared}
def yu6{l1 l2:Addr}{n1 n2:String}{Q:Value->Shared->Prop}{K:(Result->Shared->Prop)->Shared->Prop}(m:Meets (Builtin.«zip.__new__» ⟨[.type "zip",.ref l1,.ref l2],[]⟩) (λ_ R s=>K R s))(hk:∀R,R (.ok (.ret (.ref (zB2 n1 n2 s.heap l1 l2).objs.size))) { s with heap:=zC2 n1 n2 s.heap l1 l2 }->K R s)(h:Q (.ref (s.heap.objs.size+4)) { s with heap:=zC2 n1 n2 s.heap l1 l2 }):wpAny (model prog w) A (call (.type "zip") [.ref l1,.ref l2]) Q E s:=by
 refine callType_new F.called_zip (by decide) (F.typeCall_zip_2 _ _) (F.newCall_zip_2 _ _) (λobj=>F.args_object_init_3 obj _ _) F.entry_zip_new m (hk _ ?_);obtain⟨q,_⟩:=yv1 n1 n2 s.heap l1 l2;show _/\_;rw[(xg8 n1 n2 s.heap l1 l2).2.2];exact⟨⟨_,q,rfl⟩,h⟩
end
end PySem
namespace L2
section
variable{X:Cx}{elts:List Expr}{x1:Nat}{tpos:Pos}{S:Type}{W:Wd S}{c:Dx W}
def vo7(ta:TA):TI:=λσ H R=>ta σ H λvs H1=>∃a b xs ys,vs=[.ref a,.ref b]/\((vm3 a b H1 xs ys/\R (Izp (vm3 a b)) H1)\/(vm4 a b H1 xs ys/\R (Izp (vm4 a b)) H1))
theorem we6{e1 e2:Expr}{ta:TA}{p pos:Pos}(hg:Gl X "zip")(hm:X.mg "zip" = none)(ha:PA X [e1,e2] ta)(hs:starEach [e1,e2] X.env=(false,eval e1 X.env)::starEach [e2] X.env:=by rfl)(hs2:starEach [e2] X.env=[(false,eval e2 X.env)]:=by rfl):PI X (.Tuple elts x1 tpos) (.Call (.Name "zip" p) [e1,e2] [] pos) (vo7 ta):=by
 intro A3 s σ H R I h;refine Call_ (yk5 I hg hm boot_zip (PyProof.Rows.callWith_type1 (thn (ha pos A3 s σ H _ I h) λus s1 hI129=>?_) hs (by rw[hs2];rfl)));obtain⟨vs,H1,I1,r1,q1⟩:=hI129;obtain⟨a,b,xs,ys,rfl,q⟩:=q1;cases r1 with
 | cons r rr=>
   cases rr with
   | cons r' rr=>
     cases rr;cases r;cases r';have nd:=vo3 s1.heap.objs.size;have fr:∀b∈[s1.heap.objs.size+4,s1.heap.objs.size+2,s1.heap.objs.size+3,s1.heap.objs.size,s1.heap.objs.size+1],wx8 X A3 H1 b:=λb hb=>I1.fpOk (wa2 hb) (I1.hok.fresh (wa2 hb))
     rcases q with⟨hq,q⟩ | ⟨hq,q⟩
     ·obtain⟨us,ru,t1,_⟩:=I1.tuple (SqT.of hq.1)
      obtain⟨vs,rv,t2,_⟩:=I1.tuple (SqT.of hq.2);refine yu6 (yx4 a b us.toArray vs.toArray) (λ_ z=>⟨t1,t2,z⟩) ?_;obtain⟨z1,z2,z3,z4,z5,kk⟩:=yv1 "tuple_iterator" "tuple_iterator" s1.heap a b;refine wpAny_pyIter_zip (s:={ s1 with heap:=zC2 "tuple_iterator" "tuple_iterator" s1.heap a b }) z1 ?_;exact⟨_,_,_,_,H1,rfl,I1.kept (t':=s1.toks) kk,yz0 wi7 nd,⟨z1,z2,⟨_,_,z3⟩,⟨_,z4,rfl,rfl⟩,⟨_,z5,rfl,rfl⟩⟩,fr,q⟩
     ·obtain⟨us,ru,t1,_⟩:=I1.tuple (SqT.of hq.1)
      obtain⟨vs,rv,t2,_⟩:=I1.list (SqL.of hq.2);refine yu6 (xf6 a b us.toArray vs.toArray) (λ_ z=>⟨t1,t2.isList,z⟩) ?_;obtain⟨z1,z2,z3,z4,z5,kk⟩:=yv1 "tuple_iterator" "list_iterator" s1.heap a b;refine wpAny_pyIter_zip (s:={ s1 with heap:=zC2 "tuple_iterator" "list_iterator" s1.heap a b }) z1 ?_;exact⟨_,_,_,_,H1,rfl,I1.kept (t':=s1.toks) kk,yz0 wi8 nd,⟨z1,z2,⟨_,_,z3⟩,⟨_,z4,rfl,rfl⟩,⟨_,z5,rfl,rfl⟩⟩,fr,q⟩
def vc6:List D->Option (List D)
 | [.tup l,.tup m]=>some (wu4 l m)
 | [.tup l,.lst m]=>some (wu4 l m)
 | _=>none
open H in
def xq0{e1 e2:Expr}{f:FnA S}{p pos:Pos}(hg:Gl X "zip")(hm:X.mg "zip" = none)(ha:DB X c [e1,e2] f)(hs:starEach [e1,e2] X.env=(false,eval e1 X.env)::starEach [e2] X.env:=by rfl)(hs2:starEach [e2] X.env=[(false,eval e2 X.env)]:=by rfl):DI X c (.Tuple elts x1 tpos) (.Call (.Name "zip" p) [e1,e2] [] pos) (vb1 S vc6 f):=
 (we6 hg hm ha hs hs2).imp λσ H R hI58=>by
  obtain⟨ρ,st,R0,ok,w⟩:=hI58;refine⟨ρ,st,R0,ok,za6 (za3.mp w) (λl st1 q vs H1 e ok1 z=>?_) λx st1 q=>q⟩;obtain⟨m,e1,q⟩:=zb2.mp q;unfold vc6 at e1;split at e1
  ·rename_i l m
   cases e1;obtain⟨v,r,e2,i2,i3⟩:=IsL.cons.mp z;obtain⟨v',r',e3,i3,i4⟩:=IsL.cons.mp i3;obtain⟨a,xs,ea,s0,i⟩:=Is.tup_iff.mp i2;obtain⟨b,ys,eb,t0,j⟩:=Is.tup_iff.mp i3;rw[e3,IsL.nil.mp i4,ea,eb] at e2;exact⟨a,b,xs,ys,e2,.inl ⟨⟨s0,t0⟩,q _ H1 e ok1 (yy6 (λc' σ2 ρ2 H2 k=>⟨k.tup a xs s0,k.tup b ys t0⟩) i j)⟩⟩
  ·rename_i l m
   cases e1;obtain⟨v,r,e2,i2,i3⟩:=IsL.cons.mp z;obtain⟨v',r',e3,i3,i4⟩:=IsL.cons.mp i3;obtain⟨a,xs,ea,s0,i⟩:=Is.tup_iff.mp i2;obtain⟨b,ys,eb,n1,t0,j⟩:=Is.lst_iff.mp i3;rw[e3,IsL.nil.mp i4,ea,eb] at e2;exact⟨a,b,xs,ys,e2,.inr ⟨⟨s0,t0⟩,q _ H1 e ok1 (yy6 (λc' σ2 ρ2 H2 k=>⟨k.tup a xs s0,(k.nod b _ n1 t0).2⟩) i j)⟩⟩
  ·cases e1
end
theorem ln1{α:Type}{us:List α}(h:us.length=1):∃a,us=[a]:=by
 match us,h with
 | [a],_=>exact⟨a,rfl⟩
theorem ln2{α:Type}{us:List α}(h:us.length=2):∃a b,us=[a,b]:=by
 match us,h with
 | [a,b],_=>exact⟨a,b,rfl⟩
theorem ln3{α:Type}{us:List α}(h:us.length=3):∃a b c,us=[a,b,c]:=by
 match us,h with
 | [a,b,c],_=>exact⟨a,b,c,rfl⟩
theorem ln4{α:Type}{us:List α}(h:us.length=4):∃a b c d,us=[a,b,c,d]:=by
 match us,h with
 | [a,b,c,d],_=>exact⟨a,b,c,d,rfl⟩
def At(K:PySem.W.Frag)(x:Str)(st:Stmt):Prop:=∃f fd,nsIn K mainGlobals x=some (some (.ref f))/\Fun K x x st f fd
def vr2(x:Str)(st:Stmt)(ps:List Str):Prop:=∀(kV doc pm:Value) (an:Option Addr) (cdv ct:Value) (us:List Value),us.length=ps.length->bindArgs (fnOf x x (zy2 st) (zc2 st) (za5 st) .none kV doc pm an cdv ct) ⟨us,[]⟩=pure (ps.zip us)
section
variable{K:PySem.W.Frag}{h:Heap}{mg:Str->Option Value}{x:Str}{st:Stmt}{N ps:List Str}{k j:Nat}{P:Program}{w:World}{base:Heap}{sp:Sp}
def zc4.up(C:zc4 P w K mg base k x ps sp)(hk:k<=j:=by decide):zc4 P w K mg base j x ps sp:=by
 obtain⟨f,fd,a,b,c,d⟩:=C.ex;exact⟨f,fd,a,b,c,d.mono hk⟩
def ww4(P:Program)(w:World)(base:Heap)(X:K.In h)(G:h.Ns mainGlobals mg){B:FnS Unit}(a:At K x st)(S:zd1 N ps (za5 st))(hb:∀(f:Addr) (cdv:Value) (A:Around) (outer:List Env) (s:Shared) (H:Hp) (E:XK),wr2 k (A.deeper (envOfC x (za5 st) s.heap.objs.size f cdv))->DSs (ws3 CX0 P w K mg base N x (za5 st) f cdv A outer s H E).nox (cx0 K H) (zc2 st) B)(bd:vr2 x st ps:=by (intro _ _ _ _ _ _ us hl;first | (obtain⟨_,rfl⟩:=ln1 hl;rfl) | (obtain⟨_,_,rfl⟩:=ln2 hl;rfl) | (obtain⟨_,_,_,rfl⟩:=ln3 hl;rfl) | (obtain⟨_,_,_,_,rfl⟩:=ln4 hl;rfl) | (obtain⟨_,_,_,_,_,rfl⟩:=ln5 hl;rfl))) :
 zc4 P w K mg base (k+1) x ps (sp0 K (dfn N.length ps.length B)):=by
 obtain⟨f,fd,n,F⟩:=a;exact⟨f,fd,mg_of X G n,F.kp,F.binds bd,Fun.d0 F S λcdv A outer s H E hr=>hb f cdv A outer s H E hr⟩
def vh1{Sx:Type}{W:Wd Sx}(P:Program)(w:World)(base:Heap)(X:K.In h)(G:h.Ns mainGlobals mg){B:FnS Sx}(a:At K x st)(S:zd1 N ps (za5 st))(hb:∀(f:Addr) (cdv:Value) (A:Around) (outer:List Env) (s:Shared) (H:Hp) (E:XK),wr2 k (A.deeper (envOfC x (za5 st) s.heap.objs.size f cdv))->DSs (ws3 CX0 P w K mg base N x (za5 st) f cdv A outer s H E).nox (cxS W K H) (zc2 st) B)(bd:vr2 x st ps:=by (intro _ _ _ _ _ _ us hl;first | (obtain⟨_,rfl⟩:=ln1 hl;rfl) | (obtain⟨_,_,rfl⟩:=ln2 hl;rfl) | (obtain⟨_,_,_,rfl⟩:=ln3 hl;rfl) | (obtain⟨_,_,_,_,rfl⟩:=ln4 hl;rfl) | (obtain⟨_,_,_,_,_,rfl⟩:=ln5 hl;rfl))) :
 zc4 P w K mg base (k+1) x ps (spS W K (wz7 N.length ps.length B)):=by
 obtain⟨f,fd,n,F⟩:=a;exact⟨f,fd,mg_of X G n,F.kp,F.binds bd,Fun.dS F S λcdv A outer s H E hr=>hb f cdv A outer s H E hr⟩
def vq6(P:Program)(w:World)(base:Heap)(X:K.In h)(G:h.Ns mainGlobals mg)(a:At K x st)(ok:∀f fd,Fun K x x st f fd->ww5 P w K mg base CX0 k f fd ps sp)(bd:vr2 x st ps:=by (intro _ _ _ _ _ _ us hl;first | (obtain⟨_,rfl⟩:=ln1 hl;rfl) | (obtain⟨_,_,rfl⟩:=ln2 hl;rfl) | (obtain⟨_,_,_,rfl⟩:=ln3 hl;rfl) | (obtain⟨_,_,_,_,rfl⟩:=ln4 hl;rfl) | (obtain⟨_,_,_,_,_,rfl⟩:=ln5 hl;rfl))):zc4 P w K mg base k x ps sp:=by
 obtain⟨f,fd,n,F⟩:=a;exact⟨f,fd,mg_of X G n,F.kp,F.binds bd,ok f fd F⟩
end
end L2
section
open L2
local macro_rules
 | `(tactic| simp?! [$ls,*])=>do
   let x:=("wp_ok wp_bad wp_some wp_none wp_sNil wp_sSet wp_sSetB wp_sAsg wp_sPar wp_sIf wp_sRet wp_sRetV wp_sMt wp_sBad wp_fC wp_fV wp_fVk wp_fI wp_f2 wp_fA wp_aNil wp_aCons wp_fCall wp_fCallS wp_fAndV wp_fNotV wp_fIfE wp_fNeg wp_fCut wp_pNo wp_pSo wp_iSeq wp_iArgs wp_fComp wp_fB wp_fAnd wp_fOr wp_fNot wp_fTrue wp_sPar3 wp_sItem wp_sDPut wp_fChain wp_fDisp wp_sTab2 wp_sFor wp_fP wp_aP wp_tP own? frz frz1 pickR gN gT gsCons gsNil D.seq? D.immL flat_lst flat_dct flat_int flat_str flat_bl flat_non flat_tup imm_int imm_str imm_bl imm_non imm_tup rho0 rhoS rhoL g0 gS s0 sS lC lN rd putN put im kp vr cn o2 cs nl o1 ti tb boS dbb rl0_ rl1_ rl2_ rl3_ rl4_ rl5_ rl6_ rl7_ rl8_ rl9_".splitOn " ").toArray.map λn=>Lean.mkIdent n.toName
   `(tactic| try simp only[$[$x:term],*,EV_,Nat.reduceAdd,Nat.reduceLT,Nat.reduceLeDiff,Nat.reduceSub,reduceIte,$ls,*])
local macro_rules
 | `(tactic| simp_all!)=>do
   let a:=Lean.mkIdent `hN_
   `(tactic| ((try with_reducible refine $a _ _ ?_);with_reducible refine wb7 fun $(Lean.mkIdent `P_) $a $(Lean.mkIdent `hR_) $(Lean.mkIdent `hB_) $(Lean.mkIdent `hC_)=>?_))
 | `(tactic| simp!)=>`(tactic| simp! [wp_ok])
 | `(tactic| simp! [$ls,*])=>do
   let a:=Lean.mkIdent `hN_
   `(tactic| ((try with_reducible refine $a _ _ ?_);simp?! [$ls,*];(repeat (first | with_reducible refine $a _ _ ?_ | with_reducible refine $(Lean.mkIdent `hR_) _ _ ?_ | with_reducible refine $(Lean.mkIdent `hB_) _ _ ?_ | with_reducible refine $(Lean.mkIdent `hC_) _ _ ?_));simp?! [$ls,*]))
namespace K32
open L2
def top(i:Nat):Stmt:=PySem.Challenge.pw_slidehall_k32_orders_round_rings.main.body.getD i (.Pass ⟨0,0,0,0⟩)
structure Cst(K:PySem.W.Frag)(mg:Str->Option Value):Prop where
 ok:True
 WALL:∃t,mg "WALL" = some (.int (-1) t)
 STEPS:∃a0,mg "STEPS" = some (.ref a0)/\vq8 K a0 [(1,0),(0,1),(-1,0),(0,-1)]
abbrev yc0:Stmt:=top 16
abbrev yr8:List Str:=["_law_script","_law_cells"]
def zr5:zd1 yr8 ["_law_script"] (za5 yc0):=by and_intros
abbrev yf0:Stmt:=top 17
abbrev yx1:List Str:=["_law_state","_law_many","_law_turn","_law_place","_law_cell","_law_digit","_law_mixed"]
def zh2:zd1 yx1 ["_law_state","_law_many"] (za5 yf0):=by and_intros
section
variable{P:Program}{w:World}{K:PySem.W.Frag}{mg:Str->Option Value}{base:Heap}
def xv7(F:Fun K "_law_begin" "_law_begin" yc0 f fd)(hm:Bn mg):ww5 P w K mg base CX0 1 f fd ["_law_script"] (yw0 K):=by
 refine F.ok zr5 (λvs H Q E h=>?_) (λcdv A outer s H vs Q E hr h=>?_)
 ·obtain⟨a,ns,rfl,_⟩:=h;rfl
 ·obtain⟨a,ns,rfl,hS,h63,q⟩:=h
  have hcut:vb6 (ns.map V.int) none (some 63)=ns.map V.int:=vq4 h63;refine⟨_,zi5 (zu5 (i:=1) zr5.nd rfl (Or.inl rfl) (yr2 zp7 (by rfl) hm.list boot_list (zi1 (yz7 xi5 (pv 0) xk3 (xk2 zl7)) zp4))) (zi5 (vf2 (yw4 (zf6 hr) (pv 1) (xk6 zp4) (wa1 _)) (yf3 (zu5 (i:=1) zr5.nd rfl (Or.inl rfl) (xk6 (zi1 zl7 zp4)))) yw5) (yf3 (yq8 (xk8 (ym8 zz3 (pv 1) (ym8 zz3 zl7 xj9)) rfl rfl (by simp) (by show 2<=15;decide))))),?_⟩;refine⟨.ref a,rfl,63,rfl,a,_,rfl,hS,λp1 hp1=>?_⟩;rw[hcut];refine⟨p1,_,rfl,.inl (.of zb4),λp2 hp2=>?_⟩;have n12:p1≠p2:=zb7 zb4 hp2;have s2:ww1 H (upd (upd H p1 (.lst (ns.map V.int))) p2 (.lst (ns.map V.int))):=λb o e=>by
   have b1:b≠p1:=zb7 e hp1;have b2:b≠p2:=λz=>by subst z;rw[zb3 b1,e] at hp2;cases hp2
   rw[zb3 b2,zb3 b1];exact e
  refine⟨_,rfl,(by show 0<=sizeLine;decide),λp3 hp3=>?_⟩;have n23:p2≠p3:=zb7 zb4 hp3;refine⟨λ_=>True,.lst (ns.map D.int),.lst [],ns.isEmpty,?_,?_,?_,?_,?_⟩
  ·exact Is.lst trivial (by rw[zb3 n23];exact zb4) (xo4 ns)
  ·exact Is.lst trivial zb4 (IsL.nil.mpr rfl)
  ·exact yd6 ns
  ·cases ns<;>rfl
  have fin:∀(H3:Hp) (q2:Addr) (xs:List Int),ww1 H H3->H q2=none->H3 q2=some (.lst (xs.map V.int))->xs=zs6 ns->
   vh8 [(λ_ H Q=>Q (.str "cells") H,wu2 1),(λ_ H Q=>Q (.str "turn") H,λ_ H Q=>Q (.int 0) H)] [some (.ref a),some (.ref q2)] H3 Q:=λH3 q2 xs sm hn hl ex=>by
   intro r hr';have nr:q2≠r:=zb7 hl hr';refine⟨_,rfl,zb4,[(Sum.inr "cells",.ref q2),(Sum.inr "turn",.int 0)],rfl,(by show 2<=15;decide),?_⟩;refine q r q2 _ (λb o e=>?_) ?_ ?_ ?_ ?_
   ·have br:b≠r:=zb7 (sm b o e) hr'
    rw[zb3 br,zb3 br];exact sm b o e
   ·cases z:H r with
    | none=>rfl
    | some o=>rw[sm r o z] at hr';cases hr'
   ·exact hn
   ·rw[zb4];exact congrArg (λz=>some (HO.dK z)) wm4
   ·rw[zb3 nr,zb3 nr,hl,ex]
  have g2:H p2=none:=by
   cases z:H p2 with
   | none=>rfl
   | some o=>
     have b1:p2≠p1:=n12.symm;rw[zb3 b1,z] at hp2;cases hp2
  cases ns with
  | nil=>
    refine⟨_,rfl,vh5 ?_⟩;refine⟨(by show 1<=sizeLine;decide),λp4 hp4=>?_⟩;have s3:ww1 H (upd (upd (upd (upd H p1 (.lst [])) p2 (.lst [])) p3 (.lst [])) p4 (.lst [.int 7])):=λb o e=>by
     have z2:=s2 b o e;have b3:b≠p3:=zb7 z2 hp3;have b4:b≠p4:=λz=>by subst z;rw[zb3 b3,z2] at hp4;cases hp4
     rw[zb3 b4,zb3 b3];exact z2
    refine fin _ p4 [7] s3 ?_ zb4 rfl;cases z:H p4 with
    | none=>rfl
    | some o=>
      have z2:=s2 p4 o z;have b3:p4≠p3:=zb7 z2 hp3;rw[zb3 b3,z2] at hp4;cases hp4
  | cons n0 ns=>
    refine⟨_,rfl,vi9 ?_⟩;have s3:ww1 H (upd (upd (upd H p1 (.lst ((n0::ns).map V.int))) p2 (.lst ((n0::ns).map V.int))) p3 (.lst [])):=λb o e=>by
     have z2:=s2 b o e;have b3:b≠p3:=zb7 z2 hp3;rw[zb3 b3];exact z2
    exact fin _ p2 (n0::ns) s3 g2 (by rw[zb3 n23];exact zb4) rfl
open H in
def wf3(F:Fun K "_law_take" "_law_take" yf0 f fd)(hlen:mg "len" = none)(hdm:mg "divmod" = none):ww5 P w K mg base CX0 1 f fd ["_law_state","_law_many"] (spS (WdS p l) K wr7):=by
 refine F.ok zh2 (λvs H Q E h=>?_) (λcdv A outer s H vs Q E hr h=>?_)
 ·obtain⟨ds,us,st,rfl,i,ok,w⟩:=h
  unfold wr7 at w;split at w
  ·rw[Ax0,<-i.length];rfl
  ·exact w.elim
 ·obtain⟨ds,us,st,rfl,i,ok,w⟩:=h
  unfold wr7 at w;split at w
  ·rename_i many
   split at w
   ·rename_i hb
    obtain⟨v,r,ev,i1,i2⟩:=IsL.cons.mp i;rw[IsL.nil.mp i2,Is.int_iff.mp i1] at ev;subst ev;have hu:=wr3 hr;obtain⟨hp,hl,hne,h63,h0⟩:=id ok;have npl:p≠l:=va9 hp hl (by intro z;cases z);refine⟨_,zi5 (zu5 (i:=2) zh2.nd rfl (Or.inl rfl) (wr8 yr6 (zx3 hu (pv 0) zz3 (λ_ _=>rfl)) zl7)) (zi5 (xj7 hu (pv 0) zz3 (pv 2) rfl) (zi5 (zu5 (i:=3) zh2.nd rfl (Or.inl rfl) (wr8 yk2 (pv 2) (yd5 zc1 (by rfl) hlen PySem.boot_len (zi1 (zx3 hu (pv 0) zz3 (λ_ _=>rfl)) zp4)))) (zi5 (zu5 (i:=4) zh2.nd rfl (Or.inl rfl) (vf3 xo0 (zx3 hu (pv 0) zz3 (λ_ _=>rfl)) (pv 3) (λ_ _=>rfl))) (zi5 (vf2 (yw4 vn9 (pv 4) (wr8 xz8 zl7 zl7) (wa1 _)) (zi5 (yq9 (yd5 yy1 (by rfl) hdm boot_divmod (zi1 (pv 4) (zi1 (pv 1) zp4))) (yz5 (n:=2) rfl (zr7 (yz6 (zx3 hu (pv 0) zz3 (λ_ _=>rfl)) (pv 3) yd2) (zr7 (yn0 (i:=5) zh2.nd rfl (Or.inl rfl)) ym9)))) (yf3 (yq8 (pv 5)))) yw5) (zi5 (zu5 (i:=6) zh2.nd rfl (Or.inl rfl) (wr8 yk2 (wr8 yf5 (wr8 yr6 (wr8 yr6 (wr8 yk2 (pv 4) zl7) (wr8 yf5 (wr8 yf5 (pv 2) (pv 2)) zl7)) zl7) zl7) zl7)) (zi5 (zu5 (i:=6) zh2.nd rfl (Or.inl rfl) (wr8 yk2 (wr8 yf5 (pv 6) (pv 6)) zl7)) (yf3 (yq8 (wr8 yk2 (wr8 wf1 (wr8 yk2 (wr8 yf5 (wr8 yr6 (pv 6) (wr8 yf5 (pv 2) zl7)) zl7) zl7) zl7) (pv 1)))))))))),?_⟩;have n0:(0:Int)<(st.1.length:Int):=by
     have:st.1.length≠0:=λz=>hne (List.length_eq_zero_iff.mp z)
     omega
    have pl0:0<=(st.2+1) % (st.1.length:Int):=Int.emod_nonneg _ (by omega);have pl1:(st.2+1) % (st.1.length:Int)<(st.1.length:Int):=Int.emod_lt_of_pos _ n0;have ple:((plc st:Nat):Int)=(st.2+1) % (st.1.length:Int):=Int.toNat_of_nonneg pl0;have plt:plc st<st.1.length:=by omega
    have cel:(st.1.map V.int)[plc st]?=some (.int (st.1.getD (plc st) 0)):=by
     rw[Ai0,Ac0 plt,Bt0,Ac0 plt];rfl
    have H1p:∀o,(upd H p o) l=some (.lst (st.1.map V.int)):=λo=>by rw[zb3 npl.symm];exact hl
    have g0:wu9 H p (.str "turn") (some (.int st.2)):=by
     have q:=wu9.k (k:=(Sum.inr "turn" : Key)) hp;rw[xi2] at q;exact q
    have p0:vd6 H p (.str "turn") (.int (st.2+1)) (upd H p (.dK (stD l (st.2+1)))):=by
     have q:=vd6.k (k:=(Sum.inr "turn" : Key)) (v:=.int (st.2+1)) hp (by show 2<sizeLine;decide);rw[wj8] at q;exact q
    have gc:∀{H2:Hp},H2 p=some (.dK (stD l (st.2+1)))->wu9 H2 p (.str "cells") (some (.ref l)):=λ{H2} e=>by
     have q:=wu9.k (k:=(Sum.inr "cells" : Key)) e;rw[xu1] at q;exact q
    have lenI:(((st.1.map V.int).length:Nat):Int)=(st.1.length:Int):=by rw[Aa0]
    -- turn,its store,the place
    refine⟨_,rfl,p,.int st.2,rfl,g0,st.2,1,rfl,rfl,_,rfl,_,rfl,p,_,rfl,p0,?_⟩;refine⟨_,rfl,_,rfl,p,.ref l,rfl,gc zb4,l,_,rfl,.inl (SqL.of (H1p _)),st.2+1,_,rfl,rfl,by rw[lenI];exact n0,?_⟩
    -- the cell
    refine⟨_,rfl,p,.ref l,rfl,gc zb4,_,rfl,l,_,_,.int (st.1.getD (plc st) 0),rfl,rfl,SqL.of (H1p _),by rw[lenI,<-ple];exact yy3 cel,?_⟩;refine⟨_,rfl,10,18,rfl,rfl,⟨by decide,by decide,by decide⟩,st.1.getD (plc st) 0,_,rfl,rfl,_,rfl,?_⟩;have e18:((10:Int) ^ (18:Int).toNat)=1000000000000000000:=by decide
    by_cases hc:1000000000000000000<=st.1.getD (plc st) 0
    ·rw[if_pos hc] at w
     rw[e18,Am1 hc];refine vh5 ?_;refine⟨_,rfl,_,rfl,st.1.getD (plc st) 0,many,rfl,⟨hb.1,hb.2.1⟩,λq hq=>?_⟩;have qp:p≠q:=zb7 zb4 hq;have ql:l≠q:=zb7 (H1p _) hq;refine⟨q,_,rfl,SqT.of zb4,rfl,_,_,rfl,_,rfl,p,.ref l,rfl,gc (by rw[zb3 qp];exact zb4),_,rfl,l,_,_,plc st,rfl,rfl,by rw[zb3 ql];exact H1p _,?_,_,_,rfl,rfl,?_⟩
     ·rw[lenI,<-ple]
      unfold ixN;rw[if_pos (by omega),if_pos (by rw[Aa0];omega)];simp
     ·refine⟨_,rfl,w _ _ (λb o hb' nm=>?_) ⟨?_,?_,?_,?_,?_⟩ (Is.int_iff.mpr rfl)⟩
      ·have b1:b≠p:=λz=>nm (.inl z)
       have b2:b≠l:=λz=>nm (.inr z)
       have b3:b≠q:=λz=>by
        subst z;rw[zb3 b1,hb'] at hq;cases hq
       rw[zb3 b2,zb3 b3,zb3 b1];exact hb'
      ·rw[zb3 npl,zb3 qp];exact zb4
      ·rw[zb4]
       congr 2;rw[List.map_set]
      ·intro z
       have:=congrArg List.length z;rw[Bc0] at this;exact hne (List.length_eq_zero_iff.mp this)
      ·show (st.1.set _ _).length<=63
       rw[Bc0];exact h63
      ·show 0<=st.2+1
       omega
    ·rw[if_neg hc] at w
     rw[e18,Al1 hc];refine vi9 ?_;have tb:-(2 ^ 64)<st.2+1/\st.2+1<2 ^ 64:=⟨by omega,by omega⟩;have big:∀(j:Int),-(2 ^ 64)<j/\j<2 ^ 64->∀i:Int,va0 i j:=λj h i=>.inr h
     refine⟨_,rfl,st.1.getD (plc st) 0,2147483629,rfl,rfl,(by show (0:Int)<2147483629;decide),_,rfl,_,rfl,_,_,rfl,rfl,.inl tb,_,_,rfl,rfl,big _ ⟨by decide,by decide⟩ _,_,_,rfl,rfl,_,_,rfl,rfl,_,_,rfl,rfl,big _ ⟨by decide,by decide⟩ _,_,_,rfl,rfl,(by show (0:Int)<2147483647;decide),?_⟩;have m0:0<=vh4 (st.1.getD (plc st) 0) (st.2+1):=Int.emod_nonneg _ (by decide);have m1:vh4 (st.1.getD (plc st) 0) (st.2+1)<2147483647:=Int.emod_lt_of_pos _ (by decide);refine⟨_,rfl,_,rfl,vh4 (st.1.getD (plc st) 0) (st.2+1),vh4 (st.1.getD (plc st) 0) (st.2+1),rfl,rfl,.inl ⟨by omega,by omega⟩,_,_,rfl,rfl,(by show (0:Int)<2147483587;decide),?_⟩;refine⟨_,rfl,_,rfl,st.2+1,104729,rfl,rfl,big _ ⟨by decide,by decide⟩ _,vs4 (st.1.getD (plc st) 0) (st.2+1),_,rfl,rfl,_,39373,rfl,rfl,big _ ⟨by decide,by decide⟩ _,_,2147483629,rfl,rfl,(by show (0:Int)<2147483629;decide),_,64,rfl,rfl,⟨by decide,by decide⟩,_,rfl,vs3 (st.1.getD (plc st) 0) (st.2+1),many,rfl,rfl,hb.1,?_⟩;refine w _ _ (λb o hb' nm=>?_) ⟨zb4,H1p _,hne,h63,by show 0<=st.2+1;omega⟩ (Is.int_iff.mpr rfl);rw[zb3 (λz=>nm (.inl z))];exact hb'
   ·exact w.elim
  ·exact w.elim
end
set_option hygiene false
open Lean in
def mT:="A0rfl #2 #3 A0za2 #1 =50' #5 #6 #7 =500 #4 A0za1 ? #0 X @2.nd =ȹ0Ě =50$ =ȸ0J [1 Q00 =Ǳ1U #8 ==01 =50- =Ƚ0Ě =Ɂ0/ [2 #9 =50% A1gU_ =g0. =ȿ05 =:0ź !i =Ù0B =ʆ1Ǉ =Ƕ2Ƿ A0hr A1pv =ɝ0J =å0, =ɤ0I =]0K #12 =>0Û =e0ş =C1y [0 =~1D =Ⱦ0# =50) A;ya6 A1gL_ =E0) A1zr0 =~1: - =ɛ0# =~1~ [3 !j =e0Ɨ =^2^ !N' =Ƒ0ɷ =ɚ1I =w1D =Č0& =g0B =å05 A1g2_ =ɟ0# A2zc9 =ʙ12 =81Ó A0none =ɞ0# =Ǳ1Ǹ A<zx9 =b18 =p1& =j0Ć =`0* =Ǖ2ɖ =Ŷ1& =C1. =ǯ1' =ƾ0y A0zm9 #10 =ȼ0/ =i0? =Ì1. =ƅ0B A1DW.dt =ý0ĕ =^01 =ī0Ɲ A1some =Ɔ1. A0zw2 =é1Ō =ɂ0# A2wu7 =Ú1. A2vb2 =A0h =Ż0Ñ =Ǥ0Ç =ɜ0I =X0. A0ze8 =Ù0Ĕ =ǭ11 =50+ =ĺ0ĺ =Ņ0ş =ʂ0A '_law_cell #11 =R0- =Î1. A0hm.list A0boot_list =Ƃ0ǡ =ɍ0# =50? =Ś1ʴ =â1& =J0+ =ǻ3, A0zl0 =ƌ0S =Ő0p =ˋ0J =^08 =ʝ0M =]0Q =Á0â =50* =ʹ0o A1gT_ =y00 =ʿ1# =ǫ1N A0zm4 A0hm.sorted A0boot_sorted =ś0Ə =ò0ǰ @5 =Ĭ1Ǽ =ú1ƙ =ǂ0k A0hm.tuple A0boot_tuple =å04 =ʪ0Ə A2vj0 =Ƈ1. =ė1F =ɹ0ɺ =Ĝ1Ť =C0% =ˀ0Ò A0hm.int A0boot_int A2wq0 =Ê0ī =Ņ0û #14 A0wy8 =ˇ1ˈ A2wx1 =ʣ1Ƨ =Ē1. =ʘ0I =w1: =ʕ0# =ƈ0y =f1| .R A0wu5 A2ya7 =Ɗ0$ =m0$ =ʩ0E =ł2S [4 'x 'y 'held =ǚ00 Q21 =E0$ =Ʀ1& =E0- 'cell =ʉ0# =ǥ0Ǧ =ƞ6, =f1į A0zs5 =j0˖ A2ye1 =j0ǵ =Z0ˎ =ɘ3# A0hm.min A0boot_min =Ľ0Ľ =ˌ3Ƿ =Ʒ0ˍ =ʃ0& =˕0Ǎ =s01 =Č0Ô =Í0h =_0Û A0yb2 A0xd3 =ǹ5ö =ė0ƭ =þ0& =ǯ10 =È0t =w0Ã A2yi0 =ƀ2& =ň1˓ =50} =ǳ12 =Ĕ0ē '_law_there =ý15 =A0Ɔ =ɋ0E R1 =Ù0Ǿ =Ǿ1& =Ơ0V =Ŧ0* =ɠ0Ě =j0ť =>0Ş A2wv5 A1yc8 =Ă0ƕ =˔03 '_law_other @3 A0yg2 A0yg5 A0PySem.F.slot_list_extend A0PySem.F.type_list_extend =ĝ0Ǐ =ʱ0Ò =í2| =Ĵ0ư A5xp7 A0zv4 A1yp0 A0xl4 A0xl7 =ɻ3# =ʯ03 =ʫ0ŗ A0zy1 A0yw8 A0yw9 =ʭ0# =ʬ0Ǻ =ķ0ķ =Ė0Ƹ A@yx8 !k =Œ1Œ A1zd5 !ixs A0hm.dict A0boot_dict #13 #15 =ú1ě A0vf6 =ú1Ǣ A0zp7 A1yy0 =Ņ0Ɨ A2wt9 A2vg6 =Ǵ0Ĵ A0PassesOwn.never =ʌ0ʍ =Ƙ1Ƙ =ɭ1Ɖ A3yz6 A0yd2 =ɾ0ŗ =ʦ03 =ɵ0ɶ A1xq3 .list .tuple =ǻ3( '_law_one @4 =l0Ō =ɗ0# A2zd0 'j 'i =Á0L =ǹ5Ǽ Q02 =p1@ 'kind 'direction A1vh0 'other 'known =ˁ1Ű A0ze6 =ʟ0# '_law_j '_law_i '_law_place Q03 A1yl1 '_law_state '_law_broad =ʠ1. @6 @7 =ʳ2Ǻ '_law_taken #16 A1yr5 =ʷ1ų =ŏ0Ò A0vi4 A4xp8 A1yc9 A0xd2 =ɽ3ǈ =Ǵ0ŭ A2vs9 '_law_x '_law_y A2wx0 '_law_hall_here '_law_kind_here '_law_direction '_law_beside A0zc1 A0hm.len A0PySem.boot_len A3yo6 '_law_gone =ǰ1ƙ =ˊ03 '_law_stand =Ƌ2è A3xq0 A0hm.zip A:xc4 !gc =ǽ0. =ɔ0/ A2yq9 A0hv A2zr7 A0hk =R0' .dict =ǣ5Ĭ '_law_name '_law_found '_law_due A0zs1 =ʰ0I =ʞ0# =ʁ0c =>0o =ɥ0ɦ =ǧ00 =ǳ1ɡ .str A0hm.str A0boot_str =ƌ06 A1xq2 R2 =Ʉ0E =ɇ1I =ɐ03 =10ő =Ɉ11 =Ǯ2U A1gA_ =ɣ03 =ƚ1ƚ A0zn0 =ɼ0# =ǜ3d Q04 =ʖ0ʗ A1zq0 =ń0F =È0u A2xx9 A0cs.WALL A4wh7 A0hm.enumerate A5xp6 A?wh2 !tbl !a0 A0cs.STEPS A5wh9 A;wi0 A0wh5 Q05 A2yi5 A1wn7 A0wi4 A5wp0 A1xd5 A0hm.any A0boot_any A7wh3 A7wo4 A1wm3 A0wm5 A0PySem.F.slot_list_remove A0PySem.F.type_list_remove A0xr5 A0wi3 A2vw0 A1xr3 A2xr4 A1wi2 A7vd4 A0xa7 A1xz9 A2vp7 A6wh8 A:yx6 Q16 A2yz5 A0hl A0ym9 A6xg6 Q17 A2wo3 A5yx7 .int A2wo7 .bool A0hm.bool A0boot_bool A0xz8 A0vs2 A4wh4 @8 @9 @: A1za0 !ga A2za4 =ǭ0Ⱥ =Ȼ1/ !gb A1Or.inl A2wq1 A1za8 =Œ0ɀ Q18 A4zb0 =Ƀ2# A5za9 =Ʌ3J =Ɇ2# R3 A5zc3 =ɉ2# =Ɋ12 A4gX_ =Ɍ3Ë A7zc8 =Ɏ6# =ɏ1< A3wq6 =ǲ0ɑ =ɒ2/ =ɓ1/ A0zc5 =10ɕ A1zd4 A6wq7 A4zd6 =ə2# A2zg3 A1zf6 A1ze4 A3gP_ A3gp_ !g Q19 A6wr5 =ɢ1< A1wr3 Q1: Q3; =ǲ21 A6zi3 =ɧ0ɨ =ɩ5/ =ɪ4/ =ɫ3/ =ɬ2# A3zg5.scope =ɮ2Ƭ !osc =ɯ1ɰ A1za5 =ɱ1ɲ @0 =ɳ1ɴ !N @1 A0wr9 =ǵ1ɸ A0zk5 A6ws6 A1Or.inr =Ę4ǉ A2zo8 A7zi9 =ɿ4# =ʀ1Ż A2wy2 A2wy1 A1zo9 =ƽ2ʄ =ʅ2# A3zf8 A0hm.range =ʇ1ʈ A4zt8 =ʊ2# =ʋ1# !n A9zg4 =ʎ73 =ʏ4# A0hm.isinstance =ʐ3ʑ =ʒ2# A4gY_ =ʔ3Ë A1gI_ =ʓ1# A1zq6 =Ǯ2Ǹ A6zq1 =ʚ3< =ʛ23 =ʜ1J A1zz5 A1zn6 A2vc0 ={4Ā =ʡ3ÿ =ʢ2ƨ A7ya8 =ʤ6# =ʥ1< A8ww0 =ʧ7# =ʨ5J A1gB_ A2zy0 A1zs7 A1zp0 A5yi1 =ʮ1# A1yf6 =Ɛ1ƙ A1zs8 =ŧ2ʲ A1yh9 =ƈ4Ķ =ʵ3ĵ =ʶ2Ŵ =_2Ç =ʸ1Ç A0boot_all =Ƴ3ʺ A0hm.all =ʻ2ʼ A1yb3 =ʽ1ʾ =ǌ2& =Ů2ů A0PySem.F.type_list_append =ğ4˂ A0PySem.F.slot_list_append =˃3˄ A0zq9 =˅2ˆ A0zl8 A2yl0 =ˉ1& A1yb9 =Ƕ2ƚ =C1B =ǽ0ǔ A6yo7 =ˏ5Ë =ː2M =ˑ1< A1yo5 A3xc7 A2vk9 =˒03".splitOn " "|>.map String.toList|>.toArray
open Lean in
def mQ(a:Nat->Term):Nat->MacroM Term
  |0=>`(by decide)
  |1=>`(($(a 0), $(a 1)))
  |2=>`(-1)
  |3=>`(by decide +kernel)
  |4=>`(_)
  |5=>`(by simp)
  |6=>`(λhk hl hv=> $(a 0))
  |7=>`(λhk hv=> $(a 0))
  |8=>`(λ_ _=> $(a 0))
  |9=>`(show (($(a 0)):List Str).Nodup by decide +kernel)
  |10=>`(λav cl C s H fp=> $(a 0))
  |_=>`(⟨ $(a 0), $(a 1), $(a 2)⟩)
open Lean in
def mA(I:Array Syntax):Nat->Char->List Syntax->Nat->MacroM (List Syntax×Nat)
  |0,_,s,n=>pure (s,n)
  |f+1,c,s,n=>do
   let c:=c.toNat
   let p (k:Nat)(t:Syntax):MacroM (List Syntax×Nat):=pure (t::s.drop k,n)
   let a (k:Nat):Term:=⟨s[k]!⟩
   let N (x:List Char):=mkIdent (String.ofList x).toName
   match mT[if c<127 then c-35 else c-100]! with
   |['=',a,i,b]=>do
    let i:=i.toNat-48
    let (r,n)←mA I f b (s.drop i) n
    mA I f a (s.take i++r) n
   |'A'::k::x=>
    let k:=k.toNat-48
    p k (Syntax.mkApp (N x) ((s.take k).map TSyntax.mk).toArray)
   |'.'::x=>p 0 (mkNode ``Parser.Term.dotIdent #[mkAtom ".",N x])
   |'@'::k::x=>p 0 (mkIdent (I[k.toNat-48]!.getId++(String.ofList (x.drop 1)).toName))
   |'#'::x=>p 0 (Syntax.mkNumLit (String.ofList x))
   |'\''::x=>p 0 (Syntax.mkStrLit (String.ofList x))
   |'!'::x=>p 1 (mkNode ``Parser.Term.namedArgument #[mkAtom "(",N x,mkAtom ":=",s[0]!,mkAtom ")"])
   |['[',k]=>do
    let k:=k.toNat-48
    let x:TSyntaxArray `term:=((s.take k).map TSyntax.mk).toArray
    p k (←`([$x,*]))
   |'?'::_=>do
    let h:=mkIdent (Name.mkSimple s!"q{n}")
    return ((←`(?$h:ident)).raw::s,n+1)
   |'X'::_=>do p 1 (←`(tactic|exact $(a 0)))
   |['R',k]=>do
    let mut t←`(tactic|refine' $(a 0))
    let mut i:=1
    for x in s[0]!.topDown do
     if x.isOfKind ``Parser.Term.syntheticHole then
      let h:Ident:=⟨x[1]⟩
      let y:TSyntax `tactic:=⟨s[i]!⟩
      t←`(tactic|($t:tactic;case $h:ident=>$y:tactic))
      i:=i+1
    p i t
   |['Q',k,j]=>do p (k.toNat-48) (←mQ a (j.toNat-48))
   |_=>Macro.throwUnsupported
local macro_rules
 |`(tactic|exact $s:str $x*)=>do
  let mut r:List Lean.Syntax×Nat:=([],0)
  for c in s.getString.toList.reverse do
   r←mA x 99 c r.1 r.2
  return r.1[0]!
local macro_rules
 |`(command|example($m:ident $s:ident $n:ident $c:ident):$h:str:=$b:str)=>do
  let L(x:String):=do
   let y:=((x.splitOn " ").filter (·≠"")).map λz=>(Lean.Syntax.mkStrLit z:Lean.Term)
   let y:=y.toArray
   `([$y,*])
  let I(x:String):=Lean.mkIdent x.toName
  let w:=h.getString.splitOn "/"
  let c0:=w[0]!.front
  let d:=c0 != 'U'
  let k:=Lean.Syntax.mkNumLit (String.ofList (w[0]!.toList.drop 1))
  let x:=Lean.Syntax.mkStrLit w[1]!
  let u←if d then `(Dr) else `(Unit)
  let e←if c0=='U' then `(cx0 K H) else if c0=='D' then `(cxS (WdS p l) K H) else `(cxS (WdS p l) K (λ_=>none))
  let y←if c0=='L' then `((zc2 $s).drop 1) else `(zc2 $s)
  let mut t←`(∀f cdv A outer s H E,wr2 k (A.deeper (envOfC $x (za5 $s) s.heap.objs.size f cdv))->DSs (ws3 CX0 P w K mg base $n $x (za5 $s) f cdv A outer s H E).nox $e $y B)
  let mut G:Array Lean.Ident:=#[]
  let mut C:Array Lean.Ident:=#[]
  for z in w.drop 4 do
   C:=C.push (I s!"C{C.size}")
   G:=G.push (I s!"G{G.size}")
  for (z,i) in ((w.drop 4).zipIdx).reverse do
   let v:=z.splitOn " "
   let g:=G[i]!
   let y←if z.front=='D' then `(spS (WdS p l) K $g) else `(sp0 K $g)
   let q:=C[i]!
   t←`(∀($q:ident:zc4 P w K mg base k $(Lean.Syntax.mkStrLit (String.ofList (v[0]!.toList.drop 1))) $(←L (" ".intercalate (v.drop 1))) $y),$t)
  t←`(∀(hm:Bn mg) (cs:Cst K mg) k,$t)
  t←if d then `(∀P w K mg base (p l:Addr),$t) else `(∀P w K mg base,$t)
  let p:=if d then #[I "p",I "l"] else #[]
  return Lean.mkNullNode #[←`(command|abbrev $s:ident:Stmt:=top $k),←`(command|abbrev $n:ident:List Str:=$(←L (w[2]!++" "++w[3]!))),←`(command|def $c:ident:zd1 $n $(←L w[2]!) (za5 $s):=by and_intros),
   ←`(command|def $m:ident $[($G)]* :{B:FnS $u//$t}:=by
    refine⟨?B,?h⟩
    case h=>
     intro P w K mg base $p* hm cs k $C* f cdv A outer s H E hr
     exact $b $s $n $c $C*)]
set_option hygiene true
example(yi4 zu1 yg0 zq4):"U2/covered/kind place/x y cells i":="ÅĜK'ĝlĞlm%èn-[éÆm):ğ-ŠšŢţ-ĠġƛĢƜģġoÇ$Ç)Ç%ÆġƛĢƜģê(4Èp@,ë-"
example(yh6 zz0 yr7 zn7):"U3/holders/hall stand/held wall n kind cell/Ucovered kind place":="ì$ÉÊ]L%:í$@ǿȀ#[éȁ##ȂƝŤ-)=ÊîC)ï(;*:í$ð;ë$"
example(zv2 zl6 zu9 zn1):"U4/free_cells/hall stand/held cells x/Uholders hall stand":="^q$QR0'n%[éÆm-:ğ%ŠšŢţ%ƞ_ģĢĤñ-$SÆ_ģĢĤòȃ3<MAĥ4Aĥë%"
example(zr8 zn2 zz6 zw4):"U7/one_further/place direction/east north":="T1ȄȅġĦ'0Ħ0'ĦƟ0Ħ0Ɵħ`%Ȇ0##ȇ#2##UU(ËêL4ÈƠL"
example(zj3 zg7 zp5 zx2):"U9/without_trolleys/hall/":="DAÌLÌLÌLÍ."
example(yb8 zv7 yk3 yw3):"U10/floor_of/hall//Ufree_cells hall stand/Uwithout_trolleys hall":="DQÎaóÍ."
example(zm5 zg1 zm2 yb5):"U11/all_are_single/hall/":="DôĠ6ơ6o]L6ơťĨ,Ï"
example(zo4 zf5 zj7 zf0):"U12/neighbours_on/floor/known cell neighbours near/Uone_further place direction":="bq'Éõ00Ğ:Ŧ'48%Éõ00Ğ[1rĩc>ƢĪÐ$Sd#2##īBĬ>ƢĪöQĥ#í%4ƣŧĭ>ƤƥÑ'6-N->ƤƥòŨ3<M,(ũŪ#÷ø:ë%"
abbrev zu0:Stmt:=top 13
abbrev yf9:List Str:=["hall","floor","neighbours","ring","at","one","other","further"]
def zh6:zd1 yf9 ["hall"] (za5 zu0):=by and_intros
def yf1(G9)(E5):{ B:FnS Unit // ∀P w K mg base (hm:Bn mg) (cs:Cst K mg) k (E6:zc4 P w K mg base k "floor_of" ["hall"] (sp0 K G9)) (C4:zc4 P w K mg base k "neighbours_on" ["floor"] (sp0 K E5)) f cdv A outer s H E,wr2 k (A.deeper (envOfC "ring_of" (za5 zu0) s.heap.objs.size f cdv))->
 DSs (ws3 CX0 P w K mg base yf9 "ring_of" (za5 zu0) f cdv A outer s H E).nox (cx0 K H) (zc2 zu0) B }:=by
 refine⟨?B,λP w K mg base hm cs k E6 C4 f cdv A outer s H E hr=>?h⟩;case h=>
  refine' za4 ?q1 ?r1;case q1=>
   exact zc3 (i:=1) zh6.nd rfl (Or.inl rfl) (zd6 E6 hr rfl (wq1 (za0 (pv 0)) za1))
  case r1=>
  refine' za4 ?q2 ?r2;case q2=>
   exact yx7 (i:=2) zh6.nd rfl (Or.inl rfl) (vh0 (zd6 C4 hr rfl (wq1 (za0 (pv 1)) za1)))
  case r2=>
  refine' za4 ?q3 ?r3;case q3=>
   refine' wq6 ?t4 ?a4 ?b4;case t4=>exact(DW.dt (wv5 (gT_ (zc8 (ga:=.R) (gb:=.R) (zf6 hr) (zd4 rfl) (za0 (pv 1)) (gL_ za1) rfl)) (yh9 (zo8 (g:=.R) (wq7 (vc0 (zi9 (N':=["near"]) (ixs:=[none]) [] (zg5.scope (N:=yf9) (osc:=za5 zu0) (by decide +kernel)) rfl (wh6 (ze4 (pv 2))) (λav cl C s H fp=>⟨(zb0 (i:=0) (show (["near"]:List Str).Nodup by decide +kernel) rfl (Or.inl rfl)),zm4,(g2_ (ya8 (ga:=.R) (gb:=.R) (zq6 hr) (zd4 rfl) (gA_ (wq7 (wq1 (za0 (pv 0)) za1) zc1 (xr3 rfl) rfl hm.len PySem.boot_len)) za2 rfl))⟩)) za1) (xd5 rfl) (zs8 _) rfl hm.any boot_any)))))
   case a4=>
    refine' za8 ?q5;case q5=>
     exact zd5 zs5
   case b4=>
    exact zc5
  case r3=>
  refine' za4 ?q6 ?r6;case q6=>
   exact zc3 (i:=3) zh6.nd rfl (Or.inl rfl) (gL_ (wu7 (gX_ rfl (za0 (pv 1)) za2 (λ_ _=>rfl)) za1))
  case r6=>
  refine' za4 ?q7 ?r7;case q7=>
   exact zc3 (i:=4) zh6.nd rfl (Or.inl rfl) (g2_ (vd4 (ga:=.R) (gb:=.R) xa7 (xz9 rfl) (g2_ (xc5 (ga:=.R) (gb:=.R) (wr3 hr) (za0 (pv 2)) (gX_ rfl (za0 (pv 1)) za2 (λ_ _=>rfl)) (λ_ _=>rfl))) za2 (λ_ _=>rfl)))
  case r7=>
  refine' za4 ?q8 ?r8;case q8=>
   refine' yo6 PassesOwn.never ?t9 ?b9;case t9=>exact(gT_ (zc8 (ga:=.R) (gb:=.R) (zq6 hr) (zd4 rfl) (za0 (pv 4)) (gX_ rfl (za0 (pv 1)) za2 (λ_ _=>rfl)) rfl))
   case b9=>
    refine' za4 ?q10 ?r10;case q10=>
     exact ya7 (g2_ (xc5 (ga:=.R) (gb:=.R) (wr3 hr) (za0 (pv 2)) (za0 (pv 4)) (λ_ _=>rfl))) (vp8 (n:=2) rfl rfl (zc9 (zb0 (i:=5) zh6.nd rfl (Or.inl rfl)) (zc9 (zb0 (i:=6) zh6.nd rfl (Or.inl rfl)) zl0)))
    case r10=>
    refine' za4 ?q11 ?r11;case q11=>
     exact zc3 (i:=7) zh6.nd rfl (Or.inl rfl) (vp9 (zc8 (ga:=.R) (gb:=.R) (zf6 hr) (zd4 rfl) (za0 (pv 5)) (gY_ rfl (za0 (pv 3)) (yl0 (ga:=.R) za2) (λ_ _=>rfl)) rfl) ((xq1 (pv 6)).imm .F) ((xq1 (pv 5)).imm .F))
    case r11=>
    refine' za4 ?q12 ?r12;case q12=>
     exact ww0 (i:=3) zl8 zq9 PySem.F.slot_list_append PySem.F.type_list_append (pv 3) (za0 (pv 4)) rfl
    case r12=>
    refine' za8 ?q13;case q13=>
     exact yx7 (i:=4) zh6.nd rfl (Or.inl rfl) (ze4 (pv 7))
  case r8=>
  refine' za4 ?q14 ?r14;case q14=>
   refine' wq6 ?t15 ?a15 ?b15;case t15=>exact(gT_ (zc8 (ga:=.R) (gb:=.R) wy8 wu5 (gA_ (wq7 (wq1 (za0 (pv 3)) za1) zc1 (zo9 rfl) rfl hm.len PySem.boot_len)) (gA_ (wq7 (wq1 (za0 (pv 1)) za1) zc1 (zo9 rfl) rfl hm.len PySem.boot_len)) rfl))
   case a15=>
    refine' za8 ?q16;case q16=>
     exact zd5 zs5
   case b15=>
    exact zc5
  case r14=>
  refine' za8 ?q17;case q17=>
   exact yb9 (pv 3)
example(zu2 zl5 zu8 zj4):"U14/ring_order/hall stand/ring held order first/Uall_are_single hall/Uring_of hall/Uholders hall stand":="sĮùQó$aóĮúūŬ4įq%eûR0'Årĩc>ĪĤÐ%6$d#2##N$ü>ĪĤòŨ3<M,(İ(,#fýÒ;ÓA.T8)Ȉ3<#;&ŭþŮ;ůVŰƦ;V.ƧƨÿĀ"
example(zl3 zi2 zp9 zo1):"U18/_law_covered/_law_kind_here _law_place/_law_found _law_i":="^n$éÆm%:ğ$ŠšŢţ$Ġ_Ʃƪƫñ%'Æ_Ʃƪƫêā(Èpā,:ë$"
example(zq2 zl1 zw7 zt9):"U19/_law_room_of/_law_wide _law_high _law_kind_here/_law_across _law_up":="T1WE%`-#2##7##Htu,ātu(ā#ȉ3MıĲűŲ@;ı@ı;ı&Ȋ##ȋ77ƬāË"
example(zv5 zp2 yc4 zy9):"D20/_law_sized/_law_state _law_broad/_law_way/D_law_take _law_state _law_many":="sfĂ(ĳ$FfýÒ4&ĳfýÒ4&ĳDĳ"
example(zy5 zr6 yg1 ze3):"D21/_law_kind/_law_state _law_wide _law_high _law_broad/_law_sizes _law_across _law_up _law_ways _law_great/D_law_take _law_state _law_many":="b8-Xggggh1WYv#2##7##HĴă(Ąą;ųŴĵĶĴă4Ąą;ųŴĵĶ#8+ąXŵķ.wĂ@ì+ąXŵķ.Ŷ+ÔWYv#2##7##HĆ(F&#=Ŷ+ÔWYv#2##7##H&Ć4F#b89Fx9ŷYvŸ+#2###777###ĸ&Ć4ÕĹ$Ô#x9ŷYvŸ+#2###777###ĸĆ(ÕĹ'&Ô#x9ŷYvŸ+#2###777###ĸĹ'Ĺ$Ô#=Źź/Z/Öă//VÖă//ð1ă×ĄąƭØØĺĻ."
example(zy6 zi6 zo5 zc6):"D22/_law_hall/_law_state _law_broad _law_much/_law_wide _law_high _law_cells _law_shuts _law_taken _law_kinds _law_places _law_rooms _law_turn _law_kind_here _law_place _law_own _law_room _law_cell/D_law_sized _law_state _law_broad/U_law_covered _law_kind_here _law_place/D_law_take _law_state _law_many/D_law_kind _law_state _law_wide _law_high _law_broad/U_law_room_of _law_wide _law_high _law_kind_here":="ļćÙy'%-)aÚĈC-ĽBľ1rE*cĿƮƯŻñ0'6)d#2##N)üĿƮƯĉzûïXh{$ŀŁĊċ,#q+ŭưł6Û6o6*N*6ÛAC0Č|.Ȍ#ȍIȎżŽsn9?Ó8}&čĄŃńĎBB{'ŀŁĊċÜs8OŅƱĈÝ'žZÎĎņu@iOÞĎņu;iO8ďaROž8ſeƲĈÝO=ŇňŉĐG9ŊƀƁĲűŲŋ5ſ4ùƳłPƴÑ+6ďNďPƴjȏ3<M,(Ȑ#ȑȒì}ĲűŲŋ5ſ1đ995O~1đ??5ž=õďďŌƵ:Ŧ+5ƵDAÚĈC-Ēē*ō9ō?"
example(zk0 zf1 zj8 zc0):"D24/_law_single_hall/_law_state _law_size _law_there _law_most/_law_shuts _law_left _law_kinds _law_places _law_turn _law_cell _law_kind_here _law_ways _law_strong/U_law_covered _law_kind_here _law_place/D_law_take _law_state _law_many":="ļrĩcPŎÐ$Sd#2##îC'ľüPŎƂƶI,(,#){$ƃƄ#ßàn*n+TčÞƅņƷĈĔG$9=wŏĕ)ÓļȓE?`)2#UJ)ÞƅĔG)}ÏŇňƸ9&ŊáŐtÀÁÀVĉÂ[1ȔYȕIȖȗȘJ)ÍƆtÀÁÀő}UÏ1WEÜ`O#2##7##HÂÂ#[Źđ**/kŋ/ŒZ/ÖƇ//âXŵĽ.5Ü1ĄŃØØĻ.5Ođ++ãê(AĒē-ō*ō+"
example(zm7 zi4 zt6 zb8):"D23/_law_ring_hall/_law_state _law_small/_law_wide _law_high _law_x _law_y _law_there _law_cell _law_east _law_size _law_cells _law_way _law_most/D_law_take _law_state _law_many/U_law_covered _law_kind_here _law_place/D_law_single_hall _law_state _law_size _law_there _law_most":="b1Wħ`%#2##7##Hk&Fk&F#ĖĂ(Wħ`%#2##7##H&k&F#ĖĉFćÏ$%1Wĩ`)#2##7##Hœ&4œ&@#b8*ÉÊ]aÚR$%ÍÝ)+=ĖÃäái+AC-Ŕp;4ái+AC)ŔŕŖ×Ňňŉƹ4Ŋŉƹ@ĉF~1ƺŗMJ*Őt;Ŕŕ=Ê]Agh9:Ŗê;59Ŕŕ8?Zþp;4œu&4;þŕœu&@V.s8}aC?ľÜFxÜƺŗMJ*ėĘ*ƻ#Ƽ÷øÕƽ*șȚxÜŖėŋÕG}T8OâXgïXhƾțŘ4&.ŀŁĊċ{'ŀŁĊċĎC?ĒĘ*ƻ#Ƽ÷øyO"
example(zm6 zg2 zm3 zf4):"D32/_law_two_rings/_law_state/_law_there _law_x _law_y/U_law_covered _law_kind_here _law_place/D_law_take _law_state _law_many/D_law_single_hall _law_state _law_size _law_there _law_most":="ì'QƿÏƿZÎÂÞÂ.1ĜZńÂÞÂĝlĞlm%èT8'k(ĭĿǀǁñ$%SîÚhÍR$%ĿǀǁÄ,Őt(ņ4ĎÚhĒĘ'ũŪ#÷øB"
example(zt2 zn4 zz8 yi8):"U25/_law_behind/_law_place _law_direction/":="=Źź/Z/Öǂ//kLŃØĻB(1þLŃØĺĻ.(."
example(zy4 zo2 zx5 yq5):"U26/_law_open/_law_hall_here//U_law_covered _law_kind_here _law_place":="DĭPǃÑ0SîƇĨ,ľPǃƂƶI,å("
example(zt0 zj5 zs0 yi7):"U27/_law_single/_law_hall_here/":="DôĠ6Ǆ6o]L6ǄťĨ,Ï"
example(zy3 zf9 zi7 ze2):"U28/_law_ring/_law_hall_here _law_stand/_law_there _law_beside _law_cell _law_near _law_gone _law_here _law_further _law_order/U_law_open _law_hall_here/U_law_behind _law_place _law_direction/U_law_single _law_hall_here":="bq$Qóq%Éõ$$m-[1rYc>ǅÛÐ-Sd#2##īBĬ>ǅÛöaĥ#í%;ƣŧĭřŎÑ$6)N)řŎá,(ũŪ#÷øĮÃŚùeûóäŉĐG$ùôłPǆÑ%6$N$PǆŘƈÁİ(,ǇȜ#ǈǉ&sq*XĔĘ$ȝ#IȞ#ĵĶ+jȟ3<Ƞȡ#İ@i*&ËÖǊƉ//ŏĕ+i*ÅrE9cřǋÐ*Sd#2##Ȣ#İ@×üřǋǌĕ,ė(Ǎ,#1đ**×:ő+Ui9ĮƀĐG*G$ÅrE?cPǎÐ'6*d#2##N*üPǎá,(ȣ3<I#(,#ÖǊƉ//ÃŊŏĕ?ÓÄÀ&:ő?UkŮãů&ŰĨãDē?"
example(zs9 zn3 zz7 ze1):"U29/_law_stands/_law_hall_here _law_places/_law_wide _law_high _law_shuts _law_kinds _law_met _law_kind_here _law_place _law_cell/U_law_covered _law_kind_here _law_place":="ÅĜK0Ɗ-Ƌ$%Ǐ-)8*ÉTƌ>)'ǐ#ǑHK)K'Ť+9=ÊîR+9?[ęÃŚòŨ3<MãðŚáã;äśǒ3<ǓĚƁĐěě&À4śǒ3<ǓĚƁĐěě&À@Ŗã|"
example(zk1 zg8 zp6 zd7):"D30/_law_other_stand/_law_state _law_hall_here _law_stand/_law_places _law_turn _law_n _law_other _law_tried/D_law_take _law_state _law_many/U_law_stands _law_hall_here _law_places":="ì%{$ƃƄ#ßàčǔ-=wÄ@ÓÅWYv#2##7##HÕG%ÕG%#8+{%ƃƄ#ßà~ǕĉF:Ȥ#ææ3<VðAÌâ×ðï×V#ȥǖǗȦ#ǘƍæǙƎǘƍæȧƎȨ:ȩæ3<VZÎÙÁå(ÞÙÁå(ȪǖǗƍæǙƎ=ĖƏaǚ+ȫ6+ȬE%2#UK+Dē%"
abbrev zk9:Stmt:=top 31
abbrev zs1:List Str:=["_law_found","_law_due"]
def yq4:zd1 zs1 ["_law_found","_law_due"] (za5 zk9):=by and_intros
def zt1(C6):{ B:FnS Unit // ∀P w K mg base (hm:Bn mg) (cs:Cst K mg) k (B4:zc4 P w K mg base k "_law_same" ["_law_found","_law_due"] (sp0 K C6)) f cdv A outer s H E,wr2 k (A.deeper (envOfC "_law_same" (za5 zk9) s.heap.objs.size f cdv))->
 DSs (ws3 CX0 P w K mg base zs1 "_law_same" (za5 zk9) f cdv A outer s H E).nox (cx0 K H) (zc2 zk9) B }:=by
 refine⟨?B,λP w K mg base hm cs k B4 f cdv A outer s H E hr=>?h⟩;case h=>exact"bfúūŬ(įjƐūŬ,įwŜǛżŽTęÃäśĂçǛżŽÄG0G'ôǜ_ǝǞǟñ0'6'ƑǠN'_ǝǞǟöŝjƐǡǢ,(ƒQÌâ(,ï4,ŇäŜƓßàŜƔÿĀ^ęÄçƓßàƕƓßàęÃäÄçƔÿĀƕƔÿĀÄG0G'Dôǣ>ƖŞǤo>0'ƑǠǐ#ǑHK0K'ǥĝlǦ>ƖŞlǧ'>ƖŞèöQR0'fŜǨǩǪŝçǨǩǪƒŘ,(DŝçȭĊċŝȮ3çȯȰȱƒŘ,(" zk9 k zk9 B4
example(vg2 wu3 ww7 zm8):"L33/law/_law_script/_law_state _law_cases _law_turn _law_hall_here _law_stand _law_way _law_one _law_due/D_law_take _law_state _law_many/D_law_ring_hall _law_state _law_small/D_law_hall _law_state _law_broad _law_much/D_law_two_rings _law_state/D_law_other_stand _law_state _law_hall_here _law_stand/U_law_ring _law_hall_here _law_stand/U_law_same _law_found _law_due/Uring_order hall stand":="^n$čńzşB.%ļćzƗČ|.-)*zşBx*ćzûČ|ÈĲȲȳ&&-)x*ćzƱ.-)=ǫ)]ǬHK)zƲÝ)Ō+:ȴħJ$ǬĸK-K+eȵÝ+#TčB%=õ$$Ɗ%Ƌ-)Ƙ9è=ęùeȶÎeȷÝ)y9|"
section
variable{P:Program}{w:World}{K:PySem.W.Frag}{mg:Str->Option Value}{base:Heap}
open H in
def wl9(F:Fun K "law" "law" wu3 f fd){k:Nat}(CB:zc4 P w K mg base k "_law_begin" ["_law_script"] (yw0 K))(hb:∀(p l:Addr) (cdv:Value) (A:Around) (outer:List Env) (s:Shared) (H:Hp) (E:XK),wr2 k (A.deeper (envOfC "law" (za5 wu3) s.heap.objs.size f cdv))->DSs (ws3 CX0 P w K mg base ww7 "law" (za5 wu3) f cdv A outer s H E).nox (cxS (WdS p l) K (λ_=>none)) ((zc2 wu3).drop 1) B)(hB:∀ns:List Int,ns.length<=63->wpR (B (rhoL ww7.length) (zs6 ns,0)) (λfl _=>fl=.rt (.bl true)) λ_ _=>False):ww5 P w K mg base CX0 (k+1) f fd ["_law_script"] (spLaw K):=by
 refine F.ok zm8 (λvs H Q E h=>?_) (λcdv A outer s H vs Q E hr h=>?_)
 ·obtain⟨a,ns,rfl,_⟩:=h;rfl
 ·obtain⟨a,ns,rfl,hS,h63,q⟩:=h
  obtain⟨fa,fd',m1,m2,m3,m4⟩:=CB.ex;refine⟨_,zi5 (zu5 (i:=1) zm8.nd rfl (Or.inl rfl) (yw6 (E:=E0) m4 hr (by rfl) m1 m2 m3 .nil vf5 (zi1 (pv 0) zp4))) (we3 (K:=K) λp l=>hb p l cdv A outer s H E hr),?_⟩;refine⟨.ref a,rfl,a,ns,rfl,hS,h63,λp l H' sm hp hl h1 h2=>?_⟩;have cl:(zs6 ns).length<=63/\zs6 ns≠[]:=by
   unfold zs6;split
   ·exact⟨by decide,by simp⟩
   ·rename_i hne;exact⟨h63,hne⟩
  refine⟨p,l,rhoL ww7.length,(zs6 ns,0),vn0 (m:=ww7.length-2),⟨h1,h2,cl.2,cl.1,Bx0 0⟩,?_⟩;refine za6 (hB ns h63) (λfl st' e=>?_) λx st' e=>e.elim
  subst e;intro v H2 _ _ z;rw[Is.bl_iff.mp z];exact q H2
end
section
variable{S:Type}{E:Exn->S->Prop}{Q:Fl->S->Prop}{B:FnS S}
def xh4{g:FnG}(I:Nat->Rho->S->Prop){l:List D}{ρ:Rho}{st:S}(n:Nat)(h0:I n ρ st)(hs:∀i d ρ st,l[i]?=some d->I (n+i) ρ st->∀P:Fl->S->Prop,(∀ρ2 st',I (n+i+1) ρ2 st'->P (.nx ρ2) st')->(∀d st',Q (.rt d) st'->P (.rt d) st')->∃ρ1,g d ρ=some ρ1/\wpR (B ρ1 st) P E)(he:∀ρ st,I (n+l.length) ρ st->Q (.nx ρ) st):wpR (wz5 S g B l ρ st) Q E:=
 yv3 I n h0 (λi d ρ st h h'=>hs i d ρ st h h' _ (λ_ _ z=>z) λ_ _ z=>z) he
def zf3{g:FnG}(I:Nat->Rho->S->Prop){l:List D}{ρ:Rho}{st:S}(n:Nat)(h0:I n ρ st)(hs:∀i d ρ st,l[i]?=some d->I (n+i) ρ st->∀P:Fl->S->Prop,(∀ρ2 st',I (n+i+1) ρ2 st'->P (.nx ρ2) st')->∃ρ1,g d ρ=some ρ1/\wpR (B ρ1 st) P E)(he:∀ρ st,I (n+l.length) ρ st->Q (.nx ρ) st):wpR (wz5 S g B l ρ st) Q E:=
 yv3 I n h0 (λi d ρ st h h'=>hs i d ρ st h h' _ λ_ _ z=>z) he
def zk6{F G:FnS S}{ρ:Rho}{st:S}(I:Rho->S->Prop)(h1:∀P:Fl->S->Prop,(∀ρ1 st1,I ρ1 st1->P (.nx ρ1) st1)->wpR (F ρ st) P E)(h2:∀ρ1 st1,I ρ1 st1->wpR (G ρ1 st1) Q E):wpR (vh3 S F G ρ st) Q E:=
 wj1 I (h1 _ λρ1 st1 h=>⟨ρ1,rfl,h⟩) h2
def ye5{t:FnT S}{ρ:Rho}{st:S}(I:Rho->S->Prop)(μ:Rho->S->Nat)(h0:I ρ st)(hs:∀ρ st,I ρ st->∀(P:Fl->S->Prop) (Z:S->Prop),(∀ρ2 st2,I ρ2 st2->μ ρ2 st2<μ ρ st->P (.nx ρ2) st2)->(∀d st',Q (.rt d) st'->P (.rt d) st')->(∀st1,Q (.nx ρ) st1->Z st1)->wpR (t ρ st) (λb st1=>if b=true then wpR (B ρ st1) P E else Z st1) E):wpR (yj7 S t B ρ st) Q E:=
 xh1 I μ h0 λρ st h=>hs ρ st h _ (λst1=>Q (.nx ρ) st1) (λ_ _ a b=>⟨a,b⟩) (λ_ _ z=>z) λ_ z=>z
end
def yf7{i j:Int}(h:va0 i j):vf7 (.int i) (.int j)=some (.int (i*j)):=by
 unfold vf7;rw[wn6 h];rfl
abbrev wp6:=Int×Int
def wp5(p:wp6):D:=.tup [.int p.1,.int p.2]
def za7(p:wp6):(wp5 p).imm=true:=by simp[wp5,D.imm,D.immL]
def zw3(p:wp6):(wp5 p).dep<=1:=by simp[wp5,D.dep,D.depL]
def ws8(h:Int)(p:wp6)(i:Nat):List wp6:=(List.range h.toNat).map λ(j:Nat)=>(p.1+(i:Int),p.2+(j:Int))
def cov(w h:Int)(p:wp6):List wp6:=(List.range w.toNat).flatMap (ws8 h p)
def zi8{w h:Int}:q∈cov w h p↔p.1<=q.1/\q.1<p.1+w/\p.2<=q.2/\q.2<p.2+h:=by
 unfold cov ws8;simp only[List.mem_flatMap,List.mem_range,Bd0];constructor
 ·rintro ⟨i,hi,j,hj,rfl⟩
  refine⟨?_,?_,?_,?_⟩<;>simp<;>omega
 ·rintro ⟨h1,h2,h3,h4⟩
  refine⟨(q.1-p.1).toNat,by omega,(q.2-p.2).toNat,by omega,?_⟩;refine Prod.ext ?_ ?_<;>simp<;>omega
def zh8{w h:Int}:(cov w h p).length=w.toNat*h.toNat:=by
 unfold cov ws8;rw[List.length_flatMap];simp only[Aa0,Bw0,List.map_const',List.sum_replicate_nat]
def kd(w h:Int)(ways:Str)(s:Int):D:=.tup [.int w,.int h,.str ways,.int s]
def wa3{w h:Int}{ways:Str}{s:Int}:(kd w h ways s).imm=true:=by simp[kd,D.imm,D.immL]
def at0:atI [a,b,c,d] 0=some a:=rfl
def at1:atI [a,b,c,d] 1=some b:=rfl
def at2:atI [a,b,c,d] 2=some c:=rfl
def at3:atI [a,b,c,d] 3=some d:=rfl
def pt0:atI [a,b] 0=some a:=rfl
def pt1:atI [a,b] 1=some b:=rfl
def zh0:List D->Res Unit D:=dfn 4 2 zl3.1
def yn1(h1:D.immL m=true)(h2:l.length+m.length<=1000):vo1 l (.lst m)=some (l++m):=by
 show (if D.immL m=true/\l.length+m.length<=sizeLine then some (l++m) else none)=_;rw[if_pos ⟨h1,zd9 h2⟩]
def zn8{a b c d:Nat}(h1:a<=c)(h2:b<=d):a*b<=c*d:=Nat.mul_le_mul h1 h2
def yb4{w h:Int}{ways:Str}{s:Int}(hw:w<=30)(hh:h<=30)(h0:0<=w)(h1:0<=h)(hq:Q (.lst ((cov w h p).map wp5)) ()):wpR (zh0 [kd w h ways s,wp5 p]) Q E:=by
 refine zj2 rfl (by decide) ?_;unfold zl3;dsimp only;simp?! [zb9,wv4,kd,oIx,at0,at1];rw[zd8 (by omega) h0];refine zf3 (λi ρ st'=>∃x,ρ=[.bor (kd w h ways s),.bor (wp5 p),.own (.lst (((List.range i).flatMap (ws8 h p)).map wp5)),x]) 0 ⟨_,rfl⟩ (λi d ρ st' hd hI P pn=>?_) λρ st' hI=>?_
 ·obtain⟨x,e⟩:=hI
  obtain⟨rfl,hi⟩:=ze9 hd;subst e;have him:∀i:Nat,D.immL (((List.range i).flatMap (ws8 h p)).map wp5)=true:=λi=>zb1 za7 _
  refine⟨_,rfl,?_⟩;simp?! [zb9,wq5,him,kd,oIx,at0,at1];rw[zd8 (by omega) h1];refine zk8 (λd=>match d with | .int j=>wp5 (p.1+(i:Int),p.2+j) | _=>.non) (λρ=>∃x,ρ=[x,.bor (.int (0+(i:Int))),.bor (wp5 p)]) ⟨_,rfl⟩ (λd hd ρ hI130=>?_) (zd9 (by rw[zd3];omega)) ?_
  ·obtain⟨x,e⟩:=hI130
   subst e;obtain⟨j,hj⟩:=List.getElem?_of_mem hd;obtain⟨rfl,hj'⟩:=ze9 hj;refine⟨_,rfl,⟨_,rfl⟩,⟨rfl,rfl⟩,?_⟩;simp?! [zb9,wp5,oIx,pt0,pt1,wq3,wr4,ws5];simp
  ·have e:(zl4 0 h.toNat).map (λd=>match d with | .int j=>wp5 (p.1+(i:Int),p.2+j) | _=>D.non)=(ws8 h p i).map wp5:=by
    unfold zl4 ws8;rw[Bg0,Bg0];refine By0 λj _=>?_
    simp[wp5]
   rw[e];refine⟨_,yn1 (zb1 za7 _) ?_,pn _ _ ⟨.bor (.int (0+(i:Int))),?_⟩⟩
   ·rw[Aa0,Aa0,List.length_flatMap]
    unfold ws8;simp only[Aa0,Bw0,List.map_const',List.sum_replicate_nat];have:i*h.toNat<=29*30:=zn8 (by omega) (by omega);omega
   ·rw[List.range_succ,Bz0,Am0]
    simp[kd]
 ·obtain⟨x,e⟩:=hI
  subst e;rw[zd3,Ah0];have him:∀i:Nat,D.immL (((List.range i).flatMap (ws8 h p)).map wp5)=true:=λi=>zb1 za7 _
  simp?! [zb9,him];exact hq
def vf0:List D->Res Unit D:=dfn 5 3 zq2.1
def yj8(wide high w h:Int)(ways:Str):Int:=if ways = "any" then (wide-w+1)*(high-h+1) else if ways = "row" then wide-w+1 else if ways = "column" then high-h+1 else 1
def wy3(x:Str):Prop:=x = "any"\/x = "row"\/x = "column"\/x = "none"
def wc2{wide high w h:Int}{ways:Str}{s:Int}(h1:0<=wide-w)(h2:wide-w<=100)(h3:0<=high-h)(h4:high-h<=100)(hw:wy3 ways)(hq:Q (.int (yj8 wide high w h ways)) ()):wpR (vf0 [.int wide,.int high,kd w h ways s]) Q E:=by
 refine zj2 rfl (by decide) ?_;unfold zq2;dsimp only;have cm:va0 (wide-w+1) (high-h+1):=.inl ⟨by omega,by omega⟩;simp?! [zb9,kd,oIx,at0,at1,at2,wr4,wq3,vj8,yf7 cm];have pk:wy6 ways ["any","row","column","none"] [D.int ((wide-w+1)*(high-h+1)),D.int (wide-w+1),D.int (high-h+1),D.int 1]=some (.int (yj8 wide high w h ways)):=by
  rcases hw with e | e | e | e<;>subst e<;>rfl
 rw[pk];exact⟨.inl imm_int,hq⟩
def xi6:List D->Dr->Res Dr D:=wz7 3 2 (zv5 wr7).1
theorem xs6{B5:Bool}{st:Dr}{Q:D->Dr->Prop}{E:Exn->Dr->Prop}(hs:st.2<2 ^ 39)(h:∀(w h:Int) st',1<=w->w<=9->1<=h->h<=9->(B5=true->5<=w/\4<=h)->st'.2<=st.2+3->Q (.tup [.int w,.int h]) st'):wpR (xi6 [.bl B5] st) Q E:=by
 refine zw8 rfl (by decide) ?_;unfold zv5;dsimp only;simp?! [zb9];cases B5 with
 | true=>
   simp?! [zb9];refine zb6 (by decide) (by decide) (by omega) λv1 st1 a1 b1 c1=>?_
   simp?! [wq3,wr4,zb9];refine zb6 (by decide) (by decide) (by omega) λv2 st2 a2 b2 c2=>?_
   simp?! [wq3,wr4,zb9,ws5];exact h _ _ _ (by omega) (by omega) (by omega) (by omega) (λ_=>⟨by omega,by omega⟩) (by omega)
 | false=>
   simp?! [zb9];refine zb6 (by decide) (by decide) (by omega) λv1 st1 a1 b1 c1=>?_
   simp?! [oEq,D.dep,D.eqq,Be0,Ay0,zb9];split
   ·refine zb6 (by decide) (by decide) (by omega) λv2 st2 a2 b2 c2=>?_
    simp?! [wq3,wr4,zb9];refine zb6 (by decide) (by decide) (by omega) λv3 st3 a3 b3 c3=>?_
    simp?! [wq3,wr4,zb9,ws5];exact h _ _ _ (by omega) (by omega) (by omega) (by omega) (λe=>by cases e) (by omega)
   ·split
    ·refine zb6 (by decide) (by decide) (by omega) λv2 st2 a2 b2 c2=>?_
     simp?! [wq3,wr4,zb9];refine zb6 (by decide) (by decide) (by omega) λv3 st3 a3 b3 c3=>?_
     simp?! [wq3,wr4,zb9,ws5];exact h _ _ _ (by omega) (by omega) (by omega) (by omega) (λe=>by cases e) (by omega)
    ·refine zb6 (by decide) (by decide) (by omega) λv2 st2 a2 b2 c2=>?_
     simp?! [wq3,wr4,zb9];refine zb6 (by decide) (by decide) (by omega) λv3 st3 a3 b3 c3=>?_
     simp?! [wq3,wr4,zb9,ws5];exact h _ _ _ (by omega) (by omega) (by omega) (by omega) (λe=>by cases e) (by omega)
def yj6{v:Int}(h0:0<=v)(h1:v<6):∃s:Int,oIx (.lst [.int 1,.int 1,.int 1,.int 2,.int 2,.int 3]) (.int v)=some (.int s)/\1<=s/\s<=3:=by
 obtain⟨d,hd,e⟩:=yk8 (l:=[.int 1,.int 1,.int 1,.int 2,.int 2,.int 3]) (by simp[D.immL,D.imm]) h0 (by simpa using h1);rw[e];simp only[Aj0,Ao0,or_false] at hd;rcases hd with r | r | r | r | r | r<;>subst r<;>exact⟨_,rfl,by decide,by decide⟩
def xe2{v:Int}(h0:0<=v)(h1:v<6):∃s:Str,oIx (.lst [.str "any",.str "any",.str "row",.str "column",.str "row",.str "none"]) (.int v)=some (.str s)/\wy3 s:=by
 obtain⟨d,hd,e⟩:=yk8 (l:=[.str "any",.str "any",.str "row",.str "column",.str "row",.str "none"]) (by simp[D.immL,D.imm]) h0 (by simpa using h1);rw[e];simp only[Aj0,Ao0,or_false] at hd;rcases hd with r | r | r | r | r | r<;>subst r<;>exact⟨_,rfl,by simp[wy3]⟩
def xe1{v:Int}(h0:0<=v)(h1:v<6):∃s:Str,oIx (.lst [.str "row",.str "column",.str "row",.str "column",.str "any",.str "none"]) (.int v)=some (.str s)/\wy3 s:=by
 obtain⟨d,hd,e⟩:=yk8 (l:=[.str "row",.str "column",.str "row",.str "column",.str "any",.str "none"]) (by simp[D.immL,D.imm]) h0 (by simpa using h1);rw[e];simp only[Aj0,Ao0,or_false] at hd;rcases hd with r | r | r | r | r | r<;>subst r<;>exact⟨_,rfl,by simp[wy3]⟩
def yv9{v:Int}(h0:0<=v)(h1:v<6):∃s:Int,oIx (.lst [.int 0,.int 0,.int 1,.int 1,.int 1,.int (-1)]) (.int v)=some (.int s)/\(s=0\/s=1\/s=-1):=by
 obtain⟨d,hd,e⟩:=yk8 (l:=[.int 0,.int 0,.int 1,.int 1,.int 1,.int (-1)]) (by simp[D.immL,D.imm]) h0 (by simpa using h1);rw[e];simp only[Aj0,Ao0,or_false] at hd;rcases hd with r | r | r | r | r | r<;>subst r<;>exact⟨_,rfl,by decide⟩
def vc8(h1:a.imm=true)(h2:b.imm=true)(h3:c.imm=true)(h4:d.imm=true):wt6 [a,b,c,d]=some (.tup [a,b,c,d]):=xl9 (by simp[D.immL,h1,h2,h3,h4]) (by simp)
def vg3:List D->Dr->Res Dr D:=wz7 9 4 (zy5 wr7).1
def wy0(a b:Int):Int:=if b<a then b else a
def yk4{a b:Int}:xm1 (λi j=>if j<i then j else i) [.int a,.int b]=some (.int (wy0 a b)):=rfl
def zx6{a b:Int}:wy0 a b<=a/\wy0 a b<=b/\(wy0 a b=a\/wy0 a b=b):=by unfold wy0;split<;>omega
def wc6{wide high:Int}{B5:Bool}{st:Dr}{Q:D->Dr->Prop}{E:Exn->Dr->Prop}(hs:st.2<2 ^ 39)(h1:1<=wide)(h2:wide<=9)(h3:1<=high)(h4:high<=9)(hb:B5=true->5<=wide/\4<=high)(h:∀(a u:Int) (ways:Str) (s:Int) st',1<=a->a<=wide->1<=u->u<=high->wy3 ways->(s=0\/s=1\/s=-1)->st'.2<=st.2+11->Q (kd a u ways s) st'):wpR (vg3 [.int wide,.int high,.bl B5] st) Q E:=by
 refine zw8 rfl (by decide) ?_;unfold zy5;dsimp only;simp_all!;simp! [zr9];simp_all!;simp!;refine zb6 (by decide) (by decide) (by omega) λv1 st1 a1 b1 c1=>?_
 obtain⟨s1,e1,l1,u1⟩:=yj6 a1 b1;simp! [e1,yk4];refine zb6 (by decide) (by decide) (by omega) λv2 st2 a2 b2 c2=>?_
 obtain⟨s2,e2,l2,u2⟩:=yj6 a2 b2;simp! [e2,yk4];simp_all!;simp! [zr9];refine zb6 (by decide) (by decide) (by omega) λv3 st3 a3 b3 c3=>?_
 obtain⟨x1,e3,w1⟩:=xe2 a3 b3;simp! [e3];have m1:=zx6 (a:=wide) (b:=s1);have m2:=zx6 (a:=high) (b:=s2);generalize wy0 wide s1=A1 at m1;generalize wy0 high s2=A2 at m2;refine zk6 (λρ st'=>∃(a u:Int) (x:Str) (y:Sl),ρ=[Sl.hnd,.bor (.int wide),.bor (.int high),.bor (.bl B5),.own (.lst [.int 1,.int 1,.int 1,.int 2,.int 2,.int 3]),.bor (.int a),.bor (.int u),.bor (.str x),y]/\1<=a/\a<=wide/\1<=u/\u<=high/\wy3 x/\st'.2<=st.2+6) ?_ ?_
 ·intro P1 pn1
  simp!;cases B5 with
  | false=>
    simp!;exact pn1 _ _ ⟨A1,A2,x1,_,rfl,by omega,by omega,by omega,by omega,w1,by omega⟩
  | true=>
    obtain⟨k1,k2⟩:=hb rfl;rw[if_pos rfl,zb9];simp! [zr9];refine zb6 (by decide) (by decide) (by omega) λv4 st4 a4 b4 c4=>?_
    obtain⟨x2,e4,w2⟩:=xe1 a4 b4;simp! [e4];refine zk6 (λρ st'=>∃(a u:Int) (y:Sl),ρ=[Sl.hnd,.bor (.int wide),.bor (.int high),.bor (.bl true),.own (.lst [.int 1,.int 1,.int 1,.int 2,.int 2,.int 3]),.bor (.int a),.bor (.int u),.bor (.str x2),y]/\1<=a/\a<=wide/\1<=u/\u<=high/\st'.2<=st4.2+1) ?_ ?_
    ·intro P2 pn2
     simp! [oEq,D.dep,D.eqq,Be0,Ay0];split
     ·refine zb6 (by decide) (by decide) (by omega) λv5 st5 a5 b5 c5=>?_
      simp! [wr4];exact pn2 _ _ ⟨_,_,_,rfl,by omega,by omega,by omega,by omega,by omega⟩
     ·exact pn2 _ _ ⟨A1,A2,_,rfl,by omega,by omega,by omega,by omega,by omega⟩
    ·rintro ρ1 st5 ⟨a,u,y,rfl,g1,g2,g3,g4,g5⟩
     simp! [oEq,D.dep,D.eqq,Be0,Ay0];split
     ·refine zb6 (by decide) (by decide) (by omega) λv5 st6 a5 b5 c5=>?_
      simp! [wr4];exact pn1 _ _ ⟨_,_,_,_,rfl,by omega,by omega,by omega,by omega,w2,by omega⟩
     ·exact pn1 _ _ ⟨a,u,_,_,rfl,by omega,by omega,by omega,by omega,w2,by omega⟩
 ·rintro ρ1 st4 ⟨a,u,x,y,rfl,g1,g2,g3,g4,g5,g6⟩
  simp_all!;simp!;refine zb6 (by decide) (by decide) (by omega) λv4 st5 a4 b4 c4=>?_
  simp!;refine zk6 (λρ st'=>∃(a u:Int) (x:Str),ρ=[Sl.hnd,.bor (.int wide),.bor (.int high),.bor (.bl B5),.own (.lst [.int 1,.int 1,.int 1,.int 2,.int 2,.int 3]),.bor (.int a),.bor (.int u),.bor (.str x),.bor (.int v4)]/\1<=a/\a<=wide/\1<=u/\u<=high/\wy3 x/\st'.2<=st5.2+1) ?_ ?_
  ·intro P3 pn3
   simp! [oEq,D.dep,D.eqq,Be0,Ay0];split
   ·have m3:=zx6 (a:=high) (b:=3)
    simp! [yk4];generalize wy0 high 3=B at m3;refine zb6 (by omega) (by omega) (by omega) λv5 st6 a5 b5 c5=>?_
    simp! [wr4];exact pn3 _ _ ⟨_,_,_,rfl,by omega,by omega,by omega,by omega,by simp[wy3],by omega⟩
   ·exact pn3 _ _ ⟨a,u,x,rfl,by omega,by omega,by omega,by omega,g5,by omega⟩
  ·rintro ρ1 st6 ⟨a,u,x,rfl,g1,g2,g3,g4,g5,g7⟩
   refine zk6 (λρ st'=>∃(a u:Int) (x:Str),ρ=[Sl.hnd,.bor (.int wide),.bor (.int high),.bor (.bl B5),.own (.lst [.int 1,.int 1,.int 1,.int 2,.int 2,.int 3]),.bor (.int a),.bor (.int u),.bor (.str x),.bor (.int v4)]/\1<=a/\a<=wide/\1<=u/\u<=high/\wy3 x/\st'.2<=st6.2+1) ?_ ?_
   ·intro P4 pn4
    simp! [oEq,D.dep,D.eqq,Be0,Ay0];split
    ·have m3:=zx6 (a:=wide) (b:=3)
     simp! [yk4];generalize wy0 wide 3=B at m3;refine zb6 (by omega) (by omega) (by omega) λv5 st7 a5 b5 c5=>?_
     simp! [wr4];exact pn4 _ _ ⟨_,_,_,rfl,by omega,by omega,by omega,by omega,by simp[wy3],by omega⟩
    ·exact pn4 _ _ ⟨a,u,x,rfl,by omega,by omega,by omega,by omega,g5,by omega⟩
   ·rintro ρ1 st7 ⟨a,u,x,rfl,g1,g2,g3,g4,g5,g8⟩
    refine zk6 (λρ st'=>∃(a u:Int) (x:Str),ρ=[Sl.hnd,.bor (.int wide),.bor (.int high),.bor (.bl B5),.own (.lst [.int 1,.int 1,.int 1,.int 2,.int 2,.int 3]),.bor (.int a),.bor (.int u),.bor (.str x),.bor (.int v4)]/\1<=a/\a<=wide/\1<=u/\u<=high/\wy3 x/\st'.2<=st7.2) ?_ ?_
    ·intro P5 pn5
     simp! [oEq,D.dep,D.eqq,Be0,Ay0];split
     ·have m3:=zx6 (a:=wide) (b:=4)
      have m4:=zx6 (a:=high) (b:=4);simp! [yk4];generalize wy0 wide 4=B at m3;generalize wy0 high 4=B' at m4;exact pn5 _ _ ⟨_,_,_,rfl,by omega,by omega,by omega,by omega,by simp[wy3],by omega⟩
     ·exact pn5 _ _ ⟨a,u,x,rfl,by omega,by omega,by omega,by omega,g5,by omega⟩
    ·rintro ρ1 st8 ⟨a,u,x,rfl,g1,g2,g3,g4,g5,g9⟩
     simp! [zr9];refine zb6 (by decide) (by decide) (by omega) λv5 st9 a5 b5 c5=>?_
     obtain⟨s5,e5,w5⟩:=yv9 a5 b5;simp! [e5,vc8];exact h a u x s5 st9 g1 g2 g3 g4 g5 w5 (by omega)
structure Tr where
 w:Int
 h:Int
 ways:Str
 s:Int
 x:Int
 y:Int
def Tr.kind(t:Tr):D:=kd t.w t.h t.ways t.s
def Tr.place(t:Tr):D:=wp5 (t.x,t.y)
def Tr.cells(t:Tr):List wp6:=cov t.w t.h (t.x,t.y)
structure vu0(wide high:Int)(sh:List wp6)(t:Tr):Prop where
 w1:1<=t.w
 h1:1<=t.h
 x0:0<=t.x
 xw:t.x+t.w<=wide
 y0:0<=t.y
 yh:t.y+t.h<=high
 ways:wy3 t.ways
 st:t.s=0\/t.s=1\/t.s=-1
 free:∀c∈t.cells,c∉sh
structure xs3(wide high:Int)(sh:List wp6)(ts:List Tr):Prop where
 w1:1<=wide
 w9:wide<=9
 h1:1<=high
 h9:high<=9
 sub:sh.Sublist (cov wide high (0,0))
 few:ts.length<=12
 tr:∀t∈ts,vu0 wide high sh t
 apart:ts.Pairwise λa b=>∀c∈a.cells,c∉b.cells
def wp7(wide high:Int)(sh:List wp6)(ts:List Tr):D:=.tup [.int wide,.int high,.tup (sh.map wp5),.tup (ts.map Tr.kind)]
def ze0(ts:List Tr):D:=.tup (ts.map Tr.place)
def zn5(t:Tr):t.kind.imm=true:=wa3
def zz2(t:Tr):t.place.imm=true:=za7 _
def ck(c:wp6):List Key:=[.inl c.1,.inl c.2]
def zd2(c:wp6):zc7 (wp5 c)=some (ck c):=rfl
def yu4(h:ck a=ck b):a=b:=by
 unfold ck at h;have h1:a.1=b.1/\a.2=b.2:=by simpa using h
 exact Prod.ext h1.1 h1.2
def inT(T:List wp6)(k:List Key):Prop:=∃c∈T,ck c=k
def wa5:inT T (ck c)↔c∈T:=⟨λ⟨d,hd,e⟩=>by rw[<-yu4 e];exact hd,λh=>⟨c,h,rfl⟩⟩
def yb1{w h:Int}(hw:w<=9)(hh:h<=9):(cov w h p).length<=81:=by
 rw[zh8];exact zn8 (c:=9) (d:=9) (by omega) (by omega)
def vs6(T:List wp6):D->D
 | .tup [.int x,.int y]=>.bl (decide ((x,y)∈T))
 | _=>.non
def xx2(T:List wp6)(l:List wp6):(l.map wp5).map (vs6 T)=l.map λc=>.bl (decide (c∈T)):=by rw[Bg0];rfl
def vg4:List D->Dr->Res Dr D:=wz7 17 3 (zy6 xi6 zh0 wr7 vg3 vf0).1
def wx7(d:D):D:=.tup [d,.bl true]
theorem xf1(l:List wp6):zw5 ((l.map wp5).map wx7)=some (l.map λc=>(ck c,.bl true)):=by
 induction l with
 | nil=>rfl
 | cons c l ih=>
   show zw5 (.tup [wp5 c,.bl true]::(l.map wp5).map wx7)=_;unfold zw5;rw[if_pos (by simp[D.imm]),zd2,ih];rfl
open H in
def wc7{B5:Bool}{much:Int}{st:Dr}{Q:D->Dr->Prop}{E:Exn->Dr->Prop}(hs:st.2<2 ^ 38)(hm1:1<=much)(hm2:much<=1000000000000)(hq:∀wide high sh ts st',xs3 wide high sh ts->st'.2<=st.2+500->Q (.tup [wp7 wide high sh ts,ze0 ts]) st'):wpR (vg4 [.bl B5,.int much] st) Q E:=by
 refine zw8 rfl (by decide) ?_;unfold zy6;dsimp only;simp_all!;simp!;refine xs6 (by omega) λwide high st1 w1 w9 h1 h9 hb t1=>?_
 simp!;simp_all!;simp! [vc8,ws5];refine yb4 (ways:="none") (s:=0) (p:=(0,0)) (by omega) (by omega) (by omega) (by omega) ?_;simp! [zb1 za7];simp_all!;simp!;have hc81:(cov wide high (0,0)).length<=81:=yb1 w9 h9;refine yd1 (λn acc ρ st'=>∃sh x,acc=sh.map wp5/\sh.Sublist ((cov wide high (0,0)).take n)/\ρ=[x,Sl.hnd,.bor (.bl B5)]/\st'.2<=st1.2+n) 0 ⟨[],_,rfl,by simp,rfl,by simp⟩ (λi d acc ρ st' hd hI=>?_) λacc ρ st' hI=>?_
 ·obtain⟨sh,x,e1,e2,e3,e4⟩:=hI
  rw[Ai0] at hd;cases q:(cov wide high (0,0))[i]? with
  | none=>rw[q] at hd;cases hd
  | some c=>
    rw[q] at hd;cases hd;subst e1 e3;have hi:i<(cov wide high (0,0)).length:=(Ae0.mp q).1;have hsl:=e2.length_le;rw[Aw0] at hsl;have tk:(cov wide high (0,0)).take (i+1)=(cov wide high (0,0)).take i++[c]:=by rw[Bj0,q];rfl
    rw[Ah0] at e2 e4;refine⟨_,rfl,?_⟩;simp! [vi7,vi6,xn9];have tk2:∃m:Int,(if B5=true then D.int 20 else D.int 9)=.int m/\0<m/\m<1073741824:=by
     split
     ·exact⟨_,rfl,by decide,by decide⟩
     ·exact⟨_,rfl,by decide,by decide⟩
    obtain⟨m,em,m0,m1⟩:=tk2;rw[em];refine zb6 m0 m1 (by omega) λv st2 a2 b2 c2=>?_
    simp! [oEq,D.dep,D.eqq,Be0,Ay0];split
    ·refine⟨za7 c,lt_size (by rw[Aa0];omega),sh++[c],_,by rw[Am0];rfl,?_,rfl,by omega⟩
     rw[tk];exact e2.append (List.Sublist.refl _)
    ·refine⟨sh,_,rfl,?_,rfl,by omega⟩
     rw[tk];exact e2.trans (List.sublist_append_left _ _)
 ·obtain⟨sh,x,e1,e2,e3,e4⟩:=hI
  subst e1;rw[Ah0,Aa0,Bb0] at e2;rw[Ah0,Aa0] at e4;have hsh:sh.length<=81:=Ap0 e2.length_le hc81;simp! [zb1 za7];simp_all!;simp!;refine zk8 wx7 (λρ=>∃x,ρ=[x]) ⟨_,rfl⟩ (λd hd ρ hI131=>?_) (zd9 (by rw[Aa0];omega)) ?_
  ·obtain⟨x,e⟩:=hI131
   subst e;obtain⟨c,hc,rfl⟩:=Bd0.mp hd;refine⟨_,rfl,⟨_,rfl⟩,⟨rfl,rfl⟩,?_⟩;simp! [ws5,za7,wx7]
  ·have od:vg0 [.lst ((sh.map wp5).map wx7)]=some (.dct (.non::(zk4 (sh.map λc=>(ck c,.bl true)) ([],[])).1) (zk4 (sh.map λc=>(ck c,.bl true)) ([],[])).2):=by
    show (if ((sh.map wp5).map wx7).length<sizeLine then (zw5 ((sh.map wp5).map wx7)).map _ else none)=_;rw[if_pos (lt_size (by simp;omega)),xf1];rfl
   have hh:=Holds.all (ps:=sh.map λc=>(ck c,D.bl true)) (Holds.nil (n:=0)) (λp hp=>by obtain⟨c,_,rfl⟩:=Bd0.mp hp;exact imm_bl);have hT:Holds (.dct (.non::(zk4 (sh.map λc=>(ck c,.bl true)) ([],[])).1) (zk4 (sh.map λc=>(ck c,.bl true)) ([],[])).2) sh.length (inT sh):=hh.imp (by simp) λk=>by
    simp only[false_or,Bd0,inT];constructor
    ·rintro ⟨p,⟨c,hc,rfl⟩,e⟩;exact⟨c,hc,e⟩
    ·rintro ⟨c,hc,e⟩;exact⟨_,⟨c,hc,rfl⟩,e⟩
   rw[od];generalize D.dct (.non::(zk4 (sh.map λc=>(ck c,.bl true)) ([],[])).1) (zk4 (sh.map λc=>(ck c,.bl true)) ([],[])).2=tk at hT;have fl:=hT.flat;simp! [fl];simp_all!;simp! [wv4];simp_all!;simp! [wv4];simp_all!;simp!;simp_all!;simp!;refine zb6 (by decide) (by decide) (by omega) λv2 st2 a2 b2 c2=>?_
   have hmany:∃many:Int,(if B5=true then D.int 30 else D.int (2+v2))=.int many/\0<=many/\many<=30:=by
    split
    ·exact⟨_,rfl,by omega,by omega⟩
    ·exact⟨_,rfl,by omega,by omega⟩
   obtain⟨many,em,hm0,hm3⟩:=hmany;simp! [wq3,wr4,vi7,vi6,xn9,em];rw[zd8 (by omega) hm0];refine zf3 (λi ρ st''=>∃(ts:List Tr) (T:List wp6) (tk:D) (B8:Int) (y11 y12 y13 y14 y15 y16:Sl),ρ=[Sl.hnd,.bor (.bl B5),.bor (.int much),.bor (.int wide),.bor (.int high),.own (.lst ((cov wide high (0,0)).map wp5)),.own (.lst (sh.map wp5)),.own tk,.own (.lst (ts.map Tr.kind)),.own (.lst (ts.map Tr.place)),.bor (.int B8),y11,y12,y13,y14,y15,y16]/\xs3 wide high sh ts/\Holds tk (81+81*i) (inT T)/\(∀c,c∈T↔c∈sh\/∃t∈ts,c∈t.cells)/\1<=B8/\B8<=much/\st''.2<=st2.2+13*i) 0 ⟨[],sh,tk,1,_,_,_,_,_,_,rfl,⟨w1,w9,h1,h9,e2,by simp,λt ht=>(by cases ht),List.Pairwise.nil⟩,hT.imp (by omega) λ_=>Iff.rfl,by simp,by omega,by omega,by simp⟩ (λi d ρ st'' hd hI P pn=>?_) λρ st'' hI=>?_
   ·obtain⟨ts,T,tk,B8,y11,y12,y13,y14,y15,y16,er,ho,hT,hc,hr1,hr2,hst⟩:=hI
    obtain⟨rfl,hi⟩:=ze9 hd;subst er;rw[Ah0] at hT hst;have hb2:st''.2<2 ^ 38+1000:=by omega
    have hi30:i<30:=by omega
    clear hs t1 e4 c2 a2 b2 hm0 hm3 hi em;refine⟨_,rfl,?_⟩;simp_all!;simp!;refine wc6 (by omega) w1 w9 h1 h9 hb λa u ways s st3 g1 g2 g3 g4 g5 g6 t3=>?_
    have kf:(kd a u ways s).flat=false:=rfl;simp! [kf];simp_all!;simp! [kd,oIx,at0,at1,wr4,wq3];refine zb6 (by omega) (by omega) (by omega) λx st4 a4 b4 c4=>?_
    refine zb6 (by omega) (by omega) (by omega) λy st5 a5 b5 c5=>?_
    simp! [ws5];simp_all!;simp!;refine yb4 (p:=(x,y)) (by omega) (by omega) (by omega) (by omega) ?_;simp! [zb1 za7];simp_all!;simp!;refine wc2 (by omega) (by omega) (by omega) (by omega) g5 ?_;have hroom:1<=yj8 wide high a u ways/\yj8 wide high a u ways<=81:=by
     have z1:1<=wide-a+1/\wide-a+1<=9:=by omega
     have z2:1<=high-u+1/\high-u+1<=9:=by omega
     unfold yj8;split
     ·constructor
      ·have:=Int.mul_le_mul z1.1 z2.1 (by omega) (by omega);omega
      ·have:=Int.mul_le_mul z1.2 z2.2 (by omega) (by omega);omega
     ·split
      ·omega
      ·split<;>omega
    generalize yj8 wide high a u ways=room at hroom;have hown:(cov a u (x,y)).length<=81:=yb1 (by omega) (by omega);have cm:va0 B8 room:=.inr ⟨by omega,by omega⟩;simp! [wv6,Aa0,wr4,yf7 cm];split
    ·rename_i hlen
     have hlen:ts.length<12:=by have:=of_decide_eq_true hlen;omega
     split
     ·rename_i hle
      have hle:B8*room<=much:=of_decide_eq_true hle;refine zk8 (vs6 T) (λρ=>∃x,ρ=[x,.bor tk]) ⟨_,rfl⟩ (λd hd ρ hI132=>?_) (zd9 (by rw[Aa0];omega)) ?_
      ·obtain⟨x',e⟩:=hI132
       subst e;obtain⟨c,hc',rfl⟩:=Bd0.mp hd;refine⟨_,rfl,⟨_,rfl⟩,⟨rfl,rfl⟩,?_⟩;simp! [(hT.in_ (zd2 c) (b:=decide (c∈T)) (by rw[decide_eq_true_eq,wa5])).1];rfl
      ·rw[xx2]
       simp! [yc2,zj1,Ay0];split
       ·rename_i hany
        have hfree:∀c∈cov a u (x,y),c∉T:=λc hc' hcT=>by
         have:(List.map (λc=>decide (c∈T)) (cov a u (x,y))).any id=true:=by
          rw[List.any_map,List.any_eq_true];exact⟨c,hc',by simpa using hcT⟩
         rw[this] at hany;cases hany
        have hpos:1<=B8*room:=by have:=Int.mul_le_mul hr1 hroom.1 (by omega) (by omega);omega
        simp_all!;simp! [yf7 cm];simp_all!;simp! [wq5,zb1 zn5];refine⟨_,zx4 (by simp[D.imm,D.immL]) (by rw[Aa0];omega),?_⟩;simp_all!;simp! [wq5,zb1 zz2];refine⟨_,zx4 (by simp[D.imm,D.immL]) (by rw[Aa0];omega),?_⟩;simp!;refine zf3 (λj ρ st''=>∃(tk':D) (y16:Sl),ρ=[Sl.hnd,.bor (.bl B5),.bor (.int much),.bor (.int wide),.bor (.int high),.own (.lst ((cov wide high (0,0)).map wp5)),.own (.lst (sh.map wp5)),.own tk',.own (.lst (ts.map Tr.kind++[D.tup [.int a,.int u,.str ways,.int s]])),.own (.lst (ts.map Tr.place++[D.tup [.int x,.int y]])),.bor (.int (B8*room)),.bor (.int (0+(i:Int))),.bor (D.tup [.int a,.int u,.str ways,.int s]),.bor (D.tup [.int x,.int y]),.bor (.lst ((cov a u (x,y)).map wp5)),.bor (.int room),y16]/\Holds tk' (81+81*i+j) (inT (T++(cov a u (x,y)).take j))/\st''=st5) 0 ⟨tk,_,rfl,by simpa using hT,rfl⟩ (λj d ρ st'' hd hI P2 pn2=>?_) λρ st'' hI=>?_
        ·obtain⟨tk',y16,er,hT',es⟩:=hI
         rw[Ai0] at hd;cases q:(cov a u (x,y))[j]? with
         | none=>rw[q] at hd;cases hd
         | some c=>
           rw[q] at hd;cases hd;subst er es;have hj:j<(cov a u (x,y)).length:=(Ae0.mp q).1;obtain⟨ks,vs,rfl,k1,k2,k3,k4⟩:=id hT';refine⟨_,rfl,?_⟩;simp! [wr6,k1,zd2];refine⟨ks,vs,rfl,xa5 (by omega),pn2 _ _ ⟨_,_,rfl,?_,rfl⟩⟩;refine(hT'.put (k:=ck c) (v:=.bl true) imm_bl).imp (by omega) λk=>?_
           rw[Ah0,Bj0,q];simp only[inT,Av0,Option.toList,Al0];constructor
           ·rintro (⟨c',h1,h2⟩ | h)
            ·exact⟨c',by rcases h1 with h1 | h1<;>simp[h1],h2⟩
            ·exact⟨c,by simp,h⟩
           ·rintro ⟨c',h1,h2⟩
            rcases h1 with h1 | h1 | h1
            ·exact .inl ⟨c',.inl h1,h2⟩
            ·exact .inl ⟨c',.inr h1,h2⟩
            ·subst h1;exact .inr h2
        ·obtain⟨tk',y16,er,hT',es⟩:=hI
         subst er es;rw[Ah0,Aa0,Bb0] at hT';have hnew:vu0 wide high sh ⟨a,u,ways,s,x,y⟩:=⟨g1,g3,a4,by show x+a<=wide;omega,a5,by show y+u<=high;omega,g5,g6,λc hc' hcs=>hfree c hc' ((hc c).mpr (.inl hcs))⟩;refine pn _ _ ⟨ts++[⟨a,u,ways,s,x,y⟩],T++cov a u (x,y),tk',B8*room,.bor (.int (0+(i:Int))),.bor (D.tup [.int a,.int u,.str ways,.int s]),.bor (D.tup [.int x,.int y]),.bor (.lst ((cov a u (x,y)).map wp5)),.bor (.int room),y16,?_,⟨w1,w9,h1,h9,ho.sub,by rw[Ak0];simp;omega,λt ht=>?_,?_⟩,hT'.imp (by omega) λ_=>Iff.rfl,λc=>?_,hpos,hle,by omega⟩
         ·rw[Am0,Am0];rfl
         ·rcases Av0.mp ht with ht | ht
          ·exact ho.tr t ht
          ·rw[Al0.mp ht];exact hnew
         ·refine List.pairwise_append.mpr ⟨ho.apart,List.pairwise_singleton _ _,λt ht t' ht' c hc1 hc2=>?_⟩
          rw[Al0.mp ht'] at hc2;exact hfree c hc2 ((hc c).mpr (.inr ⟨t,ht,hc1⟩))
         ·rw[Av0,hc c]
          constructor
          ·rintro ((h | ⟨t,ht,h⟩) | h)
           ·exact .inl h
           ·exact .inr ⟨t,by simp[ht],h⟩
           ·exact .inr ⟨⟨a,u,ways,s,x,y⟩,by simp,h⟩
          ·rintro (h | ⟨t,ht,h⟩)
           ·exact .inl (.inl h)
           ·rcases Av0.mp ht with ht | ht
            ·exact .inl (.inr ⟨t,ht,h⟩)
            ·rw[Al0.mp ht] at h;exact .inr h
       ·exact pn _ _ ⟨ts,T,tk,B8,_,_,_,_,_,_,rfl,ho,hT.imp (by omega) λ_=>Iff.rfl,hc,hr1,hr2,by omega⟩
     ·exact pn _ _ ⟨ts,T,tk,B8,_,_,_,_,_,_,rfl,ho,hT.imp (by omega) λ_=>Iff.rfl,hc,hr1,hr2,by omega⟩
    ·exact pn _ _ ⟨ts,T,tk,B8,_,_,_,_,_,_,rfl,ho,hT.imp (by omega) λ_=>Iff.rfl,hc,hr1,hr2,by omega⟩
   ·obtain⟨ts,T,tk,B8,y11,y12,y13,y14,y15,y16,er,ho,hT,hc,hr1,hr2,hst⟩:=hI
    subst er;rw[zd3,Ah0] at hst;simp! [zo3,zb1 za7,zb1 zn5,zb1 zz2,vc8,ws5];exact hq wide high sh ts st'' ho (by omega)
theorem yh2(c:wp6):∀l:List wp6,inD (wp5 c) (l.map wp5)=some (decide (c∈l))
 | []=>by simp[inD]
 | a::l=>by
   show ((D.eqq (wp5 a) (wp5 c)).bind λb=>(inD (wp5 c) (l.map wp5)).map λx=>b||x)=_;rw[yh2 c l];have e:D.eqq (wp5 a) (wp5 c)=some (decide (a=c)):=by
    show (D.eqq (.int a.1) (.int c.1)).bind (λx=>(D.eqL [.int a.2] [.int c.2]).map λy=>x&&y)=_;rw[zs3];show (D.eqL [.int a.2] [.int c.2]).map (λy=>(a.1 == c.1)&&y)=_;show ((D.eqq (.int a.2) (.int c.2)).bind (λx=>(D.eqL [] []).map λy=>x&&y)).map (λy=>(a.1 == c.1)&&y)=_;rw[zs3];show some ((a.1 == c.1)&&((a.2 == c.2)&&true))=_;rw[Option.some.injEq,Cb0];simp[Prod.ext_iff]
   rw[e];simp only[Option.bind_some,Ay0,Option.some.injEq];by_cases h:a=c
   ·subst h;simp
   ·have h':c≠a:=λz=>h z.symm
    simp[h,h',Aj0]
def zq7{neg:Bool}{c:wp6}{l:List wp6}:oIn neg (wp5 c) (.tup (l.map wp5))=some (.bl (if neg then !decide (c∈l) else decide (c∈l)))/\oIn neg (wp5 c) (.lst (l.map wp5))=some (.bl (if neg then !decide (c∈l) else decide (c∈l))):=by
 have hd:D.depL (l.map wp5)<=30:=Ap0 (zs4 zw3 l) (by decide);constructor
 ·show (if D.depL (l.map wp5)<=30 then (inD (wp5 c) (l.map wp5)).map λx=>D.bl (if neg then !x else x) else none)=_
  rw[if_pos hd,yh2];rfl
 ·show (if D.depL (l.map wp5)<=30 then (inD (wp5 c) (l.map wp5)).map λx=>D.bl (if neg then !x else x) else none)=_
  rw[if_pos hd,yh2];rfl
def xp0{ts:List Tr}{m:Nat}{t:Tr}(h:ts[m]?=some t):oIx (.tup (ts.map Tr.place)) (.int m)=some t.place:=(ya2 (zz2 t) (by omega) (by rw[Bk0,Ai0,h];rfl)).2
structure Cfg(wide high:Int)(sh:List wp6)(ts:List Tr):Prop where
 few:ts.length<=12
 sh:sh.length<=81
 wh:∀t∈ts,0<=t.w/\t.w<=9/\0<=t.h/\t.h<=9
def vf4:List D->Res Unit D:=dfn 6 2 yi4.1
def wc4{w h:Int}{ways:Str}{s:Int}(hw:w<=30)(hh:h<=30)(h0:0<=w)(h1:0<=h)(hq:Q (.lst ((cov w h p).map wp5)) ()):wpR (vf4 [kd w h ways s,wp5 p]) Q E:=by
 refine zj2 rfl (by decide) ?_;unfold yi4;dsimp only;simp_all!;simp! [wp5];simp_all!;simp! [wv4];simp_all!;simp! [kd,oIx,at0,at1];rw[zd8 (by omega) h0];refine zf3 (λi ρ st'=>∃x,ρ=[.bor (kd w h ways s),.bor (wp5 p),.bor (.int p.1),.bor (.int p.2),.own (.lst (((List.range i).flatMap (ws8 h p)).map wp5)),x]) 0 ⟨_,rfl⟩ (λi d ρ st' hd hI P pn=>?_) λρ st' hI=>?_
 ·obtain⟨x,e⟩:=hI
  obtain⟨rfl,hi⟩:=ze9 hd;subst e;have him:∀i:Nat,D.immL (((List.range i).flatMap (ws8 h p)).map wp5)=true:=λi=>zb1 za7 _
  refine⟨_,rfl,?_⟩;simp! [wq5,him,kd,oIx,at0,at1];rw[zd8 (by omega) h1];refine zk8 (λd=>match d with | .int j=>wp5 (p.1+(i:Int),p.2+j) | _=>.non) (λρ=>∃x,ρ=[x,.bor (.int p.1),.bor (.int (0+(i:Int))),.bor (.int p.2)]) ⟨_,rfl⟩ (λd hd ρ hI133=>?_) (zd9 (by rw[zd3];omega)) ?_
  ·obtain⟨x,e⟩:=hI133
   subst e;obtain⟨j,hj⟩:=List.getElem?_of_mem hd;obtain⟨rfl,hj'⟩:=ze9 hj;refine⟨_,rfl,⟨_,rfl⟩,⟨rfl,rfl⟩,?_⟩;simp! [wp5,wq3,wr4,ws5];simp
  ·have e:(zl4 0 h.toNat).map (λd=>match d with | .int j=>wp5 (p.1+(i:Int),p.2+j) | _=>D.non)=(ws8 h p i).map wp5:=by
    unfold zl4 ws8;rw[Bg0,Bg0];refine By0 λj _=>?_
    simp[wp5]
   rw[e];refine⟨_,yn1 (zb1 za7 _) ?_,pn _ _ ⟨.bor (.int (0+(i:Int))),?_⟩⟩
   ·rw[Aa0,Aa0,List.length_flatMap]
    unfold ws8;simp only[Aa0,Bw0,List.map_const',List.sum_replicate_nat];have:i*h.toNat<=29*30:=zn8 (by omega) (by omega);omega
   ·rw[List.range_succ,Bz0,Am0]
    simp[wp5,kd]
 ·obtain⟨x,e⟩:=hI
  subst e;rw[zd3,Ah0];have him:∀i:Nat,D.immL (((List.range i).flatMap (ws8 h p)).map wp5)=true:=λi=>zb1 za7 _
  simp! [him];exact hq
def yf2{α:Type}{P:List α->Prop}(nil:P [])(append_singleton:∀l a,P l->P (l++[a]))(l:List α):P l:=by
 have h:∀l:List α,P l.reverse:=λl=>by
  induction l with
  | nil=>exact nil
  | cons a l ih=>rw[List.reverse_cons];exact append_singleton _ _ ih
 have:=h l.reverse;rwa [List.reverse_reverse] at this
def ws2(W:List (wp6×Int))(c:wp6):Option Int:=(W.reverse.find? λp=>decide (p.1=c)).map (·.2)
def xn1:ws2 [] c=none:=rfl
def yb7{v:Int}:ws2 (W++[(c0,v)]) c=if c0=c then some v else ws2 W c:=by
 unfold ws2;rw[List.reverse_append];show ((((c0,v)::W.reverse).find? λp=>decide (p.1=c))).map (·.2)=_;rw[Ch0];by_cases h:c0=c
 ·simp[h]
 ·simp[h]
def xg1(h:∀p∈W,p.1≠c):ws2 W c=none:=by
 unfold ws2;rw[List.find?_eq_none.mpr (λp hp=>by simpa using h p (List.mem_reverse.mp hp))];rfl
def yc7{W V:List (wp6×Int)}{c:wp6}:ws2 (W++V) c=(ws2 V c).or (ws2 W c):=by
 unfold ws2;rw[List.reverse_append,List.find?_append];cases V.reverse.find? (λp=>decide (p.1=c))<;>simp
theorem yg6{l:List wp6}{c:wp6}{v:Int}:ws2 (l.map λq=>(q,v)) c=if c∈l then some v else none:=by
 induction l using yf2 with
 | nil=>rfl
 | append_singleton l a ih=>
   rw[Am0];show ws2 ((l.map λq=>(q,v))++[(a,v)]) c=_;rw[yb7,ih];by_cases h:a=c
   ·subst h;simp
   ·have h':c≠a:=λz=>h z.symm
    simp[h,h']
theorem yu0:∀{ks vs:List D},ks.length=vs.length->wp8 k ks (List.zipWith (λd u=>if zc7 d=some k' then v else u) ks vs)=if k=k' then (wp8 k ks vs).map λ_=>v else wp8 k ks vs
 | [],[],_=>by simp[wp8]
 | a::ks,b::vs,h=>by
   show wp8 k (a::ks) ((if zc7 a=some k' then v else b)::List.zipWith _ ks vs)=_;unfold wp8;by_cases e:zc7 a=some k
   ·rw[if_pos e,if_pos e,e]
    by_cases z:k=k'
    ·subst z;simp
    ·simp[z]
   ·rw[if_neg e,if_neg e];exact yu0 (by simpa using h)
 | [],_::_,h=>by cases h
 | _::_,[],h=>by cases h
theorem yl3:∀{ks vs:List D},ks.length=vs.length->wp8 k (ks++[wp9 k']) (vs++[v])=(wp8 k ks vs).or (if k'=k then some v else none)
 | [],[],_=>by
   show wp8 k [wp9 k'] [v]=_;unfold wp8;rw[zh4];by_cases e:k'=k
   ·simp[e,wp8]
   ·simp[e,wp8]
 | a::ks,b::vs,h=>by
   show wp8 k (a::(ks++[wp9 k'])) (b::(vs++[v]))=_;unfold wp8;by_cases e:zc7 a=some k
   ·rw[if_pos e,if_pos e];rfl
   ·rw[if_neg e,if_neg e];exact yl3 (by simpa using h)
 | [],_::_,h=>by cases h
 | _::_,[],h=>by cases h
open H in
def xy1(h:ks.length=vs.length):wp8 k (ws0 k' v ks vs).1 (ws0 k' v ks vs).2=if k'=k then some v else wp8 k ks vs:=by
 unfold ws0;split
 ·rename_i hs
  rw[yu0 h];by_cases e:k'=k
  ·subst e
   obtain⟨d,hd⟩:=Option.isSome_iff_exists.mp hs;rw[hd];simp
  ·have e':k≠k':=λz=>e z.symm
   simp[e,e']
 ·rename_i hs
  rw[yl3 h];by_cases e:k'=k
  ·subst e
   have hn:wp8 k' ks vs=none:=by simpa using hs
   rw[hn];simp
  ·simp[e]
def wt4(d:D)(W:List (wp6×Int)):Prop:=∃ks vs,d=.dct (.non::ks) vs/\D.immL vs=true/\ks.length=vs.length/\ks.length<=W.length/\∀c,wp8 (ck c) ks vs=(ws2 W c).map D.int
def wt4.nil:wt4 (.dct [.non] []) []:=⟨[],[],rfl,rfl,rfl,Ag0 _,λc=>by simp[wp8,xn1]⟩
def wt4.put{v:Int}(h:wt4 (.dct (.non::ks) vs) W):wt4 (.dct (.non::(ws0 (ck c0) (.int v) ks vs).1) (ws0 (ck c0) (.int v) ks vs).2) (W++[(c0,v)]):=by
 obtain⟨ks',vs',e,h1,h2,h3,h4⟩:=h;cases e;refine⟨_,_,rfl,yh3 imm_int h1,(ye3 h2).1,by have:=(ye3 (k:=ck c0) (v:=.int v) h2).2;simp;omega,λc=>?_⟩;rw[xy1 h2,yb7,h4 c];by_cases e:c0=c
 ·subst e;simp
 ·have e':ck c0≠ck c:=λz=>e (yu4 z)
  simp[e,e']
def wt4.flat(h:wt4 d W):d.flat=true:=by
 obtain⟨ks,vs,rfl,h1,_⟩:=h;exact h1
def wr(ts:List Tr):List (wp6×Int):=ts.zipIdx.flatMap λp=>p.1.cells.map λc=>(c,(p.2:Int))
def yl8:wr (ts++[u])=wr ts++u.cells.map λc=>(c,(ts.length:Int)):=by
 unfold wr;rw[List.zipIdx_append,Bz0];simp
def wx3(sh:List wp6)(ts:List Tr):List (wp6×Int):=(sh.map λc=>(c,-1))++wr ts
def wb5(h:∀t∈ts,c∉t.cells):ws2 (wr ts) c=none:=by
 apply xg1;rintro ⟨q,v⟩ hq;unfold wr at hq;obtain⟨⟨t,i⟩,h1,h2⟩:=List.mem_flatMap.mp hq;obtain⟨q',h3,h4⟩:=Bd0.mp h2;have ht:t∈ts:=(List.mem_zipIdx h1).2.2▸List.getElem_mem _;intro e;cases h4;exact h t ht (by rw[<-show q=c from e];exact h3)
theorem wb4{m:Nat}(hm:ts[m]?=some t)(hc:c∈t.cells)(ap:ts.Pairwise λa b=>∀c∈a.cells,c∉b.cells):ws2 (wr ts) c=some (m:Int):=by
 induction ts using yf2 with
 | nil=>simp at hm
 | append_singleton ts u ih=>
   rw[yl8,yc7,yg6];obtain⟨a1,_,a3⟩:=List.pairwise_append.mp ap;by_cases h:m<ts.length
   ·rw[List.getElem?_append_left h] at hm
    have hcu:c∉u.cells:=a3 t (Ar0 hm) u (by simp) c hc;rw[if_neg hcu];simp only[Option.none_or];exact ih hm a1
   ·have hml:m=ts.length:=by
     have:=(Ae0.mp hm).1;rw[Ak0] at this;simp at this;omega
    subst hml;rw[List.getElem?_append_right (Ag0 _)] at hm;simp at hm;subst hm;rw[if_pos hc];rfl
def ya4:List D->Res Unit D:=dfn 7 2 (yh6 vf4).1
def vg5{wide high:Int}:oIx (wp7 wide high sh ts) (.int 2)=some (.tup (sh.map wp5)):=by
 show im (some (D.tup (sh.map wp5)))=_;simp[im,imm_tup,zb1 za7 sh]
def hall3'{wide high:Int}:oIx (wp7 wide high sh ts) (.int 3)=some (.tup (ts.map Tr.kind)):=by
 show im (some (D.tup (ts.map Tr.kind)))=_;simp[im,imm_tup,zb1 zn5 ts]
theorem wi9(h:∀t∈ts,t.cells.length<=81):(wr ts).length<=81*ts.length:=by
 induction ts using yf2 with
 | nil=>simp[wr]
 | append_singleton ts u ih=>
   rw[yl8,Ak0,Aa0,Ak0];have h1:=ih λt ht=>h t (by simp[ht])
   have h2:=h u (by simp);simp only[Ax0,Cg0];omega
def yj3{wide high:Int}(hc:Cfg wide high sh ts)(hq:∀d,wt4 d (wx3 sh ts)->Q d ()):wpR (ya4 [wp7 wide high sh ts,ze0 ts]) Q E:=by
 refine zj2 rfl (by decide) ?_;unfold yh6;dsimp only;have h81:∀t∈ts,t.cells.length<=81:=λt ht=>yb1 (hc.wh t ht).2.1 (hc.wh t ht).2.2.2
 have few:=hc.few;have shl:=hc.sh;simp_all!;simp!;simp_all!;simp! [vg5];refine zf3 (λi ρ st'=>∃(d:D) (x3 x4 x5 x6:Sl),ρ=[Sl.bor (wp7 wide high sh ts),.bor (ze0 ts),.own d,x3,x4,x5,x6]/\wt4 d ((sh.take i).map λc=>(c,-1))) 0 ⟨_,_,_,_,_,rfl,wt4.nil⟩ (λi e ρ st' he hI P pn=>?_) λρ st' hI=>?_
 ·obtain⟨d,x3,x4,x5,x6,er,hd⟩:=hI
  rw[Ai0] at he;cases q:sh[i]? with
  | none=>rw[q] at he;cases he
  | some c=>
    rw[q] at he;cases he;subst er;rw[Ah0] at hd;obtain⟨ks,vs,rfl,k1,k2,k3,k4⟩:=id hd;rw[Aa0,Aw0] at k3;refine⟨_,rfl,?_⟩;simp! [wr6,k1,zd2];refine⟨ks,vs,rfl,xa5 (by omega),pn _ _ ⟨_,_,_,_,_,rfl,?_⟩⟩;rw[Ah0];have:=hd.put (c0:=c) (v:=-1);rwa [show (sh.take i).map (λc=>(c,(-1:Int)))++[(c,-1)]=(sh.take (i+1)).map λc=>(c,(-1:Int)) by rw[Bj0,q,Am0];rfl] at this
 ·obtain⟨d,x3,x4,x5,x6,er,hd⟩:=hI
  subst er;rw[Ah0,Aa0,Bb0] at hd;simp!;simp_all!;have en:vf9 [.tup (ts.map Tr.kind)]=some (zv8 (ts.map Tr.kind)):=if_pos (zb1 zn5 ts);simp! [hall3',en];refine zf3 (λi ρ st'=>∃(d:D) (x3 x4 x5 x6:Sl),ρ=[Sl.bor (wp7 wide high sh ts),.bor (ze0 ts),.own d,x3,x4,x5,x6]/\wt4 d (wx3 sh (ts.take i))) 0 ⟨_,_,_,_,_,rfl,by unfold wx3 wr;simpa using hd⟩ (λi e ρ st' he hI P pn=>?_) λρ st' hI=>?_
  ·obtain⟨d,x3,x4,x5,x6,er,hd⟩:=hI
   obtain⟨kk,hk,rfl⟩:=yc3 he;rw[Ai0] at hk;cases q:ts[i]? with
   | none=>rw[q] at hk;cases hk
   | some t=>
     rw[q] at hk;cases hk;subst er;rw[Ah0] at hd;obtain⟨q1,q2,q3,q4⟩:=hc.wh t (Ar0 q);have hil:i<ts.length:=(Ae0.mp q).1;refine⟨_,rfl,?_⟩;simp! [ze0,xp0 q];refine wc4 (p:=(t.x,t.y)) (by omega) (by omega) q1 q3 ?_;have hcu:cov t.w t.h (t.x,t.y)=t.cells:=rfl;rw[hcu];simp!;refine zf3 (λj ρ st'=>∃(d:D) (x3 x6:Sl),ρ=[Sl.bor (wp7 wide high sh ts),.bor (ze0 ts),.own d,x3,.bor (.int i),.bor t.kind,x6]/\wt4 d (wx3 sh (ts.take i)++(t.cells.take j).map λc=>(c,(i:Int)))) 0 ⟨_,_,_,rfl,by simpa using hd⟩ (λj e ρ st' he hI P2 pn2=>?_) λρ st' hI=>?_
     ·obtain⟨d,x3,x6,er,hd⟩:=hI
      rw[Ai0] at he;cases q5:t.cells[j]? with
      | none=>rw[q5] at he;cases he
      | some c=>
        rw[q5] at he;cases he;subst er;rw[Ah0] at hd;obtain⟨ks,vs,rfl,k1,k2,k3,k4⟩:=id hd;have w1:=wi9 (ts:=ts.take i) λt ht=>h81 t (List.mem_of_mem_take ht)
        have w2:=h81 t (Ar0 q);have kl:ks.length<=3000:=by
         unfold wx3 at k3;rw[Ak0,Ak0,Aa0,Aa0,Aw0] at k3;rw[Aw0] at w1;omega
        refine⟨_,rfl,?_⟩;simp! [wr6,k1,zd2];refine⟨ks,vs,rfl,xa5 (by omega),pn2 _ _ ⟨_,_,_,rfl,?_⟩⟩;rw[Ah0];have:=hd.put (c0:=c) (v:=i);rwa [show wx3 sh (ts.take i)++(t.cells.take j).map (λc=>(c,(i:Int)))++[(c,(i:Int))]=wx3 sh (ts.take i)++(t.cells.take (j+1)).map λc=>(c,(i:Int)) by rw[Bj0,q5,Am0,Cj0];rfl] at this
     ·obtain⟨d,x3,x6,er,hd⟩:=hI
      subst er;rw[Ah0,Aa0,Bb0] at hd;refine pn _ _ ⟨d,_,_,_,_,rfl,?_⟩;rw[Ah0];have e1:wx3 sh (ts.take (i+1))=wx3 sh (ts.take i)++t.cells.map λc=>(c,(i:Int)):=by
       unfold wx3;rw[Bj0,q];show _++wr (ts.take i++[t])=_;rw[yl8,Aw0,Nat.min_eq_left (by omega),Cj0]
      rw[e1];exact hd
  ·obtain⟨d,x3,x4,x5,x6,er,hd⟩:=hI
   subst er;rw[Ah0,zu6,Aa0,Bb0] at hd;simp! [hd.flat];exact hq d hd
def zt4(sh:List wp6)(ts:List Tr):List wp6:=sh++ts.flatMap Tr.cells
def freeC(wide high:Int)(sh:List wp6)(ts:List Tr):List wp6:=(cov wide high (0,0)).filter λc=>!decide (c∈zt4 sh ts)
theorem ys3{c:wp6}:∀W:List (wp6×Int),(ws2 W c).isSome=decide (c∈W.map (·.1)):=by
 intro W;induction W using yf2 with
 | nil=>rfl
 | append_singleton W p ih=>
   obtain⟨q,v⟩:=p;rw[yb7,Am0];by_cases h:q=c
   ·subst h;simp
   ·have h':c≠q:=λz=>h z.symm
    rw[if_neg h,ih];simp[h']
theorem wb6(ts:List Tr):(wr ts).map (·.1)=ts.flatMap Tr.cells:=by
 induction ts using yf2 with
 | nil=>rfl
 | append_singleton ts u ih=>
   rw[yl8,Am0,ih,Bz0,Bg0];simp[Function.comp_def]
def xr9(sh:List wp6)(ts:List Tr):(wx3 sh ts).map (·.1)=zt4 sh ts:=by
 unfold wx3 zt4;rw[Am0,wb6,Bg0];simp[Function.comp_def]
def xx1{d:D}{sh:List wp6}{ts:List Tr}(h:wt4 d (wx3 sh ts))(c:wp6):wz1 true (wp5 c) d=some (.bl (!decide (c∈zt4 sh ts))):=by
 obtain⟨ks,vs,rfl,_,_,_,h4⟩:=h;show (zc7 (wp5 c)).map (λkk=>D.bl (!(wp8 kk ks vs).isSome))=_;rw[zd2];show some (D.bl (!(wp8 (ck c) ks vs).isSome))=_;rw[h4 c,Option.isSome_map,ys3,xr9]
def ze5{S α:Type}{E:Exn->S->Prop}{ρ:Rho}{st:S}{Q:List D->S->Prop}{g:FnG}{t:FnT S}{f:Fn S}{xs:List α}{a y:α->D}{p:α->Bool}(R:Rho->Prop)(h0:R ρ)(hs:∀x∈xs,∀ρ,R ρ->∃ρ1,g (a x) ρ=some ρ1/\R ρ1/\wpR (t ρ1 st) (λb st1=>b=p x/\st1=st) E/\(p x=true->wpR (f ρ1 st) (λd st2=>d=y x/\d.imm=true/\st2=st) E))(hl:xs.length<=sizeLine)(hq:Q ((xs.filter p).map y) st):wpR (wu0 S g t f (xs.map a) [] ρ st) Q E:=by
 refine yd1 (λn acc ρ' st'=>acc=((xs.take n).filter p).map y/\R ρ'/\st'=st) 0 ⟨by simp,h0,rfl⟩ (λi d acc ρ' st' hd hI135=>?_) λacc ρ' st' hI134=>?_
 ·obtain⟨e1,r,e2⟩:=hI135
  subst e2;rw[Ai0] at hd;cases q:xs[i]? with
  | none=>rw[q] at hd;cases hd
  | some x=>
    rw[q] at hd;cases hd;have hi:i<xs.length:=(Ae0.mp q).1;obtain⟨ρ1,q1,r1,q2,q3⟩:=hs x (Ar0 q) ρ' r;rw[Ah0] at e1 ⊢;have et:xs.take (i+1)=xs.take i++[x]:=by rw[Bj0,q];rfl
    refine⟨ρ1,q1,za6 q2 (λb st1 hI136=>?_) λx s z=>z⟩;obtain⟨eb,es⟩:=hI136;subst es;cases hb:p x with
    | true=>
      rw[hb] at eb;rw[eb,if_pos rfl];refine za6 (q3 hb) (λd st2 hI137=>?_) λx s z=>z
      obtain⟨ed,im,es⟩:=hI137;refine⟨im,?_,?_,r1,es⟩
      ·rw[e1,Aa0]
       have:=Bl0 p (xs.take i);rw[Aw0] at this;omega
      ·rw[et,List.filter_append,Am0,e1,ed]
       simp[hb]
    | false=>
      rw[hb] at eb;rw[eb,if_neg Au0];refine⟨?_,r1,rfl⟩;rw[et,List.filter_append,e1];simp[hb]
 ·obtain⟨e1,r,e2⟩:=hI134
  rw[Ah0,Aa0,Bb0] at e1;subst e1 e2;exact hq
def vg8:List D->Res Unit D:=dfn 5 2 (zv2 ya4).1
def wc8{wide high:Int}{sh:List wp6}{ts:List Tr}{Q:D->Unit->Prop}{E:Exn->Unit->Prop}(hc:Cfg wide high sh ts)(hw:0<=wide/\wide<=9)(hh:0<=high/\high<=9)(hq:Q (.lst ((freeC wide high sh ts).map wp5)) ()):wpR (vg8 [wp7 wide high sh ts,ze0 ts]) Q E:=by
 refine zj2 rfl (by decide) ?_;unfold zv2;dsimp only;simp_all!;simp!;refine yj3 hc λd hd=>?_
 have fl:=hd.flat;simp! [fl];simp_all!;simp! [wv4];simp_all!;have h0:oIx (wp7 wide high sh ts) (.int 0)=some (.int wide):=rfl;have h1:oIx (wp7 wide high sh ts) (.int 1)=some (.int high):=rfl;simp! [h0];rw[zd8 (by omega) hw.1];refine zf3 (λi ρ st'=>∃x,ρ=[Sl.bor (wp7 wide high sh ts),.bor (ze0 ts),.own d,.own (.lst (((List.range i).flatMap λk=>(ws8 high (0,0) k).filter λc=>!decide (c∈zt4 sh ts)).map wp5)),x]) 0 ⟨_,rfl⟩ (λi e ρ st' he hI P pn=>?_) λρ st' hI=>?_
 ·obtain⟨x,er⟩:=hI
  obtain⟨rfl,hi⟩:=ze9 he;subst er;have him:∀l:List wp6,D.immL (l.map wp5)=true:=λl=>zb1 za7 l
  refine⟨_,rfl,?_⟩;simp! [wq5,him,h1];rw[zd8 (by omega) hh.1];have eu:zl4 0 high.toNat=(List.range high.toNat).map λ(j:Nat)=>D.int (0+(j:Int)):=rfl
  rw[eu];have cc:∀j:Nat,wt6 [.int (0+(i:Int)),.int (0+(j:Int))]=some (wp5 ((0:Int)+(i:Int),(0:Int)+(j:Int))):=λj=>rfl
  refine ze5 (a:=λ(j:Nat)=>D.int (0+(j:Int))) (y:=λ(j:Nat)=>wp5 ((0:Int)+(i:Int),(0:Int)+(j:Int))) (p:=λ(j:Nat)=>!decide ((((0:Int)+(i:Int),(0:Int)+(j:Int)):wp6)∈zt4 sh ts)) (λρ=>∃x,ρ=[x,Sl.bor (.int (0+(i:Int))),.bor d]) ⟨_,rfl⟩ (λj hj ρ hI138=>?_) (zd9 (by rw[Bw0];omega)) ?_
  ·obtain⟨x,er⟩:=hI138
   subst er;refine⟨_,rfl,⟨_,rfl⟩,?_,λ_=>?_⟩
   ·simp! [cc,xx1 hd]
   ·simp! [cc,za7]
  ·have er:((List.range high.toNat).filter λ(j:Nat)=>!decide ((((0:Int)+(i:Int),(0:Int)+(j:Int)):wp6)∈zt4 sh ts)).map (λ(j:Nat)=>wp5 ((0:Int)+(i:Int),(0:Int)+(j:Int)))=((ws8 high (0,0) i).filter λc=>!decide (c∈zt4 sh ts)).map wp5:=by
    unfold ws8;rw[List.filter_map,Bg0];rfl
   rw[er];refine⟨_,yn1 (him _) ?_,pn _ _ ⟨.bor (.int (0+(i:Int))),?_⟩⟩
   ·rw[Aa0,Aa0]
    have l1:∀k,((ws8 high (0,0) k).filter λc=>!decide (c∈zt4 sh ts)).length<=9:=λk=>by
     refine Ap0 (Bl0 _ _) ?_;unfold ws8;rw[Aa0,Bw0];omega
    have l2:((List.range (0+i)).flatMap λk=>(ws8 high (0,0) k).filter λc=>!decide (c∈zt4 sh ts)).length<=9*(0+i):=by
     generalize 0+i=n;induction n with
     | zero=>simp
     | succ n ih=>
       rw[List.range_succ,Bz0,Ak0];have:=l1 n;simp only[List.flatMap_cons,List.flatMap_nil,List.append_nil];omega
    have:=l1 i;rw[Ah0] at l2;omega
   ·rw[Ah0,List.range_succ,Bz0,Am0]
    simp
 ·obtain⟨x,er⟩:=hI
  subst er;rw[zd3,Ah0];have him:∀l:List wp6,D.immL (l.map wp5)=true:=λl=>zb1 za7 l
  have e:freeC wide high sh ts=(List.range wide.toNat).flatMap λk=>(ws8 high (0,0) k).filter λc=>!decide (c∈zt4 sh ts):=by
   unfold freeC cov;rw[List.filter_flatMap]
  rw[<-e];simp! [him];exact hq
def zp8(t:Tr):Bool:=t.w == 1&&t.h == 1
def zf2(ts:List Tr):Bool:=ts.all zp8
def ym1:List D->Res Unit D:=dfn 1 1 zj3.1
def xd7{wide high:Int}{sh:List wp6}{ts:List Tr}{Q:D->Unit->Prop}{E:Exn->Unit->Prop}(hq:Q (wp7 wide high sh []) ()):wpR (ym1 [wp7 wide high sh ts]) Q E:=by
 refine zj2 rfl (by decide) ?_;unfold zj3;dsimp only;have h0:oIx (wp7 wide high sh ts) (.int 0)=some (.int wide):=rfl;have h1:oIx (wp7 wide high sh ts) (.int 1)=some (.int high):=rfl;have e0:wt6 []=some (.tup []):=rfl;have him:D.immL (sh.map wp5)=true:=zb1 za7 sh;have e4:wt6 [.int wide,.int high,.tup (sh.map wp5),.tup []]=some (wp7 wide high sh []):=vc8 imm_int imm_int (by rw[imm_tup];exact him) (by simp[D.imm,D.immL]);have ei:(wp7 wide high sh []).imm=true:=by simp[wp7,D.imm,D.immL,him]
 simp! [h0,h1,vg5,e0,e4,ei];exact hq
def xp1:List D->Res Unit D:=dfn 1 1 (yb8 vg8 ym1).1
def xt5{wide high:Int}{sh:List wp6}{ts:List Tr}{Q:D->Unit->Prop}{E:Exn->Unit->Prop}(hs:sh.length<=81)(hw:0<=wide/\wide<=9)(hh:0<=high/\high<=9)(hq:Q (.lst ((freeC wide high sh []).map wp5)) ()):wpR (xp1 [wp7 wide high sh ts]) Q E:=by
 refine zj2 rfl (by decide) ?_;unfold yb8;dsimp only;have e0:wt6 []=some (.tup []):=rfl;have him:∀l:List wp6,D.immL (l.map wp5)=true:=λl=>zb1 za7 l
 simp!;refine xd7 ?_;simp! [e0];refine wc8 (ts:=[]) ⟨by simp,hs,λt ht=>absurd ht (by simp)⟩ hw hh ?_;simp! [him];exact hq
def vt4{w h:Int}:oEq false (.tup [.int w,.int h]) (.tup [.int 1,.int 1])=some (.bl (w == 1&&h == 1)):=by
 show (if (D.tup [.int w,.int h]).dep<=30 then (D.eqq (.tup [.int w,.int h]) (.tup [.int 1,.int 1])).map (λx=>D.bl (if false=true then !x else x)) else none)=_;rw[if_pos (by simp[D.dep,D.depL])];have e:D.eqq (.tup [.int w,.int h]) (.tup [.int 1,.int 1])=some (w == 1&&h == 1):=by
  show (D.eqq (.int w) (.int 1)).bind (λx=>(D.eqL [.int h] [.int 1]).map λy=>x&&y)=_;rw[zs3];show ((D.eqq (.int h) (.int 1)).bind (λx=>(D.eqL [] []).map λy=>x&&y)).map (λy=>(w == 1)&&y)=_;rw[zs3];show some ((w == 1)&&((h == 1)&&true))=_;rw[Bool.and_true]
 rw[e];rfl
def vq5{a b c d:D}(h:D.immL [a,b,c,d]=true):vb9 none (some 2) (.tup [a,b,c,d])=some (.tup [a,b]):=by
 show (if D.immL [a,b,c,d]=true/\¬(HT.sIx 4 0 none=0/\HT.sIx 4 4 (some ((2:Nat):Int))=4) then some (D.tup (L2.cutD [a,b,c,d] none (some ((2:Nat):Int)))) else none)=_;rw[if_pos ⟨h,λz=>by have:=z.2;rw[HT.sIx_nat] at this;omega⟩,yu2];rfl
def ve7:D->D
 | .tup [.int w,.int h,_,_]=>.bl (w == 1&&h == 1)
 | _=>.non
def yq2(ts:List Tr):(ts.map Tr.kind).map ve7=ts.map λt=>.bl (zp8 t):=by rw[Bg0];rfl
def vh2:List D->Res Unit D:=dfn 1 1 zm5.1
def wd1{wide high:Int}{sh:List wp6}{ts:List Tr}{Q:D->Unit->Prop}{E:Exn->Unit->Prop}(few:ts.length<=12)(hq:Q (.bl (zf2 ts)) ()):wpR (vh2 [wp7 wide high sh ts]) Q E:=by
 refine zj2 rfl (by decide) ?_;unfold zm5;dsimp only;have e11:wt6 [.int 1,.int 1]=some (.tup [.int 1,.int 1]):=rfl;simp! [hall3'];refine zk8 ve7 (λρ=>∃x,ρ=[x]) ⟨_,rfl⟩ (λe he ρ hI139=>?_) (zd9 (by rw[Aa0];omega)) ?_
 ·obtain⟨x,er⟩:=hI139
  subst er;obtain⟨t,ht,rfl⟩:=Bd0.mp he;have ek:vb9 none (some 2) t.kind=some (.tup [.int t.w,.int t.h]):=vq5 (by simp[D.immL,D.imm]);refine⟨_,rfl,⟨_,rfl⟩,⟨rfl,rfl⟩,?_⟩;simp! [ek,e11,vt4];rfl
 ·rw[yq2]
  simp! [yc2,zj1,Ay0];have e2:(ts.map λt=>zp8 t).all id=zf2 ts:=by rw[List.all_map];rfl
  rw[e2];exact hq
def pl(ts:List Tr):List wp6:=ts.map λt=>(t.x,t.y)
def zv6(ts:List Tr):ze0 ts=.tup ((pl ts).map wp5):=by unfold ze0 pl;rw[Bg0];rfl
def zk7{w h:Int}{p:wp6}{Q:D->Unit->Prop}{E:Exn->Unit->Prop}(hw:w<=30)(hh:h<=30)(h0:0<=w)(h1:0<=h)(hq:Q (.lst ((cov w h p).map wp5)) ()):wpR (zh0 [.tup [.int w,.int h],wp5 p]) Q E:=by
 refine zj2 rfl (by decide) ?_;unfold zl3;dsimp only;simp?! [zb9,wv4,oIx,pt0,pt1];rw[zd8 (by omega) h0];refine zf3 (λi ρ st'=>∃x,ρ=[.bor (.tup [.int w,.int h]),.bor (wp5 p),.own (.lst (((List.range i).flatMap (ws8 h p)).map wp5)),x]) 0 ⟨_,rfl⟩ (λi d ρ st' hd hI P pn=>?_) λρ st' hI=>?_
 ·obtain⟨x,e⟩:=hI
  obtain⟨rfl,hi⟩:=ze9 hd;subst e;have him:∀i:Nat,D.immL (((List.range i).flatMap (ws8 h p)).map wp5)=true:=λi=>zb1 za7 _
  refine⟨_,rfl,?_⟩;simp?! [zb9,wq5,him,oIx,pt0,pt1];rw[zd8 (by omega) h1];refine zk8 (λd=>match d with | .int j=>wp5 (p.1+(i:Int),p.2+j) | _=>.non) (λρ=>∃x,ρ=[x,.bor (.int (0+(i:Int))),.bor (wp5 p)]) ⟨_,rfl⟩ (λd hd ρ hI140=>?_) (zd9 (by rw[zd3];omega)) ?_
  ·obtain⟨x,e⟩:=hI140
   subst e;obtain⟨j,hj⟩:=List.getElem?_of_mem hd;obtain⟨rfl,hj'⟩:=ze9 hj;refine⟨_,rfl,⟨_,rfl⟩,⟨rfl,rfl⟩,?_⟩;simp?! [zb9,wp5,oIx,pt0,pt1,wq3,wr4,ws5];simp
  ·have e:(zl4 0 h.toNat).map (λd=>match d with | .int j=>wp5 (p.1+(i:Int),p.2+j) | _=>D.non)=(ws8 h p i).map wp5:=by
    unfold zl4 ws8;rw[Bg0,Bg0];refine By0 λj _=>?_
    simp[wp5]
   rw[e];refine⟨_,yn1 (zb1 za7 _) ?_,pn _ _ ⟨.bor (.int (0+(i:Int))),?_⟩⟩
   ·rw[Aa0,Aa0,List.length_flatMap]
    unfold ws8;simp only[Aa0,Bw0,List.map_const',List.sum_replicate_nat];have:i*h.toNat<=29*30:=zn8 (by omega) (by omega);omega
   ·rw[List.range_succ,Bz0,Am0]
    simp
 ·obtain⟨x,e⟩:=hI
  subst e;rw[zd3,Ah0];have him:∀i:Nat,D.immL (((List.range i).flatMap (ws8 h p)).map wp5)=true:=λi=>zb1 za7 _
  simp?! [zb9,him];exact hq
def yo2{wide high:Int}{sh:List wp6}:freeC wide high sh []=(cov wide high (0,0)).filter λc=>!decide (c∈sh):=by
 unfold freeC zt4;simp
def xm8:List D->Res Unit D:=dfn 1 1 (zy4 zh0).1
def xt4{wide high:Int}{sh:List wp6}{ts:List Tr}{Q:D->Unit->Prop}{E:Exn->Unit->Prop}(hw:0<=wide/\wide<=9)(hh:0<=high/\high<=9)(hq:Q (.lst ((freeC wide high sh []).map wp5)) ()):wpR (xm8 [wp7 wide high sh ts]) Q E:=by
 refine zj2 rfl (by decide) ?_;unfold zy4;dsimp only;have him:∀l:List wp6,D.immL (l.map wp5)=true:=λl=>zb1 za7 l
 have hk:D.immL (ts.map Tr.kind)=true:=zb1 zn5 ts;have ec:vb9 none (some 2) (wp7 wide high sh ts)=some (.tup [.int wide,.int high]):=vq5 (by simp[D.immL,D.imm,him,hk]);have e00:wt6 [.int 0,.int 0]=some (wp5 (0,0)):=rfl;have c81:(cov wide high (0,0)).length<=81:=yb1 hw.2 hh.2;simp! [ec,e00];refine zk7 (by omega) (by omega) hw.1 hh.1 ?_;simp!;refine ze5 (xs:=cov wide high (0,0)) (a:=wp5) (y:=wp5) (p:=λc=>!decide (c∈sh)) (λρ=>∃z,ρ=[z,Sl.bor (wp7 wide high sh ts)]) ⟨_,rfl⟩ (λc hc' ρ hI141=>?_) (zd9 (by omega)) ?_
 ·obtain⟨z,er⟩:=hI141
  subst er;refine⟨_,rfl,⟨_,rfl⟩,?_,λ_=>?_⟩
  ·simp! [vg5,zq7]
  ·simp! [za7]
 ·rw[<-yo2]
  simp! [him];exact hq
def yn5:List D->Res Unit D:=dfn 1 1 zt0.1
def xd8{wide high:Int}{sh:List wp6}{ts:List Tr}{Q:D->Unit->Prop}{E:Exn->Unit->Prop}(few:ts.length<=12)(hq:Q (.bl (zf2 ts)) ()):wpR (yn5 [wp7 wide high sh ts]) Q E:=by
 refine zj2 rfl (by decide) ?_;unfold zt0;dsimp only;have e11:wt6 [.int 1,.int 1]=some (.tup [.int 1,.int 1]):=rfl;simp! [hall3'];refine zk8 ve7 (λρ=>∃x,ρ=[x]) ⟨_,rfl⟩ (λe he ρ hI142=>?_) (zd9 (by rw[Aa0];omega)) ?_
 ·obtain⟨x,er⟩:=hI142
  subst er;obtain⟨t,ht,rfl⟩:=Bd0.mp he;have ek:vb9 none (some 2) t.kind=some (.tup [.int t.w,.int t.h]):=vq5 (by simp[D.immL,D.imm]);refine⟨_,rfl,⟨_,rfl⟩,⟨rfl,rfl⟩,?_⟩;simp! [ek,e11,vt4];rfl
 ·rw[yq2]
  simp! [yc2,zj1,Ay0];have e2:(ts.map λt=>zp8 t).all id=zf2 ts:=by rw[List.all_map];rfl
  rw[e2];exact hq
def ye0{a c:wp6}:D.eqq (wp5 a) (wp5 c)=some (decide (a=c)):=by
 show (D.eqq (.int a.1) (.int c.1)).bind (λx=>(D.eqL [.int a.2] [.int c.2]).map λy=>x&&y)=_;rw[zs3];show ((D.eqq (.int a.2) (.int c.2)).bind (λx=>(D.eqL [] []).map λy=>x&&y)).map (λy=>(a.1 == c.1)&&y)=_;rw[zs3];show some ((a.1 == c.1)&&((a.2 == c.2)&&true))=_;rw[Option.some.injEq,Cb0];simp[Prod.ext_iff]
def wv7(c:wp6):List wp6->Nat
 | []=>0
 | a::l=>if a=c then 0 else wv7 c l+1
theorem yh5{c:wp6}:∀{l:List wp6},c∈l->ww3 (wp5 c) (l.map wp5)=some (wv7 c l)
 | a::l,h=>by
   rw[Aq0];unfold ww3 wv7;rw[ye0];by_cases e:a=c
   ·simp[e]
   ·have h':c∈l:=by
     rcases Aj0.mp h with h | h
     ·exact absurd h.symm e
     ·exact h
    simp[e,yh5 h']
def xf3{c:wp6}{l:List wp6}(h:c∈l):vc9 (.tup (l.map wp5)) (wp5 c)=some (.int (wv7 c l)):=
 xv9 (Ap0 (zs4 zw3 l) (by decide)) (λe he=>by obtain⟨a,_,rfl⟩:=Bd0.mp he;exact⟨_,ye0⟩) (yh5 h)
def zz4{t:Tr}(h:zp8 t=true):t.cells=[(t.x,t.y)]:=by
 unfold zp8 at h;have h':t.w=1/\t.h=1:=by simpa using h
 unfold Tr.cells cov ws8;rw[h'.1,h'.2];simp
def zq3{ts:List Tr}(h:zf2 ts=true){t:Tr}(ht:t∈ts):zp8 t=true:=by
 unfold zf2 at h;exact List.all_eq_true.mp h t ht
theorem xb3{c:wp6}:∀{l:List wp6} {m:Nat},l.Nodup->l[m]?=some c->wv7 c l=m
 | a::l,0,_,h=>by
   cases h;unfold wv7;rw[if_pos rfl]
 | a::l,m+1,hn,h=>by
   have h':l[m]?=some c:=h;have hm:c∈l:=Ar0 h';have hne:a≠c:=λe=>(Bi0.mp hn).1 (e▸hm)
   unfold wv7;rw[if_neg hne,xb3 (Bi0.mp hn).2 h']
 | [],_,_,h=>by simp at h
def yb0{w h:Int}{p:wp6}:(cov w h p).Nodup:=by
 unfold cov;rw[List.Nodup,List.pairwise_flatMap];refine⟨λi _=>?_,List.pairwise_lt_range.imp λ{a b} hab x hx y hy e=>?_⟩
 ·unfold ws8
  rw[Ce0];exact List.pairwise_lt_range.imp λ{a b} hab e=>by
   have:=congrArg Prod.snd e;simp only at this;omega
 ·unfold ws8 at hx hy
  obtain⟨j,_,rfl⟩:=Bd0.mp hx;obtain⟨k,_,rfl⟩:=Bd0.mp hy;have:=congrArg Prod.fst e;simp only at this;omega
def yd8{wide high:Int}{sh:List wp6}{ts:List Tr}(hw:wide<=9)(hh:high<=9):(freeC wide high sh ts).length<=81:=Ap0 (Bl0 _ _) (yb1 hw hh)
def zw1{wide high:Int}{sh:List wp6}{ts:List Tr}:(freeC wide high sh ts).Nodup:=yb0.filter _
def yg4{wide high:Int}{sh:List wp6}{c:wp6}:c∈freeC wide high sh []↔(0<=c.1/\c.1<wide/\0<=c.2/\c.2<high)/\c∉sh:=by
 rw[yo2,Bn0,zi8];simp
def GP(wide high:Int)(sh ps:List wp6):Prop:=ps.Nodup/\∀c∈ps,c∈freeC wide high sh []
structure HC(wide high:Int)(sh:List wp6)(ts:List Tr):Prop where
 w1:1<=wide
 w9:wide<=9
 h1:1<=high
 h9:high<=9
 cfg:Cfg wide high sh ts
 one:zf2 ts=true->GP wide high sh (pl ts)
theorem yj9{α:Type}:∀{l:List α} {k:Nat} {c:α},l[k]?=some c->l.Perm (c::l.eraseIdx k)
 | a::l,0,c,h=>by cases h;exact List.Perm.refl _
 | a::l,k+1,c,h=>(List.Perm.cons a (yj9 (l:=l) (k:=k) h)).trans (List.Perm.swap c a _)
 | [],_,_,h=>by simp at h
def xm2{P l:List wp6}{k:Nat}{c:wp6}(h:l[k]?=some c)(hn:(P++l).Nodup):((P++[c])++l.eraseIdx k).Nodup:=by
 rw[Cj0];exact(List.Perm.nodup_iff (List.Perm.append_left P (yj9 h))).mp hn
theorem yr9{l:List wp6}{k:Nat}:(l.map wp5).eraseIdx k=(l.eraseIdx k).map wp5:=by
 induction l generalizing k with
 | nil=>rfl
 | cons a l ih=>cases k with
   | zero=>rfl
   | succ k=>simp[ih]
def xk1{l:List wp6}{v:Int}(h0:0<=v)(h1:v<(l.length:Nat))(hl:l.length<=100):∃(k:Nat) (c:wp6),l[k]?=some c/\wy9 (l.map wp5) [.int v]=some (wp5 c,(l.eraseIdx k).map wp5):=by
 have hk:v.toNat<l.length:=by omega
 refine⟨v.toNat,l[v.toNat],Ac0 hk,?_⟩;rw[xw0 (x:=wp5 l[v.toNat]) h0 (by rw[Aa0];exact h1) (by rw[Aa0];omega) (by rw[Ai0,Ac0 hk];rfl),yr9]
def xe0{v:Int}(h0:0<=v)(h1:v<5):∃s:Str,oIx (.lst [.str "any",.str "any",.str "any",.str "row",.str "none"]) (.int v)=some (.str s):=by
 obtain⟨d,hd,e⟩:=yk8 (l:=[.str "any",.str "any",.str "any",.str "row",.str "none"]) (by simp[D.immL,D.imm]) h0 (by simpa using h1);rw[e];simp only[Aj0,Ao0,or_false] at hd;rcases hd with r | r | r | r | r<;>subst r<;>exact⟨_,rfl⟩
def yp8{v:Int}(h0:0<=v)(h1:v<5):∃s:Int,oIx (.lst [.int 0,.int 1,.int 0,.int 1,.int (-1)]) (.int v)=some (.int s):=by
 obtain⟨d,hd,e⟩:=yk8 (l:=[.int 0,.int 1,.int 0,.int 1,.int (-1)]) (by simp[D.immL,D.imm]) h0 (by simpa using h1);rw[e];simp only[Aj0,Ao0,or_false] at hd;rcases hd with r | r | r | r | r<;>subst r<;>exact⟨_,rfl⟩
theorem vt8{a b:List D}(h1:D.immL a=true)(h2:D.immL b=true)(h:a.length+b.length<=1000):wq3 (.tup a) (.tup b)=some (.tup (a++b)):=by
 have e0:wr4 (λi j=>D.int (i+j)) (.tup a) (.tup b)=none:=rfl;have e1:va8 (.tup a) (.tup b)=none:=rfl;unfold wq3;rw[e0,e1];cases a with
 | nil=>
   have e2:va7 (.tup []) (.tup b)=none:=if_neg (λz=>by cases z.2.2.2);have e3:xa1 (.tup []) (.tup b)=some (.tup b):=if_pos h2;rw[e2,e3];rfl
 | cons x a=>
   have e2:va7 (.tup (x::a)) (.tup b)=some (.tup (x::a++b)):=if_pos ⟨h1,h2,zd9 h,rfl⟩;rw[e2];rfl
def yf8{neg:Bool}(h:D.depL l<=29):oEq neg (.lst l) (.lst [])=some (.bl (if neg then !decide (l=[]) else decide (l=[]))):=by
 unfold oEq;rw[if_pos (by unfold D.dep;omega)];cases l<;>simp[D.eqq,D.eqL]
def yu5(l:List wp6):D.depL (l.map wp5)<=29:=Ap0 (zs4 zw3 l) (by decide)
def xu4{c:wp6}{l:List wp6}(h:c∈l):vk7 (l.map wp5) [wp5 c]=some ((l.eraseIdx (wv7 c l)).map wp5):=by
 rw[wf6 (n:=wv7 c l) (Ap0 (zs4 zw3 l) (by decide)) (λe he=>by obtain⟨a,_,rfl⟩:=Bd0.mp he;exact⟨_,ye0⟩) (yh5 h),yr9]
structure SG(T:List wp6)(ts:List Tr)(left:List wp6):Prop where
 sub:∀c∈pl ts++left,c∈T
 nd:(pl ts++left).Nodup
 ll:left.length<=100
 wh:∀t∈ts,1<=t.w/\t.w<=2/\t.h=1
def SG.hc{wide high:Int}{sh T:List wp6}{ts:List Tr}{left:List wp6}(h:SG T ts left)(hT:∀c∈T,c∈freeC wide high sh [])(w1:1<=wide)(w9:wide<=9)(h1:1<=high)(h9:high<=9)(hs:sh.length<=81)(few:ts.length<=12):HC wide high sh ts:=
 ⟨w1,w9,h1,h9,⟨few,hs,λt ht=>by obtain⟨a,b,c⟩:=h.wh t ht;omega⟩,λ_=>⟨(Bv0.mp h.nd).1,λc hc=>hT c (h.sub c (Bu0 _ hc))⟩⟩
def SG.snoc{T:List wp6}{ts:List Tr}{left left':List wp6}{k:Nat}{c:wp6}{w:Int}{ways:Str}{s:Int}(h:SG T ts left)(hk:left[k]?=some c)(hs:left'.Sublist (left.eraseIdx k))(hw:w=1\/w=2):SG T (ts++[⟨w,1,ways,s,c.1,c.2⟩]) left':=by
 have hl:=hs.length_le;rw[List.length_eraseIdx] at hl;have e:pl (ts++[⟨w,1,ways,s,c.1,c.2⟩])=pl ts++[c]:=by unfold pl;rw[Am0];rfl
 refine⟨λx hx=>?_,?_,by have:=h.ll;split at hl<;>omega,λt ht=>?_⟩
 ·rw[e] at hx
  refine h.sub x ?_;rcases Av0.mp hx with z | z
  ·rcases Av0.mp z with z | z
   ·exact Bu0 _ z
   ·rw[Al0.mp z];exact Az0 _ (Ar0 hk)
  ·exact Az0 _ ((Cc0 _ _).subset (hs.subset z))
 ·rw[e]
  exact List.Sublist.nodup (List.Sublist.append_left hs _) (xm2 hk h.nd)
 ·rcases Av0.mp ht with h' | h'
  ·exact h.wh t h'
  ·rw[Al0.mp h'];exact⟨by show 1<=w;omega,by show w<=2;omega,rfl⟩
def yq3:List D->Dr->Res Dr D:=wz7 13 4 (zk0 zh0 wr7).1
def yy7{w h most:Int}{T:List wp6}{st:Dr}{Q:D->Dr->Prop}{E:Exn->Dr->Prop}(hT:T.Nodup)(hTs:∀c∈T,c∈cov w h (0,0))(hTl:T.length<=100)(m0:0<=most)(m12:most<=12)(w1:1<=w)(w9:w<=9)(h1:1<=h)(h9:h<=9)(hs:st.2<2 ^ 38)(hq:∀sh ts st',HC w h sh ts->st'.2<=st.2+100->Q (.tup [wp7 w h sh ts,ze0 ts]) st'):wpR (yq3 [.tup [.int w,.int h],.lst (T.map wp5),.int most] st) Q E:=by
 refine zw8 rfl (by decide) ?_;unfold zk0;dsimp only;have him:∀l:List wp6,D.immL (l.map wp5)=true:=λl=>zb1 za7 l
 have hkm:∀l:List Tr,D.immL (l.map Tr.kind)=true:=λl=>zb1 zn5 l
 have hpm:∀l:List Tr,D.immL (l.map Tr.place)=true:=λl=>zb1 zz2 l
 have e00:wt6 [.int 0,.int 0]=some (wp5 (0,0)):=rfl;have e11:wt6 [.int 1,.int 1]=some (.tup [.int 1,.int 1]):=rfl;have e21:wt6 [.int 2,.int 1]=some (.tup [.int 2,.int 1]):=rfl;have c81:(cov w h (0,0)).length<=81:=yb1 w9 h9;simp_all!;simp! [e00];refine zk7 (by omega) (by omega) (by omega) (by omega) ?_;simp!;refine ze5 (xs:=cov w h (0,0)) (a:=wp5) (y:=wp5) (p:=λc=>!decide (c∈T)) (λρ=>∃z,ρ=[z,Sl.bor (.lst (T.map wp5))]) ⟨_,rfl⟩ (λc hc' ρ hI143=>?_) (zd9 (by omega)) ?_
 ·obtain⟨z,er⟩:=hI143
  subst er;refine⟨_,rfl,⟨_,rfl⟩,?_,λ_=>?_⟩
  ·simp! [zq7]
  ·simp! [za7]
 generalize hsh:(cov w h (0,0)).filter (λc=>!decide (c∈T))=sh;have hTf:∀c∈T,c∈freeC w h sh []:=λc hc=>by
  rw[yo2,Bn0];exact⟨hTs c hc,by rw[<-hsh];simp[hc]⟩
 have shl:sh.length<=81:=by rw[<-hsh];exact Ap0 (Bl0 _ _) c81
 simp! [him];simp_all!;simp! [va3,him];simp_all!;simp! [wv4];simp_all!;simp! [wv4];simp_all!;have ol:wv6 [.lst (T.map wp5)]=some (.int (T.length:Nat)):=by simp[wv6]
 have mn:=zx6 (a:=most) (b:=(T.length:Nat));have mn0:0<=wy0 most (T.length:Nat):=by rcases mn.2.2 with e | e<;>rw[e]<;>omega
 simp! [ol,yk4,wq3,wr4];refine zb6 (by omega) (by omega) (by omega) λv1 st1 a1 b1 c1=>?_
 simp!;rw[zd8 (by omega) (by omega)];refine zf3 (λi ρ st'=>∃(left:List wp6) (ts:List Tr) (x8 x9 x10 x11 x12:Sl),ρ=[Sl.hnd,.bor (.tup [.int w,.int h]),.bor (.lst (T.map wp5)),.bor (.int most),.own (.lst (sh.map wp5)),.own (.lst (left.map wp5)),.own (.lst (ts.map Tr.kind)),.own (.lst (ts.map Tr.place)),x8,x9,x10,x11,x12]/\SG T ts left/\ts.length<=i/\st'.2<=st1.2+5*i) 0 ⟨T,[],.no,.no,.no,.no,.no,rfl,⟨λc hc=>hc,hT,hTl,λt ht=>absurd ht (by simp)⟩,Ag0 0,by omega⟩ (λi d ρ st' hd hI P pn=>?_) λρ st' hI=>?_
 ·obtain⟨left,ts,x8,x9,x10,x11,x12,er,sg,hl,ht⟩:=hI
  obtain⟨rfl,hi⟩:=ze9 hd;subst er;rw[Ah0] at ht hl;have lll:=sg.ll;refine⟨_,rfl,?_⟩;simp! [wv4,yf8 (yu5 left)];by_cases hp0:left=[]
  ·have e0:decide (left.map wp5=[])=true:=by simp[hp0]
   rw[e0];simp!;exact pn _ _ ⟨left,ts,_,_,_,_,_,rfl,sg,by omega,by omega⟩
  ·have e0:decide (left.map wp5=[])=false:=by simp[hp0]
   have pos:0<left.length:=List.length_pos_iff.mpr hp0;have oll:wv6 [.lst (left.map wp5)]=some (.int (left.length:Nat)):=by simp[wv6]
   rw[e0];simp!;simp_all!;simp! [xs8,wq5,him,oll];refine zb6 (by omega) (by omega) (by omega) λv2 st2 a2 b2 c2=>?_
   obtain⟨k,c,hk,hpop⟩:=xk1 a2 b2 sg.ll;simp!;refine⟨_,hpop,?_⟩;have hel:(left.eraseIdx k).length<=100:=by rw[List.length_eraseIdx];split<;>omega
   have c0:oIx (wp5 c) (.int 0)=some (.int c.1):=rfl;have c1':oIx (wp5 c) (.int 1)=some (.int c.2):=rfl;have cn2:∀a b:Int,wt6 [.int a,.int b]=some (wp5 (a,b)):=λa b=>rfl
   simp!;simp_all!;simp! [e11];refine zk6 (λρ (st':Dr)=>∃(left':List wp6) (w':Int),ρ=[Sl.hnd,.bor (.tup [.int w,.int h]),.bor (.lst (T.map wp5)),.bor (.int most),.own (.lst (sh.map wp5)),.own (.lst (left'.map wp5)),.own (.lst (ts.map Tr.kind)),.own (.lst (ts.map Tr.place)),.bor (.int (0+(i:Int))),.bor (wp5 c),.bor (.tup [.int w',.int 1]),x11,x12]/\left'.Sublist (left.eraseIdx k)/\(w'=1\/w'=2)/\st'.2<=st2.2+1) (λP2 pn2=>?_) λρ st3 hI=>?_
   ·have keep:∀st3:Dr,st3.2<=st2.2+1->P2 (.nx [Sl.hnd,.bor (.tup [.int w,.int h]),.bor (.lst (T.map wp5)),.bor (.int most),.own (.lst (sh.map wp5)),.own (.lst ((left.eraseIdx k).map wp5)),.own (.lst (ts.map Tr.kind)),.own (.lst (ts.map Tr.place)),.bor (.int (0+(i:Int))),.bor (wp5 c),.bor (.tup [.int 1,.int 1]),x11,x12]) st3:=λst3 g=>pn2 _ _ ⟨_,1,rfl,List.Sublist.refl _,.inl rfl,g⟩
    simp! [zj6];by_cases hz:(0+(i:Int))=0
    ·have ez:((0+(i:Int)) == 0)=true:=by rw[hz];rfl
     rw[ez];simp! [c0,c1',wq3,wr4,cn2,zq7];by_cases hin:((c.1+1,c.2):wp6)∈left.eraseIdx k
     ·rw[Am1 hin]
      simp!;refine zb6 (by decide) (by decide) (by omega) λv3 st3 a3 b3 c3=>?_
      simp! [zj6];by_cases hv:v3=0
      ·have ev:(v3 == 0)=true:=by rw[hv];rfl
       rw[ev];simp!;simp_all!;simp! [wc0,wq5,him,c0,c1',wq3,wr4,cn2];refine⟨_,xu4 hin,?_⟩;simp! [e21];exact pn2 _ _ ⟨_,2,rfl,Cc0 _ _,.inr rfl,by omega⟩
      ·have ev:(v3 == 0)=false:=beq_eq_false_iff_ne.mpr hv
       rw[ev];simp!;exact keep st3 (by omega)
     ·rw[Al1 hin]
      simp!;exact keep st2 (by omega)
    ·have ez:((0+(i:Int)) == 0)=false:=beq_eq_false_iff_ne.mpr hz
     rw[ez];simp!;exact keep st2 (by omega)
   ·obtain⟨left',w',er,hsub,hw',t3⟩:=hI
    subst er;simp_all!;simp!;refine zb6 (by decide) (by decide) (by omega) λv4 st4 a4 b4 c4=>?_
    simp!;refine zb6 (by decide) (by decide) (by omega) λv5 st5 a5 b5 c5=>?_
    obtain⟨wy,ewy⟩:=xe0 a4 b4;obtain⟨sg',esg⟩:=yp8 a5 b5;simp!;simp_all!;have el5:ww2 [.str "any",.str "any",.str "any",.str "row",.str "none"]=some (.lst [.str "any",.str "any",.str "any",.str "row",.str "none"]):=rfl;have el6:ww2 [.int 0,.int 1,.int 0,.int 1,.int (-1)]=some (.lst [.int 0,.int 1,.int 0,.int 1,.int (-1)]):=rfl;have eat:wq3 (.tup [.int w',.int 1]) (.tup [.str wy,.int sg'])=some (kd w' 1 wy sg'):=vt8 (by simp[D.immL,D.imm]) (by simp[D.immL,D.imm]) (by simp);simp! [el5,ewy,wq5,hkm];have eot:wt6 [.str wy,.int sg']=some (.tup [.str wy,.int sg']):=rfl;simp! [el6,esg,eot,eat];refine⟨_,zx4 wa3 (by rw[Aa0];omega),?_⟩;simp! [wq5,hpm];refine⟨_,zx4 (za7 c) (by rw[Aa0];omega),?_⟩;refine pn _ _ ⟨left',ts++[⟨w',1,wy,sg',c.1,c.2⟩],.bor (.int (0+(i:Int))),.bor (wp5 c),.bor (.tup [.int w',.int 1]),.bor (.int v4),.bor (.int v5),?_,sg.snoc hk hsub hw',by rw[Ak0];simp;omega,by omega⟩;rw[Am0,Am0];rfl
 ·obtain⟨left,ts,x8,x9,x10,x11,x12,er,sg,hl,ht⟩:=hI
  subst er;rw[zd3,Ah0] at hl ht;have mn':wy0 most (T.length:Nat)<=12:=by have:=mn.1;omega
  have et1:zo3 [.lst (sh.map wp5)]=some (.tup (sh.map wp5)):=by simp[zo3,him]
  have et2:zo3 [.lst (ts.map Tr.kind)]=some (.tup (ts.map Tr.kind)):=by simp[zo3,hkm]
  have et3:zo3 [.lst (ts.map Tr.place)]=some (.tup (ts.map Tr.place)):=by simp[zo3,hpm]
  have eo:wt6 [.tup (sh.map wp5),.tup (ts.map Tr.kind)]=some (.tup [.tup (sh.map wp5),.tup (ts.map Tr.kind)]):=ws5 (by rw[imm_tup];exact him sh) (by rw[imm_tup];exact hkm ts);have ea:wq3 (.tup [.int w,.int h]) (.tup [.tup (sh.map wp5),.tup (ts.map Tr.kind)])=some (wp7 w h sh ts):=vt8 (by simp[D.immL,D.imm]) (by simp[D.immL,D.imm,him,hkm]) (by simp);have hi2:(wp7 w h sh ts).imm=true:=by simp[wp7,D.imm,D.immL,him,hkm]
  have hi3:(ze0 ts).imm=true:=by simp[ze0,D.imm,hpm]
  have eo2:wt6 [wp7 w h sh ts,.tup (ts.map Tr.place)]=some (.tup [wp7 w h sh ts,ze0 ts]):=ws5 hi2 hi3;simp! [et1,et2,et3,eo,ea,eo2,hi2,hi3];exact hq sh ts st' (sg.hc hTf w1 w9 h1 h9 shl (by omega)) (by omega)
def tt(L:List wp6):List D:=L.map λ_=>D.bl true
abbrev zo7(L:List wp6):D:=.dct (.non::L.map wp5) (tt L)
def ye8(L:List wp6):D.immL (tt L)=true:=zb1 (λ_=>imm_bl) L
theorem zw0{c:wp6}:∀L:List wp6,wp8 (ck c) (L.map wp5) (tt L)=if c∈L then some (.bl true) else none
 | []=>rfl
 | a::L=>by
   show wp8 (ck c) (wp5 a::L.map wp5) (.bl true::tt L)=_;unfold wp8;rw[zd2,zw0 L];by_cases h:a=c
   ·subst h;simp
   ·have h1:¬some (ck a)=some (ck c):=λz=>h (yu4 (Option.some.inj z))
    have h2:c≠a:=λz=>h z.symm
    rw[if_neg h1];simp[h2]
def yg7{c:wp6}{L:List wp6}(h:c∉L):ws0 (ck c) (.bl true) (L.map wp5) (tt L)=((L++[c]).map wp5,tt (L++[c])):=by
 unfold ws0;rw[zw0,if_neg h];unfold tt;rw[Am0,Am0];rfl
def xg2{c:wp6}{L:List wp6}(h:c∈L):ws0 (ck c) (.bl true) (L.map wp5) (tt L)=(L.map wp5,tt L):=by
 unfold ws0;rw[zw0,if_pos h];have e:∀M:List wp6,List.zipWith (λd u=>if zc7 d=some (ck c) then D.bl true else u) (M.map wp5) (tt M)=tt M:=λM=>by
  induction M with
  | nil=>rfl
  | cons a M ih=>
    show (if zc7 (wp5 a)=some (ck c) then D.bl true else D.bl true)::List.zipWith (λd u=>if zc7 d=some (ck c) then D.bl true else u) (M.map wp5) (tt M)=D.bl true::tt M;rw[ih];split<;>rfl
 rw[e];rfl
def vb7(c:wp6)(L:List wp6):List wp6:=if c∈L then L else L++[c]
def ys4{c:wp6}{L:List wp6}:ws0 (ck c) (.bl true) (L.map wp5) (tt L)=((vb7 c L).map wp5,tt (vb7 c L)):=by
 unfold vb7;by_cases h:c∈L
 ·rw[if_pos h,xg2 h]
 ·rw[if_neg h,yg7 h]
open H in
def wi5{c:wp6}{L:List wp6}(h:L.Nodup):(vb7 c L).Nodup:=by
 unfold vb7;split
 ·exact h
 ·rename_i hc
  exact Bv0.mpr ⟨h,by simp,λa ha b hb e=>hc (by rw[<-Al0.mp hb,<-e];exact ha)⟩
def xy6{c:wp6}{L:List wp6}:(vb7 c L).length<=L.length+1:=by
 unfold vb7;split
 ·omega
 ·rw[Ak0];simp
def xy5{c:wp6}{L:List wp6}:c∈vb7 c L:=by
 unfold vb7;split
 ·assumption
 ·simp
theorem yg8{c:wp6}:∀{L:List wp6},c∈L->vd8 (ck c) (L.map wp5) (tt L)=some ((L.eraseIdx (wv7 c L)).map wp5,tt (L.eraseIdx (wv7 c L)))
 | a::L,h=>by
   show (if zc7 (wp5 a)=some (ck c) then some (L.map wp5,tt L) else (vd8 (ck c) (L.map wp5) (tt L)).map λp=>(wp5 a::p.1,D.bl true::p.2))=_;unfold wv7;rw[zd2];by_cases e:a=c
   ·subst e
    rw[if_pos rfl,if_pos rfl];rfl
   ·have h':c∈L:=by
     rcases Aj0.mp h with h | h
     ·exact absurd h.symm e
     ·exact h
    rw[if_neg (λz=>e (yu4 (Option.some.inj z))),if_neg e,yg8 h'];rfl
def yk6{L:List wp6}(h:L.length<64):xm0 [zo7 L]=some (.lst ((wr0 L).map wp5)):=by
 have e:L.map wp5=L.map prD:=By0 λc _=>rfl
 have e2:(wr0 L).map wp5=(wr0 L).map prD:=By0 λc _=>rfl
 show (ws1 (L.map wp5)).bind (λps=>if ps.length<64 then some (D.lst ((wr0 ps).map prD)) else none)=_;rw[e,zz1,e2];exact if_pos h
def xn2{L:List wp6}(h:L.length<=1000):vf8 [zo7 L]=some (.int (L.length:Nat)):=by
 show (if (L.map wp5).length<=1000 then some (D.int (L.map wp5).length) else none)=_;rw[Aa0,if_pos h]
def wn5{a p q:Int}:oIn false (.int a) (.tup [.int p,.int q])=some (.bl (p == a||q == a)):=by
 show (if D.depL [.int p,.int q]<=30 then (inD (.int a) [.int p,.int q]).map λx=>D.bl (if false=true then !x else x) else none)=_;rw[if_pos (by simp[D.dep,D.depL])];show ((D.eqq (.int p) (.int a)).bind λb=>((D.eqq (.int q) (.int a)).bind λb=>(inD (.int a) []).map λx=>b||x).map λx=>b||x).map _=_;rw[zs3,zs3];show some (D.bl (p == a||(q == a||false)))=_;rw[Bool.or_false]
def wv2(x y wide high:Int)(c:wp6):Bool:=(x == c.1||x+wide-1 == c.1)||(y == c.2||y+high-1 == c.2)
theorem zx1:∀{l m:List wp6},l.Nodup->(∀x∈l,x∈m)->l.length<=m.length
 | [],_,_,_=>Be0 _
 | a::l,m,nd,hs=>by
   have pm:=List.perm_cons_erase (hs a Bh0);have nd':=Bi0.mp nd;have:=zx1 (l:=l) (m:=m.erase a) nd'.2 λx hx=>by
    rcases Aj0.mp (pm.mem_iff.mp (hs x (Br0 _ hx))) with z | z
    ·exact absurd (z▸hx) nd'.1
    ·exact z
   rw[pm.length_eq];exact Nat.succ_le_succ this
def xy3{x y w h:Int}{C:List wp6}(hC:cov w h (x,y)=C)(nd:C.Nodup)(w9:w<=9)(h7:h<=7):(C.filter (wv2 x y w h)).length<=32:=by
 subst hC;refine Ap0 (zx1 (m:=(cov w 1 (x,y)++cov w 1 (x,y+h-1))++(cov 1 h (x,y)++cov 1 h (x+w-1,y))) (nd.filter _) λc hc=>?_) (by rw[Ak0,Ak0,Ak0,zh8,zh8,zh8,zh8];simp only[Int.toNat_one,Nat.mul_one,Nat.one_mul];omega);obtain⟨h1,h2⟩:=Bn0.mp hc;obtain⟨a1,a2,a3,a4⟩:=zi8.mp h1;simp only[wv2,Bool.or_eq_true,beq_iff_eq] at h2;simp only[Av0,zi8];dsimp only at a1 a2 a3 a4 ⊢;omega
structure Rg(G L:List wp6)(n:Nat):Prop where
 sub:∀c∈L,c∈G
 nd:L.Nodup
 ln:L.length<=n
def Rg.add{G L:List wp6}{n:Nat}(h:Rg G L n){c:wp6}(hc:c∈G):Rg G (vb7 c L) (n+1):=⟨λx hx=>by
 unfold vb7 at hx;split at hx
 ·exact h.sub x hx
 ·rcases Av0.mp hx with z | z
  ·exact h.sub x z
  ·rw[Al0.mp z];exact hc,wi5 h.nd,Ap0 xy6 (Nat.add_le_add_right h.ln 1)⟩
def Rg.pop{G L:List wp6}{n k:Nat}(h:Rg G L n):Rg G (L.eraseIdx k) n:=⟨λx hx=>h.sub x ((Cc0 _ _).subset hx),(Cc0 _ _).nodup h.nd,Ap0 (Cc0 _ _).length_le h.ln⟩
def Rg.sort{G L:List wp6}{n:Nat}(h:Rg G L n):(wr0 L).Nodup/\(wr0 L).length<=n/\∀c∈wr0 L,c∈G:=⟨(List.Perm.nodup_iff (ze7 L)).mpr h.nd,by rw[(ze7 L).length_eq];exact h.ln,λc hc=>h.sub c ((ze7 L).mem_iff.mp hc)⟩
def xj0:List D->Dr->Res Dr D:=wz7 13 2 (zm7 wr7 zh0 yq3).1
def xt0{st:Dr}{Q:D->Dr->Prop}{E:Exn->Dr->Prop}(hs:st.2<2 ^ 37)(hq:∀w h sh ts st',HC w h sh ts->st'.2<=st.2+120->Q (.tup [wp7 w h sh ts,ze0 ts]) st'):wpR (xj0 [.bl false] st) Q E:=by
 refine zw8 rfl (by decide) ?_;unfold zm7;dsimp only;have him:∀l:List wp6,D.immL (l.map wp5)=true:=λl=>zb1 za7 l
 have e00:wt6 [.int 0,.int 0]=some (wp5 (0,0)):=rfl;have e22:wt6 [.int 2,.int 2]=some (.tup [.int 2,.int 2]):=rfl;have ep:∀a b:Int,wt6 [.int a,.int b]=some (.tup [.int a,.int b]):=λa b=>rfl
 have cd2:∀a b:Int,D.tup [.int a,.int b]=wp5 (a,b):=λa b=>rfl
 simp_all!;simp!;refine zb6 (by decide) (by decide) (by omega) λv1 st1 a1 b1 c1=>?_
 simp! [wq3,wr4];refine zb6 (by decide) (by decide) (by omega) λv2 st2 a2 b2 c2=>?_
 simp! [wq3,wr4];simp_all!;simp!;refine zk6 (λρ (st':Dr)=>∃(w h:Int),ρ=[Sl.hnd,.bor (.bl false),.bor (.int w),.bor (.int h),.no,.no,.no,.no,.no,.no,.no,.no,.no]/\2<=w/\w<=9/\2<=h/\h<=7/\st'.2<=st2.2+1) (λP2 pn2=>?_) λρ st3 hI=>?_
 ·simp!
  refine zb6 (by decide) (by decide) (by omega) λv3 st3 a3 b3 c3=>?_
  simp! [zj6];by_cases hv:v3=0
  ·have ev:(v3 == 0)=true:=by rw[hv];rfl
   rw[ev];simp! [e22];exact pn2 _ _ ⟨2,2,rfl,by decide,by decide,by decide,by decide,by omega⟩
  ·have ev:(v3 == 0)=false:=beq_eq_false_iff_ne.mpr hv
   rw[ev];simp!;exact pn2 _ _ ⟨_,_,rfl,by omega,by omega,by omega,by omega,by omega⟩
 ·obtain⟨w,h,er,w2,w9,h2,h7,t3⟩:=hI
  subst er;simp_all!;simp! [wr4];refine zb6 (by omega) (by omega) (by omega) λx st4 a4 b4 c4=>?_
  simp! [wr4];refine zb6 (by omega) (by omega) (by omega) λy st5 a5 b5 c5=>?_
  simp!;simp_all!;simp!;have C63:(cov w h (x,y)).length<=63:=by rw[zh8];exact zn8 (c:=9) (d:=7) (by omega) (by omega)
  have Cnd:(cov w h (x,y)).Nodup:=yb0;generalize hC:cov w h (x,y)=C at *;refine zk6 (λρ (st':Dr)=>∃x7:Sl,ρ=[Sl.hnd,.bor (.bl false),.bor (.int w),.bor (.int h),.bor (.int x),.bor (.int y),.own (zo7 (C.filter (wv2 x y w h))),x7,.no,.no,.no,.no,.no]/\st'=st5) (λP2 pn2=>?_) λρ st6 hI=>?_
  ·simp! [ep]
   rw[cd2 x y];refine zk7 (by omega) (by omega) (by omega) (by omega) ?_;rw[hC];simp!;refine zf3 (λi ρ st'=>∃x7:Sl,ρ=[Sl.hnd,.bor (.bl false),.bor (.int w),.bor (.int h),.bor (.int x),.bor (.int y),.own (zo7 ((C.take i).filter (wv2 x y w h))),x7,.no,.no,.no,.no,.no]/\st'=st5) 0 ⟨.no,rfl,rfl⟩ (λi d ρ st' hd hI P pn=>?_) λρ st' hI=>?_
   ·obtain⟨x7,er,e5⟩:=hI
    rw[Ai0] at hd;cases q:C[i]? with
    | none=>rw[q] at hd;cases hd
    | some c=>
      rw[q] at hd;cases hd;subst er e5;have hi:i<C.length:=(Ae0.mp q).1;have c0:oIx (wp5 c) (.int 0)=some (.int c.1):=rfl;have c1':oIx (wp5 c) (.int 1)=some (.int c.2):=rfl;have et:C.take (i+1)=C.take i++[c]:=by rw[Bj0,q];rfl
      have hnc:c∉C.take i:=λz=>by
       have h1:=(List.take_sublist (i+1) C).nodup Cnd;rw[et] at h1;exact(Bv0.mp h1).2.2 c z c (by simp) rfl
      refine⟨_,rfl,?_⟩;simp! [c0,c1',wq3,wr4,ep,wn5];have done:∀b,wv2 x y w h c=b->(b=true->P (.nx [Sl.hnd,.bor (.bl false),.bor (.int w),.bor (.int h),.bor (.int x),.bor (.int y),.own (zo7 ((C.take i).filter (wv2 x y w h)++[c])),.bor (wp5 c),.no,.no,.no,.no,.no]) st')/\(b=false->P (.nx [Sl.hnd,.bor (.bl false),.bor (.int w),.bor (.int h),.bor (.int x),.bor (.int y),.own (zo7 ((C.take i).filter (wv2 x y w h))),.bor (wp5 c),.no,.no,.no,.no,.no]) st'):=λb hb=>by
       constructor<;>intro hbb<;>refine pn _ _ ⟨.bor (wp5 c),?_,rfl⟩<;>rw[Ah0,et,List.filter_append]
       ·simp[hb,hbb]
       ·simp[hb,hbb]
      have fl63:((C.take i).filter (wv2 x y w h)).length<=63:=Ap0 (Bl0 _ _) (by rw[Aw0];omega);have hnl:c∉(C.take i).filter (wv2 x y w h):=λz=>hnc (Bn0.mp z).1
      have kp2:=yg7 hnl;generalize hL:(C.take i).filter (wv2 x y w h)=L at *;by_cases b1:(x == c.1||x+w-1 == c.1)=true
      ·have hb:wv2 x y w h c=true:=by unfold wv2;rw[b1];rfl
       rw[if_pos b1];refine⟨L.map wp5,tt L,by simp?! [wr6,ye8],_,zd2 c,lt_size (by rw[Aa0];omega),?_⟩;rw[kp2];exact(done true hb).1 rfl
      ·rw[if_neg b1]
       by_cases b2:(y == c.2||y+h-1 == c.2)=true
       ·have hb:wv2 x y w h c=true:=by unfold wv2;rw[b2,Bool.or_true]
        rw[if_pos b2];refine⟨L.map wp5,tt L,by simp?! [wr6,ye8],_,zd2 c,lt_size (by rw[Aa0];omega),?_⟩;rw[kp2];exact(done true hb).1 rfl
       ·have hb:wv2 x y w h c=false:=by
         unfold wv2;rw[Bool.eq_false_iff.mpr b1,Bool.eq_false_iff.mpr b2];rfl
        rw[if_neg b2];exact(done false hb).2 rfl
   ·obtain⟨x7,er,e5⟩:=hI
    subst er e5;rw[Aa0,Ah0,Bb0];exact pn2 _ _ ⟨_,rfl,rfl⟩
  ·obtain⟨x7,er,e5⟩:=hI
   subst er e5;have rg:Rg C (C.filter (wv2 x y w h)) 32:=⟨λc hc=>(Bn0.mp hc).1,Cnd.filter _,xy3 hC Cnd w9 h7⟩;have c00:(x,y)∈C.filter (wv2 x y w h):=Bn0.mpr ⟨by rw[<-hC];exact zi8.mpr ⟨Bx0 _,by show x<x+w;omega,Bx0 _,by show y<y+h;omega⟩,by simp[wv2]⟩;refine zk6 (λρ (st':Dr)=>∃(L:List wp6) (x8:Sl),ρ=[Sl.hnd,.bor (.bl false),.bor (.int w),.bor (.int h),.bor (.int x),.bor (.int y),.own (zo7 L),x7,x8,.no,.no,.no,.no]/\Rg C L 35/\1<=L.length/\st'.2<=st6.2+1) (λP2 pn2=>?_) λρ st7 hI=>?_
   ·have keep:∀st7:Dr,st7.2<=st6.2+1->P2 (.nx [Sl.hnd,.bor (.bl false),.bor (.int w),.bor (.int h),.bor (.int x),.bor (.int y),.own (zo7 (C.filter (wv2 x y w h))),x7,.no,.no,.no,.no,.no]) st7:=λst7 g=>pn2 _ _ ⟨_,_,rfl,⟨rg.sub,rg.nd,Ap0 rg.ln (by decide)⟩,List.length_pos_of_mem c00,g⟩
    simp! [wr4];by_cases h6:6<w
    ·rw[Am1 h6]
     simp!;by_cases h4:4<h
     ·rw[Am1 h4]
      simp!;refine zb6 (by decide) (by decide) (by omega) λv7 st7 a7 b7 c7=>?_
      simp! [zj6];by_cases hv:v7=0
      ·have ev:(v7 == 0)=true:=by rw[hv];rfl
       rw[ev];simp!;simp_all!;simp! [yl9,wq3,wr4,ep];rw[cd2 (x+3) (y+h-1)];have hin:((x+3,y+h-1):wp6)∈C.filter (wv2 x y w h):=Bn0.mpr ⟨by rw[<-hC];exact zi8.mpr ⟨by show x<=x+3;omega,by show x+3<x+w;omega,by show y<=y+h-1;omega,by show y+h-1<y+h;omega⟩,by simp[wv2]⟩;refine⟨_,_,by simp?! [wr6,ye8],_,_,zd2 _,yg8 hin,?_⟩;simp!;have e234:wt6 [.int 2,.int 3,.int 4]=some (.tup [.int 2,.int 3,.int 4]):=rfl;simp! [e234];refine zf3 (λi ρ st'=>∃(L:List wp6) (x8:Sl),ρ=[Sl.hnd,.bor (.bl false),.bor (.int w),.bor (.int h),.bor (.int x),.bor (.int y),.own (zo7 L),x7,x8,.no,.no,.no,.no]/\Rg C L (32+i)/\(1<=i->1<=L.length)/\st'=st7) 0 ⟨_,.no,rfl,rg.pop,λz=>absurd z (by decide),rfl⟩ (λi d ρ st' hd hI P pn=>?_) λρ st' hI=>?_
       ·obtain⟨L,x8,er,rl,_,e7⟩:=hI
        obtain⟨e,rfl,hi,eb⟩:∃e:Int,d=.int e/\i<3/\2<=e/\e<=4:=by
         match i,hd with
         | 0,hd=>cases hd;exact⟨_,rfl,by decide,by decide⟩
         | 1,hd=>cases hd;exact⟨_,rfl,by decide,by decide⟩
         | 2,hd=>cases hd;exact⟨_,rfl,by decide,by decide⟩
         | n+3,hd=>simp at hd
        subst er e7;have rll:=rl.ln;refine⟨_,rfl,?_⟩;simp! [wq3,wr4,ep];rw[cd2 (x+e) (y+h-2)];refine⟨L.map wp5,tt L,by simp?! [wr6,ye8],_,zd2 _,lt_size (by rw[Aa0];omega),?_⟩;rw[ys4];exact pn _ _ ⟨_,_,rfl,rl.add (c:=(x+e,y+h-2)) (by rw[<-hC];exact zi8.mpr ⟨by show x<=x+e;omega,by show x+e<x+w;omega,by show y<=y+h-2;omega,by show y+h-2<y+h;omega⟩),λ_=>List.length_pos_of_mem xy5,rfl⟩
       ·obtain⟨L,x8,er,rl,l1,e7⟩:=hI
        subst er e7;exact pn2 _ _ ⟨L,x8,rfl,rl,l1 (by decide),by omega⟩
      ·have ev:(v7 == 0)=false:=beq_eq_false_iff_ne.mpr hv
       rw[ev];simp!;exact keep st7 (by omega)
     ·rw[Al1 h4]
      simp!;exact keep st6 (by omega)
    ·rw[Al1 h6]
     simp!;exact keep st6 (by omega)
   ·obtain⟨L,x8,er,rl,l1,t7⟩:=hI
    subst er;have rll:=rl.ln;simp_all!;simp! [wq3,wr4];refine zb6 (by omega) (by omega) (by omega) λv8 st8 a8 b8 c8=>?_
    simp! [wq3,wr4];refine zb6 (by omega) (by omega) (by omega) λv9 st9 a9 b9 c9=>?_
    simp! [wq3,wr4,ep];generalize hsw:x+w+v8=sw at *;generalize hsh':y+h+v9=sh' at *;simp_all!;simp! [e00];refine zk7 (by omega) (by omega) (by omega) (by omega) ?_;have c81:(cov sw sh' (0,0)).length<=81:=yb1 (by omega) (by omega);have c1l:1<=(cov sw sh' (0,0)).length:=by
     rw[zh8];have:1*1<=sw.toNat*sh'.toNat:=zn8 (by omega) (by omega);omega
    have hCG:∀c∈C,c∈cov sw sh' (0,0):=λc hc=>by
     rw[<-hC] at hc;obtain⟨g1,g2,g3,g4⟩:=zi8.mp hc;exact zi8.mpr ⟨by show 0<=c.1;have:x<=c.1:=g1;omega,by show c.1<0+sw;have:c.1<x+w:=g2;omega,by show 0<=c.2;have:y<=c.2:=g3;omega,by show c.2<0+sh';have:c.2<y+h:=g4;omega⟩
    have hGG:∀c,c∈cov sw sh' (0,0)->c∈cov sw sh' (0,0):=λc z=>z
    generalize hG:cov sw sh' (0,0)=G at hCG hGG ⊢ c81 c1l;have hGs:∀c∈G,c∈cov sw sh' (0,0):=λc hc=>by rw[hG];exact hc
    have rlG:Rg G L 35:=⟨λc hc=>hCG c (rl.sub c hc),rl.nd,rl.ln⟩;simp! [him];simp_all!;simp!;refine zb6 (by decide) (by decide) (by omega) λv10 st10 a10 b10 c10=>?_
    simp!;refine zk6 (λρ (st':Dr)=>∃L:List wp6,ρ=[Sl.hnd,.bor (.bl false),.bor (.int w),.bor (.int h),.bor (.int x),.bor (.int y),.own (zo7 L),x7,x8,.bor (.tup [.int sw,.int sh']),.own (.lst (G.map wp5)),.bor (.int v10),.no]/\Rg G L 35/\st'.2<=st10.2+1) (λP2 pn2=>?_) λρ st11 hI=>?_
    ·simp! [zj6]
     by_cases hv:v10=0
     ·have ev:(v10 == 0)=true:=by rw[hv];rfl
      rw[ev];simp! [yl9,yk6 (show L.length<64 by omega),xn2 (show L.length<=1000 by omega)];refine⟨L.map wp5,tt L,by simp?! [wr6,ye8],?_⟩;refine zb6 (by omega) (by omega) (by omega) λv11 st11 a11 b11 c11=>?_
      have sl:(wr0 L).length=L.length:=(ze7 L).length_eq;have hk:v11.toNat<(wr0 L).length:=by omega
      have eix:oIx (.lst ((wr0 L).map wp5)) (.int v11)=some (wp5 (wr0 L)[v11.toNat]):=(ya2 (za7 _) a11 (by rw[Ai0,Ac0 hk];rfl)).1;have hm:(wr0 L)[v11.toNat]∈L:=(ze7 L).mem_iff.mp (List.getElem_mem hk);simp! [eix];refine⟨_,_,zd2 _,yg8 hm,?_⟩;exact pn2 _ _ ⟨_,rfl,rlG.pop,by omega⟩
     ·have ev:(v10 == 0)=false:=beq_eq_false_iff_ne.mpr hv
      rw[ev];simp!;exact pn2 _ _ ⟨_,rfl,rlG,by omega⟩
    ·obtain⟨L,er,rl,t11⟩:=hI
     subst er;have rll:=rl.ln;refine zk6 (λρ (st':Dr)=>∃L:List wp6,ρ=[Sl.hnd,.bor (.bl false),.bor (.int w),.bor (.int h),.bor (.int x),.bor (.int y),.own (zo7 L),x7,x8,.bor (.tup [.int sw,.int sh']),.own (.lst (G.map wp5)),.bor (.int v10),.no]/\Rg G L 36/\st'.2<=st11.2+1) (λP2 pn2=>?_) λρ st12 hI=>?_
     ·simp! [zj6]
      by_cases hv:v10=1
      ·have ev:(v10 == 1)=true:=by rw[hv];rfl
       have olg:wv6 [.lst (G.map wp5)]=some (.int (G.length:Nat)):=by simp[wv6]
       rw[ev];simp! [olg];refine⟨L.map wp5,tt L,by simp?! [wr6,ye8],?_⟩;refine zb6 (by omega) (by omega) (by omega) λv12 st12 a12 b12 c12=>?_
       have hk:v12.toNat<G.length:=by omega
       have eix:oIx (.lst (G.map wp5)) (.int v12)=some (wp5 G[v12.toNat]):=(ya2 (za7 _) a12 (by rw[Ai0,Ac0 hk];rfl)).1;simp! [eix];refine⟨_,zd2 _,lt_size (by rw[Aa0];omega),?_⟩;rw[ys4];exact pn2 _ _ ⟨_,rfl,rl.add (List.getElem_mem hk),by omega⟩
      ·have ev:(v10 == 1)=false:=beq_eq_false_iff_ne.mpr hv
       rw[ev];simp!;exact pn2 _ _ ⟨_,rfl,⟨rl.sub,rl.nd,Nat.le_succ_of_le rl.ln⟩,by omega⟩
     ·obtain⟨L,er,rl,t12⟩:=hI
      subst er;have rll:=rl.ln;simp_all!;have q1:∃m:Int,oIx (.lst [.int 2,.int 3]) (.int (if (w == 2)=true then 1 else 0))=some (.int m):=by
       cases (w == 2)
       ·exact⟨2,rfl⟩
       ·exact⟨3,rfl⟩
      obtain⟨m,em⟩:=q1;have el1:ww2 [.int 2,.int 3]=some (.lst [.int 2,.int 3]):=rfl;have el2:ww2 [.int 12,.int m]=some (.lst [.int 12,.int m]):=rfl;have ei2:oIx (.lst [.int 12,.int m]) (.int 0)=some (.int 12):=rfl;simp! [zj6,vi7,el1,em,el2,ei2];simp! [yk6 (show L.length<64 by omega)];obtain⟨s1,s2,s3⟩:=rl.sort;refine yy7 s1 (λc hc=>hGs c (s3 c hc)) (by omega) (by decide) (by decide) (by omega) (by omega) (by omega) (by omega) (by omega) λsh ts st' hc ht=>?_
      have i1:(wp7 sw sh' sh ts).imm=true:=by simp[wp7,D.imm,D.immL,him,zb1 zn5 ts]
      have i2:(ze0 ts).imm=true:=by rw[zv6];simp[D.imm,him]
      have i3:(D.tup [wp7 sw sh' sh ts,ze0 ts]).imm=true:=by simp[D.imm,D.immL,i1,i2]
      exact⟨.inl i3,hq _ _ _ _ _ hc (by omega)⟩
def ya5{neg:Bool}{a b:wp6}:oEq neg (wp5 a) (wp5 b)=some (.bl (if neg then !decide (a=b) else decide (a=b))):=by
 unfold oEq;rw[if_pos (Ap0 (zw3 a) (by decide)),ye0];rfl
def yj4{L:List wp6}(h:L.length<64):yz9 [.lst (L.map wp5)]=some (.lst ((wr0 L).map wp5)):=by
 have e:L.map wp5=L.map prD:=By0 λc _=>rfl
 have e2:(wr0 L).map wp5=(wr0 L).map prD:=By0 λc _=>rfl
 show (ws1 (L.map wp5)).bind (λps=>if ps.length<64 then some (D.lst ((wr0 ps).map prD)) else none)=_;rw[e,zz1,e2];exact if_pos h
def vt9{a b:List D}(h1:D.immL a=true)(h2:D.immL b=true)(h:a.length+b.length<=1000):wq3 (.lst a) (.lst b)=some (.lst (a++b)):=by
 have e0:wr4 (λi j=>D.int (i+j)) (.lst a) (.lst b)=none:=rfl;have e1:va8 (.lst a) (.lst b)=some (.lst (a++b)):=if_pos ⟨h1,h2,zd9 h⟩;unfold wq3;rw[e0,e1];rfl
def yv6:List D->Dr->Res Dr D:=wz7 4 1 (zm6 zh0 wr7 yq3).1
def xg9{st:Dr}{Q:D->Dr->Prop}{E:Exn->Dr->Prop}(hs:st.2<2 ^ 37)(hq:∀w h sh ts st',HC w h sh ts->st'.2<=st.2+120->Q (.tup [wp7 w h sh ts,ze0 ts]) st'):wpR (yv6 [] st) Q E:=by
 refine zw8 rfl (by decide) ?_;unfold zm6;dsimp only;have him:∀l:List wp6,D.immL (l.map wp5)=true:=λl=>zb1 za7 l
 have ep:∀a b:Int,wt6 [.int a,.int b]=some (.tup [.int a,.int b]):=λa b=>rfl
 have cd2:∀a b:Int,D.tup [.int a,.int b]=wp5 (a,b):=λa b=>rfl
 simp_all!;simp! [ep];refine zb6 (by decide) (by decide) (by omega) λa st1 a1 b1 c1=>?_
 simp! [ep];refine zb6 (by decide) (by decide) (by omega) λb st2 a2 b2 c2=>?_
 simp! [ep];rw[cd2 a b];refine zk7 (by decide) (by decide) (by decide) (by decide) ?_;generalize hA:cov 2 2 (a,b)=A;simp! [him];simp_all!;simp!;refine zb6 (by decide) (by decide) (by omega) λx st3 a3 b3 c3=>?_
 simp! [wq3,wr4];refine zb6 (by decide) (by decide) (by omega) λy st4 a4 b4 c4=>?_
 simp! [ep];simp_all!;simp! [ep];rw[cd2 (5+x) y];refine zk7 (by decide) (by decide) (by decide) (by decide) ?_;generalize hB:cov 3 3 (5+x,y)=B;simp!;have Al:A.length=4:=by rw[<-hA,zh8];rfl
 have Bl:B.length=9:=by rw[<-hB,zh8];rfl
 refine ze5 (xs:=B) (a:=wp5) (y:=wp5) (p:=λc=>!decide (c=(5+x+1,y+1))) (λρ=>∃z,ρ=[z,Sl.bor (.int (5+x)),.bor (.int y)]) ⟨_,rfl⟩ (λc hc' ρ hI144=>?_) (zd9 (by omega)) ?_
 ·obtain⟨z,er⟩:=hI144
  subst er;have ec:=ya5 (neg:=true) (a:=c) (b:=(5+x+1,y+1));refine⟨_,rfl,⟨_,rfl⟩,?_,λ_=>?_⟩
  ·simp! [wq3,wr4,ep]
   rw[cd2 (5+x+1) (y+1),ec];simp!
  ·simp! [za7]
 generalize hB2:B.filter (λc=>!decide (c=(5+x+1,y+1)))=B2;have B2l:B2.length<=9:=by rw[<-hB2,<-Bl];exact Bl0 _ _
 have bA:∀c∈A,0<=c.1/\c.1<4/\0<=c.2/\c.2<4:=λc hc=>by
  rw[<-hA] at hc;obtain⟨g1,g2,g3,g4⟩:=zi8.mp hc;have g1:a<=c.1:=g1;have g2:c.1<a+2:=g2;have g3:b<=c.2:=g3;have g4:c.2<b+2:=g4;omega
 have bB:∀c∈B2,5<=c.1/\c.1<9/\0<=c.2/\c.2<9:=λc hc=>by
  rw[<-hB2] at hc;have hc:=(Bn0.mp hc).1;rw[<-hB] at hc;obtain⟨g1,g2,g3,g4⟩:=zi8.mp hc;have g1:5+x<=c.1:=g1;have g2:c.1<5+x+3:=g2;have g3:y<=c.2:=g3;have g4:c.2<y+3:=g4;omega
 have nd:(A++B2).Nodup:=Bv0.mpr ⟨by rw[<-hA];exact yb0,by rw[<-hB2,<-hB];exact yb0.filter _,λu hu v hv e=>by
  have:=(bA u hu).2.1;have:=(bB v hv).1;rw[e] at *;omega⟩
 have ea:wq3 (.lst (A.map wp5)) (.lst (B2.map wp5))=some (.lst ((A++B2).map wp5)):=by
  rw[vt9 (him _) (him _) (by rw[Aa0,Aa0];omega),Am0]
 simp! [ea,him];have tl:(A++B2).length<=13:=by rw[Ak0];omega
 simp! [ep,yj4 (show (A++B2).length<64 by omega)];with_reducible refine yy7 (T:=wr0 (A++B2)) (w:=9) (h:=9) (most:=12) ((ze7 _).nodup_iff.mpr nd) (λc hc=>?_) (by rw[(ze7 _).length_eq];omega) (by decide) (by decide) (by decide) (by decide) (by decide) (by decide) (by omega) λsh ts st' hc ht=>?_
 ·have hc:=(ze7 _).mem_iff.mp hc
  rcases Av0.mp hc with z | z
  ·have:=bA c z;exact zi8.mpr ⟨by show 0<=c.1;omega,by show c.1<0+9;omega,by show 0<=c.2;omega,by show c.2<0+9;omega⟩
  ·have:=bB c z;exact zi8.mpr ⟨by show 0<=c.1;omega,by show c.1<0+9;omega,by show 0<=c.2;omega,by show c.2<0+9;omega⟩
 ·have i1:(wp7 9 9 sh ts).imm=true:=by simp[wp7,D.imm,D.immL,him,zb1 zn5 ts]
  have i2:(ze0 ts).imm=true:=by rw[zv6];simp[D.imm,him]
  have i3:(D.tup [wp7 9 9 sh ts,ze0 ts]).imm=true:=by simp[D.imm,D.immL,i1,i2]
  exact⟨.inl i3,hq _ _ _ _ _ hc (by omega)⟩
def xw7{T:List wp6}{c:wp6}{k:List Key}:(inT T k\/ck c=k)↔inT (T++[c]) k:=by
 simp only[inT,Av0,Al0];constructor
 ·rintro (⟨c',h1,h2⟩ | h)
  ·exact⟨c',.inl h1,h2⟩
  ·exact⟨c,.inr rfl,h⟩
 ·rintro ⟨c',h1 | h1,h2⟩
  ·exact .inl ⟨c',h1,h2⟩
  ·subst h1;exact .inr h2
def yn4:List D->Res Unit D:=dfn 10 2 (zs9 zh0).1
def yj2{wide high:Int}{sh:List wp6}{ts:List Tr}{ps:List wp6}{Q:D->Unit->Prop}{E:Exn->Unit->Prop}(hc:Cfg wide high sh ts)(hpl:ps.length=ts.length)(hq:∀b,(b=true->zf2 ts=true->GP wide high sh ps)->Q (.bl b) ()):wpR (yn4 [wp7 wide high sh ts,.lst (ps.map wp5)]) Q E:=by
 refine zj2 rfl (by decide) ?_;unfold zs9;dsimp only;have few:=hc.few;simp_all!;simp! [wp7];simp_all!;simp!;rw  [zb9];simp! [vc6];refine xh4 (λi ρ st'=>∃(d:D) (T:List wp6) (x7 x8 x9:Sl),ρ=[Sl.bor (wp7 wide high sh ts),.bor (.lst (ps.map wp5)),.bor (.int wide),.bor (.int high),.bor (.tup (sh.map wp5)),.bor (.tup (ts.map Tr.kind)),.own d,x7,x8,x9]/\Holds d (81*i) (inT T)/\(zf2 ts=true->T=ps.take i/\GP wide high sh T)) 0 ⟨_,[],_,_,_,rfl,Holds.nil.imp (Ag0 _) λk=>by simp[inT],λ_=>⟨by simp,by simp[GP]⟩⟩ (λi e ρ st' he hI P pn pr=>?_) λρ st' hI=>?_
 ·obtain⟨d,T,x7,x8,x9,er,hd,hS⟩:=hI
  obtain⟨k,pl',hk,hp,rfl⟩:=yr3 he;rw[Ai0] at hk hp;cases q:ts[i]? with
  | none=>rw[q] at hk;cases hk
  | some t=>
    cases q2:ps[i]? with
    | none=>rw[q2] at hp;cases hp
    | some p=>
      rw[q] at hk;rw[q2] at hp;cases hk;cases hp;subst er;rw[Ah0] at hd hS;have hil:i<ts.length:=(Ae0.mp q).1;obtain⟨q1,q3,q4,q5⟩:=hc.wh t (Ar0 q);have h8:(cov t.w t.h p).length<=81:=yb1 q3 q5;refine⟨_,rfl,?_⟩;simp!;refine yb4 (p:=p) (by omega) (by omega) (by omega) (by omega) ?_;simp!;refine xh4 (λj ρ st'=>∃(d:D) (T:List wp6) (x9:Sl),ρ=[Sl.bor (wp7 wide high sh ts),.bor (.lst (ps.map wp5)),.bor (.int wide),.bor (.int high),.bor (.tup (sh.map wp5)),.bor (.tup (ts.map Tr.kind)),.own d,.bor t.kind,.bor (wp5 p),x9]/\Holds d (81*i+j) (inT T)/\(zf2 ts=true->T=ps.take i++(cov t.w t.h p).take j/\GP wide high sh T)) 0 ⟨_,_,_,rfl,hd,λz=>by rw[List.take_zero,List.append_nil];exact hS z⟩ (λj e ρ st' he hI P2 pn2 pr2=>?_) λρ st' hI=>?_
      ·obtain⟨d,T,x9,er,hd,hS⟩:=hI
       rw[Ai0] at he;cases q6:(cov t.w t.h p)[j]? with
       | none=>rw[q6] at he;cases he
       | some c=>
         rw[q6] at he;cases he;subst er;rw[Ah0] at hd hS;have hj:j<(cov t.w t.h p).length:=(Ae0.mp q6).1;have c0:oIx (wp5 c) (.int 0)=some (.int c.1):=rfl;have c1:oIx (wp5 c) (.int 1)=some (.int c.2):=rfl;have no:P2 (.rt (.bl false)) st':=pr2 _ _ (pr _ _ (hq false λz=>nomatch z));have ic:oIn false (wp5 c) (.tup (sh.map wp5))=some (.bl (decide (c∈sh))):=(zq7 (neg:=false)).1;have hin:=(hd.in_ (zd2 c) (b:=decide (c∈T)) (by rw[decide_eq_true_eq,wa5])).1;have hS2:c∉T->c∈freeC wide high sh []->zf2 ts=true->T++[c]=ps.take i++(cov t.w t.h p).take (0+j+1)/\GP wide high sh (T++[c]):=λhT hF z=>by
          obtain⟨e1,e2,e3⟩:=hS z;refine⟨by rw[Ah0,Bj0,q6,e1,Cj0];rfl,Bv0.mpr ⟨e2,by simp,λa ha b hb e=>hT (by rw[<-Al0.mp hb,<-e];exact ha)⟩,λx hx=>?_⟩;rcases Av0.mp hx with w | w
          ·exact e3 x w
          ·rw[Al0.mp w];exact hF
         refine⟨_,rfl,?_⟩;rw  [zb9];simp! [hin];by_cases hT:c∈T
         ·rw[Am1 hT]
          simp!;exact no
         ·rw[Al1 hT]
          simp! [ic];by_cases hsh:c∈sh
          ·rw[Am1 hsh]
           simp!;exact no
          ·rw[Al1 hsh]
           simp! [c0,c1,wr4];by_cases h1:0<=c.1<;>by_cases h2:c.1<wide<;>by_cases h3:0<=c.2<;>by_cases h4:c.2<high<;>simp[h1,h2,h3,h4,D.imm]<;>first | exact no | (obtain⟨ks,vs,rfl,k1,k2,k3,k4⟩:=id hd;exact⟨ks,vs,by simp?! [wr6,k1],ck c,zd2 c,xa5 (by omega),pn2 _ _ ⟨_,T++[c],_,rfl,(hd.put (k:=ck c) (v:=.bl true) imm_bl).imp (by omega) λk=>xw7,hS2 hT (yg4.mpr ⟨⟨h1,h2,h3,h4⟩,hsh⟩)⟩⟩)
      ·obtain⟨d,T,x9,er,hd,hS⟩:=hI
       subst er;rw[Ah0,Aa0] at hd hS;refine pn _ _ ⟨_,T,_,_,_,rfl,hd.imp (by omega) λ_=>Iff.rfl,λz=>?_⟩;obtain⟨e1,e2⟩:=hS z;have h1:=zq3 z (Ar0 q);unfold zp8 at h1;have h1':t.w=1/\t.h=1:=by simpa using h1
       have ec:cov t.w t.h p=[p]:=by
        unfold cov ws8;rw[h1'.1,h1'.2];simp
       rw[Bb0,ec] at e1;exact⟨by rw[Ah0,Bj0,q2,e1];rfl,e2⟩
 ·obtain⟨d,T,x7,x8,x9,er,hd,hS⟩:=hI
  subst er;have ln:(wu4 (ts.map Tr.kind) (ps.map wp5)).length=ps.length:=by unfold wu4;rw[List.length_zipWith,Aa0,Aa0,hpl,Nat.min_self]
  rw[Ah0] at hS;simp!;refine hq true λ_ z=>?_
  obtain⟨e1,e2⟩:=hS z;rw[ln,Bb0] at e1;rw[<-e1];exact e2
def xb4{ps:List wp6}{n:Nat}{c:wp6}(h:ps[n]?=some c):oIx (.lst (ps.map wp5)) (.int n)=some (wp5 c):=(ya2 (za7 c) (by omega) (by rw[Bk0,Ai0,h];rfl)).1
def yr1{ps:List wp6}{v:Int}(h0:0<=v)(h1:v<(ps.length:Nat)):∃(n:Nat) (c:wp6),v=(n:Int)/\ps[n]?=some c:=by
 have:v.toNat<ps.length:=by omega
 exact⟨v.toNat,ps[v.toNat],by omega,Ac0 this⟩
section
variable{S:Type}{Q:Fl->S->Prop}{E:Exn->S->Prop}{ρ:Rho}{st:S}
def yy8{i:Nat}{fk:Fn S}{v:D}{l:List D}(h1:wq5 ρ i=some l)(h2:wpR (fk ρ st) (λd st2=>∃j n,d=.int j/\ixN l.length j=some n/\v.imm=true/\Q (.nx (ρ.set i (.own (.lst (l.set n v))))) st2) E):wpR (wt8 S i fk v ρ st) Q E:=by
 unfold wt8;rw[h1];refine za3.mpr (za6 h2 (λd st2 hI145=>?_) λ_ _ z=>z);obtain⟨j,n,e,e2,e3,q⟩:=hI145;subst e;show wpR (match ixN l.length j with | some n=>if v.imm=true then .ok (.nx (ρ.set i (.own (.lst (l.set n v))))) st2 else .bad | none=>.bad) Q E;rw[e2];show wpR (if v.imm=true then .ok (.nx (ρ.set i (.own (.lst (l.set n v))))) st2 else .bad) Q E;rw[if_pos e3];exact q
def xh2{i:Nat}{fk fl fv:Fn S}(h:wpR (fv ρ st) (λt st1=>∃a b,t=.tup [a,b]/\b.imm=true/\wpR (wt8 S i fk a ρ st1) (λr st2=>∃ρ1,r=.nx ρ1/\wpR (wt8 S i fl b ρ1 st2) Q E) E) E):wpR (xi8 S i fk fl fv ρ st) Q E:=by
 unfold xi8;refine za3.mpr (za6 h (λt st1 hI146=>?_) λ_ _ z=>z);obtain⟨a,b,e,e1,q⟩:=hI146;subst e;show wpR (if b.imm=true then _ else _) Q E;rw[if_pos e1];refine za3.mpr (za6 q (λr st2 hI147=>?_) λ_ _ z=>z);obtain⟨ρ1,e,q⟩:=hI147;subst e;exact q
end
def xl1:List D->Dr->Res Dr D:=wz7 8 3 (zk1 wr7 yn4).1
def xt1{wide high:Int}{sh:List wp6}{ts:List Tr}{p0:List wp6}{st:Dr}{Q:D->Dr->Prop}{E:Exn->Dr->Prop}(hc:Cfg wide high sh ts)(w1:1<=wide)(w9:wide<=9)(h1:1<=high)(h9:high<=9)(hl0:p0.length=ts.length)(hn0:zf2 ts=true->GP wide high sh p0)(hs:st.2<2 ^ 39)(hq:∀(ps:List wp6) st',ps.length=ts.length->(zf2 ts=true->GP wide high sh ps)->st'.2<=st.2+30->Q (.tup (ps.map wp5)) st'):wpR (xl1 [wp7 wide high sh ts,.tup (p0.map wp5)] st) Q E:=by
 refine zw8 rfl (by decide) ?_;unfold zk1;dsimp only;have few:=hc.few;have h0:oIx (wp7 wide high sh ts) (.int 0)=some (.int wide):=rfl;have h1':oIx (wp7 wide high sh ts) (.int 1)=some (.int high):=rfl;have cd:∀ps:List wp6,D.depL (ps.map wp5)<=29:=λps=>Ap0 (zs4 zw3 ps) (by decide)
 simp_all!;simp! [va3,zb1 za7];simp_all!;simp!;refine zb6 (by decide) (by decide) (by omega) λv1 st1 a1 b1 c1=>?_
 simp! [wq3,wr4];rw[zd8 (by omega) (by omega)];refine zf3 (λi ρ st'=>∃(ps:List wp6) (s3 x4 x5 x6 x7:Sl),ρ=[Sl.hnd,.bor (wp7 wide high sh ts),.bor (.tup (p0.map wp5)),s3,x4,x5,x6,x7]/\(s3=.own (.lst (ps.map wp5))\/s3=.bor (.lst (ps.map wp5)))/\ps.length=ts.length/\(zf2 ts=true->GP wide high sh ps)/\st'.2<=st1.2+6*i) 0 ⟨_,_,_,_,_,_,rfl,.inl rfl,hl0,hn0,by omega⟩ (λi e ρ st' he hI P pn=>?_) λρ st' hI=>?_
 ·obtain⟨ps,s3,x4,x5,x6,x7,er,hs3,hl,hnd,ht⟩:=hI
  obtain⟨rfl,hi⟩:=ze9 he;subst er;rw[Ah0] at ht;refine⟨_,rfl,?_⟩;have keep:∀(st'':Dr) (x4 x5 x6 x7:Sl),st''.2<=st'.2+6->P (.nx [Sl.hnd,.bor (wp7 wide high sh ts),.bor (.tup (p0.map wp5)),s3,x4,x5,x6,x7]) st'':=λst'' x4 x5 x6 x7 g=>pn _ _ ⟨ps,s3,x4,x5,x6,x7,rfl,hs3,hl,hnd,by omega⟩
  have ix:∀{l:List wp6} {m:Nat},m<l.length->ixN (l.map wp5).length (m:Int)=some m:=λh=>by rw[Aa0];unfold ixN;rw[if_pos (by omega),if_pos (by omega),Bk0]
  have last:∀(ps':List wp6) (st'':Dr) (n m:Nat) (x4:Sl) (b:Bool),(b=true->zf2 ts=true->GP wide high sh ps')->ps'.length=ps.length->st''.2<=st'.2+6->∃b',D.bl b=D.bl b'/\if b'=true then wpR (vm6 Dr [7] (va1 Dr 3 (fVk Dr 7)) [Sl.hnd,.bor (wp7 wide high sh ts),.bor (.tup (p0.map wp5)),s3,x4,.bor (.int (n:Int)),.bor (.int (m:Int)),.own (.lst (ps'.map wp5))] st'') P E else P (.nx [Sl.hnd,.bor (wp7 wide high sh ts),.bor (.tup (p0.map wp5)),s3,x4,.bor (.int (n:Int)),.bor (.int (m:Int)),.own (.lst (ps'.map wp5))]) st'':=λps' st'' n m x4 b gz g1 g2=>by
   refine⟨b,rfl,?_⟩;cases b
   ·rw[if_neg Au0]
    exact keep st'' _ _ _ _ g2
   ·rw[if_pos rfl]
    simp! [wb9];exact pn _ st'' ⟨ps',_,_,_,_,_,rfl,.inr rfl,by omega,gz rfl,by omega⟩
  rcases hs3 with rfl | rfl
  all_goals
   simp! [wv4,yf8 (cd ps)];by_cases hp0:ps=[]
   ·have e0:decide (ps.map wp5=[])=true:=by simp[hp0]
    rw[e0];simp!;exact keep st' _ _ _ _ (by omega)
   ·have e0:decide (ps.map wp5=[])=false:=by simp[hp0]
    have pos:0<ps.length:=List.length_pos_iff.mpr hp0;rw[e0];simp!;simp_all!;simp! [wv6,Aa0];refine zb6 (by omega) (by omega) (by omega) λv2 st2 a2 b2 c2=>?_
    refine zb6 (by omega) (by omega) (by omega) λv3 st3 a3 b3 c3=>?_
    obtain⟨n,c,rfl,hn⟩:=yr1 a2 b2;obtain⟨m,c',rfl,hm⟩:=yr1 a3 b3;have hnl:n<ps.length:=(Ae0.mp hn).1;have hml:m<ps.length:=(Ae0.mp hm).1;try simp?! [wp_ok]
    simp_all!;simp! [va3,zb1 za7];simp_all!;simp!;refine zb6 (by decide) (by decide) (by omega) λv4 st4 a4 b4 c4=>?_
    simp! [zj6];by_cases hv:v4=0
    ·have e1:(v4 == 0)=true:=by rw[hv];rfl
     rw[e1];simp!;refine xh2 ?_;simp! [xb4 hm,xb4 hn,ws5,za7];refine⟨_,_,rfl,za7 _,yy8 (l:=ps.map wp5) (by simp?! [wq5,zb1 za7]) ?_⟩;simp! [za7];refine⟨_,_,rfl,ix hnl,_,rfl,yy8 (l:=(ps.set n c').map wp5) (by rw[<-List.map_set];simp?! [wq5,zb1 za7]) ?_⟩;simp! [za7];refine⟨_,_,rfl,ix (by rw[Bc0];exact hml),?_⟩;rw[<-List.map_set];simp!;with_reducible refine yj2 hc (by rw[Bc0,Bc0];exact hl) λb hb=>?_
     exact last ((ps.set n c').set m c) st4 n m _ b hb (by rw[Bc0,Bc0]) (by omega)
    ·have e1:(v4 == 0)=false:=beq_eq_false_iff_ne.mpr hv
     rw[e1];simp! [h0];refine zb6 (by omega) (by omega) (by omega) λu1 st5 a5 b5 c5=>?_
     simp! [h1'];refine zb6 (by omega) (by omega) (by omega) λu2 st6 a6 b6 c6=>?_
     simp! [ws5,wq5,zb1 za7];refine⟨_,_,rfl,ix hnl,?_⟩;have e5:(ps.map wp5).set n (D.tup [.int u1,.int u2])=(ps.set n (u1,u2)).map wp5:=(List.map_set (f:=wp5) (l:=ps) (i:=n) (a:=(u1,u2))).symm;rw[e5];simp!;with_reducible refine yj2 hc (by rw[Bc0];exact hl) λb hb=>?_
     exact last (ps.set n (u1,u2)) st6 n m _ b hb (by rw[Bc0]) (by omega)
 ·obtain⟨ps,s3,x4,x5,x6,x7,er,hs3,hl,hnd,ht⟩:=hI
  subst er;rw[zd3,Ah0] at ht;rcases hs3 with r | r
  ·subst r
   simp! [zo3,zb1 za7];exact hq ps st' hl hnd (by omega)
  ·subst r
   simp! [zo3,zb1 za7];exact hq ps st' hl hnd (by omega)
def wx6:Nat->List D->Res Unit D
 | 0=>vt6
 | n+1=>dfn 2 2 (zt1 (wx6 n)).1
def xs7{i:Int}{Q:D->Unit->Prop}{E:Exn->Unit->Prop}(h:Q (.bl true) ()):wpR (wx6 1 [.int i,.int i]) Q E:=by
 refine zj2 rfl (by decide) ?_;unfold zt1;dsimp only;rw  [zb9];simp! [va5,D.isNon,isI];rw  [zb9];simp! [va5,D.isNon,isI];rw  [zb9];simp! [va5,D.isNon,isI];rw  [zb9];simp! [va5,D.isNon,isI];simp! [isI,zj6,beq_self_eq_true];exact h
def wb8{d:D}{Q:D->Unit->Prop}{E:Exn->Unit->Prop}(hd:(∃l:List Int,d=.tup (l.map D.int)/\l.length<=200)\/d=.non)(h:Q (.bl true) ()):wpR (wx6 2 [d,d]) Q E:=by
 refine zj2 rfl (by decide) ?_;unfold zt1;dsimp only;rcases hd with⟨l,rfl,hl⟩ | rfl
 ·rw  [zb9]
  simp! [va5,D.isNon,isI];rw  [zb9];simp! [va5,D.isNon,isI];rw  [zb9];simp! [va5,D.isNon,isI];rw  [zb9];simp! [isI,oEq,D.dep,D.eqq,wv6,Be0,Ay0,beq_self_eq_true];rw  [zb9];simp! [isI,oEq,D.dep,D.eqq,wv6,Be0,Ay0,beq_self_eq_true];have ez:wu4 (l.map D.int) (l.map D.int)=l.map λi=>.tup [.int i,.int i]:=by
   unfold wu4;rw[List.zipWith_map,List.zipWith_self]
  simp! [vc6,ez];refine ze5 (xs:=l) (a:=λi=>.tup [.int i,.int i]) (y:=λ_=>.bl true) (p:=λ_=>true) (λρ=>∃x y,ρ=[x,y]) ⟨_,_,rfl⟩ (λi hi ρ hI148=>?_) (zd9 (by omega)) ?_
  ·obtain⟨x,y,e⟩:=hI148
   subst e;refine⟨_,rfl,⟨_,_,rfl⟩,?_,λ_=>?_⟩
   ·simp!
   ·simp!
    refine xs7 ?_;simp!
  ·simp?! [yc2,zj1,Ay0,zb9]
   rw[show ((l.filter λ_=>true).map λ_=>true).all id=true by simp];exact h
 ·rw  [zb9]
  simp! [va5,D.isNon];exact h
def wv1(c:wp6):List wp6:=[(c.1+1,c.2),(c.1,c.2+1),(c.1-1,c.2),(c.1,c.2-1)]
def yd9{c x:wp6}(h:x∈wv1 c):c∈wv1 x:=by
 obtain⟨a,b⟩:=c;obtain⟨d,e⟩:=x;simp only[wv1,Aj0,Prod.mk.injEq,Ao0,or_false] at h ⊢;omega
def yo1{c:wp6}:c∉wv1 c:=λh=>by
 obtain⟨a,b⟩:=c;simp only[wv1,Aj0,Prod.mk.injEq,Ao0,or_false] at h;omega
def wh1(c:wp6):(wv1 c).Nodup:=by
 obtain⟨a,b⟩:=c;simp only[wv1,Bi0,Aj0,Prod.mk.injEq,Ao0,or_false,not_false_eq_true,List.nodup_nil,and_true];omega
def xx3{s a b:wp6}(h1:a∈wv1 s)(h2:b∈wv1 s):b∉wv1 a:=λh=>by
 obtain⟨x,y⟩:=s;obtain⟨u,v⟩:=a;obtain⟨p,q⟩:=b;simp only[wv1,Aj0,Prod.mk.injEq,Ao0,or_false] at h h1 h2;omega
def nb(F:List wp6)(c:wp6):List wp6:=wr0 ((wv1 c).filter λx=>decide (x∈F))
def zh9{F:List wp6}{c x:wp6}:x∈nb F c↔x∈wv1 c/\x∈F:=by
 unfold nb;rw[(ze7 _).mem_iff,Bn0,decide_eq_true_eq]
def vo4(F:List wp6)(c:wp6):(nb F c).Nodup:=(ze7 _).symm.nodup ((wh1 c).filter _)
def wm2(F:List wp6)(c:wp6):(nb F c).length<=4:=by
 unfold nb;rw[(ze7 _).length_eq];exact Bl0 _ (wv1 c)
def two(F:List wp6):Bool:=F.all λc=>decide ((nb F c).length=2)
theorem zw9{F:List wp6}{c:wp6}(h:two F=true)(hc:c∈F):∃a b,nb F c=[a,b]/\a≠b:=by
 have hl:(nb F c).length=2:=of_decide_eq_true (List.all_eq_true.mp h c hc);have nd:=vo4 F c
 match hq:nb F c,hl,nd with
 | [a,b],_,nd=>exact⟨a,b,rfl,λe=>by rw[e] at nd;simp at nd⟩
 | [],hl,_=>cases hl
 | [_],hl,_=>cases hl
 | _::_::_::_,hl,_=>simp at hl
def nxt(F:List wp6)(p c:wp6):wp6:=match nb F c with
 | [a,b]=>if a=p then b else a
 | _=>c
def wa0{F:List wp6}{p c:wp6}(h:two F=true)(hc:c∈F)(hp:p∈nb F c):nxt F p c∈nb F c/\nxt F p c≠p/\∀x∈nb F c,x=p\/x=nxt F p c:=by
 obtain⟨a,b,e,ne⟩:=zw9 h hc;unfold nxt;rw[e] at hp ⊢;show (if a=p then b else a)∈[a,b]/\(if a=p then b else a)≠p/\∀x∈[a,b],x=p\/x=if a=p then b else a
 by_cases q:a=p
 ·rw[if_pos q]
  exact⟨by simp,λz=>ne (q.trans z.symm),λx hx=>by simpa [q] using hx⟩
 ·rw[if_neg q]
  have eb:p=b:=by
   rcases Aj0.mp hp with z | z
   ·exact absurd z.symm q
   ·exact Al0.mp z
  exact⟨by simp,q,λx hx=>by rw[eb];simpa [or_comm] using hx⟩
structure Wk(F:List wp6)(s:wp6)(r:List wp6)(p c:wp6):Prop where
 hd:∃t,r=s::t/\c∉t/\∀y∈t,∀x∈nb F y,x∈r\/(y=p/\x=c)
 ls:∃q,r=q++[p]
 nd:r.Nodup
 sub:∀y∈r,y∈F
 adj:c∈nb F p
def Wk.start{F:List wp6}{s c:wp6}(hs:s∈F)(hc:c∈nb F s):Wk F s [s] s c:=
 ⟨⟨[],rfl,by simp,λy hy=>absurd hy (by simp)⟩,⟨[],rfl⟩,by simp,λy hy=>by rw[Al0.mp hy];exact hs,hc⟩
def Wk.step{F:List wp6}{s p c:wp6}{r:List wp6}(h:Wk F s r p c)(t2:two F=true)(hne:c≠s):Wk F s (r++[c]) c (nxt F p c):=by
 obtain⟨⟨t,e,nt,cl⟩,⟨q,eq⟩,nd,sub,adj⟩:=h;have hcF:c∈F:=(zh9.mp adj).2;have hp:p∈r:=by rw[eq];simp
 have hpc:p∈nb F c:=zh9.mpr ⟨yd9 (zh9.mp adj).1,sub p hp⟩;obtain⟨n1,n2,n3⟩:=wa0 t2 hcF hpc;have hcr:c∉r:=λz=>by
  rw[e] at z;rcases Aj0.mp z with z | z
  ·exact hne z
  ·exact nt z
 refine⟨⟨t++[c],by rw[e];rfl,λz=>?_,λy hy x hx=>?_⟩,⟨r,rfl⟩,?_,λy hy=>?_,n1⟩
 ·rcases Av0.mp z with z | z
  ·have hc':c∈nb F (nxt F p c):=zh9.mpr ⟨yd9 (zh9.mp n1).1,hcF⟩
   rcases cl _ z c hc' with w | w
   ·exact hcr w
   ·exact n2 w.1
  ·have z:=Al0.mp z
   rw[z] at n1;exact yo1 (zh9.mp n1).1
 ·rcases Av0.mp hy with hy | hy
  ·rcases cl y hy x hx with w | w
   ·exact .inl (Bu0 _ w)
   ·exact .inl (by rw[w.2];simp)
  ·rw[Al0.mp hy] at hx ⊢
   rcases n3 x hx with w | w
   ·exact .inl (by rw[w];exact Bu0 _ hp)
   ·exact .inr ⟨rfl,w⟩
 ·exact Bv0.mpr ⟨nd,by simp,λa ha b hb z=>hcr (by rw[<-Al0.mp hb,<-z];exact ha)⟩
 ·rcases Av0.mp hy with hy | hy
  ·exact sub y hy
  ·rw[Al0.mp hy];exact hcF
def wst(F:List wp6)(s:wp6):Nat->List wp6×wp6×wp6
 | 0=>([s],s,(nb F s).headD s)
 | k+1=>((wst F s k).1++[(wst F s k).2.2],(wst F s k).2.2,nxt F (wst F s k).2.1 (wst F s k).2.2)
theorem yp3{F:List wp6}{s:wp6}(t2:two F=true)(hs:s∈F):∀k,(∀j<k,(wst F s j).2.2≠s)->Wk F s (wst F s k).1 (wst F s k).2.1 (wst F s k).2.2
 | 0,_=>by
   obtain⟨a,b,e,_⟩:=zw9 t2 hs;refine Wk.start hs ?_;show (nb F s).headD s∈nb F s;rw[e];simp
 | k+1,h=>(yp3 t2 hs k λj hj=>h j (by omega)).step t2 (h k (by omega))
theorem yl7{F:List wp6}{s:wp6}:∀k,(wst F s k).1.length=k+1
 | 0=>rfl
 | k+1=>by
   show ((wst F s k).1++[(wst F s k).2.2]).length=_;rw[Ak0,yl7 k];rfl
theorem xx6{p:Nat->Prop}:∀n,(∃k,k<=n/\p k)->∃k,k<=n/\p k/\∀j<k,¬p j:=λn=>by
 induction n with
 | zero=>
   rintro ⟨k,h1,h2⟩;have e:k=0:=by omega
   exact⟨0,by omega,e▸h2,λj hj=>absurd hj (by omega)⟩
 | succ n ih=>
   rintro ⟨k,h1,h2⟩;by_cases h:∃k,k<=n/\p k
   ·obtain⟨k,a,b,c⟩:=ih h;exact⟨k,by omega,b,c⟩
   ·exact⟨k,h1,h2,λj hj hp=>h ⟨j,by omega,hp⟩⟩
def xi9{F:List wp6}{s:wp6}(t2:two F=true)(hs:s∈F):∃k,k<=F.length/\(wst F s k).2.2=s/\∀j<k,(wst F s j).2.2≠s:=by
 refine xx6 (p:=λk=>(wst F s k).2.2=s) F.length ?_;by_cases h:∃k,k<=F.length/\(wst F s k).2.2=s
 ·exact h
 ·have w:=yp3 t2 hs F.length λj hj z=>h ⟨j,by omega,z⟩
  have:=zx1 w.nd w.sub;rw[yl7] at this;omega
open Classical in
def ws9(F:List wp6)(s:wp6):Nat:=if h:∃k,k<=F.length/\(wst F s k).2.2=s/\∀j<k,(wst F s j).2.2≠s then choose h else 0
def ym2{F:List wp6}{s:wp6}(t2:two F=true)(hs:s∈F):ws9 F s<=F.length/\(wst F s (ws9 F s)).2.2=s/\∀j<ws9 F s,(wst F s j).2.2≠s:=by
 unfold ws9;rw[dif_pos (xi9 t2 hs)];exact Classical.choose_spec (xi9 t2 hs)
def wv8(F:List wp6):Option (List wp6):=match F with
 | []=>none
 | s::_=>if two F=true then (if (wst F s (ws9 F s)).1.length<F.length then none else some (wst F s (ws9 F s)).1) else none
theorem ym5{F r:List wp6}(hF:F.Nodup)(h:wv8 F=some r):(∀c∈F,c∈r)/\(∀c∈r,c∈F)/\r.Nodup:=by
 cases F with
 | nil=>cases h
 | cons s l=>
   have h:(if two (s::l)=true then (if (wst (s::l) s (ws9 (s::l) s)).1.length<(s::l).length then none else some (wst (s::l) s (ws9 (s::l) s)).1) else none)=some r:=h;by_cases t2:two (s::l)=true
   ·rw[if_pos t2] at h
    have hs:s∈s::l:=Bh0;obtain⟨_,_,a3⟩:=ym2 t2 hs;have w:=yp3 t2 hs _ a3;by_cases hl:(wst (s::l) s (ws9 (s::l) s)).1.length<(s::l).length
    ·rw[if_pos hl] at h;cases h
    ·rw[if_neg hl] at h;cases h
     refine⟨λc hc=>Classical.byContradiction λhn=>?_,w.sub,w.nd⟩;have:=zx1 (l:=c::(wst (s::l) s (ws9 (s::l) s)).1) (m:=s::l) (Bi0.mpr ⟨hn,w.nd⟩) λx hx=>by
      rcases Aj0.mp hx with z | z
      ·rw[z];exact hc
      ·exact w.sub x z
     rw[Ax0] at this;omega
   ·rw[if_neg t2] at h;cases h
def xg5{F:List wp6}{s:wp6}(t2:two F=true)(hs:s∈F):4<=F.length:=by
 obtain⟨a,b,e,ne⟩:=zw9 t2 hs;have ha:a∈nb F s:=by rw[e];simp
 have hb:b∈nb F s:=by rw[e];simp
 have sa:s∈nb F a:=zh9.mpr ⟨yd9 (zh9.mp ha).1,hs⟩;obtain⟨n1,n2,n3⟩:=wa0 t2 (zh9.mp ha).2 sa;have nb':nxt F s a≠b:=λz=>by rw[z] at n1;exact xx3 (zh9.mp ha).1 (zh9.mp hb).1 (zh9.mp n1).1
 have na:nxt F s a≠a:=λz=>by rw[z] at n1;exact yo1 (zh9.mp n1).1
 have sa':s≠a:=λz=>by rw[z] at ha;exact yo1 (zh9.mp ha).1
 have sb':s≠b:=λz=>by rw[z] at hb;exact yo1 (zh9.mp hb).1
 have:=zx1 (l:=[s,a,b,nxt F s a]) (m:=F) (by simp[ne,sa',sb',Ne.symm n2,Ne.symm na,Ne.symm nb']) λx hx=>by
  simp only[Aj0,Ao0,or_false] at hx;rcases hx with z | z | z | z<;>rw[z]
  ·exact hs
  ·exact(zh9.mp ha).2
  ·exact(zh9.mp hb).2
  ·exact(zh9.mp n1).2
 exact this
def wv0(ps r:List wp6):List Int:=(r.filter λc=>decide (c∈ps)).map λc=>(wv7 c ps:Int)
def rot(l:List Int)(k:Nat):List Int:=l.drop k++l.take k
def zq5(ts:List Tr)(F:List wp6):D:=if zf2 ts=true then (match wv8 F with
 | none=>.non
 | some r=>.tup ((rot (wv0 (pl ts) r) ((wv0 (pl ts) r).idxOf 0)).map D.int)) else .non
theorem yz8{ts:List Tr}{F r:List wp6}(hF:F.Nodup)(hr:wv8 F=some r)(hp:∀c∈pl ts,c∈F)(hne:wv0 (pl ts) r≠[]):(0:Int)∈wv0 (pl ts) r:=by
 cases hq:pl ts with
 | nil=>
   exfalso;apply hne;unfold wv0;rw[hq];simp
 | cons c l=>
   have hc:c∈F:=hp c (by rw[hq];simp);unfold wv0;refine Bd0.mpr ⟨c,Bn0.mpr ⟨(ym5 hF hr).1 c hc,by simp⟩,?_⟩;unfold wv7;rw[if_pos rfl];rfl
def wp2{w h:Int}{p:wp6}:(cov w h p).Pairwise Ts.lxle:=by
 unfold cov;rw[List.pairwise_flatMap];refine⟨λi _=>?_,List.pairwise_lt_range.imp λ{i j} hij x hx y hy=>?_⟩
 ·unfold ws8
  rw[Ce0];exact List.pairwise_lt_range.imp λ{a b} hab=>by unfold Ts.lxle;dsimp only;omega
 ·unfold ws8 at hx hy
  obtain⟨a,_,rfl⟩:=Bd0.mp hx;obtain⟨b,_,rfl⟩:=Bd0.mp hy;unfold Ts.lxle;dsimp only;omega
def dx(d:Int):Int:=if d=0 then 1 else if d=2 then -1 else 0
def dy(d:Int):Int:=if d=1 then 1 else if d=3 then -1 else 0
def Dir(d:Int):Prop:=0<=d/\d<4
def Dir.cases{d:Int}(h:Dir d):d=0\/d=1\/d=2\/d=3:=by obtain⟨h1,h2⟩:=h;omega
def yy2:List D->Res Unit D:=dfn 2 2 zt2.1
def xh7{d:Int}(hd:Dir d)(hq:Q (wp5 (p.1+dx d,p.2+dy d)) ()):wpR (yy2 [wp5 p,.int d]) Q E:=by
 refine zj2 rfl (by decide) ?_;unfold zt2;dsimp only;have l4:∀a b c e:Int,ww2 [.int a,.int b,.int c,.int e]=some (.lst [.int a,.int b,.int c,.int e]):=λa b c e=>zr9 (by simp[D.immL,D.imm]) (by simp)
 rcases hd.cases with r | r | r | r<;>subst r<;>simp?! [zb9,wp5,oIx,pt0,pt1,l4,at0,at1,at2,at3,wq3,wr4,ws5]<;>exact hq
def yo0:List D->Res Unit D:=dfn 4 2 zr8.1
def xd9{d:Int}(hd:Dir d)(hq:Q (wp5 (p.1+dx d,p.2+dy d)) ()):wpR (yo0 [wp5 p,.int d]) Q E:=by
 refine zj2 rfl (by decide) ?_;unfold zr8;dsimp only;rw  [zb9];simp!;rcases hd.cases with r | r | r | r<;>subst r<;>refine⟨_,_,rfl,by decide,rfl,?_⟩<;>simp?! [wp5,oIx,pt0,pt1,wq3,wr4,ws5]<;>exact hq
def xm5{s:wp6}{l:List wp6}(h:(s::l).Pairwise Ts.lxle):vd0 [.lst ((s::l).map wp5)]=some (wp5 s):=by
 show (ws1 ((s::l).map prD)).bind (λps=>match ps with | []=>none | p::r=>if ∀q∈r,Ts.lx q p=false then some (prD p) else none)=_;rw[zz1];exact if_pos λq hq=>Ts.lx_not.mpr (by have:=(List.pairwise_cons.mp h).1 q hq;unfold Ts.lxle at this;omega)
def ngb(F:List wp6)(c:wp6):D:=.fl ((nb F c).map wp5)
def yn3(F:List wp6)(c:wp6):(ngb F c).imm=true:=by simp[ngb,D.imm,zb1 za7]
def ngs(F L:List wp6):List D:=L.map (ngb F)
def yn2(F L:List wp6):D.immL (ngs F L)=true:=zb1 (yn3 F) L
theorem yn6{F:List wp6}{c:wp6}:∀L:List wp6,wp8 (ck c) (L.map wp5) (ngs F L)=if c∈L then some (ngb F c) else none
 | []=>rfl
 | a::L=>by
   show wp8 (ck c) (wp5 a::L.map wp5) (ngb F a::ngs F L)=_;unfold wp8;rw[zd2,yn6 L];by_cases h:a=c
   ·subst h;simp
   ·have h1:¬some (ck a)=some (ck c):=λz=>h (yu4 (Option.some.inj z))
    have h2:c≠a:=λz=>h z.symm
    rw[if_neg h1];simp[h2]
def xj6{F:List wp6}{c:wp6}{L:List wp6}(h:c∉L):ws0 (ck c) (ngb F c) (L.map wp5) (ngs F L)=((L++[c]).map wp5,ngs F (L++[c])):=by
 unfold ws0;rw[yn6,if_neg h];unfold ngs;rw[Am0,Am0];rfl
def yh7{F L:List wp6}{c:wp6}(h:c∈L):va6 (.dct (.non::L.map wp5) (ngs F L)) (wp5 c)=some (ngb F c)/\xa0 (.fd (L.map wp5) (ngs F L)) (wp5 c)=some (ngb F c):=by
 have e:im (wp8 (ck c) (L.map wp5) (ngs F L))=some (ngb F c):=by rw[yn6,if_pos h];simp[im,yn3]
 exact⟨e,e⟩
def xw6{c:wp6}{L:List wp6}:wz1 false (wp5 c) (zo7 L)=some (.bl (decide (c∈L))):=by
 show (zc7 (wp5 c)).map (λkk=>D.bl (wp8 kk (L.map wp5) (tt L)).isSome)=_;rw[zd2];show some (D.bl (wp8 (ck c) (L.map wp5) (tt L)).isSome)=_;rw[zw0];by_cases h:c∈L<;>simp[h]
def xb5(c:wp6):[(0:Int),1,2,3].map (λd=>(c.1+dx d,c.2+dy d))=wv1 c:=by simp[wv1,dx,dy];omega
def up4:zl4 0 (4:Int).toNat=[(0:Int),1,2,3].map D.int:=rfl
def xi4{F:List wp6}{c:wp6}:yz9 [.lst (((wv1 c).filter λx=>decide (x∈F)).map wp5)]=some (.lst ((nb F c).map wp5)):=yj4 (Nat.lt_of_le_of_lt (Bl0 _ (wv1 c)) (by show 4<64;decide))
def vj1{F:List wp6}{c:wp6}:oFz (.lst ((nb F c).map wp5))=some (ngb F c):=if_pos (zb1 za7 _)
def yv7{L:List wp6}{i:Nat}{c:wp6}(h:L.Nodup)(q:L[i]?=some c):c∉L.take i/\L.take (i+1)=L.take i++[c]:=by
 have et:L.take (i+1)=L.take i++[c]:=by rw[Bj0,q];rfl
 refine⟨λz=>?_,et⟩;have h1:=(List.take_sublist (i+1) L).nodup h;rw[et] at h1;exact(Bv0.mp h1).2.2 c z c (by simp) rfl
def vg1:List D->Res Unit D:=dfn 5 1 (zo4 yo0).1
def wc5{F:List wp6}{Q:D->Unit->Prop}{E:Exn->Unit->Prop}(nd:F.Nodup)(hl:F.length<=81)(hq:Q (.dct (.non::F.map wp5) (ngs F F)) ()):wpR (vg1 [.lst (F.map wp5)]) Q E:=by
 refine zj2 rfl (by decide) ?_;unfold zo4;dsimp only;have him:∀l:List wp6,D.immL (l.map wp5)=true:=λl=>zb1 za7 l
 simp_all!;simp!;simp_all!;simp!;refine zf3 (λi ρ st'=>∃x2:Sl,ρ=[Sl.bor (.lst (F.map wp5)),.own (zo7 (F.take i)),x2,.no,.no]) 0 ⟨_,rfl⟩ (λi d ρ st' hd hI P pn=>?_) λρ st' hI=>?_
 ·obtain⟨x2,er⟩:=hI
  rw[Ai0] at hd;cases q:F[i]? with
  | none=>rw[q] at hd;cases hd
  | some c=>
    rw[q] at hd;cases hd;subst er;rw[Ah0];obtain⟨n1,n2⟩:=yv7 nd q;refine⟨_,rfl,?_⟩;simp!;refine⟨(F.take i).map wp5,tt (F.take i),by simp?! [wr6,ye8],_,zd2 c,lt_size (by rw[Aa0,Aw0];omega),?_⟩;rw[yg7 n1,<-n2];exact pn _ _ ⟨_,by rw[Ah0]⟩
 ·obtain⟨x2,er⟩:=hI
  subst er;rw[Aa0,Ah0,Bb0];simp!;simp_all!;simp!;simp_all!;simp!;refine zf3 (λi ρ st'=>∃x2 x4:Sl,ρ=[Sl.bor (.lst (F.map wp5)),.own (zo7 F),x2,.own (.dct (.non::(F.take i).map wp5) (ngs F (F.take i))),x4]) 0 ⟨_,_,rfl⟩ (λi d ρ st' hd hI P pn=>?_) λρ st' hI=>?_
  ·obtain⟨x2,x4,er⟩:=hI
   rw[Ai0] at hd;cases q:F[i]? with
   | none=>rw[q] at hd;cases hd
   | some c=>
     rw[q] at hd;cases hd;subst er;rw[Ah0];obtain⟨n1,n2⟩:=yv7 nd q;refine⟨_,rfl,?_⟩;simp_all!;simp!;rw[zd8 (by decide) (by decide),up4];simp!;refine ze5 (xs:=[(0:Int),1,2,3]) (a:=D.int) (y:=λd=>wp5 (c.1+dx d,c.2+dy d)) (p:=λ_=>true) (λρ=>∃z,ρ=[z,Sl.bor (wp5 c)]) ⟨_,rfl⟩ (λd hd ρ hI149=>?_) (zd9 (by decide)) ?_
     ·obtain⟨z,er⟩:=hI149
      subst er;refine⟨_,rfl,⟨_,rfl⟩,?_,λ_=>?_⟩
      ·simp!
      ·simp!
       refine xd9 (d:=d) (by simp only[Aj0,Ao0,or_false] at hd;unfold Dir;omega) ?_;simp! [za7]
     ·have e4:([(0:Int),1,2,3].filter λ_=>true).map (λd=>wp5 (c.1+dx d,c.2+dy d))=(wv1 c).map wp5:=by rw[<-xb5];rfl
      rw[e4];simp! [him,yp4];refine ze5 (xs:=wv1 c) (a:=wp5) (y:=wp5) (p:=λx=>decide (x∈F)) (λρ=>∃z,ρ=[z,Sl.bor (zo7 F)]) ⟨_,rfl⟩ (λx hx ρ hI150=>?_) (zd9 (by show 4<=1000;decide)) ?_
      ·obtain⟨z,er⟩:=hI150
       subst er;refine⟨_,rfl,⟨_,rfl⟩,?_,λ_=>?_⟩
       ·simp! [xw6]
       ·simp! [za7]
      ·simp! [xi4,vj1,yp4]
       refine⟨(F.take i).map wp5,ngs F (F.take i),by simp?! [wr6,yn2],_,zd2 c,yn3 F c,lt_size (by rw[Aa0,Aw0];omega),?_⟩;rw[xj6 n1,<-n2];exact pn _ _ ⟨_,_,by rw[Ah0]⟩
  ·obtain⟨x2,x4,er⟩:=hI
   subst er;rw[Aa0,Ah0,Bb0];simp! [yn2];exact hq
def va2(F:List wp6):D:=match wv8 F with
 | none=>.non
 | some r=>.lst (r.map wp5)
def ys2{q:List wp6}{p:wp6}(hl:q.length<=200):oIx (.lst ((q++[p]).map wp5)) (.int (-1))=some (wp5 p):=by
 have e:atI ((q++[p]).map wp5) (-1)=some (wp5 p):=by
  unfold atI ixN;rw[if_neg (by decide),if_pos (by rw[Aa0,Ak0];simp;omega)];show ((q++[p]).map wp5)[(-1+(((q++[p]).map wp5).length:Int)).toNat]?=_;have e2:(-1+(((q++[p]).map wp5).length:Int)).toNat=q.length:=by rw[Aa0,Ak0];simp;omega
  rw[e2,Ai0,List.getElem?_append_right (Ag0 _),Nat.sub_self];rfl
 show im (atI ((q++[p]).map wp5) (-1))=_;rw[e];simp[im,za7]
def muR(K:Nat)(ρ:Rho):Nat:=match ρ[3]? with
 | some (Sl.own (D.lst l))=>K+1-l.length
 | _=>0
def vf1:List D->Res Unit D:=dfn 8 1 (yf1 xp1 vg1).1
theorem wc3{wide high:Int}{sh:List wp6}{ts:List Tr}{Q:D->Unit->Prop}{E:Exn->Unit->Prop}(hs:sh.length<=81)(hw:0<=wide/\wide<=9)(hh:0<=high/\high<=9)(hq:Q (va2 (freeC wide high sh [])) ()):wpR (vf1 [wp7 wide high sh ts]) Q E:=by
 refine zj2 rfl (by decide) ?_;unfold yf1;dsimp only;have him:∀l:List wp6,D.immL (l.map wp5)=true:=λl=>zb1 za7 l
 have nd:(freeC wide high sh []).Nodup:=zw1;have fl:(freeC wide high sh []).length<=81:=yd8 hw.2 hh.2;simp_all!;simp!;refine xt5 hs hw hh ?_;generalize freeC wide high sh []=F at *;simp! [him];simp_all!;simp! [yp4];refine wc5 nd fl ?_;have ez:oFz (.dct (.non::F.map wp5) (ngs F F))=some (.fd (F.map wp5) (ngs F F)):=if_pos (yn2 F F);simp! [ez];simp_all!;have ol:∀c,wz0 [ngb F c]=some (.int ((nb F c).length:Nat)):=λc=>by simp[wz0,ngb]
 have en:=yf8 (neg:=false) (yu5 F);have o0:ww2 []=some (.lst []):=rfl;simp! [o0,en];cases hF:F with
 | nil=>
   rw[hF] at hq;simp! [List.map_nil,decide_true];exact hq
 | cons s l=>
   have e0:decide ((s::l).map wp5=[])=false:=rfl;rw[e0,<-hF];simp! [D.fd?];refine ze5 (xs:=F) (a:=ngb F) (y:=λc=>.bl (!decide ((nb F c).length=2))) (p:=λ_=>true) (λρ=>∃z,ρ=[z]) ⟨_,rfl⟩ (λc hc ρ hI151=>?_) (zd9 (by omega)) ?_
   ·obtain⟨z,er⟩:=hI151
    subst er;refine⟨_,rfl,⟨_,rfl⟩,?_,λ_=>?_⟩
    ·simp!
    ·have e2:((((nb F c).length:Nat):Int) == 2)=decide ((nb F c).length=2):=by
      rw[Cb0];simp;omega
     simp! [ol,zj6,e2]
   ·have ef:(F.filter λ_=>true).map (λc=>D.bl (!decide ((nb F c).length=2)))=F.map λc=>D.bl (!decide ((nb F c).length=2)):=by rw[List.filter_eq_self.mpr (λ_ _=>rfl)]
    have ea:(F.map λc=>!decide ((nb F c).length=2)).any id=!two F:=by
     unfold two;rw[List.any_map,List.not_all_eq_any_not];rfl
    rw[ef];simp! [yc2,zj1,Ay0,ea];have hsF:s∈F:=by rw[hF];exact Bh0
    have i0:oIx (.lst (F.map wp5)) (.int 0)=some (wp5 s):=by rw[hF];exact(ya2 (l:=(s::l).map wp5) (v:=0) (za7 s) (Bx0 0) rfl).1
    have eR:wv8 F=if two F=true then (if (wst F s (ws9 F s)).1.length<F.length then none else some (wst F s (ws9 F s)).1) else none:=by rw[hF];rfl
    cases t2:two F with
    | false=>
      have e1:va2 F=.non:=by unfold va2;rw[eR,t2];rfl
      rw[e1] at hq;simp!;exact hq
    | true=>
      rw[t2,if_pos rfl] at eR;obtain⟨k1,k2,k3⟩:=ym2 t2 hsF;generalize ws9 F s=K at *;simp!;simp_all!;have el:ww2 [wp5 s]=some (.lst [wp5 s]):=zr9 (by simp[D.immL,za7]) (by simp);simp! [i0,el];simp_all!;obtain⟨a,b,eab,nab⟩:=zw9 t2 hsF;have eh:vk8 (ngb F s) (.int 0)=some (wp5 ((nb F s).headD s)):=by
       unfold ngb;rw[eab];show im (some (wp5 a))=some (wp5 a);simp[im,za7]
      simp! [i0,(yh7 hsF).2,eh];have cf:∀c:wp6,(wp5 c).flat=false:=λ_=>rfl
      simp! [za7,cf];rw  [zb9];refine ye5 (λρ st=>∃(k:Nat) (x5 x6 x7:Sl),ρ=[Sl.bor (wp7 wide high sh ts),.own (.lst (F.map wp5)),.bor (.fd (F.map wp5) (ngs F F)),.own (.lst ((wst F s k).1.map wp5)),.bor (wp5 (wst F s k).2.2),x5,x6,x7]/\k<=K) (λρ _=>muR K ρ) ⟨0,_,_,_,rfl,Be0 _⟩ ?_;intro ρ st hI P Z pn pr pz;obtain⟨k,x5,x6,x7,rfl,hk⟩:=hI;have wl:=yl7 (F:=F) (s:=s) k;have ec:=ya5 (neg:=true) (a:=(wst F s k).2.2) (b:=s);have wk:=yp3 t2 hsF k λj hj=>k3 j (by omega)
      by_cases hc:(wst F s k).2.2=s
      ·have hkK:k=K:=Classical.byContradiction λz=>k3 k (by omega) hc
       subst hkK;rw[Am1 hc] at ec;simp! [i0,ec];refine pz _ ?_;have ol1:wv6 [.lst ((wst F s k).1.map wp5)]=some (.int ((wst F s k).1.length:Nat)):=by simp[wv6]
       have ol2:wv6 [.lst (F.map wp5)]=some (.int (F.length:Nat)):=by simp[wv6]
       simp_all!;simp! [ol1,ol2,wr4];unfold va2 at hq;by_cases hl:(wst F s k).1.length<F.length
       ·rw[if_pos hl] at eR
        rw[eR] at hq;rw[Am1 (show (((wst F s k).1.length:Nat):Int)<(F.length:Nat) by omega)];simp!;exact hq
       ·rw[if_neg hl] at eR
        rw[eR] at hq;rw[Al1 (show ¬(((wst F s k).1.length:Nat):Int)<(F.length:Nat) by omega)];simp! [him];exact hq
      ·rw[Al1 hc] at ec
       simp! [i0,ec];have hcF:(wst F s k).2.2∈F:=(zh9.mp wk.adj).2;have hkK:k<K:=Nat.lt_of_le_of_ne hk λz=>hc (by rw[z];exact k2)
       obtain⟨a',b',e',_⟩:=zw9 t2 hcF;obtain⟨q,eq⟩:=wk.ls;have ew:wst F s (k+1)=((wst F s k).1++[(wst F s k).2.2],(wst F s k).2.2,nxt F (wst F s k).2.1 (wst F s k).2.2):=rfl;have en2:nxt F (wst F s k).2.1 (wst F s k).2.2=if a'=(wst F s k).2.1 then b' else a':=by unfold nxt;rw[e']
       have eng:ngb F (wst F s k).2.2=.fl [wp5 a',wp5 b']:=by unfold ngb;rw[e'];rfl
       generalize (wst F s k).2.2=c at *;generalize (wst F s k).2.1=p at *;generalize (wst F s k).1=r at *;simp_all!;simp! [(yh7 hcF).2,eng,gF];have rl:r.length<=82:=by omega
       have elast:oIx (.lst (r.map wp5)) (.int (-1))=some (wp5 p):=by
        have ql:q.length<=200:=by rw[eq,Ak0] at rl;omega
        rw[eq];exact ys2 ql
       have ecl:=ya5 (neg:=false) (a:=a') (b:=p);have fin:∀y:wp6,y=nxt F p c->P (.nx [Sl.bor (wp7 wide high sh ts),.own (.lst (F.map wp5)),.bor (.fd (F.map wp5) (ngs F F)),.own (.lst (r.map wp5++[wp5 c])),.bor (wp5 y),.bor (wp5 a'),.bor (wp5 b'),.bor (wp5 y)]) st:=λy hy=>by
        refine pn _ _ ⟨k+1,.bor (wp5 a'),.bor (wp5 b'),.bor (wp5 y),?_,hkK⟩ ?_
        ·rw[ew,hy,Am0];rfl
        ·show K+1-(r.map wp5++[wp5 c]).length<K+1-(r.map wp5).length
         rw[Ak0,Aa0];simp;omega
       simp_all!;simp! [elast,ecl];by_cases hap:a'=p
       ·rw[if_pos hap] at en2
        rw[Am1 hap];simp! [za7,cf];simp_all!;simp! [wq5,him];refine⟨_,zx4 (za7 c) (by rw[Aa0];omega),?_⟩;simp!;exact fin b' en2.symm
       ·rw[if_neg hap] at en2
        rw[Al1 hap];simp! [za7,cf];simp_all!;simp! [wq5,him];refine⟨_,zx4 (za7 c) (by rw[Aa0];omega),?_⟩;simp!;exact fin a' en2.symm
def xx0{sh:List wp6}{ts:List Tr}(h:zf2 ts=true)(hn:(pl ts).Nodup){c:wp6}(hc:c∉sh):ws2 (wx3 sh ts) c=if c∈pl ts then some (wv7 c (pl ts):Int) else none:=by
 have ap:ts.Pairwise λa b=>∀c∈a.cells,c∉b.cells:=by
  have hp:ts.Pairwise λa b=>((a.x,a.y):wp6)≠(b.x,b.y):=Ce0.mp hn
  refine List.Pairwise.imp_of_mem (λ{a b} ha hb hne c' h1 h2=>?_) hp;rw[zz4 (zq3 h ha)] at h1;rw[zz4 (zq3 h hb)] at h2;exact hne ((Al0.mp h1).symm.trans (Al0.mp h2))
 have hsh:ws2 (sh.map λc=>(c,(-1:Int))) c=none:=by rw[yg6,if_neg hc]
 unfold wx3;rw[yc7,hsh,Option.or_none];by_cases hp:c∈pl ts
 ·obtain⟨m,hm⟩:=List.getElem?_of_mem hp
  have hm':(ts.map λt=>(t.x,t.y))[m]?=some c:=hm;rw[Ai0] at hm';cases q:ts[m]? with
  | none=>rw[q] at hm';cases hm'
  | some t=>
    rw[q] at hm';cases hm';rw[if_pos hp,xb3 hn hm,wb4 q (by rw[zz4 (zq3 h (Ar0 q))];exact Al0.mpr rfl) ap]
 ·rw[if_neg hp]
  refine wb5 λt ht h2=>hp ?_
  rw[zz4 (zq3 h ht)] at h2;rw[Al0.mp h2];exact Bd0.mpr ⟨t,ht,rfl⟩
def xo8{sh:List wp6}{ts:List Tr}{d:D}(h:zf2 ts=true)(hn:(pl ts).Nodup)(hd:wt4 d (wx3 sh ts)){c:wp6}(hc:c∉sh):wz1 false (wp5 c) d=some (.bl (decide (c∈pl ts)))/\(c∈pl ts->va6 d (wp5 c)=some (.int (wv7 c (pl ts)))):=by
 obtain⟨ks,vs,rfl,_,_,_,h4⟩:=hd;have e:=h4 c;rw[xx0 h hn hc] at e;constructor
 ·show (zc7 (wp5 c)).map (λkk=>D.bl (wp8 kk ks vs).isSome)=_
  rw[zd2];show some (D.bl (wp8 (ck c) ks vs).isSome)=_;rw[e];by_cases hp:c∈pl ts<;>simp[hp]
 ·intro hp
  show im (wp8 (ck c) ks vs)=_;rw[e,if_pos hp];simp[im,imm_int]
def yd6(l:List Int):D.depL (l.map D.int)<=29:=Ap0 (zs4 (n:=0) (λa=>by simp[D.dep]) l) (by decide)
def zh7(l:List Int):D.immL (l.map D.int)=true:=zb1 (λ_=>imm_int) l
def xc8{l:List Int}{k:Nat}(h:k<=l.length):vb9 (some (k:Int)) none (.lst (l.map D.int))=some (.lst ((l.drop k).map D.int)):=by
 show (if D.immL (l.map D.int)=true then some (D.lst (L2.cutD (l.map D.int) (some (k:Int)) none)) else none)=_;rw[if_pos (zh7 l)];unfold L2.cutD;rw[HT.sIx_nat,HT.sIx_none,Aa0,Nat.min_eq_left h,List.take_of_length_le (by rw[List.length_drop,Aa0];exact Ag0 _),List.map_drop]
def wb0{l:List Int}{k:Nat}:vb9 none (some (k:Int)) (.lst (l.map D.int))=some (.lst ((l.take k).map D.int)):=by
 show (if D.immL (l.map D.int)=true then some (D.lst (L2.cutD (l.map D.int) none (some (k:Int)))) else none)=_;rw[if_pos (zh7 l),yu2,List.map_take]
def xd4{a b:List Int}(h:a.length+b.length<=1000):wq3 (.lst (a.map D.int)) (.lst (b.map D.int))=some (.lst ((a++b).map D.int)):=by
 rw[vt9 (zh7 a) (zh7 b) (by rw[Aa0,Aa0];exact h),Am0]
theorem yn8:∀l:List Int,zt7 (l.map D.int)=some l
 | []=>rfl
 | a::l=>by
   show (zt7 (l.map D.int)).map (λr=>a::r)=_;rw[yn8 l];rfl
def yw7{ps r:List wp6}:(wv0 ps r).length<=r.length:=by
 unfold wv0;rw[Aa0];exact Bl0 _ _
def xl3:List D->Res Unit D:=dfn 6 2 (zu2 vh2 vf1 ya4).1
theorem xt2{wide high:Int}{sh:List wp6}{ts:List Tr}{Q:D->Unit->Prop}{E:Exn->Unit->Prop}(hc:Cfg wide high sh ts)(hw:0<=wide/\wide<=9)(hh:0<=high/\high<=9)(hg:zf2 ts=true->GP wide high sh (pl ts))(hq:Q (zq5 ts (freeC wide high sh [])) ()):wpR (xl3 [wp7 wide high sh ts,ze0 ts]) Q E:=by
 refine zj2 rfl (by decide) ?_;unfold zu2;dsimp only;have him:∀l:List wp6,D.immL (l.map wp5)=true:=λl=>zb1 za7 l
 have nd:(freeC wide high sh []).Nodup:=zw1;have fl:(freeC wide high sh []).length<=81:=yd8 hw.2 hh.2;have nsh:∀c∈freeC wide high sh [],c∉sh:=λc hc=>(yg4.mp hc).2
 have hgp:zf2 ts=true->∀c∈pl ts,c∈freeC wide high sh []:=λz=>(hg z).2
 simp_all!;simp!;refine wd1 hc.few ?_;unfold zq5 at hq;cases hs:zf2 ts with
 | false=>
   rw[hs] at hq;simp!;exact hq
 | true=>
   rw[hs,if_pos rfl] at hq;simp!;simp_all!;simp!;refine wc3 hc.sh hw hh ?_;have hn:=(hg hs).1;have hgp:=hgp hs;generalize freeC wide high sh []=F at *;unfold va2;cases hr:wv8 F with
   | none=>
     rw[hr] at hq;simp!;simp_all!;simp! [va5,D.isNon];exact hq
   | some r=>
     rw[hr] at hq;have hq:Q (.tup ((rot (wv0 (pl ts) r) ((wv0 (pl ts) r).idxOf 0)).map D.int)) ():=hq;obtain⟨r1,r2,r3⟩:=ym5 nd hr;have rl:r.length<=81:=Ap0 (zx1 r3 r2) fl;have hz:wv0 (pl ts) r≠[]->(0:Int)∈wv0 (pl ts) r:=yz8 nd hr hgp;have oll:=yw7 (ps:=pl ts) (r:=r);simp! [him];simp_all!;simp! [va5,D.isNon];simp_all!;simp!;refine yj3 hc λd hd=>?_
     have fld:=hd.flat;simp! [fld];simp_all!;simp!;refine ze5 (xs:=r) (a:=wp5) (y:=λc=>.int (wv7 c (pl ts))) (p:=λc=>decide (c∈pl ts)) (λρ=>∃z,ρ=[z,Sl.bor d]) ⟨_,rfl⟩ (λc hc ρ hI152=>?_) (zd9 (by omega)) ?_
     ·obtain⟨z,er⟩:=hI152
      subst er;obtain⟨l1,l2⟩:=xo8 hs hn hd (nsh c (r2 c hc));refine⟨_,rfl,⟨_,rfl⟩,?_,λhp=>?_⟩
      ·simp! [l1]
      ·simp! [l2 (of_decide_eq_true hp)]
     ·have eo:(r.filter λc=>decide (c∈pl ts)).map (λc=>D.int (wv7 c (pl ts)))=(wv0 (pl ts) r).map D.int:=by
       unfold wv0;rw[Bg0];rfl
      rw[eo];generalize wv0 (pl ts) r=o at *;simp! [zh7];simp_all!;have o0:ww2 []=some (.lst []):=rfl;have ot0:wt6 []=some (.tup []):=rfl;simp! [o0,yf8 (yd6 o)];by_cases ho:o=[]
      ·subst ho
       have e0:decide (([]:List Int).map D.int=[])=true:=rfl;rw[e0];simp! [ot0];exact hq
      ·have e0:decide (o.map D.int=[])=false:=by simp[ho]
       have hz:=hz ho;have hk:o.idxOf 0<o.length:=List.idxOf_lt_length_iff.mpr hz;have ei:va4 (o.map D.int) (.int 0)=some (.int (o.idxOf 0:Nat)):=by
        show (zt7 (o.map D.int)).bind (λns=>if ns.length<=1000/\(0:Int)∈ns then some (D.int (ns.idxOf 0:Nat)) else none)=_;rw[yn8,Option.bind_some,if_pos ⟨by omega,hz⟩]
       rw[e0];simp!;simp_all!;simp! [wd0,ei];refine⟨_,rfl,_,ei,?_⟩;have et:∀l:List Int,zo3 [.lst (l.map D.int)]=some (.tup (l.map D.int)):=λl=>by simp[zo3,zh7]
       have ec:wq3 (.lst ((o.drop (o.idxOf 0)).map D.int)) (.lst ((o.take (o.idxOf 0)).map D.int))=some (.lst ((rot o (o.idxOf 0)).map D.int)):=xd4 (by rw[List.length_drop,Aw0];omega);simp! [xc8 (Ca0 hk),wb0,ec,et,zh7];exact hq
def xf4{F:List wp6}{p c:wp6}(h:two F=true)(hc:c∈F)(hp:p∈nb F c):(nb F c).filter (λx=>!decide (x=p))=[nxt F p c]:=by
 obtain⟨a,b,e,ne⟩:=zw9 h hc;unfold nxt;rw[e] at hp ⊢;show [a,b].filter (λx=>!decide (x=p))=[if a=p then b else a];by_cases q:a=p
 ·have hb:b≠p:=λz=>ne (q.trans z.symm)
  rw[if_pos q];simp[q,hb]
 ·have eb:b=p:=by
   rcases Aj0.mp hp with z | z
   ·exact absurd z.symm q
   ·exact(Al0.mp z).symm
  rw[if_neg q];simp[q,eb]
def muG(K:Nat)(ρ:Rho):Nat:=match ρ[6]? with
 | some (Sl.own (D.lst l))=>K+1-l.length
 | _=>0
def muO(ρ:Rho):Nat:=match ρ[9]? with
 | some (Sl.own (D.lst l))=>((zt7 l).getD []).idxOf 0
 | _=>0
def wk2{x:Int}{t:List Int}(hx:x≠0)(h0:(0:Int)∈t):(x::t).idxOf 0=t.idxOf 0+1/\(t++[x]).idxOf 0=t.idxOf 0/\rot (t++[x]) (t.idxOf 0)=rot (x::t) (t.idxOf 0+1):=by
 have hk:t.idxOf 0<t.length:=List.idxOf_lt_length_iff.mpr h0;refine⟨by rw[List.idxOf_cons,beq_eq_false_iff_ne.mpr hx];rfl,by rw[List.idxOf_append,if_pos h0],?_⟩;unfold rot;rw[List.drop_append_of_le_length (Ca0 hk),List.take_append_of_le_length (Ca0 hk),Cj0];rfl
def xm7:List D->Res Unit D:=dfn 10 2 (zy3 xm8 yy2 yn5).1
def xt3{wide high:Int}{sh:List wp6}{ts:List Tr}{Q:D->Unit->Prop}{E:Exn->Unit->Prop}(few:ts.length<=12)(hw:0<=wide/\wide<=9)(hh:0<=high/\high<=9)(hgp:zf2 ts=true->∀c∈pl ts,c∈freeC wide high sh [])(hq:Q (zq5 ts (freeC wide high sh [])) ()):wpR (xm7 [wp7 wide high sh ts,ze0 ts]) Q E:=by
 refine zj2 rfl (by decide) ?_;unfold zy3;dsimp only;have him:∀l:List wp6,D.immL (l.map wp5)=true:=λl=>zb1 za7 l
 have nd:(freeC wide high sh []).Nodup:=zw1;have fl:(freeC wide high sh []).length<=81:=yd8 hw.2 hh.2;have up:(freeC wide high sh []).Pairwise Ts.lxle:=wp2.filter _;have hps:ze0 ts=.tup ((pl ts).map wp5):=zv6 ts;simp_all!;simp!;refine xt4 hw hh ?_;generalize freeC wide high sh []=F at *;simp! [him];simp_all!;simp!;simp_all!;simp!;refine zf3 (λi ρ st'=>∃x4 x5:Sl,ρ=[Sl.bor (wp7 wide high sh ts),.bor (ze0 ts),.bor (.lst (F.map wp5)),.own (.dct (.non::(F.take i).map wp5) (ngs F (F.take i))),x4,x5,.no,.no,.no,.no]) 0 ⟨_,_,rfl⟩ (λi d ρ st' hd hI P pn=>?_) λρ st' hI=>?_
 ·obtain⟨x4,x5,er⟩:=hI
  rw[Ai0] at hd;cases q:F[i]? with
  | none=>rw[q] at hd;cases hd
  | some c=>
    rw[q] at hd;cases hd;subst er;rw[Ah0];obtain⟨n1,n2⟩:=yv7 nd q;refine⟨_,rfl,?_⟩;simp_all!;simp!;rw[zd8 (by decide) (by decide),up4];simp!;refine ze5 (xs:=[(0:Int),1,2,3]) (a:=D.int) (y:=λd=>wp5 (c.1+dx d,c.2+dy d)) (p:=λ_=>true) (λρ=>∃z,ρ=[z,Sl.bor (wp5 c)]) ⟨_,rfl⟩ (λd hd ρ hI153=>?_) (zd9 (by decide)) ?_
    ·obtain⟨z,er⟩:=hI153
     subst er;refine⟨_,rfl,⟨_,rfl⟩,?_,λ_=>?_⟩
     ·simp!
     ·simp!
      refine xh7 (d:=d) (by simp only[Aj0,Ao0,or_false] at hd;unfold Dir;omega) ?_;simp! [za7]
    ·have e4:([(0:Int),1,2,3].filter λ_=>true).map (λd=>wp5 (c.1+dx d,c.2+dy d))=(wv1 c).map wp5:=by rw[<-xb5];rfl
     rw[e4];simp! [him,yp4];refine ze5 (xs:=wv1 c) (a:=wp5) (y:=wp5) (p:=λx=>decide (x∈F)) (λρ=>∃z,ρ=[z,Sl.bor (.lst (F.map wp5))]) ⟨_,rfl⟩ (λx hx ρ hI154=>?_) (zd9 (by show 4<=1000;decide)) ?_
     ·obtain⟨z,er⟩:=hI154
      subst er;refine⟨_,rfl,⟨_,rfl⟩,?_,λ_=>?_⟩
      ·simp! [zq7]
      ·simp! [za7]
     ·simp! [xi4,vj1,yp4]
      refine⟨(F.take i).map wp5,ngs F (F.take i),by simp?! [wr6,yn2],_,zd2 c,yn3 F c,lt_size (by rw[Aa0,Aw0];omega),?_⟩;rw[xj6 n1,<-n2];exact pn _ _ ⟨_,_,by rw[Ah0]⟩
 ·obtain⟨x4,x5,er⟩:=hI
  subst er;rw[Aa0,Ah0,Bb0];simp!;simp_all!;simp!;refine xd8 few ?_;unfold zq5 at hq;cases hs:zf2 ts with
  | false=>
    rw[hs] at hq;simp!;exact hq
  | true=>
    rw[hs,if_pos rfl] at hq;have hgp:=hgp hs;have olF:wv6 [.lst (F.map wp5)]=some (.int (F.length:Nat)):=by simp[wv6]
    simp! [olF,wr4];by_cases h4:F.length<4
    ·have eR:wv8 F=none:=by
      cases hF:F with
      | nil=>rfl
      | cons s l=>
        have n2:two (s::l)=false:=Bool.eq_false_iff.mpr λz=>by
         have:=xg5 z (s:=s) Bh0;rw[hF] at h4;omega
        show (if two (s::l)=true then _ else none)=none;rw[n2];rfl
     rw[eR] at hq;rw[Am1 (show ((F.length:Nat):Int)<4 by omega)];simp!;exact hq
    ·rw[Al1 (show ¬((F.length:Nat):Int)<4 by omega)]
     simp!;have e2:∀c,((((nb F c).length:Nat):Int) == 2)=decide ((nb F c).length=2):=λc=>by rw[Cb0];simp;omega
     have ol:∀c,wz0 [ngb F c]=some (.int ((nb F c).length:Nat)):=λc=>by simp[wz0,ngb]
     refine ze5 (xs:=F) (a:=wp5) (y:=λc=>.bl (decide ((nb F c).length=2))) (p:=λ_=>true) (λρ=>∃z,ρ=[z,Sl.bor (.dct (.non::F.map wp5) (ngs F F))]) ⟨_,rfl⟩ (λc hc ρ hI155=>?_) (zd9 (by omega)) ?_
     ·obtain⟨z,er⟩:=hI155
      subst er;refine⟨_,rfl,⟨_,rfl⟩,?_,λ_=>?_⟩
      ·simp!
      ·simp! [(yh7 hc).1,ol,zj6,e2]
     ·have ef:(F.filter λ_=>true).map (λc=>D.bl (decide ((nb F c).length=2)))=F.map λc=>D.bl (decide ((nb F c).length=2)):=by rw[List.filter_eq_self.mpr (λ_ _=>rfl)]
      have ea:(F.map λc=>decide ((nb F c).length=2)).all id=two F:=by
       unfold two;rw[List.all_map];rfl
      rw[ef];simp! [yc2,zj1,Ay0,ea];cases hF:F with
      | nil=>rw[hF] at h4;exact absurd (by decide) h4
      | cons s l=>
        have hsF:s∈F:=by rw[hF];exact Bh0
        have eR:wv8 F=if two F=true then (if (wst F s (ws9 F s)).1.length<F.length then none else some (wst F s (ws9 F s)).1) else none:=by rw[hF];rfl
        have mn:vd0 [.lst (F.map wp5)]=some (wp5 s):=by rw[hF] at up ⊢;exact xm5 up
        rw[<-hF];cases t2:two F with
        | false=>
          rw[t2] at eR;rw[eR] at hq;simp!;exact hq
        | true=>
          rw[t2,if_pos rfl] at eR;obtain⟨k1,k2,k3⟩:=ym2 t2 hsF;generalize ws9 F s=K at *;simp!;simp_all!;have el:∀c:wp6,ww2 [wp5 c]=some (.lst [wp5 c]):=λc=>zr9 (by simp[D.immL,za7]) (by simp)
          have cf:∀c:wp6,(wp5 c).flat=false:=λ_=>rfl
          simp! [mn,el,za7];simp_all!;obtain⟨a,b,eab,nab⟩:=zw9 t2 hsF;have eh:vk8 (ngb F s) (.int 0)=some (wp5 ((nb F s).headD s)):=by
           unfold ngb;rw[eab];show im (some (wp5 a))=some (wp5 a);simp[im,za7]
          have i0:oIx (.lst [wp5 s]) (.int 0)=some (wp5 s):=(ya2 (l:=[wp5 s]) (v:=0) (za7 s) (Bx0 0) rfl).1;simp! [i0,(yh7 hsF).1,eh,cf];rw  [zb9];refine ye5 (λρ st=>∃(k:Nat) (x8:Sl),ρ=[Sl.bor (wp7 wide high sh ts),.bor (ze0 ts),.bor (.lst (F.map wp5)),.own (.dct (.non::F.map wp5) (ngs F F)),x4,x5,.own (.lst ((wst F s k).1.map wp5)),.bor (wp5 (wst F s k).2.2),x8,.no]/\k<=K) (λρ _=>muG K ρ) ⟨0,_,rfl,Be0 _⟩ ?_;intro ρ st hI P Z pn pr pz;obtain⟨k,x8,rfl,hk⟩:=hI;have wl:=yl7 (F:=F) (s:=s) k;have ec:=ya5 (neg:=true) (a:=(wst F s k).2.2) (b:=s);have wk:=yp3 t2 hsF k λj hj=>k3 j (by omega)
          obtain⟨tl,etl,_,_⟩:=wk.hd;have j0:oIx (.lst ((wst F s k).1.map wp5)) (.int 0)=some (wp5 s):=by rw[etl];exact(ya2 (l:=(s::tl).map wp5) (v:=0) (za7 s) (Bx0 0) rfl).1
          by_cases hc:(wst F s k).2.2=s
          ·have hkK:k=K:=Classical.byContradiction λz=>k3 k (by omega) hc
           subst hkK;rw[Am1 hc] at ec;simp! [j0,ec];refine pz _ ?_;have ol1:wv6 [.lst ((wst F s k).1.map wp5)]=some (.int ((wst F s k).1.length:Nat)):=by simp[wv6]
           simp_all!;simp! [ol1,olF,wr4];by_cases hl:(wst F s k).1.length<F.length
           ·rw[if_pos hl] at eR
            rw[eR] at hq;rw[Am1 (show (((wst F s k).1.length:Nat):Int)<(F.length:Nat) by omega)];simp!;exact hq
           ·rw[if_neg hl] at eR
            rw[eR] at hq;rw[Al1 (show ¬(((wst F s k).1.length:Nat):Int)<(F.length:Nat) by omega)];generalize (wst F s k).1=r at *;have hq:Q (.tup ((rot (wv0 (pl ts) r) ((wv0 (pl ts) r).idxOf 0)).map D.int)) ():=hq;have hz:wv0 (pl ts) r≠[]->(0:Int)∈wv0 (pl ts) r:=yz8 nd eR hgp;have oll:=yw7 (ps:=pl ts) (r:=r);simp!;simp_all!;simp!;refine ze5 (xs:=r) (a:=wp5) (y:=λc=>.int (wv7 c (pl ts))) (p:=λc=>decide (c∈pl ts)) (λρ=>∃z,ρ=[z,Sl.bor (ze0 ts)]) ⟨_,rfl⟩ (λc hc ρ hI156=>?_) (zd9 (by omega)) ?_
            ·obtain⟨z,er⟩:=hI156
             subst er;refine⟨_,rfl,⟨_,rfl⟩,?_,λhp=>?_⟩
             ·simp! [hps,zq7]
             ·simp! [hps,wc9]
              exact⟨_,rfl,_,xf3 (of_decide_eq_true hp),rfl,imm_int⟩
            ·have eo:(r.filter λc=>decide (c∈pl ts)).map (λc=>D.int (wv7 c (pl ts)))=(wv0 (pl ts) r).map D.int:=by
              unfold wv0;rw[Bg0];rfl
             rw[eo];generalize wv0 (pl ts) r=o at *;simp! [zh7];rw  [zb9];refine ye5 (λρ st=>∃(v:List Int) (x6:Sl),ρ=[Sl.bor (wp7 wide high sh ts),.bor (ze0 ts),.bor (.lst (F.map wp5)),.own (.dct (.non::F.map wp5) (ngs F F)),x4,x5,x6,.bor (wp5 (wst F s k).2.2),x8,.own (.lst (v.map D.int))]/\v.length=o.length/\(o≠[]->(0:Int)∈v/\rot v (v.idxOf 0)=rot o (o.idxOf 0))) (λρ _=>muO ρ) ⟨o,_,rfl,rfl,λz=>⟨hz z,rfl⟩⟩ ?_;intro ρ st hI P2 Z2 pn2 pr2 pz2;obtain⟨v,x6,rfl,vl,hv⟩:=hI;have o0:ww2 []=some (.lst []):=rfl;have et:∀v:List Int,zo3 [.lst (v.map D.int)]=some (.tup (v.map D.int)):=λv=>by simp[zo3,zh7]
             simp! [o0,yf8 (yd6 v)];cases hvc:v with
             | nil=>
               have e0:decide (([]:List Int).map D.int=[])=true:=rfl;rw[e0];simp!;refine pz2 _ ?_;rw[hvc] at vl;have on:o=[]:=List.length_eq_zero_iff.mp vl.symm;subst on;simp! [et,zh7];rw[hvc];exact hq
             | cons x t=>
               have e0:decide ((x::t).map D.int=[])=false:=rfl;rw[hvc] at vl hv;have one:o≠[]:=λz=>by rw[z] at vl;simp at vl
               obtain⟨v1,v2⟩:=hv one;have vx:oIx (.lst ((x::t).map D.int)) (.int 0)=some (.int x):=(ya2 (l:=(x::t).map D.int) (v:=0) imm_int (Bx0 0) rfl).1;rw[e0];simp!;have vx2:oIx (.lst (D.int x::t.map D.int)) (.int 0)=some (.int x):=vx;simp! [vx2,zj6];by_cases hx:x=0
               ·have ex:(x == 0)=true:=by rw[hx];rfl
                rw[ex];simp!;refine pz2 _ ?_;have ev:rot o (o.idxOf 0)=x::t:=by
                 rw[<-v2,hx];simp[rot]
                rw[ev] at hq;simp! [et,zh7];rw[hvc];exact hq
               ·have ex:(x == 0)=false:=beq_eq_false_iff_ne.mpr hx
                have ht:(0:Int)∈t:=by
                 rcases Aj0.mp v1 with z | z
                 ·exact absurd z.symm hx
                 ·exact z
                obtain⟨m1,m2,m3⟩:=wk2 hx ht;rw[ex];simp!;have c1:vb9 (some 1) none (.lst (D.int x::t.map D.int))=some (.lst (t.map D.int)):=xc8 (l:=x::t) (k:=1) (by simp);have c2:vb9 none (some 1) (.lst (D.int x::t.map D.int))=some (.lst [D.int x]):=wb0 (l:=x::t) (k:=1);have c3:wq3 (.lst (t.map D.int)) (.lst [D.int x])=some (.lst ((t++[x]).map D.int)):=xd4 (b:=[x]) (by simp at vl;simp;omega);simp! [c1,c2,c3,zh7];refine pn2 _ _ ⟨t++[x],x6,rfl,by rw[<-vl];simp,λ_=>⟨Bu0 _ ht,by rw[m2,m3,<-m1];exact v2⟩⟩ ?_;show ((zt7 ((t++[x]).map D.int)).getD []).idxOf 0<((zt7 (v.map D.int)).getD []).idxOf 0;rw[yn8,yn8,hvc];show (t++[x]).idxOf 0<(x::t).idxOf 0;rw[m1,m2];omega
          ·rw[Al1 hc] at ec
           simp! [j0,ec];have hcF:(wst F s k).2.2∈F:=(zh9.mp wk.adj).2;have hkK:k<K:=Nat.lt_of_le_of_ne hk λz=>hc (by rw[z];exact k2)
           obtain⟨q,eq⟩:=wk.ls;have ew:wst F s (k+1)=((wst F s k).1++[(wst F s k).2.2],(wst F s k).2.2,nxt F (wst F s k).2.1 (wst F s k).2.2):=rfl;have hpF:(wst F s k).2.1∈F:=wk.sub _ (by rw[eq];simp);have nf:=xf4 t2 hcF (p:=(wst F s k).2.1) (zh9.mpr ⟨yd9 (zh9.mp wk.adj).1,hpF⟩);generalize (wst F s k).2.2=c at *;generalize (wst F s k).2.1=p at *;generalize (wst F s k).1=r at *;have rl:r.length<=82:=by omega
           have elast:oIx (.lst (r.map wp5)) (.int (-1))=some (wp5 p):=by
            have ql:q.length<=200:=by rw[eq,Ak0] at rl;omega
            rw[eq];exact ys2 ql
           simp_all!;simp! [(yh7 hcF).1,ngb,D.fl?];refine ze5 (xs:=nb F c) (a:=wp5) (y:=wp5) (p:=λx=>!decide (x=p)) (λρ=>∃z,ρ=[z,Sl.bor (.lst (r.map wp5))]) ⟨_,rfl⟩ (λx hx ρ hI157=>?_) (zd9 (by have:=wm2 F c;omega)) ?_
           ·obtain⟨z,er⟩:=hI157
            subst er;have ex:=ya5 (neg:=true) (a:=x) (b:=p);refine⟨_,rfl,⟨_,rfl⟩,?_,λ_=>?_⟩
            ·simp! [elast,ex]
            ·simp! [za7]
           ·rw[nf]
            simp! [za7,him];simp_all!;simp! [wq5,him];refine⟨_,zx4 (za7 c) (by rw[Aa0];omega),?_⟩;have j1:oIx (.lst [wp5 (nxt F p c)]) (.int 0)=some (wp5 (nxt F p c)):=(ya2 (l:=[wp5 (nxt F p c)]) (v:=0) (za7 _) (Bx0 0) rfl).1;simp! [j1,cf];refine pn _ _ ⟨k+1,.own (.lst [wp5 (nxt F p c)]),?_,hkK⟩ ?_
            ·rw[ew,Am0];rfl
            ·show K+1-(r.map wp5++[wp5 c]).length<K+1-(r.map wp5).length
             rw[Ak0,Aa0];simp;omega
def wg8{wide high:Int}{sh:List wp6}{ts:List Tr}(ho:xs3 wide high sh ts):HC wide high sh ts:=
 ⟨ho.w1,ho.w9,ho.h1,ho.h9,⟨ho.few,Ap0 ho.sub.length_le (yb1 ho.w9 ho.h9),λt ht=>by
  have to:=ho.tr t ht;have:=to.w1;have:=to.h1;have:=to.xw;have:=to.yh;have:=to.x0;have:=to.y0;have:=ho.w9;have:=ho.h9;exact⟨by omega,by omega,by omega,by omega⟩⟩,λ_=>⟨by
  refine Ce0.mpr (List.Pairwise.imp_of_mem (λ{a b} ha hb h e=>?_) ho.apart);have ta:=ho.tr a ha;have tb:=ho.tr b hb;have w1:=ta.w1;have h1:=ta.h1;have w2:=tb.w1;have h2:=tb.h1;have e':((a.x,a.y):wp6)=(b.x,b.y):=e;have e1:a.x=b.x:=congrArg Prod.fst e';have e2:a.y=b.y:=congrArg Prod.snd e';exact h (a.x,a.y) (zi8.mpr ⟨Bx0 _,by show a.x<a.x+a.w;omega,Bx0 _,by show a.y<a.y+a.h;omega⟩) (zi8.mpr ⟨by show b.x<=a.x;omega,by show a.x<b.x+b.w;omega,by show b.y<=a.y;omega,by show a.y<b.y+b.h;omega⟩),λc hc=>by
  obtain⟨t,ht,rfl⟩:=Bd0.mp hc;have to:=ho.tr t ht;have w1:=to.w1;have h1:=to.h1;have xw:=to.xw;have yh:=to.yh;have x0:=to.x0;have y0:=to.y0;exact yg4.mpr ⟨⟨x0,by show t.x<wide;omega,y0,by show t.y<high;omega⟩,to.free (t.x,t.y) (zi8.mpr ⟨Bx0 _,by show t.x<t.x+t.w;omega,Bx0 _,by show t.y<t.y+t.h;omega⟩)⟩⟩⟩
theorem xr6:∀{ts:List Tr} {ps:List wp6},ps.length=ts.length->∃ts':List Tr,ts'.length=ts.length/\ts'.map Tr.kind=ts.map Tr.kind/\pl ts'=ps/\zf2 ts'=zf2 ts/\∀t'∈ts',∃t∈ts,t'.w=t.w/\t'.h=t.h
 | [],[],_=>⟨[],rfl,rfl,rfl,rfl,λt' h=>absurd h (by simp)⟩
 | t::ts,c::ps,h=>by
   obtain⟨ts',h1,h2,h3,h5,h4⟩:=xr6 (ts:=ts) (ps:=ps) (by simpa using h);refine⟨{ t with x:=c.1,y:=c.2 }::ts',by simp[h1],by rw[Aq0,Aq0,h2];rfl,by show (c.1,c.2)::pl ts'=_;rw[h3],by show (zp8 _&&zf2 ts')=(zp8 t&&zf2 ts);rw[h5];rfl,λt' ht=>?_⟩;rcases Aj0.mp ht with e | e
   ·exact⟨t,by simp,by rw[e],by rw[e]⟩
   ·obtain⟨u,hu,z⟩:=h4 t' e
    exact⟨u,by simp[hu],z⟩
 | [],_::_,h=>by cases h
 | _::_,[],h=>by cases h
structure Cs where
 wide:Int
 high:Int
 sh:List wp6
 ts:List Tr
def Cs.data(c:Cs):D:=.tup [wp7 c.wide c.high c.sh c.ts,ze0 c.ts,zq5 c.ts (freeC c.wide c.high c.sh [])]
structure Cs.Ok(c:Cs):Prop where
 w:0<=c.wide/\c.wide<=9
 h:0<=c.high/\c.high<=9
 cfg:Cfg c.wide c.high c.sh c.ts
 one:zf2 c.ts=true->GP c.wide c.high c.sh (pl c.ts)
def HC.ok{wide high:Int}{sh:List wp6}{ts:List Tr}(h:HC wide high sh ts):Cs.Ok ⟨wide,high,sh,ts⟩:=⟨⟨by have:=h.w1;show 0<=wide;omega,h.w9⟩,⟨by have:=h.h1;show 0<=high;omega,h.h9⟩,h.cfg,h.one⟩
def xf2{ts:List Tr}{F:List wp6}(few:F.length<=81)(nd:F.Nodup):(∃l:List Int,zq5 ts F=.tup (l.map D.int)/\l.length<=200)\/zq5 ts F=.non:=by
 unfold zq5;split
 ·cases hr:wv8 F with
  | none=>exact .inr rfl
  | some r=>
    refine .inl ⟨_,rfl,?_⟩;obtain⟨_,r2,r3⟩:=ym5 nd hr;have h1:=zx1 r3 r2;have h2:=yw7 (ps:=pl ts) (r:=r);unfold rot;rw[Ak0,List.length_drop,Aw0];omega
 ·exact .inr rfl
def Cs.Ok.kind{c:Cs}(h:c.Ok):(∃l:List Int,zq5 c.ts (freeC c.wide c.high c.sh [])=.tup (l.map D.int)/\l.length<=200)\/zq5 c.ts (freeC c.wide c.high c.sh [])=.non:=xf2 (yd8 h.w.2 h.h.2) zw1
def xl2{ts:List Tr}{F:List wp6}:(zq5 ts F).imm=true/\(zq5 ts F).flat=false:=by
 unfold zq5;split
 ·split
  ·exact⟨by simp[D.imm],rfl⟩
  ·exact⟨by simp[D.imm,zh7],rfl⟩
 ·exact⟨by simp[D.imm],rfl⟩
def wj0(ns:List Int)(hn:ns.length<=63):wpR ((vg2 wr7 xj0 vg4 yv6 xl1 xm7 (wx6 2) xl3).1 (rhoL ww7.length) (zs6 ns,0)) (λfl _=>fl=.rt (.bl true)) λ_ _=>False:=by
 unfold vg2;dsimp only;have rh:rhoL ww7.length=[Sl.no,.hnd,.no,.no,.no,.no,.no,.no,.no]:=rfl;rw[rh,zb9];obtain⟨st0,hst0,h00⟩:∃st0:Dr,(zs6 ns,(0:Int))=st0/\st0.2=0:=⟨_,rfl,rfl⟩;rw[hst0];have pw:iOp vl3 (λi j=>D.int (i ^ j.toNat)) (.int 10) (.int 9)=some (.int 1000000000):=rfl;have o0:ww2 []=some (.lst ([]:List D)):=rfl;simp! [o0];have fi:∀l:List Cs,D.immL (l.map Cs.data)=true:=λl=>zb1 (λc=>by
  have i1:(wp7 c.wide c.high c.sh c.ts).imm=true:=by simp[wp7,D.imm,D.immL,zb1 za7 c.sh,zb1 zn5 c.ts]
  have i2:(ze0 c.ts).imm=true:=by rw[zv6];simp[D.imm,zb1 za7]
  simp[Cs.data,D.imm,D.immL,i1,i2,xl2.1]) l
 have ff:∀l:List Cs,(D.lst (l.map Cs.data)).flat=true:=fi;simp_all!;simp!;refine zb6 (by decide) (by decide) (by omega) λv1 st1 a1 b1 c1=>?_
 simp! [wq3,wr4];rw[zd8 (by omega) (by omega)];refine zf3 (λi ρ st'=>∃(css:List Cs) (x3 x4 x5 x6 x7 x8:Sl),ρ=[Sl.no,.hnd,.own (.lst (css.map Cs.data)),x3,x4,x5,x6,x7,x8]/\(∀c∈css,c.Ok)/\css.length=2*i/\st'.2<=st1.2+1000*i) 0 ⟨[],_,_,_,_,_,_,rfl,λc hc=>absurd hc (by simp),rfl,by omega⟩ (λi e ρ st' he hI P pn=>?_) λρ st' hI=>?_
 ·obtain⟨css,x3,x4,x5,x6,x7,x8,er,hcs,hcl,hst⟩:=hI
  obtain⟨rfl,hi⟩:=ze9 he;subst er;rw[Ah0] at hst hcl;refine⟨_,rfl,?_⟩;simp_all!;simp!;refine xt0 (by omega) λwide0 high0 sh0 ts0 st2 hc0 t2=>?_
  simp!;simp_all!;simp!;refine zb6 (by decide) (by decide) (by omega) λv3 st3 a3 b3 c3=>?_
  simp!;refine zk6 (λρ (st':Dr)=>∃(wide high:Int) (sh:List wp6) (ts:List Tr),ρ=[Sl.no,.hnd,.own (.lst (css.map Cs.data)),.bor (.int (0+(i:Int))),.bor (wp7 wide high sh ts),.bor (ze0 ts),.bor (.int v3),x7,x8]/\HC wide high sh ts/\st'.2<=st3.2+700) (λP2 pn2=>?_) λρ st4 hI=>?_
  ·simp! [zj6]
   by_cases hv:v3=0
   ·have ev:(v3 == 0)=true:=by rw[hv];rfl
    rw[ev];simp! [pw];refine wc7 (by omega) (by decide) (by decide) λwide high sh ts st4 ho t4=>?_
    simp!;exact pn2 _ _ ⟨wide,high,sh,ts,rfl,wg8 ho,by omega⟩
   ·have ev:(v3 == 0)=false:=beq_eq_false_iff_ne.mpr hv
    rw[ev];simp!;exact pn2 _ _ ⟨wide0,high0,sh0,ts0,rfl,hc0,by omega⟩
  ·obtain⟨wide,high,sh,ts,er,hc,t4⟩:=hI
   subst er;refine zk6 (λρ (st':Dr)=>∃(wide high:Int) (sh:List wp6) (ts:List Tr),ρ=[Sl.no,.hnd,.own (.lst (css.map Cs.data)),.bor (.int (0+(i:Int))),.bor (wp7 wide high sh ts),.bor (ze0 ts),.bor (.int v3),x7,x8]/\HC wide high sh ts/\st'.2<=st4.2+120) (λP2 pn2=>?_) λρ st5 hI=>?_
   ·simp! [zj6]
    by_cases hv:v3=1
    ·have ev:(v3 == 1)=true:=by rw[hv];rfl
     rw[ev];simp!;refine xg9 (by omega) λwide high sh ts st5 hc t5=>?_
     simp!;exact pn2 _ _ ⟨wide,high,sh,ts,rfl,hc,by omega⟩
    ·have ev:(v3 == 1)=false:=beq_eq_false_iff_ne.mpr hv
     rw[ev];simp!;exact pn2 _ _ ⟨wide,high,sh,ts,rfl,hc,by omega⟩
   ·obtain⟨wide,high,sh,ts,er,hc,t5⟩:=hI
    subst er;have hps:=zv6 ts;have pln:(pl ts).length=ts.length:=Aa0 ..;simp!;rw[hps];refine xt1 (ts:=ts) hc.cfg hc.w1 hc.w9 hc.h1 hc.h9 pln hc.one (by omega) λps st6 hpl hnd t6=>?_
    rw[<-hps];obtain⟨ts2,l1,l2,l3,l5,l4⟩:=xr6 (ts:=ts) hpl;have es2:D.tup (ps.map wp5)=ze0 ts2:=by rw[zv6,l3]
    have eh2:wp7 wide high sh ts2=wp7 wide high sh ts:=by unfold wp7;rw[l2]
    have hc2:HC wide high sh ts2:=⟨hc.w1,hc.w9,hc.h1,hc.h9,⟨by rw[l1];exact hc.cfg.few,hc.cfg.sh,λt ht=>by obtain⟨u,hu,e1,e2⟩:=l4 t ht;rw[e1,e2];exact hc.cfg.wh u hu⟩,λz=>by rw[l3];exact hnd (l5▸z)⟩;simp! [vc7];rw[if_pos (show 2<=sizeLine by decide)];simp!;refine zf3 (λj ρ st'=>∃(cz:List Cs) (x7:Sl),ρ=[Sl.no,.hnd,.own (.lst (cz.map Cs.data)),.bor (.int (0+(i:Int))),.bor (wp7 wide high sh ts),.bor (ze0 ts),.bor (.int v3),x7,x8]/\(∀c∈cz,c.Ok)/\cz.length=2*i+j/\st'=st6) 0 ⟨css,_,rfl,hcs,by omega,rfl⟩ (λj d ρ st' hd hI P3 pn3=>?_) λρ st' hI=>?_
    ·obtain⟨cz,x7,er,hcz,hzl,rfl⟩:=hI
     obtain⟨tz,rfl,ehz,hcz2,hj⟩:∃tz,d=ze0 tz/\wp7 wide high sh tz=wp7 wide high sh ts/\HC wide high sh tz/\j<2:=by
      match j,hd with
      | 0,hd=>cases hd;exact⟨ts,rfl,rfl,hc,by decide⟩
      | 1,hd=>cases hd;exact⟨ts2,es2,eh2,hc2,by decide⟩
      | n+2,hd=>simp at hd
     subst er;rw[Ah0] at hzl;refine⟨_,rfl,xs9 (l:=cz.map Cs.data) rfl ?_⟩;simp!;rw[<-ehz];refine xt3 hcz2.cfg.few ⟨by have:=hcz2.w1;omega,hcz2.w9⟩ ⟨by have:=hcz2.h1;omega,hcz2.h9⟩ (λz=>(hcz2.one z).2) ?_;simp! [vc7];rw[if_pos (show 3<=sizeLine by decide)];simp!;refine⟨lt_size (by rw[Aa0];omega),?_⟩;rw[ehz];refine pn3 _ _ ⟨cz++[⟨wide,high,sh,tz⟩],.bor (ze0 tz),?_,λc hc=>?_,by rw[Ak0];simp;omega,rfl⟩
     ·rw[Am0,<-ehz]
      rfl
     ·rcases Av0.mp hc with h | h
      ·exact hcz c h
      ·rw[Al0.mp h];exact hcz2.ok
    ·obtain⟨cz,x7,er,hcz,hzl,rfl⟩:=hI
     subst er;have e2:[ze0 ts,D.tup (ps.map wp5)].length=2:=rfl;rw[e2] at hzl;exact pn _ _ ⟨cz,_,_,_,_,_,_,rfl,hcz,by omega,by omega⟩
 ·obtain⟨css,x3,x4,x5,x6,x7,x8,er,hcs,hcl,hst⟩:=hI
  subst er;rw[zd3,Ah0] at hcl;simp!;simp_all!;simp!;rw[zd8 (by decide) (by decide)];simp!;refine zf3 (λi ρ st'=>∃(s2 x3 x4 x5 x6 x7 x8:Sl),ρ=[Sl.no,.hnd,s2,x3,x4,x5,x6,x7,x8]/\(s2=.own (.lst (css.map Cs.data))\/s2=.bor (.lst (css.map Cs.data)))) 0 ⟨_,_,_,_,_,_,_,rfl,.inl rfl⟩ (λi e ρ st' he hI P pn=>?_) λρ st' hI=>?_
  ·obtain⟨s2,x3,x4,x5,x6,x7,x8,er,hs2⟩:=hI
   obtain⟨rfl,hi⟩:=ze9 he;subst er;refine⟨_,rfl,?_⟩;have fz:∀x3 x4 x5 x6 x7 x8:Sl,frz [2] [Sl.no,.hnd,s2,x3,x4,x5,x6,x7,x8]=[Sl.no,.hnd,.bor (.lst (css.map Cs.data)),x3,x4,x5,x6,x7,x8]:=λx3 x4 x5 x6 x7 x8=>by rcases hs2 with r | r<;>rw[r]<;>rfl
   rw[wp_sFor];simp only[List.set];rw[fz];simp!;refine zf3 (λj ρ st'=>∃(x4 x5 x8:Sl),ρ=[Sl.no,.hnd,.bor (.lst (css.map Cs.data)),.bor (.int (0+(i:Int))),x4,x5,x6,x7,x8]) 0 ⟨_,_,_,rfl⟩ (λj d ρ st' hd hI P2 pn2=>?_) λρ st' hI=>?_
   ·obtain⟨x4,x5,x8,er⟩:=hI
    rw[Ai0] at hd;cases q:css[j]? with
    | none=>rw[q] at hd;cases hd
    | some c=>
      rw[q] at hd;cases hd;subst er;have hcc:=hcs c (Ar0 q);refine⟨_,rfl,?_⟩;simp!;with_reducible refine xt2 hcc.cfg hcc.w hcc.h hcc.one ?_
      simp!;with_reducible refine wb8 hcc.kind ?_
      simp!;exact pn2 _ _ ⟨_,_,_,rfl⟩
   ·obtain⟨x4,x5,x8,er⟩:=hI
    subst er;exact pn _ _ ⟨_,_,_,_,_,_,_,rfl,.inr rfl⟩
  ·simp!
end K32
section
set_option maxHeartbeats 0
namespace K32
open L2
def vq3(s:Stmt):dA s=zy2 s:=by cases s<;>rfl
def vq2(s:Stmt):dB s=zc2 s:=by cases s<;>rfl
def vq1(s:Stmt):dS s=za5 s:=by cases s<;>rfl
def FnAt.to{K:PySem.W.Frag}{x:Str}{i:Nat}(h:FnAt K x i):At K x (top i):=by
 obtain⟨f,oc,od,an,osl,kV,doc,pm,cdv,ct,a,l,c,k⟩:=h;rw[vq3,vq2,vq1] at l;exact⟨f,_,a,wn8 (st:=top i) l c k⟩
theorem all_mk{l:PySem.W.OpenLaw}{w:World}{K:PySem.W.Frag}{h:Heap}{mg:Str->Option Value}{fa:Addr}(X:K.In h)(G:h.Ns mainGlobals mg)(hfa:mg "law" = some (.ref fa))(F:Facts K) :
 ∃fd:FuncData,(∀(s:Shared) (v:Value),BindsTo s fd ⟨[v],[]⟩ [("_law_script",v)])/\∀base:Heap,K.In base->base.Ns mainGlobals mg->ww5 l.prog w K mg base CX0 7 fa fd ["_law_script"] (spLaw K):=by
 cases F with
 | mk h_0 h_1 h_2 h_3 h_4 h_5 h_6 h_7 h_8 h_9 h_10 h_11 h_12 h_13 h_14 h_15 h_16 h_17 h_18 h_19 h_20 h_21 h_22 h_23 h_24 h_25 h_26 h_27 K6 J2 K2 J9 K7 K3 K8 K4 G3 K9 L0 L1 L3 G8 K0 J3 L4 L5 L6 I0 K5 K1 J4 J5 J6 J7 J8=>
 obtain⟨fl,dl,al,Fl⟩:=h_27.to;obtain⟨_,_,kV,dc,pm,an,cd,ct,_,rfl,_,_⟩:=Fl.ex;have e:=hfa.symm.trans (mg_of X G al);cases e;have mn:=λ{x:Str} (z:nsIn K mainGlobals x=some none)=>mg_none_of X G z
 have hm:Bn mg:=⟨mn K6,mn J2,mn K2,mn J9,mn K7,mn K3,mn K8,mn K4,mn G3,mn K9,mn L0,mn L1,mn L3,mn G8,mn K0,mn J3,mn L4,mn L5,mn L6,mn I0⟩;have cs:Cst K mg:=⟨trivial,⟨_,mg_of X G K5⟩,⟨_,mg_of X G K1,xt7 (p0:=(1,0)) (p1:=(0,1)) (p2:=(-1,0)) (p3:=(0,-1)) J4 J5 J6 J7 J8⟩⟩;refine⟨fnOf "law" "law" (zy2 wu3) (zc2 wu3) (za5 wu3) .none kV dc pm an cd ct,λs v=>.of_eq rfl,λbase _ _=>?_⟩;have CB:zc4 l.prog w K mg base 1 "_law_begin" ["_law_script"] (yw0 K):=vq6 _ _ _ X G h_0.to λf fd F=>xv7 F hm
 have C_1:=λp q=>vq6 (sp:=spS (WdS p q) K wr7) l.prog w base X G h_1.to λf fd F=>wf3 F hm.len hm.divmod
 have C_2:=ww4 l.prog w base X G h_2.to zq4 (yi4.2 _ _ _ _ _ hm cs 0 );have C_3:=ww4 l.prog w base X G h_3.to zn7 ((yh6 vf4).2 _ _ _ _ _ hm cs 1 C_2.up);have C_4:=ww4 l.prog w base X G h_4.to zn1 ((zv2 ya4).2 _ _ _ _ _ hm cs 2 C_3.up);have C_5:=ww4 l.prog w base X G h_5.to zw4 (zr8.2 _ _ _ _ _ hm cs 0 );have C_6:=ww4 l.prog w base X G h_6.to zx2 (zj3.2 _ _ _ _ _ hm cs 0 );have C_7:=ww4 l.prog w base X G h_7.to yw3 ((yb8 vg8 ym1).2 _ _ _ _ _ hm cs 3 C_4.up C_6.up);have C_8:=ww4 l.prog w base X G h_8.to yb5 (zm5.2 _ _ _ _ _ hm cs 0 );have C_9:=ww4 l.prog w base X G h_9.to zf0 ((zo4 yo0).2 _ _ _ _ _ hm cs 1 C_5.up);have C_10:=ww4 l.prog w base X G h_10.to zh6 ((yf1 xp1 vg1).2 _ _ _ _ _ hm cs 4 C_7.up C_9.up);have C_11:=ww4 l.prog w base X G h_11.to zj4 ((zu2 vh2 vf1 ya4).2 _ _ _ _ _ hm cs 5 C_8.up C_10.up C_3.up);have C_12:=ww4 l.prog w base X G h_12.to zo1 (zl3.2 _ _ _ _ _ hm cs 0 );have C_13:=ww4 l.prog w base X G h_13.to zt9 (zq2.2 _ _ _ _ _ hm cs 0 );have C_14:=λp q=>vh1 l.prog w base X G h_14.to zy9 ((zv5 wr7).2 _ _ _ _ _ p q hm cs 1 (C_1 p q).up)
 have C_15:=λp q=>vh1 l.prog w base X G h_15.to ze3 ((zy5 wr7).2 _ _ _ _ _ p q hm cs 1 (C_1 p q).up)
 have C_16:=λp q=>vh1 l.prog w base X G h_16.to zc6 ((zy6 xi6 zh0 wr7 vg3 vf0).2 _ _ _ _ _ p q hm cs 2 (C_14 p q).up C_12.up (C_1 p q).up (C_15 p q).up C_13.up)
 have L7:=λp q=>vh1 l.prog w base X G h_17.to zc0 ((zk0 zh0 wr7).2 _ _ _ _ _ p q hm cs 1 C_12.up (C_1 p q).up)
 have C_18:=λp q=>vh1 l.prog w base X G h_18.to zb8 ((zm7 wr7 zh0 yq3).2 _ _ _ _ _ p q hm cs 2 (C_1 p q).up C_12.up (L7 p q).up)
 have C_19:=λp q=>vh1 l.prog w base X G h_19.to zf4 ((zm6 zh0 wr7 yq3).2 _ _ _ _ _ p q hm cs 2 C_12.up (C_1 p q).up (L7 p q).up)
 have C_20:=ww4 l.prog w base X G h_20.to yi8 (zt2.2 _ _ _ _ _ hm cs 0 );have C_21:=ww4 l.prog w base X G h_21.to yq5 ((zy4 zh0).2 _ _ _ _ _ hm cs 1 C_12.up);have C_22:=ww4 l.prog w base X G h_22.to yi7 (zt0.2 _ _ _ _ _ hm cs 0 );have C_23:=ww4 l.prog w base X G h_23.to ze2 ((zy3 xm8 yy2 yn5).2 _ _ _ _ _ hm cs 2 C_21.up C_20.up C_22.up);have C_24:=ww4 l.prog w base X G h_24.to ze1 ((zs9 zh0).2 _ _ _ _ _ hm cs 1 C_12.up);have C_25:=λp q=>vh1 l.prog w base X G h_25.to zd7 ((zk1 wr7 yn4).2 _ _ _ _ _ p q hm cs 2 (C_1 p q).up C_24.up)
 have C_26:∀n:Nat,zc4 l.prog w K mg base n "_law_same" ["_law_found","_law_due"] (sp0 K (wx6 n)):=λn=>by
  induction n with
  | zero=>exact vq6 _ _ _ X G h_26.to λf fd F=>wn9
  | succ n ih=>exact ww4 _ _ _ X G h_26.to yq4 ((zt1 (wx6 n)).2 _ _ _ _ _ hm cs n ih)
 have C_26:=C_26 2;exact wl9 Fl (k:=6) CB.up (λp q cdv A outer s H E hr=>(vg2 wr7 xj0 vg4 yv6 xl1 xm7 (wx6 2) xl3).2 _ _ _ _ _ p q hm cs 6 (C_1 p q).up (C_18 p q).up (C_16 p q).up (C_19 p q).up (C_25 p q).up C_23.up C_26.up C_11.up _ cdv A outer s H E hr) wj0
end K32
open PySem PySem.W PyProof.Rows
theorem PySem.Challenge.cw_slidehall_k32_orders_round_rings_holds : PySem.Challenge.rw_slidehall_k32_orders_round_rings.Holds :=
 K32.early λq loose XP YP d K hd hn hY facts =>
 L2.walk_of (l:=PySem.Challenge.rw_slidehall_k32_orders_round_rings) (n:=63) (k:=7) (x:="_law_script") (CX:=λ_=>L2.CX0) (sp:=λw=>L2.spLaw (K w.params)) rfl (by decide) hd ⟨rfl,by decide,by decide,rfl⟩ hY (λw mg fa h KX G hmg=>K32.all_mk KX G (hn▸hmg) (facts w.params)) (λ_ _ a ns hl _ hS=>⟨a,ns,rfl,hS,hl,λ_=>rfl⟩) λ_ _ _ _ _ z=>z
end
end

