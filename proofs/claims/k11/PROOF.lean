import PyProof.Rows.All
import Wide.All
import OpenK.AllK
import Wide.FinOn
import KE.KIsAll
import Lean
import OpenK.KCls
import OpenK.KOwn
import OpenK.KRaise
import PyProof.EqAt
import PyProof.EqKinds
import PyProof.ExcArgsOwn
import PyProof.ExcBaseAll.ValueError
import PyProof.FactsAll.tuple_2
import PyProof.InstStore
import PyProof.InstStoreFacts
import PyProof.ListMulRoad
import PyProof.NeKinds
import PyProof.NsDelKeeps
import PyProof.ReprLen
import PyProof.ReprRoads
import PyProof.Rows.RegStrFacts
import PyProof.Rows.SortRunsK
import PyProof.Rows.SortShell
import PyProof.TupleCall
import PyProof.WalkInts
import PyProof.ExcClass
import PySem.Challenge.RW_slidehall_k11_long_rows_ahead
section
set_option Elab.async false
set_option linter.all false
set_option maxRecDepth 100000
set_option maxHeartbeats 0
namespace K11
open PySem PySem.Spec PyProof.Rows
def tp (i : Nat) : Stmt := PySem.Challenge.pw_slidehall_k11_long_rows_ahead.main.body.getD i (.Pass ⟨0, 0, 0, 0⟩)
def dA (s : Stmt) : Arguments := match s with
 | .FunctionDef _ z _ _ _ _ _ _ _ _ => z
 | _ => ⟨[], [], none, [], [], none, []⟩
def dB (s : Stmt) : List Stmt := match s with
 | .FunctionDef _ _ z _ _ _ _ _ _ _ => z
 | _ => []
def dS (s : Stmt) : Scope := match s with
 | .FunctionDef _ _ _ _ _ _ z _ _ _ => z
 | _ => { kind := .function, names := [], isGenerator := false, isCoroutine := false }
def si : Stmt := match tp 2 with
 | .ClassDef _ _ _ b _ _ _ _ _ _ _ => b.getD 0 (.Pass ⟨0, 0, 0, 0⟩)
 | s => s
def FnAt (K : PySem.W.Frag) (x : Str) (i : Nat) : Prop := ∃ (f : Addr) (oc : Value) (od an : Option Addr) (osl : Array (Option Value)) (kV doc pm cdv ct : Value), PySem.W.nsIn K mainGlobals x = some (some (.ref f)) ∧
 K.lookup f = some ⟨oc, od, .func (PySem.W.fnOf x x (dA (tp i)) (dB (tp i)) (dS (tp i)) .none kV doc pm an cdv ct), osl⟩ ∧ PySem.W.codeIn K cdv x = true ∧ PySem.W.keepIn K (.ref f) = true
theorem FnAt.of {K : PySem.W.Frag} {x : Str} {i : Nat} {f : Addr} {oc : Value} {od an : Option Addr} {osl : Array (Option Value)} {kV doc pm cdv ct : Value} (a : PySem.W.nsIn K mainGlobals x = some (some (.ref f)) := by k_is)
  (l : K.lookup f = some ⟨oc, od, .func (PySem.W.fnOf x x (dA (tp i)) (dB (tp i)) (dS (tp i)) .none kV doc pm an cdv ct), osl⟩ := by k_is) (c : PySem.W.codeIn K cdv x = true := by k_is) (k : PySem.W.keepIn K (.ref f) = true := by k_is) : FnAt K x i := ⟨f, oc, od, an, osl, kV, doc, pm, cdv, ct, a, l, c, k⟩
inductive Facts (K : PySem.W.Frag) : Prop where
 | mk
  (h__law_begin : FnAt K "_law_begin" 27)
  (h__law_take : FnAt K "_law_take" 28)
  (h_within : FnAt K "within" 9)
  (h_covered : FnAt K "covered" 10)
  (h_holders : FnAt K "holders" 11)
  (h_goes : FnAt K "goes" 16)
  (h_one_further : FnAt K "one_further" 17)
  (h_met_by : FnAt K "met_by" 18)
  (h_movers_among : FnAt K "movers_among" 19)
  (h_movers : FnAt K "movers" 20)
  (h_behind_step : FnAt K "behind_step" 21)
  (h_pushed : FnAt K "pushed" 22)
  (h_stands_along : FnAt K "stands_along" 23)
  (h_pushes_with_ends : FnAt K "pushes_with_ends" 24)
  (h_all_pushes : FnAt K "all_pushes" 25)
  (h__law_covered : FnAt K "_law_covered" 29)
  (h__law_behind : FnAt K "_law_behind" 30)
  (h__law_goes : FnAt K "_law_goes" 31)
  (h__law_step : FnAt K "_law_step" 32)
  (h__law_pushed : FnAt K "_law_pushed" 33)
  (h__law_same : FnAt K "_law_same" 34)
  (h__law_told : FnAt K "_law_told" 35)
  (h__law_line : FnAt K "_law_line" 36)
  (h__law_laid : FnAt K "_law_laid" 37)
  (h__law_far : FnAt K "_law_far" 38)
  (h_law : FnAt K "law" 39)
  (z_len : PySem.W.nsIn K mainGlobals "len" = some none)
  (z_divmod : PySem.W.nsIn K mainGlobals "divmod" = some none)
  (z_list : PySem.W.nsIn K mainGlobals "list" = some none)
  (z_tuple : PySem.W.nsIn K mainGlobals "tuple" = some none)
  (z_int : PySem.W.nsIn K mainGlobals "int" = some none)
  (z_bool : PySem.W.nsIn K mainGlobals "bool" = some none)
  (z_str : PySem.W.nsIn K mainGlobals "str" = some none)
  (z_dict : PySem.W.nsIn K mainGlobals "dict" = some none)
  (z_isinstance : PySem.W.nsIn K mainGlobals "isinstance" = some none)
  (z_all : PySem.W.nsIn K mainGlobals "all" = some none)
  (z_any : PySem.W.nsIn K mainGlobals "any" = some none)
  (z_sum : PySem.W.nsIn K mainGlobals "sum" = some none)
  (z_zip : PySem.W.nsIn K mainGlobals "zip" = some none)
  (z_enumerate : PySem.W.nsIn K mainGlobals "enumerate" = some none)
  (z_range : PySem.W.nsIn K mainGlobals "range" = some none)
  (z_sorted : PySem.W.nsIn K mainGlobals "sorted" = some none)
  (z_min : PySem.W.nsIn K mainGlobals "min" = some none)
  (z_max : PySem.W.nsIn K mainGlobals "max" = some none)
  (z_abs : PySem.W.nsIn K mainGlobals "abs" = some none)
  (z_reversed : PySem.W.nsIn K mainGlobals "reversed" = some none)
  {t_WALL : Tok} (y_WALL : PySem.W.nsIn K mainGlobals "WALL" = some (some (.int (-1) t_WALL)))
  {t_STRONG : Tok} (y_STRONG : PySem.W.nsIn K mainGlobals "STRONG" = some (some (.int (1) t_STRONG)))
  {t_DULL : Tok} (y_DULL : PySem.W.nsIn K mainGlobals "DULL" = some (some (.int (-1) t_DULL)))
  {a_STEPS b0_STEPS b1_STEPS b2_STEPS b3_STEPS : Addr} {od_STEPS od0_STEPS od1_STEPS od2_STEPS od3_STEPS : Option Addr} {sl_STEPS sl0_STEPS sl1_STEPS sl2_STEPS sl3_STEPS : Array (Option Value)} {n_STEPS n0_STEPS n1_STEPS n2_STEPS n3_STEPS : Nat} {t0_STEPS u0_STEPS t1_STEPS u1_STEPS t2_STEPS u2_STEPS t3_STEPS u3_STEPS : Tok}
  (y_STEPS : PySem.W.nsIn K mainGlobals "STEPS" = some (some (.ref a_STEPS))) (ya_STEPS : K.lookup a_STEPS = some ⟨.type "tuple", od_STEPS, .seq #[.ref b0_STEPS, .ref b1_STEPS, .ref b2_STEPS, .ref b3_STEPS] n_STEPS, sl_STEPS⟩)
  (y0_STEPS : K.lookup b0_STEPS = some ⟨.type "tuple", od0_STEPS, .seq #[.int (1) t0_STEPS, .int (0) u0_STEPS] n0_STEPS, sl0_STEPS⟩)
  (y1_STEPS : K.lookup b1_STEPS = some ⟨.type "tuple", od1_STEPS, .seq #[.int (0) t1_STEPS, .int (1) u1_STEPS] n1_STEPS, sl1_STEPS⟩)
  (y2_STEPS : K.lookup b2_STEPS = some ⟨.type "tuple", od2_STEPS, .seq #[.int (-1) t2_STEPS, .int (0) u2_STEPS] n2_STEPS, sl2_STEPS⟩)
  (y3_STEPS : K.lookup b3_STEPS = some ⟨.type "tuple", od3_STEPS, .seq #[.int (0) t3_STEPS, .int (-1) u3_STEPS] n3_STEPS, sl3_STEPS⟩)
  {C1 C0 C2 C3 C4 C5 N N0 fi : Addr} {nm q nm0 q0 : Str} {bs bs0 bm0 sub sub0 : List Value} {hd0 ab ab0 : Bool} {sn sn0 : List Str} {col col0 : Option Bool} {dd dd0 : Option Addr}
  {k0 k1 k2 k3 k5 l0 l1 l2 l3 l5 : Option Value} {id0 : String} {odi ani : Option Addr} {osi : Array (Option Value)} {kVi doci pmi cdi cti : Value}
  (y1 : PySem.W.nsIn K mainGlobals "Barred" = some (some (.ref C1))) (y0 : PySem.W.nsIn K mainGlobals "HallError" = some (some (.ref C0)))
  (lk : K.lookup C1 = some (excClassObj nm q C1 N bs [.ref C0, .type "ValueError", .type "Exception", .type "BaseException", .type "object"] true sn sub ab col dd k0 k1 k2 k3 k5 "ValueError.__new__")) (ok : PySem.W.nsOkIn K N = true) (ni : PySem.W.nsIn K N "__init__" = some (some (.ref fi))) (tl : PySem.W.tailIn K [.type "ValueError", .type "Exception", .type "BaseException", .type "object"] [.ref C0, .type "ValueError", .type "Exception", .type "BaseException", .type "object"] = true)
  (ga : PySem.W.findIn K (.ref C1) "__getattribute__" = some (some (.builtin "BaseException.__getattribute__"))) (gt : PySem.W.findIn K (.ref C1) "__getattr__" = some none) (cl : PySem.W.findIn K (.ref C1) "__class__" = some (some (.builtin "object.__class__")))
  (sb : PySem.W.subIn K (.ref C1) (.type "BaseException") = some true) (so : PySem.W.subIn K (.ref C1) (.type "object") = some true) (sa : PySem.W.findIn K (.ref C1) "__setattr__" = some (some (.builtin "object.__setattr__")))
  (a1 : PySem.W.findIn K (.ref C1) "push" = some none) (a2 : PySem.W.findIn K (.ref C1) "step" = some none) (kc : PySem.W.keepIn K (.ref C1) = true)
  (lf : K.lookup fi = some ⟨.type "function", odi, .func (PySem.W.fnOf "__init__" "Barred.__init__" (dA si) (dB si) (dS si) .none kVi doci pmi ani cdi cti), osi⟩) (cf : PySem.W.codeIn K cdi "Barred.__init__" = true) (kf : PySem.W.keepIn K (.ref fi) = true)
  (lk0 : K.lookup C0 = some (excClassObj nm0 q0 C0 N0 bs0 bm0 hd0 sn0 sub0 ab0 col0 dd0 l0 l1 l2 l3 l5 id0)) (hbe : (Value.ref C0 :: bm0).contains (.type "BaseException") = true)
  (hrd : PySem.W.readsIn K C0 (.type "type") = true) (hfc : PySem.W.findCls K (.ref C0) (.type "type") "__init__" = some (.val (.builtin "ValueError.__init__"))) (hg : PySem.W.specialIn K (.ref C0) "__getattribute__" = some (some (.builtin "type.__getattribute__")))
  (y2 : PySem.W.nsIn K mainGlobals "BadRow" = some (some (.ref C2))) (y3 : PySem.W.nsIn K mainGlobals "NoRoom" = some (some (.ref C3))) (y4 : PySem.W.nsIn K mainGlobals "NoStand" = some (some (.ref C4))) (y5 : PySem.W.nsIn K mainGlobals "TooMany" = some (some (.ref C5)))
  (no : PySem.W.kitAny K (.ref C1) [.ref C2, .ref C3, .ref C4, .ref C5] = some false) (yv : PySem.W.nsIn K mainGlobals "ValueError" = some none) (vt : PySem.W.kitOne K (.ref C1) (.type "ValueError") = some true)
  : Facts K
end K11
noncomputable def PySem.Challenge.vw : PySem.Program := PySem.W.view PySem.Challenge.rw_slidehall_k11_long_rows_ahead.row.toRowW.prog [1, 2, 3, 4, 5, 6, 8, 9, 10, 11, 13, 14, 15, 16, 17, 18, 19, 20, 21, 22, 23, 24, 25, 27, 28, 29, 30, 31, 32, 33, 34, 35, 36, 37, 38, 39]
local macro_rules
 | `(tactic| o_head $H) => `(tactic| (
  refine PySem.W.holds_open (q := PySem.Challenge.vw) (loose := []) (N := 4616)
   (Xt := fun s => PySem.W.xlAt PySem.Challenge.vw [] s &&
    PySem.W.recOk PySem.Challenge.rw_slidehall_k11_long_rows_ahead.row.toRowW.records s)
   (XP := PySem.W.XL PySem.Challenge.vw [])
   (Yf := PySem.W.Hook.obs $H)
   (Ya := PySem.W.Hook.val $H)
   (YP := PySem.W.Hook.says $H) ?hl
   (PySem.W.Hook.of $H)
   (PySem.W.Hook.keeps $H)
   (fun s e => PySem.W.xl_of s (Bool.and_eq_true_iff.mp e).1)
   PySem.W.XL.keeps (by rfl) (by rfl) (by rfl)
   (fun s e => PySem.W.recFacts_of (Bool.and_eq_true_iff.mp e).2)
   (by rfl) (by first | assumption | decide +kernel)
   (by decide +kernel)
   ⟨rfl, rfl, rfl, rfl, rfl, by decide +kernel⟩ ?hw ?hc
  (case hl => intro w; kernel_rfl)
  (case hw => w_witness2)))
open PySem PySem.W PyProof.Rows
set_option maxRecDepth 100000 in
set_option maxHeartbeats 0 in
theorem K11.early (W : ∀ (q : Program) (loose : List Str) (XP : (Str → Option Value) → Heap → Prop) (YP : World → Heap → Prop) (d : DefRec) (K : Params → PySem.W.Frag), d.params.defaults = [] → d.name = "law" → (∀ (w : World) (h : Heap), YP w h → (K w.params).In h) → (∀ P : Params, K11.Facts (K P)) →
  PySem.W.WalkO q loose XP YP PySem.Challenge.rw_slidehall_k11_long_rows_ahead.row.toRowW d [] (fun f vs => PySem.call f vs)) : PySem.Challenge.rw_slidehall_k11_long_rows_ahead.Holds := by
 w_on; o_law; k_head
 k_fill
 refine W _ _ _ _ _ _ rfl rfl (fun w h Y => PySem.W.kIn_of Y) ?F
 case F =>
  intro P
  exact K11.Facts.mk K11.FnAt.of K11.FnAt.of K11.FnAt.of K11.FnAt.of K11.FnAt.of K11.FnAt.of K11.FnAt.of K11.FnAt.of K11.FnAt.of K11.FnAt.of K11.FnAt.of K11.FnAt.of K11.FnAt.of K11.FnAt.of K11.FnAt.of K11.FnAt.of K11.FnAt.of K11.FnAt.of K11.FnAt.of K11.FnAt.of K11.FnAt.of K11.FnAt.of K11.FnAt.of K11.FnAt.of K11.FnAt.of K11.FnAt.of (by k_is) (by k_is) (by k_is) (by k_is) (by k_is) (by k_is) (by k_is) (by k_is) (by k_is) (by k_is) (by k_is) (by k_is) (by k_is) (by k_is) (by k_is) (by k_is) (by k_is) (by k_is) (by k_is) (by k_is) (by k_is) (by k_is) (by k_is) (by k_is) (by k_is) (by k_is) (by k_is) (by k_is) (by k_is) (by k_is) (by k_is) (by k_is) (by first | k_is | kernel_rfl) (by k_is) (by first | k_is | kernel_rfl) (by first | k_is | kernel_rfl) (by first | k_is | kernel_rfl) (by first | k_is | kernel_rfl) (by first | k_is | kernel_rfl) (by first | k_is | kernel_rfl) (by first | k_is | kernel_rfl) (by first | k_is | kernel_rfl) (by first | k_is | kernel_rfl) (by first | k_is | kernel_rfl) (by k_is) (by first | k_is | kernel_rfl) (by first | k_is | kernel_rfl) (by k_is) (by first | k_is | kernel_rfl) (by first | k_is | kernel_rfl) (by first | k_is | kernel_rfl) (by first | k_is | kernel_rfl) (by k_is) (by k_is) (by k_is) (by k_is) (by first | k_is | kernel_rfl) (by k_is) (by first | k_is | kernel_rfl)

end
set_option Elab.async false
set_option linter.all false
set_option maxRecDepth 100000
set_option tactic.hygienic false
set_option bootstrap.genMatcherCode false
set_option maxHeartbeats 0
set_option compiler.extract_closed false
local macro_rules
 | `(tactic| omega)=>`(tactic| first | lia | omega +splitDisjunctions)
section
namespace L2
open PySem PySem.Spec PyProof.Rows
noncomputable abbrev Key:=Sum Int Str
noncomputable def keyIs:Key->Value->Bool
 | .inl k,v=>Value.isInt k v
 | .inr x,v=>Value.isStrOf x v
noncomputable def keyH (w:World):Key->Int
 | .inl k=>hashInt k
 | .inr x=>hashStr w x
theorem ze2:∀{k:Key} {v:Value},keyIs k v=true->(∃i t,k=Sum.inl i/\v=Value.int i t)\/(∃x t,k=Sum.inr x/\v=Value.str x t)
 | .inl i,v,h=>by
   obtain⟨t,e⟩:=Value.isInt_shape (k:=i) (v:=v) h;exact .inl ⟨i,t,rfl,e⟩
 | .inr x,v,h=>by
   obtain⟨t,e⟩:=Value.isStrOf_shape (x:=x) (v:=v) h;exact .inr ⟨x,t,rfl,e⟩
theorem keyIs_int (i:Int) (t:Tok):keyIs (.inl i) (.int i t)=true:=by simp[keyIs,Value.isInt]
theorem keyIs_str (x:Str) (t:Tok):keyIs (.inr x) (.str x t)=true:=by simp[keyIs,Value.isStrOf]
theorem key_ll (a b:Int):decide ((Sum.inl a:Key)=Sum.inl b)=(a == b):=by
 by_cases e:a=b
 ·subst e;simp
 ·have h:¬(Sum.inl a:Key)=Sum.inl b:=fun q=>e (Sum.inl.inj q)
  rw[decide_eq_false h];exact(beq_eq_false_iff_ne.mpr e).symm
theorem key_rr (a b:Str):decide ((Sum.inr a:Key)=Sum.inr b)=decide (a=b):=by
 by_cases e:a=b
 ·subst e;simp
 ·have h:¬(Sum.inr a:Key)=Sum.inr b:=fun q=>e (Sum.inr.inj q)
  rw[decide_eq_false h,decide_eq_false e]
theorem key_lr (a:Int) (b:Str):decide ((Sum.inl a:Key)=Sum.inr b)=false:=decide_eq_false (fun q=>nomatch q)
theorem key_rl (a:Str) (b:Int):decide ((Sum.inr a:Key)=Sum.inl b)=false:=decide_eq_false (fun q=>nomatch q)
noncomputable def zf3 (prog:Program) (w:World):PySem.KeyKind prog w Key where
 is:=keyIs
 hash:=keyH w
 inj:=fun v a b ha hb=>by
  rcases ze2 ha with⟨i,t,rfl,rfl⟩ | ⟨x,t,rfl,rfl⟩
  ·rcases ze2 hb with⟨j,u,rfl,e⟩ | ⟨y,u,rfl,e⟩
   ·injection e with e1 _;rw[e1]
   ·exact nomatch e
  ·rcases ze2 hb with⟨j,u,rfl,e⟩ | ⟨y,u,rfl,e⟩
   ·exact nomatch e
   ·injection e with e1 _;rw[e1]
 byValue:=fun k v h=>by
  rcases ze2 h with⟨i,t,rfl,rfl⟩ | ⟨x,t,rfl,rfl⟩<;>rfl
 pyHash:=fun hv h=>by
  rcases ze2 hv with⟨i,t,rfl,rfl⟩ | ⟨x,t,rfl,rfl⟩
  ·exact wpAny_pyHash_int h
  ·exact wpAny_pyHash_str h
 eqBool:=fun hu hv h=>by
  rcases ze2 hu with⟨i,t,rfl,rfl⟩ | ⟨x,t,rfl,rfl⟩
  ·rcases ze2 hv with⟨j,u,rfl,rfl⟩ | ⟨y,u,rfl,rfl⟩
   ·rw[key_ll] at h;exact wpAny_eqBool_int h
   ·rw[key_lr] at h;exact SeqAt.EqAt.int_str i t y u _ _ _ _ h
  ·rcases ze2 hv with⟨j,u,rfl,rfl⟩ | ⟨y,u,rfl,rfl⟩
   ·rw[key_rl] at h;exact SeqAt.EqAt.str_int x t j u _ _ _ _ h
   ·rw[key_rr] at h;exact wpAny_eqBool_str h
 «strs»:=fun k x t v h=>by
  rcases ze2 h with⟨i,u,rfl,e⟩ | ⟨y,u,rfl,e⟩
  ·exact nomatch e
  ·injection e with e1 _
   subst e1;cases v<;>rfl
theorem mixKind_int (prog:Program) (w:World) (i:Int) (t:Tok):(zf3 prog w).is (.inl i) (.int i t)=true:=keyIs_int i t
theorem mixKind_str (prog:Program) (w:World) (x:Str) (t:Tok):(zf3 prog w).is (.inr x) (.str x t)=true:=keyIs_str x t
end L2
namespace L2
open PySem PySem.Spec PyProof.Rows
inductive V where
 | non | bl (b:Bool) | int (i:Int) | str (x:Str) | byt (b:Array UInt8) | flt (b:UInt64) | ref (a:Addr) | ty (n:String)
 deriving DecidableEq
noncomputable def RelV:V->Value->Prop
 | .non,u=>u=Value.none
 | .bl b,u=>u=Value.bool b
 | .int i,u=>∃t,u=Value.int i t
 | .str x,u=>∃t,u=Value.str x t
 | .byt b,u=>∃t,u=Value.bytes b t
 | .flt b,u=>∃t,u=Value.float b t
 | .ref a,u=>u=Value.ref a
 | .ty n,u=>u=Value.type n
noncomputable abbrev Vals:List V->List Value->Prop:=Paired RelV
theorem Vals.length {xs:List V} {us:List Value} (r:Vals xs us):xs.length=us.length:=Paired.length r
theorem Vals.get:∀{xs:List V} {us:List Value} {i:Nat} {x:V},Vals xs us->xs[i]?=some x->∃u,us[i]?=some u/\RelV x u
 | _,_,_,_,.nil,e=>by simp at e
 | _,_,0,_,.cons r _,e=>by simp at e;subst e;exact⟨_,rfl,r⟩
 | _,_,i+1,x,.cons _ t,e=>by
   obtain⟨u,h1,h2⟩:=Vals.get (i:=i) (x:=x) t (by simpa using e);exact⟨u,by simpa using h1,h2⟩
theorem Vals.set {x:V} {u:Value} (r:RelV x u):∀{xs:List V} {us:List Value} (i:Nat),Vals xs us->Vals (xs.set i x) (us.set i u)
 | _,_,_,.nil=>.nil
 | _,_,0,.cons _ t=>.cons r t
 | _,_,i+1,.cons q t=>.cons q (Vals.set r i t)
theorem Vals.append:∀{xs ys:List V} {us ws:List Value},Vals xs us->Vals ys ws->Vals (xs++ys) (us++ws)
 | _,_,_,_,.nil,s=>s
 | _,_,_,_,.cons r t,s=>.cons r (Vals.append t s)
theorem Vals.take:∀{xs:List V} {us:List Value} (n:Nat),Vals xs us->Vals (xs.take n) (us.take n)
 | _,_,0,_=>.nil
 | _,_,_+1,.nil=>.nil
 | _,_,n+1,.cons r t=>.cons r (Vals.take n t)
theorem Vals.drop:∀{xs:List V} {us:List Value} (n:Nat),Vals xs us->Vals (xs.drop n) (us.drop n)
 | _,_,0,r=>r
 | _,_,_+1,.nil=>.nil
 | _,_,n+1,.cons _ t=>Vals.drop n t
noncomputable def RelO:Option V->Option Value->Prop
 | some v,some u=>RelV v u
 | none,none=>True
 | _,_=>False
noncomputable def KV {κ:Type}:List (κ×V)->List (κ×Value)->Prop:=Paired fun (p:κ×V) (q:κ×Value)=>p.1=q.1/\RelV p.2 q.2
noncomputable def kV:Key->V
 | .inl i=>.int i
 | .inr x=>.str x
inductive HO where
 /-- a list -/
 | lst (xs:List V)
 /-- a tuple (never changes) -/
 | tup (xs:List V)
 /-- a dict whose keys are ints and texts;one whose keys are tuples of ints and texts (the empty one is both) -/
 | dK (kvs:List (Key×V)) | dT (kvs:List (List Key×V))
 /-- a set of ints: its members,its size -/
 | set (S:Int->Bool) (n:Nat)
 /-- an instance of the class at C,its dict at dx,its attributes -/
 | ins (C dx:Addr) (fs:List (Str×V))
 /-- the dict of the instance at x -/
 | own (x:Addr)
 /-- the dict of an exception -/
 | xd (fs:List (Str×V))
 /-- a bound method,f of x -/
 | met (f x:Addr)
 /-- a range object lo,lo+1,.. below hi -/
 | rng (lo hi:Int)
 /-- a thing that is known to the object (the script;a dict while a loop walks it): read,never written while it is so -/
 | frz (o:Obj) (u:HO)
 /-- a code object's table -/
 | tbl (ps:Array Value)
 /-- any other thing,by what is true of its one object (a def of one's own: SetO a S n:=HO.ext fun h=>..) -/
 | ext (φ:Heap->Prop)
noncomputable abbrev Hp:=Addr->Option HO
noncomputable def upd (H:Hp) (a:Addr) (o:HO):Hp:=fun b=>if b=a then some o else H b
theorem zb4 {H:Hp} {a:Addr} {o:HO}:upd H a o a=some o:=by unfold upd;rw[if_pos rfl]
theorem za9 {H:Hp} {a b:Addr} {o:HO} (h:b≠a):upd H a o b=H b:=by unfold upd;rw[if_neg h]
theorem ne_of {H:Hp} {a b:Addr} {o u:HO} (h:H a=some o) (h':H b=some u) (d:o≠u):a≠b:=by
 intro e;subst e;rw[h] at h';exact d (Option.some.inj h')
theorem zb0 {H:Hp} {a b:Addr} {o:HO} (h:H a=some o) (h':H b=none):a≠b:=by
 intro e;subst e;rw[h] at h';cases h'
section
variable (P:Program) (w:World)
noncomputable def ObjOk (H:Hp) (h:Heap) (a:Addr):HO->Prop
 | .lst xs=>xs.length<=sizeLine/\∃(its:List Value) (n:Nat),Vals xs its/\h.get? a=some { cls:=.type "list",data:=.seq its.toArray n }
 | .tup xs=>xs.length<=sizeLine/\∃its:List Value,Vals xs its/\IsTup h a its.toArray
 | .dK kvs=>kvs.length<=sizeLine/\(a == sysModules)=false/\∃vs,KV kvs vs/\h.DictOf (zf3 P w) a vs
 | .dT kvs=>kvs.length<=sizeLine/\(a == sysModules)=false/\∃xs:List (List Key×Addr×Value),
  Paired (fun (p:List Key×V) (q:List Key×Addr×Value)=>p.1=q.1/\H q.2.1=some (.tup (p.1.map kV))/\RelV p.2 q.2.2) kvs xs/\
  ∃o es ep,h.get? a=some o/\o.ExactDict/\o.data=.dict es ep/\es.toList=xs.map (entryOfKey (tupleKind (zf3 P w)))/\(xs.map (·.1)).Nodup
 | .set S n=>h.SetOf (intKind P w) a S n
 | .ins C dx fs=>H dx=some (.own a)/\fs.length<=1000/\dx≠a/\h.get? a=some (PySem.W.instObj C dx)/\
  ∃mA,h.Ns1 dx mA/\(∀f,RelO (fs.lookup f) (mA f))/\PySem.Within mA (fs.map (·.1))
 | .own _=>∃o,h.get? a=some o
 | .xd fs=>∃mA,h.Ns1 a mA/\∀f,RelO (fs.lookup f) (mA f)
 | .rng lo hi=>∃t u v,h.get? a=some { cls:=.type "range",data:=.fields #[.int lo t,.int hi u,.int 1 v] }
 | .frz o u=>h.get? a=some o/\ObjOk H h a u
 | .tbl ps=>h.get? a=some { cls:=.none,data:=.fields ps }
 | .met f x=>h.get? a=some (PySem.W.methodObj (.ref f) (.ref x))
 | .ext φ=>φ h/\(∃o,h.get? a=some o)/\∀h1 h2:Heap,φ h1->(∀o,h1.get? a=some o->h2.get? a=some o)->φ h2
noncomputable def HOk (H:Hp) (h:Heap):Prop:=∀a o,H a=some o->ObjOk P w H h a o
end
section
variable {P:Program} {w:World} {H H':Hp} {h h':Heap} {a:Addr} {o:HO}
theorem ObjOk.lt (x:ObjOk P w H h a o):a<h.objs.size:=by
 cases o with
 | lst xs=>obtain⟨_,_,_,_,e⟩:=x;exact Heap.lt_size e
 | tup xs=>obtain⟨_,_,_,p⟩:=x;exact p.lt
 | dK kvs=>obtain⟨_,_,_,_,o,_,_,e,_⟩:=x;exact Heap.lt_size e
 | dT kvs=>obtain⟨_,_,_,_,o,_,_,e,_⟩:=x;exact Heap.lt_size e
 | set S n=>obtain⟨o,_,_,_,e,_⟩:=x;exact Heap.lt_size e
 | ins C dx fs=>obtain⟨_,_,_,e,_⟩:=x;exact Heap.lt_size e
 | own y=>obtain⟨_,e⟩:=x;exact Heap.lt_size e
 | xd fs=>obtain⟨_,⟨_,_,_,e,_⟩,_⟩:=x;exact Heap.lt_size e
 | rng lo hi=>obtain⟨_,_,_,e⟩:=x;exact Heap.lt_size e
 | frz ob u=>obtain⟨e,_⟩:=x;exact Heap.lt_size e
 | tbl ps=>exact Heap.lt_size (show h.get? a=some _ from x)
 | met f y=>exact Heap.lt_size (show h.get? a=some _ from x)
 | ext φ=>obtain⟨_,⟨_,e⟩,_⟩:=x;exact Heap.lt_size e
theorem Paired.mapP {α β:Type} {F G:α->β->Prop}:∀{l₁:List α} {l₂:List β},Paired F l₁ l₂->(∀a b,F a b->G a b)->Paired G l₁ l₂
 | _,_,.nil,_=>.nil
 | _,_,.cons r t,f=>.cons (f _ _ r) (Paired.mapP t f)
theorem ObjOk.stay (x:ObjOk P w H h a o) (k:∀b u,(b=a\/H b=some (.own a))->h.get? b=some u->h'.get? b=some u)
 (ho:∀b,H b=some (.own a)->H' b=some (.own a)) (ht:∀b xs,H b=some (.tup xs)->H' b=some (.tup xs)):ObjOk P w H' h' a o:=by
 induction o with
 | lst xs=>obtain⟨z,its,n,r,e⟩:=x;exact⟨z,its,n,r,k _ _ (.inl rfl) e⟩
 | tup xs=>obtain⟨z,its,r,ob,e,c⟩:=x;exact⟨z,its,r,ob,k _ _ (.inl rfl) e,c⟩
 | dK kvs=>obtain⟨z,y,vs,r,ob,es,ep,e,c⟩:=x;exact⟨z,y,vs,r,ob,es,ep,k _ _ (.inl rfl) e,c⟩
 | dT kvs=>
   obtain⟨z,y,xs,r,ob,es,ep,e,c⟩:=x;exact⟨z,y,xs,Paired.mapP r fun p q z=>⟨z.1,ht _ _ z.2.1,z.2.2⟩,ob,es,ep,k _ _ (.inl rfl) e,c⟩
 | set S n=>obtain⟨ob,es,ep,t,e,c⟩:=x;exact⟨ob,es,ep,t,k _ _ (.inl rfl) e,c⟩
 | ins C dx fs=>
   obtain⟨d,z,ne,e,mA,⟨od,es,ep,e2,c⟩,r⟩:=x;exact⟨ho _ d,z,ne,k _ _ (.inl rfl) e,mA,⟨od,es,ep,k _ _ (.inr d) e2,c⟩,r⟩
 | own y=>obtain⟨ob,e⟩:=x;exact⟨ob,k _ _ (.inl rfl) e⟩
 | xd fs=>obtain⟨mA,⟨od,es,ep,e,c⟩,r⟩:=x;exact⟨mA,⟨od,es,ep,k _ _ (.inl rfl) e,c⟩,r⟩
 | rng lo hi=>obtain⟨t,u,v,e⟩:=x;exact⟨t,u,v,k _ _ (.inl rfl) e⟩
 | frz ob u ih=>obtain⟨e,q⟩:=x;exact⟨k _ _ (.inl rfl) e,ih q⟩
 | tbl ps=>
   have e:h.get? a=some { cls:=.none,data:=.fields ps }:=x;show h'.get? a=some { cls:=.none,data:=.fields ps };exact k a _ (.inl rfl) e
 | met f y=>
   have e:h.get? a=some (PySem.W.methodObj (.ref f) (.ref y)):=x;show h'.get? a=some (PySem.W.methodObj (.ref f) (.ref y));exact k a _ (.inl rfl) e
 | ext φ=>obtain⟨p,⟨o,e⟩,st⟩:=x;exact⟨st _ _ p fun o q=>k _ _ (.inl rfl) q,⟨o,k _ _ (.inl rfl) e⟩,st⟩
theorem HOk.lt (x:HOk P w H h) (e:H a=some o):a<h.objs.size:=(x a o e).lt
theorem HOk.fresh (x:HOk P w H h) (e:h.objs.size<=a):H a=none:=by
 cases q:H a with
 | none=>rfl
 | some u=>exact absurd (Nat.lt_of_lt_of_le (x.lt q) e) (Nat.lt_irrefl _)
theorem HOk.kept (x:HOk P w H h) (k:∀b u,h.get? b=some u->h'.get? b=some u):HOk P w H h':=fun a o e=>
 (x a o e).stay (fun b u _ q=>k b u q) (fun _ q=>q) fun _ _ q=>q
theorem HOk.laid (x:HOk P w H h) (k:∀b u,h.get? b=some u->h'.get? b=some u) (hp:h.objs.size<=a) (new:ObjOk P w (upd H a o) h' a o):HOk P w (upd H a o) h':=fun b u e=>by
 have hn:=x.fresh hp;by_cases hb:b=a
 ·subst hb;rw[zb4] at e;cases e;exact new
 ·rw[za9 hb] at e
  exact(x b u e).stay (fun c v _ q=>k c v q) (fun c q=>by rw[za9 (zb0 q hn)];exact q) fun c xs q=>by rw[za9 (zb0 q hn)];exact q
end
noncomputable def Rd (H:Hp) (a:Addr) (u:HO):Prop:=H a=some u\/∃o,H a=some (.frz o u)
theorem Rd.ok {P:Program} {w:World} {H:Hp} {h:Heap} {a:Addr} {u:HO} (r:Rd H a u) (x:HOk P w H h):ObjOk P w H h a u:=by
 rcases r with r | ⟨o,r⟩
 ·exact x a u r
 ·obtain⟨_,q⟩:=x a _ r
  exact q
noncomputable def Mut:Option HO->Prop
 | some (.lst _)=>True
 | some (.dK _)=>True
 | some (.dT _)=>True
 | some (.set _ _)=>True
 | some (.ins _ _ _)=>True
 | some (.ext _)=>True
 | _=>False
section
variable {P:Program} {w:World} {H:Hp} {h h':Heap} {x e:Addr} {o':HO}
theorem HOk.write (ok:HOk P w H h) (mu:Mut (H x)) (he:e=x\/H e=some (.own x)) (k:∀b u,b≠e->h.get? b=some u->h'.get? b=some u) (heo:∃u,h'.get? e=some u)
 (new:ObjOk P w (upd H x o') h' x o'):HOk P w (upd H x o') h':=fun b u q=>by
 have nown:∀c y,H c=some (.own y)->c≠x:=fun c y r z=>by subst z;rw[r] at mu;exact mu
 have ntup:∀c xs,H c=some (.tup xs)->c≠x:=fun c xs r z=>by subst z;rw[r] at mu;exact mu
 by_cases hb:b=x
 ·subst hb;rw[zb4] at q;cases q;exact new
 ·rw[za9 hb] at q
  by_cases hbe:b=e
  ·have q':H b=some (.own x):=by
    rcases he with z | z
    ·exact absurd (hbe.trans z) hb
    ·rw[hbe];exact z
   rw[q] at q';cases q';obtain⟨v,hv⟩:=heo;exact⟨v,by rw[hbe];exact hv⟩
  ·refine(ok b u q).stay (fun c v hc r=>k c v ?_ r) (fun c r=>by rw[za9 (nown c b r)];exact r) fun c xs r=>by rw[za9 (ntup c xs r)];exact r
   rcases hc with rfl | hc
   ·exact hbe
   ·rintro rfl
    rcases he with z | z
    ·exact nown c b hc z
    ·rw[hc] at z;cases z;exact hb rfl
end
structure Un (fs ex:List Addr) (H H':Hp) (h h':Heap):Prop where
 keep:∀b o,h.get? b=some o->H b=none->b∉fs->b∉ex->h'.get? b=some o
 slot:∀b o,h.get? b=some o->H b=none->b∈fs->b∉ex->∃sl,h'.get? b=some { o with slots:=sl }
 free:∀b o,h.get? b=some o->H b=none->b∉ex->H' b=none
 there:∀b o,h.get? b=some o->b∉ex->∃o',h'.get? b=some o'
 tups:∀b xs,H b=some (.tup xs)->H' b=some (.tup xs)
 frzs:∀b o u,H b=some (.frz o u)->H' b=some (.frz o u)
 tbls:∀b ps,H b=some (.tbl ps)->∃more,H' b=some (.tbl (ps++more))
section
variable {fs fs' ex ex':List Addr} {H H1 H2:Hp} {h h1 h2 h':Heap} {a x e:Addr} {o:HO}
theorem Un.any (u:Un fs ex H H1 h h1) {b:Addr} {ob:Obj} (q:h.get? b=some ob) (n:H b=none) (hx:b∉ex):∃sl,h1.get? b=some { ob with slots:=sl }:=by
 by_cases hb:b∈fs
 ·exact u.slot b ob q n hb hx
 ·exact⟨ob.slots,u.keep b ob q n hb hx⟩
theorem Un.kept (k:∀b u,h.get? b=some u->h'.get? b=some u):Un fs ex H H h h':=
 ⟨fun b ob q _ _ _=>k b ob q,fun b ob q _ _ _=>⟨ob.slots,k b ob q⟩,fun _ _ _ n _=>n,fun b ob q _=>⟨ob,k b ob q⟩,fun _ _ q=>q,fun _ _ _ q=>q,fun _ ps q=>⟨#[],by rw[q];simp⟩⟩
theorem Un.refl:Un fs ex H H h h:=Un.kept fun _ _ q=>q
theorem Un.laid (k:∀b u,h.get? b=some u->h'.get? b=some u) (hp:h.objs.size<=a) (hn:H a=none):Un fs ex H (upd H a o) h h' where
 keep:=fun b u q _ _ _=>k b u q
 slot:=fun b u q _ _ _=>⟨u.slots,k b u q⟩
 free:=fun b u q n _=>by rw[za9 (Nat.ne_of_lt (Nat.lt_of_lt_of_le (Heap.lt_size q) hp))];exact n
 there:=fun b u q _=>⟨u,k b u q⟩
 tups:=fun b xs q=>by rw[za9 (zb0 q hn)];exact q
 frzs:=fun b u xs q=>by rw[za9 (zb0 q hn)];exact q
 tbls:=fun b ps q=>⟨#[],by rw[za9 (zb0 q hn),q];simp⟩
theorem Un.write (mu:Mut (H x)) (he:e=x\/H e=some (.own x)) (k:∀b u,b≠e->h.get? b=some u->h'.get? b=some u) (heo:∃u,h'.get? e=some u):Un fs ex H (upd H x o) h h':=by
 have hx:∀b,H b=none->b≠x:=fun b n z=>by subst z;rw[n] at mu;exact mu
 have hb:∀b,H b=none->b≠e:=fun b n z=>by
  subst z;rcases he with r | r
  ·exact hx b n r
  ·rw[n] at r;cases r
 have hm:∀b u,H b=some u->¬Mut (some u)->b≠x:=fun b u q nm z=>by subst z;rw[q] at mu;exact nm mu
 refine⟨fun b u q n _ _=>k b u (hb b n) q,fun b u q n _ _=>⟨u.slots,k b u (hb b n) q⟩,fun b u q n _=>by rw[za9 (hx b n)];exact n,fun b u q _=>?_,
  fun b xs q=>by rw[za9 (hm b _ q fun z=>z)];exact q,fun b u xs q=>by rw[za9 (hm b _ q fun z=>z)];exact q,fun b ps q=>⟨#[],by rw[za9 (hm b _ q fun z=>z),q];simp⟩⟩
 by_cases hbe:b=e
 ·subst hbe;exact heo
 ·exact⟨u,k b u hbe q⟩
end
noncomputable def trk (h:Heap) (H:Hp):List Addr:=(List.range h.objs.size).filter fun a=>(H a).isSome
noncomputable def hidT (h:Heap) (H:Hp):Heap:=PySem.W.hideAll h (trk h H)
theorem hidT_size (h:Heap) (H:Hp):(hidT h H).objs.size=h.objs.size:=PySem.W.hideAll_size _ _
theorem hidT_get {h:Heap} {H:Hp} {b:Addr} {o:Obj} (e:h.get? b=some o) (n:H b=none):(hidT h H).get? b=some o:=
 PySem.W.hideAll_get _ e fun hm=>by
  have q:(H b).isSome=true:=(List.mem_filter.mp hm).2;rw[n] at q;simp at q
theorem of_hidT {h:Heap} {H:Hp} {b:Addr} {o:Obj} (e:(hidT h H).get? b=some o):h.get? b=some o/\H b=none:=by
 have e':h.get? b=some o:=PySem.W.of_hideAll (trk h H) e;refine⟨e',?_⟩;cases q:H b with
 | none=>rfl
 | some x=>
   have hm:b∈trk h H:=List.mem_filter.mpr ⟨List.mem_range.mpr (Heap.lt_size e'),by simp[q]⟩;have z:(hidT h H).get? b=none:=PySem.W.hideAll_none (trk h H) hm;rw[z] at e;cases e
noncomputable def allNews (g h:Heap) (L:Addr):List (Addr×Obj):=(List.range h.objs.size).filterMap fun a=>if a=L\/(g.get? a).isSome=true then none else (h.get? a).map fun o=>(a,o)
noncomputable def rest (g h:Heap) (L d:Addr):List (Addr×Obj):=(allNews g h L).filter fun p=>decide (p.1≠d)
end L2
namespace L2
open PySem PySem.Spec PyProof.Rows
structure Mod (K:PySem.W.Frag) (mg:Str->Option Value) (base:Heap):Prop where
 kin:K.In base
 glob:base.Ns mainGlobals mg
 blt:∃mb,base.Ns builtinsNs mb/\∀x:Str,x≠"__name__"->mb x=bootBuiltins x
 nolimit:base.NoLimit
structure Cx where
 prog:Program
 w:World
 K:PySem.W.Frag
 mg:Str->Option Value
 base:Heap
 A:Around
 N:List Str
 s₀:Shared
 H₀:Hp
 env:Env
 outer:List Env
 stack:List Env
 ex:List Addr
 fn:Str->Bool
 calm:Bool
 pn:List (Addr×Obj)
 xe:Value->Shared->Prop
noncomputable def frs (l:List Env):List Addr:=l.filterMap (·.frame)
noncomputable abbrev Cx.fs (X:Cx):List Addr:=frs X.outer
noncomputable def Vis (sc:Scope) (x:Str):Prop:=sc.names.lookup x=some .local\/sc.names.lookup x=some .cell\/sc.names.lookup x=some .free
noncomputable def Loc (sc:Scope) (x:Str):Prop:=sc.names.lookup x=some .local\/sc.names.lookup x=some .cell
noncomputable def Look (env:Env) (h:Heap) (m:Str->Option Value) (x:Str) (u:Value):Prop:=
 (env.kindOf x=some .local/\m x=some u)\/((env.kindOf x=some .cell\/env.kindOf x=some .free)/\∃c,env.cells.lookup x=some c/\h.IsCell c (some u))
structure Cx.Ok (X:Cx):Prop where
 mod:Mod X.K X.mg X.base
 kind:X.env.scope.kind=.function
 glob:X.env.globals=mainGlobals
 blt:X.env.builtins=builtinsNs
 above:X.s₀.heap.objs.size<=X.env.locals
 inj:∀x y c,X.env.cells.lookup x=some c->X.env.cells.lookup y=some c->x=y
 has:∀x,(X.env.kindOf x=some .cell\/X.env.kindOf x=some .free)->∃c,X.env.cells.lookup x=some c
 cab:∀x c,X.fn x=true->X.env.cells.lookup x=some c->X.s₀.heap.objs.size<=c
 hd:X.calm=true->X.A.handled=none
 frames:X.A.frames=some X.stack
 stk:X.stack=X.outer\/(X.stack=X.env::X.outer/\X.env.frame=some X.env.locals)
 exf:∀b∈X.ex,b≠X.env.locals/\∀x c,X.env.cells.lookup x=some c->c≠b
 bs:∀b o,X.base.get? b=some o->X.s₀.heap.get? b=some o/\X.H₀ b=none
 bsz:X.base.objs.size<=X.s₀.heap.objs.size
 noex:∀b o,X.base.get? b=some o->b∉X.ex
 exfs:∀b∈X.ex,b∉X.fs
 funs:X.s₀.heap.FunFrames X.base X.outer
 frf:∀b∈X.fs,X.H₀ b=none
structure Inv (X:Cx) (pins:List (Addr×Obj)) (σ:List (Option V)) (H:Hp) (s:Shared):Prop where
 ok:X.Ok
 os:s.os=X.s₀.os
 bare:AllBare s.gens
 base:Un X.fs X.ex X.H₀ H X.s₀.heap s.heap
 loc:∃m,s.heap.Ns X.env.locals m/\∀(i:Nat) (x:Str) (v:V),X.N[i]?=some x->σ[i]?=some (some v)->Vis X.env.scope x->∃u,RelV v u/\Look X.env s.heap m x u
 cell:∀x c,X.env.cells.lookup x=some c->∃v,s.heap.IsCell c v
 free:H X.env.locals=none
 freeC:∀x c,X.env.cells.lookup x=some c->H c=none
 pin:∀p∈X.pn++pins,s.heap.get? p.1=some p.2/\H p.1=none/\p.1≠X.env.locals/\p.1∉X.fs/\∀v,p.2.data≠.cell v
 hok:HOk X.prog X.w H s.heap
 len:σ.length=X.N.length
section
variable {X:Cx} {pins:List (Addr×Obj)} {σ:List (Option V)} {H H':Hp} {s:Shared} {h':Heap}
theorem Cx.Ok.nofr (ok:X.Ok) {b:Addr} {o:Obj} (e:X.base.get? b=some o):b∉X.fs:=fun hb=>by
 have:=(ok.funs.mem hb).1;rw[e] at this;cases this
theorem Inv.bs (I:Inv X pins σ H s):∀b o,X.base.get? b=some o->s.heap.get? b=some o/\H b=none:=fun b o e=>
 ⟨I.base.keep b o (I.ok.bs b o e).1 (I.ok.bs b o e).2 (I.ok.nofr e) (I.ok.noex b o e),I.base.free b o (I.ok.bs b o e).1 (I.ok.bs b o e).2 (I.ok.noex b o e)⟩
theorem Inv.bk (I:Inv X pins σ H s):∀b o,X.base.get? b=some o->s.heap.get? b=some o:=fun b o e=>(I.bs b o e).1
theorem Inv.mod (I:Inv X pins σ H s):Mod X.K X.mg X.base:=I.ok.mod
theorem Inv.kIn (I:Inv X pins σ H s):X.K.In s.heap:=I.ok.mod.kin.keeps I.bk
theorem Inv.fr (I:Inv X pins σ H s):∃m,Fr X.base X.env.locals s.heap m:=
 let ⟨m,hn,_⟩:=I.loc
 ⟨m,hn,I.bk,Nat.le_trans I.ok.bsz I.ok.above⟩
theorem Inv.lt (I:Inv X pins σ H s):X.env.locals<s.heap.objs.size:=let ⟨_,hn,_⟩:=I.loc;hn.lt
theorem Inv.sz (I:Inv X pins σ H s):X.s₀.heap.objs.size<=s.heap.objs.size:=Nat.le_trans I.ok.above (Nat.le_of_lt I.lt)
theorem Inv.nofs (I:Inv X pins σ H s) {a:Addr} (h:s.heap.objs.size<=a):a∉X.fs:=fun hb=>by
 obtain⟨_,o,ho,_⟩:=I.ok.funs.mem hb;exact absurd (Nat.lt_of_lt_of_le (Heap.lt_size ho) (Nat.le_trans I.sz h)) (Nat.lt_irrefl _)
theorem Inv.cne (I:Inv X pins σ H s):∀x c,X.env.cells.lookup x=some c->c≠X.env.locals:=fun x c e z=>by
 obtain⟨v,o,ho,hd⟩:=I.cell x c e;obtain⟨m,⟨o',es,ep,ho',hd',_⟩,_⟩:=I.loc;rw[z,ho'] at ho;cases ho;rw[hd'] at hd;cases hd
theorem Inv.funs (I:Inv X pins σ H s):s.heap.FunFrames X.base X.outer:=by
 have all:∀(l:List Env),(∀b∈frs l,b∈X.fs)->X.s₀.heap.FunFrames X.base l->s.heap.FunFrames X.base l:=by
  intro l;induction l with
  | nil=>intro _ _;trivial
  | cons env r ih=>
    intro hs hl;obtain⟨hk,⟨L,o,hf,hn,ho,hd⟩,hr⟩:=hl;have hL:L∈X.fs:=hs L (by unfold frs;rw[List.filterMap_cons,hf];exact List.mem_cons_self);obtain⟨sl,e⟩:=I.base.slot L o ho (I.ok.frf L hL) hL fun z=>I.ok.exfs L z hL
    exact⟨hk,⟨L,_,hf,hn,e,hd⟩,ih (fun b hb=>hs b (by unfold frs;rw[List.filterMap_cons,hf];exact List.mem_cons_of_mem _ hb)) hr⟩
 exact all X.outer (fun _ hb=>hb) I.ok.funs
theorem Inv.stack (I:Inv X pins σ H s):s.heap.FunFrames X.base X.stack:=by
 rcases I.ok.stk with e | ⟨e,hf⟩
 ·rw[e];exact I.funs
 ·rw[e]
  obtain⟨m,hn,_⟩:=I.loc;refine .cons (by rw[I.ok.kind];decide) hf hn ?_ I.funs;exact Heap.get?_none_of_le (Nat.le_trans I.ok.bsz I.ok.above)
theorem Inv.stkSub (I:Inv X pins σ H s):∀b∈frs X.stack,b∈X.env.locals::X.fs:=fun b hb=>by
 rcases I.ok.stk with e | ⟨e,hf⟩
 ·rw[e] at hb;exact List.mem_cons_of_mem _ hb
 ·rw[e] at hb
  unfold frs at hb;rw[List.filterMap_cons,hf] at hb;exact hb
theorem Inv.stkFree (I:Inv X pins σ H s):∀b∈frs X.stack,H b=none:=fun b hb=>by
 rcases List.mem_cons.mp (I.stkSub b hb) with e | hb
 ·rw[e];exact I.free
 ·obtain⟨_,o,ho,_⟩:=I.ok.funs.mem hb
  exact I.base.free b o ho (I.ok.frf b hb) fun z=>I.ok.exfs b z hb
theorem Inv.step {g':Array GenState} {t':Nat} {d':Drawn} {ch:List Addr} (I:Inv X pins σ H s)
 (hch:∀b∈ch,(b∈X.ex\/X.s₀.heap.objs.size<=b)/\b≠X.env.locals/\(∀x c,X.env.cells.lookup x=some c->c≠b)/\∀p∈X.pn++pins,p.1≠b)
 (keep:∀b o,b≠X.env.locals->b∉X.fs->b∉ch->s.heap.get? b=some o->H b=none->h'.get? b=some o)
 (slot:∀b o,b≠X.env.locals->b∈X.fs->b∉ch->s.heap.get? b=some o->H b=none->∃sl,h'.get? b=some { o with slots:=sl }) (free:∀b o,b∉ch->s.heap.get? b=some o->H b=none->H' b=none)
 (there:∀b o,b∉ch->s.heap.get? b=some o->∃o',h'.get? b=some o')
 (tups:∀b xs,H b=some (.tup xs)->H' b=some (.tup xs)) (frzs:∀b o u,H b=some (.frz o u)->H' b=some (.frz o u)) (tbls:∀b ps,H b=some (.tbl ps)->∃more,H' b=some (.tbl (ps++more)))
 (ns:∀m,s.heap.Ns X.env.locals m->h'.Ns X.env.locals m) (hok:HOk X.prog X.w H' h') (hg:AllBare g') :
 Inv X pins σ H' { s with heap:=h',gens:=g',drawn:=d',toks:=t' }:=by
 have neL:∀b o,X.s₀.heap.get? b=some o->b≠X.env.locals:=fun b o e=>Nat.ne_of_lt (Nat.lt_of_lt_of_le (Heap.lt_size e) I.ok.above)
 have neC:∀b o,X.s₀.heap.get? b=some o->b∉X.ex->b∉ch:=fun b o e hx hb=>by
  rcases (hch b hb).1 with z | z
  ·exact hx z
  ·exact absurd (Nat.lt_of_lt_of_le (Heap.lt_size e) z) (Nat.lt_irrefl _)
 have cellK:∀x c,X.env.cells.lookup x=some c->∀v,s.heap.IsCell c v->h'.IsCell c v:=fun x c e v hI1=>by
  obtain⟨o,ho,hd⟩:=hI1;have nch:c∉ch:=fun z=>(hch c z).2.2.1 x c e rfl
  by_cases hc:c∈X.fs
  ·obtain⟨sl,q⟩:=slot c o (I.cne x c e) hc nch ho (I.freeC x c e)
   exact⟨_,q,hd⟩
  ·exact⟨o,keep c o (I.cne x c e) hc nch ho (I.freeC x c e),hd⟩
 refine⟨I.ok,I.os,hg,⟨fun b o e n hb hx=>?_,fun b o e n hb hx=>?_,fun b o e n hx=>?_,fun b o e hx=>?_,fun b xs e=>tups b xs (I.base.tups b xs e),fun b o xs e=>frzs b o xs (I.base.frzs b o xs e),fun b ps e=>?_⟩,?_,fun x c e=>?_,?_,fun x c e=>?_,fun p hp=>?_,hok,I.len⟩
 ·exact keep b o (neL b o e) hb (neC b o e hx) (I.base.keep b o e n hb hx) (I.base.free b o e n hx)
 ·obtain⟨sl,e1⟩:=I.base.slot b o e n hb hx
  obtain⟨sl',e2⟩:=slot b _ (neL b o e) hb (neC b o e hx) e1 (I.base.free b o e n hx);exact⟨sl',e2⟩
 ·obtain⟨o',e1⟩:=I.base.there b o e hx
  exact free b o' (neC b o e hx) e1 (I.base.free b o e n hx)
 ·obtain⟨o',e1⟩:=I.base.there b o e hx
  exact there b o' (neC b o e hx) e1
 ·obtain⟨m1,e1⟩:=I.base.tbls b ps e
  obtain⟨m2,e2⟩:=tbls b _ e1;exact⟨m1++m2,by rw[e2,Array.append_assoc]⟩
 ·obtain⟨m,hn,hl⟩:=I.loc
  refine⟨m,ns m hn,fun i x v e1 e2 e3=>?_⟩;obtain⟨u,r,l⟩:=hl i x v e1 e2 e3;refine⟨u,r,?_⟩;rcases l with l | ⟨k,c,e,z⟩
  ·exact .inl l
  ·exact .inr ⟨k,c,e,cellK x c e _ z⟩
 ·obtain⟨v,z⟩:=I.cell x c e
  exact⟨v,cellK x c e v z⟩
 ·obtain⟨m,⟨o,_,_,ho,_⟩,_⟩:=I.loc
  exact free _ o (fun z=>(hch _ z).2.1 rfl) ho I.free
 ·obtain⟨v,o,ho,hd⟩:=I.cell x c e
  exact free c o (fun z=>(hch c z).2.2.1 x c e rfl) ho (I.freeC x c e)
 ·obtain⟨e,n,ne,nf,d⟩:=I.pin p hp
  have nch:p.1∉ch:=fun z=>(hch p.1 z).2.2.2 p hp rfl
  exact⟨keep p.1 p.2 ne nf nch e n,free p.1 p.2 nch e n,ne,nf,d⟩
theorem Inv.un {t':Nat} (I:Inv X pins σ H s) (u:Un X.fs [] H H' s.heap h') (hok:HOk X.prog X.w H' h'):Inv X pins σ H' { s with heap:=h',toks:=t' }:=by
 obtain⟨m,⟨o,es,ep,ho,r⟩,_⟩:=id I.loc;obtain⟨sl,hL⟩:=u.any ho I.free (by simp);exact I.step (g':=s.gens) (d':=s.drawn) (ch:=[]) (fun _ z=>nomatch z) (fun b o _ hb _ e n=>u.keep b o e n hb (by simp)) (fun b o _ hb _ e n=>u.slot b o e n hb (by simp)) (fun b o _ e n=>u.free b o e n (by simp)) (fun b o _ e=>u.there b o e (by simp)) u.tups u.frzs u.tbls (fun m' hm=>by
  obtain⟨o',es',ep',ho',r'⟩:=hm;rw[ho] at ho';cases ho';exact⟨_,es',ep',hL,r'⟩) hok I.bare
theorem Inv.call {g':Array GenState} {t':Nat} {d':Drawn} {ch:List Addr} (I:Inv X pins σ H s) (u:Un (frs X.stack) ch H H' s.heap h') (hok:HOk X.prog X.w H' h') (hg:AllBare g')
 (hch:∀b∈ch,(b∈X.ex\/X.s₀.heap.objs.size<=b)/\b≠X.env.locals/\(∀x c,X.env.cells.lookup x=some c->c≠b)/\∀p∈X.pn++pins,p.1≠b) :
 Inv X pins σ H' { s with heap:=h',gens:=g',drawn:=d',toks:=t' }:=by
 obtain⟨m,⟨o,es,ep,ho,r⟩,_⟩:=id I.loc;obtain⟨sl,hL⟩:=u.any ho I.free fun z=>(hch _ z).2.1 rfl
 exact I.step (ch:=ch) hch (fun b o hL hb hc e n=>u.keep b o e n (fun z=>(List.mem_cons.mp (I.stkSub b z)).elim hL hb) hc) (fun b o _ _ hc e n=>u.any e n hc) (fun b o hc e n=>u.free b o e n hc) (fun b o hc e=>u.there b o e hc) u.tups u.frzs u.tbls (fun m' hm=>by
  obtain⟨o',es',ep',ho',r'⟩:=hm;rw[ho] at ho';cases ho';exact⟨_,es',ep',hL,r'⟩) hok hg
theorem Inv.turned {t':Nat} {it:Addr} (I:Inv X pins σ H s) (k:∀b o,b≠it->s.heap.get? b=some o->h'.get? b=some o) (hn:H it=none) (hL:it≠X.env.locals)
 (h1:it∈X.ex\/X.s₀.heap.objs.size<=it) (h2:∀x c,X.env.cells.lookup x=some c->c≠it) (h3:∀p∈X.pn++pins,p.1≠it):Inv X pins σ H { s with heap:=h',toks:=t' }:=by
 have nit:∀b u,H b=some u->b≠it:=fun b u e z=>by rw[z,hn] at e;cases e
 refine I.step (g':=s.gens) (d':=s.drawn) (ch:=[it]) (fun b hb=>?_) (fun b o _ _ hc e _=>k b o (fun z=>hc (by simp[z])) e) (fun b o _ _ hc e _=>⟨o.slots,k b o (fun z=>hc (by simp[z])) e⟩) (fun _ _ _ _ n=>n)
  (fun b o hc e=>⟨o,k b o (fun z=>hc (by simp[z])) e⟩) (fun _ _ e=>e) (fun _ _ _ e=>e) (fun b ps e=>⟨#[],by rw[e];simp⟩) (fun m hm=>?_) (fun b u e=>?_) I.bare
 ·have e:b=it:=by simpa using hb
  subst e;exact⟨h1,hL,h2,h3⟩
 ·obtain⟨o,es,ep,ho,r⟩:=hm
  exact⟨o,es,ep,k _ o (Ne.symm hL) ho,r⟩
 ·refine(I.hok b u e).stay (fun c v hc q=>k c v ?_ q) (fun _ q=>q) fun _ _ q=>q
  rcases hc with z | z
  ·rw[z];exact nit b u e
  ·exact nit c _ z
theorem Inv.tok (I:Inv X pins σ H s) (t:Nat):Inv X pins σ H { s with toks:=t }:=I.un (h':=s.heap) (t':=t) Un.refl I.hok
theorem Inv.kept {t':Nat} (I:Inv X pins σ H s) (k:∀b u,s.heap.get? b=some u->h'.get? b=some u):Inv X pins σ H { s with heap:=h',toks:=t' }:=I.un (Un.kept k) (I.hok.kept k)
theorem Inv.laid {a:Addr} {o:HO} {t':Nat} (I:Inv X pins σ H s) (k:∀b u,s.heap.get? b=some u->h'.get? b=some u) (hp:s.heap.objs.size<=a) (new:ObjOk X.prog X.w (upd H a o) h' a o) :
 Inv X pins σ (upd H a o) { s with heap:=h',toks:=t' }:=I.un (Un.laid k hp (I.hok.fresh hp)) (I.hok.laid k hp new)
theorem Inv.write {x e:Addr} {o:HO} {t':Nat} (I:Inv X pins σ H s) (mu:Mut (H x)) (he:e=x\/H e=some (.own x)) (k:∀b u,b≠e->s.heap.get? b=some u->h'.get? b=some u) (heo:∃u,h'.get? e=some u)
 (new:ObjOk X.prog X.w (upd H x o) h' x o):Inv X pins σ (upd H x o) { s with heap:=h',toks:=t' }:=I.un (Un.write mu he k heo) (I.hok.write mu he k heo new)
theorem Inv.weak {σ':List (Option V)} (I:Inv X pins σ H s) (hl:σ'.length=σ.length) (w:∀(i:Nat) v,σ'[i]?=some (some v)->σ[i]?=some (some v)):Inv X pins σ' H s:=
 ⟨I.ok,I.os,I.bare,I.base,let ⟨m,hn,hl'⟩:=I.loc;⟨m,hn,fun i x v e1 e2 e3=>hl' i x v e1 (w i v e2) e3⟩,I.cell,I.free,I.freeC,I.pin,I.hok,hl.trans I.len⟩
theorem Inv.pins_of {pins':List (Addr×Obj)} (I:Inv X pins σ H s) (h:∀p∈pins',s.heap.get? p.1=some p.2/\H p.1=none/\p.1≠X.env.locals/\p.1∉X.fs/\∀v,p.2.data≠.cell v):Inv X pins' σ H s:=
 ⟨I.ok,I.os,I.bare,I.base,I.loc,I.cell,I.free,I.freeC,fun p hp=>(List.mem_append.mp hp).elim (fun z=>I.pin p (List.mem_append_left _ z)) (h p),I.hok,I.len⟩
theorem nodup_ix {N:List Str} (hN:N.Nodup) {i j:Nat} {x:Str} (a:N[i]?=some x) (b:N[j]?=some x):i=j:=by
 obtain⟨h1,e1⟩:=List.getElem?_eq_some_iff.mp a;obtain⟨h2,e2⟩:=List.getElem?_eq_some_iff.mp b;exact(List.getElem_inj hN).mp (e1.trans e2.symm)
theorem store_ok2 {M:Model} {A:Around} {E:Value->Shared->Prop} {i:Nat} {x:Str} {v:V} {u:Value} {Q:Unit->Shared->Prop} (I:Inv X pins σ H s) (hN:X.N.Nodup) (hi:X.N[i]?=some x) (hx:Loc X.env.scope x) (r:RelV v u)
 (h:∀s',Inv X pins (σ.set i (some v)) H s'->(∃a,Heap.SameBut a s.heap s'.heap/\(a=X.env.locals\/X.env.cells.lookup x=some a))->Q () s') (hf:X.fn x=true\/X.env.scope.names.lookup x=some .local:=by first | exact .inl rfl | exact .inr rfl | assumption):wpAny M A (storeName X.env x u) Q E s:=by
 obtain⟨m,hn,hl⟩:=id I.loc;have hcls:(X.env.scope.kind == .class||(X.env.scope.kind == .module&&X.env.locals != X.env.globals))=false:=by rw[I.ok.kind];rfl
 have hiσ:i<σ.length:=by rw[I.len];exact(List.getElem?_eq_some_iff.mp hi).1
 have cne:=I.cne;have tracked:∀{a:Addr} {h':Heap},(∃o,s.heap.get? a=some o/\H a=none)->Heap.SameBut a s.heap h'->HOk X.prog X.w H h':=fun {a h'} ha hs b ob e=>by
  obtain⟨_,_,hfree⟩:=ha;refine(I.hok b ob e).stay (fun c w' hc q=>(hs.2 c ?_).trans q) (fun _ q=>q) fun _ _ q=>q
  rintro rfl;rcases hc with rfl | hc
  ·rw[hfree] at e;cases e
  ·rw[hfree] at hc;cases hc
 rcases hx with hk | hk
 ·refine wpAny_storeName_local hk hn (fun h' hn' hs=>?_) hcls
  obtain⟨oL,_,_,hoL,_⟩:=id hn;refine h _ ⟨I.ok,I.os,I.bare,⟨fun b o e n hb hx=>?_,fun b o e n hb hx=>?_,I.base.free,fun b o e hx=>?_,I.base.tups,I.base.frzs,I.base.tbls⟩,⟨_,hn',fun j y v' e1 e2 e3=>?_⟩,fun y c e=>?_,I.free,I.freeC,fun p hp=>?_,tracked ⟨oL,hoL,I.free⟩ hs,by simpa using I.len⟩ ⟨_,hs,.inl rfl⟩
  ·exact(hs.2 b (Nat.ne_of_lt (Nat.lt_of_lt_of_le (Heap.lt_size e) I.ok.above))).trans (I.base.keep b o e n hb hx)
  ·obtain⟨sl,e1⟩:=I.base.slot b o e n hb hx
   exact⟨sl,(hs.2 b (Nat.ne_of_lt (Nat.lt_of_lt_of_le (Heap.lt_size e) I.ok.above))).trans e1⟩
  ·obtain⟨o',e1⟩:=I.base.there b o e hx
   exact⟨o',(hs.2 b (Nat.ne_of_lt (Nat.lt_of_lt_of_le (Heap.lt_size e) I.ok.above))).trans e1⟩
  ·by_cases hj:j=i
   ·subst hj
    rw[hi] at e1;cases e1;rw[List.getElem?_set_self hiσ] at e2;cases e2;exact⟨u,r,.inl ⟨hk,by simp⟩⟩
   ·rw[List.getElem?_set_ne (Ne.symm hj)] at e2
    obtain⟨u',r',q⟩:=hl j y v' e1 e2 e3;refine⟨u',r',?_⟩;rcases q with⟨k,e⟩ | ⟨k,c,e,z⟩
    ·refine .inl ⟨k,?_⟩
     have:y≠x:=fun e=>hj (nodup_ix hN e1 (e▸hi))
     simp[this,e]
    ·exact .inr ⟨k,c,e,z.sameBut hs (cne y c e)⟩
  ·obtain⟨w',z⟩:=I.cell y c e
   exact⟨w',z.sameBut hs (cne y c e)⟩
  ·obtain⟨e,n,ne,nf,d⟩:=I.pin p hp
   exact⟨(hs.2 p.1 ne).trans e,n,ne,nf,d⟩
 ·have hfn:X.fn x=true:=by
   rcases hf with z | z
   ·exact z
   ·rw[z] at hk;cases hk
  obtain⟨c,hc⟩:=I.ok.has x (.inl hk);obtain⟨w',z⟩:=I.cell x c hc;refine wpAny_storeName_cell I.ok.kind hk hc z (fun h' hc' hs=>?_);obtain⟨oc,hoc,hocd⟩:=id z;refine h { s with heap:=h' } ⟨I.ok,I.os,I.bare,⟨fun b o e n hb hx=>?_,fun b o e n hb hx=>?_,I.base.free,fun b o e hx=>?_,I.base.tups,I.base.frzs,I.base.tbls⟩,⟨m,hn.sameBut hs (Ne.symm (cne x c hc)),fun j y v' e1 e2 e3=>?_⟩,fun y c' e=>?_,I.free,I.freeC,fun p hp=>?_,tracked ⟨oc,hoc,I.freeC x c hc⟩ hs,by simpa using I.len⟩ ⟨c,hs,.inr hc⟩
  ·exact(hs.2 b (Nat.ne_of_lt (Nat.lt_of_lt_of_le (Heap.lt_size e) (I.ok.cab x c hfn hc)))).trans (I.base.keep b o e n hb hx)
  ·obtain⟨sl,e1⟩:=I.base.slot b o e n hb hx
   exact⟨sl,(hs.2 b (Nat.ne_of_lt (Nat.lt_of_lt_of_le (Heap.lt_size e) (I.ok.cab x c hfn hc)))).trans e1⟩
  ·obtain⟨o',e1⟩:=I.base.there b o e hx
   exact⟨o',(hs.2 b (Nat.ne_of_lt (Nat.lt_of_lt_of_le (Heap.lt_size e) (I.ok.cab x c hfn hc)))).trans e1⟩
  ·by_cases hj:j=i
   ·subst hj
    rw[hi] at e1;cases e1;rw[List.getElem?_set_self hiσ] at e2;cases e2;exact⟨u,r,.inr ⟨.inl hk,c,hc,hc'⟩⟩
   ·rw[List.getElem?_set_ne (Ne.symm hj)] at e2
    obtain⟨u',r',q⟩:=hl j y v' e1 e2 e3;refine⟨u',r',?_⟩;rcases q with q | ⟨k,c',e,z'⟩
    ·exact .inl q
    ·refine .inr ⟨k,c',e,z'.sameBut hs ?_⟩
     rintro rfl;exact hj (nodup_ix hN e1 (I.ok.inj _ _ _ e hc▸hi))
  ·by_cases hcc:c'=c
   ·subst hcc;exact⟨_,hc'⟩
   ·obtain⟨w2,z2⟩:=I.cell y c' e
    exact⟨w2,z2.sameBut hs hcc⟩
  ·obtain⟨e,n,ne,nf,d⟩:=I.pin p hp
   refine⟨(hs.2 p.1 ?_).trans e,n,ne,nf,d⟩;intro q;rw[q,hoc] at e;have q':oc=p.2:=Option.some.inj e;exact d w' (by rw[<-q'];exact hocd)
theorem store_ok {M:Model} {A:Around} {E:Value->Shared->Prop} {i:Nat} {x:Str} {v:V} {u:Value} {Q:Unit->Shared->Prop} (I:Inv X pins σ H s) (hN:X.N.Nodup) (hi:X.N[i]?=some x) (hx:Loc X.env.scope x) (r:RelV v u)
 (h:∀s',Inv X pins (σ.set i (some v)) H s'->Q () s') (hf:X.fn x=true\/X.env.scope.names.lookup x=some .local:=by first | exact .inl rfl | exact .inr rfl | assumption):wpAny M A (storeName X.env x u) Q E s:=
 store_ok2 I hN hi hx r (fun s' I' _=>h s' I') hf
theorem Inv.call' {s':Shared} {ch:List Addr} (I:Inv X pins σ H s) (ho:s'.os=s.os) (u:Un (frs X.stack) ch H H' s.heap s'.heap) (hok:HOk X.prog X.w H' s'.heap) (hg:AllBare s'.gens)
 (hch:∀b∈ch,(b∈X.ex\/X.s₀.heap.objs.size<=b)/\b≠X.env.locals/\(∀x c,X.env.cells.lookup x=some c->c≠b)/\∀p∈X.pn++pins,p.1≠b):Inv X pins σ H' s':=by
 obtain⟨h',g',d',t',o'⟩:=s';have e:o'=s.os:=ho;subst e;exact I.call (g':=g') (t':=t') (d':=d') u hok hg hch
end
noncomputable abbrev XK:=Value->Option Addr->Hp->Prop
noncomputable abbrev St:=List (Option V)
noncomputable abbrev VK:=V->Hp->Prop
noncomputable abbrev TE:=St->Hp->VK->Prop
noncomputable abbrev TT:=St->Hp->(Bool->Hp->Prop)->Prop
noncomputable abbrev TA:=St->Hp->(List V->Hp->Prop)->Prop
structure Ends where
 nx:St->Hp->Prop
 rt:VK
 bk:St->Hp->Prop:=fun _ _=>False
 ct:St->Hp->Prop:=fun _ _=>False
noncomputable abbrev TS:=Ends->St->Hp->Prop
noncomputable def EP (X:Cx) (pins:List (Addr×Obj)) (σ:St) (Q:VK) (u:Value) (s':Shared):Prop:=∃v H',Inv X pins σ H' s'/\RelV v u/\Q v H'
noncomputable def TP (X:Cx) (pins:List (Addr×Obj)) (σ:St) (Q:Bool->Hp->Prop) (b:Bool) (s':Shared):Prop:=∃H',Inv X pins σ H' s'/\Q b H'
noncomputable def AP (X:Cx) (pins:List (Addr×Obj)) (σ:St) (Q:List V->Hp->Prop) (us:List Value) (s':Shared):Prop:=∃vs H',Inv X pins σ H' s'/\Vals vs us/\Q vs H'
set_option tactic.hygienic true in
noncomputable def SP (X:Cx) (pins:List (Addr×Obj)) (D:Ends) (f:Flow) (s':Shared):Prop:=
 match f with
 | .next=>∃σ' H',Inv X pins σ' H' s'/\D.nx σ' H'
 | .brk=>∃σ' H',Inv X pins σ' H' s'/\D.bk σ' H'
 | .cont=>∃σ' H',Inv X pins σ' H' s'/\D.ct σ' H'
 | .ret u=>∃v σ' H',Inv X pins σ' H' s'/\RelV v u/\D.rt v H'
noncomputable def PE (X:Cx) (e:Expr) (t:TE):Prop:=
 ∀(pins:List (Addr×Obj)) (s:Shared) (σ:St) (H:Hp) (Q:VK),Inv X pins σ H s->t σ H Q->wpAny (model X.prog X.w) X.A (eval e X.env) (EP X pins σ Q) X.xe s
noncomputable def PT (X:Cx) (e:Expr) (t:TT):Prop:=
 ∀(pins:List (Addr×Obj)) (s:Shared) (σ:St) (H:Hp) (Q:Bool->Hp->Prop),Inv X pins σ H s->t σ H Q->wpAny (model X.prog X.w) X.A (isTrue e X.env (eval e X.env)) (TP X pins σ Q) X.xe s
noncomputable def PW (X:Cx) (e:Expr) (t:TT):Prop:=
 ∀(whole:Sem Value) (pins:List (Addr×Obj)) (s:Shared) (σ:St) (H:Hp) (Q:Bool->Hp->Prop),Inv X pins σ H s->t σ H Q->wpAny (model X.prog X.w) X.A (isTrue e X.env whole) (TP X pins σ Q) X.xe s
theorem PW.pt {X:Cx} {e:Expr} {t:TT} (h:PW X e t):PT X e t:=h _
noncomputable def PA (X:Cx) (es:List Expr) (t:TA):Prop:=
 ∀(pos:Pos) (pins:List (Addr×Obj)) (s:Shared) (σ:St) (H:Hp) (Q:List V->Hp->Prop),Inv X pins σ H s->t σ H Q->wpAny (model X.prog X.w) X.A (spliced (backTo pos (starEach es X.env))) (AP X pins σ Q) X.xe s
noncomputable def PS (X:Cx) (st:Stmt) (t:TS):Prop:=
 ∀(pins:List (Addr×Obj)) (s:Shared) (σ:St) (H:Hp) (D:Ends),Inv X pins σ H s->t D σ H->wpAny (model X.prog X.w) X.A (exec st X.env) (SP X pins D) X.xe s
noncomputable def PSs (X:Cx) (st:List Stmt) (t:TS):Prop:=
 ∀(pins:List (Addr×Obj)) (s:Shared) (σ:St) (H:Hp) (D:Ends),Inv X pins σ H s->t D σ H->wpAny (model X.prog X.w) X.A (execs st X.env) (SP X pins D) X.xe s
theorem thn {α:Type} {t:Sem α} {Q Q':α->Shared->Prop} {M:Model} {A:Around} {E:Value->Shared->Prop} {s:Shared} (h:wpAny M A t Q E s) (hQ:∀a s,Q a s->Q' a s):wpAny M A t Q' E s:=wpAny_mono h hQ fun _ _ x=>x
end L2
namespace L2
open PySem PySem.Spec PyProof.Rows
section
variable {X:Cx}
noncomputable def tVar (i:Nat):TE:=fun σ H Q=>∃v,σ[i]?=some (some v)/\Q v H
noncomputable def tC (v:V):TE:=fun _ H Q=>Q v H
theorem pe_var {i:Nat} {x:Str} {pos:Pos} (hN:X.N[i]?=some x) (hv:Vis X.env.scope x) (hd:(x == ("__debug__" : Str))=false:=by decide) (hcd:(x == ("__classdict__" : Str))=false:=by decide):PE X (.Name x pos) (tVar i):=by
 intro pins s σ H Q I h;obtain⟨v,e,h⟩:=h;obtain⟨m,hn,hl⟩:=I.loc;obtain⟨u,r,l⟩:=hl i x v hN e hv;have fin:EP X pins σ Q u s:=⟨v,H,I,r,h⟩;rcases l with⟨hk,hm⟩ | ⟨hk,c,hc,hcell⟩
 ·exact wpAny_Name (wpAny_loadName_local I.ok.kind hk hn hm fin) hd
 ·rcases hk with hk | hk
  ·exact wpAny_Name (wpAny_loadName_cell I.ok.kind hk hc hcell fin) hd
  ·exact wpAny_Name (wpAny_loadName_free I.ok.kind hk hc hcell fin hcd) hd
theorem zi4 {i j pos}:PE X (.Constant (.int i) j pos) (tC (.int i)):=fun _ _ _ H _ I h=>wpAny_Constant_int ⟨.int i,H,I.tok _,⟨_,rfl⟩,h⟩
theorem pe_bl {b j pos}:PE X (.Constant (.bool b) j pos) (tC (.bl b)):=fun _ _ _ H _ I h=>Constant_bool ⟨.bl b,H,I,rfl,h⟩
theorem pe_non {j pos}:PE X (.Constant .none j pos) (tC .non):=fun _ _ _ H _ I h=>Constant_none ⟨.non,H,I,rfl,h⟩
theorem zn3 {x j pos}:PE X (.Constant (.str x) j pos) (tC (.str x)):=fun _ _ _ H _ I h=>Calls.Constant_str ⟨.str x,H,I.tok _,⟨_,rfl⟩,h⟩
noncomputable def Gl (X:Cx) (x:Str):Prop:=X.env.kindOf x=some .globalImplicit
theorem ld_glob {E:Value->Shared->Prop} {pins:List (Addr×Obj)} {s:Shared} {σ:St} {H:Hp} {x:Str} {u:Value} {pos:Pos} {Q:Value->Shared->Prop} (I:Inv X pins σ H s) (hg:Gl X x) (hm:X.mg x=some u) (h:Q u s)
 (hd:(x == ("__debug__" : Str))=false:=by decide):wpAny (model X.prog X.w) X.A (eval (.Name x pos) X.env) Q E s:=
 Calls.Name_function_global I.ok.kind hg (Calls.loadGlobal_global (by rw[I.ok.glob];exact I.mod.glob.keeps I.bk) hm h) hd
theorem ld_blt {E:Value->Shared->Prop} {pins:List (Addr×Obj)} {s:Shared} {σ:St} {H:Hp} {x:Str} {u:Value} {pos:Pos} {Q:Value->Shared->Prop} (I:Inv X pins σ H s) (hg:Gl X x) (hm:X.mg x=none) (hv:bootBuiltins x=some u) (h:Q u s)
 (hn:x≠"__name__":=by decide) (hd:(x == ("__debug__" : Str))=false:=by decide):wpAny (model X.prog X.w) X.A (eval (.Name x pos) X.env) Q E s:=by
 obtain⟨mb,h1,h2⟩:=I.mod.blt;exact Calls.Name_function_global I.ok.kind hg (Calls.loadGlobal_builtin (by rw[I.ok.glob];exact I.mod.glob.keeps I.bk) hm (by rw[I.ok.blt];exact h1.keeps I.bk) ((h2 x hn).trans hv) h) hd
theorem pe_glob {x:Str} {v:V} {u:Value} {pos:Pos} (hg:Gl X x) (hm:X.mg x=some u) (r:RelV v u) (hd:(x == ("__debug__" : Str))=false:=by decide):PE X (.Name x pos) (tC v):=
 fun _ _ _ H _ I h=>ld_glob I hg hm ⟨v,H,I,r,h⟩ hd
theorem pe_bltn {x:Str} {v:V} {u:Value} {pos:Pos} (hg:Gl X x) (hm:X.mg x=none) (hv:bootBuiltins x=some u) (r:RelV v u) (hn:x≠"__name__":=by decide) (hd:(x == ("__debug__" : Str))=false:=by decide):PE X (.Name x pos) (tC v):=
 fun _ _ _ H _ I h=>ld_blt I hg hm hv ⟨v,H,I,r,h⟩ hn hd
variable {a b:Expr} {ta tb:TE} {pos:Pos}
noncomputable def PC (X:Cx) (op:CmpOp) (a b:Expr) (t:TE):Prop:=
 ∀(pins:List (Addr×Obj)) (s:Shared) (σ:St) (H:Hp) (Q:VK),Inv X pins σ H s->t σ H Q->
  wpAny (model X.prog X.w) X.A (eval a X.env) (fun v s₁=>wpAny (model X.prog X.w) X.A (eval b X.env) (fun u s₂=>wpAny (model X.prog X.w) X.A (compareOp op v u) (EP X pins σ Q) X.xe s₂) X.xe s₁) X.xe s
theorem nobehind (b:Expr) {op:CmpOp} (h:op≠.In) (h2:op≠.NotIn):behindInMarks op b=false:=by
 have e1:(op == CmpOp.In)=false:=by cases op<;>first | rfl | exact absurd rfl h
 have e2:(op == CmpOp.NotIn)=false:=by cases op<;>first | rfl | exact absurd rfl h2
 cases b<;>simp[behindInMarks,e1,e2]
noncomputable def tIsN (ta:TE):TE:=fun σ H Q=>ta σ H fun x H1=>Q (.bl (decide (x=.non))) H1
theorem RelV.none_iff {x:V} {v:Value} (r:RelV x v):(v == Value.none)=decide (x=.non):=by
 cases x with
 | non=>cases r;rfl
 | bl _=>cases r;rfl
 | int _=>obtain⟨t,rfl⟩:=r;rfl
 | str _=>obtain⟨t,rfl⟩:=r;rfl
 | byt _=>obtain⟨t,rfl⟩:=r;rfl
 | flt _=>obtain⟨t,rfl⟩:=r;rfl
 | ref _=>cases r;rfl
 | ty _=>cases r;rfl
theorem pc_isN {j pos'} (ha:PE X a ta):PC X .Is a (.Constant .none j pos') (tIsN ta):=by
 intro pins s σ H Q I h;refine thn (ha pins s σ H _ I h) fun v s1 hI47=>?_
 obtain⟨x,H1,I1,r1,q1⟩:=hI47;exact Constant_none (is_none_gen ⟨.bl _,H1,I1,by rw[r1.none_iff];rfl,q1⟩)
noncomputable def tB (t:TE):TT:=fun σ H Q=>t σ H fun x H1=>∃c,x=.bl c/\Q c H1
theorem pt_cmp {op:CmpOp} {t:TE} (h:PC X op a b t) (h1:behindInMarks op b=false:=by first | exact nobehind _ (by decide) (by decide) | rfl):PT X (.Compare a [op] [b] pos) (tB t):=by
 intro pins s σ H Q I hw;refine wpAny_isTrue_Compare1 (thn (h pins s σ H _ I hw) fun v s1 h1=>thn h1 fun u s2 h2=>thn h2 fun c s3 hI48=>?_) h1;obtain⟨x,H1,I1,r1,q1⟩:=hI48;obtain⟨d,rfl,q⟩:=q1;cases r1;exact wpAny_truthy_bool ⟨H1,I1,q⟩
theorem pt_val {e:Expr} {t:TE} (h:PE X e t) (he:∀whole,isTrue e X.env whole=(do let v <-whole;standAt e.pos;holding [v] (truthy v)):=by intro _;rfl):PT X e (tB t):=by
 intro pins s σ H Q I hw;refine isTrue_plain (thn (h pins s σ H _ I hw) fun v s1 hI49=>?_) (he _);obtain⟨x,H1,I1,r1,q1⟩:=hI49;obtain⟨d,rfl,q⟩:=q1;cases r1;exact wpAny_truthy_bool ⟨H1,I1,q⟩
variable {tA tB':TT} {rest:List Expr}
noncomputable def tAnd (t u:TT):TT:=fun σ H Q=>t σ H fun c H1=>if c=true then u σ H1 Q else Q false H1
noncomputable def tOr (t u:TT):TT:=fun σ H Q=>t σ H fun c H1=>if c=true then Q true H1 else u σ H1 Q
noncomputable def tNot (t:TT):TT:=fun σ H Q=>t σ H fun c H1=>Q (!c) H1
theorem pw_and1 (ha:PT X a tA):PW X (.BoolOp .And [a] pos) tA:=by
 intro wh pins s σ H Q I h;refine isTrue_and (thn (ha pins s σ H Q I h) fun c s1 e=>?_);cases c with
 | true=>exact isTrue_and_nil e
 | false=>exact e
theorem pw_or1 (ha:PT X a tA):PW X (.BoolOp .Or [a] pos) tA:=by
 intro wh pins s σ H Q I h;refine isTrue_or (thn (ha pins s σ H Q I h) fun c s1 e=>?_);cases c with
 | false=>exact isTrue_or_nil e
 | true=>exact e
theorem pw_and (ha:PT X a tA) (hb:PW X (.BoolOp .And (b::rest) pos) tB'):PW X (.BoolOp .And (a::b::rest) pos) (tAnd tA tB'):=by
 intro wh pins s σ H Q I h;refine isTrue_and (thn (ha pins s σ H _ I h) fun c s1 hI50=>?_);obtain⟨H1,I1,q1⟩:=hI50;cases c with
 | true=>exact hb wh pins s1 σ H1 Q I1 q1
 | false=>exact⟨H1,I1,q1⟩
theorem pw_or (ha:PT X a tA) (hb:PW X (.BoolOp .Or (b::rest) pos) tB'):PW X (.BoolOp .Or (a::b::rest) pos) (tOr tA tB'):=by
 intro wh pins s σ H Q I h;refine isTrue_or (thn (ha pins s σ H _ I h) fun c s1 hI51=>?_);obtain⟨H1,I1,q1⟩:=hI51;cases c with
 | true=>exact⟨H1,I1,q1⟩
 | false=>exact hb wh pins s1 σ H1 Q I1 q1
theorem pt_not (ha:PT X a tA):PT X (.UnaryOp .Not a pos) (tNot tA):=by
 intro pins s σ H Q I h;exact isTrue_not (ha pins s σ H (fun c H1=>Q (!c) H1) I h)
noncomputable def tAndV (ta tb:TE):TE:=fun σ H Q=>ta σ H fun x H1=>∃c,x=.bl c/\if c=true then tb σ H1 Q else Q (.bl false) H1
noncomputable def tOrV (ta tb:TE):TE:=fun σ H Q=>ta σ H fun x H1=>∃c,x=.bl c/\if c=true then Q (.bl true) H1 else tb σ H1 Q
noncomputable def tNotV (ta:TE):TE:=fun σ H Q=>ta σ H fun x H1=>∃c,x=.bl c/\Q (.bl (!c)) H1
theorem pe_one {op} {t:TE} (h:PE X a t):PE X (.BoolOp op [a] pos) t:=fun pins s σ H Q I hw=>BoolOp_one (h pins s σ H Q I hw)
theorem pe_and (ha:PE X a ta) (hb:PE X (.BoolOp .And (b::rest) pos) tb):PE X (.BoolOp .And (a::b::rest) pos) (tAndV ta tb):=by
 intro pins s σ H Q I h;refine BoolOp_and (thn (ha pins s σ H _ I h) fun v s1 hI52=>?_);obtain⟨x,H1,I1,r1,q1⟩:=hI52;obtain⟨c,rfl,q1⟩:=q1;cases r1;refine wpAny_truthy_bool ?_;cases c with
 | true=>exact hb pins s1 σ H1 Q I1 q1
 | false=>exact⟨.bl false,H1,I1,rfl,q1⟩
theorem pe_or (ha:PE X a ta) (hb:PE X (.BoolOp .Or (b::rest) pos) tb):PE X (.BoolOp .Or (a::b::rest) pos) (tOrV ta tb):=by
 intro pins s σ H Q I h;refine BoolOp_or (thn (ha pins s σ H _ I h) fun v s1 hI53=>?_);obtain⟨x,H1,I1,r1,q1⟩:=hI53;obtain⟨c,rfl,q1⟩:=q1;cases r1;refine wpAny_truthy_bool ?_;cases c with
 | false=>exact hb pins s1 σ H1 Q I1 q1
 | true=>exact⟨.bl true,H1,I1,rfl,q1⟩
theorem pe_not (ha:PE X a ta):PE X (.UnaryOp .Not a pos) (tNotV ta):=by
 intro pins s σ H Q I h;refine UnaryOp_ (thn (ha pins s σ H _ I h) fun v s1 hI54=>?_);obtain⟨x,H1,I1,r1,q1⟩:=hI54;obtain⟨c,rfl,q1⟩:=q1;cases r1;exact not_of (wpAny_truthy_bool ⟨.bl (!c),H1,I1,rfl,q1⟩)
noncomputable def tIf (t:TT) (ta tb:TE):TE:=fun σ H Q=>t σ H fun c H1=>if c=true then ta σ H1 Q else tb σ H1 Q
theorem pe_ifExp {c:Expr} (hc:PT X c tA) (ha:PE X a ta) (hb:PE X b tb):PE X (.IfExp c a b pos) (tIf tA ta tb):=by
 intro pins s σ H Q I h;refine wpAny_IfExp (thn (hc pins s σ H _ I h) fun d s1 hI55=>?_);obtain⟨H1,I1,q1⟩:=hI55;cases d with
 | true=>exact ha pins s1 σ H1 Q I1 q1
 | false=>exact hb pins s1 σ H1 Q I1 q1
end
end L2
namespace L2
open PySem PySem.Spec PyProof.Rows
noncomputable def SqL (K:PySem.W.Frag) (H:Hp) (a:Addr) (xs:List V):Prop:=
 Rd H a (.lst xs)\/
  ∃(o:Obj) (its:Array Value) (n:Nat),K.lookup a=some o/\o.cls=.type "list"/\o.dict=none/\o.data=.seq its n/\its.size<=sizeLine/\Vals xs its.toList
noncomputable def SqT (K:PySem.W.Frag) (H:Hp) (a:Addr) (xs:List V):Prop:=
 Rd H a (.tup xs)\/
  ∃(o:Obj) (its:Array Value) (n:Nat),K.lookup a=some o/\o.cls=.type "tuple"/\o.data=.seq its n/\its.size<=sizeLine/\Vals xs its.toList
noncomputable def absV:Value->Option V
 | .none=>some .non
 | .bool b=>some (.bl b)
 | .int i _=>some (.int i)
 | .str x _=>some (.str x)
 | .bytes b _=>some (.byt b)
 | .float b _=>some (.flt b)
 | .ref a=>some (.ref a)
 | .type n=>some (.ty n)
 | _=>none
theorem RelV.abs {x:V} {u:Value} (r:RelV x u):absV u=some x:=by
 cases x with
 | non=>cases r;rfl
 | bl _=>cases r;rfl
 | int _=>obtain⟨t,rfl⟩:=r;rfl
 | str _=>obtain⟨t,rfl⟩:=r;rfl
 | byt _=>obtain⟨t,rfl⟩:=r;rfl
 | flt _=>obtain⟨t,rfl⟩:=r;rfl
 | ref _=>cases r;rfl
 | ty _=>cases r;rfl
theorem RelV.inj {x y:V} {u:Value} (r:RelV x u) (q:RelV y u):x=y:=Option.some.inj (r.abs.symm.trans q.abs)
theorem Vals.inj:∀{xs ys:List V} {us:List Value},Vals xs us->Vals ys us->xs=ys
 | _,_,_,.nil,.nil=>rfl
 | _,_,_,.cons r t,.cons r' t'=>by rw[r.inj r',Vals.inj t t']
section
variable {X:Cx} {pins:List (Addr×Obj)} {σ:St} {H:Hp} {s:Shared} {a:Addr} {xs ys:List V}
theorem SqL.of {K:PySem.W.Frag} (h:H a=some (.lst xs)):SqL K H a xs:=.inl (.inl h)
theorem SqT.of {K:PySem.W.Frag} (h:H a=some (.tup xs)):SqT K H a xs:=.inl (.inl h)
theorem Inv.list (I:Inv X pins σ H s) (h:SqL X.K H a xs):∃its:List Value,Vals xs its/\PlainL s.heap a its.toArray/\xs.length<=sizeLine:=by
 rcases h with h | ⟨o,its,n,hk,hc,hd,hs,hz,r⟩
 ·obtain⟨z,its,n,r,e⟩:=h.ok I.hok
  exact⟨its,r,⟨_,n,e,rfl,rfl,rfl⟩,z⟩
 ·refine⟨its.toList,r,⟨o,n,I.kIn a o hk,hc,hd,by simpa using hs⟩,?_⟩
  have e:=r.length;simp only[Array.length_toList] at e;omega
theorem Inv.tuple (I:Inv X pins σ H s) (h:SqT X.K H a xs):∃its:List Value,Vals xs its/\IsTup s.heap a its.toArray/\xs.length<=sizeLine:=by
 rcases h with h | ⟨o,its,n,hk,hc,hs,hz,r⟩
 ·obtain⟨z,its,r,p⟩:=h.ok I.hok
  exact⟨its,r,p,z⟩
 ·refine⟨its.toList,r,⟨o,I.kIn a o hk,hc,n,by simpa using hs⟩,?_⟩
  have e:=r.length;simp only[Array.length_toList] at e;omega
theorem Inv.list_inj (I:Inv X pins σ H s) (h:SqL X.K H a xs) (h':SqL X.K H a ys):xs=ys:=by
 obtain⟨its,r,⟨o,n,e,_,_,d⟩,_⟩:=I.list h;obtain⟨its',r',⟨o',n',e',_,_,d'⟩,_⟩:=I.list h';rw[e] at e';cases e';rw[d] at d';injection d' with d1 _
 have:its=its':=by simpa using congrArg Array.toList d1
 subst this;exact r.inj r'
theorem Inv.tuple_inj (I:Inv X pins σ H s) (h:SqT X.K H a xs) (h':SqT X.K H a ys):xs=ys:=by
 obtain⟨its,r,⟨o,e,_,n,d⟩,_⟩:=I.tuple h;obtain⟨its',r',⟨o',e',_,n',d'⟩,_⟩:=I.tuple h';rw[e] at e';cases e';rw[d] at d';injection d' with d1 _
 have:its=its':=by simpa using congrArg Array.toList d1
 subst this;exact r.inj r'
end
noncomputable abbrev Cx.wish (X:Cx) (E:Value->Shared->Prop):Cx:={ X with xe:=E }
noncomputable abbrev Cx.nox (X:Cx):Cx:=X.wish fun _ _=>False
theorem Cx.Ok.wish {X:Cx} (ok:X.Ok) (E:Value->Shared->Prop):(X.wish E).Ok:=
 ⟨ok.mod,ok.kind,ok.glob,ok.blt,ok.above,ok.inj,ok.has,ok.cab,ok.hd,ok.frames,ok.stk,ok.exf,ok.bs,ok.bsz,ok.noex,ok.exfs,ok.funs,ok.frf⟩
theorem Cx.Ok.unwish {X:Cx} {E:Value->Shared->Prop} (ok:(X.wish E).Ok):X.Ok:=
 ⟨ok.mod,ok.kind,ok.glob,ok.blt,ok.above,ok.inj,ok.has,ok.cab,ok.hd,ok.frames,ok.stk,ok.exf,ok.bs,ok.bsz,ok.noex,ok.exfs,ok.funs,ok.frf⟩
section
variable {X:Cx} {pins:List (Addr×Obj)} {σ:St} {H:Hp} {s:Shared} {E:Value->Shared->Prop}
theorem Inv.wish (I:Inv X pins σ H s) (E:Value->Shared->Prop):Inv (X.wish E) pins σ H s:=⟨I.ok.wish E,I.os,I.bare,I.base,I.loc,I.cell,I.free,I.freeC,I.pin,I.hok,I.len⟩
theorem Inv.unwish (I:Inv (X.wish E) pins σ H s):Inv X pins σ H s:=⟨I.ok.unwish,I.os,I.bare,I.base,I.loc,I.cell,I.free,I.freeC,I.pin,I.hok,I.len⟩
set_option tactic.hygienic true in
theorem SP.unwish {D:Ends} {f:Flow} {s':Shared} (h:SP (X.wish E) pins D f s'):SP X pins D f s':=by
 cases f with
 | next=>obtain⟨σ',H',I,q⟩:=h;exact⟨σ',H',I.unwish,q⟩
 | brk=>obtain⟨σ',H',I,q⟩:=h;exact⟨σ',H',I.unwish,q⟩
 | cont=>obtain⟨σ',H',I,q⟩:=h;exact⟨σ',H',I.unwish,q⟩
 | ret u=>obtain⟨v,σ',H',I,r,q⟩:=h;exact⟨v,σ',H',I.unwish,r,q⟩
theorem PE.nox {e:Expr} {t:TE} (h:PE X.nox e t):PE X e t:=fun pins s σ H Q I hw=>
 wpAny_mono (h pins s σ H Q (I.wish _) hw) (fun _ _ ⟨v,H',I',r,q⟩=>⟨v,H',I'.unwish,r,q⟩) fun _ _ z=>False.elim z
theorem PT.nox {e:Expr} {t:TT} (h:PT X.nox e t):PT X e t:=fun pins s σ H Q I hw=>
 wpAny_mono (h pins s σ H Q (I.wish _) hw) (fun _ _ ⟨H',I',q⟩=>⟨H',I'.unwish,q⟩) fun _ _ z=>False.elim z
theorem PSs.nox {st:List Stmt} {t:TS} (h:PSs X.nox st t):PSs X st t:=fun pins s σ H D I hw=>
 wpAny_mono (h pins s σ H D (I.wish _) hw) (fun _ _ q=>q.unwish) fun _ _ z=>False.elim z
end
section
variable {X:Cx} {st:Stmt} {rest:List Stmt} {t u:TS} {e:Expr} {te:TE} {pos:Pos}
noncomputable def tNext:TS:=fun D σ H=>D.nx σ H
noncomputable def tSeq (t u:TS):TS:=fun D σ H=>t { D with nx:=u D } σ H
theorem pss_nil:PSs X [] tNext:=fun _ _ σ H _ I h=>wpAny_execs_nil ⟨σ,H,I,h⟩
set_option tactic.hygienic true in
theorem ze7 (h1:PS X st t) (h2:PSs X rest u):PSs X (st::rest) (tSeq t u):=by
 intro pins s σ H D I h;refine wpAny_execs_cons (thn (h1 pins s σ H { D with nx:=u D } I h) fun f s1 q=>?_);cases f with
 | next=>
   obtain⟨σ',H',I',q⟩:=q;exact h2 pins s1 σ' H' D I' q
 | ret v=>exact q
 | brk=>exact q
 | cont=>exact q
set_option tactic.hygienic true in
theorem zm1 (h1:PS X st t):PSs X [st] t:=by
 intro pins s σ H D I h;refine wpAny_execs_cons (thn (h1 pins s σ H D I h) fun f s1 q=>?_);cases f with
 | next=>exact wpAny_execs_nil q
 | ret v=>exact q
 | brk=>exact q
 | cont=>exact q
theorem Inv.quiet {pins:List (Addr×Obj)} {σ:St} {H:Hp} {s:Shared} (I:Inv X pins σ H s):interactive X.env=false:=by simp[interactive,I.ok.kind]
noncomputable def tDrop (te:TE):TS:=fun D σ H=>te σ H fun _ H1=>D.nx σ H1
theorem ps_expr (he:PE X e te) (hs:swapsWith e none pos.line X.env=pure false:=by rfl):PS X (.Expr e pos) (tDrop te):=by
 intro pins s σ H D I h;exact wpAny_Expr_any (thn (he pins s σ H _ I h) fun v s1 ⟨x,H1,I1,r1,q1⟩=>⟨σ,H1,I1,q1⟩) I.quiet hs
noncomputable def tRet (te:TE):TS:=fun D σ H=>te σ H D.rt
theorem ps_ret (he:PE X e te):PS X (.Return (some e) pos) (tRet te):=by
 intro pins s σ H D I h;exact wpAny_Return_some (thn (he pins s σ H _ I h) fun v s1 ⟨x,H1,I1,r1,q1⟩=>⟨x,σ,H1,I1,r1,q1⟩)
noncomputable def tIfS (c:TT) (t u:TS):TS:=fun D σ H=>c σ H fun b H1=>if b=true then t D σ H1 else u D σ H1
theorem ps_if {c:Expr} {a b:List Stmt} {tc:TT} (hc:PT X c tc) (ha:PSs X a t) (hb:PSs X b u):PS X (.If c a b pos) (tIfS tc t u):=by
 intro pins s σ H D I h;refine wpAny_If (thn (hc pins s σ H _ I h) fun d s1 hI56=>?_);obtain⟨H1,I1,q1⟩:=hI56;cases d with
 | true=>exact ha pins s1 σ H1 D I1 q1
 | false=>exact hb pins s1 σ H1 D I1 q1
end
noncomputable abbrev TG:=V->St->Hp->(St->Hp->Prop)->Prop
noncomputable abbrev TGs:=List V->St->Hp->(St->Hp->Prop)->Prop
noncomputable def PG (X:Cx) (target:Expr) (t:TG):Prop:=
 ∀(pins:List (Addr×Obj)) (s:Shared) (σ:St) (H:Hp) (v:V) (u:Value) (Q:St->Hp->Prop),Inv X pins σ H s->RelV v u->t v σ H Q->
  wpAny (model X.prog X.w) X.A (assign target X.env u) (fun _ s'=>∃σ' H',Inv X pins σ' H' s'/\Q σ' H') X.xe s
noncomputable def PGs (X:Cx) (ts:List Expr) (t:TGs):Prop:=
 ∀(pins:List (Addr×Obj)) (s:Shared) (σ:St) (H:Hp) (vs:List V) (us:List Value) (Q:St->Hp->Prop),Inv X pins σ H s->Vals vs us->t vs σ H Q->
  wpAny (model X.prog X.w) X.A (assignInOrder ((assignEach ts X.env).map (·.2)) us) (fun _ s'=>∃σ' H',Inv X pins σ' H' s'/\Q σ' H') X.xe s
noncomputable abbrev TSet:=V->V->V->Hp->(Hp->Prop)->Prop
noncomputable def PSet (X:Cx) (t:TSet):Prop:=
 ∀(pins:List (Addr×Obj)) (s:Shared) (σ:St) (H:Hp) (o i v:V) (ov iv u:Value) (Q:Hp->Prop),Inv X pins σ H s->RelV o ov->RelV i iv->RelV v u->t o i v H Q->
  wpAny (model X.prog X.w) X.A (setItem ov iv u) (fun _ s'=>∃H',Inv X pins σ H' s'/\Q H') X.xe s
noncomputable abbrev TIp:=V->V->Hp->VK->Prop
noncomputable def PIp (X:Cx) (op:Operator) (t:TIp):Prop:=
 ∀(pins:List (Addr×Obj)) (s:Shared) (σ:St) (H:Hp) (x y:V) (v u:Value) (Q:VK),Inv X pins σ H s->RelV x v->RelV y u->t x y H Q->
  wpAny (model X.prog X.w) X.A (inplaceOp op v u) (EP X pins σ Q) X.xe s
section
variable {X:Cx} {pos:Pos}
noncomputable def gName (i:Nat):TG:=fun v σ H Q=>Q (σ.set i (some v)) H
theorem pg_name {i:Nat} {x:Str} (hN:X.N.Nodup) (hi:X.N[i]?=some x) (hx:Loc X.env.scope x) (hf:X.fn x=true\/X.env.scope.names.lookup x=some .local:=by first | exact .inl rfl | exact .inr rfl | assumption):PG X (.Name x pos) (gName i):=by
 intro pins s σ H v u Q I r h;exact wpAny_assign_Name (store_ok I hN hi hx r (fun s' I'=>⟨_,H,I',h⟩) hf)
noncomputable def gNil:TGs:=fun vs σ H Q=>vs=[]/\Q σ H
noncomputable def gCons (t:TG) (u:TGs):TGs:=fun vs σ H Q=>∃v r,vs=v::r/\t v σ H fun σ' H'=>u r σ' H' Q
theorem pgs_nil:PGs X [] gNil:=by
 intro pins s σ H vs us Q I r h;obtain⟨e,h⟩:=h;subst e;cases r;exact assignInOrder_nil ⟨σ,H,I,h⟩
theorem pgs_cons {e:Expr} {es:List Expr} {t:TG} {u:TGs} (h1:PG X e t) (h2:PGs X es u)
 (hs:(assignEach (e::es) X.env).map (·.2)=assign e X.env::(assignEach es X.env).map (·.2):=by rfl):PGs X (e::es) (gCons t u):=by
 intro pins s σ H vs us Q I r h;obtain⟨v,vr,e1,h⟩:=h;subst e1;cases r with
 | cons r rr=>
   rw[hs];refine assignInOrder_cons (thn (h1 pins s σ H _ _ _ I r h) fun _ s1 hI57=>?_);obtain⟨σ1,H1,I1,q1⟩:=hI57;exact h2 pins s1 σ1 H1 _ _ Q I1 rr q1
noncomputable def gTup (K:PySem.W.Frag) (n:Nat) (t:TGs):TG:=fun v σ H Q=>∃a xs,v=.ref a/\SqT K H a xs/\xs.length=n/\t xs σ H Q
theorem pg_tup {es:List Expr} {k:Nat} {t:TGs} {n:Nat} (hc:X.calm=true) (h:PGs X es t)
 (hn:(assignEach es X.env).length=n:=by rfl) (hst:(assignEach es X.env).findIdx? (·.1)=none:=by rfl):PG X (.Tuple es k pos) (gTup X.K n t):=by
 intro pins s σ H v u Q I r hw;obtain⟨a,xs,e1,hq,hl,hw⟩:=hw;subst e1;cases r;obtain⟨its,rv,ht,hz⟩:=I.tuple hq;refine assign_Tuple_tuple (I.ok.hd hc) ht (by simp[hn,<-hl,rv.length]) hst fun h' hx=>?_
 have I1:Inv X pins σ H { s with heap:=h' }:=I.kept (t':=s.toks) fun b o e=>hx b o (Nat.ne_of_lt (Heap.lt_size e)) e
 exact h pins _ σ H xs _ Q I1 (by simpa using rv) hw
noncomputable def gSub (to ti:TE) (t:TSet):TG:=fun v σ H Q=>to σ H fun o H1=>ti σ H1 fun i H2=>t o i v H2 fun H3=>Q σ H3
theorem pg_sub {o i:Expr} {to ti:TE} {t:TSet} (ho:PE X o to) (hi:PE X i ti) (hs:PSet X t)
 (ha:∀v,assign (.Subscript o i pos) X.env v=(do
  let ov <-holding [v] (eval o X.env)
  let iv <-holding [v,ov] (eval i X.env)
  standAt pos
  holding [v,ov,iv] (setItem ov iv v)
  release [v,ov,iv] []):=by intro _;rfl):PG X (.Subscript o i pos) (gSub to ti t):=by
 intro pins s σ H v u Q I r h;rw[ha];refine wpAny_bind (wpAny_holding (thn (ho pins s σ H _ I h) fun ov s1 hI58=>?_));obtain⟨x,H1,I1,r1,q1⟩:=hI58;refine wpAny_bind (wpAny_holding (thn (hi pins s1 σ H1 _ I1 q1) fun iv s2 hI59=>?_));obtain⟨y,H2,I2,r2,q2⟩:=hI59;refine wpAny_bind (wpAny_standAt (wpAny_bind (wpAny_holding (thn (hs pins s2 σ H2 x y v ov iv u _ I2 r1 r2 r q2) fun _ s3 hI60=>?_))));obtain⟨H3,I3,q3⟩:=hI60;exact wpAny_release ⟨σ,H3,I3,q3⟩
noncomputable def tAsg (te:TE) (g:TG):TS:=fun D σ H=>te σ H fun x H1=>g x σ H1 D.nx
theorem ps_asg {tg e:Expr} {te:TE} {g:TG} (he:PE X e te) (hg:PG X tg g) (hs:swapsWithSole [tg] e pos.line X.env=pure false:=by rfl) (hw:swappedStores [tg] e X.env=pure none:=by rfl)
 (h1:(assignEach [tg] X.env).map (·.2)=[assign tg X.env]:=by rfl):PS X (.Assign [tg] e pos) (tAsg te g):=by
 intro pins s σ H D I h;refine wpAny_Assign_stores (thn (he pins s σ H _ I h) fun v s1 hI61=>?_) hs hw;obtain⟨x,H1,I1,r1,q1⟩:=hI61;rw[h1];exact thn (hg pins s1 σ H1 x v _ I1 r1 q1) fun _ s2 q=>q
theorem zn2 {i:Nat} {x:Str} {e:Expr} {te:TE} {pos':Pos} (hN:X.N.Nodup) (hi:X.N[i]?=some x) (hx:Loc X.env.scope x) (he:PE X e te) (hs:swapsWith e (some (.Name x pos')) pos.line X.env=pure false:=by rfl) (hf:X.fn x=true\/X.env.scope.names.lookup x=some .local:=by first | exact .inl rfl | exact .inr rfl | assumption) :
 PS X (.Assign [.Name x pos'] e pos) (tAsg te (gName i)):=by
 intro pins s σ H D I h;refine wpAny_Assign_Name (thn (he pins s σ H _ I h) fun v s1 hI62=>?_) hs;obtain⟨y,H1,I1,r1,q1⟩:=hI62;exact store_ok I1 hN hi hx r1 (fun s2 I2=>⟨_,H1,I2,q1⟩) hf
noncomputable def tAug (i:Nat) (te:TE) (ti:TIp):TS:=fun D σ H=>∃x,σ[i]?=some (some x)/\te σ H fun y H1=>ti x y H1 fun z H2=>D.nx (σ.set i (some z)) H2
theorem ps_aug {i:Nat} {x:Str} {e:Expr} {te:TE} {op:Operator} {ti:TIp} {pos':Pos} (hN:X.N.Nodup) (hi:X.N[i]?=some x) (hx:Loc X.env.scope x) (he:PE X e te) (ho:PIp X op ti) (hf:X.fn x=true\/X.env.scope.names.lookup x=some .local:=by first | exact .inl rfl | exact .inr rfl | assumption) :
 PS X (.AugAssign (.Name x pos') op e pos) (tAug i te ti):=by
 intro pins s σ H D I h;obtain⟨v,e1,h⟩:=h;obtain⟨m,hn,hl⟩:=I.loc;have vis:Vis X.env.scope x:=by rcases hx with k | k;exact .inl k;exact .inr (.inl k)
 obtain⟨u,r,l⟩:=hl i x v hi e1 vis;refine wpAny_AugAssign_Name ?_;have go:wpAny (model X.prog X.w) X.A (eval e X.env) (fun w s₂=>wpAny (model X.prog X.w) X.A (inplaceOp op u w) (fun r s₃=>wpAny (model X.prog X.w) X.A (storeName X.env x r) (fun _=>SP X pins D .next) X.xe s₃) X.xe s₂) X.xe s:=by
  refine thn (he pins s σ H _ I h) fun w s1 hI63=>?_
  obtain⟨y,H1,I1,r1,q1⟩:=hI63;refine thn (ho pins s1 σ H1 v y u w _ I1 r r1 q1) fun z s2 hI64=>?_
  obtain⟨zv,H2,I2,r2,q2⟩:=hI64;exact store_ok I2 hN hi hx r2 (fun s3 I3=>⟨_,H2,I3,q2⟩) hf
 rcases l with⟨hk,hm⟩ | ⟨hk,c,hc,hcell⟩
 ·exact wpAny_loadName_local I.ok.kind hk hn hm go
 ·rcases hk with hk | hk
  ·exact wpAny_loadName_cell I.ok.kind hk hc hcell go
  ·rcases hx with k | k
   ·have:X.env.scope.names.lookup x=some .free:=hk
    rw[k] at this;cases this
   ·have:X.env.scope.names.lookup x=some .free:=hk
    rw[k] at this;cases this
noncomputable def ipI (f:Int->Int->Int):TIp:=fun x y H Q=>∃i j,x=.int i/\y=.int j/\Q (.int (f i j)) H
theorem ip_add:PIp X .Add (ipI fun i j=>i+j):=by
 intro pins s σ H x y v u Q I r1 r2 h;obtain⟨i,j,e1,e2,q⟩:=h;subst e1;subst e2;obtain⟨t,rfl⟩:=r1;obtain⟨t',rfl⟩:=r2;exact iadd_int ⟨.int _,H,I.tok _,⟨_,rfl⟩,q⟩
end
section
variable {X:Cx} {pos:Pos}
noncomputable def tWhile (c:TT) (tb:TS):TS:=fun D σ H=>∃W:Nat->St->Hp->Prop,(∃m,W m σ H)/\∀m σ H,W m σ H->
 c σ H fun b H1=>if b=true then ∃N:St->Hp->Prop,(∀σ' H',N σ' H'->∃m',m' < m/\W m' σ' H')/\tb { D with nx:=N,ct:=N,bk:=D.nx } σ H1 else D.nx σ H1
set_option tactic.hygienic true in
theorem ps_while {c:Expr} {body:List Stmt} {tc:TT} {tb:TS} (hp:PassesOwn (model X.prog X.w) X.A X.env X.xe) (hc:PT X c tc) (hb:PSs X body tb):PS X (.While c body [] pos) (tWhile tc tb):=by
 intro pins s σ H D I h;obtain⟨W,⟨m0,w0⟩,turn⟩:=h;refine wpAny_While (codeAny_whileLoop (fun n s'=>∃σ' H',Inv X pins σ' H' s'/\W n σ' H') ?_ m0 ⟨σ,H,I,w0⟩);rintro n s1 ⟨σ1,H1,I1,w1⟩;refine wpAny_passesOwn hp (thn (hc pins s1 σ1 H1 _ I1 (turn n σ1 H1 w1)) fun b s2 hI65=>?_);obtain⟨H2,I2,q2⟩:=hI65;cases b with
 | true=>
   obtain⟨N,hN,q2⟩:=q2;rw[if_pos rfl];refine wpAny_passesOwn hp (thn (hb pins s2 σ1 H2 _ I2 q2) fun f s3 q3=>?_);cases f with
   | next=>
     obtain⟨σ3,H3,I3,n3⟩:=q3;obtain⟨m',hm,w3⟩:=hN σ3 H3 n3;exact⟨m',hm,σ3,H3,I3,w3⟩
   | cont=>
     obtain⟨σ3,H3,I3,n3⟩:=q3;obtain⟨m',hm,w3⟩:=hN σ3 H3 n3;exact⟨m',hm,σ3,H3,I3,w3⟩
   | brk=>exact q3
   | ret v=>exact q3
 | false=>
   rw[if_neg Bool.false_ne_true];exact wpAny_execs_nil ⟨σ1,H2,I2,q2⟩
end
structure It where
 go:Nat->Hp->Prop
 yld:Nat->Hp->V->Hp->Prop
 stop:Nat->Hp->Prop
noncomputable def FpOk (X:Cx) (pins:List (Addr×Obj)) (H:Hp) (b:Addr):Prop:=
 H b=none/\b≠X.env.locals/\b∉X.fs/\(b∈X.ex\/X.s₀.heap.objs.size<=b)/\(∀x c,X.env.cells.lookup x=some c->c≠b)/\∀p∈X.pn++pins,p.1≠b
theorem Inv.fpOk {X:Cx} {pins:List (Addr×Obj)} {σ:St} {H H':Hp} {s:Shared} {b:Addr} (I:Inv X pins σ H s) (hb:s.heap.objs.size<=b) (hn:H' b=none):FpOk X pins H' b:=by
 refine⟨hn,Nat.ne_of_gt (Nat.lt_of_lt_of_le I.lt hb),I.nofs hb,.inr (Nat.le_trans I.sz hb),fun x c e z=>?_,fun p hp z=>?_⟩
 ·obtain⟨v,q⟩:=I.cell x c e
  exact absurd (Nat.lt_of_lt_of_le q.lt (by rw[z];exact hb)) (Nat.lt_irrefl _)
 ·exact absurd (Nat.lt_of_lt_of_le (Heap.lt_size (I.pin p hp).1) (by rw[z];exact hb)) (Nat.lt_irrefl _)
structure Turn (P:Program) (w:World) (K:PySem.W.Frag) (tg:Expr) (J:It) (fp:List Addr) (it:Addr) (tn:Nat->Heap->Prop):Prop where
 mem:it∈fp
 obj:∀i h,tn i h->∀b∈fp,∃o,h.get? b=some o/\∀v,o.data≠.cell v
 keep:∀i h h',tn i h->(∀b∈fp,∀o,h.get? b=some o->h'.get? b=some o)->tn i h'
 item:∀(X:Cx),X.prog=P->X.w=w->X.K=K->X.calm=true->∀(i:Nat) (pins:List (Addr×Obj)) (s:Shared) (σ:St) (H:Hp) (E:Value->Shared->Prop),Inv X pins σ H s->(∀b∈fp,FpOk X pins H b)->tn i s.heap->J.go i H->
  wpAny (model P w) X.A (pyNext (.ref it)) (fun r s1=>∃u,r=some u/\
   wpAny (model P w) X.A (letOwnedTupleGo tg (.ref it) u) (fun _ s2=>∃x H',Inv X pins σ H' s2/\RelV x u/\J.yld i H x H'/\tn (i+1) s2.heap/\∀b∈fp,H' b=none) E s1) E s
 done:∀(X:Cx),X.prog=P->X.w=w->X.K=K->X.calm=true->∀(i:Nat) (pins:List (Addr×Obj)) (s:Shared) (σ:St) (H:Hp) (E:Value->Shared->Prop),Inv X pins σ H s->(∀b∈fp,FpOk X pins H b)->tn i s.heap->J.stop i H->
  wpAny (model P w) X.A (pyNext (.ref it)) (fun r s1=>r=none/\Inv X pins σ H s1) E s
 self:∀(A:Around) (i:Nat) (s:Shared) (Q:Value->Shared->Prop) (E:Value->Shared->Prop),tn i s.heap->Q (.ref it) s->wpAny (model P w) A (pyIter (.ref it)) Q E s
noncomputable abbrev TI:=St->Hp->(It->Hp->Prop)->Prop
noncomputable def PIE (X:Cx) (pins:List (Addr×Obj)) (σ:St) (tg:Expr) (R:It->Hp->Prop) (itv:Value) (s2:Shared):Prop:=
 ∃(it:Addr) (fp:List Addr) (tn:Nat->Heap->Prop) (J:It) (H':Hp),itv=.ref it/\Inv X pins σ H' s2/\Turn X.prog X.w X.K tg J fp it tn/\tn 0 s2.heap/\(∀b∈fp,FpOk X pins H' b)/\R J H'
noncomputable def PI (X:Cx) (tg iter:Expr) (wi:TI):Prop:=
 ∀(pins:List (Addr×Obj)) (s:Shared) (σ:St) (H:Hp) (R:It->Hp->Prop),Inv X pins σ H s->wi σ H R->
  wpAny (model X.prog X.w) X.A (eval iter X.env) (fun v s1=>wpAny (model X.prog X.w) X.A (pyIter v) (PIE X pins σ tg R) X.xe s1) X.xe s
theorem go_of {M:Model} {A:Around} {E:Value->Shared->Prop} {s:Shared} {tg:Expr} {it:Addr} {u:Value} {o:Obj} {n:String} {vs:Array Value} {Q:Unit->Shared->Prop} (ho:s.heap.get? it=some o) (hc:o.cls=.type n) (hd:o.data=.fields vs)
 (hn:["enumerate","zip","dict_itemiterator","dict_reverseitemiterator","odict_iterator","itertools.zip_longest","itertools.pairwise"].contains n=false) (hQ:Q () s):wpAny M A (letOwnedTupleGo tg (.ref it) u) Q E s:=by
 unfold letOwnedTupleGo;cases tg<;>first
  | exact wpAny_pure hQ
  | (cases u<;>first
   | exact wpAny_pure hQ
   | (refine wpAny_bind (wpAny_load ho ?_)
      rw[hc,hd];show wpAny M A (if (["enumerate","zip","dict_itemiterator","dict_reverseitemiterator","odict_iterator","itertools.zip_longest","itertools.pairwise"].contains n&&vs[0]? == some (rawInt _))=true then _ else _) Q E s;rw[if_neg (by intro h;rw[hn,Bool.false_and] at h;cases h)];exact wpAny_pure hQ))
noncomputable def Itl (K:PySem.W.Frag) (a:Addr):It:=
 ⟨fun i H=>∃xs x,SqL K H a xs/\xs[i]?=some x,fun i H x H'=>H'=H/\∀xs,SqL K H a xs->xs[i]?=some x,fun i H=>∃xs,SqL K H a xs/\xs.length<=i⟩
noncomputable def Itt (K:PySem.W.Frag) (a:Addr):It:=
 ⟨fun i H=>∃xs x,SqT K H a xs/\xs[i]?=some x,fun i H x H'=>H'=H/\∀xs,SqT K H a xs->xs[i]?=some x,fun i H=>∃xs,SqT K H a xs/\xs.length<=i⟩
noncomputable def Itr (lo:Int) (n:Nat):It:=⟨fun i _=>i<n,fun i H x H'=>H'=H/\x=.int (lo+i),fun i _=>n<=i⟩
theorem turn_list {P:Program} {w:World} {K:PySem.W.Frag} {tg:Expr} (a it:Addr):Turn P w K tg (Itl K a) [it] it (fun i h=>h.IsListIter it a i) where
 mem:=by simp
 obj:=fun i h st b hb=>by
  have e:b=it:=by simpa using hb
  subst e;obtain⟨o,e,c,d⟩:=st;exact⟨o,e,fun v z=>by rw[d] at z;cases z⟩
 keep:=fun i h h' st k=>st.at fun o e=>k it (by simp) o e
 item:=by
  intro X hP hw hK hc i pins s σ H E I hf st hg;subst hP hw hK;obtain⟨xs,x,hq,hx⟩:=hg;obtain⟨its,rv,p,hz⟩:=I.list hq;obtain⟨u,hu,ru⟩:=rv.get hx;obtain⟨f0,f1,f2,f3,f4,f5⟩:=hf it (by simp);refine wpAny_pyNext_list_item st p.isList (x:=u) (by simpa using hu) fun h' st' sb=>?_
  have I1:Inv X pins σ H { s with heap:=h' }:=I.turned (t':=s.toks) (fun b o hb e=>(sb.2 b hb).trans e) f0 f1 f3 f4 f5;obtain⟨o,e,c,d⟩:=id st';exact⟨u,rfl,go_of (s:={ s with heap:=h' }) e c d (by decide) ⟨x,H,I1,ru,⟨rfl,fun ys hy=>by rw[I.list_inj hy hq];exact hx⟩,st',fun b hb=>(hf b hb).1⟩⟩
 done:=by
  intro X hP hw hK hc i pins s σ H E I hf st hg;subst hP hw hK;obtain⟨xs,hq,hx⟩:=hg;obtain⟨its,rv,p,hz⟩:=I.list hq;obtain⟨f0,f1,f2,f3,f4,f5⟩:=hf it (by simp);have hl:=rv.length;exact wpAny_pyNext_list_end (I.ok.hd hc) st p.isList (by simp;omega) fun h' eb=>⟨rfl,I.turned (t':=s.toks) (fun b o hb e=>eb b o hb e) f0 f1 f3 f4 f5⟩
 self:=fun _ _ _ _ _ st h=>wpAny_pyIter_listiter st h
theorem turn_tuple {P:Program} {w:World} {K:PySem.W.Frag} {tg:Expr} (a it:Addr):Turn P w K tg (Itt K a) [it] it (fun i h=>h.IsTupleIter it a i) where
 mem:=by simp
 obj:=fun i h st b hb=>by
  have e:b=it:=by simpa using hb
  subst e;obtain⟨o,e,c,d⟩:=st;exact⟨o,e,fun v z=>by rw[d] at z;cases z⟩
 keep:=fun i h h' st k=>st.at fun o e=>k it (by simp) o e
 item:=by
  intro X hP hw hK hc i pins s σ H E I hf st hg;subst hP hw hK;obtain⟨xs,x,hq,hx⟩:=hg;obtain⟨its,rv,p,hz⟩:=I.tuple hq;obtain⟨u,hu,ru⟩:=rv.get hx;obtain⟨f0,f1,f2,f3,f4,f5⟩:=hf it (by simp);refine wpAny_pyNext_tuple_item st (show s.heap.IsTuple a its.toArray from p) (x:=u) (by simpa using hu) fun h' st' sb=>?_
  have I1:Inv X pins σ H { s with heap:=h' }:=I.turned (t':=s.toks) (fun b o hb e=>(sb.2 b hb).trans e) f0 f1 f3 f4 f5;obtain⟨o,e,c,d⟩:=id st';exact⟨u,rfl,go_of (s:={ s with heap:=h' }) e c d (by decide) ⟨x,H,I1,ru,⟨rfl,fun ys hy=>by rw[I.tuple_inj hy hq];exact hx⟩,st',fun b hb=>(hf b hb).1⟩⟩
 done:=by
  intro X hP hw hK hc i pins s σ H E I hf st hg;subst hP hw hK;obtain⟨xs,hq,hx⟩:=hg;obtain⟨its,rv,p,hz⟩:=I.tuple hq;obtain⟨f0,f1,f2,f3,f4,f5⟩:=hf it (by simp);have hl:=rv.length;exact wpAny_pyNext_tuple_end (I.ok.hd hc) st (show s.heap.IsTuple a its.toArray from p) (by simp;omega) fun h' eb=>⟨rfl,I.turned (t':=s.toks) (fun b o hb e=>eb b o hb e) f0 f1 f3 f4 f5⟩
 self:=fun _ _ _ _ _ st h=>wpAny_pyIter_tupleiter st h
theorem turn_range {P:Program} {w:World} {K:PySem.W.Frag} {tg:Expr} (it:Addr) (lo:Int) (n:Nat):Turn P w K tg (Itr lo n) [it] it (fun i h=>IsRangeIter h it (lo+(i:Nat)*1) ((n:Int)-(i:Nat)) 1) where
 mem:=by simp
 obj:=fun i h st b hb=>by
  have e:b=it:=by simpa using hb
  subst e;exact⟨_,st,fun v z=>by
   have z':Data.fields _=Data.cell v:=z;cases z'⟩
 keep:=fun i h h' st k=>k it (by simp) _ st
 item:=by
  intro X hP hw hK hc i pins s σ H E I hf st hg;subst hP hw hK;obtain⟨f0,f1,f2,f3,f4,f5⟩:=hf it (by simp);have W:=Walks.range (prog:=X.prog) (w:=X.w) (I.ok.hd hc) it lo 1 n;refine W.item i s _ _ hg st fun v h' tk hv st' kk=>?_
  obtain⟨t,rfl⟩:=hv;have I1:Inv X pins σ H { s with heap:=h',toks:=tk }:=I.turned (fun b o hb e=>kk b o (by simpa using hb) e) f0 f1 f3 f4 f5;refine⟨_,rfl,go_of (s:={ s with heap:=h',toks:=tk }) (n:="range_iterator") st' rfl rfl (by decide) ⟨.int (lo+i),H,I1,⟨t,?_⟩,⟨rfl,rfl⟩,st',fun b hb=>(hf b hb).1⟩⟩;rw[Int.mul_one]
 done:=by
  intro X hP hw hK hc i pins s σ H E I hf st hg;subst hP hw hK;obtain⟨f0,f1,f2,f3,f4,f5⟩:=hf it (by simp);exact wpAny_pyNext_range_end (I.ok.hd hc) st (by have:n<=i:=hg;omega) fun h' eb=>⟨rfl,I.turned (t':=s.toks) (fun b o hb e=>eb b o hb e) f0 f1 f3 f4 f5⟩
 self:=fun _ _ _ _ _ st h=>wpAny_pyIter_rangeiter st h
end L2
namespace L2
open PySem PySem.Spec PyProof.Rows
section
variable {X:Cx} {tg:Expr}
noncomputable def iList (K:PySem.W.Frag) (tl:TE):TI:=fun σ H R=>tl σ H fun x H1=>∃a,x=.ref a/\(∃xs,SqL K H1 a xs)/\R (Itl K a) H1
noncomputable def iTup (K:PySem.W.Frag) (tl:TE):TI:=fun σ H R=>tl σ H fun x H1=>∃a,x=.ref a/\(∃xs,SqT K H1 a xs)/\R (Itt K a) H1
theorem pi_list {l:Expr} {tl:TE} (hl:PE X l tl):PI X tg l (iList X.K tl):=by
 intro pins s σ H R I h;refine thn (hl pins s σ H _ I h) fun v s1 hI66=>?_
 obtain⟨x,H1,I1,r1,q1⟩:=hI66;obtain⟨a,e,⟨xs,hq⟩,q⟩:=q1;subst e;cases r1;obtain⟨its,rv,p,hz⟩:=I1.list hq;refine wpAny_pyIter_list p.isList ?_;refine⟨s1.heap.objs.size,[s1.heap.objs.size],_,_,H1,rfl,I1.kept (t':=s1.toks) fun b o e=>Heap.get?_push_of_some _ e,turn_list a _,⟨_,Heap.get?_push_size _ rfl,rfl,rfl⟩,fun b hb=>?_,q⟩;have e:b=s1.heap.objs.size:=by simpa using hb
 subst e;exact I1.fpOk (Nat.le_refl _) (I1.hok.fresh (Nat.le_refl _))
theorem pi_tup {l:Expr} {tl:TE} (hl:PE X l tl):PI X tg l (iTup X.K tl):=by
 intro pins s σ H R I h;refine thn (hl pins s σ H _ I h) fun v s1 hI67=>?_
 obtain⟨x,H1,I1,r1,q1⟩:=hI67;obtain⟨a,e,⟨xs,hq⟩,q⟩:=q1;subst e;cases r1;obtain⟨its,rv,p,hz⟩:=I1.tuple hq;refine wpAny_pyIter_tuple (show s1.heap.IsTuple a its.toArray from p) ?_;refine⟨s1.heap.objs.size,[s1.heap.objs.size],_,_,H1,rfl,I1.kept (t':=s1.toks) fun b o e=>Heap.get?_push_of_some _ e,turn_tuple a _,⟨_,Heap.get?_push_size _ rfl,rfl,rfl⟩,fun b hb=>?_,q⟩;have e:b=s1.heap.objs.size:=by simpa using hb
 subst e;exact I1.fpOk (Nat.le_refl _) (I1.hok.fresh (Nat.le_refl _))
theorem range_it {pins:List (Addr×Obj)} {σ:St} {H:Hp} {s:Shared} {R:It->Hp->Prop} {E:Value->Shared->Prop} {lo hi:Int} {t u v:Tok} {tk:Nat} (I:Inv X pins σ H s) (h1:-(2 ^ 62)<=lo) (h2:lo<2 ^ 62) (h3:-(2 ^ 62)<=hi) (h4:hi<2 ^ 62)
 (q:R (Itr lo (hi-lo).toNat) H):wpAny (model X.prog X.w) X.A (pyIter (.ref s.heap.objs.size)) (PIE X pins σ tg R) E { s with heap:=s.heap.push { cls:=.type "range",data:=.fields #[.int lo t,.int hi u,.int 1 v] },toks:=tk }:=by
 refine wpAny_pyIter_range (IsRange.new ..) (small_one h1 h2 h3 h4) ?_;have I1:Inv X pins σ H { s with heap:=s.heap.push { cls:=.type "range",data:=.fields #[.int lo t,.int hi u,.int 1 v] },toks:=tk }:=I.kept fun b o e=>Heap.get?_push_of_some _ e
 refine⟨(s.heap.push { cls:=.type "range",data:=.fields #[.int lo t,.int hi u,.int 1 v] }).objs.size,[(s.heap.push { cls:=.type "range",data:=.fields #[.int lo t,.int hi u,.int 1 v] }).objs.size],_,_,H,rfl,I1.kept (t':=tk) fun b o e=>Heap.get?_push_of_some _ e,turn_range _ lo (hi-lo).toNat,?_,fun b hb=>?_,q⟩
 ·have e1:lo+((0:Nat):Int)*1=lo:=by simp
  have e2:(((hi-lo).toNat:Nat):Int)-((0:Nat):Int)=Builtin.Range.rangeSize lo hi 1:=by rw[rangeSize_one];split<;>omega
  show IsRangeIter _ _ (lo+((0:Nat):Int)*1) ((((hi-lo).toNat:Nat):Int)-((0:Nat):Int)) 1;rw[e1,e2];exact Heap.get?_push_size _ rfl
 ·have e:b=(s.heap.push { cls:=.type "range",data:=.fields #[.int lo t,.int hi u,.int 1 v] }).objs.size:=by simpa using hb
  subst e;exact I1.fpOk (Nat.le_refl _) (I1.hok.fresh (Nat.le_refl _))
noncomputable def iRng1 (ta:TA):TI:=fun σ H R=>ta σ H fun vs H1=>∃j:Int,vs=[.int j]/\-(2 ^ 62)<=j/\j<2 ^ 62/\R (Itr 0 j.toNat) H1
theorem pi_range1 {a:Expr} {ta:TA} {p pos:Pos} (hg:Gl X "range") (hm:X.mg "range" = none) (ha:PA X [a] ta) (hs:starEach [a] X.env=[(false,eval a X.env)]:=by rfl):PI X tg (.Call (.Name "range" p) [a] [] pos) (iRng1 ta):=by
 intro pins s σ H R I h;refine Call_ (ld_blt I hg hm boot_range (PyProof.Rows.callWith_type1 (thn (ha pos pins s σ H _ I h) fun us s1 hI68=>?_) hs rfl));obtain⟨vs,H1,I1,r1,q1⟩:=hI68;obtain⟨j,e,q1,q2,q⟩:=q1;subst e;cases r1 with
 | cons r rr=>
   cases rr;obtain⟨t,rfl⟩:=r;exact call_range_1 (range_it I1 (by omega) (by omega) q1 q2 (by simpa using q))
noncomputable def tFor (wi:TI) (g:TG) (tb:TS):TS:=fun D σ H=>wi σ H fun J H1=>∃W:Nat->Nat->St->Hp->Prop,(∃m,W 0 m σ H1)/\∀i m σ H,W i m σ H->
 (J.stop i H/\D.nx σ H)\/(J.go i H/\∃N:St->Hp->Prop,(∀σ' H',N σ' H'->∃m',m' < m/\W (i+1) m' σ' H')/\∀x H',J.yld i H x H'->g x σ H' fun σ2 H2=>tb { D with nx:=N,ct:=N,bk:=D.nx } σ2 H2)
noncomputable def pinsAt (fp:List Addr) (h:Heap):List (Addr×Obj):=fp.filterMap fun b=>(h.get? b).map fun o=>(b,o)
theorem mem_pinsAt {fp:List Addr} {h:Heap} {b:Addr} {o:Obj} (hb:b∈fp) (e:h.get? b=some o):(b,o)∈pinsAt fp h:=List.mem_filterMap.mpr ⟨b,hb,by rw[e];rfl⟩
theorem of_pinsAt {fp:List Addr} {h:Heap} {p:Addr×Obj} (hp:p∈pinsAt fp h):p.1∈fp/\h.get? p.1=some p.2:=by
 obtain⟨b,hb,e⟩:=List.mem_filterMap.mp hp;cases q:h.get? b with
 | none=>rw[q] at e;cases e
 | some o=>
   rw[q] at e;have e':(b,o)=p:=Option.some.inj e;subst e';exact⟨hb,q⟩
theorem Inv.pinned {pins:List (Addr×Obj)} {σ:St} {H:Hp} {s:Shared} {fp:List Addr} (I:Inv X pins σ H s) (hf:∀b∈fp,FpOk X pins H b) (ho:∀b∈fp,∃o,s.heap.get? b=some o/\∀v,o.data≠.cell v):Inv X (pins++pinsAt fp s.heap) σ H s:=
 I.pins_of fun p hp=>(List.mem_append.mp hp).elim (fun z=>I.pin p (List.mem_append_right _ z)) fun z=>by
  obtain⟨hb,e⟩:=of_pinsAt z;obtain⟨f0,f1,f2,_⟩:=hf p.1 hb;obtain⟨o,e',d⟩:=ho p.1 hb;rw[e] at e';cases e';exact⟨e,f0,f1,f2,d⟩
theorem Inv.unpinned {pins pl:List (Addr×Obj)} {σ:St} {H:Hp} {s:Shared} (I:Inv X (pins++pl) σ H s):Inv X pins σ H s:=I.pins_of fun p hp=>I.pin p (List.mem_append_right _ (List.mem_append_left _ hp))
set_option tactic.hygienic true in
theorem ps_for {iter:Expr} {body:List Stmt} {wi:TI} {g:TG} {tb:TS} {pos:Pos} (hp:PassesOwn (model X.prog X.w) X.A X.env X.xe) (hc:X.calm=true) (hi:PI X tg iter wi) (hg:PG X tg g) (hb:PSs X body tb)
 (hs:∀x,foldedSetIterable iter X.env x=pure x:=by intro _;rfl):PS X (.For tg iter body [] pos) (tFor wi g tb):=by
 intro pins s σ H D I h;refine wpAny_For (thn (hi pins s σ H _ I h) fun v s1 h1=>thn h1 fun itv s2 h2=>?_) hs;obtain⟨it,fp,tn,J,H2,e,I2,T,st2,f2,W,⟨m0,w0⟩,turn⟩:=h2;subst e
 -- what stays true of the iterator's objects through the loop
 have stat:∀{H':Hp},(∀b∈fp,H' b=none)->∀b∈fp,FpOk X pins H' b:=fun hn b hb=>⟨hn b hb,(f2 b hb).2⟩
 refine codeAny_forLoop_any (fun n s'=>∃i σ' H',Inv X pins σ' H' s'/\tn i s'.heap/\(∀b∈fp,H' b=none)/\W i n σ' H') ?_ m0 ⟨0,σ,H2,I2,st2,fun b hb=>(f2 b hb).1,w0⟩;rintro n s3 ⟨i,σ3,H3,I3,st3,fr3,w3⟩;rcases turn i n σ3 H3 w3 with⟨stop,qn⟩ | ⟨go,N,hN,step⟩
 ·refine wpAny_passesOwn hp (thn (T.done X rfl rfl rfl hc i pins s3 σ3 H3 X.xe I3 (stat fr3) st3 stop) fun r s4 hI69=>?_)
  obtain⟨hr,I4⟩:=hI69;subst hr;exact wpAny_execs_nil ⟨σ3,H3,I4,qn⟩
 ·refine wpAny_passesOwn hp (thn (T.item X rfl rfl rfl hc i pins s3 σ3 H3 X.xe I3 (stat fr3) st3 go) fun r s4 hI70=>?_)
  obtain⟨u,hr,h4⟩:=hI70;subst hr;refine wpAny_passesOwn hp (thn h4 fun _ s5 hI71=>?_);obtain⟨x,H5,I5,r5,y5,st5,fr5⟩:=hI71;have I5':=I5.pinned (stat fr5) (T.obj _ _ st5);refine wpAny_passesOwn hp (thn (hg _ s5 σ3 H5 x u _ I5' r5 (step x H5 y5)) fun _ s6 hI72=>?_);obtain⟨σ6,H6,I6,q6⟩:=hI72;refine wpAny_passesOwn hp (thn (hb _ s6 σ6 H6 _ I6 q6) fun f s7 q7=>?_);have again:∀{σ7:St} {H7:Hp},Inv X (pins++pinsAt fp s5.heap) σ7 H7 s7->N σ7 H7->∃m,m<n/\∃i σ' H',Inv X pins σ' H' s7/\tn i s7.heap/\(∀b∈fp,H' b=none)/\W i m σ' H':=fun {σ7 H7} I7 n7=>by
   obtain⟨m',hm,w7⟩:=hN σ7 H7 n7;refine⟨m',hm,i+1,σ7,H7,I7.unpinned,T.keep _ _ _ st5 fun b hb o e=>(I7.pin (b,o) (List.mem_append_right _ (List.mem_append_right _ (mem_pinsAt hb e)))).1,fun b hb=>?_,w7⟩;obtain⟨o,e,d⟩:=T.obj _ _ st5 b hb;exact(I7.pin (b,o) (List.mem_append_right _ (List.mem_append_right _ (mem_pinsAt hb e)))).2.1
  cases f with
  | next=>obtain⟨σ7,H7,I7,n7⟩:=q7;exact again I7 n7
  | cont=>obtain⟨σ7,H7,I7,n7⟩:=q7;exact again I7 n7
  | brk=>obtain⟨σ7,H7,I7,q7⟩:=q7;exact⟨σ7,H7,I7.unpinned,q7⟩
  | ret v=>obtain⟨x7,σ7,H7,I7,r7,q7⟩:=q7;exact⟨x7,σ7,H7,I7.unpinned,r7,q7⟩
end
end L2
namespace L2
open PySem PySem.Spec PyProof.Rows
noncomputable abbrev R2:=V->V->Hp->VK->Prop
noncomputable def OpR (X:Cx) (f:Value->Value->Sem Value) (r:R2):Prop:=
 ∀(pins:List (Addr×Obj)) (s:Shared) (σ:St) (H:Hp) (x y:V) (v u:Value) (Q:VK),Inv X pins σ H s->RelV x v->RelV y u->r x y H Q->
  wpAny (model X.prog X.w) X.A (f v u) (EP X pins σ Q) X.xe s
noncomputable def UnR (X:Cx) (f:Value->Sem Value) (r:V->Hp->VK->Prop):Prop:=
 ∀(pins:List (Addr×Obj)) (s:Shared) (σ:St) (H:Hp) (x:V) (v:Value) (Q:VK),Inv X pins σ H s->RelV x v->r x H Q->
  wpAny (model X.prog X.w) X.A (f v) (EP X pins σ Q) X.xe s
noncomputable def CallR (X:Cx) (f:Value) (r:List V->Hp->VK->Prop):Prop:=
 ∀(pins:List (Addr×Obj)) (s:Shared) (σ:St) (H:Hp) (xs:List V) (us:List Value) (Q:VK),Inv X pins σ H s->Vals xs us->r xs H Q->
  wpAny (model X.prog X.w) X.A (call f us) (EP X pins σ Q) X.xe s
noncomputable def tOp (r:R2) (ta tb:TE):TE:=fun σ H Q=>ta σ H fun x H1=>tb σ H1 fun y H2=>r x y H2 Q
noncomputable def tUn (r:V->Hp->VK->Prop) (ta:TE):TE:=fun σ H Q=>ta σ H fun x H1=>r x H1 Q
noncomputable def rI (C:Int->Int->Prop) (g:Int->Int->V):R2:=fun x y H Q=>∃i j,x=.int i/\y=.int j/\C i j/\Q (g i j) H
noncomputable def rI0 (g:Int->Int->V):R2:=fun x y H Q=>∃i j,x=.int i/\y=.int j/\Q (g i j) H
noncomputable def rU (g:Int->V):V->Hp->VK->Prop:=fun x H Q=>∃i,x=.int i/\Q (g i) H
section
variable {X:Cx} {a b c:Expr} {ta tb tc:TE} {pos:Pos}
theorem binT (ha:PE X a ta) (hb:PE X b tb) {pins:List (Addr×Obj)} {s:Shared} {σ:St} {H:Hp} {R:V->V->Hp->Prop} (I:Inv X pins σ H s)
 (h:ta σ H fun x H1=>tb σ H1 fun y H2=>R x y H2) {Q:Value->Shared->Prop} {f:Value->Value->Sem Value}
 (hf:∀v u s2 x y H2,Inv X pins σ H2 s2->RelV x v->RelV y u->R x y H2->wpAny (model X.prog X.w) X.A (f v u) Q X.xe s2) :
 wpAny (model X.prog X.w) X.A (eval a X.env) (fun v s₁=>wpAny (model X.prog X.w) X.A (eval b X.env) (fun u s₂=>wpAny (model X.prog X.w) X.A (f v u) Q X.xe s₂) X.xe s₁) X.xe s:=by
 refine thn (ha pins s σ H _ I h) fun v s1 hI73=>?_
 obtain⟨x,H1,I1,r1,q1⟩:=hI73;refine thn (hb pins s1 σ H1 _ I1 q1) fun u s2 hI74=>?_
 obtain⟨y,H2,I2,r2,q2⟩:=hI74;exact hf v u s2 x y H2 I2 r1 r2 q2
theorem pe_op {op:Operator} {r:R2} (ho:OpR X (binaryOp op) r) (ha:PE X a ta) (hb:PE X b tb):PE X (.BinOp a op b pos) (tOp r ta tb):=by
 intro pins s σ H Q I h;exact wpAny_BinOp (binT ha hb I h fun v u s2 x y H2 I2 rx ry q=>ho pins s2 σ H2 x y v u Q I2 rx ry q)
theorem pe_un {op:UnaryOp} {r:V->Hp->VK->Prop} (ho:UnR X (unaryOp op) r) (ha:PE X a ta):PE X (.UnaryOp op a pos) (tUn r ta):=by
 intro pins s σ H Q I h;exact UnaryOp_ (thn (ha pins s σ H _ I h) fun v s1 ⟨x,H1,I1,r1,q1⟩=>ho pins s1 σ H1 x v Q I1 r1 q1)
theorem opI {f:Value->Value->Sem Value} {C:Int->Int->Prop} {g:Int->Int->Int}
 (rule:∀(i j:Int) (t u:Tok) (s:Shared) (Q:Value->Shared->Prop) (E:Value->Shared->Prop),C i j->Q (.int (g i j) s.toks) { s with toks:=s.toks+1 }->wpAny (model X.prog X.w) X.A (f (.int i t) (.int j u)) Q E s) :
 OpR X f (rI C fun i j=>.int (g i j)):=by
 intro pins s σ H x y v u Q I rx ry h;obtain⟨i,j,rfl,rfl,hc,q⟩:=h;obtain⟨t,rfl⟩:=rx;obtain⟨t',rfl⟩:=ry;exact rule i j t t' s _ _ hc ⟨.int (g i j),H,I.tok _,⟨_,rfl⟩,q⟩
theorem opI0 {f:Value->Value->Sem Value} {g:Int->Int->Int}
 (rule:∀(i j:Int) (t u:Tok) (s:Shared) (Q:Value->Shared->Prop) (E:Value->Shared->Prop),Q (.int (g i j) s.toks) { s with toks:=s.toks+1 }->wpAny (model X.prog X.w) X.A (f (.int i t) (.int j u)) Q E s) :
 OpR X f (rI0 fun i j=>.int (g i j)):=by
 intro pins s σ H x y v u Q I rx ry h;obtain⟨i,j,rfl,rfl,q⟩:=h;obtain⟨t,rfl⟩:=rx;obtain⟨t',rfl⟩:=ry;exact rule i j t t' s _ _ ⟨.int (g i j),H,I.tok _,⟨_,rfl⟩,q⟩
theorem opB0 {f:Value->Value->Sem Value} {g:Int->Int->Bool}
 (rule:∀(i j:Int) (t u:Tok) (s:Shared) (Q:Value->Shared->Prop) (E:Value->Shared->Prop),Q (.bool (g i j)) s->wpAny (model X.prog X.w) X.A (f (.int i t) (.int j u)) Q E s) :
 OpR X f (rI0 fun i j=>.bl (g i j)):=by
 intro pins s σ H x y v u Q I rx ry h;obtain⟨i,j,rfl,rfl,q⟩:=h;obtain⟨t,rfl⟩:=rx;obtain⟨t',rfl⟩:=ry;exact rule i j t t' s _ _ ⟨.bl (g i j),H,I,rfl,q⟩
noncomputable def CDiv (i j:Int):Prop:=0<j/\j<1073741824
noncomputable def CDivN (i j:Int):Prop:=j≠0/\j.natAbs<1073741824
noncomputable def CPow (i j:Int):Prop:=0<=j/\j<=1000000/\i.natAbs<2 ^ 64
noncomputable def CMul (i j:Int):Prop:=(-(2 ^ 64)<i/\i<2 ^ 64)\/(-(2 ^ 64)<j/\j<2 ^ 64)
theorem CMul.ok {i j:Int} (h:CMul i j):IntMulOk i j:=by
 rcases h with⟨h1,h2⟩ | ⟨h1,h2⟩
 ·exact .of_left (intBits_le_64 h1 h2)
 ·exact .of_right (intBits_le_64 h1 h2)
theorem op_add:OpR X (binaryOp .Add) (rI0 fun i j=>.int (i+j)):=opI0 fun _ _ _ _ _ _ _ q=>add_int q
theorem op_sub:OpR X (binaryOp .Sub) (rI0 fun i j=>.int (i-j)):=opI0 fun _ _ _ _ _ _ _ q=>sub_int q
theorem op_mul:OpR X (binaryOp .Mult) (rI CMul fun i j=>.int (i*j)):=opI fun _ _ _ _ _ _ _ hc q=>mul_int q hc.ok
theorem op_fdiv:OpR X (binaryOp .FloorDiv) (rI CDiv fun i j=>.int (i / j)):=opI fun i j _ _ _ _ _ hc q=>by
 have h1:(0:Int)<j:=hc.1;have h2:j<1073741824:=hc.2;exact floordiv_int (by omega) (by rw[Int.fdiv_eq_ediv_of_nonneg i (by omega)];exact q) (.inl (PyProof.noPylong_small (by omega)))
theorem op_mod:OpR X (binaryOp .Mod) (rI (fun _ j=>0<j) fun i j=>.int (i % j)):=opI fun i j _ _ _ _ _ hc q=>by
 have h1:(0:Int)<j:=hc;exact mod_int' (by omega) (by rw[Int.fmod_eq_emod_of_nonneg i (by omega)];exact q)
theorem op_pow:OpR X (binaryOp .Pow) (rI CPow fun i j=>.int (i ^ j.toNat)):=opI fun _ _ _ _ _ _ _ hc q=>pow_int_small hc.1 hc.2.1 hc.2.2 q
theorem unI {f:Value->Sem Value} {g:Int->Int}
 (rule:∀(i:Int) (t:Tok) (s:Shared) (Q:Value->Shared->Prop) (E:Value->Shared->Prop),Q (.int (g i) s.toks) { s with toks:=s.toks+1 }->wpAny (model X.prog X.w) X.A (f (.int i t)) Q E s) :
 UnR X f (rU fun i=>.int (g i)):=by
 intro pins s σ H x v Q I rx h;obtain⟨i,rfl,q⟩:=h;obtain⟨t,rfl⟩:=rx;exact rule i t s _ _ ⟨.int (g i),H,I.tok _,⟨_,rfl⟩,q⟩
theorem un_neg:UnR X (unaryOp .USub) (rU fun i=>.int (-i)):=unI fun _ _ _ _ _ q=>neg_int q
end
section
variable {X:Cx} {a b c:Expr} {ta tb tc:TE} {pos:Pos}
theorem fin_bl {pins:List (Addr×Obj)} {σ:St} {H:Hp} {s:Shared} {Q:VK} {k k':Bool} (I:Inv X pins σ H s) (q:Q (.bl k) H) (e:k=k'):EP X pins σ Q (.bool k') s:=by
 subst e;exact⟨.bl k,H,I,rfl,q⟩
theorem op_lt:OpR X (compareOp .Lt) (rI0 fun i j=>.bl (decide (i<j))):=opB0 fun _ _ _ _ _ _ _ q=>lt_int q
theorem op_le:OpR X (compareOp .LtE) (rI0 fun i j=>.bl (decide (i<=j))):=opB0 fun _ _ _ _ _ _ _ q=>le_int q
theorem op_gt:OpR X (compareOp .Gt) (rI0 fun i j=>.bl (decide (j<i))):=opB0 fun _ _ _ _ _ _ _ q=>gt_int q
theorem op_ge:OpR X (compareOp .GtE) (rI0 fun i j=>.bl (decide (j<=i))):=opB0 fun _ _ _ _ _ _ _ q=>ge_int q
theorem op_isN:OpR X (compareOp .Is) (fun x y H Q=>y=.non/\Q (.bl (decide (x=.non))) H):=by
 intro pins s σ H x y v u Q I rx ry h;obtain⟨rfl,q⟩:=h;cases ry;refine is_none_gen (fin_bl I q ?_);cases x<;>first
  | (cases rx;rfl)
  | (obtain⟨t,rfl⟩:=rx;rfl)
theorem op_notN:OpR X (compareOp .IsNot) (fun x y H Q=>y=.non/\Q (.bl (!decide (x=.non))) H):=by
 intro pins s σ H x y v u Q I rx ry h;obtain⟨rfl,q⟩:=h;cases ry;refine isnot_none_gen (fin_bl I q ?_);cases x<;>first
  | (cases rx;rfl)
  | (obtain⟨t,rfl⟩:=rx;rfl)
theorem OpR.or {f:Value->Value->Sem Value} {r r':R2} (h:OpR X f r) (h':OpR X f r'):OpR X f (fun x y H Q=>r x y H Q\/r' x y H Q):=by
 intro pins s σ H x y v u Q I rx ry q;rcases q with q | q
 ·exact h pins s σ H x y v u Q I rx ry q
 ·exact h' pins s σ H x y v u Q I rx ry q
theorem nomark (b:Expr) {op:CmpOp} (h:op≠.In:=by decide) (h2:op≠.NotIn:=by decide):behindInMarks op b=false:=by
 have e1:(op == CmpOp.In)=false:=by cases op<;>first | rfl | exact absurd rfl h
 have e2:(op == CmpOp.NotIn)=false:=by cases op<;>first | rfl | exact absurd rfl h2
 cases b<;>simp[behindInMarks,e1,e2]
theorem pe_cmpR {op:CmpOp} {r:R2} (ho:OpR X (compareOp op) r) (ha:PE X a ta) (hb:PE X b tb) (hm:behindInMarks op b=false):PE X (.Compare a [op] [b] pos) (tOp r ta tb):=by
 intro pins s σ H Q I h;exact wpAny_Compare1 (binT ha hb I h fun v u s2 x y H2 I2 rx ry q=>ho pins s2 σ H2 x y v u Q I2 rx ry q) hm
noncomputable def tTest (t:TE):TT:=fun σ H Q=>t σ H fun x H'=>∃k,x=.bl k/\Q k H'
theorem pt_cmpR {op:CmpOp} {r:R2} (ho:OpR X (compareOp op) r) (ha:PE X a ta) (hb:PE X b tb) (hm:behindInMarks op b=false):PT X (.Compare a [op] [b] pos) (tTest (tOp r ta tb)):=by
 intro pins s σ H Q I h;refine wpAny_isTrue_Compare1 (thn (ha pins s σ H _ I h) fun v s1 ⟨x,H1,I1,r1,q1⟩=>thn (hb pins s1 σ H1 _ I1 q1) fun u s2 ⟨y,H2,I2,r2,q2⟩=>thn (ho pins s2 σ H2 x y v u _ I2 r1 r2 q2) fun c s3 hI75=>?_) hm;obtain⟨z,H3,I3,r3,k,e,q3⟩:=hI75;subst e;cases r3;exact wpAny_truthy_bool ⟨H3,I3,q3⟩
noncomputable def tChain (r r':R2) (ta tb tc:TE):TE:=fun σ H Q=>ta σ H fun x H1=>tb σ H1 fun y H2=>r x y H2 fun z H3=>∃k,z=.bl k/\
 (if k=true then tc σ H3 fun w' H4=>r' y w' H4 Q else Q (.bl false) H3)
theorem pe_chain {op op':CmpOp} {r r':R2} (ho:OpR X (compareOp op) r) (ho':OpR X (compareOp op') r') (ha:PE X a ta) (hb:PE X b tb) (hc:PE X c tc)
 (hm:lastMarks [op,op'] [b,c]=false:=by with_unfolding_all rfl):PE X (.Compare a [op,op'] [b,c] pos) (tChain r r' ta tb tc):=by
 intro pins s σ H Q I h;refine Compare_chain (thn (ha pins s σ H _ I h) fun v s1 ⟨x,H1,I1,r1,q1⟩=>chain_link (thn (hb pins s1 σ H1 _ I1 q1) fun u s2 ⟨y,H2,I2,r2,q2⟩=>thn (ho pins s2 σ H2 x y v u _ I2 r1 r2 q2) fun d s3 hI76=>?_)) hm;obtain⟨z,H3,I3,r3,k,e,q3⟩:=hI76;subst e;cases r3;refine wpAny_truthy_bool ?_;cases k with
 | false=>exact ite_ff ⟨.bl false,H3,I3,rfl,q3⟩
 | true=>exact ite_tt (chain_last (thn (hc pins s3 σ H3 _ I3 q3) fun w' s4 ⟨z',H4,I4,r4,q4⟩=>ho' pins s4 σ H4 y z' u w' Q I4 r2 r4 q4))
theorem line63:(sizeLine:Nat)<2 ^ 63:=by rw[sizeLine_eq];decide
theorem vals1 {x:V} {us:List Value} (r:Vals [x] us):∃u,us=[u]/\RelV x u:=by
 cases r with
 | cons r1 r2=>cases r2;exact⟨_,rfl,r1⟩
theorem vals2 {x y:V} {us:List Value} (r:Vals [x,y] us):∃u w',us=[u,w']/\RelV x u/\RelV y w':=by
 cases r with
 | cons r1 r2=>
   cases r2 with
   | cons r3 r4=>cases r4;exact⟨_,_,rfl,r1,r3⟩
theorem call_min2 (hc:X.calm=true):CallR X (.builtin "min") (fun xs H Q=>∃i j,xs=[.int i,.int j]/\Q (.int (if j<i then j else i)) H):=by
 intro pins s σ H xs us Q I r h;obtain⟨i,j,rfl,q⟩:=h;obtain⟨u,w',rfl,⟨t,rfl⟩,⟨t',rfl⟩⟩:=vals2 r;refine min_two_ints (I.ok.hd hc) fun h' tk k=>⟨_,H,I.kept k,?_,q⟩
 by_cases hj:j<i
 ·rw[if_pos hj,if_pos hj];exact⟨_,rfl⟩
 ·rw[if_neg hj,if_neg hj];exact⟨_,rfl⟩
theorem call_int1:CallR X (.type "int") (fun xs H Q=>(∃i,xs=[.int i]/\Q (.int i) H)\/∃k,xs=[.bl k]/\Q (.int (if k then 1 else 0)) H):=by
 intro pins s σ H xs us Q I r h;rcases h with⟨i,rfl,q⟩ | ⟨k,rfl,q⟩
 ·obtain⟨u,rfl,t,rfl⟩:=vals1 r
  exact call_int_int ⟨.int i,H,I,⟨_,rfl⟩,q⟩
 ·obtain⟨u,rfl,r1⟩:=vals1 r
  cases r1;exact call_int_bool ⟨.int (if k then 1 else 0),H,I.tok _,⟨_,rfl⟩,q⟩
theorem call_divmod:CallR X (.builtin "divmod") (fun xs H Q=>∃i j,xs=[.int i,.int j]/\CDiv i j/\∀p,H p=none->Q (.ref p) (upd H p (.tup [.int (i / j),.int (i % j)]))):=by
 intro pins s σ H xs us Q I r h;obtain⟨i,j,rfl,⟨h1,h2⟩,q⟩:=h;obtain⟨u,w',rfl,⟨t,rfl⟩,⟨t',rfl⟩⟩:=vals2 r;refine divmod_int (by omega) ?_ (.inl (PyProof.noPylong_small (by omega)));rw[Int.fdiv_eq_ediv_of_nonneg i (by omega),Int.fmod_eq_emod_of_nonneg i (by omega)];have hn:H s.heap.objs.size=none:=I.hok.fresh (Nat.le_refl _);refine⟨.ref s.heap.objs.size,_,?_,rfl,q _ hn⟩;refine I.laid (fun b o e=>Heap.get?_push_of_some _ e) (Nat.le_refl _) ⟨by simp only[List.length_cons,List.length_nil];rw[sizeLine_eq];decide,[.int (i / j) s.toks,.int (i % j) (s.toks+1)],.cons ⟨_,rfl⟩ (.cons ⟨_,rfl⟩ .nil),?_⟩;exact⟨_,Heap.get?_push_size s.heap rfl,rfl,0,rfl⟩
end
end L2
namespace L2
open PySem PySem.Spec PyProof.Rows
structure ObjM (h:Heap) (x dx C:Addr) (mA:Str->Option Value):Prop where
 obj:h.get? x=some (PySem.W.instObj C dx)
 ns:h.Ns1 dx mA
 ne:dx≠x
set_option tactic.hygienic true in
theorem lookIn_ns {h:Heap} {dx:Addr} {mA:Str->Option Value} (n:h.Ns1 dx mA):∃od,h.get? dx=some od/\∀name,PySem.W.lookIn name od=some (mA name):=by
 obtain⟨o,es,ep,ho,hd,hk,_,hm⟩:=n;refine⟨o,ho,fun name=>?_⟩;have e:=hm name;unfold nsFind findBy at e;rw[<-Array.find?_toList] at e;unfold PySem.W.lookIn;rw[hd];dsimp only;split
 ·rename_i y q
  rw[q] at e;exact congrArg some e
 ·rename_i q
  rw[q] at e;have a:es.toList.any (·.refKey)=false:=by
   rw[List.any_eq_false];intro y hy;obtain⟨z,t,hkey⟩:=hk y (Array.mem_toList_iff.mp hy);simp[DictEntry.refKey,hkey]
  have a':¬es.toList.any (·.refKey)=true:=by rw[a];exact Bool.false_ne_true
  rw[if_neg a'];exact congrArg some e
theorem ObjM.look {h:Heap} {x dx C:Addr} {mA:Str->Option Value} (I:ObjM h x dx C mA):∃od,PySem.W.InstAt h x (PySem.W.instObj C dx) C (some od)/\∀name,PySem.W.lookIn name od=some (mA name):=
 let ⟨od,ho,hl⟩:=lookIn_ns I.ns
 ⟨od,⟨I.obj,rfl,rfl,ho⟩,hl⟩
section
variable {prog:Program} {w:World} {A:Around} {E:Value->Shared->Prop} {s:Shared} {K:PySem.W.Frag} {x dx C f:Addr} {mA:Str->Option Value} {name:Str} {v:Value}
end
theorem RelO.some_of {v:V} {o:Option Value} (r:RelO (some v) o):∃u,o=some u/\RelV v u:=by
 cases o with
 | none=>exact(show False from r).elim
 | some u=>exact⟨u,rfl,r⟩
section
variable {P:Program} {w:World} {H H':Hp} {h h':Heap} {a C dx:Addr} {fs fs':List (Str×V)}
theorem ins_get (hok:HOk P w H h) (e:H a=some (.ins C dx fs)):∃mA,ObjM h a dx C mA/\(∀f,RelO (fs.lookup f) (mA f))/\PySem.Within mA (fs.map (·.1))/\fs.length<=1000/\H dx=some (.own a):=by
 obtain⟨d,z,ne,ob,mA,n,r,q⟩:=(show ObjOk P w H h a (.ins C dx fs) from hok a _ e);exact⟨mA,⟨ob,n,ne⟩,r,q,z,d⟩
end
structure Cls (K:PySem.W.Frag) (C:Addr):Prop where
 pg:PySem.W.plainGet K C Str.empty=true
 hd:PySem.W.hasDictIn K C=true
 po:PySem.W.plainOver K C=true
 sa:PySem.W.findIn K (.ref C) "__setattr__" = some (some (.builtin "object.__setattr__"))
theorem Cls.get {K:PySem.W.Frag} {C:Addr} (c:Cls K C) (f:Str):PySem.W.plainGet K C f=true:=c.pg
section
variable {X:Cx} {pins:List (Addr×Obj)} {σ:St} {H:Hp} {s:Shared} {a C dx:Addr} {fs:List (Str×V)} {f:Str} {v:V} {A:Around} {E:Value->Shared->Prop}
theorem attr_of {prog:Program} {w:World} {env:Env} {e:Expr} {f:Str} {pos:Pos} {s:Shared} {Q:Value->Shared->Prop} (hb:attributeBase e f env (eval e env)=eval e env)
 (h:wpAny (model prog w) A (eval e env) (fun o s₁=>wpAny (model prog w) A (getAttr o f true) Q E s₁) E s):wpAny (model prog w) A (eval (.Attribute e f pos) env) Q E s:=
 Attribute_any_ h (by rw[arm_eval_Attribute,hb])
end
section
variable {X:Cx} {o e value:Expr} {f:Str} {pos pos' tpos:Pos} {ta tv:TE}
end
section
variable {X:Cx} {pins:List (Addr×Obj)} {σ:St} {H:Hp} {s:Shared} {A:Around} {E:Value->Shared->Prop} {Q:Value->Shared->Prop} {c:Value} {b:Bool}
inductive TyOf (K:PySem.W.Frag) (H:Hp):V->Value->Prop where
 | non:TyOf K H .non (.type "NoneType")
 | bl (x:Bool):TyOf K H (.bl x) (.type "bool")
 | int (i:Int):TyOf K H (.int i) (.type "int")
 | str (x:Str):TyOf K H (.str x) (.type "str")
 | flt (x:UInt64):TyOf K H (.flt x) (.type "float")
 | lst {a:Addr} {xs:List V} (e:H a=some (.lst xs)):TyOf K H (.ref a) (.type "list")
 | frz {a:Addr} {o:Obj} {xs:List V} (e:H a=some (.frz o (.lst xs))):TyOf K H (.ref a) (.type "list")
 | tup {a:Addr} {xs:List V} (e:H a=some (.tup xs)):TyOf K H (.ref a) (.type "tuple")
 | dK {a:Addr} {kvs:List (Key×V)} (e:H a=some (.dK kvs)):TyOf K H (.ref a) (.type "dict")
 | dT {a:Addr} {kvs:List (List Key×V)} (e:H a=some (.dT kvs)):TyOf K H (.ref a) (.type "dict")
 | ins {a C dx:Addr} {fs:List (Str×V)} (e:H a=some (.ins C dx fs)) (cl:Cls K C) (ha:PySem.W.findIn K (.ref C) "__class__" = some (some (.builtin "object.__class__")))
  (hn:PySem.W.specialIn K (.builtin "object.__class__") "__get__" = some (some (.builtin "getset_descriptor.__get__"))) (htk:PySem.W.takesIn K (.builtin "object.__class__")=some true)
  (hm:PySem.W.mroIn K C (.type "object")=some true):TyOf K H (.ref a) (.ref C)
theorem zi9 {x:V} {u t:Value} (I:Inv X pins σ H s) (rx:RelV x u) (ty:TyOf X.K H x t) (e:PySem.W.kitOne X.K t c=some b) (h:∀tk,Q (.bool b) { s with toks:=tk }) :
 wpAny (model X.prog X.w) A (call (.builtin "isinstance") [u,c]) Q E s:=by
 cases ty with
 | non=>cases (show u=Value.none from rx);exact PySem.W.kia_one PySem.W.kitx_none I.kIn True.intro e (fun z=>nomatch z) h
 | bl y=>cases (show u=Value.bool y from rx);exact PySem.W.kia_one PySem.W.kitx_bool I.kIn True.intro e (fun z=>nomatch z) h
 | int i=>obtain⟨t,q⟩:=(show ∃t,u=Value.int i t from rx);cases q;exact PySem.W.kia_one PySem.W.kitx_int I.kIn True.intro e (fun z=>nomatch z) h
 | str y=>obtain⟨t,q⟩:=(show ∃t,u=Value.str y t from rx);cases q;exact PySem.W.kia_one PySem.W.kitx_str I.kIn True.intro e (fun z=>nomatch z) h
 | flt y=>obtain⟨t,q⟩:=(show ∃t,u=Value.float y t from rx);cases q;exact PySem.W.kia_one PySem.W.kitx_float I.kIn True.intro e (fun z=>nomatch z) h
 | @lst a xs ea=>
   cases (show u=Value.ref a from rx);obtain⟨_,_,n,_,h1⟩:=(show ObjOk X.prog X.w H s.heap a (.lst xs) from I.hok a _ ea);exact PySem.W.kia_one PySem.W.kitx_list I.kIn ⟨_,h1,rfl⟩ e (fun z=>nomatch z) h
 | @frz a ob xs ea=>
   cases (show u=Value.ref a from rx);obtain⟨_,_,_,n,_,h1⟩:=(show ObjOk X.prog X.w H s.heap a (.frz ob (.lst xs)) from I.hok a _ ea);exact PySem.W.kia_one PySem.W.kitx_list I.kIn ⟨_,h1,rfl⟩ e (fun z=>nomatch z) h
 | @tup a xs ea=>
   cases (show u=Value.ref a from rx);obtain⟨_,_,_,p⟩:=(show ObjOk X.prog X.w H s.heap a (.tup xs) from I.hok a _ ea);obtain⟨o,h1,h2,_⟩:=p;exact PySem.W.kia_one PySem.W.kitx_tuple I.kIn ⟨o,h1,h2⟩ e (fun z=>nomatch z) h
 | @dK a kvs ea=>
   cases (show u=Value.ref a from rx);obtain⟨_,_,vs,_,p⟩:=(show ObjOk X.prog X.w H s.heap a (.dK kvs) from I.hok a _ ea);obtain⟨o,es,ep,h1,h2,_⟩:=p;exact PySem.W.kia_one PySem.W.kitx_dict I.kIn ⟨o,h1,h2.1⟩ e (fun z=>nomatch z) h
 | @dT a kvs ea=>
   cases (show u=Value.ref a from rx);obtain⟨_,_,xs,_,o,es,ep,h1,h2,_⟩:=(show ObjOk X.prog X.w H s.heap a (.dT kvs) from I.hok a _ ea);exact PySem.W.kia_one PySem.W.kitx_dict I.kIn ⟨o,h1,h2.1⟩ e (fun z=>nomatch z) h
 | @ins a C dx fs ea cl ha hn htk hm=>
   cases (show u=Value.ref a from rx);obtain⟨mA,O,_⟩:=ins_get I.hok ea;obtain⟨od,J,_⟩:=O.look;exact PySem.W.kia_one (PySem.W.kitx_own (cl.get _) cl.hd ha hn htk hm) I.kIn J e (fun z=>nomatch z) h
end
end L2
namespace L2
open PySem PySem.Spec PyProof.Rows
structure Room (k:Nat) (A:Around):Prop where
 hd:A.handled=none
 dp:A.depth+3*k+5<recursionLimit
 un:A.units+16*k+200<cLine
 gd:A.guards=some []
theorem Room.mono {j k:Nat} {A:Around} (r:Room k A) (h:j<=k):Room j A:=⟨r.hd,by have:=r.dp;omega,by have:=r.un;omega,r.gd⟩
theorem Room.deeper {k:Nat} {A:Around} (r:Room (k+1) A) (env:Env):Room k (A.deeper env):=
 ⟨r.hd,by have:=r.dp;show A.depth+1+3*k+5<_;omega,by have:=r.un;show A.units+3+16*k+200<_;omega,r.gd⟩
theorem make_depth {A:Around} {C:Addr} {us:List Value} {kw:List (Str×Value)}:(A.under (.builtin "type.__call__" ⟨.ref C::us,kw⟩)).depth=A.depth+1:=by
 first | rfl | simp[Around.under,Code.weight,Code.isCreation,Code.isGuard,Code.isCaller,Code.frames,Code.isFrame,guardIds]
theorem make_units {A:Around} {C:Addr} {us:List Value} {kw:List (Str×Value)}:(A.under (.builtin "type.__call__" ⟨.ref C::us,kw⟩)).units=A.units+1:=by
 first | rfl | simp[Around.under,Code.cUnits,Code.frames,Code.isFrame]
theorem make_guards {A:Around} {C:Addr} {us:List Value} {kw:List (Str×Value)}:(A.under (.builtin "type.__call__" ⟨.ref C::us,kw⟩)).guards=A.guards:=by
 simp[Around.under,Code.guards,Code.isGuard,guardIds,pushGuards]
theorem Room.make {k:Nat} {A:Around} (r:Room (k+1) A) (C:Addr) (us:List Value) (kw:List (Str×Value)):Room k (A.under (.builtin "type.__call__" ⟨.ref C::us,kw⟩)):=
 ⟨r.hd,by have:=r.dp;rw[make_depth];omega,by have:=r.un;rw[make_units];omega,make_guards.trans r.gd⟩
theorem Room.depth {k:Nat} {A:Around} (r:Room k A):A.depth<recursionLimit:=by have:=r.dp;omega
theorem Room.units {k:Nat} {A:Around} (r:Room k A):A.units+64<cLine:=by have:=r.un;omega
noncomputable def tNil:TA:=fun _ H Q=>Q [] H
noncomputable def tCons (ta:TE) (tr:TA):TA:=fun σ H Q=>ta σ H fun x H1=>tr σ H1 fun xs H2=>Q (x::xs) H2
section
variable {X:Cx} {e:Expr} {es:List Expr} {te:TE} {t:TA} {pos:Pos}
theorem zh1:PA X [] tNil:=fun _ _ _ _ H Q I h=>Calls.spliced_nil ⟨[],H,I,.nil,h⟩
theorem zb9 (ha:PE X e te) (hr:PA X es t) (hs:starEach (e::es) X.env=(false,eval e X.env)::starEach es X.env:=by rfl):PA X (e::es) (tCons te t):=by
 intro pos pins s σ H Q I h;rw[hs];show wpAny _ _ (spliced ((false,eval e X.env)::backTo pos (starEach es X.env))) _ _ s;refine Calls.spliced_cons (thn (ha pins s σ H _ I h) fun u s1 hI77=>?_);obtain⟨x,H1,I1,r1,q1⟩:=hI77;exact thn (hr pos pins s1 σ H1 _ I1 q1) fun us s2 ⟨xs,H2,I2,r2,q2⟩=>⟨x::xs,H2,I2,.cons r1 r2,q2⟩
noncomputable def tTup (t:TA):TE:=fun σ H Q=>t σ H fun xs H1=>xs.length<=sizeLine/\∀p,H1 p=none->Q (.ref p) (upd H1 p (.tup xs))
noncomputable def tLst (t:TA):TE:=fun σ H Q=>t σ H fun xs H1=>xs.length<=sizeLine/\∀p,H1 p=none->Q (.ref p) (upd H1 p (.lst xs))
theorem pe_tup {x1} (h:PA X es t):PE X (.Tuple es x1 pos) (tTup t):=by
 intro pins s σ H Q I hq;refine wpAny_Tuple_spliced (thn (h pos pins s σ H _ I hq) fun us s1 ⟨xs,H1,I1,r,z,q⟩=>⟨by rw[<-r.length];exact z,?_⟩);have hf:H1 s1.heap.objs.size=none:=I1.hok.fresh (Nat.le_refl _);refine⟨.ref s1.heap.objs.size,upd H1 s1.heap.objs.size (.tup xs),I1.laid (t':=s1.toks) (fun b u e=>Heap.get?_push_of_some _ e) (Nat.le_refl _) ?_,rfl,q _ hf⟩;exact⟨z,us,r,⟨_,Heap.get?_push_size _ rfl,rfl,_,rfl⟩⟩
theorem pe_lst (h:PA X es t):PE X (.List es pos) (tLst t):=by
 intro pins s σ H Q I hq;refine wpAny_List_spliced (thn (h pos pins s σ H _ I hq) fun us s1 ⟨xs,H1,I1,r,z,q⟩=>⟨by rw[<-r.length];exact z,?_⟩);have hf:H1 s1.heap.objs.size=none:=I1.hok.fresh (Nat.le_refl _);refine⟨.ref s1.heap.objs.size,upd H1 s1.heap.objs.size (.lst xs),I1.laid (t':=s1.toks) (fun b u e=>Heap.get?_push_of_some _ e) (Nat.le_refl _) ?_,rfl,q _ hf⟩;exact⟨z,us,0,r,Heap.get?_push_size _ rfl⟩
end
noncomputable abbrev Sp:=List V->Hp->VK->XK->Prop
noncomputable abbrev CXT:=List Env->Hp->Shared->XK->Value->Shared->Prop
structure Env0 (P:Program) (w:World) (K:PySem.W.Frag) (mg:Str->Option Value) (base:Heap) (A:Around) (outer:List Env) (s:Shared) (H:Hp):Prop where
 frames:A.frames=some outer
 mod:Mod K mg base
 bs:∀b o,base.get? b=some o->s.heap.get? b=some o/\H b=none
 bsz:base.objs.size<=s.heap.objs.size
 funs:s.heap.FunFrames base outer
 frf:∀b∈frs outer,H b=none
 hok:HOk P w H s.heap
 bare:AllBare s.gens
noncomputable def CE (outer:List Env) (P:Program) (w:World) (H:Hp) (s:Shared) (Q:VK) (u:Value) (s':Shared):Prop:=
 ∃v H',s'.os=s.os/\AllBare s'.gens/\Un (frs outer) [] H H' s.heap s'.heap/\HOk P w H' s'.heap/\RelV v u/\Q v H'
noncomputable def CR (CX:CXT) (outer:List Env) (P:Program) (w:World) (H:Hp) (s:Shared) (Q:VK) (E:XK) (r:Result) (s':Shared):Prop:=
 match r with
 | .ok (.ret u)=>CE outer P w H s Q u s'
 | .ok _=>False
 | .error e=>CX outer H s E e s'
structure FnOk (P:Program) (w:World) (K:PySem.W.Frag) (mg:Str->Option Value) (base:Heap) (CX:CXT) (k:Nat) (f:Addr) (fd:FuncData) (ps:List Str) (sp:Sp):Prop where
 len:∀vs H Q E,sp vs H Q E->vs.length=ps.length
 run:∀(A:Around) (outer:List Env) (s:Shared) (H:Hp) (args:Args) (us:List Value) (vs:List V) (Q:VK) (E:XK),Room k A->Env0 P w K mg base A outer s H->BindsTo s fd args (ps.zip us)->Vals vs us->sp vs H Q E->
  codeAny (model P w) A (.call (.ref f) args) (CR CX outer P w H s Q E) s
theorem FnOk.mono {P:Program} {w:World} {K:PySem.W.Frag} {mg:Str->Option Value} {base:Heap} {CX:CXT} {j k:Nat} {f:Addr} {fd:FuncData} {ps:List Str} {sp:Sp} (F:FnOk P w K mg base CX j f fd ps sp) (h:j<=k) :
 FnOk P w K mg base CX k f fd ps sp:=⟨F.len,fun A outer s H args us vs Q E hr=>F.run A outer s H args us vs Q E (hr.mono h)⟩
theorem Env0.make {P:Program} {w:World} {K:PySem.W.Frag} {mg:Str->Option Value} {base:Heap} {A:Around} {outer:List Env} {s:Shared} {H:Hp} (e:Env0 P w K mg base A outer s H) (C:Addr) (us:List Value) (kw:List (Str×Value)) :
 Env0 P w K mg base (A.under (.builtin "type.__call__" ⟨.ref C::us,kw⟩)) outer s H:=⟨by first | exact e.frames | (simpa [Around.under,Code.envs,Code.isFrame,pushEnvs] using e.frames),e.mod,e.bs,e.bsz,e.funs,e.frf,e.hok,e.bare⟩
section
variable {X:Cx} {pins:List (Addr×Obj)} {σ:St} {H:Hp} {s s':Shared}
theorem Inv.env0 (I:Inv X pins σ H s):Env0 X.prog X.w X.K X.mg X.base X.A X.stack s H:=
 ⟨I.ok.frames,I.ok.mod,I.bs,Nat.le_trans I.ok.bsz I.sz,I.stack,I.stkFree,I.hok,I.bare⟩
theorem Inv.after {Q:VK} {u:Value} (I:Inv X pins σ H s) (h:CE X.stack X.prog X.w H s Q u s'):EP X pins σ Q u s':=by
 obtain⟨v,H',os,bare,un,hok,r,q⟩:=h;obtain⟨hh,g,d,t,os'⟩:=s';obtain rfl:os'=s.os:=os;exact⟨v,H',I.call (h':=hh) (g':=g) (d':=d) (t':=t) (ch:=[]) un hok bare (fun b z=>absurd z (by simp)),r,q⟩
end
noncomputable def tCall (sp:Sp) (dvs:List V) (E:XK) (t:TA):TE:=fun σ H Q=>t σ H fun vs H1=>sp (vs++dvs) H1 Q E
noncomputable def Binds (K:PySem.W.Frag) (fd:FuncData) (ps:List Str) (ds:List Value):Prop:=
 ∀(s:Shared) (us:List Value),K.In s.heap->(us++ds).length=ps.length->BindsTo s fd ⟨us,[]⟩ (ps.zip (us++ds))
theorem Binds.all {K:PySem.W.Frag} {fd:FuncData} {ps:List Str} (h:∀us:List Value,us.length=ps.length->bindArgs fd ⟨us,[]⟩=pure (ps.zip us)):Binds K fd ps []:=fun s us _ hl=>by
 rw[List.append_nil] at hl ⊢;exact .of_eq (h us hl)
noncomputable def Passes (CX:CXT) (X:Cx) (E:XK):Prop:=∀(pins:List (Addr×Obj)) (σ:St) (H:Hp) (s:Shared) (e:Value) (s':Shared),Inv X pins σ H s->CX X.stack H s E e s'->X.xe e s'
section
variable {X:Cx} {CX:CXT} {k:Nat} {f C:Addr} {fd:FuncData} {ps:List Str} {sp:Sp} {dvs:List V} {ds:List Value} {E:XK} {x m:Str} {p pos apos:Pos} {e o:Expr} {es:List Expr} {ta:TE} {t:TA}
set_option tactic.hygienic true in
theorem run_fn {pins:List (Addr×Obj)} {σ:St} {H:Hp} {s:Shared} {Q:VK} {us:List Value} {vs:List V} (F:FnOk X.prog X.w X.K X.mg X.base CX k f fd ps sp) (hr:Room k X.A) (hb:Binds X.K fd ps ds) (hd:Vals dvs ds) (hx:Passes CX X E)
 (I:Inv X pins σ H s) (r:Vals vs us) (h:sp (vs++dvs) H Q E):wpAny (model X.prog X.w) X.A (call (.ref f) us) (EP X pins σ Q) X.xe s:=by
 have r2:Vals (vs++dvs) (us++ds):=r.append hd;have hl:(us++ds).length=ps.length:=by rw[<-r2.length];exact F.len _ _ _ _ h
 refine wpAny_call (codeAny_mono (F.run X.A X.stack s H ⟨us,[]⟩ (us++ds) (vs++dvs) Q E hr I.env0 (hb s us I.kIn hl) r2 h) fun r s' hq=>?_);cases r with
 | error e=>exact hx pins σ H s e s' I hq
 | ok fl=>
   cases fl with
   | ret u=>exact I.after hq
   | next=>exact False.elim hq
   | brk=>exact False.elim hq
   | cont=>exact False.elim hq
theorem pe_call (F:FnOk X.prog X.w X.K X.mg X.base CX k f fd ps sp) (hr:Room k X.A) (hg:Gl X x) (hm:X.mg x=some (.ref f)) (hk:PySem.W.keepIn X.K (.ref f)=true) (hb:Binds X.K fd ps ds) (hd:Vals dvs ds) (hx:Passes CX X E)
 (ha:PA X (e::es) t) (hdb:(x == ("__debug__" : Str))=false:=by decide) (he:starEach (e::es) X.env=(false,eval e X.env)::starEach es X.env:=by rfl) (hpl:(backTo pos (starEach es X.env)).any (·.1)=false:=by rfl) :
 PE X (.Call (.Name x p) (e::es) [] pos) (tCall sp dvs E t):=by
 intro pins s σ H Q I h;refine wpAny_Call_Name_kw (ld_glob I hg hm ?_ hdb);refine PySem.W.callWith_K (h₀:=X.base) I.ok.mod.kin hk (thn (ha pos pins s σ H _ I h) fun us s1 ⟨vs,H1,I1,r,q⟩=>⟨I1.kIn,?_⟩) he hpl;exact run_fn F hr hb hd hx I1 r q
end
section
variable {X:Cx} {CX:CXT} {k:Nat} {f C:Addr} {fd:FuncData} {ps ks:List Str} {sp:Sp} {E:XK} {x m:Str} {p pos apos kpos:Pos} {e o:Expr} {es:List Expr} {kws:List Keyword} {te ta:TE} {t tk:TA} {nm:Option Str}
variable {g:List Value->List Value->List Value} {gV:List V->List V->List V}
end
structure zc0 (N P:List Str) (sc:Scope):Prop where
 kind:sc.kind=.function
 co:sc.isCoroutine=false
 gen:sc.isGenerator=false
 nd:N.Nodup
 pre:N.take P.length=P
 par:∀x∈P,sc.names.lookup x=some .local\/sc.names.lookup x=some .cell
 nofree:∀y∈sc.names,y.2≠.free
theorem bindL_out {kindOf:Str->Option NameKind} {x:Str}:∀{binds:List (Str×Value)} {m:Str->Option Value},(∀v,(x,v)∉binds)->bindL kindOf binds m x=m x
 | [],_,_=>rfl
 | (n,v)::r,m,h=>by
   unfold bindL;rw[bindL_out fun w hw=>h w (List.mem_cons_of_mem _ hw)];split
   ·have:x≠n:=by rintro rfl;exact h v List.mem_cons_self
    simp[this]
   ·rfl
theorem bindC_out {kindOf:Str->Option NameKind} {x:Str}:∀{binds:List (Str×Value)} {m:Str->Option Value},(∀v,(x,v)∉binds)->bindC kindOf binds m x=m x
 | [],_,_=>rfl
 | (n,v)::r,m,h=>by
   unfold bindC;rw[bindC_out fun w hw=>h w (List.mem_cons_of_mem _ hw)];split
   ·rfl
   ·have:x≠n:=by rintro rfl;exact h v List.mem_cons_self
    simp[this]
theorem bindL_get {kindOf:Str->Option NameKind} {x:Str} {v:Value}:∀{P:List Str} {vs:List Value} {i:Nat} {m:Str->Option Value},P.Nodup->P[i]?=some x->vs[i]?=some v->kindOf x=some .local->
 bindL kindOf (P.zip vs) m x=some v
 | [],_,_,_,_,h,_,_=>by simp at h
 | _::_,[],_,_,_,_,h,_=>by simp at h
 | p::P,w::vs,0,m,nd,h1,h2,hk=>by
   simp at h1 h2;subst h1;subst h2;show bindL kindOf ((p,w)::P.zip vs) m p=_;unfold bindL;rw[bindL_out fun v hv=>(List.nodup_cons.mp nd).1 (List.of_mem_zip hv).1,if_pos hk];simp
 | p::P,w::vs,i+1,m,nd,h1,h2,hk=>by
   show bindL kindOf ((p,w)::P.zip vs) m x=_;unfold bindL;exact bindL_get (i:=i) (List.nodup_cons.mp nd).2 (by simpa using h1) (by simpa using h2) hk
theorem bindC_get {kindOf:Str->Option NameKind} {x:Str} {v:Value}:∀{P:List Str} {vs:List Value} {i:Nat} {m:Str->Option Value},P.Nodup->P[i]?=some x->vs[i]?=some v->kindOf x≠some .local->
 bindC kindOf (P.zip vs) m x=some v
 | [],_,_,_,_,h,_,_=>by simp at h
 | _::_,[],_,_,_,_,h,_=>by simp at h
 | p::P,w::vs,0,m,nd,h1,h2,hk=>by
   simp at h1 h2;subst h1;subst h2;show bindC kindOf ((p,w)::P.zip vs) m p=_;unfold bindC;rw[bindC_out fun v hv=>(List.nodup_cons.mp nd).1 (List.of_mem_zip hv).1,if_neg hk];simp
 | p::P,w::vs,i+1,m,nd,h1,h2,hk=>by
   show bindC kindOf ((p,w)::P.zip vs) m x=_;unfold bindC;exact bindC_get (i:=i) (List.nodup_cons.mp nd).2 (by simpa using h1) (by simpa using h2) hk
noncomputable def start (N:List Str) (vs:List V):St:=vs.map some++List.replicate (N.length-vs.length) none
noncomputable def cxOf (CX:CXT) (P:Program) (w:World) (K:PySem.W.Frag) (mg:Str->Option Value) (base:Heap) (N:List Str) (qual:Str) (scope:Scope) (f:Addr) (cd:Value) (A:Around) (outer:List Env) (s:Shared) (H:Hp) (E:XK):Cx where
 prog:=P
 w:=w
 K:=K
 mg:=mg
 base:=base
 A:=A.deeper (envOfC qual scope s.heap.objs.size f cd)
 N:=N
 s₀:=s
 H₀:=H
 env:=envOfC qual scope s.heap.objs.size f cd
 outer:=outer
 stack:=envOfC qual scope s.heap.objs.size f cd::outer
 ex:=[]
 calm:=true
 fn:=fun _=>true
 pn:=[]
 xe:=fun e s'=>wpAny (model P w) (A.deeper (envOfC qual scope s.heap.objs.size f cd)) (leaving (envOfC qual scope s.heap.objs.size f cd) e) (fun _ s''=>CX outer H s E e s'') (fun e' s''=>CX outer H s E e' s'') s'
theorem cell_has {sc:Scope} {n:Nat} {x:Str} (h:sc.names.lookup x=some .cell):∃c,(cellsFrom n sc.names []).lookup x=some c:=by
 have q:=PySem.W.cellsFrom_some sc.names n [] (.inl h);exact Option.isSome_iff_exists.mp q
theorem inv_start {CX:CXT} {P:Program} {w:World} {K:PySem.W.Frag} {mg:Str->Option Value} {base:Heap} {N ps:List Str} {qual:Str} {scope:Scope} {f:Addr} {cd:Value} {A:Around} {outer:List Env} {s s1:Shared} {H:Hp} {E:XK} {us:List Value} {vs:List V}
 (S:zc0 N ps scope) (hd:A.handled=none) (e0:Env0 P w K mg base A outer s H) (hl:vs.length=ps.length) (r:Vals vs us)
 (x:InCallC s s.heap.objs.size (bindL (envOfC qual scope s.heap.objs.size f cd).kindOf (ps.zip us) fun _=>none) (cellsFrom (s.heap.objs.size+1) scope.names []) (bindC (envOfC qual scope s.heap.objs.size f cd).kindOf (ps.zip us) fun _=>none) s1) :
 Inv (cxOf CX P w K mg base N qual scope f cd A outer s H E) [] (start N vs) H s1:=by
 have hpl:ps.length<=N.length:=by have:=congrArg List.length S.pre;rw[List.length_take] at this;omega
 obtain⟨h1,tk,rfl,hk⟩:=x.done;have noA:∀b:Addr,b∉(cxOf CX P w K mg base N qual scope f cd A outer s H E).ex:=fun b z=>absurd (show b∈([]:List Addr) from z) (by simp)
 refine⟨⟨e0.mod,S.kind,rfl,rfl,Nat.le_refl _,fun y z c h1 h2=>?_,fun y hy=>?_,fun y c _ h=>?_,fun _=>hd,Around.frames_deeper e0.frames,.inr ⟨rfl,rfl⟩,fun b z=>absurd z (noA b),e0.bs,e0.bsz,fun b _ _=>noA b,fun b z=>absurd z (noA b),e0.funs,e0.frf⟩,rfl,e0.bare,Un.kept hk,⟨_,x.toInCall.ns,fun i y v h1 h2 h3=>?_⟩,fun y c h=>⟨_,x.cell y c h⟩,e0.hok.fresh (Nat.le_refl _),fun y c h=>?_,fun p hp=>absurd (show p∈([]:List (Addr×Obj)) from hp) (by simp),e0.hok.kept hk,?_⟩
 ·exact name_of_addr x.apart (PySem.mem_of_lookup h1) (PySem.mem_of_lookup h2)
 ·have hy:scope.names.lookup y=some .cell\/scope.names.lookup y=some .free:=hy
  rcases hy with hy | hy
  ·exact cell_has hy
  ·exact absurd rfl (S.nofree _ (PySem.mem_of_lookup hy))
 ·exact Nat.le_of_lt (x.above y c (PySem.mem_of_lookup h))
 ·have hi:i<vs.length:=by
   unfold start at h2;by_cases hi:i<vs.length
   ·exact hi
   ·rw[List.getElem?_append_right (by simpa using hi)] at h2
    rw[List.getElem?_replicate] at h2;split at h2<;>cases h2
  have ha:vs[i]?=some v:=by
   unfold start at h2;rw[List.getElem?_append_left (by simpa using hi),List.getElem?_map] at h2;cases e:vs[i]? with
   | none=>rw[e] at h2;cases h2
   | some a=>rw[e] at h2;cases h2;rfl
  obtain⟨u,hu,rv⟩:=r.get ha;have hp:ps[i]?=some y:=by
   rw[<-S.pre,List.getElem?_take_of_lt (by omega)];exact h1
  have ndP:ps.Nodup:=by rw[<-S.pre];exact S.nd.sublist (List.take_sublist _ _)
  refine⟨u,rv,?_⟩;rcases S.par y (List.mem_of_getElem? hp) with k | k
  ·exact .inl ⟨k,bindL_get ndP hp hu k⟩
  ·obtain⟨c,e⟩:=cell_has (n:=s.heap.objs.size+1) k
   refine .inr ⟨.inl k,c,e,?_⟩;have q:=x.cell y c e;rw[bindC_get ndP hp hu (by show scope.names.lookup y≠_;rw[k];decide)] at q;exact q
 ·exact e0.hok.fresh (Nat.le_of_lt (x.above y c (PySem.mem_of_lookup h)))
 ·unfold start
  show _=N.length;rw[List.length_append,List.length_map,List.length_replicate];omega
set_option tactic.hygienic true in
theorem fn_of {CX:CXT} {P:Program} {w:World} {K:PySem.W.Frag} {mg:Str->Option Value} {base:Heap} {k:Nat} {f:Addr} {name qual:Str} {params:Arguments} {body:List Stmt} {scope:Scope} {dV kV doc pm cdv ct oc:Value} {an od:Option Addr}
 {osl:Array (Option Value)} {N ps:List Str} {sp:Sp} (lk:K.lookup f=some ⟨oc,od,.func (PySem.W.fnOf name qual params body scope dV kV doc pm an cdv ct),osl⟩) (hcd:PySem.W.codeIn K cdv qual=true) (S:zc0 N ps scope)
 (len:∀vs H Q E,sp vs H Q E->vs.length=ps.length)
 (hbody:∀(A:Around) (outer:List Env) (s:Shared) (H:Hp) (vs:List V) (Q:VK) (E:XK),Room k (A.deeper (envOfC qual scope s.heap.objs.size f cdv))->sp vs H Q E->
  ∃t,PSs (cxOf CX P w K mg base N qual scope f cdv A outer s H E) body t/\t { nx:=fun _ H'=>Q .non H',rt:=Q } (start N vs) H) :
 FnOk P w K mg base CX (k+1) f (PySem.W.fnOf name qual params body scope dV kV doc pm an cdv ct) ps sp:=by
 refine⟨len,fun A outer s H args us vs Q E hr e0 hb r hsp=>?_⟩;have hl:=len _ _ _ _ hsp;have KX:K.In s.heap:=e0.mod.kin.keeps fun b o e=>(e0.bs b o e).1
 have lim:s.heap.NoLimit:=e0.mod.nolimit.keeps fun b o e=>(e0.bs b o e).1
 have hkind:∀y∈ps.zip us,scope.names.lookup y.1=some .local\/(scope.names.lookup y.1=some .cell/\((cellsFrom (s.heap.objs.size+1) scope.names []).lookup y.1).isSome=true):=fun hI2 hy=>by
  obtain⟨n,v⟩:=hI2;rcases S.par n (List.of_mem_zip hy).1 with q | q
  ·exact .inl q
  ·exact .inr ⟨q,PySem.W.cellsFrom_some _ _ _ (.inl q)⟩
 refine codeAny_call_function hr.depth (KX _ _ lk) rfl S.co S.gen rfl (PySem.W.codeRec_of KX hcd) (hb _ _ _ _ ?_);refine wpAny_newFunctionEnv_cells S.kind hkind fun env he s1 x=>?_
 subst he;refine⟨lim.keeps x.toInCall.keep,codeAny_func ?_⟩;obtain⟨t,ht,hq⟩:=hbody A outer s H vs Q E (hr.deeper _) hsp;have I:Inv (cxOf CX P w K mg base N qual scope f cdv A outer s H E) [] (start N vs) H s1:=inv_start S hr.hd e0 hl r x;refine wpAny_mono (ht [] s1 (start N vs) H _ I hq) (fun fl s' hs=>?_) fun e s' hs=>hs
 have fin:∀{σ':St} {H':Hp} {v:V} {u:Value},Inv (cxOf CX P w K mg base N qual scope f cdv A outer s H E) [] σ' H' s'->RelV v u->Q v H'->CE outer P w H s Q u s':=
  fun {σ' H' v u} J rv q=>⟨v,H',J.os,J.bare,J.base,J.hok,rv,q⟩
 cases fl with
 | ret u=>
   obtain⟨v,σ',H',J,rv,q⟩:=hs;exact fin J rv q
 | next=>
   obtain⟨σ',H',J,q⟩:=hs;exact fin (v:=V.non) (u:=Value.none) J rfl q
 | brk=>
   obtain⟨_,_,_,q⟩:=hs;exact False.elim q
 | cont=>
   obtain⟨_,_,_,q⟩:=hs;exact False.elim q
end L2
namespace L2
open PySem PySem.Spec PyProof.Rows
section
variable {X:Cx} {x:Str} {p pos:Pos} {e:Expr} {es:List Expr} {t:TA} {id T:String} {r:List V->Hp->VK->Prop}
noncomputable def tCB (r:List V->Hp->VK->Prop) (t:TA):TE:=fun σ H Q=>t σ H fun vs H1=>r vs H1 Q
theorem zn8 (hc:CallR X (.builtin id) r) (hg:Gl X x) (hm:X.mg x=none) (hv:bootBuiltins x=some (.builtin id)) (ha:PA X (e::es) t) (hn:x≠"__name__":=by decide) (hdb:(x == ("__debug__" : Str))=false:=by decide)
 (he:starEach (e::es) X.env=(false,eval e X.env)::starEach es X.env:=by rfl) (hpl:(backTo pos (starEach es X.env)).any (·.1)=false:=by rfl):PE X (.Call (.Name x p) (e::es) [] pos) (tCB r t):=by
 intro pins s σ H Q I h;refine wpAny_Call_Name_kw (ld_blt I hg hm hv ?_ hn hdb);exact PyProof.Rows.callWith_builtin1 (thn (ha pos pins s σ H _ I h) fun us s1 ⟨vs,H1,I1,r1,q1⟩=>hc pins s1 σ H1 vs us Q I1 r1 q1) he hpl
theorem pe_callTy (hc:CallR X (.type T) r) (hg:Gl X x) (hm:X.mg x=none) (hv:bootBuiltins x=some (.type T)) (ha:PA X (e::es) t) (hn:x≠"__name__":=by decide) (hdb:(x == ("__debug__" : Str))=false:=by decide)
 (he:starEach (e::es) X.env=(false,eval e X.env)::starEach es X.env:=by rfl) (hpl:(backTo pos (starEach es X.env)).any (·.1)=false:=by rfl):PE X (.Call (.Name x p) (e::es) [] pos) (tCB r t):=by
 intro pins s σ H Q I h;refine wpAny_Call_Name_kw (ld_blt I hg hm hv ?_ hn hdb);exact PyProof.Rows.callWith_type1 (thn (ha pos pins s σ H _ I h) fun us s1 ⟨vs,H1,I1,r1,q1⟩=>hc pins s1 σ H1 vs us Q I1 r1 q1) he hpl
end
end L2
namespace HT
open PySem PyProof.Rows
section
open PySem.SeqAt
open PySem.AutoSeq1 (wpAny_loadPart')
open PySem.MeetsSeq PySem.MeetsSeq2 PySem.MeetsSeq3
end
section
variable {prog:Program} {w:World} {A:Around} {E:Value->Shared->Prop} {s:Shared}
theorem cat_tup {t b:Addr} {vs ws:List Value} {Q:Value->Shared->Prop} (ht:IsTup s.heap t vs.toArray) (hb:IsTup s.heap b ws.toArray) (hv:vs≠[])
 (h1:ws=[]->Q (.ref t) s) (h2:ws≠[]->Q (.ref s.heap.objs.size) { s with heap:=s.heap.push { cls:=.type "tuple",data:=.seq (vs++ws).toArray } })
 (hsz:vs.length+ws.length<=sizeLine):wpAny (model prog w) A (binaryOp .Add (.ref t) (.ref b)) Q E s:=by
 obtain⟨⟨cls,dd,data,sl⟩,ho,hc,n,hd⟩:=id ht;obtain⟨⟨cls2,dd2,data2,sl2⟩,ho2,hc2,n2,hd2⟩:=id hb;simp only at hc hd hc2 hd2;subst hc hd hc2 hd2;have e:vs.toArray++ws.toArray=(vs++ws).toArray:=by simp
 by_cases hw:ws=[]
 ·exact concat_meets ⟨_,ho,rfl⟩ ⟨_,ho2,rfl⟩ noFill_tuple_add seq_tuple_add PySem.F.slot_tuple_add PySem.F.entry_tuple_add (PySem.F.args_tuple_add_2 _ _)
   (tuple_addW1 t b vs.toArray ws.toArray n n2 dd dd2 sl sl2 (by simpa using hv) (by simp[hw])) ⟨ho,ho2,h1 hw⟩
 ·refine concat_meets ⟨_,ho,rfl⟩ ⟨_,ho2,rfl⟩ noFill_tuple_add seq_tuple_add PySem.F.slot_tuple_add PySem.F.entry_tuple_add (PySem.F.args_tuple_add_2 _ _)
   (tuple_addW2 t b vs.toArray ws.toArray n n2 dd dd2 sl sl2 (by simpa using hv) (by simpa using hw) (by rw[List.size_toArray,List.size_toArray];exact hsz)) ⟨ho,ho2,?_⟩
  rw[e];exact h2 hw
noncomputable def sIx (n d:Nat):Option Int->Nat
 | none=>d
 | some v=>if v<0 then (v+(n:Int)).toNat else min v.toNat n
theorem sIx_nat (n d k:Nat):sIx n d (some (k:Int))=min k n:=by
 show (if (k:Int)<0 then ((k:Int)+(n:Int)).toNat else min (k:Int).toNat n)=min k n;rw[if_neg (by omega),Int.toNat_natCast]
end
end HT
namespace L2
open PySem PySem.Spec PyProof.Rows
noncomputable abbrev TO:=St->Hp->(Option Int->Hp->Prop)->Prop
noncomputable def PO (X:Cx) (e:Option Expr) (t:TO):Prop:=
 ∀(pins:List (Addr×Obj)) (s:Shared) (σ:St) (H:Hp) (Q:Option Int->Hp->Prop),Inv X pins σ H s->t σ H Q->
  wpAny (model X.prog X.w) X.A (evalPart e X.env) (fun u s'=>∃o H',Inv X pins σ H' s'/\IsPart u o/\Q o H') X.xe s
noncomputable def tNoPart:TO:=fun _ H Q=>Q none H
noncomputable def tPart (t:TE):TO:=fun σ H Q=>t σ H fun x H1=>∃i,x=.int i/\Q (some i) H1
theorem intsAre_of {ns:List Int}:∀{us:List Value},Vals (ns.map V.int) us->IntsAre us ns:=by
 induction ns with
 | nil=>intro us r;rw[List.map_nil] at r;cases r;exact .nil
 | cons n ns ih=>
   intro us r;rw[List.map_cons] at r;cases r with
   | cons r1 r2=>
     obtain⟨t,e⟩:=r1;subst e;exact .cons n t (ih r2)
section
variable {X:Cx} {e:Expr} {te:TE} {lo hi:Option Expr} {tl th:TO} {pos p2:Pos}
theorem po_none:PO X none tNoPart:=by
 intro pins s σ H Q I h;rw[evalPart_none];exact wpAny_pure ⟨none,H,I,.none,h⟩
theorem po_some (h:PE X e te):PO X (some e) (tPart te):=by
 intro pins s σ H Q I hw;rw[evalPart_some];refine thn (h pins s σ H _ I hw) fun u s1 hI78=>?_
 obtain⟨x,H1,I1,r1,q1⟩:=hI78;obtain⟨i,rfl,q⟩:=q1;obtain⟨t,rfl⟩:=r1;exact⟨some i,H1,I1,.int i t,q⟩
noncomputable def SlR (X:Cx) (r:V->Option Int->Option Int->Hp->VK->Prop):Prop:=
 ∀(pins:List (Addr×Obj)) (s:Shared) (σ:St) (H:Hp) (x:V) (v vl vu:Value) (lo hi:Option Int) (sl:Addr) (Q:VK),Inv X pins σ H s->RelV x v->s.heap.IsSliceOf sl vl vu .none->IsPart vl lo->IsPart vu hi->r x lo hi H Q->
  ∃T id,typeLookup (.type T) "__getitem__" = pure (some (.builtin id))/\s.TypeIs v T/\wpAny (model X.prog X.w) X.A (getItem v (.ref sl)) (EP X pins σ Q) X.xe s
theorem SlR.or {r r':V->Option Int->Option Int->Hp->VK->Prop} (h:SlR X r) (h':SlR X r'):SlR X (fun x lo hi H Q=>r x lo hi H Q\/r' x lo hi H Q):=by
 intro pins s σ H x v vl vu lo hi sl Q I rx hs pl pu q;rcases q with q | q
 ·exact h pins s σ H x v vl vu lo hi sl Q I rx hs pl pu q
 ·exact h' pins s σ H x v vl vu lo hi sl Q I rx hs pl pu q
noncomputable def tSl (r:V->Option Int->Option Int->Hp->VK->Prop) (te:TE) (tl th:TO):TE:=fun σ H Q=>te σ H fun x H1=>tl σ H1 fun l H2=>th σ H2 fun u H3=>r x l u H3 Q
theorem pe_slice {r:V->Option Int->Option Int->Hp->VK->Prop} (hr:SlR X r) (he:PE X e te) (hl:PO X lo tl) (hu:PO X hi th):PE X (.Subscript e (.Slice lo hi none p2) pos) (tSl r te tl th):=by
 intro pins s σ H Q I h;refine Subscript_ (thn (he pins s σ H _ I h) fun v s1 hI79=>?_);obtain⟨x,H1,I1,r1,q1⟩:=hI79;refine wpAny_Slice (thn (hl pins s1 σ H1 _ I1 q1) fun vl s2 ⟨l,H2,I2,pl,q2⟩=>thn (hu pins s2 σ H2 _ I2 q2) fun vu s3 hI80=>?_);obtain⟨u,H3,I3,pu,q3⟩:=hI80;rw[evalPart_none];refine wpAny_pure ?_;have I4:Inv X pins σ H3 { s3 with heap:=s3.heap.push { cls:=.type "slice",data:=.fields #[vl,vu,.none] } }:=I3.kept (t':=s3.toks) fun b ob q=>Heap.get?_push_of_some _ q
 obtain⟨T,id,hT,ht,hg⟩:=hr pins { s3 with heap:=s3.heap.push { cls:=.type "slice",data:=.fields #[vl,vu,.none] } } σ H3 x v vl vu l u s3.heap.objs.size Q I4 r1 (Heap.IsSliceOf.new ..) pl pu q3;show wpAny (model X.prog X.w) X.A (subscriptTail e (.Slice lo hi none p2) v (.ref s3.heap.objs.size)) (EP X pins σ Q) X.xe { s3 with heap:=s3.heap.push { cls:=.type "slice",data:=.fields #[vl,vu,.none] } };exact tail_any (ops:=[.ref s3.heap.objs.size,v]) ht hT hg (by with_unfolding_all rfl)
noncomputable def cutV (xs:List V) (lo hi:Option Int):List V:=(xs.drop (HT.sIx xs.length 0 lo)).take (HT.sIx xs.length xs.length hi-HT.sIx xs.length 0 lo)
theorem cutV_length (xs:List V) (lo hi:Option Int):(cutV xs lo hi).length<=xs.length:=by
 unfold cutV;rw[List.length_take,List.length_drop];omega
noncomputable def rCatT (K:PySem.W.Frag):R2:=fun x y H Q=>∃a b xs ys,x=.ref a/\y=.ref b/\SqT K H a xs/\SqT K H b ys/\xs≠[]/\xs.length+ys.length<=sizeLine/\
 (ys=[]->Q (.ref a) H)/\(ys≠[]->∀p,H p=none->Q (.ref p) (upd H p (.tup (xs++ys))))
theorem Vals.nil_iff {xs:List V} {us:List Value} (r:Vals xs us):us=[]↔xs=[]:=by
 cases r with
 | nil=>simp
 | cons _ _=>simp
theorem op_catT:OpR X (binaryOp .Add) (rCatT X.K):=by
 intro pins s σ H x y v u Q I rx ry h;obtain⟨a,b,xs,ys,rfl,rfl,ha,hb,hx,hz,q1,q2⟩:=h;cases rx;cases ry;obtain⟨its,r1,p1,_⟩:=I.tuple ha;obtain⟨its2,r2,p2,_⟩:=I.tuple hb;refine HT.cat_tup p1 p2 (fun z=>hx (r1.nil_iff.mp z)) (fun z=>⟨.ref a,H,I,rfl,q1 (r2.nil_iff.mp z)⟩) (fun z=>?_) (by rw[<-r1.length,<-r2.length];exact hz);refine⟨.ref s.heap.objs.size,_,I.laid (t':=s.toks) (o:=.tup (xs++ys)) (fun b ob q=>Heap.get?_push_of_some _ q) (Nat.le_refl _) ?_,rfl,q2 (fun w=>z (r2.nil_iff.mpr w)) _ (I.hok.fresh (Nat.le_refl _))⟩;exact⟨by rw[List.length_append];exact hz,_,r1.append r2,IsTup.new _ _⟩
end
end L2
namespace L2
open PySem PySem.Spec PyProof.Rows
noncomputable def ixN (n:Nat) (i:Int):Option Nat:=if 0<=i then (if i<n then some i.toNat else none) else if -(n:Int)<=i then some (i+n).toNat else none
noncomputable def atI {α:Type} (xs:List α) (i:Int):Option α:=(ixN xs.length i).bind fun j=>xs[j]?
theorem ixN_seq {n:Nat} {i:Int} {j:Nat} (h:ixN n i=some j):seqIndex? i n=some j/\j<n/\-(n:Int)<=i/\i<n:=by
 unfold ixN at h;by_cases h0:0<=i
 ·rw[if_pos h0] at h
  by_cases h1:i<n
  ·rw[if_pos h1] at h
   have e:i.toNat=j:=Option.some.inj h;exact⟨by rw[seqIndex_of h0 h1,e],by omega,by omega,h1⟩
  ·rw[if_neg h1] at h;cases h
 ·rw[if_neg h0] at h
  by_cases h1:-(n:Int)<=i
  ·rw[if_pos h1] at h
   have e:(i+n).toNat=j:=Option.some.inj h;exact⟨by rw[seqIndex_neg (by omega) h1,e],by omega,h1,by omega⟩
  ·rw[if_neg h1] at h;cases h
theorem atI_get {α:Type} {xs:List α} {i:Int} {v:α} (h:atI xs i=some v):∃j,seqIndex? i xs.length=some j/\xs[j]?=some v/\j<xs.length/\-(xs.length:Int)<=i/\i<xs.length:=by
 unfold atI at h;cases e:ixN xs.length i with
 | none=>rw[e] at h;cases h
 | some j=>
   rw[e] at h;obtain⟨h1,h2,h3,h4⟩:=ixN_seq e;exact⟨j,h1,h,h2,h3,h4⟩
theorem atI_nat {α:Type} {xs:List α} {j:Nat} {v:α} (h:xs[j]?=some v):atI xs (j:Int)=some v:=by
 have hj:j<xs.length:=(List.getElem?_eq_some_iff.mp h).1;have e:ixN xs.length (j:Int)=some j:=by
  unfold ixN;rw[if_pos (by omega),if_pos (by omega)];simp
 unfold atI;rw[e];exact h
noncomputable def PlainIx (b:Expr):Prop:=∀o i,subscripted b false o i=operate [o,i] (getItem o i)
noncomputable def IxR (X:Cx) (r:R2):Prop:=
 ∀(value slice:Expr) (pins:List (Addr×Obj)) (s:Shared) (σ:St) (H:Hp) (x y:V) (v u:Value) (Q:VK),Inv X pins σ H s->RelV x v->RelV y u->r x y H Q->
  subscripted slice false v u=operate [v,u] (getItem v u)->wpAny (model X.prog X.w) X.A (subscriptTail value slice v u) (EP X pins σ Q) X.xe s
noncomputable def MtR (X:Cx) (id:String) (r:V->List V->Hp->VK->Prop):Prop:=
 ∀(pins:List (Addr×Obj)) (s:Shared) (σ:St) (H:Hp) (x:V) (xs:List V) (v:Value) (us:List Value) (Q:VK),Inv X pins σ H s->RelV x v->Vals xs us->r x xs H Q->
  wpAny (model X.prog X.w) X.A (call (.builtin id) (v::us)) (EP X pins σ Q) X.xe s
section
variable {X:Cx} {a b:Expr} {ta tb:TE} {pos:Pos}
theorem IxR.or {r r':R2} (h:IxR X r) (h':IxR X r'):IxR X (fun x y H Q=>r x y H Q\/r' x y H Q):=by
 intro value slice pins s σ H x y v u Q I rx ry q hs;rcases q with q | q
 ·exact h value slice pins s σ H x y v u Q I rx ry q hs
 ·exact h' value slice pins s σ H x y v u Q I rx ry q hs
theorem pe_ix {r:R2} (hr:IxR X r) (ha:PE X a ta) (hb:PE X b tb) (hs:PlainIx b):PE X (.Subscript a b pos) (tOp r ta tb):=by
 intro pins s σ H Q I h;exact Subscript_ (binT ha hb I h fun v u s2 x y H2 I2 rx ry q=>hr a b pins s2 σ H2 x y v u Q I2 rx ry q (hs _ _))
noncomputable def rIxL (K:PySem.W.Frag):R2:=fun x y H Q=>∃p xs i v,x=.ref p/\y=.int i/\SqL K H p xs/\atI xs i=some v/\Q v H
noncomputable def rIxT (K:PySem.W.Frag):R2:=fun x y H Q=>∃p xs i v,x=.ref p/\y=.int i/\SqT K H p xs/\atI xs i=some v/\Q v H
noncomputable def rIxS:R2:=fun x y H Q=>∃z i c,x=.str z/\y=.int i/\z.length<=sizeLine/\atI z.cps.toList i=some c/\Q (.str ⟨#[c]⟩) H
theorem ix_list:IxR X (rIxL X.K):=by
 intro value slice pins s σ H x y v u Q I rx ry h hs;obtain⟨p,xs,i,z,rfl,rfl,hq,he,q⟩:=h;cases rx;obtain⟨t,rfl⟩:=ry;obtain⟨its,r,pl,hz⟩:=I.list hq;obtain⟨j,h1,h2,h3,h4,h5⟩:=atI_get he;obtain⟨w,ew,rw'⟩:=r.get h2;have hl:=r.length;have hn:=line63;have fin:EP X pins σ Q w s:=⟨z,H,I,rw',q⟩;by_cases h0:0<=i
 ·have hj:i.toNat=j:=by
   rw[seqIndex_of h0 h5] at h1;exact Option.some.inj h1
  exact item_listR pl.isList h0 (by omega) (by rw[hj];simpa using ew) fin hs
 ·have hj:(i+(its.toArray.size:Int)).toNat=j:=by
   rw[seqIndex_neg (by omega) h4] at h1;rw[List.size_toArray,<-hl];exact Option.some.inj h1
  exact subscriptTail_builtinR (x:=w) pl.isList.typeIs slot_list_getitem.lookup
   (wpAny_getItem_list_neg (Q:=fun r s'=>r=w/\EP X pins σ Q r s') pl.isList (by omega) (by rw[List.size_toArray]<;>omega) (by omega) (by rw[hj];simpa using ew) ⟨rfl,fin⟩) hs
theorem ix_tup:IxR X (rIxT X.K):=by
 intro value slice pins s σ H x y v u Q I rx ry h hs;obtain⟨p,xs,i,z,rfl,rfl,hq,he,q⟩:=h;cases rx;obtain⟨t,rfl⟩:=ry;obtain⟨its,r,pl,hz⟩:=I.tuple hq;obtain⟨j,h1,h2,h3,h4,h5⟩:=atI_get he;obtain⟨w,ew,rw'⟩:=r.get h2;have hl:=r.length;have hn:=line63;have fin:EP X pins σ Q w s:=⟨z,H,I,rw',q⟩;exact subscriptTail_builtinR (x:=w) pl.typeIs slot_tuple_getitem.lookup
  (getItem_tuple (j:=j) (Q:=fun r s'=>r=w/\EP X pins σ Q r s') pl (by omega) (by omega) (by rw[List.size_toArray,<-hl];exact h1) (by simpa using ew) ⟨rfl,fin⟩) hs
theorem ix_str:IxR X rIxS:=by
 intro value slice pins s σ H x y v u Q I rx ry h hs;obtain⟨z,i,c,rfl,rfl,hz,he,q⟩:=h;obtain⟨t,rfl⟩:=rx;obtain⟨t',rfl⟩:=ry;obtain⟨j,h1,h2,h3,h4,h5⟩:=atI_get he;have hl:z.cps.toList.length=z.length:=by simp[Str.length]
 rw[hl] at h1 h4 h5;have hn:=line63;exact tail_any (typeIs_str s z t) slot_str_getitem.lookup (getItem_str (c:=c) (by
  have e1:decide (i < -(2 ^ 63:Int))=false:=decide_eq_false (by omega);have e2:decide (i>=2 ^ 63)=false:=decide_eq_false (by omega);rw[e1,e2,Bool.or_false]) (by rw[h1];simpa using h2) ⟨.str ⟨#[c]⟩,H,I.tok _,⟨_,rfl⟩,q⟩) hs
noncomputable def rIx (K:PySem.W.Frag):R2:=fun x y H Q=>rIxL K x y H Q\/rIxT K x y H Q\/rIxS x y H Q
theorem ix_seq:IxR X (rIx X.K):=ix_list.or (ix_tup.or ix_str)
theorem mapSeq_set (its:List Value) (n j:Nat) (u:Value):Obj.mapSeq (·.setIfInBounds j u) { cls:=.type "list",data:=.seq its.toArray n }={ cls:=.type "list",data:=.seq (its.set j u).toArray n }:=by
 simp[Obj.mapSeq]
theorem Inv.lst {pins:List (Addr×Obj)} {σ:St} {H:Hp} {s:Shared} {p:Addr} {xs:List V} (I:Inv X pins σ H s) (h:H p=some (.lst xs)) :
 ∃(its:List Value) (n:Nat),Vals xs its/\s.heap.get? p=some { cls:=.type "list",data:=.seq its.toArray n }/\xs.length<=sizeLine:=by
 obtain⟨z,its,n,r,e⟩:=I.hok p _ h;exact⟨its,n,r,e,z⟩
theorem Inv.lstUpd {pins:List (Addr×Obj)} {σ:St} {H:Hp} {s:Shared} {p:Addr} {xs ys:List V} {its its':List Value} {n n':Nat} {f:Obj->Obj} (I:Inv X pins σ H s) (h:H p=some (.lst xs))
 (ho:s.heap.get? p=some { cls:=.type "list",data:=.seq its.toArray n }) (hf:f { cls:=.type "list",data:=.seq its.toArray n }={ cls:=.type "list",data:=.seq its'.toArray n' }) (r:Vals ys its') (hz:ys.length<=sizeLine) (t:Nat) :
 Inv X pins σ (upd H p (.lst ys)) { s with heap:=s.heap.update p f,toks:=t }:=by
 have e:(s.heap.update p f).get? p=some { cls:=.type "list",data:=.seq its'.toArray n' }:=by
  rw[Heap.get?_update_self f ho (by rw[hf]<;>rfl),hf]
 refine I.write (x:=p) (e:=p) (by rw[h];trivial) (.inl rfl) (fun b u hb q=>(Heap.get?_update_other _ _ (Ne.symm hb)).trans q) ⟨_,e⟩ ?_;exact⟨hz,its',n',r,e⟩
noncomputable def rSetL:V->V->V->Hp->(Hp->Prop)->Prop:=fun o i v H Q=>∃p xs k j,o=.ref p/\i=.int k/\H p=some (.lst xs)/\ixN xs.length k=some j/\Q (upd H p (.lst (xs.set j v)))
theorem set_list:PSet X rSetL:=by
 intro pins s σ H o i v ov iv u Q I ro ri rv h;obtain⟨p,xs,k,j,rfl,rfl,hp,hj,q⟩:=h;cases ro;obtain⟨t,rfl⟩:=ri;obtain⟨its,n,r,ho,hz⟩:=I.lst hp;obtain⟨h1,h2,h3,h4⟩:=ixN_seq hj;have hl:=r.length;have hn:=line63;have I':Inv X pins σ (upd H p (.lst (xs.set j v))) { s with heap:=s.heap.update p (Obj.mapSeq (·.setIfInBounds j u)) }:=
  I.lstUpd hp ho (mapSeq_set its n j u) (r.set rv j) (by rw[List.length_set];exact hz) s.toks
 by_cases h0:0<=k
 ·have hk:k.toNat=j:=by
   rw[seqIndex_of h0 h4] at h1;exact Option.some.inj h1
  exact PySem.W.ki_setAt ho h0 (by omega) (by rw[List.size_toArray,<-hl];exact h4) (by rw[hk];exact⟨_,I',q⟩)
 ·have hk:(k+(its.toArray.size:Int)).toNat=j:=by
   rw[seqIndex_neg (by omega) h3] at h1;rw[List.size_toArray,<-hl];exact Option.some.inj h1
  exact PySem.W.ki_setBack ho (by omega) (by rw[List.size_toArray,<-hl];exact h3) (by omega) (by rw[hk];exact⟨_,I',q⟩)
theorem slice_bounds (lo hi:Option Int) (n:Nat):(sliceBounds lo hi none n).1=((HT.sIx n 0 lo:Nat):Int)/\(sliceBounds lo hi none n).2.1=((HT.sIx n n hi:Nat):Int)/\(sliceBounds lo hi none n).2.2=1:=by
 refine⟨?_,?_,rfl⟩
 ·cases lo with
  | none=>simp[sliceBounds,HT.sIx]
  | some i=>
    simp only[sliceBounds,HT.sIx,Option.getD_none,show (1:Int)>0 by decide,if_true];by_cases h:i<0
    ·simp only[h,if_true]<;>omega
    ·simp only[h,if_false]<;>omega
 ·cases hi with
  | none=>simp[sliceBounds,HT.sIx]
  | some i=>
    simp only[sliceBounds,HT.sIx,Option.getD_none,show (1:Int)>0 by decide,if_true];by_cases h:i<0
    ·simp only[h,if_true]<;>omega
    ·simp only[h,if_false]<;>omega
theorem slicePick_cut (its:List Value) (lo hi:Option Int):slicePick its.toArray lo hi none=((its.drop (HT.sIx its.length 0 lo)).take (HT.sIx its.length its.length hi-HT.sIx its.length 0 lo)).toArray:=by
 obtain⟨h1,h2,h3⟩:=slice_bounds lo hi its.toArray.size;unfold slicePick;rw[h1,h2,h3];simp only[sliceRange_one,pick_run,List.size_toArray]<;>rfl
noncomputable def rSlL (K:PySem.W.Frag):V->Option Int->Option Int->Hp->VK->Prop:=fun x lo hi H Q=>∃a xs,x=.ref a/\SqL K H a xs/\∀p,H p=none->Q (.ref p) (upd H p (.lst (cutV xs lo hi)))
theorem sl_list:SlR X (rSlL X.K):=by
 intro pins s σ H x v vl vu lo hi sl Q I rx hs pl pu h;obtain⟨a,xs,rfl,hx,q⟩:=h;cases rx;obtain⟨its,r,ht,hz⟩:=I.list hx;have hlen:=r.length;refine⟨"list",_,slot_list_getitem.lookup,ht.isList.typeIs,?_⟩;refine wpAny_getItem_list_slice ht.isList hs pl pu .none (by simp) ?_ (by rw[List.size_toArray]<;>omega);rw[slicePick_cut,<-hlen];refine⟨.ref s.heap.objs.size,_,I.laid (t':=s.toks) (o:=.lst (cutV xs lo hi)) (fun b ob q=>Heap.get?_push_of_some _ q) (Nat.le_refl _) ?_,rfl,q _ (I.hok.fresh (Nat.le_refl _))⟩;exact⟨Nat.le_trans (cutV_length xs lo hi) hz,_,0,(r.drop (HT.sIx xs.length 0 lo)).take (HT.sIx xs.length xs.length hi-HT.sIx xs.length 0 lo),Heap.get?_push_size _ rfl⟩
theorem zc6:CallR X (.builtin "len") (fun xs H Q=>∃p ys,xs=[.ref p]/\(SqL X.K H p ys\/SqT X.K H p ys)/\Q (.int ys.length) H):=by
 intro pins s σ H xs us Q I r h;obtain⟨p,ys,rfl,hq,q⟩:=h;obtain⟨u,rfl,rx⟩:=vals1 r;cases rx;have hn:=line63;rcases hq with hq | hq
 ·obtain⟨its,r',pl,hz⟩:=I.list hq
  have hlen:=r'.length;exact Calls.call_len_list pl.isList (by simp only[List.size_toArray]<;>omega) ⟨.int ys.length,H,I.tok _,⟨s.toks+1,by rw[List.size_toArray,hlen]⟩,q⟩
 ·obtain⟨its,r',pl,hz⟩:=I.tuple hq
  have hlen:=r'.length;exact len_tuple pl (by simp only[List.size_toArray]<;>omega) ⟨.int ys.length,H,I.tok _,⟨s.toks+1,by rw[List.size_toArray,hlen]⟩,q⟩
theorem call_list_of:CallR X (.type "list") (fun xs H Q=>∃p ys,xs=[.ref p]/\(SqL X.K H p ys\/SqT X.K H p ys)/\∀l,H l=none->Q (.ref l) (upd H l (.lst ys))):=by
 intro pins s σ H xs us Q I r h;obtain⟨p,ys,rfl,hq,q⟩:=h;obtain⟨u,rfl,rx⟩:=vals1 r;cases rx;have fin:∀(its:List Value),Vals ys its->ys.length<=sizeLine->∀(h':Heap) (c':Nat),(∀b o',s.heap.get? b=some o'->h'.get? b=some o')->
  h'.get? s.heap.objs.size=some { cls:=.type "list",dict:=none,data:=.seq its.toArray c',slots:=#[] }->EP X pins σ Q (.ref s.heap.objs.size) { s with heap:=h' }:=fun its r' hz h' c' kp e=>
  ⟨.ref s.heap.objs.size,_,I.laid (t':=s.toks) kp (Nat.le_refl _) (show ObjOk X.prog X.w _ h' _ (.lst ys) from⟨hz,its,c',r',e⟩),rfl,q _ (I.hok.fresh (Nat.le_refl _))⟩
 rcases hq with hq | hq
 ·obtain⟨its,r',pl,hz⟩:=I.list hq
  have hlen:=r'.length;obtain⟨o,ho,hc,n,hd⟩:=pl.isList;exact call_list_seq p (.inl rfl) ho hc hd (fun h' c' kp e=>fin its r' hz h' c' kp e) (by simp only[List.size_toArray]<;>omega)
 ·obtain⟨its,r',pl,hz⟩:=I.tuple hq
  have hlen:=r'.length;obtain⟨o,ho,hc,n,hd⟩:=pl;exact call_list_seq p (.inr rfl) ho hc hd (fun h' c' kp e=>fin its r' hz h' c' kp e) (by simp only[List.size_toArray]<;>omega)
theorem zf7:CallR X (.type "tuple") (fun xs H Q=>∃p ys,xs=[.ref p]/\((SqL X.K H p ys/\∀l,H l=none->Q (.ref l) (upd H l (.tup ys)))\/(SqT X.K H p ys/\Q (.ref p) H))):=by
 intro pins s σ H xs us Q I r h;obtain⟨p,ys,rfl,h⟩:=h;obtain⟨u,rfl,rx⟩:=vals1 r;cases rx;rcases h with⟨hq,q⟩ | ⟨hq,q⟩
 ·obtain⟨its,r',pl,hz⟩:=I.list hq
  have hlen:=r'.length;refine call_tuple_list pl.isList (fun h' kp=>?_) (by simp only[List.size_toArray]<;>omega);have I1:Inv X pins σ H { s with heap:=h' }:=I.kept (t':=s.toks) kp;have I2:Inv X pins σ (upd H h'.objs.size (.tup ys)) { s with heap:=h'.push { cls:=.type "tuple",data:=.seq its.toArray } }:=
   I1.laid (t':=s.toks) (fun b o e=>Heap.get?_push_of_some _ e) (Nat.le_refl _) (show ObjOk X.prog X.w _ _ _ (.tup ys) from⟨hz,its,r',IsTup.new _ _⟩)
  exact⟨.ref h'.objs.size,_,I2,rfl,q _ (I1.hok.fresh (Nat.le_refl _))⟩
 ·obtain⟨its,r',pl,hz⟩:=I.tuple hq
  exact call_tuple_same pl ⟨.ref p,H,I,rfl,q⟩
noncomputable def tyV (K:PySem.W.Frag) (T:String) (x:V) (H:Hp):Prop:=match x with
 | .str _=>T = "str"
 | .int _=>T = "int"
 | .ref p=>(T = "list"/\∃xs,SqL K H p xs)\/(T = "tuple"/\∃o,K.lookup p=some o/\o.cls=.type "tuple"/\o.dict=none)\/
  (T = "dict"/\((∃kvs,H p=some (.dK kvs))\/∃kvs,H p=some (.dT kvs)))\/(T = "set"/\∃S n,H p=some (.set S n))
 | _=>False
theorem tyV_is {pins:List (Addr×Obj)} {σ:St} {H:Hp} {s:Shared} {T:String} {x:V} {v:Value} (I:Inv X pins σ H s) (r:RelV x v) (ty:tyV X.K T x H) :
 s.TypeIs v T/\∀a,v=.ref a->∃ob,s.heap.get? a=some ob/\ob.dict=none:=by
 cases x with
 | str z=>
   obtain⟨t,rfl⟩:=r;cases (show T = "str" from ty);exact⟨typeIs_str s z t,fun _ e=>nomatch e⟩
 | int i=>
   obtain⟨t,rfl⟩:=r;cases (show T = "int" from ty);exact⟨typeIs_int s i t,fun _ e=>nomatch e⟩
 | ref p=>
   cases r;rcases ty with⟨rfl,xs,hq⟩ | ⟨rfl,o,hk,hc,hd⟩ | ⟨rfl,hk⟩ | ⟨rfl,S,n,hk⟩
   ·obtain⟨its,_,pl,_⟩:=I.list hq
    refine⟨pl.isList.typeIs,fun a e=>?_⟩;cases e;obtain⟨o,n,e,c,hd,_⟩:=pl;exact⟨o,e,hd⟩
   ·refine⟨⟨o,I.kIn p o hk,hc⟩,fun a e=>?_⟩
    cases e;exact⟨o,I.kIn _ o hk,hd⟩
   ·have z:∃o,s.heap.get? p=some o/\o.ExactDict:=by
     rcases hk with⟨kvs,hk⟩ | ⟨kvs,hk⟩
     ·obtain⟨_,_,_,_,o,_,_,e,ex,_⟩:=I.hok p _ hk
      exact⟨o,e,ex⟩
     ·obtain⟨_,_,_,_,o,_,_,e,ex,_⟩:=I.hok p _ hk
      exact⟨o,e,ex⟩
    obtain⟨o,e,ex⟩:=z;refine⟨⟨o,e,ex.1⟩,fun a e2=>?_⟩;cases e2;exact⟨o,e,ex.2.1⟩
   ·obtain⟨o,_,_,_,e,ex,_⟩:=I.hok p _ hk
    refine⟨⟨o,e,ex.1⟩,fun a e2=>?_⟩;cases e2;exact⟨o,e,ex.2.1⟩
 | _=>exact False.elim ty
noncomputable def tBM (K:PySem.W.Frag) (T:String) (r:V->List V->Hp->VK->Prop) (to:TE) (t:TA):TE:=fun σ H Q=>to σ H fun x H1=>tyV K T x H1/\t σ H1 fun xs H2=>r x xs H2 Q
variable {o e:Expr} {es:List Expr} {to:TE} {t:TA} {name:Str} {apos cpos:Pos} {T id:String} {r:V->List V->Hp->VK->Prop}
theorem pe_bm (pa:PlainAttrs T) (slot:Slot T name id) (hty:typeOf (.builtin id)=pure (.type "method_descriptor")) (hm:MtR X id r) (ho:PE X o to) (ha:PA X (e::es) t)
 (hbase:attributeBase o name X.env (eval o X.env)=eval o X.env:=by rfl)
 (hfew:((backTo cpos (starEach (e::es) X.env)).all (fun x=>!x.1)&&(backToKw cpos (keywordEach [] X.env)).all (fun x=>x.1.isSome)
  && decide ((e::es).length+([]:List Keyword).length+(if ([]:List Keyword).isEmpty then 0 else 1)<30))=true:=by rfl)
 (hline:(apos.endLine == cpos.line)=true:=by rfl) (hs:starEach (e::es) X.env=(false,eval e X.env)::starEach es X.env:=by rfl) (hplain:(backTo cpos (starEach es X.env)).any (·.1)=false:=by rfl) :
 PE X (.Call (.Attribute o name apos) (e::es) [] cpos) (tBM X.K T r to t):=by
 intro pins s σ H Q I h;refine wpAny_Call_method_late hbase hfew hline rfl (thn (ho pins s σ H _ I h) fun v s1 hI81=>?_);obtain⟨x,H1,I1,r1,ty,q1⟩:=hI81;obtain⟨h1,h2⟩:=tyV_is I1 r1 ty;refine⟨T,id,pa,slot,hty,h1,h2,?_⟩;have hA:=ha cpos pins s1 σ H1 _ I1 q1;rw[hs] at hA ⊢;refine Calls.callWith_builtin (by show (false||(backTo cpos (starEach es X.env)).any (·.1))=false;rw[hplain]<;>rfl) (Calls.evalArgs_plain ?_);exact thn hA fun us s2 ⟨vs,H2,I2,r2,q2⟩=>hm pins s2 σ H2 x vs v us Q I2 r1 r2 q2
end
end L2
namespace L2
open PySem PySem.Spec PyProof.Rows
noncomputable def MtM (X:Cx) (id:String) (r:V->List V->Hp->VK->Prop):Prop:=
 ∀(pins:List (Addr×Obj)) (s:Shared) (σ:St) (H:Hp) (x:V) (xs:List V) (v:Value) (us:List Value) (Q:VK),Inv X pins σ H s->RelV x v->Vals xs us->r x xs H Q->
  wpAny (model X.prog X.w) X.A (call (.builtin id) (v::us)) (EP X pins σ Q) X.xe s
theorem Vals.unc {x:V} {xs:List V} {us:List Value} (h:Vals (x::xs) us):∃u r,us=u::r/\RelV x u/\Vals xs r:=by
 cases h with
 | cons r t=>exact⟨_,_,rfl,r,t⟩
theorem Vals.unn {us:List Value} (h:Vals [] us):us=[]:=by
 cases h;rfl
theorem Vals.one {x:V} {us:List Value} (h:Vals [x] us):∃u,us=[u]/\RelV x u:=by
 obtain⟨u,r,e,a,b⟩:=h.unc;rw[b.unn] at e;exact⟨u,e,a⟩
theorem Vals.reverse {xs:List V} {us:List Value} (h:Vals xs us):Vals xs.reverse us.reverse:=by
 induction h with
 | nil=>exact .nil
 | cons r t ih=>rw[List.reverse_cons,List.reverse_cons];exact Vals.append ih (.cons r .nil)
section
variable {X:Cx} {pins:List (Addr×Obj)} {σ:St} {H:Hp} {s:Shared} {l b:Addr} {xs ys zs:List V}
theorem Inv.lset {its its':List Value} {n:Nat} {f:Array Value->Array Value} {t':Nat} (I:Inv X pins σ H s) (hH:H l=some (.lst xs))
 (e:s.heap.get? l=some { cls:=.type "list",data:=.seq its.toArray n }) (hf:f its.toArray=its'.toArray) (hv:Vals ys its') (hz:ys.length<=sizeLine) :
 Inv X pins σ (upd H l (.lst ys)) { s with heap:=s.heap.update l (Obj.mapSeq f),toks:=t' }:=by
 have q:=PySem.IsL.update e f;rw[hf] at q;refine I.write (x:=l) (e:=l) (by rw[hH];exact trivial) (.inl rfl) (fun b' u hb hu=>(Heap.get?_update_other s.heap (Obj.mapSeq f) (Ne.symm hb)).trans hu) ⟨_,q⟩ ?_;exact⟨hz,its',_,hv,q⟩
theorem Inv.lnew {its:List Value} {t':Nat} (I:Inv X pins σ H s) (hv:Vals ys its) (hz:ys.length<=sizeLine) :
 Inv X pins σ (upd H s.heap.objs.size (.lst ys)) { s with heap:=s.heap.push { cls:=.type "list",data:=.seq its.toArray },toks:=t' }:=
 I.laid (fun _ _ q=>Heap.get?_push_of_some _ q) (Nat.le_refl _) ⟨hz,its,0,hv,Heap.get?_push_size _ rfl⟩
theorem Inv.fresh (I:Inv X pins σ H s):H s.heap.objs.size=none:=I.hok.fresh (Nat.le_refl _)
theorem Inv.lstM (I:Inv X pins σ H s) (hH:H l=some (.lst xs)):xs.length<=sizeLine/\∃(its:List Value) (n:Nat),Vals xs its/\xs.length=its.length/\s.heap.get? l=some { cls:=.type "list",data:=.seq its.toArray n }:=by
 obtain⟨z,its,n,r,e⟩:=I.hok l _ hH;exact⟨z,its,n,r,r.length,e⟩
theorem notLongL {n:Nat} (h:n<=sizeLine):Builtin.List.listTooLong n=false:=by
 unfold Builtin.List.listTooLong;exact decide_eq_false (by omega)
end
section
variable {X:Cx}
noncomputable def rAppend:V->List V->Hp->VK->Prop:=fun x vs H Q=>∃l xs y,x=.ref l/\vs=[y]/\H l=some (.lst xs)/\xs.length<sizeLine/\Q .non (upd H l (.lst (xs++[y])))
theorem zk8:MtM X "list.append" rAppend:=by
 intro pins s σ H x vs v us Q I rx rv h;obtain⟨l,xs,y,rfl,rfl,hH,hz,q⟩:=h;cases rx;obtain⟨u,rfl,ru⟩:=rv.one;obtain⟨z,its,n,r,hl,e⟩:=I.lstM hH;refine call_meets F.slot_list_append ⟨_,e,rfl⟩ F.entry_list_append (F.args_list_append_2 _ _) (PySem.list_append l its.toArray n u (by rw[List.size_toArray];omega)) ⟨e,?_⟩;refine⟨.non,_,I.lset (its':=its++[u]) hH e (by simp) (r.append (.cons ru .nil)) ?_,rfl,q⟩;rw[List.length_append,List.length_singleton];omega
noncomputable def rExtend:V->List V->Hp->VK->Prop:=fun x vs H Q=>∃l b xs zs,x=.ref l/\vs=[.ref b]/\H l=some (.lst xs)/\H b=some (.lst zs)/\xs.length+zs.length<=sizeLine/\Q .non (upd H l (.lst (xs++zs)))
theorem mt_extend:MtM X "list.extend" rExtend:=by
 intro pins s σ H x vs v us Q I rx rv h;obtain⟨l,b,xs,zs,rfl,rfl,hH,hB,hz,q⟩:=h;cases rx;obtain⟨u,rfl,ru⟩:=rv.one;cases ru;obtain⟨z,its,n,r,hl,e⟩:=I.lstM hH;obtain⟨z2,its2,n2,r2,hl2,e2⟩:=I.lstM hB;have hsz:its.toArray.size+its2.toArray.size<=sizeLine:=by rw[List.size_toArray,List.size_toArray];omega
 have hlong:¬(!its.toArray.isEmpty&&Builtin.List.listTooLong (its.toArray.size+its2.toArray.size))=true:=by
  rw[notLongL hsz,Bool.and_false];exact Bool.false_ne_true
 refine call_meets F.slot_list_extend ⟨_,e,rfl⟩ F.entry_list_extend (F.args_list_extend_2 _ _)
  (AutoSeq1.list_extend_list_list_0 l its.toArray n b its2.toArray n2 hlong (by rw[List.size_toArray];omega) (by omega)) ⟨e,e2,?_⟩
 refine⟨.non,_,I.lset (its':=its++its2) hH e (by simp) (r.append r2) ?_,rfl,q⟩;rw[List.length_append];omega
noncomputable def rCat:R2:=fun x y H Q=>∃l b xs zs,x=.ref l/\y=.ref b/\H l=some (.lst xs)/\H b=some (.lst zs)/\xs.length+zs.length<=sizeLine/\∀p,H p=none->Q (.ref p) (upd H p (.lst (xs++zs)))
theorem op_cat:OpR X (binaryOp .Add) rCat:=by
 intro pins s σ H x y v u Q I rx ry h;obtain⟨l,b,xs,zs,rfl,rfl,hH,hB,hz,q⟩:=h;cases rx;cases ry;obtain⟨z,its,n,r,hl,e⟩:=I.lstM hH;obtain⟨z2,its2,n2,r2,hl2,e2⟩:=I.lstM hB;refine PySem.P.add_list e e2 ?_ (by rw[List.size_toArray,List.size_toArray];omega);have ea:its.toArray++its2.toArray=(its++its2).toArray:=by simp
 rw[ea];exact⟨.ref _,_,I.lnew (t':=s.toks) (r.append r2) (by rw[List.length_append];omega),rfl,q _ I.fresh⟩
end
section
variable {prog:Program} {w:World} {A:Around} {E:Value->Shared->Prop} {s:Shared}
end
section
variable {X:Cx}
end
end L2
namespace Att
open PySem PySem.W PySem.Calls PyProof.Rows
theorem ints_of_wellAll {P:Params} {h:Heap}:∀(ns:List Int) (vs:List Value),WellAll P h vs (ns.map WData.int)->IntsAre vs ns:=by
 intro ns;induction ns with
 | nil=>
   intro vs w;rw[List.map_nil] at w;cases w;exact .nil
 | cons n ns ih=>
   intro vs w;rw[List.map_cons] at w;cases w with
   | cons a b=>
     cases a;exact .cons _ _ (ih _ b)
theorem script_of {l:OpenLaw} {n:Nat} (hn:l.most=some n) {P:Params} {h:Heap} {args:List WData} {vals:List Value}
 (hpre:l.row.toRowW.claim.pre args=true) (hwl:WellAll P h vals args) :
 ∃a vs ns,vals=[Value.ref a]/\args=[WData.list (ns.map WData.int)]/\h.get? a=some { cls:=.type "list",data:=.seq vs.toArray }/\IntsAre vs ns/\ns.length<=n:=by
 have hsh:WShape.hasAll [] args [.list .int]=true:=(pre_splitW hpre).1;have hc:l.pre.holds [] { args:=args }=true:=(pre_splitW hpre).2;obtain⟨d,r,rfl,h1,h2⟩:=hasAllW_cons hsh;obtain rfl:=hasAllW_nil h2;obtain⟨xs,rfl,h3⟩:=hasW_list h1;obtain⟨ns,rfl⟩:=items_int h3;have hlen:ns.length<=n:=by
  unfold OpenLaw.pre at hc;have h4:(WTm.not (.lt (.lit (.int (n:Int))) (.len (.arg 0)))).holds [] { args:=[.list (ns.map .int)] }=true:=by
   have h4:=(holds_andW hc).1;rw[hn] at h4;exact h4
  have h5:=condW_of h4 (w_not (w_lt w_lit (w_len_list (w_arg rfl))));rw[List.length_map] at h5;refine Nat.le_of_not_lt fun q=>?_
  have q':(n:Int)<((ns.length:Nat):Int):=by omega
  first
   | (rw[decide_eq_true q'] at h5;exact absurd h5 (by decide))
   | (simp at h5;omega)
 cases hwl with
 | cons w1 w2=>
   cases w2;cases w1 with
   | list ho hall=>exact⟨_,_,ns,rfl,rfl,ho,ints_of_wellAll ns _ hall,hlen⟩
theorem post_true (l:OpenLaw) (args:List WData):l.row.toRowW.claim.post args (.bool true) args=true:=
 postW_of (r:=l.row.toRowW) (X:=(true == true))
  (show WShape.has [] (.bool true) .bool=true by first | rfl | decide | simp[WShape.has,WShape.arms,WShape.armsAll])
  (show (WTm.eq .res (.lit (.bool true))).value [] { args:=args,res:=some (.bool true),after:=args }=some (.bool (true == true)) from w_eq_bool (w_res rfl) w_lit) rfl
theorem attach_call {l:OpenLaw} {n:Nat} {q:Program} {loose:List Str} {XP:(Str->Option Value)->Heap->Prop} {YP:World->Heap->Prop} {d:DefRec}
 (hn:l.most=some n) (hdf:d.params.defaults=[])
 (call:∀(w:World) (s₀ s₁:Shared) (mg mb:Str->Option Value) (fa:Addr) (o:Obj) (pm cd doc:Value) (a:Addr) (vs:List Value) (ns:List Int),
  Ground q loose [] XP w s₀ mg mb s₁.heap->YP w s₁.heap->
  s₁.heap.get? fa=some o->o.data=.func (docDef d.name d.params d.body d.scope pm cd doc)->s₁.heap.CodeRec cd d.name->mg d.name=some (.ref fa)->
  s₁.heap.get? a=some { cls:=.type "list",data:=.seq vs.toArray }->IntsAre vs ns->ns.length<=n->s₁.gens=#[]->
  codeAny (model l.prog w) callerA (.call (.ref fa) ⟨[.ref a],[]⟩) (fun r s'=>r=.ok (.ret (.bool true))/\OldK s₁.heap s'.heap/\s'.os=s₁.os/\AllBare s'.gens) s₁) :
 WalkO q loose XP YP l.row.toRowW d [] (fun f vs=>PySem.call f vs):=by
 intro w s₀ s₁ mg mb G Y fa o pm cd doc dV kV ho hd hcd hD hmg hg args vals as hpre hlay hrd hwl hlo;obtain rfl:dV=.none:=Dflts.none hD hdf;obtain rfl:kV=.none:=Dflts.noKw hD;obtain⟨a,vs,ns,rfl,rfl,hobj,hints,hlen⟩:=script_of hn hpre hwl;refine enter_call (codeAny_mono (call w s₀ s₁ mg mb fa o pm cd doc a vs ns G Y ho (fd_plain hd) hcd hmg hobj hints hlen hg) fun r s' hq=>?_);obtain⟨rfl,h2,h3,h4⟩:=hq;exact⟨.inl ⟨.bool true,.bool true,[],rfl,fun _=>rfl,.bool true,post_true l _,fun _=>⟨List.Pairwise.nil,fun _ hm=>(nomatch hm)⟩⟩,h2,h3,h4⟩
section
variable {prog:Program} {w:World} {A:Around} {E:Value->Shared->Prop} {s:Shared} {K:Frag}
end
end Att
namespace L2
open PySem PySem.Spec PyProof.Rows
theorem vals_ints:∀{vs:List Value} {ns:List Int},IntsAre vs ns->Vals (ns.map V.int) vs
 | _,_,.nil=>.nil
 | _,_,.cons n t h=>.cons ⟨t,rfl⟩ (vals_ints h)
noncomputable def Only (H:Hp):Prop:=∀b,H b=none\/∃o xs,H b=some (.frz o (.lst xs))
set_option tactic.hygienic true in
theorem law_call {P:Program} {w:World} {K:PySem.W.Frag} {mg mb:Str->Option Value} {CX:CXT} {k:Nat} {fa a:Addr} {fd:FuncData} {x:Str} {sp:Sp} {s₁:Shared} {vs:List Value} {ns:List Int}
 (KX:K.In s₁.heap) (hns:s₁.heap.Ns mainGlobals mg) (hb:s₁.heap.Ns builtinsNs mb) (hbb:∀x:Str,x≠"__name__"->mb x=bootBuiltins x) (hlim:s₁.heap.NoLimit) (hg:s₁.gens=#[])
 (ha:s₁.heap.get? a=some { cls:=.type "list",data:=.seq vs.toArray }) (hi:IntsAre vs ns) (hl:ns.length<=sizeLine) (hr:Room k callerA)
 (F:∀base:Heap,K.In base->base.Ns mainGlobals mg->FnOk P w K mg base CX k fa fd [x] sp) (hbind:∀(s:Shared) (u:Value),BindsTo s fd ⟨[u],[]⟩ [(x,u)])
 (hsp:∀H:Hp,Only H->SqL K H a (ns.map V.int)->sp [.ref a] H (fun v _=>v=.bl true) fun _ _ _=>False)
 (hCX:∀H e s',CX [] H s₁ (fun _ _ _=>False) e s'->False) :
 codeAny (model P w) callerA (.call (.ref fa) ⟨[.ref a],[]⟩) (fun r s'=>r=.ok (.ret (.bool true))/\OldK s₁.heap s'.heap/\s'.os=s₁.os/\AllBare s'.gens) s₁:=by
 have rv:=vals_ints hi;have lenV:=hi.length
 -- from an abstract heap in which nothing but the script may be tracked
 have core:∀H:Hp,Only H->SqL K H a (ns.map V.int)->HOk P w H s₁.heap->(∀b,H b≠none->b=a)->(H a≠none->K.lookup a=none)->
  codeAny (model P w) callerA (.call (.ref fa) ⟨[.ref a],[]⟩) (fun r s'=>r=.ok (.ret (.bool true))/\OldK s₁.heap s'.heap/\s'.os=s₁.os/\AllBare s'.gens) s₁:=by
  intro H hO hS hok hA hK;have base_of:∀{b:Addr} {o:Obj},s₁.heap.get? b=some o->H b=none->(hidT s₁.heap H).get? b=some o:=fun e n=>hidT_get e n
  have noA:∀{b:Addr} {o:Obj} {es:Array DictEntry} {ep:Nat},s₁.heap.get? b=some o->o.data=.dict es ep->H b=none:=fun {b o es ep} e d=>by
   cases q:H b with
   | none=>rfl
   | some u=>
     have e':b=a:=hA b (by rw[q];simp);subst e';rw[ha] at e;cases e;have d':Data.seq vs.toArray _=Data.dict es ep:=d;cases d'
  have nsK:∀{b:Addr} {m:Str->Option Value},s₁.heap.Ns b m->(hidT s₁.heap H).Ns b m:=fun {b m} ⟨o,es,ep,e,d,r⟩=>⟨o,es,ep,base_of e (noA e d),d,r⟩
  have hKb:K.In (hidT s₁.heap H):=fun b o e=>base_of (KX b o e) (by
   cases q:H b with
   | none=>rfl
   | some u=>
     have e':b=a:=hA b (by rw[q];simp);subst e';rw[hK (by rw[q];simp)] at e;cases e)
  have hM:Mod K mg (hidT s₁.heap H):=⟨hKb,nsK hns,⟨mb,nsK hb,hbb⟩,let ⟨mc,h1,h2⟩:=hlim;⟨mc,nsK h1,h2⟩⟩;have e0:Env0 P w K mg (hidT s₁.heap H) callerA [] s₁ H:=⟨rfl,hM,fun b o e=>of_hidT e,Nat.le_of_eq (hidT_size _ _),trivial,fun b hb=>absurd (show b∈([]:List Addr) from hb) (by simp),hok,.of_eq hg⟩;refine codeAny_mono ((F _ hKb (nsK hns)).run callerA [] s₁ H ⟨[.ref a],[]⟩ [.ref a] [.ref a] _ _ hr e0 (hbind s₁ (.ref a)) (.cons rfl .nil) (hsp H hO hS)) fun r s' h=>?_
  cases r with
  | error e=>exact(hCX H e s' h).elim
  | ok fl=>
    cases fl with
    | next=>exact False.elim h
    | brk=>exact False.elim h
    | cont=>exact False.elim h
    | ret u=>
      obtain⟨v,H',os,bare,un,hok',r',q⟩:=h;have q':v=.bl true:=q;subst q';obtain rfl:u=Value.bool true:=r';refine⟨rfl,OldK.of_keep fun b o e=>?_,os,bare⟩;cases q:H b with
      | none=>exact un.keep b o e q (by intro z;exact absurd (show b∈([]:List Addr) from z) (by simp)) (by simp)
      | some u=>
        rcases hO b with z | ⟨ob,xs,z⟩
        ·rw[q] at z;cases z
        ·have z2:=un.frzs b ob _ z
         obtain⟨e1,_⟩:=hok b _ z;obtain⟨e2,_⟩:=hok' b _ z2;rw[e] at e1;cases e1;exact e2
 cases hk:K.lookup a with
 | some o=>
   -- the script is one of the module's own objects
   have e:=KX a o hk;rw[ha] at e;cases e;refine core (fun _=>none) (fun _=>.inl rfl) (.inr ⟨_,vs.toArray,_,hk,rfl,rfl,rfl,by rw[List.size_toArray,lenV];exact hl,by simpa using rv⟩) (fun b u z=>by have z':(none:Option HO)=some u:=z;cases z') (fun b z=>absurd rfl z) fun z=>absurd rfl z
 | none=>
   refine core (fun b=>if b=a then some (.frz { cls:=.type "list",data:=.seq vs.toArray } (.lst (ns.map V.int))) else none) (fun b=>?_) (.inl (.inr ⟨{ cls:=.type "list",data:=.seq vs.toArray },if_pos rfl⟩)) (fun b u z=>?_) (fun b z=>?_) fun _=>hk
   ·by_cases hb:b=a
    ·exact .inr ⟨_,_,if_pos hb⟩
    ·exact .inl (if_neg hb)
   ·by_cases hb:b=a
    ·have z':=(if_pos hb).symm.trans z
     cases z';subst hb;exact⟨ha,by rw[List.length_map];exact hl,vs,_,rv,ha⟩
    ·have z':=(if_neg hb).symm.trans z
     cases z'
   ·by_cases hb:b=a
    ·exact hb
    ·exact absurd (if_neg hb) z
end L2
namespace L2
open PySem PySem.Spec PyProof.Rows
theorem walk_of {l:PySem.W.OpenLaw} {n k:Nat} {q:Program} {loose:List Str} {XP:(Str->Option Value)->Heap->Prop} {YP:World->Heap->Prop} {d:DefRec} {K:Params->PySem.W.Frag} {CX:World->CXT} {sp:World->Sp} {x:Str}
 (hn:l.most=some n) (hn2:n<=sizeLine) (hdf:d.params.defaults=[]) (hr:Room k callerA)
 (hY:∀(w:World) (h:Heap),YP w h->(K w.params).In h)
 (F:∀(w:World) (mg:Str->Option Value) (fa:Addr) (h:Heap),(K w.params).In h->h.Ns mainGlobals mg->mg d.name=some (.ref fa)->
  ∃fd:FuncData,(∀(s:Shared) (u:Value),BindsTo s fd ⟨[u],[]⟩ [(x,u)])/\
   ∀base:Heap,(K w.params).In base->base.Ns mainGlobals mg->FnOk l.prog w (K w.params) mg base (CX w) k fa fd [x] (sp w))
 (hsp:∀(w:World) (H:Hp) (a:Addr) (ns:List Int),ns.length<=n->Only H->SqL (K w.params) H a (ns.map V.int)->sp w [.ref a] H (fun v _=>v=.bl true) fun _ _ _=>False)
 (hCX:∀(w:World) (H:Hp) (s:Shared) (e:Value) (s':Shared),CX w [] H s (fun _ _ _=>False) e s'->False) :
 PySem.W.WalkO q loose XP YP l.row.toRowW d [] (fun f vs=>PySem.call f vs):=by
 refine Att.attach_call hn hdf fun w s₀ s₁ mg mb fa o pm cd doc a vs ns G Y ho hd hcd hmg hobj hints hlen hg=>?_
 have KX:=hY w _ Y;obtain⟨fd,hb,hF⟩:=F w mg fa _ KX G.T.g hmg;exact law_call KX G.T.g G.T.b G.T.builtins G.T.nolimit hg hobj hints (Nat.le_trans hlen hn2) hr hF hb (fun H hO hS=>hsp w H a ns hlen hO hS) fun H e s'=>hCX w H s₁ e s'
end L2
namespace L2
open PySem PySem.Spec PyProof.Rows
noncomputable def zo4 (s:Stmt):Arguments:=match s with
 | .FunctionDef _ a _ _ _ _ _ _ _ _=>a
 | _=>{ posonlyargs:=[],args:=[],vararg:=none,kwonlyargs:=[],kw_defaults:=[],kwarg:=none,defaults:=[] }
noncomputable def zb7 (s:Stmt):List Stmt:=match s with
 | .FunctionDef _ _ b _ _ _ _ _ _ _=>b
 | _=>[]
noncomputable def za1 (s:Stmt):Scope:=match s with
 | .FunctionDef _ _ _ _ _ _ sc _ _ _=>sc
 | _=>{ kind:=.function,names:=[],isGenerator:=false,isCoroutine:=false }
noncomputable abbrev CX0:CXT:=fun _ _ _ _ _ _=>False
noncomputable abbrev E0:XK:=fun _ _ _=>False
theorem pass0 {X:Cx}:Passes CX0 X E0:=fun _ _ _ _ _ _ _ h=>h.elim
structure Fun (K:PySem.W.Frag) (x qual:Str) (st:Stmt) (f:Addr) (fd:FuncData):Prop where
 ex:∃(oc:Value) (od:Option Addr) (kV doc pm:Value) (an:Option Addr) (cdv ct:Value) (osl:Array (Option Value)),
  fd=PySem.W.fnOf x qual (zo4 st) (zb7 st) (za1 st) .none kV doc pm an cdv ct/\K.lookup f=some ⟨oc,od,.func fd,osl⟩/\PySem.W.codeIn K cdv qual=true
 kp:PySem.W.keepIn K (.ref f)=true
section
variable {P:Program} {w:World} {K:PySem.W.Frag} {mg:Str->Option Value} {base:Heap}
theorem Fun.ok {x qual:Str} {st:Stmt} {f:Addr} {fd:FuncData} {N ps:List Str} {k:Nat} {sp:Sp} (F:Fun K x qual st f fd) (S:zc0 N ps (za1 st)) (len:∀vs H Q E,sp vs H Q E->vs.length=ps.length)
 (hbody:∀(cdv:Value) (A:Around) (outer:List Env) (s:Shared) (H:Hp) (vs:List V) (Q:VK) (E:XK),Room k (A.deeper (envOfC qual (za1 st) s.heap.objs.size f cdv))->sp vs H Q E->
  ∃t,PSs (cxOf CX0 P w K mg base N qual (za1 st) f cdv A outer s H E).nox (zb7 st) t/\t { nx:=fun _ H'=>Q .non H',rt:=Q } (start N vs) H):FnOk P w K mg base CX0 (k+1) f fd ps sp:=by
 obtain⟨oc,od,kV,doc,pm,an,cdv,ct,osl,rfl,lk,hcd⟩:=F.ex;refine fn_of lk hcd S len fun A outer s H vs Q E hr hsp=>?_
 obtain⟨t,h,q⟩:=hbody cdv A outer s H vs Q E hr hsp;exact⟨t,h.nox,q⟩
theorem Fun.binds {x qual:Str} {st:Stmt} {f:Addr} {fd:FuncData} {ps:List Str} (F:Fun K x qual st f fd)
 (h:∀(kV doc pm:Value) (an:Option Addr) (cdv ct:Value) (us:List Value),us.length=ps.length->bindArgs (PySem.W.fnOf x qual (zo4 st) (zb7 st) (za1 st) .none kV doc pm an cdv ct) ⟨us,[]⟩=pure (ps.zip us)):Binds K fd ps []:=by
 obtain⟨oc,od,kV,doc,pm,an,cdv,ct,osl,rfl,lk,hcd⟩:=F.ex;exact .all (h kV doc pm an cdv ct)
theorem fun_mk {x qual:Str} {st:Stmt} {f:Addr} {oc:Value} {od an:Option Addr} {osl:Array (Option Value)} {kV doc pm cdv ct:Value} (l:K.lookup f=some ⟨oc,od,.func (PySem.W.fnOf x qual (zo4 st) (zb7 st) (za1 st) .none kV doc pm an cdv ct),osl⟩)
 (c:PySem.W.codeIn K cdv qual=true) (k:PySem.W.keepIn K (.ref f)=true):Fun K x qual st f (PySem.W.fnOf x qual (zo4 st) (zb7 st) (za1 st) .none kV doc pm an cdv ct):=⟨⟨oc,od,kV,doc,pm,an,cdv,ct,osl,rfl,l,c⟩,k⟩
end
theorem hu_of {A:Around} {k:Nat} (hr:Room k A):A.units+1<cLine:=Nat.lt_of_le_of_lt (Nat.add_le_add_left (by decide:1<=64) _) hr.units
theorem small1000 {n:Nat} (h:n<=1000):n<sizeLine:=Nat.lt_of_le_of_lt h (by decide)
section
variable {X:Cx}
theorem pv (i:Nat) {x:Str} {pos:Pos} (hN:X.N[i]?=some x:=by rfl) (hv:Vis X.env.scope x:=by first | exact Or.inl rfl | exact Or.inr (Or.inl rfl) | exact Or.inr (Or.inr rfl)) (hd:(x == ("__debug__" : Str))=false:=by decide)
 (hcd:(x == ("__classdict__" : Str))=false:=by decide):PE X (.Name x pos) (tVar i):=pe_var hN hv hd hcd
end
theorem iteF {A B:Prop} (h:B):if false=true then A else B:=by
 rw[if_neg Bool.false_ne_true];exact h
theorem iteT {A B:Prop} (h:A):if true=true then A else B:=by
 rw[if_pos rfl];exact h
noncomputable def Same (H H':Hp):Prop:=∀b o,H b=some o->H' b=some o
theorem Same.refl (H:Hp):Same H H:=fun _ _ h=>h
theorem Same.seq {K:PySem.W.Frag} {H H':Hp} {a:Addr} {xs:List V} (e:Same H H') (h:SqL K H a xs):SqL K H' a xs:=by
 rcases h with (h | ⟨o,h⟩) | h
 ·exact .inl (.inl (e _ _ h))
 ·exact .inl (.inr ⟨o,e _ _ h⟩)
 ·exact .inr h
end L2
namespace L2
open PySem PySem.Spec PyProof.Rows
section
variable {κ:Type} [DecidableEq κ]
noncomputable def valV (kvs:List (κ×V)) (k:κ):Option V:=(kvs.find? fun kv=>decide (kv.1=k)).map (·.2)
noncomputable def putK (kvs:List (κ×V)) (k:κ) (v:V):List (κ×V):=
 if (kvs.any fun kv=>decide (kv.1=k))=true then kvs.map (fun kv=>if kv.1=k then (kv.1,v) else kv) else kvs++[(k,v)]
noncomputable def dropK (kvs:List (κ×V)) (k:κ):List (κ×V):=kvs.filter fun kv=>decide (kv.1≠k)
theorem valV_pos {p:κ×V} {r:List (κ×V)} {k:κ} (e:p.1=k):valV (p::r) k=some p.2:=by simp[valV,List.find?_cons,e]
theorem valV_neg {p:κ×V} {r:List (κ×V)} {k:κ} (e:¬p.1=k):valV (p::r) k=valV r k:=by simp[valV,List.find?_cons,e]
theorem valV_any (k:κ):∀kvs:List (κ×V),(kvs.any fun kv=>decide (kv.1=k))=(valV kvs k).isSome
 | []=>rfl
 | p::r=>by
   rw[List.any_cons];by_cases e:p.1=k
   ·simp only[valV_pos e,decide_eq_true e,Bool.true_or,Option.isSome_some]
   ·rw[valV_neg e,decide_eq_false e,Bool.false_or];exact valV_any k r
theorem length_putK (kvs:List (κ×V)) (k:κ) (v:V):(putK kvs k v).length<=kvs.length+1:=by
 unfold putK;split
 ·rw[List.length_map];omega
 ·rw[List.length_append,List.length_cons,List.length_nil];omega
theorem RelO.isSome_eq {o:Option V} {u:Option Value} (r:RelO o u):o.isSome=u.isSome:=by
 cases o with
 | none=>cases u with
   | none=>rfl
   | some _=>exact(show False from r).elim
 | some _=>cases u with
   | none=>exact(show False from r).elim
   | some _=>rfl
theorem RelO.getD {o:Option V} {u:Option Value} {d:V} {d':Value} (r:RelO o u) (rd:RelV d d'):RelV (o.getD d) (u.getD d'):=by
 cases o with
 | none=>cases u with
   | none=>exact rd
   | some _=>exact(show False from r).elim
 | some _=>cases u with
   | none=>exact(show False from r).elim
   | some _=>exact r
theorem KV.val {kvs:List (κ×V)} {vs:List (κ×Value)} (r:KV kvs vs) (k:κ):RelO (valV kvs k) (valueAt vs k):=by
 unfold KV at r;induction r with
 | nil=>exact True.intro
 | @cons p q ps qs h t ih=>
   obtain⟨h1,h2⟩:=h;by_cases e:p.1=k
   ·have e':q.1=k:=h1.symm.trans e
    have b:valueAt (q::qs) k=some q.2:=by simp[valueAt,List.find?_cons,e']
    rw[valV_pos e,b];exact h2
   ·have e':¬q.1=k:=fun z=>e (h1.trans z)
    have b:valueAt (q::qs) k=valueAt qs k:=by simp[valueAt,List.find?_cons,e']
    rw[valV_neg e,b];exact ih
theorem KV.any {kvs:List (κ×V)} {vs:List (κ×Value)} (r:KV kvs vs) (k:κ):(kvs.any fun kv=>decide (kv.1=k))=vs.any fun kv=>decide (kv.1=k):=by
 unfold KV at r;induction r with
 | nil=>rfl
 | cons h t ih=>rw[List.any_cons,List.any_cons,ih,h.1]
theorem KV.repl {kvs:List (κ×V)} {vs:List (κ×Value)} (r:KV kvs vs) (k:κ) {y:V} {u:Value} (ry:RelV y u) :
 KV (kvs.map fun kv=>if kv.1=k then (kv.1,y) else kv) (vs.map fun kv=>if kv.1=k then (kv.1,u) else kv):=by
 unfold KV at r ⊢;induction r with
 | nil=>exact .nil
 | @cons p q ps qs h t ih=>
   rw[List.map_cons,List.map_cons];refine .cons ?_ ih;obtain⟨h1,h2⟩:=h;by_cases e:p.1=k
   ·rw[if_pos e,if_pos (h1.symm.trans e)];exact⟨h1,ry⟩
   ·rw[if_neg e,if_neg (fun z=>e (h1.trans z))];exact⟨h1,h2⟩
theorem KV.put {kvs:List (κ×V)} {vs:List (κ×Value)} (r:KV kvs vs) (k:κ) {y:V} {u:Value} (ry:RelV y u):KV (putK kvs k y) (stored vs k u):=by
 unfold putK stored;rw[r.any k];by_cases e:(vs.any fun kv=>decide (kv.1=k))=true
 ·rw[if_pos e,if_pos e];exact r.repl k ry
 ·rw[if_neg e,if_neg e];exact Paired.snoc r ⟨rfl,ry⟩
theorem KV.drop {kvs:List (κ×V)} {vs:List (κ×Value)} (r:KV kvs vs) (k:κ):KV (dropK kvs k) (without vs k):=by
 unfold KV at r ⊢;unfold dropK without;induction r with
 | nil=>exact .nil
 | @cons p q ps qs h t ih=>
   obtain⟨h1,h2⟩:=h;rw[List.filter_cons,List.filter_cons];by_cases e:p.1=k
   ·have a:¬decide (p.1≠k)=true:=by simp[e]
    have b:¬decide (q.1≠k)=true:=by simp[h1.symm.trans e]
    rw[if_neg a,if_neg b];exact ih
   ·have e':¬q.1=k:=fun z=>e (h1.trans z)
    have a:decide (p.1≠k)=true:=by simp[e]
    have b:decide (q.1≠k)=true:=by simp[e']
    rw[if_pos a,if_pos b];exact .cons ⟨h1,h2⟩ ih
theorem KV.length {kvs:List (κ×V)} {vs:List (κ×Value)} (r:KV kvs vs):kvs.length=vs.length:=Paired.length r
end
theorem kV_is {P:Program} {w:World} {k:Key} {u:Value} (r:RelV (kV k) u):(zf3 P w).is k u=true:=by
 cases k with
 | inl i=>obtain⟨t,e⟩:=(show ∃t,u=Value.int i t from r);subst e;exact mixKind_int P w i t
 | inr x=>obtain⟨t,e⟩:=(show ∃t,u=Value.str x t from r);subst e;exact mixKind_str P w x t
theorem items_are {P:Program} {w:World}:∀{ks:List Key} {us:List Value},Vals (ks.map kV) us->ItemsAre (zf3 P w) ks us
 | [],_,r=>by rw[List.map_nil] at r;cases r;exact .nil
 | k::ks,_,r=>by
   rw[List.map_cons] at r;cases r with
   | cons h t=>exact .cons (kV_is h) (items_are t)
noncomputable abbrev KT (H:Hp):List (List Key×V)->List (List Key×Addr×Value)->Prop:=Paired fun p q=>p.1=q.1/\H q.2.1=some (.tup (p.1.map kV))/\RelV p.2 q.2.2
theorem KT.val {H:Hp} {kvs:List (List Key×V)} {xs:List (List Key×Addr×Value)} (r:KT H kvs xs) (k:List Key):RelO (valV kvs k) ((atKey xs k).map (·.2)):=by
 induction r with
 | nil=>exact True.intro
 | @cons p q ps qs h t ih=>
   obtain⟨h1,_,h2⟩:=h;by_cases e:p.1=k
   ·have e':q.1=k:=h1.symm.trans e
    have b:atKey (q::qs) k=some q.2:=by simp[atKey,List.find?_cons,e']
    rw[valV_pos e,b];exact h2
   ·have e':¬q.1=k:=fun z=>e (h1.trans z)
    have b:atKey (q::qs) k=atKey qs k:=by simp[atKey,List.find?_cons,e']
    rw[valV_neg e,b];exact ih
theorem KT.repl {H:Hp} {kvs:List (List Key×V)} {xs:List (List Key×Addr×Value)} (r:KT H kvs xs) (k:List Key) {y:V} {u:Value} (ry:RelV y u) :
 KT H (kvs.map fun kv=>if kv.1=k then (kv.1,y) else kv) (xs.map (putAt k u)):=by
 induction r with
 | nil=>exact .nil
 | @cons p q ps qs h t ih=>
   rw[List.map_cons,List.map_cons];refine .cons ?_ ih;obtain⟨h1,h2,h3⟩:=h;unfold putAt;by_cases e:p.1=k
   ·rw[if_pos e,if_pos (h1.symm.trans e)];exact⟨h1,h2,ry⟩
   ·rw[if_neg e,if_neg (fun z=>e (h1.trans z))];exact⟨h1,h2,h3⟩
theorem KT.put {H:Hp} {kvs:List (List Key×V)} {xs:List (List Key×Addr×Value)} (r:KT H kvs xs) (k:List Key) {b:Addr} {y:V} {u:Value} (hb:H b=some (.tup (k.map kV))) (ry:RelV y u) :
 KT H (putK kvs k y) (storedH xs k b u):=by
 have e:(kvs.any fun kv=>decide (kv.1=k))=(atKey xs k).isSome:=by
  rw[valV_any,(r.val k).isSome_eq,Option.isSome_map]
 unfold putK storedH;rw[e];by_cases q:(atKey xs k).isSome=true
 ·rw[if_pos q,if_pos q];exact r.repl k ry
 ·rw[if_neg q,if_neg q];exact Paired.snoc r ⟨rfl,hb,ry⟩
theorem KT.keeps {H H':Hp} {kvs:List (List Key×V)} {xs:List (List Key×Addr×Value)} (r:KT H kvs xs) (ht:∀b ys,H b=some (.tup ys)->H' b=some (.tup ys)):KT H' kvs xs:=
 Paired.mapP r fun _ _ z=>⟨z.1,ht _ _ z.2.1,z.2.2⟩
section
variable {P:Program} {w:World} {H:Hp} {h:Heap} {a:Addr}
theorem rd_of {u:HO} (ok:HOk P w H h) (e:Rd H a u):ObjOk P w H h a u:=e.ok ok
theorem dk_rd {kvs:List (Key×V)} (ok:HOk P w H h) (e:Rd H a (.dK kvs)):kvs.length<=sizeLine/\(a == sysModules)=false/\∃vs,KV kvs vs/\h.DictOf (zf3 P w) a vs:=
 show ObjOk P w H h a (.dK kvs) from rd_of ok e
theorem dk_of {kvs:List (Key×V)} (ok:HOk P w H h) (e:H a=some (.dK kvs)):kvs.length<=sizeLine/\(a == sysModules)=false/\∃vs,KV kvs vs/\h.DictOf (zf3 P w) a vs:=dk_rd ok (.inl e)
theorem key_of {ks:List Key} (ok:HOk P w H h) (e:H a=some (.tup (ks.map kV))):(tupleKind (zf3 P w)).is h ks a:=by
 obtain⟨_,its,r,o,h1,h2,n,h3⟩:=(show ObjOk P w H h a (.tup (ks.map kV)) from ok a _ e);exact⟨o,its.toArray,n,h1,h2,h3,by simpa using items_are r⟩
theorem dt_rd {kvs:List (List Key×V)} (ok:HOk P w H h) (e:Rd H a (.dT kvs)):kvs.length<=sizeLine/\(a == sysModules)=false/\
 ∃xs,KT H kvs xs/\h.DictOfH (tupleKind (zf3 P w)) a xs:=by
 obtain⟨z,y,xs,r,o,es,ep,h1,h2,h3,h4,h5⟩:=(show ObjOk P w H h a (.dT kvs) from rd_of ok e);refine⟨z,y,xs,r,o,es,ep,h1,h2,h3,h4,fun x hx=>?_,h5⟩;have all:∀{l:List (List Key×V)} {m:List (List Key×Addr×Value)},KT H l m->∀x∈m,(tupleKind (zf3 P w)).is h x.1 x.2.1:=by
  intro l m q;induction q with
  | nil=>intro x hx;exact nomatch hx
  | @cons p q ps qs hq t ih=>
    intro x hx;rcases List.mem_cons.mp hx with e | hx
    ·subst e
     exact key_of ok (by rw[<-hq.1];exact hq.2.1)
    ·exact ih x hx
 exact all r x hx
theorem dt_of {kvs:List (List Key×V)} (ok:HOk P w H h) (e:H a=some (.dT kvs)):kvs.length<=sizeLine/\(a == sysModules)=false/\
 ∃xs,KT H kvs xs/\h.DictOfH (tupleKind (zf3 P w)) a xs:=dt_rd ok (.inl e)
end
noncomputable def DGet (H:Hp) (a:Addr) (y:V) (r:Option V):Prop:=
 (∃kvs k,Rd H a (.dK kvs)/\y=kV k/\r=valV kvs k)\/∃kvs k b,Rd H a (.dT kvs)/\y=.ref b/\H b=some (.tup (k.map kV))/\r=valV kvs k
noncomputable def DPut (H:Hp) (a:Addr) (y v:V) (H':Hp):Prop:=
 (∃kvs k,H a=some (.dK kvs)/\y=kV k/\kvs.length<sizeLine/\H'=upd H a (.dK (putK kvs k v)))\/
 ∃kvs k b,H a=some (.dT kvs)/\y=.ref b/\H b=some (.tup (k.map kV))/\kvs.length<sizeLine/\H'=upd H a (.dT (putK kvs k v))
theorem DGet.k {H:Hp} {a:Addr} {kvs:List (Key×V)} {k:Key} (e:H a=some (.dK kvs)):DGet H a (kV k) (valV kvs k):=.inl ⟨kvs,k,.inl e,rfl,rfl⟩
theorem DGet.t {H:Hp} {a b:Addr} {kvs:List (List Key×V)} {k:List Key} (e:H a=some (.dT kvs)) (eb:H b=some (.tup (k.map kV))):DGet H a (.ref b) (valV kvs k):=.inr ⟨kvs,k,b,.inl e,rfl,eb,rfl⟩
theorem DPut.k {H:Hp} {a:Addr} {kvs:List (Key×V)} {k:Key} {v:V} (e:H a=some (.dK kvs)) (hl:kvs.length<sizeLine):DPut H a (kV k) v (upd H a (.dK (putK kvs k v))):=.inl ⟨kvs,k,e,rfl,hl,rfl⟩
theorem DPut.t {H:Hp} {a b:Addr} {kvs:List (List Key×V)} {k:List Key} {v:V} (e:H a=some (.dT kvs)) (eb:H b=some (.tup (k.map kV))) (hl:kvs.length<sizeLine) :
 DPut H a (.ref b) v (upd H a (.dT (putK kvs k v))):=.inr ⟨kvs,k,b,e,rfl,eb,hl,rfl⟩
section
variable {X:Cx} {pins:List (Addr×Obj)} {σ:St} {H:Hp} {s:Shared} {a:Addr} {y v:V} {u r:Value} {o:Option V} {A:Around} {E:Value->Shared->Prop}
theorem Inv.big (I:Inv X pins σ H s):sysModules<s.heap.objs.size:=by
 have h:mainGlobals<s.heap.objs.size:=(I.mod.glob.keeps I.bk).lt;exact Nat.lt_trans (by decide) h
theorem d_getItem {Q:Value->Shared->Prop} (hu:A.units+1<cLine) (I:Inv X pins σ H s) (g:DGet H a y (some v)) (ry:RelV y u) (h:∀w' s',Inv X pins σ H s'->RelV v w'->Q w' s') :
 wpAny (model X.prog X.w) A (getItem (.ref a) u) Q E s:=by
 rcases g with⟨kvs,k,e,ey,l⟩ | ⟨kvs,k,b,e,ey,eb,l⟩
 ·subst ey
  obtain⟨z,hd,vs,rel,dd⟩:=dk_rd I.hok e;obtain⟨w',hw,rw'⟩:=RelO.some_of (v:=v) (o:=valueAt vs k) (by rw[l];exact rel.val k);exact wpAny_getItem_of (kV_is ry) dd.mapOf hw (h w' _ (I.tok _) rw')
 ·subst ey
  cases (show u=Value.ref b from ry);obtain⟨z,hd,xs,rel,dd⟩:=dt_rd I.hok e;obtain⟨w',hw,rw'⟩:=RelO.some_of (v:=v) (o:=(atKey xs k).map (·.2)) (by rw[l];exact rel.val k);obtain⟨p,hp,hp2⟩:=Option.map_eq_some_iff.mp hw;refine wpAny_getItem_heap (tupleKind_room_in1 hu) (key_of I.hok eb) dd hp ?_;rw[hp2];exact h w' _ (I.tok _) rw'
theorem d_write {h':Heap} {t':Nat} {ob:HO} (I:Inv X pins σ H s) (mu:Mut (H a)) (hs:Heap.SameBut a s.heap h') (he:∃q,h'.get? a=some q) (new:ObjOk X.prog X.w (upd H a ob) h' a ob) :
 Inv X pins σ (upd H a ob) { s with heap:=h',toks:=t' }:=
 I.write (x:=a) (e:=a) mu (.inl rfl) (fun b q hb z=>(hs.2 b hb).trans z) he new
theorem dk_new {P:Program} {w:World} {H':Hp} {h':Heap} {kvs:List (Key×V)} {vs:List (Key×Value)} (z:kvs.length<=sizeLine) (hd:(a == sysModules)=false) (rel:KV kvs vs) (dd:h'.DictOf (zf3 P w) a vs) :
 ObjOk P w H' h' a (.dK kvs):=⟨z,hd,vs,rel,dd⟩
theorem d_setItem {H':Hp} {Q:Unit->Shared->Prop} (hu:A.units+1<cLine) (I:Inv X pins σ H s) (g:DPut H a y v H') (ry:RelV y u) (rv:RelV v r) (h:∀s',Inv X pins σ H' s'->Q () s') :
 wpAny (model X.prog X.w) A (setItem (.ref a) u r) Q E s:=by
 rcases g with⟨kvs,k,e,ey,l,eH⟩ | ⟨kvs,k,b,e,ey,eb,l,eH⟩
 ·subst ey eH
  obtain⟨z,hd,vs,rel,dd⟩:=dk_of I.hok e;have hz:vs.length<=sizeLine:=by rw[<-rel.length];exact z
  have hl:(putK kvs k v).length<=sizeLine:=by have:=length_putK kvs k v;omega
  refine wpAny_setItem_pairs (hsz:=hz) (kV_is ry) dd fun h' dd' hs=>h _ ?_
  have he:∃q,h'.get? a=some q:=let ⟨q,_,_,hq,_⟩:=dd';⟨q,hq⟩;exact d_write I (by rw[e];exact True.intro) hs he (dk_new hl hd (rel.put k rv) dd')
 ·subst ey eH
  cases (show u=Value.ref b from ry);obtain⟨z,hd,xs,rel,dd⟩:=dt_of I.hok e;have hz:xs.length<=sizeLine:=by rw[<-Paired.length rel];exact z
  have hl:(putK kvs k v).length<=sizeLine:=by have:=length_putK kvs k v;omega
  refine wpAny_setItem_heap (hsz:=hz) (tupleKind_room_in1 hu) (key_of I.hok eb) dd fun h' dd' hs=>h _ ?_
  obtain⟨q,es,ep,hq,h2,h3,h4,_,h5⟩:=dd';refine d_write I (by rw[e];exact True.intro) hs ⟨q,hq⟩ ⟨hl,hd,_,(rel.put k eb rv).keeps fun c ys ec=>?_,q,es,ep,hq,h2,h3,h4,h5⟩;rw[za9 (ne_of ec e (fun z=>nomatch z))];exact ec
end
section
variable {X:Cx} {pins:List (Addr×Obj)} {σ:St} {H:Hp} {s:Shared} {a:Addr} {kvs:List (Key×V)} {k:Key} {u:Value} {A:Around} {E:Value->Shared->Prop}
end
noncomputable def NoSl (i:Expr):Prop:=∀ov iv,subscripted i false ov iv=operate [ov,iv] (getItem ov iv)
theorem subD_of {prog:Program} {w:World} {A:Around} {E:Value->Shared->Prop} {s:Shared} {env:Env} {value slice:Expr} {pos:Pos} {T id:String} {Q:Value->Shared->Prop}
 (hl:typeLookup (.type T) "__getitem__" = pure (some (.builtin id))) (hs:NoSl slice)
 (h:wpAny (model prog w) A (eval value env) (fun o s₁=>wpAny (model prog w) A (eval slice env) (fun i s₂=>s₂.TypeIs o T/\wpAny (model prog w) A (getItem o i) Q E s₂) E s₁) E s) :
 wpAny (model prog w) A (eval (.Subscript value slice pos) env) Q E s:=by
 refine Subscript_ (wpAny_mono h (fun o s₁ h₁=>wpAny_mono h₁ (fun i s₂ h₂=>?_) fun _ _ x=>x) fun _ _ x=>x);obtain⟨hT,h₂⟩:=h₂;unfold subscriptTail;refine wpAny_bind ?_;rw[getitemInPython_of_ne hT.not_modules];refine wpAny_bind (wpAny_specialOf hT hl ?_);have fin:wpAny (model prog w) A (subscripted slice false o i) (fun r s₃=>wpAny (model prog w) A (letTemporaryGo value o r >>= fun _=>pure r) Q E s₃) E s₂:=by
  rw[hs o i];exact wpAny_operating (wpAny_mono h₂ (fun r s₃ h₃=>wpAny_bind (wpAny_letTemporaryGo (wpAny_pure h₃))) fun _ _ x=>x)
 first
  | exact wpAny_pure (wpAny_bind fin)
  | exact wpAny_bind (wpAny_pure (wpAny_bind fin))
  | exact wpAny_bind fin
theorem dict_typeIs {X:Cx} {pins:List (Addr×Obj)} {σ:St} {H:Hp} {s:Shared} {a:Addr} {y:V} {o:Option V} (I:Inv X pins σ H s) (g:DGet H a y o):s.TypeIs (.ref a) "dict":=by
 rcases g with⟨kvs,k,e,_,_⟩ | ⟨kvs,k,b,e,_,_,_⟩
 ·obtain⟨_,_,vs,_,dd⟩:=dk_rd I.hok e
  exact dd.typeIs
 ·obtain⟨_,_,xs,_,dd⟩:=dt_rd I.hok e
  exact dd.typeIs
noncomputable def tDGet (td ty:TE):TE:=fun σ H Q=>td σ H fun x H1=>ty σ H1 fun y H2=>∃a v,x=.ref a/\DGet H2 a y (some v)/\Q v H2
noncomputable def sDPut (td ty tv:TE):TS:=fun D σ H=>tv σ H fun v H1=>td σ H1 fun x H2=>ty σ H2 fun y H3=>∃a H4,x=.ref a/\DPut H3 a y v H4/\D.nx σ H4
section
variable {X:Cx} {o i e value:Expr} {pos pos' tpos:Pos} {td ty tv:TE}
theorem pe_dget (hu:X.A.units+1<cLine) (ho:PE X o td) (hi:PE X i ty) (hs:NoSl i):PE X (.Subscript o i pos) (tDGet td ty):=by
 intro pins s σ H Q I h;refine subD_of PySem.F.slot_dict_getitem.lookup hs (thn (ho pins s σ H _ I h) fun u s1 ⟨x,H1,I1,rx,q1⟩=>thn (hi pins s1 σ H1 _ I1 q1) fun iv s2 hI82=>?_);obtain⟨y,H2,I2,ry,a,v,ex,g,q2⟩:=hI82;subst ex;obtain rfl:u=Value.ref a:=rx;exact⟨dict_typeIs I2 g,d_getItem hu I2 g ry fun w' s3 I3 rw'=>⟨v,H2,I3,rw',q2⟩⟩
theorem ps_dput (hu:X.A.units+1<cLine) (ho:PE X o td) (hi:PE X i ty) (hv:PE X value tv) (hs:swapsWith value (some (.Subscript o i pos')) pos.line X.env=pure false) :
 PS X (.Assign [.Subscript o i pos'] value pos) (sDPut td ty tv):=by
 intro pins s σ H D I h;refine wpAny_Assign_Subscript (thn (hv pins s σ H _ I h) fun r s1 ⟨v,H1,I1,rv,q1⟩=>thn (ho pins s1 σ H1 _ I1 q1) fun u s2 ⟨x,H2,I2,rx,q2⟩=>thn (hi pins s2 σ H2 _ I2 q2) fun iv s3 hI83=>?_) hs;obtain⟨y,H3,I3,ry,a,H4,ex,g,q3⟩:=hI83;subst ex;obtain rfl:u=Value.ref a:=rx;exact d_setItem hu I3 g ry rv fun s4 I4=>⟨σ,H4,I4,q3⟩
end
theorem dk_empty {P:Program} {w:World} {H:Hp} (h:Heap) (hb:sysModules<h.objs.size):ObjOk P w H (h.push { cls:=.type "dict",data:=.dict #[] }) h.objs.size (.dK []):=
 ⟨Nat.zero_le _,beq_eq_false_iff_ne.mpr (Ne.symm (Nat.ne_of_lt hb)),[],.nil,Heap.DictOf.new h⟩
theorem dt_empty {P:Program} {w:World} {H:Hp} (h:Heap) (hb:sysModules<h.objs.size):ObjOk P w H (h.push { cls:=.type "dict",data:=.dict #[] }) h.objs.size (.dT []):=
 ⟨Nat.zero_le _,beq_eq_false_iff_ne.mpr (Ne.symm (Nat.ne_of_lt hb)),[],.nil,_,#[],0,Heap.get?_push_size _ rfl,⟨rfl,rfl,rfl⟩,rfl,rfl,List.nodup_nil⟩
noncomputable def tDNewT:TE:=fun _ H Q=>∀p,H p=none->Q (.ref p) (upd H p (.dT []))
section
variable {X:Cx} {pos:Pos}
theorem pe_dnewT:PE X (.Dict [] [] pos) tDNewT:=fun pins s σ H Q I h=>
 wpAny_Dict_empty ⟨.ref s.heap.objs.size,_,I.laid (a:=s.heap.objs.size) (o:=.dT []) (t':=s.toks) (fun _ _ q=>Heap.get?_push_of_some _ q) (Nat.le_refl _) (dt_empty s.heap I.big),rfl,h _ (I.hok.fresh (Nat.le_refl _))⟩
end
noncomputable def tPairs:List (TE×TE)->St->Hp->(List (V×V)->Hp->Prop)->Prop
 | [],_,H,Q=>Q [] H
 | (tk,tv)::r,σ,H,Q=>tk σ H fun x H1=>tv σ H1 fun y H2=>tPairs r σ H2 fun ps H3=>Q ((x,y)::ps) H3
noncomputable abbrev VV:List (V×V)->List (Value×Value)->Prop:=Paired fun p q=>RelV p.1 q.1/\RelV p.2 q.2
noncomputable def PPs (X:Cx) (pos:Pos) (keys:List (Option Expr)) (values:List Expr) (trs:List (TE×TE)):Prop:=
 ∀(pins:List (Addr×Obj)) (s:Shared) (σ:St) (H:Hp) (Q:List (V×V)->Hp->Prop),Inv X pins σ H s->tPairs trs σ H Q->
  wpAny (model X.prog X.w) X.A (evalPairs (pairTrees keys values X.env pos)) (fun vs s'=>∃ps H',Inv X pins σ H' s'/\VV ps vs/\Q ps H') X.xe s
theorem pps_nil {X:Cx} {pos:Pos}:PPs X pos [] [] []:=fun pins s σ H Q I h=>pairTrees_nil_walk ⟨[],H,I,.nil,h⟩
theorem pps_cons {X:Cx} {pos:Pos} {k v:Expr} {ks:List (Option Expr)} {vs:List Expr} {tk tv:TE} {trs:List (TE×TE)} (hk:PE X k tk) (hv:PE X v tv) (hr:PPs X pos ks vs trs) :
 PPs X pos (some k::ks) (v::vs) ((tk,tv)::trs):=fun pins s σ H Q I h=>
 pairTrees_cons_walk (thn (hk pins s σ H _ I h) fun u s1 ⟨x,H1,I1,rx,q1⟩=>thn (hv pins s1 σ H1 _ I1 q1) fun w2 s2 ⟨y,H2,I2,ry,q2⟩=>
  thn (hr pins s2 σ H2 _ I2 q2) fun ws s3 ⟨ps,H3,I3,rel,q3⟩=>⟨(x,y)::ps,H3,I3,.cons ⟨rx,ry⟩ rel,q3⟩)
noncomputable def mergeK (kvs more:List (Key×V)):List (Key×V):=more.foldl (fun acc kv=>putK acc kv.1 kv.2) kvs
theorem KV.merge:∀{more:List (Key×V)} {rs:List (Key×Value)} {kvs:List (Key×V)} {vs:List (Key×Value)},KV more rs->KV kvs vs->KV (mergeK kvs more) (merged vs rs):=by
 intro more rs kvs vs r;unfold KV at r;induction r generalizing kvs vs with
 | nil=>intro q;exact q
 | @cons p q ps qs h t ih=>
   intro r0;have e:KV (putK kvs p.1 p.2) (stored vs q.1 q.2):=by
    have:=r0.put p.1 h.2;rw[<-h.1];exact this
   exact ih e
theorem length_mergeK:∀(more kvs:List (Key×V)),(mergeK kvs more).length<=kvs.length+more.length
 | [],kvs=>by show kvs.length<=kvs.length+0;omega
 | p::r,kvs=>by
   have h1:=length_mergeK r (putK kvs p.1 p.2);have h2:=length_putK kvs p.1 p.2;show (mergeK (putK kvs p.1 p.2) r).length<=_;rw[List.length_cons];omega
theorem carries_of {P:Program} {w:World}:∀{kvs:List (Key×V)} {ws:List (Value×Value)},VV (kvs.map fun kv=>(kV kv.1,kv.2)) ws->∃rs,Carries (zf3 P w) ws rs/\KV kvs rs
 | [],_,r=>by rw[List.map_nil] at r;cases r;exact⟨[],True.intro,.nil⟩
 | p::kvs,_,r=>by
   rw[List.map_cons] at r;cases r with
   | @cons a b as bs h t=>
     obtain⟨rs,c,q⟩:=carries_of (P:=P) (w:=w) t;obtain⟨b1,b2⟩:=b;exact⟨(p.1,b2)::rs,⟨kV_is h.1,rfl,c⟩,.cons ⟨rfl,h.2⟩ q⟩
noncomputable def tDisp (trs:List (TE×TE)):TE:=fun σ H Q=>∀p,H p=none->tPairs trs σ (upd H p (.dK [])) fun ps H2=>H2 p=some (.dK [])/\∃kvs:List (Key×V),ps=kvs.map (fun kv=>(kV kv.1,kv.2))/\kvs.length<=15/\Q (.ref p) (upd H2 p (.dK (mergeK [] kvs)))
theorem pe_disp {X:Cx} {pos:Pos} {keys:List (Option Expr)} {values:List Expr} {trs:List (TE×TE)} (h:PPs X pos keys values trs) (hall:keys.all (·.isSome)=true) (hl:keys.length=values.length) (h0:keys≠[])
 (h15:keys.length<=15):PE X (.Dict keys values pos) (tDisp trs):=by
 intro pins s σ H Q I q;have hn:=I.hok.fresh (Nat.le_refl s.heap.objs.size);have I1:=I.laid (a:=s.heap.objs.size) (o:=.dK []) (h':=s.heap.push { cls:=.type "dict",data:=.dict #[] }) (t':=s.toks) (fun _ _ q=>Heap.get?_push_of_some _ q) (Nat.le_refl _) (dk_empty s.heap I.big);refine wpAny_Dict_walk (knd:=zf3 X.prog X.w) hall hl h0 h15 (thn (h pins _ σ _ _ I1 (q _ hn)) fun ws s2 hI84=>?_);obtain⟨ps,H2,I2,rel,e,kvs,ep,lk,q2⟩:=hI84;subst ep;obtain⟨rs,c,rk⟩:=carries_of (P:=X.prog) (w:=X.w) rel;obtain⟨z,hd,vs0,r0,dd⟩:=dk_of I2.hok e;cases r0;refine⟨rs,c,dd,fun h' dd' hs=>⟨.ref s.heap.objs.size,_,?_,rfl,q2⟩⟩;have hz:(mergeK [] kvs).length<=sizeLine:=by
  have h1:=length_mergeK kvs [];rw[List.length_nil] at h1;rw[sizeLine_eq];omega
 have he:∃q,h'.get? s.heap.objs.size=some q:=let ⟨q,_,_,hq,_⟩:=dd';⟨q,hq⟩;exact d_write I2 (by rw[e];exact True.intro) hs he (dk_new hz hd (rk.merge .nil) dd')
structure M2 (X:Cx) (o:Expr) (m:Str) (apos:Pos) (e f:Expr) (cpos:Pos):Prop where
 base:attributeBase o m X.env (eval o X.env)=eval o X.env
 few:((backTo cpos (starEach [e,f] X.env)).all (fun x=>!x.1)&&(backToKw cpos (keywordEach [] X.env)).all (fun x=>x.1.isSome)
  && decide (([e,f]:List Expr).length+([]:List Keyword).length+(if ([]:List Keyword).isEmpty then 0 else 1)<30))=true
 line:(apos.endLine == cpos.line)=true
 trees:backTo cpos (starEach [e,f] X.env)=[(false,eval e X.env),(false,eval f X.env)]
noncomputable def IsD (H:Hp) (a:Addr):Prop:=(∃kvs,Rd H a (.dK kvs))\/∃kvs,Rd H a (.dT kvs)
theorem isD_at {X:Cx} {pins:List (Addr×Obj)} {σ:St} {H:Hp} {s:Shared} {a:Addr} (I:Inv X pins σ H s) (d:IsD H a) :
 s.TypeIs (.ref a) "dict"/\(∀b,Value.ref a=.ref b->∃ob,s.heap.get? b=some ob/\ob.dict=none)/\(a == sysModules)=false:=by
 rcases d with⟨kvs,e⟩ | ⟨kvs,e⟩
 ·obtain⟨_,hd,vs,_,dd⟩:=dk_rd I.hok e
  refine⟨dd.typeIs,fun b q=>?_,hd⟩;cases q;obtain⟨ob,_,_,h1,h2,_⟩:=dd;exact⟨ob,h1,h2.2.1⟩
 ·obtain⟨_,hd,xs,_,dd⟩:=dt_rd I.hok e
  refine⟨dd.typeIs,fun b q=>?_,hd⟩;cases q;obtain⟨ob,_,_,h1,h2,_⟩:=dd;exact⟨ob,h1,h2.2.1⟩
section
variable {X:Cx} {pins:List (Addr×Obj)} {σ:St} {H:Hp} {s:Shared} {a:Addr} {y d:V} {u r:Value} {o:Option V} {A:Around} {E:Value->Shared->Prop}
theorem d_get2 {Q:Value->Shared->Prop} (hu:A.units+1<cLine) (I:Inv X pins σ H s) (g:DGet H a y o) (ry:RelV y u) (rd:RelV d r) (h:∀w' s',Inv X pins σ H s'->RelV (o.getD d) w'->Q w' s') :
 wpAny (model X.prog X.w) A (call (.builtin "dict.get") [.ref a,u,r]) Q E s:=by
 rcases g with⟨kvs,k,e,ey,l⟩ | ⟨kvs,k,b,e,ey,eb,l⟩
 ·subst ey
  obtain⟨z,hd,vs,rel,dd⟩:=dk_rd I.hok e;refine call_meetsIn PySem.F.slot_dict_get dd.typeIs PySem.F.entry_dict_get (PySem.F.args_dict_get_3 _ _ _) (meets_dict_get_default (zf3 X.prog X.w) a (kV_is ry) hd r) ⟨_,dd.mapOf,h _ _ (I.tok _) ?_⟩;rw[l];exact(rel.val k).getD rd
 ·subst ey
  cases (show u=Value.ref b from ry);obtain⟨z,hd,xs,rel,dd⟩:=dt_rd I.hok e;refine call_meetsIn PySem.F.slot_dict_get dd.typeIs PySem.F.entry_dict_get (PySem.F.args_dict_get_3 _ _ _) (meetsH_dict_get_default (tupleKind (zf3 X.prog X.w)) a b hd r) ⟨tupleKind_room_in1 hu,k,xs,key_of I.hok eb,dd,h _ _ (I.tok _) ?_⟩;rw[l];exact(rel.val k).getD rd
end
noncomputable def tDGet2 (td ty tx:TE):TE:=fun σ H Q=>td σ H fun x H1=>∃a,x=.ref a/\IsD H1 a/\ty σ H1 fun y H2=>tx σ H2 fun z H3=>∃o,DGet H3 a y o/\Q (o.getD z) H3
section
variable {X:Cx} {o e f:Expr} {apos cpos:Pos} {td ty tx:TE}
theorem pe_dget2 (hu:X.A.units+1<cLine) (ho:PE X o td) (he:PE X e ty) (hf:PE X f tx) (m:M2 X o "get" apos e f cpos):PE X (.Call (.Attribute o "get" apos) [e,f] [] cpos) (tDGet2 td ty tx):=by
 intro pins s σ H Q I h;refine wpAny_Call_method m.base m.few m.line PySem.F.plainAttrs_dict PySem.F.slot_dict_get PySem.F.type_dict_get (thn (ho pins s σ H _ I h) fun u s1 hI85=>?_);obtain⟨x,H1,I1,rx,a,ex,d,q1⟩:=hI85;subst ex;obtain rfl:u=Value.ref a:=rx;obtain⟨t1,t2,_⟩:=isD_at I1 d;refine⟨t1,t2,?_⟩;rw[m.trees];refine Calls.callWith_builtin rfl (Calls.evalArgs_plain (Calls.spliced_cons (thn (he pins s1 σ H1 _ I1 q1) fun iv s2 ⟨y,H2,I2,ry,q2⟩=>Calls.spliced_cons (thn (hf pins s2 σ H2 _ I2 q2) fun fv s3 ⟨z,H3,I3,rz,ov,g,q3⟩=>Calls.spliced_nil ?_))));exact d_get2 hu I3 g ry rz fun w' s4 I4 rw'=>⟨_,H3,I4,rw',q3⟩
end
section
variable {X:Cx} {pins:List (Addr×Obj)} {σ:St} {H:Hp} {s:Shared} {a:Addr} {kvs:List (Key×V)} {A:Around} {E:Value->Shared->Prop}
end
section
variable {X:Cx} {pins:List (Addr×Obj)} {σ:St} {H:Hp} {s:Shared} {a:Addr} {y:V} {u:Value} {A:Around} {E:Value->Shared->Prop}
end
end L2
namespace L2
open PySem PySem.Spec PyProof.Rows
section
variable {κ:Type} [DecidableEq κ]
end
end L2
end
section
namespace L2
open PySem PySem.Spec PyProof.Rows
noncomputable def clOf (cells:List (Str×Addr)):List (Str×NameKind)->List (Str×Addr)->List (Str×Addr)
 | [],cs=>cs
 | (n,k)::r,cs=>clOf cells r (if k == .free then (match cells.lookup n with | some a=>(n,a)::cs | none=>cs) else cs)
theorem closureFor_fold {env:Env}:∀(names:List (Str×NameKind)) (cs:List (Str×Addr)),(∀y∈names,y.2=.free->∃a,env.cells.lookup y.1=some a)->
 (forIn (m:=Sem) names cs fun (x:Str×NameKind) (r:List (Str×Addr))=>
  match x with
  | (name,kind)=>if (kind == .free)=true then do let a <-cellOf env name;pure (ForInStep.yield ((name,a)::r)) else pure (ForInStep.yield r))=pure (clOf env.cells names cs)
 | [],cs,_=>rfl
 | (n,k)::r,cs,h=>by
   rw[List.forIn_cons];have ih:=fun cs'=>closureFor_fold (env:=env) r cs' fun y hy=>h y (List.mem_cons_of_mem _ hy)
   by_cases hk:(k == NameKind.free)=true
   ·have hk':k=.free:=by simpa using hk
    obtain⟨a,ha⟩:=h (n,k) List.mem_cons_self hk';simp only[hk,if_true,clOf,cellOf];have ha':env.cells.lookup n=some a:=ha;rw[ha'];exact ih _
   ·simp only[hk,clOf]
    exact ih _
theorem closureFor_is {scope:Scope} {env:Env} (h:∀y∈scope.names,y.2=.free->∃a,env.cells.lookup y.1=some a):closureFor scope env=pure (clOf env.cells scope.names []):=by
 simp only[closureFor];have e:=closureFor_fold (env:=env) scope.names [] h;have e2:=congrArg (fun m:Sem (List (Str×Addr))=>m >>= pure) e;exact e2
theorem zi7 {α:Type} {x n:Str} {v:α} {l:List (Str×α)}:List.lookup x ((n,v)::l)=if x=n then some v else l.lookup x:=by
 rw[List.lookup_cons];by_cases e:x=n
 ·subst e;simp
 ·rw[if_neg e]
  have:(x == n)=false:=by simpa using e
  rw[this]
theorem clOf_sub {cells:List (Str×Addr)}:∀(names:List (Str×NameKind)) (cs:List (Str×Addr)) (x:Str) (c:Addr),
 (∀x c,cs.lookup x=some c->cells.lookup x=some c)->(clOf cells names cs).lookup x=some c->cells.lookup x=some c
 | [],cs,x,c,h,e=>h x c e
 | (n,k)::r,cs,x,c,h,e=>by
   refine clOf_sub r _ x c (fun y d hy=>?_) e;by_cases hk:(k == NameKind.free)=true
   ·rw[if_pos hk] at hy
    cases ha:cells.lookup n with
    | none=>rw[ha] at hy;exact h y d hy
    | some a=>
      rw[ha] at hy;have hy:List.lookup y ((n,a)::cs)=some d:=hy;rw[zi7] at hy;by_cases e:y=n
      ·rw[if_pos e] at hy;cases hy;rw[e];exact ha
      ·rw[if_neg e] at hy;exact h y d hy
   ·rw[if_neg hk] at hy;exact h y d hy
theorem clOf_mono {cells:List (Str×Addr)}:∀(names:List (Str×NameKind)) (cs:List (Str×Addr)) (x:Str),(∃c,cs.lookup x=some c)->∃c,(clOf cells names cs).lookup x=some c
 | [],_,_,h=>h
 | (n,k)::r,cs,x,h=>by
   refine clOf_mono r _ x ?_;by_cases hk:(k == NameKind.free)=true
   ·rw[if_pos hk]
    cases ha:cells.lookup n with
    | none=>exact h
    | some a=>
      show ∃c,List.lookup x ((n,a)::cs)=some c;rw[zi7];by_cases e:x=n
      ·rw[if_pos e];exact⟨_,rfl⟩
      ·rw[if_neg e];exact h
   ·rw[if_neg hk];exact h
theorem clOf_has {cells:List (Str×Addr)}:∀(names:List (Str×NameKind)) (cs:List (Str×Addr)) (x:Str),(x,NameKind.free)∈names->(∃a,cells.lookup x=some a)->∃c,(clOf cells names cs).lookup x=some c
 | [],_,_,h,_=>nomatch h
 | (n,k)::r,cs,x,h,ha=>by
   rcases List.mem_cons.mp h with e | h'
   ·have e1:x=n:=congrArg Prod.fst e
    have e2:NameKind.free=k:=congrArg Prod.snd e;subst e1 e2;obtain⟨a,ha⟩:=ha;refine clOf_mono r _ x ?_;show ∃c,List.lookup x (if (NameKind.free == NameKind.free)=true then (match cells.lookup x with | some a=>(x,a)::cs | none=>cs) else cs)=some c;rw[if_pos (by rfl),ha];show ∃c,List.lookup x ((x,a)::cs)=some c;rw[zi7,if_pos rfl];exact⟨_,rfl⟩
   ·exact clOf_has r _ x h' ha
noncomputable def pick (σ:St) (ixs:List (Option Nat)):St:=ixs.map fun o=>match o with
 | some i=>(σ[i]?).join
 | none=>none
noncomputable def zj7 (X:Cx) (N':List Str) (scope:Scope) (cl:List (Str×Addr)) (C:Addr) (s:Shared) (H:Hp) (fp:List Addr):Cx:=
 { X with N:=N',s₀:=s,H₀:=H,env:=compEnvC scope cl C X.env,outer:=X.stack,ex:=fp,fn:=fun _=>false,pn:=[],xe:=fun _ _=>False }
noncomputable def relabK (env:Env) (n:Str) (k:NameKind):NameKind:=if (k == NameKind.free&&env.scope.kind == .function&&env.kindOf n == some .cell)=true then .cell else k
theorem lookup_relab {env:Env}:∀{names:List (Str×NameKind)} {x:Str},(names.map fun (n,k)=>if (k == NameKind.free&&env.scope.kind == .function&&env.kindOf n == some .cell) then (n,NameKind.cell) else (n,k)).lookup x=(names.lookup x).map (relabK env x)
 | [],_=>rfl
 | (n,k)::r,x=>by
   have ih:=@lookup_relab env r x;rw[List.map_cons];have e1:(if (k == NameKind.free&&env.scope.kind == .function&&env.kindOf n == some .cell)=true then (n,NameKind.cell) else (n,k))=(n,relabK env n k):=by
    unfold relabK;split<;>rfl
   show List.lookup x ((if (k == NameKind.free&&env.scope.kind == .function&&env.kindOf n == some .cell)=true then (n,NameKind.cell) else (n,k))::_)=_;rw[e1,zi7,zi7];by_cases e:x=n
   ·rw[if_pos e,if_pos e,e];rfl
   ·rw[if_neg e,if_neg e];exact ih
structure zl4 (X:Cx) (N':List Str) (ixs:List (Option Nat)) (scope:Scope):Prop where
 kind:scope.kind=.function
 nocell:∀y∈scope.names,y.2≠.cell
 loc:∀y∈scope.names,y.2=.local->scope.names.lookup y.1=some .local
 len:ixs.length=N'.length
 free:∀y∈scope.names,y.2=.free->X.env.scope.names.lookup y.1=some .cell\/X.env.scope.names.lookup y.1=some .free
 slot:∀(j i:Nat) (y:Str),N'[j]?=some y->ixs[j]?=some (some i)->X.N[i]?=some y/\scope.names.lookup y=some .free
section
variable {X:Cx} {pins:List (Addr×Obj)} {σ:St} {H:Hp} {s:Shared} {N':List Str} {ixs:List (Option Nat)} {scope:Scope}
set_option tactic.hygienic true in
theorem zl4.clos (S:zl4 X N' ixs scope) (I:Inv X pins σ H s):closureFor scope X.env=pure (clOf X.env.cells scope.names []):=
 closureFor_is fun y hy hf=>I.ok.has y.1 (S.free y hy hf)
set_option tactic.hygienic true in
theorem Inv.comp {fp:List Addr} {h':Heap} {t':Nat} (I:Inv X pins σ H s) (S:zl4 X N' ixs scope) (hf:∀b∈fp,FpOk X pins H b) (hlt:∀b∈fp,∃o,s.heap.get? b=some o/\∀v,o.data≠.cell v)
 (hk:∀b o,s.heap.get? b=some o->h'.get? b=some o) (hn:h'.Ns s.heap.objs.size (fun _=>none)) :
 Inv (zj7 X N' scope (clOf X.env.cells scope.names []) s.heap.objs.size s H fp) [] (pick σ ixs) H { s with heap:=h',toks:=t' }:=by
 have sub:∀x c,(clOf X.env.cells scope.names []).lookup x=some c->X.env.cells.lookup x=some c:=fun x c e=>clOf_sub _ _ x c (fun _ _ z=>absurd z (by simp)) e
 have cellOld:∀x c,X.env.cells.lookup x=some c->c<s.heap.objs.size:=fun x c e=>by obtain⟨v,z⟩:=I.cell x c e;exact z.lt
 have fpOld:∀b∈fp,b<s.heap.objs.size:=fun b hb=>by obtain⟨o,e,_⟩:=hlt b hb;exact Heap.lt_size e
 have kinds:∀x,Env.kindOf (compEnvC scope (clOf X.env.cells scope.names []) s.heap.objs.size X.env) x=(scope.names.lookup x).map (relabK X.env x):=fun x=>lookup_relab
 have hasF:∀x,scope.names.lookup x=some .free->∃c,(clOf X.env.cells scope.names []).lookup x=some c:=fun x e=>
  clOf_has _ _ x (PySem.mem_of_lookup e) (I.ok.has x (S.free _ (PySem.mem_of_lookup e) rfl))
 have freeOf:∀x,(Env.kindOf (compEnvC scope (clOf X.env.cells scope.names []) s.heap.objs.size X.env) x=some .cell\/Env.kindOf (compEnvC scope (clOf X.env.cells scope.names []) s.heap.objs.size X.env) x=some .free)->scope.names.lookup x=some .free:=fun x e=>by
  rw[kinds x] at e;cases q:scope.names.lookup x with
  | none=>rw[q] at e;rcases e with e | e<;>cases e
  | some k=>
    rw[q] at e;have nc:=S.nocell _ (PySem.mem_of_lookup q);unfold relabK at e;rcases e with e | e
    ·have e:=Option.some.inj e
     dsimp only at e;split at e
     ·rename_i hh
      have:(k == NameKind.free)=true:=by
       cases hz:(k == NameKind.free) with
       | true=>rfl
       | false=>rw[hz] at hh;simp at hh
      rw[show k=.free by simpa using this]
     ·exact absurd e nc
    ·have e:=Option.some.inj e
     dsimp only at e;split at e
     ·cases e
     ·rw[e]
 refine⟨⟨I.ok.mod,S.kind,I.ok.glob,I.ok.blt,Nat.le_refl _,fun x y c h1 h2=>I.ok.inj x y c (sub x c h1) (sub y c h2),fun x hx=>hasF x (freeOf x hx),(fun _ _ z _=>Bool.noConfusion z),I.ok.hd,I.ok.frames,.inl rfl,fun b hb=>⟨Nat.ne_of_lt (fpOld b hb),fun x c e=>(hf b hb).2.2.2.2.1 x c (sub x c e)⟩,fun b o e=>I.bs b o e,Nat.le_trans I.ok.bsz I.sz,fun b o e hb=>?_,fun b hb z=>?_,I.stack,I.stkFree⟩,rfl,I.bare,Un.kept hk,⟨_,hn,fun j x v e1 e2 e3=>?_⟩,fun x c e=>?_,I.hok.fresh (Nat.le_refl _),fun x c e=>I.freeC x c (sub x c e),(fun p hp=>absurd (show p∈([]:List (Addr×Obj)) from hp) (by simp)),I.hok.kept hk,?_⟩
 ·-- base objects are no iterators
  have hf':=hf b hb;rcases hf'.2.2.2.1 with z | z
  ·exact I.ok.noex b o e z
  ·exact absurd (Nat.lt_of_lt_of_le (Heap.lt_size (I.ok.bs b o e).1) z) (Nat.lt_irrefl _)
 ·-- iterators are no frames
  have hf':=hf b hb;rcases List.mem_cons.mp (I.stkSub b z) with e | e
  ·exact hf'.2.1 e
  ·exact hf'.2.2.1 e
 ·-- the names
  have e2':(pick σ ixs)[j]?=some (some v):=e2;unfold pick at e2';rw[List.getElem?_map] at e2';cases q:ixs[j]? with
  | none=>rw[q] at e2';cases e2'
  | some o=>
    rw[q] at e2';cases o with
    | none=>cases e2'
    | some i=>
      have e4:(σ[i]?).join=some v:=Option.some.inj e2';have e5:σ[i]?=some (some v):=by
       cases z:σ[i]? with
       | none=>rw[z] at e4;cases e4
       | some a=>rw[z] at e4;rw[show a=some v from e4]
      obtain⟨hx,hfr⟩:=S.slot j i x e1 q;obtain⟨m,_,hl⟩:=I.loc;have vis:Vis X.env.scope x:=by
       rcases S.free _ (PySem.mem_of_lookup hfr) rfl with z | z
       ·exact .inr (.inl z)
       ·exact .inr (.inr z)
      obtain⟨u,r,l⟩:=hl i x v hx e5 vis;refine⟨u,r,.inr ⟨?_,?_⟩⟩
      ·show Env.kindOf (compEnvC scope (clOf X.env.cells scope.names []) s.heap.objs.size X.env) x=some .cell\/Env.kindOf (compEnvC scope (clOf X.env.cells scope.names []) s.heap.objs.size X.env) x=some .free
       rw[kinds x,hfr];show some (relabK X.env x .free)=_\/some (relabK X.env x .free)=_;unfold relabK;split
       ·exact .inl rfl
       ·exact .inr rfl
      ·obtain⟨c,ec⟩:=hasF x hfr
       refine⟨c,ec,?_⟩;have ec':=sub x c ec;rcases l with⟨k,_⟩ | ⟨_,c2,e6,z⟩
       ·have k':X.env.scope.names.lookup x=some .local:=k
        rcases S.free _ (PySem.mem_of_lookup hfr) rfl with z | z<;>(rw[show ((x,NameKind.free):Str×NameKind).1=x from rfl,k'] at z;cases z)
       ·rw[ec'] at e6;cases e6
        obtain⟨o,ho,hd⟩:=z;exact⟨o,hk c o ho,hd⟩
 ·obtain⟨v,o,ho,hd⟩:=I.cell x c (sub x c e)
  exact⟨v,o,hk c o ho,hd⟩
 ·show (pick σ ixs).length=N'.length
  unfold pick;rw[List.length_map];exact S.len
end
end L2
end
section
namespace L2
open PySem PySem.Spec PyProof.Rows
section
variable {prog:Program} {w:World} {A:Around} {R:Result->Shared->Prop} {s:Shared}
theorem compLoop_turn {elt target iter:Expr} {ifs:List Expr} {scope:Scope} {pos:Pos} {it acc:Value} {env:Env} (I:Nat->Shared->Prop)
 (turn:∀n s,I n s->wpAny (model prog w) A (pyNext it) (fun r s₁=>match r with
  | none=>R (.ok .next) s₁
  | some v=>wpAny (model prog w) A (letOwnedTupleGo target it v) (fun _ s₂=>wpAny (model prog w) A (assign target env v) (fun _ s₃=>
   wpAny (model prog w) A (forIn ifs true fun c r=>if r=true then do let ok <-isTrue c env (eval c env);pure (ForInStep.yield ok) else pure (ForInStep.yield r)) (fun ok s₄=>
    if ok=true then wpAny (model prog w) A (eval elt env) (fun x s₅=>
     wpAny (model prog w) A (call (.builtin "list.append") [acc,x]) (fun _ s₆=>∃m,m<n/\I m s₆) (fun _ _=>False) s₅) (fun _ _=>False) s₄
    else ∃m,m<n/\I m s₄) (fun _ _=>False) s₃) (fun _ _=>False) s₂) (fun _ _=>False) s₁) (fun _ _=>False) s)
 (n:Nat) (h:I n s) :
 codeAny (model prog w) A (.compLoop (.ListComp elt [⟨target,iter,ifs,0⟩] scope pos) 0 it acc env) R s:=by
 refine codeAny_loop rfl I (fun n s hI=>?_) n h;show wpAny _ A ((compTurn (.ListComp elt [⟨target,iter,ifs,0⟩] scope pos) 0 it acc env).onRaise (fun x=>do noteFrame x env;theTreesLotGoes x)) _ _ s;refine wpAny_noted ?_;rw[compTurn_list];refine wpAny_bind (wpAny_standAt (wpAny_bind (wpAny_mono (turn n s hI) (fun r s₁ h₁=>?_) fun _ _ h'=>h'.elim)));cases r with
 | none=>exact wpAny_pure h₁
 | some v=>
   refine wpAny_bind (wpAny_mono h₁ (fun _ s₂ h₂=>wpAny_bind (wpAny_mono h₂ (fun _ s₃ h₃=>wpAny_bind (wpAny_mono h₃ (fun ok s₄ h₄=>?_) fun _ _ h'=>h'.elim)) fun _ _ h'=>h'.elim)) fun _ _ h'=>h'.elim);cases ok with
   | false=>exact wpAny_pure ⟨rfl,h₄⟩
   | true=>
     exact wpAny_bind (wpAny_bind (wpAny_mono h₄ (fun x s₅ h₅=>wpAny_bind (wpAny_mono h₅ (fun _ s₆ h₆=>wpAny_pure (wpAny_pure ⟨rfl,h₆⟩)) fun _ _ h'=>h'.elim)) fun _ _ h'=>h'.elim))
end
noncomputable def PTs (X:Cx) (ifs:List Expr) (t:TT):Prop:=
 ∀(pins:List (Addr×Obj)) (s:Shared) (σ:St) (H:Hp) (Q:Bool->Hp->Prop),Inv X pins σ H s->t σ H Q->
  wpAny (model X.prog X.w) X.A (forIn ifs true fun c r=>if r=true then do let ok <-isTrue c X.env (eval c X.env);pure (ForInStep.yield ok) else pure (ForInStep.yield r)) (TP X pins σ Q) X.xe s
noncomputable def tTrue:TT:=fun _ H Q=>Q true H
theorem pts_nil {X:Cx}:PTs X [] tTrue:=fun _ _ _ H _ I h=>wpAny_tests_nil ⟨H,I,h⟩
theorem pts_one {X:Cx} {c:Expr} {t:TT} (h:PT X c t):PTs X [c] t:=fun pins s σ H Q I q=>wpAny_tests_one (h pins s σ H Q I q)
noncomputable def tComp (wi:TI) (ixs:List (Option Nat)) (g:TG) (tc:TT) (te:TE):TE:=fun σ H Q=>wi σ H fun J H1=>∀D,H1 D=none->
 ∃W:Nat->Nat->St->Hp->Prop,(∃m,W 0 m (pick σ ixs) (upd H1 D (.lst [])))/\∀i m σ' H',W i m σ' H'->
  (J.stop i H'/\Q (.ref D) H')\/(J.go i H'/\∃N:St->Hp->Prop,(∀σ2 H2,N σ2 H2->∃m',m' < m/\W (i+1) m' σ2 H2)/\∀x H2,J.yld i H' x H2->g x σ' H2 fun σ3 H3=>
   tc σ3 H3 fun b H4=>if b=true then te σ3 H4 fun y H5=>∃ys,H5 D=some (.lst ys)/\ys.length<sizeLine/\N σ3 (upd H5 D (.lst (ys++[y]))) else N σ3 H4)
section
variable {X:Cx} {N':List Str} {ixs:List (Option Nat)} {scope:Scope} {tg iter elt:Expr} {ifs:List Expr} {wi:TI} {g:TG} {tc:TT} {te:TE} {pos:Pos}
theorem comp_block {pins:List (Addr×Obj)} {σ:St} {H2:Hp} {s2:Shared} {it:Addr} {fp:List Addr} {tn:Nat->Heap->Prop} {J:It} {E:Value->Shared->Prop} {RR:Value->Addr->Result->Shared->Prop} {Q:VK}
 (S:zl4 X N' ixs scope) (hc:X.calm=true) (I2:Inv X pins σ H2 s2) (T:Turn X.prog X.w X.K tg J fp it tn) (st2:tn 0 s2.heap) (f2:∀b∈fp,FpOk X pins H2 b)
 (hin:∀cl C s H fp,PG (zj7 X N' scope cl C s H fp) tg g/\PTs (zj7 X N' scope cl C s H fp) ifs tc/\PE (zj7 X N' scope cl C s H fp) elt te)
 (hw:∀D,H2 D=none->∃W:Nat->Nat->St->Hp->Prop,(∃m,W 0 m (pick σ ixs) (upd H2 D (.lst [])))/\∀i m σ' H',W i m σ' H'->
  (J.stop i H'/\Q (.ref D) H')\/(J.go i H'/\∃N:St->Hp->Prop,(∀σ2 H2,N σ2 H2->∃m',m' < m/\W (i+1) m' σ2 H2)/\∀x H2,J.yld i H' x H2->g x σ' H2 fun σ3 H3=>
   tc σ3 H3 fun b H4=>if b=true then te σ3 H4 fun y H5=>∃ys,H5 D=some (.lst ys)/\ys.length<sizeLine/\N σ3 (upd H5 D (.lst (ys++[y]))) else N σ3 H4))
 (hR:∀(D C:Addr) (H':Hp) (s':Shared) (m:Str->Option Value),s'.heap.Ns C m->C≠X.env.locals->H' C=none->X.s₀.heap.objs.size<=C->(∀x c,X.env.cells.lookup x=some c->c≠C)->(∀p∈X.pn++pins,p.1≠C)->C∉X.fs->Inv X pins σ H' s'->Q (.ref D) H'->RR (.ref D) C (.ok .next) s') :
 wpAny (model X.prog X.w) X.A (newList []) (fun acc s₃=>wpAny (model X.prog X.w) X.A (newFunctionEnv scope X.env.globals (clOf X.env.cells scope.names []) [] X.env.qual none .none (some X.env)) (fun cenv s₄=>
  codeAny (model X.prog X.w) X.A (.compStart (.ListComp elt [⟨tg,iter,ifs,0⟩] scope pos) 0 (.ref it) acc { cenv with scope:=relabel scope X.env }) (RR acc cenv.locals) s₄) E s₃) E s2:=by
 have fD:H2 s2.heap.objs.size=none:=I2.hok.fresh (Nat.le_refl _);refine wpAny_newObj_type ?_;have I3:Inv X pins σ (upd H2 s2.heap.objs.size (.lst [])) { s2 with heap:=s2.heap.push { cls:=.type "list",dict:=none,data:=.seq ([]:List Value).toArray } }:=
  I2.lnew (ys:=[]) (its:=[]) (t':=s2.toks) .nil (Nat.zero_le _)
 generalize hs3:({ s2 with heap:=s2.heap.push { cls:=.type "list",dict:=none,data:=.seq ([]:List Value).toArray } }:Shared)=s3 at I3;have kp3:∀b o,s2.heap.get? b=some o->s3.heap.get? b=some o:=fun b o e=>by rw[<-hs3];exact Heap.get?_push_of_some _ e
 have os3:s3.heap.objs.size=s2.heap.objs.size+1:=by rw[<-hs3];exact Heap.size_push _ _
 have goal:wpAny (model X.prog X.w) X.A (newFunctionEnv scope X.env.globals (clOf X.env.cells scope.names []) [] X.env.qual none .none (some X.env)) (fun cenv s₄=>
  codeAny (model X.prog X.w) X.A (.compStart (.ListComp elt [⟨tg,iter,ifs,0⟩] scope pos) 0 (.ref it) (.ref s2.heap.objs.size) { cenv with scope:=relabel scope X.env }) (RR (.ref s2.heap.objs.size) cenv.locals) s₄) E s3:=by
  refine wpAny_newFunctionEnv S.nocell (by intro y hy;simp at hy) (fun h1 hns hsb=>?_) S.kind;have kp4:∀b o,s3.heap.get? b=some o->h1.get? b=some o:=fun b o e=>hsb.extBut b o (Nat.ne_of_lt (Heap.lt_size e)) (Heap.get?_push_of_some _ e)
  have fpO:∀b∈fp,∃o,s2.heap.get? b=some o/\∀v,o.data≠.cell v:=T.obj 0 s2.heap st2;have f3:∀b∈fp,FpOk X pins (upd H2 s2.heap.objs.size (.lst [])) b:=fun b hb=>by
   obtain⟨o,e,_⟩:=fpO b hb;exact⟨by rw[za9 (Nat.ne_of_lt (Heap.lt_size e))];exact(f2 b hb).1,(f2 b hb).2⟩
  have I4:=I3.comp (h':=h1) (t':=s3.toks+([]:List (Str×Value)).length) S f3 (fun b hb=>let ⟨o,e,d⟩:=fpO b hb;⟨o,kp3 b o e,d⟩) kp4 hns;have st4:tn 0 h1:=T.keep 0 _ _ st2 fun b _ o e=>kp4 b o (kp3 b o e)
  show codeAny (model X.prog X.w) X.A (.compStart (.ListComp elt [⟨tg,iter,ifs,0⟩] scope pos) 0 (.ref it) (.ref s2.heap.objs.size) (compEnvC scope (clOf X.env.cells scope.names []) s3.heap.objs.size X.env)) (RR (.ref s2.heap.objs.size) s3.heap.objs.size) { s3 with heap:=h1,toks:=s3.toks+([]:List (Str×Value)).length };have st4':tn 0 ({ s3 with heap:=h1,toks:=s3.toks+([]:List (Str×Value)).length }:Shared).heap:=st4;generalize ({ s3 with heap:=h1,toks:=s3.toks+([]:List (Str×Value)).length }:Shared)=s4 at I4 st4' ⊢;obtain⟨W,⟨m0,w0⟩,step⟩:=hw s2.heap.objs.size fD;have fpOld:∀b∈fp,b<s3.heap.objs.size:=fun b hb=>by
   obtain⟨o,e,_⟩:=fpO b hb;exact Heap.lt_size (kp3 b o e)
  have stat:∀{H':Hp},(∀b∈fp,H' b=none)->∀b∈fp,FpOk (zj7 X N' scope (clOf X.env.cells scope.names []) s3.heap.objs.size s3 (upd H2 s2.heap.objs.size (.lst [])) fp) [] H' b:=fun hn b hb=>
   ⟨hn b hb,Nat.ne_of_lt (fpOld b hb),fun z=>I4.ok.exfs b hb z,.inl hb,(I4.ok.exf b hb).2,fun p hp=>absurd (show p∈([]:List (Addr×Obj)) from hp) (by simp)⟩
  have loop:codeAny (model X.prog X.w) X.A (.compLoop (.ListComp elt [⟨tg,iter,ifs,0⟩] scope pos) 0 (.ref it) (.ref s2.heap.objs.size) (compEnvC scope (clOf X.env.cells scope.names []) s3.heap.objs.size X.env)) (RR (.ref s2.heap.objs.size) s3.heap.objs.size) s4:=by
   obtain⟨hg,ht,he⟩:=hin (clOf X.env.cells scope.names []) s3.heap.objs.size s3 (upd H2 s2.heap.objs.size (.lst [])) fp;refine compLoop_turn (fun n s'=>∃i σ' H',Inv (zj7 X N' scope (clOf X.env.cells scope.names []) s3.heap.objs.size s3 (upd H2 s2.heap.objs.size (.lst [])) fp) [] σ' H' s'/\tn i s'.heap/\(∀b∈fp,H' b=none)/\W i n σ' H') ?_ m0 ⟨0,_,_,I4,st4',fun b hb=>(f3 b hb).1,w0⟩;rintro n s5 ⟨i,σ5,H5,I5,st5,fr5,w5⟩;rcases step i n σ5 H5 w5 with⟨stop,q⟩ | ⟨go,N,hN,go2⟩
   ·refine thn (T.done (zj7 X N' scope (clOf X.env.cells scope.names []) s3.heap.objs.size s3 (upd H2 s2.heap.objs.size (.lst [])) fp) rfl rfl rfl hc i [] s5 σ5 H5 (fun _ _=>False) I5 (stat fr5) st5 stop) fun r s6 hI86=>?_
    obtain⟨hr,I6⟩:=hI86;subst hr;obtain⟨m,hm,_⟩:=I6.loc;refine hR _ _ H5 s6 m hm (Ne.symm (Nat.ne_of_lt I3.lt)) I6.free I3.sz (fun x c e z=>?_) (fun p hp z=>?_) (I3.nofs (Nat.le_refl _)) (I3.call' (ch:=fp) I6.os I6.base I6.hok I6.bare fun b hb=>⟨(f3 b hb).2.2.2.1,(f3 b hb).2.1,(f3 b hb).2.2.2.2.1,(f3 b hb).2.2.2.2.2⟩) q
    ·obtain⟨v,y⟩:=I3.cell x c e
     have:=y.lt;rw[z] at this;exact absurd this (Nat.lt_irrefl _)
    ·have:=Heap.lt_size (I3.pin p hp).1
     rw[z] at this;exact absurd this (Nat.lt_irrefl _)
   ·refine thn (T.item (zj7 X N' scope (clOf X.env.cells scope.names []) s3.heap.objs.size s3 (upd H2 s2.heap.objs.size (.lst [])) fp) rfl rfl rfl hc i [] s5 σ5 H5 (fun _ _=>False) I5 (stat fr5) st5 go) fun r s6 hI87=>?_
    obtain⟨u,hr,h6⟩:=hI87;subst hr;refine thn h6 fun _ s7 hI88=>?_
    obtain⟨x,H7,I7,r7,y7,st7,fr7⟩:=hI88;have I7':=I7.pinned (stat fr7) (T.obj _ _ st7);refine thn (hg _ s7 σ5 H7 x u _ I7' r7 (go2 x H7 y7)) fun _ s8 hI89=>?_
    obtain⟨σ8,H8,I8,q8⟩:=hI89;refine thn (ht _ s8 σ8 H8 _ I8 q8) fun ok s9 hI90=>?_
    obtain⟨H9,I9,q9⟩:=hI90;have again:∀{sz:Shared} {σz:St} {Hz:Hp},Inv (zj7 X N' scope (clOf X.env.cells scope.names []) s3.heap.objs.size s3 (upd H2 s2.heap.objs.size (.lst [])) fp) ([]++pinsAt fp s7.heap) σz Hz sz->N σz Hz->
     ∃m,m<n/\∃i σ' H',Inv (zj7 X N' scope (clOf X.env.cells scope.names []) s3.heap.objs.size s3 (upd H2 s2.heap.objs.size (.lst [])) fp) [] σ' H' sz/\tn i sz.heap/\(∀b∈fp,H' b=none)/\W i m σ' H':=fun {sz σz Hz} Iz nz=>by
     obtain⟨m',hm,wz⟩:=hN σz Hz nz;refine⟨m',hm,i+1,σz,Hz,Iz.unpinned,T.keep _ _ _ st7 fun b hb o e=>(Iz.pin (b,o) (List.mem_append_right _ (List.mem_append_right _ (mem_pinsAt hb e)))).1,fun b hb=>?_,wz⟩;obtain⟨o,e,d⟩:=T.obj _ _ st7 b hb;exact(Iz.pin (b,o) (List.mem_append_right _ (List.mem_append_right _ (mem_pinsAt hb e)))).2.1
    cases ok with
    | false=>
      rw[if_neg (by decide)] at q9 ⊢;exact again I9 q9
    | true=>
      rw[if_pos rfl] at q9 ⊢;refine thn (he _ s9 σ8 H9 _ I9 q9) fun v s10 hI91=>?_
      obtain⟨y,H10,I10,r10,ys,hD,hz,q10⟩:=hI91;refine thn (zk8 _ s10 σ8 H10 (.ref s2.heap.objs.size) [y] (.ref s2.heap.objs.size) [v] (fun _ H=>N σ8 H) I10 rfl (.cons r10 .nil) ⟨_,ys,y,rfl,rfl,hD,hz,q10⟩) fun _ s11 hI92=>?_
      obtain⟨_,H11,I11,_,q11⟩:=hI92;exact again I11 q11
  refine codeAny_compStart_list loop (T.self _ 0 _ _ _ st4' loop)
 exact goal
theorem pe_comp (S:zl4 X N' ixs scope) (hc:X.calm=true) (hi:PI X tg iter wi)
 (hin:∀cl C s H fp,PG (zj7 X N' scope cl C s H fp) tg g/\PTs (zj7 X N' scope cl C s H fp) ifs tc/\PE (zj7 X N' scope cl C s H fp) elt te)
 (hs:∀x,foldedSetIterable iter X.env x=pure x:=by intro _;rfl) :
 PE X (.ListComp elt [⟨tg,iter,ifs,0⟩] scope pos) (tComp wi ixs g tc te):=by
 intro pins s σ H Q I h;rw[eval_ListComp];refine wpAny_comprehension_free (use:=none) rfl hs (S.clos I) S.kind S.loc (thn (hi pins s σ H _ I h) fun v s1 h1=>thn h1 fun itv s2 h2=>?_);obtain⟨it,fp,tn,J,H2,rfl,I2,T,st2,f2,hw⟩:=h2;refine comp_block (RR:=fun acc C=>compPost (model X.prog X.w) X.A X.xe none (EP X pins σ Q) acc C) S hc I2 T st2 f2 hin hw ?_;intro D C H' s' m hn hL hC hsz hcl hpn hfs I' q;refine⟨m,hn,fun h' hs'=>⟨.ref D,H',?_,rfl,q⟩⟩;exact I'.turned (t':=s'.toks) (fun b o hb e=>hs'.extBut b o hb e) hC hL (.inr hsz) hcl hpn
end
end L2
end
section
namespace L2
open PySem PySem.Spec PyProof.Rows
section
variable {X:Cx} {N':List Str} {ixs:List (Option Nat)} {scope:Scope} {tg iter elt:Expr} {ifs:List Expr} {wi:TI} {g:TG} {tc:TT} {te:TE} {pos spos:Pos}
end
end L2
end
section
namespace L2
open PySem PySem.Spec PyProof.Rows
inductive D where
 | non | bl (b:Bool) | int (i:Int) | str (x:Str) | tup (l:List D) | lst (l:List D) | dct (ks vs:List D) | fl (l:List D)
noncomputable def dKey:Key->D
 | .inl i=>.int i
 | .inr x=>.str x
noncomputable def dKeys (k:List Key):D:=.tup (k.map dKey)
mutual
noncomputable def Is (K:PySem.W.Frag) (A:Addr->Prop) (H:Hp):D->V->Prop
 | .non,v=>v=.non
 | .bl b,v=>v=.bl b
 | .int i,v=>v=.int i
 | .str x,v=>v=.str x
 | .tup l,v=>∃a vs,v=.ref a/\H a=some (.tup vs)/\IsL K A H l vs
 | .lst l,v=>∃a vs,v=.ref a/\A a/\H a=some (.lst vs)/\IsL K A H l vs
 | .dct ks l,v=>∃a vs,v=.ref a/\A a/\IsL K A H l vs/\
  ((∃kk:List Key,ks=kk.map dKey/\kk.length=vs.length/\H a=some (.dK (kk.zip vs)))\/(∃kk:List (List Key),ks=D.non::kk.map dKeys/\kk.length=vs.length/\H a=some (.dT (kk.zip vs))))
 | .fl l,v=>∃a o vs,v=.ref a/\H a=some (.frz o (.lst vs))/\IsL K A H l vs
noncomputable def IsL (K:PySem.W.Frag) (A:Addr->Prop) (H:Hp):List D->List V->Prop
 | [],vs=>vs=[]
 | d::l,vs=>∃v r,vs=v::r/\Is K A H d v/\IsL K A H l r
end
noncomputable def Stay (o:HO):Prop:=(∃u,o=.tup u)\/∃ob u,o=.frz ob u
structure KeepT (A A':Addr->Prop) (H H':Hp):Prop where
 sty:∀b o,H b=some o->Stay o->H' b=some o
 nod:∀b o,A b->H b=some o->A' b/\H' b=some o
section
variable {K:PySem.W.Frag} {A A':Addr->Prop} {H H':Hp}
theorem KeepT.tup (k:KeepT A A' H H') (b:Addr) (u:List V) (h:H b=some (.tup u)):H' b=some (.tup u):=k.sty b _ h (.inl ⟨_,rfl⟩)
theorem KeepT.frz (k:KeepT A A' H H') (b:Addr) (o:Obj) (u:HO) (h:H b=some (.frz o u)):H' b=some (.frz o u):=k.sty b _ h (.inr ⟨_,_,rfl⟩)
mutual
theorem Is.mono (k:KeepT A A' H H'):∀{d:D} {v:V},Is K A H d v->Is K A' H' d v
 | .non,_,h=>h
 | .bl _,_,h=>h
 | .int _,_,h=>h
 | .str _,_,h=>h
 | .tup l,v,h=>by
   unfold Is at h ⊢;obtain⟨a,vs,e,q,i⟩:=h;exact⟨a,vs,e,k.tup a vs q,IsL.mono k i⟩
 | .lst l,v,h=>by
   unfold Is at h ⊢;obtain⟨a,vs,e,n,q,i⟩:=h;exact⟨a,vs,e,(k.nod a _ n q).1,(k.nod a _ n q).2,IsL.mono k i⟩
 | .dct ks l,v,h=>by
   unfold Is at h ⊢;obtain⟨a,vs,e,n,i,q⟩:=h;refine⟨a,vs,e,?_,IsL.mono k i,?_⟩
   ·rcases q with⟨_,_,_,q⟩ | ⟨_,_,_,q⟩<;>exact(k.nod a _ n q).1
   ·rcases q with⟨kk,e1,e2,q⟩ | ⟨kk,e1,e2,q⟩
    ·exact .inl ⟨kk,e1,e2,(k.nod a _ n q).2⟩
    ·exact .inr ⟨kk,e1,e2,(k.nod a _ n q).2⟩
 | .fl l,v,h=>by
   unfold Is at h ⊢;obtain⟨a,o,vs,e,q,i⟩:=h;exact⟨a,o,vs,e,k.frz a o _ q,IsL.mono k i⟩
theorem IsL.mono (k:KeepT A A' H H'):∀{l:List D} {vs:List V},IsL K A H l vs->IsL K A' H' l vs
 | [],_,h=>h
 | d::l,vs,h=>by
   unfold IsL at h ⊢;obtain⟨v,r,e,i,j⟩:=h;exact⟨v,r,e,Is.mono k i,IsL.mono k j⟩
end
theorem IsL.nil {vs:List V}:IsL K A H [] vs↔vs=[]:=by unfold IsL;rfl
theorem IsL.cons {d:D} {l:List D} {vs:List V}:IsL K A H (d::l) vs↔∃v r,vs=v::r/\Is K A H d v/\IsL K A H l r:=by conv=>lhs;unfold IsL
theorem IsL.length:∀{l:List D} {vs:List V},IsL K A H l vs->l.length=vs.length
 | [],vs,h=>by rw[IsL.nil.mp h];rfl
 | d::l,vs,h=>by
   obtain⟨v,r,e,_,j⟩:=IsL.cons.mp h;rw[e,List.length_cons,List.length_cons,IsL.length j]
theorem IsL.get:∀{l:List D} {vs:List V} {i:Nat} {d:D},IsL K A H l vs->l[i]?=some d->∃v,vs[i]?=some v/\Is K A H d v
 | [],_,_,_,_,e=>by simp at e
 | x::l,vs,0,d,h,e=>by
   obtain⟨v,r,e',i,_⟩:=IsL.cons.mp h;simp at e;subst e e';exact⟨v,rfl,i⟩
 | x::l,vs,i+1,d,h,e=>by
   obtain⟨v,r,e',_,j⟩:=IsL.cons.mp h;subst e';simpa using IsL.get (i:=i) j (by simpa using e)
theorem IsL.append:∀{l m:List D} {vs us:List V},IsL K A H l vs->IsL K A H m us->IsL K A H (l++m) (vs++us)
 | [],m,vs,us,h,g=>by rw[IsL.nil.mp h];exact g
 | d::l,m,vs,us,h,g=>by
   obtain⟨v,r,e,i,j⟩:=IsL.cons.mp h;subst e;exact IsL.cons.mpr ⟨v,r++us,rfl,i,IsL.append j g⟩
theorem IsL.one {d:D} {v:V} (h:Is K A H d v):IsL K A H [d] [v]:=IsL.cons.mpr ⟨v,[],rfl,h,IsL.nil.mpr rfl⟩
theorem IsL.take:∀{l:List D} {vs:List V} (n:Nat),IsL K A H l vs->IsL K A H (l.take n) (vs.take n)
 | _,_,0,_=>by simp only[List.take_zero];exact IsL.nil.mpr rfl
 | [],vs,n+1,h=>by rw[IsL.nil.mp h];simp only[List.take_nil];exact IsL.nil.mpr rfl
 | d::l,vs,n+1,h=>by
   obtain⟨v,r,e,i,j⟩:=IsL.cons.mp h;subst e;exact IsL.cons.mpr ⟨v,r.take n,rfl,i,IsL.take n j⟩
theorem IsL.drop:∀{l:List D} {vs:List V} (n:Nat),IsL K A H l vs->IsL K A H (l.drop n) (vs.drop n)
 | _,_,0,h=>by simpa only[List.drop_zero] using h
 | [],vs,n+1,h=>by rw[IsL.nil.mp h];simp only[List.drop_nil];exact IsL.nil.mpr rfl
 | d::l,vs,n+1,h=>by
   obtain⟨v,r,e,i,j⟩:=IsL.cons.mp h;subst e;exact IsL.drop n j
theorem IsL.reverse:∀{l:List D} {vs:List V},IsL K A H l vs->IsL K A H l.reverse vs.reverse
 | [],vs,h=>by rw[IsL.nil.mp h];exact IsL.nil.mpr rfl
 | d::l,vs,h=>by
   obtain⟨v,r,e,i,j⟩:=IsL.cons.mp h;subst e;rw[List.reverse_cons,List.reverse_cons];exact IsL.append (IsL.reverse j) (IsL.one i)
theorem IsL.set:∀{l:List D} {vs:List V} (n:Nat) {d:D} {v:V},IsL K A H l vs->Is K A H d v->IsL K A H (l.set n d) (vs.set n v)
 | [],vs,n,d,v,h,_=>by rw[IsL.nil.mp h];simp only[List.set_nil];exact IsL.nil.mpr rfl
 | x::l,vs,0,d,v,h,g=>by
   obtain⟨w,r,e,i,j⟩:=IsL.cons.mp h;subst e;exact IsL.cons.mpr ⟨v,r,rfl,g,j⟩
 | x::l,vs,n+1,d,v,h,g=>by
   obtain⟨w,r,e,i,j⟩:=IsL.cons.mp h;subst e;exact IsL.cons.mpr ⟨w,r.set n v,rfl,i,IsL.set n j g⟩
end
mutual
noncomputable def D.imm:D->Bool
 | .tup l=>D.immL l
 | .lst _=>false
 | .dct _ _=>false
 | .fl l=>D.immL l
 | _=>true
noncomputable def D.immL:List D->Bool
 | []=>true
 | d::l=>D.imm d&&D.immL l
end
section
variable {K:PySem.W.Frag} {A A':Addr->Prop} {H:Hp}
mutual
theorem Is.ofImm:∀{d:D} {v:V},d.imm=true->Is K A H d v->Is K A' H d v
 | .non,_,_,h=>h
 | .bl _,_,_,h=>h
 | .int _,_,_,h=>h
 | .str _,_,_,h=>h
 | .tup l,v,m,h=>by
   unfold Is at h ⊢;obtain⟨a,vs,e,q,i⟩:=h;exact⟨a,vs,e,q,IsL.ofImm (by simpa [D.imm] using m) i⟩
 | .lst l,v,m,_=>by simp[D.imm] at m
 | .dct _ l,v,m,_=>by simp[D.imm] at m
 | .fl l,v,m,h=>by
   unfold Is at h ⊢;obtain⟨a,o,vs,e,q,i⟩:=h;exact⟨a,o,vs,e,q,IsL.ofImm (by simpa [D.imm] using m) i⟩
theorem IsL.ofImm:∀{l:List D} {vs:List V},D.immL l=true->IsL K A H l vs->IsL K A' H l vs
 | [],_,_,h=>h
 | d::l,vs,m,h=>by
   have m':d.imm=true/\D.immL l=true:=by simpa [D.immL] using m
   unfold IsL at h ⊢;obtain⟨v,r,e,i,j⟩:=h;exact⟨v,r,e,Is.ofImm m'.1 i,IsL.ofImm m'.2 j⟩
end
theorem Is.tup {a:Addr} {vs:List V} {l:List D} (h:H a=some (.tup vs)) (i:IsL K A H l vs):Is K A H (.tup l) (.ref a):=by
 unfold Is;exact⟨a,vs,rfl,h,i⟩
theorem Is.lst {a:Addr} {vs:List V} {l:List D} (n:A a) (h:H a=some (.lst vs)) (i:IsL K A H l vs):Is K A H (.lst l) (.ref a):=by
 unfold Is;exact⟨a,vs,rfl,n,h,i⟩
theorem Is.int_iff {i:Int} {v:V}:Is K A H (.int i) v↔v=.int i:=by unfold Is;rfl
theorem Is.bl_iff {i:Bool} {v:V}:Is K A H (.bl i) v↔v=.bl i:=by unfold Is;rfl
theorem Is.str_iff {i:Str} {v:V}:Is K A H (.str i) v↔v=.str i:=by unfold Is;rfl
theorem Is.non_iff {v:V}:Is K A H .non v↔v=.non:=by unfold Is;rfl
theorem Is.tup_iff {l:List D} {v:V}:Is K A H (.tup l) v↔∃a vs,v=.ref a/\H a=some (.tup vs)/\IsL K A H l vs:=by conv=>lhs;unfold Is
theorem Is.tup_sq {l:List D} {v:V} (h:Is K A H (.tup l) v):∃a vs,v=.ref a/\SqT K H a vs/\IsL K A H l vs:=let ⟨a,vs,e,s,i⟩:=Is.tup_iff.mp h;⟨a,vs,e,.of s,i⟩
theorem Is.lst_iff {l:List D} {v:V}:Is K A H (.lst l) v↔∃a vs,v=.ref a/\A a/\H a=some (.lst vs)/\IsL K A H l vs:=by conv=>lhs;unfold Is
theorem Is.fl_iff {l:List D} {v:V}:Is K A H (.fl l) v↔∃a o vs,v=.ref a/\H a=some (.frz o (.lst vs))/\IsL K A H l vs:=by conv=>lhs;unfold Is
theorem Is.dct_iff {ks l:List D} {v:V}:Is K A H (.dct ks l) v↔∃a vs,v=.ref a/\A a/\IsL K A H l vs/\
 ((∃kk:List Key,ks=kk.map dKey/\kk.length=vs.length/\H a=some (.dK (kk.zip vs)))\/(∃kk:List (List Key),ks=D.non::kk.map dKeys/\kk.length=vs.length/\H a=some (.dT (kk.zip vs)))):=by conv=>lhs;unfold Is
end
end L2
end
section
namespace L2
open PySem PySem.Spec PyProof.Rows
structure Exn where
 cls:Str
 args:List D
inductive Res (S α:Type) where
 | ok (a:α) (st:S) | exc (x:Exn) (st:S) | bad
variable {S α β γ:Type}
noncomputable def Res.bind (r:Res S α) (k:α->S->Res S β):Res S β:=match r with
 | .ok a st=>k a st
 | .exc x st=>.exc x st
 | .bad=>.bad
noncomputable def wpR (r:Res S α) (Q:α->S->Prop) (E:Exn->S->Prop):Prop:=match r with
 | .ok a st=>Q a st
 | .exc x st=>E x st
 | .bad=>False
theorem za3 {r:Res S α} {k:α->S->Res S β} {Q:β->S->Prop} {E:Exn->S->Prop}:wpR (r.bind k) Q E↔wpR r (fun a st=>wpR (k a st) Q E) E:=by
 cases r<;>rfl
theorem za6 {r:Res S α} {Q Q':α->S->Prop} {E E':Exn->S->Prop} (h:wpR r Q E) (hQ:∀a st,Q a st->Q' a st) (hE:∀x st,E x st->E' x st):wpR r Q' E':=by
 cases r with
 | ok a st=>exact hQ a st h
 | exc x st=>exact hE x st h
 | bad=>exact h.elim
noncomputable def lift (o:Option α) (st:S):Res S α:=match o with
 | some a=>.ok a st
 | none=>.bad
theorem zb6 {o:Option α} {st:S} {Q:α->S->Prop} {E:Exn->S->Prop}:wpR (lift o st) Q E↔∃a,o=some a/\Q a st:=by
 cases o with
 | none=>constructor
         ·intro h;exact h.elim
         ·rintro ⟨a,e,_⟩;cases e
 | some a=>constructor
           ·intro h;exact⟨a,rfl,h⟩
           ·rintro ⟨b,e,q⟩;cases e;exact q
@[simp] theorem Res.bind_ok (a:α) (st:S) (k:α->S->Res S β):(Res.ok a st).bind k=k a st:=rfl
structure Wd (S:Type) where
 ok:S->Hp->Prop
 mv:Addr->Prop
 h:V
 stay:∀st H H',ok st H->(∀b o,mv b->H b=some o->H' b=some o)->ok st H'
 live:∀st H b,ok st H->mv b->∃o,H b=some o/\(∀u,o≠.tup u)/\∀ob u,o≠.frz ob u
noncomputable def W0:Wd Unit:=⟨fun _ _=>True,fun _=>False,.non,fun _ _ _ h _=>h,fun _ _ _ _ h=>h.elim⟩
inductive Sl where
 | no | bor (d:D) | own (d:D) | hnd
noncomputable abbrev Rho:=List Sl
structure Dx {S:Type} (W:Wd S) where
 K:PySem.W.Frag
 H0:Hp
 Ex:Exn->S->Hp->Prop
 /-- addresses that no tree holds (a comprehension's list while it grows) -/
 av:Addr->Prop
noncomputable def Ext {S:Type} (W:Wd S) (H H':Hp):Prop:=∀b o,H b=some o->¬W.mv b->H' b=some o
theorem Ext.refl {S:Type} {W:Wd S} {H:Hp}:Ext W H H:=fun _ _ h _=>h
theorem Ext.trans {S:Type} {W:Wd S} {H H1 H2:Hp} (a:Ext W H H1) (b:Ext W H1 H2):Ext W H H2:=fun c o h n=>b c o (a c o h n) n
theorem Ext.laid {S:Type} {W:Wd S} {H:Hp} {p:Addr} {o:HO} (h:H p=none):Ext W H (upd H p o):=fun b u e _=>by rw[za9 (zb0 e h)];exact e
theorem Same.ext {S:Type} {W:Wd S} {H H':Hp} (h:Same H H'):Ext W H H':=fun b o e _=>h b o e
noncomputable def Ow (σ:St) (ρ:Rho) (b:Addr):Prop:=∃(i:Nat) (d:D),ρ[i]?=some (Sl.own d)/\σ[i]?=some (some (V.ref b))
noncomputable def Av {S:Type} {W:Wd S} (c:Dx W) (σ:St) (ρ:Rho) (b:Addr):Prop:=¬W.mv b/\¬Ow σ ρ b/\¬c.av b
noncomputable def Top (K:PySem.W.Frag) (A:Addr->Prop) (H:Hp) (d:D) (a:Addr):Prop:=match d with
 | .lst l=>∃vs,H a=some (.lst vs)/\IsL K A H l vs
 | .dct ks l=>∃vs,IsL K A H l vs/\((∃kk:List Key,ks=kk.map dKey/\kk.length=vs.length/\H a=some (.dK (kk.zip vs)))\/(∃kk:List (List Key),ks=D.non::kk.map dKeys/\kk.length=vs.length/\H a=some (.dT (kk.zip vs))))
 | _=>False
noncomputable def SlotOk {S:Type} {W:Wd S} (c:Dx W) (H:Hp) (A:Addr->Prop) (ov:Option V):Sl->Prop
 | .no=>True
 | .bor d=>∃v,ov=some v/\Is c.K A H d v
 | .own d=>∃a,ov=some (.ref a)/\(¬W.mv a/\¬c.av a)/\c.H0 a=none/\Top c.K A H d a
 | .hnd=>ov=some W.h
structure Rep {S:Type} {W:Wd S} (c:Dx W) (H:Hp) (σ:St) (ρ:Rho):Prop where
 len:σ.length=ρ.length
 frame:∀b o,c.H0 b=some o->¬W.mv b->H b=some o
 slot:∀(i:Nat) (s:Sl),ρ[i]?=some s->SlotOk c H (Av c σ ρ) (σ[i]?).join s
 avl:∀b,c.av b->¬W.mv b/\c.H0 b=none/\∃o,H b=some o/\(∀u,o≠.tup u)/\∀ob u,o≠.frz ob u
 uniq:∀(i j:Nat) (a:Addr) (d e:D),ρ[i]?=some (.own d)->ρ[j]?=some (.own e)->σ[i]?=some (some (.ref a))->σ[j]?=some (some (.ref a))->i=j
section
variable {S:Type} {W:Wd S} {c:Dx W} {H H':Hp} {σ:St} {ρ:Rho} {A A':Addr->Prop}
theorem Top.isTop {d:D} {a:Addr} (n:A a) (h:Top c.K A H d a):Is c.K A H d (.ref a):=by
 cases d with
 | lst l=>obtain⟨vs,e,i⟩:=h;exact Is.lst n e i
 | dct ks l=>obtain⟨vs,i,q⟩:=h;exact Is.dct_iff.mpr ⟨a,vs,rfl,n,i,q⟩
 | _=>exact h.elim
theorem Top.there {d:D} {a:Addr} (h:Top c.K A H d a):∃o,H a=some o/\(∀u,o≠.tup u)/\∀ob u,o≠.frz ob u:=by
 cases d with
 | lst l=>obtain⟨vs,e,i⟩:=h;exact⟨_,e,(fun u z=>by cases z),(fun ob u z=>by cases z)⟩
 | dct ks l=>
   obtain⟨vs,i,⟨_,_,_,q⟩ | ⟨_,_,_,q⟩⟩:=h
   ·exact⟨_,q,(fun u z=>by cases z),(fun ob u z=>by cases z)⟩
   ·exact⟨_,q,(fun u z=>by cases z),(fun ob u z=>by cases z)⟩
 | _=>exact h.elim
theorem Top.mono {d:D} {a:Addr} (k:KeepT A A' H H') (e:∀o,H a=some o->H' a=some o) (h:Top c.K A H d a):Top c.K A' H' d a:=by
 cases d with
 | lst l=>obtain⟨vs,q,i⟩:=h;exact⟨vs,e _ q,i.mono k⟩
 | dct ks l=>
   obtain⟨vs,i,⟨kk,e1,e2,q⟩ | ⟨kk,e1,e2,q⟩⟩:=h
   ·exact⟨vs,i.mono k,.inl ⟨kk,e1,e2,e _ q⟩⟩
   ·exact⟨vs,i.mono k,.inr ⟨kk,e1,e2,e _ q⟩⟩
 | _=>exact h.elim
theorem Rep.owOk (R:Rep c H σ ρ) {b:Addr} (h:Ow σ ρ b):¬W.mv b/\c.H0 b=none/\∃o,H b=some o/\(∀u,o≠.tup u)/\∀ob u,o≠.frz ob u:=by
 obtain⟨i,d,e1,e2⟩:=h;obtain⟨a,e,n,f,t⟩:=R.slot i _ e1;rw[e2] at e;have e:some (V.ref b)=some (V.ref a):=e;cases e;exact⟨n.1,f,t.there⟩
theorem zi2 (ht:∀b o,H b=some o->(∃u,o=.tup u)\/(∃ob u,o=.frz ob u)->H' b=some o) (hn:∀b o,A b->H b=some o->A' b/\H' b=some o):KeepT A A' H H':=
 ⟨ht,hn⟩
theorem Ext.keepT {st:S} (e:Ext W H H') (ok:W.ok st H) (hA:∀b,A b->¬W.mv b/\A' b):KeepT A A' H H':=
 zi2 (fun b o h t=>e b o h fun m=>by
  obtain⟨o',h',n1,n2⟩:=W.live st H b ok m;rw[h] at h';cases h';rcases t with⟨u,z⟩ | ⟨ob,u,z⟩
  ·exact n1 u z
  ·exact n2 ob u z) fun b o a h=>⟨(hA b a).2,e b o h (hA b a).1⟩
theorem Rep.ext {st:S} (R:Rep c H σ ρ) (ok:W.ok st H) (e:Ext W H H'):Rep c H' σ ρ where
 len:=R.len
 frame:=fun b o h n=>e b o (R.frame b o h n) n
 avl:=fun b h=>let ⟨n,z,o,h',q⟩:=R.avl b h;⟨n,z,o,e b o h' n,q⟩
 uniq:=R.uniq
 slot:=fun i s h=>by
  have k:KeepT (Av c σ ρ) (Av c σ ρ) H H':=e.keepT ok fun b a=>⟨a.1,a⟩
  have q:=R.slot i s h;cases s with
  | no=>trivial
  | bor d=>obtain⟨v,e1,i1⟩:=q;exact⟨v,e1,i1.mono k⟩
  | own d=>obtain⟨a,e1,n,f,t⟩:=q;exact⟨a,e1,n,f,t.mono k fun o z=>e a o z n.1⟩
  | hnd=>exact q
end
noncomputable def D.mut:D->Bool
 | .lst _=>true
 | .dct _ _=>true
 | _=>false
inductive Gr where
 | R | B | F
noncomputable def Val {S:Type} {W:Wd S} (c:Dx W) (g:Gr) (σ:St) (ρ:Rho) (H H':Hp) (d:D) (v:V):Prop:=match g with
 | .R=>Is c.K (fun b=>¬W.mv b) H' d v
 | .B=>Is c.K (Av c σ ρ) H' d v
 | .F=>Is c.K (Av c σ ρ) H' d v/\∀a,v=.ref a->d.mut=true->H a=none
section
variable {S:Type} {W:Wd S} {c:Dx W} {H H1 H':Hp} {σ:St} {ρ:Rho} {d:D} {v:V} {g:Gr}
theorem Val.toR (h:Val c g σ ρ H H' d v):Val c .R σ ρ H H' d v:=by
 have k:KeepT (Av c σ ρ) (fun b=>¬W.mv b) H' H':=⟨fun _ _ z _=>z,fun b o a z=>⟨a.1,z⟩⟩;cases g with
 | R=>exact h
 | B=>exact Is.mono k h
 | F=>exact Is.mono k h.1
theorem Val.toB (h:Val c .F σ ρ H H' d v):Val c .B σ ρ H H' d v:=h.1
theorem Val.imm (m:d.imm=true) (h:Val c .R σ ρ H H' d v) (g:Gr):Val c g σ ρ H H' d v:=by
 cases g with
 | R=>exact h
 | B=>exact Is.ofImm m h
 | F=>refine⟨Is.ofImm m h,fun a e z=>?_⟩
      cases d<;>simp[D.mut,D.imm] at z m
end
noncomputable abbrev Fn (S:Type):=Rho->S->Res S D
noncomputable def tD {S:Type} {W:Wd S} (c:Dx W) (g:Gr) (f:Fn S):TE:=fun σ H Q=>∃ρ st,Rep c H σ ρ/\W.ok st H/\
 wpR (f ρ st) (fun d st'=>∀v H',Ext W H H'->W.ok st' H'->Val c g σ ρ H H' d v->Q v H') fun x st'=>∀H',Ext W H H'->W.ok st' H'->c.Ex x st' H'
noncomputable def DE (X:Cx) {S:Type} {W:Wd S} (c:Dx W) (g:Gr) (e:Expr) (f:Fn S):Prop:=PE X e (tD c g f)
theorem PE.imp {X:Cx} {e:Expr} {t t':TE} (h:PE X e t) (i:∀σ H Q,t' σ H Q->t σ H Q):PE X e t':=fun pins s σ H Q I q=>h pins s σ H Q I (i σ H Q q)
theorem PT.imp {X:Cx} {e:Expr} {t t':TT} (h:PT X e t) (i:∀σ H Q,t' σ H Q->t σ H Q):PT X e t':=fun pins s σ H Q I q=>h pins s σ H Q I (i σ H Q q)
theorem PS.imp {X:Cx} {e:Stmt} {t t':TS} (h:PS X e t) (i:∀D σ H,t' D σ H->t D σ H):PS X e t':=fun pins s σ H D I q=>h pins s σ H D I (i D σ H q)
theorem PSs.imp {X:Cx} {e:List Stmt} {t t':TS} (h:PSs X e t) (i:∀D σ H,t' D σ H->t D σ H):PSs X e t':=fun pins s σ H D I q=>h pins s σ H D I (i D σ H q)
section
variable {X:Cx} {S:Type} {W:Wd S} {c:Dx W} {g:Gr} {e:Expr} {f:Fn S}
end
end L2
end
section
namespace L2
open PySem PySem.Spec PyProof.Rows
noncomputable def Go {S:Type} {W:Wd S} (c:Dx W) (g:Gr) (σ:St) (f:Fn S) (H:Hp) (Q:VK) (ρ:Rho) (st:S):Prop:=
 wpR (f ρ st) (fun d st'=>∀v H',Ext W H H'->W.ok st' H'->Val c g σ ρ H H' d v->Q v H') fun x st'=>∀H',Ext W H H'->W.ok st' H'->c.Ex x st' H'
section
variable {S:Type} {W:Wd S} {c:Dx W} {H H1 H':Hp} {σ:St} {ρ:Rho} {d:D} {v:V} {g g':Gr} {st st1:S}
theorem Ext.none (e:Ext W H H1) (ok:W.ok st H1) {a:Addr} (h:H1 a=none):H a=none:=by
 cases q:H a with
 | none=>rfl
 | some o=>
   have n:¬W.mv a:=fun m=>by obtain⟨o',h',_⟩:=W.live st H1 a ok m;rw[h] at h';cases h'
   rw[e a o q n] at h;cases h
theorem Val.back (e:Ext W H H1) (ok:W.ok st H1) (h:Val c g σ ρ H1 H' d v):Val c g σ ρ H H' d v:=by
 cases g with
 | R=>exact h
 | B=>exact h
 | F=>exact⟨h.1,fun a ea m=>e.none ok (h.2 a ea m)⟩
theorem Val.ext (e:Ext W H' H1) (ok:W.ok st H') (h:Val c .R σ ρ H H' d v):Val c .R σ ρ H H1 d v:=Is.mono (e.keepT ok fun b n=>⟨n,n⟩) h
theorem Is.ext {A:Addr->Prop} (e:Ext W H' H1) (ok:W.ok st H') (hA:∀b,A b->¬W.mv b) (h:Is c.K A H' d v):Is c.K A H1 d v:=Is.mono (e.keepT ok fun b n=>⟨hA b n,n⟩) h
theorem IsL.ext {A:Addr->Prop} {l:List D} {vs:List V} (e:Ext W H' H1) (ok:W.ok st H') (hA:∀b,A b->¬W.mv b) (h:IsL c.K A H' l vs):IsL c.K A H1 l vs:=IsL.mono (e.keepT ok fun b n=>⟨hA b n,n⟩) h
theorem Go.from {f:Fn S} {Q:VK} (e:Ext W H H1) (ok:W.ok st1 H1) (h:Go c g σ f H Q ρ st):Go c g σ f H1 Q ρ st:=
 za6 h (fun d st' q v H' a b z=>q v H' (e.trans a) b (z.back e ok)) fun x st' q H' a b=>q H' (e.trans a) b
theorem Go.bind {f:Fn S} {k:D->Fn S} {Q:VK} (R:Rep c H σ ρ) (ok:W.ok st H) (h:Go c g σ (fun ρ st=>(f ρ st).bind fun d st1=>k d ρ st1) H Q ρ st) :
 tD c g' f σ H fun v H1=>∃d st1,Rep c H1 σ ρ/\W.ok st1 H1/\Ext W H H1/\Val c g' σ ρ H H1 d v/\Go c g σ (k d) H1 Q ρ st1:=by
 refine⟨ρ,st,R,ok,?_⟩;have h':=za3.mp h;refine za6 h' (fun d st1 q v H1 e ok1 z=>?_) fun x st1 q=>q
 exact⟨d,st1,R.ext ok e,ok1,e,z,za6 q (fun d' st' q v' H' a b y=>q v' H' (e.trans a) b (y.back e ok1)) fun x st' q H' a b=>q H' (e.trans a) b⟩
theorem Go.done {Q:VK} {o:Option D} (h:Go c g σ (fun _ st=>lift o st) H Q ρ st) (ok:W.ok st H):∃d,o=some d/\∀v H',Ext W H H'->W.ok st H'->Val c g σ ρ H H' d v->Q v H':=by
 obtain⟨d,e,q⟩:=zb6.mp h;exact⟨d,e,q⟩
noncomputable def New {S:Type} {W:Wd S} (c:Dx W) (H H':Hp) (d:D) (v:V):Prop:=Is c.K (fun b=>¬W.mv b/\H b=none) H' d v
theorem New.valF (R:Rep c H σ ρ) (h:New c H H' d v):Val c .F σ ρ H H' d v:=by
 have k:KeepT (fun b=>¬W.mv b/\H b=Option.none) (Av c σ ρ) H' H':=⟨fun _ _ z _=>z,fun b o a z=>⟨⟨a.1,(fun w=>by
  obtain⟨_,_,o',h',_⟩:=R.owOk w;rw[a.2] at h';cases h'),fun w=>by
  obtain⟨_,_,o',h',_⟩:=R.avl b w;rw[a.2] at h';cases h'⟩,z⟩⟩
 refine⟨Is.mono k h,fun a ea m=>?_⟩;subst ea;cases d with
 | lst l=>obtain⟨b,vs,e,n,_⟩:=Is.lst_iff.mp h;cases e;exact n.2
 | dct ks l=>obtain⟨b,vs,e,n,_⟩:=Is.dct_iff.mp h;cases e;exact n.2
 | _=>simp[D.mut] at m
theorem New.val (R:Rep c H σ ρ) (h:New c H H' d v) (g:Gr):Val c g σ ρ H H' d v:=by
 cases g with
 | R=>exact(h.valF R).toR
 | B=>exact(h.valF R).toB
 | F=>exact h.valF R
theorem New.imm (m:d.imm=true) {A:Addr->Prop} (h:Is c.K A H' d v):New c H H' d v:=Is.ofImm m h
theorem zm2 {p:Addr} {o:HO} (ok:W.ok st H) (h:H p=none):W.ok st (upd H p o):=W.stay st H _ ok fun b u _ e=>by rw[za9 (zb0 e h)];exact e
theorem mv_free {p:Addr} (ok:W.ok st H) (h:H p=none):¬W.mv p:=fun m=>by
 obtain⟨o',h',_⟩:=W.live st H p ok m;rw[h] at h';cases h'
theorem New.tup {p:Addr} {l:List D} {vs:List V} {A:Addr->Prop} (ok:W.ok st H) (h:H p=none) (hA:∀b,A b->¬W.mv b) (m:D.immL l=true) (i:IsL c.K A H l vs):New c H (upd H p (.tup vs)) (.tup l) (.ref p):=
 Is.tup zb4 (IsL.ofImm m (i.ext (Ext.laid h) ok hA))
theorem New.lst {p:Addr} {l:List D} {vs:List V} {A:Addr->Prop} (ok:W.ok st H) (h:H p=none) (hA:∀b,A b->¬W.mv b) (m:D.immL l=true) (i:IsL c.K A H l vs):New c H (upd H p (.lst vs)) (.lst l) (.ref p):=
 Is.lst ⟨mv_free ok h,h⟩ zb4 (IsL.ofImm m (i.ext (Ext.laid h) ok hA))
end
section
variable {X:Cx} {S:Type} {W:Wd S} {c:Dx W} {g:Gr}
noncomputable def fC (S:Type) (d:D):Fn S:=fun _ st=>.ok d st
theorem de_int {i j pos}:DE X c g (.Constant (.int i) j pos) (fC S (.int i)):=zi4.imp fun σ H Q ⟨ρ,st,R,ok,w⟩=>w _ _ Ext.refl ok (New.val R (show New c H H (.int _) (.int _) from Is.int_iff.mpr rfl) g)
theorem de_bl {i j pos}:DE X c g (.Constant (.bool i) j pos) (fC S (.bl i)):=pe_bl.imp fun σ H Q ⟨ρ,st,R,ok,w⟩=>w _ _ Ext.refl ok (New.val R (show New c H H (.bl _) (.bl _) from Is.bl_iff.mpr rfl) g)
theorem de_non {j pos}:DE X c g (.Constant .none j pos) (fC S .non):=pe_non.imp fun σ H Q ⟨ρ,st,R,ok,w⟩=>w _ _ Ext.refl ok (New.val R (show New c H H .non .non from Is.non_iff.mpr rfl) g)
theorem de_str {x j pos}:DE X c g (.Constant (.str x) j pos) (fC S (.str x)):=zn3.imp fun σ H Q ⟨ρ,st,R,ok,w⟩=>w _ _ Ext.refl ok (New.val R (show New c H H (.str _) (.str _) from Is.str_iff.mpr rfl) g)
noncomputable def rd (ρ:Rho) (i:Nat):Option D:=match ρ[i]? with
 | some (.bor d)=>some d
 | some (.own d)=>some d
 | _=>none
noncomputable def kp (ρ:Rho) (i:Nat):Option D:=match ρ[i]? with
 | some (.bor d)=>some d
 | _=>none
noncomputable def im (o:Option D):Option D:=o.bind fun d=>if d.imm=true then some d else none
noncomputable def fV (S:Type) (i:Nat):Fn S:=fun ρ st=>lift (rd ρ i) st
noncomputable def fVk (S:Type) (i:Nat):Fn S:=fun ρ st=>lift (kp ρ i) st
theorem Rep.rd {H:Hp} {σ:St} {ρ:Rho} {i:Nat} {d:D} (R:Rep c H σ ρ) (h:L2.rd ρ i=some d):∃v,σ[i]?=some (some v)/\Is c.K (fun b=>¬W.mv b) H d v:=by
 unfold L2.rd at h;have jn:∀{o:Option (Option V)} {v:V},o.join=some v->o=some (some v):=fun {o v} e=>by cases o with
  | none=>cases e
  | some a=>rw[show a=some v from e]
 cases q:ρ[i]? with
 | none=>rw[q] at h;cases h
 | some s=>
   rw[q] at h;have z:=R.slot i s q;cases s with
   | no=>cases h
   | hnd=>cases h
   | bor e=>
     cases h;obtain⟨v,e1,i1⟩:=z;exact⟨v,jn e1,i1.mono ⟨fun _ _ z _=>z,fun b o a z=>⟨a.1,z⟩⟩⟩
   | own e=>
     cases h;obtain⟨a,e1,n,f,t⟩:=z;exact⟨_,jn e1,(t.mono (A':=fun b=>¬W.mv b) ⟨fun _ _ z _=>z,fun b o a z=>⟨a.1,z⟩⟩ fun o z=>z).isTop n.1⟩
theorem Rep.kp {H:Hp} {σ:St} {ρ:Rho} {i:Nat} {d:D} (R:Rep c H σ ρ) (h:L2.kp ρ i=some d):∃v,σ[i]?=some (some v)/\Is c.K (Av c σ ρ) H d v:=by
 unfold L2.kp at h;cases q:ρ[i]? with
 | none=>rw[q] at h;cases h
 | some s=>
   rw[q] at h;have z:=R.slot i s q;cases s with
   | no=>cases h
   | hnd=>cases h
   | own e=>cases h
   | bor e=>
     cases h;obtain⟨v,e1,i1⟩:=z;refine⟨v,?_,i1⟩;cases w:σ[i]? with
     | none=>rw[w] at e1;cases e1
     | some a=>rw[w] at e1;rw[show a=some v from e1]
theorem de_var {i:Nat} {x:Str} {pos:Pos} (h:PE X (.Name x pos) (tVar i)):DE X c .R (.Name x pos) (fV S i):=h.imp fun σ H Q hI3=>by
 obtain⟨ρ,st,R,ok,w⟩:=hI3;obtain⟨d,e,q⟩:=zb6.mp w;obtain⟨v,e1,i1⟩:=R.rd e;exact⟨v,e1,q v H Ext.refl ok i1⟩
theorem zf4 {i:Nat} {x:Str} {pos:Pos} (h:PE X (.Name x pos) (tVar i)):DE X c .B (.Name x pos) (fVk S i):=h.imp fun σ H Q hI4=>by
 obtain⟨ρ,st,R,ok,w⟩:=hI4;obtain⟨d,e,q⟩:=zb6.mp w;obtain⟨v,e1,i1⟩:=R.kp e;exact⟨v,e1,q v H Ext.refl ok i1⟩
noncomputable def fI (S:Type) (f:Fn S):Fn S:=fun ρ st=>(f ρ st).bind fun d st1=>if d.imm=true then .ok d st1 else .bad
theorem DE.imm {e:Expr} {f:Fn S} (h:DE X c .R e f) (g:Gr):DE X c g e (fI S f):=h.imp fun σ H Q hI5=>by
 obtain⟨ρ,st,R,ok,w⟩:=hI5;refine⟨ρ,st,R,ok,za6 (za3.mp w) (fun d st1 q v H1 e ok1 z=>?_) fun x st1 q=>q⟩;by_cases m:d.imm=true
 ·rw[if_pos m] at q
  exact q v H1 e ok1 (z.imm m g)
 ·rw[if_neg m] at q
  exact q.elim
noncomputable def OpD {S:Type} {W:Wd S} (c:Dx W) (r:R2) (o:D->D->Option D):Prop:=∀d1 d2 v1 v2 H (st:S) d Q,W.ok st H->Is c.K (fun b=>¬W.mv b) H d1 v1->Is c.K (fun b=>¬W.mv b) H d2 v2->o d1 d2=some d->
 (∀v H',Ext W H H'->W.ok st H'->New c H H' d v->Q v H')->r v1 v2 H Q
noncomputable def f2 (S:Type) (o:D->D->Option D) (f1 f2:Fn S):Fn S:=fun ρ st=>(f1 ρ st).bind fun d1 st1=>(f2 ρ st1).bind fun d2 st2=>lift (o d1 d2) st2
theorem zf8 {f:Fn S} {σ:St} {H:Hp} {Q Q':VK} (h:tD c g f σ H Q) (i:∀v H',Q v H'->Q' v H'):tD c g f σ H Q':=by
 obtain⟨ρ,st,R,ok,w⟩:=h;exact⟨ρ,st,R,ok,za6 w (fun d st' q v H' a b z=>i v H' (q v H' a b z)) fun x st' q=>q⟩
theorem tD_op {r:R2} {o:D->D->Option D} {fa fb:Fn S} {ga gb:Gr} {σ:St} {H:Hp} {Q:VK} (hr:OpD c r o) (h:tD c g (f2 S o fa fb) σ H Q):tOp r (tD c ga fa) (tD c gb fb) σ H Q:=by
 obtain⟨ρ,st,R,ok,w⟩:=h;have w:Go c g σ (fun ρ st=>(fa ρ st).bind fun d1 st1=>(fun ρ st1=>(fb ρ st1).bind fun d2 st2=>lift (o d1 d2) st2) ρ st1) H Q ρ st:=w;refine zf8 (Go.bind (g':=ga) R ok w) fun v1 H1 hI93=>?_
 obtain⟨d1,st1,R1,ok1,e1,z1,w1⟩:=hI93;refine zf8 (Go.bind (g':=gb) (f:=fb) (k:=fun d2 _ st2=>lift (o d1 d2) st2) R1 ok1 w1) fun v2 H2 hI94=>?_
 obtain⟨d2,st2,R2,ok2,e2,z2,w2⟩:=hI94;obtain⟨d,e,q⟩:=Go.done w2 ok2;exact hr d1 d2 v1 v2 H2 st2 d Q ok2 (z1.toR.ext e2 ok1) z2.toR e fun v H' a b n=>q v H' a b (n.val R2 g)
theorem de_op {op:Operator} {r:R2} {o:D->D->Option D} {a b:Expr} {pos:Pos} {fa fb:Fn S} {ga gb:Gr} (ho:OpR X (binaryOp op) r) (hr:OpD c r o) (ha:DE X c ga a fa) (hb:DE X c gb b fb):DE X c g (.BinOp a op b pos) (f2 S o fa fb):=
 (pe_op ho ha hb).imp fun σ H Q h=>tD_op hr h
theorem zp3 {op:CmpOp} {r:R2} {o:D->D->Option D} {a b:Expr} {pos:Pos} {fa fb:Fn S} {ga gb:Gr} (ho:OpR X (compareOp op) r) (hr:OpD c r o) (ha:DE X c ga a fa) (hb:DE X c gb b fb) (hm:behindInMarks op b=false):DE X c g (.Compare a [op] [b] pos) (f2 S o fa fb):=
 (pe_cmpR ho ha hb hm).imp fun σ H Q h=>tD_op hr h
theorem de_ix {r:R2} {o:D->D->Option D} {a b:Expr} {pos:Pos} {fa fb:Fn S} {ga gb:Gr} (ho:IxR X r) (hr:OpD c r o) (ha:DE X c ga a fa) (hb:DE X c gb b fb) (hs:PlainIx b):DE X c g (.Subscript a b pos) (f2 S o fa fb):=
 (pe_ix ho ha hb hs).imp fun σ H Q h=>tD_op hr h
noncomputable abbrev FnT (S:Type):=Rho->S->Res S Bool
noncomputable def tDT {S:Type} {W:Wd S} (c:Dx W) (f:FnT S):TT:=fun σ H Q=>∃ρ st,Rep c H σ ρ/\W.ok st H/\
 wpR (f ρ st) (fun b st'=>∀H',Ext W H H'->W.ok st' H'->Q b H') fun x st'=>∀H',Ext W H H'->W.ok st' H'->c.Ex x st' H'
noncomputable def DT (X:Cx) {S:Type} {W:Wd S} (c:Dx W) (e:Expr) (f:FnT S):Prop:=PT X e (tDT c f)
noncomputable def D.bool?:D->Option Bool
 | .bl b=>some b
 | _=>none
noncomputable def fB (S:Type) (f:Fn S):FnT S:=fun ρ st=>(f ρ st).bind fun d st1=>lift d.bool? st1
theorem tDT_of {f:Fn S} {σ:St} {H:Hp} {Q:Bool->Hp->Prop} (h:tDT c (fB S f) σ H Q):tB (tD c g f) σ H Q:=by
 obtain⟨ρ,st,R,ok,w⟩:=h;refine⟨ρ,st,R,ok,za6 (za3.mp w) (fun d st1 q v H1 e ok1 z=>?_) fun x st1 q=>q⟩;obtain⟨b,e1,q⟩:=zb6.mp q;cases d with
 | bl k=>
   cases e1;have z':Is c.K (fun b=>¬W.mv b) H1 (.bl b) v:=z.toR;exact⟨_,Is.bl_iff.mp z',q H1 e ok1⟩
 | _=>cases e1
theorem zk9 {e:Expr} {f:Fn S} (h:DE X c g e f) (he:∀whole,isTrue e X.env whole=(do let v <-whole;standAt e.pos;holding [v] (truthy v)):=by intro _;rfl):DT X c e (fB S f):=
 (pt_val h he).imp fun σ H Q q=>tDT_of q
theorem zd3 {op:CmpOp} {r:R2} {o:D->D->Option D} {a b:Expr} {pos:Pos} {fa fb:Fn S} {ga gb:Gr} (ho:OpR X (compareOp op) r) (hr:OpD c r o) (ha:DE X c ga a fa) (hb:DE X c gb b fb) (hm:behindInMarks op b=false):DT X c (.Compare a [op] [b] pos) (fB S (f2 S o fa fb)):=
 (pt_cmpR ho ha hb hm).imp fun σ H Q q=>by
  have q':tB (tD c .R (f2 S o fa fb)) σ H Q:=tDT_of q;exact tD_op (ga:=ga) (gb:=gb) hr q'
noncomputable def fAnd (S:Type) (f1 f2:FnT S):FnT S:=fun ρ st=>(f1 ρ st).bind fun b st1=>if b=true then f2 ρ st1 else .ok false st1
noncomputable def fOr (S:Type) (f1 f2:FnT S):FnT S:=fun ρ st=>(f1 ρ st).bind fun b st1=>if b=true then .ok true st1 else f2 ρ st1
noncomputable def fNot (S:Type) (f1:FnT S):FnT S:=fun ρ st=>(f1 ρ st).bind fun b st1=>.ok (!b) st1
noncomputable def DW (X:Cx) {S:Type} {W:Wd S} (c:Dx W) (e:Expr) (f:FnT S):Prop:=PW X e (tDT c f)
theorem PW.imp {X:Cx} {e:Expr} {t t':TT} (h:PW X e t) (i:∀σ H Q,t' σ H Q->t σ H Q):PW X e t':=fun w pins s σ H Q I q=>h w pins s σ H Q I (i σ H Q q)
theorem DW.dt {e:Expr} {f:FnT S} (h:DW X c e f):DT X c e f:=PW.pt h
theorem dw_and1 {a:Expr} {pos:Pos} {f:FnT S} (h:DT X c a f):DW X c (.BoolOp .And [a] pos) f:=pw_and1 h
theorem dw_or1 {a:Expr} {pos:Pos} {f:FnT S} (h:DT X c a f):DW X c (.BoolOp .Or [a] pos) f:=pw_or1 h
theorem dw_and {a b:Expr} {rest:List Expr} {pos:Pos} {f1 f2:FnT S} (ha:DT X c a f1) (hb:DW X c (.BoolOp .And (b::rest) pos) f2):DW X c (.BoolOp .And (a::b::rest) pos) (fAnd S f1 f2):=
 (pw_and ha hb).imp fun σ H Q hI6=>by
  obtain⟨ρ,st,R,ok,w⟩:=hI6;refine⟨ρ,st,R,ok,za6 (za3.mp w) (fun b st1 q H1 e ok1=>?_) fun x st1 q=>q⟩;cases b with
  | true=>exact⟨ρ,st1,R.ext ok e,ok1,za6 q (fun b st2 q H2 e2=>q H2 (e.trans e2)) fun x st2 q H2 e2=>q H2 (e.trans e2)⟩
  | false=>exact q H1 e ok1
theorem dw_or {a b:Expr} {rest:List Expr} {pos:Pos} {f1 f2:FnT S} (ha:DT X c a f1) (hb:DW X c (.BoolOp .Or (b::rest) pos) f2):DW X c (.BoolOp .Or (a::b::rest) pos) (fOr S f1 f2):=
 (pw_or ha hb).imp fun σ H Q hI7=>by
  obtain⟨ρ,st,R,ok,w⟩:=hI7;refine⟨ρ,st,R,ok,za6 (za3.mp w) (fun b st1 q H1 e ok1=>?_) fun x st1 q=>q⟩;cases b with
  | false=>exact⟨ρ,st1,R.ext ok e,ok1,za6 q (fun b st2 q H2 e2=>q H2 (e.trans e2)) fun x st2 q H2 e2=>q H2 (e.trans e2)⟩
  | true=>exact q H1 e ok1
theorem dt_not {a:Expr} {pos:Pos} {f1:FnT S} (ha:DT X c a f1):DT X c (.UnaryOp .Not a pos) (fNot S f1):=
 (pt_not ha).imp fun σ H Q ⟨ρ,st,R,ok,w⟩=>⟨ρ,st,R,ok,za6 (za3.mp w) (fun b st1 q H1 e ok1=>q H1 e ok1) fun x st1 q=>q⟩
end
end L2
end
section
namespace L2
open PySem PySem.Spec PyProof.Rows
section
variable {X:Cx} {S:Type} {W:Wd S} {c:Dx W} {g:Gr}
noncomputable abbrev FnA (S:Type):=Rho->S->Res S (List D)
noncomputable def tDA {S:Type} {W:Wd S} (c:Dx W) (f:FnA S):TA:=fun σ H Q=>∃ρ st,Rep c H σ ρ/\W.ok st H/\
 wpR (f ρ st) (fun l st'=>∀vs H',Ext W H H'->W.ok st' H'->IsL c.K (fun b=>¬W.mv b) H' l vs->Q vs H') fun x st'=>∀H',Ext W H H'->W.ok st' H'->c.Ex x st' H'
noncomputable def DA (X:Cx) {S:Type} {W:Wd S} (c:Dx W) (es:List Expr) (f:FnA S):Prop:=PA X es (tDA c f)
theorem PA.imp {X:Cx} {e:List Expr} {t t':TA} (h:PA X e t) (i:∀σ H Q,t' σ H Q->t σ H Q):PA X e t':=fun p pins s σ H Q I q=>h p pins s σ H Q I (i σ H Q q)
noncomputable def aNil (S:Type):FnA S:=fun _ st=>.ok [] st
noncomputable def aCons (S:Type) (f:Fn S) (r:FnA S):FnA S:=fun ρ st=>(f ρ st).bind fun d st1=>(r ρ st1).bind fun l st2=>.ok (d::l) st2
theorem da_nil:DA X c [] (aNil S):=zh1.imp fun σ H Q ⟨ρ,st,R,ok,w⟩=>w [] H Ext.refl ok (IsL.nil.mpr rfl)
theorem zg5 {e:Expr} {es:List Expr} {f:Fn S} {r:FnA S} (h:DE X c g e f) (hr:DA X c es r) (hs:starEach (e::es) X.env=(false,eval e X.env)::starEach es X.env:=by rfl):DA X c (e::es) (aCons S f r):=
 (zb9 h hr hs).imp fun σ H Q hI8=>by
  obtain⟨ρ,st,R,ok,w⟩:=hI8;refine⟨ρ,st,R,ok,za6 (za3.mp w) (fun d st1 q v H1 e ok1 z=>?_) fun x st1 q=>q⟩;refine⟨ρ,st1,R.ext ok e,ok1,za6 (za3.mp q) (fun l st2 q vs H2 e2 ok2 z2=>?_) fun x st2 q H2 e2 ok2=>q H2 (e.trans e2) ok2⟩;exact q (v::vs) H2 (e.trans e2) ok2 (IsL.cons.mpr ⟨v,vs,rfl,z.toR.ext e2 ok1,z2⟩)
noncomputable def fA (S:Type) (o:List D->Option D) (f:FnA S):Fn S:=fun ρ st=>(f ρ st).bind fun l st1=>lift (o l) st1
noncomputable def CallD {S:Type} {W:Wd S} (c:Dx W) (r:List V->Hp->VK->Prop) (o:List D->Option D):Prop:=∀l vs H (st:S) d Q,W.ok st H->IsL c.K (fun b=>¬W.mv b) H l vs->o l=some d->
 (∀v H',Ext W H H'->W.ok st H'->New c H H' d v->Q v H')->r vs H Q
theorem tD_args {r:List V->Hp->VK->Prop} {o:List D->Option D} {f:FnA S} {σ:St} {H:Hp} {Q:VK} (hr:CallD c r o) (h:tD c g (fA S o f) σ H Q):tDA c f σ H fun vs H1=>r vs H1 Q:=by
 obtain⟨ρ,st,R,ok,w⟩:=h;refine⟨ρ,st,R,ok,za6 (za3.mp w) (fun l st1 q vs H1 e ok1 z=>?_) fun x st1 q=>q⟩;obtain⟨d,e1,q⟩:=zb6.mp q;exact hr l vs H1 st1 d Q ok1 z e1 fun v H' a b n=>q v H' (e.trans a) b ((n.val (R.ext ok e) g).back e ok1)
noncomputable def oTup (l:List D):Option D:=if D.immL l=true/\l.length<=sizeLine then some (.tup l) else none
noncomputable def oLst (l:List D):Option D:=if D.immL l=true/\l.length<=sizeLine then some (.lst l) else none
set_option tactic.hygienic true in
theorem cd_tup:CallD c (fun xs H1 Q=>xs.length<=sizeLine/\∀p,H1 p=none->Q (.ref p) (upd H1 p (.tup xs))) oTup:=by
 intro l vs H st d Q ok z e q;unfold oTup at e;split at e
 ·rename_i h
  cases e;exact⟨by rw[<-z.length];exact h.2,fun p hp=>q _ _ (Ext.laid hp) (zm2 ok hp) (New.tup ok hp (fun _ n=>n) h.1 z)⟩
 ·cases e
set_option tactic.hygienic true in
theorem cd_lst:CallD c (fun xs H1 Q=>xs.length<=sizeLine/\∀p,H1 p=none->Q (.ref p) (upd H1 p (.lst xs))) oLst:=by
 intro l vs H st d Q ok z e q;unfold oLst at e;split at e
 ·rename_i h
  cases e;exact⟨by rw[<-z.length];exact h.2,fun p hp=>q _ _ (Ext.laid hp) (zm2 ok hp) (New.lst ok hp (fun _ n=>n) h.1 z)⟩
 ·cases e
theorem de_tup {es:List Expr} {x1} {pos:Pos} {f:FnA S} (h:DA X c es f):DE X c g (.Tuple es x1 pos) (fA S oTup f):=(pe_tup h).imp fun σ H Q q=>tD_args (g:=g) cd_tup q
theorem de_lst {es:List Expr} {pos:Pos} {f:FnA S} (h:DA X c es f):DE X c g (.List es pos) (fA S oLst f):=(pe_lst h).imp fun σ H Q q=>tD_args (g:=g) cd_lst q
theorem de_callB {id:String} {x:Str} {p pos:Pos} {e:Expr} {es:List Expr} {r:List V->Hp->VK->Prop} {o:List D->Option D} {f:FnA S} {t:TA} (h:PE X (.Call (.Name x p) (e::es) [] pos) (tCB r t)) (ht:t=tDA c f) (hr:CallD c r o):DE X c g (.Call (.Name x p) (e::es) [] pos) (fA S o f):=
 h.imp fun σ H Q q=>by rw[ht];exact tD_args (g:=g) hr q
noncomputable def sp0 (K:PySem.W.Frag) (F:List D->Res Unit D):Sp:=fun vs H Q _=>∃l,IsL K (fun _=>True) H l vs/\wpR (F l) (fun d _=>∀v H',Same H H'->Is K (fun b=>H b=none) H' d v->Q v H') fun _ _=>False
noncomputable def spS {S:Type} (W:Wd S) (K:PySem.W.Frag) (F:List D->S->Res S D):Sp:=fun vs H Q _=>∃l us st,vs=W.h::us/\IsL K (fun b=>¬W.mv b) H l us/\W.ok st H/\
 wpR (F l st) (fun d st'=>∀v H',Ext W H H'->W.ok st' H'->Is K (fun b=>¬W.mv b/\H b=none) H' d v->Q v H') fun _ _=>False
noncomputable def fCall (S:Type) (F:List D->Res Unit D) (f:FnA S):Fn S:=fun ρ st=>(f ρ st).bind fun l st1=>match F l with
 | .ok d _=>.ok d st1
 | _=>.bad
theorem tD_call0 {F:List D->Res Unit D} {f:FnA S} {σ:St} {H:Hp} {Q:VK} {E:XK} (h:tD c g (fCall S F f) σ H Q):tCall (sp0 c.K F) [] E (tDA c f) σ H Q:=by
 obtain⟨ρ,st,R,ok,w⟩:=h;refine⟨ρ,st,R,ok,za6 (za3.mp w) (fun l st1 q vs H1 e ok1 z=>?_) fun x st1 q=>q⟩;show sp0 c.K F (vs++[]) H1 Q E;rw[List.append_nil];refine⟨l,IsL.mono (A:=fun b=>¬W.mv b) ⟨fun _ _ z _=>z,fun b o a z=>⟨trivial,z⟩⟩ z,?_⟩;cases q':F l with
 | ok d u=>
   rw[q'] at q;intro v H' s n;have okH:W.ok st1 H':=W.stay st1 H1 H' ok1 fun b o _ hb=>s b o hb
   have n':New c H1 H' d v:=Is.mono (A:=fun b=>H1 b=none) ⟨fun _ _ z _=>z,fun b o a z=>⟨⟨mv_free ok1 a,a⟩,z⟩⟩ n;exact q v H' (e.trans s.ext) okH ((n'.val (R.ext ok e) g).back e ok1)
 | exc x u=>rw[q'] at q;exact q.elim
 | bad=>rw[q'] at q;exact q.elim
noncomputable def fCallS (S:Type) (F:List D->S->Res S D) (i:Nat) (f:FnA S):Fn S:=fun ρ st=>match ρ[i]? with
 | some .hnd=>(f ρ st).bind fun l st1=>match F l st1 with
   | .ok d st2=>.ok d st2
   | _=>.bad
 | _=>.bad
theorem tD_callS {F:List D->S->Res S D} {i:Nat} {f:FnA S} {σ:St} {H:Hp} {Q:VK} {E:XK} (h:tD c g (fCallS S F i f) σ H Q):tCall (spS W c.K F) [] E (tCons (tVar i) (tDA c f)) σ H Q:=by
 obtain⟨ρ,st,R,ok,w⟩:=h;unfold fCallS at w;cases hi:ρ[i]? with
 | none=>rw[hi] at w;exact w.elim
 | some s=>
   rw[hi] at w;have zs:=R.slot i s hi;cases s with
   | no=>exact w.elim
   | bor d=>exact w.elim
   | own d=>exact w.elim
   | hnd=>
     have zs:(σ[i]?).join=some W.h:=zs;have ei:σ[i]?=some (some W.h):=by
      cases q:σ[i]? with
      | none=>rw[q] at zs;cases zs
      | some a=>rw[q] at zs;rw[show a=some W.h from zs]
     refine⟨W.h,ei,ρ,st,R,ok,za6 (za3.mp w) (fun l st1 q vs H1 e ok1 z=>?_) fun x st1 q=>q⟩;show spS W c.K F ((W.h::vs)++[]) H1 Q E;rw[List.append_nil];refine⟨l,vs,st1,rfl,z,ok1,?_⟩;cases q':F l st1 with
     | ok d st2=>
       rw[q'] at q;intro v H' s okH n;exact q v H' (e.trans s) okH ((New.val (R.ext ok e) n g).back e ok1)
     | exc x u=>rw[q'] at q;exact q.elim
     | bad=>rw[q'] at q;exact q.elim
end
end L2
end
section
namespace L2
open PySem PySem.Spec PyProof.Rows
inductive Fl where
 | nx (ρ:Rho) | rt (d:D) | bk (ρ:Rho) | ct (ρ:Rho)
noncomputable abbrev FnS (S:Type):=Rho->S->Res S Fl
structure Frm {S:Type} {W:Wd S} (c:Dx W) (H:Hp) (σ:St) (ρ:Rho) (H':Hp) (σ':St) (ρ':Rho):Prop where
 keep:∀b o,H b=some o->¬W.mv b->¬Ow σ ρ b->H' b=some o
 own:∀b o,H b=some o->¬W.mv b->Ow σ' ρ' b->Ow σ ρ b
noncomputable def F0 {S:Type} {W:Wd S} (c:Dx W) (H':Hp):Prop:=∀b o,c.H0 b=some o->¬W.mv b->H' b=some o
noncomputable def Nx {S:Type} {W:Wd S} (c:Dx W) (Q:St->Hp->Prop) (σ:St) (ρ:Rho) (H:Hp) (ρ':Rho) (st':S):Prop:=∀σ' H',Frm c H σ ρ H' σ' ρ'->W.ok st' H'->Rep c H' σ' ρ'->Q σ' H'
noncomputable def Rt {S:Type} {W:Wd S} (c:Dx W) (Q:VK) (d:D) (st':S):Prop:=∀v H',F0 c H'->W.ok st' H'->Is c.K (fun b=>¬W.mv b/\c.H0 b=none) H' d v->Q v H'
noncomputable def EndOk {S:Type} {W:Wd S} (c:Dx W) (D:Ends) (σ:St) (ρ:Rho) (H:Hp) (fl:Fl) (st':S):Prop:=match fl with
 | .nx ρ'=>Nx c D.nx σ ρ H ρ' st'
 | .bk ρ'=>Nx c D.bk σ ρ H ρ' st'
 | .ct ρ'=>Nx c D.ct σ ρ H ρ' st'
 | .rt d=>Rt c D.rt d st'
noncomputable def ExOk {S:Type} {W:Wd S} (c:Dx W) (x:Exn) (st':S):Prop:=∀H',F0 c H'->W.ok st' H'->c.Ex x st' H'
noncomputable def tS {S:Type} {W:Wd S} (c:Dx W) (F:FnS S):TS:=fun D σ H=>∃ρ st,Rep c H σ ρ/\W.ok st H/\wpR (F ρ st) (EndOk c D σ ρ H) (ExOk c)
noncomputable def DS (X:Cx) {S:Type} {W:Wd S} (c:Dx W) (s:Stmt) (F:FnS S):Prop:=PS X s (tS c F)
noncomputable def DSs (X:Cx) {S:Type} {W:Wd S} (c:Dx W) (s:List Stmt) (F:FnS S):Prop:=PSs X s (tS c F)
section
variable {S:Type} {W:Wd S} {c:Dx W} {H H1 H2 H':Hp} {σ σ1 σ2 σ':St} {ρ ρ1 ρ2 ρ':Rho} {st st1:S}
theorem Frm.refl:Frm c H σ ρ H σ ρ:=⟨fun _ _ h _ _=>h,fun _ _ _ _ h=>h⟩
theorem Frm.trans (a:Frm c H σ ρ H1 σ1 ρ1) (b:Frm c H1 σ1 ρ1 H2 σ2 ρ2):Frm c H σ ρ H2 σ2 ρ2 where
 keep:=fun x o h m w=>b.keep x o (a.keep x o h m w) m fun w1=>w (a.own x o h m w1)
 own:=fun x o h m w=>by
  by_cases w0:Ow σ ρ x
  ·exact w0
  ·exact a.own x o h m (b.own x o (a.keep x o h m w0) m w)
theorem Ext.frm (e:Ext W H H'):Frm c H σ ρ H' σ ρ:=⟨fun b o h m _=>e b o h m,fun _ _ _ _ h=>h⟩
theorem Ext.f0 (R:Rep c H σ ρ) (e:Ext W H H'):F0 c H':=fun b o h n=>e b o (R.frame b o h n) n
theorem Nx.from {Q:St->Hp->Prop} (h:Nx c Q σ ρ H ρ' st) (f:Frm c H σ ρ H1 σ1 ρ1):Nx c Q σ1 ρ1 H1 ρ' st:=fun σ' H' g ok R=>h σ' H' (f.trans g) ok R
theorem EndOk.from {D:Ends} {fl:Fl} (h:EndOk c D σ ρ H fl st) (f:Frm c H σ ρ H1 σ1 ρ1):EndOk c D σ1 ρ1 H1 fl st:=by
 cases fl with
 | nx r=>exact Nx.from h f
 | bk r=>exact Nx.from h f
 | ct r=>exact Nx.from h f
 | rt d=>exact h
theorem Frm.keepT (R:Rep c H σ ρ) (ok:W.ok st H) (f:Frm c H σ ρ H' σ' ρ'):KeepT (Av c σ ρ) (Av c σ' ρ') H H':=
 zi2 (fun b o h t=>f.keep b o h (fun m=>by
  obtain⟨o',h',n1,n2⟩:=W.live st H b ok m;rw[h] at h';cases h';rcases t with⟨u,z⟩ | ⟨ob,u,z⟩
  ·exact n1 u z
  ·exact n2 ob u z) fun w=>by
  obtain⟨_,_,o',h',n1,n2⟩:=R.owOk w;rw[h] at h';cases h';rcases t with⟨u,z⟩ | ⟨ob,u,z⟩
  ·exact n1 u z
  ·exact n2 ob u z) fun b o a h=>⟨⟨a.1,fun w=>a.2.1 (f.own b o h a.1 w),a.2.2⟩,f.keep b o h a.1 a.2.1⟩
theorem tS_expr {g:Gr} {f:Fn S} {k:D->FnS S} {D:Ends} (h:tS c (fun ρ st=>(f ρ st).bind fun d st1=>k d ρ st1) D σ H) :
 tD c g f σ H fun v H1=>∃ρ d st0 st1,Rep c H σ ρ/\W.ok st0 H/\Rep c H1 σ ρ/\W.ok st1 H1/\Ext W H H1/\Val c g σ ρ H H1 d v/\wpR (k d ρ st1) (EndOk c D σ ρ H) (ExOk c):=by
 obtain⟨ρ,st,R,ok,w⟩:=h;refine⟨ρ,st,R,ok,za6 (za3.mp w) (fun d st1 q v H1 e ok1 z=>?_) fun x st1 q H1 e ok1=>q H1 (e.f0 R) ok1⟩;exact⟨ρ,d,st,st1,R,ok,R.ext ok e,ok1,e,z,q⟩
theorem tS_test {f:FnT S} {k:Bool->FnS S} {D:Ends} (h:tS c (fun ρ st=>(f ρ st).bind fun d st1=>k d ρ st1) D σ H) :
 tDT c f σ H fun b H1=>∃ρ st1,Rep c H1 σ ρ/\W.ok st1 H1/\wpR (k b ρ st1) (EndOk c D σ ρ H1) (ExOk c):=by
 obtain⟨ρ,st,R,ok,w⟩:=h;refine⟨ρ,st,R,ok,za6 (za3.mp w) (fun d st1 q H1 e ok1=>?_) fun x st1 q H1 e ok1=>q H1 (e.f0 R) ok1⟩;exact⟨ρ,st1,R.ext ok e,ok1,za6 q (fun fl st2 q=>q.from e.frm) fun x st2 q=>q⟩
end
section
variable {X:Cx} {S:Type} {W:Wd S} {c:Dx W}
noncomputable def sNil (S:Type):FnS S:=fun ρ st=>.ok (.nx ρ) st
noncomputable def sSeq (S:Type) (F G:FnS S):FnS S:=fun ρ st=>(F ρ st).bind fun fl st1=>match fl with
 | .nx ρ1=>G ρ1 st1
 | .rt d=>.ok (.rt d) st1
 | .bk r=>.ok (.bk r) st1
 | .ct r=>.ok (.ct r) st1
theorem zd0:DSs X c [] (sNil S):=pss_nil.imp fun D σ H ⟨ρ,st,R,ok,w⟩=>w σ H Frm.refl ok R
theorem za4 {s:Stmt} {r:List Stmt} {F G:FnS S} (h1:DS X c s F) (h2:DSs X c r G):DSs X c (s::r) (sSeq S F G):=
 (ze7 h1 h2).imp fun D σ H hI9=>by
  obtain⟨ρ,st,R,ok,w⟩:=hI9;refine⟨ρ,st,R,ok,za6 (za3.mp w) (fun fl st1 q=>?_) fun x st1 q=>q⟩;cases fl with
  | nx ρ1=>exact fun σ1 H1 f ok1 R1=>⟨ρ1,st1,R1,ok1,za6 q (fun fl st2 q=>q.from f) fun x st2 q=>q⟩
  | rt d=>exact q
  | bk r=>exact q
  | ct r=>exact q
theorem za7 {s:Stmt} {F:FnS S} (h1:DS X c s F):DSs X c [s] F:=zm1 h1
noncomputable def sDrop (S:Type) (f:Fn S):FnS S:=fun ρ st=>(f ρ st).bind fun _ st1=>.ok (.nx ρ) st1
noncomputable def D.flat:D->Bool
 | .lst l=>D.immL l
 | .dct _ l=>D.immL l
 | _=>false
noncomputable def sRet (S:Type) (f:Fn S):FnS S:=fun ρ st=>(f ρ st).bind fun d st1=>if d.imm=true\/d.flat=true then .ok (.rt d) st1 else .bad
theorem flat_new {K:PySem.W.Frag} {A A':Addr->Prop} {H:Hp} {d:D} {a:Addr} (h:Is K A H d (.ref a)) (m:d.flat=true) (n:A' a):Is K A' H d (.ref a):=by
 cases d with
 | lst l=>
   obtain⟨b,vs,e,_,e2,i⟩:=Is.lst_iff.mp h;cases e;exact Is.lst n e2 (IsL.ofImm m i)
 | dct ks l=>
   obtain⟨b,vs,e,_,i,q⟩:=Is.dct_iff.mp h;cases e;exact Is.dct_iff.mpr ⟨a,vs,rfl,n,IsL.ofImm m i,q⟩
 | _=>simp[D.flat] at m
theorem flat_ref {K:PySem.W.Frag} {A:Addr->Prop} {H:Hp} {d:D} {v:V} (h:Is K A H d v) (m:d.flat=true):∃a,v=.ref a/\d.mut=true/\A a/\∃o,H a=some o:=by
 cases d with
 | lst l=>
   obtain⟨b,vs,e,n,e2,i⟩:=Is.lst_iff.mp h;exact⟨b,e,rfl,n,_,e2⟩
 | dct ks l=>
   obtain⟨b,vs,e,n,i,q⟩:=Is.dct_iff.mp h;rcases q with⟨_,_,_,q⟩ | ⟨_,_,_,q⟩<;>exact⟨b,e,rfl,n,_,q⟩
 | _=>simp[D.flat] at m
theorem Rep.none0 {H:Hp} {σ:St} {ρ:Rho} {st:S} (R:Rep c H σ ρ) (ok:W.ok st H) {a:Addr} (h:H a=none):c.H0 a=none:=by
 cases q:c.H0 a with
 | none=>rfl
 | some o=>rw[R.frame a o q (mv_free ok h)] at h;cases h
theorem zd2 {e:Expr} {f:Fn S} {pos:Pos} (h:DE X c .F e f):DS X c (.Return (some e) pos) (sRet S f):=
 (ps_ret h).imp fun D σ H q=>zf8 (tS_expr (g:=.F) q) fun v H1 hI10=>by
  obtain⟨ρ,d,st0,st1,R,ok,R1,ok1,e,z,w⟩:=hI10;by_cases m:d.imm=true\/d.flat=true
  ·rw[if_pos m] at w
   refine w v H1 (e.f0 R) ok1 ?_;rcases m with m | m
   ·exact Is.ofImm m z.1
   ·obtain⟨a,rfl,mu,av,_⟩:=flat_ref z.1 m
    exact flat_new z.1 m ⟨av.1,R.none0 ok (z.2 a rfl mu)⟩
  ·rw[if_neg m] at w;exact w.elim
noncomputable def own? (ρ:Rho) (i:Nat):Option D:=match ρ[i]? with
 | some (.own d)=>if d.flat=true then some d else none
 | some (.bor d)=>if d.imm=true then some d else none
 | _=>none
noncomputable def sRetV (S:Type) (i:Nat):FnS S:=fun ρ st=>(lift (own? ρ i) st).bind fun d st1=>.ok (.rt d) st1
set_option tactic.hygienic true in
theorem zl0 {i:Nat} {x:Str} {p pos:Pos} (h:PE X (.Name x p) (tVar i)):DS X c (.Return (some (.Name x p)) pos) (sRetV S i):=
 (ps_ret h).imp fun D σ H hI11=>by
  obtain⟨ρ,st,R,ok,w⟩:=hI11;obtain⟨d,e,q⟩:=zb6.mp (za3.mp w);have jn:∀{o:Option (Option V)} {v:V},o.join=some v->o=some (some v):=fun {o v} e=>by cases o with
   | none=>cases e
   | some a=>rw[show a=some v from e]
  unfold own? at e;cases hs:ρ[i]? with
  | none=>rw[hs] at e;cases e
  | some s=>
    rw[hs] at e;have z:=R.slot i s hs;cases s with
    | no=>cases e
    | hnd=>cases e
    | bor d'=>
      have e:(if d'.imm=true then some d' else none)=some d:=e;split at e
      ·rename_i m
       cases e;obtain⟨v,e1,i1⟩:=z;exact⟨v,jn e1,q v H (fun b o h n=>R.frame b o h n) ok (Is.ofImm m i1)⟩
      ·cases e
    | own d'=>
      have e:(if d'.flat=true then some d' else none)=some d:=e;split at e
      ·rename_i m
       cases e;obtain⟨a,e1,n,f,t⟩:=z;have tt:Is c.K (fun b=>¬W.mv b) H d (.ref a):=(t.mono (A':=fun b=>¬W.mv b) ⟨fun _ _ z _=>z,fun b o a z=>⟨a.1,z⟩⟩ fun o z=>z).isTop n.1;exact⟨_,jn e1,q _ H (fun b o h n=>R.frame b o h n) ok (flat_new tt m ⟨n.1,f⟩)⟩
      ·cases e
noncomputable def sRetN (S:Type):FnS S:=fun _ st=>.ok (.rt .non) st
noncomputable def sIf (S:Type) (t:FnT S) (F G:FnS S):FnS S:=fun ρ st=>(t ρ st).bind fun b st1=>if b=true then F ρ st1 else G ρ st1
set_option tactic.hygienic true in
theorem ds_if {e:Expr} {a b:List Stmt} {pos:Pos} {t:FnT S} {F G:FnS S} (h:DT X c e t) (ha:DSs X c a F) (hb:DSs X c b G):DS X c (.If e a b pos) (sIf S t F G):=
 (ps_if h ha hb).imp fun D σ H q=>by
  obtain⟨ρ,st,R,ok,w⟩:=tS_test (k:=fun b=>if b=true then F else G) (by
   obtain⟨ρ,st,R,ok,w⟩:=q;refine⟨ρ,st,R,ok,?_⟩;have e:sIf S t F G ρ st=(t ρ st).bind fun d st1=>(if d=true then F else G) ρ st1:=by
    unfold sIf;congr;funext d st1;cases d<;>rfl
   rw[e] at w;exact w)
  refine⟨ρ,st,R,ok,za6 w (fun b st1 q H1 e ok1=>?_) fun x st1 q=>q⟩;obtain⟨ρ1,st2,R1,ok2,w1⟩:=q H1 e ok1;cases b with
  | true=>exact⟨ρ1,st2,R1,ok2,w1⟩
  | false=>exact⟨ρ1,st2,R1,ok2,w1⟩
noncomputable def sBreak (S:Type):FnS S:=fun ρ st=>.ok (.bk ρ) st
noncomputable def sCont (S:Type):FnS S:=fun ρ st=>.ok (.ct ρ) st
end
end L2
end
section
namespace L2
open PySem PySem.Spec PyProof.Rows
section
variable {X:Cx} {S:Type} {W:Wd S} {c:Dx W} {H H1 H':Hp} {σ σ':St} {ρ ρ':Rho} {st:S} {i:Nat} {d:D} {v:V}
theorem zb1 {α:Type} {l:List α} {i j:Nat} {a b:α} (h:(l.set i a)[j]?=some b):(j=i/\b=a)\/(j≠i/\l[j]?=some b):=by
 by_cases e:j=i
 ·subst e
  rw[List.getElem?_set_self'] at h;cases q:l[j]? with
  | none=>rw[q] at h;cases h
  | some x=>rw[q] at h;exact .inl ⟨rfl,(Option.some.inj h).symm⟩
 ·rw[List.getElem?_set_ne (Ne.symm e)] at h
  exact .inr ⟨e,h⟩
theorem zi8 {o:Option (Option V)} {v:V} (e:o.join=some v):o=some (some v):=by
 cases o with
 | none=>cases e
 | some a=>rw[show a=some v from e]
theorem ow_set_bor {b:Addr} (h:Ow (σ.set i (some v)) (ρ.set i (.bor d)) b):Ow σ ρ b:=by
 obtain⟨j,e,h1,h2⟩:=h;rcases zb1 h1 with⟨_,z⟩ | ⟨n,z⟩
 ·cases z
 ·rcases zb1 h2 with⟨m,_⟩ | ⟨_,y⟩
  ·exact absurd m n
  ·exact⟨j,e,z,y⟩
theorem Rep.setB (R:Rep c H σ ρ) (hi:i<ρ.length) (h:Is c.K (Av c σ ρ) H d v):Rep c H (σ.set i (some v)) (ρ.set i (.bor d)) where
 len:=by rw[List.length_set,List.length_set];exact R.len
 frame:=R.frame
 avl:=R.avl
 slot:=fun j s hs=>by
  have k:KeepT (Av c σ ρ) (Av c (σ.set i (some v)) (ρ.set i (.bor d))) H H:=⟨fun _ _ z _=>z,fun b o a z=>⟨⟨a.1,fun w=>a.2.1 (ow_set_bor w),a.2.2⟩,z⟩⟩;rcases zb1 hs with⟨e,z⟩ | ⟨n,z⟩
  ·subst z
   subst e;refine⟨v,?_,Is.mono k h⟩;rw[List.getElem?_set_self (by rw[R.len];exact hi)];rfl
  ·rw[List.getElem?_set_ne (Ne.symm n)]
   have q:=R.slot j s z;cases s with
   | no=>trivial
   | bor e=>obtain⟨v',e1,i1⟩:=q;exact⟨v',e1,i1.mono k⟩
   | own e=>obtain⟨a,e1,n1,f,t⟩:=q;exact⟨a,e1,n1,f,t.mono k fun o z=>z⟩
   | hnd=>exact q
 uniq:=fun j j' a e e' h1 h2 h3 h4=>by
  rcases zb1 h1 with⟨_,z⟩ | ⟨n,z⟩
  ·cases z
  ·rcases zb1 h2 with⟨_,z'⟩ | ⟨n',z'⟩
   ·cases z'
   ·rw[List.getElem?_set_ne (Ne.symm n)] at h3
    rw[List.getElem?_set_ne (Ne.symm n')] at h4;exact R.uniq j j' a e e' z z' h3 h4
theorem frm_setB:Frm c H σ ρ H (σ.set i (some v)) (ρ.set i (.bor d)):=⟨fun _ _ h _ _=>h,fun _ _ _ _ w=>ow_set_bor w⟩
theorem ow_set_own {a b:Addr} (h:Ow (σ.set i (some (.ref a))) (ρ.set i (.own d)) b):Ow σ ρ b\/b=a:=by
 obtain⟨j,e,h1,h2⟩:=h;rcases zb1 h1 with⟨m,_⟩ | ⟨n,z⟩
 ·rcases zb1 h2 with⟨_,y⟩ | ⟨n,_⟩
  ·cases y;exact .inr rfl
  ·exact absurd m n
 ·rcases zb1 h2 with⟨m,_⟩ | ⟨_,y⟩
  ·exact absurd m n
  ·exact .inl ⟨j,e,z,y⟩
theorem Rep.setO {a:Addr} (R:Rep c H σ ρ) (ok:W.ok st H) (x:Ext W H H1) {st1:S} (ok1:W.ok st1 H1) (hi:i<ρ.length) (h:Is c.K (Av c σ ρ) H1 d (.ref a)) (m:d.flat=true) (hn:H a=none) :
 Rep c H1 (σ.set i (some (.ref a))) (ρ.set i (.own d))/\Frm c H σ ρ H1 (σ.set i (some (.ref a))) (ρ.set i (.own d)):=by
 have hmv:¬W.mv a:=mv_free ok hn;have k:KeepT (Av c σ ρ) (Av c (σ.set i (some (.ref a))) (ρ.set i (.own d))) H H1:=zi2 (fun b o e t=>x b o e fun mm=>by
  obtain⟨o',h',n1,n2⟩:=W.live st H b ok mm;rw[e] at h';cases h';rcases t with⟨u,z⟩ | ⟨ob,u,z⟩
  ·exact n1 u z
  ·exact n2 ob u z) fun b o av e=>⟨⟨av.1,(fun w=>by
   rcases ow_set_own w with w | w
   ·exact av.2.1 w
   ·subst w;rw[hn] at e;cases e),av.2.2⟩,x b o e av.1⟩
 refine⟨⟨by rw[List.length_set,List.length_set];exact R.len,fun b o e n=>x b o (R.frame b o e n) n,fun j s hs=>?_,(fun b h=>let ⟨n,z,o,h',q⟩:=R.avl b h;⟨n,z,o,x b o h' n,q⟩),fun j j' b e e' h1 h2 h3 h4=>?_⟩,⟨fun b o e n w=>x b o e n,fun b o e n w=>?_⟩⟩
 ·rcases zb1 hs with⟨e,z⟩ | ⟨n,z⟩
  ·subst z
   subst e;refine⟨a,by rw[List.getElem?_set_self (by rw[R.len];exact hi)];rfl,⟨hmv,fun w=>by obtain⟨_,_,o,h',_⟩:=R.avl a w;rw[hn] at h';cases h'⟩,R.none0 ok hn,?_⟩;cases d with
   | lst l=>
     obtain⟨b,vs,e,_,e2,i1⟩:=Is.lst_iff.mp h;cases e;exact⟨vs,e2,IsL.ofImm m i1⟩
   | dct ks l=>
     obtain⟨b,vs,e,_,i1,q⟩:=Is.dct_iff.mp h;cases e;exact⟨vs,IsL.ofImm m i1,q⟩
   | _=>simp[D.flat] at m
  ·rw[List.getElem?_set_ne (Ne.symm n)]
   have q:=R.slot j s z;cases s with
   | no=>trivial
   | bor e=>obtain⟨v',e1,i1⟩:=q;exact⟨v',e1,i1.mono k⟩
   | own e=>obtain⟨b,e1,n1,f,t⟩:=q;exact⟨b,e1,n1,f,t.mono k fun o z=>x b o z n1.1⟩
   | hnd=>exact q
 ·have fresh:∀(j:Nat) (e:D),ρ[j]?=some (.own e)->σ[j]?=some (some (.ref a))->False:=fun j e h1 h2=>by
   obtain⟨_,_,o,h',_⟩:=R.owOk ⟨j,e,h1,h2⟩;rw[hn] at h';cases h'
  rcases zb1 h1 with⟨m1,z⟩ | ⟨n,z⟩
  ·rcases zb1 h2 with⟨m2,z'⟩ | ⟨n',z'⟩
   ·rw[m1,m2]
   ·rw[List.getElem?_set_ne (Ne.symm n')] at h4
    rcases zb1 h3 with⟨_,y⟩ | ⟨n3,_⟩
    ·cases y;exact(fresh j' e' z' h4).elim
    ·exact absurd m1 n3
  ·rcases zb1 h2 with⟨m2,z'⟩ | ⟨n',z'⟩
   ·rw[List.getElem?_set_ne (Ne.symm n)] at h3
    rcases zb1 h4 with⟨_,y⟩ | ⟨n3,_⟩
    ·cases y;exact(fresh j e z h3).elim
    ·exact absurd m2 n3
   ·rw[List.getElem?_set_ne (Ne.symm n)] at h3
    rw[List.getElem?_set_ne (Ne.symm n')] at h4;exact R.uniq j j' b e e' z z' h3 h4
 ·rcases ow_set_own w with w | w
  ·exact w
  ·subst w;rw[hn] at e;cases e
noncomputable def put (ρ:Rho) (i:Nat) (d:D):Option Rho:=if i<ρ.length then some (ρ.set i (.bor d)) else none
noncomputable def putN (ρ:Rho) (i:Nat) (d:D):Option Rho:=if i<ρ.length then some (ρ.set i (if d.flat=true then .own d else .bor d)) else none
noncomputable def sSet (S:Type) (i:Nat) (f:Fn S):FnS S:=fun ρ st=>(f ρ st).bind fun d st1=>(lift (putN ρ i d) st1).bind fun ρ' st2=>.ok (.nx ρ') st2
noncomputable def sSetB (S:Type) (i:Nat) (f:Fn S):FnS S:=fun ρ st=>(f ρ st).bind fun d st1=>(lift (put ρ i d) st1).bind fun ρ' st2=>.ok (.nx ρ') st2
set_option tactic.hygienic true in
theorem tS_set {f:Fn S} {D:Ends} (h:tS c (sSet S i f) D σ H):tAsg (tD c .F f) (gName i) D σ H:=
 zf8 (tS_expr (g:=.F) h) fun v H1 hI12=>by
  obtain⟨ρ,d,st0,st1,R,ok,R1,ok1,e,z,w⟩:=hI12;obtain⟨ρ',e1,w⟩:=zb6.mp (za3.mp w);unfold putN at e1;split at e1
  ·rename_i hi
   by_cases m:d.flat=true
   ·rw[if_pos m] at e1
    cases e1;obtain⟨a,rfl,mu,av,_⟩:=flat_ref z.1 m;obtain⟨R2,F2⟩:=R.setO (i:=i) ok e ok1 hi z.1 m (z.2 a rfl mu);exact w (σ.set i (some (.ref a))) H1 F2 ok1 R2
   ·rw[if_neg m] at e1
    cases e1;exact w _ H1 (e.frm.trans frm_setB) ok1 (R1.setB hi z.1)
  ·cases e1
set_option tactic.hygienic true in
theorem tS_setB {f:Fn S} {D:Ends} (h:tS c (sSetB S i f) D σ H):tAsg (tD c .B f) (gName i) D σ H:=
 zf8 (tS_expr (g:=.B) h) fun v H1 hI13=>by
  obtain⟨ρ,d,st0,st1,R,ok,R1,ok1,e,z,w⟩:=hI13;obtain⟨ρ',e1,w⟩:=zb6.mp (za3.mp w);unfold put at e1;split at e1
  ·rename_i hi
   cases e1;exact w _ H1 (e.frm.trans frm_setB) ok1 (R1.setB hi z)
  ·cases e1
theorem zb8 {x:Str} {e:Expr} {f:Fn S} {p pos:Pos} (hN:X.N.Nodup) (hi:X.N[i]?=some x) (hx:Loc X.env.scope x) (he:DE X c .F e f) (hs:swapsWith e (some (.Name x p)) pos.line X.env=pure false:=by rfl) (hf:X.fn x=true\/X.env.scope.names.lookup x=some .local:=by first | exact .inl rfl | exact .inr rfl | assumption) :
 DS X c (.Assign [.Name x p] e pos) (sSet S i f):=(zn2 hN hi hx he hs hf).imp fun D σ H q=>tS_set q
theorem ds_setB {x:Str} {e:Expr} {f:Fn S} {p pos:Pos} (hN:X.N.Nodup) (hi:X.N[i]?=some x) (hx:Loc X.env.scope x) (he:DE X c .B e f) (hs:swapsWith e (some (.Name x p)) pos.line X.env=pure false:=by rfl) (hf:X.fn x=true\/X.env.scope.names.lookup x=some .local:=by first | exact .inl rfl | exact .inr rfl | assumption) :
 DS X c (.Assign [.Name x p] e pos) (sSetB S i f):=(zn2 hN hi hx he hs hf).imp fun D σ H q=>tS_setB q
noncomputable abbrev FnG:=D->Rho->Option Rho
noncomputable abbrev FnGs:=List D->Rho->Option Rho
noncomputable def tG {S:Type} {W:Wd S} (c:Dx W) (G:FnG):TG:=fun v σ H Q=>∃ρ d ρ' st,Rep c H σ ρ/\W.ok st H/\Is c.K (Av c σ ρ) H d v/\G d ρ=some ρ'/\∀σ',Rep c H σ' ρ'->Frm c H σ ρ H σ' ρ'->Q σ' H
noncomputable def tGs {S:Type} {W:Wd S} (c:Dx W) (G:FnGs):TGs:=fun vs σ H Q=>∃ρ l ρ' st,Rep c H σ ρ/\W.ok st H/\IsL c.K (Av c σ ρ) H l vs/\G l ρ=some ρ'/\∀σ',Rep c H σ' ρ'->Frm c H σ ρ H σ' ρ'->Q σ' H
noncomputable def DG (X:Cx) {S:Type} {W:Wd S} (c:Dx W) (e:Expr) (G:FnG):Prop:=PG X e (tG c G)
noncomputable def DGs (X:Cx) {S:Type} {W:Wd S} (c:Dx W) (e:List Expr) (G:FnGs):Prop:=PGs X e (tGs c G)
theorem PG.imp {X:Cx} {e:Expr} {t t':TG} (h:PG X e t) (i:∀v σ H Q,t' v σ H Q->t v σ H Q):PG X e t':=fun pins s σ H v u Q I r q=>h pins s σ H v u Q I r (i v σ H Q q)
theorem PGs.imp {X:Cx} {e:List Expr} {t t':TGs} (h:PGs X e t) (i:∀v σ H Q,t' v σ H Q->t v σ H Q):PGs X e t':=fun pins s σ H v u Q I r q=>h pins s σ H v u Q I r (i v σ H Q q)
noncomputable def gN (i:Nat):FnG:=fun d ρ=>put ρ i d
set_option tactic.hygienic true in
theorem zb3 {x:Str} {pos:Pos} (hN:X.N.Nodup) (hi:X.N[i]?=some x) (hx:Loc X.env.scope x) (hf:X.fn x=true\/X.env.scope.names.lookup x=some .local:=by first | exact .inl rfl | exact .inr rfl | assumption):DG X c (.Name x pos) (gN i):=
 (pg_name hN hi hx hf).imp fun v σ H Q hI14=>by
  obtain⟨ρ,d,ρ',st,R,ok,z,e,q⟩:=hI14;unfold gN put at e;split at e
  ·rename_i h
   cases e;exact q _ (R.setB h z) frm_setB
  ·cases e
noncomputable def gsNil:FnGs:=fun l ρ=>match l with
 | []=>some ρ
 | _=>none
noncomputable def gsCons (G:FnG) (Gs:FnGs):FnGs:=fun l ρ=>match l with
 | d::r=>(G d ρ).bind fun ρ1=>Gs r ρ1
 | []=>none
theorem zl1:DGs X c [] gsNil:=pgs_nil.imp fun v σ H Q hI15=>by
 obtain⟨ρ,l,ρ',st,R,ok,z,e,q⟩:=hI15;cases l with
 | nil=>cases e;exact⟨IsL.nil.mp z,q σ R Frm.refl⟩
 | cons _ _=>cases e
theorem zc1 {e:Expr} {es:List Expr} {G:FnG} {Gs:FnGs} (h1:DG X c e G) (h2:DGs X c es Gs) (hs:(assignEach (e::es) X.env).map (·.2)=assign e X.env::(assignEach es X.env).map (·.2):=by rfl):DGs X c (e::es) (gsCons G Gs):=
 (pgs_cons h1 h2 hs).imp fun v σ H Q hI16=>by
  obtain⟨ρ,l,ρ',st,R,ok,z,e,q⟩:=hI16;cases l with
  | nil=>cases e
  | cons d r=>
    obtain⟨v1,vs,e1,i1,j1⟩:=IsL.cons.mp z;have e:(G d ρ).bind (fun ρ1=>Gs r ρ1)=some ρ':=e;cases q1:G d ρ with
    | none=>rw[q1] at e;cases e
    | some ρ1=>
      rw[q1] at e;refine⟨v1,vs,e1,ρ,d,ρ1,st,R,ok,i1,q1,fun σ1 R1 F1=>?_⟩;exact⟨ρ1,r,ρ',st,R1,ok,j1.mono (F1.keepT R ok),e,fun σ2 R2 F2=>q σ2 R2 (F1.trans F2)⟩
noncomputable def gT (n:Nat) (Gs:FnGs):FnG:=fun d ρ=>match d with
 | .tup l=>if l.length=n then Gs l ρ else none
 | _=>none
set_option tactic.hygienic true in
theorem dg_tup {es:List Expr} {k:Nat} {pos:Pos} {Gs:FnGs} {n:Nat} (hc:X.calm=true) (hK:c.K=X.K) (h:DGs X c es Gs) (hn:(assignEach es X.env).length=n:=by rfl) (hst:(assignEach es X.env).findIdx? (·.1)=none:=by rfl):DG X c (.Tuple es k pos) (gT n Gs):=
 (pg_tup hc h hn hst).imp fun v σ H Q hI17=>by
  obtain⟨ρ,d,ρ',st,R,ok,z,e,q⟩:=hI17;cases d with
  | tup l=>
    obtain⟨a,vs,e1,s1,j1⟩:=Is.tup_sq z;have e:(if l.length=n then Gs l ρ else none)=some ρ':=e;split at e
    ·rename_i hl
     exact⟨a,vs,e1,by rw[<-hK];exact s1,by rw[<-j1.length];exact hl,ρ,l,ρ',st,R,ok,j1,e,q⟩
    ·cases e
  | _=>cases e
noncomputable def sAsg (S:Type) (G:FnG) (f:Fn S):FnS S:=fun ρ st=>(f ρ st).bind fun d st1=>(lift (G d ρ) st1).bind fun ρ' st2=>.ok (.nx ρ') st2
theorem ds_asg {tg e:Expr} {f:Fn S} {G:FnG} {pos:Pos} (he:DE X c .B e f) (hg:DG X c tg G) (hs:swapsWithSole [tg] e pos.line X.env=pure false:=by rfl) (hw:swappedStores [tg] e X.env=pure none:=by rfl)
 (h1:(assignEach [tg] X.env).map (·.2)=[assign tg X.env]:=by rfl):DS X c (.Assign [tg] e pos) (sAsg S G f):=
 (ps_asg he hg hs hw h1).imp fun D σ H q=>zf8 (tS_expr (g:=.B) q) fun v H1 hI18=>by
  obtain⟨ρ,d,st0,st1,R,ok,R1,ok1,e,z,w⟩:=hI18;obtain⟨ρ',e1,w⟩:=zb6.mp (za3.mp w);exact⟨ρ,d,ρ',st1,R1,ok1,z,e1,fun σ' R' F'=>w σ' H1 (e.frm.trans F') ok1 R'⟩
end
end L2
end
section
namespace L2
open PySem PySem.Spec PyProof.Rows
noncomputable def IterOk {S:Type} {W:Wd S} (c:Dx W) (σ:St) (ρ:Rho) (H:Hp) (J:It) (l:List D):Prop:=∀(c':Dx W) (hK:c'.K=c.K) σ2 ρ2 H2 (st2:S),KeepT (Av c σ ρ) (Av c' σ2 ρ2) H H2->Rep c' H2 σ2 ρ2->W.ok st2 H2->∀i:Nat,
 (∀d,l[i]?=some d->J.go i H2/\∀x H3,J.yld i H2 x H3->Same H2 H3/\Is c.K (Av c' σ2 ρ2) H3 d x)/\(l.length<=i->J.stop i H2)
noncomputable abbrev FnI (S:Type):=FnA S
noncomputable def tI {S:Type} {W:Wd S} (c:Dx W) (f:FnI S):TI:=fun σ H R=>∃ρ st,Rep c H σ ρ/\W.ok st H/\
 wpR (f ρ st) (fun l st'=>∀J H',Ext W H H'->W.ok st' H'->IterOk c σ ρ H' J l->R J H') fun x st'=>∀H',Ext W H H'->W.ok st' H'->c.Ex x st' H'
noncomputable def DI (X:Cx) {S:Type} {W:Wd S} (c:Dx W) (tg iter:Expr) (f:FnI S):Prop:=PI X tg iter (tI c f)
theorem PI.imp {X:Cx} {tg e:Expr} {t t':TI} (h:PI X tg e t) (i:∀σ H R,t' σ H R->t σ H R):PI X tg e t':=fun pins s σ H R I q=>h pins s σ H R I (i σ H R q)
section
variable {X:Cx} {S:Type} {W:Wd S} {c:Dx W} {tg:Expr}
noncomputable def iSeq (S:Type) (sel:D->Option (List D)) (f:Fn S):FnI S:=fun ρ st=>(f ρ st).bind fun d st1=>lift (sel d) st1
noncomputable def D.tup?:D->Option (List D)
 | .tup l=>some l
 | _=>none
noncomputable def D.lst?:D->Option (List D)
 | .lst l=>some l
 | _=>none
theorem di_tup {e:Expr} {f:Fn S} (hK:c.K=X.K) (h:DE X c .B e f):DI X c tg e (iSeq S D.tup? f):=
 (pi_tup h).imp fun σ H R hI19=>by
  obtain⟨ρ,st,R0,ok,w⟩:=hI19;refine⟨ρ,st,R0,ok,za6 (za3.mp w) (fun d st1 q v H1 e ok1 z=>?_) fun x st1 q=>q⟩;obtain⟨l,e1,q⟩:=zb6.mp q;cases d with
  | tup m=>
    cases e1;obtain⟨a,vs,ev,s0,i⟩:=Is.tup_iff.mp z;have s:SqT c.K H1 a vs:=.of s0;refine⟨a,ev,⟨vs,by rw[<-hK];exact s⟩,q _ H1 e ok1 ?_⟩;intro c' hK' σ2 ρ2 H2 st2 k R2 ok2 j;have s2:SqT c.K H2 a vs:=.of (k.tup a vs s0);have i2:IsL c.K (Av c' σ2 ρ2) H2 l vs:=i.mono k;refine⟨fun d hd=>?_,fun hl=>⟨vs,by rw[<-hK];exact s2,by rw[<-i2.length];exact hl⟩⟩;obtain⟨v1,hv,iv⟩:=i2.get hd;exact⟨⟨vs,v1,by rw[<-hK];exact s2,hv⟩,fun x H3 hI20=>by
     obtain⟨e3,y⟩:=hI20;subst e3;have hx:=y vs (by rw[<-hK];exact s2);rw[hv] at hx;cases hx;exact⟨Same.refl _,iv⟩⟩
  | _=>cases e1
theorem di_lst {e:Expr} {f:Fn S} (hK:c.K=X.K) (h:DE X c .B e f):DI X c tg e (iSeq S D.lst? f):=
 (pi_list h).imp fun σ H R hI21=>by
  obtain⟨ρ,st,R0,ok,w⟩:=hI21;refine⟨ρ,st,R0,ok,za6 (za3.mp w) (fun d st1 q v H1 e ok1 z=>?_) fun x st1 q=>q⟩;obtain⟨l,e1,q⟩:=zb6.mp q;cases d with
  | lst m=>
    cases e1;obtain⟨a,vs,ev,n,s,i⟩:=Is.lst_iff.mp z;refine⟨a,ev,⟨vs,.of s⟩,q _ H1 e ok1 ?_⟩;intro c' hK' σ2 ρ2 H2 st2 k R2 ok2 j;have s2:H2 a=some (.lst vs):=(k.nod a _ n s).2;have i2:IsL c.K (Av c' σ2 ρ2) H2 l vs:=i.mono k;refine⟨fun d hd=>?_,fun hl=>⟨vs,.of s2,by rw[<-i2.length];exact hl⟩⟩;obtain⟨v1,hv,iv⟩:=i2.get hd;exact⟨⟨vs,v1,.of s2,hv⟩,fun x H3 hI22=>by
     obtain⟨e3,y⟩:=hI22;subst e3;have hx:=y vs (.of s2);rw[hv] at hx;cases hx;exact⟨Same.refl _,iv⟩⟩
  | _=>cases e1
noncomputable def zj5 (lo:Int) (n:Nat):List D:=(List.range n).map fun (k:Nat)=>D.int (lo+(k:Int))
noncomputable def oRange1:List D->Option (List D)
 | [.int j]=>if -(2 ^ 62)<=j/\j<2 ^ 62 then some (zj5 0 j.toNat) else none
 | _=>none
noncomputable def iArgs (S:Type) (o:List D->Option (List D)) (f:FnA S):FnI S:=fun ρ st=>(f ρ st).bind fun l st1=>lift (o l) st1
theorem iter_range {σ:St} {ρ:Rho} {H:Hp} (lo:Int) (n:Nat):IterOk c σ ρ H (Itr lo n) (zj5 lo n):=by
 intro c' hK' σ2 ρ2 H2 st2 k R2 ok2 j;refine⟨fun d hd=>?_,fun hl=>?_⟩
 ·unfold zj5 at hd
  rw[List.getElem?_map] at hd;cases q:(List.range n)[j]? with
  | none=>rw[q] at hd;cases hd
  | some m=>
    rw[q] at hd;cases hd;obtain⟨h1,h2⟩:=List.getElem?_eq_some_iff.mp q;rw[List.getElem_range] at h2;subst h2;rw[List.length_range] at h1;exact⟨h1,fun x H3 ⟨e3,e4⟩=>by subst e3 e4;exact⟨Same.refl _,Is.int_iff.mpr rfl⟩⟩
 ·unfold zj5 at hl
  rw[List.length_map,List.length_range] at hl;exact hl
set_option tactic.hygienic true in
theorem ze0 {a:Expr} {f:FnA S} {p pos:Pos} (hg:Gl X "range") (hm:X.mg "range" = none) (ha:DA X c [a] f) (hs:starEach [a] X.env=[(false,eval a X.env)]:=by rfl):DI X c tg (.Call (.Name "range" p) [a] [] pos) (iArgs S oRange1 f):=
 (pi_range1 hg hm ha hs).imp fun σ H R hI23=>by
  obtain⟨ρ,st,R0,ok,w⟩:=hI23;refine⟨ρ,st,R0,ok,za6 (za3.mp w) (fun l st1 q vs H1 e ok1 z=>?_) fun x st1 q=>q⟩;obtain⟨m,e1,q⟩:=zb6.mp q;unfold oRange1 at e1;split at e1
  ·rename_i j
   split at e1
   ·rename_i h
    cases e1;obtain⟨v,r,e2,i2,i3⟩:=IsL.cons.mp z;rw[IsL.nil.mp i3,Is.int_iff.mp i2] at e2;exact⟨j,e2,h.1,h.2,q _ H1 e ok1 (iter_range 0 _)⟩
   ·cases e1
  ·cases e1
noncomputable def frz1 (i:Nat) (ρ:Rho):Rho:=match ρ[i]? with
 | some (.own d)=>ρ.set i (.bor d)
 | _=>ρ
noncomputable def frz:List Nat->Rho->Rho
 | [],ρ=>ρ
 | i::r,ρ=>frz r (frz1 i ρ)
set_option tactic.hygienic true in
theorem Rep.frz1 {H:Hp} {σ:St} {ρ:Rho} {st:S} (i:Nat) (R:Rep c H σ ρ) (ok:W.ok st H):Rep c H σ (frz1 i ρ)/\Frm c H σ ρ H σ (L2.frz1 i ρ):=by
 unfold L2.frz1;split
 ·rename_i d hi
  obtain⟨a,e1,n,f,t⟩:=R.slot i _ hi;have e1':=zi8 e1;have hlt:i<ρ.length:=(List.getElem?_eq_some_iff.mp hi).1;have sub:∀b,Ow σ (ρ.set i (.bor d)) b->Ow σ ρ b/\b≠a:=fun b hI24=>by
   obtain⟨j,e,h1,h2⟩:=hI24;rcases zb1 h1 with⟨_,z⟩ | ⟨nj,z⟩
   ·cases z
   ·refine⟨⟨j,e,z,h2⟩,fun q=>?_⟩
    subst q;exact nj (R.uniq j i b e d z hi h2 e1')
  have k:KeepT (Av c σ ρ) (Av c σ (ρ.set i (.bor d))) H H:=⟨fun _ _ z _=>z,fun b o a z=>⟨⟨a.1,fun w=>a.2.1 (sub b w).1,a.2.2⟩,z⟩⟩;refine⟨⟨by rw[List.length_set];exact R.len,R.frame,fun j s hs=>?_,R.avl,fun j j' b e e' h1 h2 h3 h4=>?_⟩,⟨fun b o h _ _=>h,fun b o _ _ w=>(sub b w).1⟩⟩
  ·rcases zb1 hs with⟨ej,z⟩ | ⟨nj,z⟩
   ·subst z ej
    exact⟨_,e1,(t.mono k fun o z=>z).isTop ⟨n.1,fun w=>(sub a w).2 rfl,n.2⟩⟩
   ·have q:=R.slot j s z
    cases s with
    | no=>trivial
    | bor e=>obtain⟨v',e1,i1⟩:=q;exact⟨v',e1,i1.mono k⟩
    | own e=>obtain⟨b,e1,n1,f,t⟩:=q;exact⟨b,e1,n1,f,t.mono k fun o z=>z⟩
    | hnd=>exact q
  ·rcases zb1 h1 with⟨_,z⟩ | ⟨_,z⟩
   ·cases z
   ·rcases zb1 h2 with⟨_,z'⟩ | ⟨_,z'⟩
    ·cases z'
    ·exact R.uniq j j' b e e' z z' h3 h4
 ·exact⟨R,Frm.refl⟩
theorem Rep.frz {H:Hp} {σ:St} {st:S} (ok:W.ok st H):∀(l:List Nat) {ρ:Rho},Rep c H σ ρ->Rep c H σ (L2.frz l ρ)/\Frm c H σ ρ H σ (L2.frz l ρ)
 | [],ρ,R=>⟨R,Frm.refl⟩
 | i::r,ρ,R=>by
   obtain⟨R1,F1⟩:=R.frz1 i ok;obtain⟨R2,F2⟩:=Rep.frz ok r R1;exact⟨R2,F1.trans F2⟩
noncomputable def forD (S:Type) (G:FnG) (B:FnS S):List D->FnS S
 | [],ρ,st=>.ok (.nx ρ) st
 | d::r,ρ,st=>(lift (G d ρ) st).bind fun ρ1 st1=>(B ρ1 st1).bind fun fl st2=>match fl with
   | .nx ρ2=>forD S G B r ρ2 st2
   | .ct ρ2=>forD S G B r ρ2 st2
   | .bk ρ2=>.ok (.nx ρ2) st2
   | .rt d=>.ok (.rt d) st2
noncomputable def sFor (S:Type) (fz:List Nat) (f:FnI S) (G:FnG) (B:FnS S):FnS S:=fun ρ st=>(f (frz fz ρ) st).bind fun l st1=>forD S G B l (frz fz ρ) st1
theorem zj1 {iter:Expr} {body:List Stmt} {f:FnI S} {G:FnG} {B:FnS S} {pos:Pos} (fz:List Nat) (hp:PassesOwn (model X.prog X.w) X.A X.env X.xe) (hc:X.calm=true) (hi:DI X c tg iter f) (hg:DG X c tg G) (hb:DSs X c body B)
 (hs:∀x,foldedSetIterable iter X.env x=pure x:=by intro _;rfl):DS X c (.For tg iter body [] pos) (sFor S fz f G B):=
 (ps_for hp hc hi hg hb hs).imp fun D σ H hI25=>by
  obtain⟨ρ,st,R,ok,w⟩:=hI25;obtain⟨Rf,Ff⟩:=R.frz ok fz;refine⟨frz fz ρ,st,Rf,ok,za6 (za3.mp w) (fun l st1 q J H1 e ok1 it=>?_) fun x st1 q H1 e ok1=>q H1 (e.f0 R) ok1⟩;have R1:=Rf.ext ok e;refine⟨fun i m σ2 H2=>∃ρ2 st2,i<=l.length/\m=l.length-i/\Frm c H1 σ (frz fz ρ) H2 σ2 ρ2/\Rep c H2 σ2 ρ2/\W.ok st2 H2/\wpR (forD S G B (l.drop i) ρ2 st2) (EndOk c D σ2 ρ2 H2) (ExOk c),⟨l.length,frz fz ρ,st1,Nat.zero_le _,rfl,Frm.refl,R1,ok1,?_⟩,?_⟩
  ·rw[List.drop_zero]
   exact za6 q (fun fl st2 q=>(q.from Ff).from e.frm) fun x st2 q=>q
  ·rintro i m σ2 H2 ⟨ρ2,st2,hle,rfl,F2,R2,ok2,w2⟩
   obtain⟨h1,h2⟩:=it c rfl σ2 ρ2 H2 st2 (F2.keepT R1 ok1) R2 ok2 i;by_cases hlt:i<l.length
   ·have hd:l[i]?=some l[i]:=List.getElem?_eq_getElem hlt
    obtain⟨go,yl⟩:=h1 _ hd;rw[List.drop_eq_getElem_cons hlt] at w2;refine .inr ⟨go,fun σ3 H3=>∃ρ3 st3,Frm c H1 σ (frz fz ρ) H3 σ3 ρ3/\Rep c H3 σ3 ρ3/\W.ok st3 H3/\wpR (forD S G B (l.drop (i+1)) ρ3 st3) (EndOk c D σ3 ρ3 H3) (ExOk c),fun σ3 H3 ⟨ρ3,st3,F3,R3,ok3,w3⟩=>⟨l.length-(i+1),by omega,ρ3,st3,hlt,rfl,F3,R3,ok3,w3⟩,fun x H3 y=>?_⟩;obtain⟨sm,iv⟩:=yl x H3 y;have ex:Ext W H2 H3:=sm.ext;have ok3:W.ok st2 H3:=W.stay st2 H2 H3 ok2 fun b o _ hb=>sm b o hb
    have R3:=R2.ext ok2 ex;obtain⟨ρ4,e4,w4⟩:=zb6.mp (za3.mp w2);refine⟨ρ2,_,ρ4,st2,R3,ok3,iv,e4,fun σ4 R4 F4=>?_⟩;have F24:Frm c H2 σ2 ρ2 H3 σ4 ρ4:=ex.frm.trans F4;refine⟨ρ4,st2,R4,ok3,za6 (za3.mp w4) (fun fl st5 q5=>?_) fun x st5 q=>q⟩;have nxt:∀ρ5,wpR (forD S G B (l.drop (i+1)) ρ5 st5) (EndOk c D σ2 ρ2 H2) (ExOk c)->Nx c (fun σ3 H3=>∃ρ3 st3,Frm c H1 σ (frz fz ρ) H3 σ3 ρ3/\Rep c H3 σ3 ρ3/\W.ok st3 H3/\wpR (forD S G B (l.drop (i+1)) ρ3 st3) (EndOk c D σ3 ρ3 H3) (ExOk c)) σ4 ρ4 H3 ρ5 st5:=
     fun ρ5 q5 σ5 H5 F5 ok5 R5=>⟨ρ5,st5,F2.trans (F24.trans F5),R5,ok5,za6 q5 (fun fl st6 q=>q.from (F24.trans F5)) fun x st6 q=>q⟩
    cases fl with
    | nx ρ5=>exact nxt ρ5 q5
    | ct ρ5=>exact nxt ρ5 q5
    | bk ρ5=>exact fun σ5 H5 F5 ok5 R5=>q5 σ5 H5 (F24.trans F5) ok5 R5
    | rt d=>exact q5
   ·have e0:i=l.length:=by omega
    subst e0;rw[List.drop_length] at w2;exact .inl ⟨h2 (Nat.le_refl _),w2 σ2 H2 Frm.refl ok2 R2⟩
end
end L2
end
section
namespace L2
open PySem PySem.Spec PyProof.Rows
theorem zg4:∀{l m:List D},D.immL l=true->D.immL m=true->D.immL (l++m)=true
 | [],_,_,h=>h
 | d::l,m,h,k=>by
   have h':d.imm=true/\D.immL l=true:=by simpa [D.immL] using h
   show (d.imm&&D.immL (l++m))=true;rw[h'.1,zg4 h'.2 k];rfl
noncomputable abbrev Dx.avoid {S:Type} {W:Wd S} (c:Dx W) (av:Addr->Prop):Dx W:=⟨c.K,c.H0,c.Ex,av⟩
noncomputable def pickR (ρ:Rho) (ixs:List (Option Nat)):Rho:=ixs.map fun o=>match o with
 | some i=>(match ρ[i]? with
   | some (.bor d)=>.bor d
   | some (.own d)=>.bor d
   | some .hnd=>.hnd
   | _=>.no)
 | none=>.no
section
variable {S:Type} {W:Wd S} {c:Dx W} {H H1:Hp} {σ:St} {ρ:Rho} {st:S}
theorem pickR_no {σ':St} {ixs:List (Option Nat)} {b:Addr}:¬Ow σ' (pickR ρ ixs) b:=fun hI26=>by
 obtain⟨j,d,h,_⟩:=hI26;unfold pickR at h;rw[List.getElem?_map] at h;cases q:ixs[j]? with
 | none=>rw[q] at h;cases h
 | some o=>
   rw[q] at h;cases o with
   | none=>cases h
   | some i=>
     have h:(match ρ[i]? with | some (.bor d)=>Sl.bor d | some (.own d)=>.bor d | some .hnd=>.hnd | _=>.no)=Sl.own d:=Option.some.inj h;split at h<;>cases h
theorem Rep.pick {D:Addr} (R:Rep c H σ ρ) (ok:W.ok st H) (hD:H D=none) (ixs:List (Option Nat)):Rep (c.avoid fun b=>c.av b\/b=D) (upd H D (.lst [])) (L2.pick σ ixs) (pickR ρ ixs) where
 len:=by unfold L2.pick pickR;rw[List.length_map,List.length_map]
 frame:=fun b o h n=>by
  have e:H b=some o:=R.frame b o h n;show upd H D _ b=some o;rw[za9 (zb0 e hD)];exact e
 uniq:=fun i j a d e h1 _ _ _=>(pickR_no (σ':=L2.pick σ ixs) (ρ:=ρ) (ixs:=ixs) (b:=a) ⟨i,d,h1,by assumption⟩).elim
 avl:=fun b h=>by
  rcases h with h | h
  ·obtain⟨n,z,o,h',q⟩:=R.avl b h
   exact⟨n,z,o,by show upd H D _ b=some o;rw[za9 (zb0 h' hD)];exact h',q⟩
  ·subst h
   exact⟨mv_free ok hD,R.none0 ok hD,_,zb4,(fun u z=>by cases z),fun ob u z=>by cases z⟩
 slot:=fun j s hs=>by
  unfold pickR at hs;rw[List.getElem?_map] at hs;have kk:∀{A:Addr->Prop},(∀b,A b->¬W.mv b/\¬c.av b)->KeepT A (Av (c.avoid fun b=>c.av b\/b=D) (L2.pick σ ixs) (pickR ρ ixs)) H (upd H D (.lst [])):=fun {A} hA=>
   zi2 (fun b o e _=>by rw[za9 (zb0 e hD)];exact e) fun b o a e=>⟨⟨(hA b a).1,pickR_no,fun w=>w.elim (hA b a).2 (fun z=>by subst z;rw[hD] at e;cases e)⟩,by rw[za9 (zb0 e hD)];exact e⟩
  cases q:ixs[j]? with
  | none=>rw[q] at hs;cases hs
  | some o=>
    rw[q] at hs;have ej:(L2.pick σ ixs)[j]?=(ixs[j]?).map (fun o=>match o with | some i=>(σ[i]?).join | none=>none):=by
     unfold L2.pick;rw[List.getElem?_map]
     all_goals rfl
    rw[ej,q];cases o with
    | none=>cases hs;trivial
    | some i=>
      have hs:(match ρ[i]? with | some (.bor d)=>Sl.bor d | some (.own d)=>.bor d | some .hnd=>.hnd | _=>.no)=s:=Option.some.inj hs;show SlotOk _ _ _ (σ[i]?).join s;cases h:ρ[i]? with
      | none=>rw[h] at hs;cases hs;trivial
      | some s'=>
        rw[h] at hs;have z:=R.slot i s' h;cases s' with
        | no=>cases hs;trivial
        | hnd=>cases hs;exact z
        | bor d=>cases hs;obtain⟨v,e1,i1⟩:=z;exact⟨v,e1,i1.mono (kk fun b a=>⟨a.1,a.2.2⟩)⟩
        | own d=>
          cases hs;obtain⟨a,e1,n,f,t⟩:=z;refine⟨.ref a,e1,?_⟩;have t':=t.mono (c:=c) (kk fun b a=>⟨a.1,a.2.2⟩) fun o z=>by rw[za9 (zb0 z hD)];exact z
          obtain⟨o,ho,_⟩:=t.there;exact Top.isTop (c:=c) ⟨n.1,pickR_no,fun w=>w.elim n.2 (fun z=>by subst z;rw[hD] at ho;cases ho)⟩ t'
end
noncomputable def compD (S:Type) (G:FnG) (t:FnT S) (e:Fn S):List D->List D->Rho->S->Res S (List D)
 | [],acc,_,st=>.ok acc st
 | d::r,acc,ρ,st=>(lift (G d ρ) st).bind fun ρ1 st1=>(t ρ1 st1).bind fun b st2=>if b=true then
    (e ρ1 st2).bind fun y st3=>if y.imm=true/\acc.length<sizeLine then compD S G t e r (acc++[y]) ρ1 st3 else .bad
   else compD S G t e r acc ρ1 st2
noncomputable def fComp (S:Type) (fz:List Nat) (ixs:List (Option Nat)) (f:FnI S) (G:FnG) (t:FnT S) (e:Fn S):Fn S:=fun ρ st=>(f (frz fz ρ) st).bind fun l st1=>(compD S G t e l [] (pickR (frz fz ρ) ixs) st1).bind fun r st2=>.ok (.lst r) st2
noncomputable def DTs (X:Cx) {S:Type} {W:Wd S} (c:Dx W) (ifs:List Expr) (t:FnT S):Prop:=PTs X ifs (tDT c t)
theorem PTs.imp {X:Cx} {e:List Expr} {t t':TT} (h:PTs X e t) (i:∀σ H Q,t' σ H Q->t σ H Q):PTs X e t':=fun pins s σ H Q I q=>h pins s σ H Q I (i σ H Q q)
noncomputable def fTrue (S:Type):FnT S:=fun _ st=>.ok true st
theorem zm6 {X:Cx} {S:Type} {W:Wd S} {c:Dx W}:DTs X c [] (fTrue S):=pts_nil.imp fun σ H Q ⟨ρ,st,R,ok,w⟩=>w H Ext.refl ok
theorem dts_one {X:Cx} {S:Type} {W:Wd S} {c:Dx W} {e:Expr} {t:FnT S} (h:DT X c e t):DTs X c [e] t:=pts_one h
section
variable {X:Cx} {S:Type} {W:Wd S} {c:Dx W} {N':List Str} {ixs:List (Option Nat)} {scope:Scope} {tg iter elt:Expr} {ifs:List Expr} {f:FnI S} {G:FnG} {t:FnT S} {e:Fn S} {pos:Pos} {g:Gr}
noncomputable def gEx {S:Type} {W:Wd S} (c:Dx W) (G:FnG):TG:=fun v σ H Q=>∃av,tG (c.avoid av) G v σ H Q
noncomputable def tEx {S:Type} {W:Wd S} (c:Dx W) (t:FnT S):TT:=fun σ H Q=>∃av,tDT (c.avoid av) t σ H Q
noncomputable def eEx {S:Type} {W:Wd S} (c:Dx W) (e:Fn S):TE:=fun σ H Q=>∃av,tD (c.avoid av) .R e σ H Q
noncomputable def cInv (S:Type) {W:Wd S} (c:Dx W) (G:FnG) (t:FnT S) (e:Fn S) (l:List D) (A:Addr) (H1:Hp) (Pq:D->S->Prop) (Pe:Exn->S->Prop) (i:Nat) (σ2:St) (H2:Hp):Prop:=
 ∃ρ2 st2 acc ys,Rep (c.avoid fun b=>c.av b\/b=A) H2 σ2 ρ2/\(∀b,¬Ow σ2 ρ2 b)/\W.ok st2 H2/\Ext W H1 H2/\H2 A=some (.lst ys)/\D.immL acc=true/\IsL c.K (fun _=>False) H2 acc ys/\
  wpR ((compD S G t e (l.drop i) acc ρ2 st2).bind fun r st2=>.ok (.lst r) st2) Pq Pe
noncomputable def cPq (S:Type) {W:Wd S} (c:Dx W) (g:Gr) (σ:St) (ρ:Rho) (H:Hp) (Q:VK):D->S->Prop:=fun d st'=>∀v H',Ext W H H'->W.ok st' H'->Val c g σ ρ H H' d v->Q v H'
noncomputable def cPe (S:Type) {W:Wd S} (c:Dx W) (H:Hp):Exn->S->Prop:=fun x st'=>∀H',Ext W H H'->W.ok st' H'->c.Ex x st' H'
theorem tD_comp {fz:List Nat} {σ:St} {H:Hp} {Q:VK} (h:tD c g (fComp S fz ixs f G t e) σ H Q):tComp (tI c f) ixs (gEx c G) (tEx c t) (eEx c e) σ H Q:=by
 obtain⟨ρ,st,R,ok,w⟩:=h;obtain⟨Rf,Ff⟩:=R.frz ok fz;refine⟨frz fz ρ,st,Rf,ok,za6 (za3.mp w) (fun l st1 q J H1 e1 ok1 it=>?_) fun x st1 q=>q⟩;have R1:=R.ext ok e1;have Rf1:=Rf.ext ok e1;intro A hA;have hAm:¬W.mv A:=mv_free ok1 hA;have hA0:H A=none:=e1.none ok1 hA;refine⟨fun i m σ2 H2=>i<=l.length/\m=l.length-i/\cInv S c G t e l A H1 (cPq S c g σ ρ H Q) (cPe S c H) i σ2 H2,⟨l.length,Nat.zero_le _,rfl,pickR (frz fz ρ) ixs,st1,[],[],Rf1.pick ok1 hA ixs,fun b=>pickR_no,zm2 ok1 hA,Ext.laid hA,zb4,rfl,IsL.nil.mpr rfl,by rw[List.drop_zero];exact q⟩,?_⟩;intro i m σ2 H2 hI;obtain⟨hle,rfl,ρ2,st2,acc,ys,R2,no2,ok2,x2,hA2,im,il,w2⟩:=hI;have k2:KeepT (Av c σ (frz fz ρ)) (Av (c.avoid fun b=>c.av b\/b=A) σ2 ρ2) H1 H2:=zi2 (fun b o h tt=>x2 b o h fun m=>by
  obtain⟨o',h',n1,n2⟩:=W.live st1 H1 b ok1 m;rw[h] at h';cases h';rcases tt with⟨u,z⟩ | ⟨ob,u,z⟩
  ·exact n1 u z
  ·exact n2 ob u z) fun b o a h=>⟨⟨a.1,no2 b,fun w=>w.elim a.2.2 (fun z=>by subst z;rw[hA] at h;cases h)⟩,x2 b o h a.1⟩
 obtain⟨h1,h2⟩:=it (c.avoid fun b=>c.av b\/b=A) rfl σ2 ρ2 H2 st2 k2 R2 ok2 i;by_cases hlt:i<l.length
 ·have hd:l[i]?=some l[i]:=List.getElem?_eq_getElem hlt
  obtain⟨go,yl⟩:=h1 _ hd;rw[List.drop_eq_getElem_cons hlt] at w2;refine .inr ⟨go,fun σ3 H3=>cInv S c G t e l A H1 (cPq S c g σ ρ H Q) (cPe S c H) (i+1) σ3 H3,fun σ3 H3 hh=>⟨l.length-(i+1),by omega,hlt,rfl,hh⟩,fun x H3 y=>?_⟩;obtain⟨sm,iv⟩:=yl x H3 y;have ex:Ext W H2 H3:=sm.ext;have ok3:W.ok st2 H3:=W.stay st2 H2 H3 ok2 fun b o _ hb=>sm b o hb
  have R3:=R2.ext (c:=c.avoid fun b=>c.av b\/b=A) ok2 ex;have w2:wpR (((lift (G l[i] ρ2) st2).bind fun ρ1 st1=>(t ρ1 st1).bind fun b st2=>if b=true then
   (e ρ1 st2).bind fun y st3=>if y.imm=true/\acc.length<sizeLine then compD S G t e (l.drop (i+1)) (acc++[y]) ρ1 st3 else .bad
   else compD S G t e (l.drop (i+1)) acc ρ1 st2).bind fun r st2=>.ok (.lst r) st2) (cPq S c g σ ρ H Q) (cPe S c H):=w2
  obtain⟨ρ4,e4,w4⟩:=zb6.mp (za3.mp (za3.mp w2));refine⟨(fun b=>c.av b\/b=A),ρ2,_,ρ4,st2,R3,ok3,iv,e4,fun σ4 R4 F4=>?_⟩;have no4:∀b,¬Ow σ4 ρ4 b:=fun b wb=>by
   obtain⟨n,_,o,ho,_⟩:=R4.owOk wb;exact no2 b (F4.own b o ho n wb)
  refine⟨(fun b=>c.av b\/b=A),ρ4,st2,R4,ok3,za6 (za3.mp w4) (fun b st5 q5 H5 x5 ok5=>?_) fun x st5 q H5 x5 ok5=>q H5 ((e1.trans x2).trans (ex.trans x5)) ok5⟩;have R5:=R4.ext (c:=c.avoid fun b=>c.av b\/b=A) ok3 x5;have hA5:H5 A=some (.lst ys):=x5 A _ (sm A _ hA2) hAm;cases b with
  | false=>
    exact⟨ρ4,st5,acc,ys,R5,no4,ok5,x2.trans (ex.trans x5),hA5,im,(il.ext ex ok2 fun _ z=>z.elim).ext x5 ok3 fun _ z=>z.elim,za3.mpr q5⟩
  | true=>
    refine⟨(fun b=>c.av b\/b=A),ρ4,st5,R5,ok5,za6 (za3.mp q5) (fun y st6 q6 v H6 x6 ok6 z6=>?_) fun x st6 q H6 x6 ok6=>q H6 ((e1.trans x2).trans (ex.trans (x5.trans x6))) ok6⟩;by_cases hy:y.imm=true/\acc.length<sizeLine
    ·rw[if_pos hy] at q6
     have hA6:H6 A=some (.lst ys):=x6 A _ hA5 hAm;have il6:IsL c.K (fun _=>False) H6 acc ys:=((il.ext ex ok2 fun _ z=>z.elim).ext x5 ok3 fun _ z=>z.elim).ext x6 ok5 fun _ z=>z.elim
     refine⟨ys,hA6,by rw[<-il6.length];exact hy.2,ρ4,st6,acc++[y],ys++[v],?_,no4,?_,?_,zb4,?_,?_,za3.mpr q6⟩
     ·-- the slots do not see the list
      have R6:=R5.ext (c:=c.avoid fun b=>c.av b\/b=A) ok5 x6;have nA:∀b,Av (c.avoid fun b=>c.av b\/b=A) σ4 ρ4 b->b≠A:=fun b a z=>a.2.2 (.inr z)
      have k:KeepT (Av (c.avoid fun b=>c.av b\/b=A) σ4 ρ4) (Av (c.avoid fun b=>c.av b\/b=A) σ4 ρ4) H6 (upd H6 A (.lst (ys++[v]))):=zi2 (fun b o h tt=>by
       have hb:b≠A:=fun z=>by
        subst z;rw[hA6] at h;cases h;rcases tt with⟨u,z⟩ | ⟨ob,u,z⟩<;>cases z
       rw[za9 hb];exact h) fun b o a h=>⟨a,by rw[za9 (nA b a)];exact h⟩
      refine⟨R6.len,fun b o h n=>?_,fun j s hs=>?_,fun b h=>?_,R6.uniq⟩
      ·have hb:b≠A:=fun z=>by
        subst z;have:=(R6.avl b (.inr rfl)).2.1;rw[show (c.avoid fun b'=>c.av b'\/b'=b).H0 b=c.H0 b from rfl] at this;rw[this] at h;cases h
       rw[za9 hb];exact R6.frame b o h n
      ·have qs:=R6.slot j s hs
       cases s with
       | no=>trivial
       | bor d=>obtain⟨v',e1,i1⟩:=qs;exact⟨v',e1,i1.mono k⟩
       | own d=>obtain⟨a,ea,_,_,_⟩:=qs;exact(no4 a ⟨j,d,hs,zi8 ea⟩).elim
       | hnd=>exact qs
      ·obtain⟨n,z,o,h',qq⟩:=R6.avl b h
       by_cases hb:b=A
       ·subst hb
        exact⟨n,z,_,zb4,(fun u z=>by cases z),fun ob u z=>by cases z⟩
       ·exact⟨n,z,o,by rw[za9 hb];exact h',qq⟩
     ·exact W.stay st6 H6 _ ok6 fun b o m h=>by
       have hb:b≠A:=fun z=>hAm (z▸m)
       rw[za9 hb];exact h
     ·intro b o h n
      have hb:b≠A:=fun z=>by subst z;rw[hA] at h;cases h
      rw[za9 hb];exact((x2.trans (ex.trans (x5.trans x6))) b o h n)
     ·exact zg4 im (by simp[D.immL,hy.1])
     ·have z6':Is c.K (fun _=>False) H6 y v:=Is.ofImm hy.1 z6
      have kk:KeepT (fun _=>False) (fun _=>False) H6 (upd H6 A (.lst (ys++[v]))):=zi2 (fun b o h tt=>by
       have hb:b≠A:=fun z=>by
        subst z;rw[hA6] at h;cases h;rcases tt with⟨u,z⟩ | ⟨ob,u,z⟩<;>cases z
       rw[za9 hb];exact h) fun b o a h=>a.elim
      exact(il6.append (IsL.one z6')).mono kk
    ·rw[if_neg hy] at q6;exact q6.elim
 ·have e0:i=l.length:=by omega
  subst e0;rw[List.drop_length] at w2;refine .inl ⟨h2 (Nat.le_refl _),w2 (.ref A) H2 (e1.trans x2) ok2 (New.val R ?_ g)⟩;exact Is.lst ⟨hAm,hA0⟩ hA2 (IsL.ofImm im il)
theorem zl2 (fz:List Nat) (CS:zl4 X N' ixs scope) (hc:X.calm=true) (hi:DI X c tg iter f)
 (hin:∀av cl C s H fp,DG (zj7 X N' scope cl C s H fp) (c.avoid av) tg G/\DTs (zj7 X N' scope cl C s H fp) (c.avoid av) ifs t/\DE (zj7 X N' scope cl C s H fp) (c.avoid av) .R elt e)
 (hs:∀x,foldedSetIterable iter X.env x=pure x:=by intro _;rfl):DE X c g (.ListComp elt [⟨tg,iter,ifs,0⟩] scope pos) (fComp S fz ixs f G t e):=
 (pe_comp (g:=gEx c G) (tc:=tEx c t) (te:=eEx c e) CS hc hi (fun cl C s H fp=>
  ⟨fun pins s' σ H' v u Q I r ⟨av,q⟩=>(hin av cl C s H fp).1 pins s' σ H' v u Q I r q,fun pins s' σ H' Q I ⟨av,q⟩=>(hin av cl C s H fp).2.1 pins s' σ H' Q I q,fun pins s' σ H' Q I ⟨av,q⟩=>(hin av cl C s H fp).2.2 pins s' σ H' Q I q⟩) hs).imp fun σ H Q q=>tD_comp (g:=g) q
noncomputable def zi3 (S:Type) (t:FnT S) (B:FnS S):Nat->FnS S
 | 0,_,_=>.bad
 | n+1,ρ,st=>(t ρ st).bind fun b st1=>if b=true then (B ρ st1).bind fun fl st2=>match fl with
    | .nx ρ2=>zi3 S t B n ρ2 st2
    | .ct ρ2=>zi3 S t B n ρ2 st2
    | .bk ρ2=>.ok (.nx ρ2) st2
    | .rt d=>.ok (.rt d) st2
   else .ok (.nx ρ) st1
open Classical in
noncomputable def sWhile (S:Type) (t:FnT S) (B:FnS S):FnS S:=fun ρ st=>if h:∃n,zi3 S t B n ρ st≠.bad then zi3 S t B h.choose ρ st else .bad
theorem zn6 {t:FnT S} {B:FnS S}:∀(n k:Nat) (ρ:Rho) (st:S),zi3 S t B n ρ st≠.bad->zi3 S t B (n+k) ρ st=zi3 S t B n ρ st
 | 0,_,_,_,h=>(h rfl).elim
 | n+1,k,ρ,st,h=>by
   rw[show n+1+k=(n+k)+1 by omega];unfold zi3 at h ⊢;cases q:t ρ st with
   | bad=>rfl
   | exc x s=>rfl
   | ok b st1=>
     rw[q] at h;simp only[Res.bind_ok] at h ⊢;cases b with
     | false=>rfl
     | true=>
       simp only[if_true] at h ⊢;cases q2:B ρ st1 with
       | bad=>rfl
       | exc x s=>rfl
       | ok fl st2=>
         rw[q2] at h;simp only[Res.bind_ok] at h ⊢;cases fl with
         | nx ρ2=>exact zn6 n k ρ2 st2 h
         | ct ρ2=>exact zn6 n k ρ2 st2 h
         | bk ρ2=>rfl
         | rt d=>rfl
theorem sWhile_eq {t:FnT S} {B:FnS S} {n:Nat} {ρ:Rho} {st:S} (h:zi3 S t B n ρ st≠.bad):sWhile S t B ρ st=zi3 S t B n ρ st:=by
 unfold sWhile;have hx:∃n,zi3 S t B n ρ st≠.bad:=⟨n,h⟩;rw[dif_pos hx];have h1:=zn6 n hx.choose ρ st h;have h2:=zn6 hx.choose n ρ st hx.choose_spec;rw[Nat.add_comm] at h2;exact h2.symm.trans h1
theorem ds_while {test:Expr} {body:List Stmt} {t:FnT S} {B:FnS S} (hp:PassesOwn (model X.prog X.w) X.A X.env X.xe) (ht:DT X c test t) (hb:DSs X c body B):DS X c (.While test body [] pos) (sWhile S t B):=
 (ps_while hp ht hb).imp fun D σ H hI27=>by
  obtain⟨ρ,st,R,ok,w⟩:=hI27;have hx:∃n,zi3 S t B n ρ st≠.bad:=by
   apply Classical.byContradiction;intro h;unfold sWhile at w;rw[dif_neg h] at w;exact w
  obtain⟨n,hn⟩:=hx;rw[sWhile_eq hn] at w;refine⟨fun m σ2 H2=>∃ρ2 st2,Rep c H2 σ2 ρ2/\W.ok st2 H2/\wpR (zi3 S t B m ρ2 st2) (EndOk c D σ2 ρ2 H2) (ExOk c),⟨n,ρ,st,R,ok,w⟩,?_⟩;rintro m σ2 H2 ⟨ρ2,st2,R2,ok2,w2⟩;cases m with
  | zero=>exact w2.elim
  | succ m=>
    refine⟨ρ2,st2,R2,ok2,za6 (za3.mp w2) (fun b st3 q3 H3 x3 ok3=>?_) fun x st3 q H3 x3 ok3=>q H3 (x3.f0 R2) ok3⟩;have R3:=R2.ext ok2 x3;cases b with
    | false=>exact q3 σ2 H3 x3.frm ok3 R3
    | true=>
      refine iteT ?_;refine⟨fun σ4 H4=>∃ρ4 st4,Rep c H4 σ4 ρ4/\W.ok st4 H4/\wpR (zi3 S t B m ρ4 st4) (EndOk c D σ4 ρ4 H4) (ExOk c),fun σ4 H4 q=>⟨m,Nat.lt_succ_self m,q⟩,ρ2,st3,R3,ok3,za6 (za3.mp q3) (fun fl st4 q4=>?_) fun x st4 q=>q⟩;have nxt:∀ρ5,wpR (zi3 S t B m ρ5 st4) (EndOk c D σ2 ρ2 H2) (ExOk c)->Nx c (fun σ4 H4=>∃ρ4 st4,Rep c H4 σ4 ρ4/\W.ok st4 H4/\wpR (zi3 S t B m ρ4 st4) (EndOk c D σ4 ρ4 H4) (ExOk c)) σ2 ρ2 H3 ρ5 st4:=
       fun ρ5 q5 σ5 H5 F5 ok5 R5=>⟨ρ5,st4,R5,ok5,za6 q5 (fun fl st6 q=>q.from (x3.frm.trans F5)) fun x st6 q=>q⟩
      cases fl with
      | nx ρ5=>exact nxt ρ5 q4
      | ct ρ5=>exact nxt ρ5 q4
      | bk ρ5=>exact fun σ5 H5 F5 ok5 R5=>q4 σ5 H5 (x3.frm.trans F5) ok5 R5
      | rt d=>exact q4
end
end L2
end
section
namespace L2
open PySem PySem.Spec PyProof.Rows
noncomputable def rho0 (n:Nat) (l:List D):Rho:=l.map Sl.bor++List.replicate (n-l.length) .no
noncomputable def rhoS (n:Nat) (l:List D):Rho:=Sl.hnd::(l.map Sl.bor++List.replicate (n-1-l.length) .no)
noncomputable def endR {S:Type} (r:Res S Fl):Res S D:=match r with
 | .ok (.rt d) st=>.ok d st
 | .ok (.nx _) st=>.ok .non st
 | .ok _ _=>.bad
 | .exc x st=>.exc x st
 | .bad=>.bad
noncomputable def dfn (n p:Nat) (B:FnS Unit):List D->Res Unit D:=fun l=>if l.length=p/\p<=n then endR (B (rho0 n l) ()) else .bad
noncomputable def dfnS {S:Type} (n p:Nat) (B:FnS S):List D->S->Res S D:=fun l st=>if l.length+1=p/\p<=n then endR (B (rhoS n l) st) else .bad
noncomputable abbrev cx0 (K:PySem.W.Frag) (H:Hp):Dx W0:=⟨K,H,fun _ _ _=>False,fun _=>False⟩
noncomputable abbrev cxS {S:Type} (W:Wd S) (K:PySem.W.Frag) (H:Hp):Dx W:=⟨K,H,fun _ _ _=>False,fun _=>False⟩
theorem rho0_slot {n:Nat} {l:List D} {i:Nat} {s:Sl} (h:(rho0 n l)[i]?=some s):(∃d,s=.bor d/\l[i]?=some d)\/s=.no:=by
 unfold rho0 at h;by_cases hi:i<l.length
 ·rw[List.getElem?_append_left (by rw[List.length_map];exact hi),List.getElem?_map] at h
  cases q:l[i]? with
  | none=>rw[q] at h;cases h
  | some d=>rw[q] at h;cases h;exact .inl ⟨d,rfl,rfl⟩
 ·rw[List.getElem?_append_right (by rw[List.length_map];omega),List.getElem?_replicate] at h
  split at h
  ·cases h;exact .inr rfl
  ·cases h
theorem start_get {N:List Str} {vs:List V} {i:Nat} {v:V} (h:vs[i]?=some v):(start N vs)[i]?=some (some v):=by
 unfold start;have hi:i<vs.length:=(List.getElem?_eq_some_iff.mp h).1;rw[List.getElem?_append_left (by rw[List.length_map];exact hi),List.getElem?_map,h];rfl
set_option tactic.hygienic true in
theorem rep_start {K:PySem.W.Frag} {H:Hp} {N:List Str} {l:List D} {vs:List V} (hl:l.length<=N.length) (h:IsL K (fun _=>True) H l vs):Rep (cx0 K H) H (start N vs) (rho0 N.length l):=by
 have no:∀b,¬Ow (start N vs) (rho0 N.length l) b:=fun b hI28=>by
  obtain⟨i,d,h1,_⟩:=hI28;rcases rho0_slot h1 with⟨_,z,_⟩ | z<;>cases z
 refine⟨?_,fun b o e _=>e,fun i s hs=>?_,fun b z=>z.elim,fun i j a d e h1 _ _ _=>?_⟩
 ·unfold start rho0
  rw[List.length_append,List.length_append,List.length_map,List.length_map,List.length_replicate,List.length_replicate,h.length]
 ·rcases rho0_slot hs with⟨d,rfl,hd⟩ | rfl
  ·obtain⟨v,hv,iv⟩:=h.get hd
   exact⟨v,by rw[start_get hv];rfl,iv.mono ⟨fun _ _ z _=>z,fun b o _ z=>⟨⟨fun m=>m,no b,fun m=>m⟩,z⟩⟩⟩
  ·trivial
 ·rcases rho0_slot h1 with⟨_,z,_⟩ | z<;>cases z
section
variable {P:Program} {w:World} {K:PySem.W.Frag} {mg:Str->Option Value} {base:Heap}
set_option tactic.hygienic true in
theorem Fun.d0 {x qual:Str} {st:Stmt} {f:Addr} {fd:FuncData} {N ps:List Str} {k:Nat} {B:FnS Unit} (F:Fun K x qual st f fd) (S:zc0 N ps (za1 st))
 (hb:∀(cdv:Value) (A:Around) (outer:List Env) (s:Shared) (H:Hp) (E:XK),Room k (A.deeper (envOfC qual (za1 st) s.heap.objs.size f cdv))->
  DSs (cxOf CX0 P w K mg base N qual (za1 st) f cdv A outer s H E).nox (cx0 K H) (zb7 st) B):FnOk P w K mg base CX0 (k+1) f fd ps (sp0 K (dfn N.length ps.length B)):=by
 refine F.ok S (fun vs H Q E h=>?_) fun cdv A outer s H vs Q E hr h=>?_
 ·obtain⟨l,i,w⟩:=h
  unfold dfn at w;split at w
  ·rename_i hl
   rw[<-i.length];exact hl.1
  ·exact w.elim
 ·obtain⟨l,i,w⟩:=h
  unfold dfn at w;split at w
  ·rename_i hl
   refine⟨_,hb cdv A outer s H E hr,rho0 N.length l,(),rep_start (by omega) i,trivial,?_⟩;cases q:B (rho0 N.length l) () with
   | bad=>rw[q] at w;exact w.elim
   | exc x u=>rw[q] at w;exact w.elim
   | ok fl u=>
     rw[q] at w;have fin:∀d v H',F0 (cx0 K H) H'->Is K (fun b=>¬W0.mv b/\H b=none) H' d v->(∀v H',Same H H'->Is K (fun b=>H b=none) H' d v->Q v H')->Q v H':=fun d v H' f0 z q=>
      q v H' (fun b o e=>f0 b o e fun m=>m) (z.mono ⟨fun _ _ z _=>z,fun b o a z=>⟨a.2,z⟩⟩)
     cases fl with
     | rt d=>exact fun v H' f0 _ z=>fin d v H' f0 z w
     | nx ρ=>exact fun σ' H' fr _ R'=>fin .non .non H' (fun b o e n=>R'.frame b o e n) (Is.non_iff.mpr rfl) w
     | bk ρ=>exact w.elim
     | ct ρ=>exact w.elim
  ·exact w.elim
set_option tactic.hygienic true in
theorem Fun.dS {Sx:Type} {W:Wd Sx} {x qual:Str} {st:Stmt} {f:Addr} {fd:FuncData} {N ps:List Str} {k:Nat} {B:FnS Sx} (F:Fun K x qual st f fd) (S:zc0 N ps (za1 st))
 (hb:∀(cdv:Value) (A:Around) (outer:List Env) (s:Shared) (H:Hp) (E:XK),Room k (A.deeper (envOfC qual (za1 st) s.heap.objs.size f cdv))->
  DSs (cxOf CX0 P w K mg base N qual (za1 st) f cdv A outer s H E).nox (cxS W K H) (zb7 st) B):FnOk P w K mg base CX0 (k+1) f fd ps (spS W K (dfnS N.length ps.length B)):=by
 refine F.ok S (fun vs H Q E h=>?_) fun cdv A outer s H vs Q E hr h=>?_
 ·obtain⟨l,us,st0,rfl,i,ok,w⟩:=h
  unfold dfnS at w;split at w
  ·rename_i hl
   rw[List.length_cons,<-i.length];exact hl.1
  ·exact w.elim
 ·obtain⟨l,us,st0,rfl,i,ok,w⟩:=h
  unfold dfnS at w;split at w
  ·rename_i hl
   have no:∀b,¬Ow (start N (W.h::us)) (rhoS N.length l) b:=fun b hI29=>by
    obtain⟨j,d,h1,_⟩:=hI29;unfold rhoS at h1;cases j with
    | zero=>cases h1
    | succ j=>
      have h1:(l.map Sl.bor++List.replicate (N.length-1-l.length) .no)[j]?=some (.own d):=by simpa using h1
      rcases rho0_slot (n:=N.length-1) h1 with⟨_,z,_⟩ | z<;>cases z
   have R:Rep (cxS W K H) H (start N (W.h::us)) (rhoS N.length l):=by
    refine⟨?_,fun b o e _=>e,fun j s hs=>?_,fun b z=>z.elim,fun j j' a d e h1 _ h3 _=>(no a ⟨j,d,h1,h3⟩).elim⟩
    ·unfold start rhoS
     simp only[List.length_append,List.length_cons,List.length_map,List.length_replicate];have:=i.length;omega
    ·unfold rhoS at hs
     cases j with
     | zero=>cases hs;exact by rw[start_get (v:=W.h) rfl];rfl
     | succ j=>
       have hs:(l.map Sl.bor++List.replicate (N.length-1-l.length) .no)[j]?=some s:=by simpa using hs
       rcases rho0_slot (n:=N.length-1) hs with⟨d,rfl,hd⟩ | rfl
       ·obtain⟨v,hv,iv⟩:=i.get hd
        exact⟨v,by rw[start_get (v:=v) (by simpa using hv)];rfl,iv.mono ⟨fun _ _ z _=>z,fun b o a z=>⟨⟨a,no b,fun m=>m⟩,z⟩⟩⟩
       ·trivial
   refine⟨_,hb cdv A outer s H E hr,rhoS N.length l,st0,R,ok,?_⟩;cases q:B (rhoS N.length l) st0 with
   | bad=>rw[q] at w;exact w.elim
   | exc x u=>rw[q] at w;exact w.elim
   | ok fl u=>
     rw[q] at w;cases fl with
     | rt d=>exact fun v H' f0 ok' z=>w v H' f0 ok' z
     | nx ρ=>exact fun σ' H' fr ok' R'=>w .non H' (fun b o e n=>R'.frame b o e n) ok' (Is.non_iff.mpr rfl)
     | bk ρ=>exact w.elim
     | ct ρ=>exact w.elim
  ·exact w.elim
end
structure zc4 (P:Program) (w:World) (K:PySem.W.Frag) (mg:Str->Option Value) (base:Heap) (k:Nat) (x:Str) (ps:List Str) (sp:Sp):Prop where
 ex:∃f fd,mg x=some (.ref f)/\PySem.W.keepIn K (.ref f)=true/\Binds K fd ps []/\FnOk P w K mg base CX0 k f fd ps sp
section
variable {X:Cx} {S:Type} {W:Wd S} {c:Dx W} {g:Gr} {k:Nat} {x:Str} {ps:List Str} {p pos:Pos} {e:Expr} {es:List Expr}
theorem zc2 {G:List D->Res Unit D} {f:FnA S} (C:zc4 X.prog X.w X.K X.mg X.base k x ps (sp0 c.K G)) (hr:Room k X.A) (hg:Gl X x) (ha:DA X c (e::es) f) (hdb:(x == ("__debug__" : Str))=false:=by decide)
 (he:starEach (e::es) X.env=(false,eval e X.env)::starEach es X.env:=by rfl) (hpl:(backTo pos (starEach es X.env)).any (·.1)=false:=by rfl):DE X c g (.Call (.Name x p) (e::es) [] pos) (fCall S G f):=by
 obtain⟨fa,fd,hm,hk,hb,F⟩:=C.ex;exact(pe_call (E:=E0) F hr hg hm hk hb .nil pass0 ha hdb he hpl).imp fun σ H Q q=>tD_call0 q
theorem ze8 {G:List D->S->Res S D} {f:FnA S} {i:Nat} {y:Str} {py:Pos} (C:zc4 X.prog X.w X.K X.mg X.base k x ps (spS W c.K G)) (hr:Room k X.A) (hg:Gl X x) (hy:PE X (.Name y py) (tVar i)) (ha:DA X c es f) (hdb:(x == ("__debug__" : Str))=false:=by decide)
 (he:starEach (.Name y py::es) X.env=(false,eval (.Name y py) X.env)::starEach es X.env:=by rfl) (hpl:(backTo pos (starEach es X.env)).any (·.1)=false:=by rfl):DE X c g (.Call (.Name x p) (.Name y py::es) [] pos) (fCallS S G i f):=by
 obtain⟨fa,fd,hm,hk,hb,F⟩:=C.ex;exact(pe_call (E:=E0) F hr hg hm hk hb .nil pass0 (zb9 hy ha he) hdb he hpl).imp fun σ H Q q=>tD_callS q
end
end L2
end
section
namespace L2
open PySem PySem.Spec PyProof.Rows
section
variable {S:Type} {W:Wd S} {c:Dx W}
theorem new_int {H H':Hp} {i:Int}:New c H H' (.int i) (.int i):=Is.int_iff.mpr rfl
theorem zp1 {H H':Hp} {i:Bool}:New c H H' (.bl i) (.bl i):=Is.bl_iff.mpr rfl
noncomputable def iOp (C:Int->Int->Prop) [∀i j,Decidable (C i j)] (g:Int->Int->D):D->D->Option D
 | .int i,.int j=>if C i j then some (g i j) else none
 | _,_=>none
noncomputable def iOp0 (g:Int->Int->D):D->D->Option D
 | .int i,.int j=>some (g i j)
 | _,_=>none
set_option tactic.hygienic true in
theorem od_I {C:Int->Int->Prop} [∀i j,Decidable (C i j)] {g:Int->Int->Int}:OpD c (rI C fun i j=>.int (g i j)) (iOp C fun i j=>.int (g i j)):=by
 intro d1 d2 v1 v2 H st d Q ok z1 z2 e q;unfold iOp at e;split at e
 ·rename_i i j
  split at e
  ·rename_i h
   cases e;exact⟨i,j,Is.int_iff.mp z1,Is.int_iff.mp z2,h,q _ H Ext.refl ok new_int⟩
  ·cases e
 ·cases e
set_option tactic.hygienic true in
theorem od_I0 {g:Int->Int->Int}:OpD c (rI0 fun i j=>.int (g i j)) (iOp0 fun i j=>.int (g i j)):=by
 intro d1 d2 v1 v2 H st d Q ok z1 z2 e q;unfold iOp0 at e;split at e
 ·rename_i i j
  cases e;exact⟨i,j,Is.int_iff.mp z1,Is.int_iff.mp z2,q _ H Ext.refl ok new_int⟩
 ·cases e
set_option tactic.hygienic true in
theorem od_B0 {g:Int->Int->Bool}:OpD c (rI0 fun i j=>.bl (g i j)) (iOp0 fun i j=>.bl (g i j)):=by
 intro d1 d2 v1 v2 H st d Q ok z1 z2 e q;unfold iOp0 at e;split at e
 ·rename_i i j
  cases e;exact⟨i,j,Is.int_iff.mp z1,Is.int_iff.mp z2,q _ H Ext.refl ok zp1⟩
 ·cases e
theorem OpD.or {r r':R2} {o o':D->D->Option D} (h:OpD c r o) (h':OpD c r' o'):OpD c (fun x y H Q=>r x y H Q\/r' x y H Q) (fun a b=>(o a b).or (o' a b)):=by
 intro d1 d2 v1 v2 H st d Q ok z1 z2 e q;cases e1:o d1 d2 with
 | some d'=>
   have e:some d'=some d:=by simpa [e1] using e
   cases e;exact .inl (h d1 d2 v1 v2 H st d Q ok z1 z2 e1 q)
 | none=>
   have e:o' d1 d2=some d:=by simpa [e1] using e
   exact .inr (h' d1 d2 v1 v2 H st d Q ok z1 z2 e q)
noncomputable instance (i j:Int):Decidable (CDiv i j):=by unfold CDiv;infer_instance
noncomputable instance (i j:Int):Decidable (CMul i j):=by unfold CMul;infer_instance
noncomputable instance (i j:Int):Decidable (CPow i j):=by unfold CPow;infer_instance
noncomputable instance (i j:Int):Decidable (CDivN i j):=by unfold CDivN;infer_instance
noncomputable def oIx:D->D->Option D
 | .tup l,.int i=>im (atI l i)
 | .lst l,.int i=>im (atI l i)
 | _,_=>none
theorem atI_is {K:PySem.W.Frag} {A:Addr->Prop} {H:Hp} {l:List D} {vs:List V} {i:Int} {d:D} (z:IsL K A H l vs) (h:atI l i=some d):∃v,atI vs i=some v/\Is K A H d v:=by
 unfold atI at h ⊢;rw[<-z.length];cases q:ixN l.length i with
 | none=>rw[q] at h;cases h
 | some j=>
   rw[q] at h;exact z.get (i:=j) h
theorem im_some {o:Option D} {d:D} (h:im o=some d):o=some d/\d.imm=true:=by
 cases o with
 | none=>cases h
 | some x=>
   have h:(if x.imm=true then some x else none)=some d:=h;split at h
   ·cases h;exact⟨rfl,by assumption⟩
   ·cases h
set_option tactic.hygienic true in
theorem od_ix {K:PySem.W.Frag} (hK:c.K=K):OpD c (rIx K) oIx:=by
 intro d1 d2 v1 v2 H st d Q ok z1 z2 e q;unfold oIx at e;split at e
 ·rename_i l i
  obtain⟨a,vs,ea,s,z⟩:=Is.tup_sq z1;obtain⟨e,m⟩:=im_some e;obtain⟨v,hv,iv⟩:=atI_is z e;exact .inr (.inl ⟨a,vs,i,v,ea,Is.int_iff.mp z2,hK▸s,hv,q v H Ext.refl ok (New.imm m iv)⟩)
 ·rename_i l i
  obtain⟨a,vs,ea,n,s,z⟩:=Is.lst_iff.mp z1;obtain⟨e,m⟩:=im_some e;obtain⟨v,hv,iv⟩:=atI_is z e;exact .inl ⟨a,vs,i,v,ea,Is.int_iff.mp z2,.of s,hv,q v H Ext.refl ok (New.imm m iv)⟩
 ·cases e
end
section
variable {X:Cx} {S:Type} {W:Wd S} {c:Dx W} {H H':Hp} {σ:St} {ρ:Rho} {st:S} {i:Nat} {d d':D} {a:Addr} {o:HO}
set_option tactic.hygienic true in
theorem ow_same (hi:ρ[i]?=some (.own d)) (b:Addr):Ow σ (ρ.set i (.own d')) b↔Ow σ ρ b:=by
 have hlt:i<ρ.length:=(List.getElem?_eq_some_iff.mp hi).1;constructor
 ·rintro ⟨j,e,h1,h2⟩
  rcases zb1 h1 with⟨m,_⟩ | ⟨_,z⟩
  ·subst m;exact⟨j,d,hi,h2⟩
  ·exact⟨j,e,z,h2⟩
 ·rintro ⟨j,e,h1,h2⟩
  by_cases m:j=i
  ·subst m;exact⟨j,d',List.getElem?_set_self hlt,h2⟩
  ·exact⟨j,e,by rw[List.getElem?_set_ne (Ne.symm m)];exact h1,h2⟩
set_option tactic.hygienic true in
theorem Rep.wr (R:Rep c H σ ρ) (hi:ρ[i]?=some (.own d)) (ha:σ[i]?=some (some (.ref a))) (ht:(∀u,o≠.tup u)/\∀ob u,o≠.frz ob u)
 (h:KeepT (Av c σ ρ) (Av c σ ρ) H (upd H a o)->Top c.K (Av c σ ρ) (upd H a o) d' a):Rep c (upd H a o) σ (ρ.set i (.own d'))/\Frm c H σ ρ (upd H a o) σ (ρ.set i (.own d')):=by
 have hlt:i<ρ.length:=(List.getElem?_eq_some_iff.mp hi).1;have wa:Ow σ ρ a:=⟨i,d,hi,ha⟩;obtain⟨nm,h0,o1,ho,n1,n2⟩:=R.owOk wa;have k:KeepT (Av c σ ρ) (Av c σ ρ) H (upd H a o):=zi2 (fun b u e t=>by
  have hb:b≠a:=fun z=>by
   subst z;rw[ho] at e;cases e;rcases t with⟨w,z⟩ | ⟨ob,w,z⟩
   ·exact n1 w z
   ·exact n2 ob w z
  rw[za9 hb];exact e) fun b u av e=>⟨av,by rw[za9 (fun (z:b=a)=>av.2.1 (z▸wa))];exact e⟩
 have avEq:Av c σ (ρ.set i (.own d'))=Av c σ ρ:=by
  funext b;unfold Av;rw[ow_same (σ:=σ) (d':=d') hi b]
 have T:=h k;refine⟨⟨by rw[List.length_set];exact R.len,fun b u e n=>?_,fun j s hs=>?_,fun b hb=>?_,fun j j' b e e' h1 h2 h3 h4=>?_⟩,⟨fun b u e n w=>?_,fun b u e n w=>(ow_same hi b).mp w⟩⟩
 ·have hb:b≠a:=fun z=>by subst z;rw[show c.H0 b=none from h0] at e;cases e
  rw[za9 hb];exact R.frame b u e n
 ·rw[avEq]
  rcases zb1 hs with⟨m,z⟩ | ⟨nj,z⟩
  ·subst z m
   obtain⟨b,e1,n,f,t⟩:=R.slot j _ hi;rw[ha] at e1;have e1:some (V.ref a)=some (V.ref b):=e1;cases e1;exact⟨a,by rw[ha];rfl,n,f,T⟩
  ·have q:=R.slot j s z
   cases s with
   | no=>trivial
   | bor e=>obtain⟨v',e1,i1⟩:=q;exact⟨v',e1,i1.mono k⟩
   | own e=>
     obtain⟨b,e1,n,f,t⟩:=q;have hb:b≠a:=fun z'=>by
      subst z';exact nj (R.uniq j i b e d z hi (zi8 e1) ha)
     exact⟨b,e1,n,f,t.mono k fun u z=>by rw[za9 hb];exact z⟩
   | hnd=>exact q
 ·obtain⟨n,z,u,h',q⟩:=R.avl b hb
  have hba:b≠a:=fun z'=>by
   subst z';obtain⟨b',e1,n',_⟩:=R.slot i _ hi;rw[ha] at e1;have e1:some (V.ref b)=some (V.ref b'):=e1;cases e1;exact n'.2 hb
  exact⟨n,z,u,by rw[za9 hba];exact h',q⟩
 ·have fix:∀(j:Nat) (e:D),(ρ.set i (.own d'))[j]?=some (.own e)->∃e',ρ[j]?=some (.own e'):=fun j e h1=>by
   rcases zb1 h1 with⟨m,_⟩ | ⟨_,z⟩
   ·subst m;exact⟨d,hi⟩
   ·exact⟨e,z⟩
  obtain⟨x1,y1⟩:=fix j e h1;obtain⟨x2,y2⟩:=fix j' e' h2;exact R.uniq j j' b x1 x2 y1 y2 h3 h4
 ·have hb:b≠a:=fun z=>w (z▸wa)
  rw[za9 hb];exact e
noncomputable def lstOf (ρ:Rho) (i:Nat):Option (List D):=match ρ[i]? with
 | some (.own (.lst l))=>if D.immL l=true then some l else none
 | _=>none
theorem lstOf_imm {l:List D} (h:lstOf ρ i=some l):ρ[i]?=some (.own (.lst l))/\D.immL l=true:=by
 unfold lstOf at h;split at h
 ·split at h
  ·cases h;exact⟨by assumption,by assumption⟩
  ·cases h
 ·cases h
theorem lstOf_some {l:List D} (h:lstOf ρ i=some l):ρ[i]?=some (.own (.lst l)):=(lstOf_imm h).1
theorem Rep.lstAt {l:List D} (R:Rep c H σ ρ) (h:lstOf ρ i=some l):∃a vs,σ[i]?=some (some (.ref a))/\H a=some (.lst vs)/\IsL c.K (Av c σ ρ) H l vs/\¬W.mv a:=by
 obtain⟨a,e1,n,f,vs,e2,z⟩:=R.slot i _ (lstOf_some h);exact⟨a,vs,zi8 e1,e2,z,n.1⟩
theorem ok_upd {a:Addr} {o:HO} (ok:W.ok st H) (n:¬W.mv a):W.ok st (upd H a o):=W.stay st H _ ok fun b u m e=>by rw[za9 (fun (z:b=a)=>n (z▸m))];exact e
noncomputable def sMt (S:Type) (i:Nat) (o:List D->D->Option (List D)) (f:Fn S):FnS S:=fun ρ st=>match lstOf ρ i with
 | some l=>(f ρ st).bind fun d st1=>(lift (o l d) st1).bind fun l' st2=>.ok (.nx (ρ.set i (.own (.lst l')))) st2
 | none=>.bad
noncomputable def MtD {S:Type} {W:Wd S} (c:Dx W) (r:V->List V->Hp->VK->Prop) (o:List D->D->Option (List D)):Prop:=∀l d l' a vs v H (Q:VK),o l d=some l'->H a=some (.lst vs)->IsL c.K (fun b=>¬W.mv b) H l vs->Is c.K (fun b=>¬W.mv b) H d v->
 (∀us,(D.immL l=true->D.immL l'=true/\IsL c.K (fun b=>¬W.mv b) H l' us)->Q .non (upd H a (.lst us)))->r (.ref a) [v] H Q
theorem ds_mt {x m:Str} {id:String} {e:Expr} {f:Fn S} {p1 p2 p3 p4:Pos} {r:V->List V->Hp->VK->Prop} {o:List D->D->Option (List D)} (hm:MtR X id r) (ho:MtD c r o) (slot:Slot "list" m id) (hty:typeOf (.builtin id)=pure (.type "method_descriptor")) (hx:PE X (.Name x p1) (tVar i)) (he:DE X c .R e f) (hK:c.K=X.K)
 (hbase:attributeBase (.Name x p1) m X.env (eval (.Name x p1) X.env)=eval (.Name x p1) X.env:=by rfl)
 (hfew:((backTo p3 (starEach [e] X.env)).all (fun x=>!x.1)&&(backToKw p3 (keywordEach [] X.env)).all (fun x=>x.1.isSome)
  && decide (([e]:List Expr).length+([]:List Keyword).length+(if ([]:List Keyword).isEmpty then 0 else 1)<30))=true:=by rfl)
 (hline:(p2.endLine == p3.line)=true:=by rfl) (hs:starEach [e] X.env=(false,eval e X.env)::starEach [] X.env:=by rfl) (hplain:(backTo p3 (starEach [] X.env)).any (·.1)=false:=by rfl) (hsw:swapsWith (.Call (.Attribute (.Name x p1) m p2) [e] [] p3) none p4.line X.env=pure false:=by rfl) :
 DS X c (.Expr (.Call (.Attribute (.Name x p1) m p2) [e] [] p3) p4) (sMt S i o f):=
 (ps_expr (pe_bm PySem.F.plainAttrs_list slot hty hm hx (zb9 he zh1 hs) hbase hfew hline hs hplain) hsw).imp fun D σ H hI30=>by
  obtain⟨ρ,st,R,ok,w⟩:=hI30;unfold sMt at w;cases q:lstOf ρ i with
  | none=>rw[q] at w;exact w.elim
  | some l=>
    rw[q] at w;obtain⟨a,vs,ea,eH,z,nm⟩:=R.lstAt q;refine⟨.ref a,ea,.inl ⟨rfl,vs,.of eH⟩,ρ,st,R,ok,za6 (za3.mp w) (fun d st1 q v H1 e ok1 zv=>?_) fun x st1 q H1 e ok1=>q H1 (e.f0 R) ok1⟩;obtain⟨l',e',q'⟩:=zb6.mp (za3.mp q);have R1:=R.ext ok e;have eH1:=e a _ eH nm;have kA:KeepT (Av c σ ρ) (fun b=>¬W.mv b) H1 H1:=⟨fun _ _ z _=>z,fun b o a z=>⟨a.1,z⟩⟩;refine ho l d l' a vs v H1 _ e' eH1 (IsL.mono kA (z.mono (e.keepT ok fun b a=>⟨a.1,a⟩))) zv fun us hus=>?_
    obtain⟨m',z'⟩:=hus (lstOf_imm (by assumption)).2;obtain⟨R2,F2⟩:=R1.wr (d':=.lst l') (o:=.lst us) (lstOf_some (by assumption)) ea ⟨(fun u z=>by cases z),(fun ob u z=>by cases z)⟩ fun k=>⟨us,zb4,IsL.mono k (IsL.ofImm m' z')⟩
    exact q' σ _ (e.frm.trans F2) (ok_upd ok1 nm) R2
noncomputable def oApp (l:List D) (d:D):Option (List D):=if d.imm=true/\l.length<sizeLine then some (l++[d]) else none
noncomputable def oExt (l:List D) (d:D):Option (List D):=match d with
 | .lst m=>if D.immL m=true/\l.length+m.length<=sizeLine then some (l++m) else none
 | _=>none
set_option tactic.hygienic true in
theorem zn5:MtD c rAppend oApp:=by
 intro l d l' a vs v H Q e eH z zv q;unfold oApp at e;split at e
 ·rename_i h
  cases e;refine⟨a,vs,v,rfl,rfl,eH,by rw[<-z.length];exact h.2,q _ fun m=>⟨zg4 m (by simp[D.immL,h.1]),z.append (IsL.one zv)⟩⟩
 ·cases e
set_option tactic.hygienic true in
theorem md_extend:MtD c rExtend oExt:=by
 intro l d l' a vs v H Q e eH z zv q;unfold oExt at e;split at e
 ·rename_i n
  split at e
  ·rename_i h
   cases e;obtain⟨b,us,eb,nb,hb,zb⟩:=Is.lst_iff.mp zv;subst eb;refine⟨a,b,vs,us,rfl,rfl,eH,hb,by rw[<-z.length,<-zb.length];exact h.2,q _ fun m=>⟨zg4 m h.1,z.append zb⟩⟩
  ·cases e
 ·cases e
end
end L2
end
section
namespace L2
open PySem PySem.Spec PyProof.Rows
noncomputable def zl8 (N:List Str) (osc:Scope) (N':List Str) (ixs:List (Option Nat)) (scope:Scope):Bool:=
 decide (scope.kind=.function)&&scope.names.all (fun y=>decide (y.2≠.cell))&&scope.names.all (fun y=>decide (y.2=.local->scope.names.lookup y.1=some .local))&&decide (ixs.length=N'.length) &&
 scope.names.all (fun y=>decide (y.2=.free->osc.names.lookup y.1=some .cell\/osc.names.lookup y.1=some .free)) &&
 (List.range N'.length).all (fun j=>match N'[j]?,ixs[j]? with
  | some y,some (some i)=>decide (N[i]?=some y)&&decide (scope.names.lookup y=some .free)
  | _,_=>true)
theorem zl8.scope {X:Cx} {N:List Str} {osc:Scope} {N':List Str} {ixs:List (Option Nat)} {scope:Scope} (h:zl8 N osc N' ixs scope=true) (hN:X.N=N:=by rfl) (hS:X.env.scope=osc:=by rfl):zl4 X N' ixs scope:=by
 unfold zl8 at h;simp only[Bool.and_eq_true,decide_eq_true_eq,List.all_eq_true] at h;obtain⟨⟨⟨⟨⟨h1,h2⟩,h3⟩,h4⟩,h5⟩,h6⟩:=h;refine⟨h1,h2,h3,h4,fun y hy hf=>by rw[hS];exact h5 y hy hf,fun j i y e1 e2=>?_⟩;have hj:j<N'.length:=(List.getElem?_eq_some_iff.mp e1).1;have q:=h6 j (List.mem_range.mpr hj);rw[e1,e2] at q;simp only[Bool.and_eq_true,decide_eq_true_eq] at q;exact⟨by rw[hN];exact q.1,q.2⟩
end L2
end
section
namespace PySem
open AutoSeq1 (wpAny_loadPart')
set_option tactic.hygienic true in
theorem meets_enum_tup (l:Addr) (items:Array Value) (n:Nat) (dct:Option Addr) (sl:Array (Option Value)) :
 Meets (Builtin.«enumerate.__new__» ⟨[.type "enumerate",.ref l],[]⟩) (fun _ R s=>s.heap.get? l=some { cls:=.type "tuple",dict:=dct,data:=.seq items n,slots:=sl }/\
  R (.ok (.ret (.ref (s.heap.push { cls:=.type "tuple_iterator",data:=.fields #[.ref l,.int 0 0] }).objs.size)))
    { s with heap:=(s.heap.push { cls:=.type "tuple_iterator",data:=.fields #[.ref l,.int 0 0] }).push { cls:=.type "enumerate",data:=.fields #[.none,.bool false,.ref s.heap.objs.size,rawInt 0,.none,.none] } }):=
 .of_wp fun prog w A R s h=>by
  obtain⟨hp,g,d,tk,os⟩:=s;obtain⟨hl,h⟩:=h;have hsub:=sub_enumerate;have hT:Heap.IsTuple (Shared.heap ⟨hp,g,d,tk,os⟩) l items:=⟨_,hl,rfl,n,rfl⟩
  wp_walk using wpAny_loadPart' hl
  refine wpAny_stack_any fun st=>wpAny_pure ?_
  split
  ·rename_i c _ _ _ _ _
   cases (c == Value.type "enumerate")<;>(wp_walk using wpAny_loadPart' hl,wpAny_pyIter_tuple hT;exact⟨_,rfl,h⟩)
  ·(wp_walk using wpAny_loadPart' hl,wpAny_pyIter_tuple hT;exact⟨_,rfl,h⟩)
end PySem
end
section
namespace PySem
section
variable {prog:Program} {w:World} {A:Around} {E:Value->Shared->Prop} {s:Shared}
theorem call_enum_tup {l:Addr} {items:Array Value} {Q:Value->Shared->Prop} (hL:s.heap.IsTuple l items)
 (h:∀h',IsEnum h' (s.heap.objs.size+1) s.heap.objs.size 0 .none->h'.IsTupleIter s.heap.objs.size l 0->(∀b o,s.heap.get? b=some o->h'.get? b=some o)->Q (.ref (s.heap.objs.size+1)) { s with heap:=h' }) :
 wpAny (model prog w) A (call (.type "enumerate") [.ref l]) Q E s:=by
 obtain⟨⟨c,dct,dt,sl⟩,hl,hc,n,hd⟩:=hL;have hc:c=.type "tuple":=hc;have hd:dt=.seq items n:=hd;subst hc hd;refine callType_new F.called_enumerate (by decide) (F.typeCall_enumerate_1 _) (F.newCall_enumerate_1 _) (fun obj=>F.args_object_init_2 obj _) F.entry_enumerate_new (meets_enum_tup l items n dct sl) ⟨hl,?_⟩;generalize hg:s.heap.push { cls:=.type "tuple_iterator",data:=.fields #[.ref l,.int 0 0] }=g;have hz:g.objs.size=s.heap.objs.size+1:=by rw[<-hg];exact Heap.size_push ..
 have he:IsEnum (g.push { cls:=.type "enumerate",data:=.fields #[.none,.bool false,.ref s.heap.objs.size,rawInt 0,.none,.none] }) (s.heap.objs.size+1) s.heap.objs.size 0 .none:=by
  have:=Heap.get?_push_size g (o:={ cls:=.type "enumerate",data:=.fields #[.none,.bool false,.ref s.heap.objs.size,rawInt 0,.none,.none] }) rfl;rw[hz] at this;exact this
 have hi:g.get? s.heap.objs.size=some { cls:=.type "tuple_iterator",data:=.fields #[.ref l,.int 0 0] }:=by rw[<-hg];exact Heap.get?_push_size _ rfl
 show _/\_;rw[hz];exact⟨⟨_,he,rfl⟩,h _ he ⟨_,Heap.get?_push_of_some _ hi,rfl,rfl⟩ fun b o x=>Heap.get?_push_of_some _ (by rw[<-hg];exact Heap.get?_push_of_some _ x)⟩
set_option tactic.hygienic true in
theorem zn4 {it l:Addr} {i:Nat} {items:Array Value} {x:Value} {Q:Value->Shared->Prop} (hit:s.heap.IsTupleIter it l i) (hl:s.heap.IsTuple l items) (hx:items[i]?=some x)
 (hQ:∀h',h'.IsTupleIter it l (i+1)->Heap.SameBut it s.heap h'->Q x { s with heap:=h' }):wpAny (model prog w) A (Builtin.SmallTypes.nextOf (.ref it)) Q E s:=by
 obtain⟨o,ho,hc,hd⟩:=id hit;obtain⟨ol,hol,_,nl,hdl⟩:=hl;unfold Builtin.SmallTypes.nextOf;refine wpAny_bind (wpAny_callSpecial?_slot (name:=Str.ofString "__next__") hit.typeIs F.slot_tuple_iterator_next (wpAny_call_entry F.slot_tuple_iterator_next hit.typeIs F.entry_tuple_iterator_next ?_ (F.args_tuple_iterator_next_1 _)));show wpAny _ _ (field (.ref it) 0 >>= fun _=>_) _ _ s;refine wpAny_bind (wpAny_field ho hd (x:=.ref l) rfl ?_);show wpAny _ _ (if (Value.ref l == Value.none)=true then _ else _) _ _ s;have nn:¬(Value.ref l == Value.none)=true:=Bool.false_ne_true;rw[if_neg nn];refine wpAny_bind (m:=field (.ref it) 1) (wpAny_field ho hd (x:=.int i 0) rfl ?_);refine wpAny_bind (m:=seqItems? (.ref l)) (wpAny_seqItems hol hdl ?_);simp only[Int.toNat_natCast,hx];refine wpAny_bind (wpAny_setField ho hd (by simp) (wpAny_pure ⟨x,rfl,wpAny_pure (hQ _ ?_ (Heap.SameBut.update ..))⟩));refine⟨_,Heap.get?_update_self _ ho (Obj.isFreed_of_fields (Obj.data_mapFields hd _)),(Obj.cls_mapFields ..).trans hc,?_⟩;rw[Obj.data_mapFields hd];simp[rawInt]
set_option tactic.hygienic true in
theorem zp0 {it l:Addr} {i:Nat} {items:Array Value} {Q:Value->Shared->Prop} (hh:A.handled=none) (hit:s.heap.IsTupleIter it l i) (hl:s.heap.IsTuple l items) (hx:items[i]?=none)
 (hE:∀h' e,Heap.ExtBut it s.heap h'->(∃o,h'.get? e=some o/\o.cls=.type "StopIteration")->E (.ref e) { s with heap:=h' }):wpAny (model prog w) A (Builtin.SmallTypes.nextOf (.ref it)) Q E s:=by
 obtain⟨o,ho,hc,hd⟩:=id hit;obtain⟨ol,hol,_,nl,hdl⟩:=hl;unfold Builtin.SmallTypes.nextOf;refine wpAny_bind (wpAny_callSpecial?_slot (name:=Str.ofString "__next__") hit.typeIs F.slot_tuple_iterator_next (wpAny_call_entry F.slot_tuple_iterator_next hit.typeIs F.entry_tuple_iterator_next ?_ (F.args_tuple_iterator_next_1 _)));show wpAny _ _ (field (.ref it) 0 >>= fun _=>_) _ _ s;refine wpAny_bind (wpAny_field ho hd (x:=.ref l) rfl ?_);show wpAny _ _ (if (Value.ref l == Value.none)=true then _ else _) _ _ s;have nn:¬(Value.ref l == Value.none)=true:=Bool.false_ne_true;rw[if_neg nn];refine wpAny_bind (m:=field (.ref it) 1) (wpAny_field ho hd (x:=.int i 0) rfl ?_);refine wpAny_bind (m:=seqItems? (.ref l)) (wpAny_seqItems hol hdl ?_);simp only[Int.toNat_natCast,hx];refine wpAny_bind (wpAny_rule (wpAny_bind (wpAny_setField ho hd (by simp) ?_)));refine wpAny_bind (m:=newExc (.type "StopIteration") []) ?_;simp only[newExc,newTuple];refine wpAny_bind (wpAny_newObj_type ?_ (by size_fits));refine wpAny_bind (m:=firstArgMember _ _) (wpAny_of_eq (a:=Value.none) (by first | rfl | (simp only[firstArgMember];rfl)) ?_);refine wpAny_newObj_type ?_ (by size_fits);simp only[raiseNew];refine wpAny_bind (wpAny_handled ?_);first | rw[show A.in1.handled=none from hh] | rw[hh]
 exact wpAny_bind (wpAny_pure (wpAny_throw (hE _ _ (((Heap.SameBut.update ..).extBut.push _).push _) ⟨_,Heap.get?_push_size _ rfl,rfl⟩)))
theorem enum_turn {e it:Addr} {i:Nat} {x old:Value} {T:Heap->Prop} {Q:Value->Shared->Prop} (he:IsEnum s.heap e it i old) (hne:e≠it)
 (hT:∀h h',T h->(∀o,h.get? it=some o->h'.get? it=some o)->T h')
 (hnx:∀Q':Value->Shared->Prop,(∀h',T h'->Heap.SameBut it s.heap h'->Q' x { s with heap:=h' })->wpAny (model prog w) A (Builtin.SmallTypes.nextOf (.ref it)) Q' E s)
 (hQ:∀h',IsEnumOut h' e it ((i:Int)+1) x s.heap.objs.size->T h'->h'.get? s.heap.objs.size=some { cls:=.type "tuple",data:=.seq #[.int i s.toks,x] }->h'.objs.size=s.heap.objs.size+1->
  (∀b o,b≠e->b≠it->s.heap.get? b=some o->h'.get? b=some o)->Q (.ref s.heap.objs.size) { s with heap:=h',toks:=s.toks+1 }) :
 wpAny (model prog w) A (Builtin.«enumerate.__next__» ⟨[.ref e],[]⟩) (fun fin s'=>∃v,fin=.done (.ret v)/\Q v s') E s:=by
 obtain⟨hp,g,d,tk,os⟩:=s;refine wpAny_bind (m:=field (.ref e) 2) (wpAny_field he rfl (x:=.ref it) rfl ?_);refine wpAny_bind (hnx _ fun h₁ t₁ hs₁=>?_);have hs₁:Heap.SameBut it hp h₁:=hs₁;have he₁:IsEnum h₁ e it i old:=(hs₁.2 e hne).trans he;show wpAny _ _ (field (.ref e) 3 >>= fun _=>_) _ _ ⟨h₁,g,d,tk,os⟩;refine wpAny_bind (wpAny_field he₁ rfl (x:=rawInt i) rfl ?_);refine wpAny_bind (m:=field (.ref e) 4) (wpAny_field he₁ rfl (x:=.none) rfl ?_);refine wpAny_bind (m:=mkInt i) (wpAny_mkInt ?_);refine wpAny_bind (m:=setField (.ref e) 3 (rawInt ((i:Int)+1))) (wpAny_setField_rec he₁ (by simp) fun h₂ he₂ hs₂=>?_);have hs₂:Heap.SameBut e h₁ h₂:=hs₂;have he₂:IsEnum h₂ e it ((i:Int)+1) old:=he₂;refine wpAny_bind (m:=setField (.ref e) 4 .none) (wpAny_setField_rec he₂ (by simp) fun h₃ he₃ hs₃=>?_);have hs₃:Heap.SameBut e h₂ h₃:=hs₃;have he₃:IsEnum h₃ e it ((i:Int)+1) old:=he₃;refine wpAny_bind (m:=newTuple [.int i tk,x]) (wpAny_newTuple ?_);have he₄:IsEnum (h₃.push { cls:=.type "tuple",data:=.seq #[.int i tk,x] }) e it ((i:Int)+1) old:=Heap.get?_push_of_some _ he₃;generalize hh₄:h₃.push { cls:=.type "tuple",data:=.seq #[.int i tk,x] }=h₄ at he₄;have hsz:h₃.objs.size=hp.objs.size:=by rw[hs₃.1,hs₂.1,hs₁.1]
 have hel:hp.objs.size≠e:=Nat.ne_of_gt (Heap.lt_size he);have ht₄:h₄.get? hp.objs.size=some { cls:=.type "tuple",data:=.seq #[.int i tk,x] }:=by rw[<-hh₄,<-hsz];exact Heap.get?_push_size _ rfl
 have hz₄:h₄.objs.size=hp.objs.size+1:=by rw[<-hh₄,Heap.size_push,hsz]
 have up₄:∀b o,b≠e->h₁.get? b=some o->h₄.get? b=some o:=fun b o hb q=>by
  rw[<-hh₄];exact Heap.get?_push_of_some _ (hs₃.extBut b o hb (hs₂.extBut b o hb q))
 show wpAny _ _ (Builtin.SmallTypes.ownedTupleIsFree (.ref e) >>= fun _=>_) _ _ ⟨h₄,g,d,tk+1,os⟩;rw[hsz];refine wpAny_bind ?_;unfold Builtin.SmallTypes.ownedTupleIsFree;refine wpAny_bind (wpAny_field he₄ rfl (x:=.none) rfl (wpAny_pure ?_));simp only[if_true];refine wpAny_bind (wpAny_rule (wpAny_bind (wpAny_field he₄ rfl (x:=old) rfl ?_)));refine wpAny_bind (wpAny_setField_rec he₄ (by simp) fun h₅ he₅ hs₅=>?_);have hs₅:Heap.SameBut e h₄ h₅:=hs₅;have he₅:IsEnum h₅ e it ((i:Int)+1) x:=he₅;show wpAny _ _ (Builtin.SmallTypes.ownedTupleHandOut (.ref e) (.ref hp.objs.size) >>= fun _=>_) _ _ ⟨h₅,g,d,tk+1,os⟩;refine wpAny_bind ?_;unfold Builtin.SmallTypes.ownedTupleHandOut;refine wpAny_bind (wpAny_setField_rec he₅ (by simp) fun h₆ he₆ hs₆=>?_);have hs₆:Heap.SameBut e h₅ h₆:=hs₆;have he₆:IsEnumOut h₆ e it ((i:Int)+1) x hp.objs.size:=he₆;refine wpAny_setField_rec he₆ (by simp) fun h₇ he₇ hs₇=>?_
 have hs₇:Heap.SameBut e h₆ h₇:=hs₇;have he₇:IsEnumOut h₇ e it ((i:Int)+1) x hp.objs.size:=he₇;have up₇:∀b o,b≠e->h₄.get? b=some o->h₇.get? b=some o:=fun b o hb q=>hs₇.extBut b o hb (hs₆.extBut b o hb (hs₅.extBut b o hb q))
 refine wpAny_bind (wpAny_letGo (wpAny_pure ⟨_,rfl,hQ h₇ he₇ (hT h₁ h₇ t₁ fun o q=>up₇ _ o (Ne.symm hne) (up₄ _ o (Ne.symm hne) q)) (up₇ _ _ hel ht₄) (by rw[hs₇.1,hs₆.1,hs₅.1,hz₄]) fun b o hb hi q=>up₇ b o hb (up₄ b o hb (hs₁.extBut b o hi q))⟩))
end
end PySem
end
section
namespace L2
open PySem PySem.Spec PyProof.Rows
section
variable {X:Cx} {pins:List (Addr×Obj)} {σ:St} {H:Hp} {s:Shared} {h':Heap}
theorem Inv.turnedT {fp:List Addr} {p:Addr} {vs:List V} {its:List Value} {t':Nat} (I:Inv X pins σ H s) (hf:∀b∈fp,FpOk X pins H b) (k:∀b o,b∉fp->s.heap.get? b=some o->h'.get? b=some o)
 (hp:s.heap.objs.size<=p) (hv:Vals vs its) (hz:vs.length<=sizeLine) (ht:IsTup h' p its.toArray):Inv X pins σ (upd H p (.tup vs)) { s with heap:=h',toks:=t' }:=by
 have hn:H p=none:=I.hok.fresh hp;have nfp:∀b u,H b=some u->b∉fp:=fun b u e z=>by rw[(hf b z).1] at e;cases e
 have old:∀b u,H b=some u->upd H p (.tup vs) b=some u:=fun b u e=>by rw[za9 (zb0 e hn)];exact e
 refine I.step (g':=s.gens) (d':=s.drawn) (t':=t') (ch:=fp) (fun b hb=>⟨(hf b hb).2.2.2.1,(hf b hb).2.1,(hf b hb).2.2.2.2.1,(hf b hb).2.2.2.2.2⟩) (fun b o _ _ hc e _=>k b o hc e) (fun b o _ _ hc e _=>⟨o.slots,k b o hc e⟩)
  (fun b o _ e n=>by rw[za9 (Nat.ne_of_lt (Nat.lt_of_lt_of_le (Heap.lt_size e) hp))];exact n) (fun b o hc e=>⟨o,k b o hc e⟩) (fun b xs e=>old b _ e) (fun b o u e=>old b _ e) (fun b ps e=>⟨#[],by rw[old b _ e];simp⟩) (fun m hm=>?_) (fun b u e=>?_) I.bare
 ·obtain⟨o,es,ep,ho,r⟩:=hm
  exact⟨o,es,ep,k _ o (fun z=>(hf _ z).2.1 rfl) ho,r⟩
 ·by_cases hb:b=p
  ·subst hb
   rw[zb4] at e;cases e;exact⟨hz,its,hv,ht⟩
  ·rw[za9 hb] at e
   refine(I.hok b u e).stay (fun d v hd q=>k d v ?_ q) (fun d q=>old d _ q) fun d xs q=>old d _ q
   rcases hd with z | z
   ·rw[z];exact nfp b u e
   ·exact nfp d _ z
theorem Inv.turnedF {fp:List Addr} {t':Nat} (I:Inv X pins σ H s) (hf:∀b∈fp,FpOk X pins H b) (k:∀b o,b∉fp->s.heap.get? b=some o->h'.get? b=some o):Inv X pins σ H { s with heap:=h',toks:=t' }:=by
 have nfp:∀b u,H b=some u->b∉fp:=fun b u e z=>by rw[(hf b z).1] at e;cases e
 refine I.step (g':=s.gens) (d':=s.drawn) (t':=t') (ch:=fp) (fun b hb=>⟨(hf b hb).2.2.2.1,(hf b hb).2.1,(hf b hb).2.2.2.2.1,(hf b hb).2.2.2.2.2⟩) (fun b o _ _ hc e _=>k b o hc e) (fun b o _ _ hc e _=>⟨o.slots,k b o hc e⟩)
  (fun b o _ e n=>n) (fun b o hc e=>⟨o,k b o hc e⟩) (fun b xs e=>e) (fun b o u e=>e) (fun b ps e=>⟨#[],by rw[e];simp⟩) (fun m hm=>?_) (fun b u e=>?_) I.bare
 ·obtain⟨o,es,ep,ho,r⟩:=hm
  exact⟨o,es,ep,k _ o (fun z=>(hf _ z).2.1 rfl) ho,r⟩
 ·refine(I.hok b u e).stay (fun d v hd q=>k d v ?_ q) (fun d q=>q) fun d xs q=>q
  rcases hd with z | z
  ·rw[z];exact nfp b u e
  ·exact nfp d _ z
end
noncomputable def Ien (Sq:Hp->List V->Prop):It:=
 ⟨fun i H=>∃xs x,Sq H xs/\xs[i]?=some x,fun i H v H'=>∃p x,H p=none/\v=.ref p/\H'=upd H p (.tup [.int i,x])/\∀xs,Sq H xs->xs[i]?=some x,fun i H=>∃xs,Sq H xs/\xs.length<=i⟩
set_option tactic.hygienic true in
theorem turn_enumT {P:Program} {w:World} {K:PySem.W.Frag} {elts:List Expr} {x1} {pos:Pos} (a e it:Addr):Turn P w K (.Tuple elts x1 pos) (Ien fun H xs=>SqT K H a xs) [e,it] e (fun i h=>e≠it/\(∃old,IsEnum h e it i old)/\h.IsTupleIter it a i) where
 mem:=by simp
 obj:=fun i h st b hb=>by
  obtain⟨hne,⟨old,he⟩,o,ho,c,d⟩:=st;rcases List.mem_cons.mp hb with z | hb
  ·subst z
   exact⟨_,he,fun v z=>by
    have z':Data.fields _=Data.cell v:=z;cases z'⟩
  ·have z:b=it:=by simpa using hb
   subst z;exact⟨o,ho,fun v z=>by rw[d] at z;cases z⟩
 keep:=fun i h h' st k=>by
  obtain⟨hne,⟨old,he⟩,hi⟩:=st;exact⟨hne,⟨old,k e (by simp) _ he⟩,hi.at fun o q=>k it (by simp) o q⟩
 item:=by
  intro X hP hw hK hc i pins s σ H E I hf st hg;subst hP hw hK;obtain⟨xs,x,hq,hx⟩:=hg;obtain⟨hne,⟨old,he⟩,hi⟩:=st;obtain⟨its,rv,p,hz⟩:=I.tuple hq;obtain⟨u,hu,ru⟩:=rv.get hx;have pT:s.heap.IsTuple a its.toArray:=p;have hT:s.TypeIs (.ref e) "enumerate":=⟨_,he,rfl⟩;unfold pyNext;refine wpAny_bind (wpAny_attempt (wpAny_callSpecial?_slot (name:=Str.ofString "__next__") hT F.slot_enumerate_next (wpAny_call_entry F.slot_enumerate_next hT F.entry_enumerate_next (enum_turn (T:=fun h=>h.IsTupleIter it a (i+1)) he hne (fun h h' t q=>t.at q) (fun Q' hQ'=>zn4 hi pT (x:=u) (by simpa using hu) hQ') fun h' ho hi' ht hs kk=>wpAny_pure ?_) (F.args_enumerate_next_1 _))));refine⟨_,rfl,wpAny_letOwnedTupleGo_enum (s:={ s with heap:=h',toks:=s.toks+1 }) ho fun h2 he2 sb2=>?_⟩;have sb2:Heap.SameBut e h' h2:=sb2;have pe:s.heap.objs.size≠e:=Nat.ne_of_gt (Heap.lt_size he);have k2:∀b o,b∉[e,it]->s.heap.get? b=some o->h2.get? b=some o:=fun b o hb q=>by
   have h1:b≠e:=fun z=>hb (by simp[z])
   have h3:b≠it:=fun z=>hb (by simp[z])
   exact sb2.extBut b o h1 (kk b o h1 h3 q)
  have tt:IsTup h2 s.heap.objs.size [Value.int i s.toks,u].toArray:=⟨_,sb2.extBut _ _ pe ht,rfl,_,rfl⟩;have nn:∀b∈[e,it],b≠s.heap.objs.size:=fun b hb z=>by
   obtain⟨o1,ho1,_⟩:=id hi;rcases List.mem_cons.mp hb with y | y
   ·exact pe (by rw[<-z,y])
   ·have y:b=it:=by simpa using y
    rw[z] at y;rw[<-y] at ho1;exact absurd (Heap.lt_size ho1) (Nat.lt_irrefl _)
  refine⟨.ref s.heap.objs.size,_,I.turnedT (p:=s.heap.objs.size) (vs:=[.int i,x]) hf k2 (Nat.le_refl _) (.cons ⟨_,rfl⟩ (.cons ru .nil)) (by show 2<=sizeLine;decide) tt,rfl,⟨_,x,I.hok.fresh (Nat.le_refl _),rfl,rfl,fun ys hy=>by rw[I.tuple_inj hy hq];exact hx⟩,⟨hne,⟨u,?_⟩,?_⟩,fun b hb=>?_⟩
  ·have:((i+1:Nat):Int)=(i:Int)+1:=by omega
   rw[this];exact he2
  ·exact hi'.extBut sb2.extBut (Ne.symm hne)
  ·rw[za9 (nn b hb)];exact(hf b hb).1
 done:=by
  intro X hP hw hK hc i pins s σ H E I hf st hg;subst hP hw hK;obtain⟨xs,hq,hx⟩:=hg;obtain⟨hne,⟨old,he⟩,hi⟩:=st;obtain⟨its,rv,p,hz⟩:=I.tuple hq;have pT:s.heap.IsTuple a its.toArray:=p;have hl:=rv.length;have hT:s.TypeIs (.ref e) "enumerate":=⟨_,he,rfl⟩;unfold pyNext;refine wpAny_bind (wpAny_attempt (wpAny_callSpecial?_slot (name:=Str.ofString "__next__") hT F.slot_enumerate_next (wpAny_call_entry F.slot_enumerate_next hT F.entry_enumerate_next ?_ (F.args_enumerate_next_1 _))));refine wpAny_bind (m:=field (.ref e) 2) (wpAny_field he rfl (x:=.ref it) rfl ?_);refine wpAny_bind (zp0 (I.ok.hd hc) hi pT (by simp;omega) fun h' x he' hx'=>?_);obtain⟨o,ho,hcls⟩:=hx';refine wpAny_bind (wpAny_isInstance (T:="StopIteration") (b:=true) ⟨o,ho,hcls⟩ isSubtype_stop (wpAny_pure ⟨rfl,I.turnedF hf fun b o hb q=>he' b o (fun z=>hb (by simp[z])) q⟩))
 self:=fun _ _ _ _ _ st h=>let ⟨_,⟨_,he⟩,_⟩:=st;wpAny_pyIter_enum he h
end L2
end
section
namespace L2
open PySem PySem.Spec PyProof.Rows
section
variable {X:Cx} {elts:List Expr} {x1:Nat} {tpos:Pos}
noncomputable def iEnT (K:PySem.W.Frag) (ta:TA):TI:=fun σ H R=>ta σ H fun vs H1=>∃a xs,vs=[.ref a]/\SqT K H1 a xs/\R (Ien fun H xs=>SqT K H a xs) H1
theorem pi_enumT {a:Expr} {ta:TA} {p pos:Pos} (hg:Gl X "enumerate") (hm:X.mg "enumerate" = none) (ha:PA X [a] ta) (hs:starEach [a] X.env=[(false,eval a X.env)]:=by rfl):PI X (.Tuple elts x1 tpos) (.Call (.Name "enumerate" p) [a] [] pos) (iEnT X.K ta):=by
 intro pins s σ H R I h;refine Call_ (ld_blt I hg hm boot_enumerate (PyProof.Rows.callWith_type1 (thn (ha pos pins s σ H _ I h) fun us s1 hI95=>?_) hs rfl));obtain⟨vs,H1,I1,r1,q1⟩:=hI95;obtain⟨l,xs,rfl,hq,q⟩:=q1;cases r1 with
 | cons r rr=>
   cases rr;cases r;obtain⟨its,rv,pt,hz⟩:=I1.tuple hq;refine call_enum_tup (show s1.heap.IsTuple l its.toArray from pt) fun h' he hi kk=>?_
   refine wpAny_pyIter_enum (s:={ s1 with heap:=h' }) he ?_;refine⟨s1.heap.objs.size+1,[s1.heap.objs.size+1,s1.heap.objs.size],_,_,H1,rfl,I1.kept (t':=s1.toks) kk,turn_enumT l _ _,⟨Nat.succ_ne_self _,⟨_,he⟩,hi⟩,fun b hb=>?_,q⟩;have hb:s1.heap.objs.size<=b:=by
    rcases List.mem_cons.mp hb with z | z
    ·rw[z];exact Nat.le_succ _
    ·have z:b=s1.heap.objs.size:=by simpa using z
     exact Nat.le_of_eq z.symm
   exact I1.fpOk hb (I1.hok.fresh hb)
variable {S:Type} {W:Wd S} {c:Dx W}
noncomputable def numbered (l:List D):List D:=(l.zipIdx).map fun p=>.tup [.int p.2,p.1]
noncomputable def oEnum:List D->Option (List D)
 | [.tup l]=>if D.immL l=true then some (numbered l) else none
 | _=>none
theorem numbered_get {l:List D} {i:Nat} {d:D} (h:(numbered l)[i]?=some d):∃x,l[i]?=some x/\d=.tup [.int i,x]:=by
 unfold numbered at h;rw[List.getElem?_map,List.getElem?_zipIdx] at h;cases q:l[i]? with
 | none=>rw[q] at h;cases h
 | some x=>rw[q] at h;cases h;exact⟨x,rfl,by simp⟩
theorem numbered_length (l:List D):(numbered l).length=l.length:=by unfold numbered;rw[List.length_map,List.length_zipIdx]
theorem immL_get:∀{l:List D} {i:Nat} {d:D},D.immL l=true->l[i]?=some d->d.imm=true
 | [],_,_,_,h=>by simp at h
 | x::l,0,d,m,h=>by
   have m':x.imm=true/\D.immL l=true:=by simpa [D.immL] using m
   simp at h;subst h;exact m'.1
 | x::l,i+1,d,m,h=>by
   have m':x.imm=true/\D.immL l=true:=by simpa [D.immL] using m
   exact immL_get (i:=i) m'.2 (by simpa using h)
set_option tactic.hygienic true in
theorem di_enum {a:Expr} {f:FnA S} {p pos:Pos} (hK:c.K=X.K) (hg:Gl X "enumerate") (hm:X.mg "enumerate" = none) (ha:DA X c [a] f) (hs:starEach [a] X.env=[(false,eval a X.env)]:=by rfl):DI X c (.Tuple elts x1 tpos) (.Call (.Name "enumerate" p) [a] [] pos) (iArgs S oEnum f):=
 (pi_enumT hg hm ha hs).imp fun σ H R hI31=>by
  obtain⟨ρ,st,R0,ok,w⟩:=hI31;refine⟨ρ,st,R0,ok,za6 (za3.mp w) (fun l st1 q vs H1 e ok1 z=>?_) fun x st1 q=>q⟩;obtain⟨m,e1,q⟩:=zb6.mp q;unfold oEnum at e1;split at e1
  ·rename_i l
   split at e1
   ·rename_i im
    cases e1;obtain⟨v,r,e2,i2,i3⟩:=IsL.cons.mp z;obtain⟨a,xs,ea,s0,i⟩:=Is.tup_iff.mp i2;have s:SqT c.K H1 a xs:=.of s0;rw[IsL.nil.mp i3,ea] at e2;refine⟨a,xs,e2,hK▸s,q _ H1 e ok1 ?_⟩;intro c' hK' σ2 ρ2 H2 st2 k R2 ok2 j;have s2:SqT X.K H2 a xs:=by rw[<-hK];exact .of (k.tup a xs s0)
    have i1:IsL c.K (Av c σ ρ) H1 l xs:=IsL.ofImm im i;have i2:IsL c.K (Av c' σ2 ρ2) H2 l xs:=i1.mono k;refine⟨fun d hd=>?_,fun hl=>⟨xs,s2,by rw[numbered_length] at hl;rw[<-i2.length];exact hl⟩⟩;obtain⟨y,hy,rfl⟩:=numbered_get hd;obtain⟨v1,hv,iv⟩:=i2.get hy;refine⟨⟨xs,v1,s2,hv⟩,?_⟩;rintro x H3 ⟨pp,x',hpn,rfl,rfl,hx⟩;have:=hx xs s2;rw[hv] at this;cases this;have sm:Same H2 (upd H2 pp (.tup [.int j,v1])):=fun b o hb=>by rw[za9 (zb0 hb hpn)];exact hb
    refine⟨sm,Is.tup zb4 (IsL.cons.mpr ⟨_,_,rfl,Is.int_iff.mpr rfl,IsL.one ?_⟩)⟩;exact Is.ofImm (immL_get im hy) (iv.mono (A':=Av c' σ2 ρ2) (zi2 (fun b o hb _=>sm b o hb) fun b o a hb=>⟨a,sm b o hb⟩))
   ·cases e1
  ·cases e1
end
end L2
end
section
namespace L2
open PySem PySem.Spec PyProof.Rows
section
variable {X:Cx}
theorem range_all {bs:List Bool}:(List.range bs.length).all (fun i=>bs.getD i false)=bs.all id:=by
 apply Bool.eq_iff_iff.mpr;simp only[List.all_eq_true,List.mem_range,id];constructor
 ·intro h b hb
  obtain⟨i,hi,e⟩:=List.mem_iff_getElem.mp hb;have:=h i hi;rw[List.getD_eq_getElem?_getD,List.getElem?_eq_getElem hi] at this;rw[<-e];exact this
 ·intro h i hi
  rw[List.getD_eq_getElem?_getD,List.getElem?_eq_getElem hi];exact h _ (List.getElem_mem hi)
theorem range_any {bs:List Bool}:(List.range bs.length).any (fun i=>bs.getD i false)=bs.any id:=by
 apply Bool.eq_iff_iff.mpr;simp only[List.any_eq_true,List.mem_range,id];constructor
 ·rintro ⟨i,hi,h⟩
  rw[List.getD_eq_getElem?_getD,List.getElem?_eq_getElem hi] at h;exact⟨_,List.getElem_mem hi,h⟩
 ·rintro ⟨b,hb,h⟩
  obtain⟨i,hi,e⟩:=List.mem_iff_getElem.mp hb;refine⟨i,hi,?_⟩;rw[List.getD_eq_getElem?_getD,List.getElem?_eq_getElem hi,e];exact h
theorem bools_at {bs:List Bool} {its:List Value} (r:Vals (bs.map V.bl) its) {i:Nat} {v:Value} (h:its.toArray[i]?=some v):v=.bool (bs.getD i false):=by
 have hi:i<its.length:=by
  have:=(Array.getElem?_eq_some_iff.mp h).1;simpa using this
 have hl:=r.length;rw[List.length_map] at hl;have hb:i<bs.length:=by omega
 obtain⟨u,hu,ru⟩:=r.get (i:=i) (x:=.bl bs[i]) (by rw[List.getElem?_map,List.getElem?_eq_getElem hb];rfl);have:its[i]?=some v:=by simpa using h
 rw[hu] at this;cases this;rw[List.getD_eq_getElem?_getD,List.getElem?_eq_getElem hb];exact ru
theorem call_all (hc:X.calm=true):CallR X (.builtin "all") (fun xs H Q=>∃(a:Addr) (bs:List Bool),xs=[.ref a]/\SqL X.K H a (bs.map V.bl)/\Q (.bl (bs.all id)) H):=by
 intro pins s σ H xs us Q I r h;obtain⟨a,bs,rfl,hq,q⟩:=h;obtain⟨u,rfl,r1⟩:=vals1 r;cases r1;obtain⟨its,rv,p,hz⟩:=I.list hq;have hh:X.A.in1.handled=none:=I.ok.hd hc;have lt:a<s.heap.objs.size:=by obtain⟨o,e,_⟩:=p.isList;exact Heap.lt_size e
 refine call_all_walk (wpAny_pyIter_list p.isList ⟨_,_,_,_,_,_,fun i=>bs.getD i false,rfl,Walks.list hh s.heap.objs.size a (Nat.ne_of_lt lt) its.toArray,⟨⟨_,Heap.get?_push_size _ rfl,rfl,rfl⟩,p.isList.push _⟩,?_,?_⟩)
 ·intro i v Q' E' s' hP hQ
  rw[bools_at rv hP];exact wpAny_truthy_bool hQ
 ·intro h' tk hk
  have e:(List.range its.toArray.size).all (fun i=>bs.getD i false)=bs.all id:=by
   have hl:=rv.length;rw[List.length_map] at hl;rw[List.size_toArray,<-hl,range_all]
  rw[e];refine⟨.bl _,H,?_,rfl,q⟩;refine I.kept (t':=tk) fun b o e=>hk b o (fun z=>?_) (Heap.get?_push_of_some _ e)
  have z:b=s.heap.objs.size:=by simpa using z
  have lt:=Heap.lt_size e;rw[z] at lt;exact Nat.lt_irrefl _ lt
theorem call_any (hc:X.calm=true):CallR X (.builtin "any") (fun xs H Q=>∃(a:Addr) (bs:List Bool),xs=[.ref a]/\SqL X.K H a (bs.map V.bl)/\Q (.bl (bs.any id)) H):=by
 intro pins s σ H xs us Q I r h;obtain⟨a,bs,rfl,hq,q⟩:=h;obtain⟨u,rfl,r1⟩:=vals1 r;cases r1;obtain⟨its,rv,p,hz⟩:=I.list hq;have hh:X.A.in1.handled=none:=I.ok.hd hc;have lt:a<s.heap.objs.size:=by obtain⟨o,e,_⟩:=p.isList;exact Heap.lt_size e
 refine call_any_walk (wpAny_pyIter_list p.isList ⟨_,_,_,_,_,_,fun i=>bs.getD i false,rfl,Walks.list hh s.heap.objs.size a (Nat.ne_of_lt lt) its.toArray,⟨⟨_,Heap.get?_push_size _ rfl,rfl,rfl⟩,p.isList.push _⟩,?_,?_⟩)
 ·intro i v Q' E' s' hP hQ
  rw[bools_at rv hP];exact wpAny_truthy_bool hQ
 ·intro h' tk hk
  have e:(List.range its.toArray.size).any (fun i=>bs.getD i false)=bs.any id:=by
   have hl:=rv.length;rw[List.length_map] at hl;rw[List.size_toArray,<-hl,range_any]
  rw[e];refine⟨.bl _,H,?_,rfl,q⟩;refine I.kept (t':=tk) fun b o e=>hk b o (fun z=>?_) (Heap.get?_push_of_some _ e)
  have z:b=s.heap.objs.size:=by simpa using z
  have lt:=Heap.lt_size e;rw[z] at lt;exact Nat.lt_irrefl _ lt
end
end L2
end
section
namespace L2
open PySem PySem.Spec PyProof.Rows
open PySem.SeqAt
mutual
noncomputable def D.eqq:D->D->Option Bool
 | .int i,.int j=>some (i == j)
 | .str i,.str j=>some (i == j)
 | .bl i,.bl j=>some (i == j)
 | .non,.non=>some true
 | .tup l,.tup m=>D.eqL l m
 | .lst l,.lst m=>if l.length=m.length then D.eqL l m else some false
 | _,_=>none
noncomputable def D.eqL:List D->List D->Option Bool
 | [],[]=>some true
 | [],_::_=>some false
 | _::_,[]=>some false
 | a::l,b::m=>(D.eqq a b).bind fun x=>(D.eqL l m).map fun y=>x&&y
end
mutual
noncomputable def D.dep:D->Nat
 | .tup l=>D.depL l+1
 | .lst l=>D.depL l+1
 | _=>0
noncomputable def D.depL:List D->Nat
 | []=>0
 | d::l=>max (D.dep d) (D.depL l)
end
section
variable {X:Cx} {pins:List (Addr×Obj)} {σ:St} {H:Hp} {s:Shared} {A1 A2:Addr->Prop}
mutual
theorem eqq_same (I:Inv X pins σ H s):∀{d1 d2:D} {v:V} {b:Bool},Is X.K A1 H d1 v->Is X.K A2 H d2 v->D.eqq d1 d2=some b->b=true
 | .int i,d2,v,b,h1,h2,e=>by
   rw[Is.int_iff.mp h1] at h2;cases d2 with
   | int j=>have:=Is.int_iff.mp h2;cases this;unfold D.eqq at e;simpa using e.symm
   | _=>unfold D.eqq at e;cases e
 | .str i,d2,v,b,h1,h2,e=>by
   rw[Is.str_iff.mp h1] at h2;cases d2 with
   | str j=>have:=Is.str_iff.mp h2;cases this;unfold D.eqq at e;simpa using e.symm
   | _=>unfold D.eqq at e;cases e
 | .bl i,d2,v,b,h1,h2,e=>by
   rw[Is.bl_iff.mp h1] at h2;cases d2 with
   | bl j=>have:=Is.bl_iff.mp h2;cases this;unfold D.eqq at e;simpa using e.symm
   | _=>unfold D.eqq at e;cases e
 | .non,d2,v,b,h1,h2,e=>by
   cases d2 with
   | non=>unfold D.eqq at e;simpa using e.symm
   | _=>unfold D.eqq at e;cases e
 | .tup l,d2,v,b,h1,h2,e=>by
   cases d2 with
   | tup m=>
     obtain⟨a,vs,ea,s1,i1⟩:=Is.tup_sq h1;obtain⟨a',us,ea',s2,i2⟩:=Is.tup_sq h2;rw[ea] at ea';cases ea';have:=I.tuple_inj s1 s2;subst this;unfold D.eqq at e;exact eqL_same I i1 i2 e
   | _=>unfold D.eqq at e;cases e
 | .lst l,d2,v,b,h1,h2,e=>by
   cases d2 with
   | lst m=>
     obtain⟨a,vs,ea,_,s1,i1⟩:=Is.lst_iff.mp h1;obtain⟨a',us,ea',_,s2,i2⟩:=Is.lst_iff.mp h2;rw[ea] at ea';cases ea';have:vs=us:=by rw[s1] at s2;cases s2;rfl
     subst this;unfold D.eqq at e;have hl:l.length=m.length:=by rw[i1.length,i2.length]
     rw[if_pos hl] at e;exact eqL_same I i1 i2 e
   | _=>unfold D.eqq at e;cases e
 | .dct _ _,d2,v,b,h1,h2,e=>by cases d2<;>(unfold D.eqq at e;cases e)
 | .fl _,d2,v,b,h1,h2,e=>by cases d2<;>(unfold D.eqq at e;cases e)
theorem eqL_same (I:Inv X pins σ H s):∀{l m:List D} {vs:List V} {b:Bool},IsL X.K A1 H l vs->IsL X.K A2 H m vs->D.eqL l m=some b->b=true
 | [],m,vs,b,h1,h2,e=>by
   rw[IsL.nil.mp h1] at h2;cases m with
   | nil=>unfold D.eqL at e;simpa using e.symm
   | cons x r=>obtain⟨_,_,z,_⟩:=IsL.cons.mp h2;cases z
 | d::l,m,vs,b,h1,h2,e=>by
   obtain⟨v,r,ev,i1,j1⟩:=IsL.cons.mp h1;subst ev;cases m with
   | nil=>have:=IsL.nil.mp h2;cases this
   | cons x m=>
     obtain⟨v',r',ev',i2,j2⟩:=IsL.cons.mp h2;cases ev';unfold D.eqL at e;cases q1:D.eqq d x with
     | none=>rw[q1] at e;cases e
     | some b1=>
       cases q2:D.eqL l m with
       | none=>rw[q1,q2] at e;cases e
       | some b2=>
         rw[q1,q2] at e;have e:some (b1&&b2)=some b:=e;cases e;rw[eqq_same I i1 i2 q1,eqL_same I j1 j2 q2];rfl
end
noncomputable def ansL:List D->List D->List Bool
 | a::l,b::m=>((D.eqq a b).getD false)::ansL l m
 | _,_=>[]
theorem zl3:∀(l m:List D),(ansL l m).length=min l.length m.length
 | [],m=>by cases m<;>simp[ansL]
 | a::l,[]=>by simp[ansL]
 | a::l,b::m=>by simp[ansL,zl3 l m]
theorem eqL_ans:∀{l m:List D} {b:Bool},D.eqL l m=some b->b=((ansL l m).all id&&l.length == m.length)
 | [],[],b,e=>by unfold D.eqL at e;simpa [ansL] using e.symm
 | [],_::_,b,e=>by unfold D.eqL at e;simpa [ansL] using e.symm
 | _::_,[],b,e=>by unfold D.eqL at e;simpa [ansL] using e.symm
 | a::l,x::m,b,e=>by
   unfold D.eqL at e;cases q1:D.eqq a x with
   | none=>rw[q1] at e;cases e
   | some b1=>
     cases q2:D.eqL l m with
     | none=>rw[q1,q2] at e;cases e
     | some b2=>
       rw[q1,q2] at e;have e:some (b1&&b2)=some b:=e;cases e;rw[eqL_ans q2];simp[ansL,q1,Bool.and_assoc]
theorem eqL_item:∀{l m:List D} {b:Bool} {j:Nat} {x y:D},D.eqL l m=some b->l[j]?=some x->m[j]?=some y->D.eqq x y=some ((ansL l m).getD j false)
 | [],_,_,_,_,_,_,h,_=>by simp at h
 | _::_,[],_,_,_,_,_,_,h=>by simp at h
 | a::l,c::m,b,j,x,y,e,h1,h2=>by
   unfold D.eqL at e;cases q1:D.eqq a c with
   | none=>rw[q1] at e;cases e
   | some b1=>
     cases q2:D.eqL l m with
     | none=>rw[q1,q2] at e;cases e
     | some b2=>
       cases j with
       | zero=>simp at h1 h2;subst h1 h2;simp[ansL,q1]
       | succ j=>
         have:=eqL_item (j:=j) q2 (by simpa using h1) (by simpa using h2);simpa [ansL] using this
theorem depL_get:∀{l:List D} {j:Nat} {x:D},l[j]?=some x->x.dep<=D.depL l
 | [],_,_,h=>by simp at h
 | a::l,0,x,h=>by simp at h;subst h;unfold D.depL;omega
 | a::l,j+1,x,h=>by
   have:=depL_get (j:=j) (l:=l) (x:=x) (by simpa using h);unfold D.depL;omega
noncomputable def D.plain:D->Bool
 | .tup _=>false
 | .lst _=>false
 | .dct _ _=>false
 | .fl _=>false
 | _=>true
theorem eqAt_plain {A:Around} {d1 d2:D} {b:Bool} {v1 v2:V} {u1 u2:Value} (hp:d1.plain=true) (e:D.eqq d1 d2=some b) (h1:Is X.K A1 H d1 v1) (h2:Is X.K A2 H d2 v2) (r1:RelV v1 u1) (r2:RelV v2 u2):EqAt A s u1 u2 b:=by
 cases d1 with
 | int i=>
   cases d2 with
   | int j=>
     have z1:=Is.int_iff.mp h1;have z2:=Is.int_iff.mp h2;subst z1 z2;obtain⟨t,rfl⟩:=r1;obtain⟨t',rfl⟩:=r2;unfold D.eqq at e;cases e;exact EqAt.int_int i t j t'
   | _=>unfold D.eqq at e;cases e
 | str i=>
   cases d2 with
   | str j=>
     have z1:=Is.str_iff.mp h1;have z2:=Is.str_iff.mp h2;subst z1 z2;obtain⟨t,rfl⟩:=r1;obtain⟨t',rfl⟩:=r2;unfold D.eqq at e;cases e;exact EqAt.str_str i t j t'
   | _=>unfold D.eqq at e;cases e
 | bl i=>
   cases d2 with
   | bl j=>
     have z1:=Is.bl_iff.mp h1;have z2:=Is.bl_iff.mp h2;subst z1 z2;cases r1;cases r2;unfold D.eqq at e;cases e;exact EqAt.bool_bool i j
   | _=>unfold D.eqq at e;cases e
 | non=>
   cases d2 with
   | non=>
     have z1:=Is.non_iff.mp h1;have z2:=Is.non_iff.mp h2;subst z1 z2;cases r1;cases r2;unfold D.eqq at e;cases e;exact EqAt.same _
   | _=>unfold D.eqq at e;cases e
 | tup l=>simp[D.plain] at hp
 | lst l=>simp[D.plain] at hp
 | dct _ _=>simp[D.plain] at hp
 | fl _=>simp[D.plain] at hp
theorem zj9 {A:Around} {n:Nat} {l m:List D} {vs us:List V} {its its2:List Value} {b:Bool} (e:D.eqL l m=some b) (i1:IsL X.K A1 H l vs) (i2:IsL X.K A2 H m us) (rv:Vals vs its) (rv2:Vals us its2)
 (ih:∀{d1 d2:D} {b:Bool} {v1 v2:V} {u1 u2:Value},d1.dep<=n->D.eqq d1 d2=some b->Is X.K A1 H d1 v1->Is X.K A2 H d2 v2->RelV v1 u1->RelV v2 u2->EqAt A s u1 u2 b) (hd:D.depL l<=n)
 (j:Nat) (h1:j<its.toArray.size) (h2:j<its2.toArray.size):EqAt A s its.toArray[j] its2.toArray[j] ((ansL l m).getD j false):=by
 have h1':j<its.length:=by simpa using h1
 have h2':j<its2.length:=by simpa using h2
 have g1:j<l.length:=by rw[i1.length,rv.length];exact h1'
 have g2:j<m.length:=by rw[i2.length,rv2.length];exact h2'
 have x1:l[j]?=some l[j]:=List.getElem?_eq_getElem g1;have x2:m[j]?=some m[j]:=List.getElem?_eq_getElem g2;obtain⟨v1,hv1,z1⟩:=i1.get x1;obtain⟨v2,hv2,z2⟩:=i2.get x2;obtain⟨w1,hw1,r1⟩:=rv.get hv1;obtain⟨w2,hw2,r2⟩:=rv2.get hv2;have e1:its.toArray[j]=w1:=by
  rw[List.getElem?_eq_getElem h1'] at hw1;have:=Option.some.inj hw1;simpa using this
 have e2:its2.toArray[j]=w2:=by
  rw[List.getElem?_eq_getElem h2'] at hw2;have:=Option.some.inj hw2;simpa using this
 rw[e1,e2];exact ih (Nat.le_trans (depL_get x1) hd) (eqL_item e x1 x2) z1 z2 r1 r2
theorem eqAt_D (I:Inv X pins σ H s):∀(n:Nat) {A:Around} {d1 d2:D} {b:Bool} {v1 v2:V} {u1 u2:Value},d1.dep<=n->A.units+n<cLine->D.eqq d1 d2=some b->Is X.K A1 H d1 v1->Is X.K A2 H d2 v2->RelV v1 u1->RelV v2 u2->EqAt A s u1 u2 b:=by
 intro n;induction n with
 | zero=>
   intro A d1 d2 b v1 v2 u1 u2 hd hu e h1 h2 r1 r2;refine eqAt_plain ?_ e h1 h2 r1 r2;cases d1 with
   | tup l=>unfold D.dep at hd;omega
   | lst l=>unfold D.dep at hd;omega
   | dct _ _=>cases d2<;>(unfold D.eqq at e;cases e)
   | fl _=>cases d2<;>(unfold D.eqq at e;cases e)
   | _=>rfl
 | succ n ih=>
   intro A d1 d2 b v1 v2 u1 u2 hd hu e h1 h2 r1 r2;by_cases hp:d1.plain=true
   ·exact eqAt_plain hp e h1 h2 r1 r2
   have hu0:A.units<cLine:=by omega
   have ih':∀{d1 d2:D} {b:Bool} {v1 v2:V} {u1 u2:Value},d1.dep<=n->D.eqq d1 d2=some b->Is X.K A1 H d1 v1->Is X.K A2 H d2 v2->RelV v1 u1->RelV v2 u2->EqAt A.in1 s u1 u2 b:=
    fun hd e h1 h2 r1 r2=>ih (A:=A.in1) hd (by rw[Around.in1_units];omega) e h1 h2 r1 r2
   cases d1 with
   | tup l=>
     cases d2 with
     | tup m=>
       obtain⟨a,vs,ea,s1,i1⟩:=Is.tup_sq h1;obtain⟨a',us,ea',s2,i2⟩:=Is.tup_sq h2;have hb:a=a'->b=true:=fun z=>by
        subst z;rw[ea'] at h2;rw[ea] at h1;exact eqq_same I h1 h2 e
       subst ea ea';cases r1;cases r2;by_cases z:a=a'
       ·rw[hb z,z];exact EqAt.same _
       ·obtain⟨its,rv,p1,_⟩:=I.tuple s1
        obtain⟨its2,rv2,p2,_⟩:=I.tuple s2;unfold D.eqq at e;have dl:D.depL l<=n:=by unfold D.dep at hd;omega
        have q:=RcAt.tuples (A:=A) (e:=fun j=>(ansL l m).getD j false) (show s.heap.IsTuple a its.toArray from p1) (show s.heap.IsTuple a' its2.toArray from p2) hu0 (fun j g1 g2=>zj9 e i1 i2 rv rv2 ih' dl j g1 g2);have eb:=eqL_ans e;have l1:its.toArray.size=l.length:=by rw[List.size_toArray,<-rv.length,<-i1.length]
        have l2:its2.toArray.size=m.length:=by rw[List.size_toArray,<-rv2.length,<-i2.length]
        rw[l1,l2,<-zl3,range_all,<-eb] at q;exact EqAt.of_refs z q
     | _=>unfold D.eqq at e;cases e
   | lst l=>
     cases d2 with
     | lst m=>
       obtain⟨a,vs,ea,_,s1,i1⟩:=Is.lst_iff.mp h1;obtain⟨a',us,ea',_,s2,i2⟩:=Is.lst_iff.mp h2;have hb:a=a'->b=true:=fun z=>by
        subst z;rw[ea'] at h2;rw[ea] at h1;exact eqq_same I h1 h2 e
       subst ea ea';cases r1;cases r2;by_cases z:a=a'
       ·rw[hb z,z];exact EqAt.same _
       ·obtain⟨its,rv,p1,_⟩:=I.list (.of s1)
        obtain⟨its2,rv2,p2,_⟩:=I.list (.of s2);have l1:its.toArray.size=l.length:=by rw[List.size_toArray,<-rv.length,<-i1.length]
        have l2:its2.toArray.size=m.length:=by rw[List.size_toArray,<-rv2.length,<-i2.length]
        unfold D.eqq at e;by_cases hl:l.length=m.length
        ·rw[if_pos hl] at e
         have dl:D.depL l<=n:=by unfold D.dep at hd;omega
         have q:=RcAt.lists (A:=A) (e:=fun j=>(ansL l m).getD j false) p1.isList p2.isList (by rw[l1,l2,hl]) hu0 (fun j g1 g2=>zj9 e i1 i2 rv rv2 ih' dl j g1 g2);have eb:=eqL_ans e;have el:l.length=(ansL l m).length:=by rw[zl3];omega
         rw[l1,el,range_all] at q;rw[hl] at eb;simp at eb;rw[eb];have:(ansL l m).all id=(ansL l m).all (fun x=>x):=rfl;exact EqAt.of_refs z q
        ·rw[if_neg hl] at e
         cases e;exact EqAt.of_refs z (RcAt.lists_lengths p1.isList p2.isList (by rw[l1,l2];simpa using hl) hu0)
     | _=>unfold D.eqq at e;cases e
   | dct _ _=>cases d2<;>(unfold D.eqq at e;cases e)
   | fl _=>cases d2<;>(unfold D.eqq at e;cases e)
   | _=>simp[D.plain] at hp
end
end L2
end
section
namespace L2
open PySem PySem.Spec PyProof.Rows
open PySem.SeqAt
section
variable {X:Cx} {pins:List (Addr×Obj)} {σ:St} {H:Hp} {s:Shared} {A1 A2:Addr->Prop}
theorem rcAt_D (I:Inv X pins σ H s) {n:Nat} {A:Around} {d1 d2:D} {b:Bool} {v1 v2:V} {u1 u2:Value} (hd:d1.dep<=n) (hu:A.units+n<cLine) (e:D.eqq d1 d2=some b) (h1:Is X.K A1 H d1 v1) (h2:Is X.K A2 H d2 v2) (r1:RelV v1 u1) (r2:RelV v2 u2) :
 RcAt A s u1 u2 b/\RcNeAt A s u1 u2 (!b):=by
 have hu0:A.units<cLine:=by omega
 cases d1 with
 | int i=>
   cases d2 with
   | int j=>
     have z1:=Is.int_iff.mp h1;have z2:=Is.int_iff.mp h2;subst z1 z2;obtain⟨t,rfl⟩:=r1;obtain⟨t',rfl⟩:=r2;unfold D.eqq at e;cases e;exact⟨RcAt.int_int i t j t',RcNeAt.int_int i t j t'⟩
   | _=>unfold D.eqq at e;cases e
 | str i=>
   cases d2 with
   | str j=>
     have z1:=Is.str_iff.mp h1;have z2:=Is.str_iff.mp h2;subst z1 z2;obtain⟨t,rfl⟩:=r1;obtain⟨t',rfl⟩:=r2;unfold D.eqq at e;cases e;exact⟨RcAt.str_str i t j t',RcNeAt.str_str i t j t'⟩
   | _=>unfold D.eqq at e;cases e
 | bl i=>
   cases d2 with
   | bl j=>
     have z1:=Is.bl_iff.mp h1;have z2:=Is.bl_iff.mp h2;subst z1 z2;cases r1;cases r2;unfold D.eqq at e;cases e;exact⟨RcAt.bool_bool i j,RcNeAt.bool_bool i j⟩
   | _=>unfold D.eqq at e;cases e
 | non=>
   cases d2 with
   | non=>
     have z1:=Is.non_iff.mp h1;have z2:=Is.non_iff.mp h2;subst z1 z2;cases r1;cases r2;unfold D.eqq at e;cases e;exact⟨RcAt.none_none,RcNeAt.none_none⟩
   | _=>unfold D.eqq at e;cases e
 | tup l=>
   cases d2 with
   | tup m=>
     obtain⟨a,vs,ea,s1,i1⟩:=Is.tup_sq h1;obtain⟨a',us,ea',s2,i2⟩:=Is.tup_sq h2;subst ea ea';cases r1;cases r2;obtain⟨its,rv,p1,_⟩:=I.tuple s1;obtain⟨its2,rv2,p2,_⟩:=I.tuple s2;unfold D.eqq at e;have hd':D.depL l+1<=n:=by unfold D.dep at hd;exact hd
     have ih':∀{d1 d2:D} {b:Bool} {v1 v2:V} {u1 u2:Value},d1.dep<=n-1->D.eqq d1 d2=some b->Is X.K A1 H d1 v1->Is X.K A2 H d2 v2->RelV v1 u1->RelV v2 u2->EqAt A.in1 s u1 u2 b:=
      fun hd e h1 h2 r1 r2=>eqAt_D I (n-1) (A:=A.in1) hd (by rw[Around.in1_units];omega) e h1 h2 r1 r2
     have q:=RcAt.tuples (A:=A) (e:=fun j=>(ansL l m).getD j false) (show s.heap.IsTuple a its.toArray from p1) (show s.heap.IsTuple a' its2.toArray from p2) hu0 (fun j g1 g2=>zj9 e i1 i2 rv rv2 ih' (by omega) j g1 g2);have q':=RcNeAt.tuples (A:=A) (e:=fun j=>(ansL l m).getD j false) (show s.heap.IsTuple a its.toArray from p1) (show s.heap.IsTuple a' its2.toArray from p2) hu0 (fun j g1 g2=>zj9 e i1 i2 rv rv2 ih' (by omega) j g1 g2);have eb:=eqL_ans e;have l1:its.toArray.size=l.length:=by rw[List.size_toArray,<-rv.length,<-i1.length]
     have l2:its2.toArray.size=m.length:=by rw[List.size_toArray,<-rv2.length,<-i2.length]
     rw[l1,l2,<-zl3,range_all,<-eb] at q q';exact⟨q,q'⟩
   | _=>unfold D.eqq at e;cases e
 | lst l=>
   cases d2 with
   | lst m=>
     obtain⟨a,vs,ea,_,s1,i1⟩:=Is.lst_iff.mp h1;obtain⟨a',us,ea',_,s2,i2⟩:=Is.lst_iff.mp h2;subst ea ea';cases r1;cases r2;obtain⟨its,rv,p1,_⟩:=I.list (.of s1);obtain⟨its2,rv2,p2,_⟩:=I.list (.of s2);have l1:its.toArray.size=l.length:=by rw[List.size_toArray,<-rv.length,<-i1.length]
     have l2:its2.toArray.size=m.length:=by rw[List.size_toArray,<-rv2.length,<-i2.length]
     unfold D.eqq at e;by_cases hl:l.length=m.length
     ·rw[if_pos hl] at e
      have hd':D.depL l+1<=n:=by unfold D.dep at hd;exact hd
      have ih':∀{d1 d2:D} {b:Bool} {v1 v2:V} {u1 u2:Value},d1.dep<=n-1->D.eqq d1 d2=some b->Is X.K A1 H d1 v1->Is X.K A2 H d2 v2->RelV v1 u1->RelV v2 u2->EqAt A.in1 s u1 u2 b:=
       fun hd e h1 h2 r1 r2=>eqAt_D I (n-1) (A:=A.in1) hd (by rw[Around.in1_units];omega) e h1 h2 r1 r2
      have q:=RcAt.lists (A:=A) (e:=fun j=>(ansL l m).getD j false) p1.isList p2.isList (by rw[l1,l2,hl]) hu0 (fun j g1 g2=>zj9 e i1 i2 rv rv2 ih' (by omega) j g1 g2);have q':=RcNeAt.lists (A:=A) (e:=fun j=>(ansL l m).getD j false) p1.isList p2.isList (by rw[l1,l2,hl]) hu0 (fun j g1 g2=>zj9 e i1 i2 rv rv2 ih' (by omega) j g1 g2);have eb:=eqL_ans e;have el:l.length=(ansL l m).length:=by rw[zl3];omega
      rw[l1,el,range_all] at q q';have eb':b=(ansL l m).all id:=by rw[eb,hl];simp
      rw[eb'];exact⟨q,q'⟩
     ·rw[if_neg hl] at e
      cases e;exact⟨RcAt.lists_lengths p1.isList p2.isList (by rw[l1,l2];simpa using hl) hu0,RcNeAt.lists_lengths p1.isList p2.isList (by rw[l1,l2];simpa using hl) hu0⟩
   | _=>unfold D.eqq at e;cases e
 | dct _ _=>cases d2<;>(unfold D.eqq at e;cases e)
 | fl _=>cases d2<;>(unfold D.eqq at e;cases e)
noncomputable def rEqD (K:PySem.W.Frag) (neg:Bool):R2:=fun x y H Q=>∃(A:Addr->Prop) (d1 d2:D) (b:Bool),Is K A H d1 x/\Is K A H d2 y/\d1.dep<=30/\D.eqq d1 d2=some b/\Q (.bl (if neg then !b else b)) H
theorem zi5 {k:Nat} (hr:Room k X.A):OpR X (compareOp .Eq) (rEqD X.K false):=by
 intro pins s σ H x y v u Q I rx ry h;obtain⟨A,d1,d2,b,h1,h2,hd,e,q⟩:=h;exact(rcAt_D I (n:=30) hd (by have:=hr.units;omega) e h1 h2 rx ry).1 _ _ _ _ ⟨.bl b,H,I,rfl,q⟩
theorem op_neD {k:Nat} (hr:Room k X.A):OpR X (compareOp .NotEq) (rEqD X.K true):=by
 intro pins s σ H x y v u Q I rx ry h;obtain⟨A,d1,d2,b,h1,h2,hd,e,q⟩:=h;exact(rcAt_D I (n:=30) hd (by have:=hr.units;omega) e h1 h2 rx ry).2 _ _ _ _ ⟨.bl (!b),H,I,rfl,q⟩
noncomputable def inD (x:D):List D->Option Bool
 | []=>some false
 | d::l=>(D.eqq d x).bind fun b=>(inD x l).map fun c=>b||c
noncomputable def rInD (K:PySem.W.Frag) (neg:Bool):R2:=fun x y H Q=>∃(A:Addr->Prop) (d:D) (l:List D) (b:Bool),Is K A H d x/\(Is K A H (.lst l) y\/Is K A H (.tup l) y)/\D.depL l<=30/\inD d l=some b/\Q (.bl (if neg then !b else b)) H
open Classical in
noncomputable def ansV (x:D) (l:List D) (us:List Value) (u:Value):Bool:=decide (∃(j:Nat) (d:D),us[j]?=some u/\l[j]?=some d/\D.eqq d x=some true)
theorem ansV_iff {x:D} {l:List D} {us:List Value} {u:Value}:ansV x l us u=true↔∃(j:Nat) (d:D),us[j]?=some u/\l[j]?=some d/\D.eqq d x=some true:=by
 classical
 unfold ansV;exact decide_eq_true_iff
theorem inD_items {x:D}:∀{l:List D} {b:Bool},inD x l=some b->∀(j:Nat) (d:D),l[j]?=some d->∃c,D.eqq d x=some c
 | [],_,_,_,_,h=>by simp at h
 | a::l,b,e,j,d,h=>by
   unfold inD at e;cases q1:D.eqq a x with
   | none=>rw[q1] at e;cases e
   | some c=>
     cases q2:inD x l with
     | none=>rw[q1,q2] at e;cases e
     | some c2=>
       cases j with
       | zero=>simp at h;subst h;exact⟨c,q1⟩
       | succ j=>exact inD_items q2 j d (by simpa using h)
theorem inD_iff {x:D}:∀{l:List D} {b:Bool},inD x l=some b->(b=true↔∃(j:Nat) (d:D),l[j]?=some d/\D.eqq d x=some true)
 | [],b,e=>by
   unfold inD at e;cases e;constructor
   ·intro h;cases h
   ·rintro ⟨j,d,h,_⟩;simp at h
 | a::l,b,e=>by
   unfold inD at e;cases q1:D.eqq a x with
   | none=>rw[q1] at e;cases e
   | some c=>
     cases q2:inD x l with
     | none=>rw[q1,q2] at e;cases e
     | some c2=>
       rw[q1,q2] at e;have e:some (c||c2)=some b:=e;cases e;have ih:=inD_iff q2;rw[Bool.or_eq_true];constructor
       ·rintro (h | h)
        ·subst h;exact⟨0,a,rfl,q1⟩
        ·obtain⟨j,d,h1,h2⟩:=ih.mp h
         exact⟨j+1,d,by simpa using h1,h2⟩
       ·rintro ⟨j,d,h1,h2⟩
        cases j with
        | zero=>
          simp at h1;subst h1;rw[q1] at h2;cases h2;exact .inl rfl
        | succ j=>exact .inr (ih.mpr ⟨j,d,by simpa using h1,h2⟩)
theorem in_items (I:Inv X pins σ H s) {A:Around} {A1:Addr->Prop} {x:D} {l:List D} {vs:List V} {its:List Value} {b:Bool} {v:V} {u:Value} (hd:D.depL l<=30) (hu:A.units+30<cLine) (e:inD x l=some b) (i:IsL X.K A1 H l vs) (rv:Vals vs its) (h:Is X.K A1 H x v) (r:RelV v u) :
 (∀y∈its.toArray,EqAt A s y u (ansV x l its y))/\its.toArray.any (ansV x l its)=b:=by
 have at_:∀(j:Nat) (y:Value),its[j]?=some y->∃d w,l[j]?=some d/\Is X.K A1 H d w/\RelV w y:=fun j y hy=>by
  have hj:j<its.length:=(List.getElem?_eq_some_iff.mp hy).1;have hl:j<l.length:=by rw[i.length,rv.length];exact hj
  obtain⟨w,hw,iw⟩:=i.get (List.getElem?_eq_getElem hl);obtain⟨y',hy',ry⟩:=rv.get hw;rw[hy] at hy';cases hy';exact⟨_,w,List.getElem?_eq_getElem hl,iw,ry⟩
 have eqs:∀(j:Nat) (y:Value) (d:D) (c:Bool),its[j]?=some y->l[j]?=some d->D.eqq d x=some c->EqAt A s y u c:=fun j y d c hy hd' ec=>by
  obtain⟨d2,w,h2,iw,ry⟩:=at_ j y hy;rw[hd'] at h2;cases h2;exact eqAt_D I 30 (Nat.le_trans (depL_get hd') hd) hu ec iw h ry r
 constructor
 ·intro y hy
  by_cases hc:∃(j:Nat) (d:D),its[j]?=some y/\l[j]?=some d/\D.eqq d x=some true
  ·obtain⟨j,d,h1,h2,h3⟩:=hc
   have:ansV x l its y=true:=ansV_iff.mpr ⟨j,d,h1,h2,h3⟩;rw[this];exact eqs j y d true h1 h2 h3
  ·have:ansV x l its y=false:=by cases q:ansV x l its y with
    | false=>rfl
    | true=>exact(hc (ansV_iff.mp q)).elim
   rw[this];obtain⟨j,hj,ej⟩:=List.mem_iff_getElem.mp (show y∈its by simpa using hy);have hy':its[j]?=some y:=by rw[List.getElem?_eq_getElem hj,ej]
   obtain⟨d,w,h2,iw,ry⟩:=at_ j y hy';obtain⟨c,ec⟩:=inD_items e j d h2;cases c with
   | false=>exact eqs j y d false hy' h2 ec
   | true=>exact(hc ⟨j,d,hy',h2,ec⟩).elim
 ·apply Bool.eq_iff_iff.mpr
  rw[inD_iff e];have e1:its.toArray.any (ansV x l its)=its.any (ansV x l its):=by simp
  rw[e1,List.any_eq_true];constructor
  ·rintro ⟨y,_,hy⟩
   obtain⟨j,d,_,h2,h3⟩:=ansV_iff.mp hy;exact⟨j,d,h2,h3⟩
  ·rintro ⟨j,d,h2,h3⟩
   have hj:j<its.length:=by rw[<-rv.length,<-i.length];exact(List.getElem?_eq_some_iff.mp h2).1
   refine⟨its[j],List.getElem_mem hj,?_⟩;exact ansV_iff.mpr ⟨j,d,List.getElem?_eq_getElem hj,h2,h3⟩
theorem op_inD {k:Nat} (hr:Room k X.A):OpR X (compareOp .In) (rInD X.K false):=by
 intro pins s σ H x y v u Q I rx ry h;obtain⟨A,d,l,b,h1,h2,hd,e,q⟩:=h;have hu:X.A.in1.units+30<cLine:=by rw[Around.in1_units];have:=hr.units;omega
 rcases h2 with h2 | h2
 ·obtain⟨a,vs,ea,_,s1,i1⟩:=Is.lst_iff.mp h2
  subst ea;cases ry;obtain⟨its,rv,p,_⟩:=I.list (.of s1);obtain⟨g1,g2⟩:=in_items I hd hu e i1 rv h1 rx;exact in_listAt _ p.isList g1 ⟨.bl b,H,I,by rw[g2];rfl,q⟩
 ·obtain⟨a,vs,ea,s1,i1⟩:=Is.tup_sq h2
  subst ea;cases ry;obtain⟨its,rv,p,_⟩:=I.tuple s1;obtain⟨g1,g2⟩:=in_items I hd hu e i1 rv h1 rx;exact in_tupleAt _ p g1 ⟨.bl b,H,I,by rw[g2];rfl,q⟩
theorem op_notInD {k:Nat} (hr:Room k X.A):OpR X (compareOp .NotIn) (rInD X.K true):=by
 intro pins s σ H x y v u Q I rx ry h;obtain⟨A,d,l,b,h1,h2,hd,e,q⟩:=h;have hu:X.A.in1.units+30<cLine:=by rw[Around.in1_units];have:=hr.units;omega
 rcases h2 with h2 | h2
 ·obtain⟨a,vs,ea,_,s1,i1⟩:=Is.lst_iff.mp h2
  subst ea;cases ry;obtain⟨its,rv,p,_⟩:=I.list (.of s1);obtain⟨g1,g2⟩:=in_items I hd hu e i1 rv h1 rx;exact notIn_listAt _ p.isList g1 ⟨.bl (!b),H,I,by rw[g2];rfl,q⟩
 ·obtain⟨a,vs,ea,s1,i1⟩:=Is.tup_sq h2
  subst ea;cases ry;obtain⟨its,rv,p,_⟩:=I.tuple s1;obtain⟨g1,g2⟩:=in_items I hd hu e i1 rv h1 rx;exact notIn_tupleAt _ p g1 ⟨.bl (!b),H,I,by rw[g2];rfl,q⟩
variable {S:Type} {W:Wd S} {c:Dx W}
noncomputable def oEq (neg:Bool) (a b:D):Option D:=if a.dep<=30 then (D.eqq a b).map fun x=>.bl (if neg then !x else x) else none
noncomputable def oIn (neg:Bool) (a b:D):Option D:=match b with
 | .lst l=>if D.depL l<=30 then (inD a l).map fun x=>.bl (if neg then !x else x) else none
 | .tup l=>if D.depL l<=30 then (inD a l).map fun x=>.bl (if neg then !x else x) else none
 | _=>none
set_option tactic.hygienic true in
theorem ze3 {K:PySem.W.Frag} {neg:Bool} (hK:c.K=K):OpD c (rEqD K neg) (oEq neg):=by
 subst hK;intro d1 d2 v1 v2 H st d Q ok z1 z2 e q;unfold oEq at e;split at e
 ·rename_i hd
  cases h:D.eqq d1 d2 with
  | none=>rw[h] at e;cases e
  | some b=>
    rw[h] at e;cases e;exact⟨_,d1,d2,b,z1,z2,hd,h,q _ H Ext.refl ok zp1⟩
 ·cases e
set_option tactic.hygienic true in
theorem od_inD {K:PySem.W.Frag} {neg:Bool} (hK:c.K=K):OpD c (rInD K neg) (oIn neg):=by
 subst hK;intro d1 d2 v1 v2 H st d Q ok z1 z2 e q;unfold oIn at e;split at e
 ·rename_i l
  split at e
  ·rename_i hd
   cases h:inD d1 l with
   | none=>rw[h] at e;cases e
   | some b=>
     rw[h] at e;cases e;exact⟨_,d1,l,b,z1,.inl z2,hd,h,q _ H Ext.refl ok zp1⟩
  ·cases e
 ·rename_i l
  split at e
  ·rename_i hd
   cases h:inD d1 l with
   | none=>rw[h] at e;cases e
   | some b=>
     rw[h] at e;cases e;exact⟨_,d1,l,b,z1,.inr z2,hd,h,q _ H Ext.refl ok zp1⟩
  ·cases e
 ·cases e
end
end L2
end
section
namespace L2
open PySem PySem.Spec PyProof.Rows
section
variable {X:Cx} {S:Type} {W:Wd S} {c:Dx W} {g:Gr} {a b e:Expr} {rest:List Expr} {pos:Pos} {fa fb fc:Fn S} {ga gb gc:Gr}
noncomputable def fAndV (S:Type) (f1 f2:Fn S):Fn S:=fun ρ st=>(f1 ρ st).bind fun d st1=>match d with
 | .bl true=>f2 ρ st1
 | .bl false=>.ok (.bl false) st1
 | _=>.bad
noncomputable def fOrV (S:Type) (f1 f2:Fn S):Fn S:=fun ρ st=>(f1 ρ st).bind fun d st1=>match d with
 | .bl true=>.ok (.bl true) st1
 | .bl false=>f2 ρ st1
 | _=>.bad
noncomputable def fNotV (S:Type) (f1:Fn S):Fn S:=fun ρ st=>(f1 ρ st).bind fun d st1=>match d with
 | .bl b=>.ok (.bl (!b)) st1
 | _=>.bad
theorem de_one {op} {f:Fn S} (h:DE X c g a f):DE X c g (.BoolOp op [a] pos) f:=pe_one h
theorem de_and (ha:DE X c ga a fa) (hb:DE X c g (.BoolOp .And (b::rest) pos) fb):DE X c g (.BoolOp .And (a::b::rest) pos) (fAndV S fa fb):=
 (pe_and ha hb).imp fun σ H Q hI32=>by
  obtain⟨ρ,st,R,ok,w⟩:=hI32;refine zf8 (Go.bind (g':=ga) (k:=fun d ρ st1=>match d with | .bl true=>fb ρ st1 | .bl false=>.ok (.bl false) st1 | _=>.bad) R ok w) fun v H1 hI96=>?_
  obtain⟨d,st1,R1,ok1,e1,z,w1⟩:=hI96;cases d with
  | bl k=>
    have zv:v=.bl k:=Is.bl_iff.mp (show Is c.K (fun b=>¬W.mv b) H1 (.bl k) v from z.toR);refine⟨k,zv,?_⟩;cases k with
    | true=>exact iteT ⟨ρ,st1,R1,ok1,w1⟩
    | false=>exact iteF (w1 (.bl false) H1 Ext.refl ok1 (New.val R1 zp1 g))
  | _=>exact(show False from w1).elim
theorem de_or (ha:DE X c ga a fa) (hb:DE X c g (.BoolOp .Or (b::rest) pos) fb):DE X c g (.BoolOp .Or (a::b::rest) pos) (fOrV S fa fb):=
 (pe_or ha hb).imp fun σ H Q hI33=>by
  obtain⟨ρ,st,R,ok,w⟩:=hI33;refine zf8 (Go.bind (g':=ga) (k:=fun d ρ st1=>match d with | .bl true=>.ok (.bl true) st1 | .bl false=>fb ρ st1 | _=>.bad) R ok w) fun v H1 hI97=>?_
  obtain⟨d,st1,R1,ok1,e1,z,w1⟩:=hI97;cases d with
  | bl k=>
    have zv:v=.bl k:=Is.bl_iff.mp (show Is c.K (fun b=>¬W.mv b) H1 (.bl k) v from z.toR);refine⟨k,zv,?_⟩;cases k with
    | false=>exact iteF ⟨ρ,st1,R1,ok1,w1⟩
    | true=>exact iteT (w1 (.bl true) H1 Ext.refl ok1 (New.val R1 zp1 g))
  | _=>exact(show False from w1).elim
theorem de_not (ha:DE X c ga a fa):DE X c g (.UnaryOp .Not a pos) (fNotV S fa):=
 (pe_not ha).imp fun σ H Q hI34=>by
  obtain⟨ρ,st,R,ok,w⟩:=hI34;refine zf8 (Go.bind (g':=ga) (k:=fun d ρ st1=>match d with | .bl b=>.ok (.bl (!b)) st1 | _=>.bad) R ok w) fun v H1 hI98=>?_
  obtain⟨d,st1,R1,ok1,e1,z,w1⟩:=hI98;cases d with
  | bl k=>
    have zv:v=.bl k:=Is.bl_iff.mp (show Is c.K (fun b=>¬W.mv b) H1 (.bl k) v from z.toR);exact⟨k,zv,w1 (.bl (!k)) H1 Ext.refl ok1 (New.val R1 zp1 g)⟩
  | _=>exact(show False from w1).elim
noncomputable def fChain (S:Type) (o o':D->D->Option D) (f1 f2 f3:Fn S):Fn S:=fun ρ st=>(f1 ρ st).bind fun d1 st1=>(f2 ρ st1).bind fun d2 st2=>match o d1 d2 with
 | some (.bl true)=>(f3 ρ st2).bind fun d3 st3=>lift (o' d2 d3) st3
 | some (.bl false)=>.ok (.bl false) st2
 | _=>.bad
theorem tD_chain {r r':R2} {o o':D->D->Option D} {σ:St} {H:Hp} {Q:VK} (hr:OpD c r o) (hr':OpD c r' o') (h:tD c g (fChain S o o' fa fb fc) σ H Q):tChain r r' (tD c ga fa) (tD c gb fb) (tD c gc fc) σ H Q:=by
 obtain⟨ρ,st,R,ok,w⟩:=h;refine zf8 (Go.bind (g':=ga) (k:=fun d1 ρ st1=>(fb ρ st1).bind fun d2 st2=>match o d1 d2 with | some (.bl true)=>(fc ρ st2).bind fun d3 st3=>lift (o' d2 d3) st3 | some (.bl false)=>.ok (.bl false) st2 | _=>.bad) R ok w) fun v1 H1 hI99=>?_
 obtain⟨d1,st1,R1,ok1,e1,z1,w1⟩:=hI99;refine zf8 (Go.bind (g':=gb) (k:=fun d2 ρ st2=>match o d1 d2 with | some (.bl true)=>(fc ρ st2).bind fun d3 st3=>lift (o' d2 d3) st3 | some (.bl false)=>.ok (.bl false) st2 | _=>.bad) R1 ok1 w1) fun v2 H2 hI100=>?_
 obtain⟨d2,st2,R2,ok2,e2,z2,w2⟩:=hI100;cases q:o d1 d2 with
 | none=>simp only[q] at w2;exact(show False from w2).elim
 | some d=>
   simp only[q] at w2;cases d with
   | bl k=>
     refine hr d1 d2 v1 v2 H2 st2 (.bl k) _ ok2 (z1.toR.ext e2 ok1) z2.toR q fun v H' e' ok' n=>?_
     refine⟨k,Is.bl_iff.mp n,?_⟩;have R':=R2.ext ok2 e';cases k with
     | false=>exact iteF (w2 (.bl false) H' e' ok' (New.val R2 zp1 g))
     | true=>
       refine iteT ?_;have w3:Go c g σ (fun ρ st=>(fc ρ st).bind fun d3 st3=>lift (o' d2 d3) st3) H2 Q ρ st2:=w2;refine zf8 (Go.bind (g':=gc) (k:=fun d3 _ st3=>lift (o' d2 d3) st3) R' ok' (w3.from e' ok')) fun v3 H3 hI101=>?_
       obtain⟨d3,st3,R3,ok3,e3,z3,w4⟩:=hI101;obtain⟨d,e5,q5⟩:=Go.done w4 ok3;exact hr' d2 d3 v2 v3 H3 st3 d Q ok3 ((z2.toR.ext e' ok2).ext e3 ok') z3.toR e5 fun v H' a b n=>q5 v H' a b (n.val R3 g)
   | _=>exact(show False from w2).elim
theorem de_chain {op op':CmpOp} {r r':R2} {o o':D->D->Option D} {d:Expr} (ho:OpR X (compareOp op) r) (ho':OpR X (compareOp op') r') (hr:OpD c r o) (hr':OpD c r' o') (ha:DE X c ga a fa) (hb:DE X c gb b fb) (hd:DE X c gc d fc)
 (hm:lastMarks [op,op'] [b,d]=false:=by with_unfolding_all rfl):DE X c g (.Compare a [op,op'] [b,d] pos) (fChain S o o' fa fb fc):=
 (pe_chain ho ho' ha hb hd hm).imp fun σ H Q h=>tD_chain hr hr' h
noncomputable def D.isNon:D->Bool
 | .non=>true
 | _=>false
noncomputable def oIsN (neg:Bool) (a b:D):Option D:=match b with
 | .non=>some (.bl (if neg then !a.isNon else a.isNon))
 | _=>none
theorem is_non {K:PySem.W.Frag} {A:Addr->Prop} {H:Hp} {d:D} {v:V} (h:Is K A H d v):(decide (v=V.non))=d.isNon:=by
 cases d with
 | non=>rw[Is.non_iff.mp h];rfl
 | bl b=>rw[Is.bl_iff.mp h];rfl
 | int i=>rw[Is.int_iff.mp h];rfl
 | str x=>rw[Is.str_iff.mp h];rfl
 | tup l=>obtain⟨a,vs,e,_⟩:=Is.tup_sq h;rw[e];rfl
 | lst l=>obtain⟨a,vs,e,_⟩:=Is.lst_iff.mp h;rw[e];rfl
 | dct k l=>obtain⟨a,vs,e,_⟩:=Is.dct_iff.mp h;rw[e];rfl
 | fl l=>obtain⟨a,o,vs,e,_⟩:=Is.fl_iff.mp h;rw[e];rfl
theorem od_isN:OpD c (fun x y H Q=>y=.non/\Q (.bl (decide (x=.non))) H) (oIsN false):=by
 intro d1 d2 v1 v2 H st d Q ok z1 z2 e q;cases d2 with
 | non=>
   cases e;refine⟨Is.non_iff.mp z2,?_⟩;rw[is_non z1];exact q _ H Ext.refl ok zp1
 | _=>cases e
theorem od_notN:OpD c (fun x y H Q=>y=.non/\Q (.bl (!decide (x=.non))) H) (oIsN true):=by
 intro d1 d2 v1 v2 H st d Q ok z1 z2 e q;cases d2 with
 | non=>
   cases e;refine⟨Is.non_iff.mp z2,?_⟩;rw[is_non z1];exact q _ H Ext.refl ok zp1
 | _=>cases e
noncomputable def fIfE (S:Type) (t:FnT S) (f1 f2:Fn S):Fn S:=fun ρ st=>(t ρ st).bind fun k st1=>if k=true then f1 ρ st1 else f2 ρ st1
theorem de_if {t:FnT S} {d:Expr} (ht:DT X c d t) (ha:DE X c g a fa) (hb:DE X c g b fb):DE X c g (.IfExp d a b pos) (fIfE S t fa fb):=
 (pe_ifExp ht ha hb).imp fun σ H Q hI35=>by
  obtain⟨ρ,st,R,ok,w⟩:=hI35;refine⟨ρ,st,R,ok,za6 (za3.mp w) (fun k st1 q H1 e ok1=>?_) fun x st1 q=>q⟩;have q':Go c g σ (if k=true then fa else fb) H Q ρ st1:=by
   cases k<;>exact q
  have q2:=q'.from e ok1;cases k with
  | true=>exact iteT ⟨ρ,st1,R.ext ok e,ok1,q2⟩
  | false=>exact iteF ⟨ρ,st1,R.ext ok e,ok1,q2⟩
noncomputable def fNeg (S:Type) (f:Fn S):Fn S:=fun ρ st=>(f ρ st).bind fun d st1=>match d with
 | .int i=>.ok (.int (-i)) st1
 | _=>.bad
theorem de_neg (ha:DE X c ga a fa):DE X c g (.UnaryOp .USub a pos) (fNeg S fa):=
 (pe_un un_neg ha).imp fun σ H Q hI36=>by
  obtain⟨ρ,st,R,ok,w⟩:=hI36;refine zf8 (Go.bind (g':=ga) (k:=fun d _ st1=>match d with | .int i=>.ok (.int (-i)) st1 | _=>.bad) R ok w) fun v H1 hI102=>?_
  obtain⟨d,st1,R1,ok1,e1,z,w1⟩:=hI102;cases d with
  | int i=>exact⟨i,Is.int_iff.mp (show Is c.K (fun b=>¬W.mv b) H1 (.int i) v from z.toR),w1 (.int (-i)) H1 Ext.refl ok1 (New.val R1 new_int g)⟩
  | _=>exact(show False from w1).elim
end
end L2
end
section
namespace L2
open PySem PySem.Spec PyProof.Rows
noncomputable def D.ty:D->String
 | .non=>"NoneType"
 | .bl _=>"bool"
 | .int _=>"int"
 | .str _=>"str"
 | .tup _=>"tuple"
 | .lst _=>"list"
 | .dct _ _=>"dict"
 | .fl _=>"list"
inductive Bt where
 | int | bool | str | list | tuple | dict
noncomputable def Bt.nm:Bt->String
 | .int=>"int"
 | .bool=>"bool"
 | .str=>"str"
 | .list=>"list"
 | .tuple=>"tuple"
 | .dict=>"dict"
noncomputable def isI (T:Bt) (d:D):Bool:=match T,d with
 | .int,.int _=>true
 | .int,.bl _=>true
 | .bool,.bl _=>true
 | .str,.str _=>true
 | .list,.lst _=>true
 | .list,.fl _=>true
 | .tuple,.tup _=>true
 | .dict,.dct _ _=>true
 | _,_=>false
theorem kit_tab (K:PySem.W.Frag) (T:Bt) (d:D):PySem.W.kitOne K (.type d.ty) (.type T.nm)=some (isI T d):=by
 cases T<;>cases d<;>first | rfl | decide
section
variable {X:Cx} {pins:List (Addr×Obj)} {σ:St} {H:Hp} {s:Shared}
theorem isinstD {A0:Around} {E:Value->Shared->Prop} {Q:Value->Shared->Prop} {A:Addr->Prop} {d:D} {v:V} {u:Value} (T:Bt) (I:Inv X pins σ H s) (h:Is X.K A H d v) (r:RelV v u) (hq:∀tk,Q (.bool (isI T d)) { s with toks:=tk }) :
 wpAny (model X.prog X.w) A0 (call (.builtin "isinstance") [u,.type T.nm]) Q E s:=by
 have e:=kit_tab X.K T d;cases d with
 | non=>rw[Is.non_iff.mp h] at r;exact zi9 I r .non e hq
 | bl b=>rw[Is.bl_iff.mp h] at r;exact zi9 I r (.bl b) e hq
 | int i=>rw[Is.int_iff.mp h] at r;exact zi9 I r (.int i) e hq
 | str x=>rw[Is.str_iff.mp h] at r;exact zi9 I r (.str x) e hq
 | lst l=>obtain⟨a,vs,ea,_,e1,_⟩:=Is.lst_iff.mp h;rw[ea] at r;exact zi9 I r (.lst e1) e hq
 | fl l=>obtain⟨a,o,vs,ea,e1,_⟩:=Is.fl_iff.mp h;rw[ea] at r;exact zi9 I r (.frz e1) e hq
 | dct k l=>
   obtain⟨a,vs,ea,_,_,q⟩:=Is.dct_iff.mp h;rw[ea] at r;rcases q with⟨_,_,_,e1⟩ | ⟨_,_,_,e1⟩
   ·exact zi9 I r (.dK e1) e hq
   ·exact zi9 I r (.dT e1) e hq
 | tup l=>
   obtain⟨a,vs,ea,s1,_⟩:=Is.tup_sq h;rw[ea] at r;cases r;obtain⟨its,_,⟨o,h1,h2,_⟩,_⟩:=I.tuple s1;exact PySem.W.kia_one PySem.W.kitx_tuple I.kIn ⟨o,h1,h2⟩ e (fun z=>nomatch z) hq
variable {S:Type} {W:Wd S} {c:Dx W} {g ga:Gr}
noncomputable def fIs (S:Type) (T:Bt) (f:Fn S):Fn S:=fun ρ st=>(f ρ st).bind fun d st1=>.ok (.bl (isI T d)) st1
theorem ze1 {e:Expr} {x:Str} {p p2 pos:Pos} {f:Fn S} (T:Bt) (hK:c.K=X.K) (hg:Gl X "isinstance") (hm:X.mg "isinstance" = none) (hg2:Gl X x) (hm2:X.mg x=none) (hv:bootBuiltins x=some (.type T.nm)) (he:DE X c ga e f)
 (hs:starEach (e::[.Name x p2]) X.env=(false,eval e X.env)::starEach [.Name x p2] X.env:=by rfl) (hs2:starEach [.Name x p2] X.env=(false,eval (.Name x p2) X.env)::starEach [] X.env:=by rfl) (hpl:(backTo pos (starEach [.Name x p2] X.env)).any (·.1)=false:=by rfl) (hn:x≠"__name__":=by decide) (hd:(x == ("__debug__" : Str))=false:=by decide) :
 DE X c g (.Call (.Name "isinstance" p) [e,.Name x p2] [] pos) (fIs S T f):=by
 have hp:PE X (.Call (.Name "isinstance" p) [e,.Name x p2] [] pos) (tCB (fun vs H Q=>∃A d v,vs=[v,.ty T.nm]/\Is X.K A H d v/\Q (.bl (isI T d)) H) (tCons (tD c ga f) (tCons (tC (.ty T.nm)) tNil))):=by
  refine zn8 (id:="isinstance") ?_ hg hm boot_isinstance (zb9 he (zb9 (pe_bltn hg2 hm2 hv rfl hn hd) zh1 hs2) hs) (by decide) (by decide) hs hpl;intro pins s σ H xs us Q I r h;obtain⟨A,d,v,rfl,hi,q⟩:=h;obtain⟨u,w',rfl,r1,r2⟩:=vals2 r;cases r2;exact isinstD T I hi r1 fun tk=>⟨.bl _,H,I.tok tk,rfl,q⟩
 refine hp.imp fun σ H Q hI103=>?_
 obtain⟨ρ,st,R,ok,w⟩:=hI103;refine zf8 (Go.bind (g':=ga) (k:=fun d _ st1=>.ok (.bl (isI T d)) st1) R ok w) fun v H1 hI104=>?_
 obtain⟨d,st1,R1,ok1,e1,z,w1⟩:=hI104;exact⟨_,d,v,rfl,hK▸(show Is c.K (fun b=>¬W.mv b) H1 d v from z.toR),w1 _ H1 Ext.refl ok1 (New.val R1 zp1 g)⟩
end
section
variable {X:Cx} {S:Type} {W:Wd S} {c:Dx W}
noncomputable def oLen:List D->Option D
 | [.lst l]=>some (.int l.length)
 | [.tup l]=>some (.int l.length)
 | _=>none
set_option tactic.hygienic true in
theorem cd_len {K:PySem.W.Frag} (hK:c.K=K):CallD c (fun xs H Q=>∃p ys,xs=[.ref p]/\(SqL K H p ys\/SqT K H p ys)/\Q (.int ys.length) H) oLen:=by
 subst hK;intro l vs H st d Q ok z e q;unfold oLen at e;split at e
 ·rename_i m
  cases e;obtain⟨v,r,e1,i1,i2⟩:=IsL.cons.mp z;obtain⟨a,us,ea,_,s1,i3⟩:=Is.lst_iff.mp i1;rw[IsL.nil.mp i2,ea] at e1;exact⟨a,us,e1,.inl (.of s1),by rw[<-i3.length];exact q _ H Ext.refl ok new_int⟩
 ·rename_i m
  cases e;obtain⟨v,r,e1,i1,i2⟩:=IsL.cons.mp z;obtain⟨a,us,ea,s1,i3⟩:=Is.tup_sq i1;rw[IsL.nil.mp i2,ea] at e1;exact⟨a,us,e1,.inr s1,by rw[<-i3.length];exact q _ H Ext.refl ok new_int⟩
 ·cases e
noncomputable def oTuple:List D->Option D
 | [.lst l]=>if D.immL l=true then some (.tup l) else none
 | [.tup l]=>if D.immL l=true then some (.tup l) else none
 | _=>none
set_option tactic.hygienic true in
theorem cd_tuple {K:PySem.W.Frag} (hK:c.K=K):CallD c (fun xs H Q=>∃p ys,xs=[.ref p]/\((SqL K H p ys/\∀l,H l=none->Q (.ref l) (upd H l (.tup ys)))\/(SqT K H p ys/\Q (.ref p) H))) oTuple:=by
 subst hK;intro l vs H st d Q ok z e q;unfold oTuple at e;split at e
 ·rename_i m
  split at e
  ·rename_i im
   cases e;obtain⟨v,r,e1,i1,i2⟩:=IsL.cons.mp z;obtain⟨a,us,ea,_,s1,i3⟩:=Is.lst_iff.mp i1;rw[IsL.nil.mp i2,ea] at e1;exact⟨a,us,e1,.inl ⟨.of s1,fun p hp=>q _ _ (Ext.laid hp) (zm2 ok hp) (New.tup ok hp (fun _ n=>n) im i3)⟩⟩
  ·cases e
 ·rename_i m
  split at e
  ·rename_i im
   cases e;obtain⟨v,r,e1,i1,i2⟩:=IsL.cons.mp z;obtain⟨a,us,ea,s1,i3⟩:=Is.tup_iff.mp i1;rw[IsL.nil.mp i2,ea] at e1;exact⟨a,us,e1,.inr ⟨.of s1,q _ H Ext.refl ok (Is.tup s1 (IsL.ofImm im i3))⟩⟩
  ·cases e
 ·cases e
noncomputable def oList:List D->Option D
 | [.lst l]=>if D.immL l=true then some (.lst l) else none
 | [.tup l]=>if D.immL l=true then some (.lst l) else none
 | _=>none
set_option tactic.hygienic true in
theorem cd_list {K:PySem.W.Frag} (hK:c.K=K):CallD c (fun xs H Q=>∃p ys,xs=[.ref p]/\(SqL K H p ys\/SqT K H p ys)/\∀l,H l=none->Q (.ref l) (upd H l (.lst ys))) oList:=by
 subst hK;intro l vs H st d Q ok z e q;unfold oList at e;split at e
 ·rename_i m
  split at e
  ·rename_i im
   cases e;obtain⟨v,r,e1,i1,i2⟩:=IsL.cons.mp z;obtain⟨a,us,ea,_,s1,i3⟩:=Is.lst_iff.mp i1;rw[IsL.nil.mp i2,ea] at e1;exact⟨a,us,e1,.inl (.of s1),fun p hp=>q _ _ (Ext.laid hp) (zm2 ok hp) (New.lst ok hp (fun _ n=>n) im i3)⟩
  ·cases e
 ·rename_i m
  split at e
  ·rename_i im
   cases e;obtain⟨v,r,e1,i1,i2⟩:=IsL.cons.mp z;obtain⟨a,us,ea,s1,i3⟩:=Is.tup_sq i1;rw[IsL.nil.mp i2,ea] at e1;exact⟨a,us,e1,.inr s1,fun p hp=>q _ _ (Ext.laid hp) (zm2 ok hp) (New.lst ok hp (fun _ n=>n) im i3)⟩
  ·cases e
 ·cases e
noncomputable def oInt:List D->Option D
 | [.int i]=>some (.int i)
 | [.bl k]=>some (.int (if k then 1 else 0))
 | _=>none
set_option tactic.hygienic true in
theorem cd_int:CallD c (fun xs H Q=>(∃i,xs=[.int i]/\Q (.int i) H)\/∃k,xs=[.bl k]/\Q (.int (if k then 1 else 0)) H) oInt:=by
 intro l vs H st d Q ok z e q;unfold oInt at e;split at e
 ·rename_i i
  cases e;obtain⟨v,r,e1,i1,i2⟩:=IsL.cons.mp z;rw[IsL.nil.mp i2,Is.int_iff.mp i1] at e1;exact .inl ⟨i,e1,q _ H Ext.refl ok new_int⟩
 ·rename_i i
  cases e;obtain⟨v,r,e1,i1,i2⟩:=IsL.cons.mp z;rw[IsL.nil.mp i2,Is.bl_iff.mp i1] at e1;exact .inr ⟨i,e1,q _ H Ext.refl ok new_int⟩
 ·cases e
noncomputable def oInts2 (f:Int->Int->Int):List D->Option D
 | [.int i,.int j]=>some (.int (f i j))
 | _=>none
set_option tactic.hygienic true in
theorem cd_ints2 (f:Int->Int->Int):CallD c (fun xs H Q=>∃i j,xs=[.int i,.int j]/\Q (.int (f i j)) H) (oInts2 f):=by
 intro l vs H st d Q ok z e q;unfold oInts2 at e;split at e
 ·rename_i i j
  cases e;obtain⟨v,r,e1,i1,i2⟩:=IsL.cons.mp z;obtain⟨v',r',e1',i1',i2'⟩:=IsL.cons.mp i2;rw[e1',IsL.nil.mp i2',Is.int_iff.mp i1,Is.int_iff.mp i1'] at e1;exact⟨i,j,e1,q _ H Ext.refl ok new_int⟩
 ·cases e
noncomputable def zg6:List D->Option (List Bool)
 | []=>some []
 | .bl b::l=>(zg6 l).map fun r=>b::r
 | _=>none
theorem boolsOf_is {K:PySem.W.Frag} {A:Addr->Prop} {H:Hp}:∀{l:List D} {vs:List V} {bs:List Bool},zg6 l=some bs->IsL K A H l vs->vs=bs.map V.bl
 | [],vs,bs,e,h=>by cases e;exact IsL.nil.mp h
 | .bl b::l,vs,bs,e,h=>by
   unfold zg6 at e;cases q:zg6 l with
   | none=>rw[q] at e;cases e
   | some r=>
     rw[q] at e;cases e;obtain⟨v,us,e1,i1,i2⟩:=IsL.cons.mp h;rw[e1,Is.bl_iff.mp i1,boolsOf_is q i2];rfl
 | .non::_,_,_,e,_=>by simp[zg6] at e
 | .int _::_,_,_,e,_=>by simp[zg6] at e
 | .str _::_,_,_,e,_=>by simp[zg6] at e
 | .tup _::_,_,_,e,_=>by simp[zg6] at e
 | .lst _::_,_,_,e,_=>by simp[zg6] at e
 | .dct _ _::_,_,_,e,_=>by simp[zg6] at e
noncomputable def oBools (f:List Bool->Bool):List D->Option D
 | [.lst l]=>(zg6 l).map fun bs=>.bl (f bs)
 | _=>none
set_option tactic.hygienic true in
theorem cd_bools {K:PySem.W.Frag} (f:List Bool->Bool):CallD c (fun xs H Q=>∃(a:Addr) (bs:List Bool),xs=[.ref a]/\SqL K H a (bs.map V.bl)/\Q (.bl (f bs)) H) (oBools f):=by
 intro l vs H st d Q ok z e q;unfold oBools at e;split at e
 ·rename_i m
  cases qb:zg6 m with
  | none=>rw[qb] at e;cases e
  | some bs=>
    rw[qb] at e;cases e;obtain⟨v,r,e1,i1,i2⟩:=IsL.cons.mp z;obtain⟨a,us,ea,_,s1,i3⟩:=Is.lst_iff.mp i1;rw[IsL.nil.mp i2,ea] at e1;rw[boolsOf_is qb i3] at s1;exact⟨a,bs,e1,.of s1,q _ H Ext.refl ok zp1⟩
 ·cases e
noncomputable def oCatL:D->D->Option D
 | .lst l,.lst m=>if D.immL l=true/\D.immL m=true/\l.length+m.length<=sizeLine then some (.lst (l++m)) else none
 | _,_=>none
set_option tactic.hygienic true in
theorem od_cat:OpD c rCat oCatL:=by
 intro d1 d2 v1 v2 H st d Q ok z1 z2 e q;unfold oCatL at e;split at e
 ·rename_i l m
  split at e
  ·rename_i h
   cases e;obtain⟨a,vs,ea,_,s1,i1⟩:=Is.lst_iff.mp z1;obtain⟨b,us,eb,_,s2,i2⟩:=Is.lst_iff.mp z2;exact⟨a,b,vs,us,ea,eb,s1,s2,by rw[<-i1.length,<-i2.length];exact h.2.2,fun p hp=>q _ _ (Ext.laid hp) (zm2 ok hp) (New.lst ok hp (fun _ n=>n) (zg4 h.1 h.2.1) (i1.append i2))⟩
  ·cases e
 ·cases e
noncomputable def oCatT:D->D->Option D
 | .tup l,.tup m=>if D.immL l=true/\D.immL m=true/\l.length+m.length<=sizeLine/\l.isEmpty=false then some (.tup (l++m)) else none
 | _,_=>none
set_option tactic.hygienic true in
theorem od_catT {K:PySem.W.Frag} (hK:c.K=K):OpD c (rCatT K) oCatT:=by
 subst hK;intro d1 d2 v1 v2 H st d Q ok z1 z2 e q;unfold oCatT at e;split at e
 ·rename_i l m
  split at e
  ·rename_i h
   cases e;obtain⟨a,vs,ea,s1,i1⟩:=Is.tup_iff.mp z1;obtain⟨b,us,eb,s2,i2⟩:=Is.tup_sq z2;have hl:vs≠[]:=fun z=>by
    have:=i1.length;rw[z] at this;have h4:=h.2.2.2;cases l with
    | nil=>cases h4
    | cons _ _=>cases this
   refine⟨a,b,vs,us,ea,eb,.of s1,s2,hl,by rw[<-i1.length,<-i2.length];exact h.2.2.1,fun hz=>?_,fun _ p hp=>q _ _ (Ext.laid hp) (zm2 ok hp) (New.tup ok hp (fun _ n=>n) (zg4 h.1 h.2.1) (i1.append i2))⟩;have hm:m=[]:=by
    have:=i2.length;rw[hz] at this;exact List.length_eq_zero_iff.mp this
   rw[hm,List.append_nil] at q;exact q _ H Ext.refl ok (Is.tup s1 (IsL.ofImm h.1 i1))
  ·cases e
 ·cases e
end
end L2
end
section
namespace L2
open PySem PySem.Spec PyProof.Rows
noncomputable def keyOf1:D->Option Key
 | .int i=>some (.inl i)
 | .str x=>some (.inr x)
 | _=>none
noncomputable def keysL:List D->Option (List Key)
 | []=>some []
 | d::l=>(keyOf1 d).bind fun k=>(keysL l).map fun r=>k::r
noncomputable def zd7:D->Option (List Key)
 | .tup l=>keysL l
 | _=>none
theorem keyOf1_dKey (k:Key):keyOf1 (dKey k)=some k:=by cases k<;>rfl
theorem keysL_map:∀k:List Key,keysL (k.map dKey)=some k
 | []=>rfl
 | a::k=>by
   show (keyOf1 (dKey a)).bind (fun x=>(keysL (k.map dKey)).map fun r=>x::r)=some (a::k);rw[keyOf1_dKey,keysL_map k];rfl
theorem zh3 (k:List Key):zd7 (dKeys k)=some k:=keysL_map k
section
variable {K:PySem.W.Frag} {A:Addr->Prop} {H:Hp}
theorem keyOf1_is {d:D} {k:Key} {v:V} (e:keyOf1 d=some k) (h:Is K A H d v):v=kV k/\d=dKey k:=by
 cases d with
 | int i=>cases e;exact⟨Is.int_iff.mp h,rfl⟩
 | str x=>cases e;exact⟨Is.str_iff.mp h,rfl⟩
 | _=>cases e
theorem keysL_is:∀{l:List D} {k:List Key} {vs:List V},keysL l=some k->IsL K A H l vs->vs=k.map kV/\l=k.map dKey
 | [],k,vs,e,h=>by cases e;exact⟨IsL.nil.mp h,rfl⟩
 | d::l,k,vs,e,h=>by
   unfold keysL at e;cases q1:keyOf1 d with
   | none=>rw[q1] at e;cases e
   | some a=>
     cases q2:keysL l with
     | none=>rw[q1,q2] at e;cases e
     | some r=>
       rw[q1,q2] at e;have e:some (a::r)=some k:=e;cases e;obtain⟨v,us,e1,i1,i2⟩:=IsL.cons.mp h;obtain⟨e2,e3⟩:=keyOf1_is q1 i1;obtain⟨e4,e5⟩:=keysL_is q2 i2;subst e1 e2 e4;exact⟨rfl,by rw[e3,e5];rfl⟩
theorem keysOf_is {d:D} {k:List Key} {v:V} (e:zd7 d=some k) (h:Is K A H d v):∃b,v=.ref b/\H b=some (.tup (k.map kV))/\d=dKeys k:=by
 cases d with
 | tup l=>
   obtain⟨b,vs,e1,s,i⟩:=Is.tup_iff.mp h;obtain⟨e2,e3⟩:=keysL_is (show keysL l=some k from e) i;exact⟨b,e1,by rw[<-e2];exact s,by rw[e3];rfl⟩
 | _=>cases e
noncomputable def dLook (k:List Key):List D->List D->Option D
 | d::ks,v::vs=>if zd7 d=some k then some v else dLook k ks vs
 | _,_=>none
theorem dLook_val (k:List Key):∀{kk:List (List Key)} {vs:List D} {us:List V},kk.length=us.length->IsL K A H vs us->
 (dLook k (kk.map dKeys) vs=none/\valV (kk.zip us) k=none)\/∃d v,dLook k (kk.map dKeys) vs=some d/\valV (kk.zip us) k=some v/\Is K A H d v
 | [],vs,us,hl,h=>.inl ⟨by unfold dLook;cases vs<;>rfl,rfl⟩
 | x::kk,vs,us,hl,h=>by
   cases vs with
   | nil=>rw[IsL.nil.mp h] at hl;cases hl
   | cons d vs=>
     obtain⟨v,r,e1,i1,i2⟩:=IsL.cons.mp h;subst e1;have hl':kk.length=r.length:=by simpa using hl
     by_cases e:x=k
     ·refine .inr ⟨d,v,?_,valV_pos (p:=(x,v)) e,i1⟩
      show (if zd7 (dKeys x)=some k then some d else _)=some d;rw[zh3,if_pos (by rw[e])]
     ·have e':¬zd7 (dKeys x)=some k:=by rw[zh3];exact fun z=>e (Option.some.inj z)
      have a1:dLook k ((x::kk).map dKeys) (d::vs)=dLook k (kk.map dKeys) vs:=by
       show (if zd7 (dKeys x)=some k then some d else _)=_;rw[if_neg e']
      have a2:valV ((x::kk).zip (v::r)) k=valV (kk.zip r) k:=valV_neg (p:=(x,v)) e;rw[a1,a2];exact dLook_val k hl' i2
end
section
variable {X:Cx} {S:Type} {W:Wd S} {c:Dx W} {g ga gb:Gr} {a b:Expr} {pos:Pos} {fa fb:Fn S}
theorem de_dnewT:DE X c g (.Dict [] [] pos) (fC S (.dct [.non] [])):=pe_dnewT.imp fun σ H Q ⟨ρ,st,R,ok,w⟩ p hp=>
 w _ _ (Ext.laid hp) (zm2 ok hp) (New.val R (Is.dct_iff.mpr ⟨p,[],rfl,⟨mv_free ok hp,hp⟩,IsL.nil.mpr rfl,.inr ⟨[],rfl,rfl,zb4⟩⟩) g)
theorem dget_D {A:Addr->Prop} {H:Hp} {K:PySem.W.Frag} {k:D} {ks vs:List D} {kk:List Key} {v1 v2:V} (hk:zd7 k=some kk) (h1:Is K A H k v1) (h2:Is K A H (.dct (.non::ks) vs) v2) :
 ∃a o,v2=.ref a/\DGet H a v1 o/\((dLook kk ks vs=none/\o=none)\/∃d v,dLook kk ks vs=some d/\o=some v/\Is K A H d v):=by
 obtain⟨b,eb,hb,_⟩:=keysOf_is hk h1;obtain⟨a,us,ea,_,i,q⟩:=Is.dct_iff.mp h2;rcases q with⟨k1,e1,_,_⟩ | ⟨k2,e2,el,eH⟩
 ·cases k1 with
  | nil=>cases e1
  | cons z r=>
    have:D.non=dKey z:=(List.cons.inj e1).1;cases z<;>cases this
 ·have e3:ks=k2.map dKeys:=(List.cons.inj e2).2
  subst e3 eb;refine⟨a,_,ea,DGet.t eH hb,?_⟩;rcases dLook_val kk el i with⟨z1,z2⟩ | ⟨d,v,z1,z2,z3⟩
  ·exact .inl ⟨z1,z2⟩
  ·exact .inr ⟨d,v,z1,z2,z3⟩
end
end L2
end
section
namespace L2
open PySem PySem.Spec PyProof.Rows
noncomputable def dPut (k:List Key) (v:D) (ks vs:List D):List D×List D:=
 if (dLook k ks vs).isSome=true then (ks,List.zipWith (fun d u=>if zd7 d=some k then v else u) ks vs) else (ks++[dKeys k],vs++[v])
section
variable {K:PySem.W.Frag} {A:Addr->Prop} {H:Hp}
theorem repl_is {k:List Key} {d:D} {v:V} (hd:Is K A H d v):∀{kk:List (List Key)} {vs:List D} {us:List V},kk.length=us.length->IsL K A H vs us->
 ∃us',IsL K A H (List.zipWith (fun x u=>if zd7 x=some k then d else u) (kk.map dKeys) vs) us'/\kk.length=us'.length/\(kk.zip us).map (fun kv=>if kv.1=k then (kv.1,v) else kv)=kk.zip us'
 | [],vs,us,hl,h=>⟨[],by simpa using IsL.nil.mpr rfl,rfl,rfl⟩
 | x::kk,vs,us,hl,h=>by
   cases vs with
   | nil=>rw[IsL.nil.mp h] at hl;cases hl
   | cons e vs=>
     obtain⟨u,r,e1,i1,i2⟩:=IsL.cons.mp h;subst e1;obtain⟨us',g1,g2,g3⟩:=repl_is hd (kk:=kk) (by simpa using hl) i2;by_cases z:x=k
     ·refine⟨v::us',?_,by simp[g2],?_⟩
      ·show IsL K A H ((if zd7 (dKeys x)=some k then d else e)::_) _
       rw[zh3,if_pos (by rw[z])];exact IsL.cons.mpr ⟨v,us',rfl,hd,g1⟩
      ·show (if x=k then (x,v) else (x,u))::_=(x,v)::kk.zip us'
       rw[if_pos z,<-g3];rfl
     ·refine⟨u::us',?_,by simp[g2],?_⟩
      ·show IsL K A H ((if zd7 (dKeys x)=some k then d else e)::_) _
       rw[zh3,if_neg (fun q=>z (Option.some.inj q))];exact IsL.cons.mpr ⟨u,us',rfl,i1,g1⟩
      ·show (if x=k then (x,v) else (x,u))::_=(x,u)::kk.zip us'
       rw[if_neg z,<-g3];rfl
theorem dPut_is {k:List Key} {d:D} {v:V} (hd:Is K A H d v) {kk:List (List Key)} {vs:List D} {us:List V} (hl:kk.length=us.length) (h:IsL K A H vs us) :
 ∃(kk':List (List Key)) (us':List V),(dPut k d (kk.map dKeys) vs).1=kk'.map dKeys/\IsL K A H (dPut k d (kk.map dKeys) vs).2 us'/\kk'.length=us'.length/\putK (kk.zip us) k v=kk'.zip us':=by
 have hv:=dLook_val k hl h;unfold dPut putK;rw[valV_any];rcases hv with⟨z1,z2⟩ | ⟨d',v',z1,z2,_⟩
 ·rw[z1,z2]
  refine⟨kk++[k],us++[v],?_,?_,?_,?_⟩
  ·simp
  ·simpa using h.append (IsL.one hd)
  ·simp[hl]
  ·simp[List.zip_append hl]
 ·rw[z1,z2]
  obtain⟨us',g1,g2,g3⟩:=repl_is (k:=k) hd hl h;exact⟨kk,us',rfl,g1,g2,g3⟩
end
theorem immL_zip {k:List Key} {d:D} (hd:d.imm=true):∀{ks vs:List D},D.immL vs=true->D.immL (List.zipWith (fun x u=>if zd7 x=some k then d else u) ks vs)=true
 | [],vs,_=>by simp[D.immL]
 | x::ks,[],_=>by simp[D.immL]
 | x::ks,v::vs,h=>by
   have h':v.imm=true/\D.immL vs=true:=by simpa [D.immL] using h
   show (D.imm (if zd7 x=some k then d else v)&&D.immL _)=true;rw[immL_zip hd h'.2];by_cases z:zd7 x=some k
   ·rw[if_pos z,hd];rfl
   ·rw[if_neg z,h'.1];rfl
theorem immL_dPut {k:List Key} {d:D} {ks vs:List D} (hd:d.imm=true) (h:D.immL vs=true):D.immL (dPut k d ks vs).2=true:=by
 unfold dPut;split
 ·exact immL_zip hd h
 ·exact zg4 h (by simp[D.immL,hd])
section
variable {X:Cx} {S:Type} {W:Wd S} {c:Dx W} {g ga gb:Gr} {a b:Expr} {fk fv:Fn S} {i:Nat}
noncomputable def dctOf (ρ:Rho) (i:Nat):Option (List D×List D):=match ρ[i]? with
 | some (.own (.dct (.non::ks) vs))=>if D.immL vs=true then some (ks,vs) else none
 | _=>none
theorem dctOf_some {ρ:Rho} {ks vs:List D} (h:dctOf ρ i=some (ks,vs)):ρ[i]?=some (.own (.dct (.non::ks) vs))/\D.immL vs=true:=by
 unfold dctOf at h;split at h
 ·split at h
  ·cases h;exact⟨by assumption,by assumption⟩
  ·cases h
 ·cases h
noncomputable def sDPutD (S:Type) (i:Nat) (fk fv:Fn S):FnS S:=fun ρ st=>(fv ρ st).bind fun v st1=>match dctOf ρ i with
 | some (ks,vs)=>(fk ρ st1).bind fun k st2=>match zd7 k with
   | some kk=>if v.imm=true/\ks.length<sizeLine then .ok (.nx (ρ.set i (.own (.dct (.non::(dPut kk v ks vs).1) (dPut kk v ks vs).2)))) st2 else .bad
   | none=>.bad
 | none=>.bad
theorem ds_dput {x:Str} {k value:Expr} {p1 p2 pos:Pos} (hu:X.A.units+1<cLine) (hx:PE X (.Name x p1) (tVar i)) (hk:DE X c ga k fk) (hv:DE X c gb value fv) (hs:swapsWith value (some (.Subscript (.Name x p1) k p2)) pos.line X.env=pure false:=by rfl) :
 DS X c (.Assign [.Subscript (.Name x p1) k p2] value pos) (sDPutD S i fk fv):=
 (ps_dput hu hx hk hv hs).imp fun D σ H q=>by
  refine zf8 (tS_expr (g:=gb) (k:=fun v ρ st1=>match dctOf ρ i with
   | some (ks,vs)=>(fk ρ st1).bind fun k st2=>match zd7 k with
     | some kk=>if v.imm=true/\ks.length<sizeLine then .ok (.nx (ρ.set i (.own (.dct (.non::(dPut kk v ks vs).1) (dPut kk v ks vs).2)))) st2 else .bad
     | none=>.bad
   | none=>.bad) q) fun v H1 hh=>?_
  obtain⟨ρ,d,st0,st1,R,ok,R1,ok1,e1,z,w⟩:=hh;cases hd:dctOf ρ i with
  | none=>simp only[hd] at w;exact(show False from w).elim
  | some kv=>
    obtain⟨ks,vs⟩:=kv;simp only[hd] at w;obtain⟨ho,im⟩:=dctOf_some hd;obtain⟨ad,ea,nn,f0,us0,_⟩:=R1.slot i _ ho;refine⟨.ref ad,zi8 ea,ρ,st1,R1,ok1,za6 (za3.mp w) (fun dk st2 q2 vk H2 e2 ok2 zk=>?_) fun x st2 q2 H2 e2 ok2=>q2 H2 ((e1.trans e2).f0 R) ok2⟩;cases hkk:zd7 dk with
    | none=>simp only[hkk] at q2;exact(show False from q2).elim
    | some kk=>
      simp only[hkk] at q2;by_cases hc:d.imm=true/\ks.length<sizeLine
      ·rw[if_pos hc] at q2
       have R2:=R1.ext ok1 e2;obtain⟨ad',ea',nn',f0',us,iu,hq⟩:=R2.slot i _ ho;have:ad'=ad:=by
        have:=(zi8 ea').symm.trans (zi8 ea);cases this;rfl
       subst this;obtain⟨bk,ebk,hbk,_⟩:=keysOf_is hkk (show Is c.K (fun b=>¬W.mv b) H2 dk vk from zk.toR);have zv:Is c.K (Av c σ ρ) H2 d v:=Is.ofImm hc.1 (z.toR.ext e2 ok1);rcases hq with⟨k1,x1,_,_⟩ | ⟨k2,x2,el,eH⟩
       ·cases k1 with
        | nil=>cases x1
        | cons y r=>
          have:L2.D.non=dKey y:=(List.cons.inj x1).1;cases y<;>cases this
       ·have e3:ks=k2.map dKeys:=(List.cons.inj x2).2
        subst e3;obtain⟨kk',us',g1,g2,g3,g4⟩:=dPut_is (k:=kk) zv el iu;have hz:(k2.zip us).length<sizeLine:=by
         rw[List.length_zip,<-el,Nat.min_self];have:=hc.2;rw[List.length_map] at this;exact this
        have dp:=DPut.t (v:=v) eH hbk hz;rw[g4] at dp;subst ebk;refine⟨ad',_,rfl,dp,?_⟩;obtain⟨R3,F3⟩:=R2.wr (d':=.dct (.non::(dPut kk d (k2.map dKeys) vs).1) (dPut kk d (k2.map dKeys) vs).2) (o:=.dT (kk'.zip us')) ho (zi8 ea') ⟨(fun u z=>by cases z),(fun ob u z=>by cases z)⟩
         fun kt=>⟨us',g2.mono kt,.inr ⟨kk',by rw[g1],g3,zb4⟩⟩
        exact q2 σ _ ((e1.trans e2).frm.trans F3) (ok_upd ok2 nn.1) R3
      ·rw[if_neg hc] at q2;exact(show False from q2).elim
end
end L2
end
section
namespace L2
open PySem PySem.Spec PyProof.Rows
section
variable {X:Cx} {S:Type} {W:Wd S} {c:Dx W} {g ga gb:Gr}
noncomputable def rCatT0 (K:PySem.W.Frag):R2:=fun x y H Q=>∃a b ys,x=.ref a/\y=.ref b/\SqT K H a []/\SqT K H b ys/\Q (.ref b) H
theorem op_catT0:OpR X (binaryOp .Add) (rCatT0 X.K):=by
 intro pins s σ H x y v u Q I rx ry h;obtain⟨a,b,ys,rfl,rfl,ha,hb,q⟩:=h;cases rx;cases ry;obtain⟨its,r1,p1,_⟩:=I.tuple ha;obtain⟨its2,r2,p2,_⟩:=I.tuple hb;cases r1;obtain⟨⟨cls,dd,data,sl⟩,ho,hc,n,hd⟩:=id p1;obtain⟨⟨cls2,dd2,data2,sl2⟩,ho2,hc2,n2,hd2⟩:=id p2;simp only at hc hd hc2 hd2;subst hc hd hc2 hd2;exact concat_meets ⟨_,ho,rfl⟩ ⟨_,ho2,rfl⟩ noFill_tuple_add seq_tuple_add PySem.F.slot_tuple_add PySem.F.entry_tuple_add (PySem.F.args_tuple_add_2 _ _) (tuple_addW0 a b _ its2.toArray n n2 dd dd2 sl sl2 rfl) ⟨ho,ho2,⟨.ref b,H,I,rfl,q⟩⟩
noncomputable def oCatT0:D->D->Option D
 | .tup [],.tup m=>if D.immL m=true then some (.tup m) else none
 | _,_=>none
set_option tactic.hygienic true in
theorem od_catT0 {K:PySem.W.Frag}:OpD c (rCatT0 K) oCatT0:=by
 intro d1 d2 v1 v2 H st d Q ok z1 z2 e q;unfold oCatT0 at e;split at e
 ·rename_i m
  split at e
  ·rename_i im
   cases e;obtain⟨a,vs,ea,s1,i1⟩:=Is.tup_iff.mp z1;obtain⟨b,us,eb,s2,i2⟩:=Is.tup_iff.mp z2;rw[IsL.nil.mp i1] at s1;refine⟨a,b,us,ea,eb,.of s1,.of s2,?_⟩;rw[<-eb];exact q _ H Ext.refl ok (Is.ofImm (by show D.immL m=true;exact im) z2)
  ·cases e
 ·cases e
noncomputable def sItem (S:Type) (i:Nat) (fk fv:Fn S):FnS S:=fun ρ st=>(fv ρ st).bind fun v st1=>match lstOf ρ i with
 | some l=>(fk ρ st1).bind fun k st2=>match k with
   | .int j=>match ixN l.length j with
     | some n=>if v.imm=true then .ok (.nx (ρ.set i (.own (.lst (l.set n v))))) st2 else .bad
     | none=>.bad
   | _=>.bad
 | none=>.bad
theorem ds_setitem {x:Str} {k value:Expr} {fk fv:Fn S} {i:Nat} {p1 p2 pos:Pos} (hx:PE X (.Name x p1) (tVar i)) (hk:DE X c ga k fk) (hv:DE X c gb value fv)
 (h:∀{tk tv:TE},PE X k tk->PE X value tv->PS X (.Assign [.Subscript (.Name x p1) k p2] value pos) (tAsg tv (gSub (tVar i) tk rSetL))):DS X c (.Assign [.Subscript (.Name x p1) k p2] value pos) (sItem S i fk fv):=
 (h hk hv).imp fun D σ H q=>by
  refine zf8 (tS_expr (g:=gb) (k:=fun v ρ st1=>match lstOf ρ i with
   | some l=>(fk ρ st1).bind fun k st2=>match k with
     | .int j=>match ixN l.length j with
       | some n=>if v.imm=true then .ok (.nx (ρ.set i (.own (.lst (l.set n v))))) st2 else .bad
       | none=>.bad
     | _=>.bad
   | none=>.bad) q) fun v H1 hh=>?_
  obtain⟨ρ,d,st0,st1,R,ok,R1,ok1,e1,z,w⟩:=hh;cases hd:lstOf ρ i with
  | none=>simp only[hd] at w;exact(show False from w).elim
  | some l=>
    simp only[hd] at w;obtain⟨ad,vs,ea,eH,zz,nm⟩:=R1.lstAt hd;refine⟨.ref ad,ea,ρ,st1,R1,ok1,za6 (za3.mp w) (fun dk st2 q2 vk H2 e2 ok2 zk=>?_) fun x st2 q2 H2 e2 ok2=>q2 H2 ((e1.trans e2).f0 R) ok2⟩;cases dk with
    | int j=>
      have zj:vk=.int j:=Is.int_iff.mp (show Is c.K (fun b=>¬W.mv b) H2 (.int j) vk from zk.toR);cases hn:ixN l.length j with
      | none=>simp only[hn] at q2;exact(show False from q2).elim
      | some n=>
        simp only[hn] at q2;by_cases hc:d.imm=true
        ·rw[if_pos hc] at q2
         have R2:=R1.ext ok1 e2;have eH2:=e2 ad _ eH nm;have z2:IsL c.K (Av c σ ρ) H2 l vs:=zz.mono (e2.keepT ok1 fun b a=>⟨a.1,a⟩);have zv:Is c.K (Av c σ ρ) H2 d v:=Is.ofImm hc (z.toR.ext e2 ok1);refine⟨ad,vs,j,n,rfl,zj,eH2,by rw[<-z2.length];exact hn,?_⟩;obtain⟨R3,F3⟩:=R2.wr (d':=.lst (l.set n d)) (o:=.lst (vs.set n v)) (lstOf_some hd) ea ⟨(fun u z=>by cases z),(fun ob u z=>by cases z)⟩ fun kt=>⟨_,zb4,(z2.set n zv).mono kt⟩
         exact q2 σ _ ((e1.trans e2).frm.trans F3) (ok_upd ok2 nm) R3
        ·rw[if_neg hc] at q2;exact(show False from q2).elim
    | _=>exact(show False from q2).elim
end
end L2
end
section
namespace PySem
structure Wlk (prog:Program) (w:World) (it l:Addr) (xs:List Value) (P:Nat->Heap->Prop):Prop where
 keep:∀k h h',P k h->(∀b o,b=it\/b=l->h.get? b=some o->h'.get? b=some o)->P k h'
 item:∀(A:Around) (E:Value->Shared->Prop) (s:Shared) (k:Nat) (x:Value) (Q:Value->Shared->Prop),P k s.heap->xs[k]?=some x->
  (∀h',P (k+1) h'->Heap.SameBut it s.heap h'->Q x { s with heap:=h' })->wpAny (model prog w) A (Builtin.SmallTypes.nextOf (.ref it)) Q E s
 stop:∀(A:Around) (E:Value->Shared->Prop) (s:Shared) (k:Nat) (Q:Value->Shared->Prop),A.handled=none->P k s.heap->xs[k]?=none->
  (∀h' e,Heap.ExtBut it s.heap h'->(∃o,h'.get? e=some o/\o.cls=.type "StopIteration")->E (.ref e) { s with heap:=h' })->wpAny (model prog w) A (Builtin.SmallTypes.nextOf (.ref it)) Q E s
section
variable {prog:Program} {w:World} {it l:Addr} {xs:List Value}
theorem Wlk.tup (hne:it≠l):Wlk prog w it l xs (fun k h=>h.IsTupleIter it l k/\h.IsTuple l xs.toArray) where
 keep:=fun k h h' ⟨a,b⟩ q=>⟨a.at fun o e=>q it o (.inl rfl) e,by
  obtain⟨o,ho,r⟩:=b;exact⟨o,q l o (.inr rfl) ho,r⟩⟩
 item:=fun A E s k x Q ⟨a,b⟩ hx hQ=>zn4 a b (by simpa using hx) fun h' a' sb=>hQ h' ⟨a',by
  obtain⟨o,ho,r⟩:=b;exact⟨o,sb.extBut l o hne.symm ho,r⟩⟩ sb
 stop:=fun A E s k Q hh ⟨a,b⟩ hx hE=>zp0 hh a b (by simpa using hx) hE
theorem Wlk.lst (hne:it≠l):Wlk prog w it l xs (fun k h=>h.IsListIter it l k/\h.IsList l xs.toArray) where
 keep:=fun k h h' ⟨a,b⟩ q=>⟨a.at fun o e=>q it o (.inl rfl) e,b.at fun o e=>q l o (.inr rfl) e⟩
 item:=fun A E s k x Q ⟨a,b⟩ hx hQ=>wpAny_nextOf_list_item a b (by simpa using hx) fun h' a' sb=>hQ h' ⟨a',b.extBut sb.extBut hne.symm⟩ sb
 stop:=fun A E s k Q hh ⟨a,b⟩ hx hE=>wpAny_nextOf_list_end hh a b (by simpa using hx) hE
end
section
variable {prog:Program} {w:World} {A:Around} {E:Value->Shared->Prop} {s:Shared} {z TI TO i1 i2 l1 l2:Addr} {xs ys:List Value} {P1 P2:Nat->Heap->Prop} {k:Nat} {x y a b:Value}
structure ZAp (z TI TO i1 i2 l1 l2:Addr):Prop where
 zTI:z≠TI
 zTO:z≠TO
 z1:z≠i1
 z2:z≠i2
 io:TI≠TO
 I1:TI≠i1
 I2:TI≠i2
 O1:TO≠i1
 O2:TO≠i2
 ii:i1≠i2
 lz1:l1≠z
 lo1:l1≠TO
 li1:l1≠i2
 lz2:l2≠z
 lo2:l2≠TO
 li2:l2≠i1
theorem Wlk.ext {it l:Addr} {xs:List Value} {P:Nat->Heap->Prop} (W:Wlk prog w it l xs P) {k:Nat} {h h':Heap} {c:Addr} (p:P k h) (e:Heap.ExtBut c h h') (n1:it≠c) (n2:l≠c):P k h':=
 W.keep k h h' p fun b o hb q=>by
  rcases hb with r | r
  ·subst r;exact e _ o n1 q
  ·subst r;exact e _ o n2 q
theorem zip_turn {Q:Value->Shared->Prop} (W1:Wlk prog w i1 l1 xs P1) (W2:Wlk prog w i2 l2 ys P2) (D:ZAp z TI TO i1 i2 l1 l2) (hz:IsZip s.heap z TI TO .none) (hTI:IsPair s.heap TI (.ref i1) (.ref i2)) (hTO:IsPair s.heap TO a b)
 (p1:P1 k s.heap) (p2:P2 k s.heap) (hx:xs[k]?=some x) (hy:ys[k]?=some y)
 (hQ:∀h',IsZip h' z TI TO (rawInt s.heap.objs.size)->IsPair h' TO x y->P1 (k+1) h'->P2 (k+1) h'->IsPair h' s.heap.objs.size x y->h'.objs.size=s.heap.objs.size+1->
  (∀c o,c∉[z,TO,i1,i2]->s.heap.get? c=some o->h'.get? c=some o)->Q (.ref s.heap.objs.size) { s with heap:=h' }) :
 wpAny (model prog w) A (Builtin.«zip.__next__» ⟨[.ref z],[]⟩) (fun fin s'=>∃v,fin=.done (.ret v)/\Q v s') E s:=by
 show wpAny (model prog w) A (field (.ref z) 2 >>= fun _=>_) _ _ s;refine wpAny_bind (wpAny_field hz rfl (x:=.bool false) rfl ?_);show wpAny (model prog w) A (field (.ref z) 3 >>= fun _=>_) _ _ s;refine wpAny_bind (wpAny_field hz rfl (x:=.ref TI) rfl (wpAny_bind (wpAny_seqItems hTI rfl ?_)));show wpAny (model prog w) A (Builtin.SmallTypes.ownedTupleIsFree (.ref z) >>= fun _=>_) _ _ s;refine wpAny_bind ?_;unfold Builtin.SmallTypes.ownedTupleIsFree;refine wpAny_bind (wpAny_field hz rfl (x:=.none) rfl (wpAny_pure ?_));rw[if_pos rfl];refine wpAny_bind (wpAny_rule (wpAny_bind (wpAny_field hz rfl (x:=.ref TO) rfl (wpAny_bind (wpAny_setField_rec hz (by simp) fun g1 z1 c1=>?_)))));have z1:IsZip g1 z TI TO .ellipsis:=z1;have c1:Heap.SameBut z s.heap g1:=c1;refine wpAny_bind ?_;simp only[List.zipIdx_cons,List.zipIdx_nil,List.forIn_cons,List.forIn_nil];refine wpAny_bind (wpAny_bind (wpAny_onRaise ?_));show wpAny (model prog w) _ (Builtin.SmallTypes.nextOf (.ref i1) >>= fun _=>_) _ _ _;refine wpAny_bind (W1.item _ _ _ k x _ (W1.ext p1 c1.extBut D.z1.symm D.lz1) hx fun g2 q1 c2=>wpAny_pure ?_);have c2:Heap.SameBut i1 g1 g2:=c2;have t2:IsPair g2 TO a b:=c2.extBut _ _ D.O1 (c1.extBut _ _ D.zTO.symm hTO);refine wpAny_bind (wpAny_seqItems t2 rfl (wpAny_bind (wpAny_updateSeq_pair t2 fun g3 t3 c3=>?_)));have t3:IsPair g3 TO x b:=t3;have c3:Heap.SameBut TO g2 g3:=c3;refine wpAny_bind (wpAny_letGo (wpAny_pure (wpAny_bind (wpAny_bind (wpAny_onRaise ?_)))));show wpAny (model prog w) _ (Builtin.SmallTypes.nextOf (.ref i2) >>= fun _=>_) _ _ _;have p2':P2 k g3:=W2.ext (W2.ext (W2.ext p2 c1.extBut D.z2.symm D.lz2) c2.extBut D.ii.symm D.li2) c3.extBut D.O2.symm D.lo2;refine wpAny_bind (W2.item _ _ _ k y _ p2' hy fun g4 q2 c4=>wpAny_pure ?_);have c4:Heap.SameBut i2 g3 g4:=c4;have t4:IsPair g4 TO x b:=c4.extBut _ _ D.O2 t3;refine wpAny_bind (wpAny_seqItems t4 rfl (wpAny_bind (wpAny_updateSeq_pair t4 fun g5 t5 c5=>?_)));have t5:IsPair g5 TO x y:=t5;have c5:Heap.SameBut TO g4 g5:=c5;refine wpAny_bind (wpAny_letGo (wpAny_pure (wpAny_pure (wpAny_bind (wpAny_seqItems t5 rfl (wpAny_bind (wpAny_newTuple ?_)))))));have sz:g5.objs.size=s.heap.objs.size:=by rw[c5.1,c4.1,c3.1,c2.1,c1.1]
 have k5:∀c o,c∉[z,TO,i1,i2]->s.heap.get? c=some o->g5.get? c=some o:=fun c o n e=>by
  simp only[List.mem_cons,List.not_mem_nil,or_false,not_or] at n;exact c5.extBut _ _ n.2.1 (c4.extBut _ _ n.2.2.2 (c3.extBut _ _ n.2.1 (c2.extBut _ _ n.2.2.1 (c1.extBut _ _ n.1 e))))
 have z5:IsZip g5 z TI TO .ellipsis:=c5.extBut _ _ D.zTO (c4.extBut _ _ D.z2 (c3.extBut _ _ D.zTO (c2.extBut _ _ D.z1 z1)));have r1:P1 (k+1) g5:=W1.ext (W1.ext (W1.ext q1 c3.extBut D.O1.symm D.lo1) c4.extBut D.ii D.li1) c5.extBut D.O1.symm D.lo1;have r2:P2 (k+1) g5:=W2.ext q2 c5.extBut D.O2.symm D.lo2;show wpAny (model prog w) A (Builtin.SmallTypes.ownedTupleHandOut (.ref z) (.ref g5.objs.size) >>= fun _=>_) _ _ _;refine wpAny_bind ?_;unfold Builtin.SmallTypes.ownedTupleHandOut;have z6:IsZip (g5.push { cls:=.type "tuple",data:=.seq #[x,y] }) z TI TO .ellipsis:=Heap.get?_push_of_some _ z5;have lt:z<g5.objs.size:=Heap.lt_size z5;have n5:(g5.push { cls:=.type "tuple",data:=.seq #[x,y] }).get? g5.objs.size=some { cls:=.type "tuple",data:=.seq #[x,y] }:=Heap.get?_push_size _ rfl;refine wpAny_bind (wpAny_setField_rec z6 (by simp) fun g7 z7 c7=>?_);have z7:IsZip g7 z TI TO (rawInt g5.objs.size):=z7;have c7:Heap.SameBut z (g5.push { cls:=.type "tuple",data:=.seq #[x,y] }) g7:=c7;refine wpAny_setField_rec z7 (by simp) fun g8 z8 c8=>wpAny_pure ⟨_,rfl,?_⟩
 have z8:IsZip g8 z TI TO (rawInt g5.objs.size):=z8;have c8:Heap.SameBut z g7 g8:=c8;have up:∀c o,c≠z->g5.get? c=some o->g8.get? c=some o:=fun c o n e=>c8.extBut _ _ n (c7.extBut _ _ n (Heap.get?_push_of_some _ e))
 have ex:Heap.ExtBut z g5 g8:=fun c o n e=>up c o n e
 have t8:IsPair g8 g5.objs.size x y:=c8.extBut _ _ (Nat.ne_of_gt lt) (c7.extBut _ _ (Nat.ne_of_gt lt) n5);have s8:g8.objs.size=g5.objs.size+1:=by rw[c8.1,c7.1,Heap.size_push]
 show Q (.ref g5.objs.size) _;rw[sz] at z8 t8 s8 ⊢;exact hQ g8 z8 (up _ _ D.zTO.symm t5) (W1.ext r1 ex D.z1.symm D.lz1) (W2.ext r2 ex D.z2.symm D.lz2) t8 s8 fun c o n e=>up c o (fun h=>n (by simp[h])) (k5 c o n e)
theorem zip_stop {Q:Fin->Shared->Prop} (hh:A.handled=none) (W1:Wlk prog w i1 l1 xs P1) (W2:Wlk prog w i2 l2 ys P2) (D:ZAp z TI TO i1 i2 l1 l2) (hz:IsZip s.heap z TI TO .none) (hTI:IsPair s.heap TI (.ref i1) (.ref i2)) (hTO:IsPair s.heap TO a b)
 (p1:P1 k s.heap) (p2:P2 k s.heap) (hend:xs[k]?=none\/ys[k]?=none)
 (hE:∀h' e,(∀c o,c∉[z,TO,i1,i2]->s.heap.get? c=some o->h'.get? c=some o)->(∃o,h'.get? e=some o/\o.cls=.type "StopIteration")->E (.ref e) { s with heap:=h' }) :
 wpAny (model prog w) A (Builtin.«zip.__next__» ⟨[.ref z],[]⟩) Q E s:=by
 have nz:∀{h:Heap} {e:Addr} {f0:Value} {o:Obj},IsZip h z TI TO f0->h.get? e=some o->o.cls=.type "StopIteration"->e≠z:=fun {h e f0 o} q1 q2 q3 q4=>by
  subst q4;rw[q1] at q2;cases q2;simp at q3
 show wpAny (model prog w) A (field (.ref z) 2 >>= fun _=>_) _ _ s;refine wpAny_bind (wpAny_field hz rfl (x:=.bool false) rfl ?_);show wpAny (model prog w) A (field (.ref z) 3 >>= fun _=>_) _ _ s;refine wpAny_bind (wpAny_field hz rfl (x:=.ref TI) rfl (wpAny_bind (wpAny_seqItems hTI rfl ?_)));show wpAny (model prog w) A (Builtin.SmallTypes.ownedTupleIsFree (.ref z) >>= fun _=>_) _ _ s;refine wpAny_bind ?_;unfold Builtin.SmallTypes.ownedTupleIsFree;refine wpAny_bind (wpAny_field hz rfl (x:=.none) rfl (wpAny_pure ?_));rw[if_pos rfl];refine wpAny_bind (wpAny_rule (wpAny_bind (wpAny_field hz rfl (x:=.ref TO) rfl (wpAny_bind (wpAny_setField_rec hz (by simp) fun g1 z1 c1=>?_)))));have z1:IsZip g1 z TI TO .ellipsis:=z1;have c1:Heap.SameBut z s.heap g1:=c1;refine wpAny_bind ?_;simp only[List.zipIdx_cons,List.zipIdx_nil,List.forIn_cons,List.forIn_nil];refine wpAny_bind (wpAny_bind (wpAny_onRaise ?_));show wpAny (model prog w) _ (Builtin.SmallTypes.nextOf (.ref i1) >>= fun _=>_) _ _ _;have p1':P1 k g1:=W1.ext p1 c1.extBut D.z1.symm D.lz1;cases hx:xs[k]? with
 | none=>
   refine wpAny_bind (W1.stop _ _ _ k _ hh p1' hx fun g2 e c2 he=>?_);obtain⟨oe,ho,hc⟩:=he;have z2:IsZip g2 z TI TO .ellipsis:=c2 _ _ D.z1 z1;refine wpAny_setField_rec z2 (by simp) fun g3 _ c3=>hE g3 e (fun c o n q=>?_) ⟨oe,c3.extBut _ _ (nz z2 ho hc) ho,hc⟩
   simp only[List.mem_cons,List.not_mem_nil,or_false,not_or] at n;exact c3.extBut _ _ n.1 (c2 _ _ n.2.2.1 (c1.extBut _ _ n.1 q))
 | some x=>
   have hy:ys[k]?=none:=by
    rcases hend with h | h
    ·rw[hx] at h;cases h
    ·exact h
   refine wpAny_bind (W1.item _ _ _ k x _ p1' hx fun g2 q1 c2=>wpAny_pure ?_);have c2:Heap.SameBut i1 g1 g2:=c2;have t2:IsPair g2 TO a b:=c2.extBut _ _ D.O1 (c1.extBut _ _ D.zTO.symm hTO);refine wpAny_bind (wpAny_seqItems t2 rfl (wpAny_bind (wpAny_updateSeq_pair t2 fun g3 t3 c3=>?_)));have c3:Heap.SameBut TO g2 g3:=c3;refine wpAny_bind (wpAny_letGo (wpAny_pure (wpAny_bind (wpAny_bind (wpAny_onRaise ?_)))));show wpAny (model prog w) _ (Builtin.SmallTypes.nextOf (.ref i2) >>= fun _=>_) _ _ _;have p2':P2 k g3:=W2.ext (W2.ext (W2.ext p2 c1.extBut D.z2.symm D.lz2) c2.extBut D.ii.symm D.li2) c3.extBut D.O2.symm D.lo2;refine wpAny_bind (W2.stop _ _ _ k _ hh p2' hy fun g4 e c4 he=>?_);obtain⟨oe,ho,hc⟩:=he;have z4:IsZip g4 z TI TO .ellipsis:=c4 _ _ D.z2 (c3.extBut _ _ D.zTO (c2.extBut _ _ D.z1 z1));refine wpAny_setField_rec z4 (by simp) fun g5 _ c5=>hE g5 e (fun c o n q=>?_) ⟨oe,c5.extBut _ _ (nz z4 ho hc) ho,hc⟩
   simp only[List.mem_cons,List.not_mem_nil,or_false,not_or] at n;exact c5.extBut _ _ n.1 (c4 _ _ n.2.2.2 (c3.extBut _ _ n.2.1 (c2.extBut _ _ n.2.2.1 (c1.extBut _ _ n.1 q))))
end
end PySem
end
section
namespace PySem
noncomputable def zO (nm:String) (l:Addr):Obj:={ cls:=.type nm,data:=.fields #[.ref l,.int 0 0] }
noncomputable def zA (nm:String) (h:Heap) (l1 l2:Addr):Heap:=(h.push (zO nm l1)).push (zO nm l2)
noncomputable def zB (nm:String) (h:Heap) (l1 l2:Addr):Heap:=((zA nm h l1 l2).push { cls:=.type "tuple",data:=.seq #[.ref h.objs.size,.ref (h.push (zO nm l1)).objs.size] }).push { cls:=.type "tuple",data:=.seq #[.none,.none] }
noncomputable def zC (nm:String) (h:Heap) (l1 l2:Addr):Heap:=(zB nm h l1 l2).push { cls:=.type "zip",data:=.fields #[.none,.bool false,.bool false,.ref (zA nm h l1 l2).objs.size,.ref ((zA nm h l1 l2).push { cls:=.type "tuple",data:=.seq #[.ref h.objs.size,.ref (h.push (zO nm l1)).objs.size] }).objs.size] }
theorem meets_zipT (l1 l2:Addr) (xs ys:Array Value) :
 Meets (Builtin.«zip.__new__» ⟨[.type "zip",.ref l1,.ref l2],[]⟩) (fun _ R s=>s.heap.IsTuple l1 xs/\s.heap.IsTuple l2 ys/\
  R (.ok (.ret (.ref (zB "tuple_iterator" s.heap l1 l2).objs.size))) { s with heap:=zC "tuple_iterator" s.heap l1 l2 }):=
 .of_wp fun prog w A R s h=>by
  obtain⟨hp,g,d,tk,os⟩:=s;obtain⟨hl1,hl2,h⟩:=h;have hsub:=sub_zip;have hL1:Heap.IsTuple (Shared.heap ⟨hp,g,d,tk,os⟩) l1 xs:=hl1;have hL2:Heap.IsTuple (Shared.heap ⟨hp.push { cls:=.type "tuple_iterator",data:=.fields #[.ref l1,.int 0 0] },g,d,tk,os⟩) l2 ys:=by
   obtain⟨o,ho,r⟩:=hl2;exact⟨o,Heap.get?_push_of_some _ ho,r⟩
  wp_walk using wpAny_pyIter_tuple hL1,wpAny_pyIter_tuple hL2
  exact⟨_,rfl,h⟩
theorem zsizes (nm:String) (h:Heap) (l1 l2:Addr):(h.push (zO nm l1)).objs.size=h.objs.size+1/\(zA nm h l1 l2).objs.size=h.objs.size+2/\(zB nm h l1 l2).objs.size=h.objs.size+4:=by
 refine⟨Heap.size_push ..,?_,?_⟩
 ·unfold zA;rw[Heap.size_push,Heap.size_push]
 ·unfold zB zA;rw[Heap.size_push,Heap.size_push,Heap.size_push,Heap.size_push]
theorem zC_all (nm:String) (h:Heap) (l1 l2:Addr):IsZip (zC nm h l1 l2) (h.objs.size+4) (h.objs.size+2) (h.objs.size+3) .none/\IsPair (zC nm h l1 l2) (h.objs.size+2) (.ref h.objs.size) (.ref (h.objs.size+1))/\
 IsPair (zC nm h l1 l2) (h.objs.size+3) .none .none/\(zC nm h l1 l2).get? h.objs.size=some (zO nm l1)/\(zC nm h l1 l2).get? (h.objs.size+1)=some (zO nm l2)/\∀c o,h.get? c=some o->(zC nm h l1 l2).get? c=some o:=by
 obtain⟨s1,s2,s4⟩:=zsizes nm h l1 l2;have s3:((zA nm h l1 l2).push { cls:=.type "tuple",data:=.seq #[.ref h.objs.size,.ref (h.push (zO nm l1)).objs.size] }).objs.size=h.objs.size+3:=by rw[Heap.size_push,s2]
 have u:∀{c:Addr} {o:Obj},(zB nm h l1 l2).get? c=some o->(zC nm h l1 l2).get? c=some o:=fun {c o} q=>Heap.get?_push_of_some _ q
 have v:∀{c:Addr} {o:Obj},(zA nm h l1 l2).get? c=some o->(zC nm h l1 l2).get? c=some o:=fun {c o} q=>u (Heap.get?_push_of_some _ (Heap.get?_push_of_some _ q))
 refine⟨?_,?_,?_,v (Heap.get?_push_of_some _ (Heap.get?_push_size _ rfl)),?_,fun c o q=>v (Heap.get?_push_of_some _ (Heap.get?_push_of_some _ q))⟩
 ·have q:(zC nm h l1 l2).get? (zB nm h l1 l2).objs.size=some _:=Heap.get?_push_size _ rfl
  rw[s4,s3,s2] at q;exact q
 ·have q:(zC nm h l1 l2).get? (zA nm h l1 l2).objs.size=some _:=u (Heap.get?_push_of_some _ (Heap.get?_push_size _ rfl))
  rw[s2,s1] at q;exact q
 ·have q:(zC nm h l1 l2).get? ((zA nm h l1 l2).push { cls:=.type "tuple",data:=.seq #[.ref h.objs.size,.ref (h.push (zO nm l1)).objs.size] }).objs.size=some _:=u (Heap.get?_push_size _ rfl)
  rw[s3] at q;exact q
 ·have q:(zA nm h l1 l2).get? (h.push (zO nm l1)).objs.size=some (zO nm l2):=Heap.get?_push_size _ rfl
  rw[s1] at q;exact v q
section
variable {prog:Program} {w:World} {A:Around} {E:Value->Shared->Prop} {s:Shared}
theorem call_zipT {l1 l2:Addr} {xs ys:Array Value} {Q:Value->Shared->Prop} (hl1:s.heap.IsTuple l1 xs) (hl2:s.heap.IsTuple l2 ys)
 (h:Q (.ref (s.heap.objs.size+4)) { s with heap:=zC "tuple_iterator" s.heap l1 l2 }):wpAny (model prog w) A (call (.type "zip") [.ref l1,.ref l2]) Q E s:=by
 refine callType_new F.called_zip (by decide) (F.typeCall_zip_2 _ _) (F.newCall_zip_2 _ _) (fun obj=>F.args_object_init_3 obj _ _) F.entry_zip_new (meets_zipT l1 l2 xs ys) ⟨hl1,hl2,?_⟩;obtain⟨q,_⟩:=zC_all "tuple_iterator" s.heap l1 l2;show _/\_;rw[(zsizes "tuple_iterator" s.heap l1 l2).2.2];exact⟨⟨_,q,rfl⟩,h⟩
theorem call_zipL {l1 l2:Addr} {xs ys:Array Value} {Q:Value->Shared->Prop} (hl1:s.heap.IsList l1 xs) (hl2:s.heap.IsList l2 ys)
 (h:Q (.ref (s.heap.objs.size+4)) { s with heap:=zC "list_iterator" s.heap l1 l2 }):wpAny (model prog w) A (call (.type "zip") [.ref l1,.ref l2]) Q E s:=by
 refine callType_new F.called_zip (by decide) (F.typeCall_zip_2 _ _) (F.newCall_zip_2 _ _) (fun obj=>F.args_object_init_3 obj _ _) F.entry_zip_new (meets_zip_new l1 l2 xs ys) ⟨hl1,hl2,?_⟩;obtain⟨q,_⟩:=zC_all "list_iterator" s.heap l1 l2;show _/\_;refine⟨⟨{ cls:=.type "zip",data:=.fields #[.none,.bool false,.bool false,.ref (s.heap.objs.size+2),.ref (s.heap.objs.size+3)] },?_,rfl⟩,?_⟩
 ·rw[show (zipH4 s.heap l1 l2).objs.size=s.heap.objs.size+4 from (zsizes "list_iterator" s.heap l1 l2).2.2];exact q
 ·rw[show (zipH4 s.heap l1 l2).objs.size=s.heap.objs.size+4 from (zsizes "list_iterator" s.heap l1 l2).2.2];exact h
end
end PySem
namespace L2
open PySem PySem.Spec PyProof.Rows
noncomputable def Izp (Sq:Hp->List V->List V->Prop):It:=
 ⟨fun i H=>∃xs ys x y,Sq H xs ys/\xs[i]?=some x/\ys[i]?=some y,fun i H v H'=>∃p x y,H p=none/\v=.ref p/\H'=upd H p (.tup [x,y])/\∀xs ys,Sq H xs ys->xs[i]?=some x/\ys[i]?=some y,fun i H=>∃xs ys,Sq H xs ys/\(xs.length<=i\/ys.length<=i)⟩
structure ZW (P:Program) (w:World) (K:PySem.W.Frag) (l1 l2 i1 i2:Addr) (Sq:Hp->List V->List V->Prop) (T1 T2:Nat->Heap->Prop):Prop where
 obj:∀k h,(T1 k h->∃o,h.get? i1=some o/\∀v,o.data≠.cell v)/\(T2 k h->∃o,h.get? i2=some o/\∀v,o.data≠.cell v)
 keep:∀k h h',(T1 k h->(∀o,h.get? i1=some o->h'.get? i1=some o)->T1 k h')/\(T2 k h->(∀o,h.get? i2=some o->h'.get? i2=some o)->T2 k h')
 there:∀H xs ys,Sq H xs ys->H l1≠none/\H l2≠none
 vals:∀(X:Cx),X.K=K->∀pins σ H s xs ys,Inv X pins σ H s->Sq H xs ys->i1≠l1->i2≠l2->∃us vs,Vals xs us/\Vals ys vs/\(∀xs' ys',Sq H xs' ys'->xs'=xs/\ys'=ys)/\∃P1 P2:Nat->Heap->Prop,Wlk P w i1 l1 us P1/\Wlk P w i2 l2 vs P2/\
  (∀k,T1 k s.heap->P1 k s.heap)/\(∀k,T2 k s.heap->P2 k s.heap)/\∀k h,(P1 k h->T1 k h)/\(P2 k h->T2 k h)
theorem nd5 {a b c d e:Addr} (h:[a,b,c,d,e].Nodup):(a≠b/\a≠c/\a≠d/\a≠e)/\(b≠c/\b≠d/\b≠e)/\(c≠d/\c≠e)/\d≠e:=by
 simpa only[List.nodup_cons,List.mem_cons,List.not_mem_nil,or_false,not_or,List.nodup_nil,and_true,not_false_eq_true] using h
theorem mem5 {x a b c d e:Addr} (h:x∈[a,b,c,d,e]):x=a\/x=b\/x=c\/x=d\/x=e:=by
 simpa only[List.mem_cons,List.not_mem_nil,or_false] using h
theorem nm5 {x a b c d e:Addr} (h:x∉[a,b,c,d,e]):x≠a/\x∉[a,c,d,e]:=by
 simp only[List.mem_cons,List.not_mem_nil,or_false,not_or] at h ⊢;exact⟨h.1,h.1,h.2.2⟩
theorem nm4 {x a b c d:Addr} (h1:x≠a) (h2:x≠b) (h3:x≠c) (h4:x≠d):x∉[a,b,c,d]:=by
 simp only[List.mem_cons,List.not_mem_nil,or_false,not_or];exact⟨h1,h2,h3,h4⟩
theorem mem45 {x a b c d e:Addr} (h:x∈[a,c,d,e]):x∈[a,b,c,d,e]:=by
 simp only[List.mem_cons,List.not_mem_nil,or_false] at h ⊢;rcases h with r | r | r | r
 ·exact .inl r
 ·exact .inr (.inr (.inl r))
 ·exact .inr (.inr (.inr (.inl r)))
 ·exact .inr (.inr (.inr (.inr r)))
set_option tactic.hygienic true in
theorem turn_zip {P:Program} {w:World} {K:PySem.W.Frag} {elts:List Expr} {x1} {pos:Pos} {l1 l2 z TI TO i1 i2:Addr} {Sq:Hp->List V->List V->Prop} {T1 T2:Nat->Heap->Prop} (Z:ZW P w K l1 l2 i1 i2 Sq T1 T2)
 (nd:[z,TI,TO,i1,i2].Nodup):Turn P w K (.Tuple elts x1 pos) (Izp Sq) [z,TI,TO,i1,i2] z (fun i h=>IsZip h z TI TO .none/\IsPair h TI (.ref i1) (.ref i2)/\(∃a b,IsPair h TO a b)/\T1 i h/\T2 i h) where
 mem:=by simp
 obj:=fun i h st b hb=>by
  obtain⟨h1,h2,⟨_,_,h3⟩,h4,h5⟩:=st;have nc:∀{d:Data} {v:Option Value},d=Data.cell v->(∃u,d=.fields u)\/(∃u n,d=.seq u n)->False:=fun e q=>by
   subst e;rcases q with⟨u,q⟩ | ⟨u,n,q⟩<;>cases q
  have hb:=mem5 hb;rcases hb with r | r | r | r | r
  ·subst r;exact⟨_,h1,fun v e=>nc (v:=v) e (.inl ⟨_,rfl⟩)⟩
  ·subst r;exact⟨_,h2,fun v e=>nc (v:=v) e (.inr ⟨_,_,rfl⟩)⟩
  ·subst r;exact⟨_,h3,fun v e=>nc (v:=v) e (.inr ⟨_,_,rfl⟩)⟩
  ·subst r;exact(Z.obj i h).1 h4
  ·subst r;exact(Z.obj i h).2 h5
 keep:=fun i h h' st q=>by
  obtain⟨h1,h2,⟨a,b,h3⟩,h4,h5⟩:=st;exact⟨q _ (by simp) _ h1,q _ (by simp) _ h2,⟨a,b,q _ (by simp) _ h3⟩,(Z.keep i h h').1 h4 fun o e=>q _ (by simp) o e,(Z.keep i h h').2 h5 fun o e=>q _ (by simp) o e⟩
 item:=by
  intro X hP hw hK hc i pins s σ H E I hf st hg;subst hP hw;obtain⟨xs,ys,x,y,hq,hx,hy⟩:=hg;obtain⟨h1,h2,⟨a,b,h3⟩,h4,h5⟩:=st;obtain⟨n1,n2⟩:=Z.there H xs ys hq;have no:∀c∈[z,TI,TO,i1,i2],l1≠c/\l2≠c:=fun c hb=>⟨fun e=>n1 (by rw[e];exact(hf c hb).1),fun e=>n2 (by rw[e];exact(hf c hb).1)⟩
  obtain⟨us,vs,ru,rv,inj,P1,P2,W1,W2,p1,p2,pt⟩:=Z.vals X hK pins σ H s xs ys I hq (no i1 (by simp)).1.symm (no i2 (by simp)).2.symm;obtain⟨u,hu,rx⟩:=ru.get hx;obtain⟨v,hv,ry⟩:=rv.get hy;have nd:=nd5 nd;have D:ZAp z TI TO i1 i2 l1 l2:=⟨nd.1.1,nd.1.2.1,nd.1.2.2.1,nd.1.2.2.2,nd.2.1.1,nd.2.1.2.1,nd.2.1.2.2,nd.2.2.1.1,nd.2.2.1.2,nd.2.2.2,(no z (by simp)).1,(no TO (by simp)).1,(no i2 (by simp)).1,(no z (by simp)).2,(no TO (by simp)).2,(no i1 (by simp)).2⟩;have hT:s.TypeIs (.ref z) "zip":=⟨_,h1,rfl⟩;unfold pyNext;refine wpAny_bind (wpAny_attempt (wpAny_callSpecial?_slot (name:=Str.ofString "__next__") hT F.slot_zip_next (wpAny_call_entry F.slot_zip_next hT F.entry_zip_next (zip_turn W1 W2 D h1 h2 h3 (p1 i h4) (p2 i h5) hu hv fun h' a1 a2 a3 a4 a5 a6 kk=>wpAny_pure ?_) (F.args_zip_next_1 _))));refine⟨_,rfl,wpAny_letOwnedTupleGo_zip (s:={ s with heap:=h' }) a1 fun g2 zz sb=>?_⟩;have sb:Heap.SameBut z h' g2:=sb;have lt:∀{c:Addr} {o:Obj},s.heap.get? c=some o->c≠s.heap.objs.size:=fun e=>Nat.ne_of_lt (Heap.lt_size e)
  have k2:∀b o,b∉[z,TI,TO,i1,i2]->s.heap.get? b=some o->g2.get? b=some o:=fun b o hb q=>by
   exact sb.extBut b o (nm5 hb).1 (kk b o (nm5 hb).2 q)
  have kTI:g2.get? TI=_:=sb.extBut TI _ D.zTI.symm (kk TI _ (nm4 D.zTI.symm D.io D.I1 D.I2) h2);have tt:IsTup g2 s.heap.objs.size [u,v].toArray:=⟨_,sb.extBut _ _ (lt h1).symm a5,rfl,_,rfl⟩;refine⟨.ref s.heap.objs.size,_,I.turnedT (t':=s.toks) (p:=s.heap.objs.size) (vs:=[x,y]) hf k2 (Nat.le_refl _) (.cons rx (.cons ry .nil)) (by show 2<=sizeLine;decide) tt,rfl,⟨_,x,y,I.hok.fresh (Nat.le_refl _),rfl,rfl,fun xs' ys' hy'=>by
   obtain⟨e1,e2⟩:=inj xs' ys' hy';rw[e1,e2];exact⟨hx,hy⟩⟩,⟨zz,kTI,⟨_,_,sb.extBut _ _ D.zTO.symm a2⟩,(Z.keep (i+1) h' g2).1 ((pt (i+1) h').1 a3) fun o e=>sb.extBut _ o D.z1.symm e,(Z.keep (i+1) h' g2).2 ((pt (i+1) h').2 a4) fun o e=>sb.extBut _ o D.z2.symm e⟩,fun b hb=>?_⟩
  have nb:b≠s.heap.objs.size:=by
   have hb:=mem5 hb;rcases hb with r | r | r | r | r
   ·subst r;exact lt h1
   ·subst r;exact lt h2
   ·subst r;exact lt h3
   ·subst r;obtain⟨o,e,_⟩:=(Z.obj i s.heap).1 h4;exact lt e
   ·subst r;obtain⟨o,e,_⟩:=(Z.obj i s.heap).2 h5;exact lt e
  rw[za9 nb];exact(hf b hb).1
 done:=by
  intro X hP hw hK hc i pins s σ H E I hf st hg;subst hP hw;obtain⟨xs,ys,hq,hx⟩:=hg;obtain⟨h1,h2,⟨a,b,h3⟩,h4,h5⟩:=st;obtain⟨n1,n2⟩:=Z.there H xs ys hq;have no:∀c∈[z,TI,TO,i1,i2],l1≠c/\l2≠c:=fun c hb=>⟨fun e=>n1 (by rw[e];exact(hf c hb).1),fun e=>n2 (by rw[e];exact(hf c hb).1)⟩
  obtain⟨us,vs,ru,rv,inj,P1,P2,W1,W2,p1,p2,pt⟩:=Z.vals X hK pins σ H s xs ys I hq (no i1 (by simp)).1.symm (no i2 (by simp)).2.symm;have nd:=nd5 nd;have D:ZAp z TI TO i1 i2 l1 l2:=⟨nd.1.1,nd.1.2.1,nd.1.2.2.1,nd.1.2.2.2,nd.2.1.1,nd.2.1.2.1,nd.2.1.2.2,nd.2.2.1.1,nd.2.2.1.2,nd.2.2.2,(no z (by simp)).1,(no TO (by simp)).1,(no i2 (by simp)).1,(no z (by simp)).2,(no TO (by simp)).2,(no i1 (by simp)).2⟩;have hT:s.TypeIs (.ref z) "zip":=⟨_,h1,rfl⟩;have en:us[i]?=none\/vs[i]?=none:=by
   rcases hx with hx | hx
   ·exact .inl (List.getElem?_eq_none (by rw[<-ru.length];exact hx))
   ·exact .inr (List.getElem?_eq_none (by rw[<-rv.length];exact hx))
  unfold pyNext;refine wpAny_bind (wpAny_attempt (wpAny_callSpecial?_slot (name:=Str.ofString "__next__") hT F.slot_zip_next (wpAny_call_entry F.slot_zip_next hT F.entry_zip_next (zip_stop (I.ok.hd hc) W1 W2 D h1 h2 h3 (p1 i h4) (p2 i h5) en fun h' e kk he=>?_) (F.args_zip_next_1 _))));obtain⟨o,ho,hcls⟩:=he;refine wpAny_bind (wpAny_isInstance (T:="StopIteration") (b:=true) ⟨o,ho,hcls⟩ isSubtype_stop (wpAny_pure ⟨rfl,I.turnedF hf fun b o hb q=>kk b o (fun n=>hb (mem45 n)) q⟩))
 self:=fun _ _ _ _ _ st h=>wpAny_pyIter_zip st.1 h
end L2
end
section
namespace L2
open PySem PySem.Spec PyProof.Rows
noncomputable def sqTT (a b:Addr):Hp->List V->List V->Prop:=fun H xs ys=>H a=some (.tup xs)/\H b=some (.tup ys)
noncomputable def sqLL (a b:Addr):Hp->List V->List V->Prop:=fun H xs ys=>H a=some (.lst xs)/\H b=some (.lst ys)
theorem zw_tup {P:Program} {w:World} {K:PySem.W.Frag} {l1 l2 i1 i2:Addr}:ZW P w K l1 l2 i1 i2 (sqTT l1 l2) (fun k h=>h.IsTupleIter i1 l1 k) (fun k h=>h.IsTupleIter i2 l2 k) where
 obj:=fun k h=>⟨fun ⟨o,ho,c,d⟩=>⟨o,ho,fun v z=>by rw[d] at z;cases z⟩,fun ⟨o,ho,c,d⟩=>⟨o,ho,fun v z=>by rw[d] at z;cases z⟩⟩
 keep:=fun k h h'=>⟨fun a q=>a.at q,fun a q=>a.at q⟩
 there:=fun H xs ys q=>⟨(fun z=>by rw[q.1] at z;cases z),(fun z=>by rw[q.2] at z;cases z)⟩
 vals:=fun X hK pins σ H s xs ys I q n1 n2=>by
  obtain⟨us,ru,t1,_⟩:=I.tuple (SqT.of q.1);obtain⟨vs,rv,t2,_⟩:=I.tuple (SqT.of q.2);exact⟨us,vs,ru,rv,fun xs' ys' q'=>⟨I.tuple_inj (SqT.of q'.1) (SqT.of q.1),I.tuple_inj (SqT.of q'.2) (SqT.of q.2)⟩,_,_,Wlk.tup n1,Wlk.tup n2,fun k z=>⟨z,t1⟩,fun k z=>⟨z,t2⟩,fun k h=>⟨fun z=>z.1,fun z=>z.1⟩⟩
theorem zw_lst {P:Program} {w:World} {K:PySem.W.Frag} {l1 l2 i1 i2:Addr}:ZW P w K l1 l2 i1 i2 (sqLL l1 l2) (fun k h=>h.IsListIter i1 l1 k) (fun k h=>h.IsListIter i2 l2 k) where
 obj:=fun k h=>⟨fun ⟨o,ho,c,d⟩=>⟨o,ho,fun v z=>by rw[d] at z;cases z⟩,fun ⟨o,ho,c,d⟩=>⟨o,ho,fun v z=>by rw[d] at z;cases z⟩⟩
 keep:=fun k h h'=>⟨fun a q=>a.at q,fun a q=>a.at q⟩
 there:=fun H xs ys q=>⟨(fun z=>by rw[q.1] at z;cases z),(fun z=>by rw[q.2] at z;cases z)⟩
 vals:=fun X hK pins σ H s xs ys I q n1 n2=>by
  obtain⟨us,ru,t1,_⟩:=I.list (SqL.of q.1);obtain⟨vs,rv,t2,_⟩:=I.list (SqL.of q.2);exact⟨us,vs,ru,rv,fun xs' ys' q'=>⟨I.list_inj (SqL.of q'.1) (SqL.of q.1),I.list_inj (SqL.of q'.2) (SqL.of q.2)⟩,_,_,Wlk.lst n1,Wlk.lst n2,fun k z=>⟨z,t1.isList⟩,fun k z=>⟨z,t2.isList⟩,fun k h=>⟨fun z=>z.1,fun z=>z.1⟩⟩
section
variable {X:Cx} {elts:List Expr} {x1:Nat} {tpos:Pos}
theorem nd_sz (n:Nat):[n+4,n+2,n+3,n,n+1].Nodup:=by
 simp only[List.nodup_cons,List.mem_cons,List.not_mem_nil,or_false,not_or,List.nodup_nil,and_true,not_false_eq_true];omega
theorem mem_sz {b n:Nat} (h:b∈[n+4,n+2,n+3,n,n+1]):n<=b:=by
 simp only[List.mem_cons,List.not_mem_nil,or_false] at h;omega
noncomputable def iZip (ta:TA):TI:=fun σ H R=>ta σ H fun vs H1=>∃a b xs ys,vs=[.ref a,.ref b]/\((sqTT a b H1 xs ys/\R (Izp (sqTT a b)) H1)\/(sqLL a b H1 xs ys/\R (Izp (sqLL a b)) H1))
theorem pi_zip {e1 e2:Expr} {ta:TA} {p pos:Pos} (hg:Gl X "zip") (hm:X.mg "zip" = none) (ha:PA X [e1,e2] ta) (hs:starEach [e1,e2] X.env=(false,eval e1 X.env)::starEach [e2] X.env:=by rfl) (hs2:starEach [e2] X.env=[(false,eval e2 X.env)]:=by rfl):PI X (.Tuple elts x1 tpos) (.Call (.Name "zip" p) [e1,e2] [] pos) (iZip ta):=by
 intro pins s σ H R I h;refine Call_ (ld_blt I hg hm boot_zip (PyProof.Rows.callWith_type1 (thn (ha pos pins s σ H _ I h) fun us s1 hI105=>?_) hs (by rw[hs2];rfl)));obtain⟨vs,H1,I1,r1,q1⟩:=hI105;obtain⟨a,b,xs,ys,rfl,q⟩:=q1;cases r1 with
 | cons r rr=>
   cases rr with
   | cons r' rr=>
     cases rr;cases r;cases r';have nd:=nd_sz s1.heap.objs.size;have fr:∀b∈[s1.heap.objs.size+4,s1.heap.objs.size+2,s1.heap.objs.size+3,s1.heap.objs.size,s1.heap.objs.size+1],FpOk X pins H1 b:=fun b hb=>I1.fpOk (mem_sz hb) (I1.hok.fresh (mem_sz hb))
     rcases q with⟨hq,q⟩ | ⟨hq,q⟩
     ·obtain⟨us,ru,t1,_⟩:=I1.tuple (SqT.of hq.1)
      obtain⟨vs,rv,t2,_⟩:=I1.tuple (SqT.of hq.2);refine call_zipT (show s1.heap.IsTuple a us.toArray from t1) (show s1.heap.IsTuple b vs.toArray from t2) ?_;obtain⟨z1,z2,z3,z4,z5,kk⟩:=zC_all "tuple_iterator" s1.heap a b;refine wpAny_pyIter_zip (s:={ s1 with heap:=zC "tuple_iterator" s1.heap a b }) z1 ?_;exact⟨_,_,_,_,H1,rfl,I1.kept (t':=s1.toks) kk,turn_zip zw_tup nd,⟨z1,z2,⟨_,_,z3⟩,⟨_,z4,rfl,rfl⟩,⟨_,z5,rfl,rfl⟩⟩,fr,q⟩
     ·obtain⟨us,ru,t1,_⟩:=I1.list (SqL.of hq.1)
      obtain⟨vs,rv,t2,_⟩:=I1.list (SqL.of hq.2);refine call_zipL t1.isList t2.isList ?_;obtain⟨z1,z2,z3,z4,z5,kk⟩:=zC_all "list_iterator" s1.heap a b;refine wpAny_pyIter_zip (s:={ s1 with heap:=zC "list_iterator" s1.heap a b }) z1 ?_;exact⟨_,_,_,_,H1,rfl,I1.kept (t':=s1.toks) kk,turn_zip zw_lst nd,⟨z1,z2,⟨_,_,z3⟩,⟨_,z4,rfl,rfl⟩,⟨_,z5,rfl,rfl⟩⟩,fr,q⟩
variable {S:Type} {W:Wd S} {c:Dx W} {g:Gr}
noncomputable def tDB {S:Type} {W:Wd S} (c:Dx W) (f:FnA S):TA:=fun σ H Q=>∃ρ st,Rep c H σ ρ/\W.ok st H/\
 wpR (f ρ st) (fun l st'=>∀vs H',Ext W H H'->W.ok st' H'->IsL c.K (Av c σ ρ) H' l vs->Q vs H') fun x st'=>∀H',Ext W H H'->W.ok st' H'->c.Ex x st' H'
noncomputable def DB (X:Cx) {S:Type} {W:Wd S} (c:Dx W) (es:List Expr) (f:FnA S):Prop:=PA X es (tDB c f)
theorem db_nil:DB X c [] (aNil S):=zh1.imp fun σ H Q ⟨ρ,st,R,ok,w⟩=>w [] H Ext.refl ok (IsL.nil.mpr rfl)
theorem db_cons {e:Expr} {es:List Expr} {f:Fn S} {r:FnA S} (h:DE X c .B e f) (hr:DB X c es r) (hs:starEach (e::es) X.env=(false,eval e X.env)::starEach es X.env:=by rfl):DB X c (e::es) (aCons S f r):=
 (zb9 h hr hs).imp fun σ H Q hI37=>by
  obtain⟨ρ,st,R,ok,w⟩:=hI37;refine⟨ρ,st,R,ok,za6 (za3.mp w) (fun d st1 q v H1 e ok1 z=>?_) fun x st1 q=>q⟩;refine⟨ρ,st1,R.ext ok e,ok1,za6 (za3.mp q) (fun l st2 q vs H2 e2 ok2 z2=>?_) fun x st2 q H2 e2 ok2=>q H2 (e.trans e2) ok2⟩;have z:Is c.K (Av c σ ρ) H1 d v:=z;exact q (v::vs) H2 (e.trans e2) ok2 (IsL.cons.mpr ⟨v,vs,rfl,z.ext e2 ok1 (fun b n=>n.1),z2⟩)
noncomputable def pairs (l m:List D):List D:=List.zipWith (fun a b=>.tup [a,b]) l m
noncomputable def oZip:List D->Option (List D)
 | [.tup l,.tup m]=>some (pairs l m)
 | [.lst l,.lst m]=>some (pairs l m)
 | _=>none
theorem pairs_get {l m:List D} {i:Nat} {d:D} (h:(pairs l m)[i]?=some d):∃x y,l[i]?=some x/\m[i]?=some y/\d=.tup [x,y]:=by
 unfold pairs at h;rw[List.getElem?_zipWith] at h;cases q:l[i]? with
 | none=>rw[q] at h;simp at h
 | some x=>
   cases q2:m[i]? with
   | none=>rw[q,q2] at h;simp at h
   | some y=>rw[q,q2] at h;cases h;exact⟨x,y,rfl,rfl,rfl⟩
theorem pairs_stop {l m:List D} {i:Nat} (h:(pairs l m).length<=i):l.length<=i\/m.length<=i:=by
 unfold pairs at h;rw[List.length_zipWith] at h;omega
theorem zip_iter {σ:St} {ρ:Rho} {H1:Hp} {Sq:Hp->List V->List V->Prop} {l m:List D} {xs ys:List V} (hi:∀(c':Dx W) σ2 ρ2 H2,KeepT (Av c σ ρ) (Av c' σ2 ρ2) H1 H2->Sq H2 xs ys) (i1:IsL c.K (Av c σ ρ) H1 l xs) (i2:IsL c.K (Av c σ ρ) H1 m ys):IterOk c σ ρ H1 (Izp Sq) (pairs l m):=by
 intro c' hK' σ2 ρ2 H2 st2 k R2 ok2 j;have s2:Sq H2 xs ys:=hi c' σ2 ρ2 H2 k;have j1:IsL c.K (Av c' σ2 ρ2) H2 l xs:=i1.mono k;have j2:IsL c.K (Av c' σ2 ρ2) H2 m ys:=i2.mono k;refine⟨fun d hd=>?_,fun hl=>⟨xs,ys,s2,by rw[<-j1.length,<-j2.length];exact pairs_stop hl⟩⟩;obtain⟨x,y,hx,hy,rfl⟩:=pairs_get hd;obtain⟨v1,hv1,iv1⟩:=j1.get hx;obtain⟨v2,hv2,iv2⟩:=j2.get hy;refine⟨⟨xs,ys,v1,v2,s2,hv1,hv2⟩,?_⟩;rintro x' H3 ⟨pp,u1,u2,hpn,rfl,rfl,hx'⟩;obtain⟨e1,e2⟩:=hx' xs ys s2;rw[hv1] at e1;cases e1;rw[hv2] at e2;cases e2;have sm:Same H2 (upd H2 pp (.tup [v1,v2])):=fun b o hb=>by rw[za9 (zb0 hb hpn)];exact hb
 have kk:KeepT (Av c' σ2 ρ2) (Av c' σ2 ρ2) H2 (upd H2 pp (.tup [v1,v2])):=zi2 (fun b o hb _=>sm b o hb) fun b o a hb=>⟨a,sm b o hb⟩
 exact⟨sm,Is.tup zb4 (IsL.cons.mpr ⟨_,_,rfl,iv1.mono kk,IsL.one (iv2.mono kk)⟩)⟩
set_option tactic.hygienic true in
theorem di_zip {e1 e2:Expr} {f:FnA S} {p pos:Pos} (hg:Gl X "zip") (hm:X.mg "zip" = none) (ha:DB X c [e1,e2] f) (hs:starEach [e1,e2] X.env=(false,eval e1 X.env)::starEach [e2] X.env:=by rfl) (hs2:starEach [e2] X.env=[(false,eval e2 X.env)]:=by rfl):DI X c (.Tuple elts x1 tpos) (.Call (.Name "zip" p) [e1,e2] [] pos) (iArgs S oZip f):=
 (pi_zip hg hm ha hs hs2).imp fun σ H R hI38=>by
  obtain⟨ρ,st,R0,ok,w⟩:=hI38;refine⟨ρ,st,R0,ok,za6 (za3.mp w) (fun l st1 q vs H1 e ok1 z=>?_) fun x st1 q=>q⟩;obtain⟨m,e1,q⟩:=zb6.mp q;unfold oZip at e1;split at e1
  ·rename_i l m
   cases e1;obtain⟨v,r,e2,i2,i3⟩:=IsL.cons.mp z;obtain⟨v',r',e3,i3,i4⟩:=IsL.cons.mp i3;obtain⟨a,xs,ea,s0,i⟩:=Is.tup_iff.mp i2;obtain⟨b,ys,eb,t0,j⟩:=Is.tup_iff.mp i3;rw[e3,IsL.nil.mp i4,ea,eb] at e2;exact⟨a,b,xs,ys,e2,.inl ⟨⟨s0,t0⟩,q _ H1 e ok1 (zip_iter (fun c' σ2 ρ2 H2 k=>⟨k.tup a xs s0,k.tup b ys t0⟩) i j)⟩⟩
  ·rename_i l m
   cases e1;obtain⟨v,r,e2,i2,i3⟩:=IsL.cons.mp z;obtain⟨v',r',e3,i3,i4⟩:=IsL.cons.mp i3;obtain⟨a,xs,ea,n0,s0,i⟩:=Is.lst_iff.mp i2;obtain⟨b,ys,eb,n1,t0,j⟩:=Is.lst_iff.mp i3;rw[e3,IsL.nil.mp i4,ea,eb] at e2;exact⟨a,b,xs,ys,e2,.inr ⟨⟨s0,t0⟩,q _ H1 e ok1 (zip_iter (fun c' σ2 ρ2 H2 k=>⟨(k.nod a _ n0 s0).2,(k.nod b _ n1 t0).2⟩) i j)⟩⟩
  ·cases e1
end
end L2
end
section
namespace HT
open PySem PyProof.Rows
section
variable {prog:Program} {w:World} {A:Around} {E:Value->Shared->Prop} {s:Shared}
end
end HT
namespace L2
open PySem PySem.Spec PyProof.Rows
section
variable {X:Cx} {e st:Expr} {te ts:TE} {p2 pos:Pos}
end
end L2
end
section
namespace L2
open PySem PySem.Spec PyProof.Rows
section
variable {X:Cx} {S:Type} {W:Wd S} {c:Dx W} {g ga gb:Gr} {a b:Expr} {fa fb:Fn S} {pos p2:Pos}
noncomputable abbrev FnO (S:Type):=Rho->S->Res S (Option Int)
noncomputable def pNo (S:Type):FnO S:=fun _ st=>.ok none st
noncomputable def D.int?:D->Option Int
 | .int i=>some i
 | _=>none
noncomputable def pSo (S:Type) (f:Fn S):FnO S:=fun ρ st=>(f ρ st).bind fun d st1=>(lift d.int? st1).bind fun i st2=>.ok (some i) st2
noncomputable def cutD (xs:List D) (lo hi:Option Int):List D:=(xs.drop (HT.sIx xs.length 0 lo)).take (HT.sIx xs.length xs.length hi-HT.sIx xs.length 0 lo)
noncomputable def oCut (lo hi:Option Int):D->Option D
 | .lst l=>if D.immL l=true then some (.lst (cutD l lo hi)) else none
 | .tup l=>if D.immL l=true/\¬(HT.sIx l.length 0 lo=0/\HT.sIx l.length l.length hi=l.length) then some (.tup (cutD l lo hi)) else none
 | _=>none
noncomputable def fCut (S:Type) (f:Fn S) (lo hi:FnO S):Fn S:=fun ρ st=>(f ρ st).bind fun d st1=>(lo ρ st1).bind fun l st2=>(hi ρ st2).bind fun h st3=>lift (oCut l h d) st3
noncomputable def intsOf:List D->Option (List Int)
 | []=>some []
 | .int i::l=>(intsOf l).map fun r=>i::r
 | _=>none
theorem intsOf_is {K:PySem.W.Frag} {A:Addr->Prop} {H:Hp}:∀{l:List D} {vs:List V} {ns:List Int},intsOf l=some ns->IsL K A H l vs->vs=ns.map V.int
 | [],vs,ns,e,h=>by cases e;rw[IsL.nil.mp h];rfl
 | .int i::l,vs,ns,e,h=>by
   unfold intsOf at e;cases q:intsOf l with
   | none=>rw[q] at e;cases e
   | some r=>
     rw[q] at e;cases e;obtain⟨v,r',e1,i1,i2⟩:=IsL.cons.mp h;rw[e1,Is.int_iff.mp i1,intsOf_is q i2];rfl
 | .non::_,_,_,e,_=>by cases e
 | .bl _::_,_,_,e,_=>by cases e
 | .str _::_,_,_,e,_=>by cases e
 | .tup _::_,_,_,e,_=>by cases e
 | .lst _::_,_,_,e,_=>by cases e
 | .dct _ _::_,_,_,e,_=>by cases e
 | .fl _::_,_,_,e,_=>by cases e
noncomputable def sBad (S:Type):FnS S:=fun _ _=>.bad
end
end L2
end
section
namespace L2
open PySem PySem.Spec PyProof.Rows
section
variable {X:Cx} {S:Type} {W:Wd S} {c:Dx W} {g ga gb:Gr} {a b:Expr} {fa fb:Fn S} {pos p2:Pos}
noncomputable def sPar (S:Type) (i j:Nat) (f:FnA S):FnS S:=fun ρ st=>(f ρ st).bind fun l st1=>match l with
 | [d,e]=>(lift (put ρ i d) st1).bind fun ρ1 st2=>(lift (put ρ1 j e) st2).bind fun ρ2 st3=>.ok (.nx ρ2) st3
 | _=>.bad
set_option tactic.hygienic true in
theorem put_some {ρ ρ':Rho} {i:Nat} {d:D} (h:put ρ i d=some ρ'):i<ρ.length/\ρ'=ρ.set i (.bor d):=by
 unfold put at h;split at h
 ·rename_i hi;cases h;exact⟨hi,rfl⟩
 ·cases h
end
end L2
end
section
namespace L2
open PySem PySem.Spec PyProof.Rows
section
variable {X:Cx} {S:Type} {W:Wd S} {c:Dx W} {g ga gb:Gr} {a b:Expr} {fa fb:Fn S} {pos p2:Pos}
noncomputable def oAddU (a b:D):Option D:=(iOp0 (fun i j=>.int (i+j)) a b).or ((oCatL a b).or ((oCatT a b).or (oCatT0 a b)))
theorem op_addU:OpR X (binaryOp .Add) (fun x y H Q=>rI0 (fun i j=>.int (i+j)) x y H Q\/(rCat x y H Q\/(rCatT X.K x y H Q\/rCatT0 X.K x y H Q))):=op_add.or (op_cat.or (op_catT.or op_catT0))
theorem od_addU {K:PySem.W.Frag} (hK:c.K=K):OpD c (fun x y H Q=>rI0 (fun i j=>.int (i+j)) x y H Q\/(rCat x y H Q\/(rCatT K x y H Q\/rCatT0 K x y H Q))) oAddU:=od_I0.or (od_cat.or ((od_catT hK).or od_catT0))
noncomputable def D.seq?:D->Option (List D)
 | .tup l=>some l
 | .lst l=>some l
 | _=>none
theorem zp2 {tg e:Expr} {f:Fn S} (hK:c.K=X.K) (h:DE X c .B e f):DI X c tg e (iSeq S D.seq? f):=by
 intro pins s σ H R I q;obtain⟨ρ,st,R0,ok,w⟩:=q;unfold iSeq at w;cases q:f ρ st with
 | bad=>rw[q] at w;exact w.elim
 | exc x st1=>
   refine di_tup (tg:=tg) hK h pins s σ H R I ⟨ρ,st,R0,ok,?_⟩;unfold iSeq;rw[q] at w ⊢;exact w
 | ok d st1=>
   rw[q] at w;cases d with
   | tup l=>
     refine di_tup (tg:=tg) hK h pins s σ H R I ⟨ρ,st,R0,ok,?_⟩;unfold iSeq;rw[q];exact w
   | lst l=>
     refine di_lst (tg:=tg) hK h pins s σ H R I ⟨ρ,st,R0,ok,?_⟩;unfold iSeq;rw[q];exact w
   | _=>exact w.elim
noncomputable def sAug (S:Type) (i:Nat) (f:Fn S) (o:Int->Int->Int):FnS S:=fun ρ st=>match rd ρ i with
 | some (.int a)=>(f ρ st).bind fun d st1=>match d with
   | .int b=>(lift (put ρ i (.int (o a b))) st1).bind fun ρ1 st2=>.ok (.nx ρ1) st2
   | _=>.bad
 | _=>.bad
set_option tactic.hygienic true in
theorem ds_aug {i:Nat} {x:Str} {e:Expr} {f:Fn S} {op:Operator} {o:Int->Int->Int} {p:Pos} (hN:X.N.Nodup) (hi:X.N[i]?=some x) (hx:Loc X.env.scope x) (ho:PIp X op (ipI o)) (he:DE X c .R e f) (hf:X.fn x=true\/X.env.scope.names.lookup x=some .local:=by first | exact .inl rfl | exact .inr rfl | assumption) :
 DS X c (.AugAssign (.Name x p) op e pos) (sAug S i f o):=
 (ps_aug hN hi hx he ho hf).imp fun D σ H hI39=>by
  obtain⟨ρ,st,R,ok,w⟩:=hI39;unfold sAug at w;split at w
  ·rename_i a0 hr
   obtain⟨v,hv,iv⟩:=R.rd hr;refine⟨v,hv,ρ,st,R,ok,za6 (za3.mp w) (fun d st1 q v2 H1 e ok1 z=>?_) fun x st1 q H' e ok'=>q H' (e.f0 R) ok'⟩;split at q
   ·rename_i b0
    obtain⟨ρ1,e4,q⟩:=zb6.mp (za3.mp q);obtain⟨h4,rfl⟩:=put_some e4;have R1:=R.ext ok e;have z':Is c.K (fun b=>¬W.mv b) H1 (.int b0) v2:=z.toR;exact⟨a0,b0,Is.int_iff.mp iv,Is.int_iff.mp z',q _ _ ((Ext.frm e).trans frm_setB) ok1 (R1.setB h4 (Is.int_iff.mpr rfl))⟩
   ·exact q.elim
  ·exact w.elim
noncomputable def dBad:List D->Res Unit D:=fun _=>.bad
theorem fn_bad {P:Program} {w:World} {K:PySem.W.Frag} {mg:Str->Option Value} {base:Heap} {f:Addr} {fd:FuncData} {ps:List Str} {k:Nat}:FnOk P w K mg base CX0 k f fd ps (sp0 K dBad):=
 ⟨fun vs H Q E ⟨_,_,h⟩=>h.elim,fun A outer s H args us vs Q E _ _ _ _ ⟨_,_,h⟩=>h.elim⟩
theorem de_cb {id:String} {x:Str} {p pos:Pos} {e:Expr} {es:List Expr} {r:List V->Hp->VK->Prop} {o:List D->Option D} {f:FnA S} (ha:DA X c (e::es) f) (hc:CallR X (.builtin id) r) (hr:CallD c r o) (hg:Gl X x) (hm:X.mg x=none) (hv:bootBuiltins x=some (.builtin id)) (hn:x≠"__name__":=by decide) (hdb:(x == ("__debug__" : Str))=false:=by decide)
 (he:starEach (e::es) X.env=(false,eval e X.env)::starEach es X.env:=by rfl) (hpl:(backTo pos (starEach es X.env)).any (·.1)=false:=by rfl):DE X c g (.Call (.Name x p) (e::es) [] pos) (fA S o f):=
 de_callB (id:=id) (zn8 hc hg hm hv ha hn hdb he hpl) rfl hr
theorem de_ct {T:String} {x:Str} {p pos:Pos} {e:Expr} {es:List Expr} {r:List V->Hp->VK->Prop} {o:List D->Option D} {f:FnA S} (ha:DA X c (e::es) f) (hc:CallR X (.type T) r) (hr:CallD c r o) (hg:Gl X x) (hm:X.mg x=none) (hv:bootBuiltins x=some (.type T)) (hn:x≠"__name__":=by decide) (hdb:(x == ("__debug__" : Str))=false:=by decide)
 (he:starEach (e::es) X.env=(false,eval e X.env)::starEach es X.env:=by rfl) (hpl:(backTo pos (starEach es X.env)).any (·.1)=false:=by rfl):DE X c g (.Call (.Name x p) (e::es) [] pos) (fA S o f):=
 de_callB (id:=T) (pe_callTy hc hg hm hv ha hn hdb he hpl) rfl hr
end
end L2
end
section
namespace PySem
open Sem (wp)
namespace F
end F
section
variable {prog:Program} {w:World} {A:Around} {E:Value->Shared->Prop} {s:Shared} {a:Addr} {its:Array Value}
end
end PySem
end
section
namespace PySem.F
end PySem.F
namespace L2
open PySem PySem.Spec PyProof.Rows
noncomputable def PairsAt (H:Hp):List V->List (List Key×V)->Prop
 | [],ps=>ps=[]
 | v::vs,ps=>∃t b k x r,ps=(k,x)::r/\v=.ref t/\H t=some (.tup [.ref b,x])/\H b=some (.tup (k.map kV))/\PairsAt H vs r
theorem PairsAt.keep {H:Hp} {d:Addr} {o:HO} (hd:∀u,H d≠some (.tup u)):∀{vs:List V} {ps:List (List Key×V)},PairsAt H vs ps->PairsAt (upd H d o) vs ps
 | [],ps,h=>h
 | v::vs,ps,⟨t,b,k,x,r,e1,e2,h1,h2,h3⟩=>⟨t,b,k,x,r,e1,e2,by rw[za9 (fun z=>hd _ (z▸h1))];exact h1,by rw[za9 (fun z=>hd _ (z▸h2))];exact h2,PairsAt.keep hd h3⟩
section
variable {X:Cx} {pins:List (Addr×Obj)} {σ:St}
end
end L2
end
section
namespace L2
open PySem PySem.Spec PyProof.Rows
theorem vals_of_ints:∀{us:List Value} {ns:List Int},IntsAre us ns->Vals (ns.map V.int) us
 | _,_,.nil=>.nil
 | _,_,.cons n t h=>.cons ⟨t,rfl⟩ (vals_of_ints h)
section
variable {X:Cx} {S:Type} {W:Wd S} {c:Dx W} {g ga gb gc:Gr} {a b:Expr} {fa fb fc:Fn S} {pos p2:Pos}
theorem call_sorted:CallR X (.builtin "sorted") (fun xs H Q=>∃(a:Addr) (ns:List Int),xs=[.ref a]/\SqL X.K H a (ns.map V.int)/\ns.length<64/\∀p,H p=none->Q (.ref p) (upd H p (.lst ((PySem.W.sortI ns).map V.int)))):=by
 intro pins s σ H xs us Q I r h;obtain⟨a,ns,rfl,hq,h64,q⟩:=h;obtain⟨u,rfl,r1⟩:=vals1 r;cases r1;obtain⟨its,rv,p,hz⟩:=I.list hq;have hl:=rv.length;rw[List.length_map] at hl;refine sorted_ints p.isList (intsAre_of rv) (by omega) fun out ns' h1 h2 h3=>?_
 have e:=PySem.W.eq_sortI h2 h3;subst e;obtain⟨e,he⟩:=sortedAll_at s.heap its out;have hlen:(PySem.W.sortI ns).length=ns.length:=h2.length_eq;refine⟨.ref (s.heap.objs.size+1),_,I.laid (t':=s.toks) (a:=s.heap.objs.size+1) (o:=.lst ((PySem.W.sortI ns).map V.int)) (fun b o e=>sortedAll_old e) (Nat.le_succ _) ?_,rfl,q _ (I.hok.fresh (Nat.le_succ _))⟩;refine⟨by rw[List.length_map,hlen];exact Nat.le_of_lt (small1000 (by omega)),out.toList,e,vals_of_ints h1,he⟩
noncomputable def oSorted:List D->Option D
 | [.lst l]=>(intsOf l).bind fun ns=>if ns.length<64 then some (.lst ((PySem.W.sortI ns).map D.int)) else none
 | _=>none
theorem intsL_is {K:PySem.W.Frag} {A:Addr->Prop} {H:Hp}:∀ns:List Int,IsL K A H (ns.map D.int) (ns.map V.int)
 | []=>IsL.nil.mpr rfl
 | n::ns=>IsL.cons.mpr ⟨_,_,rfl,Is.int_iff.mpr rfl,intsL_is ns⟩
theorem immL_ints:∀ns:List Int,D.immL (ns.map D.int)=true
 | []=>rfl
 | n::ns=>by simp[D.immL,D.imm,immL_ints ns]
set_option tactic.hygienic true in
theorem cd_sorted {K:PySem.W.Frag} (hK:c.K=K):CallD c (fun xs H Q=>∃(a:Addr) (ns:List Int),xs=[.ref a]/\SqL K H a (ns.map V.int)/\ns.length<64/\∀p,H p=none->Q (.ref p) (upd H p (.lst ((PySem.W.sortI ns).map V.int)))) oSorted:=by
 subst hK;intro l vs H st d Q ok z e q;unfold oSorted at e;split at e
 ·rename_i m
  cases qq:intsOf m with
  | none=>rw[qq] at e;cases e
  | some ns=>
    rw[qq] at e;have e:(if ns.length<64 then some (D.lst ((PySem.W.sortI ns).map D.int)) else none)=some d:=e;split at e
    ·rename_i h64
     cases e;obtain⟨v,r,e1,i1,i2⟩:=IsL.cons.mp z;obtain⟨a,us,ea,_,s1,i3⟩:=Is.lst_iff.mp i1;rw[IsL.nil.mp i2,ea] at e1;rw[intsOf_is qq i3] at s1;exact⟨a,ns,e1,.of s1,h64,fun p hp=>q _ _ (Ext.laid hp) (zm2 ok hp) (New.lst ok hp (fun _ n=>n) (immL_ints _) (intsL_is _))⟩
    ·cases e
 ·cases e
noncomputable def putAll (ps:List (List Key×D)) (acc:List D×List D):List D×List D:=ps.foldl (fun acc p=>dPut p.1 p.2 acc.1 acc.2) acc
noncomputable def sPar3 (S:Type) (i j k:Nat) (f:FnA S):FnS S:=fun ρ st=>(f ρ st).bind fun l st1=>match l with
 | [d,e,h]=>(lift (put ρ i d) st1).bind fun ρ1 st2=>(lift (put ρ1 j e) st2).bind fun ρ2 st3=>(lift (put ρ2 k h) st3).bind fun ρ3 st4=>.ok (.nx ρ3) st4
 | _=>.bad
noncomputable def aAll (S:Type):List (Fn S)->FnA S
 | []=>aNil S
 | f::fs=>aCons S f (aAll S fs)
noncomputable def pickK (x:Str):List Str->List D->Option D
 | k::ks,v::vs=>if k=x then some v else pickK x ks vs
 | _,_=>none
noncomputable def fDisp (S:Type) (ks:List Str) (fs:List (Fn S)) (fk:Fn S):Fn S:=fun ρ st=>(aAll S fs ρ st).bind fun l st1=>(fk ρ st1).bind fun d st2=>match d with
 | .str x=>if D.immL l=true then lift (pickK x ks l) st2 else .bad
 | _=>.bad
end
end L2
end
section
namespace L2
open PySem PySem.Spec PyProof.Rows
noncomputable abbrev Dr:=List Int×Int
noncomputable def stD (l:Addr) (t:Int):List (Key×V):=[(Sum.inr "cells",.ref l),(Sum.inr "turn",.int t)]
noncomputable def WdS (p l:Addr):Wd Dr where
 ok:=fun st H=>H p=some (.dK (stD l st.2))/\H l=some (.lst (st.1.map V.int))/\st.1≠[]/\st.1.length<=63/\0<=st.2
 mv:=fun b=>b=p\/b=l
 h:=.ref p
 stay:=fun st H H' ⟨a,b,c⟩ k=>⟨k p _ (.inl rfl) a,k l _ (.inr rfl) b,c⟩
 live:=fun st H b hI40 m=>by
  obtain⟨a,c,_⟩:=hI40;rcases m with m | m
  ·subst m;exact⟨_,a,(fun u z=>by cases z),fun ob u z=>by cases z⟩
  ·subst m;exact⟨_,c,(fun u z=>by cases z),fun ob u z=>by cases z⟩
noncomputable def mix1 (cell turn:Int):Int:=(cell % 2147483629+turn*turn*7919+11)*48271 % 2147483647
noncomputable def mix2 (cell turn:Int):Int:=mix1 cell turn*mix1 cell turn % 2147483587
noncomputable def mix3 (cell turn:Int):Int:=(mix2 cell turn+turn*104729)*39373 % 2147483629 / 64
noncomputable def plc (st:Dr):Nat:=((st.2+1) % (st.1.length:Int)).toNat
noncomputable def takeF (l:List D) (st:Dr):Res Dr D:=match l with
 | [.int many]=>if 0<many/\many<1073741824/\st.2<2 ^ 40 then
  (if 1000000000000000000<=st.1.getD (plc st) 0 then .ok (.int (st.1.getD (plc st) 0 % many)) (st.1.set (plc st) (st.1.getD (plc st) 0 / many),st.2+1)
   else .ok (.int (mix3 (st.1.getD (plc st) 0) (st.2+1) % many)) (st.1,st.2+1)) else .bad
 | _=>.bad
theorem st_kc:¬((Sum.inr ("cells" : Str)):Key)=Sum.inr ("turn" : Str):=by decide +kernel
theorem st_cells {l:Addr} {t:Int}:valV (stD l t) (Sum.inr "cells" : Key)=some (.ref l):=by
 unfold stD;exact valV_pos rfl
theorem st_turn {l:Addr} {t:Int}:valV (stD l t) (Sum.inr "turn" : Key)=some (.int t):=by
 unfold stD;rw[valV_neg (fun z=>st_kc z)];exact valV_pos rfl
theorem st_put {l:Addr} {t u:Int}:putK (stD l t) (Sum.inr "turn" : Key) (.int u)=stD l u:=by
 unfold putK;rw[valV_any,st_turn];refine(if_pos (show (some (V.int t)).isSome=true from rfl)).trans ?_;unfold stD;simp only[List.map_cons,List.map_nil];rw[if_neg (fun z=>st_kc z)];simp
structure Bn (mg:Str->Option Value):Prop where
 len:mg "len" = none
 divmod:mg "divmod" = none
 list:mg "list" = none
 tuple:mg "tuple" = none
 int:mg "int" = none
 bool:mg "bool" = none
 str:mg "str" = none
 dict:mg "dict" = none
 isinstance:mg "isinstance" = none
 all:mg "all" = none
 any:mg "any" = none
 sum:mg "sum" = none
 zip:mg "zip" = none
 enumerate:mg "enumerate" = none
 range:mg "range" = none
 sorted:mg "sorted" = none
 min:mg "min" = none
 max:mg "max" = none
 abs:mg "abs" = none
 reversed:mg "reversed" = none
end L2
end
section
namespace L2
open PySem PySem.Spec PyProof.Rows
noncomputable def zo5 (ns:List Int):List Int:=if ns=[] then [7] else ns
noncomputable def spBegin (K:PySem.W.Frag):Sp:=fun vs H Q _=>∃(a:Addr) (ns:List Int),vs=[.ref a]/\SqL K H a (ns.map V.int)/\ns.length<=63/\
 ∀(p l:Addr) (H':Hp),Same H H'->H p=none->H l=none->H' p=some (.dK (stD l 0))->H' l=some (.lst ((zo5 ns).map V.int))->Q (.ref p) H'
theorem cut63 {ns:List Int} (h:ns.length<=63):cutV (ns.map V.int) none (some 63)=ns.map V.int:=by
 unfold cutV;have e:HT.sIx (ns.map V.int).length (ns.map V.int).length (some 63)=(ns.map V.int).length:=by
  have:HT.sIx (ns.map V.int).length (ns.map V.int).length (some ((63:Nat):Int))=min 63 (ns.map V.int).length:=HT.sIx_nat _ _ _;rw[show ((63:Nat):Int)=(63:Int) from rfl] at this;rw[this,List.length_map];omega
 rw[e];show ((ns.map V.int).drop 0).take ((ns.map V.int).length-0)=_;rw[List.drop_zero,Nat.sub_zero,List.take_length]
theorem ints_is {K:PySem.W.Frag} {A:Addr->Prop} {H:Hp}:∀ns:List Int,IsL K A H (ns.map D.int) (ns.map V.int)
 | []=>IsL.nil.mpr rfl
 | n::ns=>IsL.cons.mpr ⟨_,_,rfl,Is.int_iff.mpr rfl,ints_is ns⟩
theorem depL_ints:∀ns:List Int,D.depL (ns.map D.int)<=1
 | []=>by simp[D.depL]
 | n::ns=>by
   have:=depL_ints ns;simp only[List.map_cons,D.depL,D.dep];omega
theorem ints_dep (ns:List Int):D.dep (.lst (ns.map D.int))<=30:=by
 have:=depL_ints ns;simp only[D.dep];omega
theorem merge2 {l:Addr}:mergeK [] [((Sum.inr "cells" : Key),.ref l),((Sum.inr "turn" : Key),.int 0)]=stD l 0:=by
 show putK (putK [] (Sum.inr "cells" : Key) (.ref l)) (Sum.inr "turn" : Key) (.int 0)=_;have e1:putK [] (Sum.inr "cells" : Key) (.ref l)=[((Sum.inr "cells" : Key),.ref l)]:=rfl;rw[e1];unfold putK;rw[valV_any,valV_neg (fun z=>st_kc z)];rfl
noncomputable def spLaw (K:PySem.W.Frag):Sp:=fun vs H Q _=>∃(a:Addr) (ns:List Int),vs=[.ref a]/\SqL K H a (ns.map V.int)/\ns.length<=63/\∀H',Q (.bl true) H'
noncomputable def rhoL (n:Nat):Rho:=.no::.hnd::List.replicate (n-2) .no
noncomputable def exL {X:Cx} (K:PySem.W.Frag) (F:FnS Dr):TS:=fun D σ H=>∃p l,tS (cxS (WdS p l) K (fun _=>none)) F D σ H
theorem pss_exL {X:Cx} {K:PySem.W.Frag} {ss:List Stmt} {F:FnS Dr} (h:∀p l,DSs X (cxS (WdS p l) K (fun _=>none)) ss F):PSs X ss (exL (X:=X) K F):=fun pins s σ H D I ⟨p,l,q⟩=>h p l pins s σ H D I q
theorem rep_L {K:PySem.W.Frag} {H:Hp} {p l a:Addr} {m:Nat}:Rep (cxS (WdS p l) K (fun _=>none)) H (some (.ref a)::some (.ref p)::List.replicate m none) (rhoL (m+2)) where
 len:=by simp[rhoL]
 frame:=fun b o e=>by cases e
 slot:=fun i s h=>by
  unfold rhoL at h
  match i with
  | 0=>cases h;trivial
  | 1=>cases h;rfl
  | i+2=>
    have h:(List.replicate (m+2-2) Sl.no)[i]?=some s:=by simpa using h
    rw[List.getElem?_replicate] at h;split at h
    ·cases h;trivial
    ·cases h
 avl:=fun b h=>h.elim
 uniq:=fun i j b d e h1 h2 _ _=>by
  unfold rhoL at h1
  match i with
  | 0=>cases h1
  | 1=>cases h1
  | i+2=>
    have h1:(List.replicate (m+2-2) Sl.no)[i]?=some (.own d):=by simpa using h1
    rw[List.getElem?_replicate] at h1;split at h1
    ·cases h1
    ·cases h1
end L2
end
section
namespace L2
open PySem PySem.Spec PyProof.Rows
section
variable {S α β:Type} {E:Exn->S->Prop} {st:S}
set_option tactic.hygienic true in
theorem wpB {r:Res S α} {k:α->S->Res S β} {Q:β->S->Prop} {P:α->S->Prop} (h:∀d st1,wpR (k d st1) Q E↔P d st1):wpR (r.bind k) Q E↔wpR r P E:=by
 rw[za3];exact iff_of_eq (congrArg (fun z=>wpR r z E) (funext fun d=>funext fun st1=>propext (h d st1)))
theorem ex_some {P:α->Prop} {a:α} {R:Prop} (k:R↔P a):R↔∃b,some a=some b/\P b:=⟨fun q=>⟨a,rfl,k.mp q⟩,fun h=>by obtain⟨_,e,q⟩:=h;cases e;exact k.mpr q⟩
theorem ex_none {P:α->Prop}:False↔∃b,(none:Option α)=some b/\P b:=⟨False.elim,fun h=>by obtain⟨_,e,q⟩:=h;cases e⟩
theorem ex_bl {P:Bool->Prop} {a:Bool} {R:Prop} (k:R↔P a):R↔∃b,D.bl a=.bl b/\P b:=⟨fun q=>⟨a,rfl,k.mp q⟩,fun h=>by obtain⟨_,e,q⟩:=h;cases e;exact k.mpr q⟩
theorem ex_int {P:Int->Prop} {a:Int} {R:Prop} (k:R↔P a):R↔∃b,D.int a=.int b/\P b:=⟨fun q=>⟨a,rfl,k.mp q⟩,fun h=>by obtain⟨_,e,q⟩:=h;cases e;exact k.mpr q⟩
theorem ex_str {P:Str->Prop} {a:Str} {R:Prop} (k:R↔P a):R↔∃b,D.str a=.str b/\P b:=⟨fun q=>⟨a,rfl,k.mp q⟩,fun h=>by obtain⟨_,e,q⟩:=h;cases e;exact k.mpr q⟩
theorem ex_no {c:β->α} {d:α} {P:β->Prop} (h:∀b,d=c b->False):False↔∃b,d=c b/\P b:=⟨False.elim,fun g=>by obtain⟨b,e,_⟩:=g;exact h b e⟩
theorem ex_no2 {γ:Type} {c:β->α} {d:α} {P:β->γ->Prop} (h:∀b,d=c b->False):False↔∃b g,d=c b/\P b g:=⟨False.elim,fun g=>by obtain⟨b,_,e,_⟩:=g;exact h b e⟩
theorem ex_int2 {γ:Type} {P:Int->γ->Prop} {a:Int} {R:Prop} (k:R↔∃g,P a g):R↔∃b g,D.int a=.int b/\P b g:=⟨fun h=>by obtain⟨g,q⟩:=k.mp h;exact⟨a,g,rfl,q⟩,fun h=>by obtain⟨_,g,e,q⟩:=h;cases e;exact k.mpr ⟨g,q⟩⟩
theorem wp_ite {c:Prop} [Decidable c] {r:Res S α} {Q:α->S->Prop}:wpR (if c then r else .bad) Q E↔c/\wpR r Q E:=by
 by_cases h:c
 ·rw[if_pos h];exact⟨fun q=>⟨h,q⟩,fun q=>q.2⟩
 ·rw[if_neg h];exact⟨fun q=>q.elim,fun q=>h q.1⟩
theorem wp_put1 {o:Option Rho} {Q:Fl->S->Prop}:wpR ((lift o st).bind fun ρ1 st2=>Res.ok (Fl.nx ρ1) st2) Q E↔∃ρ1,o=some ρ1/\Q (.nx ρ1) st:=by rw[za3,zb6];exact Iff.rfl
theorem wp_put2 {o:Option Rho} {k:Rho->S->Res S β} {Q:β->S->Prop} {P:Rho->Prop} (h:∀ρ1,wpR (k ρ1 st) Q E↔P ρ1):wpR ((lift o st).bind k) Q E↔∃ρ1,o=some ρ1/\P ρ1:=by
 rw[za3,zb6];exact exists_congr fun ρ1=>and_congr Iff.rfl (h ρ1)
end
theorem bool_iff {d:D} {b:Bool}:d.bool?=some b↔d=.bl b:=by
 cases d with
 | bl a=>exact⟨fun e=>congrArg D.bl (Option.some.inj e),fun e=>congrArg D.bool? e⟩
 | _=>exact⟨fun e=>(by cases e),fun e=>(by cases e)⟩
theorem int_iff {d:D} {b:Int}:d.int?=some b↔d=.int b:=by
 cases d with
 | int a=>exact⟨fun e=>congrArg D.int (Option.some.inj e),fun e=>congrArg D.int? e⟩
 | _=>exact⟨fun e=>(by cases e),fun e=>(by cases e)⟩
section
variable {S:Type} {E:Exn->S->Prop} {ρ:Rho} {st:S}
section
variable {Q:D->S->Prop} {f f1 f2' f3 fk:Fn S}
theorem wp_fAndV:wpR (fAndV S f1 f2' ρ st) Q E↔wpR (f1 ρ st) (fun d st1=>∃b,d=.bl b/\(if b=true then wpR (f2' ρ st1) Q E else Q (.bl false) st1)) E:=wpB fun d st1=>by
 cases d with
 | bl b=>cases b<;>exact ex_bl Iff.rfl
 | _=>exact ex_no fun b e=>by cases e
theorem wp_fOrV:wpR (fOrV S f1 f2' ρ st) Q E↔wpR (f1 ρ st) (fun d st1=>∃b,d=.bl b/\(if b=true then Q (.bl true) st1 else wpR (f2' ρ st1) Q E)) E:=wpB fun d st1=>by
 cases d with
 | bl b=>cases b<;>exact ex_bl Iff.rfl
 | _=>exact ex_no fun b e=>by cases e
theorem wp_fNotV:wpR (fNotV S f ρ st) Q E↔wpR (f ρ st) (fun d st1=>∃b,d=.bl b/\Q (.bl (!b)) st1) E:=wpB fun d st1=>by
 cases d with
 | bl b=>exact ex_bl Iff.rfl
 | _=>exact ex_no fun b e=>by cases e
theorem wp_fNeg:wpR (fNeg S f ρ st) Q E↔wpR (f ρ st) (fun d st1=>∃i,d=.int i/\Q (.int (-i)) st1) E:=wpB fun d st1=>by
 cases d with
 | int b=>exact ex_int Iff.rfl
 | _=>exact ex_no fun b e=>by cases e
theorem wp_pSo {Q:Option Int->S->Prop}:wpR (pSo S f ρ st) Q E↔wpR (f ρ st) (fun d st1=>∃i,d=.int i/\Q (some i) st1) E:=wpB fun d st1=>by
 rw[za3,zb6];exact exists_congr fun i=>and_congr int_iff Iff.rfl
theorem wp_fB {Q:Bool->S->Prop}:wpR (fB S f ρ st) Q E↔wpR (f ρ st) (fun d st1=>∃b,d=.bl b/\Q b st1) E:=wpB fun d st1=>by
 rw[zb6];exact exists_congr fun i=>and_congr bool_iff Iff.rfl
theorem wp_fDisp {ks:List Str} {fs:List (Fn S)}:wpR (fDisp S ks fs fk ρ st) Q E↔wpR (aAll S fs ρ st) (fun l st1=>wpR (fk ρ st1) (fun d st2=>∃x,d=.str x/\D.immL l=true/\wpR (lift (pickK x ks l) st2) Q E) E) E:=wpB fun l st1=>wpB fun d st2=>by
 cases d with
 | str x=>exact ex_str wp_ite
 | _=>exact ex_no fun b e=>by cases e
theorem chain_key {r:Option D} {R1 R0:Res S D}:wpR (match r with
 | some (.bl true)=>R1
 | some (.bl false)=>R0
 | _=>.bad) Q E↔∃b,r=some (.bl b)/\(if b=true then wpR R1 Q E else wpR R0 Q E):=by
 cases r with
 | none=>exact ex_no (c:=fun b=>some (D.bl b)) fun b e=>by cases e
 | some d=>cases d with
   | bl b=>cases b<;>exact⟨fun q=>⟨_,rfl,q⟩,fun h=>by obtain⟨_,e,q⟩:=h;cases e;exact q⟩
   | _=>exact ex_no (c:=fun b=>some (D.bl b)) fun b e=>by cases e
theorem wp_fChain {o o':D->D->Option D}:wpR (fChain S o o' f1 f2' f3 ρ st) Q E↔wpR (f1 ρ st) (fun d1 st1=>wpR (f2' ρ st1) (fun d2 st2=>∃b,o d1 d2=some (.bl b)/\(if b=true then wpR (f3 ρ st2) (fun d3 st3=>wpR (lift (o' d2 d3) st3) Q E) E else Q (.bl false) st2)) E) E:=wpB fun d1 st1=>wpB fun d2 st2=>by
 refine chain_key.trans ?_;rw[za3];exact Iff.rfl
end
section
variable {Q:Fl->S->Prop} {F G B:FnS S} {t:FnT S} {f fk fv:Fn S} {i j k:Nat}
theorem wp_sAug {o:Int->Int->Int}:wpR (sAug S i f o ρ st) Q E↔∃a,rd ρ i=some (.int a)/\wpR (f ρ st) (fun d st1=>∃b ρ1,d=.int b/\put ρ i (.int (o a b))=some ρ1/\Q (.nx ρ1) st1) E:=by
 unfold sAug;cases rd ρ i with
 | none=>exact ex_no (c:=fun b=>some (D.int b)) fun b e=>by cases e
 | some d=>cases d with
   | int a=>
     refine(wpB fun d st1=>?_).trans ⟨fun q=>⟨a,rfl,q⟩,fun h=>by obtain⟨_,e,q⟩:=h;cases e;exact q⟩;cases d with
     | int b=>exact ex_int2 wp_put1
     | _=>exact ex_no2 fun b e=>by cases e
   | _=>exact ex_no (c:=fun b=>some (D.int b)) fun b e=>by cases e
theorem wp_sMt {o:List D->D->Option (List D)}:wpR (sMt S i o f ρ st) Q E↔∃l,lstOf ρ i=some l/\wpR (f ρ st) (fun d st1=>∃l',o l d=some l'/\Q (.nx (ρ.set i (.own (.lst l')))) st1) E:=by
 unfold sMt;cases lstOf ρ i with
 | none=>exact ex_none
 | some l=>
   refine ex_some (wpB fun d st1=>?_);rw[za3,zb6];exact Iff.rfl
theorem wp_sItem:wpR (sItem S i fk fv ρ st) Q E↔wpR (fv ρ st) (fun v st1=>∃l,lstOf ρ i=some l/\wpR (fk ρ st1) (fun d st2=>∃j n,d=.int j/\ixN l.length j=some n/\v.imm=true/\Q (.nx (ρ.set i (.own (.lst (l.set n v))))) st2) E) E:=wpB fun v st1=>by
 cases lstOf ρ i with
 | none=>exact ex_none
 | some l=>
   refine ex_some (wpB fun d st2=>?_);cases d with
   | int j=>
     refine ex_int2 ?_;dsimp only;cases ixN l.length j with
     | none=>exact ex_none
     | some n=>exact ex_some wp_ite
   | _=>exact ex_no2 fun b e=>by cases e
theorem wp_sDPut:wpR (sDPutD S i fk fv ρ st) Q E↔wpR (fv ρ st) (fun v st1=>∃ks vs,dctOf ρ i=some (ks,vs)/\wpR (fk ρ st1) (fun d st2=>∃kk,zd7 d=some kk/\v.imm=true/\ks.length<sizeLine/\Q (.nx (ρ.set i (.own (.dct (.non::(dPut kk v ks vs).1) (dPut kk v ks vs).2)))) st2) E) E:=wpB fun v st1=>by
 cases dctOf ρ i with
 | none=>exact⟨False.elim,fun h=>by obtain⟨_,_,e,_⟩:=h;cases e⟩
 | some l=>
   obtain⟨ks,vs⟩:=l;refine(wpB fun d st2=>?_).trans ⟨fun q=>⟨ks,vs,rfl,q⟩,fun h=>by obtain⟨_,_,e,q⟩:=h;cases e;exact q⟩;cases zd7 d with
   | none=>exact ex_none
   | some kk=>exact ex_some (wp_ite.trans and_assoc)
theorem wp_sPar {fa:FnA S}:wpR (sPar S i j fa ρ st) Q E↔wpR (fa ρ st) (fun l st1=>match l with
 | [d,e]=>∃ρ1,put ρ i d=some ρ1/\∃ρ2,put ρ1 j e=some ρ2/\Q (.nx ρ2) st1
 | _=>False) E:=wpB fun l st1=>by
 match l with
 | []=>exact Iff.rfl
 | [_]=>exact Iff.rfl
 | [d,e]=>exact wp_put2 fun _=>wp_put1
 | _::_::_::_=>exact Iff.rfl
theorem wp_sPar3 {fa:FnA S}:wpR (sPar3 S i j k fa ρ st) Q E↔wpR (fa ρ st) (fun l st1=>match l with
 | [d,e,h]=>∃ρ1,put ρ i d=some ρ1/\∃ρ2,put ρ1 j e=some ρ2/\∃ρ3,put ρ2 k h=some ρ3/\Q (.nx ρ3) st1
 | _=>False) E:=wpB fun l st1=>by
 match l with
 | []=>exact Iff.rfl
 | [_]=>exact Iff.rfl
 | [_,_]=>exact Iff.rfl
 | [d,e,h]=>exact wp_put2 fun _=>wp_put2 fun _=>wp_put1
 | _::_::_::_::_=>exact Iff.rfl
end
end
section
variable {S α β:Type} {Q:α->S->Prop} {E:Exn->S->Prop} {ρ:Rho} {st:S}
theorem wp_ok {a:α}:wpR (Res.ok a st) Q E↔Q a st:=Iff.rfl
theorem wp_bad:wpR (Res.bad:Res S α) Q E↔False:=Iff.rfl
theorem wp_some {a:α}:wpR (lift (some a) st) Q E↔Q a st:=Iff.rfl
theorem wp_none:wpR (lift (none:Option α) st) Q E↔False:=Iff.rfl
end
section
variable {S:Type} {E:Exn->S->Prop} {ρ:Rho} {st:S}
variable {Q:Fl->S->Prop} {F G B:FnS S} {t:FnT S} {f:Fn S} {i j:Nat}
theorem zb2:wpR (sSeq S F G ρ st) Q E↔wpR (F ρ st) (fun fl st1=>match fl with
 | .nx ρ1=>wpR (G ρ1 st1) Q E
 | .rt d=>Q (.rt d) st1
 | .bk r=>Q (.bk r) st1
 | .ct r=>Q (.ct r) st1) E:=by
 unfold sSeq;rw[za3];cases F ρ st with
 | bad=>exact Iff.rfl
 | exc x s=>exact Iff.rfl
 | ok fl s=>cases fl<;>exact Iff.rfl
theorem wp_sNil:wpR (sNil S ρ st) Q E↔Q (.nx ρ) st:=Iff.rfl
theorem wp_sSet:wpR (sSet S i f ρ st) Q E↔wpR (f ρ st) (fun d st1=>∃ρ1,putN ρ i d=some ρ1/\Q (.nx ρ1) st1) E:=by
 unfold sSet;rw[za3];have:∀d st1,wpR ((lift (putN ρ i d) st1).bind fun ρ' st2=>Res.ok (Fl.nx ρ') st2) Q E↔∃ρ1,putN ρ i d=some ρ1/\Q (.nx ρ1) st1:=fun d st1=>by rw[za3,zb6];exact Iff.rfl
 simp only[this]
theorem wp_sSetB:wpR (sSetB S i f ρ st) Q E↔wpR (f ρ st) (fun d st1=>∃ρ1,put ρ i d=some ρ1/\Q (.nx ρ1) st1) E:=by
 unfold sSetB;rw[za3];have:∀d st1,wpR ((lift (put ρ i d) st1).bind fun ρ' st2=>Res.ok (Fl.nx ρ') st2) Q E↔∃ρ1,put ρ i d=some ρ1/\Q (.nx ρ1) st1:=fun d st1=>by rw[za3,zb6];exact Iff.rfl
 simp only[this]
theorem wp_sAsg {g:FnG}:wpR (sAsg S g f ρ st) Q E↔wpR (f ρ st) (fun d st1=>∃ρ1,g d ρ=some ρ1/\Q (.nx ρ1) st1) E:=by
 unfold sAsg;rw[za3];have:∀d st1,wpR ((lift (g d ρ) st1).bind fun ρ' st2=>Res.ok (Fl.nx ρ') st2) Q E↔∃ρ1,g d ρ=some ρ1/\Q (.nx ρ1) st1:=fun d st1=>by rw[za3,zb6];exact Iff.rfl
 simp only[this]
set_option tactic.hygienic true in
theorem wp_sIf:wpR (sIf S t F G ρ st) Q E↔wpR (t ρ st) (fun b st1=>if b=true then wpR (F ρ st1) Q E else wpR (G ρ st1) Q E) E:=by
 unfold sIf;rw[za3];refine iff_of_eq (congrArg (fun z=>wpR (t ρ st) z E) (funext fun b=>funext fun st1=>propext ?_));cases b<;>exact Iff.rfl
set_option tactic.hygienic true in
theorem wp_sRet:wpR (sRet S f ρ st) Q E↔wpR (f ρ st) (fun d st1=>(d.imm=true\/d.flat=true)/\Q (.rt d) st1) E:=by
 unfold sRet;rw[za3];refine iff_of_eq (congrArg (fun z=>wpR (f ρ st) z E) (funext fun b=>funext fun st1=>propext ?_));by_cases h:b.imm=true\/b.flat=true
 ·rw[if_pos h];exact⟨fun q=>⟨h,q⟩,fun q=>q.2⟩
 ·rw[if_neg h];exact⟨fun q=>q.elim,fun q=>h q.1⟩
theorem wp_sRetV:wpR (sRetV S i ρ st) Q E↔∃d,own? ρ i=some d/\Q (.rt d) st:=by
 unfold sRetV;rw[za3,zb6];exact Iff.rfl
theorem wp_sDrop:wpR (sDrop S f ρ st) Q E↔wpR (f ρ st) (fun _ st1=>Q (.nx ρ) st1) E:=by unfold sDrop;rw[za3];exact Iff.rfl
theorem wp_sFor {fz:List Nat} {fi:FnI S} {g:FnG}:wpR (sFor S fz fi g B ρ st) Q E↔wpR (fi (frz fz ρ) st) (fun l st1=>wpR (forD S g B l (frz fz ρ) st1) Q E) E:=by unfold sFor;rw[za3]
theorem wp_sRetN:wpR (sRetN S ρ st) Q E↔Q (.rt .non) st:=Iff.rfl
theorem wp_sBreak:wpR (sBreak S ρ st) Q E↔Q (.bk ρ) st:=Iff.rfl
theorem wp_sCont:wpR (sCont S ρ st) Q E↔Q (.ct ρ) st:=Iff.rfl
theorem wp_sBad:wpR (sBad S ρ st) Q E↔False:=Iff.rfl
theorem wp_forD {g:FnG} (I:Nat->Rho->S->Prop):∀{l:List D} {ρ:Rho} {st:S} (n:Nat),I n ρ st->
 (∀i d ρ st,l[i]?=some d->I (n+i) ρ st->∃ρ1,g d ρ=some ρ1/\wpR (B ρ1 st) (fun fl st'=>match fl with
  | .nx ρ2=>I (n+i+1) ρ2 st'
  | .ct ρ2=>I (n+i+1) ρ2 st'
  | .bk ρ2=>Q (.nx ρ2) st'
  | .rt d=>Q (.rt d) st') E)->(∀ρ st,I (n+l.length) ρ st->Q (.nx ρ) st)->wpR (forD S g B l ρ st) Q E
 | [],ρ,st,n,h0,_,he=>he ρ st h0
 | d::l,ρ,st,n,h0,hs,he=>by
   obtain⟨ρ1,e1,q⟩:=hs 0 d ρ st rfl h0;unfold forD;rw[e1];refine za3.mpr (wp_some.mpr (za3.mpr (za6 q (fun fl st' z=>?_) fun x st' z=>z)));have go:∀ρ2,I (n+1) ρ2 st'->wpR (forD S g B l ρ2 st') Q E:=fun ρ2 z=>wp_forD I (n+1) z (fun i d ρ st h h'=>by
    have:=hs (i+1) d ρ st (by simpa using h) (by rw[show n+(i+1)=n+1+i by omega];exact h');rw[show n+(i+1)=n+1+i by omega] at this;exact this) fun ρ st h=>he ρ st (by rw[List.length_cons,show n+(l.length+1)=n+1+l.length by omega];exact h)
   cases fl with
   | nx ρ2=>exact go ρ2 z
   | ct ρ2=>exact go ρ2 z
   | bk ρ2=>exact z
   | rt d=>exact z
end
section
variable {S:Type} {E:Exn->S->Prop} {ρ:Rho} {st:S} {Q:D->S->Prop} {f f1 f2' f3:Fn S} {i:Nat} {t:FnT S}
theorem wp_fC {d:D}:wpR (fC S d ρ st) Q E↔Q d st:=Iff.rfl
theorem wp_fV:wpR (fV S i ρ st) Q E↔wpR (lift (rd ρ i) st) Q E:=Iff.rfl
theorem wp_fVk:wpR (fVk S i ρ st) Q E↔wpR (lift (kp ρ i) st) Q E:=Iff.rfl
set_option tactic.hygienic true in
theorem wp_fI:wpR (fI S f ρ st) Q E↔wpR (f ρ st) (fun d st1=>d.imm=true/\Q d st1) E:=by
 unfold fI;rw[za3];refine iff_of_eq (congrArg (fun z=>wpR (f ρ st) z E) (funext fun b=>funext fun st1=>propext ?_));by_cases h:b.imm=true
 ·rw[if_pos h];exact⟨fun q=>⟨h,q⟩,fun q=>q.2⟩
 ·rw[if_neg h];exact⟨fun q=>q.elim,fun q=>h q.1⟩
theorem wp_f2 {o:D->D->Option D}:wpR (f2 S o f1 f2' ρ st) Q E↔wpR (f1 ρ st) (fun d1 st1=>wpR (f2' ρ st1) (fun d2 st2=>wpR (lift (o d1 d2) st2) Q E) E) E:=by
 unfold f2;rw[za3];simp only[za3]
theorem wp_fA {o:List D->Option D} {fa:FnA S}:wpR (fA S o fa ρ st) Q E↔wpR (fa ρ st) (fun l st1=>wpR (lift (o l) st1) Q E) E:=by unfold fA;rw[za3]
theorem wp_aNil {Q:List D->S->Prop}:wpR (aNil S ρ st) Q E↔Q [] st:=Iff.rfl
theorem wp_aCons {Q:List D->S->Prop} {r:FnA S}:wpR (aCons S f r ρ st) Q E↔wpR (f ρ st) (fun d st1=>wpR (r ρ st1) (fun l st2=>Q (d::l) st2) E) E:=by
 unfold aCons;rw[za3];simp only[za3];exact Iff.rfl
set_option tactic.hygienic true in
theorem wp_fCall {F:List D->Res Unit D} {fa:FnA S}:wpR (fCall S F fa ρ st) Q E↔wpR (fa ρ st) (fun l st1=>wpR (F l) (fun d _=>Q d st1) fun _ _=>False) E:=by
 unfold fCall;rw[za3];refine iff_of_eq (congrArg (fun z=>wpR (fa ρ st) z E) (funext fun b=>funext fun st1=>propext ?_));cases F b<;>exact Iff.rfl
set_option tactic.hygienic true in
theorem wp_fCallS {F:List D->S->Res S D} {fa:FnA S}:wpR (fCallS S F i fa ρ st) Q E↔ρ[i]?=some .hnd/\wpR (fa ρ st) (fun l st1=>wpR (F l st1) Q fun _ _=>False) E:=by
 unfold fCallS;split
 ·rename_i h
  rw[za3];have:∀b st1,wpR (match F b st1 with
   | .ok d st2=>Res.ok d st2
   | _=>Res.bad) Q E↔wpR (F b st1) Q fun _ _=>False:=fun b st1=>by cases F b st1<;>exact Iff.rfl
  refine(iff_of_eq (congrArg (fun z=>wpR (fa ρ st) z E) (funext fun d=>funext fun st1=>propext (this d st1)))).trans ?_;exact⟨fun q=>⟨h,q⟩,fun q=>q.2⟩
 ·rename_i h
  exact⟨fun q=>q.elim,fun q=>h q.1⟩
theorem wp_fIs {T:Bt}:wpR (fIs S T f ρ st) Q E↔wpR (f ρ st) (fun d st1=>Q (.bl (isI T d)) st1) E:=by unfold fIs;rw[za3];exact Iff.rfl
set_option tactic.hygienic true in
theorem wp_fIfE:wpR (fIfE S t f1 f2' ρ st) Q E↔wpR (t ρ st) (fun b st1=>if b=true then wpR (f1 ρ st1) Q E else wpR (f2' ρ st1) Q E) E:=by
 unfold fIfE;rw[za3];refine iff_of_eq (congrArg (fun z=>wpR (t ρ st) z E) (funext fun b=>funext fun st1=>propext ?_));cases b<;>exact Iff.rfl
theorem wp_fCut {lo hi:FnO S}:wpR (fCut S f lo hi ρ st) Q E↔wpR (f ρ st) (fun d st1=>wpR (lo ρ st1) (fun l st2=>wpR (hi ρ st2) (fun h st3=>wpR (lift (oCut l h d) st3) Q E) E) E) E:=by
 unfold fCut;rw[za3];simp only[za3]
theorem wp_pNo {Q:Option Int->S->Prop}:wpR (pNo S ρ st) Q E↔Q none st:=Iff.rfl
theorem wp_iSeq {Q:List D->S->Prop} {sel:D->Option (List D)}:wpR (iSeq S sel f ρ st) Q E↔wpR (f ρ st) (fun d st1=>wpR (lift (sel d) st1) Q E) E:=by unfold iSeq;rw[za3]
theorem wp_iArgs {Q:List D->S->Prop} {o:List D->Option (List D)} {fa:FnA S}:wpR (iArgs S o fa ρ st) Q E↔wpR (fa ρ st) (fun l st1=>wpR (lift (o l) st1) Q E) E:=by unfold iArgs;rw[za3]
theorem wp_fComp {fz:List Nat} {ixs:List (Option Nat)} {fi:FnI S} {g:FnG}:wpR (fComp S fz ixs fi g t f ρ st) Q E↔wpR (fi (frz fz ρ) st) (fun l st1=>wpR (compD S g t f l [] (pickR (frz fz ρ) ixs) st1) (fun r st2=>Q (.lst r) st2) E) E:=by
 unfold fComp;rw[za3];simp only[za3];exact Iff.rfl
theorem wp_compD {g:FnG} {Q:List D->S->Prop} (I:Nat->List D->Rho->S->Prop):∀{l acc:List D} {ρ:Rho} {st:S} (n:Nat),I n acc ρ st->
 (∀i d acc ρ st,l[i]?=some d->I (n+i) acc ρ st->∃ρ1,g d ρ=some ρ1/\wpR (t ρ1 st) (fun b st1=>if b=true then wpR (f ρ1 st1) (fun y st2=>y.imm=true/\acc.length<sizeLine/\I (n+i+1) (acc++[y]) ρ1 st2) E else I (n+i+1) acc ρ1 st1) E)->
 (∀acc ρ st,I (n+l.length) acc ρ st->Q acc st)->wpR (compD S g t f l acc ρ st) Q E
 | [],acc,ρ,st,n,h0,_,he=>he acc ρ st h0
 | d::l,acc,ρ,st,n,h0,hs,he=>by
   obtain⟨ρ1,e1,q⟩:=hs 0 d acc ρ st rfl h0;have go:∀acc st',I (n+1) acc ρ1 st'->wpR (compD S g t f l acc ρ1 st') Q E:=fun acc st' z=>wp_compD I (n+1) z (fun i d acc ρ st h h'=>by
    have:=hs (i+1) d acc ρ st (by simpa using h) (by rw[show n+(i+1)=n+1+i by omega];exact h');rw[show n+(i+1)=n+1+i by omega] at this;exact this) fun acc ρ st h=>he acc ρ st (by rw[List.length_cons,show n+(l.length+1)=n+1+l.length by omega];exact h)
   unfold compD;rw[e1];refine za3.mpr (wp_some.mpr (za3.mpr (za6 q (fun b st' z=>?_) fun x st' z=>z)));cases b with
   | true=>
     have z:wpR (f ρ1 st') (fun y st2=>y.imm=true/\acc.length<sizeLine/\I (n+0+1) (acc++[y]) ρ1 st2) E:=z;rw[if_pos rfl];refine za3.mpr (za6 z (fun y st2 hI106=>?_) fun x st' z=>z);obtain⟨h1,h2,h3⟩:=hI106;rw[if_pos ⟨h1,h2⟩];exact go _ _ h3
   | false=>exact go _ _ z
variable {Q:Bool->S->Prop} {t1 t2:FnT S}
set_option tactic.hygienic true in
theorem wp_fAnd:wpR (fAnd S t1 t2 ρ st) Q E↔wpR (t1 ρ st) (fun b st1=>if b=true then wpR (t2 ρ st1) Q E else Q false st1) E:=by
 unfold fAnd;rw[za3];refine iff_of_eq (congrArg (fun z=>wpR (t1 ρ st) z E) (funext fun b=>funext fun st1=>propext ?_));cases b<;>exact Iff.rfl
set_option tactic.hygienic true in
theorem wp_fOr:wpR (fOr S t1 t2 ρ st) Q E↔wpR (t1 ρ st) (fun b st1=>if b=true then Q true st1 else wpR (t2 ρ st1) Q E) E:=by
 unfold fOr;rw[za3];refine iff_of_eq (congrArg (fun z=>wpR (t1 ρ st) z E) (funext fun b=>funext fun st1=>propext ?_));cases b<;>exact Iff.rfl
theorem wp_fNot:wpR (fNot S t1 ρ st) Q E↔wpR (t1 ρ st) (fun b st1=>Q (!b) st1) E:=by unfold fNot;rw[za3];exact Iff.rfl
theorem wp_fTrue:wpR (fTrue S ρ st) Q E↔Q true st:=Iff.rfl
end
theorem zg7 {n p:Nat} {B:FnS Unit} {l:List D} {Q:D->Unit->Prop} {E:Exn->Unit->Prop} (hl:l.length=p) (hp:p<=n) (h:wpR (B (rho0 n l) ()) (fun fl st=>match fl with
 | .rt d=>Q d st
 | .nx _=>Q .non st
 | _=>False) E):wpR (dfn n p B l) Q E:=by
 unfold dfn;rw[if_pos ⟨hl,hp⟩];cases q:B (rho0 n l) () with
 | bad=>rw[q] at h;exact h
 | exc x u=>rw[q] at h;exact h
 | ok fl u=>rw[q] at h;cases fl<;>exact h
theorem wp_dfnS {S:Type} {n p:Nat} {B:FnS S} {l:List D} {st:S} {Q:D->S->Prop} {E:Exn->S->Prop} (hl:l.length+1=p) (hp:p<=n) (h:wpR (B (rhoS n l) st) (fun fl st=>match fl with
 | .rt d=>Q d st
 | .nx _=>Q .non st
 | _=>False) E):wpR (dfnS n p B l st) Q E:=by
 unfold dfnS;rw[if_pos ⟨hl,hp⟩];cases q:B (rhoS n l) st with
 | bad=>rw[q] at h;exact h
 | exc x u=>rw[q] at h;exact h
 | ok fl u=>rw[q] at h;cases fl<;>exact h
theorem zj2 {m:Int} {st:Dr} {Q:D->Dr->Prop} {E:Exn->Dr->Prop} (h0:0<m) (h1:m<1073741824) (h2:st.2<2 ^ 40) (h:∀v st',0<=v->v<m->st'.2=st.2+1->Q (.int v) st'):wpR (takeF [.int m] st) Q E:=by
 unfold takeF;simp only;rw[if_pos ⟨h0,h1,h2⟩];split
 ·exact h _ _ (Int.emod_nonneg _ (by omega)) (Int.emod_lt_of_pos _ h0) rfl
 ·exact h _ _ (Int.emod_nonneg _ (by omega)) (Int.emod_lt_of_pos _ h0) rfl
end L2
end
section
namespace L2
open PySem PySem.Spec PyProof.Rows
theorem flat_lst {l:List D}:D.flat (.lst l)=D.immL l:=rfl
theorem flat_dct {k l:List D}:D.flat (.dct k l)=D.immL l:=rfl
theorem flat_int {i:Int}:D.flat (.int i)=false:=rfl
theorem flat_str {i:Str}:D.flat (.str i)=false:=rfl
theorem flat_bl {i:Bool}:D.flat (.bl i)=false:=rfl
theorem flat_non:D.flat .non=false:=rfl
theorem flat_tup {l:List D}:D.flat (.tup l)=false:=rfl
theorem zg3 {n:Nat} (h:n<=1000):n<=sizeLine:=Nat.le_of_lt (small1000 h)
theorem lt_size {n:Nat} (h:n<=1000):n<sizeLine:=small1000 h
theorem zb5 {α:Type} {f:α->D} (h:∀a,(f a).imm=true):∀l:List α,D.immL (l.map f)=true
 | []=>rfl
 | a::l=>by simp only[List.map_cons,D.immL,h a,zb5 h l,Bool.and_self]
theorem zi0 {l:List D} (m:D.immL l=true) (h:l.length<=1000):oTup l=some (.tup l):=if_pos ⟨m,zg3 h⟩
theorem zj3 {l:List D} (m:D.immL l=true) (h:l.length<=1000):oLst l=some (.lst l):=if_pos ⟨m,zg3 h⟩
theorem oTup2 {a b:D} (h1:a.imm=true) (h2:b.imm=true):oTup [a,b]=some (.tup [a,b]):=zi0 (by simp[D.immL,h1,h2]) (by simp)
theorem oTup3 {a b c:D} (h1:a.imm=true) (h2:b.imm=true) (h3:c.imm=true):oTup [a,b,c]=some (.tup [a,b,c]):=zi0 (by simp[D.immL,h1,h2,h3]) (by simp)
theorem oLst0:oLst []=some (.lst []):=zj3 rfl (by simp)
theorem oLst2 {a b:D} (h1:a.imm=true) (h2:b.imm=true):oLst [a,b]=some (.lst [a,b]):=zj3 (by simp[D.immL,h1,h2]) (by simp)
theorem oApp_eq {l:List D} {d:D} (m:d.imm=true) (h:l.length<=1000):oApp l d=some (l++[d]):=if_pos ⟨m,lt_size h⟩
theorem imm_int {i:Int}:D.imm (.int i)=true:=by simp[D.imm]
theorem imm_str {i:Str}:D.imm (.str i)=true:=by simp[D.imm]
theorem imm_bl {i:Bool}:D.imm (.bl i)=true:=by simp[D.imm]
theorem imm_non:D.imm .non=true:=by simp[D.imm]
theorem imm_tup {l:List D}:D.imm (.tup l)=D.immL l:=by simp[D.imm]
theorem zg8 {S:Type} {E:Exn->S->Prop} {ρ:Rho} {st:S} {Q:List D->S->Prop} {g:FnG} {t:FnT S} {f:Fn S} {l:List D} (h:D->D) (R:Rho->Prop) (h0:R ρ)
 (hs:∀d∈l,∀ρ,R ρ->∃ρ1,g d ρ=some ρ1/\R ρ1/\wpR (t ρ1 st) (fun b st1=>b=true/\st1=st) E/\wpR (f ρ1 st) (fun y st2=>y=h d/\y.imm=true/\st2=st) E) (hl:l.length<=sizeLine) (hq:Q (l.map h) st):wpR (compD S g t f l [] ρ st) Q E:=by
 refine wp_compD (fun n acc ρ' st'=>acc=(l.take n).map h/\R ρ'/\st'=st) 0 ⟨by simp,h0,rfl⟩ (fun i d acc ρ' st' hd hI108=>?_) fun acc ρ' st' hI107=>?_
 ·obtain⟨e1,r,e2⟩:=hI108
  subst e2;have hi:i<l.length:=(List.getElem?_eq_some_iff.mp hd).1;obtain⟨ρ1,q1,r1,q2,q3⟩:=hs d (List.mem_of_getElem? hd) ρ' r;refine⟨ρ1,q1,za6 q2 (fun b st1 hI109=>?_) fun x s z=>z⟩;obtain⟨eb,es⟩:=hI109;subst eb es;rw[if_pos rfl];refine za6 q3 (fun y st2 ⟨ey,my,es⟩=>⟨my,?_,?_,r1,es⟩) fun x s z=>z
  ·rw[e1,List.length_map,List.length_take];omega
  ·rw[e1,ey,Nat.zero_add,List.take_add_one,hd,List.map_append];rfl
 ·obtain⟨e1,r,e2⟩:=hI107
  rw[Nat.zero_add,List.take_length] at e1;subst e1 e2;exact hq
theorem intsOf_map {α:Type} {f:α->Int}:∀l:List α,intsOf (l.map fun a=>.int (f a))=some (l.map f)
 | []=>rfl
 | a::l=>by simp only[List.map_cons,intsOf,intsOf_map l,Option.map_some]
theorem zo6 {α:Type} {f:α->Bool}:∀l:List α,zg6 (l.map fun a=>.bl (f a))=some (l.map f)
 | []=>rfl
 | a::l=>by simp only[List.map_cons,zg6,zo6 l,Option.map_some]
mutual
noncomputable def D.lw:D->Bool
 | .bl _=>false
 | .dct _ _=>false
 | .fl _=>false
 | .tup l=>D.lwL l&&decide (l.length<=sizeLine)
 | .lst l=>D.lwL l&&decide (l.length<=sizeLine)
 | _=>true
noncomputable def D.lwL:List D->Bool
 | []=>true
 | d::l=>D.lw d&&D.lwL l
end
theorem lwL_iff {l:List D}:D.lwL l=true↔∀d∈l,d.lw=true:=by
 induction l with
 | nil=>simp[D.lwL]
 | cons a l ih=>simp[D.lwL,ih]
theorem depL_le {l:List D} {d:D} (h:d∈l):d.dep<=D.depL l:=by
 induction l with
 | nil=>cases h
 | cons a l ih=>
   unfold D.depL;rcases List.mem_cons.mp h with e | e
   ·subst e;omega
   ·have:=ih e;omega
theorem pairs_mem {l:List D} {d:D} (h:d∈pairs l l):∃x∈l,d=.tup [x,x]:=by
 obtain⟨i,hi⟩:=List.getElem?_of_mem h;obtain⟨x,y,h1,h2,rfl⟩:=pairs_get hi;rw[h1] at h2;cases h2;exact⟨x,List.mem_of_getElem? h1,rfl⟩
theorem all_true {l:List D}:zg6 (l.map fun _=>.bl true)=some (l.map fun _=>true):=zo6 (f:=fun _=>true) l
theorem zd6 {j:Int} (h:j<=1000) (h0:0<=j):oRange1 [.int j]=some (zj5 0 j.toNat):=if_pos ⟨by omega,by omega⟩
theorem zc3 {lo:Int} {n:Nat}:(zj5 lo n).length=n:=by unfold zj5;simp
theorem zd4 {lo:Int} {n i:Nat} {d:D} (h:(zj5 lo n)[i]?=some d):d=.int (lo+i)/\i<n:=by
 unfold zj5 at h;rw[List.getElem?_map] at h;cases q:(List.range n)[i]? with
 | none=>rw[q] at h;cases h
 | some k=>
   rw[q] at h;obtain⟨hi,e⟩:=List.getElem?_eq_some_iff.mp q;rw[List.getElem_range] at e;subst e;cases h;exact⟨rfl,by simpa using hi⟩
mutual
theorem eqq_refl:∀{d:D},d.lw=true->D.eqq d d=some true
 | .non,_=>rfl
 | .bl _,h=>by simp[D.lw] at h
 | .int i,_=>by simp[D.eqq]
 | .str i,_=>by simp[D.eqq]
 | .tup l,h=>by
   have h':D.lwL l=true/\l.length<=sizeLine:=by simpa [D.lw] using h
   simp only[D.eqq,eqL_refl h'.1]
 | .lst l,h=>by
   have h':D.lwL l=true/\l.length<=sizeLine:=by simpa [D.lw] using h
   simp only[D.eqq,eqL_refl h'.1,if_true]
 | .dct _ _,h=>by simp[D.lw] at h
theorem eqL_refl:∀{l:List D},D.lwL l=true->D.eqL l l=some true
 | [],_=>rfl
 | d::l,h=>by
   have h':d.lw=true/\D.lwL l=true:=by simpa [D.lwL] using h
   simp only[D.eqL,eqq_refl h'.1,eqL_refl h'.2,Option.bind_some,Option.map_some,Bool.and_self]
end
theorem zo3 {α:Type} {f:α->D} {n:Nat} (h:∀a,(f a).dep<=n):∀l:List α,D.depL (l.map f)<=n
 | []=>Nat.zero_le _
 | a::l=>by
   have h1:=h a;have h2:=zo3 h l;simp only[List.map_cons,D.depL];omega
theorem oEq_refl {neg:Bool} {d:D} (h:d.lw=true) (hd:d.dep<=30):oEq neg d d=some (.bl (if neg then false else true)):=by
 unfold oEq;rw[if_pos hd,eqq_refl h];cases neg<;>rfl
end L2
end
section
namespace L2
open PySem PySem.Spec PyProof.Rows
section
variable {S:Type} {E:Exn->S->Prop} {ρ:Rho} {st:S} {Q:Fl->S->Prop} {f fk fv:Fn S} {i j k:Nat} {t:FnT S} {B:FnS S}
theorem wp_whileD (I:Rho->S->Prop) (μ:Rho->S->Nat) (hs:∀ρ st,I ρ st->wpR (t ρ st) (fun b st1=>if b=true then wpR (B ρ st1) (fun fl st2=>match fl with
 | .nx ρ2=>I ρ2 st2/\μ ρ2 st2<μ ρ st
 | .ct ρ2=>I ρ2 st2/\μ ρ2 st2<μ ρ st
 | .bk ρ2=>Q (.nx ρ2) st2
 | .rt d=>Q (.rt d) st2) E else Q (.nx ρ) st1) E):∀(n:Nat) (ρ:Rho) (st:S),I ρ st->μ ρ st<n->wpR (zi3 S t B n ρ st) Q E
 | 0,_,_,_,h=>absurd h (Nat.not_lt_zero _)
 | n+1,ρ,st,h,hm=>by
   unfold zi3;refine za3.mpr (za6 (hs ρ st h) (fun b st1 q=>?_) fun x s z=>z);cases b with
   | false=>exact q
   | true=>
     have q:wpR (B ρ st1) _ E:=q;rw[if_pos rfl];refine za3.mpr (za6 q (fun fl st2 z=>?_) fun x s z=>z);cases fl with
     | nx ρ2=>exact wp_whileD I μ hs n ρ2 st2 z.1 (by have:=z.2;omega)
     | ct ρ2=>exact wp_whileD I μ hs n ρ2 st2 z.1 (by have:=z.2;omega)
     | bk ρ2=>exact z
     | rt d=>exact z
theorem wp_sWhile (I:Rho->S->Prop) (μ:Rho->S->Nat) (h0:I ρ st) (hs:∀ρ st,I ρ st->wpR (t ρ st) (fun b st1=>if b=true then wpR (B ρ st1) (fun fl st2=>match fl with
 | .nx ρ2=>I ρ2 st2/\μ ρ2 st2<μ ρ st
 | .ct ρ2=>I ρ2 st2/\μ ρ2 st2<μ ρ st
 | .bk ρ2=>Q (.nx ρ2) st2
 | .rt d=>Q (.rt d) st2) E else Q (.nx ρ) st1) E):wpR (sWhile S t B ρ st) Q E:=by
 have h:=wp_whileD (Q:=Q) (E:=E) I μ hs (μ ρ st+1) ρ st h0 (Nat.lt_succ_self _);rw[sWhile_eq (n:=μ ρ st+1) (fun z=>by rw[z] at h;exact h)];exact h
end
section
variable {S:Type} {E:Exn->S->Prop} {ρ:Rho} {st:S} {Q:D->S->Prop} {f1 f2' f3 fk:Fn S}
end
theorem iOp_eq {C:Int->Int->Prop} [∀i j,Decidable (C i j)] {g:Int->Int->D} {i j:Int} (h:C i j):iOp C g (.int i) (.int j)=some (g i j):=if_pos h
end L2
end
section
namespace L2
open PySem PySem.Spec PyProof.Rows
section
variable {S:Type} {E:Exn->S->Prop} {ρ:Rho} {st:S} {Q:Fl->S->Prop} {F G:FnS S}
end
theorem lt_big {n:Nat} (h:n<=1000000):n<sizeLine:=by rw[sizeLine_eq];omega
theorem atI_pos {l:List D} {v:Int} (h0:0<=v) (h1:v<l.length):∃d,atI l v=some d/\l[v.toNat]?=some d:=by
 have hv:v.toNat<l.length:=by omega
 refine⟨l[v.toNat],?_,List.getElem?_eq_getElem hv⟩;have:=atI_nat (List.getElem?_eq_getElem hv);rwa [show ((v.toNat:Nat):Int)=v by omega] at this
theorem ix_get {l:List D} {v:Int} {d:D} (m:d.imm=true) (h0:0<=v) (h:l[v.toNat]?=some d):oIx (.lst l) (.int v)=some d/\oIx (.tup l) (.int v)=some d:=by
 have h1:v<l.length:=by have:=(List.getElem?_eq_some_iff.mp h).1;omega
 obtain⟨d',e,e2⟩:=atI_pos h0 h1;rw[h] at e2;cases e2;constructor
 ·show im (atI l v)=_
  rw[e];simp[im,m]
 ·show im (atI l v)=_
  rw[e];simp[im,m]
theorem eqq_int {i j:Int}:D.eqq (.int i) (.int j)=some (i == j):=by simp only[D.eqq]
theorem eqq_str {i j:Str}:D.eqq (.str i) (.str j)=some (i == j):=by simp only[D.eqq]
theorem oEq_int {neg:Bool} {i j:Int}:oEq neg (.int i) (.int j)=some (.bl (if neg then !(i == j) else (i == j))):=by
 unfold oEq;rw[if_pos (by simp[D.dep]),eqq_int];rfl
theorem zj4 {neg:Bool} {i j:Str}:oEq neg (.str i) (.str j)=some (.bl (if neg then !(i == j) else (i == j))):=by
 unfold oEq;rw[if_pos (by simp[D.dep]),eqq_str];rfl
theorem dLook_zip {k:List Key} {g:D->D->D}:∀{ks vs:List D},ks.length=vs.length->(dLook k ks (List.zipWith g ks vs)).isSome=(dLook k ks vs).isSome
 | [],[],_=>rfl
 | a::ks,b::vs,h=>by
   show (dLook k (a::ks) (g a b::List.zipWith g ks vs)).isSome=_;unfold dLook;by_cases e:zd7 a=some k
   ·rw[if_pos e,if_pos e];rfl
   ·rw[if_neg e,if_neg e];exact dLook_zip (by simpa using h)
 | [],_::_,h=>by cases h
 | _::_,[],h=>by cases h
theorem dLook_app {k k':List Key} {v:D}:∀{ks vs:List D},ks.length=vs.length->(dLook k (ks++[dKeys k']) (vs++[v])).isSome=((dLook k ks vs).isSome||decide (k'=k))
 | [],[],_=>by
   show (dLook k [dKeys k'] [v]).isSome=_;unfold dLook;rw[zh3];by_cases e:k'=k
   ·rw[if_pos (by rw[e])];simp[e]
   ·rw[if_neg (fun z=>e (Option.some.inj z))];simp[dLook,e]
 | a::ks,b::vs,h=>by
   show (dLook k (a::(ks++[dKeys k'])) (b::(vs++[v]))).isSome=_;unfold dLook;by_cases e:zd7 a=some k
   ·rw[if_pos e,if_pos e];rfl
   ·rw[if_neg e,if_neg e];exact dLook_app (by simpa using h)
 | [],_::_,h=>by cases h
 | _::_,[],h=>by cases h
theorem dPut_len {k:List Key} {v:D} {ks vs:List D} (h:ks.length=vs.length):(dPut k v ks vs).1.length=(dPut k v ks vs).2.length/\(dPut k v ks vs).1.length<=ks.length+1:=by
 unfold dPut;split
 ·simp[List.length_zipWith,h]
 ·simp[h]
set_option tactic.hygienic true in
theorem dPut_look {k k':List Key} {v:D} {ks vs:List D} (h:ks.length=vs.length):(dLook k (dPut k' v ks vs).1 (dPut k' v ks vs).2).isSome=((dLook k ks vs).isSome||decide (k'=k)):=by
 unfold dPut;split
 ·rename_i hs
  rw[dLook_zip h];by_cases e:k'=k
  ·subst e;simp[hs]
  ·simp[e]
 ·exact dLook_app h
noncomputable def Holds (d:D) (n:Nat) (P:List Key->Prop):Prop:=∃ks vs,d=.dct (.non::ks) vs/\D.immL vs=true/\ks.length=vs.length/\ks.length<=n/\∀k,(dLook k ks vs).isSome=true↔P k
theorem Holds.put {ks vs:List D} {n:Nat} {P:List Key->Prop} {k:List Key} {v:D} (h:Holds (.dct (.non::ks) vs) n P) (hv:v.imm=true):Holds (.dct (.non::(dPut k v ks vs).1) (dPut k v ks vs).2) (n+1) (fun q=>P q\/k=q):=by
 obtain⟨ks',vs',e,h1,h2,h3,h4⟩:=h;cases e;refine⟨_,_,rfl,immL_dPut hv h1,(dPut_len h2).1,by have:=(dPut_len (k:=k) (v:=v) h2).2;omega,fun q=>?_⟩;rw[dPut_look h2,Bool.or_eq_true,h4 q,decide_eq_true_eq]
theorem Holds.all:∀{ps:List (List Key×D)} {ks vs:List D} {n:Nat} {P:List Key->Prop},Holds (.dct (.non::ks) vs) n P->(∀p∈ps,p.2.imm=true)->Holds (.dct (.non::(putAll ps (ks,vs)).1) (putAll ps (ks,vs)).2) (n+ps.length) (fun q=>P q\/∃p∈ps,p.1=q)
 | [],ks,vs,n,P,h,_=>by
   obtain⟨ks',vs',e,h1,h2,h3,h4⟩:=h;exact⟨ks',vs',e,h1,h2,h3,fun q=>by rw[h4 q];simp⟩
 | p::ps,ks,vs,n,P,h,hv=>by
   have h':=Holds.all (ps:=ps) (h.put (k:=p.1) (hv p (by simp))) fun q hq=>hv q (by simp[hq])
   obtain⟨ks',vs',e,h1,h2,h3,h4⟩:=h';refine⟨ks',vs',e,h1,h2,by simp;omega,fun q=>?_⟩;rw[h4 q];simp only[List.mem_cons,exists_eq_or_imp];constructor
   ·rintro ((a | a) | a)
    ·exact .inl a
    ·exact .inr (.inl a)
    ·exact .inr (.inr a)
   ·rintro (a | a | a)
    ·exact .inl (.inl a)
    ·exact .inl (.inr a)
    ·exact .inr a
theorem Holds.flat {d:D} {n:Nat} {P:List Key->Prop} (h:Holds d n P):d.flat=true:=by
 obtain⟨ks,vs,rfl,h1,h2,h3,h4⟩:=h;exact h1
theorem Holds.nil {n:Nat}:Holds (.dct [.non] []) n (fun _=>False):=⟨[],[],rfl,rfl,rfl,Nat.zero_le _,fun k=>by simp[dLook]⟩
end L2
end
section
end
section
namespace L2
open PySem PySem.Spec PyProof.Rows
noncomputable def FrT (K:PySem.W.Frag) (a:Addr) (xs:List V):Prop:=∃(o:Obj) (its:Array Value) (n:Nat),K.lookup a=some o/\o.cls=.type "tuple"/\o.data=.seq its n/\its.size<=sizeLine/\Vals xs its.toList
theorem FrT.sq {K:PySem.W.Frag} {a:Addr} {xs:List V} {H:Hp} (h:FrT K a xs):SqT K H a xs:=.inr h
noncomputable def Tab2 (K:PySem.W.Frag) (a:Addr) (tbl:List (Int×Int)):Prop:=∃vs,FrT K a vs/\vs.length=tbl.length/\∀(i:Nat) (p:Int×Int),tbl[i]?=some p->∃b,vs[i]?=some (.ref b)/\FrT K b [.int p.1,.int p.2]
section
variable {X:Cx} {S:Type} {W:Wd S} {c:Dx W} {g ga gb gc:Gr} {a b:Expr} {fa fb fc:Fn S} {pos p2:Pos}
theorem de_globI {x:Str} {i:Int} (hc:∃t,X.mg x=some (.int i t)) (hg:Gl X x) (hd:(x == ("__debug__" : Str))=false:=by decide):DE X c g (.Name x pos) (fC S (.int i)):=by
 obtain⟨t,hm⟩:=hc;exact(pe_glob (v:=.int i) hg hm ⟨t,rfl⟩ hd).imp fun σ H Q ⟨ρ,st,R,ok,w⟩=>w _ _ Ext.refl ok (New.val R (show New c H H (.int _) (.int _) from Is.int_iff.mpr rfl) g)
noncomputable def sTab2 (S:Type) (tbl:List (Int×Int)) (i j:Nat) (f:Fn S):FnS S:=fun ρ st=>(f ρ st).bind fun d st1=>match d with
 | .int k=>if 0<=k then match tbl[k.toNat]? with
  | some p=>(lift (put ρ i (.int p.1)) st1).bind fun ρ1 st2=>(lift (put ρ1 j (.int p.2)) st2).bind fun ρ2 st3=>.ok (.nx ρ2) st3
  | none=>.bad
   else .bad
 | _=>.bad
set_option tactic.hygienic true in
theorem ds_tab2 {x n1 n2:Str} {e:Expr} {f:Fn S} {tbl:List (Int×Int)} {i j:Nat} {a0:Addr} {px p1 p2 pt ps:Pos} {kt} (hc:X.calm=true) (hK:c.K=X.K) (hm:∃a0,X.mg x=some (.ref a0)/\Tab2 X.K a0 tbl) (hg:Gl X x) (hN:X.N.Nodup) (hi:X.N[i]?=some n1) (hj:X.N[j]?=some n2) (h1:Loc X.env.scope n1) (h2:Loc X.env.scope n2)
 (he:DE X c .R e f) (hpi:PlainIx e) (hd:(x == ("__debug__" : Str))=false:=by decide)
 (hf1:X.fn n1=true\/X.env.scope.names.lookup n1=some .local:=by first | exact .inl rfl | exact .inr rfl | assumption) (hf2:X.fn n2=true\/X.env.scope.names.lookup n2=some .local:=by first | exact .inl rfl | exact .inr rfl | assumption)
 (hs:swapsWithSole [.Tuple [.Name n1 p1,.Name n2 p2] kt pt] (.Subscript (.Name x px) e ps) pos.line X.env=pure false:=by rfl) (hw:swappedStores [.Tuple [.Name n1 p1,.Name n2 p2] kt pt] (.Subscript (.Name x px) e ps) X.env=pure none:=by rfl)
 (ha:(assignEach [.Tuple [.Name n1 p1,.Name n2 p2] kt pt] X.env).map (·.2)=[assign (.Tuple [.Name n1 p1,.Name n2 p2] kt pt) X.env]:=by rfl)
 (hn:(assignEach [.Name n1 p1,.Name n2 p2] X.env).length=2:=by rfl) (hst:(assignEach [.Name n1 p1,.Name n2 p2] X.env).findIdx? (·.1)=none:=by rfl)
 (hs1:(assignEach [.Name n1 p1,.Name n2 p2] X.env).map (·.2)=assign (.Name n1 p1) X.env::(assignEach [.Name n2 p2] X.env).map (·.2):=by rfl) (hs2:(assignEach [.Name n2 p2] X.env).map (·.2)=assign (.Name n2 p2) X.env::(assignEach [] X.env).map (·.2):=by rfl) :
 DS X c (.Assign [.Tuple [.Name n1 p1,.Name n2 p2] kt pt] (.Subscript (.Name x px) e ps) pos) (sTab2 S tbl i j f):=by
 obtain⟨a0,hm,vs,fr,hl,ht⟩:=hm;refine(ps_asg (pe_ix ix_tup (pe_glob (v:=.ref a0) hg hm rfl hd) he hpi) (pg_tup (n:=2) hc (pgs_cons (pg_name (i:=i) hN hi h1 hf1) (pgs_cons (pg_name (i:=j) hN hj h2 hf2) pgs_nil hs2) hs1) hn hst) hs hw ha).imp fun D σ H hI110=>?_
 obtain⟨ρ,st,R,ok,w⟩:=hI110;refine⟨ρ,st,R,ok,za6 (za3.mp w) (fun d st1 q v H1 e1 ok1 z=>?_) fun x st1 q H' e ok'=>q H' (e.f0 R) ok'⟩;split at q
 ·rename_i k
  split at q
  ·rename_i hk
   split at q
   ·rename_i p hp
    obtain⟨ρ1,p1',q⟩:=zb6.mp (za3.mp q);obtain⟨ρ2,p2',q⟩:=zb6.mp (za3.mp q);obtain⟨l1,rfl⟩:=put_some p1';obtain⟨l2,rfl⟩:=put_some p2';obtain⟨b,hb,frb⟩:=ht k.toNat p hp;have z':Is c.K (fun b=>¬W.mv b) H1 (.int k) v:=z.toR;have R1:=(R.ext ok e1).setB l1 (show Is c.K (Av c σ ρ) H1 (.int p.1) (.int p.1) from Is.int_iff.mpr rfl);have R2:=R1.setB l2 (show Is c.K _ H1 (.int p.2) (.int p.2) from Is.int_iff.mpr rfl);refine⟨a0,vs,k,.ref b,rfl,Is.int_iff.mp z',fr.sq,?_,b,[.int p.1,.int p.2],rfl,frb.sq,rfl,_,_,rfl,_,_,rfl,rfl,?_⟩
    ·have:=atI_nat hb
     rwa [show ((k.toNat:Nat):Int)=k by omega] at this
    ·exact q _ _ ((Ext.frm e1).trans (frm_setB.trans frm_setB)) ok1 R2
   ·exact q.elim
  ·exact q.elim
 ·exact q.elim
noncomputable def oGetD (d k x:D):Option D:=match d with
 | .dct (.non::ks) vs=>(zd7 k).bind fun kk=>im (some ((dLook kk ks vs).getD x))
 | _=>none
noncomputable def fGet (S:Type) (f1 f2 f3:Fn S):Fn S:=fun ρ st=>(f1 ρ st).bind fun d st1=>match d with
 | .dct (.non::ks) vs=>(f2 ρ st1).bind fun k st2=>(f3 ρ st2).bind fun x st3=>lift (oGetD (.dct (.non::ks) vs) k x) st3
 | _=>.bad
set_option tactic.hygienic true in
theorem de_get {o e f:Expr} {apos cpos:Pos} (hu:X.A.units+1<cLine) (ho:DE X c ga o fa) (he:DE X c gb e fb) (hf:DE X c gc f fc) (m:M2 X o "get" apos e f cpos):DE X c g (.Call (.Attribute o "get" apos) [e,f] [] cpos) (fGet S fa fb fc):=
 (pe_dget2 hu ho he hf m).imp fun σ H Q hI41=>by
  obtain⟨ρ,st,R,ok,w⟩:=hI41;have w':=za3.mp w;refine⟨ρ,st,R,ok,za6 w' (fun d st1 q v H1 e1 ok1 z=>?_) fun x st1 q=>q⟩;split at q
  ·rename_i ks vs
   have z1:Is c.K (fun b=>¬W.mv b) H1 (.dct (.non::ks) vs) v:=z.toR;obtain⟨a,us,ev,n,i1,hh⟩:=Is.dct_iff.mp z1;have isd:IsD H1 a:=by
    rcases hh with⟨kk,_,_,h⟩ | ⟨kk,_,_,h⟩
    ·exact .inl ⟨_,.inl h⟩
    ·exact .inr ⟨_,.inl h⟩
   refine⟨a,ev,isd,ρ,st1,R.ext ok e1,ok1,za6 (za3.mp q) (fun k st2 q v2 H2 e2 ok2 z2=>?_) fun x st2 q H2 e2 ok2=>q H2 (e1.trans e2) ok2⟩;have R2:=(R.ext ok e1).ext ok1 e2;refine⟨ρ,st2,R2,ok2,za6 (za3.mp q) (fun x st3 q v3 H3 e3 ok3 z3=>?_) fun x st3 q H3 e3 ok3=>q H3 ((e1.trans e2).trans e3) ok3⟩;obtain⟨dd,e4,q⟩:=zb6.mp q;have et:=(e1.trans e2).trans e3;have R3:=R2.ext ok2 e3;have y1:Is c.K (fun b=>¬W.mv b) H3 (.dct (.non::ks) vs) v:=(z1.ext e2 ok1 fun _ n=>n).ext e3 ok2 fun _ n=>n
   have y2:Is c.K (fun b=>¬W.mv b) H3 k v2:=z2.toR.ext e3 ok2;have y3:Is c.K (fun b=>¬W.mv b) H3 x v3:=z3.toR;cases hk:zd7 k with
   | none=>unfold oGetD at e4;rw[hk] at e4;cases e4
   | some kk=>
     have e4:im (some ((dLook kk ks vs).getD x))=some dd:=by unfold oGetD at e4;rw[hk] at e4;exact e4
     obtain⟨e5,im5⟩:=im_some e4;obtain⟨a',o',ea,gd,hcase⟩:=dget_D hk y2 y1;rw[ev] at ea;have ea:a=a':=by cases ea;rfl
     subst ea;refine⟨o',gd,q _ H3 et ok3 ?_⟩;have y:Is c.K (fun b=>¬W.mv b) H3 dd (o'.getD v3):=by
      rcases hcase with⟨h1,h2⟩ | ⟨d',v',h1,h2,h3⟩
      ·rw[h1] at e5;rw[h2]
       cases e5;exact y3
      ·rw[h1] at e5;rw[h2]
       cases e5;exact h3
     exact(New.val R3 (show New c H3 H3 dd _ from Is.ofImm im5 y) g).back et ok3
  ·exact q.elim
end
end L2
end
section
namespace L2
open PySem PySem.Spec PyProof.Rows
section
variable {S:Type} {E:Exn->S->Prop} {ρ:Rho} {st:S}
theorem wp_sTab2 {Q:Fl->S->Prop} {i j:Nat} {f:Fn S} {tbl:List (Int×Int)}:wpR (sTab2 S tbl i j f ρ st) Q E↔wpR (f ρ st) (fun d st1=>∃k p,d=.int k/\0<=k/\tbl[k.toNat]?=some p/\∃ρ1,put ρ i (.int p.1)=some ρ1/\∃ρ2,put ρ1 j (.int p.2)=some ρ2/\Q (.nx ρ2) st1) E:=wpB fun d st1=>by
 cases d with
 | int k=>
   refine ex_int2 ?_;refine(wp_ite.trans ?_).trans exists_and_left.symm;refine and_congr Iff.rfl ?_;cases tbl[k.toNat]? with
   | none=>exact ex_none
   | some p=>exact ex_some (wp_put2 fun _=>wp_put1)
 | _=>exact ex_no2 fun b e=>by cases e
set_option tactic.hygienic true in
theorem wp_fGet {Q:D->S->Prop} {f1 f2' f3:Fn S}:wpR (fGet S f1 f2' f3 ρ st) Q E↔wpR (f1 ρ st) (fun d st1=>∃ks vs,d=.dct (.non::ks) vs/\wpR (f2' ρ st1) (fun k st2=>wpR (f3 ρ st2) (fun x st3=>wpR (lift (oGetD (.dct (.non::ks) vs) k x) st3) Q E) E) E) E:=by
 unfold fGet;rw[za3];refine iff_of_eq (congrArg (fun z=>wpR (f1 ρ st) z E) (funext fun d=>funext fun st1=>propext ?_));by_cases hd:∃ks vs,d=.dct (.non::ks) vs
 ·obtain⟨ks,vs,rfl⟩:=hd
  show wpR ((f2' ρ st1).bind fun k st2=>(f3 ρ st2).bind fun x st3=>lift (oGetD (.dct (.non::ks) vs) k x) st3) Q E↔_;rw[za3];simp only[za3];exact⟨fun q=>⟨ks,vs,rfl,q⟩,fun ⟨ks',vs',e,q⟩=>by cases e;exact q⟩
 ·constructor
  ·intro q
   split at q
   ·rename_i ks vs
    exact absurd ⟨ks,vs,rfl⟩ hd
   ·exact q.elim
  ·rintro ⟨ks,vs,rfl,_⟩
   exact absurd ⟨ks,vs,rfl⟩ hd
end
theorem tab2_of4 {K:PySem.W.Frag} {a b0 b1 b2 b3:Addr} {p0 p1 p2 p3:Int×Int} {od od0 od1 od2 od3:Option Addr} {sl sl0 sl1 sl2 sl3:Array (Option Value)} {n n0 n1 n2 n3:Nat} {t0 t1 t2 t3 u0 u1 u2 u3:Tok}
 (h:K.lookup a=some ⟨.type "tuple",od,.seq #[.ref b0,.ref b1,.ref b2,.ref b3] n,sl⟩) (h0:K.lookup b0=some ⟨.type "tuple",od0,.seq #[.int p0.1 t0,.int p0.2 u0] n0,sl0⟩) (h1:K.lookup b1=some ⟨.type "tuple",od1,.seq #[.int p1.1 t1,.int p1.2 u1] n1,sl1⟩)
 (h2:K.lookup b2=some ⟨.type "tuple",od2,.seq #[.int p2.1 t2,.int p2.2 u2] n2,sl2⟩) (h3:K.lookup b3=some ⟨.type "tuple",od3,.seq #[.int p3.1 t3,.int p3.2 u3] n3,sl3⟩):Tab2 K a [p0,p1,p2,p3]:=by
 have pr:∀{b:Addr} {p:Int×Int} {od:Option Addr} {sl:Array (Option Value)} {n:Nat} {t u:Tok},K.lookup b=some ⟨.type "tuple",od,.seq #[.int p.1 t,.int p.2 u] n,sl⟩->FrT K b [.int p.1,.int p.2]:=fun {b p od sl n t u} h=>
  ⟨_,_,_,h,rfl,rfl,by show 2<=sizeLine;decide,.cons ⟨t,rfl⟩ (.cons ⟨u,rfl⟩ .nil)⟩
 refine⟨[.ref b0,.ref b1,.ref b2,.ref b3],⟨_,_,_,h,rfl,rfl,by show 4<=sizeLine;decide,.cons rfl (.cons rfl (.cons rfl (.cons rfl .nil)))⟩,rfl,fun i p hp=>?_⟩
 match i,hp with
 | 0,hp=>cases hp;exact⟨b0,rfl,pr h0⟩
 | 1,hp=>cases hp;exact⟨b1,rfl,pr h1⟩
 | 2,hp=>cases hp;exact⟨b2,rfl,pr h2⟩
 | 3,hp=>cases hp;exact⟨b3,rfl,pr h3⟩
 | i+4,hp=>simp at hp
end L2
end
section
namespace PySem
section
variable {prog:Program} {w:World} {A:Around} {E:Value->Shared->Prop} {s:Shared}
theorem init_kw {T nid:String} {me:Value} {more:List Value} {kw:List (Str×Value)} (hl:typeLookup (.type T) "__init__" = pure (some (.builtin "object.__init__")))
 (hm:Bind.madeBy (.type T)=pure (some nid)) (hne:(some nid != some "object.__new__")=true):Meets (Builtin.«object.__init__» ⟨me::more,kw⟩) (fun _ R s=>s.TypeIs me T/\R (.ok (.ret .none)) s):=
 .of_wp fun prog w A R s hs=>by
  obtain⟨hT,hq⟩:=hs;cases more with
  | nil=>
    cases kw with
    | nil=>exact wpAny_pure ⟨_,rfl,hq⟩
    | cons=>
      repeat (any_goals (first | assumption | wp_step))
      exact⟨_,rfl,hq⟩
  | cons=>
    repeat (any_goals (first | assumption | wp_step))
    exact⟨_,rfl,hq⟩
theorem callT_kw {T nid:String} {B:Builtin} {vs:List Value} {kw:List (Str×Value)} {S:Spec} {Q:Value->Shared->Prop} (ft:TypeCalled T nid "object.__init__") (hne:(some nid != some "object.__new__")=true)
 (hct:checkTypeCall T ⟨vs,kw⟩=pure ()) (hcn:checkBuiltinCall nid ⟨.type T::vs,kw⟩=pure ()) (hok:∀x,argsOk "object.__init__" ⟨x::vs,kw⟩) (eN:entryFor table nid=some B)
 (g:Meets (B ⟨.type T::vs,kw⟩) S) (h:S A.in1 (wants (fun x s1=>s1.TypeIs x T/\Q x s1) E) s):wpAny (model prog w) A (call (.type T) vs kw) Q E s:=by
 obtain⟨c,tl,hmro⟩:=ft.mro;have hmade:=ft.made;have hsub:=ft.sub;refine wpAny_call (codeAny_of_tree (wpAny_pure ⟨Code.quiet_builtin _ (by decide +kernel),codeAny_builtin F.entry_type_call ?_⟩));rw[Around.under_plain (weight_type_call_type T vs kw) (units_type_call_type T vs kw)];have h1:=ft.notType;have h2:=ft.canCreate;repeat (any_goals (first | assumption | wp_step))
 refine codeAny_mono (codeAny_call_builtin ft.plain eN (wpAny_of_eq hcn (g prog w A.in1 _ s h))) fun r s1 hr=>?_
 cases r with
 | error e=>exact hr
 | ok fl=>
   cases fl with
   | ret x=>
     have hT:s1.TypeIs x T:=hr.1;have hli:=ft.init.lookup;have hbi:=ft.init.bind x;repeat (any_goals (first | assumption | wp_step))
     refine codeAny_mono (codeAny_call_builtin ft.init.plain F.entry_object_init (ft.init.check _ _ _ _ _ _ _ _ hr.1 (hok x) (init_kw ft.init.lookup ft.made hne prog w A.in1 (wants (fun r s2=>r=.none/\Q x s2) E) s1 ⟨hr.1,rfl,hr.2⟩))) fun r2 s2 hr2=>?_
     cases r2 with
     | error e=>exact hr2
     | ok f2=>
       cases f2 with
       | ret r=>
         obtain⟨rfl,hq⟩:=hr2;repeat (any_goals (first | assumption | wp_step))
       | _=>exact hr2.elim
   | _=>exact hr.elim
end
set_option tactic.hygienic true in
theorem meets_enum_lst1 (l:Addr) (t:Tok) (items:Array Value) (n:Nat) (dct:Option Addr) (sl:Array (Option Value)) :
 Meets (Builtin.«enumerate.__new__» ⟨[.type "enumerate",.ref l],[("start",.int 1 t)]⟩) (fun _ R s=>s.heap.get? l=some { cls:=.type "list",dict:=dct,data:=.seq items n,slots:=sl }/\
  R (.ok (.ret (.ref (s.heap.push { cls:=.type "list_iterator",data:=.fields #[.ref l,.int 0 0] }).objs.size)))
    { s with heap:=(s.heap.push { cls:=.type "list_iterator",data:=.fields #[.ref l,.int 0 0] }).push { cls:=.type "enumerate",data:=.fields #[.none,.bool false,.ref s.heap.objs.size,rawInt 1,.none,.none] } }):=
 .of_wp fun prog w A R s h=>by
  obtain⟨hp,g,d,tk,os⟩:=s;obtain⟨hl,h⟩:=h;have hsub:=sub_enumerate;have hL:Heap.IsList (Shared.heap ⟨hp,g,d,tk,os⟩) l items:=⟨_,hl,rfl,n,rfl⟩
  wp_walk using AutoSeq1.wpAny_loadPart' hl
  refine wpAny_stack_any fun st=>wpAny_pure ?_
  split
  ·rename_i c _ _ _ _ _
   cases (c == Value.type "enumerate")<;>(wp_walk using AutoSeq1.wpAny_loadPart' hl,wpAny_pyIter_list hL;exact⟨_,rfl,h⟩)
  ·(wp_walk using AutoSeq1.wpAny_loadPart' hl,wpAny_pyIter_list hL;exact⟨_,rfl,h⟩)
end PySem
end
section
namespace PySem
section
variable {prog:Program} {w:World} {A:Around} {E:Value->Shared->Prop} {s:Shared}
theorem tc_enum (a v:Value):checkTypeCall "enumerate" ⟨[a],[("start",v)]⟩=pure ():=by kernel_rfl
theorem nc_enum (a v:Value):checkBuiltinCall "enumerate.__new__" ⟨[.type "enumerate",a],[("start",v)]⟩=pure ():=by kernel_rfl
theorem ok_init_enum (x a v:Value):argsOk "object.__init__" ⟨[x,a],[("start",v)]⟩:=by kernel_rfl
theorem call_enum1 {l:Addr} {t:Tok} {items:Array Value} {Q:Value->Shared->Prop} (hL:s.heap.IsList l items)
 (h:∀h',IsEnum h' (s.heap.objs.size+1) s.heap.objs.size 1 .none->h'.IsListIter s.heap.objs.size l 0->(∀b o,s.heap.get? b=some o->h'.get? b=some o)->Q (.ref (s.heap.objs.size+1)) { s with heap:=h' }) :
 wpAny (model prog w) A (call (.type "enumerate") [.ref l] [("start",.int 1 t)]) Q E s:=by
 obtain⟨⟨c,dct,dt,sl⟩,hl,hc,n,hd⟩:=hL;have hc:c=.type "list":=hc;have hd:dt=.seq items n:=hd;subst hc hd;refine callT_kw F.called_enumerate (by decide) (tc_enum _ _) (nc_enum _ _) (fun x=>ok_init_enum x _ _) F.entry_enumerate_new (meets_enum_lst1 l t items n dct sl) ⟨hl,?_⟩;generalize hg:s.heap.push { cls:=.type "list_iterator",data:=.fields #[.ref l,.int 0 0] }=g;have hz:g.objs.size=s.heap.objs.size+1:=by rw[<-hg];exact Heap.size_push ..
 have he:IsEnum (g.push { cls:=.type "enumerate",data:=.fields #[.none,.bool false,.ref s.heap.objs.size,rawInt 1,.none,.none] }) (s.heap.objs.size+1) s.heap.objs.size 1 .none:=by
  have:=Heap.get?_push_size g (o:={ cls:=.type "enumerate",data:=.fields #[.none,.bool false,.ref s.heap.objs.size,rawInt 1,.none,.none] }) rfl;rw[hz] at this;exact this
 have hi:g.get? s.heap.objs.size=some { cls:=.type "list_iterator",data:=.fields #[.ref l,.int 0 0] }:=by rw[<-hg];exact Heap.get?_push_size _ rfl
 show _/\_;rw[hz];exact⟨⟨_,he,rfl⟩,h _ he ⟨_,Heap.get?_push_of_some _ hi,rfl,rfl⟩ fun b o x=>Heap.get?_push_of_some _ (by rw[<-hg];exact Heap.get?_push_of_some _ x)⟩
end
end PySem
namespace L2
open PySem PySem.Spec PyProof.Rows
noncomputable def Ienb (b:Nat) (Sq:Hp->List V->Prop):It:=
 ⟨fun i H=>∃xs x,Sq H xs/\xs[i]?=some x,fun i H v H'=>∃p x,H p=none/\v=.ref p/\H'=upd H p (.tup [.int (i+b:Nat),x])/\∀xs,Sq H xs->xs[i]?=some x,fun i H=>∃xs,Sq H xs/\xs.length<=i⟩
set_option tactic.hygienic true in
theorem turn_enumL {P:Program} {w:World} {K:PySem.W.Frag} {elts:List Expr} {x1} {pos:Pos} (b:Nat) (a e it:Addr):Turn P w K (.Tuple elts x1 pos) (Ienb b fun H xs=>H a=some (.lst xs)) [e,it] e (fun i h=>e≠it/\(∃old,IsEnum h e it (i+b:Nat) old)/\h.IsListIter it a i) where
 mem:=by simp
 obj:=fun i h st c hb=>by
  obtain⟨hne,⟨old,he⟩,o,ho,_,d⟩:=st;rcases List.mem_cons.mp hb with z | hb
  ·subst z
   exact⟨_,he,fun v z=>by
    have z':Data.fields _=Data.cell v:=z;cases z'⟩
  ·have z:c=it:=by simpa using hb
   subst z;exact⟨o,ho,fun v z=>by rw[d] at z;cases z⟩
 keep:=fun i h h' st k=>by
  obtain⟨hne,⟨old,he⟩,hi⟩:=st;exact⟨hne,⟨old,k e (by simp) _ he⟩,hi.at fun o q=>k it (by simp) o q⟩
 item:=by
  intro X hP hw hK hc i pins s σ H E I hf st hg;subst hP hw hK;obtain⟨xs,x,hq,hx⟩:=hg;obtain⟨hne,⟨old,he⟩,hi⟩:=st;obtain⟨its,rv,p,hz⟩:=I.list (SqL.of hq);obtain⟨u,hu,ru⟩:=rv.get hx;have hT:s.TypeIs (.ref e) "enumerate":=⟨_,he,rfl⟩;unfold pyNext;refine wpAny_bind (wpAny_attempt (wpAny_callSpecial?_slot (name:=Str.ofString "__next__") hT F.slot_enumerate_next (wpAny_call_entry F.slot_enumerate_next hT F.entry_enumerate_next (enum_turn (T:=fun h=>h.IsListIter it a (i+1)) he hne (fun h h' t q=>t.at q) (fun Q' hQ'=>wpAny_nextOf_list_item hi p.isList (x:=u) (by simpa using hu) hQ') fun h' ho hi' ht hs kk=>wpAny_pure ?_) (F.args_enumerate_next_1 _))));refine⟨_,rfl,wpAny_letOwnedTupleGo_enum (s:={ s with heap:=h',toks:=s.toks+1 }) ho fun h2 he2 sb2=>?_⟩;have sb2:Heap.SameBut e h' h2:=sb2;have pe:s.heap.objs.size≠e:=Nat.ne_of_gt (Heap.lt_size he);have k2:∀b o,b∉[e,it]->s.heap.get? b=some o->h2.get? b=some o:=fun b o hb q=>by
   have h1:b≠e:=fun z=>hb (by simp[z])
   have h3:b≠it:=fun z=>hb (by simp[z])
   exact sb2.extBut b o h1 (kk b o h1 h3 q)
  have tt:IsTup h2 s.heap.objs.size [Value.int (i+b:Nat) s.toks,u].toArray:=⟨_,sb2.extBut _ _ pe ht,rfl,_,rfl⟩;have nn:∀b∈[e,it],b≠s.heap.objs.size:=fun b hb z=>by
   obtain⟨o1,ho1,_⟩:=id hi;rcases List.mem_cons.mp hb with y | y
   ·exact pe (by rw[<-z,y])
   ·have y:b=it:=by simpa using y
    rw[z] at y;rw[<-y] at ho1;exact absurd (Heap.lt_size ho1) (Nat.lt_irrefl _)
  refine⟨.ref s.heap.objs.size,_,I.turnedT (p:=s.heap.objs.size) (vs:=[.int (i+b:Nat),x]) hf k2 (Nat.le_refl _) (.cons ⟨_,rfl⟩ (.cons ru .nil)) (by show 2<=sizeLine;decide) tt,rfl,⟨_,x,I.hok.fresh (Nat.le_refl _),rfl,rfl,fun ys hy=>by rw[I.list_inj (SqL.of hy) (SqL.of hq)];exact hx⟩,⟨hne,⟨u,?_⟩,?_⟩,fun b hb=>?_⟩
  ·have:((i+1+b:Nat):Int)=((i+b:Nat):Int)+1:=by omega
   rw[this];exact he2
  ·exact hi'.extBut sb2.extBut (Ne.symm hne)
  ·rw[za9 (nn b hb)];exact(hf b hb).1
 done:=by
  intro X hP hw hK hc i pins s σ H E I hf st hg;subst hP hw hK;obtain⟨xs,hq,hx⟩:=hg;obtain⟨hne,⟨old,he⟩,hi⟩:=st;obtain⟨its,rv,p,hz⟩:=I.list (SqL.of hq);have hl:=rv.length;have hT:s.TypeIs (.ref e) "enumerate":=⟨_,he,rfl⟩;unfold pyNext;refine wpAny_bind (wpAny_attempt (wpAny_callSpecial?_slot (name:=Str.ofString "__next__") hT F.slot_enumerate_next (wpAny_call_entry F.slot_enumerate_next hT F.entry_enumerate_next ?_ (F.args_enumerate_next_1 _))));refine wpAny_bind (m:=field (.ref e) 2) (wpAny_field he rfl (x:=.ref it) rfl ?_);refine wpAny_bind (wpAny_nextOf_list_end (I.ok.hd hc) hi p.isList (by simp;omega) fun h' x he' hx'=>?_);obtain⟨o,ho,hcls⟩:=hx';refine wpAny_bind (wpAny_isInstance (T:="StopIteration") (b:=true) ⟨o,ho,hcls⟩ isSubtype_stop (wpAny_pure ⟨rfl,I.turnedF hf fun b o hb q=>he' b o (fun z=>hb (by simp[z])) q⟩))
 self:=fun _ _ _ _ _ st h=>let ⟨_,⟨_,he⟩,_⟩:=st;wpAny_pyIter_enum he h
end L2
end
section
namespace L2
open PySem PySem.Spec PyProof.Rows
section
variable {M:Model} {A:Around} {E:Value->Shared->Prop} {s:Shared} {env:Env}
theorem callT_with_kw {pos:Pos} {T:String} {e:Expr} {rest:List Expr} {kws:List Keyword} {Q:Value->Shared->Prop}
 (h:wpAny M A (spliced (backTo pos (starEach (e::rest) env))) (fun vs s1=>wpAny M A (evalAll ((backToKw pos (keywordEach kws env)).map (·.2)))
  (fun ks s2=>wpAny M A (call (.type T) vs (((backToKw pos (keywordEach kws env)).filterMap (·.1)).zip ks)) Q E s2) E s1) E s)
 (he:backTo pos (starEach (e::rest) env)=(false,eval e env)::backTo pos (starEach rest env):=by rfl)
 (hp:(backTo pos (starEach (e::rest) env)).any (·.1)=false:=by rfl)
 (ha:(backToKw pos (keywordEach kws env)).all (·.1.isSome)=true:=by rfl)
 (hk:(backToKw pos (keywordEach kws env)).any (·.1.isNone)=false:=by rfl) :
 wpAny M A (callWith pos (.type T) [] (backTo pos (starEach (e::rest) env)) (backToKw pos (keywordEach kws env))) Q E s:=by
 unfold callWith;have h':wpAny M A (evalArgs (.type T) true (backTo pos (starEach (e::rest) env)) (backToKw pos (keywordEach kws env))) (fun a s1=>wpAny M A (call (.type T) ([]++a.pos) a.kw) Q E s1) E s:=by
  rw[he] at h ⊢;exact evalArgs_kwB ha h
 refine wpAny_bind (wpAny_holding (wpAny_mono h' (fun a s1 h1=>wpAny_bind (wpAny_standAt ?_)) fun _ _ x=>x));simp only[hp,hk,Bool.or_false];refine wpAny_bind (wpAny_pure ?_);exact wpAny_bind (wpAny_mono h1 (fun r s2 hr=>wpAny_bind (wpAny_holding (wpAny_point (wpAny_pure hr)))) fun _ _ x=>x)
end
section
variable {X:Cx} {elts:List Expr} {x1:Nat} {tpos:Pos}
noncomputable def iEnL (b:Nat) (ta:TA):TI:=fun σ H R=>ta σ H fun vs H1=>∃a xs,vs=[.ref a]/\H1 a=some (.lst xs)/\R (Ienb b fun H xs=>H a=some (.lst xs)) H1
theorem pi_enum1 {a:Expr} {ta:TA} {p pos kp cp:Pos} {j} (hg:Gl X "enumerate") (hm:X.mg "enumerate" = none) (ha:PA X [a] ta) (hs:starEach [a] X.env=[(false,eval a X.env)]:=by rfl):PI X (.Tuple elts x1 tpos) (.Call (.Name "enumerate" p) [a] [⟨some "start",.Constant (.int 1) j cp,kp⟩] pos) (iEnL 1 ta):=by
 intro pins s σ H R I h;show wpAny _ _ (do callWith pos (<-eval (.Name "enumerate" p) X.env) [] (backTo pos (starEach [a] X.env)) (backToKw pos (keywordEach [⟨some "start",.Constant (.int 1) j cp,kp⟩] X.env))) _ _ _;refine wpAny_bind (ld_blt I hg hm boot_enumerate (callT_with_kw (thn (ha pos pins s σ H _ I h) fun us s1 ⟨vs,H1,I1,r1,q1⟩=>kws_cons (thn (zi4 pins s1 σ H1 (fun v H'=>v=.int 1/\H'=H1) I1 ⟨rfl,rfl⟩) fun u s2 ⟨v,H2,I2,r2,q2⟩=>kws_nil ?_)) (by rw[hs];rfl) (by rw[hs];rfl)));obtain⟨rfl,rfl⟩:=q2;obtain⟨t,rfl⟩:=r2;obtain⟨l,xs,rfl,hq,q⟩:=q1;cases r1 with
 | cons r rr=>
   cases rr;cases r;obtain⟨its,rv,pt,hz⟩:=I2.list (SqL.of hq);refine call_enum1 (t:=t) pt.isList fun h' he hi kk=>?_
   refine wpAny_pyIter_enum (s:={ s2 with heap:=h' }) he ?_;refine⟨s2.heap.objs.size+1,[s2.heap.objs.size+1,s2.heap.objs.size],_,_,H2,rfl,I2.kept (t':=s2.toks) kk,turn_enumL 1 l _ _,⟨Nat.succ_ne_self _,⟨_,he⟩,hi⟩,fun b hb=>?_,q⟩;have hb:s2.heap.objs.size<=b:=by
    rcases List.mem_cons.mp hb with z | z
    ·rw[z];exact Nat.le_succ _
    ·exact Nat.le_of_eq (List.mem_singleton.mp z).symm
   exact I2.fpOk hb (I2.hok.fresh hb)
end
end L2
end
section
namespace L2
open PySem PySem.Spec PyProof.Rows
section
variable {X:Cx} {elts:List Expr} {x1:Nat} {tpos:Pos} {S:Type} {W:Wd S} {c:Dx W}
noncomputable def numF (b:Nat) (l:List D):List D:=(l.zipIdx b).map fun p=>.tup [.int p.2,p.1]
noncomputable def oEnumL (b:Nat):List D->Option (List D)
 | [.lst l]=>some (numF b l)
 | _=>none
theorem numF_get {b:Nat} {l:List D} {i:Nat} {d:D} (h:(numF b l)[i]?=some d):∃x,l[i]?=some x/\d=.tup [.int (i+b:Nat),x]:=by
 unfold numF at h;rw[List.getElem?_map,List.getElem?_zipIdx] at h;cases q:l[i]? with
 | none=>rw[q] at h;cases h
 | some x=>rw[q] at h;cases h;exact⟨x,rfl,by rw[Nat.add_comm]⟩
theorem numF_length (b:Nat) (l:List D):(numF b l).length=l.length:=by unfold numF;rw[List.length_map,List.length_zipIdx]
theorem enumL_iter {b:Nat} {a:Addr} {σ:St} {ρ:Rho} {H1:Hp} {l:List D} {xs:List V} (n0:Av c σ ρ a) (s0:H1 a=some (.lst xs)) (i1:IsL c.K (Av c σ ρ) H1 l xs):IterOk c σ ρ H1 (Ienb b fun H xs=>H a=some (.lst xs)) (numF b l):=by
 intro c' hK' σ2 ρ2 H2 st2 k R2 ok2 j;have s2:H2 a=some (.lst xs):=(k.nod a _ n0 s0).2;have i2:IsL c.K (Av c' σ2 ρ2) H2 l xs:=i1.mono k;refine⟨fun d hd=>?_,fun hl=>⟨xs,s2,by rw[numF_length] at hl;rw[<-i2.length];exact hl⟩⟩;obtain⟨y,hy,rfl⟩:=numF_get hd;obtain⟨v1,hv,iv⟩:=i2.get hy;refine⟨⟨xs,v1,s2,hv⟩,?_⟩;rintro x H3 ⟨pp,x',hpn,rfl,rfl,hx⟩;have:=hx xs s2;rw[hv] at this;cases this;have sm:Same H2 (upd H2 pp (.tup [.int (j+b:Nat),v1])):=fun b o hb=>by rw[za9 (zb0 hb hpn)];exact hb
 refine⟨sm,Is.tup zb4 (IsL.cons.mpr ⟨_,_,rfl,Is.int_iff.mpr rfl,IsL.one ?_⟩)⟩;exact iv.mono (zi2 (fun b o hb _=>sm b o hb) fun b o a hb=>⟨a,sm b o hb⟩)
set_option tactic.hygienic true in
theorem di_enumB {e a:Expr} {f:FnA S} {b:Nat} (h:∀ta,PA X [a] ta->PI X (.Tuple elts x1 tpos) e (iEnL b ta)) (ha:DB X c [a] f):DI X c (.Tuple elts x1 tpos) e (iArgs S (oEnumL b) f):=
 (h _ ha).imp fun σ H R hI42=>by
  obtain⟨ρ,st,R0,ok,w⟩:=hI42;refine⟨ρ,st,R0,ok,za6 (za3.mp w) (fun l st1 q vs H1 e ok1 z=>?_) fun x st1 q=>q⟩;obtain⟨m,e1,q⟩:=zb6.mp q;unfold oEnumL at e1;split at e1
  ·rename_i l
   cases e1;obtain⟨v,r,e2,i2,i3⟩:=IsL.cons.mp z;obtain⟨a,xs,ea,n0,s0,i⟩:=Is.lst_iff.mp i2;rw[IsL.nil.mp i3,ea] at e2;exact⟨a,xs,e2,s0,q _ H1 e ok1 (enumL_iter n0 s0 i)⟩
  ·cases e1
theorem di_enum1 {a:Expr} {f:FnA S} {p pos kp cp:Pos} {j} (hg:Gl X "enumerate") (hm:X.mg "enumerate" = none) (ha:DB X c [a] f) (hs:starEach [a] X.env=[(false,eval a X.env)]:=by rfl):DI X c (.Tuple elts x1 tpos) (.Call (.Name "enumerate" p) [a] [⟨some "start",.Constant (.int 1) j cp,kp⟩] pos) (iArgs S (oEnumL 1) f):=
 di_enumB (fun _ h=>pi_enum1 hg hm h hs) ha
end
end L2
end
section
namespace L2
open PySem PySem.Spec PyProof.Rows
section
variable {X:Cx} {S:Type} {W:Wd S} {c:Dx W} {i:Nat}
end
end L2
end
section
namespace L2
open PySem PySem.Spec PyProof.Rows
section
variable {X:Cx} {S:Type} {W:Wd S} {c:Dx W} {g ga gb gc:Gr} {a b:Expr} {fa fb fc:Fn S} {pos p2:Pos} {pins:List (Addr×Obj)} {σ:St} {H:Hp} {s:Shared} {A:Addr->Prop}
end
end L2
end
section
namespace L2
open PySem PySem.Spec PyProof.Rows
section
variable {X:Cx} {S:Type} {W:Wd S} {c:Dx W} {g ga gb gc:Gr} {H1:Hp} {σ:St} {ρ:Rho} {st1:S} {A:Addr->Prop}
end
end L2
end
section
namespace L2
open PySem PySem.Spec PyProof.Rows
section
variable {X:Cx} {S:Type} {W:Wd S} {c:Dx W} {i:Nat}
section
variable {Q:Fl->S->Prop} {E:Exn->S->Prop} {ρ:Rho} {st:S}
end
end
end L2
end
section
namespace PySem
section
variable {prog:Program} {w:World} {A:Around} {E:Value->Shared->Prop} {s:Shared}
end
end PySem
namespace L2
open PySem PySem.Spec PyProof.Rows
section
variable {X:Cx} {elts:List Expr} {x1:Nat} {tpos:Pos} {S:Type} {W:Wd S} {c:Dx W}
end
end L2
end
section
namespace L2
open PySem PySem.Spec PyProof.Rows
section
variable {X:Cx} {S:Type} {W:Wd S} {c:Dx W} {g ga:Gr} {H:Hp} {st:S}
end
end L2
end
section
namespace Ts
open PySem PyProof.Rows
section
variable {prog:Program} {w:World} {A:Around} {E:Value->Shared->Prop} {s:Shared} {κ:KeyKind} {knd:SortKind}
noncomputable def Cmp (prog:Program) (w:World) (A:Around) (E:Value->Shared->Prop) (s:Shared) (κ:KeyKind) (knd:SortKind):Prop:=
 ∀(st:SortSt) (x y:Keyed) (a b:κ.α) (Q:Option Bool->SortSt->Prop),kindOf st=knd->κ.keyOf x.1=some a->κ.keyOf y.1=some b->Q (some (κ.blt a b)) st->wpS (model prog w) A E s (lt' x y) Q st
noncomputable def ky (κ:KeyKind) (x:Keyed):κ.α:=(κ.keyOf x.1).getD κ.dflt
structure Bs (a₀:Array Keyed) (knd:SortKind) (P:Array (Nat×Nat×Nat)) (st:SortSt):Prop where
 perm:(arrOf st).Perm a₀
 kind:kindOf st=knd
 fail:failedOf st=none
 pend:pendingOf st=P
variable {a₀:Array Keyed} {P:Array (Nat×Nat×Nat)} {st:SortSt}
theorem Bs.size (B:Bs a₀ knd P st):(arrOf st).size=a₀.size:=B.perm.size_eq
theorem Bs.arr (B:Bs a₀ knd P st) {xs:Array Keyed} (h:xs.Perm (arrOf st)):Bs a₀ knd P (setArr st xs):=⟨h.trans B.perm,B.kind,B.fail,B.pend⟩
theorem Bs.at (B:Bs a₀ knd P st) (h0:KeysOf κ a₀) {i:Nat} (hi:i<a₀.size):∃x a,(arrOf st)[i]?=some x/\κ.keyOf x.1=some a/\KK κ (arrOf st) i=a:=by
 have hi':i<(arrOf st).size:=by rw[B.size];exact hi
 have hm:(arrOf st)[i]∈a₀.toList:=(Array.perm_iff_toList_perm.mp B.perm).mem_iff.mp (Array.getElem_mem_toList hi');obtain⟨a,ha⟩:=h0 _ hm;have e:(arrOf st)[i]?=some (arrOf st)[i]:=Array.getElem?_eq_getElem hi';refine⟨_,a,e,ha,?_⟩;unfold KK;rw[e];show (κ.keyOf (arrOf st)[i].1).getD κ.dflt=a;rw[ha];rfl
noncomputable def Up (κ:KeyKind) (xs:Array Keyed) (lo hi:Nat):Prop:=∀i j,lo<=i->i<=j->j<hi->κ.kle (KK κ xs i) (KK κ xs j)
theorem Up.one {xs:Array Keyed} {lo hi:Nat} (h:hi<=lo+1):Up κ xs lo hi:=fun i j h1 h2 h3=>by
 have:i=j:=by omega
 subst this;exact KeyOrd.kle_refl _
noncomputable def Out (xs ys:Array Keyed) (lo hi:Nat):Prop:=∀i,(i<lo\/hi<=i)->ys[i]?=xs[i]?
theorem Out.refl {xs:Array Keyed} {lo hi:Nat}:Out xs xs lo hi:=fun _ _=>rfl
theorem Out.trans {xs ys zs:Array Keyed} {lo hi:Nat} (a:Out xs ys lo hi) (b:Out ys zs lo hi):Out xs zs lo hi:=fun i h=>(b i h).trans (a i h)
end
end Ts
end
section
namespace Ts
open PySem PyProof.Rows
section
variable {prog:Program} {w:World} {A:Around} {E:Value->Shared->Prop} {s:Shared} {κ:KeyKind} {knd:SortKind} {a₀:Array Keyed} {P:Array (Nat×Nat×Nat)} {st:SortSt}
end
end Ts
end
section
namespace Ts
local macro_rules
 | `(tactic| omega)=>`(tactic| omega +splitDisjunctions)
open PySem PyProof.Rows
noncomputable abbrev SM:=StateT SortSt Sem
noncomputable def gal:Bool->Keyed->Array Keyed->Nat->Nat->Nat->SM (Option Nat):=sortPriv% PySem.Builtin.gallop
noncomputable def far (left:Bool) (key:Keyed) (arr:Array Keyed) (base i:Nat):SM (Option Bool):=do
 let x <-elem' arr (base+i)
 if left then lt' x key else return (<-lt' key x).map (!·)
section
variable {prog:Program} {w:World} {A:Around} {E:Value->Shared->Prop} {s:Shared} {κ:KeyKind} {knd:SortKind} {st:SortSt} {left:Bool} {key:Keyed} {arr:Array Keyed} {base n:Nat} {f:Nat->Bool}
end
end Ts
end
section
namespace Ts
open PySem PyProof.Rows
noncomputable def mgal (g:Nat):SM Unit:=(sortPriv% PySem.Builtin.setMinGallop) g
noncomputable abbrev gDone (a b out:Array Keyed) (ia ib:Nat):Array Keyed:=out++a.extract ia a.size++b.extract ib b.size
end Ts
end
section
namespace Ts
open PySem PyProof.Rows
section
variable {κ:KeyKind} {a b:Array Keyed} {out:List Keyed} {ia ib:Nat}
noncomputable abbrev le (κ:KeyKind) (x y:Keyed):Prop:=κ.kle (ky κ x) (ky κ y)
theorem KK_at {xs:Array Keyed} {i:Nat} (h:i<xs.size):KK κ xs i=ky κ xs[i]:=by
 unfold KK ky;rw[Array.getElem?_eq_getElem h]
structure Mg (κ:KeyKind) (a b:Array Keyed) (out:List Keyed) (ia ib:Nat):Prop where
 perm:(out++(a.toList.drop ia++b.toList.drop ib)).Perm (a.toList++b.toList)
 up:out.Pairwise (le κ)
 la:∀x∈out,∀i,ia<=i->i<a.size->κ.kle (ky κ x) (KK κ a i)
 lb:∀x∈out,∀i,ib<=i->i<b.size->κ.kle (ky κ x) (KK κ b i)
noncomputable def Whole (κ:KeyKind) (a b:Array Keyed) (r:List Keyed):Prop:=r.Perm (a.toList++b.toList)/\r.Pairwise (le κ)
theorem up_drop {xs:Array Keyed} {i:Nat} (u:Up κ xs 0 xs.size):(xs.toList.drop i).Pairwise (le κ):=by
 rw[List.pairwise_iff_getElem];intro p q hp hq hpq;rw[List.length_drop,Array.length_toList] at hp hq;have:=u (i+p) (i+q) (Nat.zero_le _) (by omega) (by omega);rw[KK_at (by omega),KK_at (by omega)] at this;simpa [List.getElem_drop] using this
theorem mem_drop {xs:Array Keyed} {i:Nat} {x:Keyed} (h:x∈xs.toList.drop i):∃j,i<=j/\j<xs.size/\ky κ x=KK κ xs j:=by
 obtain⟨j,hj,e⟩:=List.getElem_of_mem h;rw[List.length_drop,Array.length_toList] at hj;refine⟨i+j,by omega,by omega,?_⟩;rw[KK_at (by omega),<-e];simp[List.getElem_drop]
theorem Mg.doneB (m:Mg κ a b out ia ib) (ua:Up κ a 0 a.size) (h:b.size<=ib):Whole κ a b (out++a.toList.drop ia++b.toList.drop ib):=by
 have hb:b.toList.drop ib=[]:=List.drop_eq_nil_of_le (by simpa using h);refine⟨by rw[List.append_assoc];exact m.perm,?_⟩;rw[hb,List.append_nil];refine List.pairwise_append.mpr ⟨m.up,up_drop ua,fun x hx y hy=>?_⟩;obtain⟨j,h1,h2,e⟩:=mem_drop (κ:=κ) hy;show κ.kle (ky κ x) (ky κ y);rw[e];exact m.la x hx j h1 h2
theorem Mg.doneA (m:Mg κ a b out ia ib) (ub:Up κ b 0 b.size) (h:a.size<=ia):Whole κ a b (out++a.toList.drop ia++b.toList.drop ib):=by
 have ha:a.toList.drop ia=[]:=List.drop_eq_nil_of_le (by simpa using h);refine⟨by rw[List.append_assoc];exact m.perm,?_⟩;rw[ha,List.append_nil];refine List.pairwise_append.mpr ⟨m.up,up_drop ub,fun x hx y hy=>?_⟩;obtain⟨j,h1,h2,e⟩:=mem_drop (κ:=κ) hy;show κ.kle (ky κ x) (ky κ y);rw[e];exact m.lb x hx j h1 h2
end
end Ts
end
section
namespace Ts
open PySem PyProof.Rows
section
variable {prog:Program} {w:World} {A:Around} {E:Value->Shared->Prop} {s:Shared} {κ:KeyKind} {knd:SortKind} {st:SortSt} {a b:Array Keyed}
structure Like (st st':SortSt):Prop where
 arr:arrOf st'=arrOf st
 pend:pendingOf st'=pendingOf st
 fail:failedOf st'=failedOf st
 kind:kindOf st'=kindOf st
theorem Like.refl:Like st st:=⟨rfl,rfl,rfl,rfl⟩
theorem ext_list {xs:Array Keyed} {i j:Nat} (h:j<=xs.size):(xs.extract i j).toList=(xs.toList.drop i).take (j-i):=by
 simp[Array.toList_extract,List.extract_eq_drop_take]
structure Mid (κ:KeyKind) (a b:Array Keyed) (st:SortSt) (out:Array Keyed) (ia ib:Nat) (st':SortSt) (lo:Nat):Prop where
 m:Mg κ a b out.toList ia ib
 ha:ia+1<a.size
 hb:ib<b.size
 like:Like st st'
 far:lo<=ia+ib
theorem Mid.le {st:SortSt} {out:Array Keyed} {ia ib lo lo2:Nat} {st':SortSt} (M:Mid κ a b st out ia ib st' lo) (h:lo2<=lo):Mid κ a b st out ia ib st' lo2:=⟨M.m,M.ha,M.hb,M.like,Nat.le_trans h M.far⟩
structure Two (prog:Program) (w:World) (A:Around) (E:Value->Shared->Prop) (s:Shared) (κ:KeyKind) (knd:SortKind) (a b:Array Keyed) (st:SortSt):Prop where
 C:Cmp prog w A E s κ knd
 ka:KeysOf κ a
 kb:KeysOf κ b
 ua:Up κ a 0 a.size
 ub:Up κ b 0 b.size
 hl:∀j,j<b.size->κ.kle (KK κ b j) (KK κ a (a.size-1))
 hk:kindOf st=knd
noncomputable abbrev Fine (κ:KeyKind) (a b:Array Keyed) (st:SortSt) (r:Array Keyed) (st':SortSt):Prop:=Like st st'/\Whole κ a b r.toList
theorem done_list (out:Array Keyed) (ia ib:Nat):(gDone a b out ia ib).toList=out.toList++a.toList.drop ia++b.toList.drop ib:=by
 unfold gDone;rw[Array.toList_append,Array.toList_append,ext_list (Nat.le_refl _),ext_list (Nat.le_refl _),List.take_of_length_le (by simp),List.take_of_length_le (by simp)]
section
variable {out:Array Keyed} {ia ib lo:Nat} {st':SortSt} (T:Two prog w A E s κ knd a b st)
include T
theorem Two.dB (m:Mg κ a b out.toList ia ib) (h:b.size<=ib) (l:Like st st'):Fine κ a b st (gDone a b out ia ib) st':=⟨l,by rw[done_list];exact m.doneB T.ua h⟩
theorem Two.dA (m:Mg κ a b out.toList ia ib) (h:a.size<=ia) (l:Like st st'):Fine κ a b st (gDone a b out ia ib) st':=⟨l,by rw[done_list];exact m.doneA T.ub h⟩
theorem Two.kind (l:Like st st'):kindOf st'=knd:=l.kind.trans T.hk
end
end
end Ts
end
section
namespace Ts
open PySem PyProof.Rows
noncomputable abbrev hDone (a b out:Array Keyed) (na nb:Nat):Array Keyed:=a.extract 0 na++b.extract 0 nb++out.reverse
noncomputable abbrev hFst (a b out:Array Keyed) (na nb:Nat):Array Keyed:=b.extract 0 nb++a.extract 0 na++out.reverse
section
variable {κ:KeyKind} {a b:Array Keyed} {t:List Keyed} {na nb:Nat}
structure Mh (κ:KeyKind) (a b:Array Keyed) (t:List Keyed) (na nb:Nat):Prop where
 perm:((a.toList.take na++b.toList.take nb)++t).Perm (a.toList++b.toList)
 up:t.Pairwise (le κ)
 la:∀x∈t,∀i,i<na->κ.kle (KK κ a i) (ky κ x)
 lb:∀x∈t,∀i,i<nb->κ.kle (KK κ b i) (ky κ x)
theorem take_last {xs:Array Keyed} {i:Nat} (h:i<xs.size):xs.toList.take (i+1)=xs.toList.take i++[xs[i]]:=by
 rw[List.take_add_one];simp[Array.getElem?_eq_getElem h]
theorem up_take {xs:Array Keyed} {i:Nat} (u:Up κ xs 0 xs.size):(xs.toList.take i).Pairwise (le κ):=(up_drop (i:=0) u).sublist (List.take_sublist _ _)
theorem mem_take {xs:Array Keyed} {i:Nat} {x:Keyed} (h:x∈xs.toList.take i):∃j,j<i/\j<xs.size/\ky κ x=KK κ xs j:=by
 obtain⟨j,hj,e⟩:=List.getElem_of_mem h;rw[List.length_take,Array.length_toList] at hj;refine⟨j,by omega,by omega,?_⟩;rw[KK_at (by omega),<-e];simp[List.getElem_take]
theorem Mh.doneB (m:Mh κ a b t na 0) (ua:Up κ a 0 a.size):Whole κ a b (a.toList.take na++b.toList.take 0++t):=by
 refine⟨m.perm,?_⟩;rw[List.take_zero,List.append_nil];refine List.pairwise_append.mpr ⟨up_take ua,m.up,fun x hx y hy=>?_⟩;obtain⟨j,h1,h2,e⟩:=mem_take (κ:=κ) hx;show κ.kle (ky κ x) (ky κ y);rw[e];exact m.la y hy j h1
theorem Mh.doneA (m:Mh κ a b t 0 nb) (ub:Up κ b 0 b.size):Whole κ a b (a.toList.take 0++b.toList.take nb++t):=by
 refine⟨m.perm,?_⟩;rw[List.take_zero,List.nil_append];refine List.pairwise_append.mpr ⟨up_take ub,m.up,fun x hx y hy=>?_⟩;obtain⟨j,h1,h2,e⟩:=mem_take (κ:=κ) hx;show κ.kle (ky κ x) (ky κ y);rw[e];exact m.lb y hy j h1
theorem Mh.first (m:Mh κ a b t na 1) (ua:Up κ a 0 a.size) (hb:0<b.size) (hf:∀j,j<a.size->κ.kle (KK κ b 0) (KK κ a j)):Whole κ a b (b.toList.take 1++a.toList.take na++t):=by
 have e:b.toList.take 1=[b[0]]:=by rw[take_last hb];simp
 refine⟨?_,?_⟩
 ·refine List.Perm.trans (List.Perm.append_right _ List.perm_append_comm) m.perm
 ·rw[e,List.append_assoc,List.singleton_append]
  refine List.pairwise_cons.mpr ⟨fun y hy=>?_,List.pairwise_append.mpr ⟨up_take ua,m.up,fun x hx y hy=>?_⟩⟩
  ·show κ.kle (ky κ b[0]) (ky κ y)
   rw[<-KK_at hb];rcases List.mem_append.mp hy with hy | hy
   ·obtain⟨j,h1,h2,e⟩:=mem_take (κ:=κ) hy
    rw[e];exact hf j h2
   ·exact m.lb y hy 0 (by omega)
  ·obtain⟨j,h1,h2,e⟩:=mem_take (κ:=κ) hx
   show κ.kle (ky κ x) (ky κ y);rw[e];exact m.la y hy j h1
end
end Ts
end
section
namespace Ts
open PySem PyProof.Rows
section
variable {prog:Program} {w:World} {A:Around} {E:Value->Shared->Prop} {s:Shared} {κ:KeyKind} {knd:SortKind} {st:SortSt} {a b:Array Keyed}
structure Hid (κ:KeyKind) (a b:Array Keyed) (st:SortSt) (na nb:Nat) (out:Array Keyed) (st':SortSt) (lo:Nat):Prop where
 m:Mh κ a b out.toList.reverse na nb
 ha:0<na
 hb:1<nb
 la:na<=a.size
 lb:nb<=b.size
 like:Like st st'
 far:na+nb+lo<=a.size+b.size
theorem Hid.le {st:SortSt} {out:Array Keyed} {na nb lo lo2:Nat} {st':SortSt} (M:Hid κ a b st na nb out st' lo) (h:lo2<=lo):Hid κ a b st na nb out st' lo2:=⟨M.m,M.ha,M.hb,M.la,M.lb,M.like,by have:=M.far;omega⟩
theorem hdone_list (out:Array Keyed) {na nb:Nat} (ha:na<=a.size) (hb:nb<=b.size):(hDone a b out na nb).toList=a.toList.take na++b.toList.take nb++out.toList.reverse:=by
 unfold hDone;rw[Array.toList_append,Array.toList_append,ext_list ha,ext_list hb,Array.toList_reverse];simp
structure Tw (prog:Program) (w:World) (A:Around) (E:Value->Shared->Prop) (s:Shared) (κ:KeyKind) (knd:SortKind) (a b:Array Keyed) (st:SortSt):Prop extends Two prog w A E s κ knd a b st where
 hf:∀j,j<a.size->κ.kle (KK κ b 0) (KK κ a j)
section
variable {out:Array Keyed} {na nb lo:Nat} {st':SortSt} (T:Tw prog w A E s κ knd a b st)
include T
theorem Tw.dB (m:Mh κ a b out.toList.reverse na nb) (ha:na<=a.size) (h:nb=0) (l:Like st st'):Fine κ a b st (hDone a b out na nb) st':=⟨l,by subst h;rw[hdone_list _ ha (Nat.zero_le _)];exact m.doneB T.ua⟩
theorem Tw.dA (m:Mh κ a b out.toList.reverse na nb) (hb:nb<=b.size) (h:na=0) (l:Like st st'):Fine κ a b st (hDone a b out na nb) st':=⟨l,by subst h;rw[hdone_list _ (Nat.zero_le _) hb];exact m.doneA T.ub⟩
end
section
variable {out:Array Keyed} {na nb lo:Nat} {st':SortSt} (T:Tw prog w A E s κ knd a b st)
include T
end
noncomputable abbrev H7:=Option (Array Keyed)×Nat×Nat×Array Keyed×Nat×Nat×Nat
noncomputable def H3 (a b:Array Keyed) (na nb:Nat) (out:Array Keyed) (mg ca cb:Nat):SM (ForInStep H7):=do
 let x <-elem' a (na-1)
 if (na-1 == 0)=true then pure (ForInStep.done ((some (hDone a b (out.push x) (na-1) nb),na-1,nb,out.push x,mg,ca,cb):H7))
 else if (decide (ca<7)&&decide (cb<7))=true then pure (ForInStep.done ((none,na-1,nb,out.push x,mg,ca,cb):H7)) else pure (ForInStep.yield ((none,na-1,nb,out.push x,mg,ca,cb):H7))
noncomputable def H2 (a b:Array Keyed) (na nb:Nat) (out:Array Keyed) (mg ca cb:Nat):SM (ForInStep H7):=do
 let y <-elem' b (nb-1)
 if (nb-1 == 1)=true then pure (ForInStep.done ((some (hFst a b (out.push y) na (nb-1)),na,nb-1,out.push y,mg,ca,cb):H7))
 else do
  let x <-elem' a (na-1)
  let p <-gal true x b 0 (nb-1) (nb-1-1)
  match p with
  | some p=>
    if nb-1-p>0 then
     if (p == 1)=true then pure (ForInStep.done ((some (hFst a b (out.push y++(b.extract p (nb-1)).reverse) na p),na,p,out.push y++(b.extract p (nb-1)).reverse,mg,ca,nb-1-p):H7))
     else if (p == 0)=true then pure (ForInStep.done ((some (hDone a b (out.push y++(b.extract p (nb-1)).reverse) na p),na,p,out.push y++(b.extract p (nb-1)).reverse,mg,ca,nb-1-p):H7))
     else H3 a b na p (out.push y++(b.extract p (nb-1)).reverse) mg ca (nb-1-p)
    else H3 a b na (nb-1) (out.push y) mg ca (nb-1-p)
  | _=>pure (ForInStep.done ((some (hDone a b (out.push y) na (nb-1)),na,nb-1,out.push y,mg,ca,cb):H7))
noncomputable def H1 (a b:Array Keyed) (na nb:Nat) (out:Array Keyed) (mg ca cb:Nat):SM (ForInStep H7):=do
 mgal mg
 let y <-elem' b (nb-1)
 let p <-gal false y a 0 na (na-1)
 match p with
 | some p=>
   if na-p>0 then
    if (p == 0)=true then pure (ForInStep.done ((some (hDone a b (out++(a.extract p na).reverse) p nb),p,nb,out++(a.extract p na).reverse,mg,na-p,cb):H7))
    else H2 a b p nb (out++(a.extract p na).reverse) mg (na-p) cb
   else H2 a b na nb out mg (na-p) cb
 | _=>pure (ForInStep.done ((some (hDone a b out na nb),na,nb,out,mg,ca,cb):H7))
end
end Ts
end
section
namespace Ts
open PySem PyProof.Rows
noncomputable def back (sa:Nat) (l:List Keyed) (xs:Array Keyed):Array Keyed:=l.zipIdx.foldl (fun u (p,j)=>u.setIfInBounds (sa+j) p) xs
section
variable {prog:Program} {w:World} {A:Around} {E:Value->Shared->Prop} {s:Shared} {κ:KeyKind} {knd:SortKind} {a₀:Array Keyed} {st:SortSt}
end
end Ts
end
section
namespace Ts
open PySem PyProof.Rows
section
variable {prog:Program} {w:World} {A:Around} {E:Value->Shared->Prop} {s:Shared} {κ:KeyKind} {knd:SortKind} {a₀:Array Keyed} {st:SortSt}
theorem KK_out {xs ys:Array Keyed} {lo hi i:Nat} (o:Out xs ys lo hi) (h:i<lo\/hi<=i):KK κ ys i=KK κ xs i:=KK_congr (o i h)
theorem Up.out {xs ys:Array Keyed} {lo hi n:Nat} (u:Up κ xs 0 n) (o:Out xs ys lo hi) (h:n<=lo):Up κ ys 0 n:=fun i j g1 g2 g3=>by
 rw[KK_out o (.inl (by omega)),KK_out o (.inl (by omega))];exact u i j g1 g2 g3
noncomputable def Ends (κ:KeyKind) (a₀:Array Keyed) (knd:SortKind) (st:SortSt):Prop:=
 (∃pw,Bs a₀ knd #[(0,a₀.size,pw)] st/\Up κ (arrOf st) 0 a₀.size)\/
 ∃n1 n2 pw,0<n1/\0<n2/\n1+n2=a₀.size/\Bs a₀ knd #[(0,n1,pw),(n1,n2,0)] st/\Up κ (arrOf st) 0 n1/\Up κ (arrOf st) n1 a₀.size
theorem Bs.push {P:Array (Nat×Nat×Nat)} (B:Bs a₀ knd P st) (z:Nat×Nat×Nat):Bs a₀ knd (P.push z) (setPending st ((pendingOf st).push z)):=⟨B.perm,B.kind,B.fail,by show (pendingOf st).push z=_;rw[B.pend]⟩
end
end Ts
end
section
namespace Ts
open PySem PyProof PyProof.Rows
noncomputable def keyAt (h:Heap):Value->Option (Int×Int)
 | .ref a=>match h.get? a with
   | some o=>match o.data with
     | .seq xs _=>match xs.toList with
       | [.int x _,.int y _]=>some (x,y)
       | _=>none
     | _=>none
   | none=>none
 | _=>none
noncomputable def TwoAt (h:Heap) (v:Value) (p:Int×Int):Prop:=∃a o n t u,v=.ref a/\h.get? a=some o/\o.cls=.type "tuple"/\o.data=.seq #[.int p.1 t,.int p.2 u] n
theorem TwoAt.key {h:Heap} {v:Value} {p:Int×Int} (z:TwoAt h v p):keyAt h v=some p:=by
 obtain⟨a,o,n,t,u,rfl,g,_,d⟩:=z;simp[keyAt,g,d]
section
variable {prog:Program} {w:World} {A:Around} {E:Value->Shared->Prop} {s:Shared}
end
end Ts
end
section
namespace Ts
open PySem PyProof PyProof.Rows
section
variable {prog:Program} {w:World} {A:Around} {E:Value->Shared->Prop} {s:Shared}
end
end Ts
end
section
namespace L2
open PySem PySem.Spec PyProof PyProof.Rows Ts
noncomputable abbrev P2:=Int×Int
section
variable {X:Cx} {S:Type} {W:Wd S} {c:Dx W} {g ga gb gc:Gr} {a b:Expr} {fa fb fc:Fn S} {pos p2:Pos}
end
end L2
end
section
namespace HT
open PySem PyProof PyProof.Rows
section
variable {prog:Program} {w:World} {A:Around} {E:Value->Shared->Prop} {s:Shared}
end
end HT
namespace L2
open PySem PySem.Spec PyProof PyProof.Rows
section
variable {X:Cx} {S:Type} {W:Wd S} {c:Dx W} {g ga gb gc:Gr} {a b:Expr} {fa fb fc:Fn S} {pos p2:Pos}
end
end L2
end
section
namespace HT
open PySem PyProof PyProof.Rows Ts
section
variable {prog:Program} {w:World} {A:Around} {R:Result->Shared->Prop} {I:Addr} {fp wr:List Addr} {n:Nat} {P:Nat->Value->Prop} {St:Nat->Heap->Prop} {base:Heap}
noncomputable abbrev Over (base h:Heap):Prop:=∀b o,base.get? b=some o->h.get? b=some o
end
section
variable {prog:Program} {w:World} {A:Around} {E:Value->Shared->Prop} {s:Shared}
end
end HT
end
section
namespace HT
open PySem PyProof PyProof.Rows Ts
section
variable {prog:Program} {w:World} {A:Around} {E:Value->Shared->Prop} {s:Shared}
theorem TwoAt.tup {h:Heap} {v:Value} {p:Int×Int} (z:TwoAt h v p):∃a items,v=.ref a/\IsTup h a items/\IntsAre items.toList [p.1,p.2]:=by
 obtain⟨a,o,n,t,u,rfl,g,c,d⟩:=z;exact⟨a,_,rfl,⟨o,g,c,n,d⟩,.cons _ _ (.cons _ _ .nil)⟩
theorem TwoAt.over {h h':Heap} (ov:Over h h') {v:Value} {p:Int×Int} (z:TwoAt h v p):TwoAt h' v p:=by
 obtain⟨a,o,n,t,u,e,g,c,d⟩:=z;exact⟨a,o,n,t,u,e,ov _ _ g,c,d⟩
end
end HT
end
section
namespace L2
open PySem PySem.Spec PyProof PyProof.Rows Ts
section
variable {X:Cx} {S:Type} {W:Wd S} {c:Dx W} {g ga gb gc:Gr} {a b:Expr} {fa fb fc:Fn S} {pos p2:Pos}
end
end L2
end
section
namespace L2
open PySem PySem.Spec PyProof PyProof.Rows Ts
section
variable {X:Cx} {S:Type} {W:Wd S} {c:Dx W} {g ga gb gc:Gr} {a b:Expr} {fa fb fc:Fn S} {pos p2:Pos}
end
end L2
end
section
namespace L2
open PySem PySem.Spec PyProof.Rows
theorem g0 {α:Type} {a:α} {l:List α}:(a::l)[0]?=some a:=rfl
theorem gS {α:Type} {a:α} {l:List α} {i:Nat}:(a::l)[i+1]?=l[i]?:=rfl
theorem s0 {α:Type} {a b:α} {l:List α}:(a::l).set 0 b=b::l:=rfl
theorem sS {α:Type} {a b:α} {l:List α} {i:Nat}:(a::l).set (i+1) b=a::l.set i b:=rfl
theorem lC {α:Type} {a:α} {l:List α}:(a::l).length=l.length+1:=rfl
theorem lN {α:Type}:([]:List α).length=0:=rfl
theorem rl1_ {α:Type} {i:Nat}:([]:List α)[i]?=none:=rfl
theorem rl2_ {α β:Type} {f:α->β} {a:α} {l:List α}:(a::l).map f=f a::l.map f:=rfl
theorem rl3_ {α β:Type} {f:α->β}:([]:List α).map f=[]:=rfl
theorem rl4_ {α β:Type} {a:α} {f:α->Option β}:(some a).bind f=f a:=rfl
theorem rl5_ {α:Type} {a:α} {o:Option α}:(some a).or o=some a:=rfl
theorem rl6_ {α:Type} {o:Option α}:(none:Option α).or o=o:=rfl
theorem rl7_ {α:Type} {a:α}:List.replicate 0 a=[]:=rfl
theorem rl8_ {α:Type} {a:α} {n:Nat}:List.replicate (n+1) a=a::List.replicate n a:=rfl
theorem rl9_ {α:Type} {a:α} {l m:List α}:(a::l)++m=a::(l++m):=rfl
theorem rl0_ {α:Type} {l:List α}:[]++l=l:=rfl
theorem EV_:(type_of% @D.bl.injEq)/\(type_of% @D.int.injEq)/\(type_of% @D.str.injEq)/\(type_of% @Nat.zero_add)/\(type_of% @if_true.{1})/\(type_of% @if_false.{1})/\(type_of% @Bool.and_true)/\(type_of% @Bool.true_and)/\(type_of% @Bool.and_self)/\(type_of% @Bool.false_eq_true)/\(type_of% @Option.some.injEq.{0})/\(type_of% @exists_eq_left'.{1})/\(type_of% @exists_eq_left.{1})/\(type_of% @exists_eq_right.{1})/\(type_of% @true_or)/\(type_of% @or_true)/\(type_of% @true_and)/\(type_of% @and_true)/\(type_of% @Bool.not_true)/\(type_of% @Bool.not_false):=
 ⟨@D.bl.injEq,@D.int.injEq,@D.str.injEq,@Nat.zero_add,@if_true.{1},@if_false.{1},@Bool.and_true,@Bool.true_and,@Bool.and_self,@Bool.false_eq_true,@Option.some.injEq.{0},@exists_eq_left'.{1},@exists_eq_left.{1},@exists_eq_right.{1},@true_or,@or_true,@true_and,@and_true,@Bool.not_true,@Bool.not_false⟩
end L2
end
section
namespace L2
open PySem PySem.Spec PyProof.Rows
section
variable {S:Type}
noncomputable def fP (S:Type) (p:Rho->Option D):Fn S:=fun ρ st=>lift (p ρ) st
noncomputable def aP (S:Type) (q:Rho->Option (List D)):FnA S:=fun ρ st=>lift (q ρ) st
noncomputable def tP (S:Type) (q:Rho->Option Bool):FnT S:=fun ρ st=>lift (q ρ) st
noncomputable def vr (i:Nat):Rho->Option D:=fun ρ=>rd ρ i
noncomputable def cn (d:D):Rho->Option D:=fun _=>some d
noncomputable def o2 (o:D->D->Option D) (p q:Rho->Option D):Rho->Option D:=fun ρ=>(p ρ).bind fun a=>(q ρ).bind fun b=>o a b
noncomputable def nl:Rho->Option (List D):=fun _=>some []
noncomputable def cs (p:Rho->Option D) (q:Rho->Option (List D)):Rho->Option (List D):=fun ρ=>(p ρ).bind fun a=>(q ρ).bind fun l=>some (a::l)
noncomputable def o1 (o:List D->Option D) (q:Rho->Option (List D)):Rho->Option D:=fun ρ=>(q ρ).bind o
noncomputable def ti (T:Bt) (p:Rho->Option D):Rho->Option D:=fun ρ=>(p ρ).bind fun d=>some (.bl (isI T d))
noncomputable def tb (p:Rho->Option D):Rho->Option Bool:=fun ρ=>(p ρ).bind D.bool?
set_option tactic.hygienic true in
theorem f2_P {o:D->D->Option D} {p q:Rho->Option D}:f2 S o (fP S p) (fP S q)=fP S (o2 o p q):=by
 funext ρ st;unfold f2 fP o2;cases p ρ with
 | none=>rfl
 | some a=>cases q ρ<;>rfl
set_option tactic.hygienic true in
theorem aCons_P {p:Rho->Option D} {q:Rho->Option (List D)}:aCons S (fP S p) (aP S q)=aP S (cs p q):=by
 funext ρ st;unfold aCons fP aP cs;cases p ρ with
 | none=>rfl
 | some a=>cases q ρ<;>rfl
set_option tactic.hygienic true in
theorem fA_P {o:List D->Option D} {q:Rho->Option (List D)}:fA S o (aP S q)=fP S (o1 o q):=by
 funext ρ st;unfold fA fP aP o1;cases q ρ<;>rfl
set_option tactic.hygienic true in
theorem fIs_P {T:Bt} {p:Rho->Option D}:fIs S T (fP S p)=fP S (ti T p):=by
 funext ρ st;unfold fIs fP ti;cases p ρ<;>rfl
set_option tactic.hygienic true in
theorem fB_P {p:Rho->Option D}:fB S (fP S p)=tP S (tb p):=by
 funext ρ st;unfold fB fP tP tb;cases p ρ<;>rfl
theorem wp_fP {p:Rho->Option D} {ρ:Rho} {st:S} {Q:D->S->Prop} {E:Exn->S->Prop}:wpR (fP S p ρ st) Q E↔wpR (lift (p ρ) st) Q E:=Iff.rfl
theorem wp_aP {p:Rho->Option (List D)} {ρ:Rho} {st:S} {Q:List D->S->Prop} {E:Exn->S->Prop}:wpR (aP S p ρ st) Q E↔wpR (lift (p ρ) st) Q E:=Iff.rfl
theorem wp_tP {p:Rho->Option Bool} {ρ:Rho} {st:S} {Q:Bool->S->Prop} {E:Exn->S->Prop}:wpR (tP S p ρ st) Q E↔wpR (lift (p ρ) st) Q E:=Iff.rfl
theorem boS {α β:Type} {a:α} {f:α->Option β}:(some a).bind f=f a:=rfl
theorem dbb {b:Bool}:D.bool? (.bl b)=some b:=rfl
end
end L2
end
section
namespace L2
open PySem PySem.Spec PyProof.Rows
section
variable {X:Cx} {S:Type} {W:Wd S} {c:Dx W} {g:Gr} {e:Expr} {es:List Expr} {o:D->D->Option D} {p q:Rho->Option D} {oA:List D->Option D} {qa:Rho->Option (List D)} {T:Bt}
theorem za5 {i j pos}:DE X c g (.Constant (.int i) j pos) (fP S (cn (.int i))):=de_int
theorem zf5 {x j pos}:DE X c g (.Constant (.str x) j pos) (fP S (cn (.str x))):=de_str
theorem de_blP {i j pos}:DE X c g (.Constant (.bool i) j pos) (fP S (cn (.bl i))):=de_bl
theorem zf9 {j pos}:DE X c g (.Constant .none j pos) (fP S (cn .non)):=de_non
theorem za0 {i:Nat} {x:Str} {pos:Pos} (h:PE X (.Name x pos) (tVar i)):DE X c .R (.Name x pos) (fP S (vr i)):=de_var h
theorem de_globP {x:Str} {i:Int} {pos:Pos} (hc:∃t,X.mg x=some (.int i t)) (hg:Gl X x) (hd:(x == ("__debug__" : Str))=false:=by decide):DE X c g (.Name x pos) (fP S (cn (.int i))):=de_globI hc hg hd
theorem za2:DA X c [] (aP S nl):=da_nil
theorem g2_ (h:DE X c g e (f2 S o (fP S p) (fP S q))):DE X c g e (fP S (o2 o p q)):=f2_P▸h
theorem gA_ (h:DE X c g e (fA S oA (aP S qa))):DE X c g e (fP S (o1 oA qa)):=fA_P▸h
theorem gI_ (h:DE X c g e (fIs S T (fP S p))):DE X c g e (fP S (ti T p)):=fIs_P▸h
theorem gC_ (h:DA X c es (aCons S (fP S p) (aP S qa))):DA X c es (aP S (cs p qa)):=aCons_P▸h
theorem gB_ {e:Expr} (h:DT X c e (fB S (fP S p))):DT X c e (tP S (tb p)):=fB_P▸h
theorem gT_ {e:Expr} (h:DT X c e (fB S (f2 S o (fP S p) (fP S q)))):DT X c e (tP S (tb (o2 o p q))):=gB_ (f2_P▸h)
end
theorem wp_seqG {S:Type} {F G:FnS S} {ρ:Rho} {st:S} {Q:Fl->S->Prop} {E:Exn->S->Prop} (h:∀P:Fl->S->Prop,(∀ρ1 st1,wpR (G ρ1 st1) Q E->P (.nx ρ1) st1)->(∀d st1,Q (.rt d) st1->P (.rt d) st1)->(∀r st1,Q (.bk r) st1->P (.bk r) st1)->(∀r st1,Q (.ct r) st1->P (.ct r) st1)->wpR (F ρ st) P E):wpR (sSeq S F G ρ st) Q E:=
 zb2.mpr (h _ (fun _ _ z=>z) (fun _ _ z=>z) (fun _ _ z=>z) (fun _ _ z=>z))
section
variable {X:Cx} {S:Type} {W:Wd S} {c:Dx W} {g:Gr} {e a b:Expr} {es:List Expr} {o:D->D->Option D} {p q:Rho->Option D} {qa:Rho->Option (List D)} {pos:Pos} {f fa fb:Fn S} {rr:FnA S}
theorem gDN_ {x:Str} (h:DE X c .R (.Name x pos) (fP S p)) (hr:DA X c es (aP S qa)):DA X c (.Name x pos::es) (aP S (cs p qa)):=gC_ (zg5 h hr)
theorem gEN_ {x:Str} (h:DE X c .R (.Name x pos) f) (hr:DA X c es rr):DA X c (.Name x pos::es) (aCons S f rr):=zg5 h hr
theorem gDK_ {k:Const} {j} (h:DE X c .R (.Constant k j pos) (fP S p)) (hr:DA X c es (aP S qa)):DA X c (.Constant k j pos::es) (aP S (cs p qa)):=gC_ (zg5 h hr)
theorem gEK_ {k:Const} {j} (h:DE X c .R (.Constant k j pos) f) (hr:DA X c es rr):DA X c (.Constant k j pos::es) (aCons S f rr):=zg5 h hr
theorem gDS_ {a b:Expr} (h:DE X c .R (.Subscript a b pos) (fP S p)) (hr:DA X c es (aP S qa)):DA X c (.Subscript a b pos::es) (aP S (cs p qa)):=gC_ (zg5 h hr)
theorem gES_ {a b:Expr} (h:DE X c .R (.Subscript a b pos) f) (hr:DA X c es rr):DA X c (.Subscript a b pos::es) (aCons S f rr):=zg5 h hr
theorem gDT_ {as:List Expr} {x1} (h:DE X c .R (.Tuple as x1 pos) (fP S p)) (hr:DA X c es (aP S qa)):DA X c (.Tuple as x1 pos::es) (aP S (cs p qa)):=gC_ (zg5 h hr)
theorem gDC_ {a:Expr} {as:List Expr} {ks} (h:DE X c .R (.Call a as ks pos) (fP S p)) (hr:DA X c es (aP S qa)):DA X c (.Call a as ks pos::es) (aP S (cs p qa)):=gC_ (zg5 h hr)
theorem gEC_ {a:Expr} {as:List Expr} {ks} (h:DE X c .R (.Call a as ks pos) f) (hr:DA X c es rr):DA X c (.Call a as ks pos::es) (aCons S f rr):=zg5 h hr
theorem gDB_ {a b:Expr} {op} (h:DE X c .R (.BinOp a op b pos) (fP S p)) (hr:DA X c es (aP S qa)):DA X c (.BinOp a op b pos::es) (aP S (cs p qa)):=gC_ (zg5 h hr)
theorem gEB_ {a b:Expr} {op} (h:DE X c .R (.BinOp a op b pos) f) (hr:DA X c es rr):DA X c (.BinOp a op b pos::es) (aCons S f rr):=zg5 h hr
theorem gEU_ {a:Expr} {op} (h:DE X c .R (.UnaryOp op a pos) f) (hr:DA X c es rr):DA X c (.UnaryOp op a pos::es) (aCons S f rr):=zg5 h hr
theorem gEM_ {a:Expr} {gs scope} (h:DE X c .R (.ListComp a gs scope pos) f) (hr:DA X c es rr):DA X c (.ListComp a gs scope pos::es) (aCons S f rr):=zg5 h hr
theorem gDQ_ {a:Expr} {ops bs} (h:DE X c .R (.Compare a ops bs pos) (fP S p)) (hr:DA X c es (aP S qa)):DA X c (.Compare a ops bs pos::es) (aP S (cs p qa)):=gC_ (zg5 h hr)
theorem gU_ {x1} (h:DA X c es (aP S qa)):DE X c g (.Tuple es x1 pos) (fP S (o1 oTup qa)):=gA_ (de_tup h)
theorem gL_ (h:DA X c es (aP S qa)):DE X c g (.List es pos) (fP S (o1 oLst qa)):=gA_ (de_lst h)
theorem gX_ (h:c.K=X.K) (ha:DE X c .R a (fP S p)) (hb:DE X c .R b (fP S q)) (hs:PlainIx b):DE X c g (.Subscript a b pos) (fP S (o2 oIx p q)):=g2_ (de_ix ix_seq (od_ix h) ha hb hs)
theorem gY_ (h:c.K=X.K) (ha:DE X c .R a fa) (hb:DE X c .R b fb) (hs:PlainIx b):DE X c g (.Subscript a b pos) (f2 S oIx fa fb):=de_ix ix_seq (od_ix h) ha hb hs
theorem gP_ (h:c.K=X.K) (ha:DE X c .R a (fP S p)) (hb:DE X c .R b (fP S q)):DE X c g (.BinOp a .Add b pos) (fP S (o2 oAddU p q)):=g2_ (de_op op_addU (od_addU h) ha hb)
theorem gp_ (h:c.K=X.K) (ha:DE X c .R a fa) (hb:DE X c .R b fb):DE X c g (.BinOp a .Add b pos) (f2 S oAddU fa fb):=de_op op_addU (od_addU h) ha hb
end
end L2
end
section
namespace L2
open PySem PySem.Spec PyProof.Rows
section
variable {X:Cx} {S:Type} {W:Wd S} {c:Dx W} {g ga gb gc:Gr} {a b:Expr} {fa fb fc:Fn S} {pos p2:Pos}
end
section
variable {S:Type} {fk:Fn S} {ρ:Rho} {st:S} {Q:D->S->Prop} {E:Exn->S->Prop}
end
end L2
end
section
namespace L2
open PySem PySem.Spec PyProof.Rows
section
variable {X:Cx} {S:Type} {W:Wd S} {c:Dx W} {g ga gb:Gr} {a b:Expr} {fa fb:Fn S} {pos:Pos}
end
end L2
end
section
namespace L2
open PySem PySem.Spec PyProof.Rows
noncomputable def tJ:List TE->Str->TE
 | [],out=>fun _ H Q=>out.length<=sizeLine/\Q (.str out) H
 | t::ts,out=>fun σ H Q=>t σ H fun v H1=>∃y:Str,v=.str y/\y.length<=sizeLine/\(out++y).length<=sizeLine/\tJ ts (out++y) σ H1 Q
section
variable {X:Cx}
noncomputable def PJ (X:Cx) (es:List Expr) (ts:List TE):Prop:=∀(out:Str) (pins:List (Addr×Obj)) (s:Shared) (σ:St) (H:Hp) (Q:VK),Inv X pins σ H s->tJ ts out σ H Q->
 wpAny (model X.prog X.w) X.A (joinParts out (evalEach es X.env)) (EP X pins σ Q) X.xe s
theorem pj_nil:PJ X [] []:=fun out pins s σ H Q I h=>joinParts_nil ⟨.str out,H,I.tok _,⟨_,rfl⟩,h.2⟩ h.1
theorem pj_cons {e:Expr} {es:List Expr} {t:TE} {ts:List TE} (h:PE X e t) (hs:PJ X es ts):PJ X (e::es) (t::ts):=fun out pins s σ H Q I w=>by
 refine joinParts_cons (thn (h pins s σ H _ I w) fun u s1 hI111=>?_);obtain⟨v,H1,I1,r,y,ev,_,hz,q⟩:=hI111;subst ev;obtain⟨t',rfl⟩:=r;exact⟨hz,hs (out++y) pins s1 σ H1 Q I1 q⟩
theorem pe_joined {e1 e2:Expr} {es:List Expr} {ts:List TE} {pos:Pos} (h:PJ X (e1::e2::es) ts):PE X (.JoinedStr (e1::e2::es) pos) (tJ ts Str.empty):=fun pins s σ H Q I w=>JoinedStr_many (h Str.empty pins s σ H Q I w)
end
section
variable {X:Cx} {S:Type} {W:Wd S} {c:Dx W} {g ga:Gr}
end
end L2
end
section
namespace L2
open PySem PySem.Spec PyProof.Rows
noncomputable def TrAt (h:Heap) (x T:Addr) (C:Value):Prop:=
 ∃(oe:Obj) (vs:Array Value) (a0:Value) (oT:Obj) (ts:Array Value),h.get? x=some oe/\oe.cls=C/\vs[0]?=some a0/\oe.data=.fields vs/\vs[1]?=some (.ref T)/\T≠x/\
  h.get? T=some oT/\oT.data=.fields ts/\ts[3]?=some .none
theorem TrAt.of {h B:Heap} {x:Addr} {C a0:Value} (t:h.TracedW B x C a0):∃T,B.get? T=none/\TrAt h x T C:=by
 obtain⟨oe,vs,T,oT,ts,h1,⟨h2,h3⟩,h4,h5,hB,h6,h7,h8,h9⟩:=t;exact⟨T,hB,oe,vs,a0,oT,ts,h1,h2,h3,h4,h5,h6,h7,h8,h9⟩
theorem ObjOk.has {P:Program} {w:World} {H:Hp} {h:Heap} {a:Addr} {o:HO} (x:ObjOk P w H h a o):∃u,h.get? a=some u:=by
 cases o with
 | lst xs=>obtain⟨_,_,_,_,e⟩:=x;exact⟨_,e⟩
 | tup xs=>obtain⟨_,_,_,_,e,_⟩:=x;exact⟨_,e⟩
 | dK kvs=>obtain⟨_,_,_,_,_,_,_,e,_⟩:=x;exact⟨_,e⟩
 | dT kvs=>obtain⟨_,_,_,_,_,_,_,e,_⟩:=x;exact⟨_,e⟩
 | set S n=>obtain⟨_,_,_,_,e,_⟩:=x;exact⟨_,e⟩
 | ins C dx fs=>obtain⟨_,_,_,e,_⟩:=x;exact⟨_,e⟩
 | own y=>exact x.imp fun _ q=>q
 | xd fs=>obtain⟨_,⟨_,_,_,e,_⟩,_⟩:=x;exact⟨_,e⟩
 | rng lo hi=>obtain⟨_,_,_,e⟩:=x;exact⟨_,e⟩
 | frz ob u=>exact⟨_,x.1⟩
 | tbl ps=>exact⟨_,(show h.get? a=some _ from x)⟩
 | met f y=>exact⟨_,(show h.get? a=some _ from x)⟩
 | ext φ=>obtain⟨_,⟨_,e⟩,_⟩:=x;exact⟨_,e⟩
section
variable {X:Cx} {pins:List (Addr×Obj)} {σ:St} {H:Hp} {s:Shared} {h':Heap}
end
end L2
end
section
namespace L2
open PySem PySem.Spec PyProof.Rows
noncomputable abbrev Cx.mark (X:Cx) (v:Value):Cx:={ X with A:=X.A.mark (some v),calm:=false,xe:=fun _ _=>False }
theorem Cx.Ok.mark {X:Cx} (ok:X.Ok) (v:Value):(X.mark v).Ok:=
 ⟨ok.mod,ok.kind,ok.glob,ok.blt,ok.above,ok.inj,ok.has,ok.cab,(fun z=>by cases z),ok.frames,ok.stk,ok.exf,ok.bs,ok.bsz,ok.noex,ok.exfs,ok.funs,ok.frf⟩
section
variable {X:Cx} {pins:List (Addr×Obj)} {σ:St} {H:Hp} {s:Shared} {h':Heap} {v:Value}
theorem Inv.mark (I:Inv X pins σ H s) (v:Value):Inv (X.mark v) pins σ H s:=⟨I.ok.mark v,I.os,I.bare,I.base,I.loc,I.cell,I.free,I.freeC,I.pin,I.hok,I.len⟩
theorem Inv.unmark (ok:X.Ok) (I:Inv (X.mark v) pins σ H s):Inv X pins σ H s:=⟨ok,I.os,I.bare,I.base,I.loc,I.cell,I.free,I.freeC,I.pin,I.hok,I.len⟩
theorem Inv.pinE {p:Addr×Obj} (I:Inv X pins σ H s) (h1:s.heap.get? p.1=some p.2) (h2:H p.1=none) (h3:∃vs,p.2.data=.fields vs) (hst:X.stack=X.env::X.outer) (hfr:X.env.frame=some X.env.locals):Inv X (p::pins) σ H s:=by
 obtain⟨vs,d⟩:=h3;have nf:p.1∉frs X.stack:=fun m=>by
  obtain⟨_,o,ho,hn⟩:=I.stack.mem m;rw[h1] at ho;cases ho;exact hn vs d
 refine I.pins_of fun q hq=>?_
 rcases List.mem_cons.mp hq with rfl | hq
 ·refine⟨h1,h2,fun z=>nf ?_,fun z=>nf ?_,fun v z=>by rw[d] at z;cases z⟩
  ·rw[z,hst]
   unfold frs;rw[List.filterMap_cons,hfr];exact List.mem_cons_self
  ·rw[hst]
   unfold frs;rw[List.filterMap_cons,hfr];exact List.mem_cons_of_mem _ z
 ·exact I.pin q (List.mem_append_right _ hq)
theorem unbind_ok {M:Model} {A:Around} {E:Value->Shared->Prop} {i:Nat} {n:Str} {pos:Pos} {Q:Unit->Shared->Prop} (I:Inv X pins σ H s) (hN:X.N.Nodup) (hi:X.N[i]?=some n) (hl:X.env.kindOf n=some .local)
 (h:∀s',Inv X pins (σ.set i none) H s'->Q () s'):wpAny M A (do bindName X.env n .none;unbindBehindTheSuite X.env n pos) Q E s:=by
 have hcls:(X.env.scope.kind == .class||(X.env.scope.kind == .module&&X.env.locals != X.env.globals))=false:=by rw[I.ok.kind];rfl
 have lc:Loc X.env.scope n:=.inl hl;refine wpAny_bind (wpAny_bindName (store_ok I hN hi lc (v:=.non) (u:=.none) rfl (fun s1 I1=>?_) (.inr hl)));unfold unbindBehindTheSuite;refine wpAny_onRaise ?_;unfold unbindName;refine wpAny_bind (wpAny_point (wpAny_bind ?_));unfold deleteName;simp only[hl,hcls];rw[if_neg (by decide)];obtain⟨m,hn,hlk⟩:=id I1.loc;have hiσ:i<σ.length:=by rw[I.len];exact(List.getElem?_eq_some_iff.mp hi).1
 have hm:(m n).isSome=true:=by
  obtain⟨u,r,q⟩:=hlk i n .non hi (List.getElem?_set_self hiσ) (by rcases lc with z | z;exact .inl z;exact .inr (.inl z));rcases q with⟨_,q⟩ | ⟨q,_⟩
  ·rw[q];rfl
  ·rw[hl] at q;rcases q with q | q<;>cases q
 refine wpAny_bind (wpAny_nsDel_keeps hn fun h2 v2 hn2 hs2=>?_);rw[hm];simp only[if_true,Option.isSome_some,Bool.not_true,Bool.false_eq_true,if_false];refine wpAny_pure (wpAny_point (h _ ?_));have I2:Inv X pins (σ.set i none) H s1:=I1.weak (by simp) fun j v e=>by
  by_cases hj:j=i
  ·subst hj
   rw[List.getElem?_set_self hiσ] at e;cases e
  ·rw[List.getElem?_set_ne (Ne.symm hj)] at e ⊢
   exact e
 have neL:∀b o,X.s₀.heap.get? b=some o->b≠X.env.locals:=fun b o e=>Nat.ne_of_lt (Nat.lt_of_lt_of_le (Heap.lt_size e) I.ok.above)
 obtain⟨oL,_,_,hoL,_⟩:=id hn;refine⟨I2.ok,I2.os,I2.bare,⟨fun b o e z hb hx=>(hs2.2 b (neL b o e)).trans (I2.base.keep b o e z hb hx),fun b o e z hb hx=>?_,I2.base.free,fun b o e hx=>?_,I2.base.tups,I2.base.frzs,I2.base.tbls⟩,⟨_,hn2,fun j y v' e1 e2 e3=>?_⟩,fun y c e=>?_,I2.free,I2.freeC,fun p hp=>?_,fun b ob e=>?_,I2.len⟩
 ·obtain⟨sl,e1⟩:=I2.base.slot b o e z hb hx
  exact⟨sl,(hs2.2 b (neL b o e)).trans e1⟩
 ·obtain⟨o',e1⟩:=I2.base.there b o e hx
  exact⟨o',(hs2.2 b (neL b o e)).trans e1⟩
 ·have hj:j≠i:=fun z=>by
   subst z;rw[List.getElem?_set_self hiσ] at e2;cases e2
  have hy:y≠n:=fun z=>hj (nodup_ix hN e1 (z▸hi))
  rw[List.getElem?_set_ne (Ne.symm hj)] at e2;obtain⟨u',r',q⟩:=hlk j y v' e1 (by rw[List.getElem?_set_ne (Ne.symm hj)];exact e2) e3;refine⟨u',r',?_⟩;rcases q with⟨k,e⟩ | ⟨k,c,e,z⟩
  ·exact .inl ⟨k,by simp[hy,e]⟩
  ·exact .inr ⟨k,c,e,z.sameBut hs2 (I.cne y c e)⟩
 ·obtain⟨w',z⟩:=I2.cell y c e
  exact⟨w',z.sameBut hs2 (I.cne y c e)⟩
 ·obtain⟨e,z,ne,nf,d⟩:=I2.pin p hp
  exact⟨(hs2.2 p.1 ne).trans e,z,ne,nf,d⟩
 ·refine(I2.hok b ob e).stay (fun c w' hc q=>(hs2.2 c ?_).trans q) (fun _ q=>q) fun _ _ q=>q
  rintro rfl;rcases hc with rfl | hc
  ·rw[I2.free] at e;cases e
  ·rw[I2.free] at hc;cases hc
theorem matches_up {M:Model} {A:Around} {E:Value->Shared->Prop} {nm q nm0 q0:Str} {C N C0 N0:Addr} {bs bm bs0 bm0:List Value} {hd hd0:Bool} {sn sn0:List Str} {sub sub0:List Value} {ab ab0:Bool} {col col0:Option Bool} {dd dd0:Option Addr}
 {k0 k1 k2 k3 k5 l0 l1 l2 l3 l5:Option Value} {id1 id0:String} {h:Heap} {g:Array GenState} {d:Drawn} {t:Nat} {os:OsState} {e:Addr} {oe:Obj} {Q:Bool->Shared->Prop}
 (hC:h.get? C=some (excClassObj nm q C N bs bm hd sn sub ab col dd k0 k1 k2 k3 k5 id1)) (hB:h.get? C0=some (excClassObj nm0 q0 C0 N0 bs0 bm0 hd0 sn0 sub0 ab0 col0 dd0 l0 l1 l2 l3 l5 id0))
 (he:h.get? e=some oe) (hc:oe.cls=.ref C) (hb:(Value.ref C0::bm0).contains (.type "BaseException")=true) (hin:(Value.ref C::bm).contains (.ref C0)=true) (hq:Q true ⟨h,g,d,t,os⟩) :
 wpAny M A (excMatches (.ref e) (.ref C0)) Q E ⟨h,g,d,t,os⟩:=by
 have f:=tc_notTuple;unfold excMatches;repeat (first
  | (with_reducible refine wpAny_loadPart_at he ?_;rw[hc])
  | with_reducible refine wpAny_loadPart_at hB ?_
  | with_reducible refine wpAny_loadPart_at hC ?_
  | (with_reducible refine wpAny_isSubtype_exc hB ?_;rw[hb])
  | (with_reducible refine wpAny_isSubtype_exc hC ?_;rw[hin])
  | wp_step)
 exact hq
end
end L2
end
section
namespace L2
open PySem PySem.Spec PyProof.Rows
noncomputable def ExcK (K:PySem.W.Frag) (C:Addr) (bm:List Value):Prop:=
 ∃(nm q:Str) (N:Addr) (bs:List Value) (hd:Bool) (sn:List Str) (sub:List Value) (ab:Bool) (col:Option Bool) (dd:Option Addr) (k0 k1 k2 k3 k5:Option Value) (id1:String),
  K.lookup C=some (excClassObj nm q C N bs bm hd sn sub ab col dd k0 k1 k2 k3 k5 id1)
section
variable {X:Cx} {CX:CXT} {k:Nat} {f:Addr} {fd:FuncData} {ps:List Str} {sp:Sp} {E:XK} {x:Str} {p pos:Pos} {e:Expr} {es:List Expr} {t:TA} {pins:List (Addr×Obj)} {σ:St} {H:Hp} {s:Shared}
end
end L2
end
section
namespace L2
open PySem PySem.Spec PyProof.Rows
structure ExcL (K:PySem.W.Frag) (C:Addr):Prop where
 ga:PySem.W.findIn K (.ref C) "__getattribute__" = some (some (.builtin "BaseException.__getattribute__"))
 gt:PySem.W.findIn K (.ref C) "__getattr__" = some none
 cl:PySem.W.findIn K (.ref C) "__class__" = some (some (.builtin "object.__class__"))
 sb:PySem.W.subIn K (.ref C) (.type "BaseException")=some true
 so:PySem.W.subIn K (.ref C) (.type "object")=some true
section
variable {prog:Program} {w:World} {A:Around} {E:Value->Shared->Prop} {h:Heap} {g:Array GenState} {d:Drawn} {t:Nat} {os:OsState} {a C:Addr} {o:Obj} {K:PySem.W.Frag}
theorem xc_get {R:Result->Shared->Prop} (L:ExcL K C) (X:K.In h) (hx:h.get? a=some o) (hc:o.cls=.ref C) (hq:R (.ok (.ret (.ref C))) ⟨h,g,d,t,os⟩) :
 codeAny (model prog w) A (.call (.builtin "getset_descriptor.__get__") ⟨[.builtin "object.__class__",.ref a,.ref C],[]⟩) R ⟨h,g,d,t,os⟩:=by
 have ht:(⟨h,g,d,t,os⟩:Shared).TypeIs (.builtin "object.__class__") "getset_descriptor":=F.typeOf_object_class;have lo:=PySem.W.looks_subIn (M:=model prog w) X L.so;refine codeAny_call_builtin F.slot_gs_get.plain F.entry_gs_get (F.slot_gs_get.check _ _ _ _ _ _ _ _ ht (F.args_gs_get _ _ _) ?_);repeat (any_goals (first
  | assumption
  | (with_reducible refine wpAny_loadPart_at hx ?_;rw[hc])
  | (rw[F.owner_object_class])
  | with_reducible refine lo.at ?_
  | wp_step))
 refine⟨Code.quiet_builtin _ (by decide +kernel),codeAny_builtin F.entry_object_class ?_⟩;repeat (any_goals (first
  | assumption
  | (with_reducible refine wpAny_loadPart_at hx ?_;rw[hc])
  | wp_step))
theorem xc_entry {tk:Tok} {Q:Fin->Shared->Prop} (L:ExcL K C) (X:K.In h) (hx:h.get? a=some o) (hc:o.cls=.ref C) (hq:Q (.done (.ret (.ref C))) ⟨h,g,d,t,os⟩) :
 wpAny (model prog w) A (Builtin.«object.__getattribute__» ⟨[.ref a,.str "__class__" tk],[]⟩) Q E ⟨h,g,d,t,os⟩:=by
 have ht:(⟨h,g,d,t,os⟩:Shared).TypeIs (.builtin "object.__class__") "getset_descriptor":=F.typeOf_object_class;have f5:=F.typeOf_object_class;have f6:=F.slot_gs_get.lookup;have f7:=F.slot_gs_set.lookup;have lc:=PySem.W.looks_findIn (M:=model prog w) X L.cl;repeat (any_goals (first
  | assumption
  | (with_reducible refine wpAny_loadPart_at hx ?_;rw[hc])
  | with_reducible refine lc.at ?_
  | wp_step))
 refine xc_get L X hx hc ?_;repeat (any_goals (first | assumption | wp_step))
theorem xc_check {M:Model} {nv:Value} {Q:Unit->Shared->Prop} (L:ExcL K C) (X:K.In h) (hx:h.get? a=some o) (hc:o.cls=.ref C) (hq:Q () ⟨h,g,d,t,os⟩) :
 wpAny M A (checkBuiltinCall "BaseException.__getattribute__" ⟨[.ref a,nv],[]⟩) Q E ⟨h,g,d,t,os⟩:=by
 have k1:builtinKind "BaseException.__getattribute__" = some .slot:=by decide +kernel
 have k2:splitId "BaseException.__getattribute__" = some ("BaseException","__getattribute__"):=by decide +kernel
 have k3:=F.args_bexc_ga (.ref a) nv;have ls:=PySem.W.looks_subIn (M:=M) X L.sb;simp only[checkBuiltinCall,k1,k2];refine wpAny_bind ?_;unfold isInstance;repeat (first
  | (with_reducible refine wpAny_loadPart_at hx ?_;rw[hc])
  | with_reducible refine ls.at ?_
  | wp_step)
 exact hq
theorem xc_call {tk:Tok} {R:Result->Shared->Prop} (L:ExcL K C) (X:K.In h) (hx:h.get? a=some o) (hc:o.cls=.ref C) (hq:R (.ok (.ret (.ref C))) ⟨h,g,d,t,os⟩) :
 codeAny (model prog w) A (.call (.builtin "BaseException.__getattribute__") ⟨[.ref a,.str "__class__" tk],[]⟩) R ⟨h,g,d,t,os⟩:=
 codeAny_call_builtin F.excAttr_ValueError.ga.plain F.entry_bexc_ga (xc_check L X hx hc (xc_entry L X hx hc hq))
theorem xc_by {tk:Tok} {Q:Value->Shared->Prop} (L:ExcL K C) (X:K.In h) (hx:h.get? a=some o) (hc:o.cls=.ref C) (hq:Q (.ref C) ⟨h,g,d,t,os⟩) :
 wpAny (model prog w) A (getAttrBy (.ref a) (.str "__class__" tk) false) Q E ⟨h,g,d,t,os⟩:=by
 have f3:=F.excAttr_ValueError.ga.bind (.ref a);have x0:(false&&onTheHeap (Value.builtin "BaseException.__getattribute__"))=false:=rfl;have x2:(Value.builtin "BaseException.__getattribute__" == Value.builtin "object.__getattribute__")=false:=by decide +kernel
 have x1:(onTheHeap (Value.ref C)&&Value.builtin "BaseException.__getattribute__" == Value.builtin "object.__getattribute__")=false:=by rw[x2];rfl
 have la:=PySem.W.looks_findIn (M:=model prog w) X L.ga;have lt:=PySem.W.looks_findIn (M:=model prog w) X L.gt;repeat (any_goals (first
  | assumption
  | (with_reducible refine wpAny_loadPart_at hx ?_;rw[hc])
  | with_reducible refine la.at ?_
  | with_reducible refine lt.at ?_
  | wp_step))
 refine xc_call L X hx hc ?_;repeat (any_goals (first | assumption | wp_step))
theorem xc_attr {Q:Option Value->Shared->Prop} (L:ExcL K C) (X:K.In h) (hx:h.get? a=some o) (hc:o.cls=.ref C) (hq:Q (some (.ref C)) ⟨h,g,d,t+1,os⟩) :
 wpAny (model prog w) A (getAttr? (.ref a) "__class__") Q E ⟨h,g,d,t,os⟩:=by
 unfold getAttr? getAttrBy?;repeat (any_goals (first
  | assumption
  | with_reducible apply xc_by L X hx hc
  | wp_step))
theorem kitx_exc {bm:List Value} (L:ExcL K C) (k:ExcK K C bm):PySem.W.KitX K (.ref a) (.ref C) (fun h=>∃o,h.get? a=some o/\o.cls=.ref C) where
 ty:=fun _ _ _ ⟨o,h1,h2⟩=>h2▸(PySem.W.Looks.ld h1).andThen .now
 it:=fun _ _ X _=>by
  obtain⟨nm,q,N,bs,hd,sn,sub,ab,col,dd,c0,c1,c2,c3,c5,id1,hC⟩:=k;intro A' Q' E' s' kk z;unfold isType loadHead;exact wpAny_bind (wpAny_loadPart (kk _ _ (X _ _ hC)) (wpAny_pure z))
 ne:=fun h tp dd its n sl X ht=>Bool.eq_false_iff.mpr fun z=>by
  obtain⟨nm,q,N,bs,hd,sn,sub,ab,col,dd,c0,c1,c2,c3,c5,id1,hC⟩:=k;have e:C=tp:=Value.ref.inj (beq_iff_eq.mp z);subst e;have y:=congrArg (fun z=>z.map fun o:Obj=>o.cls) ((X _ _ hC).symm.trans ht);simp[excClassObj] at y
 ca:=fun {_ _ _ _ _ s} X ⟨o,h1,h2⟩ z=>by
  obtain⟨h,g,d,t,os⟩:=s;exact xc_attr L X h1 h2 z
end
end L2
end
section
namespace L2
open PySem PySem.Spec PyProof.Rows
noncomputable abbrev bmV:List Value:=[.type "ValueError",.type "Exception",.type "BaseException",.type "object"]
section
variable {X:Cx} {E:XK} {C:Addr} {n:Str}
end
section
variable {P:Program} {w:World} {K:PySem.W.Frag} {mg:Str->Option Value} {base:Heap}
end
end L2
end
section
namespace L2
open PySem PySem.Spec PyProof.Rows
noncomputable abbrev Cx.pinned (X:Cx) (p:Addr×Obj):Cx:={ X with pn:=p::X.pn }
section
variable {X:Cx} {p:Addr×Obj} {pins:List (Addr×Obj)} {σ:St} {H:Hp} {s:Shared}
theorem Cx.Ok.toP (ok:X.Ok):(X.pinned p).Ok:=⟨ok.mod,ok.kind,ok.glob,ok.blt,ok.above,ok.inj,ok.has,ok.cab,ok.hd,ok.frames,ok.stk,ok.exf,ok.bs,ok.bsz,ok.noex,ok.exfs,ok.funs,ok.frf⟩
theorem Cx.Ok.ofP (ok:(X.pinned p).Ok):X.Ok:=⟨ok.mod,ok.kind,ok.glob,ok.blt,ok.above,ok.inj,ok.has,ok.cab,ok.hd,ok.frames,ok.stk,ok.exf,ok.bs,ok.bsz,ok.noex,ok.exfs,ok.funs,ok.frf⟩
theorem Inv.toP (I:Inv X (p::pins) σ H s):Inv (X.pinned p) pins σ H s:=⟨I.ok.toP,I.os,I.bare,I.base,I.loc,I.cell,I.free,I.freeC,fun q hq=>I.pin q (by
 simp only[List.mem_append,List.mem_cons] at hq ⊢;rcases hq with (h | h) | h
 ·exact .inr (.inl h)
 ·exact .inl h
 ·exact .inr (.inr h)),I.hok,I.len⟩
theorem Inv.ofP (I:Inv (X.pinned p) pins σ H s):Inv X pins σ H s:=⟨I.ok.ofP,I.os,I.bare,I.base,I.loc,I.cell,I.free,I.freeC,fun q hq=>I.pin q (by
 simp only[List.mem_append,List.mem_cons] at hq ⊢;rcases hq with h | h
 ·exact .inl (.inr h)
 ·exact .inr h),I.hok,I.len⟩
set_option tactic.hygienic true in
theorem SP.ofP {D:Ends} {f:Flow} {s':Shared} (h:SP (X.pinned p) pins D f s'):SP X pins D f s':=by
 cases f with
 | next=>obtain⟨σ',H',I,q⟩:=h;exact⟨σ',H',I.ofP,q⟩
 | brk=>obtain⟨σ',H',I,q⟩:=h;exact⟨σ',H',I.ofP,q⟩
 | cont=>obtain⟨σ',H',I,q⟩:=h;exact⟨σ',H',I.ofP,q⟩
 | ret u=>obtain⟨v,σ',H',I,r,q⟩:=h;exact⟨v,σ',H',I.ofP,r,q⟩
theorem isx_one {y C:Addr} {oe:Obj} {bm:List Value} (hp:(y,oe)∈X.pn) (hc:oe.cls=.ref C) (L:ExcL X.K C) (k:ExcK X.K C bm) :
 CallR X (.builtin "isinstance") (fun vs H Q=>∃cv c b,vs=[.ref y,cv]/\(∀u,RelV cv u->u=c)/\PySem.W.kitOne X.K (.ref C) c=some b/\Q (.bl b) H):=by
 intro pins s σ H xs us Q I r h;obtain⟨cv,c,b,rfl,hu,e,q⟩:=h;obtain⟨u,w',rfl,r1,r2⟩:=vals2 r;obtain rfl:u=.ref y:=r1;obtain rfl:=hu _ r2;exact PySem.W.kia_one (kitx_exc L k) I.kIn ⟨oe,(I.pin _ (List.mem_append_left _ hp)).1,hc⟩ e (fun z=>nomatch z) fun tk=>⟨.bl b,H,I.tok tk,rfl,q⟩
theorem isx_tup {y C:Addr} {oe:Obj} {bm:List Value} (hp:(y,oe)∈X.pn) (hc:oe.cls=.ref C) (L:ExcL X.K C) (k:ExcK X.K C bm) :
 CallR X (.builtin "isinstance") (fun vs H Q=>∃(tp:Addr) (cs:List Addr) (b:Bool),vs=[.ref y,.ref tp]/\H tp=some (.tup (cs.map V.ref))/\PySem.W.kitAny X.K (.ref C) (cs.map Value.ref)=some b/\Q (.bl b) H):=by
 intro pins s σ H xs us Q I r h;obtain⟨tp,cs,b,rfl,ht,e,q⟩:=h;obtain⟨u,w',rfl,r1,r2⟩:=vals2 r;obtain rfl:u=.ref y:=r1;obtain rfl:w'=.ref tp:=r2;obtain⟨hz,its,rv,o,h1,h2,n,h3⟩:=(show ObjOk X.prog X.w H s.heap tp (.tup (cs.map V.ref)) from I.hok tp _ ht);have hi:its=cs.map Value.ref:=by
  clear e ht h1 h2 h3 hz;induction cs generalizing its with
  | nil=>cases rv;rfl
  | cons a cs ih=>
    cases rv with
    | cons z zs=>rw[ih _ zs];obtain rfl:=z;rfl
 subst hi;obtain⟨oc,od,odt,osl⟩:=o;dsimp only at h2 h3;subst h2 h3;exact PySem.W.kia_tup (kitx_exc L k) I.kIn ⟨oe,(I.pin _ (List.mem_append_left _ hp)).1,hc⟩ h1 e (fun z=>nomatch z) fun tk=>⟨.bl b,H,I.tok tk,rfl,q⟩
set_option tactic.hygienic true in
theorem step_next {st:Stmt} {rest:List Stmt} {t:TS} {σ1:St} {H1:Hp} {R:Flow->Shared->Prop} (h:PS X st t) (I:Inv X pins σ H s) (ht:t { nx:=fun σ' H'=>σ'=σ1/\H'=H1,rt:=fun _ _=>False } σ H)
 (k:∀s',Inv X pins σ1 H1 s'->wpAny (model X.prog X.w) X.A (execs rest X.env) R X.xe s'):wpAny (model X.prog X.w) X.A (execs (st::rest) X.env) R X.xe s:=by
 refine wpAny_execs_cons (thn (h pins s σ H _ I ht) fun f s1 q=>?_);cases f with
 | next=>
   obtain⟨σ',H',I',rfl,rfl⟩:=q;exact k s1 I'
 | ret v=>obtain⟨_,_,_,_,_,z⟩:=q;exact z.elim
 | brk=>obtain⟨_,_,_,z⟩:=q;exact z.elim
 | cont=>obtain⟨_,_,_,z⟩:=q;exact z.elim
end
end L2
end
section
namespace L2
open PySem PySem.Spec PyProof.Rows
open PySem.SeqAt
section
variable {X:Cx}
variable {S:Type} {W:Wd S} {c:Dx W}
end
end L2
end
section
namespace L2
open PySem PySem.Spec PyProof.Rows
noncomputable abbrev newTup (h:Heap) (vs:List Value):Heap:=h.push { cls:=.type "tuple",data:=.seq vs.toArray }
noncomputable abbrev newExc (h:Heap) (C:Addr) (vs:List Value):Heap:=(newTup h vs).push { cls:=.ref C,data:=.fields #[.ref h.objs.size,.none,.none,.none,.bool false,.none] }
section
variable {prog:Program} {w:World} {A:Around} {E:Value->Shared->Prop} {h:Heap} {g:Array GenState} {d:Drawn} {t:Nat} {os:OsState}
variable {nm q:Str} {C N f:Addr} {bs bm bmB:List Value} {hd:Bool} {sn:List Str} {sub:List Value} {ab:Bool} {col:Option Bool} {dd:Option Addr} {k0 k1 k2 k3 k5:Option Value} {B newId initId:String}
set_option tactic.hygienic true in
theorem type_call_own (F:ExcBaseFacts B newId initId bmB) (T:OwnTail h bmB bm) {mN:Str->Option Value} {vs:List Value} {Q:Fin->Shared->Prop}
 (hC:h.get? C=some (excClassObj nm q C N bs bm hd sn sub ab col dd k0 k1 k2 k3 k5 newId)) (hn:h.Ns N mN) (hi:mN "__init__" = some (.ref f))
 (hl:vs.length<=sizeLine) {of:Obj} (hf:h.get? f=some of) (hfc:of.cls=.type "function")
 (hq:codeAny (model prog w) A (.call (.ref f) ⟨.ref (h.objs.size+1)::vs,[]⟩) (fun r s'=>match r with
  | .ok (.ret v)=>v=.none/\Q (.done (.ret (.ref (h.objs.size+1)))) s'
  | .ok _=>False
  | .error e=>E e s') ⟨newExc h C vs,g,d,t,os⟩):wpAny (model prog w) A (Builtin.«type.__call__» ⟨.ref C::vs,[]⟩) Q E ⟨h,g,d,t,os⟩:=by
 repeat (first
  | with_reducible refine wpAny_loadPart_at hC ?_
  | with_reducible refine wpAny_madeBy_exc hC ?_
  | wp_step)
 refine codeAny_call_builtin_code (Code.quiet_builtin _ F.quiet) (wpAny_check_new_subT F T hC (codeAny_exc_new_subT F T hC ?_ hl));have kp:∀b o,h.get? b=some o->(newExc h C vs).get? b=some o:=fun b o e=>Heap.get?_push_of_some _ (Heap.get?_push_of_some _ e)
 have hn1:(newExc h C vs).Ns N mN:=hn.keeps kp;have he:(newExc h C vs).get? (h.objs.size+1)=some { cls:=.ref C,data:=.fields #[.ref h.objs.size,.none,.none,.none,.bool false,.none] }:=by heap_get
 have hself:(Value.ref C::bm).contains (.ref C)=true:=by simp
 have T1:=T.keeps kp;have hC1:=kp _ _ hC;show wpAny _ _ _ _ _ _;unfold isInstance;repeat (first
  | with_reducible refine wpAny_loadPart_at he ?_
  | (with_reducible refine wpAny_isSubtype_exc hC1 ?_;rw[hself])
  | wp_step)
 show wpAny _ _ (typeLookup (.ref C) _) _ _ _;refine wpAny_typeLookup_tail hC1 hn1 T1 F.mroIs F.init.lookup ?_;rw[hi];refine wpAny_holding (wpAny_bind (wpAny_bindSpecial_def (kp _ _ hf) hfc ?_));refine wpAny_bind (wpAny_call (codeAny_mono hq fun r s' z=>?_));cases r with
 | error e=>exact z
 | ok fl=>
   cases fl with
   | ret v=>
     obtain⟨rfl,z⟩:=z;refine wpAny_pure ?_;exact wpAny_pure z
   | next=>exact z.elim
   | brk=>exact z.elim
   | cont=>exact z.elim
theorem call_own (F:ExcBaseFacts B newId initId bmB) (T:OwnTail h bmB bm) {mN:Str->Option Value} {vs:List Value} {Q:Value->Shared->Prop}
 (hC:h.get? C=some (excClassObj nm q C N bs bm hd sn sub ab col dd k0 k1 k2 k3 k5 newId)) (hn:h.Ns N mN) (hi:mN "__init__" = some (.ref f))
 (hl:vs.length<=sizeLine) {of:Obj} (hf:h.get? f=some of) (hfc:of.cls=.type "function")
 (hq:codeAny (model prog w) (A.under (.builtin "type.__call__" ⟨.ref C::vs,[]⟩)) (.call (.ref f) ⟨.ref (h.objs.size+1)::vs,[]⟩) (fun r s'=>match r with
  | .ok (.ret v)=>v=.none/\Q (.ref (h.objs.size+1)) s'
  | .ok _=>False
  | .error e=>E e s') ⟨newExc h C vs,g,d,t,os⟩):wpAny (model prog w) A (call (.ref C) vs) Q E ⟨h,g,d,t,os⟩:=by
 have z1:=tc_lookup;have z2:=tc_bind (.ref C);have z3:(⟨h,g,d,t,os⟩:Shared).TypeIs (.ref C) "type":=⟨_,hC,rfl⟩;refine wpAny_call (codeAny_of_tree ?_);show wpAny _ _ (callAny (.ref C) _) _ _ _;repeat (any_goals (first
  | assumption
  | with_reducible refine wpAny_loadPart_at hC ?_
  | wp_step))
 refine⟨rfl,?_⟩;refine codeAny_call_builtin_at (Code.quiet_builtin _ (by decide +kernel)) entry_typeCall (wpAny_check_type_call_sub hC (type_call_own F T hC hn hi hl hf hfc ?_));exact hq
theorem raiseStmt_own {M:Model} {s:Shared} {env:Env} {x:Sem Value} {Q:Flow->Shared->Prop} (hb:bm.contains (.type "BaseException")=true) (hh:A.handled=none)
 (hx:wpAny M A x (fun v s₁=>∃(e:Addr) (oe:Obj),v=.ref e/\s₁.heap.get? C=some (excClassObj nm q C N bs bm hd sn sub ab col dd k0 k1 k2 k3 k5 newId)/\s₁.heap.get? e=some oe/\oe.cls=.ref C/\
  (∃vs,oe.data=.fields vs/\vs[1]?=some .none)/\E (.ref e) s₁) E s):wpAny M A (raiseStmt env (some x) none) Q E s:=by
 have hc:(Value.ref C::bm).contains (.type "BaseException")=true:=by rw[List.contains_cons,hb,Bool.or_true]
 unfold raiseStmt;refine wpAny_bind (wpAny_mono hx (fun v s₁ z=>?_) fun _ _ y=>y);obtain⟨e,oe,rfl,hC,he,hcls,⟨vs,hdat,h1⟩,z⟩:=z;obtain⟨hp,gg,dr,tk,osx⟩:=s₁;repeat (first
  | (with_reducible refine wpAny_loadPart_at he ?_;rw[hcls])
  | with_reducible refine wpAny_loadPart_at he ?_
  | with_reducible refine wpAny_loadPart_at hC ?_
  | (with_reducible refine wpAny_isSubtype_exc hC ?_;rw[hc])
  | wp_step)
 rw[hdat];refine wpAny_pure ?_;rw[h1];refine wpAny_pure ?_;rw[if_neg (by simp)];refine wpAny_pure ?_;exact wpAny_raiseNew_none hh z
end
end L2
end
section
namespace L2
open PySem PySem.Spec PyProof.Rows
section
variable {prog:Program} {w:World} {A:Around} {E:Value->Shared->Prop} {h:Heap} {g:Array GenState} {d:Drawn} {t:Nat} {os:OsState} {a C dx:Addr} {o:Obj} {K:PySem.W.Frag}
variable {nm q:Str} {N:Addr} {bs bm:List Value} {sn:List Str} {sub:List Value} {ab:Bool} {col:Option Bool} {dd:Option Addr} {k0 k1 k2 k3 k5:Option Value} {newId:String}
theorem xr_entry (hC:h.get? C=some (excClassObj nm q C N bs bm true sn sub ab col dd k0 k1 k2 k3 k5 newId)) {tk:Tok} {name:Str} {v:Value} {mA:Str->Option Value} {Q:Fin->Shared->Prop} (L:ExcL K C) (X:K.In h) (hn:PySem.W.findIn K (.ref C) name=some none) (hx:h.get? a=some o) (hc:o.cls=.ref C)
 {vs:Array Value} (hdat:o.data=.fields vs) (hd:o.dict=some dx) (hm:h.Ns dx mA) (hv:mA name=some v) (hq:Q (.done (.ret v)) ⟨h,g,d,t,os⟩) :
 wpAny (model prog w) A (Builtin.«object.__getattribute__» ⟨[.ref a,.str name tk],[]⟩) Q E ⟨h,g,d,t,os⟩:=by
 have lc:=PySem.W.looks_findIn (M:=model prog w) X hn;repeat (any_goals (first
  | assumption
  | (with_reducible refine wpAny_loadPart_at hx ?_;first | rw[hc] | rw[hd])
  | with_reducible refine lc.at ?_
  | wp_step))
 rw[hdat];show wpAny _ _ (instanceDict a false) _ _ _;unfold instanceDict;repeat (any_goals (first
  | assumption
  | (with_reducible refine wpAny_loadPart_at hx ?_;rw[hd])
  | wp_step))
 rw[hc];repeat (any_goals (first
  | assumption
  | with_reducible refine wpAny_loadPart_at hC ?_
  | (with_reducible refine wpAny_nsGet hm ?_;rw[hv])
  | wp_step))
theorem xr_call (hC:h.get? C=some (excClassObj nm q C N bs bm true sn sub ab col dd k0 k1 k2 k3 k5 newId)) {tk:Tok} {name:Str} {v:Value} {mA:Str->Option Value} {T:Result->Shared->Prop} (L:ExcL K C) (X:K.In h) (hn:PySem.W.findIn K (.ref C) name=some none) (hx:h.get? a=some o) (hc:o.cls=.ref C) {vs:Array Value} (hdat:o.data=.fields vs) (hd:o.dict=some dx) (hm:h.Ns dx mA) (hv:mA name=some v) (hq:T (.ok (.ret v)) ⟨h,g,d,t,os⟩) :
 codeAny (model prog w) A (.call (.builtin "BaseException.__getattribute__") ⟨[.ref a,.str name tk],[]⟩) T ⟨h,g,d,t,os⟩:=
 codeAny_call_builtin F.excAttr_ValueError.ga.plain F.entry_bexc_ga (xc_check L X hx hc (xr_entry hC L X hn hx hc hdat hd hm hv hq))
theorem xr_by (hC:h.get? C=some (excClassObj nm q C N bs bm true sn sub ab col dd k0 k1 k2 k3 k5 newId)) {tk:Tok} {fill expr:Bool} {name:Str} {v:Value} {mA:Str->Option Value} {T:Value->Shared->Prop} (L:ExcL K C) (X:K.In h) (hn:PySem.W.findIn K (.ref C) name=some none) (hx:h.get? a=some o) (hc:o.cls=.ref C) {vs:Array Value} (hdat:o.data=.fields vs) (hd:o.dict=some dx) (hm:h.Ns dx mA) (hv:mA name=some v) (hb:∀id,v≠.builtin id) (hq:T v ⟨h,g,d,t,os⟩) :
 wpAny (model prog w) A (getAttrBy (.ref a) (.str name tk) fill expr) T E ⟨h,g,d,t,os⟩:=by
 have f3:=F.excAttr_ValueError.ga.bind (.ref a);have x0:(expr&&onTheHeap (Value.builtin "BaseException.__getattribute__"))=false:=by cases expr<;>rfl
 have x2:(Value.builtin "BaseException.__getattribute__" == Value.builtin "object.__getattribute__")=false:=by decide +kernel
 have x1:(onTheHeap (Value.ref C)&&Value.builtin "BaseException.__getattribute__" == Value.builtin "object.__getattribute__")=false:=by rw[x2];rfl
 have la:=PySem.W.looks_findIn (M:=model prog w) X L.ga;have lt:=PySem.W.looks_findIn (M:=model prog w) X L.gt;repeat (any_goals (first
  | assumption
  | (with_reducible refine wpAny_loadPart_at hx ?_;rw[hc])
  | with_reducible refine la.at ?_
  | with_reducible refine lt.at ?_
  | wp_step))
 refine xr_call hC L X hn hx hc hdat hd hm hv ?_;repeat (any_goals (first | assumption | wp_step))
 cases v with
 | builtin id=>exact absurd rfl (hb id)
 | _=>exact wpAny_pure hq
theorem xr_attr (hC:h.get? C=some (excClassObj nm q C N bs bm true sn sub ab col dd k0 k1 k2 k3 k5 newId)) {expr:Bool} {name:Str} {v:Value} {mA:Str->Option Value} {T:Value->Shared->Prop} (L:ExcL K C) (X:K.In h) (hn:PySem.W.findIn K (.ref C) name=some none) (hx:h.get? a=some o) (hc:o.cls=.ref C) {vs:Array Value} (hdat:o.data=.fields vs) (hd:o.dict=some dx) (hm:h.Ns dx mA) (hv:mA name=some v) (hb:∀id,v≠.builtin id) (hq:T v ⟨h,g,d,t+1,os⟩) :
 wpAny (model prog w) A (getAttr (.ref a) name expr) T E ⟨h,g,d,t,os⟩:=by
 unfold getAttr;repeat (any_goals (first
  | assumption
  | with_reducible apply xr_by hC L X hn hx hc hdat hd hm hv hb
  | wp_step))
end
end L2
end
section
namespace L2
open PySem PySem.Spec PyProof.Rows
section
variable {prog:Program} {w:World} {A:Around} {E:Value->Shared->Prop} {h:Heap} {g:Array GenState} {d:Drawn} {t:Nat} {os:OsState} {a C dx:Addr} {o:Obj} {K:PySem.W.Frag}
variable {nm q:Str} {N:Addr} {bs bm:List Value} {sn:List Str} {sub:List Value} {ab:Bool} {col:Option Bool} {dd:Option Addr} {k0 k1 k2 k3 k5:Option Value} {newId:String}
theorem xs_dict {tk:Tok} {name:Str} {v:Value} {mA:Str->Option Value} {Q:Fin->Shared->Prop} (hm:h.Ns1 dx mA) {ns:List Str} (hw:Within mA ns) (hsz:ns.length<=1000)
 (hq:∀h' tk',h'.Ns1 dx (fun y=>if y=name then some v else mA y)->Heap.SameBut dx h h'->Q (.done (.ret .none)) ⟨h',g,d,tk',os⟩) :
 wpAny (model prog w) A (Builtin.ObjectAttr.storeInDict dx (.str name tk) name v) Q E ⟨h,g,d,t,os⟩:=by
 unfold Builtin.ObjectAttr.storeInDict Builtin.ObjectAttr.newKeyGuard;refine wpAny_bind (wpAny_pure (wpAny_bind (wpAny_nsSet1 hm fun h' hn' same=>?_)));obtain⟨oD,esD,epD,hoD,hdD,hcD⟩:=hn'.count (Within.cons name v hw);refine wpAny_bind (wpAny_lookBehind hoD ?ln ?_);case ln=>
  rw[hdD];refine pastItsLine_dict (Nat.le_trans hcD ?_);rw[List.length_cons,sizeLine_eq];omega
 wp_walk
 exact hq h' _ hn' same
theorem xs_more (hC:h.get? C=some (excClassObj nm q C N bs bm true sn sub ab col dd k0 k1 k2 k3 k5 newId)) {tk:Tok} {name:Str} {v:Value} {mA:Str->Option Value} {Q:Fin->Shared->Prop} (X:K.In h)
 (hn:PySem.W.findIn K (.ref C) name=some none) (hp:refuseLoop (.ref a) "__setattr__" bm=pure ()) (hx:h.get? a=some o) (hc:o.cls=.ref C) {vs:Array Value} (hdat:o.data=.fields vs) (hd:o.dict=some dx) (hm:h.Ns1 dx mA)
 (hq:∀h' tk',h'.Ns1 dx (fun y=>if y=name then some v else mA y)->Heap.SameBut dx h h'->Q (.done (.ret .none)) ⟨h',g,d,tk',os⟩) {ns:List Str} (hw:Within mA ns) (hsz:ns.length<=1000) :
 wpAny (model prog w) A (Builtin.«object.__setattr__» ⟨[.ref a,.str name tk,v],[]⟩) Q E ⟨h,g,d,t,os⟩:=by
 have ln:=PySem.W.looks_findIn (M:=model prog w) X hn;unfold Builtin.«object.__setattr__»;repeat (first
  | rw[refuse_eq]
  | (rw[refuseLoop_ref,hp])
  | (with_reducible refine wpAny_loadPart_at hx ?_;rw[hc])
  | with_reducible refine wpAny_mroOf_exc hC ?_
  | with_reducible refine ln.at ?_
  | wp_step)
 rw[hd];refine wpAny_pure ?_;show wpAny _ _ (Builtin.ObjectAttr.storeInDict dx (.str name tk) name v) _ _ _;exact xs_dict hm hw hsz hq
theorem xs_first (hC:h.get? C=some (excClassObj nm q C N bs bm true sn sub ab col dd k0 k1 k2 k3 k5 newId)) {tk:Tok} {name:Str} {v:Value} {Q:Fin->Shared->Prop} (X:K.In h)
 (hn:PySem.W.findIn K (.ref C) name=some none) (hp:refuseLoop (.ref a) "__setattr__" bm=pure ()) (hx:h.get? a=some o) (hc:o.cls=.ref C) {vs:Array Value} (hdat:o.data=.fields vs) (hd:o.dict=none)
 (hq:∀h' tk',h'.Ns1 h.objs.size (fun y=>if y=name then some v else none)->h'.get? a=some { o with dict:=some h.objs.size }->(∀b u,b≠a->h.get? b=some u->h'.get? b=some u)->Q (.done (.ret .none)) ⟨h',g,d,tk',os⟩) :
 wpAny (model prog w) A (Builtin.«object.__setattr__» ⟨[.ref a,.str name tk,v],[]⟩) Q E ⟨h,g,d,t,os⟩:=by
 have ln:=PySem.W.looks_findIn (M:=model prog w) X hn;unfold Builtin.«object.__setattr__»;repeat (first
  | rw[refuse_eq]
  | (rw[refuseLoop_ref,hp])
  | (with_reducible refine wpAny_loadPart_at hx ?_;rw[hc])
  | with_reducible refine wpAny_mroOf_exc hC ?_
  | with_reducible refine ln.at ?_
  | wp_step)
 rw[hd,hdat];have has:a<h.objs.size:=Heap.lt_size hx;refine wpAny_bind (wpAny_alloc' ?_);refine wpAny_bind (wpAny_update' (Heap.get?_push_of_some _ hx) ?_);refine wpAny_pure ?_;show wpAny _ _ (Builtin.ObjectAttr.storeInDict h.objs.size (.str name tk) name v) _ _ _;have ne:h.objs.size≠a:=Nat.ne_of_gt has;have there:((h.push { cls:=.type "dict",data:=.dict #[] }).update a fun u=>{ cls:=u.cls,dict:=some h.objs.size,data:=u.data,slots:=u.slots }).get? h.objs.size=some { cls:=.type "dict",data:=.dict #[] }:=
  (Heap.get?_update_ne _ _ _ _ ne).trans (Heap.get?_push_at rfl rfl)
 have self:((h.push { cls:=.type "dict",data:=.dict #[] }).update a fun u=>{ cls:=u.cls,dict:=some h.objs.size,data:=u.data,slots:=u.slots }).get? a=some { o with dict:=some h.objs.size }:=
  Heap.get?_update_self _ (Heap.get?_push_of_some _ hx) (Obj.isFreed_of_fields hdat)
 have empty:((h.push { cls:=.type "dict",data:=.dict #[] }).update a fun u=>{ cls:=u.cls,dict:=some h.objs.size,data:=u.data,slots:=u.slots }).Ns h.objs.size (fun _=>none):=
  ⟨_,#[],_,there,rfl,(fun e he=>absurd he (by simp)),fun _=>rfl⟩
 refine xs_dict (ns:=[]) (Heap.Ns1.of_empty empty) Within.nil (by simp) fun h' tk' n1 same=>hq h' tk' n1 ((same.2 a ne.symm).trans self) fun b u hb e=>?_
 exact(same.2 b (Nat.ne_of_lt (Heap.lt_size e))).trans ((Heap.get?_update_ne _ _ _ _ hb).trans (Heap.get?_push_of_some _ e))
end
end L2
end
section
namespace L2
open PySem PySem.Spec PyProof.Rows
section
variable {prog:Program} {w:World} {A:Around} {E:Value->Shared->Prop} {h:Heap} {g:Array GenState} {d:Drawn} {t:Nat} {os:OsState} {a C:Addr} {o:Obj} {K:PySem.W.Frag}
theorem xs_check {M:Model} {nv v:Value} {Q:Unit->Shared->Prop} (L:ExcL K C) (X:K.In h) (hx:h.get? a=some o) (hc:o.cls=.ref C) (hq:Q () ⟨h,g,d,t,os⟩) :
 wpAny M A (checkBuiltinCall "object.__setattr__" ⟨[.ref a,nv,v],[]⟩) Q E ⟨h,g,d,t,os⟩:=by
 have k1:builtinKind "object.__setattr__" = some .slot:=by decide +kernel
 have k2:splitId "object.__setattr__" = some ("object","__setattr__"):=by decide +kernel
 have k3:=F.store_ValueError.args (.ref a) nv v;have ls:=PySem.W.looks_subIn (M:=M) X L.so;simp only[checkBuiltinCall,k1,k2];refine wpAny_bind ?_;unfold isInstance;repeat (first
  | (with_reducible refine wpAny_loadPart_at hx ?_;rw[hc])
  | with_reducible refine ls.at ?_
  | wp_step)
 exact hq
theorem xs_attr {name:Str} {v:Value} {Q:Unit->Shared->Prop} (L:ExcL K C) (X:K.In h) (hsa:PySem.W.findIn K (.ref C) "__setattr__" = some (some (.builtin "object.__setattr__"))) (hx:h.get? a=some o) (hc:o.cls=.ref C)
 (hb:∀(A':Around) (E':Value->Shared->Prop) (tk:Tok) (t':Nat) (T:Fin->Shared->Prop),(∀s',Q () s'->T (.done (.ret .none)) s')->wpAny (model prog w) A' (Builtin.«object.__setattr__» ⟨[.ref a,.str name tk,v],[]⟩) T E' ⟨h,g,d,t',os⟩) :
 wpAny (model prog w) A (setAttr (.ref a) name v) Q E ⟨h,g,d,t,os⟩:=by
 have f3:=F.store_ValueError.slot.bind (.ref a);have ls:=PySem.W.looks_findIn (M:=model prog w) X hsa;unfold setAttr callSpecial? specialOf;repeat (any_goals (first
  | assumption
  | (with_reducible refine wpAny_loadPart_at hx ?_;rw[hc])
  | with_reducible refine ls.at ?_
  | wp_step))
 refine codeAny_call_builtin F.store_ValueError.slot.plain F.store_ValueError.entry (xs_check L X hx hc (hb _ _ _ _ _ fun s' z=>?_));repeat (any_goals (first | assumption | wp_step))
end
end L2
end
section
namespace L2
open PySem PySem.Spec PyProof.Rows
section
variable {prog:Program} {w:World} {A:Around} {E:Value->Shared->Prop} {h:Heap} {g:Array GenState} {d:Drawn} {t:Nat} {os:OsState} {a C:Addr} {o:Obj} {K:PySem.W.Frag}
variable {nm q:Str} {N:Addr} {bs bm bmB:List Value} {hd:Bool} {sn:List Str} {sub:List Value} {ab:Bool} {col:Option Bool} {dd:Option Addr} {k0 k1 k2 k3 k5:Option Value} {B newId initId:String}
theorem xi_init (F:ExcBaseFacts B newId initId bmB) (T:OwnTail h bmB bm) (hC:h.get? C=some (excClassObj nm q C N bs bm hd sn sub ab col dd k0 k1 k2 k3 k5 newId)) {vs:List Value} {fs:Array Value} {R:Result->Shared->Prop}
 (hx:h.get? a=some o) (hc:o.cls=.ref C) (hdat:o.data=.fields fs) {t0:Addr} (hf:fs[0]?=some (.ref t0)) (hl:vs.length<=sizeLine)
 (hq:R (.ok (.ret .none)) ⟨(h.push { cls:=.type "tuple",data:=.seq vs.toArray }).update a (Obj.mapFields (·.setIfInBounds 0 (.ref h.objs.size))),g,d,t,os⟩) :
 codeAny (model prog w) A (.call (.builtin initId) ⟨.ref a::vs,[]⟩) R ⟨h,g,d,t,os⟩:=by
 refine codeAny_call_builtin F.init.plain F.initEntry (wpAny_check_init_subT F T hC hx hc ?_);have h1:=Heap.get?_push_of_some { cls:=.type "tuple",data:=.seq vs.toArray } hx
 wp_walk
 rw[hdat];refine wpAny_pure ?_;rw[hf];refine wpAny_pure ?_;refine wpAny_bind (wpAny_setField h1 hdat (Array.getElem?_eq_some_iff.mp hf).1 ?_)
 wp_walk
 exact hq
end
end L2
end
section
namespace L2
open PySem PySem.Spec PyProof.Rows
section
variable {X:Cx} {pins:List (Addr×Obj)} {σ:St} {H H':Hp} {s:Shared} {e:Addr} {h':Heap}
noncomputable abbrev Cx.over (X:Cx) (e:Addr):Cx:={ X with ex:=[e] }
theorem Un.over {fs:List Addr} {H H':Hp} {h h':Heap} (u:Un fs [] H H' h h') (e:Addr):Un fs [e] H H' h h' where
 keep:=fun b o q n hb _=>u.keep b o q n hb (by simp)
 slot:=fun b o q n hb _=>u.slot b o q n hb (by simp)
 free:=fun b o q n _=>u.free b o q n (by simp)
 there:=fun b o q _=>u.there b o q (by simp)
 tups:=u.tups
 frzs:=u.frzs
 tbls:=u.tbls
theorem Inv.over (I:Inv X pins σ H s) (hx:X.ex=[]) (h1:e≠X.env.locals) (h2:∀x c,X.env.cells.lookup x=some c->c≠e) (h3:X.base.get? e=none) (h4:e∉X.fs):Inv (X.over e) pins σ H s:=by
 have ok:=I.ok;have one:∀{b:Addr},b∈[e]->b=e:=fun hb=>List.mem_singleton.mp hb
 refine⟨⟨ok.mod,ok.kind,ok.glob,ok.blt,ok.above,ok.inj,ok.has,ok.cab,ok.hd,ok.frames,ok.stk,fun b hb=>?_,ok.bs,ok.bsz,fun b o q hb=>?_,fun b hb=>?_,ok.funs,ok.frf⟩,I.os,I.bare,?_,I.loc,I.cell,I.free,I.freeC,I.pin,I.hok,I.len⟩
 ·rw[one hb];exact⟨h1,h2⟩
 ·rw[one hb,h3] at q;cases q
 ·rw[one hb];exact h4
 ·have b:=I.base
  rw[hx] at b;exact b.over e
theorem Inv.changed (I:Inv (X.over e) pins σ H s) (he:H e=none) (hp:∀p∈X.pn++pins,p.1≠e) (k:∀b u,b≠e->s.heap.get? b=some u->h'.get? b=some u) (th:∃u,h'.get? e=some u) {t':Nat} :
 Inv (X.over e) pins σ H { s with heap:=h',toks:=t' }:=by
 have nl:X.env.locals≠e:=fun z=>(I.ok.exf e (List.mem_singleton.mpr rfl)).1 z.symm
 refine I.step (g':=s.gens) (d':=s.drawn) (t':=t') (ch:=[e]) (fun b hb=>?_) (fun b o _ _ hc q _=>k b o (fun z=>hc (List.mem_singleton.mpr z)) q) (fun b o _ _ hc q _=>⟨o.slots,k b o (fun z=>hc (List.mem_singleton.mpr z)) q⟩) (fun b o _ _ n=>n)
  (fun b o hc q=>⟨o,k b o (fun z=>hc (List.mem_singleton.mpr z)) q⟩) (fun _ _ q=>q) (fun _ _ _ q=>q) (fun _ ps q=>⟨#[],by rw[Array.append_empty];exact q⟩) (fun m hm=>?_) (fun b ob q=>?_) I.bare
 ·rw[List.mem_singleton.mp hb]
  have x:=I.ok.exf e (List.mem_singleton.mpr rfl);exact⟨.inl (List.mem_singleton.mpr rfl),x.1,x.2,hp⟩
 ·obtain⟨o,es,ep,ho,r⟩:=hm
  exact⟨o,es,ep,k _ _ nl ho,r⟩
 ·refine(I.hok b ob q).stay (fun c u hc z=>k c u ?_ z) (fun _ q=>q) fun _ _ q=>q
  rintro rfl;rcases hc with rfl | hc
  ·rw[he] at q;cases q
  ·rw[he] at hc;cases hc
end
end L2
end
section
namespace L2
open PySem PySem.Spec PyProof.Rows
section
variable {X:Cx}
noncomputable def tNum (t:TE):TE:=fun σ H Q=>t σ H fun v H1=>∃i:Int,v=.int i/\i.natAbs.log2<1920/\Q (.str (toString i:String)) H1
theorem pj_num {e:Expr} {es:List Expr} {t:TE} {ts:List TE} {pos:Pos} (h:PE X e t) (hs:PJ X es ts):PJ X (.FormattedValue e (-1) none pos::es) (tNum t::ts):=fun out pins s σ H Q I w=>by
 refine joinParts_cons (FormattedValue_plain (thn (h pins s σ H _ I w) fun u s1 hI112=>?_));obtain⟨v,H1,I1,r,i,ev,hd,y,ey,hy,hz,q⟩:=hI112;subst ev;cases ey;obtain⟨t',rfl⟩:=r;exact formatField_int_small hd ⟨hz,hs (out++(toString i:String)) pins _ σ H1 Q (I1.tok _) q⟩
end
end L2
end
section
namespace L2
open PySem PySem.Spec PyProof.Rows
section
variable {X:Cx} {pins:List (Addr×Obj)} {σ:St} {H:Hp} {s:Shared} {e C C0:Addr} {o:Obj} {e1 e2:Expr} {t1 t2:TE} {B:Str}
variable {nm q:Str} {N:Addr} {bs bm:List Value} {hd:Bool} {sn:List Str} {sub:List Value} {ab:Bool} {col:Option Bool} {dd:Option Addr} {k0 k1 k2 k3 k5:Option Value}
theorem base_init {pB pA pc pe:Pos} {rest:List Stmt} {R:Flow->Shared->Prop} {fs:Array Value} {t0:Addr} {pl:Sem Bool} (I:Inv (X.over e) pins σ H s) (he:H e=none) (hp:∀p∈X.pn++pins,p.1≠e)
 (hx:s.heap.get? e=some o) (hc:o.cls=.ref C) (hdat:o.data=.fields fs) (hf:fs[0]?=some (.ref t0)) (hnl:e≠X.env.locals) (hnf:e∉X.fs)
 (lk:X.K.lookup C=some (excClassObj nm q C N bs bm hd sn sub ab col dd k0 k1 k2 k3 k5 "ValueError.__new__")) (tl:PySem.W.tailIn X.K bmV bm=true)
 (hB:Gl X B) (mB:X.mg B=some (.ref C0)) (hr:PySem.W.readsIn X.K C0 (.type "type")=true) (hfc:PySem.W.findCls X.K (.ref C0) (.type "type") "__init__" = some (.val (.builtin "ValueError.__init__")))
 (hg:PySem.W.specialIn X.K (.ref C0) "__getattribute__" = some (some (.builtin "type.__getattribute__"))) (h1:PE (X.over e) e1 t1) (h2:PE (X.over e) e2 t2) {z:Str}
 (w:t1 σ H fun x H1=>t2 σ H1 fun y H2=>[x,y]=[V.ref e,.str z]/\H2=H)
 (k:∀s',Inv (X.over e) pins σ H s'->(∃t1:Addr,s'.heap.get? e=some { o with data:=.fields (fs.setIfInBounds 0 (.ref t1)) })->wpAny (model X.prog X.w) X.A (execs rest X.env) R X.xe s')
 (hdb:(B == ("__debug__" : Str))=false:=by decide)
 (hs:starEach [e1,e2] X.env=(false,eval e1 X.env)::starEach [e2] X.env:=by rfl) (hs2:starEach [e2] X.env=(false,eval e2 X.env)::starEach [] X.env:=by rfl) (hpl:(backTo pc (starEach [e2] X.env)).any (·.1)=false:=by rfl)
 (hsw:swapsWith (.Call (.Attribute (.Name B pB) "__init__" pA) [e1,e2] [] pc) none pe.line X.env=pure false:=by rfl)
 (ht:eval (.Call (.Attribute (.Name B pB) "__init__" pA) [e1,e2] [] pc) X.env=(do
  let ov <-eval (.Name B pB) X.env
  standAt pA.atName
  let (f,first) <-holding [ov] (getMethod ov "__init__" pl)
  callWith pc f first (backTo pc (starEach [e1,e2] X.env)) (backToKw pc (keywordEach [] X.env))):=by rfl) :
 wpAny (model X.prog X.w) X.A (execs (.Expr (.Call (.Attribute (.Name B pB) "__init__" pA) [e1,e2] [] pc) pe::rest) X.env) R X.xe s:=by
 have IP:Inv (X.over e) ((e,o)::pins) σ H s:=I.pins_of fun p hpp=>by
  rcases List.mem_cons.mp hpp with rfl | m
  ·exact⟨hx,he,hnl,hnf,fun v z=>by rw[hdat] at z;cases z⟩
  ·exact I.pin p (List.mem_append_right _ m)
 refine wpAny_execs_cons (wpAny_Expr_any ?_ I.quiet hsw);refine PySem.W.methodCall_KW (pl:=pl) (ld_glob (X:=X.over e) I hB mB ?_ hdb) ht;refine PySem.W.method_cls I.kIn hg (PySem.W.cls_value I.kIn hr hfc (by decide +kernel) ?_);refine PyProof.Rows.callWith_builtin1 ?_ hs hpl;refine thn (zb9 (X:=X.over e) h1 (zb9 h2 zh1 hs2) hs pc ((e,o)::pins) _ σ H (fun vs H2=>vs=[V.ref e,.str z]/\H2=H) (IP.tok _) w) fun us s1 hI113=>?_
 obtain⟨vs,H2,I2,r,q1,q2⟩:=hI113;subst q1 q2;obtain⟨u1,u2,rfl,r1,r2⟩:=vals2 r;obtain rfl:u1=Value.ref e:=r1;obtain⟨tz,rfl⟩:=(show ∃t,u2=Value.str z t from r2);have hx2:s1.heap.get? e=some o:=(I2.pin (e,o) (List.mem_append_right _ (List.mem_cons_self))).1;obtain⟨h3,g3,d3,t3,os3⟩:=s1;refine wpAny_call (xi_init F.excBase_ValueError (PySem.W.tail_of_in I2.kIn tl) (I2.kIn _ _ lk) hx2 hc hdat hf (by show 1<=sizeLine;decide) ?_);have h4:=Heap.get?_push_of_some { cls:=.type "tuple",data:=.seq [Value.str z tz].toArray } hx2;have hd4:=Obj.data_mapFields hdat (·.setIfInBounds 0 (Value.ref h3.objs.size));have self:=Heap.get?_update_self (Obj.mapFields (·.setIfInBounds 0 (Value.ref h3.objs.size))) h4 (Obj.isFreed_of_fields hd4);refine k _ ((I2.pins_of fun p hpp=>I2.pin p (List.mem_append_right _ (List.mem_cons_of_mem _ hpp))).changed (t':=t3) he hp (fun b u hb q=>?_) ⟨_,self⟩) ⟨h3.objs.size,self.trans ?_⟩
 ·rw[Heap.get?_update_other _ _ (Ne.symm hb)]
  exact Heap.get?_push_of_some _ q
 ·obtain⟨oc,od,odt,osl⟩:=o
  dsimp only at hdat;subst hdat;rfl
end
end L2
end
section
namespace L2
open PySem PySem.Spec PyProof.Rows
section
variable {X:Cx} {pins:List (Addr×Obj)} {σ:St} {H:Hp} {s:Shared} {e C dx:Addr} {o:Obj} {i j:Nat} {x y name:Str} {v:V}
variable {nm q:Str} {N:Addr} {bs bm:List Value} {sn:List Str} {sub:List Value} {ab:Bool} {col:Option Bool} {dd:Option Addr} {k0 k1 k2 k3 k5:Option Value} {id1:String}
structure OwnD (X:Cx) (pins:List (Addr×Obj)) (H:Hp) (e dx:Addr):Prop where
 new:X.s₀.heap.objs.size<=dx
 loc:dx≠X.env.locals
 cel:∀x c,X.env.cells.lookup x=some c->c≠dx
 pin:∀p∈X.pn++pins,p.1≠dx
 fre:H dx=none
 ne:dx≠e
theorem store_first {px py pa pos:Pos} {rest:List Stmt} {R:Flow->Shared->Prop} {fs:Array Value} (I:Inv (X.over e) pins σ H s) (he:H e=none) (hp:∀p∈X.pn++pins,p.1≠e)
 (hx:s.heap.get? e=some o) (hc:o.cls=.ref C) (hdat:o.data=.fields fs) (hdn:o.dict=none)
 (lk:X.K.lookup C=some (excClassObj nm q C N bs bm true sn sub ab col dd k0 k1 k2 k3 k5 id1)) (L:ExcL X.K C) (hsa:PySem.W.findIn X.K (.ref C) "__setattr__" = some (some (.builtin "object.__setattr__")))
 (hn:PySem.W.findIn X.K (.ref C) name=some none) (hrf:refuseLoop (.ref e) "__setattr__" bm=pure ()) (hi:X.N[i]?=some x) (hj:X.N[j]?=some y) (vi:Vis X.env.scope x) (vj:Vis X.env.scope y) (si:σ[i]?=some (some (.ref e))) (sj:σ[j]?=some (some v))
 (k:∀s' dx u,RelV v u->Inv (X.over e) pins σ H s'->s'.heap.get? e=some { o with dict:=some dx }->s'.heap.Ns1 dx (fun z=>if z=name then some u else none)->OwnD X pins H e dx->wpAny (model X.prog X.w) X.A (execs rest X.env) R X.xe s')
 (d1:(x == ("__debug__" : Str))=false:=by decide) (d2:(x == ("__classdict__" : Str))=false:=by decide) (d3:(y == ("__debug__" : Str))=false:=by decide) (d4:(y == ("__classdict__" : Str))=false:=by decide)
 (hs:swapsWith (.Name y py) (some (.Attribute (.Name x px) name pa)) pos.line X.env=pure false:=by rfl) :
 wpAny (model X.prog X.w) X.A (execs (.Assign [.Attribute (.Name x px) name pa] (.Name y py) pos::rest) X.env) R X.xe s:=by
 have IP:Inv (X.over e) ((e,o)::pins) σ H s:=I.pins_of fun p hpp=>by
  rcases List.mem_cons.mp hpp with rfl | m
  ·have z:=I.ok.exf e (List.mem_singleton.mpr rfl)
   exact⟨hx,he,z.1,I.ok.exfs e (List.mem_singleton.mpr rfl),fun v z=>by rw[hdat] at z;cases z⟩
  ·exact I.pin p (List.mem_append_right _ m)
 refine wpAny_execs_cons (plainObj_wpAny_Assign_Attribute ?_ hs);refine thn (pe_var (X:=X.over e) hj vj d3 d4 ((e,o)::pins) s σ H (fun v' H'=>v'=v/\H'=H) IP ⟨v,sj,rfl,rfl⟩) fun u s1 hI114=>?_
 obtain⟨v1,H1,I1,r,q1,q2⟩:=hI114;subst q1 q2;refine thn (pe_var (X:=X.over e) hi vi d1 d2 ((e,o)::pins) s1 σ H1 (fun v' H'=>v'=.ref e/\H'=H1) I1 ⟨.ref e,si,rfl,rfl⟩) fun u2 s2 hI115=>?_
 obtain⟨v2,H2,I2,r2,q1,q2⟩:=hI115;subst q1 q2;obtain rfl:u2=Value.ref e:=r2;have hx2:s2.heap.get? e=some o:=(I2.pin (e,o) (List.mem_append_right _ (List.mem_cons_self))).1;have I3:Inv (X.over e) pins σ H2 s2:=I2.pins_of fun p hpp=>I2.pin p (List.mem_append_right _ (List.mem_cons_of_mem _ hpp))
 obtain⟨h3,g3,d3',t3,os3⟩:=s2;refine xs_attr L I3.kIn hsa hx2 hc fun A' E' tk t' T hT=>xs_first (I3.kIn _ _ lk) I3.kIn hn hrf hx2 hc hdat hdn fun h' tk' n1 self kp=>hT _ ?_
 have I4:=I3.changed (h':=h') (t':=tk') he hp kp ⟨_,self⟩;refine k _ h3.objs.size u r I4 self n1 ⟨I3.sz,Nat.ne_of_gt I3.lt,fun z c hcc=>?_,fun p hpp=>?_,I3.hok.fresh (Nat.le_refl _),Nat.ne_of_gt (Heap.lt_size hx2)⟩
 ·obtain⟨w',ow,how,_⟩:=I3.cell z c hcc
  exact Nat.ne_of_lt (Heap.lt_size how)
 ·exact Nat.ne_of_lt (Heap.lt_size (I3.pin p hpp).1)
end
end L2
end
section
namespace L2
open PySem PySem.Spec PyProof.Rows
section
variable {X:Cx} {pins:List (Addr×Obj)} {σ:St} {H:Hp} {s:Shared} {e C dx:Addr} {o:Obj} {i j:Nat} {x y name:Str} {v:V}
variable {nm q:Str} {N:Addr} {bs bm:List Value} {sn:List Str} {sub:List Value} {ab:Bool} {col:Option Bool} {dd:Option Addr} {k0 k1 k2 k3 k5:Option Value} {id1:String}
theorem Inv.nofs0 {oD:Obj} (I:Inv (X.over e) pins σ H s) (_h:s.heap.get? dx=some oD) (D:OwnD X pins H e dx):dx∉X.fs:=fun m=>by
 obtain⟨_,u,hu,_⟩:=I.ok.funs.mem m;exact absurd (Nat.lt_of_lt_of_le (Heap.lt_size hu) D.new) (Nat.lt_irrefl _)
theorem Inv.changedD {h':Heap} (I:Inv (X.over e) pins σ H s) (D:OwnD X pins H e dx) (k:∀b u,b≠dx->s.heap.get? b=some u->h'.get? b=some u) (th:∃u,h'.get? dx=some u) {t':Nat}:Inv (X.over e) pins σ H { s with heap:=h',toks:=t' }:=by
 refine I.step (g':=s.gens) (d':=s.drawn) (t':=t') (ch:=[dx]) (fun b hb=>?_) (fun b o _ _ hc q _=>k b o (fun z=>hc (List.mem_singleton.mpr z)) q) (fun b o _ _ hc q _=>⟨o.slots,k b o (fun z=>hc (List.mem_singleton.mpr z)) q⟩) (fun b o _ _ n=>n)
  (fun b o hc q=>⟨o,k b o (fun z=>hc (List.mem_singleton.mpr z)) q⟩) (fun _ _ q=>q) (fun _ _ _ q=>q) (fun _ ps q=>⟨#[],by rw[Array.append_empty];exact q⟩) (fun m hm=>?_) (fun b ob q=>?_) I.bare
 ·rw[List.mem_singleton.mp hb]
  exact⟨.inr D.new,D.loc,D.cel,D.pin⟩
 ·obtain⟨o,es,ep,ho,r⟩:=hm
  exact⟨o,es,ep,k _ _ (Ne.symm D.loc) ho,r⟩
 ·refine(I.hok b ob q).stay (fun c u hc z=>k c u ?_ z) (fun _ q=>q) fun _ _ q=>q
  rintro rfl;rcases hc with rfl | hc
  ·rw[D.fre] at q;cases q
  ·rw[D.fre] at hc;cases hc
theorem store_more {px py pa pos:Pos} {rest:List Stmt} {R:Flow->Shared->Prop} {fs:Array Value} {mA:Str->Option Value} {ns:List Str} (I:Inv (X.over e) pins σ H s) (he:H e=none)
 (hx:s.heap.get? e=some o) (hc:o.cls=.ref C) (hdat:o.data=.fields fs) (hdd:o.dict=some dx) (hm:s.heap.Ns1 dx mA) (hw:Within mA ns) (hsz:ns.length<=1000) (D:OwnD X pins H e dx)
 (lk:X.K.lookup C=some (excClassObj nm q C N bs bm true sn sub ab col dd k0 k1 k2 k3 k5 id1)) (L:ExcL X.K C) (hsa:PySem.W.findIn X.K (.ref C) "__setattr__" = some (some (.builtin "object.__setattr__")))
 (hn:PySem.W.findIn X.K (.ref C) name=some none) (hrf:refuseLoop (.ref e) "__setattr__" bm=pure ()) (hi:X.N[i]?=some x) (hj:X.N[j]?=some y) (vi:Vis X.env.scope x) (vj:Vis X.env.scope y) (si:σ[i]?=some (some (.ref e))) (sj:σ[j]?=some (some v))
 (k:∀s' u,RelV v u->Inv (X.over e) pins σ H s'->s'.heap.get? e=some o->s'.heap.Ns1 dx (fun z=>if z=name then some u else mA z)->wpAny (model X.prog X.w) X.A (execs rest X.env) R X.xe s')
 (d1:(x == ("__debug__" : Str))=false:=by decide) (d2:(x == ("__classdict__" : Str))=false:=by decide) (d3:(y == ("__debug__" : Str))=false:=by decide) (d4:(y == ("__classdict__" : Str))=false:=by decide)
 (hs:swapsWith (.Name y py) (some (.Attribute (.Name x px) name pa)) pos.line X.env=pure false:=by rfl) :
 wpAny (model X.prog X.w) X.A (execs (.Assign [.Attribute (.Name x px) name pa] (.Name y py) pos::rest) X.env) R X.xe s:=by
 obtain⟨oD,esD,epD,hoD,hdD,rD⟩:=id hm;have IP:Inv (X.over e) ((dx,oD)::(e,o)::pins) σ H s:=I.pins_of fun p hpp=>by
  rcases List.mem_cons.mp hpp with rfl | m
  ·exact⟨hoD,D.fre,D.loc,I.nofs0 hoD D,fun v z=>by rw[hdD] at z;cases z⟩
  ·rcases List.mem_cons.mp m with rfl | m
   ·have z:=I.ok.exf e (List.mem_singleton.mpr rfl)
    exact⟨hx,he,z.1,I.ok.exfs e (List.mem_singleton.mpr rfl),fun v z=>by rw[hdat] at z;cases z⟩
   ·exact I.pin p (List.mem_append_right _ m)
 refine wpAny_execs_cons (plainObj_wpAny_Assign_Attribute ?_ hs);refine thn (pe_var (X:=X.over e) hj vj d3 d4 _ s σ H (fun v' H'=>v'=v/\H'=H) IP ⟨v,sj,rfl,rfl⟩) fun u s1 hI116=>?_
 obtain⟨v1,H1,I1,r,q1,q2⟩:=hI116;subst q1 q2;refine thn (pe_var (X:=X.over e) hi vi d1 d2 _ s1 σ H1 (fun v' H'=>v'=.ref e/\H'=H1) I1 ⟨.ref e,si,rfl,rfl⟩) fun u2 s2 hI117=>?_
 obtain⟨v2,H2,I2,r2,q1,q2⟩:=hI117;subst q1 q2;obtain rfl:u2=Value.ref e:=r2;have hx2:s2.heap.get? e=some o:=(I2.pin (e,o) (List.mem_append_right _ (List.mem_cons_of_mem _ List.mem_cons_self))).1;have hm2:s2.heap.Ns1 dx mA:=⟨oD,esD,epD,(I2.pin (dx,oD) (List.mem_append_right _ List.mem_cons_self)).1,hdD,rD⟩;have I3:Inv (X.over e) pins σ H2 s2:=I2.pins_of fun p hpp=>I2.pin p (List.mem_append_right _ (List.mem_cons_of_mem _ (List.mem_cons_of_mem _ hpp)))
 obtain⟨h3,g3,d3',t3,os3⟩:=s2;refine xs_attr L I3.kIn hsa hx2 hc fun A' E' tk t' T hT=>xs_more (I3.kIn _ _ lk) I3.kIn hn hrf hx2 hc hdat hdd hm2 (fun h' tk' n1 same=>hT _ ?_) hw hsz
 obtain⟨o5,_,_,ho5,_⟩:=id n1;have I4:=I3.changedD (h':=h') (t':=tk') D (fun b u hb q=>(same.2 b hb).trans q) ⟨_,ho5⟩;exact k _ u r I4 ((same.2 e (Ne.symm D.ne)).trans hx2) n1
end
end L2
end
section
namespace L2
open PySem PySem.Spec PyProof.Rows
set_option tactic.hygienic true in
theorem fn_over {P:Program} {w:World} {K:PySem.W.Frag} {mg:Str->Option Value} {base:Heap} {k:Nat} {f e:Addr} {name qual:Str} {params:Arguments} {body:List Stmt} {scope:Scope} {dV kV doc pm cdv ct oc:Value} {an od:Option Addr}
 {osl:Array (Option Value)} {N ps:List Str} {A:Around} {outer:List Env} {s:Shared} {H:Hp} {args:Args} {us:List Value} {vs:List V} {R:Result->Shared->Prop} {oe:Obj} {fs:Array Value}
 (lk:K.lookup f=some ⟨oc,od,.func (PySem.W.fnOf name qual params body scope dV kV doc pm an cdv ct),osl⟩) (hcd:PySem.W.codeIn K cdv qual=true) (S:zc0 N ps scope)
 (hr:Room (k+1) A) (e0:Env0 P w K mg base A outer s H) (hb:BindsTo s (PySem.W.fnOf name qual params body scope dV kV doc pm an cdv ct) args (ps.zip us)) (r:Vals vs us) (hl:vs.length=ps.length)
 (hx:s.heap.get? e=some oe) (hd:oe.data=.fields fs) (hbe:base.get? e=none) (hfe:e∉frs outer)
 (run:∀s1,Inv ((cxOf CX0 P w K mg base N qual scope f cdv A outer s H E0).nox.over e) [] (start N vs) H s1->s1.heap.get? e=some oe->
  wpAny (model P w) (A.deeper (envOfC qual scope s.heap.objs.size f cdv)) (execs body (envOfC qual scope s.heap.objs.size f cdv)) (fun fl s'=>match fl with | .ret u=>R (.ok (.ret u)) s' | .next=>R (.ok (.ret .none)) s' | _=>False) (fun _ _=>False) s1) :
 codeAny (model P w) A (.call (.ref f) args) R s:=by
 have KX:K.In s.heap:=e0.mod.kin.keeps fun b o q=>(e0.bs b o q).1
 have lim:s.heap.NoLimit:=e0.mod.nolimit.keeps fun b o q=>(e0.bs b o q).1
 have kinds:∀y∈ps.zip us,scope.names.lookup y.1=some .local\/(scope.names.lookup y.1=some .cell/\((cellsFrom (s.heap.objs.size+1) scope.names []).lookup y.1).isSome=true):=fun hI43 hy=>by
  obtain⟨n,v⟩:=hI43;rcases S.par n (List.of_mem_zip hy).1 with z | z
  ·exact .inl z
  ·exact .inr ⟨z,PySem.W.cellsFrom_some _ _ _ (.inl z)⟩
 refine codeAny_call_function hr.depth (KX _ _ lk) rfl S.co S.gen rfl (PySem.W.codeRec_of KX hcd) (hb _ _ _ _ ?_);refine wpAny_newFunctionEnv_cells S.kind kinds fun env he s1 x=>?_
 subst he;refine⟨lim.keeps x.toInCall.keep,codeAny_func ?_⟩;have I:Inv (cxOf CX0 P w K mg base N qual scope f cdv A outer s H E0) [] (start N vs) H s1:=inv_start S hr.hd e0 hl r x;have hx1:=x.toInCall.keep _ _ hx;have es:e<s.heap.objs.size:=Heap.lt_size hx;have I2:Inv ((cxOf CX0 P w K mg base N qual scope f cdv A outer s H E0).nox.over e) [] (start N vs) H s1:=(I.wish fun _ _=>False).over rfl (Nat.ne_of_lt es) (fun z c hc=>?_) hbe hfe
 ·refine wpAny_mono (run s1 I2 hx1) (fun fl s' z=>?_) fun _ _ z=>False.elim z
  cases fl with
  | ret u=>exact z
  | next=>exact z
  | brk=>exact z.elim
  | cont=>exact z.elim
 ·have q:=I.ok.cab z c rfl hc
  exact Nat.ne_of_gt (Nat.lt_of_lt_of_le es q)
end L2
end
section
namespace L2
open PySem PySem.Spec PyProof.Rows
theorem init3 {P:Program} {w:World} {K:PySem.W.Frag} {mg:Str->Option Value} {base:Heap} {k:Nat} {f e C C0:Addr} {name qual:Str} {params:Arguments} {scope:Scope} {dV kV doc pm cdv ct oc:Value} {an od:Option Addr}
 {osl:Array (Option Value)} {A:Around} {outer:List Env} {s:Shared} {H:Hp} {args:Args} {us:List Value} {R:Result->Shared->Prop} {oe:Obj} {fs:Array Value} {t0:Addr} {a b:Int} {x1 x2:Str}
 {nm q:Str} {M:Addr} {bs bm:List Value} {sn:List Str} {sub:List Value} {ab:Bool} {col:Option Bool} {dd:Option Addr} {k0 k1 k2 k3 k5:Option Value}
 {pB pA pc pe p1 p2 p3 p4 p5 p6 p7 p8 q1 q2 q3 q4 r1 r2 r3 r4:Pos} {j1 j2:Nat}
 (lk:K.lookup f=some ⟨oc,od,.func (PySem.W.fnOf name qual params [.Expr (.Call (.Attribute (.Name "HallError" pB) "__init__" pA) [.Name "self" p1,.JoinedStr [.Constant (.str x1) j1 p2,.FormattedValue (.Name "push" p3) (-1) none p4,.Constant (.str x2) j2 p5,.FormattedValue (.Name "step" p6) (-1) none p7] pc] [] pe) q1,
  .Assign [.Attribute (.Name "self" q2) "push" q3] (.Name "push" q4) r1,.Assign [.Attribute (.Name "self" r2) "step" r3] (.Name "step" r4) p8] scope dV kV doc pm an cdv ct),osl⟩) (hcd:PySem.W.codeIn K cdv qual=true) (S:zc0 ["self","push","step"] ["self","push","step"] scope)
 (hr:Room (k+1) A) (e0:Env0 P w K mg base A outer s H)
 (hb:BindsTo s (PySem.W.fnOf name qual params [.Expr (.Call (.Attribute (.Name "HallError" pB) "__init__" pA) [.Name "self" p1,.JoinedStr [.Constant (.str x1) j1 p2,.FormattedValue (.Name "push" p3) (-1) none p4,.Constant (.str x2) j2 p5,.FormattedValue (.Name "step" p6) (-1) none p7] pc] [] pe) q1,
  .Assign [.Attribute (.Name "self" q2) "push" q3] (.Name "push" q4) r1,.Assign [.Attribute (.Name "self" r2) "step" r3] (.Name "step" r4) p8] scope dV kV doc pm an cdv ct) args ((["self","push","step"]:List Str).zip us)) (r:Vals [.ref e,.int a,.int b] us)
 (hx:s.heap.get? e=some oe) (hc:oe.cls=.ref C) (hd:oe.data=.fields fs) (hdn:oe.dict=none) (hf:fs[0]?=some (.ref t0)) (hbe:base.get? e=none) (hfe:e∉frs outer) (he:H e=none)
 (ha:a.natAbs.log2<1920) (hbb:b.natAbs.log2<1920) {z:Str}
 (hz:∀Q:VK,(z=z->Q (.str z) H)->tJ [tC (.str x1),tNum (tVar 1),tC (.str x2),tNum (tVar 2)] Str.empty (start ["self","push","step"] [.ref e,.int a,.int b]) H Q)
 (lC:K.lookup C=some (excClassObj nm q C M bs bm true sn sub ab col dd k0 k1 k2 k3 k5 "ValueError.__new__")) (tl:PySem.W.tailIn K bmV bm=true) (L:ExcL K C) (hsa:PySem.W.findIn K (.ref C) "__setattr__" = some (some (.builtin "object.__setattr__")))
 (n1:PySem.W.findIn K (.ref C) "push" = some none) (n2:PySem.W.findIn K (.ref C) "step" = some none) (hrf:refuseLoop (.ref e) "__setattr__" bm=pure ())
 (gB:scope.names.lookup ("HallError" : Str)=some .globalImplicit) (mB:mg "HallError" = some (.ref C0)) (hrd:PySem.W.readsIn K C0 (.type "type")=true) (hfc:PySem.W.findCls K (.ref C0) (.type "type") "__init__" = some (.val (.builtin "ValueError.__init__")))
 (hg:PySem.W.specialIn K (.ref C0) "__getattribute__" = some (some (.builtin "type.__getattribute__"))) (l0:scope.names.lookup ("self" : Str)=some .local) (l1:scope.names.lookup ("push" : Str)=some .local) (l2:scope.names.lookup ("step" : Str)=some .local)
 {pl:Sem Bool} (ht:eval (.Call (.Attribute (.Name "HallError" pB) "__init__" pA) [.Name "self" p1,.JoinedStr [.Constant (.str x1) j1 p2,.FormattedValue (.Name "push" p3) (-1) none p4,.Constant (.str x2) j2 p5,.FormattedValue (.Name "step" p6) (-1) none p7] pc] [] pe) (envOfC qual scope s.heap.objs.size f cdv)=(do
  let ov <-eval (.Name "HallError" pB) (envOfC qual scope s.heap.objs.size f cdv)
  standAt pA.atName
  let (g,first) <-holding [ov] (getMethod ov "__init__" pl)
  callWith pe g first (backTo pe (starEach [.Name "self" p1,.JoinedStr [.Constant (.str x1) j1 p2,.FormattedValue (.Name "push" p3) (-1) none p4,.Constant (.str x2) j2 p5,.FormattedValue (.Name "step" p6) (-1) none p7] pc] (envOfC qual scope s.heap.objs.size f cdv))) (backToKw pe (keywordEach [] (envOfC qual scope s.heap.objs.size f cdv)))))
 (done:∀s' dx u1 u2 (t1:Addr),s'.os=s.os->AllBare s'.gens->Un (frs outer) [e] H H s.heap s'.heap->HOk P w H s'.heap->s'.heap.get? e=some { oe with data:=.fields (fs.setIfInBounds 0 (.ref t1)),dict:=some dx }->
  s'.heap.Ns1 dx (fun y=>if y = "step" then some u2 else if y = "push" then some u1 else none)->RelV (.int a) u1->RelV (.int b) u2->H dx=none->s.heap.objs.size<=dx->R (.ok (.ret .none)) s') :
 codeAny (model P w) A (.call (.ref f) args) R s:=by
 refine fn_over lk hcd S hr e0 hb r rfl hx hd hbe hfe fun s1 I hx1=>?_
 have np:∀p∈([]:List (Addr×Obj))++[],p.1≠e:=fun p hp=>by cases hp
 refine base_init (X:=(cxOf CX0 P w K mg base ["self","push","step"] qual scope f cdv A outer s H E0).nox) I he np hx1 hc hd hf (Nat.ne_of_lt (Heap.lt_size hx)) hfe lC tl gB mB hrd hfc hg (pe_var (i:=0) rfl (.inl l0)) (pe_joined (pj_cons zn3 (pj_num (pe_var (i:=1) rfl (.inl l1)) (pj_cons zn3 (pj_num (pe_var (i:=2) rfl (.inl l2)) pj_nil))))) (z:=z) ⟨.ref e,rfl,hz _ fun _=>⟨rfl,rfl⟩⟩ ?_ (ht:=ht);intro s2 I2 ⟨t1,hx2⟩;refine store_first (X:=(cxOf CX0 P w K mg base ["self","push","step"] qual scope f cdv A outer s H E0).nox) (i:=0) (j:=1) (v:=.int a) I2 he np hx2 hc rfl hdn lC L hsa n1 hrf rfl rfl (.inl l0) (.inl l1) rfl rfl ?_;intro s3 dx u1 ru1 I3 hx3 m3 D;refine store_more (X:=(cxOf CX0 P w K mg base ["self","push","step"] qual scope f cdv A outer s H E0).nox) (i:=0) (j:=2) (v:=.int b) (ns:=["push"]) I3 he hx3 hc rfl rfl m3 (Within.cons "push" u1 Within.nil) (by decide) D lC L hsa n2 hrf rfl rfl (.inl l0) (.inl l2) rfl rfl ?_;intro s4 u2 ru2 I4 hx4 m4;exact wpAny_execs_nil (done s4 dx u1 u2 t1 I4.os I4.bare I4.base I4.hok hx4 m4 ru1 ru2 D.fre D.new)
end L2
end
section
namespace L2
open PySem PySem.Spec PyProof.Rows
noncomputable def XAt (h:Heap) (x:Addr) (C:Value) (od:Option Addr) (v:Value):Prop:=∃o vs,h.get? x=some o/\o.cls=C/\o.dict=od/\o.data=.fields vs/\vs[1]?=some v
noncomputable def EnAt (h:Heap) (T:Addr) (v:Value):Prop:=∃o vs,h.get? T=some o/\o.data=.fields vs/\vs[3]?=some v
structure Kp (fr:List Addr) (no:Addr->Prop) (h h':Heap):Prop where
 keep:∀b o,h.get? b=some o->b∉fr->¬no b->h'.get? b=some o
 slot:∀b o,h.get? b=some o->b∈fr->∃sl,h'.get? b=some { o with slots:=sl }
section
variable {fr:List Addr} {n1 n2:Addr->Prop} {h h1 h2:Heap}
theorem Kp.then (a:Kp fr n1 h h1) (b:Kp fr n2 h1 h2):Kp fr (fun c=>n1 c\/n2 c) h h2 where
 keep:=fun c o e hc hn=>b.keep c o (a.keep c o e hc fun z=>hn (.inl z)) hc fun z=>hn (.inr z)
 slot:=fun c o e hc=>by
  obtain⟨l1,e1⟩:=a.slot c o e hc;obtain⟨l2,e2⟩:=b.slot c _ e1 hc;exact⟨l2,e2⟩
theorem Kp.sub (a:Kp fr n1 h h1) (k:∀b o,h.get? b=some o->n1 b->n2 b):Kp fr n2 h h1:=⟨fun b o e hb hn=>a.keep b o e hb fun z=>hn (k b o e z),a.slot⟩
theorem kp_set {a:Addr} {o:Obj} {vs:Array Value} (i:Nat) (v:Value) (ho:h.get? a=some o) (hd:o.data=.fields vs) (nf:a∉fr) :
 Kp fr (fun b=>b=a) h (h.update a (Obj.mapFields (·.setIfInBounds i v)))/\(h.update a (Obj.mapFields (·.setIfInBounds i v))).get? a=some { o with data:=.fields (vs.setIfInBounds i v) }/\
  ∀b,b≠a->(h.update a (Obj.mapFields (·.setIfInBounds i v))).get? b=h.get? b:=by
 have ot:∀b,b≠a->(h.update a (Obj.mapFields (·.setIfInBounds i v))).get? b=h.get? b:=fun b hb=>Heap.get?_update_other _ _ (Ne.symm hb)
 refine⟨⟨fun b u e _ hn=>(ot b hn).trans e,fun b u e hb=>⟨u.slots,(ot b fun z=>nf (z▸hb)).trans e⟩⟩,?_,ot⟩;have q:=Heap.get?_update_self (Obj.mapFields (·.setIfInBounds i v)) ho (Obj.isFreed_of_fields (Obj.data_mapFields hd _));rw[q];obtain⟨oc,od,odt,osl⟩:=o;dsimp only at hd;subst hd;rfl
end
section
variable {M:Model} {A:Around} {E:Value->Shared->Prop} {s:Shared} {x T L:Addr} {C v fl:Value} {od:Option Addr} {env:Env} {outer:List Env} {base:Heap} {Q:Unit->Shared->Prop}
theorem flight_ok {fr:List Addr} (hx:XAt s.heap x C od (.ref T)) (hT:EnAt s.heap T fl) (ne:T≠x) (nf:T∉fr)
 (k:∀h',Kp fr (fun b=>b=T) s.heap h'->XAt h' x C od (.ref T)->EnAt h' T .none->Q () { s with heap:=h' }):wpAny M A (setFlight (.ref x) none) Q E s:=by
 obtain⟨o,vs,h1,h2,h3,h4,h5⟩:=hx;obtain⟨oT,ts,g1,g2,g3⟩:=hT;have sz:=(Array.getElem?_eq_some_iff.mp g3).1;unfold setFlight;refine wpAny_bind (wpAny_field h1 h4 h5 ?_);rw[if_pos (by simp)];refine wpAny_setField g1 g2 sz ?_;obtain⟨p1,p2,p3⟩:=kp_set (fr:=fr) 3 ((none:Option Addr).elim Value.none fun f=>rawInt f) g1 g2 nf;exact k _ p1 ⟨o,vs,(p3 x (Ne.symm ne)).trans h1,h2,h3,h4,h5⟩ ⟨_,_,p2,rfl,by simp[sz]⟩
theorem entry_ok {head:Value} {hn:Bool} (hfr:A.frames=some (env::outer)) (hl:s.heap.FunFrames base (env::outer)) (hf:env.frame=some L) (hx:XAt s.heap x C od v)
 (k:∀h' T',Kp (frs (env::outer)) (fun b=>b=x) s.heap h'->s.heap.get? T'=none->T'≠x->XAt h' x C od (.ref T')->EnAt h' T' (rawInt L)->Q () { s with heap:=h' }) :
 wpAny M A (do let a <-frameOf env;let pl <-entryPlaceOf L hn;let b <-EntryCells.newEntry head a .none (rawInt L) .none pl;setField (.ref x) 1 b) Q E s:=by
 obtain⟨o,vs,h1,h2,h3,h4,h5⟩:=hx;have xf:x∉frs (env::outer):=fun m=>by
  obtain⟨_,u,hu,hn⟩:=hl.mem m;rw[h1] at hu;cases hu;exact hn vs h4
 refine wpAny_bind (wpAny_frameOf_fun hfr hl hf fun g1 so=>wpAny_bind (wpAny_entryPlaceOf fun pl hpl=>?_));unfold EntryCells.newEntry newFields;refine wpAny_bind (wpAny_newObj_type ?_ (hpl.sizeOk5 _ _ _ _ _));have e1:g1.get? x=some o:=(so.2.1 x xf).trans h1;have e2:=Heap.get?_push_of_some (h:=g1) { cls:=.type "traceback",dict:=none,data:=.fields ([head,.ref L,.none,rawInt L,.none]++(if pl.isEmpty then List.replicate 6 Value.none else pl)).toArray } e1;have sz:=(Array.getElem?_eq_some_iff.mp h5).1;have nT:g1.objs.size≠x:=Nat.ne_of_gt (Heap.lt_size e1);refine wpAny_setField e2 h4 sz ?_;obtain⟨p1,p2,p3⟩:=kp_set (fr:=frs (env::outer)) 1 (.ref g1.objs.size) e2 h4 xf;have up:Kp (frs (env::outer)) (fun _=>False) s.heap (g1.push { cls:=.type "traceback",dict:=none,data:=.fields ([head,.ref L,.none,rawInt L,.none]++(if pl.isEmpty then List.replicate 6 Value.none else pl)).toArray }):=
  ⟨fun b u e hb _=>Heap.get?_push_of_some _ ((so.2.1 b hb).trans e),fun b u e _=>(so.2.2 b u e).imp fun sl z=>Heap.get?_push_of_some _ z⟩
 refine k _ g1.objs.size ((up.then p1).sub fun b u _ z=>z.elim False.elim id) ?_ nT ⟨_,_,p2,h2,h3,rfl,by simp[sz]⟩ ⟨_,_,(p3 _ nT).trans (Heap.get?_push_size g1 rfl),rfl,?_⟩
 ·cases q:s.heap.get? g1.objs.size with
  | none=>rfl
  | some u=>exact absurd (so.1▸Heap.lt_size q) (Nat.lt_irrefl _)
 ·rcases hpl with rfl | ⟨_,_,_,_,_,_,_,rfl⟩<;>simp
theorem note_ok (hfr:A.frames=some (env::outer)) (hl:s.heap.FunFrames base (env::outer)) (hf:env.frame=some L) (hx:XAt s.heap x C od v) (hv:v=.none\/∃T,v=.ref T/\T≠x/\EnAt s.heap T .none)
 (k:∀h' T',Kp (frs (env::outer)) (fun b=>b=x\/v=.ref b) s.heap h'->s.heap.get? T'=none->T'≠x->XAt h' x C od (.ref T')->EnAt h' T' (rawInt L)->Q () { s with heap:=h' }) :
 wpAny M A (noteFrame (.ref x) env) Q E s:=by
 obtain⟨o,vs,h1,h2,h3,h4,h5⟩:=id hx;unfold noteFrame;simp only[hf];refine wpAny_bind (wpAny_field h1 h4 h5 ?_);rcases hv with rfl | ⟨T,rfl,ne,oT,ts,g1,g2,g3⟩
 ·rw[if_neg (by decide)]
  exact entry_ok hfr hl hf hx fun h' T' a b c d e=>k h' T' (a.sub fun _ _ _ z=>.inl z) b c d e
 ·rw[if_pos (by simp)]
  refine wpAny_bind (wpAny_field g1 g2 g3 ?_);rw[if_neg (by simp[rawInt])];have tf:T∉frs (env::outer):=fun m=>by
   obtain⟨_,u,hu,hn⟩:=hl.mem m;rw[g1] at hu;cases hu;exact hn ts g2
  refine wpAny_bind (wpAny_setField g1 g2 (Array.getElem?_eq_some_iff.mp g3).1 ?_);obtain⟨p1,p2,p3⟩:=kp_set (fr:=frs (env::outer)) 3 Value.none g1 g2 tf;refine entry_ok hfr (hl.of_keeps fun b u e hn=>⟨u,(p3 b fun z=>?_).trans e,rfl⟩) hf ⟨o,vs,(p3 x (Ne.symm ne)).trans h1,h2,h3,h4,h5⟩ fun h' T' a b c d e=>k h' T' ((p1.then a).sub fun b u _ z=>?_) ?_ c d e
  ·subst z
   rw[g1] at e;cases e;exact hn ts g2
  ·exact z.elim (fun z=>.inr (z▸rfl)) .inl
  ·by_cases z:T'=T
   ·subst z
    rw[p2] at b;cases b
   ·rw[<-p3 T' z];exact b
theorem out_ok (hfr:A.frames=some (env::outer)) (hl:s.heap.FunFrames base (env::outer)) (hf:env.frame=some L) (hx:XAt s.heap x C od v) (hv:v=.none\/∃T,v=.ref T/\T≠x/\EnAt s.heap T .none)
 (k:∀h' T',Kp (frs (env::outer)) (fun b=>b=x\/v=.ref b) s.heap h'->s.heap.get? T'=none->T'≠x->XAt h' x C od (.ref T')->EnAt h' T' .none->Q () { s with heap:=h' }) :
 wpAny M A (noteFrame (.ref x) env) (fun _ s2=>wpAny M A (setFlight (.ref x) none) Q E s2) E s:=by
 refine note_ok hfr hl hf hx hv fun h1 T' a b c d e=>?_
 have tf:T'∉frs (env::outer):=fun m=>by
  obtain⟨_,u,hu,_⟩:=hl.mem m;rw[b] at hu;cases hu
 refine flight_ok (fr:=frs (env::outer)) d e c tf fun h2 a2 d2 e2=>k h2 T' ((a.then a2).sub fun b' u q z=>z.elim id fun z=>?_) b c d2 e2
 subst z;rw[b] at q;cases q
end
end L2
end
section
namespace L2
open PySem PySem.Spec PyProof.Rows
noncomputable def CX2 (P:Program) (w:World):CXT:=fun outer H s E e s'=>
 ∃(x T:Addr) (C:Value) (od:Option Addr) (H':Hp),e=.ref x/\s'.os=s.os/\AllBare s'.gens/\Un (frs outer) [] H H' s.heap s'.heap/\HOk P w H' s'.heap/\
  XAt s'.heap x C od (.ref T)/\EnAt s'.heap T .none/\T≠x/\(s.heap.get? x=none/\s.heap.get? T=none)/\(H' x=none/\H' T=none)/\E C od H'
section
variable {P:Program} {w:World} {fs:List Addr} {H H':Hp} {h h1 h2:Heap} {no:Addr->Prop}
theorem Un.kp (u:Un fs [] H H' h h1) (k:Kp fs no h1 h2) (hn:∀b o,h.get? b=some o->¬no b):Un fs [] H H' h h2 where
 keep:=fun b o e n hb hx=>k.keep b o (u.keep b o e n hb hx) hb (hn b o e)
 slot:=fun b o e n hb hx=>by
  obtain⟨l1,e1⟩:=u.slot b o e n hb hx;obtain⟨l2,e2⟩:=k.slot b _ e1 hb;exact⟨l2,e2⟩
 free:=u.free
 there:=fun b o e hx=>by
  obtain⟨o',e1⟩:=u.there b o e hx;by_cases hb:b∈fs
  ·obtain⟨l,e2⟩:=k.slot b _ e1 hb
   exact⟨_,e2⟩
  ·exact⟨o',k.keep b o' e1 hb (hn b o e)⟩
 tups:=u.tups
 frzs:=u.frzs
 tbls:=u.tbls
theorem HOk.kp (ok:HOk P w H h1) (k:Kp fs no h1 h2) (hn:∀b,no b->H b=none) (hf:∀b∈fs,H b=none):HOk P w H h2:=fun a o q=>(ok a o q).stay (fun b u hb z=>by
 have live:H b≠none:=by
  rcases hb with rfl | hb
  ·rw[q];simp
  ·rw[hb];simp
 exact k.keep b u z (fun m=>live (hf b m)) fun m=>live (hn b m)) (fun _ q=>q) fun _ _ q=>q
theorem HOk.untracked (ok:HOk P w H h) {b:Addr} (e:h.get? b=none):H b=none:=by
 cases q:H b with
 | none=>rfl
 | some u=>
   obtain⟨o,z⟩:=(ok b u q).has;rw[e] at z;cases z
end
section
variable {X:Cx} {pins:List (Addr×Obj)} {σ:St} {H:Hp} {s:Shared}
theorem Inv.new0 (I:Inv X pins σ H s) (hex:X.ex=[]) {b:Addr} (e:s.heap.get? b=none):X.s₀.heap.get? b=none:=by
 cases q:X.s₀.heap.get? b with
 | none=>rfl
 | some o=>
   obtain⟨o',z⟩:=I.base.there b o q (by rw[hex];simp);rw[e] at z;cases z
theorem leave2 {M:Model} {E':Value->Shared->Prop} {E:XK} {x:Addr} {C v:Value} {od:Option Addr} (I:Inv X pins σ H s) (hst:X.stack=X.env::X.outer) (hfr:X.env.frame=some X.env.locals) (hex:X.ex=[])
 (hx:XAt s.heap x C od v) (hv:v=.none\/∃T,v=.ref T/\T≠x/\EnAt s.heap T .none) (nx:X.s₀.heap.get? x=none) (fx:H x=none) (nT:∀T,v=.ref T->X.s₀.heap.get? T=none/\H T=none) (hE:E C od H) :
 wpAny M X.A (leaving X.env (.ref x)) (fun _ s'=>CX2 X.prog X.w X.outer X.H₀ X.s₀ E (.ref x) s') E' s:=by
 have fs:∀b,b∈frs X.stack↔b=X.env.locals\/b∈X.fs:=fun b=>by
  rw[hst];unfold Cx.fs frs;rw[List.filterMap_cons,hfr];exact List.mem_cons
 unfold leaving;refine wpAny_bind (out_ok (by rw[I.ok.frames,hst]) (by rw[<-hst];exact I.stack) hfr hx hv fun h' T' kp n1 ne hx' hT'=>?_);rw[<-hst] at kp;have neL:∀b o,X.s₀.heap.get? b=some o->b≠X.env.locals:=fun b o e=>Nat.ne_of_lt (Nat.lt_of_lt_of_le (Heap.lt_size e) I.ok.above)
 have out:∀b o,X.s₀.heap.get? b=some o->¬(b=x\/v=.ref b):=fun b o e z=>by
  rcases z with rfl | z
  ·rw[nx] at e;cases e
  ·rw[(nT b z).1] at e;cases e
 have kp2:Kp X.fs (fun b=>(b=x\/v=.ref b)\/b=X.env.locals) s.heap h':=⟨fun b o e hb hn=>kp.keep b o e (fun m=>((fs b).mp m).elim (fun z=>hn (.inr z)) hb) fun z=>hn (.inl z),fun b o e hb=>kp.slot b o e ((fs b).mpr (.inr hb))⟩;have un:Un X.fs [] X.H₀ H X.s₀.heap h':=by
  have b:=I.base;rw[hex] at b;exact b.kp kp2 fun b o e z=>z.elim (out b o e) (neL b o e)
 have dead:∀b,(b=x\/v=.ref b)->H b=none:=fun b z=>by
  rcases z with rfl | z
  ·exact fx
  ·exact(nT b z).2
 exact⟨x,T',C,od,H,rfl,I.os,I.bare,un,I.hok.kp kp dead I.stkFree,hx',hT',ne,⟨nx,I.new0 hex n1⟩,⟨fx,I.hok.untracked n1⟩,hE⟩
theorem caught2 {M:Model} {E2:Value->Shared->Prop} {Q:Flow->Shared->Prop} {E:XK} {e:Value} {s':Shared} {hs:List ExceptHandler} (I:Inv X pins σ H s) (hst:X.stack=X.env::X.outer) (hfr:X.env.frame=some X.env.locals)
 (c:CX2 X.prog X.w X.stack H s E e s')
 (k:∀(x T:Addr) (C:Value) (od:Option Addr) (H':Hp) (h3:Heap),e=.ref x->E C od H'->XAt h3 x C od (.ref T)->EnAt h3 T .none->T≠x->T∉frs X.stack->H' x=none->Inv X pins σ H' { s' with heap:=h3 }->
  (∀h4,Kp (frs X.stack) (fun b=>b=T) h3 h4->Inv X pins σ H' { s' with heap:=h4 })->wpAny M X.A (handleBy (.ref x) X.env hs) Q E2 { s' with heap:=h3 }) :
 wpAny M X.A (noteFrame e X.env) (fun _ s2=>wpAny M X.A (setFlight e none) (fun _ s3=>wpAny M X.A (handleBy e X.env hs) Q E2 s3) E2 s2) E2 s':=by
 obtain⟨x,T,C,od,H',rfl,os,bare,un,hok,hx,hT,ne,⟨nx,nT⟩,⟨fx,fT⟩,hE⟩:=c;have I0:Inv X pins σ H' s':=I.call' os un hok bare (ch:=[]) fun b z=>absurd z (by simp)
 refine out_ok (by rw[I.ok.frames,hst]) (by rw[<-hst];exact I0.stack) hfr hx (.inr ⟨T,rfl,ne,hT⟩) fun h3 T' kp n1 ne' hx' hT'=>?_
 rw[<-hst] at kp;have nT':s.heap.get? T'=none:=by
  cases q:s.heap.get? T' with
  | none=>rfl
  | some o=>
    obtain⟨o',z⟩:=un.there T' o q (by simp);rw[n1] at z;cases z
 have dead:∀b,(b=x\/Value.ref T=.ref b)->H' b=none:=fun b z=>by
  rcases z with rfl | z
  ·exact fx
  ·cases z;exact fT
 have old:∀b o,s.heap.get? b=some o->¬(b=x\/Value.ref T=.ref b):=fun b o e z=>by
  rcases z with rfl | z
  ·rw[nx] at e;cases e
  ·cases z;rw[nT] at e;cases e
 have fr:∀b∈frs X.stack,H' b=none:=I0.stkFree;have un3:=un.kp kp old;have hok3:=hok.kp kp dead fr;have tf:T'∉frs X.stack:=fun m=>by
  obtain⟨_,u,hu,_⟩:=I0.stack.mem m;rw[n1] at hu;cases hu
 refine k x T' C od H' h3 rfl hE hx' hT' ne' tf fx ?_ fun h4 k4=>?_
 ·exact I.call' (s':={ s' with heap:=h3 }) os un3 hok3 bare (ch:=[]) fun b z=>absurd z (by simp)
 ·exact I.call' (s':={ s' with heap:=h4 }) os (un3.kp k4 fun b o e z=>by subst z;rw[nT'] at e;cases e) (hok3.kp k4 (fun b z=>by subst z;exact hok.untracked n1) fr) bare (ch:=[]) fun b z=>absurd z (by simp)
end
end L2
end
section
namespace L2
open PySem PySem.Spec PyProof.Rows
section
variable {P:Program} {w:World} {H:Hp} {h:Heap} {a:Addr} {o:HO}
theorem HOk.track (ok:HOk P w H h) (n:H a=none) (new:ObjOk P w (upd H a o) h a o):HOk P w (upd H a o) h:=fun b u e=>by
 by_cases hb:b=a
 ·subst hb;rw[zb4] at e;cases e;exact new
 ·rw[za9 hb] at e
  refine(ok b u e).stay (fun c v _ q=>q) (fun c q=>?_) fun c xs q=>?_<;>(rw[za9 (zb0 q n)];exact q)
set_option tactic.hygienic true in
theorem ns_has {K:PySem.W.Frag} {N:Addr} {m:Str->Option Value} {n:Str} {v:Value} (X:K.In h) (G:h.Ns N m) (q:PySem.W.nsIn K N n=some (some v)):m n=some v:=by
 obtain⟨ob,es,ep,ho,hd,_,look⟩:=G;unfold PySem.W.nsIn at q;split at q
 ·rename_i lk
  have same:=(X _ _ lk).symm.trans ho;cases same;cases hd;split at q
  ·rename_i en found
   cases q;refine(look n).symm.trans ?_;show ((_:Array DictEntry).find? _).map _=_;rw[<-Array.find?_toList];exact congrArg _ found
  ·split at q<;>cases q
 ·cases q
end
section
variable {X:Cx} {CX:CXT} {k:Nat} {f:Addr} {fd:FuncData} {ps:List Str} {sp:Sp} {E:XK} {x:Str} {p pos:Pos} {e:Expr} {es:List Expr} {t:TA} {pins:List (Addr×Obj)} {σ:St} {H:Hp} {s:Shared}
set_option tactic.hygienic true in
theorem callv {Q:VK} {i:Nat} (F:FnOk X.prog X.w X.K X.mg X.base CX k f fd ps sp) (hr:Room k X.A) (hv:PE X (.Name x p) (tVar i)) (hi:σ[i]?=some (some (.ref f))) (hk:PySem.W.keepIn X.K (.ref f)=true) (hb:Binds X.K fd ps [])
 (ha:PA X (e::es) t) (I:Inv X pins σ H s) (h:t σ H fun vs H1=>sp vs H1 Q E) (hno:∀e s',¬X.xe e s') (he:starEach (e::es) X.env=(false,eval e X.env)::starEach es X.env:=by rfl)
 (hpl:(backTo pos (starEach es X.env)).any (·.1)=false:=by rfl) :
 wpAny (model X.prog X.w) X.A (eval (.Call (.Name x p) (e::es) [] pos) X.env) (EP X pins σ Q) (fun e s'=>∃H1 s1,Inv X pins σ H1 s1/\CX X.stack H1 s1 E e s') s:=by
 refine wpAny_Call_Name_kw (wpAny_mono (hv pins s σ H (fun v H'=>v=.ref f/\H'=H) I ⟨.ref f,hi,rfl,rfl⟩) (fun u0 s0 hI118=>?_) fun e s1 z=>(hno e s1 z).elim);obtain⟨v0,H0,I0,r0,q1,q2⟩:=hI118;subst q1 q2;obtain rfl:u0=Value.ref f:=r0;refine PySem.W.callWith_K (h₀:=X.base) I.ok.mod.kin hk (wpAny_mono (ha pos pins s0 σ H0 _ I0 h) (fun us s1 ⟨vs,H1,I1,r,q⟩=>⟨I1.kIn,?_⟩) fun e s1 z=>(hno e s1 z).elim) he hpl;have hl:us.length=ps.length:=by rw[<-r.length];exact F.len _ _ _ _ q
 have bt:=hb s1 us I1.kIn (by rw[List.append_nil];exact hl);rw[List.append_nil] at bt;refine wpAny_call (codeAny_mono (F.run X.A X.stack s1 H1 ⟨us,[]⟩ us vs Q E hr I1.env0 bt r q) fun r2 s2 hq=>?_);cases r2 with
 | error e=>exact⟨H1,s1,I1,hq⟩
 | ok fl=>
   cases fl with
   | ret u=>exact I1.after hq
   | next=>exact False.elim hq
   | brk=>exact False.elim hq
   | cont=>exact False.elim hq
set_option tactic.hygienic true in
theorem try2 {Q:VK} {R:Flow->Shared->Prop} {ia ic inn:Nat} {a c n b:Str} {C1 C0:Addr} {bm bm0:List Value} {call:Expr} {pa pc pn pb p1 p2 p3 p4:Pos} {rest:List Stmt} (I:Inv X pins σ H s)
 (hcall:wpAny (model X.prog X.w) X.A (eval call X.env) (EP X pins σ Q) (fun e s'=>∃H1 s1,Inv X pins σ H1 s1/\CX2 X.prog X.w X.stack H1 s1 E e s') s) (hst:X.stack=X.env::X.outer) (hfr:X.env.frame=some X.env.locals)
 (hN:X.N.Nodup) (ja:X.N[ia]?=some a) (jc:X.N[ic]?=some c) (jn:X.N[inn]?=some n) (la:X.env.kindOf a=some .local) (lc:X.env.kindOf c=some .local) (ln:X.env.kindOf n=some .local)
 (gb:Gl X b) (mb:X.mg b=some (.ref C0)) (k1:ExcK X.K C1 bm) (k0:ExcK X.K C0 bm0) (hbe:(Value.ref C0::bm0).contains (.type "BaseException")=true) (hin:(Value.ref C1::bm).contains (.ref C0)=true)
 (hE:∀C od H',E C od H'->C=.ref C1)
 (ok:∀v H' s',Inv X pins (σ.set ia (some v)) H' s'->Q v H'->wpAny (model X.prog X.w) X.A (execs rest X.env) R X.xe s')
 (ex:∀(y:Addr) (oe:Obj) H' s',Inv X ((y,oe)::pins) (((σ.set inn (some (.ref y))).set ic (some (.ref y))).set inn none) H' s'->oe.cls=.ref C1->(∃vs,oe.data=.fields vs)->E (.ref C1) oe.dict H'->wpAny (model X.prog X.w) X.A (execs rest X.env) R X.xe s')
 (hdn:(b == ("__debug__" : Str))=false:=by decide) (hdv:(n == ("__debug__" : Str))=false:=by decide) (hcv:(n == ("__classdict__" : Str))=false:=by decide)
 (hs:swapsWith call (some (.Name a pa)) p1.line X.env=pure false:=by rfl) (hs2:swapsWith (.Name n pn) (some (.Name c pc)) p2.line X.env=pure false:=by rfl) :
 wpAny (model X.prog X.w) X.A (execs (.Try [.Assign [.Name a pa] call p1] [.ExceptHandler (some (.Name b pb)) (some n) [.Assign [.Name c pc] (.Name n pn) p2] p3] [] [] p4::rest) X.env) R X.xe s:=by
 refine wpAny_execs_cons (wpAny_Try_except (wpAny_execs_cons (wpAny_Assign_Name (wpAny_mono hcall (fun v s1 hI120=>?_) fun e s1 hI119=>?_) hs)))
 ·obtain⟨y,H1,I1,r1,q1⟩:=hI120
  refine store_ok I1 hN ja (.inl la) r1 (fun s2 I2=>?_) (.inr la);exact wpAny_execs_nil (wpAny_execs_nil (ok y H1 s2 I2 q1))
 ·obtain⟨H1,s0,I1,c1⟩:=hI119
  refine caught2 I1 hst hfr c1 fun y T C od H' h3 hy hEC hx hT ne tf fy I3 back=>?_
  obtain rfl:=hE _ _ _ hEC;obtain⟨oe,vs,hoe,hoc,hod,hdat,hv1⟩:=id hx;obtain⟨nm,q,N,bs,hd,sn,sub,ab,col,dd,c0,c1,c2,c3,c5,id1,hC1⟩:=k1;obtain⟨nm',q',N',bs',hd',sn',sub',ab',col',dd',d0,d1,d2,d3,d5,id0,hC0⟩:=k0;refine wpAny_handleBy_cons (codeAny_handlers_test (ld_glob (X:=X.mark (.ref y)) (I3.mark _) gb mb ?_ hdn)) (by intro q;cases q);refine matches_up (I3.kIn _ _ hC1) (I3.kIn _ _ hC0) hoe hoc hbe hin (codeAny_handlers_suite_as ?_);refine flight_ok (fr:=frs X.stack) hx hT ne tf fun h4 k4 hx4 hT4=>?_
  have I4:Inv X pins σ H' { s1 with heap:=h4 }:=back h4 k4;obtain⟨oe4,vs4,hoe4,hoc4,hod4,hdat4,_⟩:=hx4;have I5:Inv X ((y,oe4)::pins) σ H' { s1 with heap:=h4 }:=I4.pinE (p:=(y,oe4)) hoe4 fy ⟨vs4,hdat4⟩ hst hfr;refine store_ok I5 hN jn (.inl ln) (v:=.ref y) rfl (fun s5 I6=>?_) (.inr ln);have hin':inn<σ.length:=by rw[I.len];exact(List.getElem?_eq_some_iff.mp jn).1
  have I7:Inv (X.mark (.ref y)) ((y,oe4)::pins) (σ.set inn (some (.ref y))) H' s5:=I6.mark _;have run:=zm1 (zn2 (X:=X.mark (.ref y)) (pos:=p2) (pos':=pc) hN jc (.inl lc) (pe_var (pos:=pn) jn (.inl ln) hdv hcv) hs2 (.inr lc)) ((y,oe4)::pins) s5 (σ.set inn (some (.ref y))) H'
   { nx:=fun σ2 H2=>σ2=(σ.set inn (some (.ref y))).set ic (some (.ref y))/\H2=H',rt:=fun _ _=>False } I7 ⟨.ref y,List.getElem?_set_self hin',rfl,rfl⟩
  refine wpAny_mono run (fun fl6 s6 z=>?_) fun _ _ z=>False.elim z
  cases fl6 with
  | next=>
    obtain⟨σ6,H6,I8,rfl,rfl⟩:=z;exact unbind_ok (I8.unmark I.ok) hN jn ln fun s7 I9=>ex y oe4 H6 s7 I9 hoc4 ⟨vs4,hdat4⟩ (hod4▸hEC)
  | ret u=>obtain⟨_,_,_,_,_,z⟩:=z;exact z.elim
  | brk=>obtain⟨_,_,_,z⟩:=z;exact z.elim
  | cont=>obtain⟨_,_,_,z⟩:=z;exact z.elim
end
end L2
end
section
namespace L2
open PySem PySem.Spec PyProof.Rows
noncomputable def InitB (K:PySem.W.Frag) (mg:Str->Option Value) (C f:Addr) (fd:FuncData):Prop:=
 ∀(P:Program) (w:World) (base:Heap) (k:Nat) (A:Around) (outer:List Env) (s:Shared) (H:Hp) (args:Args) (us:List Value) (R:Result->Shared->Prop) (oe:Obj) (fs:Array Value) (t0 e:Addr) (a b:Int),
  Room (k+1) A->Env0 P w K mg base A outer s H->BindsTo s fd args ((["self","push","step"]:List Str).zip us)->Vals [.ref e,.int a,.int b] us->
  s.heap.get? e=some oe->oe.cls=.ref C->oe.data=.fields fs->oe.dict=none->fs[0]?=some (.ref t0)->base.get? e=none->e∉frs outer->H e=none->a.natAbs.log2<1920->b.natAbs.log2<1920->
  (∀s' dx u1 u2 (t1:Addr),s'.os=s.os->AllBare s'.gens->Un (frs outer) [e] H H s.heap s'.heap->HOk P w H s'.heap->s'.heap.get? e=some { oe with data:=.fields (fs.setIfInBounds 0 (.ref t1)),dict:=some dx }->
   s'.heap.Ns1 dx (fun y=>if y = "step" then some u2 else if y = "push" then some u1 else none)->RelV (.int a) u1->RelV (.int b) u2->H dx=none->s.heap.objs.size<=dx->R (.ok (.ret .none)) s')->
  codeAny (model P w) A (.call (.ref f) args) R s
structure BarR (K:PySem.W.Frag) (mg:Str->Option Value) (C:Addr):Prop where
 ex:∃(nm q:Str) (N:Addr) (bs bm:List Value) (sn:List Str) (sub:List Value) (ab:Bool) (col:Option Bool) (dd:Option Addr) (k0 k1 k2 k3 k5:Option Value) (f:Addr) (fd:FuncData) (of:Obj),
  K.lookup C=some (excClassObj nm q C N bs bm true sn sub ab col dd k0 k1 k2 k3 k5 "ValueError.__new__")/\PySem.W.nsOkIn K N=true/\PySem.W.nsIn K N "__init__" = some (some (.ref f))/\PySem.W.tailIn K bmV bm=true/\
   bm.contains (.type "BaseException")=true/\Binds K fd ["self","push","step"] []/\K.lookup f=some of/\of.cls=.type "function"/\InitB K mg C f fd
 keep:PySem.W.keepIn K (.ref C)=true
noncomputable abbrev xdB (a b:Int):HO:=.xd [("step",.int b),("push",.int a)]
section
variable {X:Cx} {C:Addr} {k:Nat} {pins:List (Addr×Obj)} {σ:St} {H:Hp} {s:Shared}
theorem make_bar {a b:Int} {us:List Value} {Q:Value->Shared->Prop} (B:BarR X.K X.mg C) (hr:Room (k+2) X.A) (I:Inv X pins σ H s) (r:Vals [.int a,.int b] us) (ha:a.natAbs.log2<1920) (hb:b.natAbs.log2<1920)
 (q:∀s' x dx oe vs,Inv X pins σ (upd H dx (xdB a b)) s'->s'.heap.get? x=some oe->oe.cls=.ref C->oe.dict=some dx->oe.data=.fields vs->vs[1]?=some .none->s.heap.get? x=none->upd H dx (xdB a b) x=none->H dx=none->Q (.ref x) s') :
 wpAny (model X.prog X.w) X.A (call (.ref C) us) Q X.xe s:=by
 obtain⟨nm,qn,N,bs,bm,sn,sub,ab,col,dd,k0,k1,k2,k3,k5,f,fd,of,lk,ok,ni,tl,hbe,bi,lf,hfc,ib⟩:=B.ex;obtain⟨h,g,d,t,os⟩:=s;have hl:us.length=2:=r.length.symm;have nsB:X.base.Ns N (X.base.nsMap N):=.of_isNs (PySem.W.isNs_of_in I.mod.kin ok);refine call_own F.excBase_ValueError (PySem.W.tail_of_in I.kIn tl) (I.kIn _ _ lk) (nsB.keeps I.bk) (ns_has I.mod.kin nsB ni) (by rw[hl];decide) (I.kIn _ _ lf) hfc ?_;have kp:∀b o,h.get? b=some o->(newExc h C us).get? b=some o:=fun b o e=>Heap.get?_push_of_some _ (Heap.get?_push_of_some _ e)
 have I1:Inv X pins σ H ⟨newExc h C us,g,d,t,os⟩:=I.kept (t':=t) kp;have big:∀b o,h.get? b=some o->b<h.objs.size+1:=fun b o e=>Nat.lt_succ_of_lt (Heap.lt_size e)
 have newx:h.get? (h.objs.size+1)=none:=by
  cases z:h.get? (h.objs.size+1) with
  | none=>rfl
  | some o=>exact absurd (big _ _ z) (Nat.lt_irrefl _)
 have he:(newExc h C us).get? (h.objs.size+1)=some { cls:=.ref C,data:=.fields #[.ref h.objs.size,.none,.none,.none,.bool false,.none] }:=by heap_get
 have fx:H (h.objs.size+1)=none:=I.hok.fresh (Nat.le_succ _);have bt:=bi ⟨newExc h C us,g,d,t,os⟩ (.ref (h.objs.size+1)::us) I1.kIn (by rw[List.append_nil,List.length_cons,hl];rfl);rw[List.append_nil] at bt;refine ib X.prog X.w X.base k _ X.stack ⟨newExc h C us,g,d,t,os⟩ H _ _ _ _ _ h.objs.size (h.objs.size+1) a b (hr.make C us []) (I1.env0.make C us []) bt (.cons rfl r) he rfl rfl rfl rfl ?_ ?_ fx ha hb ?_
 ·cases z:X.base.get? (h.objs.size+1) with
  | none=>rfl
  | some o=>have:=I.bk _ _ z;rw[newx] at this;cases this
 ·intro m
  obtain⟨_,o,z,_⟩:=I.stack.mem m;rw[newx] at z;cases z
 ·intro s' dx u1 u2 t1 hos bare un hok he' ns r1 r2 fdx nd
  have lt:∀b o,h.get? b=some o->b≠dx:=fun b o e z=>by
   subst z;exact absurd (Nat.lt_of_lt_of_le (Heap.lt_size (kp _ _ e)) nd) (Nat.lt_irrefl _)
  have nx:∀b o,h.get? b=some o->b∉[h.objs.size+1]:=fun b o e z=>by
   rw[List.mem_singleton] at z;subst z;rw[newx] at e;cases e
  have un':Un (frs X.stack) [] H (upd H dx (xdB a b)) h s'.heap:={
   keep:=fun c o e n hc _=>un.keep c o (kp c o e) n hc (nx c o e)
   slot:=fun c o e n hc _=>un.slot c o (kp c o e) n hc (nx c o e)
   free:=fun c o e n _=>by rw[za9 (lt c o e)];exact un.free c o (kp c o e) n (nx c o e)
   there:=fun c o e _=>un.there c o (kp c o e) (nx c o e)
   tups:=fun c xs z=>by rw[za9 (zb0 z fdx)];exact un.tups c xs z
   frzs:=fun c o u z=>by rw[za9 (zb0 z fdx)];exact un.frzs c o u z
   tbls:=fun c ps z=>by rw[za9 (zb0 z fdx)];exact un.tbls c ps z }
  have hok':HOk X.prog X.w (upd H dx (xdB a b)) s'.heap:=hok.track fdx ⟨_,ns,fun y=>by
   by_cases y1:y = "step"
   ·subst y1
    exact r2
   ·by_cases y2:y = "push"
    ·subst y2
     exact r1
    ·have z1:(y == ("step" : Str))=false:=beq_eq_false_iff_ne.mpr y1
     have z2:(y == ("push" : Str))=false:=beq_eq_false_iff_ne.mpr y2;simp only[List.lookup,z1,z2,if_neg y1,if_neg y2];trivial⟩
  have I2:Inv X pins σ (upd H dx (xdB a b)) s':=I.call' hos un' hok' bare (ch:=[]) fun b z=>absurd z (by simp)
  have nex:h.objs.size+1≠dx:=fun z=>by
   have:=Heap.lt_size he;rw[z] at this;exact absurd (Nat.lt_of_lt_of_le this nd) (Nat.lt_irrefl _)
  exact⟨rfl,q s' (h.objs.size+1) dx _ _ I2 he' rfl rfl rfl rfl newx (by rw[za9 nex];exact fx) fdx⟩
theorem ps_raiseB {E:XK} {n:Str} {e1 e2:Expr} {t:TA} {np cp pos:Pos} (B:BarR X.K X.mg C) (hr:Room (k+2) X.A) (hex:X.ex=[]) (hg:Gl X n) (hm:X.mg n=some (.ref C)) (ha:PA X [e1,e2] t)
 (md:∀(pins:List (Addr×Obj)) (σ:St) (H:Hp) (s:Shared) (x:Addr) (od:Option Addr),Inv X pins σ H s->XAt s.heap x (.ref C) od .none->X.s₀.heap.get? x=none->H x=none->E (.ref C) od H->X.xe (.ref x) s)
 (hs:starEach [e1,e2] X.env=(false,eval e1 X.env)::starEach [e2] X.env:=by rfl) (hpl:(backTo cp (starEach [e2] X.env)).any (·.1)=false:=by rfl) (hd:(n == ("__debug__" : Str))=false:=by decide) :
 PS X (.Raise (some (.Call (.Name n np) [e1,e2] [] cp)) none pos) (fun _ σ H=>t σ H fun vs H1=>∃a b,vs=[.int a,.int b]/\a.natAbs.log2<1920/\b.natAbs.log2<1920/\∀dx,H1 dx=none->E (.ref C) (some dx) (upd H1 dx (xdB a b))):=by
 intro pins s σ H D I h;obtain⟨nm,qn,N,bs,bm,sn,sub,ab,col,dd,k0,k1,k2,k3,k5,f,fd,of,lk,ok,ni,tl,hbe,bi,lf,hfc,ib⟩:=id B.ex;rw[arm_exec_Raise];refine wpAny_bind (wpAny_standAt (raiseStmt_own (C:=C) (nm:=nm) (q:=qn) (N:=N) (bs:=bs) (bm:=bm) (hd:=true) (sn:=sn) (sub:=sub) (ab:=ab) (col:=col) (dd:=dd) (k0:=k0) (k1:=k1) (k2:=k2) (k3:=k3) (k5:=k5) (newId:="ValueError.__new__") hbe hr.hd ?_));refine wpAny_bind (wpAny_mono (Q:=fun v s1=>∃(e:Addr) (oe:Obj),v=.ref e/\s1.heap.get? C=some (excClassObj nm qn C N bs bm true sn sub ab col dd k0 k1 k2 k3 k5 "ValueError.__new__")/\s1.heap.get? e=some oe/\oe.cls=.ref C/\(∃vs,oe.data=.fields vs/\vs[1]?=some .none)/\X.xe (.ref e) s1) ?_ (fun v s3 h3=>wpAny_bind (wpAny_standAt (wpAny_pure h3))) fun _ _ z=>z);refine wpAny_Call_Name_kw (ld_glob I hg hm ?_ hd);refine PySem.W.callWith_K (h₀:=X.base) I.ok.mod.kin B.keep (thn (ha cp pins s σ H _ I h) fun us s1 ⟨vs,H1,I1,r,a,b,ev,la,lb,q⟩=>⟨I1.kIn,?_⟩) hs hpl;subst ev;refine make_bar (a:=a) (b:=b) B hr I1 r la lb fun s' x dx oe vs I2 hx hc hdd hdat hv nx fx fdx=>⟨x,oe,rfl,I2.kIn _ _ lk,hx,hc,⟨vs,hdat,hv⟩,?_⟩
 exact md pins σ _ s' x (some dx) I2 ⟨oe,vs,hx,hc,hdd,hdat,hv⟩ (I1.new0 hex nx) fx (q dx fdx)
noncomputable def tXat (y dx:Addr) (name:Str) (ta:TE):TE:=fun σ H Q=>ta σ H fun v H1=>∃fs i,v=.ref y/\H1 dx=some (.xd fs)/\fs.lookup name=some (.int i)/\Q (.int i) H1
theorem pe_xattr {nm q:Str} {N:Addr} {bs bm:List Value} {sn:List Str} {sub:List Value} {ab:Bool} {col:Option Bool} {dd:Option Addr} {k0 k1 k2 k3 k5:Option Value} {id1:String} {y dx:Addr} {oe:Obj} {vs:Array Value} {e:Expr} {name:Str} {pos:Pos} {ta:TE}
 (hp:(y,oe)∈X.pn) (hc:oe.cls=.ref C) (hd:oe.dict=some dx) (hdat:oe.data=.fields vs) (lk:X.K.lookup C=some (excClassObj nm q C N bs bm true sn sub ab col dd k0 k1 k2 k3 k5 id1)) (L:ExcL X.K C)
 (hn:PySem.W.findIn X.K (.ref C) name=some none) (he:PE X e ta) (hb:attributeBase e name X.env (eval e X.env)=eval e X.env:=by rfl):PE X (.Attribute e name pos) (tXat y dx name ta):=by
 intro pins s σ H Q I h;refine attr_of hb (thn (he pins s σ H _ I h) fun u s1 hI121=>?_);obtain⟨v,H1,I1,r,fs,i,ev,ed,lu,q⟩:=hI121;subst ev;obtain rfl:u=Value.ref y:=r;obtain⟨mA,n1,rel⟩:=(show ObjOk X.prog X.w H1 s1.heap dx (.xd fs) from I1.hok dx _ ed);have z:=rel name;rw[lu] at z;cases hv:mA name with
 | none=>rw[hv] at z;exact z.elim
 | some u=>
   rw[hv] at z;obtain⟨tk,rfl⟩:=(show ∃t,u=Value.int i t from z);obtain⟨h1,g1,d1,t1,os1⟩:=s1;exact xr_attr (I1.kIn _ _ lk) L I1.kIn hn (I1.pin _ (List.mem_append_left _ hp)).1 hc hdat hd (Heap.Ns1.ns n1) hv (fun id z=>nomatch z) ⟨.int i,H1,I1.tok _,⟨tk,rfl⟩,q⟩
end
end L2
end
section
namespace L2
open PySem PySem.Spec PyProof.Rows
noncomputable def exB (C:Addr) (E:XK) (x:Exn) (H:Hp):Prop:=∀a b,x.args=[.int a,.int b]->∀dx,H dx=none->E (.ref C) (some dx) (upd H dx (xdB a b))
noncomputable abbrev cxB (K:PySem.W.Frag) (H:Hp) (C:Addr) (E:XK):Dx W0:=⟨K,H,fun x _ H'=>exB C E x H',fun _=>False⟩
noncomputable def oRaise (n:Str) (l:List D):Option Exn:=match l with
 | [.int a,.int b]=>if a.natAbs.log2<1920/\b.natAbs.log2<1920 then some ⟨n,[.int a,.int b]⟩ else none
 | _=>none
noncomputable def sRaise2 (S:Type) (n:Str) (f:FnA S):FnS S:=fun ρ st=>(f ρ st).bind fun l st1=>match oRaise n l with
 | some x=>.exc x st1
 | none=>.bad
set_option tactic.hygienic true in
theorem oRaise_some {n:Str} {l:List D} {x:Exn} (h:oRaise n l=some x):∃a b:Int,l=[.int a,.int b]/\x=⟨n,[.int a,.int b]⟩/\a.natAbs.log2<1920/\b.natAbs.log2<1920:=by
 unfold oRaise at h;split at h
 ·rename_i a b
  split at h
  ·rename_i z
   cases h;exact⟨a,b,rfl,rfl,z.1,z.2⟩
  ·cases h
 ·cases h
theorem wp_sRaise2 {S:Type} {n:Str} {f:FnA S} {ρ:Rho} {st:S} {Q:Fl->S->Prop} {E:Exn->S->Prop}:wpR (sRaise2 S n f ρ st) Q E↔wpR (f ρ st) (fun l st1=>∃x,oRaise n l=some x/\E x st1) E:=by
 unfold sRaise2;rw[za3];constructor<;>intro h<;>refine za6 h (fun l st1 q=>?_) fun _ _ q=>q
 ·cases o:oRaise n l with
  | none=>rw[o] at q;exact q.elim
  | some x=>rw[o] at q;exact⟨x,rfl,q⟩
 ·obtain⟨x,o,q⟩:=q
  rw[o];exact q
theorem ints2 {K:PySem.W.Frag} {A:Addr->Prop} {H:Hp} {a b:Int} {vs:List V} (h:IsL K A H [.int a,.int b] vs):vs=[.int a,.int b]:=by
 obtain⟨v,r,rfl,i,j⟩:=IsL.cons.mp h;obtain⟨v',r',rfl,i',j'⟩:=IsL.cons.mp j;rw[IsL.nil.mp j',Is.int_iff.mp i,Is.int_iff.mp i']
section
variable {X:Cx} {C:Addr} {k:Nat} {E:XK} {n:Str} {S:Type} {W:Wd S} {c:Dx W}
noncomputable def Made2 (X:Cx) (C:Addr) (E:XK):Prop:=∀(pins:List (Addr×Obj)) (σ:St) (H:Hp) (s:Shared) (x:Addr) (od:Option Addr),Inv X pins σ H s->XAt s.heap x (.ref C) od .none->X.s₀.heap.get? x=none->H x=none->E (.ref C) od H->X.xe (.ref x) s
theorem made2_cxOf {P:Program} {w:World} {K:PySem.W.Frag} {mg:Str->Option Value} {base:Heap} {N:List Str} {qual:Str} {scope:Scope} {f:Addr} {cd:Value} {A:Around} {outer:List Env} {s:Shared} {H:Hp} :
 Made2 (cxOf (CX2 P w) P w K mg base N qual scope f cd A outer s H E) C E:=fun pins σ H1 s1 x od I hx nx fx hE=>leave2 I rfl rfl rfl hx (.inl rfl) nx fx (fun T z=>nomatch z) hE
theorem ds_raiseB {e1 e2:Expr} {f:FnA S} {np cp pos:Pos} (B:BarR X.K X.mg C) (hr:Room k X.A) (h2:2<=k) (hex:X.ex=[]) (hg:Gl X n) (hm:X.mg n=some (.ref C)) (ha:DA X c [e1,e2] f) (md:Made2 X C E) (hE:∀x st H',c.Ex x st H'->exB C E x H')
 (hs:starEach [e1,e2] X.env=(false,eval e1 X.env)::starEach [e2] X.env:=by rfl) (hpl:(backTo cp (starEach [e2] X.env)).any (·.1)=false:=by rfl) (hd:(n == ("__debug__" : Str))=false:=by decide) :
 DS X c (.Raise (some (.Call (.Name n np) [e1,e2] [] cp)) none pos) (sRaise2 S n f):=
 (ps_raiseB (k:=k-2) B (hr.mono (by omega)) hex hg hm ha md hs hpl hd).imp fun D σ H hI44=>by
  obtain⟨ρ,st,R,ok,w⟩:=hI44;refine⟨ρ,st,R,ok,za6 (za3.mp w) (fun l st1 q vs H1 e ok1 z=>?_) fun x st1 q H1 e ok1=>q H1 (e.f0 R) ok1⟩;cases o:oRaise n l with
  | none=>rw[o] at q;exact q.elim
  | some x=>
    rw[o] at q;obtain⟨a,b,rfl,rfl,la,lb⟩:=oRaise_some o;exact⟨a,b,ints2 z,la,lb,hE _ _ _ (q H1 (e.f0 R) ok1) a b rfl⟩
end
noncomputable def spB (K:PySem.W.Frag) (C:Addr) (F:List D->Res Unit D):Sp:=fun vs H Q E=>∃l,IsL K (fun _=>True) H l vs/\wpR (F l) (fun d _=>∀v H',Same H H'->Is K (fun b=>H b=none) H' d v->Q v H') fun x _=>∀H',Same H H'->exB C E x H'
section
variable {P:Program} {w:World} {K:PySem.W.Frag} {mg:Str->Option Value} {base:Heap}
theorem Fun.dB {x qual:Str} {st:Stmt} {f C:Addr} {fd:FuncData} {N ps:List Str} {k:Nat} {B:FnS Unit} (F:Fun K x qual st f fd) (S:zc0 N ps (za1 st))
 (hb:∀(cdv:Value) (A:Around) (outer:List Env) (s:Shared) (H:Hp) (E:XK),Room k (A.deeper (envOfC qual (za1 st) s.heap.objs.size f cdv))->
  DSs (cxOf (CX2 P w) P w K mg base N qual (za1 st) f cdv A outer s H E) (cxB K H C E) (zb7 st) B):FnOk P w K mg base (CX2 P w) (k+1) f fd ps (spB K C (dfn N.length ps.length B)):=by
 obtain⟨oc,od,kV,doc,pm,an,cdv,ct,osl,rfl,lk,hcd⟩:=F.ex;refine fn_of lk hcd S (fun vs H Q E h=>?_) fun A outer s H vs Q E hr h=>?_
 ·obtain⟨l,i,w⟩:=h
  unfold dfn at w;by_cases hl:l.length=ps.length/\ps.length<=N.length
  ·rw[<-i.length];exact hl.1
  ·rw[if_neg hl] at w;exact w.elim
 ·obtain⟨l,i,w⟩:=h
  unfold dfn at w;by_cases hl:l.length=ps.length/\ps.length<=N.length
  ·rw[if_pos hl] at w
   have R:=rep_start (N:=N) (by omega) i;refine⟨_,hb cdv A outer s H E hr,rho0 N.length l,(),⟨R.len,R.frame,R.slot,R.avl,R.uniq⟩,trivial,?_⟩;have fin:∀d v H',F0 (cx0 K H) H'->Is K (fun b=>¬W0.mv b/\H b=none) H' d v->(∀v H',Same H H'->Is K (fun b=>H b=none) H' d v->Q v H')->Q v H':=fun d v H' f0 z q=>
    q v H' (fun b o e=>f0 b o e fun m=>m) (z.mono ⟨fun _ _ z _=>z,fun b o a z=>⟨a.2,z⟩⟩)
   cases q:B (rho0 N.length l) () with
   | bad=>rw[q] at w;exact w.elim
   | exc x u=>rw[q] at w;exact fun H' f0 _=>w H' fun b o e=>f0 b o e fun m=>m
   | ok fl u=>
     rw[q] at w;cases fl with
     | rt d=>exact fun v H' f0 _ z=>fin d v H' f0 z w
     | nx ρ=>exact fun σ' H' fr _ R'=>fin .non .non H' (fun b o e n=>R'.frame b o e n) (Is.non_iff.mpr rfl) w
     | bk ρ=>exact w.elim
     | ct ρ=>exact w.elim
  ·rw[if_neg hl] at w;exact w.elim
end
noncomputable def spT (g:Addr) (K:PySem.W.Frag) (F:List D->Res Unit D):Sp:=fun vs H Q E=>∃us,vs=us++[.ref g]/\sp0 K F us H Q E
noncomputable def tDAG {S:Type} {W:Wd S} (c:Dx W) (f:FnA S) (v:V):TA:=fun σ H Q=>tDA c f σ H fun vs H1=>Q (vs++[v]) H1
section
variable {X:Cx} {S:Type} {W:Wd S} {c:Dx W} {g:Gr} {k:Nat} {x n:Str} {ps:List Str} {p pos:Pos} {e:Expr} {es:List Expr} {v:V}
noncomputable def DAG (X:Cx) {S:Type} {W:Wd S} (c:Dx W) (es:List Expr) (f:FnA S) (v:V):Prop:=PA X es (tDAG c f v)
theorem dag_last (hg:PE X e (tC v)) (hs:starEach [e] X.env=(false,eval e X.env)::starEach [] X.env:=by rfl):DAG X c [e] (aNil S) v:=
 (zb9 hg zh1 hs).imp fun σ H Q ⟨ρ,st,R,ok,w⟩=>w [] H Ext.refl ok (IsL.nil.mpr rfl)
theorem dag_cons {f:Fn S} {r:FnA S} (h:DE X c g e f) (hr:DAG X c es r v) (hs:starEach (e::es) X.env=(false,eval e X.env)::starEach es X.env:=by rfl):DAG X c (e::es) (aCons S f r) v:=
 (zb9 h hr hs).imp fun σ H Q hI45=>by
  obtain⟨ρ,st,R,ok,w⟩:=hI45;refine⟨ρ,st,R,ok,za6 (za3.mp w) (fun d st1 q u H1 e ok1 z=>?_) fun x st1 q=>q⟩;refine⟨ρ,st1,R.ext ok e,ok1,za6 (za3.mp q) (fun l st2 q vs H2 e2 ok2 z2=>?_) fun x st2 q H2 e2 ok2=>q H2 (e.trans e2) ok2⟩;exact q (u::vs) H2 (e.trans e2) ok2 (IsL.cons.mpr ⟨u,vs,rfl,z.toR.ext e2 ok1,z2⟩)
theorem tDA_mono {f:FnA S} {σ:St} {H:Hp} {Q Q':List V->Hp->Prop} (h:tDA c f σ H Q) (k:∀vs H1,Q vs H1->Q' vs H1):tDA c f σ H Q':=by
 obtain⟨ρ,st,R,ok,w⟩:=h;exact⟨ρ,st,R,ok,za6 w (fun l st1 q vs H1 e ok1 z=>k _ _ (q vs H1 e ok1 z)) fun x st1 q=>q⟩
theorem de_callG {ga:Addr} {G:List D->Res Unit D} {f:FnA S} (C:zc4 X.prog X.w X.K X.mg X.base k x ps (spT ga c.K G)) (hr:Room k X.A) (hg:Gl X x) (ha:DAG X c (e::es) f (.ref ga)) (hdb:(x == ("__debug__" : Str))=false:=by decide)
 (he:starEach (e::es) X.env=(false,eval e X.env)::starEach es X.env:=by rfl) (hpl:(backTo pos (starEach es X.env)).any (·.1)=false:=by rfl):DE X c g (.Call (.Name x p) (e::es) [] pos) (fCall S G f):=by
 obtain⟨fa,fd,hm,hk,hb,F⟩:=C.ex;refine(pe_call (E:=E0) F hr hg hm hk hb .nil pass0 ha hdb he hpl).imp fun σ H Q q=>tDA_mono (tD_call0 (E:=E0) q) fun vs H1 z=>?_
 show spT ga c.K G ((vs++[.ref ga])++[]) H1 Q E0;rw[List.append_nil];rw[List.append_nil] at z;exact⟨vs,rfl,z⟩
end
end L2
end
section
namespace L2
open PySem PySem.Spec PyProof.Rows
noncomputable abbrev callB (x1 x2:Str) (j1 j2:Nat) (pB pA pc pe p1 p2 p3 p4 p5 p6 p7:Pos):Expr:=
 .Call (.Attribute (.Name "HallError" pB) "__init__" pA) [.Name "self" p1,.JoinedStr [.Constant (.str x1) j1 p2,.FormattedValue (.Name "push" p3) (-1) none p4,.Constant (.str x2) j2 p5,.FormattedValue (.Name "step" p6) (-1) none p7] pc] [] pe
theorem text4 {x1 x2:Str} {a b:Int} {e:Addr} {H:Hp} (h1:x1.length<=1000) (h2:x2.length<=1000) (ha:a.natAbs.log2<1920) (hb:b.natAbs.log2<1920) (Q:VK)
 (q:Q (.str (Str.empty++x1++(toString a:String)++x2++(toString b:String))) H):tJ [tC (.str x1),tNum (tVar 1),tC (.str x2),tNum (tVar 2)] Str.empty (start ["self","push","step"] [.ref e,.int a,.int b]) H Q:=by
 have l1:=int_text_len_1921 ha;have l2:=int_text_len_1921 hb;have e0:Str.empty.length=0:=rfl;have big:∀{n:Nat},n<=6000->n<=sizeLine:=fun h=>Nat.le_trans h (by decide)
 refine⟨x1,rfl,big (by omega),big ?_,.int a,rfl,a,rfl,ha,_,rfl,big ?_,big ?_,x2,rfl,big (by omega),big ?_,.int b,rfl,b,rfl,hb,_,rfl,big ?_,big ?_,big ?_,q⟩
 all_goals (try simp only[Str.length_append])<;>omega
section
variable {K:PySem.W.Frag} {mg:Str->Option Value} {C C0 f:Addr} {st:Stmt} {fd:FuncData} {nm q qual:Str} {M:Addr} {bs bm:List Value} {sn:List Str} {sub:List Value} {ab:Bool} {col:Option Bool} {dd:Option Addr} {k0 k1 k2 k3 k5:Option Value}
variable {x1 x2:Str} {j1 j2:Nat} {pB pA pc pe p1 p2 p3 p4 p5 p6 p7 p8 q1 q2 q3 q4 r1 r2 r3 r4:Pos}
theorem initB_of (F:Fun K "__init__" qual st f fd) (hbody:zb7 st=[.Expr (callB x1 x2 j1 j2 pB pA pc pe p1 p2 p3 p4 p5 p6 p7) q1,.Assign [.Attribute (.Name "self" q2) "push" q3] (.Name "push" q4) r1,.Assign [.Attribute (.Name "self" r2) "step" r3] (.Name "step" r4) p8])
 (S:zc0 ["self","push","step"] ["self","push","step"] (za1 st)) (h1:x1.length<=1000) (h2:x2.length<=1000)
 (lC:K.lookup C=some (excClassObj nm q C M bs bm true sn sub ab col dd k0 k1 k2 k3 k5 "ValueError.__new__")) (tl:PySem.W.tailIn K bmV bm=true) (L:ExcL K C) (hsa:PySem.W.findIn K (.ref C) "__setattr__" = some (some (.builtin "object.__setattr__")))
 (n1:PySem.W.findIn K (.ref C) "push" = some none) (n2:PySem.W.findIn K (.ref C) "step" = some none) (hrf:∀e:Addr,refuseLoop (.ref e) "__setattr__" bm=pure ())
 (gB:(za1 st).names.lookup ("HallError" : Str)=some .globalImplicit) (mB:mg "HallError" = some (.ref C0)) (hrd:PySem.W.readsIn K C0 (.type "type")=true) (hfc:PySem.W.findCls K (.ref C0) (.type "type") "__init__" = some (.val (.builtin "ValueError.__init__")))
 (hg:PySem.W.specialIn K (.ref C0) "__getattribute__" = some (some (.builtin "type.__getattribute__"))) (l0:(za1 st).names.lookup ("self" : Str)=some .local) (l1:(za1 st).names.lookup ("push" : Str)=some .local) (l2:(za1 st).names.lookup ("step" : Str)=some .local)
 (ht:∀env:Env,∃pl:Sem Bool,eval (callB x1 x2 j1 j2 pB pA pc pe p1 p2 p3 p4 p5 p6 p7) env=(do
  let ov <-eval (.Name "HallError" pB) env
  standAt pA.atName
  let (g,first) <-holding [ov] (getMethod ov "__init__" pl)
  callWith pe g first (backTo pe (starEach [.Name "self" p1,.JoinedStr [.Constant (.str x1) j1 p2,.FormattedValue (.Name "push" p3) (-1) none p4,.Constant (.str x2) j2 p5,.FormattedValue (.Name "step" p6) (-1) none p7] pc] env)) (backToKw pe (keywordEach [] env)))) :
 InitB K mg C f fd:=by
 obtain⟨oc,od,kV,doc,pm,an,cdv,ct,osl,rfl,lk,hcd⟩:=F.ex;rw[hbody] at lk ⊢;intro P w base k A outer s H args us R oe fs t0 e a b hr e0 bt r hx hc hd hdn hf hbe hfe he ha hb done;obtain⟨pl,ht⟩:=ht (envOfC qual (za1 st) s.heap.objs.size f cdv);exact init3 (pl:=pl) lk hcd S hr e0 bt r hx hc hd hdn hf hbe hfe he ha hb (fun Q z=>text4 h1 h2 ha hb Q (z rfl)) lC tl L hsa n1 n2 (hrf e) gB mB hrd hfc hg l0 l1 l2 ht done
end
end L2
end
section
namespace L2
open PySem PySem.Spec PyProof.Rows
section
variable {X:Cx} {S:Type} {W:Wd S} {c:Dx W} {g:Gr} {k:Nat} {x:Str} {ps:List Str} {p pos:Pos} {e:Expr} {es:List Expr} {E:XK} {C:Addr} {G:List D->Res Unit D} {f:FnA S}
end
noncomputable def noX (G:List D->Res Unit D) (l:List D):Res Unit D:=match G l with
 | .ok d st=>.ok d st
 | _=>.bad
theorem wp_noX {G:List D->Res Unit D} {l:List D} {Q:D->Unit->Prop} {E:Exn->Unit->Prop} (h:wpR (G l) Q fun _ _=>False):wpR (noX G l) Q E:=by
 unfold noX;cases q:G l<;>rw[q] at h<;>first | exact h | exact h.elim
theorem FnOk.noX {P:Program} {w:World} {K:PySem.W.Frag} {mg:Str->Option Value} {base:Heap} {k:Nat} {f C:Addr} {fd:FuncData} {ps:List Str} {G:List D->Res Unit D} (F:FnOk P w K mg base (CX2 P w) k f fd ps (spB K C G)):FnOk P w K mg base CX0 k f fd ps (sp0 K (noX G)):=by
 have low:∀vs H Q,(∃E,sp0 K (L2.noX G) vs H Q E)->spB K C G vs H Q (fun _ _ _=>False):=fun vs H Q hI46=>by
  obtain⟨E,l,i,w⟩:=hI46;refine⟨l,i,?_⟩;unfold L2.noX at w;cases q:G l with
  | bad=>rw[q] at w;exact w.elim
  | ok d st=>rw[q] at w;exact w
  | exc x st=>rw[q] at w;exact w.elim
 refine⟨fun vs H Q E h=>F.len vs H Q _ (low vs H Q ⟨E,h⟩),fun A outer s H args us vs Q E hr e0 bt r h=>codeAny_mono (F.run A outer s H args us vs Q _ hr e0 bt r (low vs H Q ⟨E,h⟩)) fun r2 s2 z=>?_⟩;cases r2 with
 | ok fl=>cases fl<;>exact z
 | error e=>
   obtain⟨_,_,_,_,_,_,_,_,_,_,_,_,_,_,_,z⟩:=z;exact z.elim
end L2
end
section
open L2
local macro_rules
 | `(tactic| simp?! [$ls,*])=>do
   let x:=("wp_ok wp_bad wp_some wp_none wp_sNil wp_sSet wp_sSetB wp_sAsg wp_sPar wp_sIf wp_sRet wp_sRetV wp_sMt wp_sBad wp_sAug wp_fC wp_fV wp_fVk wp_fI wp_f2 wp_fA wp_aNil wp_aCons wp_fCall wp_fCallS wp_fIs wp_fAndV wp_fOrV wp_fNotV wp_fIfE wp_fNeg wp_pNo wp_pSo wp_iSeq wp_iArgs wp_fComp wp_fB wp_fAnd wp_fOr wp_fNot wp_fTrue wp_sItem wp_sDPut wp_fChain wp_sTab2 wp_fGet wp_sFor wp_fP wp_aP wp_tP own? frz frz1 pickR gN gT gsCons gsNil D.seq? D.immL flat_lst flat_dct flat_int flat_str flat_bl flat_non flat_tup imm_int imm_str imm_bl imm_non imm_tup rho0 rhoS rhoL g0 gS s0 sS lC lN rd putN put im kp vr cn o2 cs nl o1 ti tb boS dbb rl0_ rl1_ rl2_ rl3_ rl4_ rl5_ rl6_ rl7_ rl8_ rl9_".splitOn " ").toArray.map fun n=>Lean.mkIdent n.toName
   `(tactic| try simp only[$[$x:term],*,EV_,Nat.reduceAdd,Nat.reduceLT,Nat.reduceLeDiff,Nat.reduceSub,reduceIte,$ls,*])
local macro_rules
 | `(tactic| simp_all!)=>do
   let a:=Lean.mkIdent `hN_
   `(tactic| ((try with_reducible refine $a _ _ ?_);with_reducible refine wp_seqG fun $(Lean.mkIdent `P_) $a $(Lean.mkIdent `hR_) $(Lean.mkIdent `hB_) $(Lean.mkIdent `hC_)=>?_))
 | `(tactic| simp!)=>`(tactic| simp! [wp_ok])
 | `(tactic| simp! [$ls,*])=>do
   let a:=Lean.mkIdent `hN_
   `(tactic| ((try with_reducible refine $a _ _ ?_);simp?! [$ls,*];(repeat (first | with_reducible refine $a _ _ ?_ | with_reducible refine $(Lean.mkIdent `hR_) _ _ ?_ | with_reducible refine $(Lean.mkIdent `hB_) _ _ ?_ | with_reducible refine $(Lean.mkIdent `hC_) _ _ ?_));simp?! [$ls,*]))
section
namespace K11
open PySem PySem.Spec PyProof.Rows L2
noncomputable def top (i:Nat):Stmt:=PySem.Challenge.pw_slidehall_k11_long_rows_ahead.main.body.getD i (.Pass ⟨0,0,0,0⟩)
structure Cst (K:PySem.W.Frag) (mg:Str->Option Value):Prop where
 ok:True
 WALL:∃t,mg "WALL" = some (.int (-1) t)
 STRONG:∃t,mg "STRONG" = some (.int (1) t)
 DULL:∃t,mg "DULL" = some (.int (-1) t)
 STEPS:∃a0,mg "STEPS" = some (.ref a0)/\Tab2 K a0 [(1,0),(0,1),(-1,0),(0,-1)]
noncomputable abbrev s__law_begin:Stmt:=top 27
noncomputable abbrev n__law_begin:List Str:=["_law_script","_law_cells"]
theorem zn7:zc0 n__law_begin ["_law_script"] (za1 s__law_begin):=⟨rfl,rfl,rfl,by decide +kernel,rfl,by decide +kernel,by decide +kernel⟩
noncomputable abbrev s__law_take:Stmt:=top 28
noncomputable abbrev n__law_take:List Str:=["_law_state","_law_many","_law_turn","_law_place","_law_cell","_law_digit","_law_mixed"]
theorem zf0:zc0 n__law_take ["_law_state","_law_many"] (za1 s__law_take):=⟨rfl,rfl,rfl,by decide +kernel,rfl,by decide +kernel,by decide +kernel⟩
section
variable {P:Program} {w:World} {K:PySem.W.Frag} {mg:Str->Option Value} {base:Heap}
theorem ok_begin {f:Addr} {fd:FuncData} (F:Fun K "_law_begin" "_law_begin" s__law_begin f fd) (hm:Bn mg):FnOk P w K mg base CX0 1 f fd ["_law_script"] (spBegin K):=by
 refine F.ok zn7 (fun vs H Q E h=>?_) (fun cdv A outer s H vs Q E hr h=>?_)
 ·obtain⟨a,ns,rfl,_⟩:=h;rfl
 ·obtain⟨a,ns,rfl,hS,h63,q⟩:=h
  have hcut:cutV (ns.map V.int) none (some 63)=ns.map V.int:=cut63 h63;refine⟨_,ze7 (zn2 (i:=1) zn7.nd rfl (Or.inl rfl) (pe_callTy call_list_of (by rfl) hm.list boot_list (zb9 (pe_slice sl_list (pv 0) po_none (po_some zi4)) zh1))) (ze7 (ps_if (pt_cmpR (zi5 hr) (pv 1) (pe_lst zh1) (nomark _)) (zm1 (zn2 (i:=1) zn7.nd rfl (Or.inl rfl) (pe_lst (zb9 zi4 zh1)))) pss_nil) (zm1 (ps_ret (pe_disp (pps_cons zn3 (pv 1) (pps_cons zn3 zi4 pps_nil)) rfl rfl (by simp) (by show 2<=15;decide))))),?_⟩;refine⟨.ref a,rfl,63,rfl,a,_,rfl,hS,fun p1 hp1=>?_⟩;rw[hcut];refine⟨p1,_,rfl,.inl (.of zb4),fun p2 hp2=>?_⟩;have n12:p1≠p2:=zb0 zb4 hp2;have s2:Same H (upd (upd H p1 (.lst (ns.map V.int))) p2 (.lst (ns.map V.int))):=fun b o e=>by
   have b1:b≠p1:=zb0 e hp1;have b2:b≠p2:=fun z=>by subst z;rw[za9 b1,e] at hp2;cases hp2
   rw[za9 b2,za9 b1];exact e
  refine⟨_,rfl,(by show 0<=sizeLine;decide),fun p3 hp3=>?_⟩;have n23:p2≠p3:=zb0 zb4 hp3;refine⟨fun _=>True,.lst (ns.map D.int),.lst [],ns.isEmpty,?_,?_,?_,?_,?_⟩
  ·exact Is.lst trivial (by rw[za9 n23];exact zb4) (ints_is ns)
  ·exact Is.lst trivial zb4 (IsL.nil.mpr rfl)
  ·exact ints_dep ns
  ·cases ns<;>rfl
  have fin:∀(H3:Hp) (q2:Addr) (xs:List Int),Same H H3->H q2=none->H3 q2=some (.lst (xs.map V.int))->xs=zo5 ns->
   tDisp [(fun _ H Q=>Q (.str "cells") H,tVar 1),(fun _ H Q=>Q (.str "turn") H,fun _ H Q=>Q (.int 0) H)] [some (.ref a),some (.ref q2)] H3 Q:=fun H3 q2 xs sm hn hl ex=>by
   intro r hr';have nr:q2≠r:=zb0 hl hr';refine⟨_,rfl,zb4,[(Sum.inr "cells",.ref q2),(Sum.inr "turn",.int 0)],rfl,(by show 2<=15;decide),?_⟩;refine q r q2 _ (fun b o e=>?_) ?_ ?_ ?_ ?_
   ·have br:b≠r:=zb0 (sm b o e) hr'
    rw[za9 br,za9 br];exact sm b o e
   ·cases z:H r with
    | none=>rfl
    | some o=>rw[sm r o z] at hr';cases hr'
   ·exact hn
   ·rw[zb4];exact congrArg (fun z=>some (HO.dK z)) merge2
   ·rw[za9 nr,za9 nr,hl,ex]
  have g2:H p2=none:=by
   cases z:H p2 with
   | none=>rfl
   | some o=>
     have b1:p2≠p1:=n12.symm;rw[za9 b1,z] at hp2;cases hp2
  cases ns with
  | nil=>
    refine⟨_,rfl,iteT ?_⟩;refine⟨(by show 1<=sizeLine;decide),fun p4 hp4=>?_⟩;have s3:Same H (upd (upd (upd (upd H p1 (.lst [])) p2 (.lst [])) p3 (.lst [])) p4 (.lst [.int 7])):=fun b o e=>by
     have z2:=s2 b o e;have b3:b≠p3:=zb0 z2 hp3;have b4:b≠p4:=fun z=>by subst z;rw[za9 b3,z2] at hp4;cases hp4
     rw[za9 b4,za9 b3];exact z2
    refine fin _ p4 [7] s3 ?_ zb4 rfl;cases z:H p4 with
    | none=>rfl
    | some o=>
      have z2:=s2 p4 o z;have b3:p4≠p3:=zb0 z2 hp3;rw[za9 b3,z2] at hp4;cases hp4
  | cons n0 ns=>
    refine⟨_,rfl,iteF ?_⟩;have s3:Same H (upd (upd (upd H p1 (.lst ((n0::ns).map V.int))) p2 (.lst ((n0::ns).map V.int))) p3 (.lst [])):=fun b o e=>by
     have z2:=s2 b o e;have b3:b≠p3:=zb0 z2 hp3;rw[za9 b3];exact z2
    exact fin _ p2 (n0::ns) s3 g2 (by rw[za9 n23];exact zb4) rfl
set_option tactic.hygienic true in
theorem ok_take {f p l:Addr} {fd:FuncData} (F:Fun K "_law_take" "_law_take" s__law_take f fd) (hlen:mg "len" = none) (hdm:mg "divmod" = none):FnOk P w K mg base CX0 1 f fd ["_law_state","_law_many"] (spS (WdS p l) K takeF):=by
 refine F.ok zf0 (fun vs H Q E h=>?_) (fun cdv A outer s H vs Q E hr h=>?_)
 ·obtain⟨ds,us,st,rfl,i,ok,w⟩:=h
  unfold takeF at w;split at w
  ·rw[List.length_cons,<-i.length];rfl
  ·exact w.elim
 ·obtain⟨ds,us,st,rfl,i,ok,w⟩:=h
  unfold takeF at w;split at w
  ·rename_i many
   split at w
   ·rename_i hb
    obtain⟨v,r,ev,i1,i2⟩:=IsL.cons.mp i;rw[IsL.nil.mp i2,Is.int_iff.mp i1] at ev;subst ev;have hu:=hu_of hr;obtain⟨hp,hl,hne,h63,h0⟩:=id ok;have npl:p≠l:=ne_of hp hl (by intro z;cases z);refine⟨_,ze7 (zn2 (i:=2) zf0.nd rfl (Or.inl rfl) (pe_op op_add (pe_dget hu (pv 0) zn3 (fun _ _=>rfl)) zi4)) (ze7 (ps_dput hu (pv 0) zn3 (pv 2) rfl) (ze7 (zn2 (i:=3) zf0.nd rfl (Or.inl rfl) (pe_op op_mod (pv 2) (zn8 zc6 (by rfl) hlen PySem.boot_len (zb9 (pe_dget hu (pv 0) zn3 (fun _ _=>rfl)) zh1)))) (ze7 (zn2 (i:=4) zf0.nd rfl (Or.inl rfl) (pe_ix ix_list (pe_dget hu (pv 0) zn3 (fun _ _=>rfl)) (pv 3) (fun _ _=>rfl))) (ze7 (ps_if (pt_cmpR op_ge (pv 4) (pe_op op_pow zi4 zi4) (nomark _)) (ze7 (ps_asg (zn8 call_divmod (by rfl) hdm boot_divmod (zb9 (pv 4) (zb9 (pv 1) zh1))) (pg_tup (n:=2) rfl (pgs_cons (pg_sub (pe_dget hu (pv 0) zn3 (fun _ _=>rfl)) (pv 3) set_list) (pgs_cons (pg_name (i:=5) zf0.nd rfl (Or.inl rfl)) pgs_nil)))) (zm1 (ps_ret (pv 5)))) pss_nil) (ze7 (zn2 (i:=6) zf0.nd rfl (Or.inl rfl) (pe_op op_mod (pe_op op_mul (pe_op op_add (pe_op op_add (pe_op op_mod (pv 4) zi4) (pe_op op_mul (pe_op op_mul (pv 2) (pv 2)) zi4)) zi4) zi4) zi4)) (ze7 (zn2 (i:=6) zf0.nd rfl (Or.inl rfl) (pe_op op_mod (pe_op op_mul (pv 6) (pv 6)) zi4)) (zm1 (ps_ret (pe_op op_mod (pe_op op_fdiv (pe_op op_mod (pe_op op_mul (pe_op op_add (pv 6) (pe_op op_mul (pv 2) zi4)) zi4) zi4) zi4) (pv 1)))))))))),?_⟩;have n0:(0:Int)<(st.1.length:Int):=by
     have:st.1.length≠0:=fun z=>hne (List.length_eq_zero_iff.mp z)
     omega
    have pl0:0<=(st.2+1) % (st.1.length:Int):=Int.emod_nonneg _ (by omega);have pl1:(st.2+1) % (st.1.length:Int)<(st.1.length:Int):=Int.emod_lt_of_pos _ n0;have ple:((plc st:Nat):Int)=(st.2+1) % (st.1.length:Int):=Int.toNat_of_nonneg pl0;have plt:plc st<st.1.length:=by omega
    have cel:(st.1.map V.int)[plc st]?=some (.int (st.1.getD (plc st) 0)):=by
     rw[List.getElem?_map,List.getElem?_eq_getElem plt,List.getD_eq_getElem?_getD,List.getElem?_eq_getElem plt];rfl
    have H1p:∀o,(upd H p o) l=some (.lst (st.1.map V.int)):=fun o=>by rw[za9 npl.symm];exact hl
    have g0:DGet H p (.str "turn") (some (.int st.2)):=by
     have q:=DGet.k (k:=(Sum.inr "turn" : Key)) hp;rw[st_turn] at q;exact q
    have p0:DPut H p (.str "turn") (.int (st.2+1)) (upd H p (.dK (stD l (st.2+1)))):=by
     have q:=DPut.k (k:=(Sum.inr "turn" : Key)) (v:=.int (st.2+1)) hp (by show 2<sizeLine;decide);rw[st_put] at q;exact q
    have gc:∀{H2:Hp},H2 p=some (.dK (stD l (st.2+1)))->DGet H2 p (.str "cells") (some (.ref l)):=fun {H2} e=>by
     have q:=DGet.k (k:=(Sum.inr "cells" : Key)) e;rw[st_cells] at q;exact q
    have lenI:(((st.1.map V.int).length:Nat):Int)=(st.1.length:Int):=by rw[List.length_map]
    -- turn,its store,the place
    refine⟨_,rfl,p,.int st.2,rfl,g0,st.2,1,rfl,rfl,_,rfl,_,rfl,p,_,rfl,p0,?_⟩;refine⟨_,rfl,_,rfl,p,.ref l,rfl,gc zb4,l,_,rfl,.inl (SqL.of (H1p _)),st.2+1,_,rfl,rfl,by rw[lenI];exact n0,?_⟩
    -- the cell
    refine⟨_,rfl,p,.ref l,rfl,gc zb4,_,rfl,l,_,_,.int (st.1.getD (plc st) 0),rfl,rfl,SqL.of (H1p _),by rw[lenI,<-ple];exact atI_nat cel,?_⟩;refine⟨_,rfl,10,18,rfl,rfl,⟨by decide,by decide,by decide⟩,st.1.getD (plc st) 0,_,rfl,rfl,_,rfl,?_⟩;have e18:((10:Int) ^ (18:Int).toNat)=1000000000000000000:=by decide
    by_cases hc:1000000000000000000<=st.1.getD (plc st) 0
    ·rw[if_pos hc] at w
     rw[e18,decide_eq_true hc];refine iteT ?_;refine⟨_,rfl,_,rfl,st.1.getD (plc st) 0,many,rfl,⟨hb.1,hb.2.1⟩,fun q hq=>?_⟩;have qp:p≠q:=zb0 zb4 hq;have ql:l≠q:=zb0 (H1p _) hq;refine⟨q,_,rfl,SqT.of zb4,rfl,_,_,rfl,_,rfl,p,.ref l,rfl,gc (by rw[za9 qp];exact zb4),_,rfl,l,_,_,plc st,rfl,rfl,by rw[za9 ql];exact H1p _,?_,_,_,rfl,rfl,?_⟩
     ·rw[lenI,<-ple]
      unfold ixN;rw[if_pos (by omega),if_pos (by rw[List.length_map];omega)];simp
     ·refine⟨_,rfl,w _ _ (fun b o hb' nm=>?_) ⟨?_,?_,?_,?_,?_⟩ (Is.int_iff.mpr rfl)⟩
      ·have b1:b≠p:=fun z=>nm (.inl z)
       have b2:b≠l:=fun z=>nm (.inr z)
       have b3:b≠q:=fun z=>by
        subst z;rw[za9 b1,hb'] at hq;cases hq
       rw[za9 b2,za9 b3,za9 b1];exact hb'
      ·rw[za9 npl,za9 qp];exact zb4
      ·rw[zb4]
       congr 2;rw[List.map_set]
      ·intro z
       have:=congrArg List.length z;rw[List.length_set] at this;exact hne (List.length_eq_zero_iff.mp this)
      ·show (st.1.set _ _).length<=63
       rw[List.length_set];exact h63
      ·show 0<=st.2+1
       omega
    ·rw[if_neg hc] at w
     rw[e18,decide_eq_false hc];refine iteF ?_;have tb:-(2 ^ 64)<st.2+1/\st.2+1<2 ^ 64:=⟨by omega,by omega⟩;have big:∀(j:Int),-(2 ^ 64)<j/\j<2 ^ 64->∀i:Int,CMul i j:=fun j h i=>.inr h
     refine⟨_,rfl,st.1.getD (plc st) 0,2147483629,rfl,rfl,(by show (0:Int)<2147483629;decide),_,rfl,_,rfl,_,_,rfl,rfl,.inl tb,_,_,rfl,rfl,big _ ⟨by decide,by decide⟩ _,_,_,rfl,rfl,_,_,rfl,rfl,_,_,rfl,rfl,big _ ⟨by decide,by decide⟩ _,_,_,rfl,rfl,(by show (0:Int)<2147483647;decide),?_⟩;have m0:0<=mix1 (st.1.getD (plc st) 0) (st.2+1):=Int.emod_nonneg _ (by decide);have m1:mix1 (st.1.getD (plc st) 0) (st.2+1)<2147483647:=Int.emod_lt_of_pos _ (by decide);refine⟨_,rfl,_,rfl,mix1 (st.1.getD (plc st) 0) (st.2+1),mix1 (st.1.getD (plc st) 0) (st.2+1),rfl,rfl,.inl ⟨by omega,by omega⟩,_,_,rfl,rfl,(by show (0:Int)<2147483587;decide),?_⟩;refine⟨_,rfl,_,rfl,st.2+1,104729,rfl,rfl,big _ ⟨by decide,by decide⟩ _,mix2 (st.1.getD (plc st) 0) (st.2+1),_,rfl,rfl,_,39373,rfl,rfl,big _ ⟨by decide,by decide⟩ _,_,2147483629,rfl,rfl,(by show (0:Int)<2147483629;decide),_,64,rfl,rfl,⟨by decide,by decide⟩,_,rfl,mix3 (st.1.getD (plc st) 0) (st.2+1),many,rfl,rfl,hb.1,?_⟩;refine w _ _ (fun b o hb' nm=>?_) ⟨zb4,H1p _,hne,h63,by show 0<=st.2+1;omega⟩ (Is.int_iff.mpr rfl);rw[za9 (fun z=>nm (.inl z))];exact hb'
   ·exact w.elim
  ·exact w.elim
end
section
noncomputable abbrev s_within:Stmt:=top 9
noncomputable abbrev n_within:List Str:=["wide","high","cell"]
theorem sc_within:zc0 n_within ["wide","high","cell"] (za1 s_within):=⟨rfl,rfl,rfl,by decide +kernel,rfl,by decide +kernel,by decide +kernel⟩
set_option maxHeartbeats 0 in
noncomputable def within_m:{ B:FnS Unit // ∀(P:Program) (w:World) (K:PySem.W.Frag) (mg:Str->Option Value) (base:Heap) (hm:Bn mg) (cs:Cst K mg) (k:Nat) (f:Addr) (cdv:Value) (A:Around) (outer:List Env) (s:Shared) (H:Hp) (E:XK),Room k (A.deeper (envOfC "within" (za1 s_within) s.heap.objs.size f cdv))->
 DSs (cxOf CX0 P w K mg base n_within "within" (za1 s_within) f cdv A outer s H E).nox (cx0 K H) (zb7 s_within) B }:=by
 refine⟨?B,fun P w K mg base hm cs k f cdv A outer s H E hr=>?h⟩;case h=>
  refine' za7 ?q1;case q1=>
   exact zd2 (de_and (ga:=.R) (de_chain (ga:=.R) (gb:=.R) (gc:=.R) op_le op_lt od_B0 od_B0 za5 (gX_ rfl (za0 (pv 2)) za5 (fun _ _=>rfl)) (za0 (pv 0))) (de_one (de_chain (ga:=.R) (gb:=.R) (gc:=.R) op_le op_lt od_B0 od_B0 za5 (gX_ rfl (za0 (pv 2)) za5 (fun _ _=>rfl)) (za0 (pv 1)))))
noncomputable abbrev zn0:Stmt:=top 10
noncomputable abbrev n_covered:List Str:=["kind","place","x","y","cells","i"]
theorem zm9:zc0 n_covered ["kind","place"] (za1 zn0):=⟨rfl,rfl,rfl,by decide +kernel,rfl,by decide +kernel,by decide +kernel⟩
set_option maxHeartbeats 0 in
noncomputable def covered_m:{ B:FnS Unit // ∀(P:Program) (w:World) (K:PySem.W.Frag) (mg:Str->Option Value) (base:Heap) (hm:Bn mg) (cs:Cst K mg) (k:Nat) (f:Addr) (cdv:Value) (A:Around) (outer:List Env) (s:Shared) (H:Hp) (E:XK),Room k (A.deeper (envOfC "covered" (za1 zn0) s.heap.objs.size f cdv))->
 DSs (cxOf CX0 P w K mg base n_covered "covered" (za1 zn0) f cdv A outer s H E).nox (cx0 K H) (zb7 zn0) B }:=by
 refine⟨?B,fun P w K mg base hm cs k f cdv A outer s H E hr=>?h⟩;case h=>
  refine' za4 ?q1 ?r1;case q1=>
   exact ds_asg (zf4 (pv 1)) (dg_tup (n:=2) rfl rfl (zc1 (zb3 (i:=2) zm9.nd rfl (Or.inr rfl)) (zc1 (zb3 (i:=3) zm9.nd rfl (Or.inr rfl)) zl1)))
  case r1=>
  refine' za4 ?q2 ?r2;case q2=>
   exact zb8 (i:=4) zm9.nd rfl (Or.inl rfl) (gL_ za2)
  case r2=>
  refine' za4 ?q3 ?r3;case q3=>
   refine' zj1 [] PassesOwn.never rfl ?i4 ?g4 ?b4;case i4=>exact(ze0 rfl hm.range (gDS_ (gX_ rfl (za0 (pv 0)) za5 (fun _ _=>rfl)) za2))
   case g4=>exact(zb3 (i:=5) zm9.nd rfl (Or.inr rfl))
   case b4=>
    refine' za7 ?q5;case q5=>
     exact ds_mt (i:=4) mt_extend md_extend PySem.F.slot_list_extend PySem.F.type_list_extend (pv 4) (zl2 (N':=["j","x","i","y"]) (ixs:=[none,some 2,some 5,some 3]) [] (zl8.scope (N:=n_covered) (osc:=za1 zn0) (by decide +kernel)) rfl (ze0 rfl hm.range (gDS_ (gX_ rfl (za0 (pv 0)) za5 (fun _ _=>rfl)) za2)) (fun av cl C s H fp=>⟨(zb3 (i:=0) (show (["j","x","i","y"]:List Str).Nodup by decide +kernel) rfl (Or.inl rfl)),zm6,(gU_ (gDB_ (gP_ rfl (za0 (pv 1)) (za0 (pv 2))) (gDB_ (gP_ rfl (za0 (pv 3)) (za0 (pv 0))) za2)))⟩)) rfl
  case r3=>
  refine' za7 ?q6;case q6=>
   exact zl0 (pv 4)
noncomputable abbrev s_holders:Stmt:=top 11
noncomputable abbrev n_holders:List Str:=["hall","stand","held","wall","n","kind","cell"]
theorem zj8:zc0 n_holders ["hall","stand"] (za1 s_holders):=⟨rfl,rfl,rfl,by decide +kernel,rfl,by decide +kernel,by decide +kernel⟩
set_option maxHeartbeats 0 in
noncomputable def holders_m (G_covered:List D->Res Unit D):{ B:FnS Unit // ∀(P:Program) (w:World) (K:PySem.W.Frag) (mg:Str->Option Value) (base:Heap) (hm:Bn mg) (cs:Cst K mg) (k:Nat) (C_covered:zc4 P w K mg base k "covered" ["kind","place"] (sp0 K G_covered)) (f:Addr) (cdv:Value) (A:Around) (outer:List Env) (s:Shared) (H:Hp) (E:XK),Room k (A.deeper (envOfC "holders" (za1 s_holders) s.heap.objs.size f cdv))->
 DSs (cxOf CX0 P w K mg base n_holders "holders" (za1 s_holders) f cdv A outer s H E).nox (cx0 K H) (zb7 s_holders) B }:=by
 refine⟨?B,fun P w K mg base hm cs k C_covered f cdv A outer s H E hr=>?h⟩;case h=>
  refine' za4 ?q1 ?r1;case q1=>
   exact zb8 (i:=2) zj8.nd rfl (Or.inl rfl) de_dnewT
  case r1=>
  refine' za4 ?q2 ?r2;case q2=>
   refine' zj1 [] PassesOwn.never rfl ?i3 ?g3 ?b3;case i3=>exact(zp2 rfl (gX_ rfl (za0 (pv 0)) za5 (fun _ _=>rfl)))
   case g3=>exact(zb3 (i:=3) zj8.nd rfl (Or.inl rfl))
   case b3=>
    refine' za7 ?q4;case q4=>
     exact ds_dput (hu_of hr) (pv 2) (ga:=.R) (gb:=.R) (za0 (pv 3)) (de_globP cs.WALL rfl)
  case r2=>
  refine' za4 ?q5 ?r5;case q5=>
   refine' zj1 [] PassesOwn.never rfl ?i6 ?g6 ?b6;case i6=>exact(di_enum rfl rfl hm.enumerate (gDS_ (gX_ rfl (za0 (pv 0)) za5 (fun _ _=>rfl)) za2))
   case g6=>exact(dg_tup (n:=2) rfl rfl (zc1 (zb3 (i:=4) zj8.nd rfl (Or.inl rfl)) (zc1 (zb3 (i:=5) zj8.nd rfl (Or.inl rfl)) zl1)))
   case b6=>
    refine' za7 ?q7;case q7=>
     refine' zj1 [] PassesOwn.never rfl ?i8 ?g8 ?b8;case i8=>exact(zp2 rfl (zc2 C_covered hr rfl (gDN_ (za0 (pv 5)) (gDS_ (gX_ rfl (za0 (pv 1)) (za0 (pv 4)) (fun _ _=>rfl)) za2))))
     case g8=>exact(zb3 (i:=6) zj8.nd rfl (Or.inl rfl))
     case b8=>
      refine' za7 ?q9;case q9=>
       exact ds_dput (hu_of hr) (pv 2) (ga:=.R) (gb:=.R) (za0 (pv 6)) (za0 (pv 4))
  case r5=>
  refine' za7 ?q10;case q10=>
   exact zl0 (pv 2)
noncomputable abbrev s_goes:Stmt:=top 16
noncomputable abbrev n_goes:List Str:=["ways","direction"]
theorem sc_goes:zc0 n_goes ["ways","direction"] (za1 s_goes):=⟨rfl,rfl,rfl,by decide +kernel,rfl,by decide +kernel,by decide +kernel⟩
set_option maxHeartbeats 0 in
noncomputable def goes_m:{ B:FnS Unit // ∀(P:Program) (w:World) (K:PySem.W.Frag) (mg:Str->Option Value) (base:Heap) (hm:Bn mg) (cs:Cst K mg) (k:Nat) (f:Addr) (cdv:Value) (A:Around) (outer:List Env) (s:Shared) (H:Hp) (E:XK),Room k (A.deeper (envOfC "goes" (za1 s_goes) s.heap.objs.size f cdv))->
 DSs (cxOf CX0 P w K mg base n_goes "goes" (za1 s_goes) f cdv A outer s H E).nox (cx0 K H) (zb7 s_goes) B }:=by
 refine⟨?B,fun P w K mg base hm cs k f cdv A outer s H E hr=>?h⟩;case h=>
  refine' za4 ?q1 ?r1;case q1=>
   refine' ds_if ?t2 ?a2 ?b2;case t2=>exact(gT_ (zd3 (ga:=.R) (gb:=.R) (zi5 hr) (ze3 rfl) (za0 (pv 0)) zf5 rfl))
   case a2=>
    refine' za7 ?q3;case q3=>
     exact zd2 (g2_ (zp3 (ga:=.R) (gb:=.R) (zi5 hr) (ze3 rfl) (g2_ (de_op (ga:=.R) (gb:=.R) op_mod od_I (za0 (pv 1)) za5)) za5 rfl))
   case b2=>
    exact zd0
  case r1=>
  refine' za4 ?q4 ?r4;case q4=>
   refine' ds_if ?t5 ?a5 ?b5;case t5=>exact(gT_ (zd3 (ga:=.R) (gb:=.R) (zi5 hr) (ze3 rfl) (za0 (pv 0)) zf5 rfl))
   case a5=>
    refine' za7 ?q6;case q6=>
     exact zd2 (g2_ (zp3 (ga:=.R) (gb:=.R) (zi5 hr) (ze3 rfl) (g2_ (de_op (ga:=.R) (gb:=.R) op_mod od_I (za0 (pv 1)) za5)) za5 rfl))
   case b5=>
    exact zd0
  case r4=>
  refine' za7 ?q7;case q7=>
   exact zd2 (g2_ (zp3 (ga:=.R) (gb:=.R) (zi5 hr) (ze3 rfl) (za0 (pv 0)) zf5 rfl))
noncomputable abbrev zh5:Stmt:=top 17
noncomputable abbrev n_one_further:List Str:=["place","direction","east","north"]
theorem sc_one_further:zc0 n_one_further ["place","direction"] (za1 zh5):=⟨rfl,rfl,rfl,by decide +kernel,rfl,by decide +kernel,by decide +kernel⟩
set_option maxHeartbeats 0 in
noncomputable def zn9:{ B:FnS Unit // ∀(P:Program) (w:World) (K:PySem.W.Frag) (mg:Str->Option Value) (base:Heap) (hm:Bn mg) (cs:Cst K mg) (k:Nat) (f:Addr) (cdv:Value) (A:Around) (outer:List Env) (s:Shared) (H:Hp) (E:XK),Room k (A.deeper (envOfC "one_further" (za1 zh5) s.heap.objs.size f cdv))->
 DSs (cxOf CX0 P w K mg base n_one_further "one_further" (za1 zh5) f cdv A outer s H E).nox (cx0 K H) (zb7 zh5) B }:=by
 refine⟨?B,fun P w K mg base hm cs k f cdv A outer s H E hr=>?h⟩;case h=>
  refine' za4 ?q1 ?r1;case q1=>
   exact ds_tab2 (tbl:=[(1,0),(0,1),(-1,0),(0,-1)]) (i:=2) (j:=3) (a0:=0) rfl rfl cs.STEPS rfl sc_one_further.nd rfl rfl (Or.inl rfl) (Or.inl rfl) (za0 (pv 1)) (fun _ _=>rfl)
  case r1=>
  refine' za7 ?q2;case q2=>
   exact zd2 (gU_ (gDB_ (gP_ rfl (gX_ rfl (za0 (pv 0)) za5 (fun _ _=>rfl)) (za0 (pv 2))) (gDB_ (gP_ rfl (gX_ rfl (za0 (pv 0)) za5 (fun _ _=>rfl)) (za0 (pv 3))) za2)))
noncomputable abbrev s_met_by:Stmt:=top 18
noncomputable abbrev n_met_by:List Str:=["hall","stand","held","n","direction","kind","met","cell","holder"]
theorem sc_met_by:zc0 n_met_by ["hall","stand","held","n","direction"] (za1 s_met_by):=⟨rfl,rfl,rfl,by decide +kernel,rfl,by decide +kernel,by decide +kernel⟩
set_option maxHeartbeats 0 in
noncomputable def met_by_m (G_goes:List D->Res Unit D) (G_covered:List D->Res Unit D) (G_one_further:List D->Res Unit D) (G_within:List D->Res Unit D):{ B:FnS Unit // ∀(P:Program) (w:World) (K:PySem.W.Frag) (mg:Str->Option Value) (base:Heap) (hm:Bn mg) (cs:Cst K mg) (k:Nat) (C_goes:zc4 P w K mg base k "goes" ["ways","direction"] (sp0 K G_goes)) (C_covered:zc4 P w K mg base k "covered" ["kind","place"] (sp0 K G_covered)) (C_one_further:zc4 P w K mg base k "one_further" ["place","direction"] (sp0 K G_one_further)) (C_within:zc4 P w K mg base k "within" ["wide","high","cell"] (sp0 K G_within)) (f:Addr) (cdv:Value) (A:Around) (outer:List Env) (s:Shared) (H:Hp) (E:XK),Room k (A.deeper (envOfC "met_by" (za1 s_met_by) s.heap.objs.size f cdv))->
 DSs (cxOf CX0 P w K mg base n_met_by "met_by" (za1 s_met_by) f cdv A outer s H E).nox (cx0 K H) (zb7 s_met_by) B }:=by
 refine⟨?B,fun P w K mg base hm cs k C_goes C_covered C_one_further C_within f cdv A outer s H E hr=>?h⟩;case h=>
  refine' za4 ?q1 ?r1;case q1=>
   exact zb8 (i:=5) sc_met_by.nd rfl (Or.inl rfl) (gX_ rfl (gX_ rfl (za0 (pv 0)) za5 (fun _ _=>rfl)) (za0 (pv 3)) (fun _ _=>rfl))
  case r1=>
  refine' za4 ?q2 ?r2;case q2=>
   refine' ds_if ?t3 ?a3 ?b3;case t3=>exact(dt_not (zk9 (g:=.R) (zc2 C_goes hr rfl (gDS_ (gX_ rfl (za0 (pv 5)) za5 (fun _ _=>rfl)) (gDN_ (za0 (pv 4)) za2)))))
   case a3=>
    refine' za7 ?q4;case q4=>
     exact zd2 zf9
   case b3=>
    exact zd0
  case r2=>
  refine' za4 ?q5 ?r5;case q5=>
   exact zb8 (i:=6) sc_met_by.nd rfl (Or.inl rfl) (gL_ za2)
  case r5=>
  refine' za4 ?q6 ?r6;case q6=>
   refine' zj1 [] PassesOwn.never rfl ?i7 ?g7 ?b7;case i7=>exact(zp2 rfl (zc2 C_covered hr rfl (gEN_ (za0 (pv 5)) (gEC_ (zc2 C_one_further hr rfl (gDS_ (gX_ rfl (za0 (pv 1)) (za0 (pv 3)) (fun _ _=>rfl)) (gDN_ (za0 (pv 4)) za2))) za2))))
   case g7=>exact(zb3 (i:=7) sc_met_by.nd rfl (Or.inl rfl))
   case b7=>
    refine' za4 ?q8 ?r8;case q8=>
     exact zb8 (i:=8) sc_met_by.nd rfl (Or.inl rfl) (de_get (ga:=.R) (gb:=.R) (gc:=.R) (hu_of hr) (za0 (pv 2)) (za0 (pv 7)) (za0 (pv 3)) ⟨rfl,rfl,rfl,rfl⟩)
    case r8=>
    refine' za4 ?q9 ?r9;case q9=>
     refine' ds_if ?t10 ?a10 ?b10;case t10=>exact(DW.dt (dw_or (gT_ (zd3 (ga:=.R) (gb:=.R) (zi5 hr) (ze3 rfl) (za0 (pv 8)) (de_globP cs.WALL rfl) rfl)) (dw_or1 (dt_not (zk9 (g:=.R) (zc2 C_within hr rfl (gDS_ (gX_ rfl (za0 (pv 0)) za5 (fun _ _=>rfl)) (gDS_ (gX_ rfl (za0 (pv 0)) za5 (fun _ _=>rfl)) (gDN_ (za0 (pv 7)) za2)))))))))
     case a10=>
      refine' za7 ?q11;case q11=>
       exact zd2 zf9
     case b10=>
      exact zd0
    case r9=>
    refine' za7 ?q12;case q12=>
     refine' ds_if ?t13 ?a13 ?b13;case t13=>exact(DW.dt (dw_and (gT_ (zd3 (ga:=.R) (gb:=.R) (op_neD hr) (ze3 rfl) (za0 (pv 8)) (za0 (pv 3)) rfl)) (dw_and1 (gT_ (zd3 (ga:=.R) (gb:=.R) (op_notInD hr) (od_inD rfl) (za0 (pv 8)) (za0 (pv 6)) rfl)))))
     case a13=>
      refine' za7 ?q14;case q14=>
       exact ds_mt (i:=6) zk8 zn5 PySem.F.slot_list_append PySem.F.type_list_append (pv 6) (za0 (pv 8)) rfl
     case b13=>
      exact zd0
  case r6=>
  refine' za7 ?q15;case q15=>
   exact zl0 (pv 6)
noncomputable abbrev ze4:Stmt:=top 19
noncomputable abbrev zm3:List Str:=["hall","stand","held","n","direction","strong","going","asked","met"]
theorem zd9:zc0 zm3 ["hall","stand","held","n","direction"] (za1 ze4):=⟨rfl,rfl,rfl,by decide +kernel,rfl,by decide +kernel,by decide +kernel⟩
set_option maxHeartbeats 0 in
noncomputable def zm5 (G_met_by:List D->Res Unit D):{ B:FnS Unit // ∀(P:Program) (w:World) (K:PySem.W.Frag) (mg:Str->Option Value) (base:Heap) (hm:Bn mg) (cs:Cst K mg) (k:Nat) (C_met_by:zc4 P w K mg base k "met_by" ["hall","stand","held","n","direction"] (sp0 K G_met_by)) (f:Addr) (cdv:Value) (A:Around) (outer:List Env) (s:Shared) (H:Hp) (E:XK),Room k (A.deeper (envOfC "movers_among" (za1 ze4) s.heap.objs.size f cdv))->
 DSs (cxOf CX0 P w K mg base zm3 "movers_among" (za1 ze4) f cdv A outer s H E).nox (cx0 K H) (zb7 ze4) B }:=by
 refine⟨?B,fun P w K mg base hm cs k C_met_by f cdv A outer s H E hr=>?h⟩;case h=>
  refine' za4 ?q1 ?r1;case q1=>
   exact zb8 (i:=5) zd9.nd rfl (Or.inl rfl) (gX_ rfl (gX_ rfl (gX_ rfl (za0 (pv 0)) za5 (fun _ _=>rfl)) (za0 (pv 3)) (fun _ _=>rfl)) za5 (fun _ _=>rfl))
  case r1=>
  refine' za4 ?q2 ?r2;case q2=>
   refine' ds_if ?t3 ?a3 ?b3;case t3=>exact(gT_ (zd3 (ga:=.R) (gb:=.R) (zi5 hr) (ze3 rfl) (za0 (pv 5)) (de_globP cs.DULL rfl) rfl))
   case a3=>
    refine' za7 ?q4;case q4=>
     exact zd2 zf9
   case b3=>
    exact zd0
  case r2=>
  refine' za4 ?q5 ?r5;case q5=>
   exact zb8 (i:=6) zd9.nd rfl (Or.inr rfl) (gL_ (gDN_ (za0 (pv 3)) za2))
  case r5=>
  refine' za4 ?q6 ?r6;case q6=>
   exact zb8 (i:=7) zd9.nd rfl (Or.inl rfl) za5
  case r6=>
  refine' za4 ?q7 ?r7;case q7=>
   refine' ds_while PassesOwn.never ?t8 ?b8;case t8=>exact(gT_ (zd3 (ga:=.R) (gb:=.R) op_lt od_B0 (za0 (pv 7)) (gA_ (de_cb (gDN_ (za0 (pv 6)) za2) zc6 (cd_len rfl) rfl hm.len PySem.boot_len)) rfl))
   case b8=>
    refine' za4 ?q9 ?r9;case q9=>
     exact zb8 (i:=8) zd9.nd rfl (Or.inl rfl) (zc2 C_met_by hr rfl (gDN_ (za0 (pv 0)) (gDN_ (za0 (pv 1)) (gDN_ (za0 (pv 2)) (gDS_ (gX_ rfl (za0 (pv 6)) (za0 (pv 7)) (fun _ _=>rfl)) (gDN_ (za0 (pv 4)) za2))))))
    case r9=>
    refine' za4 ?q10 ?r10;case q10=>
     refine' ds_if ?t11 ?a11 ?b11;case t11=>exact(DW.dt (dw_or (gT_ (zd3 (ga:=.R) (gb:=.R) op_isN od_isN (za0 (pv 8)) zf9 rfl)) (dw_or1 (DW.dt (dw_and (gT_ (zd3 (ga:=.R) (gb:=.R) (op_neD hr) (ze3 rfl) (za0 (pv 8)) (gL_ za2) rfl)) (dw_and1 (gT_ (zd3 (ga:=.R) (gb:=.R) (op_neD hr) (ze3 rfl) (za0 (pv 5)) (de_globP cs.STRONG rfl) rfl))))))))
     case a11=>
      refine' za7 ?q12;case q12=>
       exact zd2 zf9
     case b11=>
      exact zd0
    case r10=>
    refine' za4 ?q13 ?r13;case q13=>
     exact ds_mt (i:=6) mt_extend md_extend PySem.F.slot_list_extend PySem.F.type_list_extend (pv 6) (zl2 (N':=["other","going"]) (ixs:=[none,some 6]) [8] (zl8.scope (N:=zm3) (osc:=za1 ze4) (by decide +kernel)) rfl (zp2 rfl (zf4 (pv 8))) (fun av cl C s H fp=>⟨(zb3 (i:=0) (show (["other","going"]:List Str).Nodup by decide +kernel) rfl (Or.inl rfl)),(dts_one (gT_ (zd3 (ga:=.R) (gb:=.R) (op_notInD hr) (od_inD rfl) (za0 (pv 0)) (za0 (pv 1)) rfl))),(za0 (pv 0))⟩)) rfl
    case r13=>
    refine' za7 ?q14;case q14=>
     exact ds_aug (i:=7) zd9.nd rfl (Or.inl rfl) ip_add za5
  case r7=>
  refine' za7 ?q15;case q15=>
   exact zd2 (gA_ (de_ct (gDC_ (gA_ (de_cb (gDN_ (za0 (pv 6)) za2) call_sorted (cd_sorted rfl) rfl hm.sorted boot_sorted)) za2) zf7 (cd_tuple rfl) rfl hm.tuple boot_tuple))
noncomputable abbrev s_movers:Stmt:=top 20
noncomputable abbrev n_movers:List Str:=["hall","stand","n","direction"]
theorem sc_movers:zc0 n_movers ["hall","stand","n","direction"] (za1 s_movers):=⟨rfl,rfl,rfl,by decide +kernel,rfl,by decide +kernel,by decide +kernel⟩
set_option maxHeartbeats 0 in
noncomputable def movers_m (G_movers_among:List D->Res Unit D) (G_holders:List D->Res Unit D):{ B:FnS Unit // ∀(P:Program) (w:World) (K:PySem.W.Frag) (mg:Str->Option Value) (base:Heap) (hm:Bn mg) (cs:Cst K mg) (k:Nat) (C_movers_among:zc4 P w K mg base k "movers_among" ["hall","stand","held","n","direction"] (sp0 K G_movers_among)) (C_holders:zc4 P w K mg base k "holders" ["hall","stand"] (sp0 K G_holders)) (f:Addr) (cdv:Value) (A:Around) (outer:List Env) (s:Shared) (H:Hp) (E:XK),Room k (A.deeper (envOfC "movers" (za1 s_movers) s.heap.objs.size f cdv))->
 DSs (cxOf CX0 P w K mg base n_movers "movers" (za1 s_movers) f cdv A outer s H E).nox (cx0 K H) (zb7 s_movers) B }:=by
 refine⟨?B,fun P w K mg base hm cs k C_movers_among C_holders f cdv A outer s H E hr=>?h⟩;case h=>
  refine' za7 ?q1;case q1=>
   exact zd2 (zc2 C_movers_among hr rfl (gEN_ (za0 (pv 0)) (gEN_ (za0 (pv 1)) (gEC_ (zc2 C_holders hr rfl (gDN_ (za0 (pv 0)) (gDN_ (za0 (pv 1)) za2))) (gDN_ (za0 (pv 2)) (gDN_ (za0 (pv 3)) za2))))))
noncomputable abbrev zh6:Stmt:=top 21
noncomputable abbrev n_behind_step:List Str:=["stand","going","direction","places","n"]
theorem zm0:zc0 n_behind_step ["stand","going","direction"] (za1 zh6):=⟨rfl,rfl,rfl,by decide +kernel,rfl,by decide +kernel,by decide +kernel⟩
set_option maxHeartbeats 0 in
noncomputable def zo7 (G_one_further:List D->Res Unit D):{ B:FnS Unit // ∀(P:Program) (w:World) (K:PySem.W.Frag) (mg:Str->Option Value) (base:Heap) (hm:Bn mg) (cs:Cst K mg) (k:Nat) (C_one_further:zc4 P w K mg base k "one_further" ["place","direction"] (sp0 K G_one_further)) (f:Addr) (cdv:Value) (A:Around) (outer:List Env) (s:Shared) (H:Hp) (E:XK),Room k (A.deeper (envOfC "behind_step" (za1 zh6) s.heap.objs.size f cdv))->
 DSs (cxOf CX0 P w K mg base n_behind_step "behind_step" (za1 zh6) f cdv A outer s H E).nox (cx0 K H) (zb7 zh6) B }:=by
 refine⟨?B,fun P w K mg base hm cs k C_one_further f cdv A outer s H E hr=>?h⟩;case h=>
  refine' za4 ?q1 ?r1;case q1=>
   exact zb8 (i:=3) zm0.nd rfl (Or.inl rfl) (gA_ (de_ct (gDN_ (za0 (pv 0)) za2) call_list_of (cd_list rfl) rfl hm.list boot_list))
  case r1=>
  refine' za4 ?q2 ?r2;case q2=>
   refine' zj1 [1] PassesOwn.never rfl ?i3 ?g3 ?b3;case i3=>exact(zp2 rfl (zf4 (pv 1)))
   case g3=>exact(zb3 (i:=4) zm0.nd rfl (Or.inl rfl))
   case b3=>
    refine' za7 ?q4;case q4=>
     exact ds_setitem (pv 3) (ga:=.R) (gb:=.R) (za0 (pv 4)) (zc2 C_one_further hr rfl (gDS_ (gX_ rfl (za0 (pv 0)) (za0 (pv 4)) (fun _ _=>rfl)) (gDN_ (za0 (pv 2)) za2))) (fun hk hv=>ps_asg hv (pg_sub (pv 3) hk set_list))
  case r2=>
  refine' za7 ?q5;case q5=>
   exact zd2 (gA_ (de_ct (gDN_ (za0 (pv 3)) za2) zf7 (cd_tuple rfl) rfl hm.tuple boot_tuple))
noncomputable abbrev s_pushed:Stmt:=top 22
noncomputable abbrev n_pushed:List Str:=["hall","stand","push","n","direction","many","behind","step","going"]
theorem zi6:zc0 n_pushed ["hall","stand","push"] (za1 s_pushed):=⟨rfl,rfl,rfl,by decide +kernel,rfl,by decide +kernel,by decide +kernel⟩
set_option maxHeartbeats 0 in
noncomputable def pushed_m (G_movers:List D->Res Unit D) (G_behind_step:List D->Res Unit D):{ B:FnS Unit // ∀(P:Program) (w:World) (K:PySem.W.Frag) (mg:Str->Option Value) (base:Heap) (hm:Bn mg) (cs:Cst K mg) (C:Addr) (hC:mg "Barred" = some (.ref C)) (hR:BarR K mg C) (k:Nat) (h2:2<=k) (C_movers:zc4 P w K mg base k "movers" ["hall","stand","n","direction"] (sp0 K G_movers)) (C_behind_step:zc4 P w K mg base k "behind_step" ["stand","going","direction"] (sp0 K G_behind_step)) (f:Addr) (cdv:Value) (A:Around) (outer:List Env) (s:Shared) (H:Hp) (E:XK),Room k (A.deeper (envOfC "pushed" (za1 s_pushed) s.heap.objs.size f cdv))->
 DSs (cxOf (CX2 P w) P w K mg base n_pushed "pushed" (za1 s_pushed) f cdv A outer s H E) (cxB K H C E) (zb7 s_pushed) B }:=by
 refine⟨?B,fun P w K mg base hm cs C hC hR k h2 C_movers C_behind_step f cdv A outer s H E hr=>?h⟩;case h=>
  refine' za4 ?q1 ?r1;case q1=>
   exact ds_asg (zf4 (pv 2)) (dg_tup (n:=3) rfl rfl (zc1 (zb3 (i:=3) zi6.nd rfl (Or.inl rfl)) (zc1 (zb3 (i:=4) zi6.nd rfl (Or.inl rfl)) (zc1 (zb3 (i:=5) zi6.nd rfl (Or.inl rfl)) zl1))))
  case r1=>
  refine' za4 ?q2 ?r2;case q2=>
   exact ds_setB (i:=6) zi6.nd rfl (Or.inl rfl) (zf4 (pv 1))
  case r2=>
  refine' za4 ?q3 ?r3;case q3=>
   refine' zj1 [] PassesOwn.leaving rfl ?i4 ?g4 ?b4;case i4=>exact(ze0 rfl hm.range (gDN_ (za0 (pv 5)) za2))
   case g4=>exact(zb3 (i:=7) zi6.nd rfl (Or.inl rfl))
   case b4=>
    refine' za4 ?q5 ?r5;case q5=>
     exact zb8 (i:=8) zi6.nd rfl (Or.inl rfl) (zc2 C_movers hr rfl (gDN_ (za0 (pv 0)) (gDN_ (za0 (pv 6)) (gDN_ (za0 (pv 3)) (gDN_ (za0 (pv 4)) za2)))))
    case r5=>
    refine' za4 ?q6 ?r6;case q6=>
     refine' ds_if ?t7 ?a7 ?b7;case t7=>exact(gT_ (zd3 (ga:=.R) (gb:=.R) op_isN od_isN (za0 (pv 8)) zf9 rfl))
     case a7=>
      refine' za7 ?q8;case q8=>
       exact ds_raiseB (E:=E) hR hr h2 rfl rfl hC (gDK_ za5 (gDN_ (za0 (pv 7)) za2)) made2_cxOf (fun _ _ _ h=>h)
     case b7=>
      exact zd0
    case r6=>
    refine' za7 ?q9;case q9=>
     exact zb8 (i:=6) zi6.nd rfl (Or.inl rfl) (zc2 C_behind_step hr rfl (gDN_ (za0 (pv 6)) (gDN_ (za0 (pv 8)) (gDN_ (za0 (pv 4)) za2))))
  case r3=>
  refine' za7 ?q10;case q10=>
   exact zl0 (pv 6)
noncomputable abbrev zg0:Stmt:=top 23
noncomputable abbrev n_stands_along:List Str:=["hall","stand","held","n","direction","stands","last","going"]
theorem zd8:zc0 n_stands_along ["hall","stand","held","n","direction"] (za1 zg0):=⟨rfl,rfl,rfl,by decide +kernel,rfl,by decide +kernel,by decide +kernel⟩
set_option maxHeartbeats 0 in
noncomputable def zl9 (G_movers_among:List D->Res Unit D) (G_behind_step:List D->Res Unit D) (G_movers:List D->Res Unit D):{ B:FnS Unit // ∀(P:Program) (w:World) (K:PySem.W.Frag) (mg:Str->Option Value) (base:Heap) (hm:Bn mg) (cs:Cst K mg) (k:Nat) (C_movers_among:zc4 P w K mg base k "movers_among" ["hall","stand","held","n","direction"] (sp0 K G_movers_among)) (C_behind_step:zc4 P w K mg base k "behind_step" ["stand","going","direction"] (sp0 K G_behind_step)) (C_movers:zc4 P w K mg base k "movers" ["hall","stand","n","direction"] (sp0 K G_movers)) (f:Addr) (cdv:Value) (A:Around) (outer:List Env) (s:Shared) (H:Hp) (E:XK),Room k (A.deeper (envOfC "stands_along" (za1 zg0) s.heap.objs.size f cdv))->
 DSs (cxOf CX0 P w K mg base n_stands_along "stands_along" (za1 zg0) f cdv A outer s H E).nox (cx0 K H) (zb7 zg0) B }:=by
 refine⟨?B,fun P w K mg base hm cs k C_movers_among C_behind_step C_movers f cdv A outer s H E hr=>?h⟩;case h=>
  refine' za4 ?q1 ?r1;case q1=>
   exact zb8 (i:=5) zd8.nd rfl (Or.inl rfl) (gL_ za2)
  case r1=>
  refine' za4 ?q2 ?r2;case q2=>
   exact ds_setB (i:=6) zd8.nd rfl (Or.inl rfl) (zf4 (pv 1))
  case r2=>
  refine' za4 ?q3 ?r3;case q3=>
   exact zb8 (i:=7) zd8.nd rfl (Or.inl rfl) (zc2 C_movers_among hr rfl (gDN_ (za0 (pv 0)) (gDN_ (za0 (pv 1)) (gDN_ (za0 (pv 2)) (gDN_ (za0 (pv 3)) (gDN_ (za0 (pv 4)) za2))))))
  case r3=>
  refine' za4 ?q4 ?r4;case q4=>
   refine' ds_while PassesOwn.never ?t5 ?b5;case t5=>exact(gT_ (zd3 (ga:=.R) (gb:=.R) op_notN od_notN (za0 (pv 7)) zf9 rfl))
   case b5=>
    refine' za4 ?q6 ?r6;case q6=>
     exact zb8 (i:=6) zd8.nd rfl (Or.inl rfl) (zc2 C_behind_step hr rfl (gDN_ (za0 (pv 6)) (gDN_ (za0 (pv 7)) (gDN_ (za0 (pv 4)) za2))))
    case r6=>
    refine' za4 ?q7 ?r7;case q7=>
     exact ds_mt (i:=5) zk8 zn5 PySem.F.slot_list_append PySem.F.type_list_append (pv 5) (za0 (pv 6)) rfl
    case r7=>
    refine' za7 ?q8;case q8=>
     exact zb8 (i:=7) zd8.nd rfl (Or.inl rfl) (zc2 C_movers hr rfl (gDN_ (za0 (pv 0)) (gDN_ (za0 (pv 6)) (gDN_ (za0 (pv 3)) (gDN_ (za0 (pv 4)) za2)))))
  case r4=>
  refine' za7 ?q9;case q9=>
   exact zl0 (pv 5)
noncomputable abbrev zd1:Stmt:=top 24
noncomputable abbrev zi1:List Str:=["hall","stand","held","pairs","n","direction","ends"]
theorem zc7:zc0 zi1 ["hall","stand"] (za1 zd1):=⟨rfl,rfl,rfl,by decide +kernel,rfl,by decide +kernel,by decide +kernel⟩
set_option maxHeartbeats 0 in
noncomputable def zh9 (G_holders:List D->Res Unit D) (G_stands_along:List D->Res Unit D):{ B:FnS Unit // ∀(P:Program) (w:World) (K:PySem.W.Frag) (mg:Str->Option Value) (base:Heap) (hm:Bn mg) (cs:Cst K mg) (k:Nat) (C_holders:zc4 P w K mg base k "holders" ["hall","stand"] (sp0 K G_holders)) (C_stands_along:zc4 P w K mg base k "stands_along" ["hall","stand","held","n","direction"] (sp0 K G_stands_along)) (f:Addr) (cdv:Value) (A:Around) (outer:List Env) (s:Shared) (H:Hp) (E:XK),Room k (A.deeper (envOfC "pushes_with_ends" (za1 zd1) s.heap.objs.size f cdv))->
 DSs (cxOf CX0 P w K mg base zi1 "pushes_with_ends" (za1 zd1) f cdv A outer s H E).nox (cx0 K H) (zb7 zd1) B }:=by
 refine⟨?B,fun P w K mg base hm cs k C_holders C_stands_along f cdv A outer s H E hr=>?h⟩;case h=>
  refine' za4 ?q1 ?r1;case q1=>
   exact zb8 (i:=2) zc7.nd rfl (Or.inl rfl) (zc2 C_holders hr rfl (gDN_ (za0 (pv 0)) (gDN_ (za0 (pv 1)) za2)))
  case r1=>
  refine' za4 ?q2 ?r2;case q2=>
   exact zb8 (i:=3) zc7.nd rfl (Or.inl rfl) (gL_ za2)
  case r2=>
  refine' za4 ?q3 ?r3;case q3=>
   refine' zj1 [] PassesOwn.never rfl ?i4 ?g4 ?b4;case i4=>exact(ze0 rfl hm.range (gDC_ (gA_ (de_cb (gDN_ (za0 (pv 1)) za2) zc6 (cd_len rfl) rfl hm.len PySem.boot_len)) za2))
   case g4=>exact(zb3 (i:=4) zc7.nd rfl (Or.inr rfl))
   case b4=>
    refine' za7 ?q5;case q5=>
     refine' zj1 [] PassesOwn.never rfl ?i6 ?g6 ?b6;case i6=>exact(ze0 rfl hm.range (gDK_ za5 za2))
     case g6=>exact(zb3 (i:=5) zc7.nd rfl (Or.inr rfl))
     case b6=>
      refine' za4 ?q7 ?r7;case q7=>
       exact zb8 (i:=6) zc7.nd rfl (Or.inl rfl) (zc2 C_stands_along hr rfl (gDN_ (za0 (pv 0)) (gDN_ (za0 (pv 1)) (gDN_ (za0 (pv 2)) (gDN_ (za0 (pv 4)) (gDN_ (za0 (pv 5)) za2))))))
      case r7=>
      refine' za7 ?q8;case q8=>
       exact ds_mt (i:=3) mt_extend md_extend PySem.F.slot_list_extend PySem.F.type_list_extend (pv 3) (zl2 (N':=["many","end","n","direction"]) (ixs:=[none,none,some 4,some 5]) [6] (zl8.scope (N:=zi1) (osc:=za1 zd1) (by decide +kernel)) rfl (di_enum1 rfl hm.enumerate (db_cons (zf4 (pv 6)) db_nil)) (fun av cl C s H fp=>⟨(dg_tup (n:=2) rfl rfl (zc1 (zb3 (i:=0) (show (["many","end","n","direction"]:List Str).Nodup by decide +kernel) rfl (Or.inl rfl)) (zc1 (zb3 (i:=1) (show (["many","end","n","direction"]:List Str).Nodup by decide +kernel) rfl (Or.inl rfl)) zl1))),zm6,(gU_ (gDT_ (gU_ (gDN_ (za0 (pv 2)) (gDN_ (za0 (pv 3)) (gDN_ (za0 (pv 0)) za2)))) (gDN_ (za0 (pv 1)) za2)))⟩)) rfl
  case r3=>
  refine' za7 ?q9;case q9=>
   exact zl0 (pv 3)
noncomputable abbrev zh0:Stmt:=top 25
noncomputable abbrev n_all_pushes:List Str:=["hall","stand"]
theorem sc_all_pushes:zc0 n_all_pushes ["hall","stand"] (za1 zh0):=⟨rfl,rfl,rfl,by decide +kernel,rfl,by decide +kernel,by decide +kernel⟩
set_option maxHeartbeats 0 in
noncomputable def all_pushes_m (G_pushes_with_ends:List D->Res Unit D):{ B:FnS Unit // ∀(P:Program) (w:World) (K:PySem.W.Frag) (mg:Str->Option Value) (base:Heap) (hm:Bn mg) (cs:Cst K mg) (k:Nat) (C_pushes_with_ends:zc4 P w K mg base k "pushes_with_ends" ["hall","stand"] (sp0 K G_pushes_with_ends)) (f:Addr) (cdv:Value) (A:Around) (outer:List Env) (s:Shared) (H:Hp) (E:XK),Room k (A.deeper (envOfC "all_pushes" (za1 zh0) s.heap.objs.size f cdv))->
 DSs (cxOf CX0 P w K mg base n_all_pushes "all_pushes" (za1 zh0) f cdv A outer s H E).nox (cx0 K H) (zb7 zh0) B }:=by
 refine⟨?B,fun P w K mg base hm cs k C_pushes_with_ends f cdv A outer s H E hr=>?h⟩;case h=>
  refine' za7 ?q1;case q1=>
   exact zd2 (zl2 (N':=["push","end"]) (ixs:=[none,none]) [] (zl8.scope (N:=n_all_pushes) (osc:=za1 zh0) (by decide +kernel)) rfl (zp2 rfl (zc2 C_pushes_with_ends hr rfl (gDN_ (za0 (pv 0)) (gDN_ (za0 (pv 1)) za2)))) (fun av cl C s H fp=>⟨(dg_tup (n:=2) rfl rfl (zc1 (zb3 (i:=0) (show (["push","end"]:List Str).Nodup by decide +kernel) rfl (Or.inl rfl)) (zc1 (zb3 (i:=1) (show (["push","end"]:List Str).Nodup by decide +kernel) rfl (Or.inl rfl)) zl1))),zm6,(za0 (pv 0))⟩))
noncomputable abbrev ze5:Stmt:=top 29
noncomputable abbrev zm4:List Str:=["_law_kind","_law_place","_law_found","_law_i"]
theorem zk2:zc0 zm4 ["_law_kind","_law_place"] (za1 ze5):=⟨rfl,rfl,rfl,by decide +kernel,rfl,by decide +kernel,by decide +kernel⟩
set_option maxHeartbeats 0 in
noncomputable def zm7:{ B:FnS Unit // ∀(P:Program) (w:World) (K:PySem.W.Frag) (mg:Str->Option Value) (base:Heap) (hm:Bn mg) (cs:Cst K mg) (k:Nat) (f:Addr) (cdv:Value) (A:Around) (outer:List Env) (s:Shared) (H:Hp) (E:XK),Room k (A.deeper (envOfC "_law_covered" (za1 ze5) s.heap.objs.size f cdv))->
 DSs (cxOf CX0 P w K mg base zm4 "_law_covered" (za1 ze5) f cdv A outer s H E).nox (cx0 K H) (zb7 ze5) B }:=by
 refine⟨?B,fun P w K mg base hm cs k f cdv A outer s H E hr=>?h⟩;case h=>
  refine' za4 ?q1 ?r1;case q1=>
   exact zb8 (i:=2) zk2.nd rfl (Or.inl rfl) (gL_ za2)
  case r1=>
  refine' za4 ?q2 ?r2;case q2=>
   refine' zj1 [] PassesOwn.never rfl ?i3 ?g3 ?b3;case i3=>exact(ze0 rfl hm.range (gDS_ (gX_ rfl (za0 (pv 0)) za5 (fun _ _=>rfl)) za2))
   case g3=>exact(zb3 (i:=3) zk2.nd rfl (Or.inr rfl))
   case b3=>
    refine' za7 ?q4;case q4=>
     exact ds_mt (i:=2) mt_extend md_extend PySem.F.slot_list_extend PySem.F.type_list_extend (pv 2) (zl2 (N':=["_law_j","_law_i","_law_place"]) (ixs:=[none,some 3,some 1]) [] (zl8.scope (N:=zm4) (osc:=za1 ze5) (by decide +kernel)) rfl (ze0 rfl hm.range (gDS_ (gX_ rfl (za0 (pv 0)) za5 (fun _ _=>rfl)) za2)) (fun av cl C s H fp=>⟨(zb3 (i:=0) (show (["_law_j","_law_i","_law_place"]:List Str).Nodup by decide +kernel) rfl (Or.inl rfl)),zm6,(gU_ (gDB_ (gP_ rfl (gX_ rfl (za0 (pv 2)) za5 (fun _ _=>rfl)) (za0 (pv 1))) (gDB_ (gP_ rfl (gX_ rfl (za0 (pv 2)) za5 (fun _ _=>rfl)) (za0 (pv 0))) za2)))⟩)) rfl
  case r2=>
  refine' za7 ?q5;case q5=>
   exact zl0 (pv 2)
noncomputable abbrev zh8:Stmt:=top 30
noncomputable abbrev n__law_behind:List Str:=["_law_place","_law_direction"]
theorem sc__law_behind:zc0 n__law_behind ["_law_place","_law_direction"] (za1 zh8):=⟨rfl,rfl,rfl,by decide +kernel,rfl,by decide +kernel,by decide +kernel⟩
set_option maxHeartbeats 0 in
noncomputable def zo9:{ B:FnS Unit // ∀(P:Program) (w:World) (K:PySem.W.Frag) (mg:Str->Option Value) (base:Heap) (hm:Bn mg) (cs:Cst K mg) (k:Nat) (f:Addr) (cdv:Value) (A:Around) (outer:List Env) (s:Shared) (H:Hp) (E:XK),Room k (A.deeper (envOfC "_law_behind" (za1 zh8) s.heap.objs.size f cdv))->
 DSs (cxOf CX0 P w K mg base n__law_behind "_law_behind" (za1 zh8) f cdv A outer s H E).nox (cx0 K H) (zb7 zh8) B }:=by
 refine⟨?B,fun P w K mg base hm cs k f cdv A outer s H E hr=>?h⟩;case h=>
  refine' za7 ?q1;case q1=>
   refine' zd2 ?x1;case x1=>
    refine' de_tup ?x2;case x2=>
     refine' gEB_ ?x3 ?x4;case x3=>exact gp_ rfl (gX_ rfl (za0 (pv 0)) za5 (fun _ _=>rfl)) (gY_ rfl (de_lst (gEK_ za5 (gEK_ za5 (gEU_ (de_neg (ga:=.R) za5) (gDK_ za5 za2))))) (za0 (pv 1)) (fun _ _=>rfl))
     case x4=>exact gEB_ (gp_ rfl (gX_ rfl (za0 (pv 0)) za5 (fun _ _=>rfl)) (gY_ rfl (de_lst (gEK_ za5 (gEK_ za5 (gEK_ za5 (gEU_ (de_neg (ga:=.R) za5) za2))))) (za0 (pv 1)) (fun _ _=>rfl))) za2
noncomputable abbrev zk6:Stmt:=top 31
noncomputable abbrev n__law_goes:List Str:=["_law_kind","_law_direction"]
theorem sc__law_goes:zc0 n__law_goes ["_law_kind","_law_direction"] (za1 zk6):=⟨rfl,rfl,rfl,by decide +kernel,rfl,by decide +kernel,by decide +kernel⟩
set_option maxHeartbeats 0 in
noncomputable def _law_goes_m:{ B:FnS Unit // ∀(P:Program) (w:World) (K:PySem.W.Frag) (mg:Str->Option Value) (base:Heap) (hm:Bn mg) (cs:Cst K mg) (k:Nat) (f:Addr) (cdv:Value) (A:Around) (outer:List Env) (s:Shared) (H:Hp) (E:XK),Room k (A.deeper (envOfC "_law_goes" (za1 zk6) s.heap.objs.size f cdv))->
 DSs (cxOf CX0 P w K mg base n__law_goes "_law_goes" (za1 zk6) f cdv A outer s H E).nox (cx0 K H) (zb7 zk6) B }:=by
 refine⟨?B,fun P w K mg base hm cs k f cdv A outer s H E hr=>?h⟩;case h=>
  refine' za7 ?q1;case q1=>
   exact zd2 (de_or (ga:=.R) (g2_ (zp3 (ga:=.R) (gb:=.R) (zi5 hr) (ze3 rfl) (gX_ rfl (za0 (pv 0)) za5 (fun _ _=>rfl)) zf5 rfl)) (de_one (g2_ (zp3 (ga:=.R) (gb:=.R) (zi5 hr) (ze3 rfl) (gX_ rfl (za0 (pv 0)) za5 (fun _ _=>rfl)) (gX_ rfl (gL_ (gDK_ zf5 (gDK_ zf5 za2))) (g2_ (de_op (ga:=.R) (gb:=.R) op_mod od_I (za0 (pv 1)) za5)) (fun _ _=>rfl)) rfl))))
noncomputable abbrev zf1:Stmt:=top 32
noncomputable abbrev zk7:List Str:=["_law_hall","_law_stand","_law_n","_law_direction","_law_wide","_law_high","_law_shuts","_law_kinds","_law_going","_law_at","_law_one","_law_ahead","_law_other","_law_own"]
theorem zc5:zc0 zk7 ["_law_hall","_law_stand","_law_n","_law_direction"] (za1 zf1):=⟨rfl,rfl,rfl,by decide +kernel,rfl,by decide +kernel,by decide +kernel⟩
set_option maxHeartbeats 0 in
noncomputable def _law_step_m (G__law_covered:List D->Res Unit D) (G__law_behind:List D->Res Unit D) (G__law_goes:List D->Res Unit D):{ B:FnS Unit // ∀(P:Program) (w:World) (K:PySem.W.Frag) (mg:Str->Option Value) (base:Heap) (hm:Bn mg) (cs:Cst K mg) (k:Nat) (C__law_covered:zc4 P w K mg base k "_law_covered" ["_law_kind","_law_place"] (sp0 K G__law_covered)) (C__law_behind:zc4 P w K mg base k "_law_behind" ["_law_place","_law_direction"] (sp0 K G__law_behind)) (C__law_goes:zc4 P w K mg base k "_law_goes" ["_law_kind","_law_direction"] (sp0 K G__law_goes)) (f:Addr) (cdv:Value) (A:Around) (outer:List Env) (s:Shared) (H:Hp) (E:XK),Room k (A.deeper (envOfC "_law_step" (za1 zf1) s.heap.objs.size f cdv))->
 DSs (cxOf CX0 P w K mg base zk7 "_law_step" (za1 zf1) f cdv A outer s H E).nox (cx0 K H) (zb7 zf1) B }:=by
 refine⟨?B,fun P w K mg base hm cs k C__law_covered C__law_behind C__law_goes f cdv A outer s H E hr=>?h⟩;case h=>
  refine' za4 ?q1 ?r1;case q1=>
   exact ds_asg (zf4 (pv 0)) (dg_tup (n:=4) rfl rfl (zc1 (zb3 (i:=4) zc5.nd rfl (Or.inr rfl)) (zc1 (zb3 (i:=5) zc5.nd rfl (Or.inr rfl)) (zc1 (zb3 (i:=6) zc5.nd rfl (Or.inr rfl)) (zc1 (zb3 (i:=7) zc5.nd rfl (Or.inl rfl)) zl1)))))
  case r1=>
  refine' za4 ?q2 ?r2;case q2=>
   refine' ds_if ?t3 ?a3 ?b3;case t3=>exact(gT_ (zd3 (ga:=.R) (gb:=.R) op_lt od_B0 (gX_ rfl (gX_ rfl (za0 (pv 7)) (za0 (pv 2)) (fun _ _=>rfl)) za5 (fun _ _=>rfl)) za5 rfl))
   case a3=>
    refine' za7 ?q4;case q4=>
     exact zd2 zf9
   case b3=>
    exact zd0
  case r2=>
  refine' za4 ?q5 ?r5;case q5=>
   exact zb8 (i:=8) zc5.nd rfl (Or.inl rfl) (gL_ (gDN_ (za0 (pv 2)) za2))
  case r5=>
  refine' za4 ?q6 ?r6;case q6=>
   exact zb8 (i:=9) zc5.nd rfl (Or.inl rfl) za5
  case r6=>
  refine' za4 ?q7 ?r7;case q7=>
   refine' ds_while PassesOwn.never ?t8 ?b8;case t8=>exact(gT_ (zd3 (ga:=.R) (gb:=.R) op_lt od_B0 (za0 (pv 9)) (gA_ (de_cb (gDN_ (za0 (pv 8)) za2) zc6 (cd_len rfl) rfl hm.len PySem.boot_len)) rfl))
   case b8=>
    refine' za4 ?q9 ?r9;case q9=>
     exact zb8 (i:=10) zc5.nd rfl (Or.inl rfl) (gX_ rfl (za0 (pv 8)) (za0 (pv 9)) (fun _ _=>rfl))
    case r9=>
    refine' za4 ?q10 ?r10;case q10=>
     exact zb8 (i:=11) zc5.nd rfl (Or.inr rfl) (zc2 C__law_covered hr rfl (gES_ (gX_ rfl (za0 (pv 7)) (za0 (pv 10)) (fun _ _=>rfl)) (gEC_ (zc2 C__law_behind hr rfl (gDS_ (gX_ rfl (za0 (pv 1)) (za0 (pv 10)) (fun _ _=>rfl)) (gDN_ (za0 (pv 3)) za2))) za2)))
    case r10=>
    refine' za4 ?q11 ?r11;case q11=>
     refine' ds_if ?t12 ?a12 ?b12;case t12=>exact(DW.dt (dw_or (dt_not (zk9 (g:=.R) (zc2 C__law_goes hr rfl (gDS_ (gX_ rfl (za0 (pv 7)) (za0 (pv 10)) (fun _ _=>rfl)) (gDN_ (za0 (pv 3)) za2))))) (dw_or1 (zk9 (g:=.R) (de_cb (gEM_ (zl2 (N':=["_law_cell","_law_shuts"]) (ixs:=[none,some 6]) [11] (zl8.scope (N:=zk7) (osc:=za1 zf1) (by decide +kernel)) rfl (zp2 rfl (zf4 (pv 11))) (fun av cl C s H fp=>⟨(zb3 (i:=0) (show (["_law_cell","_law_shuts"]:List Str).Nodup by decide +kernel) rfl (Or.inl rfl)),zm6,(g2_ (zp3 (ga:=.R) (gb:=.R) (op_inD hr) (od_inD rfl) (za0 (pv 0)) (za0 (pv 1)) rfl))⟩)) za2) (call_any rfl) (cd_bools _) rfl hm.any boot_any)))))
     case a12=>
      refine' za7 ?q13;case q13=>
       exact zd2 zf9
     case b12=>
      exact zd0
    case r11=>
    refine' za4 ?q14 ?r14;case q14=>
     refine' ds_if ?t15 ?a15 ?b15;case t15=>exact(dt_not (zk9 (g:=.R) (de_cb (gEM_ (zl2 (N':=["_law_x","_law_y","_law_wide","_law_high"]) (ixs:=[none,none,some 4,some 5]) [11] (zl8.scope (N:=zk7) (osc:=za1 zf1) (by decide +kernel)) rfl (zp2 rfl (zf4 (pv 11))) (fun av cl C s H fp=>⟨(dg_tup (n:=2) rfl rfl (zc1 (zb3 (i:=0) (show (["_law_x","_law_y","_law_wide","_law_high"]:List Str).Nodup by decide +kernel) rfl (Or.inl rfl)) (zc1 (zb3 (i:=1) (show (["_law_x","_law_y","_law_wide","_law_high"]:List Str).Nodup by decide +kernel) rfl (Or.inl rfl)) zl1))),zm6,(de_and (ga:=.R) (de_chain (ga:=.R) (gb:=.R) (gc:=.R) op_le op_lt od_B0 od_B0 za5 (za0 (pv 0)) (za0 (pv 2))) (de_one (de_chain (ga:=.R) (gb:=.R) (gc:=.R) op_le op_lt od_B0 od_B0 za5 (za0 (pv 1)) (za0 (pv 3)))))⟩)) za2) (call_all rfl) (cd_bools _) rfl hm.all boot_all)))
     case a15=>
      refine' za7 ?q16;case q16=>
       exact zd2 zf9
     case b15=>
      exact zd0
    case r14=>
    refine' za4 ?q17 ?r17;case q17=>
     refine' zj1 [] PassesOwn.never rfl ?i18 ?g18 ?b18;case i18=>exact(ze0 rfl hm.range (gDC_ (gA_ (de_cb (gDN_ (za0 (pv 7)) za2) zc6 (cd_len rfl) rfl hm.len PySem.boot_len)) za2))
     case g18=>exact(zb3 (i:=12) zc5.nd rfl (Or.inl rfl))
     case b18=>
      refine' za4 ?q19 ?r19;case q19=>
       exact zb8 (i:=13) zc5.nd rfl (Or.inl rfl) (zc2 C__law_covered hr rfl (gDS_ (gX_ rfl (za0 (pv 7)) (za0 (pv 12)) (fun _ _=>rfl)) (gDS_ (gX_ rfl (za0 (pv 1)) (za0 (pv 12)) (fun _ _=>rfl)) za2)))
      case r19=>
      refine' za7 ?q20;case q20=>
       refine' ds_if ?t21 ?a21 ?b21;case t21=>exact(DW.dt (dw_and (gT_ (zd3 (ga:=.R) (gb:=.R) (op_notInD hr) (od_inD rfl) (za0 (pv 12)) (za0 (pv 8)) rfl)) (dw_and1 (zk9 (g:=.R) (de_cb (gEM_ (zl2 (N':=["_law_cell","_law_ahead"]) (ixs:=[none,some 11]) [13] (zl8.scope (N:=zk7) (osc:=za1 zf1) (by decide +kernel)) rfl (zp2 rfl (zf4 (pv 13))) (fun av cl C s H fp=>⟨(zb3 (i:=0) (show (["_law_cell","_law_ahead"]:List Str).Nodup by decide +kernel) rfl (Or.inl rfl)),zm6,(g2_ (zp3 (ga:=.R) (gb:=.R) (op_inD hr) (od_inD rfl) (za0 (pv 0)) (za0 (pv 1)) rfl))⟩)) za2) (call_any rfl) (cd_bools _) rfl hm.any boot_any)))))
       case a21=>
        refine' za7 ?q22;case q22=>
         exact ds_mt (i:=8) zk8 zn5 PySem.F.slot_list_append PySem.F.type_list_append (pv 8) (za0 (pv 12)) rfl
       case b21=>
        exact zd0
    case r17=>
    refine' za7 ?q23;case q23=>
     exact zb8 (i:=9) zc5.nd rfl (Or.inl rfl) (gP_ rfl (za0 (pv 9)) za5)
  case r7=>
  refine' za4 ?q24 ?r24;case q24=>
   refine' ds_if ?t25 ?a25 ?b25;case t25=>exact(DW.dt (dw_and (gT_ (zd3 (ga:=.R) (gb:=.R) op_gt od_B0 (gA_ (de_cb (gDN_ (za0 (pv 8)) za2) zc6 (cd_len rfl) rfl hm.len PySem.boot_len)) za5 rfl)) (dw_and1 (gT_ (zd3 (ga:=.R) (gb:=.R) (zi5 hr) (ze3 rfl) (gX_ rfl (gX_ rfl (za0 (pv 7)) (za0 (pv 2)) (fun _ _=>rfl)) za5 (fun _ _=>rfl)) za5 rfl)))))
   case a25=>
    refine' za7 ?q26;case q26=>
     exact zd2 zf9
   case b25=>
    exact zd0
  case r24=>
  refine' za7 ?q27;case q27=>
   exact zd2 (gA_ (de_cb (gDN_ (za0 (pv 8)) za2) call_sorted (cd_sorted rfl) rfl hm.sorted boot_sorted))
noncomputable abbrev zh7:Stmt:=top 33
noncomputable abbrev n__law_pushed:List Str:=["_law_hall","_law_stand","_law_push","_law_n","_law_direction","_law_many","_law_turn","_law_going","_law_places","_law_k"]
theorem zc8:zc0 n__law_pushed ["_law_hall","_law_stand","_law_push"] (za1 zh7):=⟨rfl,rfl,rfl,by decide +kernel,rfl,by decide +kernel,by decide +kernel⟩
set_option maxHeartbeats 0 in
noncomputable def zo8 (G__law_step:List D->Res Unit D) (G__law_behind:List D->Res Unit D):{ B:FnS Unit // ∀(P:Program) (w:World) (K:PySem.W.Frag) (mg:Str->Option Value) (base:Heap) (hm:Bn mg) (cs:Cst K mg) (k:Nat) (C__law_step:zc4 P w K mg base k "_law_step" ["_law_hall","_law_stand","_law_n","_law_direction"] (sp0 K G__law_step)) (C__law_behind:zc4 P w K mg base k "_law_behind" ["_law_place","_law_direction"] (sp0 K G__law_behind)) (f:Addr) (cdv:Value) (A:Around) (outer:List Env) (s:Shared) (H:Hp) (E:XK),Room k (A.deeper (envOfC "_law_pushed" (za1 zh7) s.heap.objs.size f cdv))->
 DSs (cxOf CX0 P w K mg base n__law_pushed "_law_pushed" (za1 zh7) f cdv A outer s H E).nox (cx0 K H) (zb7 zh7) B }:=by
 refine⟨?B,fun P w K mg base hm cs k C__law_step C__law_behind f cdv A outer s H E hr=>?h⟩;case h=>
  refine' za4 ?q1 ?r1;case q1=>
   exact ds_asg (zf4 (pv 2)) (dg_tup (n:=3) rfl rfl (zc1 (zb3 (i:=3) zc8.nd rfl (Or.inl rfl)) (zc1 (zb3 (i:=4) zc8.nd rfl (Or.inl rfl)) (zc1 (zb3 (i:=5) zc8.nd rfl (Or.inl rfl)) zl1))))
  case r1=>
  refine' za4 ?q2 ?r2;case q2=>
   refine' zj1 [] PassesOwn.never rfl ?i3 ?g3 ?b3;case i3=>exact(ze0 rfl hm.range (gDN_ (za0 (pv 5)) za2))
   case g3=>exact(zb3 (i:=6) zc8.nd rfl (Or.inl rfl))
   case b3=>
    refine' za4 ?q4 ?r4;case q4=>
     exact zb8 (i:=7) zc8.nd rfl (Or.inl rfl) (zc2 C__law_step hr rfl (gDN_ (za0 (pv 0)) (gDN_ (za0 (pv 1)) (gDN_ (za0 (pv 3)) (gDN_ (za0 (pv 4)) za2)))))
    case r4=>
    refine' za4 ?q5 ?r5;case q5=>
     refine' ds_if ?t6 ?a6 ?b6;case t6=>exact(gT_ (zd3 (ga:=.R) (gb:=.R) op_isN od_isN (za0 (pv 7)) zf9 rfl))
     case a6=>
      refine' za7 ?q7;case q7=>
       exact zl0 (pv 6)
     case b6=>
      exact zd0
    case r5=>
    refine' za4 ?q8 ?r8;case q8=>
     exact zb8 (i:=8) zc8.nd rfl (Or.inl rfl) (gA_ (de_ct (gDN_ (za0 (pv 1)) za2) call_list_of (cd_list rfl) rfl hm.list boot_list))
    case r8=>
    refine' za4 ?q9 ?r9;case q9=>
     refine' zj1 [7] PassesOwn.never rfl ?i10 ?g10 ?b10;case i10=>exact(zp2 rfl (zf4 (pv 7)))
     case g10=>exact(zb3 (i:=9) zc8.nd rfl (Or.inl rfl))
     case b10=>
      refine' za7 ?q11;case q11=>
       exact ds_setitem (pv 8) (ga:=.R) (gb:=.R) (za0 (pv 9)) (zc2 C__law_behind hr rfl (gDS_ (gX_ rfl (za0 (pv 8)) (za0 (pv 9)) (fun _ _=>rfl)) (gDN_ (za0 (pv 4)) za2))) (fun hk hv=>ps_asg hv (pg_sub (pv 8) hk set_list))
    case r9=>
    refine' za7 ?q12;case q12=>
     exact zb8 (i:=1) zc8.nd rfl (Or.inl rfl) (gA_ (de_ct (gDN_ (za0 (pv 8)) za2) zf7 (cd_tuple rfl) rfl hm.tuple boot_tuple))
  case r2=>
  refine' za7 ?q13;case q13=>
   exact zl0 (pv 1)
noncomputable abbrev zg2:Stmt:=top 34
noncomputable abbrev zo0:List Str:=["_law_found","_law_due"]
theorem sc__law_same:zc0 zo0 ["_law_found","_law_due"] (za1 zg2):=⟨rfl,rfl,rfl,by decide +kernel,rfl,by decide +kernel,by decide +kernel⟩
set_option maxHeartbeats 0 in
noncomputable def _law_same_m (G__law_same:List D->Res Unit D):{ B:FnS Unit // ∀(P:Program) (w:World) (K:PySem.W.Frag) (mg:Str->Option Value) (base:Heap) (hm:Bn mg) (cs:Cst K mg) (k:Nat) (C__law_same:zc4 P w K mg base k "_law_same" ["_law_found","_law_due"] (sp0 K G__law_same)) (f:Addr) (cdv:Value) (A:Around) (outer:List Env) (s:Shared) (H:Hp) (E:XK),Room k (A.deeper (envOfC "_law_same" (za1 zg2) s.heap.objs.size f cdv))->
 DSs (cxOf CX0 P w K mg base zo0 "_law_same" (za1 zg2) f cdv A outer s H E).nox (cx0 K H) (zb7 zg2) B }:=by
 refine⟨?B,fun P w K mg base hm cs k C__law_same f cdv A outer s H E hr=>?h⟩;case h=>
  refine' za4 ?q1 ?r1;case q1=>
   refine' ds_if ?t2 ?a2 ?b2;case t2=>exact(gT_ (zd3 (ga:=.R) (gb:=.R) op_isN od_isN (za0 (pv 1)) zf9 rfl))
   case a2=>
    refine' za7 ?q3;case q3=>
     exact zd2 (g2_ (zp3 (ga:=.R) (gb:=.R) op_isN od_isN (za0 (pv 0)) zf9 rfl))
   case b2=>
    exact zd0
  case r1=>
  refine' za4 ?q4 ?r4;case q4=>
   refine' ds_if ?t5 ?a5 ?b5;case t5=>exact(gB_ (zk9 (g:=.R) (gI_ (ze1 .dict rfl rfl hm.isinstance rfl hm.dict boot_dict (ga:=.R) (za0 (pv 1))))))
   case a5=>
    refine' za4 ?q6 ?r6;case q6=>
     refine' ds_if ?t7 ?a7 ?b7;case t7=>exact(DW.dt (dw_or (dt_not (gB_ (zk9 (g:=.R) (gI_ (ze1 .dict rfl rfl hm.isinstance rfl hm.dict boot_dict (ga:=.R) (za0 (pv 0))))))) (dw_or1 (gT_ (zd3 (ga:=.R) (gb:=.R) (op_neD hr) (ze3 rfl) (gA_ (de_cb (gDN_ (za0 (pv 0)) za2) zc6 (cd_len rfl) rfl hm.len PySem.boot_len)) (gA_ (de_cb (gDN_ (za0 (pv 1)) za2) zc6 (cd_len rfl) rfl hm.len PySem.boot_len)) rfl)))))
     case a7=>
      refine' za7 ?q8;case q8=>
       exact zd2 de_blP
     case b7=>
      exact zd0
    case r6=>
    refine' za7 ?q9;case q9=>
     exact zd2 (de_cb (gEM_ (zl2 (N':=["_law_name","_law_found","_law_due"]) (ixs:=[none,some 0,some 1]) [1] (zl8.scope (N:=zo0) (osc:=za1 zg2) (by decide +kernel)) rfl (zp2 rfl (zf4 (pv 1))) (fun av cl C s H fp=>⟨(zb3 (i:=0) (show (["_law_name","_law_found","_law_due"]:List Str).Nodup by decide +kernel) rfl (Or.inl rfl)),zm6,(de_and (ga:=.R) (g2_ (zp3 (ga:=.R) (gb:=.R) (op_inD hr) (od_inD rfl) (za0 (pv 0)) (za0 (pv 1)) rfl)) (de_one (zc2 C__law_same hr rfl (gDS_ (gX_ rfl (za0 (pv 1)) (za0 (pv 0)) (fun _ _=>rfl)) (gDS_ (gX_ rfl (za0 (pv 2)) (za0 (pv 0)) (fun _ _=>rfl)) za2)))))⟩)) za2) (call_all rfl) (cd_bools _) rfl hm.all boot_all)
   case b5=>
    exact zd0
  case r4=>
  refine' za4 ?q10 ?r10;case q10=>
   refine' ds_if ?t11 ?a11 ?b11;case t11=>exact(DW.dt (dw_or (gB_ (zk9 (g:=.R) (gI_ (ze1 .list rfl rfl hm.isinstance rfl hm.list boot_list (ga:=.R) (za0 (pv 1)))))) (dw_or1 (gB_ (zk9 (g:=.R) (gI_ (ze1 .tuple rfl rfl hm.isinstance rfl hm.tuple boot_tuple (ga:=.R) (za0 (pv 1)))))))))
   case a11=>
    refine' za4 ?q12 ?r12;case q12=>
     refine' ds_if ?t13 ?a13 ?b13;case t13=>exact(gT_ (zd3 (ga:=.R) (gb:=.R) (op_neD hr) (ze3 rfl) (gI_ (ze1 .list rfl rfl hm.isinstance rfl hm.list boot_list (ga:=.R) (za0 (pv 0)))) (gI_ (ze1 .list rfl rfl hm.isinstance rfl hm.list boot_list (ga:=.R) (za0 (pv 1)))) rfl))
     case a13=>
      refine' za7 ?q14;case q14=>
       exact zd2 de_blP
     case b13=>
      exact zd0
    case r12=>
    refine' za4 ?q15 ?r15;case q15=>
     refine' ds_if ?t16 ?a16 ?b16;case t16=>exact(DW.dt (dw_or (gT_ (zd3 (ga:=.R) (gb:=.R) (op_neD hr) (ze3 rfl) (gI_ (ze1 .tuple rfl rfl hm.isinstance rfl hm.tuple boot_tuple (ga:=.R) (za0 (pv 0)))) (gI_ (ze1 .tuple rfl rfl hm.isinstance rfl hm.tuple boot_tuple (ga:=.R) (za0 (pv 1)))) rfl)) (dw_or1 (gT_ (zd3 (ga:=.R) (gb:=.R) (op_neD hr) (ze3 rfl) (gA_ (de_cb (gDN_ (za0 (pv 0)) za2) zc6 (cd_len rfl) rfl hm.len PySem.boot_len)) (gA_ (de_cb (gDN_ (za0 (pv 1)) za2) zc6 (cd_len rfl) rfl hm.len PySem.boot_len)) rfl)))))
     case a16=>
      refine' za7 ?q17;case q17=>
       exact zd2 de_blP
     case b16=>
      exact zd0
    case r15=>
    refine' za7 ?q18;case q18=>
     exact zd2 (de_cb (gEM_ (zl2 (N':=["_law_one","_law_other"]) (ixs:=[none,none]) [0,1] (zl8.scope (N:=zo0) (osc:=za1 zg2) (by decide +kernel)) rfl (di_zip rfl hm.zip (db_cons (zf4 (pv 0)) (db_cons (zf4 (pv 1)) db_nil))) (fun av cl C s H fp=>⟨(dg_tup (n:=2) rfl rfl (zc1 (zb3 (i:=0) (show (["_law_one","_law_other"]:List Str).Nodup by decide +kernel) rfl (Or.inl rfl)) (zc1 (zb3 (i:=1) (show (["_law_one","_law_other"]:List Str).Nodup by decide +kernel) rfl (Or.inl rfl)) zl1))),zm6,(zc2 C__law_same hr rfl (gDN_ (za0 (pv 0)) (gDN_ (za0 (pv 1)) za2)))⟩)) za2) (call_all rfl) (cd_bools _) rfl hm.all boot_all)
   case b11=>
    exact zd0
  case r10=>
  refine' za4 ?q19 ?r19;case q19=>
   refine' ds_if ?t20 ?a20 ?b20;case t20=>exact(gB_ (zk9 (g:=.R) (gI_ (ze1 .str rfl rfl hm.isinstance rfl hm.str boot_str (ga:=.R) (za0 (pv 1))))))
   case a20=>
    refine' za7 ?q21;case q21=>
     exact zd2 (de_and (ga:=.R) (gI_ (ze1 .str rfl rfl hm.isinstance rfl hm.str boot_str (ga:=.R) (za0 (pv 0)))) (de_one (g2_ (zp3 (ga:=.R) (gb:=.R) (zi5 hr) (ze3 rfl) (za0 (pv 0)) (za0 (pv 1)) rfl))))
   case b20=>
    exact zd0
  case r19=>
  refine' za7 ?q22;case q22=>
   exact zd2 (de_and (ga:=.R) (gI_ (ze1 .int rfl rfl hm.isinstance rfl hm.int boot_int (ga:=.R) (za0 (pv 0)))) (de_and (ga:=.R) (de_not (ga:=.R) (gI_ (ze1 .bool rfl rfl hm.isinstance rfl hm.bool boot_bool (ga:=.R) (za0 (pv 0))))) (de_one (g2_ (zp3 (ga:=.R) (gb:=.R) (zi5 hr) (ze3 rfl) (za0 (pv 0)) (za0 (pv 1)) rfl)))))
noncomputable abbrev zk3:Stmt:=top 35
noncomputable abbrev n__law_told:List Str:=["_law_hall","_law_stand","_law_push","_law_call","_law_caught","_law_found","error"]
theorem zl5:zc0 n__law_told ["_law_hall","_law_stand","_law_push","_law_call"] (za1 zk3):=⟨rfl,rfl,rfl,by decide +kernel,rfl,by decide +kernel,by decide +kernel⟩
noncomputable abbrev zk4:Stmt:=top 36
noncomputable abbrev n__law_line:List Str:=["_law_state","_law_along","_law_found","_law_at","_law_long","_law_ways"]
theorem zg9:zc0 n__law_line ["_law_state","_law_along"] (za1 zk4):=⟨rfl,rfl,rfl,by decide +kernel,rfl,by decide +kernel,by decide +kernel⟩
set_option maxHeartbeats 0 in
noncomputable def _law_line_m (G__law_take:List D->Dr->Res Dr D):{ B:FnS Dr // ∀(P:Program) (w:World) (K:PySem.W.Frag) (mg:Str->Option Value) (base:Heap) (p l:Addr) (hm:Bn mg) (cs:Cst K mg) (k:Nat) (C__law_take:zc4 P w K mg base k "_law_take" ["_law_state","_law_many"] (spS (WdS p l) K G__law_take)) (f:Addr) (cdv:Value) (A:Around) (outer:List Env) (s:Shared) (H:Hp) (E:XK),Room k (A.deeper (envOfC "_law_line" (za1 zk4) s.heap.objs.size f cdv))->
 DSs (cxOf CX0 P w K mg base n__law_line "_law_line" (za1 zk4) f cdv A outer s H E).nox (cxS (WdS p l) K H) (zb7 zk4) B }:=by
 refine⟨?B,fun P w K mg base p l hm cs k C__law_take f cdv A outer s H E hr=>?h⟩;case h=>
  refine' za4 ?q1 ?r1;case q1=>
   exact zb8 (i:=2) zg9.nd rfl (Or.inl rfl) (gL_ za2)
  case r1=>
  refine' za4 ?q2 ?r2;case q2=>
   exact zb8 (i:=3) zg9.nd rfl (Or.inl rfl) (ze8 C__law_take hr rfl (pv 0) (gDK_ za5 za2))
  case r2=>
  refine' za4 ?q3 ?r3;case q3=>
   refine' ds_while PassesOwn.never ?t4 ?b4;case t4=>exact(DW.dt (dw_and (gT_ (zd3 (ga:=.R) (gb:=.R) op_lt od_B0 (gA_ (de_cb (gDN_ (za0 (pv 2)) za2) zc6 (cd_len rfl) rfl hm.len PySem.boot_len)) za5 rfl)) (dw_and1 (gT_ (zd3 (ga:=.R) (gb:=.R) op_lt od_B0 (za0 (pv 3)) za5 rfl)))))
   case b4=>
    refine' za4 ?q5 ?r5;case q5=>
     exact zb8 (i:=4) zg9.nd rfl (Or.inl rfl) (de_cb (gEB_ (g2_ (de_op (ga:=.R) (gb:=.R) op_sub od_I0 za5 (za0 (pv 3)))) (gES_ (gY_ rfl (gL_ (gDK_ za5 (gDK_ za5 (gDK_ za5 (gDK_ za5 (gDK_ za5 za2)))))) (ze8 C__law_take hr rfl (pv 0) (gDK_ za5 za2)) (fun _ _=>rfl)) za2)) (call_min2 rfl) (cd_ints2 _) rfl hm.min boot_min)
    case r5=>
    refine' za4 ?q6 ?r6;case q6=>
     refine' zb8 (i:=5) zg9.nd rfl (Or.inl rfl) ?x5;case x5=>
      exact gY_ rfl (gL_ (gDN_ (za0 (pv 1)) (gDK_ zf5 (gDN_ (za0 (pv 1)) (gDN_ (za0 (pv 1)) (gDK_ zf5 (gDS_ (gX_ rfl (gL_ (gDK_ zf5 (gDK_ zf5 za2))) (gA_ (de_ct (gDQ_ (g2_ (zp3 (ga:=.R) (gb:=.R) (zi5 hr) (ze3 rfl) (za0 (pv 1)) zf5 rfl)) za2) call_int1 cd_int rfl hm.int boot_int)) (fun _ _=>rfl)) za2))))))) (ze8 C__law_take hr rfl (pv 0) (gDK_ za5 za2)) (fun _ _=>rfl)
    case r6=>
    refine' za4 ?q7 ?r7;case q7=>
     exact ds_mt (i:=2) zk8 zn5 PySem.F.slot_list_append PySem.F.type_list_append (pv 2) (de_tup (gEN_ (za0 (pv 3)) (gEN_ (za0 (pv 4)) (gEN_ (za0 (pv 5)) (gES_ (gY_ rfl (de_lst (gEK_ za5 (gEK_ za5 (gEK_ za5 (gEU_ (de_neg (ga:=.R) za5) za2))))) (ze8 C__law_take hr rfl (pv 0) (gDK_ za5 za2)) (fun _ _=>rfl)) za2))))) rfl
    case r7=>
    refine' za7 ?q8;case q8=>
     exact zb8 (i:=3) zg9.nd rfl (Or.inl rfl) (gp_ rfl (gP_ rfl (za0 (pv 3)) (za0 (pv 4))) (gY_ rfl (gL_ (gDK_ za5 (gDK_ za5 (gDK_ za5 (gDK_ za5 (gDK_ za5 za2)))))) (ze8 C__law_take hr rfl (pv 0) (gDK_ za5 za2)) (fun _ _=>rfl)))
  case r3=>
  refine' za7 ?q9;case q9=>
   exact zl0 (pv 2)
noncomputable abbrev zk5:Stmt:=top 37
noncomputable abbrev n__law_laid:List Str:=["_law_state","_law_line_here","_law_along","_law_deep","_law_many","_law_kinds","_law_places","_law_at","_law_long","_law_ways","_law_strong","_law_own","_law_side","_law_size","_law_sizes"]
theorem zc9:zc0 n__law_laid ["_law_state","_law_line_here","_law_along","_law_deep","_law_many"] (za1 zk5):=⟨rfl,rfl,rfl,by decide +kernel,rfl,by decide +kernel,by decide +kernel⟩
set_option maxHeartbeats 0 in
noncomputable def _law_laid_m (G__law_take:List D->Dr->Res Dr D):{ B:FnS Dr // ∀(P:Program) (w:World) (K:PySem.W.Frag) (mg:Str->Option Value) (base:Heap) (p l:Addr) (hm:Bn mg) (cs:Cst K mg) (k:Nat) (C__law_take:zc4 P w K mg base k "_law_take" ["_law_state","_law_many"] (spS (WdS p l) K G__law_take)) (f:Addr) (cdv:Value) (A:Around) (outer:List Env) (s:Shared) (H:Hp) (E:XK),Room k (A.deeper (envOfC "_law_laid" (za1 zk5) s.heap.objs.size f cdv))->
 DSs (cxOf CX0 P w K mg base n__law_laid "_law_laid" (za1 zk5) f cdv A outer s H E).nox (cxS (WdS p l) K H) (zb7 zk5) B }:=by
 refine⟨?B,fun P w K mg base p l hm cs k C__law_take f cdv A outer s H E hr=>?h⟩;case h=>
  refine' za4 ?q1 ?r1;case q1=>
   exact zb8 (i:=5) zc9.nd rfl (Or.inl rfl) (gL_ za2)
  case r1=>
  refine' za4 ?q2 ?r2;case q2=>
   exact zb8 (i:=6) zc9.nd rfl (Or.inl rfl) (gL_ za2)
  case r2=>
  refine' za4 ?q3 ?r3;case q3=>
   refine' zj1 [1] PassesOwn.never rfl ?i4 ?g4 ?b4;case i4=>exact(zp2 rfl (zf4 (pv 1)))
   case g4=>exact(dg_tup (n:=4) rfl rfl (zc1 (zb3 (i:=7) zc9.nd rfl (Or.inl rfl)) (zc1 (zb3 (i:=8) zc9.nd rfl (Or.inl rfl)) (zc1 (zb3 (i:=9) zc9.nd rfl (Or.inl rfl)) (zc1 (zb3 (i:=10) zc9.nd rfl (Or.inl rfl)) zl1)))))
   case b4=>
    refine' za4 ?q5 ?r5;case q5=>
     exact zb8 (i:=11) zc9.nd rfl (Or.inl rfl) (de_if (zd3 (ga:=.R) (gb:=.R) (zi5 hr) (ze3 rfl) (ze8 C__law_take hr rfl (pv 0) (gDK_ za5 za2)) za5 rfl) ((de_var (pv 3)).imm .F) (gp_ rfl za5 (ze8 C__law_take hr rfl (pv 0) (gDN_ (za0 (pv 3)) za2))))
    case r5=>
    refine' za4 ?q6 ?r6;case q6=>
     exact zb8 (i:=12) zc9.nd rfl (Or.inl rfl) (ze8 C__law_take hr rfl (pv 0) (gDB_ (gP_ rfl (g2_ (de_op (ga:=.R) (gb:=.R) op_sub od_I0 (za0 (pv 3)) (za0 (pv 11)))) za5) za2))
    case r6=>
    refine' za4 ?q7 ?r7;case q7=>
     exact zb8 (i:=13) zc9.nd rfl (Or.inl rfl) (de_if (gT_ (zd3 (ga:=.R) (gb:=.R) (zi5 hr) (ze3 rfl) (za0 (pv 2)) zf5 rfl)) (gU_ (gDN_ (za0 (pv 8)) (gDN_ (za0 (pv 11)) za2))) (gU_ (gDN_ (za0 (pv 11)) (gDN_ (za0 (pv 8)) za2))))
    case r7=>
    refine' za4 ?q8 ?r8;case q8=>
     exact ds_mt (i:=5) zk8 zn5 PySem.F.slot_list_append PySem.F.type_list_append (pv 5) (gP_ rfl (za0 (pv 13)) (gU_ (gDN_ (za0 (pv 9)) (gDN_ (za0 (pv 10)) za2)))) rfl
    case r8=>
    refine' za7 ?q9;case q9=>
     exact ds_mt (i:=6) zk8 zn5 PySem.F.slot_list_append PySem.F.type_list_append (pv 6) (de_if (gT_ (zd3 (ga:=.R) (gb:=.R) (zi5 hr) (ze3 rfl) (za0 (pv 2)) zf5 rfl)) (gU_ (gDN_ (za0 (pv 7)) (gDN_ (za0 (pv 12)) za2))) (gU_ (gDN_ (za0 (pv 12)) (gDN_ (za0 (pv 7)) za2)))) rfl
  case r3=>
  refine' za4 ?q10 ?r10;case q10=>
   exact zb8 (i:=14) zc9.nd rfl (Or.inl rfl) (de_if (gT_ (zd3 (ga:=.R) (gb:=.R) (zi5 hr) (ze3 rfl) (za0 (pv 2)) zf5 rfl)) (gU_ (gDN_ (za0 (pv 4)) (gDN_ (za0 (pv 3)) za2))) (gU_ (gDN_ (za0 (pv 3)) (gDN_ (za0 (pv 4)) za2))))
  case r10=>
  refine' za7 ?q11;case q11=>
   exact zd2 (gU_ (gDB_ (gP_ rfl (za0 (pv 14)) (gU_ (gDT_ (gU_ za2) (gDC_ (gA_ (de_ct (gDN_ (za0 (pv 5)) za2) zf7 (cd_tuple rfl) rfl hm.tuple boot_tuple)) za2)))) (gDC_ (gA_ (de_ct (gDN_ (za0 (pv 6)) za2) zf7 (cd_tuple rfl) rfl hm.tuple boot_tuple)) za2)))
noncomputable abbrev zn1:Stmt:=top 38
noncomputable abbrev n__law_far:List Str:=["_law_hall","_law_stand","_law_n","_law_direction","_law_many"]
theorem sc__law_far:zc0 n__law_far ["_law_hall","_law_stand","_law_n","_law_direction"] (za1 zn1):=⟨rfl,rfl,rfl,by decide +kernel,rfl,by decide +kernel,by decide +kernel⟩
set_option maxHeartbeats 0 in
noncomputable def _law_far_m (G__law_pushed:List D->Res Unit D):{ B:FnS Unit // ∀(P:Program) (w:World) (K:PySem.W.Frag) (mg:Str->Option Value) (base:Heap) (hm:Bn mg) (cs:Cst K mg) (k:Nat) (C__law_pushed:zc4 P w K mg base k "_law_pushed" ["_law_hall","_law_stand","_law_push"] (sp0 K G__law_pushed)) (f:Addr) (cdv:Value) (A:Around) (outer:List Env) (s:Shared) (H:Hp) (E:XK),Room k (A.deeper (envOfC "_law_far" (za1 zn1) s.heap.objs.size f cdv))->
 DSs (cxOf CX0 P w K mg base n__law_far "_law_far" (za1 zn1) f cdv A outer s H E).nox (cx0 K H) (zb7 zn1) B }:=by
 refine⟨?B,fun P w K mg base hm cs k C__law_pushed f cdv A outer s H E hr=>?h⟩;case h=>
  refine' za4 ?q1 ?r1;case q1=>
   exact zb8 (i:=4) sc__law_far.nd rfl (Or.inl rfl) za5
  case r1=>
  refine' za4 ?q2 ?r2;case q2=>
   refine' ds_while PassesOwn.never ?t3 ?b3;case t3=>exact(zk9 (g:=.R) (ze1 .tuple rfl rfl hm.isinstance rfl hm.tuple boot_tuple (ga:=.R) (zc2 C__law_pushed hr rfl (gDN_ (za0 (pv 0)) (gDN_ (za0 (pv 1)) (gDT_ (gU_ (gDN_ (za0 (pv 2)) (gDN_ (za0 (pv 3)) (gDB_ (gP_ rfl (za0 (pv 4)) za5) za2)))) za2))))))
   case b3=>
    refine' za7 ?q4;case q4=>
     exact zb8 (i:=4) sc__law_far.nd rfl (Or.inl rfl) (gP_ rfl (za0 (pv 4)) za5)
  case r2=>
  refine' za7 ?q5;case q5=>
   exact zl0 (pv 4)
noncomputable abbrev s_law:Stmt:=top 39
noncomputable abbrev n_law:List Str:=["_law_script","_law_state","_law_turn","_law_along","_law_line_here","_law_many","_law_deep","_law_hall","_law_stand","_law_due","_law_n","_law_direction","_law_far_here","_law_going","_law_last"]
theorem zj6:zc0 n_law ["_law_script"] (za1 s_law):=⟨rfl,rfl,rfl,by decide +kernel,rfl,by decide +kernel,by decide +kernel⟩
set_option maxHeartbeats 0 in
noncomputable def law_m (G__law_take:List D->Dr->Res Dr D) (G__law_line:List D->Dr->Res Dr D) (G__law_laid:List D->Dr->Res Dr D) (G__law_far:List D->Res Unit D) (G__law_step:List D->Res Unit D) (G__law_same:List D->Res Unit D) (G_movers:List D->Res Unit D) (G__law_told_at_pushed:List D->Res Unit D) (G__law_pushed:List D->Res Unit D) (G_pushed:List D->Res Unit D) (G_all_pushes:List D->Res Unit D):{ B:FnS Dr // ∀(P:Program) (w:World) (K:PySem.W.Frag) (mg:Str->Option Value) (base:Heap) (p l:Addr) (hm:Bn mg) (cs:Cst K mg) (k:Nat) (C__law_take:zc4 P w K mg base k "_law_take" ["_law_state","_law_many"] (spS (WdS p l) K G__law_take)) (C__law_line:zc4 P w K mg base k "_law_line" ["_law_state","_law_along"] (spS (WdS p l) K G__law_line)) (C__law_laid:zc4 P w K mg base k "_law_laid" ["_law_state","_law_line_here","_law_along","_law_deep","_law_many"] (spS (WdS p l) K G__law_laid)) (C__law_far:zc4 P w K mg base k "_law_far" ["_law_hall","_law_stand","_law_n","_law_direction"] (sp0 K G__law_far)) (C__law_step:zc4 P w K mg base k "_law_step" ["_law_hall","_law_stand","_law_n","_law_direction"] (sp0 K G__law_step)) (C__law_same:zc4 P w K mg base k "_law_same" ["_law_found","_law_due"] (sp0 K G__law_same)) (C_movers:zc4 P w K mg base k "movers" ["hall","stand","n","direction"] (sp0 K G_movers)) (g_pushed:Addr) (e_pushed:mg "pushed" = some (.ref g_pushed)) (C__law_told_at_pushed:zc4 P w K mg base k "_law_told" ["_law_hall","_law_stand","_law_push","_law_call"] (spT g_pushed K G__law_told_at_pushed)) (C__law_pushed:zc4 P w K mg base k "_law_pushed" ["_law_hall","_law_stand","_law_push"] (sp0 K G__law_pushed)) (C_pushed:zc4 P w K mg base k "pushed" ["hall","stand","push"] (sp0 K G_pushed)) (C_all_pushes:zc4 P w K mg base k "all_pushes" ["hall","stand"] (sp0 K G_all_pushes)) (f:Addr) (cdv:Value) (A:Around) (outer:List Env) (s:Shared) (H:Hp) (E:XK),Room k (A.deeper (envOfC "law" (za1 s_law) s.heap.objs.size f cdv))->
 DSs (cxOf CX0 P w K mg base n_law "law" (za1 s_law) f cdv A outer s H E).nox (cxS (WdS p l) K (fun _=>none)) ((zb7 s_law).drop 1) B }:=by
 refine⟨?B,fun P w K mg base p l hm cs k C__law_take C__law_line C__law_laid C__law_far C__law_step C__law_same C_movers g_pushed e_pushed C__law_told_at_pushed C__law_pushed C_pushed C_all_pushes f cdv A outer s H E hr=>?h⟩;case h=>
  refine' za4 ?q1 ?r1;case q1=>
   refine' zj1 [] PassesOwn.never rfl ?i2 ?g2 ?b2;case i2=>exact(ze0 rfl hm.range (gDK_ za5 za2))
   case g2=>exact(zb3 (i:=2) zj6.nd rfl (Or.inl rfl))
   case b2=>
    refine' za4 ?q3 ?r3;case q3=>
     exact zb8 (i:=3) zj6.nd rfl (Or.inl rfl) (gY_ rfl (gL_ (gDK_ zf5 (gDK_ zf5 za2))) (ze8 C__law_take hr rfl (pv 1) (gDK_ za5 za2)) (fun _ _=>rfl))
    case r3=>
    refine' za4 ?q4 ?r4;case q4=>
     exact zb8 (i:=4) zj6.nd rfl (Or.inl rfl) (ze8 C__law_line hr rfl (pv 1) (gDN_ (za0 (pv 3)) za2))
    case r4=>
    refine' za4 ?q5 ?r5;case q5=>
     exact zb8 (i:=5) zj6.nd rfl (Or.inl rfl) (de_cb (gEK_ za5 (gEB_ (gp_ rfl (gp_ rfl (gY_ rfl (gY_ rfl (za0 (pv 4)) (de_neg (ga:=.R) za5) (fun _ _=>rfl)) za5 (fun _ _=>rfl)) (gY_ rfl (gY_ rfl (za0 (pv 4)) (de_neg (ga:=.R) za5) (fun _ _=>rfl)) za5 (fun _ _=>rfl))) (ze8 C__law_take hr rfl (pv 1) (gDK_ za5 za2))) za2)) (call_min2 rfl) (cd_ints2 _) rfl hm.min boot_min)
    case r5=>
    refine' za4 ?q6 ?r6;case q6=>
     exact zb8 (i:=6) zj6.nd rfl (Or.inl rfl) (gY_ rfl (de_lst (gEK_ za5 (gEK_ za5 (gEB_ (gp_ rfl za5 (ze8 C__law_take hr rfl (pv 1) (gDK_ za5 za2))) za2)))) (ze8 C__law_take hr rfl (pv 1) (gDK_ za5 za2)) (fun _ _=>rfl))
    case r6=>
    refine' za4 ?q7 ?r7;case q7=>
     exact ds_asg (ze8 C__law_laid hr rfl (pv 1) (gDN_ (za0 (pv 4)) (gDN_ (za0 (pv 3)) (gDN_ (za0 (pv 6)) (gDN_ (za0 (pv 5)) za2))))) (dg_tup (n:=2) rfl rfl (zc1 (zb3 (i:=7) zj6.nd rfl (Or.inl rfl)) (zc1 (zb3 (i:=8) zj6.nd rfl (Or.inl rfl)) zl1)))
    case r7=>
    refine' za4 ?q8 ?r8;case q8=>
     exact zb8 (i:=9) zj6.nd rfl (Or.inl rfl) (gL_ za2)
    case r8=>
    refine' za4 ?q9 ?r9;case q9=>
     refine' zj1 [] PassesOwn.never rfl ?i10 ?g10 ?b10;case i10=>exact(ze0 rfl hm.range (gDC_ (gA_ (de_cb (gDN_ (za0 (pv 4)) za2) zc6 (cd_len rfl) rfl hm.len PySem.boot_len)) za2))
     case g10=>exact(zb3 (i:=10) zj6.nd rfl (Or.inr rfl))
     case b10=>
      refine' za7 ?q11;case q11=>
       refine' zj1 [] PassesOwn.never rfl ?i12 ?g12 ?b12;case i12=>exact(ze0 rfl hm.range (gDK_ za5 za2))
       case g12=>exact(zb3 (i:=11) zj6.nd rfl (Or.inr rfl))
       case b12=>
        refine' za4 ?q13 ?r13;case q13=>
         exact zb8 (i:=12) zj6.nd rfl (Or.inl rfl) (zc2 C__law_far hr rfl (gDN_ (za0 (pv 7)) (gDN_ (za0 (pv 8)) (gDN_ (za0 (pv 10)) (gDN_ (za0 (pv 11)) za2)))))
        case r13=>
        refine' za4 ?q14 ?r14;case q14=>
         exact zb8 (i:=9) zj6.nd rfl (Or.inl rfl) (gp_ rfl (za0 (pv 9)) (zl2 (N':=["_law_k","_law_n","_law_direction"]) (ixs:=[none,some 10,some 11]) [] (zl8.scope (N:=n_law) (osc:=za1 s_law) (by decide +kernel)) rfl (ze0 rfl hm.range (gDN_ (za0 (pv 12)) za2)) (fun av cl C s H fp=>⟨(zb3 (i:=0) (show (["_law_k","_law_n","_law_direction"]:List Str).Nodup by decide +kernel) rfl (Or.inl rfl)),zm6,(gU_ (gDN_ (za0 (pv 1)) (gDN_ (za0 (pv 2)) (gDB_ (gP_ rfl (za0 (pv 0)) za5) za2))))⟩)))
        case r14=>
        refine' za4 ?q15 ?r15;case q15=>
         exact zb8 (i:=13) zj6.nd rfl (Or.inl rfl) (zc2 C__law_step hr rfl (gDN_ (za0 (pv 7)) (gDN_ (za0 (pv 8)) (gDN_ (za0 (pv 10)) (gDN_ (za0 (pv 11)) za2)))))
        case r15=>
        refine' za4 ?q16 ?r16;case q16=>
         refine' ds_if ?t17 ?a17 ?b17;case t17=>exact(dt_not (zk9 (g:=.R) (zc2 C__law_same hr rfl (gEC_ (zc2 C_movers hr rfl (gDN_ (za0 (pv 7)) (gDN_ (za0 (pv 8)) (gDN_ (za0 (pv 10)) (gDN_ (za0 (pv 11)) za2))))) (zg5 (g:=.R) (de_if (gT_ (zd3 (ga:=.R) (gb:=.R) op_isN od_isN (za0 (pv 13)) zf9 rfl)) zf9 (gA_ (de_ct (gDN_ (za0 (pv 13)) za2) zf7 (cd_tuple rfl) rfl hm.tuple boot_tuple))) za2)))))
         case a17=>
          refine' za7 ?q18;case q18=>
           exact zd2 de_blP
         case b17=>
          exact zd0
        case r16=>
        refine' za4 ?q19 ?r19;case q19=>
         refine' ds_if ?t20 ?a20 ?b20;case t20=>exact(zd3 (ga:=.R) (gb:=.R) (op_neD hr) (ze3 rfl) (de_callG C__law_told_at_pushed hr rfl (dag_cons (g:=.R) (za0 (pv 7)) (dag_cons (g:=.R) (za0 (pv 8)) (dag_cons (g:=.R) (gU_ (gDN_ (za0 (pv 10)) (gDN_ (za0 (pv 11)) (gDB_ (gP_ rfl (za0 (pv 12)) za5) za2)))) (dag_last (pe_glob (v:=.ref g_pushed) rfl e_pushed rfl)))))) (gU_ (gDK_ zf5 (gDK_ za5 (gDN_ (za0 (pv 12)) za2)))) rfl)
         case a20=>
          refine' za7 ?q21;case q21=>
           exact zd2 de_blP
         case b20=>
          exact zd0
        case r19=>
        refine' za7 ?q22;case q22=>
         refine' ds_if ?t23 ?a23 ?b23;case t23=>exact(gT_ (zd3 (ga:=.R) (gb:=.R) op_gt od_B0 (za0 (pv 12)) za5 rfl))
         case a23=>
          refine' za4 ?q24 ?r24;case q24=>
           exact zb8 (i:=14) zj6.nd rfl (Or.inl rfl) (zc2 C__law_pushed hr rfl (gDN_ (za0 (pv 7)) (gDN_ (za0 (pv 8)) (gDT_ (gU_ (gDN_ (za0 (pv 10)) (gDN_ (za0 (pv 11)) (gDN_ (za0 (pv 12)) za2)))) za2))))
          case r24=>
          refine' za7 ?q25;case q25=>
           refine' ds_if ?t26 ?a26 ?b26;case t26=>exact(dt_not (zk9 (g:=.R) (zc2 C__law_same hr rfl (gEC_ (zc2 C_pushed hr rfl (gDN_ (za0 (pv 7)) (gDN_ (za0 (pv 8)) (gDT_ (gU_ (gDN_ (za0 (pv 10)) (gDN_ (za0 (pv 11)) (gDN_ (za0 (pv 12)) za2)))) za2)))) (gDN_ (za0 (pv 14)) za2)))))
           case a26=>
            refine' za7 ?q27;case q27=>
             exact zd2 de_blP
           case b26=>
            exact zd0
         case b23=>
          exact zd0
    case r9=>
    refine' za7 ?q28;case q28=>
     refine' ds_if ?t29 ?a29 ?b29;case t29=>exact(dt_not (zk9 (g:=.R) (zc2 C__law_same hr rfl (gEC_ (zc2 C_all_pushes hr rfl (gDN_ (za0 (pv 7)) (gDN_ (za0 (pv 8)) za2))) (gDN_ (za0 (pv 9)) za2)))))
     case a29=>
      refine' za7 ?q30;case q30=>
       exact zd2 de_blP
     case b29=>
      exact zd0
  case r1=>
  refine' za7 ?q31;case q31=>
   exact zd2 de_blP
end
section
variable {P:Program} {w:World} {K:PySem.W.Frag} {mg:Str->Option Value} {base:Heap}
set_option tactic.hygienic true in
theorem ok_law {f:Addr} {fd:FuncData} (F:Fun K "law" "law" s_law f fd) {k:Nat} (CB:zc4 P w K mg base k "_law_begin" ["_law_script"] (spBegin K)) {B:FnS Dr}
 (hb:∀(p l:Addr) (cdv:Value) (A:Around) (outer:List Env) (s:Shared) (H:Hp) (E:XK),Room k (A.deeper (envOfC "law" (za1 s_law) s.heap.objs.size f cdv))->DSs (cxOf CX0 P w K mg base n_law "law" (za1 s_law) f cdv A outer s H E).nox (cxS (WdS p l) K (fun _=>none)) ((zb7 s_law).drop 1) B)
 (hB:∀ns:List Int,ns.length<=63->wpR (B (rhoL n_law.length) (zo5 ns,0)) (fun fl _=>fl=.rt (.bl true)) fun _ _=>False):FnOk P w K mg base CX0 (k+1) f fd ["_law_script"] (spLaw K):=by
 refine F.ok zj6 (fun vs H Q E h=>?_) (fun cdv A outer s H vs Q E hr h=>?_)
 ·obtain⟨a,ns,rfl,_⟩:=h;rfl
 ·obtain⟨a,ns,rfl,hS,h63,q⟩:=h
  obtain⟨fa,fd',m1,m2,m3,m4⟩:=CB.ex;refine⟨_,ze7 (zn2 (i:=1) zj6.nd rfl (Or.inl rfl) (pe_call (E:=E0) m4 hr (by rfl) m1 m2 m3 .nil pass0 (zb9 (pv 0) zh1))) (pss_exL (K:=K) fun p l=>hb p l cdv A outer s H E hr),?_⟩;refine⟨.ref a,rfl,a,ns,rfl,hS,h63,fun p l H' sm hp hl h1 h2=>?_⟩;have cl:(zo5 ns).length<=63/\zo5 ns≠[]:=by
   unfold zo5;split
   ·exact⟨by decide,by simp⟩
   ·rename_i hne;exact⟨h63,hne⟩
  refine⟨p,l,rhoL n_law.length,(zo5 ns,0),rep_L (m:=n_law.length-2),⟨h1,h2,cl.2,cl.1,Int.le_refl 0⟩,?_⟩;refine za6 (hB ns h63) (fun fl st' e=>?_) fun x st' e=>e.elim
  subst e;intro v H2 _ _ z;rw[Is.bl_iff.mp z];exact q H2
end
end K11
end
section
namespace K11
open PySem PySem.Spec PyProof.Rows L2
section
variable {S:Type} {E:Exn->S->Prop} {Q:Fl->S->Prop} {B:FnS S}
theorem wp_forR {g:FnG} (I:Nat->Rho->S->Prop) {l:List D} {ρ:Rho} {st:S} (n:Nat) (h0:I n ρ st)
 (hs:∀i d ρ st,l[i]?=some d->I (n+i) ρ st->∀P:Fl->S->Prop,(∀ρ2 st',I (n+i+1) ρ2 st'->P (.nx ρ2) st')->(∀d st',Q (.rt d) st'->P (.rt d) st')->∃ρ1,g d ρ=some ρ1/\wpR (B ρ1 st) P E)
 (he:∀ρ st,I (n+l.length) ρ st->Q (.nx ρ) st):wpR (forD S g B l ρ st) Q E:=
 wp_forD I n h0 (fun i d ρ st h h'=>hs i d ρ st h h' _ (fun _ _ z=>z) fun _ _ z=>z) he
theorem zh4 {g:FnG} (I:Nat->Rho->S->Prop) {l:List D} {ρ:Rho} {st:S} (n:Nat) (h0:I n ρ st)
 (hs:∀i d ρ st,l[i]?=some d->I (n+i) ρ st->∀P:Fl->S->Prop,(∀ρ2 st',I (n+i+1) ρ2 st'->P (.nx ρ2) st')->∃ρ1,g d ρ=some ρ1/\wpR (B ρ1 st) P E)
 (he:∀ρ st,I (n+l.length) ρ st->Q (.nx ρ) st):wpR (forD S g B l ρ st) Q E:=
 wp_forD I n h0 (fun i d ρ st h h'=>hs i d ρ st h h' _ fun _ _ z=>z) he
theorem zp4 {t:FnT S} {ρ:Rho} {st:S} (I:Rho->S->Prop) (μ:Rho->S->Nat) (h0:I ρ st)
 (hs:∀ρ st,I ρ st->∀(P:Fl->S->Prop) (Z:S->Prop),(∀ρ2 st2,I ρ2 st2->μ ρ2 st2<μ ρ st->P (.nx ρ2) st2)->(∀d st',Q (.rt d) st'->P (.rt d) st')->(∀st1,Q (.nx ρ) st1->Z st1)->wpR (t ρ st) (fun b st1=>if b=true then wpR (B ρ st1) P E else Z st1) E):wpR (sWhile S t B ρ st) Q E:=
 wp_sWhile I μ h0 fun ρ st h=>hs ρ st h _ (fun st1=>Q (.nx ρ) st1) (fun _ _ a b=>⟨a,b⟩) (fun _ _ z=>z) fun _ z=>z
end
noncomputable abbrev Cell:=Int×Int
noncomputable def cellD (p:Cell):D:=.tup [.int p.1,.int p.2]
theorem ze9 (p:Cell):(cellD p).imm=true:=by simp[cellD,D.imm,D.immL]
theorem cell_dep (p:Cell):(cellD p).dep<=1:=by simp[cellD,D.dep,D.depL]
noncomputable def covR (h:Int) (p:Cell) (i:Nat):List Cell:=(List.range h.toNat).map fun (j:Nat)=>(p.1+(i:Int),p.2+(j:Int))
noncomputable def cov (w h:Int) (p:Cell):List Cell:=(List.range w.toNat).flatMap (covR h p)
theorem mem_cov {w h:Int} {p q:Cell}:q∈cov w h p↔p.1<=q.1/\q.1<p.1+w/\p.2<=q.2/\q.2<p.2+h:=by
 unfold cov covR;simp only[List.mem_flatMap,List.mem_range,List.mem_map];constructor
 ·rintro ⟨i,hi,j,hj,rfl⟩
  refine⟨?_,?_,?_,?_⟩<;>simp<;>omega
 ·rintro ⟨h1,h2,h3,h4⟩
  refine⟨(q.1-p.1).toNat,by omega,(q.2-p.2).toNat,by omega,?_⟩;refine Prod.ext ?_ ?_<;>simp<;>omega
theorem cov_length {w h:Int} {p:Cell}:(cov w h p).length=w.toNat*h.toNat:=by
 unfold cov covR;rw[List.length_flatMap];simp only[List.length_map,List.length_range,List.map_const',List.sum_replicate_nat]
noncomputable def kd (w h:Int) (ways:Str) (s:Int):D:=.tup [.int w,.int h,.str ways,.int s]
theorem kd_imm {w h:Int} {ways:Str} {s:Int}:(kd w h ways s).imm=true:=by simp[kd,D.imm,D.immL]
theorem at0 {a b c d:D}:atI [a,b,c,d] 0=some a:=rfl
theorem at1 {a b c d:D}:atI [a,b,c,d] 1=some b:=rfl
theorem at2 {a b c d:D}:atI [a,b,c,d] 2=some c:=rfl
theorem at3 {a b c d:D}:atI [a,b,c,d] 3=some d:=rfl
theorem pt0 {a b:D}:atI [a,b] 0=some a:=rfl
theorem pt1 {a b:D}:atI [a,b] 1=some b:=rfl
noncomputable def coveredF:List D->Res Unit D:=dfn 4 2 zm7.1
theorem oExt_eq {l m:List D} (h1:D.immL m=true) (h2:l.length+m.length<=1000):oExt l (.lst m)=some (l++m):=by
 show (if D.immL m=true/\l.length+m.length<=sizeLine then some (l++m) else none)=_;rw[if_pos ⟨h1,zg3 h2⟩]
theorem nat_mul_le {a b c d:Nat} (h1:a<=c) (h2:b<=d):a*b<=c*d:=Nat.mul_le_mul h1 h2
theorem wp_covered {w h:Int} {ways:Str} {s:Int} {p:Cell} {Q:D->Unit->Prop} {E:Exn->Unit->Prop} (hw:w<=30) (hh:h<=30) (h0:0<=w) (h1:0<=h) (hq:Q (.lst ((cov w h p).map cellD)) ()):wpR (coveredF [kd w h ways s,cellD p]) Q E:=by
 refine zg7 rfl (by decide) ?_;unfold zm7;dsimp only;simp?! [zb2,oLst0,kd,oIx,at0,at1];rw[zd6 (by omega) h0];refine zh4 (fun i ρ st'=>∃x,ρ=[.bor (kd w h ways s),.bor (cellD p),.own (.lst (((List.range i).flatMap (covR h p)).map cellD)),x]) 0 ⟨_,rfl⟩ (fun i d ρ st' hd hI P pn=>?_) fun ρ st' hI=>?_
 ·obtain⟨x,e⟩:=hI
  obtain⟨rfl,hi⟩:=zd4 hd;subst e;have him:∀i:Nat,D.immL (((List.range i).flatMap (covR h p)).map cellD)=true:=fun i=>zb5 ze9 _
  refine⟨_,rfl,?_⟩;simp?! [zb2,lstOf,him,kd,oIx,at0,at1];rw[zd6 (by omega) h1];refine zg8 (fun d=>match d with | .int j=>cellD (p.1+(i:Int),p.2+j) | _=>.non) (fun ρ=>∃x,ρ=[x,.bor (.int (0+(i:Int))),.bor (cellD p)]) ⟨_,rfl⟩ (fun d hd ρ hI122=>?_) (zg3 (by rw[zc3];omega)) ?_
  ·obtain⟨x,e⟩:=hI122
   subst e;obtain⟨j,hj⟩:=List.getElem?_of_mem hd;obtain⟨rfl,hj'⟩:=zd4 hj;refine⟨_,rfl,⟨_,rfl⟩,⟨rfl,rfl⟩,?_⟩;simp?! [zb2,cellD,oIx,pt0,pt1,oAddU,iOp0,oTup2];simp
  ·have e:(zj5 0 h.toNat).map (fun d=>match d with | .int j=>cellD (p.1+(i:Int),p.2+j) | _=>D.non)=(covR h p i).map cellD:=by
    unfold zj5 covR;rw[List.map_map,List.map_map];refine List.map_congr_left fun j _=>?_
    simp[cellD]
   rw[e];refine⟨_,oExt_eq (zb5 ze9 _) ?_,pn _ _ ⟨.bor (.int (0+(i:Int))),?_⟩⟩
   ·rw[List.length_map,List.length_map,List.length_flatMap]
    unfold covR;simp only[List.length_map,List.length_range,List.map_const',List.sum_replicate_nat];have:i*h.toNat<=29*30:=nat_mul_le (by omega) (by omega);omega
   ·rw[List.range_succ,List.flatMap_append,List.map_append]
    simp[kd]
 ·obtain⟨x,e⟩:=hI
  subst e;rw[zc3,Nat.zero_add];have him:∀i:Nat,D.immL (((List.range i).flatMap (covR h p)).map cellD)=true:=fun i=>zb5 ze9 _
  simp?! [zb2,him];exact hq
noncomputable def Ways (x:Str):Prop:=x = "any"\/x = "row"\/x = "column"\/x = "none"
noncomputable def minI (a b:Int):Int:=if b<a then b else a
theorem min_eq {a b:Int}:oInts2 (fun i j=>if j<i then j else i) [.int a,.int b]=some (.int (minI a b)):=rfl
theorem minI_le {a b:Int}:minI a b<=a/\minI a b<=b/\(minI a b=a\/minI a b=b):=by unfold minI;split<;>omega
end K11
end
section
namespace K11
open PySem PySem.Spec PyProof.Rows L2
structure Tr where
 w:Int
 h:Int
 ways:Str
 s:Int
 x:Int
 y:Int
noncomputable def Tr.kind (t:Tr):D:=kd t.w t.h t.ways t.s
noncomputable def Tr.place (t:Tr):D:=cellD (t.x,t.y)
noncomputable def Tr.cells (t:Tr):List Cell:=cov t.w t.h (t.x,t.y)
structure TrOk (wide high:Int) (sh:List Cell) (t:Tr):Prop where
 w1:1<=t.w
 h1:1<=t.h
 x0:0<=t.x
 xw:t.x+t.w<=wide
 y0:0<=t.y
 yh:t.y+t.h<=high
 ways:Ways t.ways
 st:t.s=0\/t.s=1\/t.s=-1
 free:∀c∈t.cells,c∉sh
structure zf6 (wide high:Int) (sh:List Cell) (ts:List Tr):Prop where
 w1:1<=wide
 w9:wide<=9
 h1:1<=high
 h9:high<=9
 sub:sh.Sublist (cov wide high (0,0))
 few:ts.length<=12
 tr:∀t∈ts,TrOk wide high sh t
 apart:ts.Pairwise fun a b=>∀c∈a.cells,c∉b.cells
noncomputable def hallD (wide high:Int) (sh:List Cell) (ts:List Tr):D:=.tup [.int wide,.int high,.tup (sh.map cellD),.tup (ts.map Tr.kind)]
noncomputable def za8 (ts:List Tr):D:=.tup (ts.map Tr.place)
theorem kind_imm (t:Tr):t.kind.imm=true:=kd_imm
theorem zf2 (t:Tr):t.place.imm=true:=ze9 _
noncomputable def ck (c:Cell):List Key:=[.inl c.1,.inl c.2]
theorem keys_cell (c:Cell):zd7 (cellD c)=some (ck c):=rfl
theorem ck_inj {a b:Cell} (h:ck a=ck b):a=b:=by
 unfold ck at h;have h1:a.1=b.1/\a.2=b.2:=by simpa using h
 exact Prod.ext h1.1 h1.2
theorem cov_le {w h:Int} {p:Cell} (hw:w<=9) (hh:h<=9):(cov w h p).length<=81:=by
 rw[cov_length];exact nat_mul_le (c:=9) (d:=9) (by omega) (by omega)
noncomputable def hasT (T:List Cell):D->D
 | .tup [.int x,.int y]=>.bl (decide ((x,y)∈T))
 | _=>.non
theorem hasT_map (T:List Cell) (l:List Cell):(l.map cellD).map (hasT T)=l.map fun c=>.bl (decide (c∈T)):=by rw[List.map_map];rfl
end K11
end
section
namespace K11
open PySem PySem.Spec PyProof.Rows L2
noncomputable def dx (d:Int):Int:=if d=0 then 1 else if d=2 then -1 else 0
noncomputable def dy (d:Int):Int:=if d=1 then 1 else if d=3 then -1 else 0
noncomputable def Dir (d:Int):Prop:=0<=d/\d<4
theorem Dir.cases {d:Int} (h:Dir d):d=0\/d=1\/d=2\/d=3:=by obtain⟨h1,h2⟩:=h;omega
noncomputable def behindF:List D->Res Unit D:=dfn 2 2 zo9.1
theorem wp_behind {p:Cell} {d:Int} {Q:D->Unit->Prop} {E:Exn->Unit->Prop} (hd:Dir d) (hq:Q (cellD (p.1+dx d,p.2+dy d)) ()):wpR (behindF [cellD p,.int d]) Q E:=by
 refine zg7 rfl (by decide) ?_;unfold zo9;dsimp only;have l4:∀a b c e:Int,oLst [.int a,.int b,.int c,.int e]=some (.lst [.int a,.int b,.int c,.int e]):=fun a b c e=>zj3 (by simp[D.immL,D.imm]) (by simp)
 rcases hd.cases with r | r | r | r<;>subst r<;>simp?! [zb2,cellD,oIx,pt0,pt1,l4,at0,at1,at2,at3,oAddU,iOp0,oTup2]<;>exact hq
noncomputable def goesF:List D->Res Unit D:=dfn 2 2 _law_goes_m.1
noncomputable def goesI (ways:Str) (d:Int):Bool:=ways == "any"||ways == (if d % 2=0 then "row" else "column")
theorem wp_goes {w h s d:Int} {ways:Str} {Q:D->Unit->Prop} {E:Exn->Unit->Prop} (hd:Dir d) (hq:Q (.bl (goesI ways d)) ()):wpR (goesF [kd w h ways s,.int d]) Q E:=by
 refine zg7 rfl (by decide) ?_;unfold _law_goes_m;dsimp only;have cm:(0:Int)<2:=by decide
 have i2:∀{d:Int},iOp (fun _ j=>0<j) (fun i j=>D.int (i % j)) (.int d) (.int 2)=some (.int (d % 2)):=fun {d}=>iOp_eq (C:=fun _ j=>0<j) cm
 simp?! [zb2,kd,oIx,at2,zj4,oLst2,i2];by_cases hw:ways == ("any" : Str)
 ·simp?! [hw,zb2]
  have:goesI ways d=true:=by simp[goesI,hw]
  rw[this] at hq;exact hq
 ·have hw':(ways == ("any" : Str))=false:=by simpa using hw
  simp?! [hw',zb2];have e:goesI ways d=(ways == (if d % 2=0 then "row" else "column")):=by simp[goesI,hw']
  rw[e] at hq;rcases hd.cases with r | r | r | r<;>subst r<;>exact⟨.inl imm_bl,hq⟩
noncomputable def Tr.ahead (t:Tr) (d:Int):List Cell:=cov t.w t.h (t.x+dx d,t.y+dy d)
noncomputable def Tr.to (t:Tr) (d:Int):Tr:={ t with x:=t.x+dx d,y:=t.y+dy d }
noncomputable def okT (wide high:Int) (sh:List Cell) (t:Tr) (d:Int):Prop:=goesI t.ways d=true/\∀c∈t.ahead d,c∉sh/\0<=c.1/\c.1<wide/\0<=c.2/\c.2<high
noncomputable def hit (t u:Tr) (d:Int):Prop:=∃c∈u.cells,c∈t.ahead d
inductive Reach (ts:List Tr) (d:Int) (n:Nat):Nat->Prop where
 | self:Reach ts d n n
 | more {m k:Nat} {t u:Tr}:Reach ts d n m->ts[m]?=some t->ts[k]?=some u->hit t u d->Reach ts d n k
theorem inD_cells (c:Cell):∀l:List Cell,inD (cellD c) (l.map cellD)=some (decide (c∈l))
 | []=>by simp[inD]
 | a::l=>by
   show ((D.eqq (cellD a) (cellD c)).bind fun b=>(inD (cellD c) (l.map cellD)).map fun x=>b||x)=_;rw[inD_cells c l];have e:D.eqq (cellD a) (cellD c)=some (decide (a=c)):=by
    show (D.eqq (.int a.1) (.int c.1)).bind (fun x=>(D.eqL [.int a.2] [.int c.2]).map fun y=>x&&y)=_;rw[eqq_int];show (D.eqL [.int a.2] [.int c.2]).map (fun y=>(a.1 == c.1)&&y)=_;show ((D.eqq (.int a.2) (.int c.2)).bind (fun x=>(D.eqL [] []).map fun y=>x&&y)).map (fun y=>(a.1 == c.1)&&y)=_;rw[eqq_int];show some ((a.1 == c.1)&&((a.2 == c.2)&&true))=_;rw[Option.some.injEq,Bool.eq_iff_iff];simp[Prod.ext_iff]
   rw[e];simp only[Option.bind_some,Option.map_some,Option.some.injEq];by_cases h:a=c
   ·subst h;simp
   ·have h':c≠a:=fun z=>h z.symm
    simp[h,h',List.mem_cons]
theorem inD_nats (k:Nat):∀l:List Nat,inD (.int k) (l.map fun j:Nat=>D.int j)=some (decide (k∈l))
 | []=>by simp[inD]
 | a::l=>by
   show ((D.eqq (.int a) (.int k)).bind fun b=>(inD (.int k) (l.map fun j:Nat=>D.int j)).map fun x=>b||x)=_;rw[inD_nats k l];simp only[eqq_int,Option.bind_some,Option.map_some,Option.some.injEq];by_cases h:a=k
   ·subst h;simp
   ·have h':k≠a:=fun z=>h z.symm
    have h'':((a:Int) == (k:Int))=false:=by rw[beq_eq_false_iff_ne];omega
    rw[h''];simp[h',List.mem_cons]
theorem oIn_cells {neg:Bool} {c:Cell} {l:List Cell}:oIn neg (cellD c) (.tup (l.map cellD))=some (.bl (if neg then !decide (c∈l) else decide (c∈l)))/\oIn neg (cellD c) (.lst (l.map cellD))=some (.bl (if neg then !decide (c∈l) else decide (c∈l))):=by
 have hd:D.depL (l.map cellD)<=30:=Nat.le_trans (zo3 cell_dep l) (by decide);constructor
 ·show (if D.depL (l.map cellD)<=30 then (inD (cellD c) (l.map cellD)).map fun x=>D.bl (if neg then !x else x) else none)=_
  rw[if_pos hd,inD_cells];rfl
 ·show (if D.depL (l.map cellD)<=30 then (inD (cellD c) (l.map cellD)).map fun x=>D.bl (if neg then !x else x) else none)=_
  rw[if_pos hd,inD_cells];rfl
theorem oIn_nats {neg:Bool} {k:Nat} {l:List Nat}:oIn neg (.int k) (.lst (l.map fun j:Nat=>D.int j))=some (.bl (if neg then !decide (k∈l) else decide (k∈l))):=by
 have hd:D.depL (l.map fun j:Nat=>D.int j)<=30:=Nat.le_trans (zo3 (n:=0) (fun a=>by simp[D.dep]) l) (by decide);show (if D.depL (l.map fun j:Nat=>D.int j)<=30 then (inD (.int k) (l.map fun j:Nat=>D.int j)).map fun x=>D.bl (if neg then !x else x) else none)=_;rw[if_pos hd,inD_nats];rfl
theorem zo2 {ts:List Tr} {m:Nat} {t:Tr} (h:ts[m]?=some t):oIx (.tup (ts.map Tr.kind)) (.int m)=some t.kind:=(ix_get (kind_imm t) (by omega) (by rw[Int.toNat_natCast,List.getElem?_map,h];rfl)).2
theorem get_place {ts:List Tr} {m:Nat} {t:Tr} (h:ts[m]?=some t):oIx (.tup (ts.map Tr.place)) (.int m)=some t.place:=(ix_get (zf2 t) (by omega) (by rw[Int.toNat_natCast,List.getElem?_map,h];rfl)).2
noncomputable def nats (g:List Nat):List D:=g.map fun j:Nat=>D.int j
theorem zg1 (g:List Nat):D.immL (nats g)=true:=zb5 (fun a=>imm_int) g
structure Cfg (wide high:Int) (sh:List Cell) (ts:List Tr):Prop where
 few:ts.length<=12
 sh:sh.length<=81
 wh:∀t∈ts,0<=t.w/\t.w<=9/\0<=t.h/\t.h<=9
theorem wp_anyIn {S:Type} {E:Exn->S->Prop} {st:S} {Q:D->S->Prop} {l T:List Cell} {x:Sl} {d:D} (hd:d=.tup (T.map cellD)\/d=.lst (T.map cellD)) (hl:l.length<=1000) (hq:Q (.bl (decide (∃c∈l,c∈T))) st) :
 wpR (compD S (gN 0) (fTrue S) (fP S (o2 (oIn false) (vr 0) (vr 1))) (l.map cellD) [] [x,.bor d] st) (fun r st2=>wpR (lift (oBools (fun bs=>bs.any id) [D.lst r]) st2) Q E) E:=by
 refine zg8 (hasT T) (fun ρ=>∃x,ρ=[x,.bor d]) ⟨_,rfl⟩ (fun e he ρ hI123=>?_) (zg3 (by rw[List.length_map];omega)) ?_
 ·obtain⟨x',er⟩:=hI123
  subst er;obtain⟨c,hc',rfl⟩:=List.mem_map.mp he;refine⟨_,rfl,⟨_,rfl⟩,⟨rfl,rfl⟩,?_⟩;have e1:oIn false (cellD c) d=some (.bl (decide (c∈T))):=by
   rcases hd with r | r
   ·rw[r];exact oIn_cells.1
   ·rw[r];exact oIn_cells.2
  simp! [e1];rfl
 ·rw[hasT_map]
  simp! [oBools,zo6,Option.map_some];have e2:(l.map fun c=>decide (c∈T)).any id=decide (∃c∈l,c∈T):=by
   rw[Bool.eq_iff_iff,List.any_map,List.any_eq_true,decide_eq_true_eq];simp
  rw[e2];exact hq
noncomputable def stepF:List D->Res Unit D:=dfn 14 4 (_law_step_m coveredF behindF goesF).1
theorem nats_get {g:List Nat} {j m:Nat} (h:g[j]?=some m):oIx (.lst (nats g)) (.int j)=some (.int m):=(ix_get imm_int (by omega) (by rw[Int.toNat_natCast];unfold nats;rw[List.getElem?_map,h];rfl)).1
theorem intsOf_nats (g:List Nat):intsOf (nats g)=some (g.map fun j:Nat=>(j:Int)):=intsOf_map (f:=fun j:Nat=>(j:Int)) g
set_option tactic.hygienic true in
theorem sort_nats (g:List Nat):∃g':List Nat,(PySem.W.sortI (g.map fun j:Nat=>(j:Int))).map D.int=nats g'/\g'.Perm g/\g'.Pairwise (·<=·):=by
 have hp:=PySem.W.sortI_perm (g.map fun j:Nat=>(j:Int));have hr:=PySem.W.sortI_rises (g.map fun j:Nat=>(j:Int));have hm:∀i∈PySem.W.sortI (g.map fun j:Nat=>(j:Int)),((i.toNat:Nat):Int)=i:=fun i hi=>by
  obtain⟨j,_,e⟩:=List.mem_map.mp (hp.mem_iff.mp hi);omega
 refine⟨(PySem.W.sortI (g.map fun j:Nat=>(j:Int))).map Int.toNat,?_,?_,?_⟩
 ·unfold nats
  rw[List.map_map];refine List.map_congr_left fun i hi=>?_
  show D.int i=D.int ((i.toNat:Nat):Int);rw[hm i hi]
 ·have:=hp.map Int.toNat
  rw[List.map_map] at this;refine this.trans (List.Perm.of_eq ?_);rw[show (Int.toNat ∘ fun j:Nat=>(j:Int))=id from funext fun j=>Int.toNat_natCast j,List.map_id]
 ·rw[List.pairwise_map]
  exact hr.imp fun h=>Int.toNat_le_toNat h
noncomputable def NoStep (wide high:Int) (sh:List Cell) (ts:List Tr) (d:Int) (n:Nat) (t:Tr):Prop:=
 t.s<0\/(∃m t',Reach ts d n m/\ts[m]?=some t'/\¬okT wide high sh t' d)\/(t.s=0/\∃m,m≠n/\Reach ts d n m)
structure Goers (wide high:Int) (sh:List Cell) (ts:List Tr) (d:Int) (n:Nat) (g:List Nat):Prop where
 nd:g.Nodup
 up:g.Pairwise (·<=·)
 all:∀m,m∈g↔Reach ts d n m
 lt:∀m∈g,m<ts.length
 ok:∀m∈g,∀t,ts[m]?=some t->okT wide high sh t d
 str:∀t,ts[n]?=some t->¬t.s<0/\(t.s=0->∀m∈g,m=n)
noncomputable def muS (ρ:Rho):Nat:=match (ρ[9]?:Option Sl) with
 | some (Sl.bor (D.int a))=>20-a.toNat
 | _=>0
theorem zl6:∀(N:Nat) (g:List Nat),g.Nodup->(∀m∈g,m<N)->g.length<=N
 | 0,g,_,h=>by
   cases g with
   | nil=>exact Nat.le_refl _
   | cons a g=>exact absurd (h a (by simp)) (Nat.not_lt_zero _)
 | N+1,g,nd,h=>by
   by_cases hN:N∈g
   ·have h1:=zl6 N (g.erase N) (nd.erase N) fun m hm=>by
     have:=h m (List.mem_of_mem_erase hm);have h2:m≠N:=fun z=>by subst z;exact(List.Nodup.not_mem_erase nd) hm
     omega
    rw[List.length_erase_of_mem hN] at h1;omega
   ·have h1:=zl6 N g nd fun m hm=>by
     have:=h m hm;have h2:m≠N:=fun z=>by subst z;exact hN hm
     omega
    omega
noncomputable def zj0 (wide high:Int) (c:Cell):Bool:=(decide (0<=c.1)&&decide (c.1<wide))&&(decide (0<=c.2)&&decide (c.2<high))
noncomputable def insD (wide high:Int):D->D
 | .tup [.int x,.int y]=>.bl (zj0 wide high (x,y))
 | _=>.non
theorem insD_map (wide high:Int) (l:List Cell):(l.map cellD).map (insD wide high)=l.map fun c=>.bl (zj0 wide high c):=by rw[List.map_map];rfl
theorem wp_within {S:Type} {E:Exn->S->Prop} {st:S} {Q:D->S->Prop} {l:List Cell} {x y:Sl} {wide high:Int} (hl:l.length<=1000) (hq:Q (.bl (l.all (zj0 wide high))) st) :
 wpR (compD S (gT 2 (gsCons (gN 0) (gsCons (gN 1) gsNil))) (fTrue S) (fAndV S (fChain S (iOp0 fun i j=>.bl (decide (i<=j))) (iOp0 fun i j=>.bl (decide (i<j))) (fP S (cn (.int 0))) (fP S (vr 0)) (fP S (vr 2))) (fChain S (iOp0 fun i j=>.bl (decide (i<=j))) (iOp0 fun i j=>.bl (decide (i<j))) (fP S (cn (.int 0))) (fP S (vr 1)) (fP S (vr 3)))) (l.map cellD) [] [x,y,.bor (.int wide),.bor (.int high)] st) (fun r st2=>wpR (lift (oBools (fun bs=>bs.all id) [D.lst r]) st2) Q E) E:=by
 refine zg8 (insD wide high) (fun ρ=>∃x y,ρ=[x,y,.bor (.int wide),.bor (.int high)]) ⟨_,_,rfl⟩ (fun e he ρ hI124=>?_) (zg3 (by rw[List.length_map];omega)) ?_
 ·obtain⟨x',y',er⟩:=hI124
  subst er;obtain⟨c,hc',rfl⟩:=List.mem_map.mp he;refine⟨_,rfl,⟨_,_,rfl⟩,⟨rfl,rfl⟩,?_⟩;simp! [iOp0];have e:insD wide high (cellD c)=.bl (zj0 wide high c):=rfl;rw[e];unfold zj0;by_cases h1:0<=c.1<;>by_cases h2:c.1<wide<;>by_cases h3:0<=c.2<;>by_cases h4:c.2<high<;>simp[h1,h2,h3,h4,D.imm]
 ·rw[insD_map]
  simp! [oBools,zo6,Option.map_some];have e2:(l.map fun c=>zj0 wide high c).all id=l.all (zj0 wide high):=by rw[List.all_map];rfl
  rw[e2];exact hq
theorem wp_step {wide high:Int} {sh:List Cell} {ts:List Tr} {n:Nat} {d:Int} {t0:Tr} {Q:D->Unit->Prop} {E:Exn->Unit->Prop} (hc:Cfg wide high sh ts) (hn:ts[n]?=some t0) (hd:Dir d)
 (hN:NoStep wide high sh ts d n t0->Q .non ()) (hL:∀g:List Nat,Goers wide high sh ts d n g->Q (.lst (nats g)) ()):wpR (stepF [hallD wide high sh ts,za8 ts,.int n,.int d]) Q E:=by
 refine zg7 rfl (by decide) ?_;unfold _law_step_m;dsimp only;rw  [zb2];simp! [hallD,za8];rw  [zb2];simp! [zo2 hn];have ks:∀t:Tr,oIx t.kind (.int 3)=some (.int t.s):=fun t=>rfl
 simp! [ks,iOp0];by_cases hs:t0.s<0
 ·rw[decide_eq_true hs]
  simp!;exact hN (.inl hs)
 ·rw[decide_eq_false hs]
  simp!;simp_all!;simp! [zj3];simp_all!;simp!;rw  [zb2];refine zp4 (fun ρ st=>∃(g:List Nat) (at':Nat) (x10 x11 x12 x13:Sl),ρ=[Sl.bor (hallD wide high sh ts),.bor (za8 ts),.bor (.int n),.bor (.int d),.bor (.int wide),.bor (.int high),.bor (.tup (sh.map cellD)),.bor (.tup (ts.map Tr.kind)),.own (.lst (nats g)),.bor (.int at'),x10,x11,x12,x13]/\g.Nodup/\(∀m∈g,m<ts.length/\Reach ts d n m)/\n∈g/\at'<=g.length/\(∀j m t,j<at'->g[j]?=some m->ts[m]?=some t->okT wide high sh t d/\∀k u,ts[k]?=some u->hit t u d->k∈g)) (fun ρ _=>muS ρ) ⟨[n],0,_,_,_,_,rfl,by simp,fun m hm=>?_,by simp,by simp,fun j m t hj=>absurd hj (Nat.not_lt_zero _)⟩ ?_
  ·rw[List.mem_singleton.mp hm]
   exact⟨(List.getElem?_eq_some_iff.mp hn).1,.self⟩
  ·intro ρ st hI P Z pn pr pz
   obtain⟨g,at',x10,x11,x12,x13,rfl,nd,hg,hng,hat,hdone⟩:=hI;have hgl:g.length<=ts.length:=zl6 _ g nd fun m hm=>(hg m hm).1
   have few:=hc.few;have gl:(nats g).length=g.length:=by unfold nats;rw[List.length_map]
   simp! [oLen,iOp0,gl];by_cases hlt:at' < g.length
   ·rw[decide_eq_true (show ((at':Nat):Int)<(g.length:Int) by omega),if_pos rfl]
    obtain⟨m,hm⟩:∃m,g[at']?=some m:=⟨_,List.getElem?_eq_getElem hlt⟩;have hmg:=List.mem_of_getElem? hm;obtain⟨hmN,hmR⟩:=hg m hmg;obtain⟨t,ht⟩:∃t,ts[m]?=some t:=⟨_,List.getElem?_eq_getElem hmN⟩;obtain⟨q1,q2,q3,q4⟩:=hc.wh t (List.mem_of_getElem? ht);simp_all!;simp! [nats_get hm];simp_all!;simp! [za8,zo2 ht,get_place ht];refine wp_behind (p:=(t.x,t.y)) hd ?_;refine wp_covered (by omega) (by omega) q1 q3 ?_;have ha:cov t.w t.h ((t.x,t.y).1+dx d,(t.x,t.y).2+dy d)=t.ahead d:=rfl;rw[ha];have ha81:(t.ahead d).length<=81:=cov_le q2 q4;simp! [zb5 ze9];simp_all!;simp! [zo2 ht];refine wp_goes hd ?_;by_cases hgo:goesI t.ways d=true
    ·rw[hgo]
     simp!;refine wp_anyIn (.inl rfl) (by omega) ?_;simp!;by_cases hsh:∃c∈t.ahead d,c∈sh
     ·rw[decide_eq_true hsh,if_pos rfl]
      refine hR_ _ _ ?_;refine pr _ _ (hN (.inr (.inl ⟨m,t,hmR,ht,fun ok=>?_⟩)));obtain⟨c,h1,h2⟩:=hsh;exact(ok.2 c h1).1 h2
     ·rw[decide_eq_false hsh]
      simp!;simp_all!;simp!;refine wp_within (by omega) ?_;simp!;by_cases hin:(t.ahead d).all (zj0 wide high)=true
      ·rw[hin]
       simp!;have hok:okT wide high sh t d:=⟨hgo,fun c hc'=>⟨fun h=>hsh ⟨c,hc',h⟩,by
        have:=List.all_eq_true.mp hin c hc';simp[zj0] at this;omega⟩⟩
       simp_all!;simp! [oLen,List.length_map];rw[zd6 (by omega) (by omega)];refine zh4 (fun k ρ st'=>∃(g':List Nat) (x12 x13:Sl),ρ=[Sl.bor (hallD wide high sh ts),.bor (za8 ts),.bor (.int n),.bor (.int d),.bor (.int wide),.bor (.int high),.bor (.tup (sh.map cellD)),.bor (.tup (ts.map Tr.kind)),.own (.lst (nats g')),.bor (.int at'),.bor (.int m),.own (.lst ((t.ahead d).map cellD)),x12,x13]/\g <+: g'/\g'.Nodup/\(∀m∈g',m<ts.length/\Reach ts d n m)/\(∀k' u,k' < k->ts[k']?=some u->hit t u d->k'∈g')) 0 ⟨g,_,_,rfl,List.prefix_refl _,nd,hg,fun k' u h=>absurd h (Nat.not_lt_zero _)⟩ (fun k e ρ st' hd' hI P2 pn2=>?_) fun ρ st' hI=>?_
       ·obtain⟨g',x12,x13,er,hpre,nd',hg',hk'⟩:=hI
        obtain⟨rfl,hkN⟩:=zd4 hd';rw[Int.toNat_natCast] at hkN;subst er;rw[Nat.zero_add] at hk';obtain⟨u,hu⟩:∃u,ts[k]?=some u:=⟨_,List.getElem?_eq_getElem hkN⟩;obtain⟨p1,p2,p3,p4⟩:=hc.wh u (List.mem_of_getElem? hu);have hgl':g'.length<=ts.length:=zl6 _ g' nd' fun m hm=>(hg' m hm).1
        have k0:(0:Int)+(k:Int)=(k:Int):=by omega
        refine⟨_,rfl,?_⟩;simp_all!;simp! [za8,k0,zo2 hu,get_place hu];refine wp_covered (p:=(u.x,u.y)) (by omega) (by omega) p1 p3 ?_;have hu81:u.cells.length<=81:=cov_le p2 p4;have hcu:cov u.w u.h (u.x,u.y)=u.cells:=rfl;rw[hcu];have on:∀g:List Nat,nats g=g.map fun j:Nat=>D.int j:=fun _=>rfl
        simp! [zb5 ze9,on,oIn_nats];by_cases hkg:k∈g'
        ·rw[decide_eq_true hkg]
         simp!;refine pn2 _ _ ⟨g',_,_,rfl,hpre,nd',hg',fun k'' u' h1 h2 h3=>?_⟩;by_cases h4:k''=k
         ·subst h4;exact hkg
         ·exact hk' k'' u' (by omega) h2 h3
        ·rw[decide_eq_false hkg]
         simp!;refine wp_anyIn (.inr rfl) (by omega) ?_;simp!;by_cases hh:∃c∈u.cells,c∈t.ahead d
         ·rw[decide_eq_true hh,if_pos rfl]
          have im':D.immL (g'.map fun j:Nat=>D.int j)=true:=zg1 g';simp! [lstOf,im'];refine⟨_,oApp_eq imm_int (by rw[List.length_map];omega),pn2 _ _ ⟨g'++[k],.bor (.int k),.own (.lst (u.cells.map cellD)),?_,hpre.trans (List.prefix_append _ _),?_,?_,?_⟩⟩
          ·unfold nats
           rw[List.map_append];rfl
          ·rw[List.nodup_append]
           refine⟨nd',by simp,fun a ha b hb e=>?_⟩;rw[List.mem_singleton.mp hb] at e;subst e;exact hkg ha
          ·intro m' hm'
           rcases List.mem_append.mp hm' with h | h
           ·exact hg' m' h
           ·rw[List.mem_singleton.mp h]
            exact⟨hkN,.more hmR ht hu hh⟩
          ·intro k'' u' h1 h2 h3
           by_cases h4:k''=k
           ·subst h4;simp
           ·exact List.mem_append_left _ (hk' k'' u' (by omega) h2 h3)
         ·rw[decide_eq_false hh]
          simp!;refine pn2 _ _ ⟨g',_,_,rfl,hpre,nd',hg',fun k'' u' h1 h2 h3=>?_⟩;by_cases h4:k''=k
          ·subst h4
           rw[hu] at h2;cases h2;exact absurd h3 hh
          ·exact hk' k'' u' (by omega) h2 h3
       ·obtain⟨g',x12,x13,er,hpre,nd',hg',hk'⟩:=hI
        subst er;simp! [oAddU,iOp0];rw[Nat.zero_add,zc3,Int.toNat_natCast] at hk';refine pn _ _ ⟨g',at' + 1,_,_,_,_,rfl,nd',hg',hpre.mem hng,?_,fun j m' t' hj hm' ht'=>?_⟩ ?_
        ·have:=hpre.length_le;omega
        ·by_cases h5:j=at'
         ·subst h5
          have e1:g'[j]?=some m:=by
           obtain⟨r,rfl⟩:=hpre;rw[List.getElem?_append_left hlt];exact hm
          rw[e1] at hm';cases hm';rw[ht] at ht';cases ht';exact⟨hok,fun k u h1 h2=>hk' k u (List.getElem?_eq_some_iff.mp h1).1 h1 h2⟩
         ·have hj':j<at':=by omega
          have e1:g[j]?=some m':=by
           obtain⟨r,rfl⟩:=hpre;rwa [List.getElem?_append_left (by omega)] at hm'
          obtain⟨z1,z2⟩:=hdone j m' t' hj' e1 ht';exact⟨z1,fun k u h1 h2=>hpre.mem (z2 k u h1 h2)⟩
        ·show 20-((at':Int)+1).toNat<20-((at':Nat):Int).toNat
         omega
      ·have hin':(t.ahead d).all (zj0 wide high)=false:=by simpa using hin
       rw[hin'];simp!;refine pr _ _ (hN (.inr (.inl ⟨m,t,hmR,ht,fun ok=>hin (List.all_eq_true.mpr fun c hc'=>?_)⟩)));have:=(ok.2 c hc').2;simp[zj0];omega
    ·have hgo':goesI t.ways d=false:=by simpa using hgo
     rw[hgo'];simp!;exact pr _ _ (hN (.inr (.inl ⟨m,t,hmR,ht,fun ok=>hgo ok.1⟩)))
   ·rw[decide_eq_false (show ¬((at':Nat):Int)<(g.length:Int) by omega)]
    simp!;refine pz _ ?_;simp!;have hall:∀m,m∈g↔Reach ts d n m:=fun m=>⟨fun h=>(hg m h).2,fun h=>by
     induction h with
     | self=>exact hng
     | more h1 h2 h3 h4 ih=>
       obtain⟨j,hj⟩:=List.getElem?_of_mem ih;have hjl:j<g.length:=(List.getElem?_eq_some_iff.mp hj).1;exact(hdone j _ _ (by omega) hj h2).2 _ _ h3 h4⟩
    have hokg:∀m∈g,∀t,ts[m]?=some t->okT wide high sh t d:=fun m hm t ht=>by
     obtain⟨j,hj⟩:=List.getElem?_of_mem hm;have hjl:j<g.length:=(List.getElem?_eq_some_iff.mp hj).1;exact(hdone j m t (by omega) hj ht).1
    have fin:(t0.s=0->∀m∈g,m=n)->wpR (sRet Unit (fP Unit (o1 oSorted (cs (vr 8) nl))) [Sl.bor (hallD wide high sh ts),.bor (za8 ts),.bor (.int n),.bor (.int d),.bor (.int wide),.bor (.int high),.bor (.tup (sh.map cellD)),.bor (.tup (ts.map Tr.kind)),.own (.lst (nats g)),.bor (.int at'),x10,x11,x12,x13] st) (fun fl st=>match fl with
     | .rt d=>Q d st
     | .nx _=>Q .non st
     | _=>False) E:=fun hz=>by
     obtain⟨g',e1,e2,e3⟩:=sort_nats g;have os:oSorted [.lst (nats g)]=some (.lst (nats g')):=by
      show (intsOf (nats g)).bind (fun ns=>if ns.length<64 then some (D.lst ((PySem.W.sortI ns).map D.int)) else none)=_;rw[intsOf_nats];show (if (g.map fun j:Nat=>(j:Int)).length<64 then some (D.lst ((PySem.W.sortI (g.map fun j:Nat=>(j:Int))).map D.int)) else none)=_;rw[if_pos (by rw[List.length_map];omega),e1]
     simp! [os,zg1];exact hL g' ⟨e2.symm.nodup nd,e3,fun m=>by rw[e2.mem_iff];exact hall m,fun m hm=>(hg m (e2.mem_iff.mp hm)).1,fun m hm=>hokg m (e2.mem_iff.mp hm),fun t ht=>by
      rw[hn] at ht;cases ht;exact⟨hs,fun z m hm=>hz z m (e2.mem_iff.mp hm)⟩⟩
    rw  [zb2];simp! [oLen,gl,iOp0,zo2 hn,ks,oEq_int];by_cases hone:1<g.length
    ·rw[decide_eq_true (show (1:Int)<(g.length:Int) by omega)]
     simp!;by_cases hz:t0.s=0
     ·have hz':(t0.s == 0)=true:=by simpa using hz
      rw[hz',if_pos rfl];refine hN (.inr (.inr ⟨hz,?_⟩));cases g with
      | nil=>simp at hone
      | cons a g=>
        cases g with
        | nil=>simp at hone
        | cons b g=>
          by_cases ha:a=n
          ·refine⟨b,fun e=>?_,(hall b).mp (by simp)⟩
           rw[ha,e] at nd;simp at nd
          ·exact⟨a,ha,(hall a).mp (by simp)⟩
     ·have hz':(t0.s == 0)=false:=by simpa using hz
      rw[hz'];simp!;have:=fin fun z=>absurd z hz
      simp only[wp_ok,wp_bad,wp_some,wp_none,wp_sNil,wp_sSet,wp_sSetB,wp_sAsg,wp_sPar,wp_sIf,wp_sRet,wp_sRetV,wp_sDrop,wp_sMt,wp_sRetN,wp_sBreak,wp_sCont,wp_sBad,wp_sAug,wp_fC,wp_fV,wp_fVk,wp_fI,wp_f2,wp_fA,wp_aNil,wp_aCons,wp_fCall,wp_fCallS,wp_fIs,wp_fAndV,wp_fOrV,wp_fNotV,wp_fIfE,wp_fNeg,wp_fCut,wp_pNo,wp_pSo,wp_iSeq,wp_iArgs,wp_fComp,wp_fB,wp_fAnd,wp_fOr,wp_fNot,wp_fTrue,wp_sPar3,wp_sItem,wp_sDPut,wp_fChain,wp_fDisp,wp_sTab2,wp_fGet,wp_sFor,wp_fP,wp_aP,wp_tP,own?,frz,frz1,pickR,gN,gT,gsCons,gsNil,D.seq?,D.immL,flat_lst,flat_dct,flat_int,flat_str,flat_bl,flat_non,flat_tup,imm_int,imm_str,imm_bl,imm_non,imm_tup,rho0,rhoS,rhoL,D.bl.injEq,D.int.injEq,D.str.injEq,List.getElem?_nil,List.map_cons,List.map_nil,Nat.zero_add,if_true,if_false,Bool.and_true,Bool.true_and,Bool.and_self,Bool.false_eq_true,Option.bind_some,Option.some.injEq,exists_eq_left',exists_eq_left,exists_eq_right,true_or,or_true,true_and,and_true,Bool.not_true,Bool.not_false,Option.some_or,Option.none_or,List.replicate_zero,List.replicate_succ,List.cons_append,List.nil_append,g0,gS,s0,sS,lC,lN,rd,putN,put,im,kp,vr,cn,o2,cs,nl,o1,ti,tb,boS,dbb,Nat.reduceAdd,Nat.reduceLT,Nat.reduceLeDiff,Nat.reduceSub,reduceIte] at this;exact this
    ·rw[decide_eq_false (show ¬(1:Int)<(g.length:Int) by omega)]
     simp!;have:=fin fun _ m hm=>by
      match g,hone,hng,hm with
      | [a],_,hng,hm=>rw[List.mem_singleton.mp hm,List.mem_singleton.mp hng]
      | a::b::g,hone,_,_=>simp at hone
     simp only[wp_ok,wp_bad,wp_some,wp_none,wp_sNil,wp_sSet,wp_sSetB,wp_sAsg,wp_sPar,wp_sIf,wp_sRet,wp_sRetV,wp_sDrop,wp_sMt,wp_sRetN,wp_sBreak,wp_sCont,wp_sBad,wp_sAug,wp_fC,wp_fV,wp_fVk,wp_fI,wp_f2,wp_fA,wp_aNil,wp_aCons,wp_fCall,wp_fCallS,wp_fIs,wp_fAndV,wp_fOrV,wp_fNotV,wp_fIfE,wp_fNeg,wp_fCut,wp_pNo,wp_pSo,wp_iSeq,wp_iArgs,wp_fComp,wp_fB,wp_fAnd,wp_fOr,wp_fNot,wp_fTrue,wp_sPar3,wp_sItem,wp_sDPut,wp_fChain,wp_fDisp,wp_sTab2,wp_fGet,wp_sFor,wp_fP,wp_aP,wp_tP,own?,frz,frz1,pickR,gN,gT,gsCons,gsNil,D.seq?,D.immL,flat_lst,flat_dct,flat_int,flat_str,flat_bl,flat_non,flat_tup,imm_int,imm_str,imm_bl,imm_non,imm_tup,rho0,rhoS,rhoL,D.bl.injEq,D.int.injEq,D.str.injEq,List.getElem?_nil,List.map_cons,List.map_nil,Nat.zero_add,if_true,if_false,Bool.and_true,Bool.true_and,Bool.and_self,Bool.false_eq_true,Option.bind_some,Option.some.injEq,exists_eq_left',exists_eq_left,exists_eq_right,true_or,or_true,true_and,and_true,Bool.not_true,Bool.not_false,Option.some_or,Option.none_or,List.replicate_zero,List.replicate_succ,List.cons_append,List.nil_append,g0,gS,s0,sS,lC,lN,rd,putN,put,im,kp,vr,cn,o2,cs,nl,o1,ti,tb,boS,dbb,Nat.reduceAdd,Nat.reduceLT,Nat.reduceLeDiff,Nat.reduceSub,reduceIte] at this;exact this
end K11
end
section
namespace K11
open PySem PySem.Spec PyProof.Rows L2
noncomputable def zd5 (ts:List Tr) (g:List Nat) (d:Int):List Tr:=ts.mapIdx fun i t=>if i∈g then t.to d else t
theorem ze6 {ts:List Tr} {g:List Nat} {d:Int} {i:Nat}:(zd5 ts g d)[i]?=(ts[i]?).map fun t=>if i∈g then t.to d else t:=by
 unfold zd5;rw[List.getElem?_mapIdx]
theorem zh2 {ts:List Tr} {g:List Nat} {d:Int}:(zd5 ts g d).length=ts.length:=by unfold zd5;simp
theorem movedT_nil {ts:List Tr} {d:Int}:zd5 ts [] d=ts:=by
 apply List.ext_getElem?;intro i;rw[ze6];cases ts[i]?<;>simp
theorem movedT_kind {ts:List Tr} {g:List Nat} {d:Int}:(zd5 ts g d).map Tr.kind=ts.map Tr.kind:=by
 apply List.ext_getElem?;intro i;rw[List.getElem?_map,List.getElem?_map,ze6];cases ts[i]? with
 | none=>rfl
 | some t=>by_cases h:i∈g<;>simp[h]<;>rfl
theorem zk1 {wide high:Int} {sh:List Cell} {ts ts':List Tr} (h:ts'.map Tr.kind=ts.map Tr.kind):hallD wide high sh ts'=hallD wide high sh ts:=by unfold hallD;rw[h]
theorem mem_movedT {ts:List Tr} {g:List Nat} {d:Int} {t:Tr} (h:t∈zd5 ts g d):∃u∈ts,t.w=u.w/\t.h=u.h/\t.ways=u.ways/\t.s=u.s:=by
 obtain⟨i,hi⟩:=List.getElem?_of_mem h;rw[ze6] at hi;cases q:ts[i]? with
 | none=>rw[q] at hi;cases hi
 | some u=>
   rw[q] at hi;have hi:(if i∈g then u.to d else u)=t:=Option.some.inj hi;refine⟨u,List.mem_of_getElem? q,?_⟩;by_cases hg:i∈g
   ·rw[if_pos hg] at hi;subst hi;exact⟨rfl,rfl,rfl,rfl⟩
   ·rw[if_neg hg] at hi;subst hi;exact⟨rfl,rfl,rfl,rfl⟩
theorem Cfg.moved {wide high:Int} {sh:List Cell} {ts:List Tr} {g:List Nat} {d:Int} (h:Cfg wide high sh ts):Cfg wide high sh (zd5 ts g d) where
 few:=by rw[zh2];exact h.few
 sh:=h.sh
 wh:=fun t ht=>by
  obtain⟨u,hu,e1,e2,_⟩:=mem_movedT ht;rw[e1,e2];exact h.wh u hu
theorem movedT_set {ts:List Tr} {g:List Nat} {d:Int} {k:Nat} {t:Tr} (hk:ts[k]?=some t):((zd5 ts g d).map Tr.place).set k (t.to d).place=(zd5 ts (g++[k]) d).map Tr.place:=by
 apply List.ext_getElem?;intro i;rw[List.getElem?_set,List.getElem?_map,List.getElem?_map,ze6,ze6,List.length_map,zh2];have hkl:k<ts.length:=(List.getElem?_eq_some_iff.mp hk).1;by_cases h:k=i
 ·subst h
  rw[if_pos rfl,if_pos hkl,hk];simp
 ·rw[if_neg h]
  cases ts[i]? with
  | none=>rfl
  | some u=>
    have h':i≠k:=fun z=>h z.symm
    simp[h']
inductive Steps (wide high:Int) (sh:List Cell) (d:Int) (n:Nat) (ts:List Tr):Nat->List Tr->Prop where
 | zero:Steps wide high sh d n ts 0 ts
 | succ {k:Nat} {ts':List Tr} {g:List Nat}:Steps wide high sh d n ts k ts'->Goers wide high sh ts' d n g->Steps wide high sh d n ts (k+1) (zd5 ts' g d)
theorem Steps.len {wide high:Int} {sh:List Cell} {d:Int} {n:Nat} {ts ts':List Tr} {k:Nat} (h:Steps wide high sh d n ts k ts'):ts'.length=ts.length:=by
 induction h with
 | zero=>rfl
 | succ _ _ ih=>rw[zh2];exact ih
theorem Steps.kind {wide high:Int} {sh:List Cell} {d:Int} {n:Nat} {ts ts':List Tr} {k:Nat} (h:Steps wide high sh d n ts k ts'):ts'.map Tr.kind=ts.map Tr.kind:=by
 induction h with
 | zero=>rfl
 | succ _ _ ih=>rw[movedT_kind];exact ih
theorem Steps.cfg {wide high:Int} {sh:List Cell} {d:Int} {n:Nat} {ts ts':List Tr} {k:Nat} (h:Steps wide high sh d n ts k ts') (hc:Cfg wide high sh ts):Cfg wide high sh ts':=by
 induction h with
 | zero=>exact hc
 | succ _ _ ih=>exact ih.moved
noncomputable def lpushedF:List D->Res Unit D:=dfn 10 3 (zo8 stepF behindF).1
noncomputable def pushD (n:Nat) (d many:Int):D:=.tup [.int n,.int d,.int many]
set_option tactic.hygienic true in
theorem wp_lpushed {wide high:Int} {sh:List Cell} {ts:List Tr} {n:Nat} {d many:Int} {Q:D->Unit->Prop} {E:Exn->Unit->Prop} (hc:Cfg wide high sh ts) (hn:n<ts.length) (hd:Dir d) (h0:0<=many) (h1:many<=1000)
 (hN:∀(k:Nat) ts' t,(k:Int)<many->Steps wide high sh d n ts k ts'->ts'[n]?=some t->NoStep wide high sh ts' d n t->Q (.int k) ())
 (hL:∀ts',Steps wide high sh d n ts many.toNat ts'->Q (za8 ts') ()):wpR (lpushedF [hallD wide high sh ts,za8 ts,pushD n d many]) Q E:=by
 refine zg7 rfl (by decide) ?_;unfold zo8;dsimp only;rw  [zb2];simp! [pushD];rw  [zb2];simp!;rw[zd6 (by omega) h0];refine wp_forR (fun i ρ st'=>∃(ts':List Tr) (x6 x7 x8 x9:Sl),ρ=[Sl.bor (hallD wide high sh ts),.bor (za8 ts'),.bor (pushD n d many),.bor (.int n),.bor (.int d),.bor (.int many),x6,x7,x8,x9]/\Steps wide high sh d n ts i ts') 0 ⟨ts,_,_,_,_,rfl,.zero⟩ (fun i e ρ st' he hI P pn pr=>?_) fun ρ st' hI=>?_
 ·obtain⟨ts',x6,x7,x8,x9,er,hst⟩:=hI
  obtain⟨rfl,hi⟩:=zd4 he;subst er;rw[Nat.zero_add] at hst;have hc':=hst.cfg hc;obtain⟨t,ht⟩:∃t,ts'[n]?=some t:=⟨_,List.getElem?_eq_getElem (by rw[hst.len];exact hn)⟩;have k0:(0:Int)+(i:Int)=(i:Int):=by omega
  refine⟨_,rfl,?_⟩;simp_all!;simp! [k0];rw[<-zk1 hst.kind];refine wp_step hc' ht hd (fun hno=>?_) fun g hg=>?_
  ·simp!
   simp_all!;simp! [oIsN,D.isNon];exact pr _ _ (hN i ts' t (by omega) hst ht hno)
  ·have gf:(D.lst (nats g)).flat=true:=zg1 g
   simp! [zg1];simp_all!;simp! [oIsN,D.isNon];simp_all!;simp! [za8,oList,zb5 zf2];simp_all!;simp!;refine zh4 (fun j ρ st'=>∃(x9:Sl),ρ=[Sl.bor (hallD wide high sh ts'),.bor (za8 ts'),.bor (pushD n d many),.bor (.int n),.bor (.int d),.bor (.int many),.bor (.int i),.bor (.lst (nats g)),.own (.lst ((zd5 ts' (g.take j) d).map Tr.place)),x9]) 0 ⟨_,by rw[List.take_zero,movedT_nil];rfl⟩ (fun j e ρ st' he hI P2 pn2=>?_) fun ρ st' hI=>?_
   ·obtain⟨x9,er⟩:=hI
    unfold nats at he;rw[List.getElem?_map] at he;cases q:g[j]? with
    | none=>rw[q] at he;cases he
    | some k=>
      rw[q] at he;cases he;subst er;rw[Nat.zero_add];have hkg:=List.mem_of_getElem? q;have hkl:=hg.lt k hkg;obtain⟨u,hu⟩:∃u,ts'[k]?=some u:=⟨_,List.getElem?_eq_getElem hkl⟩;have hkt:k∉g.take j:=fun hm=>by
       obtain⟨j',hj'⟩:=List.getElem?_of_mem hm;rw[List.getElem?_take] at hj';split at hj'
       ·rename_i hlt
        have hjl:j<g.length:=(List.getElem?_eq_some_iff.mp q).1;have:=(List.getElem?_inj (by omega:j' < g.length) hg.nd).mp (hj'.trans q.symm);omega
       ·cases hj'
      have hpl:oIx (.lst ((zd5 ts' (g.take j) d).map Tr.place)) (.int k)=some u.place:=(ix_get (zf2 u) (by omega) (by rw[Int.toNat_natCast,List.getElem?_map,ze6,hu];simp[hkt])).1;refine⟨_,rfl,?_⟩;simp! [hpl];refine wp_behind (p:=(u.x,u.y)) hd ?_;simp! [lstOf,zb5 zf2];refine⟨k,k,rfl,?_,ze9 _,pn2 _ _ ⟨.bor (.int k),?_⟩⟩
      ·unfold ixN
       rw[if_pos (by omega),if_pos (by rw[List.length_map,zh2];omega)];simp
      ·have e1:cellD ((u.x,u.y).1+dx d,(u.x,u.y).2+dy d)=(u.to d).place:=rfl
       rw[e1,movedT_set hu,Nat.zero_add,List.take_add_one,q];rfl
   ·obtain⟨x9,er⟩:=hI
    subst er;have gl:(nats g).length=g.length:=by unfold nats;rw[List.length_map]
    rw[Nat.zero_add,gl,List.take_length];simp! [oTuple,zb5 zf2];rw[zk1 hst.kind];exact pn _ _ ⟨zd5 ts' g d,_,_,_,_,rfl,by rw[Nat.zero_add];exact .succ hst hg⟩
 ·obtain⟨ts',x6,x7,x8,x9,er,hst⟩:=hI
  subst er;rw[Nat.zero_add,zc3] at hst;have:own? [Sl.bor (hallD wide high sh ts),.bor (za8 ts'),.bor (pushD n d many),.bor (.int n),.bor (.int d),.bor (.int many),x6,x7,x8,x9] 1=some (za8 ts'):=by
   show (if (za8 ts').imm=true then some (za8 ts') else none)=_;rw[if_pos (by unfold za8;rw[imm_tup];exact zb5 zf2 _)]
  simp only[wp_sRetV];exact⟨_,this,hL ts' hst⟩
end K11
end
section
namespace K11
open PySem PySem.Spec PyProof.Rows L2
noncomputable def sameF:Nat->List D->Res Unit D
 | 0=>dBad
 | n+1=>dfn 2 2 (_law_same_m (sameF n)).1
theorem wp_same:∀(n:Nat) {d:D} {Q:D->Unit->Prop} {E:Exn->Unit->Prop},d.dep<n->d.lw=true->Q (.bl true) ()->wpR (sameF n [d,d]) Q E
 | 0,d,Q,E,h,_,_=>absurd h (Nat.not_lt_zero _)
 | n+1,d,Q,E,hd,hp,h=>by
   refine zg7 rfl (by decide) ?_;unfold _law_same_m;dsimp only;have lall:∀{l:List D},(∀x∈l,x.dep<n/\x.lw=true)->l.length<=sizeLine->∀{Q:List D->Unit->Prop} {E:Exn->Unit->Prop},Q ((pairs l l).map fun _=>.bl true) ()->
    wpR (compD Unit (gT 2 (gsCons (gN 0) (gsCons (gN 1) gsNil))) (fTrue Unit) (fCall Unit (sameF n) (aP Unit (cs (vr 0) (cs (vr 1) nl)))) (pairs l l) [] [Sl.no,Sl.no] ()) Q E:=fun {l} hx hz {Q E} hQ=>by
    refine zg8 (fun _=>.bl true) (fun ρ=>∃x y,ρ=[x,y]) ⟨_,_,rfl⟩ (fun d hd ρ hI125=>?_) (by unfold pairs;rw[List.length_zipWith];omega) hQ;obtain⟨x,y,e⟩:=hI125;subst e;obtain⟨x,hx',rfl⟩:=pairs_mem hd;refine⟨_,rfl,⟨_,_,rfl⟩,⟨rfl,rfl⟩,?_⟩;simp?! [zb2];exact wp_same n (hx x hx').1 (hx x hx').2 (by first | exact rfl | exact⟨rfl,rfl⟩ | exact⟨rfl,rfl,rfl⟩)
   cases d with
   | bl b=>simp[D.lw] at hp
   | dct k v=>simp[D.lw] at hp
   | fl l=>simp[D.lw] at hp
   | non=>
     rw  [zb2];simp! [oIsN,D.isNon];exact h
   | int i=>
     rw  [zb2];simp! [oIsN,D.isNon,isI];rw  [zb2];simp! [oIsN,D.isNon,isI];rw  [zb2];simp! [oIsN,D.isNon,isI];rw  [zb2];simp! [oIsN,D.isNon,isI];simp! [isI,oEq,D.dep,D.eqq,beq_self_eq_true,Option.map_some,Nat.zero_le];exact h
   | str i=>
     rw  [zb2];simp! [oIsN,D.isNon,isI];rw  [zb2];simp! [oIsN,D.isNon,isI];rw  [zb2];simp! [oIsN,D.isNon,isI];rw  [zb2];simp! [isI,oEq,D.dep,D.eqq,beq_self_eq_true,Option.map_some,Nat.zero_le];exact h
   | tup l=>
     have hp':D.lwL l=true/\l.length<=sizeLine:=by simpa [D.lw] using hp
     have hx:∀x∈l,x.dep<n/\x.lw=true:=fun x hx=>⟨by have:=depL_le hx;unfold D.dep at hd;omega,lwL_iff.mp hp'.1 x hx⟩
     rw  [zb2];simp! [oIsN,D.isNon,isI];rw  [zb2];simp! [oIsN,D.isNon,isI];rw  [zb2];simp! [oIsN,D.isNon,isI];rw  [zb2];simp! [isI,oEq,D.dep,D.eqq,oLen,Nat.zero_le,Option.map_some,beq_self_eq_true];rw  [zb2];simp! [isI,oEq,D.dep,D.eqq,oLen,Nat.zero_le,Option.map_some,beq_self_eq_true];simp! [oZip];refine lall hx hp'.2 ?_;simp?! [oBools,all_true,Option.map_some,zb2];rw[show ((pairs l l).map fun _=>true).all id=true by simp];exact h
   | lst l=>
     have hp':D.lwL l=true/\l.length<=sizeLine:=by simpa [D.lw] using hp
     have hx:∀x∈l,x.dep<n/\x.lw=true:=fun x hx=>⟨by have:=depL_le hx;unfold D.dep at hd;omega,lwL_iff.mp hp'.1 x hx⟩
     rw  [zb2];simp! [oIsN,D.isNon,isI];rw  [zb2];simp! [oIsN,D.isNon,isI];rw  [zb2];simp! [oIsN,D.isNon,isI];rw  [zb2];simp! [isI,oEq,D.dep,D.eqq,oLen,Nat.zero_le,Option.map_some,beq_self_eq_true];rw  [zb2];simp! [isI,oEq,D.dep,D.eqq,oLen,Nat.zero_le,Option.map_some,beq_self_eq_true];simp! [oZip];refine lall hx hp'.2 ?_;simp?! [oBools,all_true,Option.map_some,zb2];rw[show ((pairs l l).map fun _=>true).all id=true by simp];exact h
end K11
end
section
namespace K11
open PySem PySem.Spec PyProof.Rows L2
noncomputable def pcovF:List D->Res Unit D:=dfn 6 2 covered_m.1
theorem wp_pcov {w h:Int} {ways:Str} {s:Int} {p:Cell} {Q:D->Unit->Prop} {E:Exn->Unit->Prop} (hw:w<=30) (hh:h<=30) (h0:0<=w) (h1:0<=h) (hq:Q (.lst ((cov w h p).map cellD)) ()):wpR (pcovF [kd w h ways s,cellD p]) Q E:=by
 refine zg7 rfl (by decide) ?_;unfold covered_m;dsimp only;simp_all!;simp! [cellD];simp_all!;simp! [oLst0];simp_all!;simp! [kd,oIx,at0,at1];rw[zd6 (by omega) h0];refine zh4 (fun i ρ st'=>∃x,ρ=[.bor (kd w h ways s),.bor (cellD p),.bor (.int p.1),.bor (.int p.2),.own (.lst (((List.range i).flatMap (covR h p)).map cellD)),x]) 0 ⟨_,rfl⟩ (fun i d ρ st' hd hI P pn=>?_) fun ρ st' hI=>?_
 ·obtain⟨x,e⟩:=hI
  obtain⟨rfl,hi⟩:=zd4 hd;subst e;have him:∀i:Nat,D.immL (((List.range i).flatMap (covR h p)).map cellD)=true:=fun i=>zb5 ze9 _
  refine⟨_,rfl,?_⟩;simp! [lstOf,him,kd,oIx,at0,at1];rw[zd6 (by omega) h1];refine zg8 (fun d=>match d with | .int j=>cellD (p.1+(i:Int),p.2+j) | _=>.non) (fun ρ=>∃x,ρ=[x,.bor (.int p.1),.bor (.int (0+(i:Int))),.bor (.int p.2)]) ⟨_,rfl⟩ (fun d hd ρ hI126=>?_) (zg3 (by rw[zc3];omega)) ?_
  ·obtain⟨x,e⟩:=hI126
   subst e;obtain⟨j,hj⟩:=List.getElem?_of_mem hd;obtain⟨rfl,hj'⟩:=zd4 hj;refine⟨_,rfl,⟨_,rfl⟩,⟨rfl,rfl⟩,?_⟩;simp! [cellD,oAddU,iOp0,oTup2];simp
  ·have e:(zj5 0 h.toNat).map (fun d=>match d with | .int j=>cellD (p.1+(i:Int),p.2+j) | _=>D.non)=(covR h p i).map cellD:=by
    unfold zj5 covR;rw[List.map_map,List.map_map];refine List.map_congr_left fun j _=>?_
    simp[cellD]
   rw[e];refine⟨_,oExt_eq (zb5 ze9 _) ?_,pn _ _ ⟨.bor (.int (0+(i:Int))),?_⟩⟩
   ·rw[List.length_map,List.length_map,List.length_flatMap]
    unfold covR;simp only[List.length_map,List.length_range,List.map_const',List.sum_replicate_nat];have:i*h.toNat<=29*30:=nat_mul_le (by omega) (by omega);omega
   ·rw[List.range_succ,List.flatMap_append,List.map_append]
    simp[cellD,kd]
 ·obtain⟨x,e⟩:=hI
  subst e;rw[zc3,Nat.zero_add];have him:∀i:Nat,D.immL (((List.range i).flatMap (covR h p)).map cellD)=true:=fun i=>zb5 ze9 _
  simp! [him];exact hq
theorem rev_ind {α:Type} {P:List α->Prop} (nil:P []) (append_singleton:∀l a,P l->P (l++[a])) (l:List α):P l:=by
 have h:∀l:List α,P l.reverse:=fun l=>by
  induction l with
  | nil=>exact nil
  | cons a l ih=>rw[List.reverse_cons];exact append_singleton _ _ ih
 have:=h l.reverse;rwa [List.reverse_reverse] at this
noncomputable def lastW (W:List (Cell×Int)) (c:Cell):Option Int:=(W.reverse.find? fun p=>decide (p.1=c)).map (·.2)
theorem lastW_nil {c:Cell}:lastW [] c=none:=rfl
theorem lastW_snoc {W:List (Cell×Int)} {c0 c:Cell} {v:Int}:lastW (W++[(c0,v)]) c=if c0=c then some v else lastW W c:=by
 unfold lastW;rw[List.reverse_append];show ((((c0,v)::W.reverse).find? fun p=>decide (p.1=c))).map (·.2)=_;rw[List.find?_cons];by_cases h:c0=c
 ·simp[h]
 ·simp[h]
theorem lastW_none {W:List (Cell×Int)} {c:Cell} (h:∀p∈W,p.1≠c):lastW W c=none:=by
 unfold lastW;rw[List.find?_eq_none.mpr (fun p hp=>by simpa using h p (List.mem_reverse.mp hp))];rfl
theorem zl7 {W V:List (Cell×Int)} {c:Cell}:lastW (W++V) c=(lastW V c).or (lastW W c):=by
 unfold lastW;rw[List.reverse_append,List.find?_append];cases V.reverse.find? (fun p=>decide (p.1=c))<;>simp
theorem lastW_const {l:List Cell} {c:Cell} {v:Int}:lastW (l.map fun q=>(q,v)) c=if c∈l then some v else none:=by
 induction l using rev_ind with
 | nil=>rfl
 | append_singleton l a ih=>
   rw[List.map_append];show lastW ((l.map fun q=>(q,v))++[(a,v)]) c=_;rw[lastW_snoc,ih];by_cases h:a=c
   ·subst h;simp
   ·have h':c≠a:=fun z=>h z.symm
    simp[h,h']
theorem dLook_rep {k k':List Key} {v:D}:∀{ks vs:List D},ks.length=vs.length->dLook k ks (List.zipWith (fun d u=>if zd7 d=some k' then v else u) ks vs)=if k=k' then (dLook k ks vs).map fun _=>v else dLook k ks vs
 | [],[],_=>by simp[dLook]
 | a::ks,b::vs,h=>by
   show dLook k (a::ks) ((if zd7 a=some k' then v else b)::List.zipWith _ ks vs)=_;unfold dLook;by_cases e:zd7 a=some k
   ·rw[if_pos e,if_pos e,e]
    by_cases z:k=k'
    ·subst z;simp
    ·simp[z]
   ·rw[if_neg e,if_neg e];exact dLook_rep (by simpa using h)
 | [],_::_,h=>by cases h
 | _::_,[],h=>by cases h
theorem dLook_snoc {k k':List Key} {v:D}:∀{ks vs:List D},ks.length=vs.length->dLook k (ks++[dKeys k']) (vs++[v])=(dLook k ks vs).or (if k'=k then some v else none)
 | [],[],_=>by
   show dLook k [dKeys k'] [v]=_;unfold dLook;rw[zh3];by_cases e:k'=k
   ·simp[e,dLook]
   ·simp[e,dLook]
 | a::ks,b::vs,h=>by
   show dLook k (a::(ks++[dKeys k'])) (b::(vs++[v]))=_;unfold dLook;by_cases e:zd7 a=some k
   ·rw[if_pos e,if_pos e];rfl
   ·rw[if_neg e,if_neg e];exact dLook_snoc (by simpa using h)
 | [],_::_,h=>by cases h
 | _::_,[],h=>by cases h
set_option tactic.hygienic true in
theorem dPut_get {k k':List Key} {v:D} {ks vs:List D} (h:ks.length=vs.length):dLook k (dPut k' v ks vs).1 (dPut k' v ks vs).2=if k'=k then some v else dLook k ks vs:=by
 unfold dPut;split
 ·rename_i hs
  rw[dLook_rep h];by_cases e:k'=k
  ·subst e
   obtain⟨d,hd⟩:=Option.isSome_iff_exists.mp hs;rw[hd];simp
  ·have e':k≠k':=fun z=>e z.symm
   simp[e,e']
 ·rename_i hs
  rw[dLook_snoc h];by_cases e:k'=k
  ·subst e
   have hn:dLook k' ks vs=none:=by simpa using hs
   rw[hn];simp
  ·simp[e]
noncomputable def HoldW (d:D) (W:List (Cell×Int)):Prop:=∃ks vs,d=.dct (.non::ks) vs/\D.immL vs=true/\ks.length=vs.length/\ks.length<=W.length/\∀c,dLook (ck c) ks vs=(lastW W c).map D.int
theorem HoldW.nil:HoldW (.dct [.non] []) []:=⟨[],[],rfl,rfl,rfl,Nat.le_refl _,fun c=>by simp[dLook,lastW_nil]⟩
theorem HoldW.put {ks vs:List D} {W:List (Cell×Int)} {c0:Cell} {v:Int} (h:HoldW (.dct (.non::ks) vs) W):HoldW (.dct (.non::(dPut (ck c0) (.int v) ks vs).1) (dPut (ck c0) (.int v) ks vs).2) (W++[(c0,v)]):=by
 obtain⟨ks',vs',e,h1,h2,h3,h4⟩:=h;cases e;refine⟨_,_,rfl,immL_dPut imm_int h1,(dPut_len h2).1,by have:=(dPut_len (k:=ck c0) (v:=.int v) h2).2;simp;omega,fun c=>?_⟩;rw[dPut_get h2,lastW_snoc,h4 c];by_cases e:c0=c
 ·subst e;simp
 ·have e':ck c0≠ck c:=fun z=>e (ck_inj z)
  simp[e,e']
theorem HoldW.flat {d:D} {W:List (Cell×Int)} (h:HoldW d W):d.flat=true:=by
 obtain⟨ks,vs,rfl,h1,_⟩:=h;exact h1
end K11
end
section
namespace K11
open PySem PySem.Spec PyProof.Rows L2
noncomputable def wr (ts:List Tr):List (Cell×Int):=ts.zipIdx.flatMap fun p=>p.1.cells.map fun c=>(c,(p.2:Int))
theorem wr_snoc {ts:List Tr} {u:Tr}:wr (ts++[u])=wr ts++u.cells.map fun c=>(c,(ts.length:Int)):=by
 unfold wr;rw[List.zipIdx_append,List.flatMap_append];simp
noncomputable def allW (sh:List Cell) (ts:List Tr):List (Cell×Int):=(sh.map fun c=>(c,-1))++wr ts
theorem wr_none {ts:List Tr} {c:Cell} (h:∀t∈ts,c∉t.cells):lastW (wr ts) c=none:=by
 apply lastW_none;rintro ⟨q,v⟩ hq;unfold wr at hq;obtain⟨⟨t,i⟩,h1,h2⟩:=List.mem_flatMap.mp hq;obtain⟨q',h3,h4⟩:=List.mem_map.mp h2;have ht:t∈ts:=(List.mem_zipIdx h1).2.2▸List.getElem_mem _;intro e;cases h4;exact h t ht (by rw[<-show q=c from e];exact h3)
theorem wr_some {ts:List Tr} {c:Cell} {m:Nat} {t:Tr} (hm:ts[m]?=some t) (hc:c∈t.cells) (ap:ts.Pairwise fun a b=>∀c∈a.cells,c∉b.cells):lastW (wr ts) c=some (m:Int):=by
 induction ts using rev_ind with
 | nil=>simp at hm
 | append_singleton ts u ih=>
   rw[wr_snoc,zl7,lastW_const];obtain⟨a1,_,a3⟩:=List.pairwise_append.mp ap;by_cases h:m<ts.length
   ·rw[List.getElem?_append_left h] at hm
    have hcu:c∉u.cells:=a3 t (List.mem_of_getElem? hm) u (by simp) c hc;rw[if_neg hcu];simp only[Option.none_or];exact ih hm a1
   ·have hml:m=ts.length:=by
     have:=(List.getElem?_eq_some_iff.mp hm).1;rw[List.length_append] at this;simp at this;omega
    subst hml;rw[List.getElem?_append_right (Nat.le_refl _)] at hm;simp at hm;subst hm;rw[if_pos hc];rfl
theorem all_tr {wide high:Int} {sh:List Cell} {ts:List Tr} (ho:zf6 wide high sh ts) {c:Cell} {m:Nat} {t:Tr} (hm:ts[m]?=some t) (hc:c∈t.cells):lastW (allW sh ts) c=some (m:Int):=by
 unfold allW;rw[zl7,wr_some hm hc ho.apart];rfl
theorem all_sh {wide high:Int} {sh:List Cell} {ts:List Tr} (ho:zf6 wide high sh ts) {c:Cell} (hc:c∈sh):lastW (allW sh ts) c=some (-1):=by
 unfold allW;rw[zl7,wr_none fun t ht h=>(ho.tr t ht).free c h hc,lastW_const,if_pos hc];rfl
theorem all_no {sh:List Cell} {ts:List Tr} {c:Cell} (h1:c∉sh) (h2:∀t∈ts,c∉t.cells):lastW (allW sh ts) c=none:=by
 unfold allW;rw[zl7,wr_none h2,lastW_const,if_neg h1];rfl
noncomputable def holdersF:List D->Res Unit D:=dfn 7 2 (holders_m pcovF).1
theorem hall2 {wide high:Int} {sh:List Cell} {ts:List Tr}:oIx (hallD wide high sh ts) (.int 2)=some (.tup (sh.map cellD)):=by
 show im (some (D.tup (sh.map cellD)))=_;simp[im,imm_tup,zb5 ze9 sh]
theorem hall3' {wide high:Int} {sh:List Cell} {ts:List Tr}:oIx (hallD wide high sh ts) (.int 3)=some (.tup (ts.map Tr.kind)):=by
 show im (some (D.tup (ts.map Tr.kind)))=_;simp[im,imm_tup,zb5 kind_imm ts]
theorem wr_len {ts:List Tr} (h:∀t∈ts,t.cells.length<=81):(wr ts).length<=81*ts.length:=by
 induction ts using rev_ind with
 | nil=>simp[wr]
 | append_singleton ts u ih=>
   rw[wr_snoc,List.length_append,List.length_map,List.length_append];have h1:=ih fun t ht=>h t (by simp[ht])
   have h2:=h u (by simp);simp only[List.length_cons,List.length_nil];omega
theorem wp_holders {wide high:Int} {sh:List Cell} {ts:List Tr} {Q:D->Unit->Prop} {E:Exn->Unit->Prop} (hc:Cfg wide high sh ts) (hq:∀d,HoldW d (allW sh ts)->Q d ()):wpR (holdersF [hallD wide high sh ts,za8 ts]) Q E:=by
 refine zg7 rfl (by decide) ?_;unfold holders_m;dsimp only;have h81:∀t∈ts,t.cells.length<=81:=fun t ht=>cov_le (hc.wh t ht).2.1 (hc.wh t ht).2.2.2
 have few:=hc.few;have shl:=hc.sh;simp_all!;simp!;simp_all!;simp! [hall2];refine zh4 (fun i ρ st'=>∃(d:D) (x3 x4 x5 x6:Sl),ρ=[Sl.bor (hallD wide high sh ts),.bor (za8 ts),.own d,x3,x4,x5,x6]/\HoldW d ((sh.take i).map fun c=>(c,-1))) 0 ⟨_,_,_,_,_,rfl,HoldW.nil⟩ (fun i e ρ st' he hI P pn=>?_) fun ρ st' hI=>?_
 ·obtain⟨d,x3,x4,x5,x6,er,hd⟩:=hI
  rw[List.getElem?_map] at he;cases q:sh[i]? with
  | none=>rw[q] at he;cases he
  | some c=>
    rw[q] at he;cases he;subst er;rw[Nat.zero_add] at hd;obtain⟨ks,vs,rfl,k1,k2,k3,k4⟩:=id hd;rw[List.length_map,List.length_take] at k3;refine⟨_,rfl,?_⟩;simp! [dctOf,k1,keys_cell];refine⟨ks,vs,rfl,lt_big (by omega),pn _ _ ⟨_,_,_,_,_,rfl,?_⟩⟩;rw[Nat.zero_add];have:=hd.put (c0:=c) (v:=-1);rwa [show (sh.take i).map (fun c=>(c,(-1:Int)))++[(c,-1)]=(sh.take (i+1)).map fun c=>(c,(-1:Int)) by rw[List.take_add_one,q,List.map_append];rfl] at this
 ·obtain⟨d,x3,x4,x5,x6,er,hd⟩:=hI
  subst er;rw[Nat.zero_add,List.length_map,List.take_length] at hd;simp!;simp_all!;have en:oEnum [.tup (ts.map Tr.kind)]=some (numbered (ts.map Tr.kind)):=if_pos (zb5 kind_imm ts);simp! [hall3',en];refine zh4 (fun i ρ st'=>∃(d:D) (x3 x4 x5 x6:Sl),ρ=[Sl.bor (hallD wide high sh ts),.bor (za8 ts),.own d,x3,x4,x5,x6]/\HoldW d (allW sh (ts.take i))) 0 ⟨_,_,_,_,_,rfl,by unfold allW wr;simpa using hd⟩ (fun i e ρ st' he hI P pn=>?_) fun ρ st' hI=>?_
  ·obtain⟨d,x3,x4,x5,x6,er,hd⟩:=hI
   obtain⟨kk,hk,rfl⟩:=numbered_get he;rw[List.getElem?_map] at hk;cases q:ts[i]? with
   | none=>rw[q] at hk;cases hk
   | some t=>
     rw[q] at hk;cases hk;subst er;rw[Nat.zero_add] at hd;obtain⟨q1,q2,q3,q4⟩:=hc.wh t (List.mem_of_getElem? q);have hil:i<ts.length:=(List.getElem?_eq_some_iff.mp q).1;refine⟨_,rfl,?_⟩;simp! [za8,get_place q];refine wp_pcov (p:=(t.x,t.y)) (by omega) (by omega) q1 q3 ?_;have hcu:cov t.w t.h (t.x,t.y)=t.cells:=rfl;rw[hcu];simp!;refine zh4 (fun j ρ st'=>∃(d:D) (x3 x6:Sl),ρ=[Sl.bor (hallD wide high sh ts),.bor (za8 ts),.own d,x3,.bor (.int i),.bor t.kind,x6]/\HoldW d (allW sh (ts.take i)++(t.cells.take j).map fun c=>(c,(i:Int)))) 0 ⟨_,_,_,rfl,by simpa using hd⟩ (fun j e ρ st' he hI P2 pn2=>?_) fun ρ st' hI=>?_
     ·obtain⟨d,x3,x6,er,hd⟩:=hI
      rw[List.getElem?_map] at he;cases q5:t.cells[j]? with
      | none=>rw[q5] at he;cases he
      | some c=>
        rw[q5] at he;cases he;subst er;rw[Nat.zero_add] at hd;obtain⟨ks,vs,rfl,k1,k2,k3,k4⟩:=id hd;have w1:=wr_len (ts:=ts.take i) fun t ht=>h81 t (List.mem_of_mem_take ht)
        have w2:=h81 t (List.mem_of_getElem? q);have kl:ks.length<=3000:=by
         unfold allW at k3;rw[List.length_append,List.length_append,List.length_map,List.length_map,List.length_take] at k3;rw[List.length_take] at w1;omega
        refine⟨_,rfl,?_⟩;simp! [dctOf,k1,keys_cell];refine⟨ks,vs,rfl,lt_big (by omega),pn2 _ _ ⟨_,_,_,rfl,?_⟩⟩;rw[Nat.zero_add];have:=hd.put (c0:=c) (v:=i);rwa [show allW sh (ts.take i)++(t.cells.take j).map (fun c=>(c,(i:Int)))++[(c,(i:Int))]=allW sh (ts.take i)++(t.cells.take (j+1)).map fun c=>(c,(i:Int)) by rw[List.take_add_one,q5,List.map_append,List.append_assoc];rfl] at this
     ·obtain⟨d,x3,x6,er,hd⟩:=hI
      subst er;rw[Nat.zero_add,List.length_map,List.take_length] at hd;refine pn _ _ ⟨d,_,_,_,_,rfl,?_⟩;rw[Nat.zero_add];have e1:allW sh (ts.take (i+1))=allW sh (ts.take i)++t.cells.map fun c=>(c,(i:Int)):=by
       unfold allW;rw[List.take_add_one,q];show _++wr (ts.take i++[t])=_;rw[wr_snoc,List.length_take,Nat.min_eq_left (by omega),List.append_assoc]
      rw[e1];exact hd
  ·obtain⟨d,x3,x4,x5,x6,er,hd⟩:=hI
   subst er;rw[Nat.zero_add,numbered_length,List.length_map,List.take_length] at hd;simp! [hd.flat];exact hq d hd
noncomputable def pgoesF:List D->Res Unit D:=dfn 2 2 goes_m.1
theorem wp_pgoes {ways:Str} {d:Int} {Q:D->Unit->Prop} {E:Exn->Unit->Prop} (hw:Ways ways) (hd:Dir d) (hq:Q (.bl (goesI ways d)) ()):wpR (pgoesF [.str ways,.int d]) Q E:=by
 refine zg7 rfl (by decide) ?_;unfold goes_m;dsimp only;have i2:∀{d:Int},iOp (fun _ j=>0<j) (fun i j=>D.int (i % j)) (.int d) (.int 2)=some (.int (d % 2)):=fun {d}=>iOp_eq (C:=fun _ j=>0<j) (by decide)
 rw  [zb2];simp! [zj4,oEq_int,i2];rcases hw with r | r | r | r<;>subst r
 ·rw  [zb2]
  simp! [zj4];exact hq
 ·rcases hd.cases with r | r | r | r<;>subst r<;>exact hq
 ·rw  [zb2]
  simp! [zj4,oEq_int,i2];rcases hd.cases with r | r | r | r<;>subst r<;>exact hq
 ·rw  [zb2]
  simp! [zj4];rcases hd.cases with r | r | r | r<;>subst r<;>exact hq
noncomputable def furtherF:List D->Res Unit D:=dfn 4 2 zn9.1
theorem wp_further {p:Cell} {d:Int} {Q:D->Unit->Prop} {E:Exn->Unit->Prop} (hd:Dir d) (hq:Q (cellD (p.1+dx d,p.2+dy d)) ()):wpR (furtherF [cellD p,.int d]) Q E:=by
 refine zg7 rfl (by decide) ?_;unfold zn9;dsimp only;rw  [zb2];simp!;rcases hd.cases with r | r | r | r<;>subst r<;>refine⟨_,_,rfl,by decide,rfl,?_⟩<;>simp?! [cellD,oIx,pt0,pt1,oAddU,iOp0,oTup2]<;>exact hq
end K11
end
section
namespace K11
open PySem PySem.Spec PyProof.Rows L2
theorem zk0 {wide high:Int} {sh:List Cell} {ts:List Tr} (ho:zf6 wide high sh ts):Cfg wide high sh ts where
 few:=ho.few
 sh:=Nat.le_trans ho.sub.length_le (cov_le ho.w9 ho.h9)
 wh:=fun t ht=>by
  have to:=ho.tr t ht;have:=to.w1;have:=to.h1;have:=to.xw;have:=to.yh;have:=to.x0;have:=to.y0;have:=ho.w9;have:=ho.h9;exact⟨by omega,by omega,by omega,by omega⟩
noncomputable def pwithinF:List D->Res Unit D:=dfn 3 3 within_m.1
theorem wp_pwithin {w h:Int} {c:Cell} {Q:D->Unit->Prop} {E:Exn->Unit->Prop} (hq:Q (.bl (zj0 w h c)) ()):wpR (pwithinF [.int w,.int h,cellD c]) Q E:=by
 refine zg7 rfl (by decide) ?_;unfold within_m;dsimp only;simp! [cellD,oIx,pt0,pt1,iOp0];unfold zj0 at hq;by_cases h1:0<=c.1<;>by_cases h2:c.1<w<;>by_cases h3:0<=c.2<;>by_cases h4:c.2<h<;>simp[h1,h2,h3,h4,D.imm] at hq ⊢<;>exact hq
theorem inside_iff {w h:Int} {c:Cell}:zj0 w h c=true↔0<=c.1/\c.1<w/\0<=c.2/\c.2<h:=by
 simp[zj0];omega
theorem get_hold {ks vs:List D} {W:List (Cell×Int)} {c:Cell} {n:Int} (h4:∀c,dLook (ck c) ks vs=(lastW W c).map D.int):oGetD (.dct (.non::ks) vs) (cellD c) (.int n)=some (.int ((lastW W c).getD n)):=by
 show im (some ((dLook (ck c) ks vs).getD (.int n)))=_;rw[h4 c];cases lastW W c<;>rfl
theorem hold_val {wide high:Int} {sh:List Cell} {ts:List Tr} (ho:zf6 wide high sh ts) {c:Cell} {n:Nat} (hc:c∉sh):∃v:Nat,(lastW (allW sh ts) c).getD (n:Int)=(v:Int)/\(v=n\/∃u,ts[v]?=some u/\c∈u.cells)/\∀m u,ts[m]?=some u->c∈u.cells->m=v:=by
 by_cases h:∃(m:Nat) (u:Tr),ts[m]?=some u/\c∈u.cells
 ·obtain⟨m,u,h1,h2⟩:=h
  refine⟨m,by rw[all_tr ho h1 h2];rfl,.inr ⟨u,h1,h2⟩,fun m' u' h3 h4=>?_⟩;have e:=(all_tr ho h1 h2).symm.trans (all_tr ho h3 h4);have:=Option.some.inj e;omega
 ·have hno:∀t∈ts,c∉t.cells:=fun t ht hc'=>by
   obtain⟨m,hm⟩:=List.getElem?_of_mem ht;exact h ⟨m,t,hm,hc'⟩
  exact⟨n,by rw[all_no hc hno];rfl,.inl rfl,fun m u h1 h2=>absurd ⟨m,u,h1,h2⟩ h⟩
noncomputable def metF:List D->Res Unit D:=dfn 9 5 (met_by_m pgoesF pcovF furtherF pwithinF).1
theorem wp_met {wide high:Int} {sh:List Cell} {ts:List Tr} {n:Nat} {d:Int} {t:Tr} {dd:D} {Q:D->Unit->Prop} {E:Exn->Unit->Prop} (ho:zf6 wide high sh ts) (hn:ts[n]?=some t) (hd:Dir d) (hh:HoldW dd (allW sh ts))
 (hN:¬okT wide high sh t d->Q .non ()) (hL:∀g:List Nat,okT wide high sh t d->g.Nodup->(∀m,m∈g↔m≠n/\∃u,ts[m]?=some u/\hit t u d)->Q (.lst (nats g)) ()):wpR (metF [hallD wide high sh ts,za8 ts,dd,.int n,.int d]) Q E:=by
 refine zg7 rfl (by decide) ?_;unfold met_by_m;dsimp only;obtain⟨ks,vs,rfl,k1,k2,k3,k4⟩:=hh;have hc:=zk0 ho;obtain⟨q1,q2,q3,q4⟩:=hc.wh t (List.mem_of_getElem? hn);have kw:∀t:Tr,oIx t.kind (.int 2)=some (.str t.ways):=fun t=>rfl
 have h0:oIx (hallD wide high sh ts) (.int 0)=some (.int wide):=rfl;have h1:oIx (hallD wide high sh ts) (.int 1)=some (.int high):=rfl;have few:=hc.few;simp_all!;simp! [hall3',zo2 hn];simp_all!;simp! [kw];refine wp_pgoes (ho.tr t (List.mem_of_getElem? hn)).ways hd ?_;by_cases hgo:goesI t.ways d=true
 ·rw[hgo]
  simp!;simp_all!;simp! [oLst0];rw  [zb2];simp! [za8,get_place hn];refine wp_further (p:=(t.x,t.y)) hd ?_;refine wp_pcov (p:=((t.x,t.y).1+dx d,(t.x,t.y).2+dy d)) (by omega) (by omega) q1 q3 ?_;have ha:cov t.w t.h ((t.x,t.y).1+dx d,(t.x,t.y).2+dy d)=t.ahead d:=rfl;rw[ha];have ha81:(t.ahead d).length<=81:=cov_le q2 q4;simp!;refine wp_forR (fun i ρ st'=>∃(g:List Nat) (x7 x8:Sl),ρ=[Sl.bor (hallD wide high sh ts),.bor (za8 ts),.bor (.dct (.non::ks) vs),.bor (.int n),.bor (.int d),.bor t.kind,.own (.lst (nats g)),x7,x8]/\g.Nodup/\(∀m∈g,m≠n/\∃u,ts[m]?=some u/\hit t u d)/\∀c∈(t.ahead d).take i,(c∉sh/\0<=c.1/\c.1<wide/\0<=c.2/\c.2<high)/\∀m u,ts[m]?=some u->c∈u.cells->m≠n->m∈g) 0 ⟨[],_,_,rfl,List.nodup_nil,fun m hm=>absurd hm (by simp),fun c hc=>absurd hc (by simp)⟩ (fun i e ρ st' he hI P pn pr=>?_) fun ρ st' hI=>?_
  ·obtain⟨g,x7,x8,er,nd,hg,hdone⟩:=hI
   rw[List.getElem?_map] at he;cases q:(t.ahead d)[i]? with
   | none=>rw[q] at he;cases he
   | some c=>
     rw[q] at he;cases he;subst er;rw[Nat.zero_add] at hdone;have hca:=List.mem_of_getElem? q;have hgl:g.length<=ts.length:=zl6 _ g nd fun m hm=>by
      obtain⟨_,u,hu,_⟩:=hg m hm;exact(List.getElem?_eq_some_iff.mp hu).1
     refine⟨_,rfl,?_⟩;simp_all!;simp! [get_hold k4];refine⟨ks,vs,rfl,?_⟩;simp! [get_hold k4];simp_all!;simp! [oEq_int];by_cases hsh:c∈sh
     ·rw[all_sh ho hsh]
      simp! [Option.getD_some,beq_self_eq_true];exact pr _ _ (hN fun ok=>(ok.2 c hca).1 hsh)
     ·obtain⟨v,ev,hv1,hv2⟩:=hold_val ho (c:=c) (n:=n) hsh
      rw[ev];have v1:(((v:Nat):Int) == -1)=false:=by rw[beq_eq_false_iff_ne];omega
      rw[v1];simp! [h0,h1];refine wp_pwithin ?_;by_cases hin:zj0 wide high c=true
      ·rw[hin]
       have hin':=inside_iff.mp hin;simp!;have on:∀g:List Nat,nats g=g.map fun j:Nat=>D.int j:=fun _=>rfl
       have keep:∀g':List Nat,(∀m∈g,m∈g')->(v≠n->v∈g')->∀c∈(t.ahead d).take (i+1),(c∉sh/\0<=c.1/\c.1<wide/\0<=c.2/\c.2<high)/\∀m u,ts[m]?=some u->c∈u.cells->m≠n->m∈g':=fun g' hs hv c' hc'=>by
        rw[List.take_add_one,q] at hc';rcases List.mem_append.mp hc' with h | h
        ·exact⟨(hdone c' h).1,fun m u e1 e2 e3=>hs m ((hdone c' h).2 m u e1 e2 e3)⟩
        ·have h:c'=c:=by simpa using h
         subst h;refine⟨⟨hsh,hin'⟩,fun m u e1 e2 e3=>?_⟩;have:=hv2 m u e1 e2;subst this;exact hv e3
       simp only[oEq_int,on,oIn_nats];by_cases hvn:v=n
       ·have:(((v:Nat):Int) == ((n:Nat):Int))=true:=by rw[hvn];exact beq_self_eq_true _
        rw[this];simp!;exact pn _ _ ⟨g,_,_,rfl,nd,hg,by rw[Nat.zero_add];exact keep g (fun m h=>h) fun h=>absurd hvn h⟩
       ·have:(((v:Nat):Int) == ((n:Nat):Int))=false:=by rw[beq_eq_false_iff_ne];omega
        rw[this];simp!;by_cases hvg:v∈g
        ·rw[decide_eq_true hvg]
         simp!;exact pn _ _ ⟨g,_,_,rfl,nd,hg,by rw[Nat.zero_add];exact keep g (fun m h=>h) fun _=>hvg⟩
        ·rw[decide_eq_false hvg]
         have im':D.immL (g.map fun j:Nat=>D.int j)=true:=zg1 g;simp! [lstOf,im'];refine⟨_,oApp_eq imm_int (by rw[List.length_map];omega),pn _ _ ⟨g++[v],.bor (cellD c),.bor (.int v),?_,?_,?_,by rw[Nat.zero_add];exact keep _ (fun m h=>List.mem_append_left _ h) fun _=>by simp⟩⟩
         ·unfold nats
          rw[List.map_append];rfl
         ·rw[List.nodup_append]
          refine⟨nd,by simp,fun a ha b hb e=>?_⟩;rw[List.mem_singleton.mp hb] at e;subst e;exact hvg ha
         ·intro m hm
          rcases List.mem_append.mp hm with h | h
          ·exact hg m h
          ·rw[List.mem_singleton.mp h]
           refine⟨hvn,?_⟩;rcases hv1 with h | ⟨u,e1,e2⟩
           ·exact absurd h hvn
           ·exact⟨u,e1,c,e2,hca⟩
      ·have hin2:zj0 wide high c=false:=by simpa using hin
       rw[hin2];simp!;exact pr _ _ (hN fun ok=>hin (inside_iff.mpr (ok.2 c hca).2))
  ·obtain⟨g,x7,x8,er,nd,hg,hdone⟩:=hI
   subst er;rw[Nat.zero_add,List.length_map,List.take_length] at hdone;have im':D.immL (nats g)=true:=zg1 g;simp! [im'];refine hL g ⟨hgo,fun c hc'=>(hdone c hc').1⟩ nd fun m=>⟨hg m,fun ⟨h1,u,h2,c,h3,h4⟩=>(hdone c h4).2 m u h2 h3 h1⟩
 ·have hgo':goesI t.ways d=false:=by simpa using hgo
  rw[hgo'];simp!;exact hN fun ok=>hgo ok.1
end K11
end
section
namespace K11
open PySem PySem.Spec PyProof.Rows L2
noncomputable def amongF:List D->Res Unit D:=dfn 9 5 (zm5 metF).1
noncomputable def muA (ρ:Rho):Nat:=match (ρ[7]?:Option Sl) with
 | some (Sl.bor (D.int a))=>20-a.toNat
 | _=>0
theorem wp_newNats {g h:List Nat} {Q:List D->Unit->Prop} {E:Exn->Unit->Prop} {x:Sl} (hl:h.length<=1000) (hq:Q (nats (h.filter fun k=>decide (k∉g))) ()) :
 wpR (compD Unit (gN 0) (tP Unit (tb (o2 (oIn true) (vr 0) (vr 1)))) (fP Unit (vr 0)) (nats h) [] [x,.bor (.lst (nats g))] ()) Q E:=by
 refine wp_compD (fun n acc ρ st'=>acc=nats ((h.take n).filter fun k=>decide (k∉g))/\∃x,ρ=[x,.bor (.lst (nats g))]) 0 ⟨rfl,_,rfl⟩ (fun i d acc ρ st' hd hI128=>?_) fun acc ρ st' hI127=>?_
 ·obtain⟨e1,x,er⟩:=hI128
  unfold nats at hd;rw[List.getElem?_map] at hd;cases q:h[i]? with
  | none=>rw[q] at hd;cases hd
  | some k=>
    rw[q] at hd;cases hd;subst er;rw[Nat.zero_add] at e1;have on:∀g:List Nat,nats g=g.map fun j:Nat=>D.int j:=fun _=>rfl
    refine⟨_,rfl,?_⟩;simp! [on,oIn_nats];have ht:(h.take (i+1)).filter (fun k=>decide (k∉g))=(h.take i).filter (fun k=>decide (k∉g))++[k].filter fun k=>decide (k∉g):=by
     rw[List.take_add_one,q,List.filter_append];rfl
    by_cases hk:k∈g
    ·rw[decide_eq_true hk]
     simp!;refine⟨?_,_,rfl⟩;rw[ht,e1];simp[hk,nats]
    ·rw[decide_eq_false hk]
     simp!;refine⟨lt_big ?_,?_,_,rfl⟩
     ·rw[e1];unfold nats
      rw[List.length_map];have:=List.length_filter_le (fun k=>decide (k∉g)) (h.take i);rw[List.length_take] at this;omega
     ·rw[ht,e1]
      simp[hk,nats]
 ·obtain⟨e1,x,er⟩:=hI127
  unfold nats at e1;rw[Nat.zero_add,List.length_map,List.take_length] at e1;rw[e1];exact hq
theorem oEq_nats {neg:Bool} {g:List Nat}:oEq neg (.lst (nats g)) (.lst [])=some (.bl (if neg then !decide (g=[]) else decide (g=[]))):=by
 have hd:D.depL (nats g)<=0:=zo3 (n:=0) (fun a=>by simp[D.dep]) g;cases g with
 | nil=>simp[oEq,nats,D.eqq,D.eqL,D.dep,D.depL]
 | cons a g=>
   have hd':D.depL (nats (a::g))<=29:=Nat.le_trans hd (by decide);simp only[oEq,D.dep,Nat.reduceSubDiff];simp[nats,D.eqq,D.eqL,D.dep,D.depL] at hd' ⊢;omega
theorem wp_among {wide high:Int} {sh:List Cell} {ts:List Tr} {n:Nat} {d:Int} {t0:Tr} {dd:D} {Q:D->Unit->Prop} {E:Exn->Unit->Prop} (ho:zf6 wide high sh ts) (hn:ts[n]?=some t0) (hd:Dir d) (hh:HoldW dd (allW sh ts))
 (hN:NoStep wide high sh ts d n t0->Q .non ()) (hL:∀g:List Nat,Goers wide high sh ts d n g->Q (.tup (nats g)) ()):wpR (amongF [hallD wide high sh ts,za8 ts,dd,.int n,.int d]) Q E:=by
 refine zg7 rfl (by decide) ?_;unfold zm5;dsimp only;have hc:=zk0 ho;have few:=hc.few;have ks:∀t:Tr,oIx t.kind (.int 3)=some (.int t.s):=fun t=>rfl
 have hf:=hh.flat;have hst:=(ho.tr t0 (List.mem_of_getElem? hn)).st;simp_all!;simp! [hall3',zo2 hn,ks];simp_all!;simp! [oEq_int];by_cases hs:t0.s=-1
 ·have hs':(t0.s == -1)=true:=by rw[hs];rfl
  rw[hs'];simp!;exact hN (.inl (by omega))
 ·have hs':(t0.s == -1)=false:=by rw[beq_eq_false_iff_ne];exact hs
  rw[hs'];simp!;simp_all!;simp! [zj3];simp_all!;simp!;rw  [zb2];refine zp4 (fun ρ st=>∃(g:List Nat) (at':Nat) (x8:Sl),ρ=[Sl.bor (hallD wide high sh ts),.bor (za8 ts),.bor dd,.bor (.int n),.bor (.int d),.bor (.int t0.s),.own (.lst (nats g)),.bor (.int at'),x8]/\g.Nodup/\(∀m∈g,m<ts.length/\Reach ts d n m)/\n∈g/\at'<=g.length/\(t0.s=0->∀m∈g,m=n)/\(∀j m t,j<at'->g[j]?=some m->ts[m]?=some t->okT wide high sh t d/\∀k u,ts[k]?=some u->hit t u d->k∈g)) (fun ρ _=>muA ρ) ⟨[n],0,_,rfl,by simp,fun m hm=>?_,by simp,by simp,fun _ m hm=>List.mem_singleton.mp hm,fun j m t hj=>absurd hj (Nat.not_lt_zero _)⟩ ?_
  ·rw[List.mem_singleton.mp hm]
   exact⟨(List.getElem?_eq_some_iff.mp hn).1,.self⟩
  ·intro ρ st hI P Z pn pr pz
   obtain⟨g,at',x8,rfl,nd,hg,hng,hat,hz,hdone⟩:=hI;have hgl:g.length<=ts.length:=zl6 _ g nd fun m hm=>(hg m hm).1
   have gl:(nats g).length=g.length:=by unfold nats;rw[List.length_map]
   have im':∀g:List Nat,D.immL (nats g)=true:=zg1;simp! [oLen,iOp0,gl];by_cases hlt:at' < g.length
   ·rw[decide_eq_true (show ((at':Nat):Int)<(g.length:Int) by omega),if_pos rfl]
    obtain⟨m,hm⟩:∃m,g[at']?=some m:=⟨_,List.getElem?_eq_getElem hlt⟩;have hmg:=List.mem_of_getElem? hm;obtain⟨hmN,hmR⟩:=hg m hmg;obtain⟨t,ht⟩:∃t,ts[m]?=some t:=⟨_,List.getElem?_eq_getElem hmN⟩;simp_all!;simp! [nats_get hm];refine wp_met ho ht hd hh (fun hno=>?_) fun h hok hnd hmem=>?_
    ·simp!
     simp_all!;simp! [oIsN,D.isNon];exact pr _ _ (hN (.inr (.inl ⟨m,t,hmR,ht,hno⟩)))
    ·have hlN:∀k∈h,k<ts.length/\Reach ts d n k:=fun k hk=>by
      obtain⟨_,u,e1,e2⟩:=(hmem k).mp hk;exact⟨(List.getElem?_eq_some_iff.mp e1).1,.more hmR ht e1 e2⟩
     have hhl:h.length<=ts.length:=zl6 _ h hnd fun k hk=>(hlN k hk).1
     simp! [im'];simp_all!;simp! [oIsN,D.isNon,oLst0,oEq_nats,oEq_int];have go:(t0.s=0->h=[])->wpR (sSeq Unit (sMt Unit 6 oExt (fComp Unit [8] [none,some 6] (iSeq Unit D.seq? (fVk Unit 8)) (gN 0) (tP Unit (tb (o2 (oIn true) (vr 0) (vr 1)))) (fP Unit (vr 0)))) (sAug Unit 7 (fP Unit (cn (D.int 1))) fun i j=>i+j) [Sl.bor (hallD wide high sh ts),.bor (za8 ts),.bor dd,.bor (.int n),.bor (.int d),.bor (.int t0.s),.own (.lst (nats g)),.bor (.int at'),.own (.lst (nats h))] ()) P E:=fun hz0=>by
      rw  [zb2];simp! [im',lstOf];refine wp_newNats (by omega) ?_;have hfl:∀k∈h.filter (fun k=>decide (k∉g)),k∈h/\k∉g:=fun k hk=>by simpa using hk
      have hall:∀k∈h,k∈g++h.filter fun k=>decide (k∉g):=fun k hk=>by
       by_cases e:k∈g
       ·exact List.mem_append_left _ e
       ·exact List.mem_append_right _ (by simp[hk,e])
      have hnl:(h.filter fun k=>decide (k∉g)).length<=h.length:=List.length_filter_le _ _;have hnd':(h.filter fun k=>decide (k∉g)).Nodup:=hnd.filter _;have hz1:t0.s=0->h.filter (fun k=>decide (k∉g))=[]:=fun e=>by rw[hz0 e];rfl
      generalize h.filter (fun k=>decide (k∉g))=r at hfl hall hnl hnd' hz1;have rl:(nats r).length=r.length:=by unfold nats;rw[List.length_map]
      refine⟨_,oExt_eq (zg1 r) (by omega),?_⟩;refine⟨_,_,rfl,rfl,pn _ _ ⟨g++r,at' + 1,.own (.lst (nats h)),?_,?_,?_,List.mem_append_left _ hng,?_,?_,?_⟩ ?_⟩
      ·unfold nats;rw[List.map_append];rfl
      ·rw[List.nodup_append]
       exact⟨nd,hnd',fun a ha b hb e=>by subst e;exact(hfl _ hb).2 ha⟩
      ·intro m' hm'
       rcases List.mem_append.mp hm' with e | e
       ·exact hg m' e
       ·exact hlN m' (hfl m' e).1
      ·rw[List.length_append];omega
      ·intro e m' hm'
       rw[hz1 e,List.append_nil] at hm';exact hz e m' hm'
      ·intro j m' t' hj hm' ht'
       by_cases h5:j=at'
       ·subst h5
        rw[List.getElem?_append_left hlt,hm] at hm';cases hm';rw[ht] at ht';cases ht';refine⟨hok,fun k u e1 e2=>?_⟩;by_cases e:k=m
        ·subst e;exact List.mem_append_left _ hmg
        ·exact hall k ((hmem k).mpr ⟨e,u,e1,e2⟩)
       ·rw[List.getElem?_append_left (by omega)] at hm'
        obtain⟨z1,z2⟩:=hdone j m' t' (by omega) hm' ht';exact⟨z1,fun k u e1 e2=>List.mem_append_left _ (z2 k u e1 e2)⟩
      ·show 20-((at':Int)+1).toNat<20-at'
       omega
     by_cases hh0:h=[]
     ·rw[decide_eq_true hh0]
      simp!;exact go fun _=>hh0
     ·rw[decide_eq_false hh0]
      simp!;by_cases h1:t0.s=1
      ·have h1':(t0.s == 1)=true:=by rw[h1];rfl
       rw[h1'];simp!;exact go fun e=>absurd e (by omega)
      ·have h1':(t0.s == 1)=false:=by rw[beq_eq_false_iff_ne];exact h1
       rw[h1'];simp!;refine pr _ _ (hN (.inr (.inr ⟨by omega,?_⟩)));obtain⟨k,hk⟩:=List.exists_mem_of_ne_nil h hh0;by_cases e:k=n
       ·refine⟨m,fun e'=>((hmem k).mp hk).1 (e.trans e'.symm),hmR⟩
       ·exact⟨k,e,(hlN k hk).2⟩
   ·rw[decide_eq_false (show ¬((at':Nat):Int)<(g.length:Int) by omega)]
    simp!;refine pz _ ?_;have hall:∀m,m∈g↔Reach ts d n m:=fun m=>⟨fun h=>(hg m h).2,fun h=>by
     induction h with
     | self=>exact hng
     | more h1 h2 h3 h4 ih=>
       obtain⟨j,hj⟩:=List.getElem?_of_mem ih;have hjl:j<g.length:=(List.getElem?_eq_some_iff.mp hj).1;exact(hdone j _ _ (by omega) hj h2).2 _ _ h3 h4⟩
    have hokg:∀m∈g,∀t,ts[m]?=some t->okT wide high sh t d:=fun m hm t ht=>by
     obtain⟨j,hj⟩:=List.getElem?_of_mem hm;have hjl:j<g.length:=(List.getElem?_eq_some_iff.mp hj).1;exact(hdone j m t (by omega) hj ht).1
    obtain⟨g',e1,e2,e3⟩:=sort_nats g;have os:oSorted [.lst (nats g)]=some (.lst (nats g')):=by
     show (intsOf (nats g)).bind (fun ns=>if ns.length<64 then some (D.lst ((PySem.W.sortI ns).map D.int)) else none)=_;rw[intsOf_nats];show (if (g.map fun j:Nat=>(j:Int)).length<64 then some (D.lst ((PySem.W.sortI (g.map fun j:Nat=>(j:Int))).map D.int)) else none)=_;rw[if_pos (by rw[List.length_map];omega),e1]
    simp! [os,oTuple,zg1];exact hL g' ⟨e2.symm.nodup nd,e3,fun m=>by rw[e2.mem_iff];exact hall m,fun m hm=>(hg m (e2.mem_iff.mp hm)).1,fun m hm=>hokg m (e2.mem_iff.mp hm),fun t ht=>by
     rw[hn] at ht;cases ht;exact⟨by omega,fun z m hm=>hz z m (e2.mem_iff.mp hm)⟩⟩
noncomputable def zo1:List D->Res Unit D:=dfn 4 4 (movers_m amongF holdersF).1
theorem wp_movers {wide high:Int} {sh:List Cell} {ts:List Tr} {n:Nat} {d:Int} {t0:Tr} {Q:D->Unit->Prop} {E:Exn->Unit->Prop} (ho:zf6 wide high sh ts) (hn:ts[n]?=some t0) (hd:Dir d)
 (hN:NoStep wide high sh ts d n t0->Q .non ()) (hL:∀g:List Nat,Goers wide high sh ts d n g->Q (.tup (nats g)) ()):wpR (zo1 [hallD wide high sh ts,za8 ts,.int n,.int d]) Q E:=by
 refine zg7 rfl (by decide) ?_;unfold movers_m;dsimp only;have hc:=zk0 ho;simp!;refine wp_holders hc fun dd hdd=>?_
 refine wp_among ho hn hd hdd (fun h=>?_) fun g h=>?_
 ·exact⟨.inl imm_non,hN h⟩
 ·exact⟨.inl (zg1 g),hL g h⟩
end K11
end
section
namespace K11
open PySem PySem.Spec PyProof.Rows L2
theorem to_cells {t:Tr} {d:Int}:(t.to d).cells=t.ahead d:=rfl
theorem ahead_shift {t:Tr} {d:Int} {c:Cell}:c∈t.ahead d↔(c.1-dx d,c.2-dy d)∈t.cells:=by
 unfold Tr.ahead Tr.cells;rw[mem_cov,mem_cov];simp only;omega
theorem zf6.moved {wide high:Int} {sh:List Cell} {ts:List Tr} {g:List Nat} {d:Int} {n:Nat} (ho:zf6 wide high sh ts) (hg:Goers wide high sh ts d n g):zf6 wide high sh (zd5 ts g d) where
 w1:=ho.w1
 w9:=ho.w9
 h1:=ho.h1
 h9:=ho.h9
 sub:=ho.sub
 few:=by rw[zh2];exact ho.few
 tr:=fun t ht=>by
  obtain⟨i,hi⟩:=List.getElem?_of_mem ht;rw[ze6] at hi;cases q:ts[i]? with
  | none=>rw[q] at hi;cases hi
  | some u=>
    rw[q] at hi;have hi:(if i∈g then u.to d else u)=t:=Option.some.inj hi;have hu:=ho.tr u (List.mem_of_getElem? q);by_cases hgi:i∈g
    ·rw[if_pos hgi] at hi
     subst hi;have ok:=(hg.ok i hgi u q).2;have w1:=hu.w1;have h1:=hu.h1;have m1:(u.x+dx d,u.y+dy d)∈u.ahead d:=by unfold Tr.ahead;rw[mem_cov];simp only;omega
     have m2:(u.x+dx d+u.w-1,u.y+dy d+u.h-1)∈u.ahead d:=by unfold Tr.ahead;rw[mem_cov];simp only;omega
     obtain⟨_,a1,_,a3,_⟩:=ok _ m1;obtain⟨_,_,b2,_,b4⟩:=ok _ m2;simp only at a1 a3 b2 b4;exact⟨w1,h1,a1,by show u.x+dx d+u.w<=wide;omega,a3,by show u.y+dy d+u.h<=high;omega,hu.ways,hu.st,fun c hc=>(ok c hc).1⟩
    ·rw[if_neg hgi] at hi
     subst hi;exact hu
 apart:=by
  have ap:=List.pairwise_iff_getElem.mp ho.apart;have two:∀i j (a b:Tr),ts[i]?=some a->ts[j]?=some b->i≠j->∀c∈a.cells,c∉b.cells:=fun i j a b ha hb hij c h1 h2=>by
   obtain⟨hi,rfl⟩:=List.getElem?_eq_some_iff.mp ha;obtain⟨hj,rfl⟩:=List.getElem?_eq_some_iff.mp hb;rcases Nat.lt_or_gt_of_ne hij with h | h
   ·exact ap i j hi hj h c h1 h2
   ·exact ap j i hj hi h c h2 h1
  refine List.pairwise_iff_getElem.mpr fun i j hi hj hij c h1 h2=>?_
  have li:i<ts.length:=by rw[zh2] at hi;exact hi
  have lj:j<ts.length:=by rw[zh2] at hj;exact hj
  have ei:(zd5 ts g d)[i]?=some ((zd5 ts g d)[i]):=List.getElem?_eq_getElem hi;have ej:(zd5 ts g d)[j]?=some ((zd5 ts g d)[j]):=List.getElem?_eq_getElem hj;have qi:ts[i]?=some ts[i]:=List.getElem?_eq_getElem li;have qj:ts[j]?=some ts[j]:=List.getElem?_eq_getElem lj;rw[ze6,qi] at ei;rw[ze6,qj] at ej;have ei:(if i∈g then ts[i].to d else ts[i])=(zd5 ts g d)[i]:=Option.some.inj ei;have ej:(if j∈g then ts[j].to d else ts[j])=(zd5 ts g d)[j]:=Option.some.inj ej;rw[<-ei] at h1;rw[<-ej] at h2;have hne:i≠j:=Nat.ne_of_lt hij;by_cases gi:i∈g<;>by_cases gj:j∈g<;>simp only[gi,gj,if_true,if_false,to_cells] at h1 h2
  ·exact two i j _ _ qi qj hne _ (ahead_shift.mp h1) (ahead_shift.mp h2)
  ·exact gj ((hg.all j).mpr (.more ((hg.all i).mp gi) qi qj ⟨c,h2,h1⟩))
  ·exact gi ((hg.all i).mpr (.more ((hg.all j).mp gj) qj qi ⟨c,h1,h2⟩))
  ·exact two i j _ _ qi qj hne c h1 h2
theorem up_one:∀(a b:List Nat),a.Pairwise (· < ·)->b.Pairwise (· < ·)->(∀m,m∈a↔m∈b)->a=b
 | [],[],_,_,_=>rfl
 | [],y::b,_,_,h=>absurd ((h y).mpr (by simp)) (by simp)
 | x::a,[],_,_,h=>absurd ((h x).mp (by simp)) (by simp)
 | x::a,y::b,ha,hb,h=>by
   rw[List.pairwise_cons] at ha hb;have hxy:x=y:=by
    have h1:=(h x).mp (by simp);have h2:=(h y).mpr (by simp);rcases List.mem_cons.mp h1 with e | e
    ·exact e
    ·rcases List.mem_cons.mp h2 with e' | e'
     ·exact e'.symm
     ·have:=hb.1 x e
      have:=ha.1 y e';omega
   subst hxy;rw[up_one a b ha.2 hb.2 fun m=>⟨fun hm=>?_,fun hm=>?_⟩]
   ·have h1:=ha.1 m hm
    rcases List.mem_cons.mp ((h m).mp (by simp[hm])) with e | e
    ·omega
    ·exact e
   ·have h1:=hb.1 m hm
    rcases List.mem_cons.mp ((h m).mpr (by simp[hm])) with e | e
    ·omega
    ·exact e
theorem Goers.lt' {wide high:Int} {sh:List Cell} {ts:List Tr} {d:Int} {n:Nat} {g:List Nat} (h:Goers wide high sh ts d n g):g.Pairwise (· < ·):=by
 have:=List.Pairwise.and h.up h.nd;exact this.imp fun ⟨a,b⟩=>Nat.lt_of_le_of_ne a b
theorem Goers.one {wide high:Int} {sh:List Cell} {ts:List Tr} {d:Int} {n:Nat} {g g':List Nat} (h:Goers wide high sh ts d n g) (h':Goers wide high sh ts d n g'):g=g':=
 up_one g g' h.lt' h'.lt' fun m=>(h.all m).trans (h'.all m).symm
theorem Goers.not {wide high:Int} {sh:List Cell} {ts:List Tr} {d:Int} {n:Nat} {g:List Nat} {t:Tr} (h:Goers wide high sh ts d n g) (hn:ts[n]?=some t):¬NoStep wide high sh ts d n t:=by
 rintro (h1 | ⟨m,t',h1,h2,h3⟩ | ⟨h1,m,h2,h3⟩)
 ·exact(h.str t hn).1 h1
 ·exact h3 (h.ok m ((h.all m).mpr h1) t' h2)
 ·exact h2 ((h.str t hn).2 h1 m ((h.all m).mpr h3))
theorem nats_dep (g:List Nat):D.depL (nats g)<=0:=zo3 (n:=0) (fun a=>by simp[D.dep]) g
theorem tupN_same {g:List Nat} (h:g.length<=1000):(D.tup (nats g)).dep<3/\(D.tup (nats g)).lw=true:=by
 constructor
 ·have:=nats_dep g
  unfold D.dep;omega
 ·have:D.lwL (nats g)=true:=lwL_iff.mpr fun d hd=>by
   obtain⟨j,_,rfl⟩:=List.mem_map.mp hd;rfl
  simp only[D.lw,this,Bool.true_and,decide_eq_true_eq];unfold nats;exact zg3 (by rw[List.length_map];exact h)
theorem Goers.len {wide high:Int} {sh:List Cell} {ts:List Tr} {d:Int} {n:Nat} {g:List Nat} (h:Goers wide high sh ts d n g):g.length<=ts.length:=zl6 _ g h.nd h.lt
theorem oAddU_lst {a b:List D} (h1:D.immL a=true) (h2:D.immL b=true) (h:a.length+b.length<=1000):oAddU (.lst a) (.lst b)=some (.lst (a++b)):=by
 show (none:Option D).or ((oCatL _ _).or _)=_;have:oCatL (.lst a) (.lst b)=some (.lst (a++b)):=by
  show (if D.immL a=true/\D.immL b=true/\a.length+b.length<=sizeLine then some (D.lst (a++b)) else none)=_;rw[if_pos ⟨h1,h2,zg3 h⟩]
 rw[this];rfl
end K11
end
section
namespace K11
open PySem PySem.Spec PyProof.Rows L2
theorem Steps.pos {wide high:Int} {sh:List Cell} {d:Int} {n:Nat} {ts ts':List Tr} {k:Nat} {t:Tr} (h:Steps wide high sh d n ts k ts') (hn:ts[n]?=some t) (hw:1<=t.w) (hh:1<=t.h) :
 ts'[n]?=some { t with x:=t.x+k*dx d,y:=t.y+k*dy d }/\(1<=k->0<=t.x+k*dx d/\t.x+k*dx d<wide/\0<=t.y+k*dy d/\t.y+k*dy d<high):=by
 induction h with
 | zero=>refine⟨?_,fun h=>absurd h (by decide)⟩;rw[hn];simp
 | @succ k ts' g _ hg ih=>
   have hng:n∈g:=(hg.all n).mpr .self;obtain⟨ih,_⟩:=ih;have e1:t.x+((k+1:Nat):Int)*dx d=t.x+k*dx d+dx d:=by rw[Int.natCast_add,Int.add_mul];simp;omega
   have e2:t.y+((k+1:Nat):Int)*dy d=t.y+k*dy d+dy d:=by rw[Int.natCast_add,Int.add_mul];simp;omega
   constructor
   ·rw[ze6,ih,e1,e2]
    simp only[Option.map_some,if_pos hng];rfl
   ·intro _
    have ok:=hg.ok n hng _ ih;have hm:(t.x+k*dx d+dx d,t.y+k*dy d+dy d)∈Tr.ahead { t with x:=t.x+k*dx d,y:=t.y+k*dy d } d:=by
     unfold Tr.ahead;rw[mem_cov];refine⟨Int.le_refl _,?_,Int.le_refl _,?_⟩<;>simp only<;>omega
    have:=(ok.2 _ hm).2;rw[e1,e2];exact this
theorem Steps.le9 {wide high:Int} {sh:List Cell} {d:Int} {n:Nat} {ts ts':List Tr} {k:Nat} {t:Tr} (h:Steps wide high sh d n ts k ts') (hn:ts[n]?=some t) (hw:1<=t.w) (hh:1<=t.h) (hx:0<=t.x/\t.x<9) (hy:0<=t.y/\t.y<9) (hW:wide<=9) (hH:high<=9) (hd:Dir d):k<=9:=by
 by_cases hk:1<=k
 ·obtain⟨_,p⟩:=h.pos hn hw hh
  have p:=p hk;rcases hd.cases with r | r | r | r<;>subst r<;>simp[dx,dy] at p<;>omega
 ·omega
inductive Alng (wide high:Int) (sh:List Cell) (d:Int) (n:Nat):List Tr->List (List Tr)->Prop where
 | stop {ts:List Tr}:(∀g,¬Goers wide high sh ts d n g)->Alng wide high sh d n ts []
 | go {ts:List Tr} {g:List Nat} {l:List (List Tr)}:Goers wide high sh ts d n g->Alng wide high sh d n (zd5 ts g d) l->Alng wide high sh d n ts (zd5 ts g d::l)
inductive Path (wide high:Int) (sh:List Cell) (d:Int) (n:Nat) (ts:List Tr):List (List Tr)->List Tr->Prop where
 | nil:Path wide high sh d n ts [] ts
 | snoc {p:List (List Tr)} {cur:List Tr} {g:List Nat}:Path wide high sh d n ts p cur->Goers wide high sh cur d n g->Path wide high sh d n ts (p++[zd5 cur g d]) (zd5 cur g d)
section
variable {wide high:Int} {sh:List Cell} {d:Int} {n:Nat} {ts cur:List Tr} {l l' p:List (List Tr)}
theorem Alng.one (h:Alng wide high sh d n ts l):∀{l':List (List Tr)},Alng wide high sh d n ts l'->l=l':=by
 induction h with
 | stop h=>intro l' h';cases h' with
   | stop _=>rfl
   | go hg _=>exact absurd hg (h _)
 | go hg _ ih=>intro l' h';cases h' with
   | stop h=>exact absurd hg (h _)
   | go hg' h'=>
     have:=hg.one hg';subst this;rw[ih h']
theorem Path.alng (h:Path wide high sh d n ts p cur):∀{l:List (List Tr)},Alng wide high sh d n cur l->Alng wide high sh d n ts (p++l):=by
 induction h with
 | nil=>intro l hl;exact hl
 | snoc _ hg ih=>intro l hl;rw[List.append_assoc];exact ih (.go hg hl)
theorem Path.steps (h:Path wide high sh d n ts p cur):Steps wide high sh d n ts p.length cur:=by
 induction h with
 | nil=>exact .zero
 | snoc _ hg ih=>rw[List.length_append];exact .succ ih hg
theorem Path.ok (h:Path wide high sh d n ts p cur) (ho:zf6 wide high sh ts):zf6 wide high sh cur:=by
 induction h with
 | nil=>exact ho
 | snoc _ hg ih=>exact ih.moved hg
theorem Path.le9 {t:Tr} (h:Path wide high sh d n ts p cur) (ho:zf6 wide high sh ts) (ht:ts[n]?=some t) (hd:Dir d):p.length<=9:=by
 have to:=ho.tr t (List.mem_of_getElem? ht);have w9:=ho.w9;have h9:=ho.h9;exact h.steps.le9 ht to.w1 to.h1 ⟨to.x0,by have:=to.xw;have:=to.w1;omega⟩ ⟨to.y0,by have:=to.yh;have:=to.h1;omega⟩ w9 h9 hd
end
open Classical in
noncomputable def along (wide high:Int) (sh:List Cell) (ts:List Tr) (d:Int) (n:Nat):List (List Tr):=if h:∃l,Alng wide high sh d n ts l then h.choose else []
theorem Alng.is {wide high:Int} {sh:List Cell} {d:Int} {n:Nat} {ts:List Tr} {l:List (List Tr)} (h:Alng wide high sh d n ts l):along wide high sh ts d n=l:=by
 unfold along;have e:∃l,Alng wide high sh d n ts l:=⟨l,h⟩;rw[dif_pos e];exact e.choose_spec.one h
theorem Path.is {wide high:Int} {sh:List Cell} {d:Int} {n:Nat} {ts cur:List Tr} {p:List (List Tr)} (h:Path wide high sh d n ts p cur) (hs:∀g,¬Goers wide high sh cur d n g):along wide high sh ts d n=p:=by
 have:=(h.alng (.stop hs)).is;rw[List.append_nil] at this;exact this
structure Row where
 n:Nat
 d:Int
 k:Nat
 ts:List Tr
noncomputable def Row.push (r:Row):D:=pushD r.n r.d r.k
noncomputable def Row.data (r:Row):D:=.tup [r.push,za8 r.ts]
theorem push_imm {n:Nat} {d k:Int}:(pushD n d k).imm=true:=by simp[pushD,D.imm,D.immL]
theorem zm8 {ts:List Tr}:(za8 ts).imm=true:=by unfold za8;rw[imm_tup];exact zb5 zf2 _
theorem row_imm (r:Row):r.data.imm=true:=by unfold Row.data Row.push;simp only[imm_tup,D.immL,push_imm,zm8,Bool.and_self]
noncomputable def rowsF (n:Nat) (d:Int) (p:List (List Tr)):List Row:=(p.zipIdx 1).map fun q=>⟨n,d,q.2,q.1⟩
theorem rowsF_len {n:Nat} {d:Int} {p:List (List Tr)}:(rowsF n d p).length=p.length:=by unfold rowsF;simp
noncomputable def rowsN (wide high:Int) (sh:List Cell) (ts:List Tr) (n i:Nat):List Row:=(List.range i).flatMap fun d:Nat=>rowsF n (d:Int) (along wide high sh ts (d:Int) n)
noncomputable def rowsA (wide high:Int) (sh:List Cell) (ts:List Tr) (m:Nat):List Row:=(List.range m).flatMap fun n=>rowsN wide high sh ts n 4
theorem rowsN_succ {wide high:Int} {sh:List Cell} {ts:List Tr} {n i:Nat}:rowsN wide high sh ts n (i+1)=rowsN wide high sh ts n i++rowsF n i (along wide high sh ts i n):=by
 unfold rowsN;rw[List.range_succ,List.flatMap_append];simp
theorem rowsA_succ {wide high:Int} {sh:List Cell} {ts:List Tr} {m:Nat}:rowsA wide high sh ts (m+1)=rowsA wide high sh ts m++rowsN wide high sh ts m 4:=by
 unfold rowsA;rw[List.range_succ,List.flatMap_append];simp
end K11
end
section
namespace K11
open PySem PySem.Spec PyProof.Rows L2
noncomputable def bstepF:List D->Res Unit D:=dfn 5 3 (zo7 furtherF).1
theorem wp_bstep {ts:List Tr} {g:List Nat} {d:Int} {Q:D->Unit->Prop} {E:Exn->Unit->Prop} (hd:Dir d) (few:ts.length<=12) (hlt:∀k∈g,k<ts.length) (nd:g.Nodup) (hq:Q (za8 (zd5 ts g d)) ()):wpR (bstepF [za8 ts,.tup (nats g),.int d]) Q E:=by
 refine zg7 rfl (by decide) ?_;unfold zo7;dsimp only;simp_all!;simp! [za8,oList,zb5 zf2];simp_all!;simp!;refine zh4 (fun j ρ st'=>∃(x4:Sl),ρ=[Sl.bor (za8 ts),.bor (.tup (nats g)),.bor (.int d),.own (.lst ((zd5 ts (g.take j) d).map Tr.place)),x4]) 0 ⟨_,by rw[List.take_zero,movedT_nil];rfl⟩ (fun j e ρ st' he hI P pn=>?_) fun ρ st' hI=>?_
 ·obtain⟨x4,er⟩:=hI
  unfold nats at he;rw[List.getElem?_map] at he;cases q:g[j]? with
  | none=>rw[q] at he;cases he
  | some k=>
    rw[q] at he;cases he;subst er;rw[Nat.zero_add];have hkl:=hlt k (List.mem_of_getElem? q);obtain⟨u,hu⟩:∃u,ts[k]?=some u:=⟨_,List.getElem?_eq_getElem hkl⟩;have hpl:oIx (za8 ts) (.int k)=some u.place:=get_place hu;refine⟨_,rfl,?_⟩;simp! [hpl];refine wp_further (p:=(u.x,u.y)) hd ?_;simp! [lstOf,zb5 zf2];refine⟨k,k,rfl,?_,ze9 _,pn _ _ ⟨.bor (.int k),?_⟩⟩
    ·unfold ixN
     rw[if_pos (by omega),if_pos (by rw[List.length_map,zh2];omega)];simp
    ·have e1:cellD ((u.x,u.y).1+dx d,(u.x,u.y).2+dy d)=(u.to d).place:=rfl
     rw[e1,movedT_set hu,Nat.zero_add,List.take_add_one,q];rfl
 ·obtain⟨x4,er⟩:=hI
  subst er;have gl:(nats g).length=g.length:=by unfold nats;rw[List.length_map]
  rw[Nat.zero_add,gl,List.take_length];simp! [oTuple,zb5 zf2];exact hq
noncomputable def Nx (wide high:Int) (sh:List Cell) (cur:List Tr) (d:Int) (n:Nat) (x:D):Prop:=(x=.non/\∀g,¬Goers wide high sh cur d n g)\/∃g,x=.tup (nats g)/\Goers wide high sh cur d n g
theorem Nx.flat {wide high:Int} {sh:List Cell} {cur:List Tr} {d:Int} {n:Nat} {x:D} (h:Nx wide high sh cur d n x):x.flat=false:=by
 rcases h with⟨rfl,_⟩ | ⟨g,rfl,_⟩<;>rfl
noncomputable def muE (ρ:Rho):Nat:=match (ρ[7]?:Option Sl),(ρ[5]?:Option Sl) with
 | some (Sl.bor (D.tup _)),some (Sl.own (D.lst l))=>30-l.length
 | _,_=>0
noncomputable def endsF:List D->Res Unit D:=dfn 8 5 (zl9 amongF bstepF zo1).1
theorem wp_ends {wide high:Int} {sh:List Cell} {ts:List Tr} {n:Nat} {d:Int} {t0:Tr} {dd:D} {Q:D->Unit->Prop} {E:Exn->Unit->Prop} (ho:zf6 wide high sh ts) (hn:ts[n]?=some t0) (hd:Dir d) (hh:HoldW dd (allW sh ts))
 (hq:(along wide high sh ts d n).length<=9->Q (.lst ((along wide high sh ts d n).map za8)) ()):wpR (endsF [hallD wide high sh ts,za8 ts,dd,.int n,.int d]) Q E:=by
 refine zg7 rfl (by decide) ?_;unfold zl9;dsimp only;have few:=ho.few;have hnl:n<ts.length:=(List.getElem?_eq_some_iff.mp hn).1;simp_all!;simp! [oLst0];simp_all!;simp!;simp_all!;simp!;refine za6 (wp_among (Q:=fun x _=>Nx wide high sh ts d n x) ho hn hd hh (fun h=>.inl ⟨rfl,fun g hg=>hg.not hn h⟩) fun g h=>.inr ⟨g,rfl,h⟩) (fun x st hx=>?_) fun x s z=>z
 have hxf:=hx.flat;simp! [hxf];rw  [zb2];refine zp4 (fun ρ st=>∃(p:List (List Tr)) (cur:List Tr) (x:D),ρ=[Sl.bor (hallD wide high sh ts),.bor (za8 ts),.bor dd,.bor (.int n),.bor (.int d),.own (.lst (p.map za8)),.bor (za8 cur),.bor x]/\Path wide high sh d n ts p cur/\Nx wide high sh cur d n x) (fun ρ _=>muE ρ) ⟨[],ts,x,rfl,.nil,hx⟩ ?_;intro ρ st hI P Z pn pr pz;obtain⟨p,cur,x,rfl,hp,hx⟩:=hI;have hp9:=hp.le9 ho hn hd;have hoc:=hp.ok ho;have hst:=hp.steps;have pim:∀p:List (List Tr),D.immL (p.map za8)=true:=fun p=>zb5 (fun _=>zm8) p
 rcases hx with⟨rfl,hno⟩ | ⟨g,rfl,hg⟩
 ·simp! [oIsN,D.isNon]
  refine pz _ ?_;simp! [pim];have:=hp.is hno;rw[this] at hq;exact hq hp9
 ·simp! [oIsN,D.isNon]
  simp_all!;simp!;refine wp_bstep hd (by rw[hst.len];omega) hg.lt hg.nd ?_;have hp':=hp.snoc hg;have hst':=hp'.steps;have hoc':=hp'.ok ho;obtain⟨nx,hnx⟩:∃nx,nx=zd5 cur g d:=⟨_,rfl⟩;rw[<-hnx] at hp' hst' hoc' ⊢;have sf:(za8 nx).flat=false:=rfl;simp! [sf];rw  [zb2];simp! [lstOf,pim];refine⟨_,oApp_eq zm8 (by rw[List.length_map];omega),?_⟩;obtain⟨t1,ht1⟩:∃t,nx[n]?=some t:=⟨_,List.getElem?_eq_getElem (by rw[hst'.len];exact hnl)⟩;rw[<-zk1 hst'.kind];refine za6 (wp_movers (Q:=fun x _=>Nx wide high sh nx d n x) hoc' ht1 hd (fun h=>.inl ⟨rfl,fun g hg=>hg.not ht1 h⟩) fun g h=>.inr ⟨g,rfl,h⟩) (fun y st hy=>?_) fun x s z=>z
  have hyf:=hy.flat;simp! [hyf];rw[zk1 hst'.kind];refine pn _ _ ⟨p++[nx],nx,y,by rw[List.map_append];rfl,hp',hy⟩ ?_;have m1:muE [Sl.bor (hallD wide high sh ts),.bor (za8 ts),.bor dd,.bor (.int n),.bor (.int d),.own (.lst (p.map za8)),.bor (za8 cur),.bor (.tup (nats g))]=30-(p.map za8).length:=rfl;rw[m1,List.length_map];rcases hy with⟨rfl,_⟩ | ⟨g',rfl,_⟩
  ·show 0<30-p.length
   omega
  ·show 30-(p.map za8++[za8 nx]).length<30-p.length
   rw[List.length_append,List.length_map];simp;omega
end K11
end
section
namespace K11
open PySem PySem.Spec PyProof.Rows L2
noncomputable def pweF:List D->Res Unit D:=dfn 7 2 (zh9 holdersF endsF).1
noncomputable def endT (n i:Nat) (d:D):D:=match d with
 | .tup [k,s]=>.tup [.tup [.int n,.int i,k],s]
 | _=>.non
theorem numF_rows {n i:Nat} {p:List (List Tr)}:(numF 1 (p.map za8)).map (endT n i)=(rowsF n i p).map Row.data:=by
 unfold numF rowsF;rw[List.zipIdx_map,List.map_map,List.map_map,List.map_map];refine List.map_congr_left fun q _=>?_
 rfl
theorem wp_pwe {wide high:Int} {sh:List Cell} {ts:List Tr} {Q:D->Unit->Prop} {E:Exn->Unit->Prop} (ho:zf6 wide high sh ts)
 (hq:(rowsA wide high sh ts ts.length).length<=432->Q (.lst ((rowsA wide high sh ts ts.length).map Row.data)) ()):wpR (pweF [hallD wide high sh ts,za8 ts]) Q E:=by
 refine zg7 rfl (by decide) ?_;unfold zh9;dsimp only;have hc:=zk0 ho;have few:=ho.few;simp_all!;simp!;refine wp_holders hc fun dd hdd=>?_
 have hf:=hdd.flat;simp! [hf];simp_all!;simp! [oLst0];simp_all!;have len:oLen [za8 ts]=some (.int ts.length):=by unfold za8 oLen;simp
 simp! [len];rw[zd6 (by omega) (by omega)];refine zh4 (fun i ρ st'=>∃(x4 x5 x6:Sl),ρ=[Sl.bor (hallD wide high sh ts),.bor (za8 ts),.own dd,.own (.lst ((rowsA wide high sh ts i).map Row.data)),x4,x5,x6]/\(rowsA wide high sh ts i).length<=36*i) 0 ⟨_,_,_,rfl,by simp[rowsA]⟩ (fun n e ρ st' he hI P pn=>?_) fun ρ st' hI=>?_
 ·obtain⟨x4,x5,x6,er,hl⟩:=hI
  obtain⟨rfl,hi⟩:=zd4 he;rw[Int.toNat_natCast] at hi;rw[Nat.zero_add] at hl er;rw[Nat.zero_add] at pn;subst er;have k0:(0:Int)+(n:Int)=(n:Int):=by omega
  rw[k0];obtain⟨t,ht⟩:∃t,ts[n]?=some t:=⟨_,List.getElem?_eq_getElem hi⟩;refine⟨_,rfl,?_⟩;simp!;rw[show oRange1 [.int 4]=some (zj5 0 4) from rfl];refine zh4 (fun i ρ st'=>∃(x5 x6:Sl),ρ=[Sl.bor (hallD wide high sh ts),.bor (za8 ts),.own dd,.own (.lst ((rowsA wide high sh ts n++rowsN wide high sh ts n i).map Row.data)),.bor (.int n),x5,x6]/\(rowsA wide high sh ts n++rowsN wide high sh ts n i).length<=36*n+9*i) 0 ⟨_,_,by rw[show rowsN wide high sh ts n 0=[] from rfl,List.append_nil],by rw[show rowsN wide high sh ts n 0=[] from rfl,List.append_nil];exact hl⟩ (fun i e ρ st' he hI P2 pn2=>?_) fun ρ st' hI=>?_
  ·obtain⟨x5,x6,er,hl⟩:=hI
   obtain⟨rfl,hi4⟩:=zd4 he;rw[Nat.zero_add] at hl er;rw[Nat.zero_add] at pn2;obtain⟨B,hB⟩:∃B,B=rowsA wide high sh ts n++rowsN wide high sh ts n i:=⟨_,rfl⟩;rw[rowsN_succ,<-List.append_assoc] at pn2;rw[<-hB] at hl er pn2;subst er;have k1:(0:Int)+(i:Int)=(i:Int):=by omega
   rw[k1];have hd:Dir (i:Int):=⟨by omega,by omega⟩;refine⟨_,rfl,?_⟩;simp_all!;simp!;refine wp_ends ho ht hd hdd fun h9=>?_
   obtain⟨p,hp⟩:∃p,p=along wide high sh ts i n:=⟨_,rfl⟩;rw[<-hp] at h9 ⊢;have pim:D.immL (p.map za8)=true:=zb5 (fun _=>zm8) p;have en:oEnumL 1 [.lst (p.map za8)]=some (numF 1 (p.map za8)):=rfl;simp! [pim];simp! [lstOf,zb5 row_imm,en];refine zg8 (endT n i) (fun ρ=>∃x y,ρ=[x,y,.bor (.int n),.bor (.int i)]) ⟨_,_,rfl⟩ (fun d hd ρ hI129=>?_) (zg3 (by rw[numF_length,List.length_map];omega)) ?_
   ·obtain⟨x,y,e⟩:=hI129
    subst e;obtain⟨j,hj⟩:=List.getElem?_of_mem hd;obtain⟨s,hs,rfl⟩:=numF_get hj;rw[List.getElem?_map] at hs;cases q:p[j]? with
    | none=>rw[q] at hs;cases hs
    | some s'=>
      rw[q] at hs;have hs:za8 s'=s:=Option.some.inj hs;subst hs;refine⟨_,rfl,⟨_,_,rfl⟩,⟨rfl,rfl⟩,?_⟩;have ot:oTup [D.tup [.int n,.int i,.int (j+1:Nat)],za8 s']=some (Row.data ⟨n,i,j+1,s'⟩):=oTup2 push_imm zm8;simp! [oTup3,ot];exact⟨rfl,row_imm _⟩
   ·rw[numF_rows]
    refine⟨_,oExt_eq (zb5 row_imm _) (by rw[List.length_map,List.length_map,rowsF_len];omega),?_⟩;rw[<-List.map_append];rw[<-hp] at pn2;exact pn2 _ _ ⟨_,_,rfl,by rw[List.length_append,rowsF_len];omega⟩
  ·obtain⟨x5,x6,er,hl⟩:=hI
   subst er;rw[Nat.zero_add,zc3] at hl ⊢;rw[<-rowsA_succ] at hl ⊢;exact pn _ _ ⟨_,_,_,rfl,by omega⟩
 ·obtain⟨x4,x5,x6,er,hl⟩:=hI
  subst er;rw[Nat.zero_add,zc3,Int.toNat_natCast] at hl ⊢;simp! [zb5 row_imm];exact hq (by omega)
noncomputable def allF:List D->Res Unit D:=dfn 2 2 (all_pushes_m pweF).1
noncomputable def frstT (d:D):D:=match d with
 | .tup (a::_)=>a
 | _=>.non
theorem wp_all {wide high:Int} {sh:List Cell} {ts:List Tr} {Q:D->Unit->Prop} {E:Exn->Unit->Prop} (ho:zf6 wide high sh ts)
 (hq:(rowsA wide high sh ts ts.length).length<=432->Q (.lst ((rowsA wide high sh ts ts.length).map Row.push)) ()):wpR (allF [hallD wide high sh ts,za8 ts]) Q E:=by
 refine zg7 rfl (by decide) ?_;unfold all_pushes_m;dsimp only;simp!;refine wp_pwe ho fun h4=>?_
 obtain⟨rows,hr⟩:∃rows,rows=rowsA wide high sh ts ts.length:=⟨_,rfl⟩;rw[<-hr] at h4 hq ⊢;simp! [zb5 row_imm];refine zg8 frstT (fun ρ=>∃x y,ρ=[x,y]) ⟨_,_,rfl⟩ (fun d hd ρ hI130=>?_) (zg3 (by rw[List.length_map];omega)) ?_
 ·obtain⟨x,y,e⟩:=hI130
  subst e;obtain⟨r,_,rfl⟩:=List.mem_map.mp hd;refine⟨_,rfl,⟨_,_,rfl⟩,⟨rfl,rfl⟩,?_⟩;simp!;exact⟨rfl,push_imm⟩
 ·have em:(rows.map Row.data).map frstT=rows.map Row.push:=by rw[List.map_map];rfl
  rw[em];exact⟨.inr (zb5 (fun r=>push_imm) rows),hq h4⟩
end K11
end
section
namespace K11
open PySem PySem.Spec PyProof.Rows L2
section
variable {wide high:Int} {sh:List Cell} {d:Int} {n:Nat} {ts cur mid:List Tr} {k:Nat}
theorem Steps.det (h:Steps wide high sh d n ts k cur):∀{b:List Tr},Steps wide high sh d n ts k b->cur=b:=by
 induction h with
 | zero=>intro b hb;cases hb;rfl
 | succ _ hg ih=>
   intro b hb;cases hb with
   | succ h0 hg'=>
     have:=ih h0;subst this;rw[hg.one hg']
theorem Steps.pre (h:Steps wide high sh d n ts k cur):∀i,i<k->∃mid g,Steps wide high sh d n ts i mid/\Goers wide high sh mid d n g:=by
 induction h with
 | zero=>intro i hi;omega
 | @succ k mid g h0 hg ih=>
   intro i hi;by_cases h:i<k
   ·exact ih i h
   ·have:i=k:=by omega
    subst this;exact⟨mid,g,h0,hg⟩
theorem Steps.ok (h:Steps wide high sh d n ts k cur) (ho:zf6 wide high sh ts):zf6 wide high sh cur:=by
 induction h with
 | zero=>exact ho
 | succ _ hg ih=>exact ih.moved hg
end
noncomputable def ppushF:List D->Res Unit D:=dfn 9 3 (pushed_m zo1 bstepF).1
theorem small_step {i:Nat} (h:i<1000):((0:Int).natAbs.log2<1920)/\((i:Int).natAbs.log2<1920):=by
 refine⟨by decide,?_⟩;rw[Int.natAbs_natCast];by_cases z:i=0
 ·subst z;decide
 ·exact Nat.lt_of_lt_of_le ((Nat.log2_lt z).mpr (Nat.lt_trans h (by decide:1000<2 ^ 10))) (by decide)
theorem wp_ppushB {wide high:Int} {sh:List Cell} {ts:List Tr} {n k:Nat} {d:Int} {t0:Tr} {Q:D->Unit->Prop} {E:Exn->Unit->Prop} (ho:zf6 wide high sh ts) (hn:ts[n]?=some t0) (hd:Dir d) (hk9:k<=1000)
 (hN:∀(i:Nat) mid t1,i<k->Steps wide high sh d n ts i mid->mid[n]?=some t1->NoStep wide high sh mid d n t1->E ⟨"Barred",[.int 0,.int i]⟩ ()) (hq:∀cur,Steps wide high sh d n ts k cur->Q (za8 cur) ()) :
 wpR (ppushF [hallD wide high sh ts,za8 ts,pushD n d k]) Q E:=by
 have go:=@zg7 9 3 (pushed_m zo1 bstepF).1 [hallD wide high sh ts,za8 ts,pushD n d k] Q E (by simp) (by decide);unfold ppushF;with_reducible refine go ?_
 clear go;unfold pushed_m;dsimp only;have few:=ho.few;have hnl:n<ts.length:=(List.getElem?_eq_some_iff.mp hn).1;simp_all!;simp! [pushD];simp_all!;simp!;rw  [zb2];simp!;rw[zd6 (by omega) (by omega)];refine zh4 (fun i ρ st'=>∃(mid:List Tr) (x7 x8:Sl),ρ=[Sl.bor (hallD wide high sh ts),.bor (za8 ts),.bor (pushD n d k),.bor (.int n),.bor (.int d),.bor (.int k),.bor (za8 mid),x7,x8]/\Steps wide high sh d n ts i mid) 0 ⟨ts,_,_,rfl,.zero⟩ (fun i e ρ st' he hI P pn=>?_) fun ρ st' hI=>?_
 ·obtain⟨mid,x7,x8,er,hm⟩:=hI
  obtain⟨rfl,hi⟩:=zd4 he;subst er;rw[Nat.zero_add] at hm;rw[Nat.zero_add] at pn;obtain⟨t1,ht1⟩:∃t,mid[n]?=some t:=⟨_,List.getElem?_eq_getElem (by rw[hm.len];exact hnl)⟩;refine⟨_,rfl,?_⟩;simp_all!;simp!;rw[<-zk1 hm.kind];refine wp_movers (hm.ok ho) ht1 hd (fun h=>?_) fun g' hg'=>?_
  ·simp!
   simp_all!;simp! [oIsN,D.isNon,wp_sRaise2];have i0:(0:Int)+(i:Int)=(i:Int):=by omega
   have sm:=small_step (i:=i) (by omega);refine⟨_,?_,hN i mid t1 (by omega) hm ht1 h⟩;rw[i0];show (if _ then some _ else none)=_;rw[if_pos sm]
  ·have gf:(D.tup (nats g')).flat=false:=rfl
   simp! [gf];simp_all!;simp! [oIsN,D.isNon];refine wp_bstep hd (by rw[hm.len];omega) hg'.lt hg'.nd ?_;have sf:(za8 (zd5 mid g' d)).flat=false:=rfl;simp! [sf];rw[zk1 hm.kind];exact pn _ _ ⟨_,_,_,rfl,.succ hm hg'⟩
 ·obtain⟨mid,x7,x8,er,hm⟩:=hI
  subst er;rw[Nat.zero_add,zc3,Int.toNat_natCast] at hm;have own:own? [Sl.bor (hallD wide high sh ts),.bor (za8 ts),.bor (pushD n d k),.bor (.int n),.bor (.int d),.bor (.int k),.bor (za8 mid),x7,x8] 6=some (za8 mid):=by
   show (if (za8 mid).imm=true then some (za8 mid) else none)=_;rw[if_pos zm8]
  simp only[wp_sRetV];exact⟨_,own,hq mid hm⟩
end K11
end
section
namespace K11
open PySem PySem.Spec PyProof.Rows L2
noncomputable def toldF (G:List D->Res Unit D) (l:List D):Res Unit D:=match G l with
 | .ok d st=>.ok (.tup [.str "told",d]) st
 | .exc x st=>(match x.args with
   | [.int a,.int b]=>.ok (.tup [.str "barred",.int a,.int b]) st
   | _=>.bad)
 | .bad=>.bad
structure XCB (K:PySem.W.Frag) (mg:Str->Option Value) (C1:Addr):Prop where
 n1:mg "Barred" = some (.ref C1)
 r1:BarR K mg C1
 l1:ExcL K C1
 a1:PySem.W.findIn K (.ref C1) "push" = some none
 a2:PySem.W.findIn K (.ref C1) "step" = some none
 up:∃C0 bm bm0,mg "HallError" = some (.ref C0)/\ExcK K C1 bm/\ExcK K C0 bm0/\(Value.ref C0::bm0).contains (.type "BaseException")=true/\(Value.ref C1::bm).contains (.ref C0)=true
 no:∃C2 C3 C4 C5,mg "BadRow" = some (.ref C2)/\mg "NoRoom" = some (.ref C3)/\mg "NoStand" = some (.ref C4)/\mg "TooMany" = some (.ref C5)/\PySem.W.kitAny K (.ref C1) [.ref C2,.ref C3,.ref C4,.ref C5]=some false
 vn:mg "ValueError" = none
 vt:PySem.W.kitOne K (.ref C1) (.type "ValueError")=some true
theorem len3 {α:Type} {us:List α} (h:us.length=3):∃a b c,us=[a,b,c]:=by
 match us,h with
 | [a,b,c],_=>exact⟨a,b,c,rfl⟩
theorem told_len {G:List D->Res Unit D} {l:List D} {Q:D->Unit->Prop} {E:Exn->Unit->Prop} (hG:∀l,l.length≠3->G l=.bad) (w:wpR (toldF G l) Q E):l.length=3:=by
 apply Classical.byContradiction;intro h;unfold toldF at w;rw[hG l h] at w;exact w
theorem ext_upd {H:Hp} {tp:Addr} {o:HO} (n:H tp=none):Same H (upd H tp o):=fun b u e=>by rw[za9 (zb0 e n)];exact e
theorem keep_upd {A:Addr->Prop} {H:Hp} {tp:Addr} {o:HO} (n:H tp=none):KeepT A A H (upd H tp o):=⟨fun b u e _=>ext_upd n b u e,fun b u a e=>⟨a,ext_upd n b u e⟩⟩
set_option tactic.hygienic true in
theorem ok_told {P:Program} {w:World} {K:PySem.W.Frag} {mg:Str->Option Value} {base:Heap} {k:Nat} {f g:Addr} {fd gd:FuncData} {C1:Addr} {ps:List Str} {G:List D->Res Unit D} (F:Fun K "_law_told" "_law_told" zk3 f fd) (hm:Bn mg) (xc:XCB K mg C1)
 (kp:PySem.W.keepIn K (.ref g)=true) (bp:Binds K gd ps []) (hG:∀l,l.length≠3->G l=.bad) (Gk:FnOk P w K mg base (CX2 P w) k g gd ps (spB K C1 G)) :
 FnOk P w K mg base CX0 (k+1) f fd ["_law_hall","_law_stand","_law_push","_law_call"] (spT g K (toldF G)):=by
 obtain⟨C0,bm,bm0,m0,e1,e0,hbe,hin⟩:=xc.up;obtain⟨C2,C3,C4,C5,m2,m3,m4,m5,hno⟩:=xc.no;obtain⟨nm,qn,N,bs,bmR,sn,sub,ab,col,dd,k0,k1,k2,k3,k5,fi,fid,ofi,lk,_⟩:=id xc.r1.ex;refine F.ok zl5 (fun vs H Q E h=>?_) fun cdv A outer s H vs Q E hr h=>?_
 ·obtain⟨us,rfl,l,i,z⟩:=h
  rw[List.length_append,<-i.length,told_len hG z];rfl
 ·obtain⟨us,rfl,l,i,wq⟩:=h
  obtain⟨v0,v1,v2,rfl⟩:=len3 (i.length.symm.trans (told_len hG wq));refine⟨fun D σ H1=>σ=start n__law_told [v0,v1,v2,.ref g]/\H1=H/\∀v H',Q v H'->D.rt v H',?_,rfl,rfl,fun _ _ q=>q⟩;intro pins s1 σ H1 D I ⟨e1',e2',e3⟩;subst e1' e2';refine step_next (zn2 (i:=4) zl5.nd rfl (.inl rfl) pe_non) I ⟨rfl,rfl⟩ fun s2 I2=>?_
  refine step_next (zn2 (i:=5) zl5.nd rfl (.inl rfl) pe_non) I2 ⟨rfl,rfl⟩ fun s3 I3=>?_
  refine try2 (ia:=5) (ic:=4) (inn:=6) (C1:=C1) (C0:=C0) (bm:=bm) (bm0:=bm0) I3 (callv (Q:=fun v H'=>∀tp,H' tp=none->Q (.ref tp) (upd H' tp (.tup [.str "told",v]))) (E:=fun c od H'=>c=.ref C1/\∃dx a b,od=some dx/\H' dx=some (xdB a b)/\∀H2,Same H' H2->∀tp,H2 tp=none->Q (.ref tp) (upd H2 tp (.tup [.str "barred",.int a,.int b]))) (i:=3) Gk hr (pv 3) rfl kp bp (zb9 (pv 0) (zb9 (pv 1) (zb9 (pv 2) zh1))) I3 ?h (fun _ _ z=>z)) rfl rfl zl5.nd rfl rfl rfl rfl rfl rfl rfl m0 e1 e0 hbe hin (fun _ _ _ z=>z.1) ?ok ?ex;case h=>
   refine⟨v0,rfl,v1,rfl,v2,rfl,l,i,?_⟩;unfold toldF at wq;cases q:G l with
   | bad=>rw[q] at wq;exact wq
   | ok d st=>
     rw[q] at wq;intro v H' sm is tp htp;refine wq (.ref tp) _ (fun b o e=>ext_upd htp b o (sm b o e)) ?_;unfold Is;exact⟨tp,_,rfl,zb4,IsL.cons.mpr ⟨_,_,rfl,Is.str_iff.mpr rfl,IsL.one (is.mono (keep_upd htp))⟩⟩
   | exc x st=>
     rw[q] at wq;intro H' sm a b hab dx hdx;simp only[hab] at wq;refine⟨rfl,dx,a,b,rfl,zb4,fun H2 sm2 tp htp=>wq (.ref tp) _ (fun b o e=>ext_upd htp b o (sm2 b o (ext_upd hdx b o (sm b o e)))) ?_⟩;unfold Is;exact⟨tp,_,rfl,zb4,IsL.cons.mpr ⟨_,_,rfl,Is.str_iff.mpr rfl,IsL.cons.mpr ⟨_,_,rfl,Is.int_iff.mpr rfl,IsL.one (Is.int_iff.mpr rfl)⟩⟩⟩
  case ok=>
   intro v H' s' I' q;refine wpAny_execs_cons (thn (ps_if (pt_cmp (pc_isN (pv 4))) (zm1 (ps_ret (pe_tup (zb9 zn3 (zb9 (pv 5) zh1))))) pss_nil pins s' _ H' { nx:=fun _ _=>False,rt:=D.rt } I' ⟨.non,rfl,true,rfl,v,rfl,(by show 2<=sizeLine;decide),fun tp htp=>e3 _ _ (q tp htp)⟩) fun fl s4 z=>?_);cases fl with
   | next=>obtain⟨_,_,_,z⟩:=z;exact z.elim
   | ret u=>exact z
   | brk=>obtain⟨_,_,_,z⟩:=z;exact z.elim
   | cont=>obtain⟨_,_,_,z⟩:=z;exact z.elim
  case ex=>
   intro y oe H' s' I' hc ⟨fs,hdat⟩ hE;obtain⟨_,dx,a,b,hd,hx,hq0⟩:=hE;have IP:=I'.toP;have run:∃t,PSs (((cxOf CX0 P w K mg base n__law_told "_law_told" (za1 zk3) f cdv A outer s H1 E).nox).pinned (y,oe)) ((zb7 zk3).drop 3) t/\∀σ4:L2.St,σ4[4]?=some (some (V.ref y))->t D σ4 H':=by
    refine' ⟨_,ze7 (ps_if (pt_cmp (pc_isN (pv 4))) (zm1 (ps_ret (pe_tup (zb9 zn3 (zb9 (pv 5) zh1))))) pss_nil) (ze7 (ps_if (PW.pt (pw_or (pt_not (pt_val ?i1)) (pw_or1 (pt_val ?i2)))) (zm1 (ps_ret pe_non)) pss_nil) (zm1 (ps_ret (pe_ifExp (pt_val ?i3) (pe_tup (zb9 zn3 (zb9 ?x1 (zb9 ?x2 zh1)))) pe_non)))),?hq⟩;case i1=>exact zn8 (isx_one (.head _) hc xc.l1 e1) rfl hm.isinstance boot_isinstance (zb9 (pv 4) (zb9 (pe_glob (v:=.ref C1) rfl xc.n1 rfl) zh1))
    case i2=>exact zn8 (isx_tup (.head _) hc xc.l1 e1) rfl hm.isinstance boot_isinstance (zb9 (pv 4) (zb9 (pe_tup (zb9 (pe_glob (v:=.ref C2) rfl m2 rfl) (zb9 (pe_glob (v:=.ref C3) rfl m3 rfl) (zb9 (pe_glob (v:=.ref C4) rfl m4 rfl) (zb9 (pe_glob (v:=.ref C5) rfl m5 rfl) zh1))))) zh1))
    case i3=>exact zn8 (isx_one (.head _) hc xc.l1 e1) rfl hm.isinstance boot_isinstance (zb9 (pv 4) (zb9 (pe_bltn (v:=.ty "ValueError") rfl xc.vn rfl rfl) zh1))
    case x1=>exact pe_xattr (.head _) hc hd hdat lk xc.l1 xc.a1 (pv 4)
    case x2=>exact pe_xattr (.head _) hc hd hdat lk xc.l1 xc.a2 (pv 4)
    case hq=>
    intro σ4 h4;have z1:∀{p q:Prop},q->if false=true then p else q:=fun z=>by rw[if_neg Bool.false_ne_true];exact z
    have z2:∀{p q:Prop},p->if true=true then p else q:=fun z=>by rw[if_pos rfl];exact z
    refine⟨.ref y,h4,false,rfl,z1 ?_⟩;refine⟨.ref y,h4,.ref C1,.ref C1,true,rfl,(fun _ z=>z),if_pos (beq_self_eq_true _),true,rfl,z1 ?_⟩;refine⟨.ref y,h4,(by show 4<=sizeLine;decide),fun tp htp=>⟨tp,[C2,C3,C4,C5],false,rfl,zb4,hno,false,rfl,z1 ?_⟩⟩;refine⟨.ref y,h4,.ty "ValueError",.type "ValueError",true,rfl,(fun _ z=>z),xc.vt,true,rfl,z2 ?_⟩;have hx2:=ext_upd (o:=.tup ([C2,C3,C4,C5].map V.ref)) htp dx _ hx;refine⟨.ref y,h4,_,a,rfl,hx2,rfl,.ref y,h4,_,b,rfl,hx2,rfl,(by show 3<=sizeLine;decide),fun t2 ht2=>e3 _ _ (hq0 _ (ext_upd htp) t2 ht2)⟩
   obtain⟨t,ht,hq⟩:=run;exact thn (ht pins s' _ H' D IP (hq _ rfl)) fun fl s4 z=>z.ofP
end K11
end
section
namespace K11
open PySem PySem.Spec PyProof.Rows L2
theorem wp_told {G:List D->Res Unit D} {l:List D} {Q:D->Unit->Prop} {E:Exn->Unit->Prop} (h:wpR (G l) (fun d st=>Q (.tup [.str "told",d]) st) (fun x st=>∃a b,x.args=[.int a,.int b]/\Q (.tup [.str "barred",.int a,.int b]) st)):wpR (toldF G l) Q E:=by
 unfold toldF;cases q:G l with
 | ok d st=>rw[q] at h;exact h
 | bad=>rw[q] at h;exact h.elim
 | exc x st=>
   rw[q] at h;obtain⟨a,b,e,z⟩:=h;simp only[e];exact z
section
variable {wide high:Int} {sh:List Cell} {d:Int} {n:Nat} {ts cur mid:List Tr} {k i:Nat} {t t1:Tr}
theorem Steps.stop (h:Steps wide high sh d n ts k cur) (h2:Steps wide high sh d n ts i mid) (ht:mid[n]?=some t) (no:NoStep wide high sh mid d n t):k<=i:=by
 apply Classical.byContradiction;intro hlt;obtain⟨m2,g,hm,hg⟩:=h.pre i (by omega);have:=hm.det h2;subst this;exact hg.not ht no
end
theorem stand_flat {ts:List Tr}:(za8 ts).flat=false:=rfl
theorem barred_same {k:Int}:(D.tup [.str "barred",.int 0,.int k]).dep<4/\(D.tup [.str "barred",.int 0,.int k]).lw=true:=by
 constructor
 ·simp[D.dep,D.depL]
 ·simp only[D.lw,D.lwL,Bool.true_and,Bool.and_true,decide_eq_true_eq]
  show 3<=sizeLine;decide
end K11
end
section
namespace K11
open PySem PySem.Spec PyProof.Rows L2
structure Ln where
 a:Int
 l:Int
 ways:Str
 s:Int
noncomputable def Ln.data (p:Ln):D:=.tup [.int p.a,.int p.l,.str p.ways,.int p.s]
theorem ln_imm (p:Ln):p.data.imm=true:=by simp[Ln.data,D.imm,D.immL]
structure LnOk (p:Ln):Prop where
 a0:0<=p.a
 l1:1<=p.l
 e9:p.a+p.l<=9
 ways:Ways p.ways
 st:p.s=0\/p.s=1\/p.s=-1
structure Lined (ps:List Ln):Prop where
 ok:∀p∈ps,LnOk p
 up:ps.Pairwise fun p q=>p.a+p.l<=q.a
noncomputable def Ax (x:Str):Prop:=x = "row"\/x = "column"
noncomputable def oth (x:Str):Str:=if x == "row" then "column" else "row"
theorem Ax.ways {x:Str} (h:Ax x):Ways x:=by rcases h with rfl | rfl<;>simp[Ways]
theorem oth_ways (x:Str):Ways (oth x):=by unfold oth;split<;>simp[Ways]
theorem oth_ix (x:Str):oIx (.lst [.str "row",.str "column"]) (.int (if (x == "row")=true then 1 else 0))=some (.str (oth x)):=by
 unfold oth;cases x == ("row" : Str)<;>rfl
theorem long_pick {v:Int} (h0:0<=v) (h1:v<5):∃s:Int,oIx (.lst [.int 1,.int 1,.int 1,.int 2,.int 3]) (.int v)=some (.int s)/\1<=s:=by
 have:v=0\/v=1\/v=2\/v=3\/v=4:=by omega
 rcases this with r | r | r | r | r<;>subst r
 ·exact⟨1,rfl,by omega⟩
 ·exact⟨1,rfl,by omega⟩
 ·exact⟨1,rfl,by omega⟩
 ·exact⟨2,rfl,by omega⟩
 ·exact⟨3,rfl,by omega⟩
theorem gap_pick {v:Int} (h0:0<=v) (h1:v<5):∃s:Int,oIx (.lst [.int 0,.int 0,.int 0,.int 1,.int 2]) (.int v)=some (.int s)/\0<=s:=by
 have:v=0\/v=1\/v=2\/v=3\/v=4:=by omega
 rcases this with r | r | r | r | r<;>subst r
 ·exact⟨0,rfl,by omega⟩
 ·exact⟨0,rfl,by omega⟩
 ·exact⟨0,rfl,by omega⟩
 ·exact⟨1,rfl,by omega⟩
 ·exact⟨2,rfl,by omega⟩
theorem str_pick {v:Int} (h0:0<=v) (h1:v<4):∃s:Int,oIx (.lst [.int 1,.int 1,.int 0,.int (-1)]) (.int v)=some (.int s)/\(s=0\/s=1\/s=-1):=by
 have:v=0\/v=1\/v=2\/v=3:=by omega
 rcases this with r | r | r | r<;>subst r
 ·exact⟨1,rfl,by omega⟩
 ·exact⟨1,rfl,by omega⟩
 ·exact⟨0,rfl,by omega⟩
 ·exact⟨-1,rfl,by omega⟩
theorem ways_pick {v:Int} {x:Str} (hx:Ax x) (h0:0<=v) (h1:v<6):∃s:Str,oIx (.lst [.str x,.str "any",.str x,.str x,.str "none",.str (oth x)]) (.int v)=some (.str s)/\Ways s:=by
 have:v=0\/v=1\/v=2\/v=3\/v=4\/v=5:=by omega
 rcases this with r | r | r | r | r | r<;>subst r
 ·exact⟨x,rfl,hx.ways⟩
 ·exact⟨"any",rfl,by simp[Ways]⟩
 ·exact⟨x,rfl,hx.ways⟩
 ·exact⟨x,rfl,hx.ways⟩
 ·exact⟨"none",rfl,by simp[Ways]⟩
 ·exact⟨oth x,rfl,oth_ways x⟩
noncomputable def muL (ρ:Rho):Nat:=match (ρ[2]?:Option Sl) with
 | some (Sl.own (D.lst l))=>30-l.length
 | _=>0
noncomputable def lineF:List D->Dr->Res Dr D:=dfnS 6 2 (_law_line_m takeF).1
theorem wp_line {x:Str} {st:Dr} {Q:D->Dr->Prop} {E:Exn->Dr->Prop} (hx:Ax x) (hs:st.2<2 ^ 39) (h:∀ps st',Lined ps->0<ps.length->ps.length<=9->st'.2<=st.2+40->Q (.lst (ps.map Ln.data)) st'):wpR (lineF [.str x] st) Q E:=by
 refine wp_dfnS rfl (by decide) ?_;unfold _law_line_m;dsimp only;simp_all!;simp! [oLst0];simp_all!;simp!;refine zj2 (by decide) (by decide) (by omega) fun v1 st1 a1 b1 c1=>?_
 simp!;rw  [zb2];refine zp4 (fun ρ s=>∃(ps:List Ln) (a:Int) (x4 x5:Sl),ρ=[Sl.hnd,.bor (.str x),.own (.lst (ps.map Ln.data)),.bor (.int a),x4,x5]/\Lined ps/\(∀p∈ps,p.a+p.l<=a)/\0<=a/\ps.length<=9/\(ps=[]->a<9)/\s.2<=st1.2+4*ps.length) (fun ρ _=>muL ρ)
  ⟨[],v1,_,_,rfl,⟨fun p hp=>absurd hp (by simp),.nil⟩,fun p hp=>absurd hp (by simp),a1,by simp,fun _=>by omega,by simp⟩ ?_
 intro ρ s hI P Z pn pr pz;obtain⟨ps,a,x4,x5,rfl,hl,hle,ha0,h9,hne,hst⟩:=hI;have ol:oLen [.lst (ps.map Ln.data)]=some (.int (ps.length:Nat)):=by unfold oLen;simp
 have pim:∀ps:List Ln,D.immL (ps.map Ln.data)=true:=fun ps=>zb5 ln_imm ps
 have out:ps≠[]->Z s:=fun hp=>by
  refine pz _ ?_;simp! [pim];exact h ps s hl (List.length_pos_iff.mpr hp) h9 (by omega)
 by_cases q1:(ps.length:Int)<9
 ·by_cases q2:a<9
  ·have l5:oLst [.int 1,.int 1,.int 1,.int 2,.int 3]=some (.lst [.int 1,.int 1,.int 1,.int 2,.int 3]):=zj3 (by simp[D.immL,D.imm]) (by simp)
   have g5:oLst [.int 0,.int 0,.int 0,.int 1,.int 2]=some (.lst [.int 0,.int 0,.int 0,.int 1,.int 2]):=zj3 (by simp[D.immL,D.imm]) (by simp);have s4:oLst [.int 1,.int 1,.int 0,.int (-1)]=some (.lst [.int 1,.int 1,.int 0,.int (-1)]):=zj3 (by simp[D.immL,D.imm]) (by simp);have r2:oLst [.str "row",.str "column"]=some (.lst [.str "row",.str "column"]):=zj3 (by simp[D.immL,D.imm]) (by simp);have w6:oLst [.str x,.str "any",.str x,.str x,.str "none",.str (oth x)]=some (.lst [.str x,.str "any",.str x,.str x,.str "none",.str (oth x)]):=zj3 (by simp[D.immL,D.imm]) (by simp);simp! [ol,iOp0,q1,q2,decide_true,pim];simp_all!;simp! [iOp0,l5];refine zj2 (by decide) (by decide) (by omega) fun v2 st2 a2 b2 c2=>?_
   obtain⟨s2,e2,u2⟩:=long_pick a2 b2;simp! [e2,min_eq];have m1:=minI_le (a:=9-a) (b:=s2);generalize minI (9-a) s2=L at m1;simp_all!;simp! [zj4,oInt,r2,oth_ix,w6];refine zj2 (by decide) (by decide) (by omega) fun v3 st3 a3 b3 c3=>?_
   obtain⟨w3,e3,u3⟩:=ways_pick hx a3 b3;simp! [e3];simp_all!;simp! [s4,lstOf,pim];refine zj2 (by decide) (by decide) (by omega) fun v4 st4 a4 b4 c4=>?_
   obtain⟨s4',e4,u4⟩:=str_pick a4 b4;have t4:oTup [.int a,.int L,.str w3,.int s4']=some (Ln.data ⟨a,L,w3,s4'⟩):=zi0 (by simp[D.immL,D.imm]) (by simp);simp! [e4,t4];refine⟨_,oApp_eq (ln_imm _) (by rw[List.length_map];omega),?_⟩;simp! [oAddU,iOp0,g5];refine zj2 (by decide) (by decide) (by omega) fun v5 st5 a5 b5 c5=>?_
   obtain⟨s5,e5,u5⟩:=gap_pick a5 b5;simp! [e5,oAddU,iOp0];refine pn _ _ ⟨ps++[⟨a,L,w3,s4'⟩],a+L+s5,_,_,by rw[List.map_append];rfl,⟨fun p hp=>?_,?_⟩,fun p hp=>?_,by omega,by simp;omega,by simp,by simp;omega⟩ ?_
   ·rcases List.mem_append.mp hp with z | z
    ·exact hl.ok p z
    ·rw[List.mem_singleton.mp z]
     exact⟨ha0,by show 1<=L;omega,by show a+L<=9;omega,u3,u4⟩
   ·refine List.pairwise_append.mpr ⟨hl.up,by simp,fun p hp q hq=>?_⟩
    rw[List.mem_singleton.mp hq];exact hle p hp
   ·rcases List.mem_append.mp hp with z | z
    ·have:=hle p z
     omega
    ·rw[List.mem_singleton.mp z]
     show a+L<=a+L+s5;omega
   ·show 30-(ps.map Ln.data++[Ln.data ⟨a,L,w3,s4'⟩]).length<30-(ps.map Ln.data).length
    rw[List.length_append,List.length_map];simp;omega
  ·have n0:ps≠[]:=fun z=>q2 (hne z)
   simp! [ol,iOp0,q1,q2,decide_true,decide_false,pim];exact out n0
 ·have n0:ps≠[]:=fun z=>by subst z;simp at q1
  simp! [ol,iOp0,q1,decide_false,pim];exact out n0
end K11
end
section
namespace K11
open PySem PySem.Spec PyProof.Rows L2
noncomputable def trOf (x:Str) (p:Ln) (o s:Int):Tr:=if x == "row" then⟨p.l,o,p.ways,p.s,p.a,s⟩ else⟨o,p.l,p.ways,p.s,s,p.a⟩
noncomputable def LaidT (x:Str) (deep:Int) (p:Ln) (t:Tr):Prop:=∃o s:Int,1<=o/\o<=deep/\0<=s/\s+o<=deep/\t=trOf x p o s
noncomputable def LaidL (x:Str) (deep:Int) (ps:List Ln) (us:List Tr):Prop:=us.length<=ps.length/\∀(j:Nat) p t,ps[j]?=some p->us[j]?=some t->LaidT x deep p t
theorem laid_hall {x:Str} {deep many:Int} {ps:List Ln} {us:List Tr} (hl:Lined ps) (h9:ps.length<=9) (d1:1<=deep) (d9:deep<=9) (m1:1<=many) (m9:many<=9) (he:∀p∈ps,p.a+p.l<=many) (h:LaidL x deep ps us) (hlen:us.length=ps.length) :
 zf6 (if x == "row" then many else deep) (if x == "row" then deep else many) [] us:=by
 have get:∀j t,us[j]?=some t->∃p,ps[j]?=some p/\LaidT x deep p t:=fun j t hj=>by
  have hlt:j<ps.length:=by rw[<-hlen];exact(List.getElem?_eq_some_iff.mp hj).1
  exact⟨_,List.getElem?_eq_getElem hlt,h.2 j _ t (List.getElem?_eq_getElem hlt) hj⟩
 have xs:(x == ("row" : Str))=true\/(x == ("row" : Str))=false:=by cases x == ("row" : Str)<;>simp
 refine⟨by split<;>omega,by split<;>omega,by split<;>omega,by split<;>omega,List.nil_sublist _,by omega,fun t ht=>?_,?_⟩
 ·obtain⟨j,hj⟩:=List.getElem?_of_mem ht
  obtain⟨p,hp,o,s,o1,o2,s1,s2,rfl⟩:=get j t hj;have ok:=hl.ok p (List.mem_of_getElem? hp);have e:=he p (List.mem_of_getElem? hp);obtain⟨a0,l1,e9,wy,st⟩:=ok;unfold trOf;rcases xs with xr | xr<;>rw[xr]<;>simp only[if_true,Bool.false_eq_true,if_false]
  ·exact⟨l1,o1,a0,e,s1,s2,wy,st,fun c _=>by simp⟩
  ·exact⟨o1,l1,s1,s2,a0,e,wy,st,fun c _=>by simp⟩
 ·rw[List.pairwise_iff_getElem]
  intro i j hi hj hij c hc hc';obtain⟨p,hp,o,s,_,_,_,_,ei⟩:=get i _ (List.getElem?_eq_getElem hi);obtain⟨q,hq,o',s',_,_,_,_,ej⟩:=get j _ (List.getElem?_eq_getElem hj);have up:=List.pairwise_iff_getElem.mp hl.up i j (List.getElem?_eq_some_iff.mp hp).1 (List.getElem?_eq_some_iff.mp hq).1 hij;rw[(List.getElem?_eq_some_iff.mp hp).2,(List.getElem?_eq_some_iff.mp hq).2] at up;rw[ei] at hc;rw[ej] at hc';unfold trOf Tr.cells at hc hc';rcases xs with xr | xr<;>rw[xr] at hc hc'<;>simp only[if_true,Bool.false_eq_true,if_false,mem_cov] at hc hc'<;>omega
theorem oCatT_eq {a b:List D} (h1:D.immL a=true) (h2:D.immL b=true) (h:a.length+b.length<=1000) (ha:a≠[]):oAddU (.tup a) (.tup b)=some (.tup (a++b)):=by
 show (none:Option D).or ((none:Option D).or ((oCatT (.tup a) (.tup b)).or _))=_;have:oCatT (.tup a) (.tup b)=some (.tup (a++b)):=by
  show (if D.immL a=true/\D.immL b=true/\a.length+b.length<=sizeLine/\a.isEmpty=false then some (D.tup (a++b)) else none)=_;rw[if_pos ⟨h1,h2,zg3 h,by cases a with | nil=>exact absurd rfl ha | cons _ _=>rfl⟩]
 rw[this];rfl
theorem laid_more {x:Str} {deep:Int} {ps:List Ln} {us:List Tr} {p:Ln} {t:Tr} (h:LaidL x deep ps us) (hp:ps[us.length]?=some p) (ht:LaidT x deep p t):LaidL x deep ps (us++[t]):=by
 refine⟨by rw[List.length_append];have:=(List.getElem?_eq_some_iff.mp hp).1;simp;omega,fun j q u hq hu=>?_⟩;by_cases hj:j<us.length
 ·rw[List.getElem?_append_left hj] at hu
  exact h.2 j q u hq hu
 ·rw[List.getElem?_append_right (by omega)] at hu
  have:j=us.length:=by
   apply Classical.byContradiction;intro z;rw[List.getElem?_eq_none_iff.mpr (by simp;omega)] at hu;cases hu
  subst this;rw[hp] at hq;cases hq;simp at hu;subst hu;exact ht
noncomputable def laidF:List D->Dr->Res Dr D:=dfnS 15 5 (_law_laid_m takeF).1
theorem wp_laid {x:Str} {deep many:Int} {ps:List Ln} {st:Dr} {Q:D->Dr->Prop} {E:Exn->Dr->Prop} (hl:Lined ps) (h9:ps.length<=9) (d1:1<=deep) (d9:deep<=9) (m1:1<=many) (m9:many<=9) (he:∀p∈ps,p.a+p.l<=many) (hs:st.2<2 ^ 39)
 (h:∀wide high ts st',zf6 wide high [] ts->ts.length=ps.length->st'.2<=st.2+30->Q (.tup [hallD wide high [] ts,za8 ts]) st'):wpR (laidF [.lst (ps.map Ln.data),.str x,.int deep,.int many] st) Q E:=by
 refine wp_dfnS rfl (by decide) ?_;unfold _law_laid_m;dsimp only;simp_all!;simp! [oLst0];simp_all!;simp! [oLst0];have pim:D.immL (ps.map Ln.data)=true:=zb5 ln_imm ps;have kim:∀us:List Tr,D.immL (us.map Tr.kind)=true:=fun us=>zb5 kind_imm us
 have plim:∀us:List Tr,D.immL (us.map Tr.place)=true:=fun us=>zb5 zf2 us
 rw  [zb2];simp! [pim];refine zh4 (fun i ρ s=>∃(us:List Tr) (y7 y8 y9 y10 y11 y12 y13:Sl),ρ=[Sl.hnd,.bor (.lst (ps.map Ln.data)),.bor (.str x),.bor (.int deep),.bor (.int many),.own (.lst (us.map Tr.kind)),.own (.lst (us.map Tr.place)),y7,y8,y9,y10,y11,y12,y13,.no]/\us.length=i/\LaidL x deep ps us/\s.2<=st.2+3*i) 0
  ⟨[],_,_,_,_,_,_,_,rfl,rfl,⟨by simp,fun j p t _ z=>by simp at z⟩,by omega⟩ (fun i e ρ s he' hI P pn=>?_) fun ρ s hI=>?_
 ·obtain⟨us,y7,y8,y9,y10,y11,y12,y13,er,hul,hla,hst⟩:=hI
  rw[Nat.zero_add] at hul hst pn;subst er;rw[List.getElem?_map] at he';cases q:ps[i]? with
  | none=>rw[q] at he';cases he'
  | some p=>
    rw[q] at he';have e1:p.data=e:=Option.some.inj he';subst e1;have hip:i<ps.length:=(List.getElem?_eq_some_iff.mp q).1;refine⟨_,rfl,?_⟩;simp_all!;refine za6 (Q:=fun fl s2=>∃o:Int,fl=.nx [Sl.hnd,.bor (.lst (ps.map Ln.data)),.bor (.str x),.bor (.int deep),.bor (.int many),.own (.lst (us.map Tr.kind)),.own (.lst (us.map Tr.place)),.bor (.int p.a),.bor (.int p.l),.bor (.str p.ways),.bor (.int p.s),.bor (.int o),y12,y13,.no]/\1<=o/\o<=deep/\s2.2<=s.2+2) ?_ (fun fl s2 hI131=>?_) fun _ _ z=>z
    ·simp!
     refine zj2 (by decide) (by decide) (by omega) fun v1 st1 a1 b1 c1=>?_
     simp! [oEq_int];by_cases hv:v1=0
     ·rw[if_pos (by simp[hv])]
      simp!;exact⟨deep,rfl,d1,by omega,by omega⟩
     ·rw[if_neg (by simpa using hv)]
      simp!;refine zj2 (by omega) (by omega) (by omega) fun v2 st2 a2 b2 c2=>?_
      simp! [oAddU,iOp0];exact⟨1+v2,rfl,by omega,by omega,by omega⟩
    ·obtain⟨o,efl,ow1,ow2,hs2⟩:=hI131
     subst efl;simp!;simp_all!;simp! [oAddU,iOp0];refine zj2 (by omega) (by omega) (by omega) fun v3 st3 a3 b3 c3=>?_
     have lt:LaidT x deep p (trOf x p o v3):=⟨o,v3,ow1,ow2,a3,by omega,rfl⟩;have more:=laid_more hla (by rw[hul];exact q) lt;have wd:∀a b:Int,oAddU (.tup [.int a,.int b]) (.tup [.str p.ways,.int p.s])=some (kd a b p.ways p.s):=fun a b=>oCatT_eq (by simp[D.immL,D.imm]) (by simp[D.immL,D.imm]) (by simp) (by simp)
     have t2:∀a b:Int,oTup [.int a,.int b]=some (.tup [.int a,.int b]):=fun a b=>zi0 (by simp[D.immL,D.imm]) (by simp)
     have t2s:oTup [.str p.ways,.int p.s]=some (.tup [.str p.ways,.int p.s]):=zi0 (by simp[D.immL,D.imm]) (by simp);have kl:(us.map Tr.kind).length<=1000:=by rw[List.length_map];omega
     have pl:(us.map Tr.place).length<=1000:=by rw[List.length_map];omega
     have fin:∀(t:Tr) (z1 z2 z3 z4 z5 z6 z7:Sl),t=trOf x p o v3->P (.nx [Sl.hnd,.bor (.lst (ps.map Ln.data)),.bor (.str x),.bor (.int deep),.bor (.int many),.own (.lst (us.map Tr.kind++[t.kind])),.own (.lst (us.map Tr.place++[t.place])),z1,z2,z3,z4,z5,z6,z7,.no]) st3:=fun t z1 z2 z3 z4 z5 z6 z7 et=>by
      subst et;exact pn _ _ ⟨us++[trOf x p o v3],z1,z2,z3,z4,z5,z6,z7,by rw[List.map_append,List.map_append];rfl,by rw[List.length_append,hul];rfl,more,by omega⟩
     by_cases xr:(x == ("row" : Str))=true
     ·have et:trOf x p o v3=⟨p.l,o,p.ways,p.s,p.a,v3⟩:=by unfold trOf;rw[xr];rfl
      simp!;simp_all!;simp! [zj4,xr,t2];simp_all!;simp! [t2s,wd,lstOf,kim];refine⟨_,oApp_eq kd_imm kl,?_⟩;simp! [zj4,xr,t2,lstOf,plim];refine⟨_,oApp_eq (ze9 (p.a,v3)) pl,?_⟩;exact fin ⟨p.l,o,p.ways,p.s,p.a,v3⟩ _ _ _ _ _ _ _ et.symm
     ·have xr':(x == ("row" : Str))=false:=by simpa using xr
      have et:trOf x p o v3=⟨o,p.l,p.ways,p.s,v3,p.a⟩:=by unfold trOf;rw[xr'];rfl
      simp!;simp_all!;simp! [zj4,xr',t2];simp_all!;simp! [t2s,wd,lstOf,kim];refine⟨_,oApp_eq kd_imm kl,?_⟩;simp! [zj4,xr',t2,lstOf,plim];refine⟨_,oApp_eq (ze9 (v3,p.a)) pl,?_⟩;exact fin ⟨o,p.l,p.ways,p.s,v3,p.a⟩ _ _ _ _ _ _ _ et.symm
 ·obtain⟨us,y7,y8,y9,y10,y11,y12,y13,er,hul,hla,hst⟩:=hI
  rw[Nat.zero_add,List.length_map] at hul hst;subst er;have ho:=laid_hall hl h9 d1 d9 m1 m9 he hla hul;have t0:oTup []=some (.tup []):=zi0 rfl (by simp);have t2:∀a b:Int,oTup [.int a,.int b]=some (.tup [.int a,.int b]):=fun a b=>zi0 (by simp[D.immL,D.imm]) (by simp)
  have tk:oTup [.tup [],.tup (us.map Tr.kind)]=some (.tup [.tup [],.tup (us.map Tr.kind)]):=zi0 (by simp[D.immL,imm_tup,kim]) (by simp);have cat:∀a b:Int,oAddU (.tup [.int a,.int b]) (.tup [.tup [],.tup (us.map Tr.kind)])=some (hallD a b [] us):=fun a b=>oCatT_eq (by simp[D.immL,D.imm]) (by simp[D.immL,imm_tup,kim]) (by simp) (by simp)
  have him:∀a b:Int,(hallD a b [] us).imm=true:=fun a b=>by simp[hallD,imm_tup,D.immL,kim,imm_int]
  have tf:∀a b:Int,oTup [hallD a b [] us,.tup (us.map Tr.place)]=some (.tup [hallD a b [] us,za8 us]):=fun a b=>zi0 (by simp[D.immL,him,imm_tup,plim]) (by simp)
  have dimm:∀a b:Int,D.imm (.tup [hallD a b [] us,za8 us])=true:=fun a b=>by simp[D.immL,him,imm_tup,za8,plim]
  by_cases xr:(x == ("row" : Str))=true
  ·rw[xr] at ho
   simp_all!;simp! [zj4,xr,t2];simp! [t0,oTuple,kim,plim,tk,cat,tf];first | exact h _ _ _ _ ho hul (by omega) | exact⟨.inl (by rw[him,show (za8 us).imm=true by unfold za8;rw[imm_tup];exact plim us];rfl),h _ _ _ _ ho hul (by omega)⟩
  ·have xr':(x == ("row" : Str))=false:=by simpa using xr
   rw[xr'] at ho;simp_all!;simp! [zj4,xr',t2];simp! [t0,oTuple,kim,plim,tk,cat,tf];first | exact h _ _ _ _ ho hul (by omega) | exact⟨.inl (by rw[him,show (za8 us).imm=true by unfold za8;rw[imm_tup];exact plim us];rfl),h _ _ _ _ ho hul (by omega)⟩
end K11
end
section
namespace K11
open PySem PySem.Spec PyProof.Rows L2
section
variable {wide high:Int} {sh:List Cell} {d:Int} {n:Nat} {ts cur:List Tr} {k:Nat}
theorem Steps.path (h:Steps wide high sh d n ts k cur):∃p,p.length=k/\Path wide high sh d n ts p cur:=by
 induction h with
 | zero=>exact⟨[],rfl,.nil⟩
 | @succ k mid g _ hg ih=>
   obtain⟨p,e,hp⟩:=ih;exact⟨p++[zd5 mid g d],by rw[List.length_append,e];rfl,hp.snoc hg⟩
theorem Steps.far {t:Tr} (h:Steps wide high sh d n ts k cur) (ht:cur[n]?=some t) (no:NoStep wide high sh cur d n t):(along wide high sh ts d n).length=k:=by
 obtain⟨p,e,hp⟩:=h.path;rw[hp.is fun g hg=>hg.not ht no,e]
theorem Steps.le {t:Tr} (ho:zf6 wide high sh ts) (hn:ts[n]?=some t) (hd:Dir d) (h:Steps wide high sh d n ts k cur):k<=9:=by
 have to:=ho.tr _ (List.mem_of_getElem? hn);have w9:=ho.w9;have h9:=ho.h9;exact h.le9 hn to.w1 to.h1 ⟨to.x0,by have:=to.xw;have:=to.w1;omega⟩ ⟨to.y0,by have:=to.yh;have:=to.h1;omega⟩ w9 h9 hd
end
noncomputable def muF (ρ:Rho):Nat:=match (ρ[4]?:Option Sl) with
 | some (Sl.bor (D.int i))=>30-i.toNat
 | _=>0
noncomputable def farF:List D->Res Unit D:=dfn 5 4 (_law_far_m lpushedF).1
theorem wp_far {wide high:Int} {sh:List Cell} {ts:List Tr} {n:Nat} {d:Int} {Q:D->Unit->Prop} {E:Exn->Unit->Prop} (ho:zf6 wide high sh ts) (hn:n<ts.length) (hd:Dir d)
 (h:∀(k:Nat) cur t,Steps wide high sh d n ts k cur->cur[n]?=some t->NoStep wide high sh cur d n t->k<=9->Q (.int k) ()):wpR (farF [hallD wide high sh ts,za8 ts,.int n,.int d]) Q E:=by
 have hc:=zk0 ho;have ht:ts[n]?=some ts[n]:=List.getElem?_eq_getElem hn;refine zg7 rfl (by decide) ?_;unfold _law_far_m;dsimp only;simp_all!;simp!;rw  [zb2];refine zp4 (fun ρ s=>∃(k:Nat) (cur:List Tr),ρ=[Sl.bor (hallD wide high sh ts),.bor (za8 ts),.bor (.int n),.bor (.int d),.bor (.int k)]/\Steps wide high sh d n ts k cur) (fun ρ _=>muF ρ) ⟨0,ts,rfl,.zero⟩ ?_;intro ρ s hI P Z pn pr pz;obtain⟨k,cur,rfl,hk⟩:=hI;have k9:=hk.le ho ht hd;have tp:∀j:Int,oTup [.int n,.int d,.int j]=some (pushD n d j):=fun j=>zi0 (by simp[D.immL,D.imm]) (by simp)
 simp! [oAddU,iOp0,tp];with_reducible refine wp_lpushed hc hn hd (by omega) (by omega) (fun j ts' t' hj hs' ht' hno=>?_) fun ts' hs'=>?_
 ·have ii:isI Bt.tuple (.int (j:Nat))=false:=rfl
  simp! [ii];refine pz _ ?_;simp!;have:=hk.stop hs' ht' hno;have:j=k:=by omega
  subst this;exact h j ts' t' hs' ht' hno k9
 ·have ii:isI Bt.tuple (za8 ts')=true:=rfl
  rw[show ((k:Int)+1).toNat=k+1 by omega] at hs';simp! [ii,oAddU,iOp0];refine pn _ _ ⟨k+1,ts',by rw[Int.natCast_add];rfl,hs'⟩ ?_;have:=hs'.le ho ht hd;show 30-((k:Int)+1).toNat<30-(k:Int).toNat;omega
end K11
end
section
namespace K11
open PySem PySem.Spec PyProof.Rows L2
theorem ixN_last {n:Nat} (h:0<n):ixN n (-1)=some (n-1):=by
 unfold ixN;rw[if_neg (by decide),if_pos (by omega)];congr 1;omega
theorem ix_last {l:List D} {d:D} (m:d.imm=true) (h:l.getLast?=some d):oIx (.lst l) (.int (-1))=some d:=by
 have hp:0<l.length:=by
  obtain⟨ys,rfl⟩:=List.getLast?_eq_some_iff.mp h;simp
 show im (atI l (-1))=_;unfold atI;rw[ixN_last hp];rw[List.getLast?_eq_getElem?] at h;show (l[l.length-1]?.bind fun d=>if d.imm=true then some d else none)=some d;rw[h];show (if d.imm=true then some d else none)=some d;rw[if_pos m]
theorem ax_pick {v:Int} (h0:0<=v) (h1:v<2):∃s:Str,oIx (.lst [.str "row",.str "column"]) (.int v)=some (.str s)/\Ax s:=by
 have:v=0\/v=1:=by omega
 rcases this with r | r<;>subst r
 ·exact⟨"row",rfl,.inl rfl⟩
 ·exact⟨"column",rfl,.inr rfl⟩
theorem deep_pick {v z:Int} (h0:0<=v) (h1:v<3) (z0:0<=z) (z1:z<9):∃s:Int,oIx (.lst [.int 1,.int 2,.int (1+z)]) (.int v)=some (.int s)/\1<=s/\s<=9:=by
 have:v=0\/v=1\/v=2:=by omega
 rcases this with r | r | r<;>subst r
 ·exact⟨1,rfl,by omega,by omega⟩
 ·exact⟨2,rfl,by omega,by omega⟩
 ·exact⟨1+z,rfl,by omega,by omega⟩
theorem last_end {ps:List Ln} {q:Ln} (hl:Lined ps) (hq:ps.getLast?=some q):∀p∈ps,p.a+p.l<=q.a+q.l:=by
 intro p hp;rw[List.getLast?_eq_getElem?] at hq;obtain⟨i,hi⟩:=List.getElem?_of_mem hp;have h1:i<ps.length:=(List.getElem?_eq_some_iff.mp hi).1;have h2:ps.length-1<ps.length:=(List.getElem?_eq_some_iff.mp hq).1;by_cases e:i=ps.length-1
 ·subst e
  rw[hi] at hq;cases hq;omega
 ·have up:=List.pairwise_iff_getElem.mp hl.up i (ps.length-1) h1 h2 (by omega)
  rw[(List.getElem?_eq_some_iff.mp hi).2,(List.getElem?_eq_some_iff.mp hq).2] at up;have:=(hl.ok q (List.mem_of_getElem? hq)).l1;omega
noncomputable def upT (n:Nat) (d:Int) (e:D):D:=match e with
 | .int i=>pushD n d (i+1)
 | _=>.non
theorem up_rows {n:Nat} {d:Int} {p:List (List Tr)} {k:Nat} (h:p.length=k):(zj5 0 k).map (upT n d)=(rowsF n d p).map Row.push:=by
 apply List.ext_getElem?;intro i;unfold zj5 rowsF;rw[List.map_map,List.getElem?_map,List.map_map,List.getElem?_map,List.getElem?_zipIdx];by_cases hi:i<k
 ·rw[List.getElem?_range hi,List.getElem?_eq_getElem (by rw[h];exact hi)]
  simp only[Option.map_some,Function.comp,upT,Row.push];rw[show (0:Int)+(i:Int)+1=((1+i:Nat):Int) by omega]
 ·rw[List.getElem?_eq_none_iff.mpr (by rw[List.length_range];omega),List.getElem?_eq_none_iff.mpr (by omega)]
  rfl
theorem rpush_imm (r:Row):r.push.imm=true:=push_imm
theorem rpush_dep (l:List Row):D.depL (l.map Row.push)<=1:=zo3 (n:=1) (fun a=>by simp[Row.push,pushD,D.dep,D.depL]) l
theorem pushes_same {l:List Row} (h:l.length<=1000):(D.lst (l.map Row.push)).dep<4/\(D.lst (l.map Row.push)).lw=true:=by
 constructor
 ·have:=rpush_dep l
  unfold D.dep;omega
 ·have:D.lwL (l.map Row.push)=true:=lwL_iff.mpr fun d hd=>by
   obtain⟨j,_,rfl⟩:=List.mem_map.mp hd;rfl
  simp only[D.lw,this,Bool.true_and,decide_eq_true_eq];exact zg3 (by rw[List.length_map];exact h)
theorem stand_same {ts:List Tr} (h:ts.length<=12):(za8 ts).dep<4/\(za8 ts).lw=true:=by
 constructor
 ·have:D.depL (ts.map Tr.place)<=1:=zo3 (n:=1) (fun a=>by simp[Tr.place,cellD,D.dep,D.depL]) ts
  unfold za8 D.dep;omega
 ·have:D.lwL (ts.map Tr.place)=true:=lwL_iff.mpr fun d hd=>by
   obtain⟨j,_,rfl⟩:=List.mem_map.mp hd;rfl
  unfold za8;simp only[D.lw,this,Bool.true_and,decide_eq_true_eq];exact zg3 (by rw[List.length_map];omega)
theorem wp_law (ns:List Int) (hn:ns.length<=63):wpR ((law_m takeF lineF laidF farF stepF (sameF 4) zo1 (toldF ppushF) lpushedF (noX ppushF) allF).1 (rhoL n_law.length) (zo5 ns,0)) (fun fl _=>fl=.rt (.bl true)) fun _ _=>False:=by
 unfold law_m;dsimp only;have rh:rhoL n_law.length=[Sl.no,.hnd,.no,.no,.no,.no,.no,.no,.no,.no,.no,.no,.no,.no,.no]:=rfl;rw[rh];obtain⟨st0,hst0,h00⟩:∃st0:Dr,(zo5 ns,(0:Int))=st0/\st0.2=0:=⟨_,rfl,rfl⟩;rw[hst0];rw  [zb2];simp!;rw[zd6 (by omega) (by omega)];refine wp_forR (fun i ρ st'=>∃(y2 y3 y4 y5 y6 y7 y8 y9 y10 y11 y12 y13 y14:Sl),ρ=[Sl.no,.hnd,y2,y3,y4,y5,y6,y7,y8,y9,y10,y11,y12,y13,y14]/\st'.2<=st0.2+200*i) 0 ⟨_,_,_,_,_,_,_,_,_,_,_,_,_,rfl,by omega⟩ (fun i e ρ st' he hI P pn pr=>?_) fun ρ st' hI=>?_
 ·obtain⟨y2,y3,y4,y5,y6,y7,y8,y9,y10,y11,y12,y13,y14,er,hst⟩:=hI
  obtain⟨rfl,hi⟩:=zd4 he;subst er;rw[Nat.zero_add] at hst pn;have hi:i<3:=hi;have r2:oLst [.str "row",.str "column"]=some (.lst [.str "row",.str "column"]):=zj3 (by simp[D.immL,D.imm]) (by simp);refine⟨_,rfl,?_⟩;simp_all!;simp! [r2];refine zj2 (by decide) (by decide) (by omega) fun v1 st1 a1 b1 c1=>?_
  obtain⟨x,ex,hx⟩:=ax_pick a1 b1;simp! [ex];simp_all!;simp!;with_reducible refine wp_line hx (by omega) fun ps st2 hl hp0 h9 hs2=>?_
  have pim:D.immL (ps.map Ln.data)=true:=zb5 ln_imm ps;have hq:∃q,ps.getLast?=some q:=by
   cases z:ps.getLast? with
   | none=>rw[List.getLast?_eq_none_iff] at z;subst z;simp at hp0
   | some q=>exact⟨q,rfl⟩
  obtain⟨q,hq⟩:=hq;have qok:=hl.ok q (List.mem_of_getLast? hq);have ends:=last_end hl hq;have q0:=qok.a0;have q1:=qok.l1;have q9:=qok.e9;have ixl:oIx (.lst (ps.map Ln.data)) (.int (-1))=some q.data:=ix_last (ln_imm q) (by rw[List.getLast?_map,hq];rfl);have ixa:oIx q.data (.int 0)=some (.int q.a):=rfl;have ixb:oIx q.data (.int 1)=some (.int q.l):=rfl;simp! [pim];simp_all!;simp! [pim,ixl,ixa,ixb,oAddU,iOp0];refine zj2 (by decide) (by decide) (by omega) fun v2 st3 a2 b2 c2=>?_
  simp! [oAddU,iOp0,min_eq];have mm:=minI_le (a:=9) (b:=q.a+q.l+v2);generalize hmany:minI 9 (q.a+q.l+v2)=many at mm;have hends:∀p∈ps,p.a+p.l<=many:=fun p hp=>by
   have:=ends p hp;omega
  simp_all!;simp!;refine zj2 (by decide) (by decide) (by omega) fun v3 st4 a3 b3 c3=>?_
  have l3:oLst [.int 1,.int 2,.int (1+v3)]=some (.lst [.int 1,.int 2,.int (1+v3)]):=zj3 (by simp[D.immL,D.imm]) (by simp);simp! [oAddU,iOp0,l3];refine zj2 (by decide) (by decide) (by omega) fun v4 st5 a4 b4 c4=>?_
  obtain⟨deep,ed,d1,d9⟩:=deep_pick a4 b4 a3 b3;simp! [ed];simp_all!;simp! [pim];with_reducible refine wp_laid hl h9 d1 d9 (by omega) (by omega) hends (by omega) fun wide high ts st6 ho htl hs6=>?_
  have few:=ho.few;have hc:=zk0 ho;have hf:(hallD wide high [] ts).flat=false:=rfl;simp! [hf,stand_flat];simp_all!;simp! [oLst0];have ol:oLen [.lst (ps.map Ln.data)]=some (.int (ts.length:Nat)):=by unfold oLen;simp[htl]
  have rim:∀rows:List Row,D.immL (rows.map Row.push)=true:=fun rows=>zb5 rpush_imm rows
  simp_all!;simp! [pim,ol];rw[zd6 (by omega) (by omega)];refine zh4 (fun n ρ s=>∃(z10 z11 z12 z13 z14:Sl),ρ=[Sl.no,.hnd,.bor (.int (0+(i:Int))),.bor (.str x),.own (.lst (ps.map Ln.data)),.bor (.int many),.bor (.int deep),.bor (hallD wide high [] ts),.bor (za8 ts),.own (.lst ((rowsA wide high [] ts n).map Row.push)),z10,z11,z12,z13,z14]/\(rowsA wide high [] ts n).length<=36*n/\s=st6) 0
   ⟨_,_,_,_,_,rfl,by simp[rowsA],rfl⟩ (fun n e ρ s he hI P2 pn2=>?_) fun ρ s hI=>?_
  ·obtain⟨z10,z11,z12,z13,z14,er,hrl,es⟩:=hI
   obtain⟨rfl,hn⟩:=zd4 he;rw[Int.toNat_natCast] at hn;rw[Nat.zero_add] at hrl pn2;subst er es;have n0:(0:Int)+(n:Int)=(n:Int):=by omega
   have ht:ts[n]?=some ts[n]:=List.getElem?_eq_getElem hn;refine⟨_,rfl,?_⟩;simp! [n0,rim];rw[zd6 (by omega) (by omega)];refine zh4 (fun d ρ s2=>∃(z11 z12 z13 z14:Sl),ρ=[Sl.no,.hnd,.bor (.int (0+(i:Int))),.bor (.str x),.own (.lst (ps.map Ln.data)),.bor (.int many),.bor (.int deep),.bor (hallD wide high [] ts),.bor (za8 ts),.own (.lst ((rowsA wide high [] ts n++rowsN wide high [] ts n d).map Row.push)),.bor (.int n),z11,z12,z13,z14]/\(rowsN wide high [] ts n d).length<=9*d/\s2=s) 0
    ⟨_,_,_,_,by rw[show rowsN wide high [] ts n 0=[] by simp[rowsN],List.append_nil],by simp[rowsN],rfl⟩ (fun d e ρ s2 he hI P3 pn3=>?_) fun ρ s2 hI=>?_
   ·obtain⟨z11,z12,z13,z14,er,hrn,es⟩:=hI
    obtain⟨rfl,hd4⟩:=zd4 he;have hd4:d<4:=hd4;rw[Nat.zero_add] at hrn pn3;subst er es;have k0:(0:Int)+(d:Int)=(d:Int):=by omega
    have hd:Dir (d:Int):=⟨by omega,by omega⟩;refine⟨_,rfl,?_⟩;simp_all!;simp! [k0,rim];with_reducible refine wp_far ho hn hd fun k cur t hk hkt hno k9=>?_
    have far:=hk.far hkt hno;simp! [rim];simp_all!;simp! [rim];rw[zd6 (by omega) (by omega),Int.toNat_natCast];refine zg8 (upT n (d:Int)) (fun ρ=>∃y,ρ=[y,.bor (.int n),.bor (.int (d:Int))]) ⟨_,rfl⟩ (fun f hf' ρ hI132=>?_) (zg3 (by rw[zc3];omega)) ?_
    ·obtain⟨y,er⟩:=hI132
     subst er;obtain⟨j,hj⟩:=List.getElem?_of_mem hf';obtain⟨rfl,_⟩:=zd4 hj;have t3:oTup [.int n,.int (d:Int),.int (0+(j:Int)+1)]=some (pushD n d (0+(j:Int)+1)):=zi0 (by simp[D.immL,D.imm]) (by simp);refine⟨_,rfl,⟨_,rfl⟩,⟨rfl,rfl⟩,?_⟩;simp! [oAddU,iOp0,t3];exact⟨rfl,push_imm⟩
    rw[up_rows far];have ad:oAddU (.lst ((rowsA wide high [] ts n++rowsN wide high [] ts n d).map Row.push)) (.lst ((rowsF n d (along wide high [] ts d n)).map Row.push))=some (.lst ((rowsA wide high [] ts n++rowsN wide high [] ts n (d+1)).map Row.push)):=by
     rw[oAddU_lst (rim _) (rim _) (by rw[List.length_map,List.length_map,List.length_append,rowsF_len,far];omega),rowsN_succ,<-List.append_assoc,List.map_append,List.map_append];simp
    have hrn2:(rowsN wide high [] ts n (d+1)).length<=9*(d+1):=by rw[rowsN_succ,List.length_append,rowsF_len,far];omega
    simp! [ad,rim];simp_all!;simp! [rim];refine za6 (Q:=fun x _=>(x=.non/\NoStep wide high [] ts d n ts[n])\/∃g,x=.lst (nats g)/\Goers wide high [] ts d n g) (wp_step (E:=fun _ _=>False) hc ht hd (fun h=>.inl ⟨rfl,h⟩) fun g hg=>.inr ⟨g,rfl,hg⟩) (fun gv _ hgv=>?_) fun _ _ z=>z.elim
    simp! [rim];generalize hsl:(if gv.flat=true then Sl.own gv else Sl.bor gv)=sl;simp_all!;have tail:∀y13:Sl,P_ (.nx [Sl.no,.hnd,.bor (.int (0+(i:Int))),.bor (.str x),.own (.lst (ps.map Ln.data)),.bor (.int many),.bor (.int deep),.bor (hallD wide high [] ts),.bor (za8 ts),.own (.lst ((rowsA wide high [] ts n++rowsN wide high [] ts n (d+1)).map Row.push)),.bor (.int n),.bor (.int (d:Int)),.bor (.int (k:Int)),y13,z14]) s2:=fun y13=>by
     refine hN_ _ _ ?_;have t3:oTup [.int n,.int (d:Int),.int ((k:Int)+1)]=some (pushD n d ((k+1:Nat):Int)):=by
      rw[show ((k:Int)+1)=((k+1:Nat):Int) by omega];exact zi0 (by simp[D.immL,D.imm]) (by simp)
     have tk:oTup [.int n,.int (d:Int),.int (k:Int)]=some (pushD n d (k:Int)):=zi0 (by simp[D.immL,D.imm]) (by simp);have tbr:oTup [.str "barred",.int 0,.int (k:Int)]=some (.tup [.str "barred",.int 0,.int (k:Int)]):=zi0 (by simp[D.immL,D.imm]) (by simp);have bs:=barred_same (k:=(k:Int));have neb:oEq true (.tup [.str "barred",.int 0,.int (k:Int)]) (.tup [.str "barred",.int 0,.int (k:Int)])=some (.bl false):=oEq_refl (neg:=true) bs.2 (by omega);simp_all!;simp! [oAddU,iOp0,t3];with_reducible refine wp_told ?_
     have nw:∀c2,¬Steps wide high [] (d:Int) n ts (k+1) c2:=fun c2 hcur=>absurd (hcur.stop hk hkt hno) (by omega)
     with_reducible refine wp_ppushB ho ht hd (by omega) (fun i2 mid t1 hi2 hm2 ht1 hno2=>⟨0,i2,rfl,?_⟩) fun cur2 hcur=>absurd hcur (nw cur2)
     ·have e1:=hk.stop hm2 ht1 hno2
      have:i2=k:=by omega
      subst this;simp! [tbr,neb];simp! [iOp0];by_cases hk0:0<(i2:Int)
      ·simp! [hk0,decide_true]
       rw  [zb2];simp! [tk];have nv:∀(j:Nat) ts' t',(j:Int)<(i2:Int)->Steps wide high [] (d:Int) n ts j ts'->ts'[n]?=some t'->NoStep wide high [] ts' (d:Int) n t'->False:=fun j ts' t' hj hs' ht' hno'=>absurd (hk.stop hs' ht' hno') (by omega)
       with_reducible refine wp_lpushed hc hn hd (by omega) (by omega) (fun j ts' t' hj hs' ht' hno'=>(nv j ts' t' hj hs' ht' hno').elim) fun ts' hs'=>?_
       ·rw[Int.toNat_natCast] at hs'
        have:=hs'.det hk;subst this;have ss:=stand_same (ts:=ts') (by rw[hs'.len];exact few);simp! [stand_flat,tk];with_reducible refine wp_noX ?_
        with_reducible refine wp_ppushB ho ht hd (by omega) (fun i3 mid3 t3' hi3 hm3 ht3 hno3=>(nv i3 mid3 t3' (by omega) hm3 ht3 hno3).elim) fun cur3 hc3=>?_
        ·have:=hc3.det hs'
         subst this;refine wp_same 4 ss.1 ss.2 ?_;simp!;exact pn3 _ _ ⟨_,_,_,_,rfl,hrn2,rfl⟩
      ·simp! [hk0,decide_false]
       exact pn3 _ _ ⟨_,_,_,_,rfl,hrn2,rfl⟩
    rcases hgv with⟨rfl,hno0⟩ | ⟨g,rfl,hg⟩
    ·have:Sl.bor .non=sl:=hsl
     subst this;simp! [rim];with_reducible refine wp_movers ho ht hd (fun _=>?_) fun g hg=>absurd hno0 (hg.not ht)
     simp! [oIsN,D.isNon];refine wp_same 4 (by decide) rfl ?_;simp only  [wp_ok,wp_bad,wp_some,wp_none,wp_sNil,wp_sSet,wp_sSetB,wp_sAsg,wp_sPar,wp_sIf,wp_sRet,wp_sRetV,wp_sDrop,wp_sMt,wp_sRetN,wp_sBreak,wp_sCont,wp_sBad,wp_sAug,wp_fC,wp_fV,wp_fVk,wp_fI,wp_f2,wp_fA,wp_aNil,wp_aCons,wp_fCall,wp_fCallS,wp_fIs,wp_fAndV,wp_fOrV,wp_fNotV,wp_fIfE,wp_fNeg,wp_fCut,wp_pNo,wp_pSo,wp_iSeq,wp_iArgs,wp_fComp,wp_fB,wp_fAnd,wp_fOr,wp_fNot,wp_fTrue,wp_sPar3,wp_sItem,wp_sDPut,wp_fChain,wp_fDisp,wp_sTab2,wp_fGet,wp_sFor,wp_fP,wp_aP,wp_tP,own?,frz,frz1,pickR,gN,gT,gsCons,gsNil,D.seq?,D.immL,flat_lst,flat_dct,flat_int,flat_str,flat_bl,flat_non,flat_tup,imm_int,imm_str,imm_bl,imm_non,imm_tup,rho0,rhoS,rhoL,D.bl.injEq,D.int.injEq,D.str.injEq,List.getElem?_nil,List.map_cons,List.map_nil,Nat.zero_add,if_true,if_false,Bool.and_true,Bool.true_and,Bool.and_self,Bool.false_eq_true,Option.bind_some,Option.some.injEq,exists_eq_left',exists_eq_left,exists_eq_right,true_or,or_true,true_and,and_true,Bool.not_true,Bool.not_false,Option.some_or,Option.none_or,List.replicate_zero,List.replicate_succ,List.cons_append,List.nil_append,g0,gS,s0,sS,lC,lN,rd,putN,put,im,kp,vr,cn,o2,cs,nl,o1,ti,tb,boS,dbb,Nat.reduceAdd,Nat.reduceLT,Nat.reduceLeDiff,Nat.reduceSub,reduceIte];exact tail _
    ·have:Sl.own (.lst (nats g))=sl:=by rw[<-hsl,if_pos (by rw[flat_lst];exact zg1 g)]
     subst this;simp! [rim];with_reducible refine wp_movers ho ht hd (fun h=>absurd h (hg.not ht)) fun g' hg'=>?_
     have:=hg.one hg';subst this;have gl:=hg.len;have ts2:=tupN_same (g:=g) (by omega);simp! [oIsN,D.isNon,oTuple,zg1];refine wp_same 4 (by omega) ts2.2 ?_;simp only  [wp_ok,wp_bad,wp_some,wp_none,wp_sNil,wp_sSet,wp_sSetB,wp_sAsg,wp_sPar,wp_sIf,wp_sRet,wp_sRetV,wp_sDrop,wp_sMt,wp_sRetN,wp_sBreak,wp_sCont,wp_sBad,wp_sAug,wp_fC,wp_fV,wp_fVk,wp_fI,wp_f2,wp_fA,wp_aNil,wp_aCons,wp_fCall,wp_fCallS,wp_fIs,wp_fAndV,wp_fOrV,wp_fNotV,wp_fIfE,wp_fNeg,wp_fCut,wp_pNo,wp_pSo,wp_iSeq,wp_iArgs,wp_fComp,wp_fB,wp_fAnd,wp_fOr,wp_fNot,wp_fTrue,wp_sPar3,wp_sItem,wp_sDPut,wp_fChain,wp_fDisp,wp_sTab2,wp_fGet,wp_sFor,wp_fP,wp_aP,wp_tP,own?,frz,frz1,pickR,gN,gT,gsCons,gsNil,D.seq?,D.immL,flat_lst,flat_dct,flat_int,flat_str,flat_bl,flat_non,flat_tup,imm_int,imm_str,imm_bl,imm_non,imm_tup,rho0,rhoS,rhoL,D.bl.injEq,D.int.injEq,D.str.injEq,List.getElem?_nil,List.map_cons,List.map_nil,Nat.zero_add,if_true,if_false,Bool.and_true,Bool.true_and,Bool.and_self,Bool.false_eq_true,Option.bind_some,Option.some.injEq,exists_eq_left',exists_eq_left,exists_eq_right,true_or,or_true,true_and,and_true,Bool.not_true,Bool.not_false,Option.some_or,Option.none_or,List.replicate_zero,List.replicate_succ,List.cons_append,List.nil_append,g0,gS,s0,sS,lC,lN,rd,putN,put,im,kp,vr,cn,o2,cs,nl,o1,ti,tb,boS,dbb,Nat.reduceAdd,Nat.reduceLT,Nat.reduceLeDiff,Nat.reduceSub,reduceIte];exact tail _
   ·obtain⟨z11,z12,z13,z14,er,hrn,es⟩:=hI
    rw[Nat.zero_add,zc3] at hrn er;have e4:(4:Int).toNat=4:=rfl;rw[e4] at hrn er;subst er es;rw[<-rowsA_succ];exact pn2 _ _ ⟨_,_,_,_,_,rfl,by rw[rowsA_succ,List.length_append];omega,rfl⟩
  ·obtain⟨z10,z11,z12,z13,z14,er,hrl,es⟩:=hI
   rw[Nat.zero_add,zc3,Int.toNat_natCast] at hrl er;subst er es;have sm:=pushes_same (l:=rowsA wide high [] ts ts.length) (by omega);simp! [rim];with_reducible refine wp_all ho fun _=>?_
   refine wp_same 4 sm.1 sm.2 ?_;simp!;exact pn _ _ ⟨_,_,_,_,_,_,_,_,_,_,_,_,_,rfl,by omega⟩
 ·simp!
end K11
end
section
set_option maxHeartbeats 0
namespace K11
open PySem PySem.Spec PyProof.Rows L2
theorem ln1 {α:Type} {us:List α} (h:us.length=1):∃a,us=[a]:=by
 match us,h with
 | [a],_=>exact⟨a,rfl⟩
theorem ln2 {α:Type} {us:List α} (h:us.length=2):∃a b,us=[a,b]:=by
 match us,h with
 | [a,b],_=>exact⟨a,b,rfl⟩
theorem ln3 {α:Type} {us:List α} (h:us.length=3):∃a b c,us=[a,b,c]:=by
 match us,h with
 | [a,b,c],_=>exact⟨a,b,c,rfl⟩
theorem ln4 {α:Type} {us:List α} (h:us.length=4):∃a b c d,us=[a,b,c,d]:=by
 match us,h with
 | [a,b,c,d],_=>exact⟨a,b,c,d,rfl⟩
theorem ln5 {α:Type} {us:List α} (h:us.length=5):∃a b c d e,us=[a,b,c,d,e]:=by
 match us,h with
 | [a,b,c,d,e],_=>exact⟨a,b,c,d,e,rfl⟩
noncomputable def At (K:PySem.W.Frag) (x:Str) (st:Stmt) (f:Addr) (d:FuncData):Prop:=PySem.W.nsIn K mainGlobals x=some (some (.ref f))/\Fun K x x st f d
theorem At.of {K:PySem.W.Frag} {x:Str} {st:Stmt} {f:Addr} {oc:Value} {od an:Option Addr} {osl:Array (Option Value)} {kV doc pm cdv ct:Value} (a:PySem.W.nsIn K mainGlobals x=some (some (.ref f)):=by k_is)
 (l:K.lookup f=some ⟨oc,od,.func (PySem.W.fnOf x x (zo4 st) (zb7 st) (za1 st) .none kV doc pm an cdv ct),osl⟩:=by k_is) (c:PySem.W.codeIn K cdv x=true:=by k_is) (k:PySem.W.keepIn K (.ref f)=true:=by k_is) :
 At K x st f (PySem.W.fnOf x x (zo4 st) (zb7 st) (za1 st) .none kV doc pm an cdv ct):=⟨a,fun_mk l c k⟩
noncomputable abbrev s_init:Stmt:=match top 2 with
 | .ClassDef _ _ _ b _ _ _ _ _ _ _=>b.getD 0 (.Pass ⟨0,0,0,0⟩)
 | s=>s
theorem sc_init:zc0 ["self","push","step"] ["self","push","step"] (za1 s_init):=⟨rfl,rfl,rfl,by decide +kernel,rfl,by decide +kernel,by decide +kernel⟩
theorem xcb_of {K:PySem.W.Frag} {h:Heap} {mg:Str->Option Value} (X:K.In h) (G:h.Ns mainGlobals mg) {C1 C0 C2 C3 C4 C5 N N0 fi:Addr} {nm q nm0 q0:Str} {bs bs0 bm0 sub sub0:List Value} {hd0 ab ab0:Bool} {sn sn0:List Str} {col col0:Option Bool} {dd dd0:Option Addr}
 {k0 k1 k2 k3 k5 l0 l1 l2 l3 l5:Option Value} {id0:String} {od an:Option Addr} {osl:Array (Option Value)} {kV doc pm cdv ct:Value}
 (y1:PySem.W.nsIn K mainGlobals "Barred" = some (some (.ref C1))) (y0:PySem.W.nsIn K mainGlobals "HallError" = some (some (.ref C0)))
 (lk:K.lookup C1=some (excClassObj nm q C1 N bs (.ref C0::bmV) true sn sub ab col dd k0 k1 k2 k3 k5 "ValueError.__new__")) (ok:PySem.W.nsOkIn K N=true) (ni:PySem.W.nsIn K N "__init__" = some (some (.ref fi))) (tl:PySem.W.tailIn K bmV (.ref C0::bmV)=true)
 (ga:PySem.W.findIn K (.ref C1) "__getattribute__" = some (some (.builtin "BaseException.__getattribute__"))) (gt:PySem.W.findIn K (.ref C1) "__getattr__" = some none) (cl:PySem.W.findIn K (.ref C1) "__class__" = some (some (.builtin "object.__class__")))
 (sb:PySem.W.subIn K (.ref C1) (.type "BaseException")=some true) (so:PySem.W.subIn K (.ref C1) (.type "object")=some true) (sa:PySem.W.findIn K (.ref C1) "__setattr__" = some (some (.builtin "object.__setattr__")))
 (a1:PySem.W.findIn K (.ref C1) "push" = some none) (a2:PySem.W.findIn K (.ref C1) "step" = some none) (kc:PySem.W.keepIn K (.ref C1)=true)
 (lf:K.lookup fi=some ⟨.type "function",od,.func (PySem.W.fnOf "__init__" "Barred.__init__" (zo4 s_init) (zb7 s_init) (za1 s_init) .none kV doc pm an cdv ct),osl⟩) (cf:PySem.W.codeIn K cdv "Barred.__init__" = true) (kf:PySem.W.keepIn K (.ref fi)=true)
 (lk0:K.lookup C0=some (excClassObj nm0 q0 C0 N0 bs0 bm0 hd0 sn0 sub0 ab0 col0 dd0 l0 l1 l2 l3 l5 id0)) (hbe:(Value.ref C0::bm0).contains (.type "BaseException")=true)
 (hrd:PySem.W.readsIn K C0 (.type "type")=true) (hfc:PySem.W.findCls K (.ref C0) (.type "type") "__init__" = some (.val (.builtin "ValueError.__init__"))) (hg:PySem.W.specialIn K (.ref C0) "__getattribute__" = some (some (.builtin "type.__getattribute__")))
 (y2:PySem.W.nsIn K mainGlobals "BadRow" = some (some (.ref C2))) (y3:PySem.W.nsIn K mainGlobals "NoRoom" = some (some (.ref C3))) (y4:PySem.W.nsIn K mainGlobals "NoStand" = some (some (.ref C4))) (y5:PySem.W.nsIn K mainGlobals "TooMany" = some (some (.ref C5)))
 (no:PySem.W.kitAny K (.ref C1) [.ref C2,.ref C3,.ref C4,.ref C5]=some false) (yv:PySem.W.nsIn K mainGlobals "ValueError" = some none) (vt:PySem.W.kitOne K (.ref C1) (.type "ValueError")=some true):XCB K mg C1:=
 have L:ExcL K C1:=⟨ga,gt,cl,sb,so⟩;have Fi:=fun_mk (st:=s_init) lf cf kf
 { n1:=PySem.W.mg_of X G y1
   r1:=⟨⟨nm,q,N,bs,_,sn,sub,ab,col,dd,k0,k1,k2,k3,k5,fi,_,_,lk,ok,ni,tl,by simp,Fi.binds (ps:=["self","push","step"]) fun _ _ _ _ _ _ us hl=>by obtain⟨_,_,_,rfl⟩:=ln3 hl;rfl,lf,rfl,
    initB_of Fi rfl sc_init (by decide +kernel) (by decide +kernel) lk tl L sa a1 a2 (fun e=>(refuseLoop_ref _ _ _ _).trans (F.store_ValueError.passes _)) rfl (PySem.W.mg_of X G y0) hrd hfc hg rfl rfl rfl fun env=>⟨_,rfl⟩⟩,kc⟩
   l1:=L
   a1:=a1
   a2:=a2
   up:=⟨C0,_,bm0,PySem.W.mg_of X G y0,⟨nm,q,N,bs,true,sn,sub,ab,col,dd,k0,k1,k2,k3,k5,_,lk⟩,⟨nm0,q0,N0,bs0,hd0,sn0,sub0,ab0,col0,dd0,l0,l1,l2,l3,l5,id0,lk0⟩,hbe,by simp⟩
   no:=⟨C2,C3,C4,C5,PySem.W.mg_of X G y2,PySem.W.mg_of X G y3,PySem.W.mg_of X G y4,PySem.W.mg_of X G y5,no⟩
   vn:=PySem.W.mg_none_of X G yv
   vt:=vt }
theorem all_mk {l:PySem.W.OpenLaw} {w:World} {K:PySem.W.Frag} {h:Heap} {mg:Str->Option Value} {fa f_0 f_1 f_2 f_3 f_4 f_5 f_6 f_7 f_8 f_9 f_10 f_11 f_12 f_13 f_14 f_15 f_16 f_17 f_18 f_19 f_20 f_21 f_22 f_23 f_24 f_25:Addr} (X:K.In h) (G:h.Ns mainGlobals mg) (hfa:mg "law" = some (.ref fa))
 {d_0 d_1 d_2 d_3 d_4 d_5 d_6 d_7 d_8 d_9 d_10 d_11 d_12 d_13 d_14 d_15 d_16 d_17 d_18 d_19 d_20 d_21 d_22 d_23 d_24 d_25:FuncData}
 (h_0:At K "_law_begin" s__law_begin f_0 d_0)
 (h_1:At K "_law_take" s__law_take f_1 d_1)
 (h_2:At K "within" s_within f_2 d_2)
 (h_3:At K "covered" zn0 f_3 d_3)
 (h_4:At K "holders" s_holders f_4 d_4)
 (h_5:At K "goes" s_goes f_5 d_5)
 (h_6:At K "one_further" zh5 f_6 d_6)
 (h_7:At K "met_by" s_met_by f_7 d_7)
 (h_8:At K "movers_among" ze4 f_8 d_8)
 (h_9:At K "movers" s_movers f_9 d_9)
 (h_10:At K "behind_step" zh6 f_10 d_10)
 (h_11:At K "pushed" s_pushed f_11 d_11)
 (h_12:At K "stands_along" zg0 f_12 d_12)
 (h_13:At K "pushes_with_ends" zd1 f_13 d_13)
 (h_14:At K "all_pushes" zh0 f_14 d_14)
 (h_15:At K "_law_covered" ze5 f_15 d_15)
 (h_16:At K "_law_behind" zh8 f_16 d_16)
 (h_17:At K "_law_goes" zk6 f_17 d_17)
 (h_18:At K "_law_step" zf1 f_18 d_18)
 (h_19:At K "_law_pushed" zh7 f_19 d_19)
 (h_20:At K "_law_same" zg2 f_20 d_20)
 (h_21:At K "_law_told" zk3 f_21 d_21)
 (h_22:At K "_law_line" zk4 f_22 d_22)
 (h_23:At K "_law_laid" zk5 f_23 d_23)
 (h_24:At K "_law_far" zn1 f_24 d_24)
 (h_25:At K "law" s_law f_25 d_25)
 (z_len:PySem.W.nsIn K mainGlobals "len" = some none)
 (z_divmod:PySem.W.nsIn K mainGlobals "divmod" = some none)
 (z_list:PySem.W.nsIn K mainGlobals "list" = some none)
 (z_tuple:PySem.W.nsIn K mainGlobals "tuple" = some none)
 (z_int:PySem.W.nsIn K mainGlobals "int" = some none)
 (z_bool:PySem.W.nsIn K mainGlobals "bool" = some none)
 (z_str:PySem.W.nsIn K mainGlobals "str" = some none)
 (z_dict:PySem.W.nsIn K mainGlobals "dict" = some none)
 (z_isinstance:PySem.W.nsIn K mainGlobals "isinstance" = some none)
 (z_all:PySem.W.nsIn K mainGlobals "all" = some none)
 (z_any:PySem.W.nsIn K mainGlobals "any" = some none)
 (z_sum:PySem.W.nsIn K mainGlobals "sum" = some none)
 (z_zip:PySem.W.nsIn K mainGlobals "zip" = some none)
 (z_enumerate:PySem.W.nsIn K mainGlobals "enumerate" = some none)
 (z_range:PySem.W.nsIn K mainGlobals "range" = some none)
 (z_sorted:PySem.W.nsIn K mainGlobals "sorted" = some none)
 (z_min:PySem.W.nsIn K mainGlobals "min" = some none)
 (z_max:PySem.W.nsIn K mainGlobals "max" = some none)
 (z_abs:PySem.W.nsIn K mainGlobals "abs" = some none)
 (z_reversed:PySem.W.nsIn K mainGlobals "reversed" = some none)
 {t_WALL:Tok} (y_WALL:PySem.W.nsIn K mainGlobals "WALL" = some (some (.int (-1) t_WALL)))
 {t_STRONG:Tok} (y_STRONG:PySem.W.nsIn K mainGlobals "STRONG" = some (some (.int (1) t_STRONG)))
 {t_DULL:Tok} (y_DULL:PySem.W.nsIn K mainGlobals "DULL" = some (some (.int (-1) t_DULL)))
 {a_STEPS b0_STEPS b1_STEPS b2_STEPS b3_STEPS:Addr} {od_STEPS od0_STEPS od1_STEPS od2_STEPS od3_STEPS:Option Addr} {sl_STEPS sl0_STEPS sl1_STEPS sl2_STEPS sl3_STEPS:Array (Option Value)} {n_STEPS n0_STEPS n1_STEPS n2_STEPS n3_STEPS:Nat} {t0_STEPS u0_STEPS t1_STEPS u1_STEPS t2_STEPS u2_STEPS t3_STEPS u3_STEPS:Tok}
 (y_STEPS:PySem.W.nsIn K mainGlobals "STEPS" = some (some (.ref a_STEPS))) (ya_STEPS:K.lookup a_STEPS=some ⟨.type "tuple",od_STEPS,.seq #[.ref b0_STEPS,.ref b1_STEPS,.ref b2_STEPS,.ref b3_STEPS] n_STEPS,sl_STEPS⟩)
 (y0_STEPS:K.lookup b0_STEPS=some ⟨.type "tuple",od0_STEPS,.seq #[.int (1) t0_STEPS,.int (0) u0_STEPS] n0_STEPS,sl0_STEPS⟩)
 (y1_STEPS:K.lookup b1_STEPS=some ⟨.type "tuple",od1_STEPS,.seq #[.int (0) t1_STEPS,.int (1) u1_STEPS] n1_STEPS,sl1_STEPS⟩)
 (y2_STEPS:K.lookup b2_STEPS=some ⟨.type "tuple",od2_STEPS,.seq #[.int (-1) t2_STEPS,.int (0) u2_STEPS] n2_STEPS,sl2_STEPS⟩)
 (y3_STEPS:K.lookup b3_STEPS=some ⟨.type "tuple",od3_STEPS,.seq #[.int (0) t3_STEPS,.int (-1) u3_STEPS] n3_STEPS,sl3_STEPS⟩)
 {C1:Addr} (xc:XCB K mg C1)
 : ∃fd:FuncData,(∀(s:Shared) (v:Value),BindsTo s fd ⟨[v],[]⟩ [("_law_script",v)])/\∀base:Heap,K.In base->base.Ns mainGlobals mg->FnOk l.prog w K mg base CX0 8 fa fd ["_law_script"] (spLaw K):=by
 obtain⟨a_0,F_0⟩:=h_0;obtain⟨a_1,F_1⟩:=h_1;obtain⟨a_2,F_2⟩:=h_2;obtain⟨a_3,F_3⟩:=h_3;obtain⟨a_4,F_4⟩:=h_4;obtain⟨a_5,F_5⟩:=h_5;obtain⟨a_6,F_6⟩:=h_6;obtain⟨a_7,F_7⟩:=h_7;obtain⟨a_8,F_8⟩:=h_8;obtain⟨a_9,F_9⟩:=h_9;obtain⟨a_10,F_10⟩:=h_10;obtain⟨a_11,F_11⟩:=h_11;obtain⟨a_12,F_12⟩:=h_12;obtain⟨a_13,F_13⟩:=h_13;obtain⟨a_14,F_14⟩:=h_14;obtain⟨a_15,F_15⟩:=h_15;obtain⟨a_16,F_16⟩:=h_16;obtain⟨a_17,F_17⟩:=h_17;obtain⟨a_18,F_18⟩:=h_18;obtain⟨a_19,F_19⟩:=h_19;obtain⟨a_20,F_20⟩:=h_20;obtain⟨a_21,F_21⟩:=h_21;obtain⟨a_22,F_22⟩:=h_22;obtain⟨a_23,F_23⟩:=h_23;obtain⟨a_24,F_24⟩:=h_24;obtain⟨a_25,F_25⟩:=h_25;obtain⟨_,_,kV,dc,pm,an,cd,ct,_,rfl,_,_⟩:=F_25.ex;have e:=hfa.symm.trans (PySem.W.mg_of X G a_25);cases e;have hm:Bn mg:=⟨PySem.W.mg_none_of X G z_len,PySem.W.mg_none_of X G z_divmod,PySem.W.mg_none_of X G z_list,PySem.W.mg_none_of X G z_tuple,PySem.W.mg_none_of X G z_int,PySem.W.mg_none_of X G z_bool,PySem.W.mg_none_of X G z_str,PySem.W.mg_none_of X G z_dict,PySem.W.mg_none_of X G z_isinstance,PySem.W.mg_none_of X G z_all,PySem.W.mg_none_of X G z_any,PySem.W.mg_none_of X G z_sum,PySem.W.mg_none_of X G z_zip,PySem.W.mg_none_of X G z_enumerate,PySem.W.mg_none_of X G z_range,PySem.W.mg_none_of X G z_sorted,PySem.W.mg_none_of X G z_min,PySem.W.mg_none_of X G z_max,PySem.W.mg_none_of X G z_abs,PySem.W.mg_none_of X G z_reversed⟩;have cs:Cst K mg:=⟨trivial,⟨_,PySem.W.mg_of X G y_WALL⟩,⟨_,PySem.W.mg_of X G y_STRONG⟩,⟨_,PySem.W.mg_of X G y_DULL⟩,⟨_,PySem.W.mg_of X G y_STEPS,tab2_of4 (p0:=(1,0)) (p1:=(0,1)) (p2:=(-1,0)) (p3:=(0,-1)) ya_STEPS y0_STEPS y1_STEPS y2_STEPS y3_STEPS⟩⟩;have b_0:=F_0.binds (ps:=["_law_script"]) fun _ _ _ _ _ _ us hl=>by obtain⟨_,rfl⟩:=ln1 hl;rfl
 have m_0:=PySem.W.mg_of X G a_0;have b_1:=F_1.binds (ps:=["_law_state","_law_many"]) fun _ _ _ _ _ _ us hl=>by obtain⟨_,_,rfl⟩:=ln2 hl;rfl
 have m_1:=PySem.W.mg_of X G a_1;have b_2:=F_2.binds (ps:=["wide","high","cell"]) fun _ _ _ _ _ _ us hl=>by obtain⟨_,_,_,rfl⟩:=ln3 hl;rfl
 have m_2:=PySem.W.mg_of X G a_2;have b_3:=F_3.binds (ps:=["kind","place"]) fun _ _ _ _ _ _ us hl=>by obtain⟨_,_,rfl⟩:=ln2 hl;rfl
 have m_3:=PySem.W.mg_of X G a_3;have b_4:=F_4.binds (ps:=["hall","stand"]) fun _ _ _ _ _ _ us hl=>by obtain⟨_,_,rfl⟩:=ln2 hl;rfl
 have m_4:=PySem.W.mg_of X G a_4;have b_5:=F_5.binds (ps:=["ways","direction"]) fun _ _ _ _ _ _ us hl=>by obtain⟨_,_,rfl⟩:=ln2 hl;rfl
 have m_5:=PySem.W.mg_of X G a_5;have b_6:=F_6.binds (ps:=["place","direction"]) fun _ _ _ _ _ _ us hl=>by obtain⟨_,_,rfl⟩:=ln2 hl;rfl
 have m_6:=PySem.W.mg_of X G a_6;have b_7:=F_7.binds (ps:=["hall","stand","held","n","direction"]) fun _ _ _ _ _ _ us hl=>by obtain⟨_,_,_,_,_,rfl⟩:=ln5 hl;rfl
 have m_7:=PySem.W.mg_of X G a_7;have b_8:=F_8.binds (ps:=["hall","stand","held","n","direction"]) fun _ _ _ _ _ _ us hl=>by obtain⟨_,_,_,_,_,rfl⟩:=ln5 hl;rfl
 have m_8:=PySem.W.mg_of X G a_8;have b_9:=F_9.binds (ps:=["hall","stand","n","direction"]) fun _ _ _ _ _ _ us hl=>by obtain⟨_,_,_,_,rfl⟩:=ln4 hl;rfl
 have m_9:=PySem.W.mg_of X G a_9;have b_10:=F_10.binds (ps:=["stand","going","direction"]) fun _ _ _ _ _ _ us hl=>by obtain⟨_,_,_,rfl⟩:=ln3 hl;rfl
 have m_10:=PySem.W.mg_of X G a_10;have b_11:=F_11.binds (ps:=["hall","stand","push"]) fun _ _ _ _ _ _ us hl=>by obtain⟨_,_,_,rfl⟩:=ln3 hl;rfl
 have m_11:=PySem.W.mg_of X G a_11;have b_12:=F_12.binds (ps:=["hall","stand","held","n","direction"]) fun _ _ _ _ _ _ us hl=>by obtain⟨_,_,_,_,_,rfl⟩:=ln5 hl;rfl
 have m_12:=PySem.W.mg_of X G a_12;have b_13:=F_13.binds (ps:=["hall","stand"]) fun _ _ _ _ _ _ us hl=>by obtain⟨_,_,rfl⟩:=ln2 hl;rfl
 have m_13:=PySem.W.mg_of X G a_13;have b_14:=F_14.binds (ps:=["hall","stand"]) fun _ _ _ _ _ _ us hl=>by obtain⟨_,_,rfl⟩:=ln2 hl;rfl
 have m_14:=PySem.W.mg_of X G a_14;have b_15:=F_15.binds (ps:=["_law_kind","_law_place"]) fun _ _ _ _ _ _ us hl=>by obtain⟨_,_,rfl⟩:=ln2 hl;rfl
 have m_15:=PySem.W.mg_of X G a_15;have b_16:=F_16.binds (ps:=["_law_place","_law_direction"]) fun _ _ _ _ _ _ us hl=>by obtain⟨_,_,rfl⟩:=ln2 hl;rfl
 have m_16:=PySem.W.mg_of X G a_16;have b_17:=F_17.binds (ps:=["_law_kind","_law_direction"]) fun _ _ _ _ _ _ us hl=>by obtain⟨_,_,rfl⟩:=ln2 hl;rfl
 have m_17:=PySem.W.mg_of X G a_17;have b_18:=F_18.binds (ps:=["_law_hall","_law_stand","_law_n","_law_direction"]) fun _ _ _ _ _ _ us hl=>by obtain⟨_,_,_,_,rfl⟩:=ln4 hl;rfl
 have m_18:=PySem.W.mg_of X G a_18;have b_19:=F_19.binds (ps:=["_law_hall","_law_stand","_law_push"]) fun _ _ _ _ _ _ us hl=>by obtain⟨_,_,_,rfl⟩:=ln3 hl;rfl
 have m_19:=PySem.W.mg_of X G a_19;have b_20:=F_20.binds (ps:=["_law_found","_law_due"]) fun _ _ _ _ _ _ us hl=>by obtain⟨_,_,rfl⟩:=ln2 hl;rfl
 have m_20:=PySem.W.mg_of X G a_20;have b_21:=F_21.binds (ps:=["_law_hall","_law_stand","_law_push","_law_call"]) fun _ _ _ _ _ _ us hl=>by obtain⟨_,_,_,_,rfl⟩:=ln4 hl;rfl
 have m_21:=PySem.W.mg_of X G a_21;have b_22:=F_22.binds (ps:=["_law_state","_law_along"]) fun _ _ _ _ _ _ us hl=>by obtain⟨_,_,rfl⟩:=ln2 hl;rfl
 have m_22:=PySem.W.mg_of X G a_22;have b_23:=F_23.binds (ps:=["_law_state","_law_line_here","_law_along","_law_deep","_law_many"]) fun _ _ _ _ _ _ us hl=>by obtain⟨_,_,_,_,_,rfl⟩:=ln5 hl;rfl
 have m_23:=PySem.W.mg_of X G a_23;have b_24:=F_24.binds (ps:=["_law_hall","_law_stand","_law_n","_law_direction"]) fun _ _ _ _ _ _ us hl=>by obtain⟨_,_,_,_,rfl⟩:=ln4 hl;rfl
 have m_24:=PySem.W.mg_of X G a_24;have b_25:=F_25.binds (ps:=["_law_script"]) fun _ _ _ _ _ _ us hl=>by obtain⟨_,rfl⟩:=ln1 hl;rfl
 have m_25:=PySem.W.mg_of X G a_25;refine⟨PySem.W.fnOf "law" "law" (zo4 s_law) (zb7 s_law) (za1 s_law) .none kV dc pm an cd ct,fun s v=>.of_eq rfl,fun base _ _=>?_⟩;have okB:=ok_begin (P:=l.prog) (w:=w) (base:=base) F_0 hm;have ok_1:∀p q:Addr,FnOk l.prog w K mg base CX0 1 f_1 _ ["_law_state","_law_many"] (spS (WdS p q) K takeF):=fun p q=>ok_take F_1 hm.len hm.divmod
 have ok_2:FnOk l.prog w K mg base CX0 1 f_2 _ ["wide","high","cell"] (sp0 K pwithinF):=Fun.d0 F_2 sc_within fun cdv A outer s H E hr=>within_m.2 _ _ _ _ _ hm cs 0  _ cdv A outer s H E hr
 have ok_3:FnOk l.prog w K mg base CX0 1 f_3 _ ["kind","place"] (sp0 K pcovF):=Fun.d0 F_3 zm9 fun cdv A outer s H E hr=>covered_m.2 _ _ _ _ _ hm cs 0  _ cdv A outer s H E hr
 have ok_4:FnOk l.prog w K mg base CX0 2 f_4 _ ["hall","stand"] (sp0 K holdersF):=Fun.d0 F_4 zj8 fun cdv A outer s H E hr=>(holders_m pcovF).2 _ _ _ _ _ hm cs 1 ⟨_,_,m_3,F_3.kp,b_3,ok_3.mono (by decide)⟩ _ cdv A outer s H E hr
 have ok_5:FnOk l.prog w K mg base CX0 1 f_5 _ ["ways","direction"] (sp0 K pgoesF):=Fun.d0 F_5 sc_goes fun cdv A outer s H E hr=>goes_m.2 _ _ _ _ _ hm cs 0  _ cdv A outer s H E hr
 have ok_6:FnOk l.prog w K mg base CX0 1 f_6 _ ["place","direction"] (sp0 K furtherF):=Fun.d0 F_6 sc_one_further fun cdv A outer s H E hr=>zn9.2 _ _ _ _ _ hm cs 0  _ cdv A outer s H E hr
 have ok_7:FnOk l.prog w K mg base CX0 2 f_7 _ ["hall","stand","held","n","direction"] (sp0 K metF):=Fun.d0 F_7 sc_met_by fun cdv A outer s H E hr=>(met_by_m pgoesF pcovF furtherF pwithinF).2 _ _ _ _ _ hm cs 1 ⟨_,_,m_5,F_5.kp,b_5,ok_5.mono (by decide)⟩ ⟨_,_,m_3,F_3.kp,b_3,ok_3.mono (by decide)⟩ ⟨_,_,m_6,F_6.kp,b_6,ok_6.mono (by decide)⟩ ⟨_,_,m_2,F_2.kp,b_2,ok_2.mono (by decide)⟩ _ cdv A outer s H E hr
 have ok_8:FnOk l.prog w K mg base CX0 3 f_8 _ ["hall","stand","held","n","direction"] (sp0 K amongF):=Fun.d0 F_8 zd9 fun cdv A outer s H E hr=>(zm5 metF).2 _ _ _ _ _ hm cs 2 ⟨_,_,m_7,F_7.kp,b_7,ok_7.mono (by decide)⟩ _ cdv A outer s H E hr
 have ok_9:FnOk l.prog w K mg base CX0 4 f_9 _ ["hall","stand","n","direction"] (sp0 K zo1):=Fun.d0 F_9 sc_movers fun cdv A outer s H E hr=>(movers_m amongF holdersF).2 _ _ _ _ _ hm cs 3 ⟨_,_,m_8,F_8.kp,b_8,ok_8.mono (by decide)⟩ ⟨_,_,m_4,F_4.kp,b_4,ok_4.mono (by decide)⟩ _ cdv A outer s H E hr
 have ok_10:FnOk l.prog w K mg base CX0 2 f_10 _ ["stand","going","direction"] (sp0 K bstepF):=Fun.d0 F_10 zm0 fun cdv A outer s H E hr=>(zo7 furtherF).2 _ _ _ _ _ hm cs 1 ⟨_,_,m_6,F_6.kp,b_6,ok_6.mono (by decide)⟩ _ cdv A outer s H E hr
 have okB_pushed:FnOk l.prog w K mg base (CX2 l.prog w) 5 f_11 _ ["hall","stand","push"] (spB K C1 ppushF):=Fun.dB F_11 zi6 fun cdv A outer s H E hr=>(pushed_m zo1 bstepF).2 _ _ _ _ _ hm cs C1 xc.n1 xc.r1 4 (by decide) ⟨_,_,m_9,F_9.kp,b_9,ok_9.mono (by decide)⟩ ⟨_,_,m_10,F_10.kp,b_10,ok_10.mono (by decide)⟩ _ cdv A outer s H E hr
 have ok_11:=FnOk.noX okB_pushed;have ok_12:FnOk l.prog w K mg base CX0 5 f_12 _ ["hall","stand","held","n","direction"] (sp0 K endsF):=Fun.d0 F_12 zd8 fun cdv A outer s H E hr=>(zl9 amongF bstepF zo1).2 _ _ _ _ _ hm cs 4 ⟨_,_,m_8,F_8.kp,b_8,ok_8.mono (by decide)⟩ ⟨_,_,m_10,F_10.kp,b_10,ok_10.mono (by decide)⟩ ⟨_,_,m_9,F_9.kp,b_9,ok_9.mono (by decide)⟩ _ cdv A outer s H E hr
 have ok_13:FnOk l.prog w K mg base CX0 6 f_13 _ ["hall","stand"] (sp0 K pweF):=Fun.d0 F_13 zc7 fun cdv A outer s H E hr=>(zh9 holdersF endsF).2 _ _ _ _ _ hm cs 5 ⟨_,_,m_4,F_4.kp,b_4,ok_4.mono (by decide)⟩ ⟨_,_,m_12,F_12.kp,b_12,ok_12.mono (by decide)⟩ _ cdv A outer s H E hr
 have ok_14:FnOk l.prog w K mg base CX0 7 f_14 _ ["hall","stand"] (sp0 K allF):=Fun.d0 F_14 sc_all_pushes fun cdv A outer s H E hr=>(all_pushes_m pweF).2 _ _ _ _ _ hm cs 6 ⟨_,_,m_13,F_13.kp,b_13,ok_13.mono (by decide)⟩ _ cdv A outer s H E hr
 have ok_15:FnOk l.prog w K mg base CX0 1 f_15 _ ["_law_kind","_law_place"] (sp0 K coveredF):=Fun.d0 F_15 zk2 fun cdv A outer s H E hr=>zm7.2 _ _ _ _ _ hm cs 0  _ cdv A outer s H E hr
 have ok_16:FnOk l.prog w K mg base CX0 1 f_16 _ ["_law_place","_law_direction"] (sp0 K behindF):=Fun.d0 F_16 sc__law_behind fun cdv A outer s H E hr=>zo9.2 _ _ _ _ _ hm cs 0  _ cdv A outer s H E hr
 have ok_17:FnOk l.prog w K mg base CX0 1 f_17 _ ["_law_kind","_law_direction"] (sp0 K goesF):=Fun.d0 F_17 sc__law_goes fun cdv A outer s H E hr=>_law_goes_m.2 _ _ _ _ _ hm cs 0  _ cdv A outer s H E hr
 have ok_18:FnOk l.prog w K mg base CX0 2 f_18 _ ["_law_hall","_law_stand","_law_n","_law_direction"] (sp0 K stepF):=Fun.d0 F_18 zc5 fun cdv A outer s H E hr=>(_law_step_m coveredF behindF goesF).2 _ _ _ _ _ hm cs 1 ⟨_,_,m_15,F_15.kp,b_15,ok_15.mono (by decide)⟩ ⟨_,_,m_16,F_16.kp,b_16,ok_16.mono (by decide)⟩ ⟨_,_,m_17,F_17.kp,b_17,ok_17.mono (by decide)⟩ _ cdv A outer s H E hr
 have ok_19:FnOk l.prog w K mg base CX0 3 f_19 _ ["_law_hall","_law_stand","_law_push"] (sp0 K lpushedF):=Fun.d0 F_19 zc8 fun cdv A outer s H E hr=>(zo8 stepF behindF).2 _ _ _ _ _ hm cs 2 ⟨_,_,m_18,F_18.kp,b_18,ok_18.mono (by decide)⟩ ⟨_,_,m_16,F_16.kp,b_16,ok_16.mono (by decide)⟩ _ cdv A outer s H E hr
 have okS:∀n:Nat,FnOk l.prog w K mg base CX0 n f_20 _ ["_law_found","_law_due"] (sp0 K (sameF n)):=fun n=>by
  induction n with
  | zero=>exact fn_bad
  | succ n ih=>exact Fun.d0 F_20 sc__law_same fun cdv A outer s H E hr=>(_law_same_m (sameF n)).2 _ _ _ _ _ hm cs n ⟨_,_,m_20,F_20.kp,b_20,ih⟩ _ cdv A outer s H E hr
 have ok_20:=okS 4;have ok_21:FnOk l.prog w K mg base CX0 6 f_21 _ ["_law_hall","_law_stand","_law_push","_law_call"] (spT f_11 K (toldF ppushF)):=ok_told F_21 hm xc F_11.kp b_11 (fun l hl=>if_neg fun z=>hl z.1) okB_pushed;have ok_22:∀p q:Addr,FnOk l.prog w K mg base CX0 2 f_22 _ ["_law_state","_law_along"] (spS (WdS p q) K lineF):=fun p q=>Fun.dS F_22 zg9 fun cdv A outer s H E hr=>(_law_line_m takeF).2 _ _ _ _ _ p q hm cs 1 ⟨_,_,m_1,F_1.kp,b_1,(ok_1 p q).mono (by decide)⟩ _ cdv A outer s H E hr
 have ok_23:∀p q:Addr,FnOk l.prog w K mg base CX0 2 f_23 _ ["_law_state","_law_line_here","_law_along","_law_deep","_law_many"] (spS (WdS p q) K laidF):=fun p q=>Fun.dS F_23 zc9 fun cdv A outer s H E hr=>(_law_laid_m takeF).2 _ _ _ _ _ p q hm cs 1 ⟨_,_,m_1,F_1.kp,b_1,(ok_1 p q).mono (by decide)⟩ _ cdv A outer s H E hr
 have ok_24:FnOk l.prog w K mg base CX0 4 f_24 _ ["_law_hall","_law_stand","_law_n","_law_direction"] (sp0 K farF):=Fun.d0 F_24 sc__law_far fun cdv A outer s H E hr=>(_law_far_m lpushedF).2 _ _ _ _ _ hm cs 3 ⟨_,_,m_19,F_19.kp,b_19,ok_19.mono (by decide)⟩ _ cdv A outer s H E hr
 exact ok_law F_25 (k:=7) ⟨_,_,m_0,F_0.kp,b_0,okB.mono (by decide)⟩ (fun p q cdv A outer s H E hr=>(law_m takeF lineF laidF farF stepF (sameF 4) zo1 (toldF ppushF) lpushedF (noX ppushF) allF).2 _ _ _ _ _ p q hm cs 7 ⟨_,_,m_1,F_1.kp,b_1,(ok_1 p q).mono (by decide)⟩ ⟨_,_,m_22,F_22.kp,b_22,(ok_22 p q).mono (by decide)⟩ ⟨_,_,m_23,F_23.kp,b_23,(ok_23 p q).mono (by decide)⟩ ⟨_,_,m_24,F_24.kp,b_24,ok_24.mono (by decide)⟩ ⟨_,_,m_18,F_18.kp,b_18,ok_18.mono (by decide)⟩ ⟨_,_,m_20,F_20.kp,b_20,ok_20.mono (by decide)⟩ ⟨_,_,m_9,F_9.kp,b_9,ok_9.mono (by decide)⟩ f_11 m_11 ⟨_,_,m_21,F_21.kp,b_21,ok_21.mono (by decide)⟩ ⟨_,_,m_19,F_19.kp,b_19,ok_19.mono (by decide)⟩ ⟨_,_,m_11,F_11.kp,b_11,ok_11.mono (by decide)⟩ ⟨_,_,m_14,F_14.kp,b_14,ok_14.mono (by decide)⟩ _ cdv A outer s H E hr) wp_law
theorem walk {l:PySem.W.OpenLaw} {q:Program} {loose:List Str} {XP:(Str->Option Value)->Heap->Prop} {YP:World->Heap->Prop} {d:DefRec} {K:Params->PySem.W.Frag} (hn:l.most=some 63) (hdf:d.params.defaults=[])
 (hY:∀(w:World) (h:Heap),YP w h->(K w.params).In h) (F:∀(w:World) (mg:Str->Option Value) (fa:Addr) (h:Heap),(K w.params).In h->h.Ns mainGlobals mg->mg d.name=some (.ref fa)->
  ∃fd:FuncData,(∀(s:Shared) (u:Value),BindsTo s fd ⟨[u],[]⟩ [("_law_script",u)])/\∀base:Heap,(K w.params).In base->base.Ns mainGlobals mg->FnOk l.prog w (K w.params) mg base CX0 8 fa fd ["_law_script"] (spLaw (K w.params))) :
 PySem.W.WalkO q loose XP YP l.row.toRowW d [] (fun f vs=>PySem.call f vs):=
 L2.walk_of (n:=63) (k:=8) (x:="_law_script") (CX:=fun _=>CX0) (sp:=fun w=>spLaw (K w.params)) hn (by decide) hdf ⟨rfl,by decide,by decide,rfl⟩ hY F (fun _ _ a ns hl _ hS=>⟨a,ns,rfl,hS,hl,fun _=>rfl⟩) fun _ _ _ _ _ z=>z
theorem dA_eq (s:Stmt):dA s=zo4 s:=by cases s<;>rfl
theorem dB_eq (s:Stmt):dB s=zb7 s:=by cases s<;>rfl
theorem dS_eq (s:Stmt):dS s=za1 s:=by cases s<;>rfl
theorem FnAt.to {K:PySem.W.Frag} {x:Str} {i:Nat} (h:FnAt K x i):∃f d,At K x (top i) f d:=by
 obtain⟨f,oc,od,an,osl,kV,doc,pm,cdv,ct,a,l,c,k⟩:=h;rw[dA_eq,dB_eq,dS_eq] at l;exact⟨f,_,At.of (st:=top i) a l c k⟩
end K11
open PySem PySem.W PyProof.Rows
theorem PySem.Challenge.cw_slidehall_k11_long_rows_ahead_holds : PySem.Challenge.rw_slidehall_k11_long_rows_ahead.Holds :=
 K11.early fun q loose XP YP d K hd hn hY facts => K11.walk (l := PySem.Challenge.rw_slidehall_k11_long_rows_ahead) rfl hd hY fun w mg fa h KX G hmg => by
 cases facts w.params with
 | mk h__law_begin h__law_take h_within h_covered h_holders h_goes h_one_further h_met_by h_movers_among h_movers h_behind_step h_pushed h_stands_along h_pushes_with_ends h_all_pushes h__law_covered h__law_behind h__law_goes h__law_step h__law_pushed h__law_same h__law_told h__law_line h__law_laid h__law_far h_law z_len z_divmod z_list z_tuple z_int z_bool z_str z_dict z_isinstance z_all z_any z_sum z_zip z_enumerate z_range z_sorted z_min z_max z_abs z_reversed y_WALL y_STRONG y_DULL y_STEPS ya_STEPS y0_STEPS y1_STEPS y2_STEPS y3_STEPS y1 y0 lk ok ni tl ga gt cl sb so sa a1 a2 kc lf cf kf lk0 hbe hrd hfc hg y2 y3 y4 y5 no yv vt=>
 obtain⟨_,_,g__law_begin⟩:=K11.FnAt.to h__law_begin;obtain⟨_,_,g__law_take⟩:=K11.FnAt.to h__law_take;obtain⟨_,_,g_within⟩:=K11.FnAt.to h_within;obtain⟨_,_,g_covered⟩:=K11.FnAt.to h_covered;obtain⟨_,_,g_holders⟩:=K11.FnAt.to h_holders;obtain⟨_,_,g_goes⟩:=K11.FnAt.to h_goes;obtain⟨_,_,g_one_further⟩:=K11.FnAt.to h_one_further;obtain⟨_,_,g_met_by⟩:=K11.FnAt.to h_met_by;obtain⟨_,_,g_movers_among⟩:=K11.FnAt.to h_movers_among;obtain⟨_,_,g_movers⟩:=K11.FnAt.to h_movers;obtain⟨_,_,g_behind_step⟩:=K11.FnAt.to h_behind_step;obtain⟨_,_,g_pushed⟩:=K11.FnAt.to h_pushed;obtain⟨_,_,g_stands_along⟩:=K11.FnAt.to h_stands_along;obtain⟨_,_,g_pushes_with_ends⟩:=K11.FnAt.to h_pushes_with_ends;obtain⟨_,_,g_all_pushes⟩:=K11.FnAt.to h_all_pushes;obtain⟨_,_,g__law_covered⟩:=K11.FnAt.to h__law_covered;obtain⟨_,_,g__law_behind⟩:=K11.FnAt.to h__law_behind;obtain⟨_,_,g__law_goes⟩:=K11.FnAt.to h__law_goes;obtain⟨_,_,g__law_step⟩:=K11.FnAt.to h__law_step;obtain⟨_,_,g__law_pushed⟩:=K11.FnAt.to h__law_pushed;obtain⟨_,_,g__law_same⟩:=K11.FnAt.to h__law_same;obtain⟨_,_,g__law_told⟩:=K11.FnAt.to h__law_told;obtain⟨_,_,g__law_line⟩:=K11.FnAt.to h__law_line;obtain⟨_,_,g__law_laid⟩:=K11.FnAt.to h__law_laid;obtain⟨_,_,g__law_far⟩:=K11.FnAt.to h__law_far;obtain⟨_,_,g_law⟩:=K11.FnAt.to h_law;exact K11.all_mk KX G (hn▸hmg) g__law_begin g__law_take g_within g_covered g_holders g_goes g_one_further g_met_by g_movers_among g_movers g_behind_step g_pushed g_stands_along g_pushes_with_ends g_all_pushes g__law_covered g__law_behind g__law_goes g__law_step g__law_pushed g__law_same g__law_told g__law_line g__law_laid g__law_far g_law z_len z_divmod z_list z_tuple z_int z_bool z_str z_dict z_isinstance z_all z_any z_sum z_zip z_enumerate z_range z_sorted z_min z_max z_abs z_reversed y_WALL y_STRONG y_DULL y_STEPS ya_STEPS y0_STEPS y1_STEPS y2_STEPS y3_STEPS (K11.xcb_of KX G y1 y0 lk ok ni tl ga gt cl sb so sa a1 a2 kc lf cf kf lk0 hbe hrd hfc hg y2 y3 y4 y5 no yv vt)
end

