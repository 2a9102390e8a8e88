import PyProof.Rows.All
import Wide.All
import OpenK.AllK
import Wide.FinOn
import Lean
import PyProof.EqAt
import PyProof.EqKinds
import PyProof.FactsAll.tuple_2
import PyProof.ListMulRoad
import PyProof.NeKinds
import PyProof.ReprLen
import PyProof.ReprRoads
import PyProof.Rows.SortRunsK
import PyProof.Rows.SortShell
import PyProof.TupleCall
import PyProof.WalkInts
import PySem.Challenge.RW_slidehall_k12_halls_by_turns
local macro_rules
 | `(tactic| and_intros)=>`(tactic| exact ⟨rfl,rfl,rfl,by decide +kernel,rfl,by decide +kernel,by decide +kernel⟩)
open PySem PySem.Spec PyProof.Rows
open PySem.W (nsIn keepIn codeIn mg_of mg_none_of fnOf sortI eq_sortI)
theorem Aa1:type_of% @wpAny_bind:=@wpAny_bind
theorem Ab1:type_of% @wpS_bind:=@wpS_bind
theorem Ac1:type_of% @wpAny_pure:=@wpAny_pure
theorem Ad1:type_of% @wpS_pure:=@wpS_pure
theorem Ae1:type_of% @wpAny_field:=@wpAny_field
theorem Af1:type_of% @wpS_forRange:=@wpS_forRange
theorem Ag1:type_of% @wpAny_setField_rec:=@wpAny_setField_rec
theorem Ah1:type_of% @wpAny_mono:=@wpAny_mono
theorem Ai1:type_of% @wpAny_truthy_bool:=@wpAny_truthy_bool
theorem Aj1:type_of% @wpAny_rule:=@wpAny_rule
theorem Ak1:type_of% @wpAny_call_entry:=@wpAny_call_entry
theorem Al1:type_of% @wpS_mono:=@wpS_mono
theorem Am1:type_of% @wpS_modify:=@wpS_modify
theorem An1:type_of% @wpAny_seqItems:=@wpAny_seqItems
theorem Ao1:type_of% @decide_eq_false:=@decide_eq_false
theorem Ap1:type_of% @decide_eq_true:=@decide_eq_true
theorem Aq1:type_of% @beq_self_eq_true:=@beq_self_eq_true
theorem Aa0:type_of% @List.length_map:=@List.length_map
theorem Ab0:type_of% @List.getElem?_eq_getElem:=@List.getElem?_eq_getElem
theorem Ac0:type_of% @List.getElem?_eq_some_iff:=@List.getElem?_eq_some_iff
theorem Ad0:type_of% @PySem.Heap.get?_push_of_some:=@PySem.Heap.get?_push_of_some
theorem Ae0:type_of% @Nat.le_refl:=@Nat.le_refl
theorem Af0:type_of% @Nat.zero_add:=@Nat.zero_add
theorem Ag0:type_of% @List.getElem?_map:=@List.getElem?_map
theorem Ah0:type_of% @List.size_toArray:=@List.size_toArray
theorem Ai0:type_of% @List.mem_cons:=@List.mem_cons
theorem Aj0:type_of% @List.mem_of_getElem?:=@List.mem_of_getElem?
theorem Ak0:type_of% @PySem.Heap.get?_push_size:=@PySem.Heap.get?_push_size
theorem Al0:type_of% @List.length_append:=@List.length_append
theorem Am0:type_of% @List.mem_singleton:=@List.mem_singleton
theorem An0:type_of% @Nat.zero_le:=@Nat.zero_le
theorem Ao0:type_of% @Nat.ne_of_lt:=@Nat.ne_of_lt
theorem Ap0:type_of% @Option.map_some:=@Option.map_some
theorem Aq0:type_of% @List.map_append:=@List.map_append
theorem Ar0:type_of% @Bool.false_ne_true:=@Bool.false_ne_true
theorem As0:type_of% @List.append_assoc:=@List.append_assoc
theorem At0:type_of% @List.mem_append:=@List.mem_append
theorem Au0:type_of% @Nat.lt_of_lt_of_le:=@Nat.lt_of_lt_of_le
theorem Av0:type_of% @List.getElem?_of_mem:=@List.getElem?_of_mem
theorem Aw0:type_of% @Int.toNat_natCast:=@Int.toNat_natCast
theorem Ax0:type_of% @Nat.le_trans:=@Nat.le_trans
theorem Ay0:type_of% @List.map_cons:=@List.map_cons
theorem Az0:type_of% @List.getElem?_set_ne:=@List.getElem?_set_ne
theorem Ba0:type_of% @List.take_add_one:=@List.take_add_one
theorem Bb0:type_of% @List.mem_append_right:=@List.mem_append_right
theorem Bc0:type_of% @List.append_nil:=@List.append_nil
theorem Bd0:type_of% @List.not_mem_nil:=@List.not_mem_nil
theorem Be0:type_of% @List.length_take:=@List.length_take
theorem Bf0:type_of% @List.mem_map:=@List.mem_map
theorem Bg0:type_of% @List.pairwise_append:=@List.pairwise_append
theorem Bh0:type_of% @Array.toList_append:=@Array.toList_append
theorem Bi0:type_of% @List.take_length:=@List.take_length
theorem Bj0:type_of% @List.map_map:=@List.map_map
theorem Bk0:type_of% @List.pairwise_iff_getElem:=@List.pairwise_iff_getElem
theorem Bl0:type_of% @List.getElem?_append_left:=@List.getElem?_append_left
theorem Bm0:type_of% @List.length_cons:=@List.length_cons
theorem Bn0:type_of% @List.replicate_succ:=@List.replicate_succ
theorem Bo0:type_of% @PySem.Heap.size_push:=@PySem.Heap.size_push
theorem Bp0:type_of% @Array.length_toList:=@Array.length_toList
theorem Bq0:type_of% @List.pairwise_cons:=@List.pairwise_cons
theorem Br0:type_of% @List.mem_append_left:=@List.mem_append_left
theorem Bs0:type_of% @Nat.lt_irrefl:=@Nat.lt_irrefl
theorem Bt0:type_of% @List.nodup_cons:=@List.nodup_cons
theorem Bu0:type_of% @List.take_of_length_le:=@List.take_of_length_le
theorem Bv0:type_of% @List.getD_eq_getElem?_getD:=@List.getD_eq_getElem?_getD
theorem Bw0:type_of% @List.mem_cons_of_mem:=@List.mem_cons_of_mem
theorem Bx0:type_of% @List.length_set:=@List.length_set
theorem By0:type_of% @Bool.false_eq_true:=@Bool.false_eq_true
theorem Bz0:type_of% @List.flatten_cons:=@List.flatten_cons
theorem Ca0:type_of% @List.mem_range:=@List.mem_range
theorem Cb0:type_of% @Array.getElem?_eq_getElem:=@Array.getElem?_eq_getElem
theorem Cc0:type_of% @List.flatMap_append:=@List.flatMap_append
theorem Cd0:type_of% @Nat.not_lt_zero:=@Nat.not_lt_zero
theorem Ce0:type_of% @List.find?_cons:=@List.find?_cons
theorem Cf0:type_of% @List.mem_cons_self:=@List.mem_cons_self
theorem Cg0:type_of% @List.getElem?_set_self:=@List.getElem?_set_self
theorem Ch0:type_of% @PySem.Heap.get?_push_ne:=@PySem.Heap.get?_push_ne
set_option Elab.async false
set_option linter.all false
set_option maxRecDepth 100000
set_option tactic.hygienic false
set_option bootstrap.genMatcherCode false
set_option maxHeartbeats 0
set_option compiler.extract_closed false
local macro_rules
 | `(tactic| omega)=>`(tactic| first | lia | omega +splitDisjunctions)
namespace L2
noncomputable abbrev Key:=Sum Int Str
noncomputable def xn7:Key->Value->Bool
 | .inl k,v=>Value.isInt k v
 | .inr x,v=>Value.isStrOf x v
noncomputable def vp8 (w:World):Key->Int
 | .inl k=>hashInt k
 | .inr x=>hashStr w x
theorem zg4:∀{k:Key} {v:Value},xn7 k v=true->(∃i t,k=Sum.inl i/\v=Value.int i t)\/(∃x t,k=Sum.inr x/\v=Value.str x t)
 | .inl i,v,h=>by
   obtain⟨t,e⟩:=Value.isInt_shape (k:=i) (v:=v) h;exact .inl ⟨i,t,rfl,e⟩
 | .inr x,v,h=>by
   obtain⟨t,e⟩:=Value.isStrOf_shape (x:=x) (v:=v) h;exact .inr ⟨x,t,rfl,e⟩
theorem xv8 (i:Int) (t:Tok):xn7 (.inl i) (.int i t)=true:=by simp[xn7,Value.isInt]
theorem xv7 (x:Str) (t:Tok):xn7 (.inr x) (.str x t)=true:=by simp[xn7,Value.isStrOf]
theorem va5 (a b:Int):decide ((Sum.inl a:Key)=Sum.inl b)=(a == b):=by
 by_cases e:a=b
 ·subst e;simp
 ·have h:¬(Sum.inl a:Key)=Sum.inl b:=fun q=>e (Sum.inl.inj q)
  rw[Ao1 h];exact(beq_eq_false_iff_ne.mpr e).symm
theorem va2 (a b:Str):decide ((Sum.inr a:Key)=Sum.inr b)=decide (a=b):=by
 by_cases e:a=b
 ·subst e;simp
 ·have h:¬(Sum.inr a:Key)=Sum.inr b:=fun q=>e (Sum.inr.inj q)
  rw[Ao1 h,Ao1 e]
theorem va4 (a:Int) (b:Str):decide ((Sum.inl a:Key)=Sum.inr b)=false:=Ao1 (fun q=>nomatch q)
theorem va3 (a:Str) (b:Int):decide ((Sum.inr a:Key)=Sum.inl b)=false:=Ao1 (fun q=>nomatch q)
noncomputable def zg3 (prog:Program) (w:World):PySem.KeyKind prog w Key where
 is:=xn7
 hash:=vp8 w
 inj:=fun v a b ha hb=>by
  rcases zg4 ha with⟨i,t,rfl,rfl⟩ | ⟨x,t,rfl,rfl⟩
  ·rcases zg4 hb with⟨j,u,rfl,e⟩ | ⟨y,u,rfl,e⟩
   ·injection e with e1 _;rw[e1]
   ·exact nomatch e
  ·rcases zg4 hb with⟨j,u,rfl,e⟩ | ⟨y,u,rfl,e⟩
   ·exact nomatch e
   ·injection e with e1 _;rw[e1]
 byValue:=fun k v h=>by
  rcases zg4 h with⟨i,t,rfl,rfl⟩ | ⟨x,t,rfl,rfl⟩<;>rfl
 pyHash:=fun hv h=>by
  rcases zg4 hv with⟨i,t,rfl,rfl⟩ | ⟨x,t,rfl,rfl⟩
  ·exact wpAny_pyHash_int h
  ·exact wpAny_pyHash_str h
 eqBool:=fun hu hv h=>by
  rcases zg4 hu with⟨i,t,rfl,rfl⟩ | ⟨x,t,rfl,rfl⟩
  ·rcases zg4 hv with⟨j,u,rfl,rfl⟩ | ⟨y,u,rfl,rfl⟩
   ·rw[va5] at h;exact wpAny_eqBool_int h
   ·rw[va4] at h;exact SeqAt.EqAt.int_str i t y u _ _ _ _ h
  ·rcases zg4 hv with⟨j,u,rfl,rfl⟩ | ⟨y,u,rfl,rfl⟩
   ·rw[va3] at h;exact SeqAt.EqAt.str_int x t j u _ _ _ _ h
   ·rw[va2] at h;exact wpAny_eqBool_str h
 «strs»:=fun k x t v h=>by
  rcases zg4 h with⟨i,u,rfl,e⟩ | ⟨y,u,rfl,e⟩
  ·exact nomatch e
  ·injection e with e1 _
   subst e1;cases v<;>rfl
theorem xd4 (prog:Program) (w:World) (i:Int) (t:Tok):(zg3 prog w).is (.inl i) (.int i t)=true:=xv8 i t
theorem xd3 (prog:Program) (w:World) (x:Str) (t:Tok):(zg3 prog w).is (.inr x) (.str x t)=true:=xv7 x t
inductive V where
 | non | bl (b:Bool) | int (i:Int) | str (x:Str) | byt (b:Array UInt8) | flt (b:UInt64) | ref (a:Addr) | ty (n:String)
 deriving DecidableEq
noncomputable def zf3:V->Value->Prop
 | .non,u=>u=Value.none
 | .bl b,u=>u=Value.bool b
 | .int i,u=>∃t,u=Value.int i t
 | .str x,u=>∃t,u=Value.str x t
 | .byt b,u=>∃t,u=Value.bytes b t
 | .flt b,u=>∃t,u=Value.float b t
 | .ref a,u=>u=Value.ref a
 | .ty n,u=>u=Value.type n
noncomputable abbrev zg1:List V->List Value->Prop:=Paired zf3
theorem zg1.length {xs:List V} {us:List Value} (r:zg1 xs us):xs.length=us.length:=Paired.length r
theorem zg1.get:∀{xs:List V} {us:List Value} {i:Nat} {x:V},zg1 xs us->xs[i]?=some x->∃u,us[i]?=some u/\zf3 x u
 | _,_,_,_,.nil,e=>by simp at e
 | _,_,0,_,.cons r _,e=>by simp at e;subst e;exact⟨_,rfl,r⟩
 | _,_,i+1,x,.cons _ t,e=>by
   obtain⟨u,h1,h2⟩:=zg1.get (i:=i) (x:=x) t (by simpa using e);exact⟨u,by simpa using h1,h2⟩
theorem zg1.set {x:V} {u:Value} (r:zf3 x u):∀{xs:List V} {us:List Value} (i:Nat),zg1 xs us->zg1 (xs.set i x) (us.set i u)
 | _,_,_,.nil=>.nil
 | _,_,0,.cons _ t=>.cons r t
 | _,_,i+1,.cons q t=>.cons q (zg1.set r i t)
theorem zg1.append:∀{xs ys:List V} {us ws:List Value},zg1 xs us->zg1 ys ws->zg1 (xs++ys) (us++ws)
 | _,_,_,_,.nil,s=>s
 | _,_,_,_,.cons r t,s=>.cons r (zg1.append t s)
theorem zg1.take:∀{xs:List V} {us:List Value} (n:Nat),zg1 xs us->zg1 (xs.take n) (us.take n)
 | _,_,0,_=>.nil
 | _,_,_+1,.nil=>.nil
 | _,_,n+1,.cons r t=>.cons r (zg1.take n t)
theorem zg1.drop:∀{xs:List V} {us:List Value} (n:Nat),zg1 xs us->zg1 (xs.drop n) (us.drop n)
 | _,_,0,r=>r
 | _,_,_+1,.nil=>.nil
 | _,_,n+1,.cons _ t=>zg1.drop n t
noncomputable def xp3:Option V->Option Value->Prop
 | some v,some u=>zf3 v u
 | none,none=>True
 | _,_=>False
noncomputable def KV {κ:Type}:List (κ×V)->List (κ×Value)->Prop:=Paired fun (p:κ×V) (q:κ×Value)=>p.1=q.1/\zf3 p.2 q.2
noncomputable def kV:Key->V
 | .inl i=>.int i
 | .inr x=>.str x
inductive HO where
 /-- a list -/
 | lst (xs:List V)
 /-- a tuple (never changes) -/
 | tup (xs:List V)
 /-- a dict whose keys are ints and texts;one whose keys are tuples of ints and texts (the empty one is both) -/
 | dK (kvs:List (Key×V)) | dT (kvs:List (List Key×V))
 /-- a set of ints: its members,its size -/
 | set (S:Int->Bool) (n:Nat)
 /-- an instance of the class at C,its dict at dx,its attributes -/
 | ins (C dx:Addr) (fs:List (Str×V))
 /-- the dict of the instance at x -/
 | own (x:Addr)
 /-- the dict of an exception -/
 | xd (fs:List (Str×V))
 /-- a bound method,f of x -/
 | met (f x:Addr)
 /-- a range object lo,lo+1,.. below hi -/
 | rng (lo hi:Int)
 /-- a thing that is known to the object (the script;a dict while a loop walks it): read,never written while it is so -/
 | frz (o:Obj) (u:HO)
 /-- a code object's table -/
 | tbl (ps:Array Value)
 /-- any other thing,by what is true of its one object (a def of one's own: SetO a S n:=HO.ext fun h=>..) -/
 | ext (φ:Heap->Prop)
noncomputable abbrev Hp:=Addr->Option HO
noncomputable def upd (H:Hp) (a:Addr) (o:HO):Hp:=fun b=>if b=a then some o else H b
theorem zb5 {H:Hp} {a:Addr} {o:HO}:upd H a o a=some o:=by unfold upd;rw[if_pos rfl]
theorem zb2 {H:Hp} {a b:Addr} {o:HO} (h:b≠a):upd H a o b=H b:=by unfold upd;rw[if_neg h]
set_option tactic.hygienic true in
theorem upd_upd {H:Hp} {a:Addr} {o u:HO}:upd (upd H a o) a u=upd H a u:=by
 funext b;unfold upd;split<;>rfl
theorem wd5 {H:Hp} {a b:Addr} {o u:HO} (h:H a=some o) (h':H b=some u) (d:o≠u):a≠b:=by
 intro e;subst e;rw[h] at h';exact d (Option.some.inj h')
theorem zb6 {H:Hp} {a b:Addr} {o:HO} (h:H a=some o) (h':H b=none):a≠b:=by
 intro e;subst e;rw[h] at h';cases h'
section
variable (P:Program) (w:World)
noncomputable def zl8 (H:Hp) (h:Heap) (a:Addr):HO->Prop
 | .lst xs=>xs.length<=sizeLine/\∃(its:List Value) (n:Nat),zg1 xs its/\h.get? a=some { cls:=.type "list",data:=.seq its.toArray n }
 | .tup xs=>xs.length<=sizeLine/\∃its:List Value,zg1 xs its/\IsTup h a its.toArray
 | .dK kvs=>kvs.length<=sizeLine/\(a == sysModules)=false/\∃vs,KV kvs vs/\h.DictOf (zg3 P w) a vs
 | .dT kvs=>kvs.length<=sizeLine/\(a == sysModules)=false/\∃xs:List (List Key×Addr×Value),
  Paired (fun (p:List Key×V) (q:List Key×Addr×Value)=>p.1=q.1/\H q.2.1=some (.tup (p.1.map kV))/\zf3 p.2 q.2.2) kvs xs/\
  ∃o es ep,h.get? a=some o/\o.ExactDict/\o.data=.dict es ep/\es.toList=xs.map (entryOfKey (tupleKind (zg3 P w)))/\(xs.map (·.1)).Nodup
 | .set S n=>h.SetOf (intKind P w) a S n
 | .ins C dx fs=>H dx=some (.own a)/\fs.length<=1000/\dx≠a/\h.get? a=some (PySem.W.instObj C dx)/\
  ∃mA,h.Ns1 dx mA/\(∀f,xp3 (fs.lookup f) (mA f))/\PySem.Within mA (fs.map (·.1))
 | .own _=>∃o,h.get? a=some o
 | .xd fs=>∃mA,h.Ns1 a mA/\∀f,xp3 (fs.lookup f) (mA f)
 | .rng lo hi=>∃t u v,h.get? a=some { cls:=.type "range",data:=.fields #[.int lo t,.int hi u,.int 1 v] }
 | .frz o u=>h.get? a=some o/\zl8 H h a u
 | .tbl ps=>h.get? a=some { cls:=.none,data:=.fields ps }
 | .met f x=>h.get? a=some (PySem.W.methodObj (.ref f) (.ref x))
 | .ext φ=>φ h/\(∃o,h.get? a=some o)/\∀h1 h2:Heap,φ h1->(∀o,h1.get? a=some o->h2.get? a=some o)->φ h2
noncomputable def HOk (H:Hp) (h:Heap):Prop:=∀a o,H a=some o->zl8 P w H h a o
end
section
variable {P:Program} {w:World} {H H':Hp} {h h':Heap} {a:Addr} {o:HO}
theorem zl8.lt (x:zl8 P w H h a o):a<h.objs.size:=by
 cases o with
 | lst xs=>obtain⟨_,_,_,_,e⟩:=x;exact Heap.lt_size e
 | tup xs=>obtain⟨_,_,_,p⟩:=x;exact p.lt
 | dK kvs=>obtain⟨_,_,_,_,o,_,_,e,_⟩:=x;exact Heap.lt_size e
 | dT kvs=>obtain⟨_,_,_,_,o,_,_,e,_⟩:=x;exact Heap.lt_size e
 | set S n=>obtain⟨o,_,_,_,e,_⟩:=x;exact Heap.lt_size e
 | ins C dx fs=>obtain⟨_,_,_,e,_⟩:=x;exact Heap.lt_size e
 | own y=>obtain⟨_,e⟩:=x;exact Heap.lt_size e
 | xd fs=>obtain⟨_,⟨_,_,_,e,_⟩,_⟩:=x;exact Heap.lt_size e
 | rng lo hi=>obtain⟨_,_,_,e⟩:=x;exact Heap.lt_size e
 | frz ob u=>obtain⟨e,_⟩:=x;exact Heap.lt_size e
 | tbl ps=>exact Heap.lt_size (show h.get? a=some _ from x)
 | met f y=>exact Heap.lt_size (show h.get? a=some _ from x)
 | ext φ=>obtain⟨_,⟨_,e⟩,_⟩:=x;exact Heap.lt_size e
theorem Paired.mapP {α β:Type} {F G:α->β->Prop}:∀{l₁:List α} {l₂:List β},Paired F l₁ l₂->(∀a b,F a b->G a b)->Paired G l₁ l₂
 | _,_,.nil,_=>.nil
 | _,_,.cons r t,f=>.cons (f _ _ r) (Paired.mapP t f)
theorem zl8.stay (x:zl8 P w H h a o) (k:∀b u,(b=a\/H b=some (.own a))->h.get? b=some u->h'.get? b=some u)
 (ho:∀b,H b=some (.own a)->H' b=some (.own a)) (ht:∀b xs,H b=some (.tup xs)->H' b=some (.tup xs)):zl8 P w H' h' a o:=by
 induction o with
 | lst xs=>obtain⟨z,its,n,r,e⟩:=x;exact⟨z,its,n,r,k _ _ (.inl rfl) e⟩
 | tup xs=>obtain⟨z,its,r,ob,e,c⟩:=x;exact⟨z,its,r,ob,k _ _ (.inl rfl) e,c⟩
 | dK kvs=>obtain⟨z,y,vs,r,ob,es,ep,e,c⟩:=x;exact⟨z,y,vs,r,ob,es,ep,k _ _ (.inl rfl) e,c⟩
 | dT kvs=>
   obtain⟨z,y,xs,r,ob,es,ep,e,c⟩:=x;exact⟨z,y,xs,Paired.mapP r fun p q z=>⟨z.1,ht _ _ z.2.1,z.2.2⟩,ob,es,ep,k _ _ (.inl rfl) e,c⟩
 | set S n=>obtain⟨ob,es,ep,t,e,c⟩:=x;exact⟨ob,es,ep,t,k _ _ (.inl rfl) e,c⟩
 | ins C dx fs=>
   obtain⟨d,z,ne,e,mA,⟨od,es,ep,e2,c⟩,r⟩:=x;exact⟨ho _ d,z,ne,k _ _ (.inl rfl) e,mA,⟨od,es,ep,k _ _ (.inr d) e2,c⟩,r⟩
 | own y=>obtain⟨ob,e⟩:=x;exact⟨ob,k _ _ (.inl rfl) e⟩
 | xd fs=>obtain⟨mA,⟨od,es,ep,e,c⟩,r⟩:=x;exact⟨mA,⟨od,es,ep,k _ _ (.inl rfl) e,c⟩,r⟩
 | rng lo hi=>obtain⟨t,u,v,e⟩:=x;exact⟨t,u,v,k _ _ (.inl rfl) e⟩
 | frz ob u ih=>obtain⟨e,q⟩:=x;exact⟨k _ _ (.inl rfl) e,ih q⟩
 | tbl ps=>
   have e:h.get? a=some { cls:=.none,data:=.fields ps }:=x;show h'.get? a=some { cls:=.none,data:=.fields ps };exact k a _ (.inl rfl) e
 | met f y=>
   have e:h.get? a=some (PySem.W.methodObj (.ref f) (.ref y)):=x;show h'.get? a=some (PySem.W.methodObj (.ref f) (.ref y));exact k a _ (.inl rfl) e
 | ext φ=>obtain⟨p,⟨o,e⟩,st⟩:=x;exact⟨st _ _ p fun o q=>k _ _ (.inl rfl) q,⟨o,k _ _ (.inl rfl) e⟩,st⟩
theorem HOk.lt (x:HOk P w H h) (e:H a=some o):a<h.objs.size:=(x a o e).lt
theorem HOk.fresh (x:HOk P w H h) (e:h.objs.size<=a):H a=none:=by
 cases q:H a with
 | none=>rfl
 | some u=>exact absurd (Au0 (x.lt q) e) (Bs0 _)
theorem HOk.kept (x:HOk P w H h) (k:∀b u,h.get? b=some u->h'.get? b=some u):HOk P w H h':=fun a o e=>
 (x a o e).stay (fun b u _ q=>k b u q) (fun _ q=>q) fun _ _ q=>q
theorem HOk.laid (x:HOk P w H h) (k:∀b u,h.get? b=some u->h'.get? b=some u) (hp:h.objs.size<=a) (new:zl8 P w (upd H a o) h' a o):HOk P w (upd H a o) h':=fun b u e=>by
 have hn:=x.fresh hp;by_cases hb:b=a
 ·subst hb;rw[zb5] at e;cases e;exact new
 ·rw[zb2 hb] at e
  exact(x b u e).stay (fun c v _ q=>k c v q) (fun c q=>by rw[zb2 (zb6 q hn)];exact q) fun c xs q=>by rw[zb2 (zb6 q hn)];exact q
end
noncomputable def Rd (H:Hp) (a:Addr) (u:HO):Prop:=H a=some u\/∃o,H a=some (.frz o u)
theorem Rd.ok {P:Program} {w:World} {H:Hp} {h:Heap} {a:Addr} {u:HO} (r:Rd H a u) (x:HOk P w H h):zl8 P w H h a u:=by
 rcases r with r | ⟨o,r⟩
 ·exact x a u r
 ·obtain⟨_,q⟩:=x a _ r
  exact q
noncomputable def Mut:Option HO->Prop
 | some (.lst _)=>True
 | some (.dK _)=>True
 | some (.dT _)=>True
 | some (.set _ _)=>True
 | some (.ins _ _ _)=>True
 | some (.ext _)=>True
 | _=>False
section
variable {P:Program} {w:World} {H:Hp} {h h':Heap} {x e:Addr} {o':HO}
theorem HOk.write (ok:HOk P w H h) (mu:Mut (H x)) (he:e=x\/H e=some (.own x)) (k:∀b u,b≠e->h.get? b=some u->h'.get? b=some u) (heo:∃u,h'.get? e=some u)
 (new:zl8 P w (upd H x o') h' x o'):HOk P w (upd H x o') h':=fun b u q=>by
 have nown:∀c y,H c=some (.own y)->c≠x:=fun c y r z=>by subst z;rw[r] at mu;exact mu
 have ntup:∀c xs,H c=some (.tup xs)->c≠x:=fun c xs r z=>by subst z;rw[r] at mu;exact mu
 by_cases hb:b=x
 ·subst hb;rw[zb5] at q;cases q;exact new
 ·rw[zb2 hb] at q
  by_cases hbe:b=e
  ·have q':H b=some (.own x):=by
    rcases he with z | z
    ·exact absurd (hbe.trans z) hb
    ·rw[hbe];exact z
   rw[q] at q';cases q';obtain⟨v,hv⟩:=heo;exact⟨v,by rw[hbe];exact hv⟩
  ·refine(ok b u q).stay (fun c v hc r=>k c v ?_ r) (fun c r=>by rw[zb2 (nown c b r)];exact r) fun c xs r=>by rw[zb2 (ntup c xs r)];exact r
   rcases hc with rfl | hc
   ·exact hbe
   ·rintro rfl
    rcases he with z | z
    ·exact nown c b hc z
    ·rw[hc] at z;cases z;exact hb rfl
end
structure Un (fs ex:List Addr) (H H':Hp) (h h':Heap):Prop where
 keep:∀b o,h.get? b=some o->H b=none->b∉fs->b∉ex->h'.get? b=some o
 slot:∀b o,h.get? b=some o->H b=none->b∈fs->b∉ex->∃sl,h'.get? b=some { o with slots:=sl }
 free:∀b o,h.get? b=some o->H b=none->b∉ex->H' b=none
 there:∀b o,h.get? b=some o->b∉ex->∃o',h'.get? b=some o'
 tups:∀b xs,H b=some (.tup xs)->H' b=some (.tup xs)
 frzs:∀b o u,H b=some (.frz o u)->H' b=some (.frz o u)
 tbls:∀b ps,H b=some (.tbl ps)->∃more,H' b=some (.tbl (ps++more))
section
variable {fs fs' ex ex':List Addr} {H H1 H2:Hp} {h h1 h2 h':Heap} {a x e:Addr} {o:HO}
theorem Un.any (u:Un fs ex H H1 h h1) {b:Addr} {ob:Obj} (q:h.get? b=some ob) (n:H b=none) (hx:b∉ex):∃sl,h1.get? b=some { ob with slots:=sl }:=by
 by_cases hb:b∈fs
 ·exact u.slot b ob q n hb hx
 ·exact⟨ob.slots,u.keep b ob q n hb hx⟩
theorem Un.kept (k:∀b u,h.get? b=some u->h'.get? b=some u):Un fs ex H H h h':=
 ⟨fun b ob q _ _ _=>k b ob q,fun b ob q _ _ _=>⟨ob.slots,k b ob q⟩,fun _ _ _ n _=>n,fun b ob q _=>⟨ob,k b ob q⟩,fun _ _ q=>q,fun _ _ _ q=>q,fun _ ps q=>⟨#[],by rw[q];simp⟩⟩
theorem Un.refl:Un fs ex H H h h:=Un.kept fun _ _ q=>q
theorem Un.laid (k:∀b u,h.get? b=some u->h'.get? b=some u) (hp:h.objs.size<=a) (hn:H a=none):Un fs ex H (upd H a o) h h' where
 keep:=fun b u q _ _ _=>k b u q
 slot:=fun b u q _ _ _=>⟨u.slots,k b u q⟩
 free:=fun b u q n _=>by rw[zb2 (Ao0 (Au0 (Heap.lt_size q) hp))];exact n
 there:=fun b u q _=>⟨u,k b u q⟩
 tups:=fun b xs q=>by rw[zb2 (zb6 q hn)];exact q
 frzs:=fun b u xs q=>by rw[zb2 (zb6 q hn)];exact q
 tbls:=fun b ps q=>⟨#[],by rw[zb2 (zb6 q hn),q];simp⟩
theorem Un.write (mu:Mut (H x)) (he:e=x\/H e=some (.own x)) (k:∀b u,b≠e->h.get? b=some u->h'.get? b=some u) (heo:∃u,h'.get? e=some u):Un fs ex H (upd H x o) h h':=by
 have hx:∀b,H b=none->b≠x:=fun b n z=>by subst z;rw[n] at mu;exact mu
 have hb:∀b,H b=none->b≠e:=fun b n z=>by
  subst z;rcases he with r | r
  ·exact hx b n r
  ·rw[n] at r;cases r
 have hm:∀b u,H b=some u->¬Mut (some u)->b≠x:=fun b u q nm z=>by subst z;rw[q] at mu;exact nm mu
 refine⟨fun b u q n _ _=>k b u (hb b n) q,fun b u q n _ _=>⟨u.slots,k b u (hb b n) q⟩,fun b u q n _=>by rw[zb2 (hx b n)];exact n,fun b u q _=>?_,
  fun b xs q=>by rw[zb2 (hm b _ q fun z=>z)];exact q,fun b u xs q=>by rw[zb2 (hm b _ q fun z=>z)];exact q,fun b ps q=>⟨#[],by rw[zb2 (hm b _ q fun z=>z),q];simp⟩⟩
 by_cases hbe:b=e
 ·subst hbe;exact heo
 ·exact⟨u,k b u hbe q⟩
end
noncomputable def trk (h:Heap) (H:Hp):List Addr:=(List.range h.objs.size).filter fun a=>(H a).isSome
noncomputable def we7 (h:Heap) (H:Hp):Heap:=PySem.W.hideAll h (trk h H)
theorem xw7 (h:Heap) (H:Hp):(we7 h H).objs.size=h.objs.size:=PySem.W.hideAll_size _ _
theorem we6 {h:Heap} {H:Hp} {b:Addr} {o:Obj} (e:h.get? b=some o) (n:H b=none):(we7 h H).get? b=some o:=
 PySem.W.hideAll_get _ e fun hm=>by
  have q:(H b).isSome=true:=(List.mem_filter.mp hm).2;rw[n] at q;simp at q
theorem wp5 {h:Heap} {H:Hp} {b:Addr} {o:Obj} (e:(we7 h H).get? b=some o):h.get? b=some o/\H b=none:=by
 have e':h.get? b=some o:=PySem.W.of_hideAll (trk h H) e;refine⟨e',?_⟩;cases q:H b with
 | none=>rfl
 | some x=>
   have hm:b∈trk h H:=List.mem_filter.mpr ⟨Ca0.mpr (Heap.lt_size e'),by simp[q]⟩;have z:(we7 h H).get? b=none:=PySem.W.hideAll_none (trk h H) hm;rw[z] at e;cases e
noncomputable def wt0 (g h:Heap) (L:Addr):List (Addr×Obj):=(List.range h.objs.size).filterMap fun a=>if a=L\/(g.get? a).isSome=true then none else (h.get? a).map fun o=>(a,o)
noncomputable def zy3 (g h:Heap) (L d:Addr):List (Addr×Obj):=(wt0 g h L).filter fun p=>decide (p.1≠d)
structure Mod (K:PySem.W.Frag) (mg:Str->Option Value) (base:Heap):Prop where
 kin:K.In base
 glob:base.Ns mainGlobals mg
 blt:∃mb,base.Ns builtinsNs mb/\∀x:Str,x≠"__name__"->mb x=bootBuiltins x
 nolimit:base.NoLimit
structure Cx where
 prog:Program
 w:World
 K:PySem.W.Frag
 mg:Str->Option Value
 base:Heap
 A:Around
 N:List Str
 s₀:Shared
 H₀:Hp
 env:Env
 outer:List Env
 stack:List Env
 ex:List Addr
 fn:Str->Bool
 calm:Bool
 pn:List (Addr×Obj)
 xe:Value->Shared->Prop
noncomputable def frs (l:List Env):List Addr:=l.filterMap (·.frame)
noncomputable abbrev Cx.fs (X:Cx):List Addr:=frs X.outer
noncomputable def Vis (sc:Scope) (x:Str):Prop:=sc.names.lookup x=some .local\/sc.names.lookup x=some .cell\/sc.names.lookup x=some .free
noncomputable def Loc (sc:Scope) (x:Str):Prop:=sc.names.lookup x=some .local\/sc.names.lookup x=some .cell
noncomputable def vr2 (env:Env) (h:Heap) (m:Str->Option Value) (x:Str) (u:Value):Prop:=
 (env.kindOf x=some .local/\m x=some u)\/((env.kindOf x=some .cell\/env.kindOf x=some .free)/\∃c,env.cells.lookup x=some c/\h.IsCell c (some u))
structure Cx.Ok (X:Cx):Prop where
 mod:Mod X.K X.mg X.base
 kind:X.env.scope.kind=.function
 glob:X.env.globals=mainGlobals
 blt:X.env.builtins=builtinsNs
 above:X.s₀.heap.objs.size<=X.env.locals
 inj:∀x y c,X.env.cells.lookup x=some c->X.env.cells.lookup y=some c->x=y
 has:∀x,(X.env.kindOf x=some .cell\/X.env.kindOf x=some .free)->∃c,X.env.cells.lookup x=some c
 cab:∀x c,X.fn x=true->X.env.cells.lookup x=some c->X.s₀.heap.objs.size<=c
 hd:X.calm=true->X.A.handled=none
 frames:X.A.frames=some X.stack
 stk:X.stack=X.outer\/(X.stack=X.env::X.outer/\X.env.frame=some X.env.locals)
 exf:∀b∈X.ex,b≠X.env.locals/\∀x c,X.env.cells.lookup x=some c->c≠b
 bs:∀b o,X.base.get? b=some o->X.s₀.heap.get? b=some o/\X.H₀ b=none
 bsz:X.base.objs.size<=X.s₀.heap.objs.size
 noex:∀b o,X.base.get? b=some o->b∉X.ex
 exfs:∀b∈X.ex,b∉X.fs
 funs:X.s₀.heap.FunFrames X.base X.outer
 frf:∀b∈X.fs,X.H₀ b=none
structure Inv (X:Cx) (A3:List (Addr×Obj)) (σ:List (Option V)) (H:Hp) (s:Shared):Prop where
 ok:X.Ok
 os:s.os=X.s₀.os
 bare:AllBare s.gens
 base:Un X.fs X.ex X.H₀ H X.s₀.heap s.heap
 loc:∃m,s.heap.Ns X.env.locals m/\∀(i:Nat) (x:Str) (v:V),X.N[i]?=some x->σ[i]?=some (some v)->Vis X.env.scope x->∃u,zf3 v u/\vr2 X.env s.heap m x u
 cell:∀x c,X.env.cells.lookup x=some c->∃v,s.heap.IsCell c v
 free:H X.env.locals=none
 freeC:∀x c,X.env.cells.lookup x=some c->H c=none
 pin:∀p∈X.pn++A3,s.heap.get? p.1=some p.2/\H p.1=none/\p.1≠X.env.locals/\p.1∉X.fs/\∀v,p.2.data≠.cell v
 hok:HOk X.prog X.w H s.heap
 len:σ.length=X.N.length
section
variable {X:Cx} {A3:List (Addr×Obj)} {σ:List (Option V)} {H H':Hp} {s:Shared} {h':Heap}
theorem Cx.Ok.nofr (ok:X.Ok) {b:Addr} {o:Obj} (e:X.base.get? b=some o):b∉X.fs:=fun hb=>by
 have:=(ok.funs.mem hb).1;rw[e] at this;cases this
theorem Inv.bs (I:Inv X A3 σ H s):∀b o,X.base.get? b=some o->s.heap.get? b=some o/\H b=none:=fun b o e=>
 ⟨I.base.keep b o (I.ok.bs b o e).1 (I.ok.bs b o e).2 (I.ok.nofr e) (I.ok.noex b o e),I.base.free b o (I.ok.bs b o e).1 (I.ok.bs b o e).2 (I.ok.noex b o e)⟩
theorem Inv.bk (I:Inv X A3 σ H s):∀b o,X.base.get? b=some o->s.heap.get? b=some o:=fun b o e=>(I.bs b o e).1
theorem Inv.mod (I:Inv X A3 σ H s):Mod X.K X.mg X.base:=I.ok.mod
theorem Inv.kIn (I:Inv X A3 σ H s):X.K.In s.heap:=I.ok.mod.kin.keeps I.bk
theorem Inv.lt (I:Inv X A3 σ H s):X.env.locals<s.heap.objs.size:=let ⟨_,hn,_⟩:=I.loc;hn.lt
theorem Inv.sz (I:Inv X A3 σ H s):X.s₀.heap.objs.size<=s.heap.objs.size:=Ax0 I.ok.above (Nat.le_of_lt I.lt)
theorem Inv.nofs (I:Inv X A3 σ H s) {a:Addr} (h:s.heap.objs.size<=a):a∉X.fs:=fun hb=>by
 obtain⟨_,o,ho,_⟩:=I.ok.funs.mem hb;exact absurd (Au0 (Heap.lt_size ho) (Ax0 I.sz h)) (Bs0 _)
theorem Inv.cne (I:Inv X A3 σ H s):∀x c,X.env.cells.lookup x=some c->c≠X.env.locals:=fun x c e z=>by
 obtain⟨v,o,ho,hd⟩:=I.cell x c e;obtain⟨m,⟨o',es,ep,ho',hd',_⟩,_⟩:=I.loc;rw[z,ho'] at ho;cases ho;rw[hd'] at hd;cases hd
theorem Inv.funs (I:Inv X A3 σ H s):s.heap.FunFrames X.base X.outer:=by
 have all:∀(l:List Env),(∀b∈frs l,b∈X.fs)->X.s₀.heap.FunFrames X.base l->s.heap.FunFrames X.base l:=by
  intro l;induction l with
  | nil=>intro _ _;trivial
  | cons env r ih=>
    intro hs hl;obtain⟨hk,⟨L,o,hf,hn,ho,hd⟩,hr⟩:=hl;have hL:L∈X.fs:=hs L (by unfold frs;rw[List.filterMap_cons,hf];exact Cf0);obtain⟨sl,e⟩:=I.base.slot L o ho (I.ok.frf L hL) hL fun z=>I.ok.exfs L z hL
    exact⟨hk,⟨L,_,hf,hn,e,hd⟩,ih (fun b hb=>hs b (by unfold frs;rw[List.filterMap_cons,hf];exact Bw0 _ hb)) hr⟩
 exact all X.outer (fun _ hb=>hb) I.ok.funs
theorem Inv.stack (I:Inv X A3 σ H s):s.heap.FunFrames X.base X.stack:=by
 rcases I.ok.stk with e | ⟨e,hf⟩
 ·rw[e];exact I.funs
 ·rw[e]
  obtain⟨m,hn,_⟩:=I.loc;refine .cons (by rw[I.ok.kind];decide) hf hn ?_ I.funs;exact Heap.get?_none_of_le (Ax0 I.ok.bsz I.ok.above)
theorem Inv.stkSub (I:Inv X A3 σ H s):∀b∈frs X.stack,b∈X.env.locals::X.fs:=fun b hb=>by
 rcases I.ok.stk with e | ⟨e,hf⟩
 ·rw[e] at hb;exact Bw0 _ hb
 ·rw[e] at hb
  unfold frs at hb;rw[List.filterMap_cons,hf] at hb;exact hb
theorem Inv.stkFree (I:Inv X A3 σ H s):∀b∈frs X.stack,H b=none:=fun b hb=>by
 rcases Ai0.mp (I.stkSub b hb) with e | hb
 ·rw[e];exact I.free
 ·obtain⟨_,o,ho,_⟩:=I.ok.funs.mem hb
  exact I.base.free b o ho (I.ok.frf b hb) fun z=>I.ok.exfs b z hb
theorem Inv.step {g':Array GenState} {t':Nat} {d':Drawn} {ch:List Addr} (I:Inv X A3 σ H s)
 (hch:∀b∈ch,(b∈X.ex\/X.s₀.heap.objs.size<=b)/\b≠X.env.locals/\(∀x c,X.env.cells.lookup x=some c->c≠b)/\∀p∈X.pn++A3,p.1≠b)
 (keep:∀b o,b≠X.env.locals->b∉X.fs->b∉ch->s.heap.get? b=some o->H b=none->h'.get? b=some o)
 (slot:∀b o,b≠X.env.locals->b∈X.fs->b∉ch->s.heap.get? b=some o->H b=none->∃sl,h'.get? b=some { o with slots:=sl }) (free:∀b o,b∉ch->s.heap.get? b=some o->H b=none->H' b=none)
 (there:∀b o,b∉ch->s.heap.get? b=some o->∃o',h'.get? b=some o')
 (tups:∀b xs,H b=some (.tup xs)->H' b=some (.tup xs)) (frzs:∀b o u,H b=some (.frz o u)->H' b=some (.frz o u)) (tbls:∀b ps,H b=some (.tbl ps)->∃more,H' b=some (.tbl (ps++more)))
 (ns:∀m,s.heap.Ns X.env.locals m->h'.Ns X.env.locals m) (hok:HOk X.prog X.w H' h') (hg:AllBare g') :
 Inv X A3 σ H' { s with heap:=h',gens:=g',drawn:=d',toks:=t' }:=by
 have neL:∀b o,X.s₀.heap.get? b=some o->b≠X.env.locals:=fun b o e=>Ao0 (Au0 (Heap.lt_size e) I.ok.above)
 have neC:∀b o,X.s₀.heap.get? b=some o->b∉X.ex->b∉ch:=fun b o e hx hb=>by
  rcases (hch b hb).1 with z | z
  ·exact hx z
  ·exact absurd (Au0 (Heap.lt_size e) z) (Bs0 _)
 have cellK:∀x c,X.env.cells.lookup x=some c->∀v,s.heap.IsCell c v->h'.IsCell c v:=fun x c e v hI1=>by
  obtain⟨o,ho,hd⟩:=hI1;have nch:c∉ch:=fun z=>(hch c z).2.2.1 x c e rfl
  by_cases hc:c∈X.fs
  ·obtain⟨sl,q⟩:=slot c o (I.cne x c e) hc nch ho (I.freeC x c e)
   exact⟨_,q,hd⟩
  ·exact⟨o,keep c o (I.cne x c e) hc nch ho (I.freeC x c e),hd⟩
 refine⟨I.ok,I.os,hg,⟨fun b o e n hb hx=>?_,fun b o e n hb hx=>?_,fun b o e n hx=>?_,fun b o e hx=>?_,fun b xs e=>tups b xs (I.base.tups b xs e),fun b o xs e=>frzs b o xs (I.base.frzs b o xs e),fun b ps e=>?_⟩,?_,fun x c e=>?_,?_,fun x c e=>?_,fun p hp=>?_,hok,I.len⟩
 ·exact keep b o (neL b o e) hb (neC b o e hx) (I.base.keep b o e n hb hx) (I.base.free b o e n hx)
 ·obtain⟨sl,e1⟩:=I.base.slot b o e n hb hx
  obtain⟨sl',e2⟩:=slot b _ (neL b o e) hb (neC b o e hx) e1 (I.base.free b o e n hx);exact⟨sl',e2⟩
 ·obtain⟨o',e1⟩:=I.base.there b o e hx
  exact free b o' (neC b o e hx) e1 (I.base.free b o e n hx)
 ·obtain⟨o',e1⟩:=I.base.there b o e hx
  exact there b o' (neC b o e hx) e1
 ·obtain⟨m1,e1⟩:=I.base.tbls b ps e
  obtain⟨m2,e2⟩:=tbls b _ e1;exact⟨m1++m2,by rw[e2,Array.append_assoc]⟩
 ·obtain⟨m,hn,hl⟩:=I.loc
  refine⟨m,ns m hn,fun i x v e1 e2 e3=>?_⟩;obtain⟨u,r,l⟩:=hl i x v e1 e2 e3;refine⟨u,r,?_⟩;rcases l with l | ⟨k,c,e,z⟩
  ·exact .inl l
  ·exact .inr ⟨k,c,e,cellK x c e _ z⟩
 ·obtain⟨v,z⟩:=I.cell x c e
  exact⟨v,cellK x c e v z⟩
 ·obtain⟨m,⟨o,_,_,ho,_⟩,_⟩:=I.loc
  exact free _ o (fun z=>(hch _ z).2.1 rfl) ho I.free
 ·obtain⟨v,o,ho,hd⟩:=I.cell x c e
  exact free c o (fun z=>(hch c z).2.2.1 x c e rfl) ho (I.freeC x c e)
 ·obtain⟨e,n,ne,nf,d⟩:=I.pin p hp
  have nch:p.1∉ch:=fun z=>(hch p.1 z).2.2.2 p hp rfl
  exact⟨keep p.1 p.2 ne nf nch e n,free p.1 p.2 nch e n,ne,nf,d⟩
theorem Inv.un {t':Nat} (I:Inv X A3 σ H s) (u:Un X.fs [] H H' s.heap h') (hok:HOk X.prog X.w H' h'):Inv X A3 σ H' { s with heap:=h',toks:=t' }:=by
 obtain⟨m,⟨o,es,ep,ho,r⟩,_⟩:=id I.loc;obtain⟨sl,hL⟩:=u.any ho I.free (by simp);exact I.step (g':=s.gens) (d':=s.drawn) (ch:=[]) (fun _ z=>nomatch z) (fun b o _ hb _ e n=>u.keep b o e n hb (by simp)) (fun b o _ hb _ e n=>u.slot b o e n hb (by simp)) (fun b o _ e n=>u.free b o e n (by simp)) (fun b o _ e=>u.there b o e (by simp)) u.tups u.frzs u.tbls (fun m' hm=>by
  obtain⟨o',es',ep',ho',r'⟩:=hm;rw[ho] at ho';cases ho';exact⟨_,es',ep',hL,r'⟩) hok I.bare
theorem Inv.call {g':Array GenState} {t':Nat} {d':Drawn} {ch:List Addr} (I:Inv X A3 σ H s) (u:Un (frs X.stack) ch H H' s.heap h') (hok:HOk X.prog X.w H' h') (hg:AllBare g')
 (hch:∀b∈ch,(b∈X.ex\/X.s₀.heap.objs.size<=b)/\b≠X.env.locals/\(∀x c,X.env.cells.lookup x=some c->c≠b)/\∀p∈X.pn++A3,p.1≠b) :
 Inv X A3 σ H' { s with heap:=h',gens:=g',drawn:=d',toks:=t' }:=by
 obtain⟨m,⟨o,es,ep,ho,r⟩,_⟩:=id I.loc;obtain⟨sl,hL⟩:=u.any ho I.free fun z=>(hch _ z).2.1 rfl
 exact I.step (ch:=ch) hch (fun b o hL hb hc e n=>u.keep b o e n (fun z=>(Ai0.mp (I.stkSub b z)).elim hL hb) hc) (fun b o _ _ hc e n=>u.any e n hc) (fun b o hc e n=>u.free b o e n hc) (fun b o hc e=>u.there b o e hc) u.tups u.frzs u.tbls (fun m' hm=>by
  obtain⟨o',es',ep',ho',r'⟩:=hm;rw[ho] at ho';cases ho';exact⟨_,es',ep',hL,r'⟩) hok hg
theorem Inv.turned {t':Nat} {it:Addr} (I:Inv X A3 σ H s) (k:∀b o,b≠it->s.heap.get? b=some o->h'.get? b=some o) (hn:H it=none) (hL:it≠X.env.locals)
 (h1:it∈X.ex\/X.s₀.heap.objs.size<=it) (h2:∀x c,X.env.cells.lookup x=some c->c≠it) (h3:∀p∈X.pn++A3,p.1≠it):Inv X A3 σ H { s with heap:=h',toks:=t' }:=by
 have nit:∀b u,H b=some u->b≠it:=fun b u e z=>by rw[z,hn] at e;cases e
 refine I.step (g':=s.gens) (d':=s.drawn) (ch:=[it]) (fun b hb=>?_) (fun b o _ _ hc e _=>k b o (fun z=>hc (by simp[z])) e) (fun b o _ _ hc e _=>⟨o.slots,k b o (fun z=>hc (by simp[z])) e⟩) (fun _ _ _ _ n=>n)
  (fun b o hc e=>⟨o,k b o (fun z=>hc (by simp[z])) e⟩) (fun _ _ e=>e) (fun _ _ _ e=>e) (fun b ps e=>⟨#[],by rw[e];simp⟩) (fun m hm=>?_) (fun b u e=>?_) I.bare
 ·have e:b=it:=by simpa using hb
  subst e;exact⟨h1,hL,h2,h3⟩
 ·obtain⟨o,es,ep,ho,r⟩:=hm
  exact⟨o,es,ep,k _ o (Ne.symm hL) ho,r⟩
 ·refine(I.hok b u e).stay (fun c v hc q=>k c v ?_ q) (fun _ q=>q) fun _ _ q=>q
  rcases hc with z | z
  ·rw[z];exact nit b u e
  ·exact nit c _ z
theorem Inv.tok (I:Inv X A3 σ H s) (t:Nat):Inv X A3 σ H { s with toks:=t }:=I.un (h':=s.heap) (t':=t) Un.refl I.hok
theorem Inv.kept {t':Nat} (I:Inv X A3 σ H s) (k:∀b u,s.heap.get? b=some u->h'.get? b=some u):Inv X A3 σ H { s with heap:=h',toks:=t' }:=I.un (Un.kept k) (I.hok.kept k)
theorem Inv.laid {a:Addr} {o:HO} {t':Nat} (I:Inv X A3 σ H s) (k:∀b u,s.heap.get? b=some u->h'.get? b=some u) (hp:s.heap.objs.size<=a) (new:zl8 X.prog X.w (upd H a o) h' a o) :
 Inv X A3 σ (upd H a o) { s with heap:=h',toks:=t' }:=I.un (Un.laid k hp (I.hok.fresh hp)) (I.hok.laid k hp new)
theorem Inv.write {x e:Addr} {o:HO} {t':Nat} (I:Inv X A3 σ H s) (mu:Mut (H x)) (he:e=x\/H e=some (.own x)) (k:∀b u,b≠e->s.heap.get? b=some u->h'.get? b=some u) (heo:∃u,h'.get? e=some u)
 (new:zl8 X.prog X.w (upd H x o) h' x o):Inv X A3 σ (upd H x o) { s with heap:=h',toks:=t' }:=I.un (Un.write mu he k heo) (I.hok.write mu he k heo new)
theorem Inv.pins_of {pins':List (Addr×Obj)} (I:Inv X A3 σ H s) (h:∀p∈pins',s.heap.get? p.1=some p.2/\H p.1=none/\p.1≠X.env.locals/\p.1∉X.fs/\∀v,p.2.data≠.cell v):Inv X pins' σ H s:=
 ⟨I.ok,I.os,I.bare,I.base,I.loc,I.cell,I.free,I.freeC,fun p hp=>(At0.mp hp).elim (fun z=>I.pin p (Br0 _ z)) (h p),I.hok,I.len⟩
theorem xh6 {N:List Str} (hN:N.Nodup) {i j:Nat} {x:Str} (a:N[i]?=some x) (b:N[j]?=some x):i=j:=by
 obtain⟨h1,e1⟩:=Ac0.mp a;obtain⟨h2,e2⟩:=Ac0.mp b;exact(List.getElem_inj hN).mp (e1.trans e2.symm)
theorem yu9 {M:Model} {A:Around} {E:Value->Shared->Prop} {i:Nat} {x:Str} {v:V} {u:Value} {Q:Unit->Shared->Prop} (I:Inv X A3 σ H s) (hN:X.N.Nodup) (hi:X.N[i]?=some x) (hx:Loc X.env.scope x) (r:zf3 v u)
 (h:∀s',Inv X A3 (σ.set i (some v)) H s'->(∃a,Heap.SameBut a s.heap s'.heap/\(a=X.env.locals\/X.env.cells.lookup x=some a))->Q () s') (hf:X.fn x=true\/X.env.scope.names.lookup x=some .local:=by first | exact .inl rfl | exact .inr rfl | assumption):wpAny M A (storeName X.env x u) Q E s:=by
 obtain⟨m,hn,hl⟩:=id I.loc;have hcls:(X.env.scope.kind == .class||(X.env.scope.kind == .module&&X.env.locals != X.env.globals))=false:=by rw[I.ok.kind];rfl
 have hiσ:i<σ.length:=by rw[I.len];exact(Ac0.mp hi).1
 have cne:=I.cne;have tracked:∀{a:Addr} {h':Heap},(∃o,s.heap.get? a=some o/\H a=none)->Heap.SameBut a s.heap h'->HOk X.prog X.w H h':=fun {a h'} ha hs b ob e=>by
  obtain⟨_,_,hfree⟩:=ha;refine(I.hok b ob e).stay (fun c w' hc q=>(hs.2 c ?_).trans q) (fun _ q=>q) fun _ _ q=>q
  rintro rfl;rcases hc with rfl | hc
  ·rw[hfree] at e;cases e
  ·rw[hfree] at hc;cases hc
 rcases hx with hk | hk
 ·refine wpAny_storeName_local hk hn (fun h' hn' hs=>?_) hcls
  obtain⟨oL,_,_,hoL,_⟩:=id hn;refine h _ ⟨I.ok,I.os,I.bare,⟨fun b o e n hb hx=>?_,fun b o e n hb hx=>?_,I.base.free,fun b o e hx=>?_,I.base.tups,I.base.frzs,I.base.tbls⟩,⟨_,hn',fun j y v' e1 e2 e3=>?_⟩,fun y c e=>?_,I.free,I.freeC,fun p hp=>?_,tracked ⟨oL,hoL,I.free⟩ hs,by simpa using I.len⟩ ⟨_,hs,.inl rfl⟩
  ·exact(hs.2 b (Ao0 (Au0 (Heap.lt_size e) I.ok.above))).trans (I.base.keep b o e n hb hx)
  ·obtain⟨sl,e1⟩:=I.base.slot b o e n hb hx
   exact⟨sl,(hs.2 b (Ao0 (Au0 (Heap.lt_size e) I.ok.above))).trans e1⟩
  ·obtain⟨o',e1⟩:=I.base.there b o e hx
   exact⟨o',(hs.2 b (Ao0 (Au0 (Heap.lt_size e) I.ok.above))).trans e1⟩
  ·by_cases hj:j=i
   ·subst hj
    rw[hi] at e1;cases e1;rw[Cg0 hiσ] at e2;cases e2;exact⟨u,r,.inl ⟨hk,by simp⟩⟩
   ·rw[Az0 (Ne.symm hj)] at e2
    obtain⟨u',r',q⟩:=hl j y v' e1 e2 e3;refine⟨u',r',?_⟩;rcases q with⟨k,e⟩ | ⟨k,c,e,z⟩
    ·refine .inl ⟨k,?_⟩
     have:y≠x:=fun e=>hj (xh6 hN e1 (e▸hi))
     simp[this,e]
    ·exact .inr ⟨k,c,e,z.sameBut hs (cne y c e)⟩
  ·obtain⟨w',z⟩:=I.cell y c e
   exact⟨w',z.sameBut hs (cne y c e)⟩
  ·obtain⟨e,n,ne,nf,d⟩:=I.pin p hp
   exact⟨(hs.2 p.1 ne).trans e,n,ne,nf,d⟩
 ·have hfn:X.fn x=true:=by
   rcases hf with z | z
   ·exact z
   ·rw[z] at hk;cases hk
  obtain⟨c,hc⟩:=I.ok.has x (.inl hk);obtain⟨w',z⟩:=I.cell x c hc;refine wpAny_storeName_cell I.ok.kind hk hc z (fun h' hc' hs=>?_);obtain⟨oc,hoc,hocd⟩:=id z;refine h { s with heap:=h' } ⟨I.ok,I.os,I.bare,⟨fun b o e n hb hx=>?_,fun b o e n hb hx=>?_,I.base.free,fun b o e hx=>?_,I.base.tups,I.base.frzs,I.base.tbls⟩,⟨m,hn.sameBut hs (Ne.symm (cne x c hc)),fun j y v' e1 e2 e3=>?_⟩,fun y c' e=>?_,I.free,I.freeC,fun p hp=>?_,tracked ⟨oc,hoc,I.freeC x c hc⟩ hs,by simpa using I.len⟩ ⟨c,hs,.inr hc⟩
  ·exact(hs.2 b (Ao0 (Au0 (Heap.lt_size e) (I.ok.cab x c hfn hc)))).trans (I.base.keep b o e n hb hx)
  ·obtain⟨sl,e1⟩:=I.base.slot b o e n hb hx
   exact⟨sl,(hs.2 b (Ao0 (Au0 (Heap.lt_size e) (I.ok.cab x c hfn hc)))).trans e1⟩
  ·obtain⟨o',e1⟩:=I.base.there b o e hx
   exact⟨o',(hs.2 b (Ao0 (Au0 (Heap.lt_size e) (I.ok.cab x c hfn hc)))).trans e1⟩
  ·by_cases hj:j=i
   ·subst hj
    rw[hi] at e1;cases e1;rw[Cg0 hiσ] at e2;cases e2;exact⟨u,r,.inr ⟨.inl hk,c,hc,hc'⟩⟩
   ·rw[Az0 (Ne.symm hj)] at e2
    obtain⟨u',r',q⟩:=hl j y v' e1 e2 e3;refine⟨u',r',?_⟩;rcases q with q | ⟨k,c',e,z'⟩
    ·exact .inl q
    ·refine .inr ⟨k,c',e,z'.sameBut hs ?_⟩
     rintro rfl;exact hj (xh6 hN e1 (I.ok.inj _ _ _ e hc▸hi))
  ·by_cases hcc:c'=c
   ·subst hcc;exact⟨_,hc'⟩
   ·obtain⟨w2,z2⟩:=I.cell y c' e
    exact⟨w2,z2.sameBut hs hcc⟩
  ·obtain⟨e,n,ne,nf,d⟩:=I.pin p hp
   refine⟨(hs.2 p.1 ?_).trans e,n,ne,nf,d⟩;intro q;rw[q,hoc] at e;have q':oc=p.2:=Option.some.inj e;exact d w' (by rw[<-q'];exact hocd)
theorem zq5 {M:Model} {A:Around} {E:Value->Shared->Prop} {i:Nat} {x:Str} {v:V} {u:Value} {Q:Unit->Shared->Prop} (I:Inv X A3 σ H s) (hN:X.N.Nodup) (hi:X.N[i]?=some x) (hx:Loc X.env.scope x) (r:zf3 v u)
 (h:∀s',Inv X A3 (σ.set i (some v)) H s'->Q () s') (hf:X.fn x=true\/X.env.scope.names.lookup x=some .local:=by first | exact .inl rfl | exact .inr rfl | assumption):wpAny M A (storeName X.env x u) Q E s:=
 yu9 I hN hi hx r (fun s' I' _=>h s' I') hf
theorem Inv.call' {s':Shared} {ch:List Addr} (I:Inv X A3 σ H s) (ho:s'.os=s.os) (u:Un (frs X.stack) ch H H' s.heap s'.heap) (hok:HOk X.prog X.w H' s'.heap) (hg:AllBare s'.gens)
 (hch:∀b∈ch,(b∈X.ex\/X.s₀.heap.objs.size<=b)/\b≠X.env.locals/\(∀x c,X.env.cells.lookup x=some c->c≠b)/\∀p∈X.pn++A3,p.1≠b):Inv X A3 σ H' s':=by
 obtain⟨h',g',d',t',o'⟩:=s';have e:o'=s.os:=ho;subst e;exact I.call (g':=g') (t':=t') (d':=d') u hok hg hch
end
noncomputable abbrev XK:=Value->Option Addr->Hp->Prop
noncomputable abbrev St:=List (Option V)
noncomputable abbrev VK:=V->Hp->Prop
noncomputable abbrev TE:=St->Hp->VK->Prop
noncomputable abbrev TT:=St->Hp->(Bool->Hp->Prop)->Prop
noncomputable abbrev TA:=St->Hp->(List V->Hp->Prop)->Prop
structure xl0 where
 nx:St->Hp->Prop
 rt:VK
 bk:St->Hp->Prop:=fun _ _=>False
 ct:St->Hp->Prop:=fun _ _=>False
noncomputable abbrev TS:=xl0->St->Hp->Prop
noncomputable def EP (X:Cx) (A3:List (Addr×Obj)) (σ:St) (Q:VK) (u:Value) (s':Shared):Prop:=∃v H',Inv X A3 σ H' s'/\zf3 v u/\Q v H'
noncomputable def TP (X:Cx) (A3:List (Addr×Obj)) (σ:St) (Q:Bool->Hp->Prop) (b:Bool) (s':Shared):Prop:=∃H',Inv X A3 σ H' s'/\Q b H'
noncomputable def AP (X:Cx) (A3:List (Addr×Obj)) (σ:St) (Q:List V->Hp->Prop) (us:List Value) (s':Shared):Prop:=∃vs H',Inv X A3 σ H' s'/\zg1 vs us/\Q vs H'
set_option tactic.hygienic true in
noncomputable def SP (X:Cx) (A3:List (Addr×Obj)) (D:xl0) (f:Flow) (s':Shared):Prop:=
 match f with
 | .next=>∃σ' H',Inv X A3 σ' H' s'/\D.nx σ' H'
 | .brk=>∃σ' H',Inv X A3 σ' H' s'/\D.bk σ' H'
 | .cont=>∃σ' H',Inv X A3 σ' H' s'/\D.ct σ' H'
 | .ret u=>∃v σ' H',Inv X A3 σ' H' s'/\zf3 v u/\D.rt v H'
noncomputable def PE (X:Cx) (e:Expr) (t:TE):Prop:=
 ∀(A3:List (Addr×Obj)) (s:Shared) (σ:St) (H:Hp) (Q:VK),Inv X A3 σ H s->t σ H Q->wpAny (model X.prog X.w) X.A (eval e X.env) (EP X A3 σ Q) X.xe s
noncomputable def PT (X:Cx) (e:Expr) (t:TT):Prop:=
 ∀(A3:List (Addr×Obj)) (s:Shared) (σ:St) (H:Hp) (Q:Bool->Hp->Prop),Inv X A3 σ H s->t σ H Q->wpAny (model X.prog X.w) X.A (isTrue e X.env (eval e X.env)) (TP X A3 σ Q) X.xe s
noncomputable def PW (X:Cx) (e:Expr) (t:TT):Prop:=
 ∀(whole:Sem Value) (A3:List (Addr×Obj)) (s:Shared) (σ:St) (H:Hp) (Q:Bool->Hp->Prop),Inv X A3 σ H s->t σ H Q->wpAny (model X.prog X.w) X.A (isTrue e X.env whole) (TP X A3 σ Q) X.xe s
theorem PW.pt {X:Cx} {e:Expr} {t:TT} (h:PW X e t):PT X e t:=h _
noncomputable def PA (X:Cx) (es:List Expr) (t:TA):Prop:=
 ∀(pos:Pos) (A3:List (Addr×Obj)) (s:Shared) (σ:St) (H:Hp) (Q:List V->Hp->Prop),Inv X A3 σ H s->t σ H Q->wpAny (model X.prog X.w) X.A (spliced (backTo pos (starEach es X.env))) (AP X A3 σ Q) X.xe s
noncomputable def PS (X:Cx) (st:Stmt) (t:TS):Prop:=
 ∀(A3:List (Addr×Obj)) (s:Shared) (σ:St) (H:Hp) (D:xl0),Inv X A3 σ H s->t D σ H->wpAny (model X.prog X.w) X.A (exec st X.env) (SP X A3 D) X.xe s
noncomputable def PSs (X:Cx) (st:List Stmt) (t:TS):Prop:=
 ∀(A3:List (Addr×Obj)) (s:Shared) (σ:St) (H:Hp) (D:xl0),Inv X A3 σ H s->t D σ H->wpAny (model X.prog X.w) X.A (execs st X.env) (SP X A3 D) X.xe s
theorem thn {α:Type} {t:Sem α} {Q Q':α->Shared->Prop} {M:Model} {A:Around} {E:Value->Shared->Prop} {s:Shared} (h:wpAny M A t Q E s) (hQ:∀a s,Q a s->Q' a s):wpAny M A t Q' E s:=Ah1 h hQ fun _ _ x=>x
section
variable {X:Cx}
noncomputable def xm2 (i:Nat):TE:=fun σ H Q=>∃v,σ[i]?=some (some v)/\Q v H
noncomputable def tC (v:V):TE:=fun _ H Q=>Q v H
theorem wy1 {i:Nat} {x:Str} {pos:Pos} (hN:X.N[i]?=some x) (hv:Vis X.env.scope x) (hd:(x == ("__debug__" : Str))=false:=by decide) (hcd:(x == ("__classdict__" : Str))=false:=by decide):PE X (.Name x pos) (xm2 i):=by
 intro A3 s σ H Q I h;obtain⟨v,e,h⟩:=h;obtain⟨m,hn,hl⟩:=I.loc;obtain⟨u,r,l⟩:=hl i x v hN e hv;have fin:EP X A3 σ Q u s:=⟨v,H,I,r,h⟩;rcases l with⟨hk,hm⟩ | ⟨hk,c,hc,hcell⟩
 ·exact wpAny_Name (wpAny_loadName_local I.ok.kind hk hn hm fin) hd
 ·rcases hk with hk | hk
  ·exact wpAny_Name (wpAny_loadName_cell I.ok.kind hk hc hcell fin) hd
  ·exact wpAny_Name (wpAny_loadName_free I.ok.kind hk hc hcell fin hcd) hd
theorem zk1 {i j pos}:PE X (.Constant (.int i) j pos) (tC (.int i)):=fun _ _ _ H _ I h=>wpAny_Constant_int ⟨.int i,H,I.tok _,⟨_,rfl⟩,h⟩
theorem vi5 {b j pos}:PE X (.Constant (.bool b) j pos) (tC (.bl b)):=fun _ _ _ H _ I h=>Constant_bool ⟨.bl b,H,I,rfl,h⟩
theorem wy6 {j pos}:PE X (.Constant .none j pos) (tC .non):=fun _ _ _ H _ I h=>Constant_none ⟨.non,H,I,rfl,h⟩
theorem yc3 {x j pos}:PE X (.Constant (.str x) j pos) (tC (.str x)):=fun _ _ _ H _ I h=>Calls.Constant_str ⟨.str x,H,I.tok _,⟨_,rfl⟩,h⟩
noncomputable def Gl (X:Cx) (x:Str):Prop:=X.env.kindOf x=some .globalImplicit
theorem xv0 {E:Value->Shared->Prop} {A3:List (Addr×Obj)} {s:Shared} {σ:St} {H:Hp} {x:Str} {u:Value} {pos:Pos} {Q:Value->Shared->Prop} (I:Inv X A3 σ H s) (hg:Gl X x) (hm:X.mg x=some u) (h:Q u s)
 (hd:(x == ("__debug__" : Str))=false:=by decide):wpAny (model X.prog X.w) X.A (eval (.Name x pos) X.env) Q E s:=
 Calls.Name_function_global I.ok.kind hg (Calls.loadGlobal_global (by rw[I.ok.glob];exact I.mod.glob.keeps I.bk) hm h) hd
theorem yk1 {E:Value->Shared->Prop} {A3:List (Addr×Obj)} {s:Shared} {σ:St} {H:Hp} {x:Str} {u:Value} {pos:Pos} {Q:Value->Shared->Prop} (I:Inv X A3 σ H s) (hg:Gl X x) (hm:X.mg x=none) (hv:bootBuiltins x=some u) (h:Q u s)
 (hn:x≠"__name__":=by decide) (hd:(x == ("__debug__" : Str))=false:=by decide):wpAny (model X.prog X.w) X.A (eval (.Name x pos) X.env) Q E s:=by
 obtain⟨mb,h1,h2⟩:=I.mod.blt;exact Calls.Name_function_global I.ok.kind hg (Calls.loadGlobal_builtin (by rw[I.ok.glob];exact I.mod.glob.keeps I.bk) hm (by rw[I.ok.blt];exact h1.keeps I.bk) ((h2 x hn).trans hv) h) hd
theorem xt4 {x:Str} {v:V} {u:Value} {pos:Pos} (hg:Gl X x) (hm:X.mg x=some u) (r:zf3 v u) (hd:(x == ("__debug__" : Str))=false:=by decide):PE X (.Name x pos) (tC v):=
 fun _ _ _ H _ I h=>xv0 I hg hm ⟨v,H,I,r,h⟩ hd
theorem wo9 {x:Str} {v:V} {u:Value} {pos:Pos} (hg:Gl X x) (hm:X.mg x=none) (hv:bootBuiltins x=some u) (r:zf3 v u) (hn:x≠"__name__":=by decide) (hd:(x == ("__debug__" : Str))=false:=by decide):PE X (.Name x pos) (tC v):=
 fun _ _ _ H _ I h=>yk1 I hg hm hv ⟨v,H,I,r,h⟩ hn hd
variable {a b:Expr} {ta tb:TE} {pos:Pos}
noncomputable def PC (X:Cx) (op:CmpOp) (a b:Expr) (t:TE):Prop:=
 ∀(A3:List (Addr×Obj)) (s:Shared) (σ:St) (H:Hp) (Q:VK),Inv X A3 σ H s->t σ H Q->
  wpAny (model X.prog X.w) X.A (eval a X.env) (fun v s₁=>wpAny (model X.prog X.w) X.A (eval b X.env) (fun u s₂=>wpAny (model X.prog X.w) X.A (compareOp op v u) (EP X A3 σ Q) X.xe s₂) X.xe s₁) X.xe s
noncomputable def tB (t:TE):TT:=fun σ H Q=>t σ H fun x H1=>∃c,x=.bl c/\Q c H1
theorem wy7 {op:CmpOp} {t:TE} (h:PC X op a b t) (h1:behindInMarks op b=false:=by first | exact nobehind _ (by decide) (by decide) | rfl):PE X (.Compare a [op] [b] pos) t:=fun A3 s σ H Q I hw=>wpAny_Compare1 (h A3 s σ H Q I hw) h1
theorem wx4 {e:Expr} {t:TE} (h:PE X e t) (he:∀whole,isTrue e X.env whole=(do let v <-whole;standAt e.pos;holding [v] (truthy v)):=by intro _;rfl):PT X e (tB t):=by
 intro A3 s σ H Q I hw;refine isTrue_plain (thn (h A3 s σ H _ I hw) fun v s1 hI45=>?_) (he _);obtain⟨x,H1,I1,r1,q1⟩:=hI45;obtain⟨d,rfl,q⟩:=q1;cases r1;exact Ai1 ⟨H1,I1,q⟩
variable {tA tB':TT} {zy3:List Expr}
noncomputable def vp6 (t u:TT):TT:=fun σ H Q=>t σ H fun c H1=>if c=true then u σ H1 Q else Q false H1
noncomputable def tOr (t u:TT):TT:=fun σ H Q=>t σ H fun c H1=>if c=true then Q true H1 else u σ H1 Q
noncomputable def vp0 (t:TT):TT:=fun σ H Q=>t σ H fun c H1=>Q (!c) H1
theorem pw_and1 (ha:PT X a tA):PW X (.BoolOp .And [a] pos) tA:=by
 intro wh A3 s σ H Q I h;refine isTrue_and (thn (ha A3 s σ H Q I h) fun c s1 e=>?_);cases c with
 | true=>exact isTrue_and_nil e
 | false=>exact e
theorem pw_or1 (ha:PT X a tA):PW X (.BoolOp .Or [a] pos) tA:=by
 intro wh A3 s σ H Q I h;refine isTrue_or (thn (ha A3 s σ H Q I h) fun c s1 e=>?_);cases c with
 | false=>exact isTrue_or_nil e
 | true=>exact e
theorem pw_and (ha:PT X a tA) (hb:PW X (.BoolOp .And (b::zy3) pos) tB'):PW X (.BoolOp .And (a::b::zy3) pos) (vp6 tA tB'):=by
 intro wh A3 s σ H Q I h;refine isTrue_and (thn (ha A3 s σ H _ I h) fun c s1 hI46=>?_);obtain⟨H1,I1,q1⟩:=hI46;cases c with
 | true=>exact hb wh A3 s1 σ H1 Q I1 q1
 | false=>exact⟨H1,I1,q1⟩
theorem pw_or (ha:PT X a tA) (hb:PW X (.BoolOp .Or (b::zy3) pos) tB'):PW X (.BoolOp .Or (a::b::zy3) pos) (tOr tA tB'):=by
 intro wh A3 s σ H Q I h;refine isTrue_or (thn (ha A3 s σ H _ I h) fun c s1 hI47=>?_);obtain⟨H1,I1,q1⟩:=hI47;cases c with
 | true=>exact⟨H1,I1,q1⟩
 | false=>exact hb wh A3 s1 σ H1 Q I1 q1
theorem wx5 (ha:PT X a tA):PT X (.UnaryOp .Not a pos) (vp0 tA):=by
 intro A3 s σ H Q I h;exact isTrue_not (ha A3 s σ H (fun c H1=>Q (!c) H1) I h)
noncomputable def vh2 (ta tb:TE):TE:=fun σ H Q=>ta σ H fun x H1=>∃c,x=.bl c/\if c=true then tb σ H1 Q else Q (.bl false) H1
noncomputable def vo9 (ta tb:TE):TE:=fun σ H Q=>ta σ H fun x H1=>∃c,x=.bl c/\if c=true then Q (.bl true) H1 else tb σ H1 Q
noncomputable def vg8 (ta:TE):TE:=fun σ H Q=>ta σ H fun x H1=>∃c,x=.bl c/\Q (.bl (!c)) H1
theorem wy4 {op} {t:TE} (h:PE X a t):PE X (.BoolOp op [a] pos) t:=fun A3 s σ H Q I hw=>BoolOp_one (h A3 s σ H Q I hw)
theorem wy8 (ha:PE X a ta) (hb:PE X (.BoolOp .And (b::zy3) pos) tb):PE X (.BoolOp .And (a::b::zy3) pos) (vh2 ta tb):=by
 intro A3 s σ H Q I h;refine BoolOp_and (thn (ha A3 s σ H _ I h) fun v s1 hI48=>?_);obtain⟨x,H1,I1,r1,q1⟩:=hI48;obtain⟨c,rfl,q1⟩:=q1;cases r1;refine Ai1 ?_;cases c with
 | true=>exact hb A3 s1 σ H1 Q I1 q1
 | false=>exact⟨.bl false,H1,I1,rfl,q1⟩
theorem vi3 (ha:PE X a ta) (hb:PE X (.BoolOp .Or (b::zy3) pos) tb):PE X (.BoolOp .Or (a::b::zy3) pos) (vo9 ta tb):=by
 intro A3 s σ H Q I h;refine BoolOp_or (thn (ha A3 s σ H _ I h) fun v s1 hI49=>?_);obtain⟨x,H1,I1,r1,q1⟩:=hI49;obtain⟨c,rfl,q1⟩:=q1;cases r1;refine Ai1 ?_;cases c with
 | false=>exact hb A3 s1 σ H1 Q I1 q1
 | true=>exact⟨.bl true,H1,I1,rfl,q1⟩
theorem wy5 (ha:PE X a ta):PE X (.UnaryOp .Not a pos) (vg8 ta):=by
 intro A3 s σ H Q I h;refine UnaryOp_ (thn (ha A3 s σ H _ I h) fun v s1 hI50=>?_);obtain⟨x,H1,I1,r1,q1⟩:=hI50;obtain⟨c,rfl,q1⟩:=q1;cases r1;exact not_of (Ai1 ⟨.bl (!c),H1,I1,rfl,q1⟩)
end
noncomputable def SqL (K:PySem.W.Frag) (H:Hp) (a:Addr) (xs:List V):Prop:=
 Rd H a (.lst xs)\/
  ∃(o:Obj) (its:Array Value) (n:Nat),K.lookup a=some o/\o.cls=.type "list"/\o.dict=none/\o.data=.seq its n/\its.size<=sizeLine/\zg1 xs its.toList
noncomputable def SqT (K:PySem.W.Frag) (H:Hp) (a:Addr) (xs:List V):Prop:=
 Rd H a (.tup xs)\/
  ∃(o:Obj) (its:Array Value) (n:Nat),K.lookup a=some o/\o.cls=.type "tuple"/\o.data=.seq its n/\its.size<=sizeLine/\zg1 xs its.toList
noncomputable def vr0:Value->Option V
 | .none=>some .non
 | .bool b=>some (.bl b)
 | .int i _=>some (.int i)
 | .str x _=>some (.str x)
 | .bytes b _=>some (.byt b)
 | .float b _=>some (.flt b)
 | .ref a=>some (.ref a)
 | .type n=>some (.ty n)
 | _=>none
theorem zf3.abs {x:V} {u:Value} (r:zf3 x u):vr0 u=some x:=by
 cases x with
 | non=>cases r;rfl
 | bl _=>cases r;rfl
 | int _=>obtain⟨t,rfl⟩:=r;rfl
 | str _=>obtain⟨t,rfl⟩:=r;rfl
 | byt _=>obtain⟨t,rfl⟩:=r;rfl
 | flt _=>obtain⟨t,rfl⟩:=r;rfl
 | ref _=>cases r;rfl
 | ty _=>cases r;rfl
theorem zf3.inj {x y:V} {u:Value} (r:zf3 x u) (q:zf3 y u):x=y:=Option.some.inj (r.abs.symm.trans q.abs)
theorem zg1.inj:∀{xs ys:List V} {us:List Value},zg1 xs us->zg1 ys us->xs=ys
 | _,_,_,.nil,.nil=>rfl
 | _,_,_,.cons r t,.cons r' t'=>by rw[r.inj r',zg1.inj t t']
section
variable {X:Cx} {A3:List (Addr×Obj)} {σ:St} {H:Hp} {s:Shared} {a:Addr} {xs ys:List V}
theorem SqL.of {K:PySem.W.Frag} (h:H a=some (.lst xs)):SqL K H a xs:=.inl (.inl h)
theorem SqT.of {K:PySem.W.Frag} (h:H a=some (.tup xs)):SqT K H a xs:=.inl (.inl h)
theorem Inv.list (I:Inv X A3 σ H s) (h:SqL X.K H a xs):∃its:List Value,zg1 xs its/\PlainL s.heap a its.toArray/\xs.length<=sizeLine:=by
 rcases h with h | ⟨o,its,n,hk,hc,hd,hs,hz,r⟩
 ·obtain⟨z,its,n,r,e⟩:=h.ok I.hok
  exact⟨its,r,⟨_,n,e,rfl,rfl,rfl⟩,z⟩
 ·refine⟨its.toList,r,⟨o,n,I.kIn a o hk,hc,hd,by simpa using hs⟩,?_⟩
  have e:=r.length;simp only[Bp0] at e;omega
theorem Inv.tuple (I:Inv X A3 σ H s) (h:SqT X.K H a xs):∃its:List Value,zg1 xs its/\IsTup s.heap a its.toArray/\xs.length<=sizeLine:=by
 rcases h with h | ⟨o,its,n,hk,hc,hs,hz,r⟩
 ·obtain⟨z,its,r,p⟩:=h.ok I.hok
  exact⟨its,r,p,z⟩
 ·refine⟨its.toList,r,⟨o,I.kIn a o hk,hc,n,by simpa using hs⟩,?_⟩
  have e:=r.length;simp only[Bp0] at e;omega
theorem Inv.list_inj (I:Inv X A3 σ H s) (h:SqL X.K H a xs) (h':SqL X.K H a ys):xs=ys:=by
 obtain⟨its,r,⟨o,n,e,_,_,d⟩,_⟩:=I.list h;obtain⟨its',r',⟨o',n',e',_,_,d'⟩,_⟩:=I.list h';rw[e] at e';cases e';rw[d] at d';injection d' with d1 _
 have:its=its':=by simpa using congrArg Array.toList d1
 subst this;exact r.inj r'
theorem Inv.tuple_inj (I:Inv X A3 σ H s) (h:SqT X.K H a xs) (h':SqT X.K H a ys):xs=ys:=by
 obtain⟨its,r,⟨o,e,_,n,d⟩,_⟩:=I.tuple h;obtain⟨its',r',⟨o',e',_,n',d'⟩,_⟩:=I.tuple h';rw[e] at e';cases e';rw[d] at d';injection d' with d1 _
 have:its=its':=by simpa using congrArg Array.toList d1
 subst this;exact r.inj r'
end
noncomputable abbrev Cx.wish (X:Cx) (E:Value->Shared->Prop):Cx:={ X with xe:=E }
noncomputable abbrev Cx.nox (X:Cx):Cx:=X.wish fun _ _=>False
theorem Cx.Ok.wish {X:Cx} (ok:X.Ok) (E:Value->Shared->Prop):(X.wish E).Ok:=
 ⟨ok.mod,ok.kind,ok.glob,ok.blt,ok.above,ok.inj,ok.has,ok.cab,ok.hd,ok.frames,ok.stk,ok.exf,ok.bs,ok.bsz,ok.noex,ok.exfs,ok.funs,ok.frf⟩
theorem Cx.Ok.unwish {X:Cx} {E:Value->Shared->Prop} (ok:(X.wish E).Ok):X.Ok:=
 ⟨ok.mod,ok.kind,ok.glob,ok.blt,ok.above,ok.inj,ok.has,ok.cab,ok.hd,ok.frames,ok.stk,ok.exf,ok.bs,ok.bsz,ok.noex,ok.exfs,ok.funs,ok.frf⟩
section
variable {X:Cx} {A3:List (Addr×Obj)} {σ:St} {H:Hp} {s:Shared} {E:Value->Shared->Prop}
theorem Inv.wish (I:Inv X A3 σ H s) (E:Value->Shared->Prop):Inv (X.wish E) A3 σ H s:=⟨I.ok.wish E,I.os,I.bare,I.base,I.loc,I.cell,I.free,I.freeC,I.pin,I.hok,I.len⟩
theorem Inv.unwish (I:Inv (X.wish E) A3 σ H s):Inv X A3 σ H s:=⟨I.ok.unwish,I.os,I.bare,I.base,I.loc,I.cell,I.free,I.freeC,I.pin,I.hok,I.len⟩
set_option tactic.hygienic true in
theorem SP.unwish {D:xl0} {f:Flow} {s':Shared} (h:SP (X.wish E) A3 D f s'):SP X A3 D f s':=by
 cases f with
 | next=>obtain⟨σ',H',I,q⟩:=h;exact⟨σ',H',I.unwish,q⟩
 | brk=>obtain⟨σ',H',I,q⟩:=h;exact⟨σ',H',I.unwish,q⟩
 | cont=>obtain⟨σ',H',I,q⟩:=h;exact⟨σ',H',I.unwish,q⟩
 | ret u=>obtain⟨v,σ',H',I,r,q⟩:=h;exact⟨v,σ',H',I.unwish,r,q⟩
theorem PSs.nox {st:List Stmt} {t:TS} (h:PSs X.nox st t):PSs X st t:=fun A3 s σ H D I hw=>
 Ah1 (h A3 s σ H D (I.wish _) hw) (fun _ _ q=>q.unwish) fun _ _ z=>False.elim z
end
section
variable {X:Cx} {st:Stmt} {zy3:List Stmt} {t u:TS} {e:Expr} {te:TE} {pos:Pos}
noncomputable def vg9:TS:=fun D σ H=>D.nx σ H
noncomputable def vo6 (t u:TS):TS:=fun D σ H=>t { D with nx:=u D } σ H
theorem xc2:PSs X [] vg9:=fun _ _ σ H _ I h=>wpAny_execs_nil ⟨σ,H,I,h⟩
set_option tactic.hygienic true in
theorem zj0 (h1:PS X st t) (h2:PSs X zy3 u):PSs X (st::zy3) (vo6 t u):=by
 intro A3 s σ H D I h;refine wpAny_execs_cons (thn (h1 A3 s σ H { D with nx:=u D } I h) fun f s1 q=>?_);cases f with
 | next=>
   obtain⟨σ',H',I',q⟩:=q;exact h2 A3 s1 σ' H' D I' q
 | ret v=>exact q
 | brk=>exact q
 | cont=>exact q
set_option tactic.hygienic true in
theorem yi6 (h1:PS X st t):PSs X [st] t:=by
 intro A3 s σ H D I h;refine wpAny_execs_cons (thn (h1 A3 s σ H D I h) fun f s1 q=>?_);cases f with
 | next=>exact wpAny_execs_nil q
 | ret v=>exact q
 | brk=>exact q
 | cont=>exact q
theorem Inv.quiet {A3:List (Addr×Obj)} {σ:St} {H:Hp} {s:Shared} (I:Inv X A3 σ H s):interactive X.env=false:=by simp[interactive,I.ok.kind]
noncomputable def vh0 (te:TE):TS:=fun D σ H=>te σ H fun _ H1=>D.nx σ H1
theorem wo2 (he:PE X e te) (hs:swapsWith e none pos.line X.env=pure false:=by rfl):PS X (.Expr e pos) (vh0 te):=by
 intro A3 s σ H D I h;exact wpAny_Expr_any (thn (he A3 s σ H _ I h) fun v s1 ⟨x,H1,I1,r1,q1⟩=>⟨σ,H1,I1,q1⟩) I.quiet hs
noncomputable def vo7 (te:TE):TS:=fun D σ H=>te σ H D.rt
theorem yv8 (he:PE X e te):PS X (.Return (some e) pos) (vo7 te):=by
 intro A3 s σ H D I h;exact wpAny_Return_some (thn (he A3 s σ H _ I h) fun v s1 ⟨x,H1,I1,r1,q1⟩=>⟨x,σ,H1,I1,r1,q1⟩)
noncomputable def vp2 (c:TT) (t u:TS):TS:=fun D σ H=>c σ H fun b H1=>if b=true then t D σ H1 else u D σ H1
theorem wo1 {c:Expr} {a b:List Stmt} {tc:TT} (hc:PT X c tc) (ha:PSs X a t) (hb:PSs X b u):PS X (.If c a b pos) (vp2 tc t u):=by
 intro A3 s σ H D I h;refine wpAny_If (thn (hc A3 s σ H _ I h) fun d s1 hI51=>?_);obtain⟨H1,I1,q1⟩:=hI51;cases d with
 | true=>exact ha A3 s1 σ H1 D I1 q1
 | false=>exact hb A3 s1 σ H1 D I1 q1
end
noncomputable abbrev TG:=V->St->Hp->(St->Hp->Prop)->Prop
noncomputable abbrev TGs:=List V->St->Hp->(St->Hp->Prop)->Prop
noncomputable def PG (X:Cx) (target:Expr) (t:TG):Prop:=
 ∀(A3:List (Addr×Obj)) (s:Shared) (σ:St) (H:Hp) (v:V) (u:Value) (Q:St->Hp->Prop),Inv X A3 σ H s->zf3 v u->t v σ H Q->
  wpAny (model X.prog X.w) X.A (assign target X.env u) (fun _ s'=>∃σ' H',Inv X A3 σ' H' s'/\Q σ' H') X.xe s
noncomputable def PGs (X:Cx) (ts:List Expr) (t:TGs):Prop:=
 ∀(A3:List (Addr×Obj)) (s:Shared) (σ:St) (H:Hp) (vs:List V) (us:List Value) (Q:St->Hp->Prop),Inv X A3 σ H s->zg1 vs us->t vs σ H Q->
  wpAny (model X.prog X.w) X.A (assignInOrder ((assignEach ts X.env).map (·.2)) us) (fun _ s'=>∃σ' H',Inv X A3 σ' H' s'/\Q σ' H') X.xe s
noncomputable abbrev vl1:=V->V->V->Hp->(Hp->Prop)->Prop
noncomputable def vo4 (X:Cx) (t:vl1):Prop:=
 ∀(A3:List (Addr×Obj)) (s:Shared) (σ:St) (H:Hp) (o i v:V) (ov iv u:Value) (Q:Hp->Prop),Inv X A3 σ H s->zf3 o ov->zf3 i iv->zf3 v u->t o i v H Q->
  wpAny (model X.prog X.w) X.A (setItem ov iv u) (fun _ s'=>∃H',Inv X A3 σ H' s'/\Q H') X.xe s
noncomputable abbrev TIp:=V->V->Hp->VK->Prop
noncomputable def PIp (X:Cx) (op:Operator) (t:TIp):Prop:=
 ∀(A3:List (Addr×Obj)) (s:Shared) (σ:St) (H:Hp) (x y:V) (v u:Value) (Q:VK),Inv X A3 σ H s->zf3 x v->zf3 y u->t x y H Q->
  wpAny (model X.prog X.w) X.A (inplaceOp op v u) (EP X A3 σ Q) X.xe s
section
variable {X:Cx} {pos:Pos}
noncomputable def xo2 (i:Nat):TG:=fun v σ H Q=>Q (σ.set i (some v)) H
theorem yr8 {i:Nat} {x:Str} (hN:X.N.Nodup) (hi:X.N[i]?=some x) (hx:Loc X.env.scope x) (hf:X.fn x=true\/X.env.scope.names.lookup x=some .local:=by first | exact .inl rfl | exact .inr rfl | assumption):PG X (.Name x pos) (xo2 i):=by
 intro A3 s σ H v u Q I r h;exact wpAny_assign_Name (zq5 I hN hi hx r (fun s' I'=>⟨_,H,I',h⟩) hf)
noncomputable def vq3:TGs:=fun vs σ H Q=>vs=[]/\Q σ H
noncomputable def vj9 (t:TG) (u:TGs):TGs:=fun vs σ H Q=>∃v r,vs=v::r/\t v σ H fun σ' H'=>u r σ' H' Q
theorem xc4:PGs X [] vq3:=by
 intro A3 s σ H vs us Q I r h;obtain⟨e,h⟩:=h;subst e;cases r;exact assignInOrder_nil ⟨σ,H,I,h⟩
theorem yc2 {e:Expr} {es:List Expr} {t:TG} {u:TGs} (h1:PG X e t) (h2:PGs X es u)
 (hs:(assignEach (e::es) X.env).map (·.2)=assign e X.env::(assignEach es X.env).map (·.2):=by rfl):PGs X (e::es) (vj9 t u):=by
 intro A3 s σ H vs us Q I r h;obtain⟨v,vr,e1,h⟩:=h;subst e1;cases r with
 | cons r rr=>
   rw[hs];refine assignInOrder_cons (thn (h1 A3 s σ H _ _ _ I r h) fun _ s1 hI52=>?_);obtain⟨σ1,H1,I1,q1⟩:=hI52;exact h2 A3 s1 σ1 H1 _ _ Q I1 rr q1
noncomputable def vq2 (K:PySem.W.Frag) (n:Nat) (t:TGs):TG:=fun v σ H Q=>∃a xs,v=.ref a/\SqT K H a xs/\xs.length=n/\t xs σ H Q
theorem xt1 {es:List Expr} {k:Nat} {t:TGs} {n:Nat} (hc:X.calm=true) (h:PGs X es t)
 (hn:(assignEach es X.env).length=n:=by rfl) (hst:(assignEach es X.env).findIdx? (·.1)=none:=by rfl):PG X (.Tuple es k pos) (vq2 X.K n t):=by
 intro A3 s σ H v u Q I r hw;obtain⟨a,xs,e1,hq,hl,hw⟩:=hw;subst e1;cases r;obtain⟨its,rv,ht,hz⟩:=I.tuple hq;refine assign_Tuple_tuple (I.ok.hd hc) ht (by simp[hn,<-hl,rv.length]) hst fun h' hx=>?_
 have I1:Inv X A3 σ H { s with heap:=h' }:=I.kept (t':=s.toks) fun b o e=>hx b o (Ao0 (Heap.lt_size e)) e
 exact h A3 _ σ H xs _ Q I1 (by simpa using rv) hw
noncomputable def vm9 (to ti:TE) (t:vl1):TG:=fun v σ H Q=>to σ H fun o H1=>ti σ H1 fun i H2=>t o i v H2 fun H3=>Q σ H3
theorem xt2 {o i:Expr} {to ti:TE} {t:vl1} (ho:PE X o to) (hi:PE X i ti) (hs:vo4 X t)
 (ha:∀v,assign (.Subscript o i pos) X.env v=(do
  let ov <-holding [v] (eval o X.env)
  let iv <-holding [v,ov] (eval i X.env)
  standAt pos
  holding [v,ov,iv] (setItem ov iv v)
  release [v,ov,iv] []):=by intro _;rfl):PG X (.Subscript o i pos) (vm9 to ti t):=by
 intro A3 s σ H v u Q I r h;rw[ha];refine Aa1 (wpAny_holding (thn (ho A3 s σ H _ I h) fun ov s1 hI53=>?_));obtain⟨x,H1,I1,r1,q1⟩:=hI53;refine Aa1 (wpAny_holding (thn (hi A3 s1 σ H1 _ I1 q1) fun iv s2 hI54=>?_));obtain⟨y,H2,I2,r2,q2⟩:=hI54;refine Aa1 (wpAny_standAt (Aa1 (wpAny_holding (thn (hs A3 s2 σ H2 x y v ov iv u _ I2 r1 r2 r q2) fun _ s3 hI55=>?_))));obtain⟨H3,I3,q3⟩:=hI55;exact wpAny_release ⟨σ,H3,I3,q3⟩
noncomputable def wt2 (te:TE) (g:TG):TS:=fun D σ H=>te σ H fun x H1=>g x σ H1 D.nx
theorem yv9 {tg e:Expr} {te:TE} {g:TG} (he:PE X e te) (hg:PG X tg g) (hs:swapsWithSole [tg] e pos.line X.env=pure false:=by rfl) (hw:swappedStores [tg] e X.env=pure none:=by rfl)
 (h1:(assignEach [tg] X.env).map (·.2)=[assign tg X.env]:=by rfl):PS X (.Assign [tg] e pos) (wt2 te g):=by
 intro A3 s σ H D I h;refine wpAny_Assign_stores (thn (he A3 s σ H _ I h) fun v s1 hI56=>?_) hs hw;obtain⟨x,H1,I1,r1,q1⟩:=hI56;rw[h1];exact thn (hg A3 s1 σ H1 x v _ I1 r1 q1) fun _ s2 q=>q
theorem zy8 {i:Nat} {x:Str} {e:Expr} {te:TE} {pos':Pos} (hN:X.N.Nodup) (hi:X.N[i]?=some x) (hx:Loc X.env.scope x) (he:PE X e te) (hs:swapsWith e (some (.Name x pos')) pos.line X.env=pure false:=by rfl) (hf:X.fn x=true\/X.env.scope.names.lookup x=some .local:=by first | exact .inl rfl | exact .inr rfl | assumption) :
 PS X (.Assign [.Name x pos'] e pos) (wt2 te (xo2 i)):=by
 intro A3 s σ H D I h;refine wpAny_Assign_Name (thn (he A3 s σ H _ I h) fun v s1 hI57=>?_) hs;obtain⟨y,H1,I1,r1,q1⟩:=hI57;exact zq5 I1 hN hi hx r1 (fun s2 I2=>⟨_,H1,I2,q1⟩) hf
noncomputable def vo8 (i j:Nat) (ta:TA):TS:=fun D σ H=>ta σ H fun vs H1=>∃v w,vs=[v,w]/\D.nx ((σ.set i (some v)).set j (some w)) H1
theorem wx6 {i j:Nat} {x y:Str} {a b:Expr} {ta:TA} {px py pt:Pos} {kt k2 pt2} (hc:X.calm=true) (hN:X.N.Nodup) (hi:X.N[i]?=some x) (hj:X.N[j]?=some y) (hij:i≠j)
 (hx:X.env.scope.names.lookup x=some .local) (hy:X.env.scope.names.lookup y=some .local) (ha:PA X [a,b] ta)
 (hw:swappedStores [.Tuple [.Name x px,.Name y py] kt pt] (.Tuple [a,b] k2 pt2) X.env=pure (some [x,y]))
 (hs:swapsWithSole [.Tuple [.Name x px,.Name y py] kt pt] (.Tuple [a,b] k2 pt2) pos.line X.env=pure false:=by rfl) :
 PS X (.Assign [.Tuple [.Name x px,.Name y py] kt pt] (.Tuple [a,b] k2 pt2) pos) (vo8 i j ta):=by
 intro A3 s σ H D I h;rw[exec_Assign_arm];refine Aa1 (wpAny_standAt ?_);rw[hs];refine Aa1 (Ac1 ?_);rw[if_neg (by decide)];refine Aa1 (Tuple_ (thn (ha _ A3 s σ H _ I h) fun us s1 hI58=>?_));obtain⟨vs,H1,I1,r1,q1⟩:=hI58;obtain⟨v,w,e1,q1⟩:=q1;subst e1;obtain⟨u1,u2,rfl,rv,rw'⟩:∃u1 u2,us=[u1,u2]/\zf3 v u1/\zf3 w u2:=by
  cases r1 with
  | cons p q=>
    cases q with
    | cons p' q'=>
      cases q';exact⟨_,_,rfl,p,p'⟩
 refine wpAny_newObj_type ?_ (by show 2<=sizeLine;decide);have I2:Inv X A3 σ H1 { s1 with heap:=s1.heap.push { cls:=.type "tuple",data:=.seq [u1,u2].toArray } }:=I1.kept (t':=s1.toks) fun b o e=>Ad0 _ e
 rw[hw];refine Aa1 (Ac1 ?_);show wpAny (model X.prog X.w) X.A (do rule "assign.swapped-stores";let items <-unpackItems (.ref s1.heap.objs.size) 2 none;assignInOrder [fun v=>bindName X.env y v,fun v=>bindName X.env x v] items.reverse;pure Flow.next) _ _ _;refine Aa1 (Aj1 (Aa1 (unpackItems_tuple (items:=#[u1,u2]) (I.ok.hd hc) (IsTup.new s1.heap _) fun h' hx'=>?_)));have I3:=I2.kept (h':=h') (t':=s1.toks) fun b o e=>hx' b o (Ao0 (Heap.lt_size e)) e
 show wpAny _ _ (assignInOrder [fun v=>bindName X.env y v,fun v=>bindName X.env x v] [u2,u1] >>= fun _=>pure Flow.next) _ _ _;refine Aa1 (assignInOrder_cons (wpAny_bindName (zq5 I3 hN hj (.inl hy) rw' (fun s2 I4=>?_) (.inr hy))));refine assignInOrder_cons (wpAny_bindName (zq5 I4 hN hi (.inl hx) rv (fun s3 I5=>assignInOrder_nil (Ac1 ?_)) (.inr hx)));rw[List.set_comm _ _ (Ne.symm hij)] at I5;exact⟨_,H1,I5,q1⟩
noncomputable def vp5 (i:Nat) (te:TE) (ti:TIp):TS:=fun D σ H=>∃x,σ[i]?=some (some x)/\te σ H fun y H1=>ti x y H1 fun z H2=>D.nx (σ.set i (some z)) H2
theorem wx8 {i:Nat} {x:Str} {e:Expr} {te:TE} {op:Operator} {ti:TIp} {pos':Pos} (hN:X.N.Nodup) (hi:X.N[i]?=some x) (hx:Loc X.env.scope x) (he:PE X e te) (ho:PIp X op ti) (hf:X.fn x=true\/X.env.scope.names.lookup x=some .local:=by first | exact .inl rfl | exact .inr rfl | assumption) :
 PS X (.AugAssign (.Name x pos') op e pos) (vp5 i te ti):=by
 intro A3 s σ H D I h;obtain⟨v,e1,h⟩:=h;obtain⟨m,hn,hl⟩:=I.loc;have vis:Vis X.env.scope x:=by rcases hx with k | k;exact .inl k;exact .inr (.inl k)
 obtain⟨u,r,l⟩:=hl i x v hi e1 vis;refine wpAny_AugAssign_Name ?_;have go:wpAny (model X.prog X.w) X.A (eval e X.env) (fun w s₂=>wpAny (model X.prog X.w) X.A (inplaceOp op u w) (fun r s₃=>wpAny (model X.prog X.w) X.A (storeName X.env x r) (fun _=>SP X A3 D .next) X.xe s₃) X.xe s₂) X.xe s:=by
  refine thn (he A3 s σ H _ I h) fun w s1 hI59=>?_
  obtain⟨y,H1,I1,r1,q1⟩:=hI59;refine thn (ho A3 s1 σ H1 v y u w _ I1 r r1 q1) fun z s2 hI60=>?_
  obtain⟨zv,H2,I2,r2,q2⟩:=hI60;exact zq5 I2 hN hi hx r2 (fun s3 I3=>⟨_,H2,I3,q2⟩) hf
 rcases l with⟨hk,hm⟩ | ⟨hk,c,hc,hcell⟩
 ·exact wpAny_loadName_local I.ok.kind hk hn hm go
 ·rcases hk with hk | hk
  ·exact wpAny_loadName_cell I.ok.kind hk hc hcell go
  ·rcases hx with k | k
   ·have:X.env.scope.names.lookup x=some .free:=hk
    rw[k] at this;cases this
   ·have:X.env.scope.names.lookup x=some .free:=hk
    rw[k] at this;cases this
noncomputable def ipI (f:Int->Int->Int):TIp:=fun x y H Q=>∃i j,x=.int i/\y=.int j/\Q (.int (f i j)) H
theorem vb1:PIp X .Add (ipI fun i j=>i+j):=by
 intro A3 s σ H x y v u Q I r1 r2 h;obtain⟨i,j,e1,e2,q⟩:=h;subst e1;subst e2;obtain⟨t,rfl⟩:=r1;obtain⟨t',rfl⟩:=r2;exact iadd_int ⟨.int _,H,I.tok _,⟨_,rfl⟩,q⟩
end
section
variable {X:Cx} {pos:Pos}
noncomputable def wv8 (c:TT) (tb:TS):TS:=fun D σ H=>∃W:Nat->St->Hp->Prop,(∃m,W m σ H)/\∀m σ H,W m σ H->
 c σ H fun b H1=>if b=true then ∃N:St->Hp->Prop,(∀σ' H',N σ' H'->∃m',m' < m/\W m' σ' H')/\tb { D with nx:=N,ct:=N,bk:=D.nx } σ H1 else D.nx σ H1
set_option tactic.hygienic true in
theorem wc0 {c:Expr} {body:List Stmt} {tc:TT} {tb:TS} (hp:PassesOwn (model X.prog X.w) X.A X.env X.xe) (hc:PT X c tc) (hb:PSs X body tb):PS X (.While c body [] pos) (wv8 tc tb):=by
 intro A3 s σ H D I h;obtain⟨W,⟨m0,w0⟩,turn⟩:=h;refine wpAny_While (codeAny_whileLoop (fun n s'=>∃σ' H',Inv X A3 σ' H' s'/\W n σ' H') ?_ m0 ⟨σ,H,I,w0⟩);rintro n s1 ⟨σ1,H1,I1,w1⟩;refine wpAny_passesOwn hp (thn (hc A3 s1 σ1 H1 _ I1 (turn n σ1 H1 w1)) fun b s2 hI61=>?_);obtain⟨H2,I2,q2⟩:=hI61;cases b with
 | true=>
   obtain⟨N,hN,q2⟩:=q2;rw[if_pos rfl];refine wpAny_passesOwn hp (thn (hb A3 s2 σ1 H2 _ I2 q2) fun f s3 q3=>?_);cases f with
   | next=>
     obtain⟨σ3,H3,I3,n3⟩:=q3;obtain⟨m',hm,w3⟩:=hN σ3 H3 n3;exact⟨m',hm,σ3,H3,I3,w3⟩
   | cont=>
     obtain⟨σ3,H3,I3,n3⟩:=q3;obtain⟨m',hm,w3⟩:=hN σ3 H3 n3;exact⟨m',hm,σ3,H3,I3,w3⟩
   | brk=>exact q3
   | ret v=>exact q3
 | false=>
   rw[if_neg Ar0];exact wpAny_execs_nil ⟨σ1,H2,I2,q2⟩
end
structure It where
 go:Nat->Hp->Prop
 yld:Nat->Hp->V->Hp->Prop
 stop:Nat->Hp->Prop
noncomputable def xf1 (X:Cx) (A3:List (Addr×Obj)) (H:Hp) (b:Addr):Prop:=
 H b=none/\b≠X.env.locals/\b∉X.fs/\(b∈X.ex\/X.s₀.heap.objs.size<=b)/\(∀x c,X.env.cells.lookup x=some c->c≠b)/\∀p∈X.pn++A3,p.1≠b
theorem Inv.fpOk {X:Cx} {A3:List (Addr×Obj)} {σ:St} {H H':Hp} {s:Shared} {b:Addr} (I:Inv X A3 σ H s) (hb:s.heap.objs.size<=b) (hn:H' b=none):xf1 X A3 H' b:=by
 refine⟨hn,Nat.ne_of_gt (Au0 I.lt hb),I.nofs hb,.inr (Ax0 I.sz hb),fun x c e z=>?_,fun p hp z=>?_⟩
 ·obtain⟨v,q⟩:=I.cell x c e
  exact absurd (Au0 q.lt (by rw[z];exact hb)) (Bs0 _)
 ·exact absurd (Au0 (Heap.lt_size (I.pin p hp).1) (by rw[z];exact hb)) (Bs0 _)
structure wk1 (P:Program) (w:World) (K:PySem.W.Frag) (tg:Expr) (J:It) (fp:List Addr) (it:Addr) (tn:Nat->Heap->Prop):Prop where
 mem:it∈fp
 obj:∀i h,tn i h->∀b∈fp,∃o,h.get? b=some o/\∀v,o.data≠.cell v
 keep:∀i h h',tn i h->(∀b∈fp,∀o,h.get? b=some o->h'.get? b=some o)->tn i h'
 item:∀(X:Cx),X.prog=P->X.w=w->X.K=K->X.calm=true->∀(i:Nat) (A3:List (Addr×Obj)) (s:Shared) (σ:St) (H:Hp) (E:Value->Shared->Prop),Inv X A3 σ H s->(∀b∈fp,xf1 X A3 H b)->tn i s.heap->J.go i H->
  wpAny (model P w) X.A (pyNext (.ref it)) (fun r s1=>∃u,r=some u/\
   wpAny (model P w) X.A (letOwnedTupleGo tg (.ref it) u) (fun _ s2=>∃x H',Inv X A3 σ H' s2/\zf3 x u/\J.yld i H x H'/\tn (i+1) s2.heap/\∀b∈fp,H' b=none) E s1) E s
 done:∀(X:Cx),X.prog=P->X.w=w->X.K=K->X.calm=true->∀(i:Nat) (A3:List (Addr×Obj)) (s:Shared) (σ:St) (H:Hp) (E:Value->Shared->Prop),Inv X A3 σ H s->(∀b∈fp,xf1 X A3 H b)->tn i s.heap->J.stop i H->
  wpAny (model P w) X.A (pyNext (.ref it)) (fun r s1=>r=none/\Inv X A3 σ H s1) E s
 self:∀(A:Around) (i:Nat) (s:Shared) (Q:Value->Shared->Prop) (E:Value->Shared->Prop),tn i s.heap->Q (.ref it) s->wpAny (model P w) A (pyIter (.ref it)) Q E s
noncomputable abbrev TI:=St->Hp->(It->Hp->Prop)->Prop
noncomputable def PIE (X:Cx) (A3:List (Addr×Obj)) (σ:St) (tg:Expr) (R:It->Hp->Prop) (itv:Value) (s2:Shared):Prop:=
 ∃(it:Addr) (fp:List Addr) (tn:Nat->Heap->Prop) (J:It) (H':Hp),itv=.ref it/\Inv X A3 σ H' s2/\wk1 X.prog X.w X.K tg J fp it tn/\tn 0 s2.heap/\(∀b∈fp,xf1 X A3 H' b)/\R J H'
noncomputable def PI (X:Cx) (tg iter:Expr) (wi:TI):Prop:=
 ∀(A3:List (Addr×Obj)) (s:Shared) (σ:St) (H:Hp) (R:It->Hp->Prop),Inv X A3 σ H s->wi σ H R->
  wpAny (model X.prog X.w) X.A (eval iter X.env) (fun v s1=>wpAny (model X.prog X.w) X.A (pyIter v) (PIE X A3 σ tg R) X.xe s1) X.xe s
theorem wr8 {M:Model} {A:Around} {E:Value->Shared->Prop} {s:Shared} {tg:Expr} {it:Addr} {u:Value} {o:Obj} {n:String} {vs:Array Value} {Q:Unit->Shared->Prop} (ho:s.heap.get? it=some o) (hc:o.cls=.type n) (hd:o.data=.fields vs)
 (hn:["enumerate","zip","dict_itemiterator","dict_reverseitemiterator","odict_iterator","itertools.zip_longest","itertools.pairwise"].contains n=false) (hQ:Q () s):wpAny M A (letOwnedTupleGo tg (.ref it) u) Q E s:=by
 unfold letOwnedTupleGo;cases tg<;>first
  | exact Ac1 hQ
  | (cases u<;>first
   | exact Ac1 hQ
   | (refine Aa1 (wpAny_load ho ?_)
      rw[hc,hd];show wpAny M A (if (["enumerate","zip","dict_itemiterator","dict_reverseitemiterator","odict_iterator","itertools.zip_longest","itertools.pairwise"].contains n&&vs[0]? == some (rawInt _))=true then _ else _) Q E s;rw[if_neg (by intro h;rw[hn,Bool.false_and] at h;cases h)];exact Ac1 hQ))
noncomputable def Itl (K:PySem.W.Frag) (a:Addr):It:=
 ⟨fun i H=>∃xs x,SqL K H a xs/\xs[i]?=some x,fun i H x H'=>H'=H/\∀xs,SqL K H a xs->xs[i]?=some x,fun i H=>∃xs,SqL K H a xs/\xs.length<=i⟩
noncomputable def Itt (K:PySem.W.Frag) (a:Addr):It:=
 ⟨fun i H=>∃xs x,SqT K H a xs/\xs[i]?=some x,fun i H x H'=>H'=H/\∀xs,SqT K H a xs->xs[i]?=some x,fun i H=>∃xs,SqT K H a xs/\xs.length<=i⟩
noncomputable def Itr (lo:Int) (n:Nat):It:=⟨fun i _=>i<n,fun i H x H'=>H'=H/\x=.int (lo+i),fun i _=>n<=i⟩
theorem xr1 {P:Program} {w:World} {K:PySem.W.Frag} {tg:Expr} (a it:Addr):wk1 P w K tg (Itl K a) [it] it (fun i h=>h.IsListIter it a i) where
 mem:=by simp
 obj:=fun i h st b hb=>by
  have e:b=it:=by simpa using hb
  subst e;obtain⟨o,e,c,d⟩:=st;exact⟨o,e,fun v z=>by rw[d] at z;cases z⟩
 keep:=fun i h h' st k=>st.at fun o e=>k it (by simp) o e
 item:=by
  intro X hP hw hK hc i A3 s σ H E I hf st hg;subst hP hw hK;obtain⟨xs,x,hq,hx⟩:=hg;obtain⟨its,rv,p,hz⟩:=I.list hq;obtain⟨u,hu,ru⟩:=rv.get hx;obtain⟨f0,f1,f2,f3,f4,f5⟩:=hf it (by simp);refine wpAny_pyNext_list_item st p.isList (x:=u) (by simpa using hu) fun h' st' sb=>?_
  have I1:Inv X A3 σ H { s with heap:=h' }:=I.turned (t':=s.toks) (fun b o hb e=>(sb.2 b hb).trans e) f0 f1 f3 f4 f5;obtain⟨o,e,c,d⟩:=id st';exact⟨u,rfl,wr8 (s:={ s with heap:=h' }) e c d (by decide) ⟨x,H,I1,ru,⟨rfl,fun ys hy=>by rw[I.list_inj hy hq];exact hx⟩,st',fun b hb=>(hf b hb).1⟩⟩
 done:=by
  intro X hP hw hK hc i A3 s σ H E I hf st hg;subst hP hw hK;obtain⟨xs,hq,hx⟩:=hg;obtain⟨its,rv,p,hz⟩:=I.list hq;obtain⟨f0,f1,f2,f3,f4,f5⟩:=hf it (by simp);have hl:=rv.length;exact wpAny_pyNext_list_end (I.ok.hd hc) st p.isList (by simp;omega) fun h' eb=>⟨rfl,I.turned (t':=s.toks) (fun b o hb e=>eb b o hb e) f0 f1 f3 f4 f5⟩
 self:=fun _ _ _ _ _ st h=>wpAny_pyIter_listiter st h
theorem xl8 {P:Program} {w:World} {K:PySem.W.Frag} {tg:Expr} (a it:Addr):wk1 P w K tg (Itt K a) [it] it (fun i h=>h.IsTupleIter it a i) where
 mem:=by simp
 obj:=fun i h st b hb=>by
  have e:b=it:=by simpa using hb
  subst e;obtain⟨o,e,c,d⟩:=st;exact⟨o,e,fun v z=>by rw[d] at z;cases z⟩
 keep:=fun i h h' st k=>st.at fun o e=>k it (by simp) o e
 item:=by
  intro X hP hw hK hc i A3 s σ H E I hf st hg;subst hP hw hK;obtain⟨xs,x,hq,hx⟩:=hg;obtain⟨its,rv,p,hz⟩:=I.tuple hq;obtain⟨u,hu,ru⟩:=rv.get hx;obtain⟨f0,f1,f2,f3,f4,f5⟩:=hf it (by simp);refine wpAny_pyNext_tuple_item st (show s.heap.IsTuple a its.toArray from p) (x:=u) (by simpa using hu) fun h' st' sb=>?_
  have I1:Inv X A3 σ H { s with heap:=h' }:=I.turned (t':=s.toks) (fun b o hb e=>(sb.2 b hb).trans e) f0 f1 f3 f4 f5;obtain⟨o,e,c,d⟩:=id st';exact⟨u,rfl,wr8 (s:={ s with heap:=h' }) e c d (by decide) ⟨x,H,I1,ru,⟨rfl,fun ys hy=>by rw[I.tuple_inj hy hq];exact hx⟩,st',fun b hb=>(hf b hb).1⟩⟩
 done:=by
  intro X hP hw hK hc i A3 s σ H E I hf st hg;subst hP hw hK;obtain⟨xs,hq,hx⟩:=hg;obtain⟨its,rv,p,hz⟩:=I.tuple hq;obtain⟨f0,f1,f2,f3,f4,f5⟩:=hf it (by simp);have hl:=rv.length;exact wpAny_pyNext_tuple_end (I.ok.hd hc) st (show s.heap.IsTuple a its.toArray from p) (by simp;omega) fun h' eb=>⟨rfl,I.turned (t':=s.toks) (fun b o hb e=>eb b o hb e) f0 f1 f3 f4 f5⟩
 self:=fun _ _ _ _ _ st h=>wpAny_pyIter_tupleiter st h
theorem xl9 {P:Program} {w:World} {K:PySem.W.Frag} {tg:Expr} (it:Addr) (lo:Int) (n:Nat):wk1 P w K tg (Itr lo n) [it] it (fun i h=>IsRangeIter h it (lo+(i:Nat)*1) ((n:Int)-(i:Nat)) 1) where
 mem:=by simp
 obj:=fun i h st b hb=>by
  have e:b=it:=by simpa using hb
  subst e;exact⟨_,st,fun v z=>by
   have z':Data.fields _=Data.cell v:=z;cases z'⟩
 keep:=fun i h h' st k=>k it (by simp) _ st
 item:=by
  intro X hP hw hK hc i A3 s σ H E I hf st hg;subst hP hw hK;obtain⟨f0,f1,f2,f3,f4,f5⟩:=hf it (by simp);have W:=Walks.range (prog:=X.prog) (w:=X.w) (I.ok.hd hc) it lo 1 n;refine W.item i s _ _ hg st fun v h' tk hv st' kk=>?_
  obtain⟨t,rfl⟩:=hv;have I1:Inv X A3 σ H { s with heap:=h',toks:=tk }:=I.turned (fun b o hb e=>kk b o (by simpa using hb) e) f0 f1 f3 f4 f5;refine⟨_,rfl,wr8 (s:={ s with heap:=h',toks:=tk }) (n:="range_iterator") st' rfl rfl (by decide) ⟨.int (lo+i),H,I1,⟨t,?_⟩,⟨rfl,rfl⟩,st',fun b hb=>(hf b hb).1⟩⟩;rw[Int.mul_one]
 done:=by
  intro X hP hw hK hc i A3 s σ H E I hf st hg;subst hP hw hK;obtain⟨f0,f1,f2,f3,f4,f5⟩:=hf it (by simp);exact wpAny_pyNext_range_end (I.ok.hd hc) st (by have:n<=i:=hg;omega) fun h' eb=>⟨rfl,I.turned (t':=s.toks) (fun b o hb e=>eb b o hb e) f0 f1 f3 f4 f5⟩
 self:=fun _ _ _ _ _ st h=>wpAny_pyIter_rangeiter st h
section
variable {X:Cx} {tg:Expr}
noncomputable def vj5 (K:PySem.W.Frag) (tl:TE):TI:=fun σ H R=>tl σ H fun x H1=>∃a,x=.ref a/\(∃xs,SqL K H1 a xs)/\R (Itl K a) H1
noncomputable def vq0 (K:PySem.W.Frag) (tl:TE):TI:=fun σ H R=>tl σ H fun x H1=>∃a,x=.ref a/\(∃xs,SqT K H1 a xs)/\R (Itt K a) H1
theorem wo5 {l:Expr} {tl:TE} (hl:PE X l tl):PI X tg l (vj5 X.K tl):=by
 intro A3 s σ H R I h;refine thn (hl A3 s σ H _ I h) fun v s1 hI62=>?_
 obtain⟨x,H1,I1,r1,q1⟩:=hI62;obtain⟨a,e,⟨xs,hq⟩,q⟩:=q1;subst e;cases r1;obtain⟨its,rv,p,hz⟩:=I1.list hq;refine wpAny_pyIter_list p.isList ?_;refine⟨s1.heap.objs.size,[s1.heap.objs.size],_,_,H1,rfl,I1.kept (t':=s1.toks) fun b o e=>Ad0 _ e,xr1 a _,⟨_,Ak0 _ rfl,rfl,rfl⟩,fun b hb=>?_,q⟩;have e:b=s1.heap.objs.size:=by simpa using hb
 subst e;exact I1.fpOk (Ae0 _) (I1.hok.fresh (Ae0 _))
theorem wy0 {l:Expr} {tl:TE} (hl:PE X l tl):PI X tg l (vq0 X.K tl):=by
 intro A3 s σ H R I h;refine thn (hl A3 s σ H _ I h) fun v s1 hI63=>?_
 obtain⟨x,H1,I1,r1,q1⟩:=hI63;obtain⟨a,e,⟨xs,hq⟩,q⟩:=q1;subst e;cases r1;obtain⟨its,rv,p,hz⟩:=I1.tuple hq;refine wpAny_pyIter_tuple (show s1.heap.IsTuple a its.toArray from p) ?_;refine⟨s1.heap.objs.size,[s1.heap.objs.size],_,_,H1,rfl,I1.kept (t':=s1.toks) fun b o e=>Ad0 _ e,xl8 a _,⟨_,Ak0 _ rfl,rfl,rfl⟩,fun b hb=>?_,q⟩;have e:b=s1.heap.objs.size:=by simpa using hb
 subst e;exact I1.fpOk (Ae0 _) (I1.hok.fresh (Ae0 _))
theorem wb8 {A3:List (Addr×Obj)} {σ:St} {H:Hp} {s:Shared} {R:It->Hp->Prop} {E:Value->Shared->Prop} {lo hi:Int} {t u v:Tok} {tk:Nat} (I:Inv X A3 σ H s) (h1:-(2 ^ 62)<=lo) (h2:lo<2 ^ 62) (h3:-(2 ^ 62)<=hi) (h4:hi<2 ^ 62)
 (q:R (Itr lo (hi-lo).toNat) H):wpAny (model X.prog X.w) X.A (pyIter (.ref s.heap.objs.size)) (PIE X A3 σ tg R) E { s with heap:=s.heap.push { cls:=.type "range",data:=.fields #[.int lo t,.int hi u,.int 1 v] },toks:=tk }:=by
 refine wpAny_pyIter_range (IsRange.new ..) (small_one h1 h2 h3 h4) ?_;have I1:Inv X A3 σ H { s with heap:=s.heap.push { cls:=.type "range",data:=.fields #[.int lo t,.int hi u,.int 1 v] },toks:=tk }:=I.kept fun b o e=>Ad0 _ e
 refine⟨(s.heap.push { cls:=.type "range",data:=.fields #[.int lo t,.int hi u,.int 1 v] }).objs.size,[(s.heap.push { cls:=.type "range",data:=.fields #[.int lo t,.int hi u,.int 1 v] }).objs.size],_,_,H,rfl,I1.kept (t':=tk) fun b o e=>Ad0 _ e,xl9 _ lo (hi-lo).toNat,?_,fun b hb=>?_,q⟩
 ·have e1:lo+((0:Nat):Int)*1=lo:=by simp
  have e2:(((hi-lo).toNat:Nat):Int)-((0:Nat):Int)=Builtin.Range.rangeSize lo hi 1:=by rw[rangeSize_one];split<;>omega
  show IsRangeIter _ _ (lo+((0:Nat):Int)*1) ((((hi-lo).toNat:Nat):Int)-((0:Nat):Int)) 1;rw[e1,e2];exact Ak0 _ rfl
 ·have e:b=(s.heap.push { cls:=.type "range",data:=.fields #[.int lo t,.int hi u,.int 1 v] }).objs.size:=by simpa using hb
  subst e;exact I1.fpOk (Ae0 _) (I1.hok.fresh (Ae0 _))
noncomputable def vj4 (ta:TA):TI:=fun σ H R=>ta σ H fun vs H1=>∃j:Int,vs=[.int j]/\-(2 ^ 62)<=j/\j<2 ^ 62/\R (Itr 0 j.toNat) H1
theorem xt0 {a:Expr} {ta:TA} {p pos:Pos} (hg:Gl X "range") (hm:X.mg "range" = none) (ha:PA X [a] ta) (hs:starEach [a] X.env=[(false,eval a X.env)]:=by rfl):PI X tg (.Call (.Name "range" p) [a] [] pos) (vj4 ta):=by
 intro A3 s σ H R I h;refine Call_ (yk1 I hg hm boot_range (PyProof.Rows.callWith_type1 (thn (ha pos A3 s σ H _ I h) fun us s1 hI64=>?_) hs rfl));obtain⟨vs,H1,I1,r1,q1⟩:=hI64;obtain⟨j,e,q1,q2,q⟩:=q1;subst e;cases r1 with
 | cons r rr=>
   cases rr;obtain⟨t,rfl⟩:=r;exact call_range_1 (wb8 I1 (by omega) (by omega) q1 q2 (by simpa using q))
noncomputable def vp3 (wi:TI) (g:TG) (tb:TS):TS:=fun D σ H=>wi σ H fun J H1=>∃W:Nat->Nat->St->Hp->Prop,(∃m,W 0 m σ H1)/\∀i m σ H,W i m σ H->
 (J.stop i H/\D.nx σ H)\/(J.go i H/\∃N:St->Hp->Prop,(∀σ' H',N σ' H'->∃m',m' < m/\W (i+1) m' σ' H')/\∀x H',J.yld i H x H'->g x σ H' fun σ2 H2=>tb { D with nx:=N,ct:=N,bk:=D.nx } σ2 H2)
noncomputable def yw2 (fp:List Addr) (h:Heap):List (Addr×Obj):=fp.filterMap fun b=>(h.get? b).map fun o=>(b,o)
theorem zx4 {fp:List Addr} {h:Heap} {b:Addr} {o:Obj} (hb:b∈fp) (e:h.get? b=some o):(b,o)∈yw2 fp h:=List.mem_filterMap.mpr ⟨b,hb,by rw[e];rfl⟩
theorem xu1 {fp:List Addr} {h:Heap} {p:Addr×Obj} (hp:p∈yw2 fp h):p.1∈fp/\h.get? p.1=some p.2:=by
 obtain⟨b,hb,e⟩:=List.mem_filterMap.mp hp;cases q:h.get? b with
 | none=>rw[q] at e;cases e
 | some o=>
   rw[q] at e;have e':(b,o)=p:=Option.some.inj e;subst e';exact⟨hb,q⟩
theorem Inv.pinned {A3:List (Addr×Obj)} {σ:St} {H:Hp} {s:Shared} {fp:List Addr} (I:Inv X A3 σ H s) (hf:∀b∈fp,xf1 X A3 H b) (ho:∀b∈fp,∃o,s.heap.get? b=some o/\∀v,o.data≠.cell v):Inv X (A3++yw2 fp s.heap) σ H s:=
 I.pins_of fun p hp=>(At0.mp hp).elim (fun z=>I.pin p (Bb0 _ z)) fun z=>by
  obtain⟨hb,e⟩:=xu1 z;obtain⟨f0,f1,f2,_⟩:=hf p.1 hb;obtain⟨o,e',d⟩:=ho p.1 hb;rw[e] at e';cases e';exact⟨e,f0,f1,f2,d⟩
theorem Inv.unpinned {A3 pl:List (Addr×Obj)} {σ:St} {H:Hp} {s:Shared} (I:Inv X (A3++pl) σ H s):Inv X A3 σ H s:=I.pins_of fun p hp=>I.pin p (Bb0 _ (Br0 _ hp))
set_option tactic.hygienic true in
theorem wx7 {iter:Expr} {body:List Stmt} {wi:TI} {g:TG} {tb:TS} {pos:Pos} (hp:PassesOwn (model X.prog X.w) X.A X.env X.xe) (hc:X.calm=true) (hi:PI X tg iter wi) (hg:PG X tg g) (hb:PSs X body tb)
 (hs:∀x,foldedSetIterable iter X.env x=pure x:=by intro _;rfl):PS X (.For tg iter body [] pos) (vp3 wi g tb):=by
 intro A3 s σ H D I h;refine wpAny_For (thn (hi A3 s σ H _ I h) fun v s1 h1=>thn h1 fun itv s2 h2=>?_) hs;obtain⟨it,fp,tn,J,H2,e,I2,T,st2,f2,W,⟨m0,w0⟩,turn⟩:=h2;subst e
 -- what stays true of the iterator's objects through the loop
 have stat:∀{H':Hp},(∀b∈fp,H' b=none)->∀b∈fp,xf1 X A3 H' b:=fun hn b hb=>⟨hn b hb,(f2 b hb).2⟩
 refine codeAny_forLoop_any (fun n s'=>∃i σ' H',Inv X A3 σ' H' s'/\tn i s'.heap/\(∀b∈fp,H' b=none)/\W i n σ' H') ?_ m0 ⟨0,σ,H2,I2,st2,fun b hb=>(f2 b hb).1,w0⟩;rintro n s3 ⟨i,σ3,H3,I3,st3,fr3,w3⟩;rcases turn i n σ3 H3 w3 with⟨stop,qn⟩ | ⟨go,N,hN,step⟩
 ·refine wpAny_passesOwn hp (thn (T.done X rfl rfl rfl hc i A3 s3 σ3 H3 X.xe I3 (stat fr3) st3 stop) fun r s4 hI65=>?_)
  obtain⟨hr,I4⟩:=hI65;subst hr;exact wpAny_execs_nil ⟨σ3,H3,I4,qn⟩
 ·refine wpAny_passesOwn hp (thn (T.item X rfl rfl rfl hc i A3 s3 σ3 H3 X.xe I3 (stat fr3) st3 go) fun r s4 hI66=>?_)
  obtain⟨u,hr,h4⟩:=hI66;subst hr;refine wpAny_passesOwn hp (thn h4 fun _ s5 hI67=>?_);obtain⟨x,H5,I5,r5,y5,st5,fr5⟩:=hI67;have I5':=I5.pinned (stat fr5) (T.obj _ _ st5);refine wpAny_passesOwn hp (thn (hg _ s5 σ3 H5 x u _ I5' r5 (step x H5 y5)) fun _ s6 hI68=>?_);obtain⟨σ6,H6,I6,q6⟩:=hI68;refine wpAny_passesOwn hp (thn (hb _ s6 σ6 H6 _ I6 q6) fun f s7 q7=>?_);have again:∀{σ7:St} {H7:Hp},Inv X (A3++yw2 fp s5.heap) σ7 H7 s7->N σ7 H7->∃m,m<n/\∃i σ' H',Inv X A3 σ' H' s7/\tn i s7.heap/\(∀b∈fp,H' b=none)/\W i m σ' H':=fun {σ7 H7} I7 n7=>by
   obtain⟨m',hm,w7⟩:=hN σ7 H7 n7;refine⟨m',hm,i+1,σ7,H7,I7.unpinned,T.keep _ _ _ st5 fun b hb o e=>(I7.pin (b,o) (Bb0 _ (Bb0 _ (zx4 hb e)))).1,fun b hb=>?_,w7⟩;obtain⟨o,e,d⟩:=T.obj _ _ st5 b hb;exact(I7.pin (b,o) (Bb0 _ (Bb0 _ (zx4 hb e)))).2.1
  cases f with
  | next=>obtain⟨σ7,H7,I7,n7⟩:=q7;exact again I7 n7
  | cont=>obtain⟨σ7,H7,I7,n7⟩:=q7;exact again I7 n7
  | brk=>obtain⟨σ7,H7,I7,q7⟩:=q7;exact⟨σ7,H7,I7.unpinned,q7⟩
  | ret v=>obtain⟨x7,σ7,H7,I7,r7,q7⟩:=q7;exact⟨x7,σ7,H7,I7.unpinned,r7,q7⟩
end
noncomputable abbrev R2:=V->V->Hp->VK->Prop
noncomputable def OpR (X:Cx) (f:Value->Value->Sem Value) (r:R2):Prop:=
 ∀(A3:List (Addr×Obj)) (s:Shared) (σ:St) (H:Hp) (x y:V) (v u:Value) (Q:VK),Inv X A3 σ H s->zf3 x v->zf3 y u->r x y H Q->
  wpAny (model X.prog X.w) X.A (f v u) (EP X A3 σ Q) X.xe s
noncomputable def UnR (X:Cx) (f:Value->Sem Value) (r:V->Hp->VK->Prop):Prop:=
 ∀(A3:List (Addr×Obj)) (s:Shared) (σ:St) (H:Hp) (x:V) (v:Value) (Q:VK),Inv X A3 σ H s->zf3 x v->r x H Q->
  wpAny (model X.prog X.w) X.A (f v) (EP X A3 σ Q) X.xe s
noncomputable def ya9 (X:Cx) (f:Value) (r:List V->Hp->VK->Prop):Prop:=
 ∀(A3:List (Addr×Obj)) (s:Shared) (σ:St) (H:Hp) (xs:List V) (us:List Value) (Q:VK),Inv X A3 σ H s->zg1 xs us->r xs H Q->
  wpAny (model X.prog X.w) X.A (call f us) (EP X A3 σ Q) X.xe s
noncomputable def tOp (r:R2) (ta tb:TE):TE:=fun σ H Q=>ta σ H fun x H1=>tb σ H1 fun y H2=>r x y H2 Q
noncomputable def tUn (r:V->Hp->VK->Prop) (ta:TE):TE:=fun σ H Q=>ta σ H fun x H1=>r x H1 Q
noncomputable def rI (C:Int->Int->Prop) (g:Int->Int->V):R2:=fun x y H Q=>∃i j,x=.int i/\y=.int j/\C i j/\Q (g i j) H
noncomputable def rI0 (g:Int->Int->V):R2:=fun x y H Q=>∃i j,x=.int i/\y=.int j/\Q (g i j) H
noncomputable def rU (g:Int->V):V->Hp->VK->Prop:=fun x H Q=>∃i,x=.int i/\Q (g i) H
section
variable {X:Cx} {a b c:Expr} {ta tb tc:TE} {pos:Pos}
theorem vk9 (ha:PE X a ta) (hb:PE X b tb) {A3:List (Addr×Obj)} {s:Shared} {σ:St} {H:Hp} {R:V->V->Hp->Prop} (I:Inv X A3 σ H s)
 (h:ta σ H fun x H1=>tb σ H1 fun y H2=>R x y H2) {Q:Value->Shared->Prop} {f:Value->Value->Sem Value}
 (hf:∀v u s2 x y H2,Inv X A3 σ H2 s2->zf3 x v->zf3 y u->R x y H2->wpAny (model X.prog X.w) X.A (f v u) Q X.xe s2) :
 wpAny (model X.prog X.w) X.A (eval a X.env) (fun v s₁=>wpAny (model X.prog X.w) X.A (eval b X.env) (fun u s₂=>wpAny (model X.prog X.w) X.A (f v u) Q X.xe s₂) X.xe s₁) X.xe s:=by
 refine thn (ha A3 s σ H _ I h) fun v s1 hI69=>?_
 obtain⟨x,H1,I1,r1,q1⟩:=hI69;refine thn (hb A3 s1 σ H1 _ I1 q1) fun u s2 hI70=>?_
 obtain⟨y,H2,I2,r2,q2⟩:=hI70;exact hf v u s2 x y H2 I2 r1 r2 q2
theorem zt3 {op:Operator} {r:R2} (ho:OpR X (binaryOp op) r) (ha:PE X a ta) (hb:PE X b tb):PE X (.BinOp a op b pos) (tOp r ta tb):=by
 intro A3 s σ H Q I h;exact wpAny_BinOp (vk9 ha hb I h fun v u s2 x y H2 I2 rx ry q=>ho A3 s2 σ H2 x y v u Q I2 rx ry q)
theorem wy2 {op:UnaryOp} {r:V->Hp->VK->Prop} (ho:UnR X (unaryOp op) r) (ha:PE X a ta):PE X (.UnaryOp op a pos) (tUn r ta):=by
 intro A3 s σ H Q I h;exact UnaryOp_ (thn (ha A3 s σ H _ I h) fun v s1 ⟨x,H1,I1,r1,q1⟩=>ho A3 s1 σ H1 x v Q I1 r1 q1)
theorem opI {f:Value->Value->Sem Value} {C:Int->Int->Prop} {g:Int->Int->Int}
 (rule:∀(i j:Int) (t u:Tok) (s:Shared) (Q:Value->Shared->Prop) (E:Value->Shared->Prop),C i j->Q (.int (g i j) s.toks) { s with toks:=s.toks+1 }->wpAny (model X.prog X.w) X.A (f (.int i t) (.int j u)) Q E s) :
 OpR X f (rI C fun i j=>.int (g i j)):=by
 intro A3 s σ H x y v u Q I rx ry h;obtain⟨i,j,rfl,rfl,hc,q⟩:=h;obtain⟨t,rfl⟩:=rx;obtain⟨t',rfl⟩:=ry;exact rule i j t t' s _ _ hc ⟨.int (g i j),H,I.tok _,⟨_,rfl⟩,q⟩
theorem vm3 {f:Value->Value->Sem Value} {g:Int->Int->Int}
 (rule:∀(i j:Int) (t u:Tok) (s:Shared) (Q:Value->Shared->Prop) (E:Value->Shared->Prop),Q (.int (g i j) s.toks) { s with toks:=s.toks+1 }->wpAny (model X.prog X.w) X.A (f (.int i t) (.int j u)) Q E s) :
 OpR X f (rI0 fun i j=>.int (g i j)):=by
 intro A3 s σ H x y v u Q I rx ry h;obtain⟨i,j,rfl,rfl,q⟩:=h;obtain⟨t,rfl⟩:=rx;obtain⟨t',rfl⟩:=ry;exact rule i j t t' s _ _ ⟨.int (g i j),H,I.tok _,⟨_,rfl⟩,q⟩
theorem ve6 {f:Value->Value->Sem Value} {g:Int->Int->Bool}
 (rule:∀(i j:Int) (t u:Tok) (s:Shared) (Q:Value->Shared->Prop) (E:Value->Shared->Prop),Q (.bool (g i j)) s->wpAny (model X.prog X.w) X.A (f (.int i t) (.int j u)) Q E s) :
 OpR X f (rI0 fun i j=>.bl (g i j)):=by
 intro A3 s σ H x y v u Q I rx ry h;obtain⟨i,j,rfl,rfl,q⟩:=h;obtain⟨t,rfl⟩:=rx;obtain⟨t',rfl⟩:=ry;exact rule i j t t' s _ _ ⟨.bl (g i j),H,I,rfl,q⟩
noncomputable def vg1 (i j:Int):Prop:=0<j/\j<1073741824
noncomputable def ve1 (i j:Int):Prop:=j≠0/\j.natAbs<1073741824
noncomputable def vg0 (i j:Int):Prop:=0<=j/\j<=1000000/\i.natAbs<2 ^ 64
noncomputable def xp9 (i j:Int):Prop:=(-(2 ^ 64)<i/\i<2 ^ 64)\/(-(2 ^ 64)<j/\j<2 ^ 64)
theorem xp9.ok {i j:Int} (h:xp9 i j):IntMulOk i j:=by
 rcases h with⟨h1,h2⟩ | ⟨h1,h2⟩
 ·exact .of_left (intBits_le_64 h1 h2)
 ·exact .of_right (intBits_le_64 h1 h2)
theorem yw8:OpR X (binaryOp .Add) (rI0 fun i j=>.int (i+j)):=vm3 fun _ _ _ _ _ _ _ q=>add_int q
theorem yf9:OpR X (binaryOp .Sub) (rI0 fun i j=>.int (i-j)):=vm3 fun _ _ _ _ _ _ _ q=>sub_int q
theorem yi8:OpR X (binaryOp .Mult) (rI xp9 fun i j=>.int (i*j)):=opI fun _ _ _ _ _ _ _ hc q=>mul_int q hc.ok
theorem wp2:OpR X (binaryOp .FloorDiv) (rI vg1 fun i j=>.int (i / j)):=opI fun i j _ _ _ _ _ hc q=>by
 have h1:(0:Int)<j:=hc.1;have h2:j<1073741824:=hc.2;exact floordiv_int (by omega) (by rw[Int.fdiv_eq_ediv_of_nonneg i (by omega)];exact q) (.inl (PyProof.noPylong_small (by omega)))
theorem yc5:OpR X (binaryOp .Mod) (rI (fun _ j=>0<j) fun i j=>.int (i % j)):=opI fun i j _ _ _ _ _ hc q=>by
 have h1:(0:Int)<j:=hc;exact mod_int' (by omega) (by rw[Int.fmod_eq_emod_of_nonneg i (by omega)];exact q)
theorem wi4:OpR X (binaryOp .Pow) (rI vg0 fun i j=>.int (i ^ j.toNat)):=opI fun _ _ _ _ _ _ _ hc q=>pow_int_small hc.1 hc.2.1 hc.2.2 q
theorem unI {f:Value->Sem Value} {g:Int->Int}
 (rule:∀(i:Int) (t:Tok) (s:Shared) (Q:Value->Shared->Prop) (E:Value->Shared->Prop),Q (.int (g i) s.toks) { s with toks:=s.toks+1 }->wpAny (model X.prog X.w) X.A (f (.int i t)) Q E s) :
 UnR X f (rU fun i=>.int (g i)):=by
 intro A3 s σ H x v Q I rx h;obtain⟨i,rfl,q⟩:=h;obtain⟨t,rfl⟩:=rx;exact rule i t s _ _ ⟨.int (g i),H,I.tok _,⟨_,rfl⟩,q⟩
theorem wh6:UnR X (unaryOp .USub) (rU fun i=>.int (-i)):=unI fun _ _ _ _ _ q=>neg_int q
end
section
variable {X:Cx} {a b c:Expr} {ta tb tc:TE} {pos:Pos}
theorem wj2 {A3:List (Addr×Obj)} {σ:St} {H:Hp} {s:Shared} {Q:VK} {k k':Bool} (I:Inv X A3 σ H s) (q:Q (.bl k) H) (e:k=k'):EP X A3 σ Q (.bool k') s:=by
 subst e;exact⟨.bl k,H,I,rfl,q⟩
theorem yw6:OpR X (compareOp .Lt) (rI0 fun i j=>.bl (decide (i<j))):=ve6 fun _ _ _ _ _ _ _ q=>lt_int q
theorem xt8:OpR X (compareOp .LtE) (rI0 fun i j=>.bl (decide (i<=j))):=ve6 fun _ _ _ _ _ _ _ q=>le_int q
theorem vi6:OpR X (compareOp .Gt) (rI0 fun i j=>.bl (decide (j<i))):=ve6 fun _ _ _ _ _ _ _ q=>gt_int q
theorem vi7:OpR X (compareOp .GtE) (rI0 fun i j=>.bl (decide (j<=i))):=ve6 fun _ _ _ _ _ _ _ q=>ge_int q
theorem yw7:OpR X (compareOp .Is) (fun x y H Q=>y=.non/\Q (.bl (decide (x=.non))) H):=by
 intro A3 s σ H x y v u Q I rx ry h;obtain⟨rfl,q⟩:=h;cases ry;refine is_none_gen (wj2 I q ?_);cases x<;>first
  | (cases rx;rfl)
  | (obtain⟨t,rfl⟩:=rx;rfl)
theorem wp1:OpR X (compareOp .IsNot) (fun x y H Q=>y=.non/\Q (.bl (!decide (x=.non))) H):=by
 intro A3 s σ H x y v u Q I rx ry h;obtain⟨rfl,q⟩:=h;cases ry;refine isnot_none_gen (wj2 I q ?_);cases x<;>first
  | (cases rx;rfl)
  | (obtain⟨t,rfl⟩:=rx;rfl)
theorem OpR.or {f:Value->Value->Sem Value} {r r':R2} (h:OpR X f r) (h':OpR X f r'):OpR X f (fun x y H Q=>r x y H Q\/r' x y H Q):=by
 intro A3 s σ H x y v u Q I rx ry q;rcases q with q | q
 ·exact h A3 s σ H x y v u Q I rx ry q
 ·exact h' A3 s σ H x y v u Q I rx ry q
theorem wi5 (b:Expr) {op:CmpOp} (h:op≠.In:=by decide) (h2:op≠.NotIn:=by decide):behindInMarks op b=false:=by
 have e1:(op == CmpOp.In)=false:=by cases op<;>first | rfl | exact absurd rfl h
 have e2:(op == CmpOp.NotIn)=false:=by cases op<;>first | rfl | exact absurd rfl h2
 cases b<;>simp[behindInMarks,e1,e2]
theorem wo8 {op:CmpOp} {r:R2} (ho:OpR X (compareOp op) r) (ha:PE X a ta) (hb:PE X b tb) (hm:behindInMarks op b=false):PE X (.Compare a [op] [b] pos) (tOp r ta tb):=by
 intro A3 s σ H Q I h;exact wpAny_Compare1 (vk9 ha hb I h fun v u s2 x y H2 I2 rx ry q=>ho A3 s2 σ H2 x y v u Q I2 rx ry q) hm
noncomputable def vg5 (t:TE):TT:=fun σ H Q=>t σ H fun x H'=>∃k,x=.bl k/\Q k H'
theorem xc1 {op:CmpOp} {r:R2} (ho:OpR X (compareOp op) r) (ha:PE X a ta) (hb:PE X b tb) (hm:behindInMarks op b=false):PT X (.Compare a [op] [b] pos) (vg5 (tOp r ta tb)):=by
 intro A3 s σ H Q I h;refine wpAny_isTrue_Compare1 (thn (ha A3 s σ H _ I h) fun v s1 ⟨x,H1,I1,r1,q1⟩=>thn (hb A3 s1 σ H1 _ I1 q1) fun u s2 ⟨y,H2,I2,r2,q2⟩=>thn (ho A3 s2 σ H2 x y v u _ I2 r1 r2 q2) fun c s3 hI71=>?_) hm;obtain⟨z,H3,I3,r3,k,e,q3⟩:=hI71;subst e;cases r3;exact Ai1 ⟨H3,I3,q3⟩
noncomputable def wh9 (r r':R2) (ta tb tc:TE):TE:=fun σ H Q=>ta σ H fun x H1=>tb σ H1 fun y H2=>r x y H2 fun z H3=>∃k,z=.bl k/\
 (if k=true then tc σ H3 fun w' H4=>r' y w' H4 Q else Q (.bl false) H3)
theorem wc6 {op op':CmpOp} {r r':R2} (ho:OpR X (compareOp op) r) (ho':OpR X (compareOp op') r') (ha:PE X a ta) (hb:PE X b tb) (hc:PE X c tc)
 (hm:lastMarks [op,op'] [b,c]=false:=by with_unfolding_all rfl):PE X (.Compare a [op,op'] [b,c] pos) (wh9 r r' ta tb tc):=by
 intro A3 s σ H Q I h;refine Compare_chain (thn (ha A3 s σ H _ I h) fun v s1 ⟨x,H1,I1,r1,q1⟩=>chain_link (thn (hb A3 s1 σ H1 _ I1 q1) fun u s2 ⟨y,H2,I2,r2,q2⟩=>thn (ho A3 s2 σ H2 x y v u _ I2 r1 r2 q2) fun d s3 hI72=>?_)) hm;obtain⟨z,H3,I3,r3,k,e,q3⟩:=hI72;subst e;cases r3;refine Ai1 ?_;cases k with
 | false=>exact ite_ff ⟨.bl false,H3,I3,rfl,q3⟩
 | true=>exact ite_tt (chain_last (thn (hc A3 s3 σ H3 _ I3 q3) fun w' s4 ⟨z',H4,I4,r4,q4⟩=>ho' A3 s4 σ H4 y z' u w' Q I4 r2 r4 q4))
theorem yx8:(sizeLine:Nat)<2 ^ 63:=by rw[sizeLine_eq];decide
theorem ym5 {x:V} {us:List Value} (r:zg1 [x] us):∃u,us=[u]/\zf3 x u:=by
 cases r with
 | cons r1 r2=>cases r2;exact⟨_,rfl,r1⟩
theorem wl7 {x y:V} {us:List Value} (r:zg1 [x,y] us):∃u w',us=[u,w']/\zf3 x u/\zf3 y w':=by
 cases r with
 | cons r1 r2=>
   cases r2 with
   | cons r3 r4=>cases r4;exact⟨_,_,rfl,r1,r3⟩
theorem zn5 (hc:X.calm=true):ya9 X (.builtin "min") (fun xs H Q=>∃i j,xs=[.int i,.int j]/\Q (.int (if j<i then j else i)) H):=by
 intro A3 s σ H xs us Q I r h;obtain⟨i,j,rfl,q⟩:=h;obtain⟨u,w',rfl,⟨t,rfl⟩,⟨t',rfl⟩⟩:=wl7 r;refine min_two_ints (I.ok.hd hc) fun h' tk k=>⟨_,H,I.kept k,?_,q⟩
 by_cases hj:j<i
 ·rw[if_pos hj,if_pos hj];exact⟨_,rfl⟩
 ·rw[if_neg hj,if_neg hj];exact⟨_,rfl⟩
theorem xa2:ya9 X (.type "int") (fun xs H Q=>(∃i,xs=[.int i]/\Q (.int i) H)\/∃k,xs=[.bl k]/\Q (.int (if k then 1 else 0)) H):=by
 intro A3 s σ H xs us Q I r h;rcases h with⟨i,rfl,q⟩ | ⟨k,rfl,q⟩
 ·obtain⟨u,rfl,t,rfl⟩:=ym5 r
  exact call_int_int ⟨.int i,H,I,⟨_,rfl⟩,q⟩
 ·obtain⟨u,rfl,r1⟩:=ym5 r
  cases r1;exact call_int_bool ⟨.int (if k then 1 else 0),H,I.tok _,⟨_,rfl⟩,q⟩
theorem xe6:ya9 X (.builtin "divmod") (fun xs H Q=>∃i j,xs=[.int i,.int j]/\vg1 i j/\∀p,H p=none->Q (.ref p) (upd H p (.tup [.int (i / j),.int (i % j)]))):=by
 intro A3 s σ H xs us Q I r h;obtain⟨i,j,rfl,⟨h1,h2⟩,q⟩:=h;obtain⟨u,w',rfl,⟨t,rfl⟩,⟨t',rfl⟩⟩:=wl7 r;refine divmod_int (by omega) ?_ (.inl (PyProof.noPylong_small (by omega)));rw[Int.fdiv_eq_ediv_of_nonneg i (by omega),Int.fmod_eq_emod_of_nonneg i (by omega)];have hn:H s.heap.objs.size=none:=I.hok.fresh (Ae0 _);refine⟨.ref s.heap.objs.size,_,?_,rfl,q _ hn⟩;refine I.laid (fun b o e=>Ad0 _ e) (Ae0 _) ⟨by simp only[Bm0,List.length_nil];rw[sizeLine_eq];decide,[.int (i / j) s.toks,.int (i % j) (s.toks+1)],.cons ⟨_,rfl⟩ (.cons ⟨_,rfl⟩ .nil),?_⟩;exact⟨_,Ak0 s.heap rfl,rfl,0,rfl⟩
end
structure vl4 (h:Heap) (x dx C:Addr) (mA:Str->Option Value):Prop where
 obj:h.get? x=some (PySem.W.instObj C dx)
 ns:h.Ns1 dx mA
 ne:dx≠x
set_option tactic.hygienic true in
theorem xu9 {h:Heap} {dx:Addr} {mA:Str->Option Value} (n:h.Ns1 dx mA):∃od,h.get? dx=some od/\∀name,PySem.W.lookIn name od=some (mA name):=by
 obtain⟨o,es,ep,ho,hd,hk,_,hm⟩:=n;refine⟨o,ho,fun name=>?_⟩;have e:=hm name;unfold nsFind findBy at e;rw[<-Array.find?_toList] at e;unfold PySem.W.lookIn;rw[hd];dsimp only;split
 ·rename_i y q
  rw[q] at e;exact congrArg some e
 ·rename_i q
  rw[q] at e;have a:es.toList.any (·.refKey)=false:=by
   rw[List.any_eq_false];intro y hy;obtain⟨z,t,hkey⟩:=hk y (Array.mem_toList_iff.mp hy);simp[DictEntry.refKey,hkey]
  have a':¬es.toList.any (·.refKey)=true:=by rw[a];exact Ar0
  rw[if_neg a'];exact congrArg some e
theorem vl4.look {h:Heap} {x dx C:Addr} {mA:Str->Option Value} (I:vl4 h x dx C mA):∃od,PySem.W.InstAt h x (PySem.W.instObj C dx) C (some od)/\∀name,PySem.W.lookIn name od=some (mA name):=
 let ⟨od,ho,hl⟩:=xu9 I.ns
 ⟨od,⟨I.obj,rfl,rfl,ho⟩,hl⟩
section
variable {prog:Program} {w:World} {A:Around} {E:Value->Shared->Prop} {s:Shared} {K:PySem.W.Frag} {x dx C f:Addr} {mA:Str->Option Value} {name:Str} {v:Value}
end
theorem xp3.some_of {v:V} {o:Option Value} (r:xp3 (some v) o):∃u,o=some u/\zf3 v u:=by
 cases o with
 | none=>exact(show False from r).elim
 | some u=>exact⟨u,rfl,r⟩
section
variable {P:Program} {w:World} {H H':Hp} {h h':Heap} {a C dx:Addr} {fs fs':List (Str×V)}
theorem wr5 (hok:HOk P w H h) (e:H a=some (.ins C dx fs)):∃mA,vl4 h a dx C mA/\(∀f,xp3 (fs.lookup f) (mA f))/\PySem.Within mA (fs.map (·.1))/\fs.length<=1000/\H dx=some (.own a):=by
 obtain⟨d,z,ne,ob,mA,n,r,q⟩:=(show zl8 P w H h a (.ins C dx fs) from hok a _ e);exact⟨mA,⟨ob,n,ne⟩,r,q,z,d⟩
end
structure Cls (K:PySem.W.Frag) (C:Addr):Prop where
 pg:PySem.W.plainGet K C Str.empty=true
 hd:PySem.W.hasDictIn K C=true
 po:PySem.W.plainOver K C=true
 sa:PySem.W.findIn K (.ref C) "__setattr__" = some (some (.builtin "object.__setattr__"))
theorem Cls.get {K:PySem.W.Frag} {C:Addr} (c:Cls K C) (f:Str):PySem.W.plainGet K C f=true:=c.pg
section
variable {X:Cx} {A3:List (Addr×Obj)} {σ:St} {H:Hp} {s:Shared} {a C dx:Addr} {fs:List (Str×V)} {f:Str} {v:V} {A:Around} {E:Value->Shared->Prop}
end
section
variable {X:Cx} {o e value:Expr} {f:Str} {pos pos' tpos:Pos} {ta tv:TE}
end
section
variable {X:Cx} {A3:List (Addr×Obj)} {σ:St} {H:Hp} {s:Shared} {A:Around} {E:Value->Shared->Prop} {Q:Value->Shared->Prop} {c:Value} {b:Bool}
inductive xp8 (K:PySem.W.Frag) (H:Hp):V->Value->Prop where
 | non:xp8 K H .non (.type "NoneType")
 | bl (x:Bool):xp8 K H (.bl x) (.type "bool")
 | int (i:Int):xp8 K H (.int i) (.type "int")
 | str (x:Str):xp8 K H (.str x) (.type "str")
 | flt (x:UInt64):xp8 K H (.flt x) (.type "float")
 | lst {a:Addr} {xs:List V} (e:H a=some (.lst xs)):xp8 K H (.ref a) (.type "list")
 | frz {a:Addr} {o:Obj} {xs:List V} (e:H a=some (.frz o (.lst xs))):xp8 K H (.ref a) (.type "list")
 | tup {a:Addr} {xs:List V} (e:H a=some (.tup xs)):xp8 K H (.ref a) (.type "tuple")
 | dK {a:Addr} {kvs:List (Key×V)} (e:H a=some (.dK kvs)):xp8 K H (.ref a) (.type "dict")
 | dT {a:Addr} {kvs:List (List Key×V)} (e:H a=some (.dT kvs)):xp8 K H (.ref a) (.type "dict")
 | ins {a C dx:Addr} {fs:List (Str×V)} (e:H a=some (.ins C dx fs)) (cl:Cls K C) (ha:PySem.W.findIn K (.ref C) "__class__" = some (some (.builtin "object.__class__")))
  (hn:PySem.W.specialIn K (.builtin "object.__class__") "__get__" = some (some (.builtin "getset_descriptor.__get__"))) (htk:PySem.W.takesIn K (.builtin "object.__class__")=some true)
  (hm:PySem.W.mroIn K C (.type "object")=some true):xp8 K H (.ref a) (.ref C)
theorem zn3 {x:V} {u t:Value} (I:Inv X A3 σ H s) (rx:zf3 x u) (ty:xp8 X.K H x t) (e:PySem.W.kitOne X.K t c=some b) (h:∀tk,Q (.bool b) { s with toks:=tk }) :
 wpAny (model X.prog X.w) A (call (.builtin "isinstance") [u,c]) Q E s:=by
 cases ty with
 | non=>cases (show u=Value.none from rx);exact PySem.W.kia_one PySem.W.kitx_none I.kIn True.intro e (fun z=>nomatch z) h
 | bl y=>cases (show u=Value.bool y from rx);exact PySem.W.kia_one PySem.W.kitx_bool I.kIn True.intro e (fun z=>nomatch z) h
 | int i=>obtain⟨t,q⟩:=(show ∃t,u=Value.int i t from rx);cases q;exact PySem.W.kia_one PySem.W.kitx_int I.kIn True.intro e (fun z=>nomatch z) h
 | str y=>obtain⟨t,q⟩:=(show ∃t,u=Value.str y t from rx);cases q;exact PySem.W.kia_one PySem.W.kitx_str I.kIn True.intro e (fun z=>nomatch z) h
 | flt y=>obtain⟨t,q⟩:=(show ∃t,u=Value.float y t from rx);cases q;exact PySem.W.kia_one PySem.W.kitx_float I.kIn True.intro e (fun z=>nomatch z) h
 | @lst a xs ea=>
   cases (show u=Value.ref a from rx);obtain⟨_,_,n,_,h1⟩:=(show zl8 X.prog X.w H s.heap a (.lst xs) from I.hok a _ ea);exact PySem.W.kia_one PySem.W.kitx_list I.kIn ⟨_,h1,rfl⟩ e (fun z=>nomatch z) h
 | @frz a ob xs ea=>
   cases (show u=Value.ref a from rx);obtain⟨_,_,_,n,_,h1⟩:=(show zl8 X.prog X.w H s.heap a (.frz ob (.lst xs)) from I.hok a _ ea);exact PySem.W.kia_one PySem.W.kitx_list I.kIn ⟨_,h1,rfl⟩ e (fun z=>nomatch z) h
 | @tup a xs ea=>
   cases (show u=Value.ref a from rx);obtain⟨_,_,_,p⟩:=(show zl8 X.prog X.w H s.heap a (.tup xs) from I.hok a _ ea);obtain⟨o,h1,h2,_⟩:=p;exact PySem.W.kia_one PySem.W.kitx_tuple I.kIn ⟨o,h1,h2⟩ e (fun z=>nomatch z) h
 | @dK a kvs ea=>
   cases (show u=Value.ref a from rx);obtain⟨_,_,vs,_,p⟩:=(show zl8 X.prog X.w H s.heap a (.dK kvs) from I.hok a _ ea);obtain⟨o,es,ep,h1,h2,_⟩:=p;exact PySem.W.kia_one PySem.W.kitx_dict I.kIn ⟨o,h1,h2.1⟩ e (fun z=>nomatch z) h
 | @dT a kvs ea=>
   cases (show u=Value.ref a from rx);obtain⟨_,_,xs,_,o,es,ep,h1,h2,_⟩:=(show zl8 X.prog X.w H s.heap a (.dT kvs) from I.hok a _ ea);exact PySem.W.kia_one PySem.W.kitx_dict I.kIn ⟨o,h1,h2.1⟩ e (fun z=>nomatch z) h
 | @ins a C dx fs ea cl ha hn htk hm=>
   cases (show u=Value.ref a from rx);obtain⟨mA,O,_⟩:=wr5 I.hok ea;obtain⟨od,J,_⟩:=O.look;exact PySem.W.kia_one (PySem.W.kitx_own (cl.get _) cl.hd ha hn htk hm) I.kIn J e (fun z=>nomatch z) h
end
structure zm7 (k:Nat) (A:Around):Prop where
 hd:A.handled=none
 dp:A.depth+3*k+5<recursionLimit
 un:A.units+16*k+200<cLine
 gd:A.guards=some []
theorem zm7.mono {j k:Nat} {A:Around} (r:zm7 k A) (h:j<=k):zm7 j A:=⟨r.hd,by have:=r.dp;omega,by have:=r.un;omega,r.gd⟩
theorem zm7.deeper {k:Nat} {A:Around} (r:zm7 (k+1) A) (env:Env):zm7 k (A.deeper env):=
 ⟨r.hd,by have:=r.dp;show A.depth+1+3*k+5<_;omega,by have:=r.un;show A.units+3+16*k+200<_;omega,r.gd⟩
theorem zm7.depth {k:Nat} {A:Around} (r:zm7 k A):A.depth<recursionLimit:=by have:=r.dp;omega
theorem zm7.units {k:Nat} {A:Around} (r:zm7 k A):A.units+64<cLine:=by have:=r.un;omega
noncomputable def vl6:TA:=fun _ H Q=>Q [] H
noncomputable def wb2 (ta:TE) (tr:TA):TA:=fun σ H Q=>ta σ H fun x H1=>tr σ H1 fun xs H2=>Q (x::xs) H2
section
variable {X:Cx} {e:Expr} {es:List Expr} {te:TE} {t:TA} {pos:Pos}
theorem zz0:PA X [] vl6:=fun _ _ _ _ H Q I h=>Calls.spliced_nil ⟨[],H,I,.nil,h⟩
theorem zn7 (ha:PE X e te) (hr:PA X es t) (hs:starEach (e::es) X.env=(false,eval e X.env)::starEach es X.env:=by rfl):PA X (e::es) (wb2 te t):=by
 intro pos A3 s σ H Q I h;rw[hs];show wpAny _ _ (spliced ((false,eval e X.env)::backTo pos (starEach es X.env))) _ _ s;refine Calls.spliced_cons (thn (ha A3 s σ H _ I h) fun u s1 hI73=>?_);obtain⟨x,H1,I1,r1,q1⟩:=hI73;exact thn (hr pos A3 s1 σ H1 _ I1 q1) fun us s2 ⟨xs,H2,I2,r2,q2⟩=>⟨x::xs,H2,I2,.cons r1 r2,q2⟩
noncomputable def vo5 (t:TA):TE:=fun σ H Q=>t σ H fun xs H1=>xs.length<=sizeLine/\∀p,H1 p=none->Q (.ref p) (upd H1 p (.tup xs))
noncomputable def vp1 (t:TA):TE:=fun σ H Q=>t σ H fun xs H1=>xs.length<=sizeLine/\∀p,H1 p=none->Q (.ref p) (upd H1 p (.lst xs))
theorem wy3 {x1} (h:PA X es t):PE X (.Tuple es x1 pos) (vo5 t):=by
 intro A3 s σ H Q I hq;refine wpAny_Tuple_spliced (thn (h pos A3 s σ H _ I hq) fun us s1 ⟨xs,H1,I1,r,z,q⟩=>⟨by rw[<-r.length];exact z,?_⟩);have hf:H1 s1.heap.objs.size=none:=I1.hok.fresh (Ae0 _);refine⟨.ref s1.heap.objs.size,upd H1 s1.heap.objs.size (.tup xs),I1.laid (t':=s1.toks) (fun b u e=>Ad0 _ e) (Ae0 _) ?_,rfl,q _ hf⟩;exact⟨z,us,r,⟨_,Ak0 _ rfl,rfl,_,rfl⟩⟩
theorem xt3 (h:PA X es t):PE X (.List es pos) (vp1 t):=by
 intro A3 s σ H Q I hq;refine wpAny_List_spliced (thn (h pos A3 s σ H _ I hq) fun us s1 ⟨xs,H1,I1,r,z,q⟩=>⟨by rw[<-r.length];exact z,?_⟩);have hf:H1 s1.heap.objs.size=none:=I1.hok.fresh (Ae0 _);refine⟨.ref s1.heap.objs.size,upd H1 s1.heap.objs.size (.lst xs),I1.laid (t':=s1.toks) (fun b u e=>Ad0 _ e) (Ae0 _) ?_,rfl,q _ hf⟩;exact⟨z,us,0,r,Ak0 _ rfl⟩
end
noncomputable abbrev Sp:=List V->Hp->VK->XK->Prop
noncomputable abbrev CXT:=List Env->Hp->Shared->XK->Value->Shared->Prop
structure vf9 (P:Program) (w:World) (K:PySem.W.Frag) (mg:Str->Option Value) (base:Heap) (A:Around) (outer:List Env) (s:Shared) (H:Hp):Prop where
 frames:A.frames=some outer
 mod:Mod K mg base
 bs:∀b o,base.get? b=some o->s.heap.get? b=some o/\H b=none
 bsz:base.objs.size<=s.heap.objs.size
 funs:s.heap.FunFrames base outer
 frf:∀b∈frs outer,H b=none
 hok:HOk P w H s.heap
 bare:AllBare s.gens
noncomputable def CE (outer:List Env) (P:Program) (w:World) (H:Hp) (s:Shared) (Q:VK) (u:Value) (s':Shared):Prop:=
 ∃v H',s'.os=s.os/\AllBare s'.gens/\Un (frs outer) [] H H' s.heap s'.heap/\HOk P w H' s'.heap/\zf3 v u/\Q v H'
noncomputable def CR (CX:CXT) (outer:List Env) (P:Program) (w:World) (H:Hp) (s:Shared) (Q:VK) (E:XK) (r:Result) (s':Shared):Prop:=
 match r with
 | .ok (.ret u)=>CE outer P w H s Q u s'
 | .ok _=>False
 | .error e=>CX outer H s E e s'
structure zr3 (P:Program) (w:World) (K:PySem.W.Frag) (mg:Str->Option Value) (base:Heap) (CX:CXT) (k:Nat) (f:Addr) (fd:FuncData) (ps:List Str) (sp:Sp):Prop where
 len:∀vs H Q E,sp vs H Q E->vs.length=ps.length
 run:∀(A:Around) (outer:List Env) (s:Shared) (H:Hp) (args:Args) (us:List Value) (vs:List V) (Q:VK) (E:XK),zm7 k A->vf9 P w K mg base A outer s H->BindsTo s fd args (ps.zip us)->zg1 vs us->sp vs H Q E->
  codeAny (model P w) A (.call (.ref f) args) (CR CX outer P w H s Q E) s
theorem zr3.mono {P:Program} {w:World} {K:PySem.W.Frag} {mg:Str->Option Value} {base:Heap} {CX:CXT} {j k:Nat} {f:Addr} {fd:FuncData} {ps:List Str} {sp:Sp} (F:zr3 P w K mg base CX j f fd ps sp) (h:j<=k) :
 zr3 P w K mg base CX k f fd ps sp:=⟨F.len,fun A outer s H args us vs Q E hr=>F.run A outer s H args us vs Q E (hr.mono h)⟩
section
variable {X:Cx} {A3:List (Addr×Obj)} {σ:St} {H:Hp} {s s':Shared}
theorem Inv.env0 (I:Inv X A3 σ H s):vf9 X.prog X.w X.K X.mg X.base X.A X.stack s H:=
 ⟨I.ok.frames,I.ok.mod,I.bs,Ax0 I.ok.bsz I.sz,I.stack,I.stkFree,I.hok,I.bare⟩
theorem Inv.after {Q:VK} {u:Value} (I:Inv X A3 σ H s) (h:CE X.stack X.prog X.w H s Q u s'):EP X A3 σ Q u s':=by
 obtain⟨v,H',os,bare,un,hok,r,q⟩:=h;obtain⟨hh,g,d,t,os'⟩:=s';obtain rfl:os'=s.os:=os;exact⟨v,H',I.call (h':=hh) (g':=g) (d':=d) (t':=t) (ch:=[]) un hok bare (fun b z=>absurd z (by simp)),r,q⟩
end
noncomputable def wm8 (sp:Sp) (dvs:List V) (E:XK) (t:TA):TE:=fun σ H Q=>t σ H fun vs H1=>sp (vs++dvs) H1 Q E
noncomputable def xp4 (K:PySem.W.Frag) (fd:FuncData) (ps:List Str) (ds:List Value):Prop:=
 ∀(s:Shared) (us:List Value),K.In s.heap->(us++ds).length=ps.length->BindsTo s fd ⟨us,[]⟩ (ps.zip (us++ds))
theorem xp4.all {K:PySem.W.Frag} {fd:FuncData} {ps:List Str} (h:∀us:List Value,us.length=ps.length->bindArgs fd ⟨us,[]⟩=pure (ps.zip us)):xp4 K fd ps []:=fun s us _ hl=>by
 rw[Bc0] at hl ⊢;exact .of_eq (h us hl)
noncomputable def xz3 (CX:CXT) (X:Cx) (E:XK):Prop:=∀(A3:List (Addr×Obj)) (σ:St) (H:Hp) (s:Shared) (e:Value) (s':Shared),Inv X A3 σ H s->CX X.stack H s E e s'->X.xe e s'
section
variable {X:Cx} {CX:CXT} {k:Nat} {f C:Addr} {fd:FuncData} {ps:List Str} {sp:Sp} {dvs:List V} {ds:List Value} {E:XK} {x m:Str} {p pos apos:Pos} {e o:Expr} {es:List Expr} {ta:TE} {t:TA}
set_option tactic.hygienic true in
theorem wx0 {A3:List (Addr×Obj)} {σ:St} {H:Hp} {s:Shared} {Q:VK} {us:List Value} {vs:List V} (F:zr3 X.prog X.w X.K X.mg X.base CX k f fd ps sp) (hr:zm7 k X.A) (hb:xp4 X.K fd ps ds) (hd:zg1 dvs ds) (hx:xz3 CX X E)
 (I:Inv X A3 σ H s) (r:zg1 vs us) (h:sp (vs++dvs) H Q E):wpAny (model X.prog X.w) X.A (call (.ref f) us) (EP X A3 σ Q) X.xe s:=by
 have r2:zg1 (vs++dvs) (us++ds):=r.append hd;have hl:(us++ds).length=ps.length:=by rw[<-r2.length];exact F.len _ _ _ _ h
 refine wpAny_call (codeAny_mono (F.run X.A X.stack s H ⟨us,[]⟩ (us++ds) (vs++dvs) Q E hr I.env0 (hb s us I.kIn hl) r2 h) fun r s' hq=>?_);cases r with
 | error e=>exact hx A3 σ H s e s' I hq
 | ok fl=>
   cases fl with
   | ret u=>exact I.after hq
   | next=>exact False.elim hq
   | brk=>exact False.elim hq
   | cont=>exact False.elim hq
theorem xc6 (F:zr3 X.prog X.w X.K X.mg X.base CX k f fd ps sp) (hr:zm7 k X.A) (hg:Gl X x) (hm:X.mg x=some (.ref f)) (hk:keepIn X.K (.ref f)=true) (hb:xp4 X.K fd ps ds) (hd:zg1 dvs ds) (hx:xz3 CX X E)
 (ha:PA X (e::es) t) (hdb:(x == ("__debug__" : Str))=false:=by decide) (he:starEach (e::es) X.env=(false,eval e X.env)::starEach es X.env:=by rfl) (hpl:(backTo pos (starEach es X.env)).any (·.1)=false:=by rfl) :
 PE X (.Call (.Name x p) (e::es) [] pos) (wm8 sp dvs E t):=by
 intro A3 s σ H Q I h;refine wpAny_Call_Name_kw (xv0 I hg hm ?_ hdb);refine PySem.W.callWith_K (h₀:=X.base) I.ok.mod.kin hk (thn (ha pos A3 s σ H _ I h) fun us s1 ⟨vs,H1,I1,r,q⟩=>⟨I1.kIn,?_⟩) he hpl;exact wx0 F hr hb hd hx I1 r q
end
section
variable {X:Cx} {CX:CXT} {k:Nat} {f C:Addr} {fd:FuncData} {ps ks:List Str} {sp:Sp} {E:XK} {x m:Str} {p pos apos kpos:Pos} {e o:Expr} {es:List Expr} {kws:List Keyword} {te ta:TE} {t tk:TA} {nm:Option Str}
variable {g:List Value->List Value->List Value} {gV:List V->List V->List V}
end
structure zc9 (N P:List Str) (sc:Scope):Prop where
 kind:sc.kind=.function
 co:sc.isCoroutine=false
 gen:sc.isGenerator=false
 nd:N.Nodup
 pre:N.take P.length=P
 par:∀x∈P,sc.names.lookup x=some .local\/sc.names.lookup x=some .cell
 nofree:∀y∈sc.names,y.2≠.free
theorem xa3 {kindOf:Str->Option NameKind} {x:Str}:∀{binds:List (Str×Value)} {m:Str->Option Value},(∀v,(x,v)∉binds)->bindL kindOf binds m x=m x
 | [],_,_=>rfl
 | (n,v)::r,m,h=>by
   unfold bindL;rw[xa3 fun w hw=>h w (Bw0 _ hw)];split
   ·have:x≠n:=by rintro rfl;exact h v Cf0
    simp[this]
   ·rfl
theorem xa5 {kindOf:Str->Option NameKind} {x:Str}:∀{binds:List (Str×Value)} {m:Str->Option Value},(∀v,(x,v)∉binds)->bindC kindOf binds m x=m x
 | [],_,_=>rfl
 | (n,v)::r,m,h=>by
   unfold bindC;rw[xa5 fun w hw=>h w (Bw0 _ hw)];split
   ·rfl
   ·have:x≠n:=by rintro rfl;exact h v Cf0
    simp[this]
theorem xa4 {kindOf:Str->Option NameKind} {x:Str} {v:Value}:∀{P:List Str} {vs:List Value} {i:Nat} {m:Str->Option Value},P.Nodup->P[i]?=some x->vs[i]?=some v->kindOf x=some .local->
 bindL kindOf (P.zip vs) m x=some v
 | [],_,_,_,_,h,_,_=>by simp at h
 | _::_,[],_,_,_,_,h,_=>by simp at h
 | p::P,w::vs,0,m,nd,h1,h2,hk=>by
   simp at h1 h2;subst h1;subst h2;show bindL kindOf ((p,w)::P.zip vs) m p=_;unfold bindL;rw[xa3 fun v hv=>(Bt0.mp nd).1 (List.of_mem_zip hv).1,if_pos hk];simp
 | p::P,w::vs,i+1,m,nd,h1,h2,hk=>by
   show bindL kindOf ((p,w)::P.zip vs) m x=_;unfold bindL;exact xa4 (i:=i) (Bt0.mp nd).2 (by simpa using h1) (by simpa using h2) hk
theorem xa6 {kindOf:Str->Option NameKind} {x:Str} {v:Value}:∀{P:List Str} {vs:List Value} {i:Nat} {m:Str->Option Value},P.Nodup->P[i]?=some x->vs[i]?=some v->kindOf x≠some .local->
 bindC kindOf (P.zip vs) m x=some v
 | [],_,_,_,_,h,_,_=>by simp at h
 | _::_,[],_,_,_,_,h,_=>by simp at h
 | p::P,w::vs,0,m,nd,h1,h2,hk=>by
   simp at h1 h2;subst h1;subst h2;show bindC kindOf ((p,w)::P.zip vs) m p=_;unfold bindC;rw[xa5 fun v hv=>(Bt0.mp nd).1 (List.of_mem_zip hv).1,if_neg hk];simp
 | p::P,w::vs,i+1,m,nd,h1,h2,hk=>by
   show bindC kindOf ((p,w)::P.zip vs) m x=_;unfold bindC;exact xa6 (i:=i) (Bt0.mp nd).2 (by simpa using h1) (by simpa using h2) hk
noncomputable def zy0 (N:List Str) (vs:List V):St:=vs.map some++List.replicate (N.length-vs.length) none
noncomputable def zw9 (CX:CXT) (P:Program) (w:World) (K:PySem.W.Frag) (mg:Str->Option Value) (base:Heap) (N:List Str) (qual:Str) (scope:Scope) (f:Addr) (cd:Value) (A:Around) (outer:List Env) (s:Shared) (H:Hp) (E:XK):Cx where
 prog:=P
 w:=w
 K:=K
 mg:=mg
 base:=base
 A:=A.deeper (envOfC qual scope s.heap.objs.size f cd)
 N:=N
 s₀:=s
 H₀:=H
 env:=envOfC qual scope s.heap.objs.size f cd
 outer:=outer
 stack:=envOfC qual scope s.heap.objs.size f cd::outer
 ex:=[]
 calm:=true
 fn:=fun _=>true
 pn:=[]
 xe:=fun e s'=>wpAny (model P w) (A.deeper (envOfC qual scope s.heap.objs.size f cd)) (leaving (envOfC qual scope s.heap.objs.size f cd) e) (fun _ s''=>CX outer H s E e s'') (fun e' s''=>CX outer H s E e' s'') s'
theorem xk4 {sc:Scope} {n:Nat} {x:Str} (h:sc.names.lookup x=some .cell):∃c,(cellsFrom n sc.names []).lookup x=some c:=by
 have q:=PySem.W.cellsFrom_some sc.names n [] (.inl h);exact Option.isSome_iff_exists.mp q
theorem xw2 {CX:CXT} {P:Program} {w:World} {K:PySem.W.Frag} {mg:Str->Option Value} {base:Heap} {N ps:List Str} {qual:Str} {scope:Scope} {f:Addr} {cd:Value} {A:Around} {outer:List Env} {s s1:Shared} {H:Hp} {E:XK} {us:List Value} {vs:List V}
 (S:zc9 N ps scope) (hd:A.handled=none) (e0:vf9 P w K mg base A outer s H) (hl:vs.length=ps.length) (r:zg1 vs us)
 (x:InCallC s s.heap.objs.size (bindL (envOfC qual scope s.heap.objs.size f cd).kindOf (ps.zip us) fun _=>none) (cellsFrom (s.heap.objs.size+1) scope.names []) (bindC (envOfC qual scope s.heap.objs.size f cd).kindOf (ps.zip us) fun _=>none) s1) :
 Inv (zw9 CX P w K mg base N qual scope f cd A outer s H E) [] (zy0 N vs) H s1:=by
 have hpl:ps.length<=N.length:=by have:=congrArg List.length S.pre;rw[Be0] at this;omega
 obtain⟨h1,tk,rfl,hk⟩:=x.done;have noA:∀b:Addr,b∉(zw9 CX P w K mg base N qual scope f cd A outer s H E).ex:=fun b z=>absurd (show b∈([]:List Addr) from z) (by simp)
 refine⟨⟨e0.mod,S.kind,rfl,rfl,Ae0 _,fun y z c h1 h2=>?_,fun y hy=>?_,fun y c _ h=>?_,fun _=>hd,Around.frames_deeper e0.frames,.inr ⟨rfl,rfl⟩,fun b z=>absurd z (noA b),e0.bs,e0.bsz,fun b _ _=>noA b,fun b z=>absurd z (noA b),e0.funs,e0.frf⟩,rfl,e0.bare,Un.kept hk,⟨_,x.toInCall.ns,fun i y v h1 h2 h3=>?_⟩,fun y c h=>⟨_,x.cell y c h⟩,e0.hok.fresh (Ae0 _),fun y c h=>?_,fun p hp=>absurd (show p∈([]:List (Addr×Obj)) from hp) (by simp),e0.hok.kept hk,?_⟩
 ·exact name_of_addr x.apart (PySem.mem_of_lookup h1) (PySem.mem_of_lookup h2)
 ·have hy:scope.names.lookup y=some .cell\/scope.names.lookup y=some .free:=hy
  rcases hy with hy | hy
  ·exact xk4 hy
  ·exact absurd rfl (S.nofree _ (PySem.mem_of_lookup hy))
 ·exact Nat.le_of_lt (x.above y c (PySem.mem_of_lookup h))
 ·have hi:i<vs.length:=by
   unfold zy0 at h2;by_cases hi:i<vs.length
   ·exact hi
   ·rw[List.getElem?_append_right (by simpa using hi)] at h2
    rw[List.getElem?_replicate] at h2;split at h2<;>cases h2
  have ha:vs[i]?=some v:=by
   unfold zy0 at h2;rw[Bl0 (by simpa using hi),Ag0] at h2;cases e:vs[i]? with
   | none=>rw[e] at h2;cases h2
   | some a=>rw[e] at h2;cases h2;rfl
  obtain⟨u,hu,rv⟩:=r.get ha;have hp:ps[i]?=some y:=by
   rw[<-S.pre,List.getElem?_take_of_lt (by omega)];exact h1
  have ndP:ps.Nodup:=by rw[<-S.pre];exact S.nd.sublist (List.take_sublist _ _)
  refine⟨u,rv,?_⟩;rcases S.par y (Aj0 hp) with k | k
  ·exact .inl ⟨k,xa4 ndP hp hu k⟩
  ·obtain⟨c,e⟩:=xk4 (n:=s.heap.objs.size+1) k
   refine .inr ⟨.inl k,c,e,?_⟩;have q:=x.cell y c e;rw[xa6 ndP hp hu (by show scope.names.lookup y≠_;rw[k];decide)] at q;exact q
 ·exact e0.hok.fresh (Nat.le_of_lt (x.above y c (PySem.mem_of_lookup h)))
 ·unfold zy0
  show _=N.length;rw[Al0,Aa0,List.length_replicate];omega
set_option tactic.hygienic true in
theorem vk0 {CX:CXT} {P:Program} {w:World} {K:PySem.W.Frag} {mg:Str->Option Value} {base:Heap} {k:Nat} {f:Addr} {name qual:Str} {params:Arguments} {body:List Stmt} {scope:Scope} {dV kV doc pm cdv ct oc:Value} {an od:Option Addr}
 {osl:Array (Option Value)} {N ps:List Str} {sp:Sp} (lk:K.lookup f=some ⟨oc,od,.func (fnOf name qual params body scope dV kV doc pm an cdv ct),osl⟩) (hcd:codeIn K cdv qual=true) (S:zc9 N ps scope)
 (len:∀vs H Q E,sp vs H Q E->vs.length=ps.length)
 (hbody:∀(A:Around) (outer:List Env) (s:Shared) (H:Hp) (vs:List V) (Q:VK) (E:XK),zm7 k (A.deeper (envOfC qual scope s.heap.objs.size f cdv))->sp vs H Q E->
  ∃t,PSs (zw9 CX P w K mg base N qual scope f cdv A outer s H E) body t/\t { nx:=fun _ H'=>Q .non H',rt:=Q } (zy0 N vs) H) :
 zr3 P w K mg base CX (k+1) f (fnOf name qual params body scope dV kV doc pm an cdv ct) ps sp:=by
 refine⟨len,fun A outer s H args us vs Q E hr e0 hb r hsp=>?_⟩;have hl:=len _ _ _ _ hsp;have KX:K.In s.heap:=e0.mod.kin.keeps fun b o e=>(e0.bs b o e).1
 have lim:s.heap.NoLimit:=e0.mod.nolimit.keeps fun b o e=>(e0.bs b o e).1
 have hkind:∀y∈ps.zip us,scope.names.lookup y.1=some .local\/(scope.names.lookup y.1=some .cell/\((cellsFrom (s.heap.objs.size+1) scope.names []).lookup y.1).isSome=true):=fun hI2 hy=>by
  obtain⟨n,v⟩:=hI2;rcases S.par n (List.of_mem_zip hy).1 with q | q
  ·exact .inl q
  ·exact .inr ⟨q,PySem.W.cellsFrom_some _ _ _ (.inl q)⟩
 refine codeAny_call_function hr.depth (KX _ _ lk) rfl S.co S.gen rfl (PySem.W.codeRec_of KX hcd) (hb _ _ _ _ ?_);refine wpAny_newFunctionEnv_cells S.kind hkind fun env he s1 x=>?_
 subst he;refine⟨lim.keeps x.toInCall.keep,codeAny_func ?_⟩;obtain⟨t,ht,hq⟩:=hbody A outer s H vs Q E (hr.deeper _) hsp;have I:Inv (zw9 CX P w K mg base N qual scope f cdv A outer s H E) [] (zy0 N vs) H s1:=xw2 S hr.hd e0 hl r x;refine Ah1 (ht [] s1 (zy0 N vs) H _ I hq) (fun fl s' hs=>?_) fun e s' hs=>hs
 have fin:∀{σ':St} {H':Hp} {v:V} {u:Value},Inv (zw9 CX P w K mg base N qual scope f cdv A outer s H E) [] σ' H' s'->zf3 v u->Q v H'->CE outer P w H s Q u s':=
  fun {σ' H' v u} J rv q=>⟨v,H',J.os,J.bare,J.base,J.hok,rv,q⟩
 cases fl with
 | ret u=>
   obtain⟨v,σ',H',J,rv,q⟩:=hs;exact fin J rv q
 | next=>
   obtain⟨σ',H',J,q⟩:=hs;exact fin (v:=V.non) (u:=Value.none) J rfl q
 | brk=>
   obtain⟨_,_,_,q⟩:=hs;exact False.elim q
 | cont=>
   obtain⟨_,_,_,q⟩:=hs;exact False.elim q
section
variable {X:Cx} {x:Str} {p pos:Pos} {e:Expr} {es:List Expr} {t:TA} {id T:String} {r:List V->Hp->VK->Prop}
noncomputable def tCB (r:List V->Hp->VK->Prop) (t:TA):TE:=fun σ H Q=>t σ H fun vs H1=>r vs H1 Q
theorem yh0 (hc:ya9 X (.builtin id) r) (hg:Gl X x) (hm:X.mg x=none) (hv:bootBuiltins x=some (.builtin id)) (ha:PA X (e::es) t) (hn:x≠"__name__":=by decide) (hdb:(x == ("__debug__" : Str))=false:=by decide)
 (he:starEach (e::es) X.env=(false,eval e X.env)::starEach es X.env:=by rfl) (hpl:(backTo pos (starEach es X.env)).any (·.1)=false:=by rfl):PE X (.Call (.Name x p) (e::es) [] pos) (tCB r t):=by
 intro A3 s σ H Q I h;refine wpAny_Call_Name_kw (yk1 I hg hm hv ?_ hn hdb);exact PyProof.Rows.callWith_builtin1 (thn (ha pos A3 s σ H _ I h) fun us s1 ⟨vs,H1,I1,r1,q1⟩=>hc A3 s1 σ H1 vs us Q I1 r1 q1) he hpl
theorem yw3 (hc:ya9 X (.type T) r) (hg:Gl X x) (hm:X.mg x=none) (hv:bootBuiltins x=some (.type T)) (ha:PA X (e::es) t) (hn:x≠"__name__":=by decide) (hdb:(x == ("__debug__" : Str))=false:=by decide)
 (he:starEach (e::es) X.env=(false,eval e X.env)::starEach es X.env:=by rfl) (hpl:(backTo pos (starEach es X.env)).any (·.1)=false:=by rfl):PE X (.Call (.Name x p) (e::es) [] pos) (tCB r t):=by
 intro A3 s σ H Q I h;refine wpAny_Call_Name_kw (yk1 I hg hm hv ?_ hn hdb);exact PyProof.Rows.callWith_type1 (thn (ha pos A3 s σ H _ I h) fun us s1 ⟨vs,H1,I1,r1,q1⟩=>hc A3 s1 σ H1 vs us Q I1 r1 q1) he hpl
end
end L2
namespace HT
open PySem PyProof.Rows
section
open PySem.SeqAt
open PySem.AutoSeq1 (wpAny_loadPart')
open PySem.MeetsSeq PySem.MeetsSeq2 PySem.MeetsSeq3
end
section
variable {prog:Program} {w:World} {A:Around} {E:Value->Shared->Prop} {s:Shared}
theorem cat_tup {t b:Addr} {vs ws:List Value} {Q:Value->Shared->Prop} (ht:IsTup s.heap t vs.toArray) (hb:IsTup s.heap b ws.toArray) (hv:vs≠[])
 (h1:ws=[]->Q (.ref t) s) (h2:ws≠[]->Q (.ref s.heap.objs.size) { s with heap:=s.heap.push { cls:=.type "tuple",data:=.seq (vs++ws).toArray } })
 (hsz:vs.length+ws.length<=sizeLine):wpAny (model prog w) A (binaryOp .Add (.ref t) (.ref b)) Q E s:=by
 obtain⟨⟨cls,dd,data,sl⟩,ho,hc,n,hd⟩:=id ht;obtain⟨⟨cls2,dd2,data2,sl2⟩,ho2,hc2,n2,hd2⟩:=id hb;simp only at hc hd hc2 hd2;subst hc hd hc2 hd2;have e:vs.toArray++ws.toArray=(vs++ws).toArray:=by simp
 by_cases hw:ws=[]
 ·exact concat_meets ⟨_,ho,rfl⟩ ⟨_,ho2,rfl⟩ noFill_tuple_add seq_tuple_add PySem.F.slot_tuple_add PySem.F.entry_tuple_add (PySem.F.args_tuple_add_2 _ _)
   (tuple_addW1 t b vs.toArray ws.toArray n n2 dd dd2 sl sl2 (by simpa using hv) (by simp[hw])) ⟨ho,ho2,h1 hw⟩
 ·refine concat_meets ⟨_,ho,rfl⟩ ⟨_,ho2,rfl⟩ noFill_tuple_add seq_tuple_add PySem.F.slot_tuple_add PySem.F.entry_tuple_add (PySem.F.args_tuple_add_2 _ _)
   (tuple_addW2 t b vs.toArray ws.toArray n n2 dd dd2 sl sl2 (by simpa using hv) (by simpa using hw) (by rw[Ah0,Ah0];exact hsz)) ⟨ho,ho2,?_⟩
  rw[e];exact h2 hw
noncomputable def sIx (n d:Nat):Option Int->Nat
 | none=>d
 | some v=>if v<0 then (v+(n:Int)).toNat else min v.toNat n
theorem sIx_nat (n d k:Nat):sIx n d (some (k:Int))=min k n:=by
 show (if (k:Int)<0 then ((k:Int)+(n:Int)).toNat else min (k:Int).toNat n)=min k n;rw[if_neg (by omega),Aw0]
end
end HT
namespace L2
noncomputable abbrev TO:=St->Hp->(Option Int->Hp->Prop)->Prop
noncomputable def PO (X:Cx) (e:Option Expr) (t:TO):Prop:=
 ∀(A3:List (Addr×Obj)) (s:Shared) (σ:St) (H:Hp) (Q:Option Int->Hp->Prop),Inv X A3 σ H s->t σ H Q->
  wpAny (model X.prog X.w) X.A (evalPart e X.env) (fun u s'=>∃o H',Inv X A3 σ H' s'/\IsPart u o/\Q o H') X.xe s
noncomputable def wm6:TO:=fun _ H Q=>Q none H
noncomputable def vg6 (t:TE):TO:=fun σ H Q=>t σ H fun x H1=>∃i,x=.int i/\Q (some i) H1
theorem xo1 {ns:List Int}:∀{us:List Value},zg1 (ns.map V.int) us->IntsAre us ns:=by
 induction ns with
 | nil=>intro us r;rw[List.map_nil] at r;cases r;exact .nil
 | cons n ns ih=>
   intro us r;rw[Ay0] at r;cases r with
   | cons r1 r2=>
     obtain⟨t,e⟩:=r1;subst e;exact .cons n t (ih r2)
section
variable {X:Cx} {e:Expr} {te:TE} {lo hi:Option Expr} {tl th:TO} {pos p2:Pos}
theorem wo4:PO X none wm6:=by
 intro A3 s σ H Q I h;rw[evalPart_none];exact Ac1 ⟨none,H,I,.none,h⟩
theorem wo3 (h:PE X e te):PO X (some e) (vg6 te):=by
 intro A3 s σ H Q I hw;rw[evalPart_some];refine thn (h A3 s σ H _ I hw) fun u s1 hI74=>?_
 obtain⟨x,H1,I1,r1,q1⟩:=hI74;obtain⟨i,rfl,q⟩:=q1;obtain⟨t,rfl⟩:=r1;exact⟨some i,H1,I1,.int i t,q⟩
noncomputable def SlR (X:Cx) (r:V->Option Int->Option Int->Hp->VK->Prop):Prop:=
 ∀(A3:List (Addr×Obj)) (s:Shared) (σ:St) (H:Hp) (x:V) (v vl vu:Value) (lo hi:Option Int) (sl:Addr) (Q:VK),Inv X A3 σ H s->zf3 x v->s.heap.IsSliceOf sl vl vu .none->IsPart vl lo->IsPart vu hi->r x lo hi H Q->
  ∃T id,typeLookup (.type T) "__getitem__" = pure (some (.builtin id))/\s.TypeIs v T/\wpAny (model X.prog X.w) X.A (getItem v (.ref sl)) (EP X A3 σ Q) X.xe s
theorem SlR.or {r r':V->Option Int->Option Int->Hp->VK->Prop} (h:SlR X r) (h':SlR X r'):SlR X (fun x lo hi H Q=>r x lo hi H Q\/r' x lo hi H Q):=by
 intro A3 s σ H x v vl vu lo hi sl Q I rx hs pl pu q;rcases q with q | q
 ·exact h A3 s σ H x v vl vu lo hi sl Q I rx hs pl pu q
 ·exact h' A3 s σ H x v vl vu lo hi sl Q I rx hs pl pu q
noncomputable def tSl (r:V->Option Int->Option Int->Hp->VK->Prop) (te:TE) (tl th:TO):TE:=fun σ H Q=>te σ H fun x H1=>tl σ H1 fun l H2=>th σ H2 fun u H3=>r x l u H3 Q
theorem wc3 {r:V->Option Int->Option Int->Hp->VK->Prop} (hr:SlR X r) (he:PE X e te) (hl:PO X lo tl) (hu:PO X hi th):PE X (.Subscript e (.Slice lo hi none p2) pos) (tSl r te tl th):=by
 intro A3 s σ H Q I h;refine Subscript_ (thn (he A3 s σ H _ I h) fun v s1 hI75=>?_);obtain⟨x,H1,I1,r1,q1⟩:=hI75;refine wpAny_Slice (thn (hl A3 s1 σ H1 _ I1 q1) fun vl s2 ⟨l,H2,I2,pl,q2⟩=>thn (hu A3 s2 σ H2 _ I2 q2) fun vu s3 hI76=>?_);obtain⟨u,H3,I3,pu,q3⟩:=hI76;rw[evalPart_none];refine Ac1 ?_;have I4:Inv X A3 σ H3 { s3 with heap:=s3.heap.push { cls:=.type "slice",data:=.fields #[vl,vu,.none] } }:=I3.kept (t':=s3.toks) fun b ob q=>Ad0 _ q
 obtain⟨T,id,hT,ht,hg⟩:=hr A3 { s3 with heap:=s3.heap.push { cls:=.type "slice",data:=.fields #[vl,vu,.none] } } σ H3 x v vl vu l u s3.heap.objs.size Q I4 r1 (Heap.IsSliceOf.new ..) pl pu q3;show wpAny (model X.prog X.w) X.A (subscriptTail e (.Slice lo hi none p2) v (.ref s3.heap.objs.size)) (EP X A3 σ Q) X.xe { s3 with heap:=s3.heap.push { cls:=.type "slice",data:=.fields #[vl,vu,.none] } };exact tail_any (ops:=[.ref s3.heap.objs.size,v]) ht hT hg (by with_unfolding_all rfl)
noncomputable def ws7 (xs:List V) (lo hi:Option Int):List V:=(xs.drop (HT.sIx xs.length 0 lo)).take (HT.sIx xs.length xs.length hi-HT.sIx xs.length 0 lo)
theorem xe4 (xs:List V) (lo hi:Option Int):(ws7 xs lo hi).length<=xs.length:=by
 unfold ws7;rw[Be0,List.length_drop];omega
noncomputable def wb9 (K:PySem.W.Frag):R2:=fun x y H Q=>∃a b xs ys,x=.ref a/\y=.ref b/\SqT K H a xs/\SqT K H b ys/\xs≠[]/\xs.length+ys.length<=sizeLine/\
 (ys=[]->Q (.ref a) H)/\(ys≠[]->∀p,H p=none->Q (.ref p) (upd H p (.tup (xs++ys))))
theorem zg1.nil_iff {xs:List V} {us:List Value} (r:zg1 xs us):us=[]↔xs=[]:=by
 cases r with
 | nil=>simp
 | cons _ _=>simp
theorem wp3:OpR X (binaryOp .Add) (wb9 X.K):=by
 intro A3 s σ H x y v u Q I rx ry h;obtain⟨a,b,xs,ys,rfl,rfl,ha,hb,hx,hz,q1,q2⟩:=h;cases rx;cases ry;obtain⟨its,r1,p1,_⟩:=I.tuple ha;obtain⟨its2,r2,p2,_⟩:=I.tuple hb;refine HT.cat_tup p1 p2 (fun z=>hx (r1.nil_iff.mp z)) (fun z=>⟨.ref a,H,I,rfl,q1 (r2.nil_iff.mp z)⟩) (fun z=>?_) (by rw[<-r1.length,<-r2.length];exact hz);refine⟨.ref s.heap.objs.size,_,I.laid (t':=s.toks) (o:=.tup (xs++ys)) (fun b ob q=>Ad0 _ q) (Ae0 _) ?_,rfl,q2 (fun w=>z (r2.nil_iff.mpr w)) _ (I.hok.fresh (Ae0 _))⟩;exact⟨by rw[Al0];exact hz,_,r1.append r2,IsTup.new _ _⟩
end
noncomputable def ixN (n:Nat) (i:Int):Option Nat:=if 0<=i then (if i<n then some i.toNat else none) else if -(n:Int)<=i then some (i+n).toNat else none
noncomputable def atI {α:Type} (xs:List α) (i:Int):Option α:=(ixN xs.length i).bind fun j=>xs[j]?
theorem xw1 {n:Nat} {i:Int} {j:Nat} (h:ixN n i=some j):seqIndex? i n=some j/\j<n/\-(n:Int)<=i/\i<n:=by
 unfold ixN at h;by_cases h0:0<=i
 ·rw[if_pos h0] at h
  by_cases h1:i<n
  ·rw[if_pos h1] at h
   have e:i.toNat=j:=Option.some.inj h;exact⟨by rw[seqIndex_of h0 h1,e],by omega,by omega,h1⟩
  ·rw[if_neg h1] at h;cases h
 ·rw[if_neg h0] at h
  by_cases h1:-(n:Int)<=i
  ·rw[if_pos h1] at h
   have e:(i+n).toNat=j:=Option.some.inj h;exact⟨by rw[seqIndex_neg (by omega) h1,e],by omega,h1,by omega⟩
  ·rw[if_neg h1] at h;cases h
theorem xe8 {α:Type} {xs:List α} {i:Int} {v:α} (h:atI xs i=some v):∃j,seqIndex? i xs.length=some j/\xs[j]?=some v/\j<xs.length/\-(xs.length:Int)<=i/\i<xs.length:=by
 unfold atI at h;cases e:ixN xs.length i with
 | none=>rw[e] at h;cases h
 | some j=>
   rw[e] at h;obtain⟨h1,h2,h3,h4⟩:=xw1 e;exact⟨j,h1,h,h2,h3,h4⟩
theorem xe7 {α:Type} {xs:List α} {j:Nat} {v:α} (h:xs[j]?=some v):atI xs (j:Int)=some v:=by
 have hj:j<xs.length:=(Ac0.mp h).1;have e:ixN xs.length (j:Int)=some j:=by
  unfold ixN;rw[if_pos (by omega),if_pos (by omega)];simp
 unfold atI;rw[e];exact h
noncomputable def ym3 (b:Expr):Prop:=∀o i,subscripted b false o i=operate [o,i] (getItem o i)
noncomputable def IxR (X:Cx) (r:R2):Prop:=
 ∀(value slice:Expr) (A3:List (Addr×Obj)) (s:Shared) (σ:St) (H:Hp) (x y:V) (v u:Value) (Q:VK),Inv X A3 σ H s->zf3 x v->zf3 y u->r x y H Q->
  subscripted slice false v u=operate [v,u] (getItem v u)->wpAny (model X.prog X.w) X.A (subscriptTail value slice v u) (EP X A3 σ Q) X.xe s
noncomputable def MtR (X:Cx) (id:String) (r:V->List V->Hp->VK->Prop):Prop:=
 ∀(A3:List (Addr×Obj)) (s:Shared) (σ:St) (H:Hp) (x:V) (xs:List V) (v:Value) (us:List Value) (Q:VK),Inv X A3 σ H s->zf3 x v->zg1 xs us->r x xs H Q->
  wpAny (model X.prog X.w) X.A (call (.builtin id) (v::us)) (EP X A3 σ Q) X.xe s
section
variable {X:Cx} {a b:Expr} {ta tb:TE} {pos:Pos}
theorem IxR.or {r r':R2} (h:IxR X r) (h':IxR X r'):IxR X (fun x y H Q=>r x y H Q\/r' x y H Q):=by
 intro value slice A3 s σ H x y v u Q I rx ry q hs;rcases q with q | q
 ·exact h value slice A3 s σ H x y v u Q I rx ry q hs
 ·exact h' value slice A3 s σ H x y v u Q I rx ry q hs
theorem wo6 {r:R2} (hr:IxR X r) (ha:PE X a ta) (hb:PE X b tb) (hs:ym3 b):PE X (.Subscript a b pos) (tOp r ta tb):=by
 intro A3 s σ H Q I h;exact Subscript_ (vk9 ha hb I h fun v u s2 x y H2 I2 rx ry q=>hr a b A3 s2 σ H2 x y v u Q I2 rx ry q (hs _ _))
noncomputable def vm2 (K:PySem.W.Frag):R2:=fun x y H Q=>∃p xs i v,x=.ref p/\y=.int i/\SqL K H p xs/\atI xs i=some v/\Q v H
noncomputable def vm0 (K:PySem.W.Frag):R2:=fun x y H Q=>∃p xs i v,x=.ref p/\y=.int i/\SqT K H p xs/\atI xs i=some v/\Q v H
noncomputable def vm1:R2:=fun x y H Q=>∃z i c,x=.str z/\y=.int i/\z.length<=sizeLine/\atI z.cps.toList i=some c/\Q (.str ⟨#[c]⟩) H
theorem xw0:IxR X (vm2 X.K):=by
 intro value slice A3 s σ H x y v u Q I rx ry h hs;obtain⟨p,xs,i,z,rfl,rfl,hq,he,q⟩:=h;cases rx;obtain⟨t,rfl⟩:=ry;obtain⟨its,r,pl,hz⟩:=I.list hq;obtain⟨j,h1,h2,h3,h4,h5⟩:=xe8 he;obtain⟨w,ew,rw'⟩:=r.get h2;have hl:=r.length;have hn:=yx8;have fin:EP X A3 σ Q w s:=⟨z,H,I,rw',q⟩;by_cases h0:0<=i
 ·have hj:i.toNat=j:=by
   rw[seqIndex_of h0 h5] at h1;exact Option.some.inj h1
  exact item_listR pl.isList h0 (by omega) (by rw[hj];simpa using ew) fin hs
 ·have hj:(i+(its.toArray.size:Int)).toNat=j:=by
   rw[seqIndex_neg (by omega) h4] at h1;rw[Ah0,<-hl];exact Option.some.inj h1
  exact subscriptTail_builtinR (x:=w) pl.isList.typeIs slot_list_getitem.lookup
   (wpAny_getItem_list_neg (Q:=fun r s'=>r=w/\EP X A3 σ Q r s') pl.isList (by omega) (by rw[Ah0]<;>omega) (by omega) (by rw[hj];simpa using ew) ⟨rfl,fin⟩) hs
theorem wi8:IxR X (vm0 X.K):=by
 intro value slice A3 s σ H x y v u Q I rx ry h hs;obtain⟨p,xs,i,z,rfl,rfl,hq,he,q⟩:=h;cases rx;obtain⟨t,rfl⟩:=ry;obtain⟨its,r,pl,hz⟩:=I.tuple hq;obtain⟨j,h1,h2,h3,h4,h5⟩:=xe8 he;obtain⟨w,ew,rw'⟩:=r.get h2;have hl:=r.length;have hn:=yx8;have fin:EP X A3 σ Q w s:=⟨z,H,I,rw',q⟩;exact subscriptTail_builtinR (x:=w) pl.typeIs slot_tuple_getitem.lookup
  (getItem_tuple (j:=j) (Q:=fun r s'=>r=w/\EP X A3 σ Q r s') pl (by omega) (by omega) (by rw[Ah0,<-hl];exact h1) (by simpa using ew) ⟨rfl,fin⟩) hs
theorem va8:IxR X vm1:=by
 intro value slice A3 s σ H x y v u Q I rx ry h hs;obtain⟨z,i,c,rfl,rfl,hz,he,q⟩:=h;obtain⟨t,rfl⟩:=rx;obtain⟨t',rfl⟩:=ry;obtain⟨j,h1,h2,h3,h4,h5⟩:=xe8 he;have hl:z.cps.toList.length=z.length:=by simp[Str.length]
 rw[hl] at h1 h4 h5;have hn:=yx8;exact tail_any (typeIs_str s z t) slot_str_getitem.lookup (getItem_str (c:=c) (by
  have e1:decide (i < -(2 ^ 63:Int))=false:=Ao1 (by omega);have e2:decide (i>=2 ^ 63)=false:=Ao1 (by omega);rw[e1,e2,Bool.or_false]) (by rw[h1];simpa using h2) ⟨.str ⟨#[c]⟩,H,I.tok _,⟨_,rfl⟩,q⟩) hs
noncomputable def rIx (K:PySem.W.Frag):R2:=fun x y H Q=>vm2 K x y H Q\/vm0 K x y H Q\/vm1 x y H Q
theorem wi9:IxR X (rIx X.K):=xw0.or (wi8.or va8)
theorem xn4 (its:List Value) (n j:Nat) (u:Value):Obj.mapSeq (·.setIfInBounds j u) { cls:=.type "list",data:=.seq its.toArray n }={ cls:=.type "list",data:=.seq (its.set j u).toArray n }:=by
 simp[Obj.mapSeq]
theorem Inv.lst {A3:List (Addr×Obj)} {σ:St} {H:Hp} {s:Shared} {p:Addr} {xs:List V} (I:Inv X A3 σ H s) (h:H p=some (.lst xs)) :
 ∃(its:List Value) (n:Nat),zg1 xs its/\s.heap.get? p=some { cls:=.type "list",data:=.seq its.toArray n }/\xs.length<=sizeLine:=by
 obtain⟨z,its,n,r,e⟩:=I.hok p _ h;exact⟨its,n,r,e,z⟩
theorem Inv.lstUpd {A3:List (Addr×Obj)} {σ:St} {H:Hp} {s:Shared} {p:Addr} {xs ys:List V} {its its':List Value} {n n':Nat} {f:Obj->Obj} (I:Inv X A3 σ H s) (h:H p=some (.lst xs))
 (ho:s.heap.get? p=some { cls:=.type "list",data:=.seq its.toArray n }) (hf:f { cls:=.type "list",data:=.seq its.toArray n }={ cls:=.type "list",data:=.seq its'.toArray n' }) (r:zg1 ys its') (hz:ys.length<=sizeLine) (t:Nat) :
 Inv X A3 σ (upd H p (.lst ys)) { s with heap:=s.heap.update p f,toks:=t }:=by
 have e:(s.heap.update p f).get? p=some { cls:=.type "list",data:=.seq its'.toArray n' }:=by
  rw[Heap.get?_update_self f ho (by rw[hf]<;>rfl),hf]
 refine I.write (x:=p) (e:=p) (by rw[h];trivial) (.inl rfl) (fun b u hb q=>(Heap.get?_update_other _ _ (Ne.symm hb)).trans q) ⟨_,e⟩ ?_;exact⟨hz,its',n',r,e⟩
noncomputable def wx2:V->V->V->Hp->(Hp->Prop)->Prop:=fun o i v H Q=>∃p xs k j,o=.ref p/\i=.int k/\H p=some (.lst xs)/\ixN xs.length k=some j/\Q (upd H p (.lst (xs.set j v)))
theorem yr5:vo4 X wx2:=by
 intro A3 s σ H o i v ov iv u Q I ro ri rv h;obtain⟨p,xs,k,j,rfl,rfl,hp,hj,q⟩:=h;cases ro;obtain⟨t,rfl⟩:=ri;obtain⟨its,n,r,ho,hz⟩:=I.lst hp;obtain⟨h1,h2,h3,h4⟩:=xw1 hj;have hl:=r.length;have hn:=yx8;have I':Inv X A3 σ (upd H p (.lst (xs.set j v))) { s with heap:=s.heap.update p (Obj.mapSeq (·.setIfInBounds j u)) }:=
  I.lstUpd hp ho (xn4 its n j u) (r.set rv j) (by rw[Bx0];exact hz) s.toks
 by_cases h0:0<=k
 ·have hk:k.toNat=j:=by
   rw[seqIndex_of h0 h4] at h1;exact Option.some.inj h1
  exact PySem.W.ki_setAt ho h0 (by omega) (by rw[Ah0,<-hl];exact h4) (by rw[hk];exact⟨_,I',q⟩)
 ·have hk:(k+(its.toArray.size:Int)).toNat=j:=by
   rw[seqIndex_neg (by omega) h3] at h1;rw[Ah0,<-hl];exact Option.some.inj h1
  exact PySem.W.ki_setBack ho (by omega) (by rw[Ah0,<-hl];exact h3) (by omega) (by rw[hk];exact⟨_,I',q⟩)
theorem yv1 (lo hi:Option Int) (n:Nat):(sliceBounds lo hi none n).1=((HT.sIx n 0 lo:Nat):Int)/\(sliceBounds lo hi none n).2.1=((HT.sIx n n hi:Nat):Int)/\(sliceBounds lo hi none n).2.2=1:=by
 refine⟨?_,?_,rfl⟩
 ·cases lo with
  | none=>simp[sliceBounds,HT.sIx]
  | some i=>
    simp only[sliceBounds,HT.sIx,Option.getD_none,show (1:Int)>0 by decide,if_true];by_cases h:i<0
    ·simp only[h,if_true]<;>omega
    ·simp only[h,if_false]<;>omega
 ·cases hi with
  | none=>simp[sliceBounds,HT.sIx]
  | some i=>
    simp only[sliceBounds,HT.sIx,Option.getD_none,show (1:Int)>0 by decide,if_true];by_cases h:i<0
    ·simp only[h,if_true]<;>omega
    ·simp only[h,if_false]<;>omega
theorem yr4 (its:List Value) (lo hi:Option Int):slicePick its.toArray lo hi none=((its.drop (HT.sIx its.length 0 lo)).take (HT.sIx its.length its.length hi-HT.sIx its.length 0 lo)).toArray:=by
 obtain⟨h1,h2,h3⟩:=yv1 lo hi its.toArray.size;unfold slicePick;rw[h1,h2,h3];simp only[sliceRange_one,pick_run,Ah0]<;>rfl
noncomputable def vp7 (K:PySem.W.Frag):V->Option Int->Option Int->Hp->VK->Prop:=fun x lo hi H Q=>∃a xs,x=.ref a/\SqL K H a xs/\∀p,H p=none->Q (.ref p) (upd H p (.lst (ws7 xs lo hi)))
theorem wn1:SlR X (vp7 X.K):=by
 intro A3 s σ H x v vl vu lo hi sl Q I rx hs pl pu h;obtain⟨a,xs,rfl,hx,q⟩:=h;cases rx;obtain⟨its,r,ht,hz⟩:=I.list hx;have hlen:=r.length;refine⟨"list",_,slot_list_getitem.lookup,ht.isList.typeIs,?_⟩;refine wpAny_getItem_list_slice ht.isList hs pl pu .none (by simp) ?_ (by rw[Ah0]<;>omega);rw[yr4,<-hlen];refine⟨.ref s.heap.objs.size,_,I.laid (t':=s.toks) (o:=.lst (ws7 xs lo hi)) (fun b ob q=>Ad0 _ q) (Ae0 _) ?_,rfl,q _ (I.hok.fresh (Ae0 _))⟩;exact⟨Ax0 (xe4 xs lo hi) hz,_,0,(r.drop (HT.sIx xs.length 0 lo)).take (HT.sIx xs.length xs.length hi-HT.sIx xs.length 0 lo),Ak0 _ rfl⟩
theorem zc6:ya9 X (.builtin "len") (fun xs H Q=>∃p ys,xs=[.ref p]/\(SqL X.K H p ys\/SqT X.K H p ys)/\Q (.int ys.length) H):=by
 intro A3 s σ H xs us Q I r h;obtain⟨p,ys,rfl,hq,q⟩:=h;obtain⟨u,rfl,rx⟩:=ym5 r;cases rx;have hn:=yx8;rcases hq with hq | hq
 ·obtain⟨its,r',pl,hz⟩:=I.list hq
  have hlen:=r'.length;exact Calls.call_len_list pl.isList (by simp only[Ah0]<;>omega) ⟨.int ys.length,H,I.tok _,⟨s.toks+1,by rw[Ah0,hlen]⟩,q⟩
 ·obtain⟨its,r',pl,hz⟩:=I.tuple hq
  have hlen:=r'.length;exact len_tuple pl (by simp only[Ah0]<;>omega) ⟨.int ys.length,H,I.tok _,⟨s.toks+1,by rw[Ah0,hlen]⟩,q⟩
theorem zr2:ya9 X (.type "list") (fun xs H Q=>∃p ys,xs=[.ref p]/\(SqL X.K H p ys\/SqT X.K H p ys)/\∀l,H l=none->Q (.ref l) (upd H l (.lst ys))):=by
 intro A3 s σ H xs us Q I r h;obtain⟨p,ys,rfl,hq,q⟩:=h;obtain⟨u,rfl,rx⟩:=ym5 r;cases rx;have fin:∀(its:List Value),zg1 ys its->ys.length<=sizeLine->∀(h':Heap) (c':Nat),(∀b o',s.heap.get? b=some o'->h'.get? b=some o')->
  h'.get? s.heap.objs.size=some { cls:=.type "list",dict:=none,data:=.seq its.toArray c',slots:=#[] }->EP X A3 σ Q (.ref s.heap.objs.size) { s with heap:=h' }:=fun its r' hz h' c' kp e=>
  ⟨.ref s.heap.objs.size,_,I.laid (t':=s.toks) kp (Ae0 _) (show zl8 X.prog X.w _ h' _ (.lst ys) from⟨hz,its,c',r',e⟩),rfl,q _ (I.hok.fresh (Ae0 _))⟩
 rcases hq with hq | hq
 ·obtain⟨its,r',pl,hz⟩:=I.list hq
  have hlen:=r'.length;obtain⟨o,ho,hc,n,hd⟩:=pl.isList;exact call_list_seq p (.inl rfl) ho hc hd (fun h' c' kp e=>fin its r' hz h' c' kp e) (by simp only[Ah0]<;>omega)
 ·obtain⟨its,r',pl,hz⟩:=I.tuple hq
  have hlen:=r'.length;obtain⟨o,ho,hc,n,hd⟩:=pl;exact call_list_seq p (.inr rfl) ho hc hd (fun h' c' kp e=>fin its r' hz h' c' kp e) (by simp only[Ah0]<;>omega)
theorem ze8:ya9 X (.type "tuple") (fun xs H Q=>∃p ys,xs=[.ref p]/\((SqL X.K H p ys/\∀l,H l=none->Q (.ref l) (upd H l (.tup ys)))\/(SqT X.K H p ys/\Q (.ref p) H))):=by
 intro A3 s σ H xs us Q I r h;obtain⟨p,ys,rfl,h⟩:=h;obtain⟨u,rfl,rx⟩:=ym5 r;cases rx;rcases h with⟨hq,q⟩ | ⟨hq,q⟩
 ·obtain⟨its,r',pl,hz⟩:=I.list hq
  have hlen:=r'.length;refine call_tuple_list pl.isList (fun h' kp=>?_) (by simp only[Ah0]<;>omega);have I1:Inv X A3 σ H { s with heap:=h' }:=I.kept (t':=s.toks) kp;have I2:Inv X A3 σ (upd H h'.objs.size (.tup ys)) { s with heap:=h'.push { cls:=.type "tuple",data:=.seq its.toArray } }:=
   I1.laid (t':=s.toks) (fun b o e=>Ad0 _ e) (Ae0 _) (show zl8 X.prog X.w _ _ _ (.tup ys) from⟨hz,its,r',IsTup.new _ _⟩)
  exact⟨.ref h'.objs.size,_,I2,rfl,q _ (I1.hok.fresh (Ae0 _))⟩
 ·obtain⟨its,r',pl,hz⟩:=I.tuple hq
  exact call_tuple_same pl ⟨.ref p,H,I,rfl,q⟩
noncomputable def tyV (K:PySem.W.Frag) (T:String) (x:V) (H:Hp):Prop:=match x with
 | .str _=>T = "str"
 | .int _=>T = "int"
 | .ref p=>(T = "list"/\∃xs,SqL K H p xs)\/(T = "tuple"/\∃o,K.lookup p=some o/\o.cls=.type "tuple"/\o.dict=none)\/
  (T = "dict"/\((∃kvs,H p=some (.dK kvs))\/∃kvs,H p=some (.dT kvs)))\/(T = "set"/\∃S n,H p=some (.set S n))
 | _=>False
theorem wv6 {A3:List (Addr×Obj)} {σ:St} {H:Hp} {s:Shared} {T:String} {x:V} {v:Value} (I:Inv X A3 σ H s) (r:zf3 x v) (ty:tyV X.K T x H) :
 s.TypeIs v T/\∀a,v=.ref a->∃ob,s.heap.get? a=some ob/\ob.dict=none:=by
 cases x with
 | str z=>
   obtain⟨t,rfl⟩:=r;cases (show T = "str" from ty);exact⟨typeIs_str s z t,fun _ e=>nomatch e⟩
 | int i=>
   obtain⟨t,rfl⟩:=r;cases (show T = "int" from ty);exact⟨typeIs_int s i t,fun _ e=>nomatch e⟩
 | ref p=>
   cases r;rcases ty with⟨rfl,xs,hq⟩ | ⟨rfl,o,hk,hc,hd⟩ | ⟨rfl,hk⟩ | ⟨rfl,S,n,hk⟩
   ·obtain⟨its,_,pl,_⟩:=I.list hq
    refine⟨pl.isList.typeIs,fun a e=>?_⟩;cases e;obtain⟨o,n,e,c,hd,_⟩:=pl;exact⟨o,e,hd⟩
   ·refine⟨⟨o,I.kIn p o hk,hc⟩,fun a e=>?_⟩
    cases e;exact⟨o,I.kIn _ o hk,hd⟩
   ·have z:∃o,s.heap.get? p=some o/\o.ExactDict:=by
     rcases hk with⟨kvs,hk⟩ | ⟨kvs,hk⟩
     ·obtain⟨_,_,_,_,o,_,_,e,ex,_⟩:=I.hok p _ hk
      exact⟨o,e,ex⟩
     ·obtain⟨_,_,_,_,o,_,_,e,ex,_⟩:=I.hok p _ hk
      exact⟨o,e,ex⟩
    obtain⟨o,e,ex⟩:=z;refine⟨⟨o,e,ex.1⟩,fun a e2=>?_⟩;cases e2;exact⟨o,e,ex.2.1⟩
   ·obtain⟨o,_,_,_,e,ex,_⟩:=I.hok p _ hk
    refine⟨⟨o,e,ex.1⟩,fun a e2=>?_⟩;cases e2;exact⟨o,e,ex.2.1⟩
 | _=>exact False.elim ty
noncomputable def tBM (K:PySem.W.Frag) (T:String) (r:V->List V->Hp->VK->Prop) (to:TE) (t:TA):TE:=fun σ H Q=>to σ H fun x H1=>tyV K T x H1/\t σ H1 fun xs H2=>r x xs H2 Q
variable {o e:Expr} {es:List Expr} {to:TE} {t:TA} {name:Str} {apos cpos:Pos} {T id:String} {r:V->List V->Hp->VK->Prop}
theorem vi4 (pa:PlainAttrs T) (slot:Slot T name id) (hty:typeOf (.builtin id)=pure (.type "method_descriptor")) (hm:MtR X id r) (ho:PE X o to) (ha:PA X (e::es) t)
 (hbase:attributeBase o name X.env (eval o X.env)=eval o X.env:=by rfl)
 (hfew:((backTo cpos (starEach (e::es) X.env)).all (fun x=>!x.1)&&(backToKw cpos (keywordEach [] X.env)).all (fun x=>x.1.isSome)
  && decide ((e::es).length+([]:List Keyword).length+(if ([]:List Keyword).isEmpty then 0 else 1)<30))=true:=by rfl)
 (hline:(apos.endLine == cpos.line)=true:=by rfl) (hs:starEach (e::es) X.env=(false,eval e X.env)::starEach es X.env:=by rfl) (hplain:(backTo cpos (starEach es X.env)).any (·.1)=false:=by rfl) :
 PE X (.Call (.Attribute o name apos) (e::es) [] cpos) (tBM X.K T r to t):=by
 intro A3 s σ H Q I h;refine wpAny_Call_method_late hbase hfew hline rfl (thn (ho A3 s σ H _ I h) fun v s1 hI77=>?_);obtain⟨x,H1,I1,r1,ty,q1⟩:=hI77;obtain⟨h1,h2⟩:=wv6 I1 r1 ty;refine⟨T,id,pa,slot,hty,h1,h2,?_⟩;have hA:=ha cpos A3 s1 σ H1 _ I1 q1;rw[hs] at hA ⊢;refine Calls.callWith_builtin (by show (false||(backTo cpos (starEach es X.env)).any (·.1))=false;rw[hplain]<;>rfl) (Calls.evalArgs_plain ?_);exact thn hA fun us s2 ⟨vs,H2,I2,r2,q2⟩=>hm A3 s2 σ H2 x vs v us Q I2 r1 r2 q2
end
noncomputable def MtM (X:Cx) (id:String) (r:V->List V->Hp->VK->Prop):Prop:=
 ∀(A3:List (Addr×Obj)) (s:Shared) (σ:St) (H:Hp) (x:V) (xs:List V) (v:Value) (us:List Value) (Q:VK),Inv X A3 σ H s->zf3 x v->zg1 xs us->r x xs H Q->
  wpAny (model X.prog X.w) X.A (call (.builtin id) (v::us)) (EP X A3 σ Q) X.xe s
theorem zg1.unc {x:V} {xs:List V} {us:List Value} (h:zg1 (x::xs) us):∃u r,us=u::r/\zf3 x u/\zg1 xs r:=by
 cases h with
 | cons r t=>exact⟨_,_,rfl,r,t⟩
theorem zg1.unn {us:List Value} (h:zg1 [] us):us=[]:=by
 cases h;rfl
theorem zg1.one {x:V} {us:List Value} (h:zg1 [x] us):∃u,us=[u]/\zf3 x u:=by
 obtain⟨u,r,e,a,b⟩:=h.unc;rw[b.unn] at e;exact⟨u,e,a⟩
theorem zg1.reverse {xs:List V} {us:List Value} (h:zg1 xs us):zg1 xs.reverse us.reverse:=by
 induction h with
 | nil=>exact .nil
 | cons r t ih=>rw[List.reverse_cons,List.reverse_cons];exact zg1.append ih (.cons r .nil)
theorem zg1.rep {xs:List V} {us:List Value} (h:zg1 xs us):∀k:Nat,zg1 (List.replicate k xs).flatten (List.replicate k us).flatten
 | 0=>.nil
 | k+1=>by
   rw[Bn0,Bn0,Bz0,Bz0];exact zg1.append h (zg1.rep h k)
theorem yy9 (its:List Value):∀(k:Nat) (acc:List Value),
 List.foldl (fun x1 x2=>x1++x2) acc.toArray (List.replicate k its.toArray)=(acc++(List.replicate k its).flatten).toArray
 | 0,acc=>by simp
 | k+1,acc=>by
   have e:acc.toArray++its.toArray=(acc++its).toArray:=by simp
   have e2:(acc++its)++(List.replicate k its).flatten=acc++(List.replicate (k+1) its).flatten:=by
    rw[Bn0,Bz0,As0]
   rw[<-e2,<-yy9 its k (acc++its),<-e,Bn0,List.foldl_cons]
section
variable {X:Cx} {A3:List (Addr×Obj)} {σ:St} {H:Hp} {s:Shared} {l b:Addr} {xs ys zs:List V}
theorem Inv.lset {its its':List Value} {n:Nat} {f:Array Value->Array Value} {t':Nat} (I:Inv X A3 σ H s) (hH:H l=some (.lst xs))
 (e:s.heap.get? l=some { cls:=.type "list",data:=.seq its.toArray n }) (hf:f its.toArray=its'.toArray) (hv:zg1 ys its') (hz:ys.length<=sizeLine) :
 Inv X A3 σ (upd H l (.lst ys)) { s with heap:=s.heap.update l (Obj.mapSeq f),toks:=t' }:=by
 have q:=PySem.IsL.update e f;rw[hf] at q;refine I.write (x:=l) (e:=l) (by rw[hH];exact trivial) (.inl rfl) (fun b' u hb hu=>(Heap.get?_update_other s.heap (Obj.mapSeq f) (Ne.symm hb)).trans hu) ⟨_,q⟩ ?_;exact⟨hz,its',_,hv,q⟩
theorem Inv.lnew {its:List Value} {t':Nat} (I:Inv X A3 σ H s) (hv:zg1 ys its) (hz:ys.length<=sizeLine) :
 Inv X A3 σ (upd H s.heap.objs.size (.lst ys)) { s with heap:=s.heap.push { cls:=.type "list",data:=.seq its.toArray },toks:=t' }:=
 I.laid (fun _ _ q=>Ad0 _ q) (Ae0 _) ⟨hz,its,0,hv,Ak0 _ rfl⟩
theorem Inv.fresh (I:Inv X A3 σ H s):H s.heap.objs.size=none:=I.hok.fresh (Ae0 _)
theorem Inv.lstM (I:Inv X A3 σ H s) (hH:H l=some (.lst xs)):xs.length<=sizeLine/\∃(its:List Value) (n:Nat),zg1 xs its/\xs.length=its.length/\s.heap.get? l=some { cls:=.type "list",data:=.seq its.toArray n }:=by
 obtain⟨z,its,n,r,e⟩:=I.hok l _ hH;exact⟨z,its,n,r,r.length,e⟩
theorem xh5 {n:Nat} (h:n<=sizeLine):Builtin.List.listTooLong n=false:=by
 unfold Builtin.List.listTooLong;exact Ao1 (by omega)
end
section
variable {X:Cx}
noncomputable def xs7:V->List V->Hp->VK->Prop:=fun x vs H Q=>∃l xs y,x=.ref l/\vs=[y]/\H l=some (.lst xs)/\xs.length<sizeLine/\Q .non (upd H l (.lst (xs++[y])))
theorem zi8:MtM X "list.append" xs7:=by
 intro A3 s σ H x vs v us Q I rx rv h;obtain⟨l,xs,y,rfl,rfl,hH,hz,q⟩:=h;cases rx;obtain⟨u,rfl,ru⟩:=rv.one;obtain⟨z,its,n,r,hl,e⟩:=I.lstM hH;refine call_meets F.slot_list_append ⟨_,e,rfl⟩ F.entry_list_append (F.args_list_append_2 _ _) (PySem.list_append l its.toArray n u (by rw[Ah0];omega)) ⟨e,?_⟩;refine⟨.non,_,I.lset (its':=its++[u]) hH e (by simp) (r.append (.cons ru .nil)) ?_,rfl,q⟩;rw[Al0,List.length_singleton];omega
noncomputable def xs6:V->List V->Hp->VK->Prop:=fun x vs H Q=>∃l b xs zs,x=.ref l/\vs=[.ref b]/\H l=some (.lst xs)/\H b=some (.lst zs)/\xs.length+zs.length<=sizeLine/\Q .non (upd H l (.lst (xs++zs)))
theorem yd6:MtM X "list.extend" xs6:=by
 intro A3 s σ H x vs v us Q I rx rv h;obtain⟨l,b,xs,zs,rfl,rfl,hH,hB,hz,q⟩:=h;cases rx;obtain⟨u,rfl,ru⟩:=rv.one;cases ru;obtain⟨z,its,n,r,hl,e⟩:=I.lstM hH;obtain⟨z2,its2,n2,r2,hl2,e2⟩:=I.lstM hB;have hsz:its.toArray.size+its2.toArray.size<=sizeLine:=by rw[Ah0,Ah0];omega
 have hlong:¬(!its.toArray.isEmpty&&Builtin.List.listTooLong (its.toArray.size+its2.toArray.size))=true:=by
  rw[xh5 hsz,Bool.and_false];exact Ar0
 refine call_meets F.slot_list_extend ⟨_,e,rfl⟩ F.entry_list_extend (F.args_list_extend_2 _ _)
  (AutoSeq1.list_extend_list_list_0 l its.toArray n b its2.toArray n2 hlong (by rw[Ah0];omega) (by omega)) ⟨e,e2,?_⟩
 refine⟨.non,_,I.lset (its':=its++its2) hH e (by simp) (r.append r2) ?_,rfl,q⟩;rw[Al0];omega
noncomputable def ve4:R2:=fun x y H Q=>∃l b xs zs,x=.ref l/\y=.ref b/\H l=some (.lst xs)/\H b=some (.lst zs)/\xs.length+zs.length<=sizeLine/\∀p,H p=none->Q (.ref p) (upd H p (.lst (xs++zs)))
theorem wz1:OpR X (binaryOp .Add) ve4:=by
 intro A3 s σ H x y v u Q I rx ry h;obtain⟨l,b,xs,zs,rfl,rfl,hH,hB,hz,q⟩:=h;cases rx;cases ry;obtain⟨z,its,n,r,hl,e⟩:=I.lstM hH;obtain⟨z2,its2,n2,r2,hl2,e2⟩:=I.lstM hB;refine PySem.P.add_list e e2 ?_ (by rw[Ah0,Ah0];omega);have ea:its.toArray++its2.toArray=(its++its2).toArray:=by simp
 rw[ea];exact⟨.ref _,_,I.lnew (t':=s.toks) (r.append r2) (by rw[Al0];omega),rfl,q _ I.fresh⟩
noncomputable def ve3:R2:=fun x y H Q=>∃l k xs,x=.ref l/\y=.int k/\H l=some (.lst xs)/\-(2 ^ 63)<=k/\k<2 ^ 63/\xs.length*k.toNat<=sizeLine/\
 ∀p,H p=none->Q (.ref p) (upd H p (.lst (List.replicate k.toNat xs).flatten))
theorem wr0 {α:Type} (xs:List α) (k:Nat):(List.replicate k xs).flatten.length=k*xs.length:=by
 induction k with
 | zero=>simp
 | succ k ih=>rw[Bn0,Bz0,Al0,ih,Nat.succ_mul,Nat.add_comm]
theorem wz0:OpR X (binaryOp .Mult) ve3:=by
 intro A3 s σ H x y v u Q I rx ry h;obtain⟨l,k,xs,rfl,rfl,hH,h1,h2,hz,q⟩:=h;cases rx;obtain⟨t,rfl⟩:=ry;obtain⟨z,its,n,r,hl,e⟩:=I.lstM hH;have hlen:its.toArray.size*k.toNat<=sizeLine:=by rw[Ah0,<-hl];exact hz
 have hcap:¬its.toArray.size*k.toNat>(2 ^ 63-1) / 8:=by
  have:(sizeLine:Nat)<=(2 ^ 63-1) / 8:=by decide
  omega
 have hfit:¬(!Builtin.List.listFitsIndex k)=true:=by
  rw[fitsIndex_both h1 h2];exact Ar0
 have hlong:¬Builtin.List.listTooLong (its.toArray.size*k.toNat)=true:=by
  rw[xh5 hlen];exact Ar0
 have hnew:List.foldl (fun x1 x2=>x1++x2) #[] (List.replicate (if its.toArray.isEmpty=true then 0 else k.toNat) its.toArray)=(List.replicate k.toNat its).flatten.toArray:=by
  have f0:∀m:Nat,List.foldl (fun x1 x2=>x1++x2) #[] (List.replicate m its.toArray)=(List.replicate m its).flatten.toArray:=fun m=>by
   have:=yy9 its m [];rw[List.nil_append] at this;exact this
  rw[f0];cases its with
  | nil=>simp
  | cons a r'=>rw[if_neg (by simp)]
 refine wpAny_binaryOp_repeat_ref (T:="list") (U:="int") (by decide) ⟨_,e,rfl⟩ (fun s'=>typeIs_int s' k t) noFill_list_mul F.fills_int_mul F.slot_int_rmul repeat_list F.slot_int_index.lookup
  (call_meets F.slot_int_rmul (typeIs_int s k t) F.entry_int_rmul (F.args_int_rmul_2 _ _) (int___rmul___int_list k t l its.toArray n)
   ⟨e,rfl,⟨_,e,rfl⟩,call_meets F.slot_list_mul ⟨_,e,rfl⟩ F.entry_list_mul (F.args_list_mul_2 _ _) (AutoListH.list___mul___list_int_3 l its.toArray n k t hfit hcap hlong) ⟨e,?_⟩⟩)
 rw[hnew];exact⟨.ref _,_,I.lnew (t':=s.toks) (r.rep k.toNat) (by rw[wr0,Nat.mul_comm];exact hz),rfl,q _ I.fresh⟩
end
section
variable {prog:Program} {w:World} {A:Around} {E:Value->Shared->Prop} {s:Shared}
end
section
variable {X:Cx}
end
end L2
namespace Att
open PySem PySem.W PySem.Calls PyProof.Rows
theorem yk4 {P:Params} {h:Heap}:∀(ns:List Int) (vs:List Value),WellAll P h vs (ns.map WData.int)->IntsAre vs ns:=by
 intro ns;induction ns with
 | nil=>
   intro vs w;rw[List.map_nil] at w;cases w;exact .nil
 | cons n ns ih=>
   intro vs w;rw[Ay0] at w;cases w with
   | cons a b=>
     cases a;exact .cons _ _ (ih _ b)
theorem xr8 {l:OpenLaw} {n:Nat} (hn:l.most=some n) {P:Params} {h:Heap} {args:List WData} {vals:List Value}
 (hpre:l.row.toRowW.claim.pre args=true) (hwl:WellAll P h vals args) :
 ∃a vs ns,vals=[Value.ref a]/\args=[WData.list (ns.map WData.int)]/\h.get? a=some { cls:=.type "list",data:=.seq vs.toArray }/\IntsAre vs ns/\ns.length<=n:=by
 have hsh:WShape.hasAll [] args [.list .int]=true:=(pre_splitW hpre).1;have hc:l.pre.holds [] { args:=args }=true:=(pre_splitW hpre).2;obtain⟨d,r,rfl,h1,h2⟩:=hasAllW_cons hsh;obtain rfl:=hasAllW_nil h2;obtain⟨xs,rfl,h3⟩:=hasW_list h1;obtain⟨ns,rfl⟩:=items_int h3;have hlen:ns.length<=n:=by
  unfold OpenLaw.pre at hc;have h4:(WTm.not (.lt (.lit (.int (n:Int))) (.len (.arg 0)))).holds [] { args:=[.list (ns.map .int)] }=true:=by
   have h4:=(holds_andW hc).1;rw[hn] at h4;exact h4
  have h5:=condW_of h4 (w_not (w_lt w_lit (w_len_list (w_arg rfl))));rw[Aa0] at h5;refine Nat.le_of_not_lt fun q=>?_
  have q':(n:Int)<((ns.length:Nat):Int):=by omega
  first
   | (rw[Ap1 q'] at h5;exact absurd h5 (by decide))
   | (simp at h5;omega)
 cases hwl with
 | cons w1 w2=>
   cases w2;cases w1 with
   | list ho hall=>exact⟨_,_,ns,rfl,rfl,ho,yk4 ns _ hall,hlen⟩
theorem xs9 (l:OpenLaw) (args:List WData):l.row.toRowW.claim.post args (.bool true) args=true:=
 postW_of (r:=l.row.toRowW) (X:=(true == true))
  (show WShape.has [] (.bool true) .bool=true by first | rfl | decide | simp[WShape.has,WShape.arms,WShape.armsAll])
  (show (WTm.eq .res (.lit (.bool true))).value [] { args:=args,res:=some (.bool true),after:=args }=some (.bool (true == true)) from w_eq_bool (w_res rfl) w_lit) rfl
theorem attach_call {l:OpenLaw} {n:Nat} {q:Program} {loose:List Str} {XP:(Str->Option Value)->Heap->Prop} {YP:World->Heap->Prop} {d:DefRec}
 (hn:l.most=some n) (hdf:d.params.defaults=[])
 (call:∀(w:World) (s₀ s₁:Shared) (mg mb:Str->Option Value) (fa:Addr) (o:Obj) (pm cd doc:Value) (a:Addr) (vs:List Value) (ns:List Int),
  Ground q loose [] XP w s₀ mg mb s₁.heap->YP w s₁.heap->
  s₁.heap.get? fa=some o->o.data=.func (docDef d.name d.params d.body d.scope pm cd doc)->s₁.heap.CodeRec cd d.name->mg d.name=some (.ref fa)->
  s₁.heap.get? a=some { cls:=.type "list",data:=.seq vs.toArray }->IntsAre vs ns->ns.length<=n->s₁.gens=#[]->
  codeAny (model l.prog w) callerA (.call (.ref fa) ⟨[.ref a],[]⟩) (fun r s'=>r=.ok (.ret (.bool true))/\OldK s₁.heap s'.heap/\s'.os=s₁.os/\AllBare s'.gens) s₁) :
 WalkO q loose XP YP l.row.toRowW d [] (fun f vs=>PySem.call f vs):=by
 intro w s₀ s₁ mg mb G Y fa o pm cd doc dV kV ho hd hcd hD hmg hg args vals as hpre hlay hrd hwl hlo;obtain rfl:dV=.none:=Dflts.none hD hdf;obtain rfl:kV=.none:=Dflts.noKw hD;obtain⟨a,vs,ns,rfl,rfl,hobj,hints,hlen⟩:=xr8 hn hpre hwl;refine enter_call (codeAny_mono (call w s₀ s₁ mg mb fa o pm cd doc a vs ns G Y ho (fd_plain hd) hcd hmg hobj hints hlen hg) fun r s' hq=>?_);obtain⟨rfl,h2,h3,h4⟩:=hq;exact⟨.inl ⟨.bool true,.bool true,[],rfl,fun _=>rfl,.bool true,xs9 l _,fun _=>⟨List.Pairwise.nil,fun _ hm=>(nomatch hm)⟩⟩,h2,h3,h4⟩
section
variable {prog:Program} {w:World} {A:Around} {E:Value->Shared->Prop} {s:Shared} {K:Frag}
end
end Att
namespace L2
theorem yu5:∀{vs:List Value} {ns:List Int},IntsAre vs ns->zg1 (ns.map V.int) vs
 | _,_,.nil=>.nil
 | _,_,.cons n t h=>.cons ⟨t,rfl⟩ (yu5 h)
noncomputable def vl3 (H:Hp):Prop:=∀b,H b=none\/∃o xs,H b=some (.frz o (.lst xs))
set_option tactic.hygienic true in
theorem wd9 {P:Program} {w:World} {K:PySem.W.Frag} {mg mb:Str->Option Value} {CX:CXT} {k:Nat} {fa a:Addr} {fd:FuncData} {x:Str} {sp:Sp} {s₁:Shared} {vs:List Value} {ns:List Int}
 (KX:K.In s₁.heap) (hns:s₁.heap.Ns mainGlobals mg) (hb:s₁.heap.Ns builtinsNs mb) (hbb:∀x:Str,x≠"__name__"->mb x=bootBuiltins x) (hlim:s₁.heap.NoLimit) (hg:s₁.gens=#[])
 (ha:s₁.heap.get? a=some { cls:=.type "list",data:=.seq vs.toArray }) (hi:IntsAre vs ns) (hl:ns.length<=sizeLine) (hr:zm7 k callerA)
 (F:∀base:Heap,K.In base->base.Ns mainGlobals mg->zr3 P w K mg base CX k fa fd [x] sp) (hbind:∀(s:Shared) (u:Value),BindsTo s fd ⟨[u],[]⟩ [(x,u)])
 (hsp:∀H:Hp,vl3 H->SqL K H a (ns.map V.int)->sp [.ref a] H (fun v _=>v=.bl true) fun _ _ _=>False)
 (hCX:∀H e s',CX [] H s₁ (fun _ _ _=>False) e s'->False) :
 codeAny (model P w) callerA (.call (.ref fa) ⟨[.ref a],[]⟩) (fun r s'=>r=.ok (.ret (.bool true))/\OldK s₁.heap s'.heap/\s'.os=s₁.os/\AllBare s'.gens) s₁:=by
 have rv:=yu5 hi;have lenV:=hi.length
 -- from an abstract heap in which nothing but the script may be tracked
 have core:∀H:Hp,vl3 H->SqL K H a (ns.map V.int)->HOk P w H s₁.heap->(∀b,H b≠none->b=a)->(H a≠none->K.lookup a=none)->
  codeAny (model P w) callerA (.call (.ref fa) ⟨[.ref a],[]⟩) (fun r s'=>r=.ok (.ret (.bool true))/\OldK s₁.heap s'.heap/\s'.os=s₁.os/\AllBare s'.gens) s₁:=by
  intro H hO hS hok hA hK;have base_of:∀{b:Addr} {o:Obj},s₁.heap.get? b=some o->H b=none->(we7 s₁.heap H).get? b=some o:=fun e n=>we6 e n
  have noA:∀{b:Addr} {o:Obj} {es:Array DictEntry} {ep:Nat},s₁.heap.get? b=some o->o.data=.dict es ep->H b=none:=fun {b o es ep} e d=>by
   cases q:H b with
   | none=>rfl
   | some u=>
     have e':b=a:=hA b (by rw[q];simp);subst e';rw[ha] at e;cases e;have d':Data.seq vs.toArray _=Data.dict es ep:=d;cases d'
  have nsK:∀{b:Addr} {m:Str->Option Value},s₁.heap.Ns b m->(we7 s₁.heap H).Ns b m:=fun {b m} ⟨o,es,ep,e,d,r⟩=>⟨o,es,ep,base_of e (noA e d),d,r⟩
  have hKb:K.In (we7 s₁.heap H):=fun b o e=>base_of (KX b o e) (by
   cases q:H b with
   | none=>rfl
   | some u=>
     have e':b=a:=hA b (by rw[q];simp);subst e';rw[hK (by rw[q];simp)] at e;cases e)
  have hM:Mod K mg (we7 s₁.heap H):=⟨hKb,nsK hns,⟨mb,nsK hb,hbb⟩,let ⟨mc,h1,h2⟩:=hlim;⟨mc,nsK h1,h2⟩⟩;have e0:vf9 P w K mg (we7 s₁.heap H) callerA [] s₁ H:=⟨rfl,hM,fun b o e=>wp5 e,Nat.le_of_eq (xw7 _ _),trivial,fun b hb=>absurd (show b∈([]:List Addr) from hb) (by simp),hok,.of_eq hg⟩;refine codeAny_mono ((F _ hKb (nsK hns)).run callerA [] s₁ H ⟨[.ref a],[]⟩ [.ref a] [.ref a] _ _ hr e0 (hbind s₁ (.ref a)) (.cons rfl .nil) (hsp H hO hS)) fun r s' h=>?_
  cases r with
  | error e=>exact(hCX H e s' h).elim
  | ok fl=>
    cases fl with
    | next=>exact False.elim h
    | brk=>exact False.elim h
    | cont=>exact False.elim h
    | ret u=>
      obtain⟨v,H',os,bare,un,hok',r',q⟩:=h;have q':v=.bl true:=q;subst q';obtain rfl:u=Value.bool true:=r';refine⟨rfl,OldK.of_keep fun b o e=>?_,os,bare⟩;cases q:H b with
      | none=>exact un.keep b o e q (by intro z;exact absurd (show b∈([]:List Addr) from z) (by simp)) (by simp)
      | some u=>
        rcases hO b with z | ⟨ob,xs,z⟩
        ·rw[q] at z;cases z
        ·have z2:=un.frzs b ob _ z
         obtain⟨e1,_⟩:=hok b _ z;obtain⟨e2,_⟩:=hok' b _ z2;rw[e] at e1;cases e1;exact e2
 cases hk:K.lookup a with
 | some o=>
   -- the script is one of the module's own objects
   have e:=KX a o hk;rw[ha] at e;cases e;refine core (fun _=>none) (fun _=>.inl rfl) (.inr ⟨_,vs.toArray,_,hk,rfl,rfl,rfl,by rw[Ah0,lenV];exact hl,by simpa using rv⟩) (fun b u z=>by have z':(none:Option HO)=some u:=z;cases z') (fun b z=>absurd rfl z) fun z=>absurd rfl z
 | none=>
   refine core (fun b=>if b=a then some (.frz { cls:=.type "list",data:=.seq vs.toArray } (.lst (ns.map V.int))) else none) (fun b=>?_) (.inl (.inr ⟨{ cls:=.type "list",data:=.seq vs.toArray },if_pos rfl⟩)) (fun b u z=>?_) (fun b z=>?_) fun _=>hk
   ·by_cases hb:b=a
    ·exact .inr ⟨_,_,if_pos hb⟩
    ·exact .inl (if_neg hb)
   ·by_cases hb:b=a
    ·have z':=(if_pos hb).symm.trans z
     cases z';subst hb;exact⟨ha,by rw[Aa0];exact hl,vs,_,rv,ha⟩
    ·have z':=(if_neg hb).symm.trans z
     cases z'
   ·by_cases hb:b=a
    ·exact hb
    ·exact absurd (if_neg hb) z
theorem walk_of {l:PySem.W.OpenLaw} {n k:Nat} {q:Program} {loose:List Str} {XP:(Str->Option Value)->Heap->Prop} {YP:World->Heap->Prop} {d:DefRec} {K:Params->PySem.W.Frag} {CX:World->CXT} {sp:World->Sp} {x:Str}
 (hn:l.most=some n) (hn2:n<=sizeLine) (hdf:d.params.defaults=[]) (hr:zm7 k callerA)
 (hY:∀(w:World) (h:Heap),YP w h->(K w.params).In h)
 (F:∀(w:World) (mg:Str->Option Value) (fa:Addr) (h:Heap),(K w.params).In h->h.Ns mainGlobals mg->mg d.name=some (.ref fa)->
  ∃fd:FuncData,(∀(s:Shared) (u:Value),BindsTo s fd ⟨[u],[]⟩ [(x,u)])/\
   ∀base:Heap,(K w.params).In base->base.Ns mainGlobals mg->zr3 l.prog w (K w.params) mg base (CX w) k fa fd [x] (sp w))
 (hsp:∀(w:World) (H:Hp) (a:Addr) (ns:List Int),ns.length<=n->vl3 H->SqL (K w.params) H a (ns.map V.int)->sp w [.ref a] H (fun v _=>v=.bl true) fun _ _ _=>False)
 (hCX:∀(w:World) (H:Hp) (s:Shared) (e:Value) (s':Shared),CX w [] H s (fun _ _ _=>False) e s'->False) :
 PySem.W.WalkO q loose XP YP l.row.toRowW d [] (fun f vs=>PySem.call f vs):=by
 refine Att.attach_call hn hdf fun w s₀ s₁ mg mb fa o pm cd doc a vs ns G Y ho hd hcd hmg hobj hints hlen hg=>?_
 have KX:=hY w _ Y;obtain⟨fd,hb,hF⟩:=F w mg fa _ KX G.T.g hmg;exact wd9 KX G.T.g G.T.b G.T.builtins G.T.nolimit hg hobj hints (Ax0 hlen hn2) hr hF hb (fun H hO hS=>hsp w H a ns hlen hO hS) fun H e s'=>hCX w H s₁ e s'
noncomputable def ya0 (s:Stmt):Arguments:=match s with
 | .FunctionDef _ a _ _ _ _ _ _ _ _=>a
 | _=>{ posonlyargs:=[],args:=[],vararg:=none,kwonlyargs:=[],kw_defaults:=[],kwarg:=none,defaults:=[] }
noncomputable def zc4 (s:Stmt):List Stmt:=match s with
 | .FunctionDef _ _ b _ _ _ _ _ _ _=>b
 | _=>[]
noncomputable def za4 (s:Stmt):Scope:=match s with
 | .FunctionDef _ _ _ _ _ _ sc _ _ _=>sc
 | _=>{ kind:=.function,names:=[],isGenerator:=false,isCoroutine:=false }
noncomputable abbrev CX0:CXT:=fun _ _ _ _ _ _=>False
noncomputable abbrev E0:XK:=fun _ _ _=>False
theorem wp0 {X:Cx}:xz3 CX0 X E0:=fun _ _ _ _ _ _ _ h=>h.elim
structure Fun (K:PySem.W.Frag) (x qual:Str) (st:Stmt) (f:Addr) (fd:FuncData):Prop where
 ex:∃(oc:Value) (od:Option Addr) (kV doc pm:Value) (an:Option Addr) (cdv ct:Value) (osl:Array (Option Value)),
  fd=fnOf x qual (ya0 st) (zc4 st) (za4 st) .none kV doc pm an cdv ct/\K.lookup f=some ⟨oc,od,.func fd,osl⟩/\codeIn K cdv qual=true
 kp:keepIn K (.ref f)=true
section
variable {P:Program} {w:World} {K:PySem.W.Frag} {mg:Str->Option Value} {base:Heap}
theorem Fun.ok {x qual:Str} {st:Stmt} {f:Addr} {fd:FuncData} {N ps:List Str} {k:Nat} {sp:Sp} (F:Fun K x qual st f fd) (S:zc9 N ps (za4 st)) (len:∀vs H Q E,sp vs H Q E->vs.length=ps.length)
 (hbody:∀(cdv:Value) (A:Around) (outer:List Env) (s:Shared) (H:Hp) (vs:List V) (Q:VK) (E:XK),zm7 k (A.deeper (envOfC qual (za4 st) s.heap.objs.size f cdv))->sp vs H Q E->
  ∃t,PSs (zw9 CX0 P w K mg base N qual (za4 st) f cdv A outer s H E).nox (zc4 st) t/\t { nx:=fun _ H'=>Q .non H',rt:=Q } (zy0 N vs) H):zr3 P w K mg base CX0 (k+1) f fd ps sp:=by
 obtain⟨oc,od,kV,doc,pm,an,cdv,ct,osl,rfl,lk,hcd⟩:=F.ex;refine vk0 lk hcd S len fun A outer s H vs Q E hr hsp=>?_
 obtain⟨t,h,q⟩:=hbody cdv A outer s H vs Q E hr hsp;exact⟨t,h.nox,q⟩
theorem Fun.binds {x qual:Str} {st:Stmt} {f:Addr} {fd:FuncData} {ps:List Str} (F:Fun K x qual st f fd)
 (h:∀(kV doc pm:Value) (an:Option Addr) (cdv ct:Value) (us:List Value),us.length=ps.length->bindArgs (fnOf x qual (ya0 st) (zc4 st) (za4 st) .none kV doc pm an cdv ct) ⟨us,[]⟩=pure (ps.zip us)):xp4 K fd ps []:=by
 obtain⟨oc,od,kV,doc,pm,an,cdv,ct,osl,rfl,lk,hcd⟩:=F.ex;exact .all (h kV doc pm an cdv ct)
theorem vb5 {x qual:Str} {st:Stmt} {f:Addr} {oc:Value} {od an:Option Addr} {osl:Array (Option Value)} {kV doc pm cdv ct:Value} (l:K.lookup f=some ⟨oc,od,.func (fnOf x qual (ya0 st) (zc4 st) (za4 st) .none kV doc pm an cdv ct),osl⟩)
 (c:codeIn K cdv qual=true) (k:keepIn K (.ref f)=true):Fun K x qual st f (fnOf x qual (ya0 st) (zc4 st) (za4 st) .none kV doc pm an cdv ct):=⟨⟨oc,od,kV,doc,pm,an,cdv,ct,osl,rfl,l,c⟩,k⟩
end
theorem yy8 {A:Around} {k:Nat} (hr:zm7 k A):A.units+1<cLine:=Nat.lt_of_le_of_lt (Nat.add_le_add_left (by decide:1<=64) _) hr.units
theorem yb4 {n:Nat} (h:n<=1000):n<sizeLine:=Nat.lt_of_le_of_lt h (by decide)
section
variable {X:Cx}
theorem pv (i:Nat) {x:Str} {pos:Pos} (hN:X.N[i]?=some x:=by rfl) (hv:Vis X.env.scope x:=by first | exact Or.inl rfl | exact Or.inr (Or.inl rfl) | exact Or.inr (Or.inr rfl)) (hd:(x == ("__debug__" : Str))=false:=by decide)
 (hcd:(x == ("__classdict__" : Str))=false:=by decide):PE X (.Name x pos) (xm2 i):=wy1 hN hv hd hcd
end
theorem va9 {A B:Prop} (h:B):if false=true then A else B:=by
 rw[if_neg Ar0];exact h
theorem wt5 {A B:Prop} (h:A):if true=true then A else B:=by
 rw[if_pos rfl];exact h
noncomputable def yt9 (H H':Hp):Prop:=∀b o,H b=some o->H' b=some o
theorem yt9.refl (H:Hp):yt9 H H:=fun _ _ h=>h
section
variable {κ:Type} [DecidableEq κ]
noncomputable def ym4 (kvs:List (κ×V)) (k:κ):Option V:=(kvs.find? fun kv=>decide (kv.1=k)).map (·.2)
noncomputable def zy7 (kvs:List (κ×V)) (k:κ) (v:V):List (κ×V):=
 if (kvs.any fun kv=>decide (kv.1=k))=true then kvs.map (fun kv=>if kv.1=k then (kv.1,v) else kv) else kvs++[(k,v)]
noncomputable def vc3 (kvs:List (κ×V)) (k:κ):List (κ×V):=kvs.filter fun kv=>decide (kv.1≠k)
theorem zq3 {p:κ×V} {r:List (κ×V)} {k:κ} (e:p.1=k):ym4 (p::r) k=some p.2:=by simp[ym4,Ce0,e]
theorem zq4 {p:κ×V} {r:List (κ×V)} {k:κ} (e:¬p.1=k):ym4 (p::r) k=ym4 r k:=by simp[ym4,Ce0,e]
theorem yb3 (k:κ):∀kvs:List (κ×V),(kvs.any fun kv=>decide (kv.1=k))=(ym4 kvs k).isSome
 | []=>rfl
 | p::r=>by
   rw[List.any_cons];by_cases e:p.1=k
   ·simp only[zq3 e,Ap1 e,Bool.true_or,Option.isSome_some]
   ·rw[zq4 e,Ao1 e,Bool.false_or];exact yb3 k r
theorem zp7 (kvs:List (κ×V)) (k:κ) (v:V):(zy7 kvs k v).length<=kvs.length+1:=by
 unfold zy7;split
 ·rw[Aa0];omega
 ·rw[Al0,Bm0,List.length_nil];omega
theorem xp3.isSome_eq {o:Option V} {u:Option Value} (r:xp3 o u):o.isSome=u.isSome:=by
 cases o with
 | none=>cases u with
   | none=>rfl
   | some _=>exact(show False from r).elim
 | some _=>cases u with
   | none=>exact(show False from r).elim
   | some _=>rfl
theorem xp3.getD {o:Option V} {u:Option Value} {d:V} {d':Value} (r:xp3 o u) (rd:zf3 d d'):zf3 (o.getD d) (u.getD d'):=by
 cases o with
 | none=>cases u with
   | none=>exact rd
   | some _=>exact(show False from r).elim
 | some _=>cases u with
   | none=>exact(show False from r).elim
   | some _=>exact r
theorem KV.val {kvs:List (κ×V)} {vs:List (κ×Value)} (r:KV kvs vs) (k:κ):xp3 (ym4 kvs k) (valueAt vs k):=by
 unfold KV at r;induction r with
 | nil=>exact True.intro
 | @cons p q ps qs h t ih=>
   obtain⟨h1,h2⟩:=h;by_cases e:p.1=k
   ·have e':q.1=k:=h1.symm.trans e
    have b:valueAt (q::qs) k=some q.2:=by simp[valueAt,Ce0,e']
    rw[zq3 e,b];exact h2
   ·have e':¬q.1=k:=fun z=>e (h1.trans z)
    have b:valueAt (q::qs) k=valueAt qs k:=by simp[valueAt,Ce0,e']
    rw[zq4 e,b];exact ih
theorem KV.any {kvs:List (κ×V)} {vs:List (κ×Value)} (r:KV kvs vs) (k:κ):(kvs.any fun kv=>decide (kv.1=k))=vs.any fun kv=>decide (kv.1=k):=by
 unfold KV at r;induction r with
 | nil=>rfl
 | cons h t ih=>rw[List.any_cons,List.any_cons,ih,h.1]
theorem KV.repl {kvs:List (κ×V)} {vs:List (κ×Value)} (r:KV kvs vs) (k:κ) {y:V} {u:Value} (ry:zf3 y u) :
 KV (kvs.map fun kv=>if kv.1=k then (kv.1,y) else kv) (vs.map fun kv=>if kv.1=k then (kv.1,u) else kv):=by
 unfold KV at r ⊢;induction r with
 | nil=>exact .nil
 | @cons p q ps qs h t ih=>
   rw[Ay0,Ay0];refine .cons ?_ ih;obtain⟨h1,h2⟩:=h;by_cases e:p.1=k
   ·rw[if_pos e,if_pos (h1.symm.trans e)];exact⟨h1,ry⟩
   ·rw[if_neg e,if_neg (fun z=>e (h1.trans z))];exact⟨h1,h2⟩
theorem KV.put {kvs:List (κ×V)} {vs:List (κ×Value)} (r:KV kvs vs) (k:κ) {y:V} {u:Value} (ry:zf3 y u):KV (zy7 kvs k y) (stored vs k u):=by
 unfold zy7 stored;rw[r.any k];by_cases e:(vs.any fun kv=>decide (kv.1=k))=true
 ·rw[if_pos e,if_pos e];exact r.repl k ry
 ·rw[if_neg e,if_neg e];exact Paired.snoc r ⟨rfl,ry⟩
theorem KV.drop {kvs:List (κ×V)} {vs:List (κ×Value)} (r:KV kvs vs) (k:κ):KV (vc3 kvs k) (without vs k):=by
 unfold KV at r ⊢;unfold vc3 without;induction r with
 | nil=>exact .nil
 | @cons p q ps qs h t ih=>
   obtain⟨h1,h2⟩:=h;rw[List.filter_cons,List.filter_cons];by_cases e:p.1=k
   ·have a:¬decide (p.1≠k)=true:=by simp[e]
    have b:¬decide (q.1≠k)=true:=by simp[h1.symm.trans e]
    rw[if_neg a,if_neg b];exact ih
   ·have e':¬q.1=k:=fun z=>e (h1.trans z)
    have a:decide (p.1≠k)=true:=by simp[e]
    have b:decide (q.1≠k)=true:=by simp[e']
    rw[if_pos a,if_pos b];exact .cons ⟨h1,h2⟩ ih
theorem KV.length {kvs:List (κ×V)} {vs:List (κ×Value)} (r:KV kvs vs):kvs.length=vs.length:=Paired.length r
end
theorem xn9 {P:Program} {w:World} {k:Key} {u:Value} (r:zf3 (kV k) u):(zg3 P w).is k u=true:=by
 cases k with
 | inl i=>obtain⟨t,e⟩:=(show ∃t,u=Value.int i t from r);subst e;exact xd4 P w i t
 | inr x=>obtain⟨t,e⟩:=(show ∃t,u=Value.str x t from r);subst e;exact xd3 P w x t
theorem yy4 {P:Program} {w:World}:∀{ks:List Key} {us:List Value},zg1 (ks.map kV) us->ItemsAre (zg3 P w) ks us
 | [],_,r=>by rw[List.map_nil] at r;cases r;exact .nil
 | k::ks,_,r=>by
   rw[Ay0] at r;cases r with
   | cons h t=>exact .cons (xn9 h) (yy4 t)
noncomputable abbrev KT (H:Hp):List (List Key×V)->List (List Key×Addr×Value)->Prop:=Paired fun p q=>p.1=q.1/\H q.2.1=some (.tup (p.1.map kV))/\zf3 p.2 q.2.2
theorem KT.val {H:Hp} {kvs:List (List Key×V)} {xs:List (List Key×Addr×Value)} (r:KT H kvs xs) (k:List Key):xp3 (ym4 kvs k) ((atKey xs k).map (·.2)):=by
 induction r with
 | nil=>exact True.intro
 | @cons p q ps qs h t ih=>
   obtain⟨h1,_,h2⟩:=h;by_cases e:p.1=k
   ·have e':q.1=k:=h1.symm.trans e
    have b:atKey (q::qs) k=some q.2:=by simp[atKey,Ce0,e']
    rw[zq3 e,b];exact h2
   ·have e':¬q.1=k:=fun z=>e (h1.trans z)
    have b:atKey (q::qs) k=atKey qs k:=by simp[atKey,Ce0,e']
    rw[zq4 e,b];exact ih
theorem KT.repl {H:Hp} {kvs:List (List Key×V)} {xs:List (List Key×Addr×Value)} (r:KT H kvs xs) (k:List Key) {y:V} {u:Value} (ry:zf3 y u) :
 KT H (kvs.map fun kv=>if kv.1=k then (kv.1,y) else kv) (xs.map (putAt k u)):=by
 induction r with
 | nil=>exact .nil
 | @cons p q ps qs h t ih=>
   rw[Ay0,Ay0];refine .cons ?_ ih;obtain⟨h1,h2,h3⟩:=h;unfold putAt;by_cases e:p.1=k
   ·rw[if_pos e,if_pos (h1.symm.trans e)];exact⟨h1,h2,ry⟩
   ·rw[if_neg e,if_neg (fun z=>e (h1.trans z))];exact⟨h1,h2,h3⟩
theorem KT.put {H:Hp} {kvs:List (List Key×V)} {xs:List (List Key×Addr×Value)} (r:KT H kvs xs) (k:List Key) {b:Addr} {y:V} {u:Value} (hb:H b=some (.tup (k.map kV))) (ry:zf3 y u) :
 KT H (zy7 kvs k y) (storedH xs k b u):=by
 have e:(kvs.any fun kv=>decide (kv.1=k))=(atKey xs k).isSome:=by
  rw[yb3,(r.val k).isSome_eq,Option.isSome_map]
 unfold zy7 storedH;rw[e];by_cases q:(atKey xs k).isSome=true
 ·rw[if_pos q,if_pos q];exact r.repl k ry
 ·rw[if_neg q,if_neg q];exact Paired.snoc r ⟨rfl,hb,ry⟩
theorem KT.keeps {H H':Hp} {kvs:List (List Key×V)} {xs:List (List Key×Addr×Value)} (r:KT H kvs xs) (ht:∀b ys,H b=some (.tup ys)->H' b=some (.tup ys)):KT H' kvs xs:=
 Paired.mapP r fun _ _ z=>⟨z.1,ht _ _ z.2.1,z.2.2⟩
section
variable {P:Program} {w:World} {H:Hp} {h:Heap} {a:Addr}
theorem wx1 {u:HO} (ok:HOk P w H h) (e:Rd H a u):zl8 P w H h a u:=e.ok ok
theorem xo9 {kvs:List (Key×V)} (ok:HOk P w H h) (e:Rd H a (.dK kvs)):kvs.length<=sizeLine/\(a == sysModules)=false/\∃vs,KV kvs vs/\h.DictOf (zg3 P w) a vs:=
 show zl8 P w H h a (.dK kvs) from wx1 ok e
theorem vc4 {kvs:List (Key×V)} (ok:HOk P w H h) (e:H a=some (.dK kvs)):kvs.length<=sizeLine/\(a == sysModules)=false/\∃vs,KV kvs vs/\h.DictOf (zg3 P w) a vs:=xo9 ok (.inl e)
theorem yo9 {ks:List Key} (ok:HOk P w H h) (e:H a=some (.tup (ks.map kV))):(tupleKind (zg3 P w)).is h ks a:=by
 obtain⟨_,its,r,o,h1,h2,n,h3⟩:=(show zl8 P w H h a (.tup (ks.map kV)) from ok a _ e);exact⟨o,its.toArray,n,h1,h2,h3,by simpa using yy4 r⟩
theorem xo8 {kvs:List (List Key×V)} (ok:HOk P w H h) (e:Rd H a (.dT kvs)):kvs.length<=sizeLine/\(a == sysModules)=false/\
 ∃xs,KT H kvs xs/\h.DictOfH (tupleKind (zg3 P w)) a xs:=by
 obtain⟨z,y,xs,r,o,es,ep,h1,h2,h3,h4,h5⟩:=(show zl8 P w H h a (.dT kvs) from wx1 ok e);refine⟨z,y,xs,r,o,es,ep,h1,h2,h3,h4,fun x hx=>?_,h5⟩;have all:∀{l:List (List Key×V)} {m:List (List Key×Addr×Value)},KT H l m->∀x∈m,(tupleKind (zg3 P w)).is h x.1 x.2.1:=by
  intro l m q;induction q with
  | nil=>intro x hx;exact nomatch hx
  | @cons p q ps qs hq t ih=>
    intro x hx;rcases Ai0.mp hx with e | hx
    ·subst e
     exact yo9 ok (by rw[<-hq.1];exact hq.2.1)
    ·exact ih x hx
 exact all r x hx
theorem vc0 {kvs:List (List Key×V)} (ok:HOk P w H h) (e:H a=some (.dT kvs)):kvs.length<=sizeLine/\(a == sysModules)=false/\
 ∃xs,KT H kvs xs/\h.DictOfH (tupleKind (zg3 P w)) a xs:=xo8 ok (.inl e)
end
noncomputable def yn2 (H:Hp) (a:Addr) (y:V) (r:Option V):Prop:=
 (∃kvs k,Rd H a (.dK kvs)/\y=kV k/\r=ym4 kvs k)\/∃kvs k b,Rd H a (.dT kvs)/\y=.ref b/\H b=some (.tup (k.map kV))/\r=ym4 kvs k
noncomputable def wh1 (H:Hp) (a:Addr) (y v:V) (H':Hp):Prop:=
 (∃kvs k,H a=some (.dK kvs)/\y=kV k/\kvs.length<sizeLine/\H'=upd H a (.dK (zy7 kvs k v)))\/
 ∃kvs k b,H a=some (.dT kvs)/\y=.ref b/\H b=some (.tup (k.map kV))/\kvs.length<sizeLine/\H'=upd H a (.dT (zy7 kvs k v))
theorem yn2.k {H:Hp} {a:Addr} {kvs:List (Key×V)} {k:Key} (e:H a=some (.dK kvs)):yn2 H a (kV k) (ym4 kvs k):=.inl ⟨kvs,k,.inl e,rfl,rfl⟩
theorem yn2.t {H:Hp} {a b:Addr} {kvs:List (List Key×V)} {k:List Key} (e:H a=some (.dT kvs)) (eb:H b=some (.tup (k.map kV))):yn2 H a (.ref b) (ym4 kvs k):=.inr ⟨kvs,k,b,.inl e,rfl,eb,rfl⟩
theorem wh1.k {H:Hp} {a:Addr} {kvs:List (Key×V)} {k:Key} {v:V} (e:H a=some (.dK kvs)) (hl:kvs.length<sizeLine):wh1 H a (kV k) v (upd H a (.dK (zy7 kvs k v))):=.inl ⟨kvs,k,e,rfl,hl,rfl⟩
theorem wh1.t {H:Hp} {a b:Addr} {kvs:List (List Key×V)} {k:List Key} {v:V} (e:H a=some (.dT kvs)) (eb:H b=some (.tup (k.map kV))) (hl:kvs.length<sizeLine) :
 wh1 H a (.ref b) v (upd H a (.dT (zy7 kvs k v))):=.inr ⟨kvs,k,b,e,rfl,eb,hl,rfl⟩
section
variable {X:Cx} {A3:List (Addr×Obj)} {σ:St} {H:Hp} {s:Shared} {a:Addr} {y v:V} {u r:Value} {o:Option V} {A:Around} {E:Value->Shared->Prop}
theorem Inv.big (I:Inv X A3 σ H s):sysModules<s.heap.objs.size:=by
 have h:mainGlobals<s.heap.objs.size:=(I.mod.glob.keeps I.bk).lt;exact Nat.lt_trans (by decide) h
theorem xy3 {Q:Value->Shared->Prop} (hu:A.units+1<cLine) (I:Inv X A3 σ H s) (g:yn2 H a y (some v)) (ry:zf3 y u) (h:∀w' s',Inv X A3 σ H s'->zf3 v w'->Q w' s') :
 wpAny (model X.prog X.w) A (getItem (.ref a) u) Q E s:=by
 rcases g with⟨kvs,k,e,ey,l⟩ | ⟨kvs,k,b,e,ey,eb,l⟩
 ·subst ey
  obtain⟨z,hd,vs,rel,dd⟩:=xo9 I.hok e;obtain⟨w',hw,rw'⟩:=xp3.some_of (v:=v) (o:=valueAt vs k) (by rw[l];exact rel.val k);exact wpAny_getItem_of (xn9 ry) dd.mapOf hw (h w' _ (I.tok _) rw')
 ·subst ey
  cases (show u=Value.ref b from ry);obtain⟨z,hd,xs,rel,dd⟩:=xo8 I.hok e;obtain⟨w',hw,rw'⟩:=xp3.some_of (v:=v) (o:=(atKey xs k).map (·.2)) (by rw[l];exact rel.val k);obtain⟨p,hp,hp2⟩:=Option.map_eq_some_iff.mp hw;refine wpAny_getItem_heap (tupleKind_room_in1 hu) (yo9 I.hok eb) dd hp ?_;rw[hp2];exact h w' _ (I.tok _) rw'
theorem vq9 {Q:Value->Shared->Prop} (hu:A.units+1<cLine) (I:Inv X A3 σ H s) (g:yn2 H a y o) (ry:zf3 y u) (h:∀s',Inv X A3 σ H s'->Q (.bool o.isSome) s') :
 wpAny (model X.prog X.w) A (compareOp .In u (.ref a)) Q E s:=by
 rcases g with⟨kvs,k,e,ey,l⟩ | ⟨kvs,k,b,e,ey,eb,l⟩
 ·subst ey
  obtain⟨z,hd,vs,rel,dd⟩:=xo9 I.hok e;refine wpAny_in_of (xn9 ry) hd dd.mapOf ?_;rw[<-(rel.val k).isSome_eq,<-l];exact h _ (I.tok _)
 ·subst ey
  cases (show u=Value.ref b from ry);obtain⟨z,hd,xs,rel,dd⟩:=xo8 I.hok e;refine wpAny_in_heap (tupleKind_room_in1 hu) (yo9 I.hok eb) hd dd ?_;have q:=(rel.val k).isSome_eq;rw[Option.isSome_map] at q;rw[<-q,<-l];exact h _ (I.tok _)
theorem yt2 {h':Heap} {t':Nat} {ob:HO} (I:Inv X A3 σ H s) (mu:Mut (H a)) (hs:Heap.SameBut a s.heap h') (he:∃q,h'.get? a=some q) (new:zl8 X.prog X.w (upd H a ob) h' a ob) :
 Inv X A3 σ (upd H a ob) { s with heap:=h',toks:=t' }:=
 I.write (x:=a) (e:=a) mu (.inl rfl) (fun b q hb z=>(hs.2 b hb).trans z) he new
theorem wj5 {P:Program} {w:World} {H':Hp} {h':Heap} {kvs:List (Key×V)} {vs:List (Key×Value)} (z:kvs.length<=sizeLine) (hd:(a == sysModules)=false) (rel:KV kvs vs) (dd:h'.DictOf (zg3 P w) a vs) :
 zl8 P w H' h' a (.dK kvs):=⟨z,hd,vs,rel,dd⟩
theorem xy2 {H':Hp} {Q:Unit->Shared->Prop} (hu:A.units+1<cLine) (I:Inv X A3 σ H s) (g:wh1 H a y v H') (ry:zf3 y u) (rv:zf3 v r) (h:∀s',Inv X A3 σ H' s'->Q () s') :
 wpAny (model X.prog X.w) A (setItem (.ref a) u r) Q E s:=by
 rcases g with⟨kvs,k,e,ey,l,eH⟩ | ⟨kvs,k,b,e,ey,eb,l,eH⟩
 ·subst ey eH
  obtain⟨z,hd,vs,rel,dd⟩:=vc4 I.hok e;have hz:vs.length<=sizeLine:=by rw[<-rel.length];exact z
  have hl:(zy7 kvs k v).length<=sizeLine:=by have:=zp7 kvs k v;omega
  refine wpAny_setItem_pairs (hsz:=hz) (xn9 ry) dd fun h' dd' hs=>h _ ?_
  have he:∃q,h'.get? a=some q:=let ⟨q,_,_,hq,_⟩:=dd';⟨q,hq⟩;exact yt2 I (by rw[e];exact True.intro) hs he (wj5 hl hd (rel.put k rv) dd')
 ·subst ey eH
  cases (show u=Value.ref b from ry);obtain⟨z,hd,xs,rel,dd⟩:=vc0 I.hok e;have hz:xs.length<=sizeLine:=by rw[<-Paired.length rel];exact z
  have hl:(zy7 kvs k v).length<=sizeLine:=by have:=zp7 kvs k v;omega
  refine wpAny_setItem_heap (hsz:=hz) (tupleKind_room_in1 hu) (yo9 I.hok eb) dd fun h' dd' hs=>h _ ?_
  obtain⟨q,es,ep,hq,h2,h3,h4,_,h5⟩:=dd';refine yt2 I (by rw[e];exact True.intro) hs ⟨q,hq⟩ ⟨hl,hd,_,(rel.put k eb rv).keeps fun c ys ec=>?_,q,es,ep,hq,h2,h3,h4,h5⟩;rw[zb2 (wd5 ec e (fun z=>nomatch z))];exact ec
end
section
variable {X:Cx} {A3:List (Addr×Obj)} {σ:St} {H:Hp} {s:Shared} {a:Addr} {kvs:List (Key×V)} {k:Key} {u:Value} {A:Around} {E:Value->Shared->Prop}
end
noncomputable def vf8 (i:Expr):Prop:=∀ov iv,subscripted i false ov iv=operate [ov,iv] (getItem ov iv)
theorem wm9 {prog:Program} {w:World} {A:Around} {E:Value->Shared->Prop} {s:Shared} {env:Env} {value slice:Expr} {pos:Pos} {T id:String} {Q:Value->Shared->Prop}
 (hl:typeLookup (.type T) "__getitem__" = pure (some (.builtin id))) (hs:vf8 slice)
 (h:wpAny (model prog w) A (eval value env) (fun o s₁=>wpAny (model prog w) A (eval slice env) (fun i s₂=>s₂.TypeIs o T/\wpAny (model prog w) A (getItem o i) Q E s₂) E s₁) E s) :
 wpAny (model prog w) A (eval (.Subscript value slice pos) env) Q E s:=by
 refine Subscript_ (Ah1 h (fun o s₁ h₁=>Ah1 h₁ (fun i s₂ h₂=>?_) fun _ _ x=>x) fun _ _ x=>x);obtain⟨hT,h₂⟩:=h₂;unfold subscriptTail;refine Aa1 ?_;rw[getitemInPython_of_ne hT.not_modules];refine Aa1 (wpAny_specialOf hT hl ?_);have fin:wpAny (model prog w) A (subscripted slice false o i) (fun r s₃=>wpAny (model prog w) A (letTemporaryGo value o r >>= fun _=>pure r) Q E s₃) E s₂:=by
  rw[hs o i];exact wpAny_operating (Ah1 h₂ (fun r s₃ h₃=>Aa1 (wpAny_letTemporaryGo (Ac1 h₃))) fun _ _ x=>x)
 first
  | exact Ac1 (Aa1 fin)
  | exact Aa1 (Ac1 (Aa1 fin))
  | exact Aa1 fin
theorem xe3 {X:Cx} {A3:List (Addr×Obj)} {σ:St} {H:Hp} {s:Shared} {a:Addr} {y:V} {o:Option V} (I:Inv X A3 σ H s) (g:yn2 H a y o):s.TypeIs (.ref a) "dict":=by
 rcases g with⟨kvs,k,e,_,_⟩ | ⟨kvs,k,b,e,_,_,_⟩
 ·obtain⟨_,_,vs,_,dd⟩:=xo9 I.hok e
  exact dd.typeIs
 ·obtain⟨_,_,xs,_,dd⟩:=xo8 I.hok e
  exact dd.typeIs
noncomputable def vh1 (td ty:TE):TE:=fun σ H Q=>td σ H fun x H1=>ty σ H1 fun y H2=>∃a v,x=.ref a/\yn2 H2 a y (some v)/\Q v H2
noncomputable def vp4 (ty td:TE):TE:=fun σ H Q=>ty σ H fun y H1=>td σ H1 fun x H2=>∃a o,x=.ref a/\yn2 H2 a y o/\Q (.bl o.isSome) H2
noncomputable def vh7 (td ty tv:TE):TS:=fun D σ H=>tv σ H fun v H1=>td σ H1 fun x H2=>ty σ H2 fun y H3=>∃a H4,x=.ref a/\wh1 H3 a y v H4/\D.nx σ H4
section
variable {X:Cx} {o i e value:Expr} {pos pos' tpos:Pos} {td ty tv:TE}
theorem ye8 (hu:X.A.units+1<cLine) (ho:PE X o td) (hi:PE X i ty) (hs:vf8 i):PE X (.Subscript o i pos) (vh1 td ty):=by
 intro A3 s σ H Q I h;refine wm9 PySem.F.slot_dict_getitem.lookup hs (thn (ho A3 s σ H _ I h) fun u s1 ⟨x,H1,I1,rx,q1⟩=>thn (hi A3 s1 σ H1 _ I1 q1) fun iv s2 hI78=>?_);obtain⟨y,H2,I2,ry,a,v,ex,g,q2⟩:=hI78;subst ex;obtain rfl:u=Value.ref a:=rx;exact⟨xe3 I2 g,xy3 hu I2 g ry fun w' s3 I3 rw'=>⟨v,H2,I3,rw',q2⟩⟩
theorem wy9 (hu:X.A.units+1<cLine) (hi:PE X i ty) (ho:PE X o td):PC X .In i o (vp4 ty td):=by
 intro A3 s σ H Q I h;refine thn (hi A3 s σ H _ I h) fun iv s1 ⟨y,H1,I1,ry,q1⟩=>thn (ho A3 s1 σ H1 _ I1 q1) fun u s2 hI79=>?_
 obtain⟨x,H2,I2,rx,a,ov,ex,g,q2⟩:=hI79;subst ex;obtain rfl:u=Value.ref a:=rx;exact vq9 hu I2 g ry fun s3 I3=>⟨.bl ov.isSome,H2,I3,rfl,q2⟩
theorem xs8 (hu:X.A.units+1<cLine) (ho:PE X o td) (hi:PE X i ty) (hv:PE X value tv) (hs:swapsWith value (some (.Subscript o i pos')) pos.line X.env=pure false) :
 PS X (.Assign [.Subscript o i pos'] value pos) (vh7 td ty tv):=by
 intro A3 s σ H D I h;refine wpAny_Assign_Subscript (thn (hv A3 s σ H _ I h) fun r s1 ⟨v,H1,I1,rv,q1⟩=>thn (ho A3 s1 σ H1 _ I1 q1) fun u s2 ⟨x,H2,I2,rx,q2⟩=>thn (hi A3 s2 σ H2 _ I2 q2) fun iv s3 hI80=>?_) hs;obtain⟨y,H3,I3,ry,a,H4,ex,g,q3⟩:=hI80;subst ex;obtain rfl:u=Value.ref a:=rx;exact xy2 hu I3 g ry rv fun s4 I4=>⟨σ,H4,I4,q3⟩
end
theorem wf6 {P:Program} {w:World} {H:Hp} (h:Heap) (hb:sysModules<h.objs.size):zl8 P w H (h.push { cls:=.type "dict",data:=.dict #[] }) h.objs.size (.dK []):=
 ⟨An0 _,beq_eq_false_iff_ne.mpr (Ne.symm (Ao0 hb)),[],.nil,Heap.DictOf.new h⟩
theorem xj6 {P:Program} {w:World} {H:Hp} (h:Heap) (hb:sysModules<h.objs.size):zl8 P w H (h.push { cls:=.type "dict",data:=.dict #[] }) h.objs.size (.dT []):=
 ⟨An0 _,beq_eq_false_iff_ne.mpr (Ne.symm (Ao0 hb)),[],.nil,_,#[],0,Ak0 _ rfl,⟨rfl,rfl,rfl⟩,rfl,rfl,List.nodup_nil⟩
noncomputable def ww1:TE:=fun _ H Q=>∀p,H p=none->Q (.ref p) (upd H p (.dT []))
section
variable {X:Cx} {pos:Pos}
theorem wc4:PE X (.Dict [] [] pos) ww1:=fun A3 s σ H Q I h=>
 wpAny_Dict_empty ⟨.ref s.heap.objs.size,_,I.laid (a:=s.heap.objs.size) (o:=.dT []) (t':=s.toks) (fun _ _ q=>Ad0 _ q) (Ae0 _) (xj6 s.heap I.big),rfl,h _ (I.hok.fresh (Ae0 _))⟩
end
noncomputable def yu8:List (TE×TE)->St->Hp->(List (V×V)->Hp->Prop)->Prop
 | [],_,H,Q=>Q [] H
 | (tk,tv)::r,σ,H,Q=>tk σ H fun x H1=>tv σ H1 fun y H2=>yu8 r σ H2 fun ps H3=>Q ((x,y)::ps) H3
noncomputable abbrev VV:List (V×V)->List (Value×Value)->Prop:=Paired fun p q=>zf3 p.1 q.1/\zf3 p.2 q.2
noncomputable def PPs (X:Cx) (pos:Pos) (keys:List (Option Expr)) (values:List Expr) (trs:List (TE×TE)):Prop:=
 ∀(A3:List (Addr×Obj)) (s:Shared) (σ:St) (H:Hp) (Q:List (V×V)->Hp->Prop),Inv X A3 σ H s->yu8 trs σ H Q->
  wpAny (model X.prog X.w) X.A (evalPairs (pairTrees keys values X.env pos)) (fun vs s'=>∃ps H',Inv X A3 σ H' s'/\VV ps vs/\Q ps H') X.xe s
theorem xc3 {X:Cx} {pos:Pos}:PPs X pos [] [] []:=fun A3 s σ H Q I h=>pairTrees_nil_walk ⟨[],H,I,.nil,h⟩
theorem yc1 {X:Cx} {pos:Pos} {k v:Expr} {ks:List (Option Expr)} {vs:List Expr} {tk tv:TE} {trs:List (TE×TE)} (hk:PE X k tk) (hv:PE X v tv) (hr:PPs X pos ks vs trs) :
 PPs X pos (some k::ks) (v::vs) ((tk,tv)::trs):=fun A3 s σ H Q I h=>
 pairTrees_cons_walk (thn (hk A3 s σ H _ I h) fun u s1 ⟨x,H1,I1,rx,q1⟩=>thn (hv A3 s1 σ H1 _ I1 q1) fun w2 s2 ⟨y,H2,I2,ry,q2⟩=>
  thn (hr A3 s2 σ H2 _ I2 q2) fun ws s3 ⟨ps,H3,I3,rel,q3⟩=>⟨(x,y)::ps,H3,I3,.cons ⟨rx,ry⟩ rel,q3⟩)
noncomputable def zz3 (kvs more:List (Key×V)):List (Key×V):=more.foldl (fun acc kv=>zy7 acc kv.1 kv.2) kvs
theorem KV.merge:∀{more:List (Key×V)} {rs:List (Key×Value)} {kvs:List (Key×V)} {vs:List (Key×Value)},KV more rs->KV kvs vs->KV (zz3 kvs more) (merged vs rs):=by
 intro more rs kvs vs r;unfold KV at r;induction r generalizing kvs vs with
 | nil=>intro q;exact q
 | @cons p q ps qs h t ih=>
   intro r0;have e:KV (zy7 kvs p.1 p.2) (stored vs q.1 q.2):=by
    have:=r0.put p.1 h.2;rw[<-h.1];exact this
   exact ih e
theorem ye0:∀(more kvs:List (Key×V)),(zz3 kvs more).length<=kvs.length+more.length
 | [],kvs=>by show kvs.length<=kvs.length+0;omega
 | p::r,kvs=>by
   have h1:=ye0 r (zy7 kvs p.1 p.2);have h2:=zp7 kvs p.1 p.2;show (zz3 (zy7 kvs p.1 p.2) r).length<=_;rw[Bm0];omega
theorem yq2 {P:Program} {w:World}:∀{kvs:List (Key×V)} {ws:List (Value×Value)},VV (kvs.map fun kv=>(kV kv.1,kv.2)) ws->∃rs,Carries (zg3 P w) ws rs/\KV kvs rs
 | [],_,r=>by rw[List.map_nil] at r;cases r;exact⟨[],True.intro,.nil⟩
 | p::kvs,_,r=>by
   rw[Ay0] at r;cases r with
   | @cons a b as bs h t=>
     obtain⟨rs,c,q⟩:=yq2 (P:=P) (w:=w) t;obtain⟨b1,b2⟩:=b;exact⟨(p.1,b2)::rs,⟨xn9 h.1,rfl,c⟩,.cons ⟨rfl,h.2⟩ q⟩
noncomputable def wv9 (trs:List (TE×TE)):TE:=fun σ H Q=>∀p,H p=none->yu8 trs σ (upd H p (.dK [])) fun ps H2=>H2 p=some (.dK [])/\∃kvs:List (Key×V),ps=kvs.map (fun kv=>(kV kv.1,kv.2))/\kvs.length<=15/\Q (.ref p) (upd H2 p (.dK (zz3 [] kvs)))
theorem xc5 {X:Cx} {pos:Pos} {keys:List (Option Expr)} {values:List Expr} {trs:List (TE×TE)} (h:PPs X pos keys values trs) (hall:keys.all (·.isSome)=true) (hl:keys.length=values.length) (h0:keys≠[])
 (h15:keys.length<=15):PE X (.Dict keys values pos) (wv9 trs):=by
 intro A3 s σ H Q I q;have hn:=I.hok.fresh (Ae0 s.heap.objs.size);have I1:=I.laid (a:=s.heap.objs.size) (o:=.dK []) (h':=s.heap.push { cls:=.type "dict",data:=.dict #[] }) (t':=s.toks) (fun _ _ q=>Ad0 _ q) (Ae0 _) (wf6 s.heap I.big);refine wpAny_Dict_walk (knd:=zg3 X.prog X.w) hall hl h0 h15 (thn (h A3 _ σ _ _ I1 (q _ hn)) fun ws s2 hI81=>?_);obtain⟨ps,H2,I2,rel,e,kvs,ep,lk,q2⟩:=hI81;subst ep;obtain⟨rs,c,rk⟩:=yq2 (P:=X.prog) (w:=X.w) rel;obtain⟨z,hd,vs0,r0,dd⟩:=vc4 I2.hok e;cases r0;refine⟨rs,c,dd,fun h' dd' hs=>⟨.ref s.heap.objs.size,_,?_,rfl,q2⟩⟩;have hz:(zz3 [] kvs).length<=sizeLine:=by
  have h1:=ye0 kvs [];rw[List.length_nil] at h1;rw[sizeLine_eq];omega
 have he:∃q,h'.get? s.heap.objs.size=some q:=let ⟨q,_,_,hq,_⟩:=dd';⟨q,hq⟩;exact yt2 I2 (by rw[e];exact True.intro) hs he (wj5 hz hd (rk.merge .nil) dd')
structure M2 (X:Cx) (o:Expr) (m:Str) (apos:Pos) (e f:Expr) (cpos:Pos):Prop where
 base:attributeBase o m X.env (eval o X.env)=eval o X.env
 few:((backTo cpos (starEach [e,f] X.env)).all (fun x=>!x.1)&&(backToKw cpos (keywordEach [] X.env)).all (fun x=>x.1.isSome)
  && decide (([e,f]:List Expr).length+([]:List Keyword).length+(if ([]:List Keyword).isEmpty then 0 else 1)<30))=true
 line:(apos.endLine == cpos.line)=true
 trees:backTo cpos (starEach [e,f] X.env)=[(false,eval e X.env),(false,eval f X.env)]
noncomputable def IsD (H:Hp) (a:Addr):Prop:=(∃kvs,Rd H a (.dK kvs))\/∃kvs,Rd H a (.dT kvs)
theorem vb0 {X:Cx} {A3:List (Addr×Obj)} {σ:St} {H:Hp} {s:Shared} {a:Addr} (I:Inv X A3 σ H s) (d:IsD H a) :
 s.TypeIs (.ref a) "dict"/\(∀b,Value.ref a=.ref b->∃ob,s.heap.get? b=some ob/\ob.dict=none)/\(a == sysModules)=false:=by
 rcases d with⟨kvs,e⟩ | ⟨kvs,e⟩
 ·obtain⟨_,hd,vs,_,dd⟩:=xo9 I.hok e
  refine⟨dd.typeIs,fun b q=>?_,hd⟩;cases q;obtain⟨ob,_,_,h1,h2,_⟩:=dd;exact⟨ob,h1,h2.2.1⟩
 ·obtain⟨_,hd,xs,_,dd⟩:=xo8 I.hok e
  refine⟨dd.typeIs,fun b q=>?_,hd⟩;cases q;obtain⟨ob,_,_,h1,h2,_⟩:=dd;exact⟨ob,h1,h2.2.1⟩
section
variable {X:Cx} {A3:List (Addr×Obj)} {σ:St} {H:Hp} {s:Shared} {a:Addr} {y d:V} {u r:Value} {o:Option V} {A:Around} {E:Value->Shared->Prop}
theorem vd6 {Q:Value->Shared->Prop} (hu:A.units+1<cLine) (I:Inv X A3 σ H s) (g:yn2 H a y o) (ry:zf3 y u) (rd:zf3 d r) (h:∀w' s',Inv X A3 σ H s'->zf3 (o.getD d) w'->Q w' s') :
 wpAny (model X.prog X.w) A (call (.builtin "dict.get") [.ref a,u,r]) Q E s:=by
 rcases g with⟨kvs,k,e,ey,l⟩ | ⟨kvs,k,b,e,ey,eb,l⟩
 ·subst ey
  obtain⟨z,hd,vs,rel,dd⟩:=xo9 I.hok e;refine call_meetsIn PySem.F.slot_dict_get dd.typeIs PySem.F.entry_dict_get (PySem.F.args_dict_get_3 _ _ _) (meets_dict_get_default (zg3 X.prog X.w) a (xn9 ry) hd r) ⟨_,dd.mapOf,h _ _ (I.tok _) ?_⟩;rw[l];exact(rel.val k).getD rd
 ·subst ey
  cases (show u=Value.ref b from ry);obtain⟨z,hd,xs,rel,dd⟩:=xo8 I.hok e;refine call_meetsIn PySem.F.slot_dict_get dd.typeIs PySem.F.entry_dict_get (PySem.F.args_dict_get_3 _ _ _) (meetsH_dict_get_default (tupleKind (zg3 X.prog X.w)) a b hd r) ⟨tupleKind_room_in1 hu,k,xs,yo9 I.hok eb,dd,h _ _ (I.tok _) ?_⟩;rw[l];exact(rel.val k).getD rd
end
noncomputable def ww2 (td ty tx:TE):TE:=fun σ H Q=>td σ H fun x H1=>∃a,x=.ref a/\IsD H1 a/\ty σ H1 fun y H2=>tx σ H2 fun z H3=>∃o,yn2 H3 a y o/\Q (o.getD z) H3
section
variable {X:Cx} {o e f:Expr} {apos cpos:Pos} {td ty tx:TE}
theorem wc5 (hu:X.A.units+1<cLine) (ho:PE X o td) (he:PE X e ty) (hf:PE X f tx) (m:M2 X o "get" apos e f cpos):PE X (.Call (.Attribute o "get" apos) [e,f] [] cpos) (ww2 td ty tx):=by
 intro A3 s σ H Q I h;refine wpAny_Call_method m.base m.few m.line PySem.F.plainAttrs_dict PySem.F.slot_dict_get PySem.F.type_dict_get (thn (ho A3 s σ H _ I h) fun u s1 hI82=>?_);obtain⟨x,H1,I1,rx,a,ex,d,q1⟩:=hI82;subst ex;obtain rfl:u=Value.ref a:=rx;obtain⟨t1,t2,_⟩:=vb0 I1 d;refine⟨t1,t2,?_⟩;rw[m.trees];refine Calls.callWith_builtin rfl (Calls.evalArgs_plain (Calls.spliced_cons (thn (he A3 s1 σ H1 _ I1 q1) fun iv s2 ⟨y,H2,I2,ry,q2⟩=>Calls.spliced_cons (thn (hf A3 s2 σ H2 _ I2 q2) fun fv s3 ⟨z,H3,I3,rz,ov,g,q3⟩=>Calls.spliced_nil ?_))));exact vd6 hu I3 g ry rz fun w' s4 I4 rw'=>⟨_,H3,I4,rw',q3⟩
end
section
variable {X:Cx} {A3:List (Addr×Obj)} {σ:St} {H:Hp} {s:Shared} {a:Addr} {kvs:List (Key×V)} {A:Around} {E:Value->Shared->Prop}
end
section
variable {X:Cx} {A3:List (Addr×Obj)} {σ:St} {H:Hp} {s:Shared} {a:Addr} {y:V} {u:Value} {A:Around} {E:Value->Shared->Prop}
end
section
variable {κ:Type} [DecidableEq κ]
end
noncomputable def ye5 (cells:List (Str×Addr)):List (Str×NameKind)->List (Str×Addr)->List (Str×Addr)
 | [],cs=>cs
 | (n,k)::r,cs=>ye5 cells r (if k == .free then (match cells.lookup n with | some a=>(n,a)::cs | none=>cs) else cs)
theorem zx0 {env:Env}:∀(names:List (Str×NameKind)) (cs:List (Str×Addr)),(∀y∈names,y.2=.free->∃a,env.cells.lookup y.1=some a)->
 (forIn (m:=Sem) names cs fun (x:Str×NameKind) (r:List (Str×Addr))=>
  match x with
  | (name,kind)=>if (kind == .free)=true then do let a <-cellOf env name;pure (ForInStep.yield ((name,a)::r)) else pure (ForInStep.yield r))=pure (ye5 env.cells names cs)
 | [],cs,_=>rfl
 | (n,k)::r,cs,h=>by
   rw[List.forIn_cons];have ih:=fun cs'=>zx0 (env:=env) r cs' fun y hy=>h y (Bw0 _ hy)
   by_cases hk:(k == NameKind.free)=true
   ·have hk':k=.free:=by simpa using hk
    obtain⟨a,ha⟩:=h (n,k) Cf0 hk';simp only[hk,if_true,ye5,cellOf];have ha':env.cells.lookup n=some a:=ha;rw[ha'];exact ih _
   ·simp only[hk,ye5]
    exact ih _
theorem yt4 {scope:Scope} {env:Env} (h:∀y∈scope.names,y.2=.free->∃a,env.cells.lookup y.1=some a):closureFor scope env=pure (ye5 env.cells scope.names []):=by
 simp only[closureFor];have e:=zx0 (env:=env) scope.names [] h;have e2:=congrArg (fun m:Sem (List (Str×Addr))=>m >>= pure) e;exact e2
theorem zn1 {α:Type} {x n:Str} {v:α} {l:List (Str×α)}:List.lookup x ((n,v)::l)=if x=n then some v else l.lookup x:=by
 rw[List.lookup_cons];by_cases e:x=n
 ·subst e;simp
 ·rw[if_neg e]
  have:(x == n)=false:=by simpa using e
  rw[this]
theorem xk2 {cells:List (Str×Addr)}:∀(names:List (Str×NameKind)) (cs:List (Str×Addr)) (x:Str) (c:Addr),
 (∀x c,cs.lookup x=some c->cells.lookup x=some c)->(ye5 cells names cs).lookup x=some c->cells.lookup x=some c
 | [],cs,x,c,h,e=>h x c e
 | (n,k)::r,cs,x,c,h,e=>by
   refine xk2 r _ x c (fun y d hy=>?_) e;by_cases hk:(k == NameKind.free)=true
   ·rw[if_pos hk] at hy
    cases ha:cells.lookup n with
    | none=>rw[ha] at hy;exact h y d hy
    | some a=>
      rw[ha] at hy;have hy:List.lookup y ((n,a)::cs)=some d:=hy;rw[zn1] at hy;by_cases e:y=n
      ·rw[if_pos e] at hy;cases hy;rw[e];exact ha
      ·rw[if_neg e] at hy;exact h y d hy
   ·rw[if_neg hk] at hy;exact h y d hy
theorem yz9 {cells:List (Str×Addr)}:∀(names:List (Str×NameKind)) (cs:List (Str×Addr)) (x:Str),(∃c,cs.lookup x=some c)->∃c,(ye5 cells names cs).lookup x=some c
 | [],_,_,h=>h
 | (n,k)::r,cs,x,h=>by
   refine yz9 r _ x ?_;by_cases hk:(k == NameKind.free)=true
   ·rw[if_pos hk]
    cases ha:cells.lookup n with
    | none=>exact h
    | some a=>
      show ∃c,List.lookup x ((n,a)::cs)=some c;rw[zn1];by_cases e:x=n
      ·rw[if_pos e];exact⟨_,rfl⟩
      ·rw[if_neg e];exact h
   ·rw[if_neg hk];exact h
theorem xk3 {cells:List (Str×Addr)}:∀(names:List (Str×NameKind)) (cs:List (Str×Addr)) (x:Str),(x,NameKind.free)∈names->(∃a,cells.lookup x=some a)->∃c,(ye5 cells names cs).lookup x=some c
 | [],_,_,h,_=>nomatch h
 | (n,k)::r,cs,x,h,ha=>by
   rcases Ai0.mp h with e | h'
   ·have e1:x=n:=congrArg Prod.fst e
    have e2:NameKind.free=k:=congrArg Prod.snd e;subst e1 e2;obtain⟨a,ha⟩:=ha;refine yz9 r _ x ?_;show ∃c,List.lookup x (if (NameKind.free == NameKind.free)=true then (match cells.lookup x with | some a=>(x,a)::cs | none=>cs) else cs)=some c;rw[if_pos (by rfl),ha];show ∃c,List.lookup x ((x,a)::cs)=some c;rw[zn1,if_pos rfl];exact⟨_,rfl⟩
   ·exact xk3 r _ x h' ha
noncomputable def pick (σ:St) (ixs:List (Option Nat)):St:=ixs.map fun o=>match o with
 | some i=>(σ[i]?).join
 | none=>none
noncomputable def zi2 (X:Cx) (N':List Str) (scope:Scope) (cl:List (Str×Addr)) (C:Addr) (s:Shared) (H:Hp) (fp:List Addr):Cx:=
 { X with N:=N',s₀:=s,H₀:=H,env:=compEnvC scope cl C X.env,outer:=X.stack,ex:=fp,fn:=fun _=>false,pn:=[],xe:=fun _ _=>False }
noncomputable def yf8 (env:Env) (n:Str) (k:NameKind):NameKind:=if (k == NameKind.free&&env.scope.kind == .function&&env.kindOf n == some .cell)=true then .cell else k
theorem yg2 {env:Env}:∀{names:List (Str×NameKind)} {x:Str},(names.map fun (n,k)=>if (k == NameKind.free&&env.scope.kind == .function&&env.kindOf n == some .cell) then (n,NameKind.cell) else (n,k)).lookup x=(names.lookup x).map (yf8 env x)
 | [],_=>rfl
 | (n,k)::r,x=>by
   have ih:=@yg2 env r x;rw[Ay0];have e1:(if (k == NameKind.free&&env.scope.kind == .function&&env.kindOf n == some .cell)=true then (n,NameKind.cell) else (n,k))=(n,yf8 env n k):=by
    unfold yf8;split<;>rfl
   show List.lookup x ((if (k == NameKind.free&&env.scope.kind == .function&&env.kindOf n == some .cell)=true then (n,NameKind.cell) else (n,k))::_)=_;rw[e1,zn1,zn1];by_cases e:x=n
   ·rw[if_pos e,if_pos e,e];rfl
   ·rw[if_neg e,if_neg e];exact ih
structure zl6 (X:Cx) (N':List Str) (ixs:List (Option Nat)) (scope:Scope):Prop where
 kind:scope.kind=.function
 nocell:∀y∈scope.names,y.2≠.cell
 loc:∀y∈scope.names,y.2=.local->scope.names.lookup y.1=some .local
 len:ixs.length=N'.length
 free:∀y∈scope.names,y.2=.free->X.env.scope.names.lookup y.1=some .cell\/X.env.scope.names.lookup y.1=some .free
 slot:∀(j i:Nat) (y:Str),N'[j]?=some y->ixs[j]?=some (some i)->X.N[i]?=some y/\scope.names.lookup y=some .free
section
variable {X:Cx} {A3:List (Addr×Obj)} {σ:St} {H:Hp} {s:Shared} {N':List Str} {ixs:List (Option Nat)} {scope:Scope}
set_option tactic.hygienic true in
theorem zl6.clos (S:zl6 X N' ixs scope) (I:Inv X A3 σ H s):closureFor scope X.env=pure (ye5 X.env.cells scope.names []):=
 yt4 fun y hy hf=>I.ok.has y.1 (S.free y hy hf)
set_option tactic.hygienic true in
theorem Inv.comp {fp:List Addr} {h':Heap} {t':Nat} (I:Inv X A3 σ H s) (S:zl6 X N' ixs scope) (hf:∀b∈fp,xf1 X A3 H b) (hlt:∀b∈fp,∃o,s.heap.get? b=some o/\∀v,o.data≠.cell v)
 (hk:∀b o,s.heap.get? b=some o->h'.get? b=some o) (hn:h'.Ns s.heap.objs.size (fun _=>none)) :
 Inv (zi2 X N' scope (ye5 X.env.cells scope.names []) s.heap.objs.size s H fp) [] (pick σ ixs) H { s with heap:=h',toks:=t' }:=by
 have sub:∀x c,(ye5 X.env.cells scope.names []).lookup x=some c->X.env.cells.lookup x=some c:=fun x c e=>xk2 _ _ x c (fun _ _ z=>absurd z (by simp)) e
 have cellOld:∀x c,X.env.cells.lookup x=some c->c<s.heap.objs.size:=fun x c e=>by obtain⟨v,z⟩:=I.cell x c e;exact z.lt
 have fpOld:∀b∈fp,b<s.heap.objs.size:=fun b hb=>by obtain⟨o,e,_⟩:=hlt b hb;exact Heap.lt_size e
 have kinds:∀x,Env.kindOf (compEnvC scope (ye5 X.env.cells scope.names []) s.heap.objs.size X.env) x=(scope.names.lookup x).map (yf8 X.env x):=fun x=>yg2
 have hasF:∀x,scope.names.lookup x=some .free->∃c,(ye5 X.env.cells scope.names []).lookup x=some c:=fun x e=>
  xk3 _ _ x (PySem.mem_of_lookup e) (I.ok.has x (S.free _ (PySem.mem_of_lookup e) rfl))
 have freeOf:∀x,(Env.kindOf (compEnvC scope (ye5 X.env.cells scope.names []) s.heap.objs.size X.env) x=some .cell\/Env.kindOf (compEnvC scope (ye5 X.env.cells scope.names []) s.heap.objs.size X.env) x=some .free)->scope.names.lookup x=some .free:=fun x e=>by
  rw[kinds x] at e;cases q:scope.names.lookup x with
  | none=>rw[q] at e;rcases e with e | e<;>cases e
  | some k=>
    rw[q] at e;have nc:=S.nocell _ (PySem.mem_of_lookup q);unfold yf8 at e;rcases e with e | e
    ·have e:=Option.some.inj e
     dsimp only at e;split at e
     ·rename_i hh
      have:(k == NameKind.free)=true:=by
       cases hz:(k == NameKind.free) with
       | true=>rfl
       | false=>rw[hz] at hh;simp at hh
      rw[show k=.free by simpa using this]
     ·exact absurd e nc
    ·have e:=Option.some.inj e
     dsimp only at e;split at e
     ·cases e
     ·rw[e]
 refine⟨⟨I.ok.mod,S.kind,I.ok.glob,I.ok.blt,Ae0 _,fun x y c h1 h2=>I.ok.inj x y c (sub x c h1) (sub y c h2),fun x hx=>hasF x (freeOf x hx),(fun _ _ z _=>Bool.noConfusion z),I.ok.hd,I.ok.frames,.inl rfl,fun b hb=>⟨Ao0 (fpOld b hb),fun x c e=>(hf b hb).2.2.2.2.1 x c (sub x c e)⟩,fun b o e=>I.bs b o e,Ax0 I.ok.bsz I.sz,fun b o e hb=>?_,fun b hb z=>?_,I.stack,I.stkFree⟩,rfl,I.bare,Un.kept hk,⟨_,hn,fun j x v e1 e2 e3=>?_⟩,fun x c e=>?_,I.hok.fresh (Ae0 _),fun x c e=>I.freeC x c (sub x c e),(fun p hp=>absurd (show p∈([]:List (Addr×Obj)) from hp) (by simp)),I.hok.kept hk,?_⟩
 ·-- base objects are no iterators
  have hf':=hf b hb;rcases hf'.2.2.2.1 with z | z
  ·exact I.ok.noex b o e z
  ·exact absurd (Au0 (Heap.lt_size (I.ok.bs b o e).1) z) (Bs0 _)
 ·-- iterators are no frames
  have hf':=hf b hb;rcases Ai0.mp (I.stkSub b z) with e | e
  ·exact hf'.2.1 e
  ·exact hf'.2.2.1 e
 ·-- the names
  have e2':(pick σ ixs)[j]?=some (some v):=e2;unfold pick at e2';rw[Ag0] at e2';cases q:ixs[j]? with
  | none=>rw[q] at e2';cases e2'
  | some o=>
    rw[q] at e2';cases o with
    | none=>cases e2'
    | some i=>
      have e4:(σ[i]?).join=some v:=Option.some.inj e2';have e5:σ[i]?=some (some v):=by
       cases z:σ[i]? with
       | none=>rw[z] at e4;cases e4
       | some a=>rw[z] at e4;rw[show a=some v from e4]
      obtain⟨hx,hfr⟩:=S.slot j i x e1 q;obtain⟨m,_,hl⟩:=I.loc;have vis:Vis X.env.scope x:=by
       rcases S.free _ (PySem.mem_of_lookup hfr) rfl with z | z
       ·exact .inr (.inl z)
       ·exact .inr (.inr z)
      obtain⟨u,r,l⟩:=hl i x v hx e5 vis;refine⟨u,r,.inr ⟨?_,?_⟩⟩
      ·show Env.kindOf (compEnvC scope (ye5 X.env.cells scope.names []) s.heap.objs.size X.env) x=some .cell\/Env.kindOf (compEnvC scope (ye5 X.env.cells scope.names []) s.heap.objs.size X.env) x=some .free
       rw[kinds x,hfr];show some (yf8 X.env x .free)=_\/some (yf8 X.env x .free)=_;unfold yf8;split
       ·exact .inl rfl
       ·exact .inr rfl
      ·obtain⟨c,ec⟩:=hasF x hfr
       refine⟨c,ec,?_⟩;have ec':=sub x c ec;rcases l with⟨k,_⟩ | ⟨_,c2,e6,z⟩
       ·have k':X.env.scope.names.lookup x=some .local:=k
        rcases S.free _ (PySem.mem_of_lookup hfr) rfl with z | z<;>(rw[show ((x,NameKind.free):Str×NameKind).1=x from rfl,k'] at z;cases z)
       ·rw[ec'] at e6;cases e6
        obtain⟨o,ho,hd⟩:=z;exact⟨o,hk c o ho,hd⟩
 ·obtain⟨v,o,ho,hd⟩:=I.cell x c (sub x c e)
  exact⟨v,o,hk c o ho,hd⟩
 ·show (pick σ ixs).length=N'.length
  unfold pick;rw[Aa0];exact S.len
end
section
variable {prog:Program} {w:World} {A:Around} {R:Result->Shared->Prop} {s:Shared}
theorem yt3 {elt target iter:Expr} {ifs:List Expr} {scope:Scope} {pos:Pos} {it acc:Value} {env:Env} (I:Nat->Shared->Prop)
 (turn:∀n s,I n s->wpAny (model prog w) A (pyNext it) (fun r s₁=>match r with
  | none=>R (.ok .next) s₁
  | some v=>wpAny (model prog w) A (letOwnedTupleGo target it v) (fun _ s₂=>wpAny (model prog w) A (assign target env v) (fun _ s₃=>
   wpAny (model prog w) A (forIn ifs true fun c r=>if r=true then do let ok <-isTrue c env (eval c env);pure (ForInStep.yield ok) else pure (ForInStep.yield r)) (fun ok s₄=>
    if ok=true then wpAny (model prog w) A (eval elt env) (fun x s₅=>
     wpAny (model prog w) A (call (.builtin "list.append") [acc,x]) (fun _ s₆=>∃m,m<n/\I m s₆) (fun _ _=>False) s₅) (fun _ _=>False) s₄
    else ∃m,m<n/\I m s₄) (fun _ _=>False) s₃) (fun _ _=>False) s₂) (fun _ _=>False) s₁) (fun _ _=>False) s)
 (n:Nat) (h:I n s) :
 codeAny (model prog w) A (.compLoop (.ListComp elt [⟨target,iter,ifs,0⟩] scope pos) 0 it acc env) R s:=by
 refine codeAny_loop rfl I (fun n s hI=>?_) n h;show wpAny _ A ((compTurn (.ListComp elt [⟨target,iter,ifs,0⟩] scope pos) 0 it acc env).onRaise (fun x=>do noteFrame x env;theTreesLotGoes x)) _ _ s;refine wpAny_noted ?_;rw[compTurn_list];refine Aa1 (wpAny_standAt (Aa1 (Ah1 (turn n s hI) (fun r s₁ h₁=>?_) fun _ _ h'=>h'.elim)));cases r with
 | none=>exact Ac1 h₁
 | some v=>
   refine Aa1 (Ah1 h₁ (fun _ s₂ h₂=>Aa1 (Ah1 h₂ (fun _ s₃ h₃=>Aa1 (Ah1 h₃ (fun ok s₄ h₄=>?_) fun _ _ h'=>h'.elim)) fun _ _ h'=>h'.elim)) fun _ _ h'=>h'.elim);cases ok with
   | false=>exact Ac1 ⟨rfl,h₄⟩
   | true=>
     exact Aa1 (Aa1 (Ah1 h₄ (fun x s₅ h₅=>Aa1 (Ah1 h₅ (fun _ s₆ h₆=>Ac1 (Ac1 ⟨rfl,h₆⟩)) fun _ _ h'=>h'.elim)) fun _ _ h'=>h'.elim))
end
noncomputable def PTs (X:Cx) (ifs:List Expr) (t:TT):Prop:=
 ∀(A3:List (Addr×Obj)) (s:Shared) (σ:St) (H:Hp) (Q:Bool->Hp->Prop),Inv X A3 σ H s->t σ H Q->
  wpAny (model X.prog X.w) X.A (forIn ifs true fun c r=>if r=true then do let ok <-isTrue c X.env (eval c X.env);pure (ForInStep.yield ok) else pure (ForInStep.yield r)) (TP X A3 σ Q) X.xe s
noncomputable def vg4:TT:=fun _ H Q=>Q true H
theorem wn7 {X:Cx}:PTs X [] vg4:=fun _ _ _ H _ I h=>wpAny_tests_nil ⟨H,I,h⟩
theorem wn6 {X:Cx} {c:Expr} {t:TT} (h:PT X c t):PTs X [c] t:=fun A3 s σ H Q I q=>wpAny_tests_one (h A3 s σ H Q I q)
noncomputable def wm7 (wi:TI) (ixs:List (Option Nat)) (g:TG) (tc:TT) (te:TE):TE:=fun σ H Q=>wi σ H fun J H1=>∀D,H1 D=none->
 ∃W:Nat->Nat->St->Hp->Prop,(∃m,W 0 m (pick σ ixs) (upd H1 D (.lst [])))/\∀i m σ' H',W i m σ' H'->
  (J.stop i H'/\Q (.ref D) H')\/(J.go i H'/\∃N:St->Hp->Prop,(∀σ2 H2,N σ2 H2->∃m',m' < m/\W (i+1) m' σ2 H2)/\∀x H2,J.yld i H' x H2->g x σ' H2 fun σ3 H3=>
   tc σ3 H3 fun b H4=>if b=true then te σ3 H4 fun y H5=>∃ys,H5 D=some (.lst ys)/\ys.length<sizeLine/\N σ3 (upd H5 D (.lst (ys++[y]))) else N σ3 H4)
section
variable {X:Cx} {N':List Str} {ixs:List (Option Nat)} {scope:Scope} {tg iter elt:Expr} {ifs:List Expr} {wi:TI} {g:TG} {tc:TT} {te:TE} {pos:Pos}
theorem yq1 {A3:List (Addr×Obj)} {σ:St} {H2:Hp} {s2:Shared} {it:Addr} {fp:List Addr} {tn:Nat->Heap->Prop} {J:It} {E:Value->Shared->Prop} {RR:Value->Addr->Result->Shared->Prop} {Q:VK}
 (S:zl6 X N' ixs scope) (hc:X.calm=true) (I2:Inv X A3 σ H2 s2) (T:wk1 X.prog X.w X.K tg J fp it tn) (st2:tn 0 s2.heap) (f2:∀b∈fp,xf1 X A3 H2 b)
 (hin:∀cl C s H fp,PG (zi2 X N' scope cl C s H fp) tg g/\PTs (zi2 X N' scope cl C s H fp) ifs tc/\PE (zi2 X N' scope cl C s H fp) elt te)
 (hw:∀D,H2 D=none->∃W:Nat->Nat->St->Hp->Prop,(∃m,W 0 m (pick σ ixs) (upd H2 D (.lst [])))/\∀i m σ' H',W i m σ' H'->
  (J.stop i H'/\Q (.ref D) H')\/(J.go i H'/\∃N:St->Hp->Prop,(∀σ2 H2,N σ2 H2->∃m',m' < m/\W (i+1) m' σ2 H2)/\∀x H2,J.yld i H' x H2->g x σ' H2 fun σ3 H3=>
   tc σ3 H3 fun b H4=>if b=true then te σ3 H4 fun y H5=>∃ys,H5 D=some (.lst ys)/\ys.length<sizeLine/\N σ3 (upd H5 D (.lst (ys++[y]))) else N σ3 H4))
 (hR:∀(D C:Addr) (H':Hp) (s':Shared) (m:Str->Option Value),s'.heap.Ns C m->C≠X.env.locals->H' C=none->X.s₀.heap.objs.size<=C->(∀x c,X.env.cells.lookup x=some c->c≠C)->(∀p∈X.pn++A3,p.1≠C)->C∉X.fs->Inv X A3 σ H' s'->Q (.ref D) H'->RR (.ref D) C (.ok .next) s') :
 wpAny (model X.prog X.w) X.A (newList []) (fun acc s₃=>wpAny (model X.prog X.w) X.A (newFunctionEnv scope X.env.globals (ye5 X.env.cells scope.names []) [] X.env.qual none .none (some X.env)) (fun cenv s₄=>
  codeAny (model X.prog X.w) X.A (.compStart (.ListComp elt [⟨tg,iter,ifs,0⟩] scope pos) 0 (.ref it) acc { cenv with scope:=relabel scope X.env }) (RR acc cenv.locals) s₄) E s₃) E s2:=by
 have fD:H2 s2.heap.objs.size=none:=I2.hok.fresh (Ae0 _);refine wpAny_newObj_type ?_;have I3:Inv X A3 σ (upd H2 s2.heap.objs.size (.lst [])) { s2 with heap:=s2.heap.push { cls:=.type "list",dict:=none,data:=.seq ([]:List Value).toArray } }:=
  I2.lnew (ys:=[]) (its:=[]) (t':=s2.toks) .nil (An0 _)
 generalize hs3:({ s2 with heap:=s2.heap.push { cls:=.type "list",dict:=none,data:=.seq ([]:List Value).toArray } }:Shared)=s3 at I3;have kp3:∀b o,s2.heap.get? b=some o->s3.heap.get? b=some o:=fun b o e=>by rw[<-hs3];exact Ad0 _ e
 have os3:s3.heap.objs.size=s2.heap.objs.size+1:=by rw[<-hs3];exact Bo0 _ _
 have goal:wpAny (model X.prog X.w) X.A (newFunctionEnv scope X.env.globals (ye5 X.env.cells scope.names []) [] X.env.qual none .none (some X.env)) (fun cenv s₄=>
  codeAny (model X.prog X.w) X.A (.compStart (.ListComp elt [⟨tg,iter,ifs,0⟩] scope pos) 0 (.ref it) (.ref s2.heap.objs.size) { cenv with scope:=relabel scope X.env }) (RR (.ref s2.heap.objs.size) cenv.locals) s₄) E s3:=by
  refine wpAny_newFunctionEnv S.nocell (by intro y hy;simp at hy) (fun h1 hns hsb=>?_) S.kind;have kp4:∀b o,s3.heap.get? b=some o->h1.get? b=some o:=fun b o e=>hsb.extBut b o (Ao0 (Heap.lt_size e)) (Ad0 _ e)
  have fpO:∀b∈fp,∃o,s2.heap.get? b=some o/\∀v,o.data≠.cell v:=T.obj 0 s2.heap st2;have f3:∀b∈fp,xf1 X A3 (upd H2 s2.heap.objs.size (.lst [])) b:=fun b hb=>by
   obtain⟨o,e,_⟩:=fpO b hb;exact⟨by rw[zb2 (Ao0 (Heap.lt_size e))];exact(f2 b hb).1,(f2 b hb).2⟩
  have I4:=I3.comp (h':=h1) (t':=s3.toks+([]:List (Str×Value)).length) S f3 (fun b hb=>let ⟨o,e,d⟩:=fpO b hb;⟨o,kp3 b o e,d⟩) kp4 hns;have st4:tn 0 h1:=T.keep 0 _ _ st2 fun b _ o e=>kp4 b o (kp3 b o e)
  show codeAny (model X.prog X.w) X.A (.compStart (.ListComp elt [⟨tg,iter,ifs,0⟩] scope pos) 0 (.ref it) (.ref s2.heap.objs.size) (compEnvC scope (ye5 X.env.cells scope.names []) s3.heap.objs.size X.env)) (RR (.ref s2.heap.objs.size) s3.heap.objs.size) { s3 with heap:=h1,toks:=s3.toks+([]:List (Str×Value)).length };have st4':tn 0 ({ s3 with heap:=h1,toks:=s3.toks+([]:List (Str×Value)).length }:Shared).heap:=st4;generalize ({ s3 with heap:=h1,toks:=s3.toks+([]:List (Str×Value)).length }:Shared)=s4 at I4 st4' ⊢;obtain⟨W,⟨m0,w0⟩,step⟩:=hw s2.heap.objs.size fD;have fpOld:∀b∈fp,b<s3.heap.objs.size:=fun b hb=>by
   obtain⟨o,e,_⟩:=fpO b hb;exact Heap.lt_size (kp3 b o e)
  have stat:∀{H':Hp},(∀b∈fp,H' b=none)->∀b∈fp,xf1 (zi2 X N' scope (ye5 X.env.cells scope.names []) s3.heap.objs.size s3 (upd H2 s2.heap.objs.size (.lst [])) fp) [] H' b:=fun hn b hb=>
   ⟨hn b hb,Ao0 (fpOld b hb),fun z=>I4.ok.exfs b hb z,.inl hb,(I4.ok.exf b hb).2,fun p hp=>absurd (show p∈([]:List (Addr×Obj)) from hp) (by simp)⟩
  have loop:codeAny (model X.prog X.w) X.A (.compLoop (.ListComp elt [⟨tg,iter,ifs,0⟩] scope pos) 0 (.ref it) (.ref s2.heap.objs.size) (compEnvC scope (ye5 X.env.cells scope.names []) s3.heap.objs.size X.env)) (RR (.ref s2.heap.objs.size) s3.heap.objs.size) s4:=by
   obtain⟨hg,ht,he⟩:=hin (ye5 X.env.cells scope.names []) s3.heap.objs.size s3 (upd H2 s2.heap.objs.size (.lst [])) fp;refine yt3 (fun n s'=>∃i σ' H',Inv (zi2 X N' scope (ye5 X.env.cells scope.names []) s3.heap.objs.size s3 (upd H2 s2.heap.objs.size (.lst [])) fp) [] σ' H' s'/\tn i s'.heap/\(∀b∈fp,H' b=none)/\W i n σ' H') ?_ m0 ⟨0,_,_,I4,st4',fun b hb=>(f3 b hb).1,w0⟩;rintro n s5 ⟨i,σ5,H5,I5,st5,fr5,w5⟩;rcases step i n σ5 H5 w5 with⟨stop,q⟩ | ⟨go,N,hN,go2⟩
   ·refine thn (T.done (zi2 X N' scope (ye5 X.env.cells scope.names []) s3.heap.objs.size s3 (upd H2 s2.heap.objs.size (.lst [])) fp) rfl rfl rfl hc i [] s5 σ5 H5 (fun _ _=>False) I5 (stat fr5) st5 stop) fun r s6 hI83=>?_
    obtain⟨hr,I6⟩:=hI83;subst hr;obtain⟨m,hm,_⟩:=I6.loc;refine hR _ _ H5 s6 m hm (Ne.symm (Ao0 I3.lt)) I6.free I3.sz (fun x c e z=>?_) (fun p hp z=>?_) (I3.nofs (Ae0 _)) (I3.call' (ch:=fp) I6.os I6.base I6.hok I6.bare fun b hb=>⟨(f3 b hb).2.2.2.1,(f3 b hb).2.1,(f3 b hb).2.2.2.2.1,(f3 b hb).2.2.2.2.2⟩) q
    ·obtain⟨v,y⟩:=I3.cell x c e
     have:=y.lt;rw[z] at this;exact absurd this (Bs0 _)
    ·have:=Heap.lt_size (I3.pin p hp).1
     rw[z] at this;exact absurd this (Bs0 _)
   ·refine thn (T.item (zi2 X N' scope (ye5 X.env.cells scope.names []) s3.heap.objs.size s3 (upd H2 s2.heap.objs.size (.lst [])) fp) rfl rfl rfl hc i [] s5 σ5 H5 (fun _ _=>False) I5 (stat fr5) st5 go) fun r s6 hI84=>?_
    obtain⟨u,hr,h6⟩:=hI84;subst hr;refine thn h6 fun _ s7 hI85=>?_
    obtain⟨x,H7,I7,r7,y7,st7,fr7⟩:=hI85;have I7':=I7.pinned (stat fr7) (T.obj _ _ st7);refine thn (hg _ s7 σ5 H7 x u _ I7' r7 (go2 x H7 y7)) fun _ s8 hI86=>?_
    obtain⟨σ8,H8,I8,q8⟩:=hI86;refine thn (ht _ s8 σ8 H8 _ I8 q8) fun ok s9 hI87=>?_
    obtain⟨H9,I9,q9⟩:=hI87;have again:∀{sz:Shared} {σz:St} {Hz:Hp},Inv (zi2 X N' scope (ye5 X.env.cells scope.names []) s3.heap.objs.size s3 (upd H2 s2.heap.objs.size (.lst [])) fp) ([]++yw2 fp s7.heap) σz Hz sz->N σz Hz->
     ∃m,m<n/\∃i σ' H',Inv (zi2 X N' scope (ye5 X.env.cells scope.names []) s3.heap.objs.size s3 (upd H2 s2.heap.objs.size (.lst [])) fp) [] σ' H' sz/\tn i sz.heap/\(∀b∈fp,H' b=none)/\W i m σ' H':=fun {sz σz Hz} Iz nz=>by
     obtain⟨m',hm,wz⟩:=hN σz Hz nz;refine⟨m',hm,i+1,σz,Hz,Iz.unpinned,T.keep _ _ _ st7 fun b hb o e=>(Iz.pin (b,o) (Bb0 _ (Bb0 _ (zx4 hb e)))).1,fun b hb=>?_,wz⟩;obtain⟨o,e,d⟩:=T.obj _ _ st7 b hb;exact(Iz.pin (b,o) (Bb0 _ (Bb0 _ (zx4 hb e)))).2.1
    cases ok with
    | false=>
      rw[if_neg (by decide)] at q9 ⊢;exact again I9 q9
    | true=>
      rw[if_pos rfl] at q9 ⊢;refine thn (he _ s9 σ8 H9 _ I9 q9) fun v s10 hI88=>?_
      obtain⟨y,H10,I10,r10,ys,hD,hz,q10⟩:=hI88;refine thn (zi8 _ s10 σ8 H10 (.ref s2.heap.objs.size) [y] (.ref s2.heap.objs.size) [v] (fun _ H=>N σ8 H) I10 rfl (.cons r10 .nil) ⟨_,ys,y,rfl,rfl,hD,hz,q10⟩) fun _ s11 hI89=>?_
      obtain⟨_,H11,I11,_,q11⟩:=hI89;exact again I11 q11
  refine codeAny_compStart_list loop (T.self _ 0 _ _ _ st4' loop)
 exact goal
theorem wo7 (S:zl6 X N' ixs scope) (hc:X.calm=true) (hi:PI X tg iter wi)
 (hin:∀cl C s H fp,PG (zi2 X N' scope cl C s H fp) tg g/\PTs (zi2 X N' scope cl C s H fp) ifs tc/\PE (zi2 X N' scope cl C s H fp) elt te)
 (hs:∀x,foldedSetIterable iter X.env x=pure x:=by intro _;rfl) :
 PE X (.ListComp elt [⟨tg,iter,ifs,0⟩] scope pos) (wm7 wi ixs g tc te):=by
 intro A3 s σ H Q I h;rw[eval_ListComp];refine wpAny_comprehension_free (use:=none) rfl hs (S.clos I) S.kind S.loc (thn (hi A3 s σ H _ I h) fun v s1 h1=>thn h1 fun itv s2 h2=>?_);obtain⟨it,fp,tn,J,H2,rfl,I2,T,st2,f2,hw⟩:=h2;refine yq1 (RR:=fun acc C=>compPost (model X.prog X.w) X.A X.xe none (EP X A3 σ Q) acc C) S hc I2 T st2 f2 hin hw ?_;intro D C H' s' m hn hL hC hsz hcl hpn hfs I' q;refine⟨m,hn,fun h' hs'=>⟨.ref D,H',?_,rfl,q⟩⟩;exact I'.turned (t':=s'.toks) (fun b o hb e=>hs'.extBut b o hb e) hC hL (.inr hsz) hcl hpn
end
section
variable {X:Cx} {N':List Str} {ixs:List (Option Nat)} {scope:Scope} {tg iter elt:Expr} {ifs:List Expr} {wi:TI} {g:TG} {tc:TT} {te:TE} {pos spos:Pos}
set_option tactic.hygienic true in
theorem wn9 {i:Nat} {y:Str} {py:Pos} (S:zl6 X N' ixs scope) (hc:X.calm=true) (hN:X.N.Nodup) (hi:X.N[i]?=some y) (hy:X.env.scope.names.lookup y=some .local) (hit:PI X tg iter wi)
 (hin:∀cl C s H fp,PG (zi2 X N' scope cl C s H fp) tg g/\PTs (zi2 X N' scope cl C s H fp) ifs tc/\PE (zi2 X N' scope cl C s H fp) elt te)
 (hsw:swapsWith (.ListComp elt [⟨tg,iter,ifs,0⟩] scope pos) (some (.Name y py)) spos.line X.env=pure true)
 (hs:∀x,foldedSetIterable iter X.env x=pure x:=by intro _;rfl) :
 PS X (.Assign [.Name y py] (.ListComp elt [⟨tg,iter,ifs,0⟩] scope pos) spos) (wt2 (wm7 wi ixs g tc te) (xo2 i)):=by
 intro A3 s σ H D I h;rw[exec_Assign_Name_used _ _ _ _ hsw];refine Aa1 (wpAny_standAt (Aa1 ?_));show wpAny _ X.A (do let _ <-comprehension (.ListComp elt [⟨tg,iter,ifs,0⟩] scope pos) scope X.env _ (newList []) false (eval iter X.env) (some (assign (.Name y py) X.env))) _ _ s;refine Aa1 (Ah1 (wpAny_comprehension_free (use:=some (assign (.Name y py) X.env)) (Q:=fun _ s'=>SP X A3 D .next s') rfl hs (S.clos I) S.kind S.loc (thn (hit A3 s σ H _ I h) fun v s1 h1=>thn h1 fun itv s2 h2=>?_)) (fun _ s' hq=>Ac1 (Ac1 hq)) fun _ _ e=>e);obtain⟨it,fp,tn,J,H2,rfl,I2,T,st2,f2,hw⟩:=h2;refine yq1 (Q:=fun x H1=>xo2 i x σ H1 D.nx) (RR:=fun acc C=>compPost (model X.prog X.w) X.A X.xe (some (assign (.Name y py) X.env)) (fun _ s'=>SP X A3 D .next s') acc C) S hc I2 T st2 f2 hin hw ?_;intro D' C H' s' m hn hL hC hsz hcl hpn hfs I' q;show wpAny _ X.A (assign (.Name y py) X.env (.ref D')) _ _ _;refine wpAny_assign_Name (yu9 (v:=V.ref D') I' hN hi (.inl hy) rfl (fun s3 I3 hI90=>?_) (.inr hy));obtain⟨a,hsb,ha⟩:=hI90;have hCa:C≠a:=by
  rcases ha with rfl | ha
  ·exact hL
  ·exact fun z=>hcl y a ha z.symm
 refine⟨m,hn.sameBut hsb hCa,fun h' hs'=>⟨_,H',?_,q⟩⟩;exact I3.turned (t':=s3.toks) (fun b o hb e=>hs'.extBut b o hb e) hC hL (.inr hsz) hcl hpn
end
inductive D where
 | non | bl (b:Bool) | int (i:Int) | str (x:Str) | tup (l:List D) | lst (l:List D) | dct (ks vs:List D) | fl (l:List D)
noncomputable def xp7:Key->D
 | .inl i=>.int i
 | .inr x=>.str x
noncomputable def zg2 (k:List Key):D:=.tup (k.map xp7)
mutual
noncomputable def Is (K:PySem.W.Frag) (A:Addr->Prop) (H:Hp):D->V->Prop
 | .non,v=>v=.non
 | .bl b,v=>v=.bl b
 | .int i,v=>v=.int i
 | .str x,v=>v=.str x
 | .tup l,v=>∃a vs,v=.ref a/\H a=some (.tup vs)/\IsL K A H l vs
 | .lst l,v=>∃a vs,v=.ref a/\A a/\H a=some (.lst vs)/\IsL K A H l vs
 | .dct ks l,v=>∃a vs,v=.ref a/\A a/\IsL K A H l vs/\
  ((∃kk:List Key,ks=kk.map xp7/\kk.length=vs.length/\H a=some (.dK (kk.zip vs)))\/(∃kk:List (List Key),ks=D.non::kk.map zg2/\kk.length=vs.length/\H a=some (.dT (kk.zip vs))))
 | .fl l,v=>∃a o vs,v=.ref a/\H a=some (.frz o (.lst vs))/\IsL K A H l vs
noncomputable def IsL (K:PySem.W.Frag) (A:Addr->Prop) (H:Hp):List D->List V->Prop
 | [],vs=>vs=[]
 | d::l,vs=>∃v r,vs=v::r/\Is K A H d v/\IsL K A H l r
end
noncomputable def vr1 (o:HO):Prop:=(∃u,o=.tup u)\/∃ob u,o=.frz ob u
structure zj8 (A A':Addr->Prop) (H H':Hp):Prop where
 sty:∀b o,H b=some o->vr1 o->H' b=some o
 nod:∀b o,A b->H b=some o->A' b/\H' b=some o
section
variable {K:PySem.W.Frag} {A A':Addr->Prop} {H H':Hp}
theorem zj8.tup (k:zj8 A A' H H') (b:Addr) (u:List V) (h:H b=some (.tup u)):H' b=some (.tup u):=k.sty b _ h (.inl ⟨_,rfl⟩)
theorem zj8.frz (k:zj8 A A' H H') (b:Addr) (o:Obj) (u:HO) (h:H b=some (.frz o u)):H' b=some (.frz o u):=k.sty b _ h (.inr ⟨_,_,rfl⟩)
mutual
theorem Is.mono (k:zj8 A A' H H'):∀{d:D} {v:V},Is K A H d v->Is K A' H' d v
 | .non,_,h=>h
 | .bl _,_,h=>h
 | .int _,_,h=>h
 | .str _,_,h=>h
 | .tup l,v,h=>by
   unfold Is at h ⊢;obtain⟨a,vs,e,q,i⟩:=h;exact⟨a,vs,e,k.tup a vs q,IsL.mono k i⟩
 | .lst l,v,h=>by
   unfold Is at h ⊢;obtain⟨a,vs,e,n,q,i⟩:=h;exact⟨a,vs,e,(k.nod a _ n q).1,(k.nod a _ n q).2,IsL.mono k i⟩
 | .dct ks l,v,h=>by
   unfold Is at h ⊢;obtain⟨a,vs,e,n,i,q⟩:=h;refine⟨a,vs,e,?_,IsL.mono k i,?_⟩
   ·rcases q with⟨_,_,_,q⟩ | ⟨_,_,_,q⟩<;>exact(k.nod a _ n q).1
   ·rcases q with⟨kk,e1,e2,q⟩ | ⟨kk,e1,e2,q⟩
    ·exact .inl ⟨kk,e1,e2,(k.nod a _ n q).2⟩
    ·exact .inr ⟨kk,e1,e2,(k.nod a _ n q).2⟩
 | .fl l,v,h=>by
   unfold Is at h ⊢;obtain⟨a,o,vs,e,q,i⟩:=h;exact⟨a,o,vs,e,k.frz a o _ q,IsL.mono k i⟩
theorem IsL.mono (k:zj8 A A' H H'):∀{l:List D} {vs:List V},IsL K A H l vs->IsL K A' H' l vs
 | [],_,h=>h
 | d::l,vs,h=>by
   unfold IsL at h ⊢;obtain⟨v,r,e,i,j⟩:=h;exact⟨v,r,e,Is.mono k i,IsL.mono k j⟩
end
theorem IsL.nil {vs:List V}:IsL K A H [] vs↔vs=[]:=by unfold IsL;rfl
theorem IsL.cons {d:D} {l:List D} {vs:List V}:IsL K A H (d::l) vs↔∃v r,vs=v::r/\Is K A H d v/\IsL K A H l r:=by conv=>lhs;unfold IsL
theorem IsL.length:∀{l:List D} {vs:List V},IsL K A H l vs->l.length=vs.length
 | [],vs,h=>by rw[IsL.nil.mp h];rfl
 | d::l,vs,h=>by
   obtain⟨v,r,e,_,j⟩:=IsL.cons.mp h;rw[e,Bm0,Bm0,IsL.length j]
theorem IsL.get:∀{l:List D} {vs:List V} {i:Nat} {d:D},IsL K A H l vs->l[i]?=some d->∃v,vs[i]?=some v/\Is K A H d v
 | [],_,_,_,_,e=>by simp at e
 | x::l,vs,0,d,h,e=>by
   obtain⟨v,r,e',i,_⟩:=IsL.cons.mp h;simp at e;subst e e';exact⟨v,rfl,i⟩
 | x::l,vs,i+1,d,h,e=>by
   obtain⟨v,r,e',_,j⟩:=IsL.cons.mp h;subst e';simpa using IsL.get (i:=i) j (by simpa using e)
theorem IsL.append:∀{l m:List D} {vs us:List V},IsL K A H l vs->IsL K A H m us->IsL K A H (l++m) (vs++us)
 | [],m,vs,us,h,g=>by rw[IsL.nil.mp h];exact g
 | d::l,m,vs,us,h,g=>by
   obtain⟨v,r,e,i,j⟩:=IsL.cons.mp h;subst e;exact IsL.cons.mpr ⟨v,r++us,rfl,i,IsL.append j g⟩
theorem IsL.one {d:D} {v:V} (h:Is K A H d v):IsL K A H [d] [v]:=IsL.cons.mpr ⟨v,[],rfl,h,IsL.nil.mpr rfl⟩
theorem IsL.take:∀{l:List D} {vs:List V} (n:Nat),IsL K A H l vs->IsL K A H (l.take n) (vs.take n)
 | _,_,0,_=>by simp only[List.take_zero];exact IsL.nil.mpr rfl
 | [],vs,n+1,h=>by rw[IsL.nil.mp h];simp only[List.take_nil];exact IsL.nil.mpr rfl
 | d::l,vs,n+1,h=>by
   obtain⟨v,r,e,i,j⟩:=IsL.cons.mp h;subst e;exact IsL.cons.mpr ⟨v,r.take n,rfl,i,IsL.take n j⟩
theorem IsL.drop:∀{l:List D} {vs:List V} (n:Nat),IsL K A H l vs->IsL K A H (l.drop n) (vs.drop n)
 | _,_,0,h=>by simpa only[List.drop_zero] using h
 | [],vs,n+1,h=>by rw[IsL.nil.mp h];simp only[List.drop_nil];exact IsL.nil.mpr rfl
 | d::l,vs,n+1,h=>by
   obtain⟨v,r,e,i,j⟩:=IsL.cons.mp h;subst e;exact IsL.drop n j
theorem IsL.reverse:∀{l:List D} {vs:List V},IsL K A H l vs->IsL K A H l.reverse vs.reverse
 | [],vs,h=>by rw[IsL.nil.mp h];exact IsL.nil.mpr rfl
 | d::l,vs,h=>by
   obtain⟨v,r,e,i,j⟩:=IsL.cons.mp h;subst e;rw[List.reverse_cons,List.reverse_cons];exact IsL.append (IsL.reverse j) (IsL.one i)
theorem IsL.set:∀{l:List D} {vs:List V} (n:Nat) {d:D} {v:V},IsL K A H l vs->Is K A H d v->IsL K A H (l.set n d) (vs.set n v)
 | [],vs,n,d,v,h,_=>by rw[IsL.nil.mp h];simp only[List.set_nil];exact IsL.nil.mpr rfl
 | x::l,vs,0,d,v,h,g=>by
   obtain⟨w,r,e,i,j⟩:=IsL.cons.mp h;subst e;exact IsL.cons.mpr ⟨v,r,rfl,g,j⟩
 | x::l,vs,n+1,d,v,h,g=>by
   obtain⟨w,r,e,i,j⟩:=IsL.cons.mp h;subst e;exact IsL.cons.mpr ⟨w,r.set n v,rfl,i,IsL.set n j g⟩
end
mutual
noncomputable def D.imm:D->Bool
 | .tup l=>D.immL l
 | .lst _=>false
 | .dct _ _=>false
 | .fl l=>D.immL l
 | _=>true
noncomputable def D.immL:List D->Bool
 | []=>true
 | d::l=>D.imm d&&D.immL l
end
section
variable {K:PySem.W.Frag} {A A':Addr->Prop} {H:Hp}
mutual
theorem Is.ofImm:∀{d:D} {v:V},d.imm=true->Is K A H d v->Is K A' H d v
 | .non,_,_,h=>h
 | .bl _,_,_,h=>h
 | .int _,_,_,h=>h
 | .str _,_,_,h=>h
 | .tup l,v,m,h=>by
   unfold Is at h ⊢;obtain⟨a,vs,e,q,i⟩:=h;exact⟨a,vs,e,q,IsL.ofImm (by simpa [D.imm] using m) i⟩
 | .lst l,v,m,_=>by simp[D.imm] at m
 | .dct _ l,v,m,_=>by simp[D.imm] at m
 | .fl l,v,m,h=>by
   unfold Is at h ⊢;obtain⟨a,o,vs,e,q,i⟩:=h;exact⟨a,o,vs,e,q,IsL.ofImm (by simpa [D.imm] using m) i⟩
theorem IsL.ofImm:∀{l:List D} {vs:List V},D.immL l=true->IsL K A H l vs->IsL K A' H l vs
 | [],_,_,h=>h
 | d::l,vs,m,h=>by
   have m':d.imm=true/\D.immL l=true:=by simpa [D.immL] using m
   unfold IsL at h ⊢;obtain⟨v,r,e,i,j⟩:=h;exact⟨v,r,e,Is.ofImm m'.1 i,IsL.ofImm m'.2 j⟩
end
theorem Is.tup {a:Addr} {vs:List V} {l:List D} (h:H a=some (.tup vs)) (i:IsL K A H l vs):Is K A H (.tup l) (.ref a):=by
 unfold Is;exact⟨a,vs,rfl,h,i⟩
theorem Is.lst {a:Addr} {vs:List V} {l:List D} (n:A a) (h:H a=some (.lst vs)) (i:IsL K A H l vs):Is K A H (.lst l) (.ref a):=by
 unfold Is;exact⟨a,vs,rfl,n,h,i⟩
theorem Is.int_iff {i:Int} {v:V}:Is K A H (.int i) v↔v=.int i:=by unfold Is;rfl
theorem Is.bl_iff {i:Bool} {v:V}:Is K A H (.bl i) v↔v=.bl i:=by unfold Is;rfl
theorem Is.str_iff {i:Str} {v:V}:Is K A H (.str i) v↔v=.str i:=by unfold Is;rfl
theorem Is.non_iff {v:V}:Is K A H .non v↔v=.non:=by unfold Is;rfl
theorem Is.tup_iff {l:List D} {v:V}:Is K A H (.tup l) v↔∃a vs,v=.ref a/\H a=some (.tup vs)/\IsL K A H l vs:=by conv=>lhs;unfold Is
theorem Is.tup_sq {l:List D} {v:V} (h:Is K A H (.tup l) v):∃a vs,v=.ref a/\SqT K H a vs/\IsL K A H l vs:=let ⟨a,vs,e,s,i⟩:=Is.tup_iff.mp h;⟨a,vs,e,.of s,i⟩
theorem Is.lst_iff {l:List D} {v:V}:Is K A H (.lst l) v↔∃a vs,v=.ref a/\A a/\H a=some (.lst vs)/\IsL K A H l vs:=by conv=>lhs;unfold Is
theorem Is.fl_iff {l:List D} {v:V}:Is K A H (.fl l) v↔∃a o vs,v=.ref a/\H a=some (.frz o (.lst vs))/\IsL K A H l vs:=by conv=>lhs;unfold Is
theorem Is.dct_iff {ks l:List D} {v:V}:Is K A H (.dct ks l) v↔∃a vs,v=.ref a/\A a/\IsL K A H l vs/\
 ((∃kk:List Key,ks=kk.map xp7/\kk.length=vs.length/\H a=some (.dK (kk.zip vs)))\/(∃kk:List (List Key),ks=D.non::kk.map zg2/\kk.length=vs.length/\H a=some (.dT (kk.zip vs)))):=by conv=>lhs;unfold Is
end
structure Exn where
 cls:Str
 args:List D
inductive Res (S α:Type) where
 | ok (a:α) (st:S) | exc (x:Exn) (st:S) | bad
variable {S α β γ:Type}
noncomputable def Res.bind (r:Res S α) (k:α->S->Res S β):Res S β:=match r with
 | .ok a st=>k a st
 | .exc x st=>.exc x st
 | .bad=>.bad
noncomputable def wpR (r:Res S α) (Q:α->S->Prop) (E:Exn->S->Prop):Prop:=match r with
 | .ok a st=>Q a st
 | .exc x st=>E x st
 | .bad=>False
theorem za5 {r:Res S α} {k:α->S->Res S β} {Q:β->S->Prop} {E:Exn->S->Prop}:wpR (r.bind k) Q E↔wpR r (fun a st=>wpR (k a st) Q E) E:=by
 cases r<;>rfl
theorem za7 {r:Res S α} {Q Q':α->S->Prop} {E E':Exn->S->Prop} (h:wpR r Q E) (hQ:∀a st,Q a st->Q' a st) (hE:∀x st,E x st->E' x st):wpR r Q' E':=by
 cases r with
 | ok a st=>exact hQ a st h
 | exc x st=>exact hE x st h
 | bad=>exact h.elim
noncomputable def zj2 (o:Option α) (st:S):Res S α:=match o with
 | some a=>.ok a st
 | none=>.bad
theorem zb7 {o:Option α} {st:S} {Q:α->S->Prop} {E:Exn->S->Prop}:wpR (zj2 o st) Q E↔∃a,o=some a/\Q a st:=by
 cases o with
 | none=>constructor
         ·intro h;exact h.elim
         ·rintro ⟨a,e,_⟩;cases e
 | some a=>constructor
           ·intro h;exact⟨a,rfl,h⟩
           ·rintro ⟨b,e,q⟩;cases e;exact q
@[simp] theorem Res.bind_ok (a:α) (st:S) (k:α->S->Res S β):(Res.ok a st).bind k=k a st:=rfl
structure Wd (S:Type) where
 ok:S->Hp->Prop
 mv:Addr->Prop
 h:V
 stay:∀st H H',ok st H->(∀b o,mv b->H b=some o->H' b=some o)->ok st H'
 live:∀st H b,ok st H->mv b->∃o,H b=some o/\(∀u,o≠.tup u)/\∀ob u,o≠.frz ob u
noncomputable def W0:Wd Unit:=⟨fun _ _=>True,fun _=>False,.non,fun _ _ _ h _=>h,fun _ _ _ _ h=>h.elim⟩
inductive Sl where
 | no | bor (d:D) | own (d:D) | hnd
noncomputable abbrev Rho:=List Sl
structure Dx {S:Type} (W:Wd S) where
 K:PySem.W.Frag
 H0:Hp
 Ex:Exn->S->Hp->Prop
 /-- addresses that no tree holds (a comprehension's list while it grows) -/
 av:Addr->Prop
noncomputable def Ext {S:Type} (W:Wd S) (H H':Hp):Prop:=∀b o,H b=some o->¬W.mv b->H' b=some o
theorem Ext.refl {S:Type} {W:Wd S} {H:Hp}:Ext W H H:=fun _ _ h _=>h
theorem Ext.trans {S:Type} {W:Wd S} {H H1 H2:Hp} (a:Ext W H H1) (b:Ext W H1 H2):Ext W H H2:=fun c o h n=>b c o (a c o h n) n
theorem Ext.laid {S:Type} {W:Wd S} {H:Hp} {p:Addr} {o:HO} (h:H p=none):Ext W H (upd H p o):=fun b u e _=>by rw[zb2 (zb6 e h)];exact e
theorem yt9.ext {S:Type} {W:Wd S} {H H':Hp} (h:yt9 H H'):Ext W H H':=fun b o e _=>h b o e
noncomputable def Ow (σ:St) (ρ:Rho) (b:Addr):Prop:=∃(i:Nat) (d:D),ρ[i]?=some (Sl.own d)/\σ[i]?=some (some (V.ref b))
noncomputable def Av {S:Type} {W:Wd S} (c:Dx W) (σ:St) (ρ:Rho) (b:Addr):Prop:=¬W.mv b/\¬Ow σ ρ b/\¬c.av b
noncomputable def Top (K:PySem.W.Frag) (A:Addr->Prop) (H:Hp) (d:D) (a:Addr):Prop:=match d with
 | .lst l=>∃vs,H a=some (.lst vs)/\IsL K A H l vs
 | .dct ks l=>∃vs,IsL K A H l vs/\((∃kk:List Key,ks=kk.map xp7/\kk.length=vs.length/\H a=some (.dK (kk.zip vs)))\/(∃kk:List (List Key),ks=D.non::kk.map zg2/\kk.length=vs.length/\H a=some (.dT (kk.zip vs))))
 | _=>False
noncomputable def wk2 {S:Type} {W:Wd S} (c:Dx W) (H:Hp) (A:Addr->Prop) (ov:Option V):Sl->Prop
 | .no=>True
 | .bor d=>∃v,ov=some v/\Is c.K A H d v
 | .own d=>∃a,ov=some (.ref a)/\(¬W.mv a/\¬c.av a)/\c.H0 a=none/\Top c.K A H d a
 | .hnd=>ov=some W.h
structure Rep {S:Type} {W:Wd S} (c:Dx W) (H:Hp) (σ:St) (ρ:Rho):Prop where
 len:σ.length=ρ.length
 frame:∀b o,c.H0 b=some o->¬W.mv b->H b=some o
 slot:∀(i:Nat) (s:Sl),ρ[i]?=some s->wk2 c H (Av c σ ρ) (σ[i]?).join s
 avl:∀b,c.av b->¬W.mv b/\c.H0 b=none/\∃o,H b=some o/\(∀u,o≠.tup u)/\∀ob u,o≠.frz ob u
 uniq:∀(i j:Nat) (a:Addr) (d e:D),ρ[i]?=some (.own d)->ρ[j]?=some (.own e)->σ[i]?=some (some (.ref a))->σ[j]?=some (some (.ref a))->i=j
section
variable {S:Type} {W:Wd S} {c:Dx W} {H H':Hp} {σ:St} {ρ:Rho} {A A':Addr->Prop}
theorem Top.isTop {d:D} {a:Addr} (n:A a) (h:Top c.K A H d a):Is c.K A H d (.ref a):=by
 cases d with
 | lst l=>obtain⟨vs,e,i⟩:=h;exact Is.lst n e i
 | dct ks l=>obtain⟨vs,i,q⟩:=h;exact Is.dct_iff.mpr ⟨a,vs,rfl,n,i,q⟩
 | _=>exact h.elim
theorem Top.there {d:D} {a:Addr} (h:Top c.K A H d a):∃o,H a=some o/\(∀u,o≠.tup u)/\∀ob u,o≠.frz ob u:=by
 cases d with
 | lst l=>obtain⟨vs,e,i⟩:=h;exact⟨_,e,(fun u z=>by cases z),(fun ob u z=>by cases z)⟩
 | dct ks l=>
   obtain⟨vs,i,⟨_,_,_,q⟩ | ⟨_,_,_,q⟩⟩:=h
   ·exact⟨_,q,(fun u z=>by cases z),(fun ob u z=>by cases z)⟩
   ·exact⟨_,q,(fun u z=>by cases z),(fun ob u z=>by cases z)⟩
 | _=>exact h.elim
theorem Top.mono {d:D} {a:Addr} (k:zj8 A A' H H') (e:∀o,H a=some o->H' a=some o) (h:Top c.K A H d a):Top c.K A' H' d a:=by
 cases d with
 | lst l=>obtain⟨vs,q,i⟩:=h;exact⟨vs,e _ q,i.mono k⟩
 | dct ks l=>
   obtain⟨vs,i,⟨kk,e1,e2,q⟩ | ⟨kk,e1,e2,q⟩⟩:=h
   ·exact⟨vs,i.mono k,.inl ⟨kk,e1,e2,e _ q⟩⟩
   ·exact⟨vs,i.mono k,.inr ⟨kk,e1,e2,e _ q⟩⟩
 | _=>exact h.elim
theorem Rep.owOk (R:Rep c H σ ρ) {b:Addr} (h:Ow σ ρ b):¬W.mv b/\c.H0 b=none/\∃o,H b=some o/\(∀u,o≠.tup u)/\∀ob u,o≠.frz ob u:=by
 obtain⟨i,d,e1,e2⟩:=h;obtain⟨a,e,n,f,t⟩:=R.slot i _ e1;rw[e2] at e;have e:some (V.ref b)=some (V.ref a):=e;cases e;exact⟨n.1,f,t.there⟩
theorem zl3 (ht:∀b o,H b=some o->(∃u,o=.tup u)\/(∃ob u,o=.frz ob u)->H' b=some o) (hn:∀b o,A b->H b=some o->A' b/\H' b=some o):zj8 A A' H H':=
 ⟨ht,hn⟩
theorem Ext.keepT {st:S} (e:Ext W H H') (ok:W.ok st H) (hA:∀b,A b->¬W.mv b/\A' b):zj8 A A' H H':=
 zl3 (fun b o h t=>e b o h fun m=>by
  obtain⟨o',h',n1,n2⟩:=W.live st H b ok m;rw[h] at h';cases h';rcases t with⟨u,z⟩ | ⟨ob,u,z⟩
  ·exact n1 u z
  ·exact n2 ob u z) fun b o a h=>⟨(hA b a).2,e b o h (hA b a).1⟩
theorem Rep.ext {st:S} (R:Rep c H σ ρ) (ok:W.ok st H) (e:Ext W H H'):Rep c H' σ ρ where
 len:=R.len
 frame:=fun b o h n=>e b o (R.frame b o h n) n
 avl:=fun b h=>let ⟨n,z,o,h',q⟩:=R.avl b h;⟨n,z,o,e b o h' n,q⟩
 uniq:=R.uniq
 slot:=fun i s h=>by
  have k:zj8 (Av c σ ρ) (Av c σ ρ) H H':=e.keepT ok fun b a=>⟨a.1,a⟩
  have q:=R.slot i s h;cases s with
  | no=>trivial
  | bor d=>obtain⟨v,e1,i1⟩:=q;exact⟨v,e1,i1.mono k⟩
  | own d=>obtain⟨a,e1,n,f,t⟩:=q;exact⟨a,e1,n,f,t.mono k fun o z=>e a o z n.1⟩
  | hnd=>exact q
end
noncomputable def D.mut:D->Bool
 | .lst _=>true
 | .dct _ _=>true
 | _=>false
inductive Gr where
 | R | B | F
noncomputable def Val {S:Type} {W:Wd S} (c:Dx W) (g:Gr) (σ:St) (ρ:Rho) (H H':Hp) (d:D) (v:V):Prop:=match g with
 | .R=>Is c.K (fun b=>¬W.mv b) H' d v
 | .B=>Is c.K (Av c σ ρ) H' d v
 | .F=>Is c.K (Av c σ ρ) H' d v/\∀a,v=.ref a->d.mut=true->H a=none
section
variable {S:Type} {W:Wd S} {c:Dx W} {H H1 H':Hp} {σ:St} {ρ:Rho} {d:D} {v:V} {g:Gr}
theorem Val.toR (h:Val c g σ ρ H H' d v):Val c .R σ ρ H H' d v:=by
 have k:zj8 (Av c σ ρ) (fun b=>¬W.mv b) H' H':=⟨fun _ _ z _=>z,fun b o a z=>⟨a.1,z⟩⟩;cases g with
 | R=>exact h
 | B=>exact Is.mono k h
 | F=>exact Is.mono k h.1
theorem Val.toB (h:Val c .F σ ρ H H' d v):Val c .B σ ρ H H' d v:=h.1
end
noncomputable abbrev Fn (S:Type):=Rho->S->Res S D
noncomputable def tD {S:Type} {W:Wd S} (c:Dx W) (g:Gr) (f:Fn S):TE:=fun σ H Q=>∃ρ st,Rep c H σ ρ/\W.ok st H/\
 wpR (f ρ st) (fun d st'=>∀v H',Ext W H H'->W.ok st' H'->Val c g σ ρ H H' d v->Q v H') fun x st'=>∀H',Ext W H H'->W.ok st' H'->c.Ex x st' H'
noncomputable def DE (X:Cx) {S:Type} {W:Wd S} (c:Dx W) (g:Gr) (e:Expr) (f:Fn S):Prop:=PE X e (tD c g f)
theorem PE.imp {X:Cx} {e:Expr} {t t':TE} (h:PE X e t) (i:∀σ H Q,t' σ H Q->t σ H Q):PE X e t':=fun A3 s σ H Q I q=>h A3 s σ H Q I (i σ H Q q)
theorem PT.imp {X:Cx} {e:Expr} {t t':TT} (h:PT X e t) (i:∀σ H Q,t' σ H Q->t σ H Q):PT X e t':=fun A3 s σ H Q I q=>h A3 s σ H Q I (i σ H Q q)
theorem PS.imp {X:Cx} {e:Stmt} {t t':TS} (h:PS X e t) (i:∀D σ H,t' D σ H->t D σ H):PS X e t':=fun A3 s σ H D I q=>h A3 s σ H D I (i D σ H q)
theorem PSs.imp {X:Cx} {e:List Stmt} {t t':TS} (h:PSs X e t) (i:∀D σ H,t' D σ H->t D σ H):PSs X e t':=fun A3 s σ H D I q=>h A3 s σ H D I (i D σ H q)
section
variable {X:Cx} {S:Type} {W:Wd S} {c:Dx W} {g:Gr} {e:Expr} {f:Fn S}
end
end L2
namespace L2
noncomputable def Go {S:Type} {W:Wd S} (c:Dx W) (g:Gr) (σ:St) (f:Fn S) (H:Hp) (Q:VK) (ρ:Rho) (st:S):Prop:=
 wpR (f ρ st) (fun d st'=>∀v H',Ext W H H'->W.ok st' H'->Val c g σ ρ H H' d v->Q v H') fun x st'=>∀H',Ext W H H'->W.ok st' H'->c.Ex x st' H'
section
variable {S:Type} {W:Wd S} {c:Dx W} {H H1 H':Hp} {σ:St} {ρ:Rho} {d:D} {v:V} {g g':Gr} {st st1:S}
theorem Ext.none (e:Ext W H H1) (ok:W.ok st H1) {a:Addr} (h:H1 a=none):H a=none:=by
 cases q:H a with
 | none=>rfl
 | some o=>
   have n:¬W.mv a:=fun m=>by obtain⟨o',h',_⟩:=W.live st H1 a ok m;rw[h] at h';cases h'
   rw[e a o q n] at h;cases h
theorem Val.back (e:Ext W H H1) (ok:W.ok st H1) (h:Val c g σ ρ H1 H' d v):Val c g σ ρ H H' d v:=by
 cases g with
 | R=>exact h
 | B=>exact h
 | F=>exact⟨h.1,fun a ea m=>e.none ok (h.2 a ea m)⟩
theorem Val.ext (e:Ext W H' H1) (ok:W.ok st H') (h:Val c .R σ ρ H H' d v):Val c .R σ ρ H H1 d v:=Is.mono (e.keepT ok fun b n=>⟨n,n⟩) h
theorem Is.ext {A:Addr->Prop} (e:Ext W H' H1) (ok:W.ok st H') (hA:∀b,A b->¬W.mv b) (h:Is c.K A H' d v):Is c.K A H1 d v:=Is.mono (e.keepT ok fun b n=>⟨hA b n,n⟩) h
theorem IsL.ext {A:Addr->Prop} {l:List D} {vs:List V} (e:Ext W H' H1) (ok:W.ok st H') (hA:∀b,A b->¬W.mv b) (h:IsL c.K A H' l vs):IsL c.K A H1 l vs:=IsL.mono (e.keepT ok fun b n=>⟨hA b n,n⟩) h
theorem Go.from {f:Fn S} {Q:VK} (e:Ext W H H1) (ok:W.ok st1 H1) (h:Go c g σ f H Q ρ st):Go c g σ f H1 Q ρ st:=
 za7 h (fun d st' q v H' a b z=>q v H' (e.trans a) b (z.back e ok)) fun x st' q H' a b=>q H' (e.trans a) b
theorem Go.bind {f:Fn S} {k:D->Fn S} {Q:VK} (R:Rep c H σ ρ) (ok:W.ok st H) (h:Go c g σ (fun ρ st=>(f ρ st).bind fun d st1=>k d ρ st1) H Q ρ st) :
 tD c g' f σ H fun v H1=>∃d st1,Rep c H1 σ ρ/\W.ok st1 H1/\Ext W H H1/\Val c g' σ ρ H H1 d v/\Go c g σ (k d) H1 Q ρ st1:=by
 refine⟨ρ,st,R,ok,?_⟩;have h':=za5.mp h;refine za7 h' (fun d st1 q v H1 e ok1 z=>?_) fun x st1 q=>q
 exact⟨d,st1,R.ext ok e,ok1,e,z,za7 q (fun d' st' q v' H' a b y=>q v' H' (e.trans a) b (y.back e ok1)) fun x st' q H' a b=>q H' (e.trans a) b⟩
theorem Go.done {Q:VK} {o:Option D} (h:Go c g σ (fun _ st=>zj2 o st) H Q ρ st) (ok:W.ok st H):∃d,o=some d/\∀v H',Ext W H H'->W.ok st H'->Val c g σ ρ H H' d v->Q v H':=by
 obtain⟨d,e,q⟩:=zb7.mp h;exact⟨d,e,q⟩
noncomputable def New {S:Type} {W:Wd S} (c:Dx W) (H H':Hp) (d:D) (v:V):Prop:=Is c.K (fun b=>¬W.mv b/\H b=none) H' d v
theorem New.valF (R:Rep c H σ ρ) (h:New c H H' d v):Val c .F σ ρ H H' d v:=by
 have k:zj8 (fun b=>¬W.mv b/\H b=Option.none) (Av c σ ρ) H' H':=⟨fun _ _ z _=>z,fun b o a z=>⟨⟨a.1,(fun w=>by
  obtain⟨_,_,o',h',_⟩:=R.owOk w;rw[a.2] at h';cases h'),fun w=>by
  obtain⟨_,_,o',h',_⟩:=R.avl b w;rw[a.2] at h';cases h'⟩,z⟩⟩
 refine⟨Is.mono k h,fun a ea m=>?_⟩;subst ea;cases d with
 | lst l=>obtain⟨b,vs,e,n,_⟩:=Is.lst_iff.mp h;cases e;exact n.2
 | dct ks l=>obtain⟨b,vs,e,n,_⟩:=Is.dct_iff.mp h;cases e;exact n.2
 | _=>simp[D.mut] at m
theorem New.val (R:Rep c H σ ρ) (h:New c H H' d v) (g:Gr):Val c g σ ρ H H' d v:=by
 cases g with
 | R=>exact(h.valF R).toR
 | B=>exact(h.valF R).toB
 | F=>exact h.valF R
theorem New.imm (m:d.imm=true) {A:Addr->Prop} (h:Is c.K A H' d v):New c H H' d v:=Is.ofImm m h
theorem zj4 {p:Addr} {o:HO} (ok:W.ok st H) (h:H p=none):W.ok st (upd H p o):=W.stay st H _ ok fun b u _ e=>by rw[zb2 (zb6 e h)];exact e
theorem zr9 {p:Addr} (ok:W.ok st H) (h:H p=none):¬W.mv p:=fun m=>by
 obtain⟨o',h',_⟩:=W.live st H p ok m;rw[h] at h';cases h'
theorem New.tup {p:Addr} {l:List D} {vs:List V} {A:Addr->Prop} (ok:W.ok st H) (h:H p=none) (hA:∀b,A b->¬W.mv b) (m:D.immL l=true) (i:IsL c.K A H l vs):New c H (upd H p (.tup vs)) (.tup l) (.ref p):=
 Is.tup zb5 (IsL.ofImm m (i.ext (Ext.laid h) ok hA))
theorem New.lst {p:Addr} {l:List D} {vs:List V} {A:Addr->Prop} (ok:W.ok st H) (h:H p=none) (hA:∀b,A b->¬W.mv b) (m:D.immL l=true) (i:IsL c.K A H l vs):New c H (upd H p (.lst vs)) (.lst l) (.ref p):=
 Is.lst ⟨zr9 ok h,h⟩ zb5 (IsL.ofImm m (i.ext (Ext.laid h) ok hA))
end
section
variable {X:Cx} {S:Type} {W:Wd S} {c:Dx W} {g:Gr}
noncomputable def fC (S:Type) (d:D):Fn S:=fun _ st=>.ok d st
theorem vd2 {i j pos}:DE X c g (.Constant (.int i) j pos) (fC S (.int i)):=zk1.imp fun σ H Q ⟨ρ,st,R,ok,w⟩=>w _ _ Ext.refl ok (New.val R (show New c H H (.int _) (.int _) from Is.int_iff.mpr rfl) g)
theorem vk5 {i j pos}:DE X c g (.Constant (.bool i) j pos) (fC S (.bl i)):=vi5.imp fun σ H Q ⟨ρ,st,R,ok,w⟩=>w _ _ Ext.refl ok (New.val R (show New c H H (.bl _) (.bl _) from Is.bl_iff.mpr rfl) g)
theorem vd0 {j pos}:DE X c g (.Constant .none j pos) (fC S .non):=wy6.imp fun σ H Q ⟨ρ,st,R,ok,w⟩=>w _ _ Ext.refl ok (New.val R (show New c H H .non .non from Is.non_iff.mpr rfl) g)
theorem vc8 {x j pos}:DE X c g (.Constant (.str x) j pos) (fC S (.str x)):=yc3.imp fun σ H Q ⟨ρ,st,R,ok,w⟩=>w _ _ Ext.refl ok (New.val R (show New c H H (.str _) (.str _) from Is.str_iff.mpr rfl) g)
noncomputable def rd (ρ:Rho) (i:Nat):Option D:=match ρ[i]? with
 | some (.bor d)=>some d
 | some (.own d)=>some d
 | _=>none
noncomputable def kp (ρ:Rho) (i:Nat):Option D:=match ρ[i]? with
 | some (.bor d)=>some d
 | _=>none
noncomputable def im (o:Option D):Option D:=o.bind fun d=>if d.imm=true then some d else none
noncomputable def fV (S:Type) (i:Nat):Fn S:=fun ρ st=>zj2 (rd ρ i) st
noncomputable def fVk (S:Type) (i:Nat):Fn S:=fun ρ st=>zj2 (kp ρ i) st
theorem Rep.rd {H:Hp} {σ:St} {ρ:Rho} {i:Nat} {d:D} (R:Rep c H σ ρ) (h:L2.rd ρ i=some d):∃v,σ[i]?=some (some v)/\Is c.K (fun b=>¬W.mv b) H d v:=by
 unfold L2.rd at h;have jn:∀{o:Option (Option V)} {v:V},o.join=some v->o=some (some v):=fun {o v} e=>by cases o with
  | none=>cases e
  | some a=>rw[show a=some v from e]
 cases q:ρ[i]? with
 | none=>rw[q] at h;cases h
 | some s=>
   rw[q] at h;have z:=R.slot i s q;cases s with
   | no=>cases h
   | hnd=>cases h
   | bor e=>
     cases h;obtain⟨v,e1,i1⟩:=z;exact⟨v,jn e1,i1.mono ⟨fun _ _ z _=>z,fun b o a z=>⟨a.1,z⟩⟩⟩
   | own e=>
     cases h;obtain⟨a,e1,n,f,t⟩:=z;exact⟨_,jn e1,(t.mono (A':=fun b=>¬W.mv b) ⟨fun _ _ z _=>z,fun b o a z=>⟨a.1,z⟩⟩ fun o z=>z).isTop n.1⟩
theorem Rep.kp {H:Hp} {σ:St} {ρ:Rho} {i:Nat} {d:D} (R:Rep c H σ ρ) (h:L2.kp ρ i=some d):∃v,σ[i]?=some (some v)/\Is c.K (Av c σ ρ) H d v:=by
 unfold L2.kp at h;cases q:ρ[i]? with
 | none=>rw[q] at h;cases h
 | some s=>
   rw[q] at h;have z:=R.slot i s q;cases s with
   | no=>cases h
   | hnd=>cases h
   | own e=>cases h
   | bor e=>
     cases h;obtain⟨v,e1,i1⟩:=z;refine⟨v,?_,i1⟩;cases w:σ[i]? with
     | none=>rw[w] at e1;cases e1
     | some a=>rw[w] at e1;rw[show a=some v from e1]
theorem vc7 {i:Nat} {x:Str} {pos:Pos} (h:PE X (.Name x pos) (xm2 i)):DE X c .R (.Name x pos) (fV S i):=h.imp fun σ H Q hI3=>by
 obtain⟨ρ,st,R,ok,w⟩:=hI3;obtain⟨d,e,q⟩:=zb7.mp w;obtain⟨v,e1,i1⟩:=R.rd e;exact⟨v,e1,q v H Ext.refl ok i1⟩
theorem zf1 {i:Nat} {x:Str} {pos:Pos} (h:PE X (.Name x pos) (xm2 i)):DE X c .B (.Name x pos) (fVk S i):=h.imp fun σ H Q hI4=>by
 obtain⟨ρ,st,R,ok,w⟩:=hI4;obtain⟨d,e,q⟩:=zb7.mp w;obtain⟨v,e1,i1⟩:=R.kp e;exact⟨v,e1,q v H Ext.refl ok i1⟩
noncomputable def fI (S:Type) (f:Fn S):Fn S:=fun ρ st=>(f ρ st).bind fun d st1=>if d.imm=true then .ok d st1 else .bad
noncomputable def OpD {S:Type} {W:Wd S} (c:Dx W) (r:R2) (o:D->D->Option D):Prop:=∀d1 d2 v1 v2 H (st:S) d Q,W.ok st H->Is c.K (fun b=>¬W.mv b) H d1 v1->Is c.K (fun b=>¬W.mv b) H d2 v2->o d1 d2=some d->
 (∀v H',Ext W H H'->W.ok st H'->New c H H' d v->Q v H')->r v1 v2 H Q
noncomputable def f2 (S:Type) (o:D->D->Option D) (f1 f2:Fn S):Fn S:=fun ρ st=>(f1 ρ st).bind fun d1 st1=>(f2 ρ st1).bind fun d2 st2=>zj2 (o d1 d2) st2
theorem zi3 {f:Fn S} {σ:St} {H:Hp} {Q Q':VK} (h:tD c g f σ H Q) (i:∀v H',Q v H'->Q' v H'):tD c g f σ H Q':=by
 obtain⟨ρ,st,R,ok,w⟩:=h;exact⟨ρ,st,R,ok,za7 w (fun d st' q v H' a b z=>i v H' (q v H' a b z)) fun x st' q=>q⟩
theorem xr3 {r:R2} {o:D->D->Option D} {fa fb:Fn S} {ga gb:Gr} {σ:St} {H:Hp} {Q:VK} (hr:OpD c r o) (h:tD c g (f2 S o fa fb) σ H Q):tOp r (tD c ga fa) (tD c gb fb) σ H Q:=by
 obtain⟨ρ,st,R,ok,w⟩:=h;have w:Go c g σ (fun ρ st=>(fa ρ st).bind fun d1 st1=>(fun ρ st1=>(fb ρ st1).bind fun d2 st2=>zj2 (o d1 d2) st2) ρ st1) H Q ρ st:=w;refine zi3 (Go.bind (g':=ga) R ok w) fun v1 H1 hI91=>?_
 obtain⟨d1,st1,R1,ok1,e1,z1,w1⟩:=hI91;refine zi3 (Go.bind (g':=gb) (f:=fb) (k:=fun d2 _ st2=>zj2 (o d1 d2) st2) R1 ok1 w1) fun v2 H2 hI92=>?_
 obtain⟨d2,st2,R2,ok2,e2,z2,w2⟩:=hI92;obtain⟨d,e,q⟩:=Go.done w2 ok2;exact hr d1 d2 v1 v2 H2 st2 d Q ok2 (z1.toR.ext e2 ok1) z2.toR e fun v H' a b n=>q v H' a b (n.val R2 g)
theorem zw8 {op:Operator} {r:R2} {o:D->D->Option D} {a b:Expr} {pos:Pos} {fa fb:Fn S} {ga gb:Gr} (ho:OpR X (binaryOp op) r) (hr:OpD c r o) (ha:DE X c ga a fa) (hb:DE X c gb b fb):DE X c g (.BinOp a op b pos) (f2 S o fa fb):=
 (zt3 ho ha hb).imp fun σ H Q h=>xr3 hr h
theorem zu8 {op:CmpOp} {r:R2} {o:D->D->Option D} {a b:Expr} {pos:Pos} {fa fb:Fn S} {ga gb:Gr} (ho:OpR X (compareOp op) r) (hr:OpD c r o) (ha:DE X c ga a fa) (hb:DE X c gb b fb) (hm:behindInMarks op b=false):DE X c g (.Compare a [op] [b] pos) (f2 S o fa fb):=
 (wo8 ho ha hb hm).imp fun σ H Q h=>xr3 hr h
theorem vd1 {r:R2} {o:D->D->Option D} {a b:Expr} {pos:Pos} {fa fb:Fn S} {ga gb:Gr} (ho:IxR X r) (hr:OpD c r o) (ha:DE X c ga a fa) (hb:DE X c gb b fb) (hs:ym3 b):DE X c g (.Subscript a b pos) (f2 S o fa fb):=
 (wo6 ho ha hb hs).imp fun σ H Q h=>xr3 hr h
noncomputable abbrev FnT (S:Type):=Rho->S->Res S Bool
noncomputable def tDT {S:Type} {W:Wd S} (c:Dx W) (f:FnT S):TT:=fun σ H Q=>∃ρ st,Rep c H σ ρ/\W.ok st H/\
 wpR (f ρ st) (fun b st'=>∀H',Ext W H H'->W.ok st' H'->Q b H') fun x st'=>∀H',Ext W H H'->W.ok st' H'->c.Ex x st' H'
noncomputable def DT (X:Cx) {S:Type} {W:Wd S} (c:Dx W) (e:Expr) (f:FnT S):Prop:=PT X e (tDT c f)
noncomputable def D.bool?:D->Option Bool
 | .bl b=>some b
 | _=>none
noncomputable def fB (S:Type) (f:Fn S):FnT S:=fun ρ st=>(f ρ st).bind fun d st1=>zj2 d.bool? st1
theorem wh8 {f:Fn S} {σ:St} {H:Hp} {Q:Bool->Hp->Prop} (h:tDT c (fB S f) σ H Q):tB (tD c g f) σ H Q:=by
 obtain⟨ρ,st,R,ok,w⟩:=h;refine⟨ρ,st,R,ok,za7 (za5.mp w) (fun d st1 q v H1 e ok1 z=>?_) fun x st1 q=>q⟩;obtain⟨b,e1,q⟩:=zb7.mp q;cases d with
 | bl k=>
   cases e1;have z':Is c.K (fun b=>¬W.mv b) H1 (.bl b) v:=z.toR;exact⟨_,Is.bl_iff.mp z',q H1 e ok1⟩
 | _=>cases e1
theorem zm1 {e:Expr} {f:Fn S} (h:DE X c g e f) (he:∀whole,isTrue e X.env whole=(do let v <-whole;standAt e.pos;holding [v] (truthy v)):=by intro _;rfl):DT X c e (fB S f):=
 (wx4 h he).imp fun σ H Q q=>wh8 q
theorem zd6 {op:CmpOp} {r:R2} {o:D->D->Option D} {a b:Expr} {pos:Pos} {fa fb:Fn S} {ga gb:Gr} (ho:OpR X (compareOp op) r) (hr:OpD c r o) (ha:DE X c ga a fa) (hb:DE X c gb b fb) (hm:behindInMarks op b=false):DT X c (.Compare a [op] [b] pos) (fB S (f2 S o fa fb)):=
 (xc1 ho ha hb hm).imp fun σ H Q q=>by
  have q':tB (tD c .R (f2 S o fa fb)) σ H Q:=wh8 q;exact xr3 (ga:=ga) (gb:=gb) hr q'
noncomputable def vf5 (S:Type) (f1 f2:FnT S):FnT S:=fun ρ st=>(f1 ρ st).bind fun b st1=>if b=true then f2 ρ st1 else .ok false st1
noncomputable def fOr (S:Type) (f1 f2:FnT S):FnT S:=fun ρ st=>(f1 ρ st).bind fun b st1=>if b=true then .ok true st1 else f2 ρ st1
noncomputable def vk1 (S:Type) (f1:FnT S):FnT S:=fun ρ st=>(f1 ρ st).bind fun b st1=>.ok (!b) st1
noncomputable def DW (X:Cx) {S:Type} {W:Wd S} (c:Dx W) (e:Expr) (f:FnT S):Prop:=PW X e (tDT c f)
theorem PW.imp {X:Cx} {e:Expr} {t t':TT} (h:PW X e t) (i:∀σ H Q,t' σ H Q->t σ H Q):PW X e t':=fun w A3 s σ H Q I q=>h w A3 s σ H Q I (i σ H Q q)
theorem DW.dt {e:Expr} {f:FnT S} (h:DW X c e f):DT X c e f:=PW.pt h
theorem yf4 {a:Expr} {pos:Pos} {f:FnT S} (h:DT X c a f):DW X c (.BoolOp .And [a] pos) f:=pw_and1 h
theorem yp5 {a:Expr} {pos:Pos} {f:FnT S} (h:DT X c a f):DW X c (.BoolOp .Or [a] pos) f:=pw_or1 h
theorem yl5 {a b:Expr} {zy3:List Expr} {pos:Pos} {f1 f2:FnT S} (ha:DT X c a f1) (hb:DW X c (.BoolOp .And (b::zy3) pos) f2):DW X c (.BoolOp .And (a::b::zy3) pos) (vf5 S f1 f2):=
 (pw_and ha hb).imp fun σ H Q hI5=>by
  obtain⟨ρ,st,R,ok,w⟩:=hI5;refine⟨ρ,st,R,ok,za7 (za5.mp w) (fun b st1 q H1 e ok1=>?_) fun x st1 q=>q⟩;cases b with
  | true=>exact⟨ρ,st1,R.ext ok e,ok1,za7 q (fun b st2 q H2 e2=>q H2 (e.trans e2)) fun x st2 q H2 e2=>q H2 (e.trans e2)⟩
  | false=>exact q H1 e ok1
theorem xo7 {a b:Expr} {zy3:List Expr} {pos:Pos} {f1 f2:FnT S} (ha:DT X c a f1) (hb:DW X c (.BoolOp .Or (b::zy3) pos) f2):DW X c (.BoolOp .Or (a::b::zy3) pos) (fOr S f1 f2):=
 (pw_or ha hb).imp fun σ H Q hI6=>by
  obtain⟨ρ,st,R,ok,w⟩:=hI6;refine⟨ρ,st,R,ok,za7 (za5.mp w) (fun b st1 q H1 e ok1=>?_) fun x st1 q=>q⟩;cases b with
  | false=>exact⟨ρ,st1,R.ext ok e,ok1,za7 q (fun b st2 q H2 e2=>q H2 (e.trans e2)) fun x st2 q H2 e2=>q H2 (e.trans e2)⟩
  | true=>exact q H1 e ok1
theorem ye1 {a:Expr} {pos:Pos} {f1:FnT S} (ha:DT X c a f1):DT X c (.UnaryOp .Not a pos) (vk1 S f1):=
 (wx5 ha).imp fun σ H Q ⟨ρ,st,R,ok,w⟩=>⟨ρ,st,R,ok,za7 (za5.mp w) (fun b st1 q H1 e ok1=>q H1 e ok1) fun x st1 q=>q⟩
end
section
variable {X:Cx} {S:Type} {W:Wd S} {c:Dx W} {g:Gr}
noncomputable abbrev FnA (S:Type):=Rho->S->Res S (List D)
noncomputable def tDA {S:Type} {W:Wd S} (c:Dx W) (f:FnA S):TA:=fun σ H Q=>∃ρ st,Rep c H σ ρ/\W.ok st H/\
 wpR (f ρ st) (fun l st'=>∀vs H',Ext W H H'->W.ok st' H'->IsL c.K (fun b=>¬W.mv b) H' l vs->Q vs H') fun x st'=>∀H',Ext W H H'->W.ok st' H'->c.Ex x st' H'
noncomputable def DA (X:Cx) {S:Type} {W:Wd S} (c:Dx W) (es:List Expr) (f:FnA S):Prop:=PA X es (tDA c f)
theorem PA.imp {X:Cx} {e:List Expr} {t t':TA} (h:PA X e t) (i:∀σ H Q,t' σ H Q->t σ H Q):PA X e t':=fun p A3 s σ H Q I q=>h p A3 s σ H Q I (i σ H Q q)
noncomputable def vf7 (S:Type):FnA S:=fun _ st=>.ok [] st
noncomputable def zy5 (S:Type) (f:Fn S) (r:FnA S):FnA S:=fun ρ st=>(f ρ st).bind fun d st1=>(r ρ st1).bind fun l st2=>.ok (d::l) st2
theorem vd5:DA X c [] (vf7 S):=zz0.imp fun σ H Q ⟨ρ,st,R,ok,w⟩=>w [] H Ext.refl ok (IsL.nil.mpr rfl)
theorem zl5 {e:Expr} {es:List Expr} {f:Fn S} {r:FnA S} (h:DE X c g e f) (hr:DA X c es r) (hs:starEach (e::es) X.env=(false,eval e X.env)::starEach es X.env:=by rfl):DA X c (e::es) (zy5 S f r):=
 (zn7 h hr hs).imp fun σ H Q hI7=>by
  obtain⟨ρ,st,R,ok,w⟩:=hI7;refine⟨ρ,st,R,ok,za7 (za5.mp w) (fun d st1 q v H1 e ok1 z=>?_) fun x st1 q=>q⟩;refine⟨ρ,st1,R.ext ok e,ok1,za7 (za5.mp q) (fun l st2 q vs H2 e2 ok2 z2=>?_) fun x st2 q H2 e2 ok2=>q H2 (e.trans e2) ok2⟩;exact q (v::vs) H2 (e.trans e2) ok2 (IsL.cons.mpr ⟨v,vs,rfl,z.toR.ext e2 ok1,z2⟩)
noncomputable def fA (S:Type) (o:List D->Option D) (f:FnA S):Fn S:=fun ρ st=>(f ρ st).bind fun l st1=>zj2 (o l) st1
noncomputable def yb0 {S:Type} {W:Wd S} (c:Dx W) (r:List V->Hp->VK->Prop) (o:List D->Option D):Prop:=∀l vs H (st:S) d Q,W.ok st H->IsL c.K (fun b=>¬W.mv b) H l vs->o l=some d->
 (∀v H',Ext W H H'->W.ok st H'->New c H H' d v->Q v H')->r vs H Q
theorem xb3 {r:List V->Hp->VK->Prop} {o:List D->Option D} {f:FnA S} {σ:St} {H:Hp} {Q:VK} (hr:yb0 c r o) (h:tD c g (fA S o f) σ H Q):tDA c f σ H fun vs H1=>r vs H1 Q:=by
 obtain⟨ρ,st,R,ok,w⟩:=h;refine⟨ρ,st,R,ok,za7 (za5.mp w) (fun l st1 q vs H1 e ok1 z=>?_) fun x st1 q=>q⟩;obtain⟨d,e1,q⟩:=zb7.mp q;exact hr l vs H1 st1 d Q ok1 z e1 fun v H' a b n=>q v H' (e.trans a) b ((n.val (R.ext ok e) g).back e ok1)
noncomputable def yx2 (l:List D):Option D:=if D.immL l=true/\l.length<=sizeLine then some (.tup l) else none
noncomputable def xu4 (l:List D):Option D:=if D.immL l=true/\l.length<=sizeLine then some (.lst l) else none
set_option tactic.hygienic true in
theorem vd7:yb0 c (fun xs H1 Q=>xs.length<=sizeLine/\∀p,H1 p=none->Q (.ref p) (upd H1 p (.tup xs))) yx2:=by
 intro l vs H st d Q ok z e q;unfold yx2 at e;split at e
 ·rename_i h
  cases e;exact⟨by rw[<-z.length];exact h.2,fun p hp=>q _ _ (Ext.laid hp) (zj4 ok hp) (New.tup ok hp (fun _ n=>n) h.1 z)⟩
 ·cases e
set_option tactic.hygienic true in
theorem vd8:yb0 c (fun xs H1 Q=>xs.length<=sizeLine/\∀p,H1 p=none->Q (.ref p) (upd H1 p (.lst xs))) xu4:=by
 intro l vs H st d Q ok z e q;unfold xu4 at e;split at e
 ·rename_i h
  cases e;exact⟨by rw[<-z.length];exact h.2,fun p hp=>q _ _ (Ext.laid hp) (zj4 ok hp) (New.lst ok hp (fun _ n=>n) h.1 z)⟩
 ·cases e
theorem zz4 {es:List Expr} {x1} {pos:Pos} {f:FnA S} (h:DA X c es f):DE X c g (.Tuple es x1 pos) (fA S yx2 f):=(wy3 h).imp fun σ H Q q=>xb3 (g:=g) vd7 q
theorem yp8 {es:List Expr} {pos:Pos} {f:FnA S} (h:DA X c es f):DE X c g (.List es pos) (fA S xu4 f):=(xt3 h).imp fun σ H Q q=>xb3 (g:=g) vd8 q
theorem xk0 {id:String} {x:Str} {p pos:Pos} {e:Expr} {es:List Expr} {r:List V->Hp->VK->Prop} {o:List D->Option D} {f:FnA S} {t:TA} (h:PE X (.Call (.Name x p) (e::es) [] pos) (tCB r t)) (ht:t=tDA c f) (hr:yb0 c r o):DE X c g (.Call (.Name x p) (e::es) [] pos) (fA S o f):=
 h.imp fun σ H Q q=>by rw[ht];exact xb3 (g:=g) hr q
noncomputable def sp0 (K:PySem.W.Frag) (F:List D->Res Unit D):Sp:=fun vs H Q _=>∃l,IsL K (fun _=>True) H l vs/\wpR (F l) (fun d _=>∀v H',yt9 H H'->Is K (fun b=>H b=none) H' d v->Q v H') fun _ _=>False
noncomputable def spS {S:Type} (W:Wd S) (K:PySem.W.Frag) (F:List D->S->Res S D):Sp:=fun vs H Q _=>∃l us st,vs=W.h::us/\IsL K (fun b=>¬W.mv b) H l us/\W.ok st H/\
 wpR (F l st) (fun d st'=>∀v H',Ext W H H'->W.ok st' H'->Is K (fun b=>¬W.mv b/\H b=none) H' d v->Q v H') fun _ _=>False
noncomputable def xo5 (S:Type) (F:List D->Res Unit D) (f:FnA S):Fn S:=fun ρ st=>(f ρ st).bind fun l st1=>match F l with
 | .ok d _=>.ok d st1
 | _=>.bad
theorem wb1 {F:List D->Res Unit D} {f:FnA S} {σ:St} {H:Hp} {Q:VK} {E:XK} (h:tD c g (xo5 S F f) σ H Q):wm8 (sp0 c.K F) [] E (tDA c f) σ H Q:=by
 obtain⟨ρ,st,R,ok,w⟩:=h;refine⟨ρ,st,R,ok,za7 (za5.mp w) (fun l st1 q vs H1 e ok1 z=>?_) fun x st1 q=>q⟩;show sp0 c.K F (vs++[]) H1 Q E;rw[Bc0];refine⟨l,IsL.mono (A:=fun b=>¬W.mv b) ⟨fun _ _ z _=>z,fun b o a z=>⟨trivial,z⟩⟩ z,?_⟩;cases q':F l with
 | ok d u=>
   rw[q'] at q;intro v H' s n;have okH:W.ok st1 H':=W.stay st1 H1 H' ok1 fun b o _ hb=>s b o hb
   have n':New c H1 H' d v:=Is.mono (A:=fun b=>H1 b=none) ⟨fun _ _ z _=>z,fun b o a z=>⟨⟨zr9 ok1 a,a⟩,z⟩⟩ n;exact q v H' (e.trans s.ext) okH ((n'.val (R.ext ok e) g).back e ok1)
 | exc x u=>rw[q'] at q;exact q.elim
 | bad=>rw[q'] at q;exact q.elim
noncomputable def yz1 (S:Type) (F:List D->S->Res S D) (i:Nat) (f:FnA S):Fn S:=fun ρ st=>match ρ[i]? with
 | some .hnd=>(f ρ st).bind fun l st1=>match F l st1 with
   | .ok d st2=>.ok d st2
   | _=>.bad
 | _=>.bad
theorem wb0 {F:List D->S->Res S D} {i:Nat} {f:FnA S} {σ:St} {H:Hp} {Q:VK} {E:XK} (h:tD c g (yz1 S F i f) σ H Q):wm8 (spS W c.K F) [] E (wb2 (xm2 i) (tDA c f)) σ H Q:=by
 obtain⟨ρ,st,R,ok,w⟩:=h;unfold yz1 at w;cases hi:ρ[i]? with
 | none=>rw[hi] at w;exact w.elim
 | some s=>
   rw[hi] at w;have zs:=R.slot i s hi;cases s with
   | no=>exact w.elim
   | bor d=>exact w.elim
   | own d=>exact w.elim
   | hnd=>
     have zs:(σ[i]?).join=some W.h:=zs;have ei:σ[i]?=some (some W.h):=by
      cases q:σ[i]? with
      | none=>rw[q] at zs;cases zs
      | some a=>rw[q] at zs;rw[show a=some W.h from zs]
     refine⟨W.h,ei,ρ,st,R,ok,za7 (za5.mp w) (fun l st1 q vs H1 e ok1 z=>?_) fun x st1 q=>q⟩;show spS W c.K F ((W.h::vs)++[]) H1 Q E;rw[Bc0];refine⟨l,vs,st1,rfl,z,ok1,?_⟩;cases q':F l st1 with
     | ok d st2=>
       rw[q'] at q;intro v H' s okH n;exact q v H' (e.trans s) okH ((New.val (R.ext ok e) n g).back e ok1)
     | exc x u=>rw[q'] at q;exact q.elim
     | bad=>rw[q'] at q;exact q.elim
end
inductive Fl where
 | nx (ρ:Rho) | rt (d:D) | bk (ρ:Rho) | ct (ρ:Rho)
noncomputable abbrev FnS (S:Type):=Rho->S->Res S Fl
structure Frm {S:Type} {W:Wd S} (c:Dx W) (H:Hp) (σ:St) (ρ:Rho) (H':Hp) (σ':St) (ρ':Rho):Prop where
 keep:∀b o,H b=some o->¬W.mv b->¬Ow σ ρ b->H' b=some o
 own:∀b o,H b=some o->¬W.mv b->Ow σ' ρ' b->Ow σ ρ b
noncomputable def F0 {S:Type} {W:Wd S} (c:Dx W) (H':Hp):Prop:=∀b o,c.H0 b=some o->¬W.mv b->H' b=some o
noncomputable def Nx {S:Type} {W:Wd S} (c:Dx W) (Q:St->Hp->Prop) (σ:St) (ρ:Rho) (H:Hp) (ρ':Rho) (st':S):Prop:=∀σ' H',Frm c H σ ρ H' σ' ρ'->W.ok st' H'->Rep c H' σ' ρ'->Q σ' H'
noncomputable def Rt {S:Type} {W:Wd S} (c:Dx W) (Q:VK) (d:D) (st':S):Prop:=∀v H',F0 c H'->W.ok st' H'->Is c.K (fun b=>¬W.mv b/\c.H0 b=none) H' d v->Q v H'
noncomputable def ye4 {S:Type} {W:Wd S} (c:Dx W) (D:xl0) (σ:St) (ρ:Rho) (H:Hp) (fl:Fl) (st':S):Prop:=match fl with
 | .nx ρ'=>Nx c D.nx σ ρ H ρ' st'
 | .bk ρ'=>Nx c D.bk σ ρ H ρ' st'
 | .ct ρ'=>Nx c D.ct σ ρ H ρ' st'
 | .rt d=>Rt c D.rt d st'
noncomputable def xz5 {S:Type} {W:Wd S} (c:Dx W) (x:Exn) (st':S):Prop:=∀H',F0 c H'->W.ok st' H'->c.Ex x st' H'
noncomputable def tS {S:Type} {W:Wd S} (c:Dx W) (F:FnS S):TS:=fun D σ H=>∃ρ st,Rep c H σ ρ/\W.ok st H/\wpR (F ρ st) (ye4 c D σ ρ H) (xz5 c)
noncomputable def DS (X:Cx) {S:Type} {W:Wd S} (c:Dx W) (s:Stmt) (F:FnS S):Prop:=PS X s (tS c F)
noncomputable def DSs (X:Cx) {S:Type} {W:Wd S} (c:Dx W) (s:List Stmt) (F:FnS S):Prop:=PSs X s (tS c F)
section
variable {S:Type} {W:Wd S} {c:Dx W} {H H1 H2 H':Hp} {σ σ1 σ2 σ':St} {ρ ρ1 ρ2 ρ':Rho} {st st1:S}
theorem Frm.refl:Frm c H σ ρ H σ ρ:=⟨fun _ _ h _ _=>h,fun _ _ _ _ h=>h⟩
theorem Frm.trans (a:Frm c H σ ρ H1 σ1 ρ1) (b:Frm c H1 σ1 ρ1 H2 σ2 ρ2):Frm c H σ ρ H2 σ2 ρ2 where
 keep:=fun x o h m w=>b.keep x o (a.keep x o h m w) m fun w1=>w (a.own x o h m w1)
 own:=fun x o h m w=>by
  by_cases w0:Ow σ ρ x
  ·exact w0
  ·exact a.own x o h m (b.own x o (a.keep x o h m w0) m w)
theorem Ext.frm (e:Ext W H H'):Frm c H σ ρ H' σ ρ:=⟨fun b o h m _=>e b o h m,fun _ _ _ _ h=>h⟩
theorem Ext.f0 (R:Rep c H σ ρ) (e:Ext W H H'):F0 c H':=fun b o h n=>e b o (R.frame b o h n) n
theorem Nx.from {Q:St->Hp->Prop} (h:Nx c Q σ ρ H ρ' st) (f:Frm c H σ ρ H1 σ1 ρ1):Nx c Q σ1 ρ1 H1 ρ' st:=fun σ' H' g ok R=>h σ' H' (f.trans g) ok R
theorem ye4.from {D:xl0} {fl:Fl} (h:ye4 c D σ ρ H fl st) (f:Frm c H σ ρ H1 σ1 ρ1):ye4 c D σ1 ρ1 H1 fl st:=by
 cases fl with
 | nx r=>exact Nx.from h f
 | bk r=>exact Nx.from h f
 | ct r=>exact Nx.from h f
 | rt d=>exact h
theorem Frm.keepT (R:Rep c H σ ρ) (ok:W.ok st H) (f:Frm c H σ ρ H' σ' ρ'):zj8 (Av c σ ρ) (Av c σ' ρ') H H':=
 zl3 (fun b o h t=>f.keep b o h (fun m=>by
  obtain⟨o',h',n1,n2⟩:=W.live st H b ok m;rw[h] at h';cases h';rcases t with⟨u,z⟩ | ⟨ob,u,z⟩
  ·exact n1 u z
  ·exact n2 ob u z) fun w=>by
  obtain⟨_,_,o',h',n1,n2⟩:=R.owOk w;rw[h] at h';cases h';rcases t with⟨u,z⟩ | ⟨ob,u,z⟩
  ·exact n1 u z
  ·exact n2 ob u z) fun b o a h=>⟨⟨a.1,fun w=>a.2.1 (f.own b o h a.1 w),a.2.2⟩,f.keep b o h a.1 a.2.1⟩
theorem ye6 {g:Gr} {f:Fn S} {k:D->FnS S} {D:xl0} (h:tS c (fun ρ st=>(f ρ st).bind fun d st1=>k d ρ st1) D σ H) :
 tD c g f σ H fun v H1=>∃ρ d st0 st1,Rep c H σ ρ/\W.ok st0 H/\Rep c H1 σ ρ/\W.ok st1 H1/\Ext W H H1/\Val c g σ ρ H H1 d v/\wpR (k d ρ st1) (ye4 c D σ ρ H) (xz5 c):=by
 obtain⟨ρ,st,R,ok,w⟩:=h;refine⟨ρ,st,R,ok,za7 (za5.mp w) (fun d st1 q v H1 e ok1 z=>?_) fun x st1 q H1 e ok1=>q H1 (e.f0 R) ok1⟩;exact⟨ρ,d,st,st1,R,ok,R.ext ok e,ok1,e,z,q⟩
theorem wm4 {f:FnT S} {k:Bool->FnS S} {D:xl0} (h:tS c (fun ρ st=>(f ρ st).bind fun d st1=>k d ρ st1) D σ H) :
 tDT c f σ H fun b H1=>∃ρ st1,Rep c H1 σ ρ/\W.ok st1 H1/\wpR (k b ρ st1) (ye4 c D σ ρ H1) (xz5 c):=by
 obtain⟨ρ,st,R,ok,w⟩:=h;refine⟨ρ,st,R,ok,za7 (za5.mp w) (fun d st1 q H1 e ok1=>?_) fun x st1 q H1 e ok1=>q H1 (e.f0 R) ok1⟩;exact⟨ρ,st1,R.ext ok e,ok1,za7 q (fun fl st2 q=>q.from e.frm) fun x st2 q=>q⟩
end
section
variable {X:Cx} {S:Type} {W:Wd S} {c:Dx W}
noncomputable def vl8 (S:Type):FnS S:=fun ρ st=>.ok (.nx ρ) st
noncomputable def wb6 (S:Type) (F G:FnS S):FnS S:=fun ρ st=>(F ρ st).bind fun fl st1=>match fl with
 | .nx ρ1=>G ρ1 st1
 | .rt d=>.ok (.rt d) st1
 | .bk r=>.ok (.bk r) st1
 | .ct r=>.ok (.ct r) st1
theorem zc5:DSs X c [] (vl8 S):=xc2.imp fun D σ H ⟨ρ,st,R,ok,w⟩=>w σ H Frm.refl ok R
theorem za2 {s:Stmt} {r:List Stmt} {F G:FnS S} (h1:DS X c s F) (h2:DSs X c r G):DSs X c (s::r) (wb6 S F G):=
 (zj0 h1 h2).imp fun D σ H hI8=>by
  obtain⟨ρ,st,R,ok,w⟩:=hI8;refine⟨ρ,st,R,ok,za7 (za5.mp w) (fun fl st1 q=>?_) fun x st1 q=>q⟩;cases fl with
  | nx ρ1=>exact fun σ1 H1 f ok1 R1=>⟨ρ1,st1,R1,ok1,za7 q (fun fl st2 q=>q.from f) fun x st2 q=>q⟩
  | rt d=>exact q
  | bk r=>exact q
  | ct r=>exact q
theorem za6 {s:Stmt} {F:FnS S} (h1:DS X c s F):DSs X c [s] F:=yi6 h1
noncomputable def ww7 (S:Type) (f:Fn S):FnS S:=fun ρ st=>(f ρ st).bind fun _ st1=>.ok (.nx ρ) st1
noncomputable def D.flat:D->Bool
 | .lst l=>D.immL l
 | .dct _ l=>D.immL l
 | _=>false
noncomputable def ve2 (S:Type) (f:Fn S):FnS S:=fun ρ st=>(f ρ st).bind fun d st1=>if d.imm=true\/d.flat=true then .ok (.rt d) st1 else .bad
theorem xj4 {K:PySem.W.Frag} {A A':Addr->Prop} {H:Hp} {d:D} {a:Addr} (h:Is K A H d (.ref a)) (m:d.flat=true) (n:A' a):Is K A' H d (.ref a):=by
 cases d with
 | lst l=>
   obtain⟨b,vs,e,_,e2,i⟩:=Is.lst_iff.mp h;cases e;exact Is.lst n e2 (IsL.ofImm m i)
 | dct ks l=>
   obtain⟨b,vs,e,_,i,q⟩:=Is.dct_iff.mp h;cases e;exact Is.dct_iff.mpr ⟨a,vs,rfl,n,IsL.ofImm m i,q⟩
 | _=>simp[D.flat] at m
theorem xj3 {K:PySem.W.Frag} {A:Addr->Prop} {H:Hp} {d:D} {v:V} (h:Is K A H d v) (m:d.flat=true):∃a,v=.ref a/\d.mut=true/\A a/\∃o,H a=some o:=by
 cases d with
 | lst l=>
   obtain⟨b,vs,e,n,e2,i⟩:=Is.lst_iff.mp h;exact⟨b,e,rfl,n,_,e2⟩
 | dct ks l=>
   obtain⟨b,vs,e,n,i,q⟩:=Is.dct_iff.mp h;rcases q with⟨_,_,_,q⟩ | ⟨_,_,_,q⟩<;>exact⟨b,e,rfl,n,_,q⟩
 | _=>simp[D.flat] at m
theorem Rep.none0 {H:Hp} {σ:St} {ρ:Rho} {st:S} (R:Rep c H σ ρ) (ok:W.ok st H) {a:Addr} (h:H a=none):c.H0 a=none:=by
 cases q:c.H0 a with
 | none=>rfl
 | some o=>rw[R.frame a o q (zr9 ok h)] at h;cases h
theorem zd3 {e:Expr} {f:Fn S} {pos:Pos} (h:DE X c .F e f):DS X c (.Return (some e) pos) (ve2 S f):=
 (yv8 h).imp fun D σ H q=>zi3 (ye6 (g:=.F) q) fun v H1 hI9=>by
  obtain⟨ρ,d,st0,st1,R,ok,R1,ok1,e,z,w⟩:=hI9;by_cases m:d.imm=true\/d.flat=true
  ·rw[if_pos m] at w
   refine w v H1 (e.f0 R) ok1 ?_;rcases m with m | m
   ·exact Is.ofImm m z.1
   ·obtain⟨a,rfl,mu,av,_⟩:=xj3 z.1 m
    exact xj4 z.1 m ⟨av.1,R.none0 ok (z.2 a rfl mu)⟩
  ·rw[if_neg m] at w;exact w.elim
noncomputable def own? (ρ:Rho) (i:Nat):Option D:=match ρ[i]? with
 | some (.own d)=>if d.flat=true then some d else none
 | some (.bor d)=>if d.imm=true then some d else none
 | _=>none
noncomputable def wn4 (S:Type) (i:Nat):FnS S:=fun ρ st=>(zj2 (own? ρ i) st).bind fun d st1=>.ok (.rt d) st1
set_option tactic.hygienic true in
theorem zp8 {i:Nat} {x:Str} {p pos:Pos} (h:PE X (.Name x p) (xm2 i)):DS X c (.Return (some (.Name x p)) pos) (wn4 S i):=
 (yv8 h).imp fun D σ H hI10=>by
  obtain⟨ρ,st,R,ok,w⟩:=hI10;obtain⟨d,e,q⟩:=zb7.mp (za5.mp w);have jn:∀{o:Option (Option V)} {v:V},o.join=some v->o=some (some v):=fun {o v} e=>by cases o with
   | none=>cases e
   | some a=>rw[show a=some v from e]
  unfold own? at e;cases hs:ρ[i]? with
  | none=>rw[hs] at e;cases e
  | some s=>
    rw[hs] at e;have z:=R.slot i s hs;cases s with
    | no=>cases e
    | hnd=>cases e
    | bor d'=>
      have e:(if d'.imm=true then some d' else none)=some d:=e;split at e
      ·rename_i m
       cases e;obtain⟨v,e1,i1⟩:=z;exact⟨v,jn e1,q v H (fun b o h n=>R.frame b o h n) ok (Is.ofImm m i1)⟩
      ·cases e
    | own d'=>
      have e:(if d'.flat=true then some d' else none)=some d:=e;split at e
      ·rename_i m
       cases e;obtain⟨a,e1,n,f,t⟩:=z;have tt:Is c.K (fun b=>¬W.mv b) H d (.ref a):=(t.mono (A':=fun b=>¬W.mv b) ⟨fun _ _ z _=>z,fun b o a z=>⟨a.1,z⟩⟩ fun o z=>z).isTop n.1;exact⟨_,jn e1,q _ H (fun b o h n=>R.frame b o h n) ok (xj4 tt m ⟨n.1,f⟩)⟩
      ·cases e
noncomputable def vh5 (S:Type):FnS S:=fun _ st=>.ok (.rt .non) st
noncomputable def sIf (S:Type) (t:FnT S) (F G:FnS S):FnS S:=fun ρ st=>(t ρ st).bind fun b st1=>if b=true then F ρ st1 else G ρ st1
set_option tactic.hygienic true in
theorem zh1 {e:Expr} {a b:List Stmt} {pos:Pos} {t:FnT S} {F G:FnS S} (h:DT X c e t) (ha:DSs X c a F) (hb:DSs X c b G):DS X c (.If e a b pos) (sIf S t F G):=
 (wo1 h ha hb).imp fun D σ H q=>by
  obtain⟨ρ,st,R,ok,w⟩:=wm4 (k:=fun b=>if b=true then F else G) (by
   obtain⟨ρ,st,R,ok,w⟩:=q;refine⟨ρ,st,R,ok,?_⟩;have e:sIf S t F G ρ st=(t ρ st).bind fun d st1=>(if d=true then F else G) ρ st1:=by
    unfold sIf;congr;funext d st1;cases d<;>rfl
   rw[e] at w;exact w)
  refine⟨ρ,st,R,ok,za7 w (fun b st1 q H1 e ok1=>?_) fun x st1 q=>q⟩;obtain⟨ρ1,st2,R1,ok2,w1⟩:=q H1 e ok1;cases b with
  | true=>exact⟨ρ1,st2,R1,ok2,w1⟩
  | false=>exact⟨ρ1,st2,R1,ok2,w1⟩
noncomputable def ww8 (S:Type):FnS S:=fun ρ st=>.ok (.bk ρ) st
noncomputable def vh8 (S:Type):FnS S:=fun ρ st=>.ok (.ct ρ) st
end
section
variable {X:Cx} {S:Type} {W:Wd S} {c:Dx W} {H H1 H':Hp} {σ σ':St} {ρ ρ':Rho} {st:S} {i:Nat} {d:D} {v:V}
theorem zb4 {α:Type} {l:List α} {i j:Nat} {a b:α} (h:(l.set i a)[j]?=some b):(j=i/\b=a)\/(j≠i/\l[j]?=some b):=by
 by_cases e:j=i
 ·subst e
  rw[List.getElem?_set_self'] at h;cases q:l[j]? with
  | none=>rw[q] at h;cases h
  | some x=>rw[q] at h;exact .inl ⟨rfl,(Option.some.inj h).symm⟩
 ·rw[Az0 (Ne.symm e)] at h
  exact .inr ⟨e,h⟩
theorem zn2 {o:Option (Option V)} {v:V} (e:o.join=some v):o=some (some v):=by
 cases o with
 | none=>cases e
 | some a=>rw[show a=some v from e]
theorem yo5 {b:Addr} (h:Ow (σ.set i (some v)) (ρ.set i (.bor d)) b):Ow σ ρ b:=by
 obtain⟨j,e,h1,h2⟩:=h;rcases zb4 h1 with⟨_,z⟩ | ⟨n,z⟩
 ·cases z
 ·rcases zb4 h2 with⟨m,_⟩ | ⟨_,y⟩
  ·exact absurd m n
  ·exact⟨j,e,z,y⟩
theorem Rep.setB (R:Rep c H σ ρ) (hi:i<ρ.length) (h:Is c.K (Av c σ ρ) H d v):Rep c H (σ.set i (some v)) (ρ.set i (.bor d)) where
 len:=by rw[Bx0,Bx0];exact R.len
 frame:=R.frame
 avl:=R.avl
 slot:=fun j s hs=>by
  have k:zj8 (Av c σ ρ) (Av c (σ.set i (some v)) (ρ.set i (.bor d))) H H:=⟨fun _ _ z _=>z,fun b o a z=>⟨⟨a.1,fun w=>a.2.1 (yo5 w),a.2.2⟩,z⟩⟩;rcases zb4 hs with⟨e,z⟩ | ⟨n,z⟩
  ·subst z
   subst e;refine⟨v,?_,Is.mono k h⟩;rw[Cg0 (by rw[R.len];exact hi)];rfl
  ·rw[Az0 (Ne.symm n)]
   have q:=R.slot j s z;cases s with
   | no=>trivial
   | bor e=>obtain⟨v',e1,i1⟩:=q;exact⟨v',e1,i1.mono k⟩
   | own e=>obtain⟨a,e1,n1,f,t⟩:=q;exact⟨a,e1,n1,f,t.mono k fun o z=>z⟩
   | hnd=>exact q
 uniq:=fun j j' a e e' h1 h2 h3 h4=>by
  rcases zb4 h1 with⟨_,z⟩ | ⟨n,z⟩
  ·cases z
  ·rcases zb4 h2 with⟨_,z'⟩ | ⟨n',z'⟩
   ·cases z'
   ·rw[Az0 (Ne.symm n)] at h3
    rw[Az0 (Ne.symm n')] at h4;exact R.uniq j j' a e e' z z' h3 h4
theorem zh0:Frm c H σ ρ H (σ.set i (some v)) (ρ.set i (.bor d)):=⟨fun _ _ h _ _=>h,fun _ _ _ _ w=>yo5 w⟩
theorem yo4 {a b:Addr} (h:Ow (σ.set i (some (.ref a))) (ρ.set i (.own d)) b):Ow σ ρ b\/b=a:=by
 obtain⟨j,e,h1,h2⟩:=h;rcases zb4 h1 with⟨m,_⟩ | ⟨n,z⟩
 ·rcases zb4 h2 with⟨_,y⟩ | ⟨n,_⟩
  ·cases y;exact .inr rfl
  ·exact absurd m n
 ·rcases zb4 h2 with⟨m,_⟩ | ⟨_,y⟩
  ·exact absurd m n
  ·exact .inl ⟨j,e,z,y⟩
theorem Rep.setO {a:Addr} (R:Rep c H σ ρ) (ok:W.ok st H) (x:Ext W H H1) {st1:S} (ok1:W.ok st1 H1) (hi:i<ρ.length) (h:Is c.K (Av c σ ρ) H1 d (.ref a)) (m:d.flat=true) (hn:H a=none) :
 Rep c H1 (σ.set i (some (.ref a))) (ρ.set i (.own d))/\Frm c H σ ρ H1 (σ.set i (some (.ref a))) (ρ.set i (.own d)):=by
 have hmv:¬W.mv a:=zr9 ok hn;have k:zj8 (Av c σ ρ) (Av c (σ.set i (some (.ref a))) (ρ.set i (.own d))) H H1:=zl3 (fun b o e t=>x b o e fun mm=>by
  obtain⟨o',h',n1,n2⟩:=W.live st H b ok mm;rw[e] at h';cases h';rcases t with⟨u,z⟩ | ⟨ob,u,z⟩
  ·exact n1 u z
  ·exact n2 ob u z) fun b o av e=>⟨⟨av.1,(fun w=>by
   rcases yo4 w with w | w
   ·exact av.2.1 w
   ·subst w;rw[hn] at e;cases e),av.2.2⟩,x b o e av.1⟩
 refine⟨⟨by rw[Bx0,Bx0];exact R.len,fun b o e n=>x b o (R.frame b o e n) n,fun j s hs=>?_,(fun b h=>let ⟨n,z,o,h',q⟩:=R.avl b h;⟨n,z,o,x b o h' n,q⟩),fun j j' b e e' h1 h2 h3 h4=>?_⟩,⟨fun b o e n w=>x b o e n,fun b o e n w=>?_⟩⟩
 ·rcases zb4 hs with⟨e,z⟩ | ⟨n,z⟩
  ·subst z
   subst e;refine⟨a,by rw[Cg0 (by rw[R.len];exact hi)];rfl,⟨hmv,fun w=>by obtain⟨_,_,o,h',_⟩:=R.avl a w;rw[hn] at h';cases h'⟩,R.none0 ok hn,?_⟩;cases d with
   | lst l=>
     obtain⟨b,vs,e,_,e2,i1⟩:=Is.lst_iff.mp h;cases e;exact⟨vs,e2,IsL.ofImm m i1⟩
   | dct ks l=>
     obtain⟨b,vs,e,_,i1,q⟩:=Is.dct_iff.mp h;cases e;exact⟨vs,IsL.ofImm m i1,q⟩
   | _=>simp[D.flat] at m
  ·rw[Az0 (Ne.symm n)]
   have q:=R.slot j s z;cases s with
   | no=>trivial
   | bor e=>obtain⟨v',e1,i1⟩:=q;exact⟨v',e1,i1.mono k⟩
   | own e=>obtain⟨b,e1,n1,f,t⟩:=q;exact⟨b,e1,n1,f,t.mono k fun o z=>x b o z n1.1⟩
   | hnd=>exact q
 ·have fresh:∀(j:Nat) (e:D),ρ[j]?=some (.own e)->σ[j]?=some (some (.ref a))->False:=fun j e h1 h2=>by
   obtain⟨_,_,o,h',_⟩:=R.owOk ⟨j,e,h1,h2⟩;rw[hn] at h';cases h'
  rcases zb4 h1 with⟨m1,z⟩ | ⟨n,z⟩
  ·rcases zb4 h2 with⟨m2,z'⟩ | ⟨n',z'⟩
   ·rw[m1,m2]
   ·rw[Az0 (Ne.symm n')] at h4
    rcases zb4 h3 with⟨_,y⟩ | ⟨n3,_⟩
    ·cases y;exact(fresh j' e' z' h4).elim
    ·exact absurd m1 n3
  ·rcases zb4 h2 with⟨m2,z'⟩ | ⟨n',z'⟩
   ·rw[Az0 (Ne.symm n)] at h3
    rcases zb4 h4 with⟨_,y⟩ | ⟨n3,_⟩
    ·cases y;exact(fresh j e z h3).elim
    ·exact absurd m2 n3
   ·rw[Az0 (Ne.symm n)] at h3
    rw[Az0 (Ne.symm n')] at h4;exact R.uniq j j' b e e' z z' h3 h4
 ·rcases yo4 w with w | w
  ·exact w
  ·subst w;rw[hn] at e;cases e
noncomputable def put (ρ:Rho) (i:Nat) (d:D):Option Rho:=if i<ρ.length then some (ρ.set i (.bor d)) else none
noncomputable def putN (ρ:Rho) (i:Nat) (d:D):Option Rho:=if i<ρ.length then some (ρ.set i (if d.flat=true then .own d else .bor d)) else none
noncomputable def wn3 (S:Type) (i:Nat) (f:Fn S):FnS S:=fun ρ st=>(f ρ st).bind fun d st1=>(zj2 (putN ρ i d) st1).bind fun ρ' st2=>.ok (.nx ρ') st2
noncomputable def wb5 (S:Type) (i:Nat) (f:Fn S):FnS S:=fun ρ st=>(f ρ st).bind fun d st1=>(zj2 (put ρ i d) st1).bind fun ρ' st2=>.ok (.nx ρ') st2
set_option tactic.hygienic true in
theorem wh7 {f:Fn S} {D:xl0} (h:tS c (wn3 S i f) D σ H):wt2 (tD c .F f) (xo2 i) D σ H:=
 zi3 (ye6 (g:=.F) h) fun v H1 hI11=>by
  obtain⟨ρ,d,st0,st1,R,ok,R1,ok1,e,z,w⟩:=hI11;obtain⟨ρ',e1,w⟩:=zb7.mp (za5.mp w);unfold putN at e1;split at e1
  ·rename_i hi
   by_cases m:d.flat=true
   ·rw[if_pos m] at e1
    cases e1;obtain⟨a,rfl,mu,av,_⟩:=xj3 z.1 m;obtain⟨R2,F2⟩:=R.setO (i:=i) ok e ok1 hi z.1 m (z.2 a rfl mu);exact w (σ.set i (some (.ref a))) H1 F2 ok1 R2
   ·rw[if_neg m] at e1
    cases e1;exact w _ H1 (e.frm.trans zh0) ok1 (R1.setB hi z.1)
  ·cases e1
set_option tactic.hygienic true in
theorem wm5 {f:Fn S} {D:xl0} (h:tS c (wb5 S i f) D σ H):wt2 (tD c .B f) (xo2 i) D σ H:=
 zi3 (ye6 (g:=.B) h) fun v H1 hI12=>by
  obtain⟨ρ,d,st0,st1,R,ok,R1,ok1,e,z,w⟩:=hI12;obtain⟨ρ',e1,w⟩:=zb7.mp (za5.mp w);unfold put at e1;split at e1
  ·rename_i hi
   cases e1;exact w _ H1 (e.frm.trans zh0) ok1 (R1.setB hi z)
  ·cases e1
theorem zb9 {x:Str} {e:Expr} {f:Fn S} {p pos:Pos} (hN:X.N.Nodup) (hi:X.N[i]?=some x) (hx:Loc X.env.scope x) (he:DE X c .F e f) (hs:swapsWith e (some (.Name x p)) pos.line X.env=pure false:=by rfl) (hf:X.fn x=true\/X.env.scope.names.lookup x=some .local:=by first | exact .inl rfl | exact .inr rfl | assumption) :
 DS X c (.Assign [.Name x p] e pos) (wn3 S i f):=(zy8 hN hi hx he hs hf).imp fun D σ H q=>wh7 q
theorem xx8 {x:Str} {e:Expr} {f:Fn S} {p pos:Pos} (hN:X.N.Nodup) (hi:X.N[i]?=some x) (hx:Loc X.env.scope x) (he:DE X c .B e f) (hs:swapsWith e (some (.Name x p)) pos.line X.env=pure false:=by rfl) (hf:X.fn x=true\/X.env.scope.names.lookup x=some .local:=by first | exact .inl rfl | exact .inr rfl | assumption) :
 DS X c (.Assign [.Name x p] e pos) (wb5 S i f):=(zy8 hN hi hx he hs hf).imp fun D σ H q=>wm5 q
noncomputable abbrev FnG:=D->Rho->Option Rho
noncomputable abbrev wk5:=List D->Rho->Option Rho
noncomputable def tG {S:Type} {W:Wd S} (c:Dx W) (G:FnG):TG:=fun v σ H Q=>∃ρ d ρ' st,Rep c H σ ρ/\W.ok st H/\Is c.K (Av c σ ρ) H d v/\G d ρ=some ρ'/\∀σ',Rep c H σ' ρ'->Frm c H σ ρ H σ' ρ'->Q σ' H
noncomputable def tGs {S:Type} {W:Wd S} (c:Dx W) (G:wk5):TGs:=fun vs σ H Q=>∃ρ l ρ' st,Rep c H σ ρ/\W.ok st H/\IsL c.K (Av c σ ρ) H l vs/\G l ρ=some ρ'/\∀σ',Rep c H σ' ρ'->Frm c H σ ρ H σ' ρ'->Q σ' H
noncomputable def DG (X:Cx) {S:Type} {W:Wd S} (c:Dx W) (e:Expr) (G:FnG):Prop:=PG X e (tG c G)
noncomputable def DGs (X:Cx) {S:Type} {W:Wd S} (c:Dx W) (e:List Expr) (G:wk5):Prop:=PGs X e (tGs c G)
theorem PG.imp {X:Cx} {e:Expr} {t t':TG} (h:PG X e t) (i:∀v σ H Q,t' v σ H Q->t v σ H Q):PG X e t':=fun A3 s σ H v u Q I r q=>h A3 s σ H v u Q I r (i v σ H Q q)
theorem PGs.imp {X:Cx} {e:List Expr} {t t':TGs} (h:PGs X e t) (i:∀v σ H Q,t' v σ H Q->t v σ H Q):PGs X e t':=fun A3 s σ H v u Q I r q=>h A3 s σ H v u Q I r (i v σ H Q q)
noncomputable def gN (i:Nat):FnG:=fun d ρ=>put ρ i d
set_option tactic.hygienic true in
theorem zb1 {x:Str} {pos:Pos} (hN:X.N.Nodup) (hi:X.N[i]?=some x) (hx:Loc X.env.scope x) (hf:X.fn x=true\/X.env.scope.names.lookup x=some .local:=by first | exact .inl rfl | exact .inr rfl | assumption):DG X c (.Name x pos) (gN i):=
 (yr8 hN hi hx hf).imp fun v σ H Q hI13=>by
  obtain⟨ρ,d,ρ',st,R,ok,z,e,q⟩:=hI13;unfold gN put at e;split at e
  ·rename_i h
   cases e;exact q _ (R.setB h z) zh0
  ·cases e
noncomputable def gsNil:wk5:=fun l ρ=>match l with
 | []=>some ρ
 | _=>none
noncomputable def gsCons (G:FnG) (Gs:wk5):wk5:=fun l ρ=>match l with
 | d::r=>(G d ρ).bind fun ρ1=>Gs r ρ1
 | []=>none
theorem zj5:DGs X c [] gsNil:=xc4.imp fun v σ H Q hI14=>by
 obtain⟨ρ,l,ρ',st,R,ok,z,e,q⟩:=hI14;cases l with
 | nil=>cases e;exact⟨IsL.nil.mp z,q σ R Frm.refl⟩
 | cons _ _=>cases e
theorem zb8 {e:Expr} {es:List Expr} {G:FnG} {Gs:wk5} (h1:DG X c e G) (h2:DGs X c es Gs) (hs:(assignEach (e::es) X.env).map (·.2)=assign e X.env::(assignEach es X.env).map (·.2):=by rfl):DGs X c (e::es) (gsCons G Gs):=
 (yc2 h1 h2 hs).imp fun v σ H Q hI15=>by
  obtain⟨ρ,l,ρ',st,R,ok,z,e,q⟩:=hI15;cases l with
  | nil=>cases e
  | cons d r=>
    obtain⟨v1,vs,e1,i1,j1⟩:=IsL.cons.mp z;have e:(G d ρ).bind (fun ρ1=>Gs r ρ1)=some ρ':=e;cases q1:G d ρ with
    | none=>rw[q1] at e;cases e
    | some ρ1=>
      rw[q1] at e;refine⟨v1,vs,e1,ρ,d,ρ1,st,R,ok,i1,q1,fun σ1 R1 F1=>?_⟩;exact⟨ρ1,r,ρ',st,R1,ok,j1.mono (F1.keepT R ok),e,fun σ2 R2 F2=>q σ2 R2 (F1.trans F2)⟩
noncomputable def gT (n:Nat) (Gs:wk5):FnG:=fun d ρ=>match d with
 | .tup l=>if l.length=n then Gs l ρ else none
 | _=>none
set_option tactic.hygienic true in
theorem zp9 {es:List Expr} {k:Nat} {pos:Pos} {Gs:wk5} {n:Nat} (hc:X.calm=true) (hK:c.K=X.K) (h:DGs X c es Gs) (hn:(assignEach es X.env).length=n:=by rfl) (hst:(assignEach es X.env).findIdx? (·.1)=none:=by rfl):DG X c (.Tuple es k pos) (gT n Gs):=
 (xt1 hc h hn hst).imp fun v σ H Q hI16=>by
  obtain⟨ρ,d,ρ',st,R,ok,z,e,q⟩:=hI16;cases d with
  | tup l=>
    obtain⟨a,vs,e1,s1,j1⟩:=Is.tup_sq z;have e:(if l.length=n then Gs l ρ else none)=some ρ':=e;split at e
    ·rename_i hl
     exact⟨a,vs,e1,by rw[<-hK];exact s1,by rw[<-j1.length];exact hl,ρ,l,ρ',st,R,ok,j1,e,q⟩
    ·cases e
  | _=>cases e
noncomputable def vh9 (S:Type) (G:FnG) (f:Fn S):FnS S:=fun ρ st=>(f ρ st).bind fun d st1=>(zj2 (G d ρ) st1).bind fun ρ' st2=>.ok (.nx ρ') st2
theorem yg3 {tg e:Expr} {f:Fn S} {G:FnG} {pos:Pos} (he:DE X c .B e f) (hg:DG X c tg G) (hs:swapsWithSole [tg] e pos.line X.env=pure false:=by rfl) (hw:swappedStores [tg] e X.env=pure none:=by rfl)
 (h1:(assignEach [tg] X.env).map (·.2)=[assign tg X.env]:=by rfl):DS X c (.Assign [tg] e pos) (vh9 S G f):=
 (yv9 he hg hs hw h1).imp fun D σ H q=>zi3 (ye6 (g:=.B) q) fun v H1 hI17=>by
  obtain⟨ρ,d,st0,st1,R,ok,R1,ok1,e,z,w⟩:=hI17;obtain⟨ρ',e1,w⟩:=zb7.mp (za5.mp w);exact⟨ρ,d,ρ',st1,R1,ok1,z,e1,fun σ' R' F'=>w σ' H1 (e.frm.trans F') ok1 R'⟩
end
noncomputable def xk8 {S:Type} {W:Wd S} (c:Dx W) (σ:St) (ρ:Rho) (H:Hp) (J:It) (l:List D):Prop:=∀(c':Dx W) (hK:c'.K=c.K) σ2 ρ2 H2 (st2:S),zj8 (Av c σ ρ) (Av c' σ2 ρ2) H H2->Rep c' H2 σ2 ρ2->W.ok st2 H2->∀i:Nat,
 (∀d,l[i]?=some d->J.go i H2/\∀x H3,J.yld i H2 x H3->yt9 H2 H3/\Is c.K (Av c' σ2 ρ2) H3 d x)/\(l.length<=i->J.stop i H2)
noncomputable abbrev FnI (S:Type):=FnA S
noncomputable def tI {S:Type} {W:Wd S} (c:Dx W) (f:FnI S):TI:=fun σ H R=>∃ρ st,Rep c H σ ρ/\W.ok st H/\
 wpR (f ρ st) (fun l st'=>∀J H',Ext W H H'->W.ok st' H'->xk8 c σ ρ H' J l->R J H') fun x st'=>∀H',Ext W H H'->W.ok st' H'->c.Ex x st' H'
noncomputable def DI (X:Cx) {S:Type} {W:Wd S} (c:Dx W) (tg iter:Expr) (f:FnI S):Prop:=PI X tg iter (tI c f)
theorem PI.imp {X:Cx} {tg e:Expr} {t t':TI} (h:PI X tg e t) (i:∀σ H R,t' σ H R->t σ H R):PI X tg e t':=fun A3 s σ H R I q=>h A3 s σ H R I (i σ H R q)
section
variable {X:Cx} {S:Type} {W:Wd S} {c:Dx W} {tg:Expr}
noncomputable def xz7 (S:Type) (sel:D->Option (List D)) (f:Fn S):FnI S:=fun ρ st=>(f ρ st).bind fun d st1=>zj2 (sel d) st1
noncomputable def D.tup?:D->Option (List D)
 | .tup l=>some l
 | _=>none
noncomputable def D.lst?:D->Option (List D)
 | .lst l=>some l
 | _=>none
theorem wj6 {e:Expr} {f:Fn S} (hK:c.K=X.K) (h:DE X c .B e f):DI X c tg e (xz7 S D.tup? f):=
 (wy0 h).imp fun σ H R hI18=>by
  obtain⟨ρ,st,R0,ok,w⟩:=hI18;refine⟨ρ,st,R0,ok,za7 (za5.mp w) (fun d st1 q v H1 e ok1 z=>?_) fun x st1 q=>q⟩;obtain⟨l,e1,q⟩:=zb7.mp q;cases d with
  | tup m=>
    cases e1;obtain⟨a,vs,ev,s0,i⟩:=Is.tup_iff.mp z;have s:SqT c.K H1 a vs:=.of s0;refine⟨a,ev,⟨vs,by rw[<-hK];exact s⟩,q _ H1 e ok1 ?_⟩;intro c' hK' σ2 ρ2 H2 st2 k R2 ok2 j;have s2:SqT c.K H2 a vs:=.of (k.tup a vs s0);have i2:IsL c.K (Av c' σ2 ρ2) H2 l vs:=i.mono k;refine⟨fun d hd=>?_,fun hl=>⟨vs,by rw[<-hK];exact s2,by rw[<-i2.length];exact hl⟩⟩;obtain⟨v1,hv,iv⟩:=i2.get hd;exact⟨⟨vs,v1,by rw[<-hK];exact s2,hv⟩,fun x H3 hI19=>by
     obtain⟨e3,y⟩:=hI19;subst e3;have hx:=y vs (by rw[<-hK];exact s2);rw[hv] at hx;cases hx;exact⟨yt9.refl _,iv⟩⟩
  | _=>cases e1
theorem vc6 {e:Expr} {f:Fn S} (hK:c.K=X.K) (h:DE X c .B e f):DI X c tg e (xz7 S D.lst? f):=
 (wo5 h).imp fun σ H R hI20=>by
  obtain⟨ρ,st,R0,ok,w⟩:=hI20;refine⟨ρ,st,R0,ok,za7 (za5.mp w) (fun d st1 q v H1 e ok1 z=>?_) fun x st1 q=>q⟩;obtain⟨l,e1,q⟩:=zb7.mp q;cases d with
  | lst m=>
    cases e1;obtain⟨a,vs,ev,n,s,i⟩:=Is.lst_iff.mp z;refine⟨a,ev,⟨vs,.of s⟩,q _ H1 e ok1 ?_⟩;intro c' hK' σ2 ρ2 H2 st2 k R2 ok2 j;have s2:H2 a=some (.lst vs):=(k.nod a _ n s).2;have i2:IsL c.K (Av c' σ2 ρ2) H2 l vs:=i.mono k;refine⟨fun d hd=>?_,fun hl=>⟨vs,.of s2,by rw[<-i2.length];exact hl⟩⟩;obtain⟨v1,hv,iv⟩:=i2.get hd;exact⟨⟨vs,v1,.of s2,hv⟩,fun x H3 hI21=>by
     obtain⟨e3,y⟩:=hI21;subst e3;have hx:=y vs (.of s2);rw[hv] at hx;cases hx;exact⟨yt9.refl _,iv⟩⟩
  | _=>cases e1
noncomputable def zp0 (lo:Int) (n:Nat):List D:=(List.range n).map fun (k:Nat)=>D.int (lo+(k:Int))
noncomputable def yj0:List D->Option (List D)
 | [.int j]=>if -(2 ^ 62)<=j/\j<2 ^ 62 then some (zp0 0 j.toNat) else none
 | _=>none
noncomputable def xd7 (S:Type) (o:List D->Option (List D)) (f:FnA S):FnI S:=fun ρ st=>(f ρ st).bind fun l st1=>zj2 (o l) st1
theorem xo0 {σ:St} {ρ:Rho} {H:Hp} (lo:Int) (n:Nat):xk8 c σ ρ H (Itr lo n) (zp0 lo n):=by
 intro c' hK' σ2 ρ2 H2 st2 k R2 ok2 j;refine⟨fun d hd=>?_,fun hl=>?_⟩
 ·unfold zp0 at hd
  rw[Ag0] at hd;cases q:(List.range n)[j]? with
  | none=>rw[q] at hd;cases hd
  | some m=>
    rw[q] at hd;cases hd;obtain⟨h1,h2⟩:=Ac0.mp q;rw[List.getElem_range] at h2;subst h2;rw[List.length_range] at h1;exact⟨h1,fun x H3 ⟨e3,e4⟩=>by subst e3 e4;exact⟨yt9.refl _,Is.int_iff.mpr rfl⟩⟩
 ·unfold zp0 at hl
  rw[Aa0,List.length_range] at hl;exact hl
set_option tactic.hygienic true in
theorem zf8 {a:Expr} {f:FnA S} {p pos:Pos} (hg:Gl X "range") (hm:X.mg "range" = none) (ha:DA X c [a] f) (hs:starEach [a] X.env=[(false,eval a X.env)]:=by rfl):DI X c tg (.Call (.Name "range" p) [a] [] pos) (xd7 S yj0 f):=
 (xt0 hg hm ha hs).imp fun σ H R hI22=>by
  obtain⟨ρ,st,R0,ok,w⟩:=hI22;refine⟨ρ,st,R0,ok,za7 (za5.mp w) (fun l st1 q vs H1 e ok1 z=>?_) fun x st1 q=>q⟩;obtain⟨m,e1,q⟩:=zb7.mp q;unfold yj0 at e1;split at e1
  ·rename_i j
   split at e1
   ·rename_i h
    cases e1;obtain⟨v,r,e2,i2,i3⟩:=IsL.cons.mp z;rw[IsL.nil.mp i3,Is.int_iff.mp i2] at e2;exact⟨j,e2,h.1,h.2,q _ H1 e ok1 (xo0 0 _)⟩
   ·cases e1
  ·cases e1
noncomputable def frz1 (i:Nat) (ρ:Rho):Rho:=match ρ[i]? with
 | some (.own d)=>ρ.set i (.bor d)
 | _=>ρ
noncomputable def frz:List Nat->Rho->Rho
 | [],ρ=>ρ
 | i::r,ρ=>frz r (frz1 i ρ)
set_option tactic.hygienic true in
theorem Rep.frz1 {H:Hp} {σ:St} {ρ:Rho} {st:S} (i:Nat) (R:Rep c H σ ρ) (ok:W.ok st H):Rep c H σ (frz1 i ρ)/\Frm c H σ ρ H σ (L2.frz1 i ρ):=by
 unfold L2.frz1;split
 ·rename_i d hi
  obtain⟨a,e1,n,f,t⟩:=R.slot i _ hi;have e1':=zn2 e1;have hlt:i<ρ.length:=(Ac0.mp hi).1;have sub:∀b,Ow σ (ρ.set i (.bor d)) b->Ow σ ρ b/\b≠a:=fun b hI23=>by
   obtain⟨j,e,h1,h2⟩:=hI23;rcases zb4 h1 with⟨_,z⟩ | ⟨nj,z⟩
   ·cases z
   ·refine⟨⟨j,e,z,h2⟩,fun q=>?_⟩
    subst q;exact nj (R.uniq j i b e d z hi h2 e1')
  have k:zj8 (Av c σ ρ) (Av c σ (ρ.set i (.bor d))) H H:=⟨fun _ _ z _=>z,fun b o a z=>⟨⟨a.1,fun w=>a.2.1 (sub b w).1,a.2.2⟩,z⟩⟩;refine⟨⟨by rw[Bx0];exact R.len,R.frame,fun j s hs=>?_,R.avl,fun j j' b e e' h1 h2 h3 h4=>?_⟩,⟨fun b o h _ _=>h,fun b o _ _ w=>(sub b w).1⟩⟩
  ·rcases zb4 hs with⟨ej,z⟩ | ⟨nj,z⟩
   ·subst z ej
    exact⟨_,e1,(t.mono k fun o z=>z).isTop ⟨n.1,fun w=>(sub a w).2 rfl,n.2⟩⟩
   ·have q:=R.slot j s z
    cases s with
    | no=>trivial
    | bor e=>obtain⟨v',e1,i1⟩:=q;exact⟨v',e1,i1.mono k⟩
    | own e=>obtain⟨b,e1,n1,f,t⟩:=q;exact⟨b,e1,n1,f,t.mono k fun o z=>z⟩
    | hnd=>exact q
  ·rcases zb4 h1 with⟨_,z⟩ | ⟨_,z⟩
   ·cases z
   ·rcases zb4 h2 with⟨_,z'⟩ | ⟨_,z'⟩
    ·cases z'
    ·exact R.uniq j j' b e e' z z' h3 h4
 ·exact⟨R,Frm.refl⟩
theorem Rep.frz {H:Hp} {σ:St} {st:S} (ok:W.ok st H):∀(l:List Nat) {ρ:Rho},Rep c H σ ρ->Rep c H σ (L2.frz l ρ)/\Frm c H σ ρ H σ (L2.frz l ρ)
 | [],ρ,R=>⟨R,Frm.refl⟩
 | i::r,ρ,R=>by
   obtain⟨R1,F1⟩:=R.frz1 i ok;obtain⟨R2,F2⟩:=Rep.frz ok r R1;exact⟨R2,F1.trans F2⟩
noncomputable def xo3 (S:Type) (G:FnG) (B:FnS S):List D->FnS S
 | [],ρ,st=>.ok (.nx ρ) st
 | d::r,ρ,st=>(zj2 (G d ρ) st).bind fun ρ1 st1=>(B ρ1 st1).bind fun fl st2=>match fl with
   | .nx ρ2=>xo3 S G B r ρ2 st2
   | .ct ρ2=>xo3 S G B r ρ2 st2
   | .bk ρ2=>.ok (.nx ρ2) st2
   | .rt d=>.ok (.rt d) st2
noncomputable def vh6 (S:Type) (fz:List Nat) (f:FnI S) (G:FnG) (B:FnS S):FnS S:=fun ρ st=>(f (frz fz ρ) st).bind fun l st1=>xo3 S G B l (frz fz ρ) st1
theorem zk4 {iter:Expr} {body:List Stmt} {f:FnI S} {G:FnG} {B:FnS S} {pos:Pos} (fz:List Nat) (hp:PassesOwn (model X.prog X.w) X.A X.env X.xe) (hc:X.calm=true) (hi:DI X c tg iter f) (hg:DG X c tg G) (hb:DSs X c body B)
 (hs:∀x,foldedSetIterable iter X.env x=pure x:=by intro _;rfl):DS X c (.For tg iter body [] pos) (vh6 S fz f G B):=
 (wx7 hp hc hi hg hb hs).imp fun D σ H hI24=>by
  obtain⟨ρ,st,R,ok,w⟩:=hI24;obtain⟨Rf,Ff⟩:=R.frz ok fz;refine⟨frz fz ρ,st,Rf,ok,za7 (za5.mp w) (fun l st1 q J H1 e ok1 it=>?_) fun x st1 q H1 e ok1=>q H1 (e.f0 R) ok1⟩;have R1:=Rf.ext ok e;refine⟨fun i m σ2 H2=>∃ρ2 st2,i<=l.length/\m=l.length-i/\Frm c H1 σ (frz fz ρ) H2 σ2 ρ2/\Rep c H2 σ2 ρ2/\W.ok st2 H2/\wpR (xo3 S G B (l.drop i) ρ2 st2) (ye4 c D σ2 ρ2 H2) (xz5 c),⟨l.length,frz fz ρ,st1,An0 _,rfl,Frm.refl,R1,ok1,?_⟩,?_⟩
  ·rw[List.drop_zero]
   exact za7 q (fun fl st2 q=>(q.from Ff).from e.frm) fun x st2 q=>q
  ·rintro i m σ2 H2 ⟨ρ2,st2,hle,rfl,F2,R2,ok2,w2⟩
   obtain⟨h1,h2⟩:=it c rfl σ2 ρ2 H2 st2 (F2.keepT R1 ok1) R2 ok2 i;by_cases hlt:i<l.length
   ·have hd:l[i]?=some l[i]:=Ab0 hlt
    obtain⟨go,yl⟩:=h1 _ hd;rw[List.drop_eq_getElem_cons hlt] at w2;refine .inr ⟨go,fun σ3 H3=>∃ρ3 st3,Frm c H1 σ (frz fz ρ) H3 σ3 ρ3/\Rep c H3 σ3 ρ3/\W.ok st3 H3/\wpR (xo3 S G B (l.drop (i+1)) ρ3 st3) (ye4 c D σ3 ρ3 H3) (xz5 c),fun σ3 H3 ⟨ρ3,st3,F3,R3,ok3,w3⟩=>⟨l.length-(i+1),by omega,ρ3,st3,hlt,rfl,F3,R3,ok3,w3⟩,fun x H3 y=>?_⟩;obtain⟨sm,iv⟩:=yl x H3 y;have ex:Ext W H2 H3:=sm.ext;have ok3:W.ok st2 H3:=W.stay st2 H2 H3 ok2 fun b o _ hb=>sm b o hb
    have R3:=R2.ext ok2 ex;obtain⟨ρ4,e4,w4⟩:=zb7.mp (za5.mp w2);refine⟨ρ2,_,ρ4,st2,R3,ok3,iv,e4,fun σ4 R4 F4=>?_⟩;have F24:Frm c H2 σ2 ρ2 H3 σ4 ρ4:=ex.frm.trans F4;refine⟨ρ4,st2,R4,ok3,za7 (za5.mp w4) (fun fl st5 q5=>?_) fun x st5 q=>q⟩;have nxt:∀ρ5,wpR (xo3 S G B (l.drop (i+1)) ρ5 st5) (ye4 c D σ2 ρ2 H2) (xz5 c)->Nx c (fun σ3 H3=>∃ρ3 st3,Frm c H1 σ (frz fz ρ) H3 σ3 ρ3/\Rep c H3 σ3 ρ3/\W.ok st3 H3/\wpR (xo3 S G B (l.drop (i+1)) ρ3 st3) (ye4 c D σ3 ρ3 H3) (xz5 c)) σ4 ρ4 H3 ρ5 st5:=
     fun ρ5 q5 σ5 H5 F5 ok5 R5=>⟨ρ5,st5,F2.trans (F24.trans F5),R5,ok5,za7 q5 (fun fl st6 q=>q.from (F24.trans F5)) fun x st6 q=>q⟩
    cases fl with
    | nx ρ5=>exact nxt ρ5 q5
    | ct ρ5=>exact nxt ρ5 q5
    | bk ρ5=>exact fun σ5 H5 F5 ok5 R5=>q5 σ5 H5 (F24.trans F5) ok5 R5
    | rt d=>exact q5
   ·have e0:i=l.length:=by omega
    subst e0;rw[List.drop_length] at w2;exact .inl ⟨h2 (Ae0 _),w2 σ2 H2 Frm.refl ok2 R2⟩
end
theorem zh6:∀{l m:List D},D.immL l=true->D.immL m=true->D.immL (l++m)=true
 | [],_,_,h=>h
 | d::l,m,h,k=>by
   have h':d.imm=true/\D.immL l=true:=by simpa [D.immL] using h
   show (d.imm&&D.immL (l++m))=true;rw[h'.1,zh6 h'.2 k];rfl
noncomputable abbrev Dx.avoid {S:Type} {W:Wd S} (c:Dx W) (av:Addr->Prop):Dx W:=⟨c.K,c.H0,c.Ex,av⟩
noncomputable def pickR (ρ:Rho) (ixs:List (Option Nat)):Rho:=ixs.map fun o=>match o with
 | some i=>(match ρ[i]? with
   | some (.bor d)=>.bor d
   | some (.own d)=>.bor d
   | some .hnd=>.hnd
   | _=>.no)
 | none=>.no
section
variable {S:Type} {W:Wd S} {c:Dx W} {H H1:Hp} {σ:St} {ρ:Rho} {st:S}
theorem yg9 {σ':St} {ixs:List (Option Nat)} {b:Addr}:¬Ow σ' (pickR ρ ixs) b:=fun hI25=>by
 obtain⟨j,d,h,_⟩:=hI25;unfold pickR at h;rw[Ag0] at h;cases q:ixs[j]? with
 | none=>rw[q] at h;cases h
 | some o=>
   rw[q] at h;cases o with
   | none=>cases h
   | some i=>
     have h:(match ρ[i]? with | some (.bor d)=>Sl.bor d | some (.own d)=>.bor d | some .hnd=>.hnd | _=>.no)=Sl.own d:=Option.some.inj h;split at h<;>cases h
theorem Rep.pick {D:Addr} (R:Rep c H σ ρ) (ok:W.ok st H) (hD:H D=none) (ixs:List (Option Nat)):Rep (c.avoid fun b=>c.av b\/b=D) (upd H D (.lst [])) (L2.pick σ ixs) (pickR ρ ixs) where
 len:=by unfold L2.pick pickR;rw[Aa0,Aa0]
 frame:=fun b o h n=>by
  have e:H b=some o:=R.frame b o h n;show upd H D _ b=some o;rw[zb2 (zb6 e hD)];exact e
 uniq:=fun i j a d e h1 _ _ _=>(yg9 (σ':=L2.pick σ ixs) (ρ:=ρ) (ixs:=ixs) (b:=a) ⟨i,d,h1,by assumption⟩).elim
 avl:=fun b h=>by
  rcases h with h | h
  ·obtain⟨n,z,o,h',q⟩:=R.avl b h
   exact⟨n,z,o,by show upd H D _ b=some o;rw[zb2 (zb6 h' hD)];exact h',q⟩
  ·subst h
   exact⟨zr9 ok hD,R.none0 ok hD,_,zb5,(fun u z=>by cases z),fun ob u z=>by cases z⟩
 slot:=fun j s hs=>by
  unfold pickR at hs;rw[Ag0] at hs;have kk:∀{A:Addr->Prop},(∀b,A b->¬W.mv b/\¬c.av b)->zj8 A (Av (c.avoid fun b=>c.av b\/b=D) (L2.pick σ ixs) (pickR ρ ixs)) H (upd H D (.lst [])):=fun {A} hA=>
   zl3 (fun b o e _=>by rw[zb2 (zb6 e hD)];exact e) fun b o a e=>⟨⟨(hA b a).1,yg9,fun w=>w.elim (hA b a).2 (fun z=>by subst z;rw[hD] at e;cases e)⟩,by rw[zb2 (zb6 e hD)];exact e⟩
  cases q:ixs[j]? with
  | none=>rw[q] at hs;cases hs
  | some o=>
    rw[q] at hs;have ej:(L2.pick σ ixs)[j]?=(ixs[j]?).map (fun o=>match o with | some i=>(σ[i]?).join | none=>none):=by
     unfold L2.pick;rw[Ag0]
     all_goals rfl
    rw[ej,q];cases o with
    | none=>cases hs;trivial
    | some i=>
      have hs:(match ρ[i]? with | some (.bor d)=>Sl.bor d | some (.own d)=>.bor d | some .hnd=>.hnd | _=>.no)=s:=Option.some.inj hs;show wk2 _ _ _ (σ[i]?).join s;cases h:ρ[i]? with
      | none=>rw[h] at hs;cases hs;trivial
      | some s'=>
        rw[h] at hs;have z:=R.slot i s' h;cases s' with
        | no=>cases hs;trivial
        | hnd=>cases hs;exact z
        | bor d=>cases hs;obtain⟨v,e1,i1⟩:=z;exact⟨v,e1,i1.mono (kk fun b a=>⟨a.1,a.2.2⟩)⟩
        | own d=>
          cases hs;obtain⟨a,e1,n,f,t⟩:=z;refine⟨.ref a,e1,?_⟩;have t':=t.mono (c:=c) (kk fun b a=>⟨a.1,a.2.2⟩) fun o z=>by rw[zb2 (zb6 z hD)];exact z
          obtain⟨o,ho,_⟩:=t.there;exact Top.isTop (c:=c) ⟨n.1,yg9,fun w=>w.elim n.2 (fun z=>by subst z;rw[hD] at ho;cases ho)⟩ t'
end
noncomputable def zy4 (S:Type) (G:FnG) (t:FnT S) (e:Fn S):List D->List D->Rho->S->Res S (List D)
 | [],acc,_,st=>.ok acc st
 | d::r,acc,ρ,st=>(zj2 (G d ρ) st).bind fun ρ1 st1=>(t ρ1 st1).bind fun b st2=>if b=true then
    (e ρ1 st2).bind fun y st3=>if y.imm=true/\acc.length<sizeLine then zy4 S G t e r (acc++[y]) ρ1 st3 else .bad
   else zy4 S G t e r acc ρ1 st2
noncomputable def xo4 (S:Type) (fz:List Nat) (ixs:List (Option Nat)) (f:FnI S) (G:FnG) (t:FnT S) (e:Fn S):Fn S:=fun ρ st=>(f (frz fz ρ) st).bind fun l st1=>(zy4 S G t e l [] (pickR (frz fz ρ) ixs) st1).bind fun r st2=>.ok (.lst r) st2
noncomputable def DTs (X:Cx) {S:Type} {W:Wd S} (c:Dx W) (ifs:List Expr) (t:FnT S):Prop:=PTs X ifs (tDT c t)
theorem PTs.imp {X:Cx} {e:List Expr} {t t':TT} (h:PTs X e t) (i:∀σ H Q,t' σ H Q->t σ H Q):PTs X e t':=fun A3 s σ H Q I q=>h A3 s σ H Q I (i σ H Q q)
noncomputable def xx4 (S:Type):FnT S:=fun _ st=>.ok true st
theorem zo0 {X:Cx} {S:Type} {W:Wd S} {c:Dx W}:DTs X c [] (xx4 S):=wn7.imp fun σ H Q ⟨ρ,st,R,ok,w⟩=>w H Ext.refl ok
theorem xe0 {X:Cx} {S:Type} {W:Wd S} {c:Dx W} {e:Expr} {t:FnT S} (h:DT X c e t):DTs X c [e] t:=wn6 h
section
variable {X:Cx} {S:Type} {W:Wd S} {c:Dx W} {N':List Str} {ixs:List (Option Nat)} {scope:Scope} {tg iter elt:Expr} {ifs:List Expr} {f:FnI S} {G:FnG} {t:FnT S} {e:Fn S} {pos:Pos} {g:Gr}
noncomputable def gEx {S:Type} {W:Wd S} (c:Dx W) (G:FnG):TG:=fun v σ H Q=>∃av,tG (c.avoid av) G v σ H Q
noncomputable def tEx {S:Type} {W:Wd S} (c:Dx W) (t:FnT S):TT:=fun σ H Q=>∃av,tDT (c.avoid av) t σ H Q
noncomputable def eEx {S:Type} {W:Wd S} (c:Dx W) (e:Fn S):TE:=fun σ H Q=>∃av,tD (c.avoid av) .R e σ H Q
noncomputable def vo2 (S:Type) {W:Wd S} (c:Dx W) (G:FnG) (t:FnT S) (e:Fn S) (l:List D) (A:Addr) (H1:Hp) (Pq:D->S->Prop) (Pe:Exn->S->Prop) (i:Nat) (σ2:St) (H2:Hp):Prop:=
 ∃ρ2 st2 acc ys,Rep (c.avoid fun b=>c.av b\/b=A) H2 σ2 ρ2/\(∀b,¬Ow σ2 ρ2 b)/\W.ok st2 H2/\Ext W H1 H2/\H2 A=some (.lst ys)/\D.immL acc=true/\IsL c.K (fun _=>False) H2 acc ys/\
  wpR ((zy4 S G t e (l.drop i) acc ρ2 st2).bind fun r st2=>.ok (.lst r) st2) Pq Pe
noncomputable def cPq (S:Type) {W:Wd S} (c:Dx W) (g:Gr) (σ:St) (ρ:Rho) (H:Hp) (Q:VK):D->S->Prop:=fun d st'=>∀v H',Ext W H H'->W.ok st' H'->Val c g σ ρ H H' d v->Q v H'
noncomputable def cPe (S:Type) {W:Wd S} (c:Dx W) (H:Hp):Exn->S->Prop:=fun x st'=>∀H',Ext W H H'->W.ok st' H'->c.Ex x st' H'
theorem xr4 {fz:List Nat} {σ:St} {H:Hp} {Q:VK} (h:tD c g (xo4 S fz ixs f G t e) σ H Q):wm7 (tI c f) ixs (gEx c G) (tEx c t) (eEx c e) σ H Q:=by
 obtain⟨ρ,st,R,ok,w⟩:=h;obtain⟨Rf,Ff⟩:=R.frz ok fz;refine⟨frz fz ρ,st,Rf,ok,za7 (za5.mp w) (fun l st1 q J H1 e1 ok1 it=>?_) fun x st1 q=>q⟩;have R1:=R.ext ok e1;have Rf1:=Rf.ext ok e1;intro A hA;have hAm:¬W.mv A:=zr9 ok1 hA;have hA0:H A=none:=e1.none ok1 hA;refine⟨fun i m σ2 H2=>i<=l.length/\m=l.length-i/\vo2 S c G t e l A H1 (cPq S c g σ ρ H Q) (cPe S c H) i σ2 H2,⟨l.length,An0 _,rfl,pickR (frz fz ρ) ixs,st1,[],[],Rf1.pick ok1 hA ixs,fun b=>yg9,zj4 ok1 hA,Ext.laid hA,zb5,rfl,IsL.nil.mpr rfl,by rw[List.drop_zero];exact q⟩,?_⟩;intro i m σ2 H2 hI;obtain⟨hle,rfl,ρ2,st2,acc,ys,R2,no2,ok2,x2,hA2,im,il,w2⟩:=hI;have k2:zj8 (Av c σ (frz fz ρ)) (Av (c.avoid fun b=>c.av b\/b=A) σ2 ρ2) H1 H2:=zl3 (fun b o h tt=>x2 b o h fun m=>by
  obtain⟨o',h',n1,n2⟩:=W.live st1 H1 b ok1 m;rw[h] at h';cases h';rcases tt with⟨u,z⟩ | ⟨ob,u,z⟩
  ·exact n1 u z
  ·exact n2 ob u z) fun b o a h=>⟨⟨a.1,no2 b,fun w=>w.elim a.2.2 (fun z=>by subst z;rw[hA] at h;cases h)⟩,x2 b o h a.1⟩
 obtain⟨h1,h2⟩:=it (c.avoid fun b=>c.av b\/b=A) rfl σ2 ρ2 H2 st2 k2 R2 ok2 i;by_cases hlt:i<l.length
 ·have hd:l[i]?=some l[i]:=Ab0 hlt
  obtain⟨go,yl⟩:=h1 _ hd;rw[List.drop_eq_getElem_cons hlt] at w2;refine .inr ⟨go,fun σ3 H3=>vo2 S c G t e l A H1 (cPq S c g σ ρ H Q) (cPe S c H) (i+1) σ3 H3,fun σ3 H3 hh=>⟨l.length-(i+1),by omega,hlt,rfl,hh⟩,fun x H3 y=>?_⟩;obtain⟨sm,iv⟩:=yl x H3 y;have ex:Ext W H2 H3:=sm.ext;have ok3:W.ok st2 H3:=W.stay st2 H2 H3 ok2 fun b o _ hb=>sm b o hb
  have R3:=R2.ext (c:=c.avoid fun b=>c.av b\/b=A) ok2 ex;have w2:wpR (((zj2 (G l[i] ρ2) st2).bind fun ρ1 st1=>(t ρ1 st1).bind fun b st2=>if b=true then
   (e ρ1 st2).bind fun y st3=>if y.imm=true/\acc.length<sizeLine then zy4 S G t e (l.drop (i+1)) (acc++[y]) ρ1 st3 else .bad
   else zy4 S G t e (l.drop (i+1)) acc ρ1 st2).bind fun r st2=>.ok (.lst r) st2) (cPq S c g σ ρ H Q) (cPe S c H):=w2
  obtain⟨ρ4,e4,w4⟩:=zb7.mp (za5.mp (za5.mp w2));refine⟨(fun b=>c.av b\/b=A),ρ2,_,ρ4,st2,R3,ok3,iv,e4,fun σ4 R4 F4=>?_⟩;have no4:∀b,¬Ow σ4 ρ4 b:=fun b wb=>by
   obtain⟨n,_,o,ho,_⟩:=R4.owOk wb;exact no2 b (F4.own b o ho n wb)
  refine⟨(fun b=>c.av b\/b=A),ρ4,st2,R4,ok3,za7 (za5.mp w4) (fun b st5 q5 H5 x5 ok5=>?_) fun x st5 q H5 x5 ok5=>q H5 ((e1.trans x2).trans (ex.trans x5)) ok5⟩;have R5:=R4.ext (c:=c.avoid fun b=>c.av b\/b=A) ok3 x5;have hA5:H5 A=some (.lst ys):=x5 A _ (sm A _ hA2) hAm;cases b with
  | false=>
    exact⟨ρ4,st5,acc,ys,R5,no4,ok5,x2.trans (ex.trans x5),hA5,im,(il.ext ex ok2 fun _ z=>z.elim).ext x5 ok3 fun _ z=>z.elim,za5.mpr q5⟩
  | true=>
    refine⟨(fun b=>c.av b\/b=A),ρ4,st5,R5,ok5,za7 (za5.mp q5) (fun y st6 q6 v H6 x6 ok6 z6=>?_) fun x st6 q H6 x6 ok6=>q H6 ((e1.trans x2).trans (ex.trans (x5.trans x6))) ok6⟩;by_cases hy:y.imm=true/\acc.length<sizeLine
    ·rw[if_pos hy] at q6
     have hA6:H6 A=some (.lst ys):=x6 A _ hA5 hAm;have il6:IsL c.K (fun _=>False) H6 acc ys:=((il.ext ex ok2 fun _ z=>z.elim).ext x5 ok3 fun _ z=>z.elim).ext x6 ok5 fun _ z=>z.elim
     refine⟨ys,hA6,by rw[<-il6.length];exact hy.2,ρ4,st6,acc++[y],ys++[v],?_,no4,?_,?_,zb5,?_,?_,za5.mpr q6⟩
     ·-- the slots do not see the list
      have R6:=R5.ext (c:=c.avoid fun b=>c.av b\/b=A) ok5 x6;have nA:∀b,Av (c.avoid fun b=>c.av b\/b=A) σ4 ρ4 b->b≠A:=fun b a z=>a.2.2 (.inr z)
      have k:zj8 (Av (c.avoid fun b=>c.av b\/b=A) σ4 ρ4) (Av (c.avoid fun b=>c.av b\/b=A) σ4 ρ4) H6 (upd H6 A (.lst (ys++[v]))):=zl3 (fun b o h tt=>by
       have hb:b≠A:=fun z=>by
        subst z;rw[hA6] at h;cases h;rcases tt with⟨u,z⟩ | ⟨ob,u,z⟩<;>cases z
       rw[zb2 hb];exact h) fun b o a h=>⟨a,by rw[zb2 (nA b a)];exact h⟩
      refine⟨R6.len,fun b o h n=>?_,fun j s hs=>?_,fun b h=>?_,R6.uniq⟩
      ·have hb:b≠A:=fun z=>by
        subst z;have:=(R6.avl b (.inr rfl)).2.1;rw[show (c.avoid fun b'=>c.av b'\/b'=b).H0 b=c.H0 b from rfl] at this;rw[this] at h;cases h
       rw[zb2 hb];exact R6.frame b o h n
      ·have qs:=R6.slot j s hs
       cases s with
       | no=>trivial
       | bor d=>obtain⟨v',e1,i1⟩:=qs;exact⟨v',e1,i1.mono k⟩
       | own d=>obtain⟨a,ea,_,_,_⟩:=qs;exact(no4 a ⟨j,d,hs,zn2 ea⟩).elim
       | hnd=>exact qs
      ·obtain⟨n,z,o,h',qq⟩:=R6.avl b h
       by_cases hb:b=A
       ·subst hb
        exact⟨n,z,_,zb5,(fun u z=>by cases z),fun ob u z=>by cases z⟩
       ·exact⟨n,z,o,by rw[zb2 hb];exact h',qq⟩
     ·exact W.stay st6 H6 _ ok6 fun b o m h=>by
       have hb:b≠A:=fun z=>hAm (z▸m)
       rw[zb2 hb];exact h
     ·intro b o h n
      have hb:b≠A:=fun z=>by subst z;rw[hA] at h;cases h
      rw[zb2 hb];exact((x2.trans (ex.trans (x5.trans x6))) b o h n)
     ·exact zh6 im (by simp[D.immL,hy.1])
     ·have z6':Is c.K (fun _=>False) H6 y v:=Is.ofImm hy.1 z6
      have kk:zj8 (fun _=>False) (fun _=>False) H6 (upd H6 A (.lst (ys++[v]))):=zl3 (fun b o h tt=>by
       have hb:b≠A:=fun z=>by
        subst z;rw[hA6] at h;cases h;rcases tt with⟨u,z⟩ | ⟨ob,u,z⟩<;>cases z
       rw[zb2 hb];exact h) fun b o a h=>a.elim
      exact(il6.append (IsL.one z6')).mono kk
    ·rw[if_neg hy] at q6;exact q6.elim
 ·have e0:i=l.length:=by omega
  subst e0;rw[List.drop_length] at w2;refine .inl ⟨h2 (Ae0 _),w2 (.ref A) H2 (e1.trans x2) ok2 (New.val R ?_ g)⟩;exact Is.lst ⟨hAm,hA0⟩ hA2 (IsL.ofImm im il)
theorem zm4 (fz:List Nat) (CS:zl6 X N' ixs scope) (hc:X.calm=true) (hi:DI X c tg iter f)
 (hin:∀av cl C s H fp,DG (zi2 X N' scope cl C s H fp) (c.avoid av) tg G/\DTs (zi2 X N' scope cl C s H fp) (c.avoid av) ifs t/\DE (zi2 X N' scope cl C s H fp) (c.avoid av) .R elt e)
 (hs:∀x,foldedSetIterable iter X.env x=pure x:=by intro _;rfl):DE X c g (.ListComp elt [⟨tg,iter,ifs,0⟩] scope pos) (xo4 S fz ixs f G t e):=
 (wo7 (g:=gEx c G) (tc:=tEx c t) (te:=eEx c e) CS hc hi (fun cl C s H fp=>
  ⟨fun A3 s' σ H' v u Q I r ⟨av,q⟩=>(hin av cl C s H fp).1 A3 s' σ H' v u Q I r q,fun A3 s' σ H' Q I ⟨av,q⟩=>(hin av cl C s H fp).2.1 A3 s' σ H' Q I q,fun A3 s' σ H' Q I ⟨av,q⟩=>(hin av cl C s H fp).2.2 A3 s' σ H' Q I q⟩) hs).imp fun σ H Q q=>xr4 (g:=g) q
theorem xx7 {i:Nat} {y:Str} {py spos:Pos} (fz:List Nat) (CS:zl6 X N' ixs scope) (hc:X.calm=true) (hN:X.N.Nodup) (hy0:X.N[i]?=some y) (hy:X.env.scope.names.lookup y=some .local) (hi:DI X c tg iter f)
 (hin:∀av cl C s H fp,DG (zi2 X N' scope cl C s H fp) (c.avoid av) tg G/\DTs (zi2 X N' scope cl C s H fp) (c.avoid av) ifs t/\DE (zi2 X N' scope cl C s H fp) (c.avoid av) .R elt e)
 (hsw:swapsWith (.ListComp elt [⟨tg,iter,ifs,0⟩] scope pos) (some (.Name y py)) spos.line X.env=pure true)
 (hs:∀x,foldedSetIterable iter X.env x=pure x:=by intro _;rfl):DS X c (.Assign [.Name y py] (.ListComp elt [⟨tg,iter,ifs,0⟩] scope pos) spos) (wn3 S i (xo4 S fz ixs f G t e)):=
 (wn9 (g:=gEx c G) (tc:=tEx c t) (te:=eEx c e) CS hc hN hy0 hy hi (fun cl C s H fp=>
  ⟨fun A3 s' σ H' v u Q I r ⟨av,q⟩=>(hin av cl C s H fp).1 A3 s' σ H' v u Q I r q,fun A3 s' σ H' Q I ⟨av,q⟩=>(hin av cl C s H fp).2.1 A3 s' σ H' Q I q,fun A3 s' σ H' Q I ⟨av,q⟩=>(hin av cl C s H fp).2.2 A3 s' σ H' Q I q⟩) hsw hs).imp fun D σ H q=>xr4 (g:=.F) (wh7 q)
noncomputable def zl9 (S:Type) (t:FnT S) (B:FnS S):Nat->FnS S
 | 0,_,_=>.bad
 | n+1,ρ,st=>(t ρ st).bind fun b st1=>if b=true then (B ρ st1).bind fun fl st2=>match fl with
    | .nx ρ2=>zl9 S t B n ρ2 st2
    | .ct ρ2=>zl9 S t B n ρ2 st2
    | .bk ρ2=>.ok (.nx ρ2) st2
    | .rt d=>.ok (.rt d) st2
   else .ok (.nx ρ) st1
open Classical in
noncomputable def yi5 (S:Type) (t:FnT S) (B:FnS S):FnS S:=fun ρ st=>if h:∃n,zl9 S t B n ρ st≠.bad then zl9 S t B h.choose ρ st else .bad
theorem zt0 {t:FnT S} {B:FnS S}:∀(n k:Nat) (ρ:Rho) (st:S),zl9 S t B n ρ st≠.bad->zl9 S t B (n+k) ρ st=zl9 S t B n ρ st
 | 0,_,_,_,h=>(h rfl).elim
 | n+1,k,ρ,st,h=>by
   rw[show n+1+k=(n+k)+1 by omega];unfold zl9 at h ⊢;cases q:t ρ st with
   | bad=>rfl
   | exc x s=>rfl
   | ok b st1=>
     rw[q] at h;simp only[Res.bind_ok] at h ⊢;cases b with
     | false=>rfl
     | true=>
       simp only[if_true] at h ⊢;cases q2:B ρ st1 with
       | bad=>rfl
       | exc x s=>rfl
       | ok fl st2=>
         rw[q2] at h;simp only[Res.bind_ok] at h ⊢;cases fl with
         | nx ρ2=>exact zt0 n k ρ2 st2 h
         | ct ρ2=>exact zt0 n k ρ2 st2 h
         | bk ρ2=>rfl
         | rt d=>rfl
theorem yv5 {t:FnT S} {B:FnS S} {n:Nat} {ρ:Rho} {st:S} (h:zl9 S t B n ρ st≠.bad):yi5 S t B ρ st=zl9 S t B n ρ st:=by
 unfold yi5;have hx:∃n,zl9 S t B n ρ st≠.bad:=⟨n,h⟩;rw[dif_pos hx];have h1:=zt0 n hx.choose ρ st h;have h2:=zt0 hx.choose n ρ st hx.choose_spec;rw[Nat.add_comm] at h2;exact h2.symm.trans h1
theorem yh2 {test:Expr} {body:List Stmt} {t:FnT S} {B:FnS S} (hp:PassesOwn (model X.prog X.w) X.A X.env X.xe) (ht:DT X c test t) (hb:DSs X c body B):DS X c (.While test body [] pos) (yi5 S t B):=
 (wc0 hp ht hb).imp fun D σ H hI26=>by
  obtain⟨ρ,st,R,ok,w⟩:=hI26;have hx:∃n,zl9 S t B n ρ st≠.bad:=by
   apply Classical.byContradiction;intro h;unfold yi5 at w;rw[dif_neg h] at w;exact w
  obtain⟨n,hn⟩:=hx;rw[yv5 hn] at w;refine⟨fun m σ2 H2=>∃ρ2 st2,Rep c H2 σ2 ρ2/\W.ok st2 H2/\wpR (zl9 S t B m ρ2 st2) (ye4 c D σ2 ρ2 H2) (xz5 c),⟨n,ρ,st,R,ok,w⟩,?_⟩;rintro m σ2 H2 ⟨ρ2,st2,R2,ok2,w2⟩;cases m with
  | zero=>exact w2.elim
  | succ m=>
    refine⟨ρ2,st2,R2,ok2,za7 (za5.mp w2) (fun b st3 q3 H3 x3 ok3=>?_) fun x st3 q H3 x3 ok3=>q H3 (x3.f0 R2) ok3⟩;have R3:=R2.ext ok2 x3;cases b with
    | false=>exact q3 σ2 H3 x3.frm ok3 R3
    | true=>
      refine wt5 ?_;refine⟨fun σ4 H4=>∃ρ4 st4,Rep c H4 σ4 ρ4/\W.ok st4 H4/\wpR (zl9 S t B m ρ4 st4) (ye4 c D σ4 ρ4 H4) (xz5 c),fun σ4 H4 q=>⟨m,Nat.lt_succ_self m,q⟩,ρ2,st3,R3,ok3,za7 (za5.mp q3) (fun fl st4 q4=>?_) fun x st4 q=>q⟩;have nxt:∀ρ5,wpR (zl9 S t B m ρ5 st4) (ye4 c D σ2 ρ2 H2) (xz5 c)->Nx c (fun σ4 H4=>∃ρ4 st4,Rep c H4 σ4 ρ4/\W.ok st4 H4/\wpR (zl9 S t B m ρ4 st4) (ye4 c D σ4 ρ4 H4) (xz5 c)) σ2 ρ2 H3 ρ5 st4:=
       fun ρ5 q5 σ5 H5 F5 ok5 R5=>⟨ρ5,st4,R5,ok5,za7 q5 (fun fl st6 q=>q.from (x3.frm.trans F5)) fun x st6 q=>q⟩
      cases fl with
      | nx ρ5=>exact nxt ρ5 q4
      | ct ρ5=>exact nxt ρ5 q4
      | bk ρ5=>exact fun σ5 H5 F5 ok5 R5=>q4 σ5 H5 (x3.frm.trans F5) ok5 R5
      | rt d=>exact q4
end
noncomputable def rho0 (n:Nat) (l:List D):Rho:=l.map Sl.bor++List.replicate (n-l.length) .no
noncomputable def rhoS (n:Nat) (l:List D):Rho:=Sl.hnd::(l.map Sl.bor++List.replicate (n-1-l.length) .no)
noncomputable def vn6 {S:Type} (r:Res S Fl):Res S D:=match r with
 | .ok (.rt d) st=>.ok d st
 | .ok (.nx _) st=>.ok .non st
 | .ok _ _=>.bad
 | .exc x st=>.exc x st
 | .bad=>.bad
noncomputable def dfn (n p:Nat) (B:FnS Unit):List D->Res Unit D:=fun l=>if l.length=p/\p<=n then vn6 (B (rho0 n l) ()) else .bad
noncomputable def wf9 {S:Type} (n p:Nat) (B:FnS S):List D->S->Res S D:=fun l st=>if l.length+1=p/\p<=n then vn6 (B (rhoS n l) st) else .bad
noncomputable abbrev cx0 (K:PySem.W.Frag) (H:Hp):Dx W0:=⟨K,H,fun _ _ _=>False,fun _=>False⟩
noncomputable abbrev cxS {S:Type} (W:Wd S) (K:PySem.W.Frag) (H:Hp):Dx W:=⟨K,H,fun _ _ _=>False,fun _=>False⟩
theorem zv6 {n:Nat} {l:List D} {i:Nat} {s:Sl} (h:(rho0 n l)[i]?=some s):(∃d,s=.bor d/\l[i]?=some d)\/s=.no:=by
 unfold rho0 at h;by_cases hi:i<l.length
 ·rw[Bl0 (by rw[Aa0];exact hi),Ag0] at h
  cases q:l[i]? with
  | none=>rw[q] at h;cases h
  | some d=>rw[q] at h;cases h;exact .inl ⟨d,rfl,rfl⟩
 ·rw[List.getElem?_append_right (by rw[Aa0];omega),List.getElem?_replicate] at h
  split at h
  ·cases h;exact .inr rfl
  ·cases h
theorem yi4 {N:List Str} {vs:List V} {i:Nat} {v:V} (h:vs[i]?=some v):(zy0 N vs)[i]?=some (some v):=by
 unfold zy0;have hi:i<vs.length:=(Ac0.mp h).1;rw[Bl0 (by rw[Aa0];exact hi),Ag0,h];rfl
set_option tactic.hygienic true in
theorem xs4 {K:PySem.W.Frag} {H:Hp} {N:List Str} {l:List D} {vs:List V} (hl:l.length<=N.length) (h:IsL K (fun _=>True) H l vs):Rep (cx0 K H) H (zy0 N vs) (rho0 N.length l):=by
 have no:∀b,¬Ow (zy0 N vs) (rho0 N.length l) b:=fun b hI27=>by
  obtain⟨i,d,h1,_⟩:=hI27;rcases zv6 h1 with⟨_,z,_⟩ | z<;>cases z
 refine⟨?_,fun b o e _=>e,fun i s hs=>?_,fun b z=>z.elim,fun i j a d e h1 _ _ _=>?_⟩
 ·unfold zy0 rho0
  rw[Al0,Al0,Aa0,Aa0,List.length_replicate,List.length_replicate,h.length]
 ·rcases zv6 hs with⟨d,rfl,hd⟩ | rfl
  ·obtain⟨v,hv,iv⟩:=h.get hd
   exact⟨v,by rw[yi4 hv];rfl,iv.mono ⟨fun _ _ z _=>z,fun b o _ z=>⟨⟨fun m=>m,no b,fun m=>m⟩,z⟩⟩⟩
  ·trivial
 ·rcases zv6 h1 with⟨_,z,_⟩ | z<;>cases z
section
variable {P:Program} {w:World} {K:PySem.W.Frag} {mg:Str->Option Value} {base:Heap}
set_option tactic.hygienic true in
theorem Fun.d0 {x qual:Str} {st:Stmt} {f:Addr} {fd:FuncData} {N ps:List Str} {k:Nat} {B:FnS Unit} (F:Fun K x qual st f fd) (S:zc9 N ps (za4 st))
 (hb:∀(cdv:Value) (A:Around) (outer:List Env) (s:Shared) (H:Hp) (E:XK),zm7 k (A.deeper (envOfC qual (za4 st) s.heap.objs.size f cdv))->
  DSs (zw9 CX0 P w K mg base N qual (za4 st) f cdv A outer s H E).nox (cx0 K H) (zc4 st) B):zr3 P w K mg base CX0 (k+1) f fd ps (sp0 K (dfn N.length ps.length B)):=by
 refine F.ok S (fun vs H Q E h=>?_) fun cdv A outer s H vs Q E hr h=>?_
 ·obtain⟨l,i,w⟩:=h
  unfold dfn at w;split at w
  ·rename_i hl
   rw[<-i.length];exact hl.1
  ·exact w.elim
 ·obtain⟨l,i,w⟩:=h
  unfold dfn at w;split at w
  ·rename_i hl
   refine⟨_,hb cdv A outer s H E hr,rho0 N.length l,(),xs4 (by omega) i,trivial,?_⟩;cases q:B (rho0 N.length l) () with
   | bad=>rw[q] at w;exact w.elim
   | exc x u=>rw[q] at w;exact w.elim
   | ok fl u=>
     rw[q] at w;have fin:∀d v H',F0 (cx0 K H) H'->Is K (fun b=>¬W0.mv b/\H b=none) H' d v->(∀v H',yt9 H H'->Is K (fun b=>H b=none) H' d v->Q v H')->Q v H':=fun d v H' f0 z q=>
      q v H' (fun b o e=>f0 b o e fun m=>m) (z.mono ⟨fun _ _ z _=>z,fun b o a z=>⟨a.2,z⟩⟩)
     cases fl with
     | rt d=>exact fun v H' f0 _ z=>fin d v H' f0 z w
     | nx ρ=>exact fun σ' H' fr _ R'=>fin .non .non H' (fun b o e n=>R'.frame b o e n) (Is.non_iff.mpr rfl) w
     | bk ρ=>exact w.elim
     | ct ρ=>exact w.elim
  ·exact w.elim
set_option tactic.hygienic true in
theorem Fun.dS {Sx:Type} {W:Wd Sx} {x qual:Str} {st:Stmt} {f:Addr} {fd:FuncData} {N ps:List Str} {k:Nat} {B:FnS Sx} (F:Fun K x qual st f fd) (S:zc9 N ps (za4 st))
 (hb:∀(cdv:Value) (A:Around) (outer:List Env) (s:Shared) (H:Hp) (E:XK),zm7 k (A.deeper (envOfC qual (za4 st) s.heap.objs.size f cdv))->
  DSs (zw9 CX0 P w K mg base N qual (za4 st) f cdv A outer s H E).nox (cxS W K H) (zc4 st) B):zr3 P w K mg base CX0 (k+1) f fd ps (spS W K (wf9 N.length ps.length B)):=by
 refine F.ok S (fun vs H Q E h=>?_) fun cdv A outer s H vs Q E hr h=>?_
 ·obtain⟨l,us,st0,rfl,i,ok,w⟩:=h
  unfold wf9 at w;split at w
  ·rename_i hl
   rw[Bm0,<-i.length];exact hl.1
  ·exact w.elim
 ·obtain⟨l,us,st0,rfl,i,ok,w⟩:=h
  unfold wf9 at w;split at w
  ·rename_i hl
   have no:∀b,¬Ow (zy0 N (W.h::us)) (rhoS N.length l) b:=fun b hI28=>by
    obtain⟨j,d,h1,_⟩:=hI28;unfold rhoS at h1;cases j with
    | zero=>cases h1
    | succ j=>
      have h1:(l.map Sl.bor++List.replicate (N.length-1-l.length) .no)[j]?=some (.own d):=by simpa using h1
      rcases zv6 (n:=N.length-1) h1 with⟨_,z,_⟩ | z<;>cases z
   have R:Rep (cxS W K H) H (zy0 N (W.h::us)) (rhoS N.length l):=by
    refine⟨?_,fun b o e _=>e,fun j s hs=>?_,fun b z=>z.elim,fun j j' a d e h1 _ h3 _=>(no a ⟨j,d,h1,h3⟩).elim⟩
    ·unfold zy0 rhoS
     simp only[Al0,Bm0,Aa0,List.length_replicate];have:=i.length;omega
    ·unfold rhoS at hs
     cases j with
     | zero=>cases hs;exact by rw[yi4 (v:=W.h) rfl];rfl
     | succ j=>
       have hs:(l.map Sl.bor++List.replicate (N.length-1-l.length) .no)[j]?=some s:=by simpa using hs
       rcases zv6 (n:=N.length-1) hs with⟨d,rfl,hd⟩ | rfl
       ·obtain⟨v,hv,iv⟩:=i.get hd
        exact⟨v,by rw[yi4 (v:=v) (by simpa using hv)];rfl,iv.mono ⟨fun _ _ z _=>z,fun b o a z=>⟨⟨a,no b,fun m=>m⟩,z⟩⟩⟩
       ·trivial
   refine⟨_,hb cdv A outer s H E hr,rhoS N.length l,st0,R,ok,?_⟩;cases q:B (rhoS N.length l) st0 with
   | bad=>rw[q] at w;exact w.elim
   | exc x u=>rw[q] at w;exact w.elim
   | ok fl u=>
     rw[q] at w;cases fl with
     | rt d=>exact fun v H' f0 ok' z=>w v H' f0 ok' z
     | nx ρ=>exact fun σ' H' fr ok' R'=>w .non H' (fun b o e n=>R'.frame b o e n) ok' (Is.non_iff.mpr rfl)
     | bk ρ=>exact w.elim
     | ct ρ=>exact w.elim
  ·exact w.elim
end
structure zc8 (P:Program) (w:World) (K:PySem.W.Frag) (mg:Str->Option Value) (base:Heap) (k:Nat) (x:Str) (ps:List Str) (sp:Sp):Prop where
 ex:∃f fd,mg x=some (.ref f)/\keepIn K (.ref f)=true/\xp4 K fd ps []/\zr3 P w K mg base CX0 k f fd ps sp
section
variable {X:Cx} {S:Type} {W:Wd S} {c:Dx W} {g:Gr} {k:Nat} {x:Str} {ps:List Str} {p pos:Pos} {e:Expr} {es:List Expr}
theorem zc2 {G:List D->Res Unit D} {f:FnA S} (C:zc8 X.prog X.w X.K X.mg X.base k x ps (sp0 c.K G)) (hr:zm7 k X.A) (hg:Gl X x) (ha:DA X c (e::es) f) (hdb:(x == ("__debug__" : Str))=false:=by decide)
 (he:starEach (e::es) X.env=(false,eval e X.env)::starEach es X.env:=by rfl) (hpl:(backTo pos (starEach es X.env)).any (·.1)=false:=by rfl):DE X c g (.Call (.Name x p) (e::es) [] pos) (xo5 S G f):=by
 obtain⟨fa,fd,hm,hk,hb,F⟩:=C.ex;exact(xc6 (E:=E0) F hr hg hm hk hb .nil wp0 ha hdb he hpl).imp fun σ H Q q=>wb1 q
theorem zc1 {G:List D->S->Res S D} {f:FnA S} {i:Nat} {y:Str} {py:Pos} (C:zc8 X.prog X.w X.K X.mg X.base k x ps (spS W c.K G)) (hr:zm7 k X.A) (hg:Gl X x) (hy:PE X (.Name y py) (xm2 i)) (ha:DA X c es f) (hdb:(x == ("__debug__" : Str))=false:=by decide)
 (he:starEach (.Name y py::es) X.env=(false,eval (.Name y py) X.env)::starEach es X.env:=by rfl) (hpl:(backTo pos (starEach es X.env)).any (·.1)=false:=by rfl):DE X c g (.Call (.Name x p) (.Name y py::es) [] pos) (yz1 S G i f):=by
 obtain⟨fa,fd,hm,hk,hb,F⟩:=C.ex;exact(xc6 (E:=E0) F hr hg hm hk hb .nil wp0 (zn7 hy ha he) hdb he hpl).imp fun σ H Q q=>wb0 q
end
section
variable {S:Type} {W:Wd S} {c:Dx W}
theorem zw2 {H H':Hp} {i:Int}:New c H H' (.int i) (.int i):=Is.int_iff.mpr rfl
theorem zs6 {H H':Hp} {i:Bool}:New c H H' (.bl i) (.bl i):=Is.bl_iff.mpr rfl
noncomputable def iOp (C:Int->Int->Prop) [∀i j,Decidable (C i j)] (g:Int->Int->D):D->D->Option D
 | .int i,.int j=>if C i j then some (g i j) else none
 | _,_=>none
noncomputable def zu7 (g:Int->Int->D):D->D->Option D
 | .int i,.int j=>some (g i j)
 | _,_=>none
set_option tactic.hygienic true in
theorem wz6 {C:Int->Int->Prop} [∀i j,Decidable (C i j)] {g:Int->Int->Int}:OpD c (rI C fun i j=>.int (g i j)) (iOp C fun i j=>.int (g i j)):=by
 intro d1 d2 v1 v2 H st d Q ok z1 z2 e q;unfold iOp at e;split at e
 ·rename_i i j
  split at e
  ·rename_i h
   cases e;exact⟨i,j,Is.int_iff.mp z1,Is.int_iff.mp z2,h,q _ H Ext.refl ok zw2⟩
  ·cases e
 ·cases e
set_option tactic.hygienic true in
theorem yr9 {g:Int->Int->Int}:OpD c (rI0 fun i j=>.int (g i j)) (zu7 fun i j=>.int (g i j)):=by
 intro d1 d2 v1 v2 H st d Q ok z1 z2 e q;unfold zu7 at e;split at e
 ·rename_i i j
  cases e;exact⟨i,j,Is.int_iff.mp z1,Is.int_iff.mp z2,q _ H Ext.refl ok zw2⟩
 ·cases e
set_option tactic.hygienic true in
theorem yc6 {g:Int->Int->Bool}:OpD c (rI0 fun i j=>.bl (g i j)) (zu7 fun i j=>.bl (g i j)):=by
 intro d1 d2 v1 v2 H st d Q ok z1 z2 e q;unfold zu7 at e;split at e
 ·rename_i i j
  cases e;exact⟨i,j,Is.int_iff.mp z1,Is.int_iff.mp z2,q _ H Ext.refl ok zs6⟩
 ·cases e
theorem OpD.or {r r':R2} {o o':D->D->Option D} (h:OpD c r o) (h':OpD c r' o'):OpD c (fun x y H Q=>r x y H Q\/r' x y H Q) (fun a b=>(o a b).or (o' a b)):=by
 intro d1 d2 v1 v2 H st d Q ok z1 z2 e q;cases e1:o d1 d2 with
 | some d'=>
   have e:some d'=some d:=by simpa [e1] using e
   cases e;exact .inl (h d1 d2 v1 v2 H st d Q ok z1 z2 e1 q)
 | none=>
   have e:o' d1 d2=some d:=by simpa [e1] using e
   exact .inr (h' d1 d2 v1 v2 H st d Q ok z1 z2 e q)
noncomputable instance (i j:Int):Decidable (vg1 i j):=by unfold vg1;infer_instance
noncomputable instance (i j:Int):Decidable (xp9 i j):=by unfold xp9;infer_instance
noncomputable instance (i j:Int):Decidable (vg0 i j):=by unfold vg0;infer_instance
noncomputable instance (i j:Int):Decidable (ve1 i j):=by unfold ve1;infer_instance
noncomputable def oIx:D->D->Option D
 | .tup l,.int i=>im (atI l i)
 | .lst l,.int i=>im (atI l i)
 | _,_=>none
theorem wk0 {K:PySem.W.Frag} {A:Addr->Prop} {H:Hp} {l:List D} {vs:List V} {i:Int} {d:D} (z:IsL K A H l vs) (h:atI l i=some d):∃v,atI vs i=some v/\Is K A H d v:=by
 unfold atI at h ⊢;rw[<-z.length];cases q:ixN l.length i with
 | none=>rw[q] at h;cases h
 | some j=>
   rw[q] at h;exact z.get (i:=j) h
theorem xd6 {o:Option D} {d:D} (h:im o=some d):o=some d/\d.imm=true:=by
 cases o with
 | none=>cases h
 | some x=>
   have h:(if x.imm=true then some x else none)=some d:=h;split at h
   ·cases h;exact⟨rfl,by assumption⟩
   ·cases h
set_option tactic.hygienic true in
theorem wz4 {K:PySem.W.Frag} (hK:c.K=K):OpD c (rIx K) oIx:=by
 intro d1 d2 v1 v2 H st d Q ok z1 z2 e q;unfold oIx at e;split at e
 ·rename_i l i
  obtain⟨a,vs,ea,s,z⟩:=Is.tup_sq z1;obtain⟨e,m⟩:=xd6 e;obtain⟨v,hv,iv⟩:=wk0 z e;exact .inr (.inl ⟨a,vs,i,v,ea,Is.int_iff.mp z2,hK▸s,hv,q v H Ext.refl ok (New.imm m iv)⟩)
 ·rename_i l i
  obtain⟨a,vs,ea,n,s,z⟩:=Is.lst_iff.mp z1;obtain⟨e,m⟩:=xd6 e;obtain⟨v,hv,iv⟩:=wk0 z e;exact .inl ⟨a,vs,i,v,ea,Is.int_iff.mp z2,.of s,hv,q v H Ext.refl ok (New.imm m iv)⟩
 ·cases e
end
section
variable {X:Cx} {S:Type} {W:Wd S} {c:Dx W} {H H':Hp} {σ:St} {ρ:Rho} {st:S} {i:Nat} {d d':D} {a:Addr} {o:HO}
set_option tactic.hygienic true in
theorem xt7 (hi:ρ[i]?=some (.own d)) (b:Addr):Ow σ (ρ.set i (.own d')) b↔Ow σ ρ b:=by
 have hlt:i<ρ.length:=(Ac0.mp hi).1;constructor
 ·rintro ⟨j,e,h1,h2⟩
  rcases zb4 h1 with⟨m,_⟩ | ⟨_,z⟩
  ·subst m;exact⟨j,d,hi,h2⟩
  ·exact⟨j,e,z,h2⟩
 ·rintro ⟨j,e,h1,h2⟩
  by_cases m:j=i
  ·subst m;exact⟨j,d',Cg0 hlt,h2⟩
  ·exact⟨j,e,by rw[Az0 (Ne.symm m)];exact h1,h2⟩
set_option tactic.hygienic true in
theorem Rep.wr (R:Rep c H σ ρ) (hi:ρ[i]?=some (.own d)) (ha:σ[i]?=some (some (.ref a))) (ht:(∀u,o≠.tup u)/\∀ob u,o≠.frz ob u)
 (h:zj8 (Av c σ ρ) (Av c σ ρ) H (upd H a o)->Top c.K (Av c σ ρ) (upd H a o) d' a):Rep c (upd H a o) σ (ρ.set i (.own d'))/\Frm c H σ ρ (upd H a o) σ (ρ.set i (.own d')):=by
 have hlt:i<ρ.length:=(Ac0.mp hi).1;have wa:Ow σ ρ a:=⟨i,d,hi,ha⟩;obtain⟨nm,h0,o1,ho,n1,n2⟩:=R.owOk wa;have k:zj8 (Av c σ ρ) (Av c σ ρ) H (upd H a o):=zl3 (fun b u e t=>by
  have hb:b≠a:=fun z=>by
   subst z;rw[ho] at e;cases e;rcases t with⟨w,z⟩ | ⟨ob,w,z⟩
   ·exact n1 w z
   ·exact n2 ob w z
  rw[zb2 hb];exact e) fun b u av e=>⟨av,by rw[zb2 (fun (z:b=a)=>av.2.1 (z▸wa))];exact e⟩
 have avEq:Av c σ (ρ.set i (.own d'))=Av c σ ρ:=by
  funext b;unfold Av;rw[xt7 (σ:=σ) (d':=d') hi b]
 have T:=h k;refine⟨⟨by rw[Bx0];exact R.len,fun b u e n=>?_,fun j s hs=>?_,fun b hb=>?_,fun j j' b e e' h1 h2 h3 h4=>?_⟩,⟨fun b u e n w=>?_,fun b u e n w=>(xt7 hi b).mp w⟩⟩
 ·have hb:b≠a:=fun z=>by subst z;rw[show c.H0 b=none from h0] at e;cases e
  rw[zb2 hb];exact R.frame b u e n
 ·rw[avEq]
  rcases zb4 hs with⟨m,z⟩ | ⟨nj,z⟩
  ·subst z m
   obtain⟨b,e1,n,f,t⟩:=R.slot j _ hi;rw[ha] at e1;have e1:some (V.ref a)=some (V.ref b):=e1;cases e1;exact⟨a,by rw[ha];rfl,n,f,T⟩
  ·have q:=R.slot j s z
   cases s with
   | no=>trivial
   | bor e=>obtain⟨v',e1,i1⟩:=q;exact⟨v',e1,i1.mono k⟩
   | own e=>
     obtain⟨b,e1,n,f,t⟩:=q;have hb:b≠a:=fun z'=>by
      subst z';exact nj (R.uniq j i b e d z hi (zn2 e1) ha)
     exact⟨b,e1,n,f,t.mono k fun u z=>by rw[zb2 hb];exact z⟩
   | hnd=>exact q
 ·obtain⟨n,z,u,h',q⟩:=R.avl b hb
  have hba:b≠a:=fun z'=>by
   subst z';obtain⟨b',e1,n',_⟩:=R.slot i _ hi;rw[ha] at e1;have e1:some (V.ref b)=some (V.ref b'):=e1;cases e1;exact n'.2 hb
  exact⟨n,z,u,by rw[zb2 hba];exact h',q⟩
 ·have fix:∀(j:Nat) (e:D),(ρ.set i (.own d'))[j]?=some (.own e)->∃e',ρ[j]?=some (.own e'):=fun j e h1=>by
   rcases zb4 h1 with⟨m,_⟩ | ⟨_,z⟩
   ·subst m;exact⟨d,hi⟩
   ·exact⟨e,z⟩
  obtain⟨x1,y1⟩:=fix j e h1;obtain⟨x2,y2⟩:=fix j' e' h2;exact R.uniq j j' b x1 x2 y1 y2 h3 h4
 ·have hb:b≠a:=fun z=>w (z▸wa)
  rw[zb2 hb];exact e
noncomputable def zl7 (ρ:Rho) (i:Nat):Option (List D):=match ρ[i]? with
 | some (.own (.lst l))=>if D.immL l=true then some l else none
 | _=>none
theorem yx7 {l:List D} (h:zl7 ρ i=some l):ρ[i]?=some (.own (.lst l))/\D.immL l=true:=by
 unfold zl7 at h;split at h
 ·split at h
  ·cases h;exact⟨by assumption,by assumption⟩
  ·cases h
 ·cases h
theorem yf3 {l:List D} (h:zl7 ρ i=some l):ρ[i]?=some (.own (.lst l)):=(yx7 h).1
theorem Rep.lstAt {l:List D} (R:Rep c H σ ρ) (h:zl7 ρ i=some l):∃a vs,σ[i]?=some (some (.ref a))/\H a=some (.lst vs)/\IsL c.K (Av c σ ρ) H l vs/\¬W.mv a:=by
 obtain⟨a,e1,n,f,vs,e2,z⟩:=R.slot i _ (yf3 h);exact⟨a,vs,zn2 e1,e2,z,n.1⟩
theorem yw9 {a:Addr} {o:HO} (ok:W.ok st H) (n:¬W.mv a):W.ok st (upd H a o):=W.stay st H _ ok fun b u m e=>by rw[zb2 (fun (z:b=a)=>n (z▸m))];exact e
noncomputable def sMt (S:Type) (i:Nat) (o:List D->D->Option (List D)) (f:Fn S):FnS S:=fun ρ st=>match zl7 ρ i with
 | some l=>(f ρ st).bind fun d st1=>(zj2 (o l d) st1).bind fun l' st2=>.ok (.nx (ρ.set i (.own (.lst l')))) st2
 | none=>.bad
noncomputable def MtD {S:Type} {W:Wd S} (c:Dx W) (r:V->List V->Hp->VK->Prop) (o:List D->D->Option (List D)):Prop:=∀l d l' a vs v H (Q:VK),o l d=some l'->H a=some (.lst vs)->IsL c.K (fun b=>¬W.mv b) H l vs->Is c.K (fun b=>¬W.mv b) H d v->
 (∀us,(D.immL l=true->D.immL l'=true/\IsL c.K (fun b=>¬W.mv b) H l' us)->Q .non (upd H a (.lst us)))->r (.ref a) [v] H Q
theorem yf5 {x m:Str} {id:String} {e:Expr} {f:Fn S} {p1 p2 p3 p4:Pos} {r:V->List V->Hp->VK->Prop} {o:List D->D->Option (List D)} (hm:MtR X id r) (ho:MtD c r o) (slot:Slot "list" m id) (hty:typeOf (.builtin id)=pure (.type "method_descriptor")) (hx:PE X (.Name x p1) (xm2 i)) (he:DE X c .R e f) (hK:c.K=X.K)
 (hbase:attributeBase (.Name x p1) m X.env (eval (.Name x p1) X.env)=eval (.Name x p1) X.env:=by rfl)
 (hfew:((backTo p3 (starEach [e] X.env)).all (fun x=>!x.1)&&(backToKw p3 (keywordEach [] X.env)).all (fun x=>x.1.isSome)
  && decide (([e]:List Expr).length+([]:List Keyword).length+(if ([]:List Keyword).isEmpty then 0 else 1)<30))=true:=by rfl)
 (hline:(p2.endLine == p3.line)=true:=by rfl) (hs:starEach [e] X.env=(false,eval e X.env)::starEach [] X.env:=by rfl) (hplain:(backTo p3 (starEach [] X.env)).any (·.1)=false:=by rfl) (hsw:swapsWith (.Call (.Attribute (.Name x p1) m p2) [e] [] p3) none p4.line X.env=pure false:=by rfl) :
 DS X c (.Expr (.Call (.Attribute (.Name x p1) m p2) [e] [] p3) p4) (sMt S i o f):=
 (wo2 (vi4 PySem.F.plainAttrs_list slot hty hm hx (zn7 he zz0 hs) hbase hfew hline hs hplain) hsw).imp fun D σ H hI29=>by
  obtain⟨ρ,st,R,ok,w⟩:=hI29;unfold sMt at w;cases q:zl7 ρ i with
  | none=>rw[q] at w;exact w.elim
  | some l=>
    rw[q] at w;obtain⟨a,vs,ea,eH,z,nm⟩:=R.lstAt q;refine⟨.ref a,ea,.inl ⟨rfl,vs,.of eH⟩,ρ,st,R,ok,za7 (za5.mp w) (fun d st1 q v H1 e ok1 zv=>?_) fun x st1 q H1 e ok1=>q H1 (e.f0 R) ok1⟩;obtain⟨l',e',q'⟩:=zb7.mp (za5.mp q);have R1:=R.ext ok e;have eH1:=e a _ eH nm;have kA:zj8 (Av c σ ρ) (fun b=>¬W.mv b) H1 H1:=⟨fun _ _ z _=>z,fun b o a z=>⟨a.1,z⟩⟩;refine ho l d l' a vs v H1 _ e' eH1 (IsL.mono kA (z.mono (e.keepT ok fun b a=>⟨a.1,a⟩))) zv fun us hus=>?_
    obtain⟨m',z'⟩:=hus (yx7 (by assumption)).2;obtain⟨R2,F2⟩:=R1.wr (d':=.lst l') (o:=.lst us) (yf3 (by assumption)) ea ⟨(fun u z=>by cases z),(fun ob u z=>by cases z)⟩ fun k=>⟨us,zb5,IsL.mono k (IsL.ofImm m' z')⟩
    exact q' σ _ (e.frm.trans F2) (yw9 ok1 nm) R2
noncomputable def vf1 (l:List D) (d:D):Option (List D):=if d.imm=true/\l.length<sizeLine then some (l++[d]) else none
noncomputable def vf0 (l:List D) (d:D):Option (List D):=match d with
 | .lst m=>if D.immL m=true/\l.length+m.length<=sizeLine then some (l++m) else none
 | _=>none
set_option tactic.hygienic true in
theorem zl2:MtD c xs7 vf1:=by
 intro l d l' a vs v H Q e eH z zv q;unfold vf1 at e;split at e
 ·rename_i h
  cases e;refine⟨a,vs,v,rfl,rfl,eH,by rw[<-z.length];exact h.2,q _ fun m=>⟨zh6 m (by simp[D.immL,h.1]),z.append (IsL.one zv)⟩⟩
 ·cases e
set_option tactic.hygienic true in
theorem yd8:MtD c xs6 vf0:=by
 intro l d l' a vs v H Q e eH z zv q;unfold vf0 at e;split at e
 ·rename_i n
  split at e
  ·rename_i h
   cases e;obtain⟨b,us,eb,nb,hb,zb⟩:=Is.lst_iff.mp zv;subst eb;refine⟨a,b,vs,us,rfl,rfl,eH,hb,by rw[<-z.length,<-zb.length];exact h.2,q _ fun m=>⟨zh6 m h.1,z.append zb⟩⟩
  ·cases e
 ·cases e
end
noncomputable def zm3 (N:List Str) (osc:Scope) (N':List Str) (ixs:List (Option Nat)) (scope:Scope):Bool:=
 decide (scope.kind=.function)&&scope.names.all (fun y=>decide (y.2≠.cell))&&scope.names.all (fun y=>decide (y.2=.local->scope.names.lookup y.1=some .local))&&decide (ixs.length=N'.length) &&
 scope.names.all (fun y=>decide (y.2=.free->osc.names.lookup y.1=some .cell\/osc.names.lookup y.1=some .free)) &&
 (List.range N'.length).all (fun j=>match N'[j]?,ixs[j]? with
  | some y,some (some i)=>decide (N[i]?=some y)&&decide (scope.names.lookup y=some .free)
  | _,_=>true)
theorem zm3.scope {X:Cx} {N:List Str} {osc:Scope} {N':List Str} {ixs:List (Option Nat)} {scope:Scope} (h:zm3 N osc N' ixs scope=true) (hN:X.N=N:=by rfl) (hS:X.env.scope=osc:=by rfl):zl6 X N' ixs scope:=by
 unfold zm3 at h;simp only[Bool.and_eq_true,decide_eq_true_eq,List.all_eq_true] at h;obtain⟨⟨⟨⟨⟨h1,h2⟩,h3⟩,h4⟩,h5⟩,h6⟩:=h;refine⟨h1,h2,h3,h4,fun y hy hf=>by rw[hS];exact h5 y hy hf,fun j i y e1 e2=>?_⟩;have hj:j<N'.length:=(Ac0.mp e1).1;have q:=h6 j (Ca0.mpr hj);rw[e1,e2] at q;simp only[Bool.and_eq_true,decide_eq_true_eq] at q;exact⟨by rw[hN];exact q.1,q.2⟩
end L2
namespace PySem
set_option tactic.hygienic true in
theorem ym8 (l:Addr) (items:Array Value) (n:Nat) (dct:Option Addr) (sl:Array (Option Value)) :
 Meets (Builtin.«enumerate.__new__» ⟨[.type "enumerate",.ref l],[]⟩) (fun _ R s=>s.heap.get? l=some { cls:=.type "tuple",dict:=dct,data:=.seq items n,slots:=sl }/\
  R (.ok (.ret (.ref (s.heap.push { cls:=.type "tuple_iterator",data:=.fields #[.ref l,.int 0 0] }).objs.size)))
    { s with heap:=(s.heap.push { cls:=.type "tuple_iterator",data:=.fields #[.ref l,.int 0 0] }).push { cls:=.type "enumerate",data:=.fields #[.none,.bool false,.ref s.heap.objs.size,rawInt 0,.none,.none] } }):=
 .of_wp fun prog w A R s h=>by
  obtain⟨hp,g,d,tk,os⟩:=s;obtain⟨hl,h⟩:=h;have hsub:=sub_enumerate;have hT:Heap.IsTuple (Shared.heap ⟨hp,g,d,tk,os⟩) l items:=⟨_,hl,rfl,n,rfl⟩
  wp_walk using wpAny_loadPart' hl
  refine wpAny_stack_any fun st=>Ac1 ?_
  split
  ·rename_i c _ _ _ _ _
   cases (c == Value.type "enumerate")<;>(wp_walk using wpAny_loadPart' hl,wpAny_pyIter_tuple hT;exact⟨_,rfl,h⟩)
  ·(wp_walk using wpAny_loadPart' hl,wpAny_pyIter_tuple hT;exact⟨_,rfl,h⟩)
section
variable {prog:Program} {w:World} {A:Around} {E:Value->Shared->Prop} {s:Shared}
theorem yt5 {l:Addr} {items:Array Value} {Q:Value->Shared->Prop} (hL:s.heap.IsTuple l items)
 (h:∀h',IsEnum h' (s.heap.objs.size+1) s.heap.objs.size 0 .none->h'.IsTupleIter s.heap.objs.size l 0->(∀b o,s.heap.get? b=some o->h'.get? b=some o)->Q (.ref (s.heap.objs.size+1)) { s with heap:=h' }) :
 wpAny (model prog w) A (call (.type "enumerate") [.ref l]) Q E s:=by
 obtain⟨⟨c,dct,dt,sl⟩,hl,hc,n,hd⟩:=hL;have hc:c=.type "tuple":=hc;have hd:dt=.seq items n:=hd;subst hc hd;refine callType_new F.called_enumerate (by decide) (F.typeCall_enumerate_1 _) (F.newCall_enumerate_1 _) (fun obj=>F.args_object_init_2 obj _) F.entry_enumerate_new (ym8 l items n dct sl) ⟨hl,?_⟩;generalize hg:s.heap.push { cls:=.type "tuple_iterator",data:=.fields #[.ref l,.int 0 0] }=g;have hz:g.objs.size=s.heap.objs.size+1:=by rw[<-hg];exact Bo0 ..
 have he:IsEnum (g.push { cls:=.type "enumerate",data:=.fields #[.none,.bool false,.ref s.heap.objs.size,rawInt 0,.none,.none] }) (s.heap.objs.size+1) s.heap.objs.size 0 .none:=by
  have:=Ak0 g (o:={ cls:=.type "enumerate",data:=.fields #[.none,.bool false,.ref s.heap.objs.size,rawInt 0,.none,.none] }) rfl;rw[hz] at this;exact this
 have hi:g.get? s.heap.objs.size=some { cls:=.type "tuple_iterator",data:=.fields #[.ref l,.int 0 0] }:=by rw[<-hg];exact Ak0 _ rfl
 show _/\_;rw[hz];exact⟨⟨_,he,rfl⟩,h _ he ⟨_,Ad0 _ hi,rfl,rfl⟩ fun b o x=>Ad0 _ (by rw[<-hg];exact Ad0 _ x)⟩
set_option tactic.hygienic true in
theorem zs5 {it l:Addr} {i:Nat} {items:Array Value} {x:Value} {Q:Value->Shared->Prop} (hit:s.heap.IsTupleIter it l i) (hl:s.heap.IsTuple l items) (hx:items[i]?=some x)
 (hQ:∀h',h'.IsTupleIter it l (i+1)->Heap.SameBut it s.heap h'->Q x { s with heap:=h' }):wpAny (model prog w) A (Builtin.SmallTypes.nextOf (.ref it)) Q E s:=by
 obtain⟨o,ho,hc,hd⟩:=id hit;obtain⟨ol,hol,_,nl,hdl⟩:=hl;unfold Builtin.SmallTypes.nextOf;refine Aa1 (wpAny_callSpecial?_slot (name:=Str.ofString "__next__") hit.typeIs F.slot_tuple_iterator_next (Ak1 F.slot_tuple_iterator_next hit.typeIs F.entry_tuple_iterator_next ?_ (F.args_tuple_iterator_next_1 _)));show wpAny _ _ (field (.ref it) 0 >>= fun _=>_) _ _ s;refine Aa1 (Ae1 ho hd (x:=.ref l) rfl ?_);show wpAny _ _ (if (Value.ref l == Value.none)=true then _ else _) _ _ s;have nn:¬(Value.ref l == Value.none)=true:=Ar0;rw[if_neg nn];refine Aa1 (m:=field (.ref it) 1) (Ae1 ho hd (x:=.int i 0) rfl ?_);refine Aa1 (m:=seqItems? (.ref l)) (An1 hol hdl ?_);simp only[Aw0,hx];refine Aa1 (wpAny_setField ho hd (by simp) (Ac1 ⟨x,rfl,Ac1 (hQ _ ?_ (Heap.SameBut.update ..))⟩));refine⟨_,Heap.get?_update_self _ ho (Obj.isFreed_of_fields (Obj.data_mapFields hd _)),(Obj.cls_mapFields ..).trans hc,?_⟩;rw[Obj.data_mapFields hd];simp[rawInt]
set_option tactic.hygienic true in
theorem zu6 {it l:Addr} {i:Nat} {items:Array Value} {Q:Value->Shared->Prop} (hh:A.handled=none) (hit:s.heap.IsTupleIter it l i) (hl:s.heap.IsTuple l items) (hx:items[i]?=none)
 (hE:∀h' e,Heap.ExtBut it s.heap h'->(∃o,h'.get? e=some o/\o.cls=.type "StopIteration")->E (.ref e) { s with heap:=h' }):wpAny (model prog w) A (Builtin.SmallTypes.nextOf (.ref it)) Q E s:=by
 obtain⟨o,ho,hc,hd⟩:=id hit;obtain⟨ol,hol,_,nl,hdl⟩:=hl;unfold Builtin.SmallTypes.nextOf;refine Aa1 (wpAny_callSpecial?_slot (name:=Str.ofString "__next__") hit.typeIs F.slot_tuple_iterator_next (Ak1 F.slot_tuple_iterator_next hit.typeIs F.entry_tuple_iterator_next ?_ (F.args_tuple_iterator_next_1 _)));show wpAny _ _ (field (.ref it) 0 >>= fun _=>_) _ _ s;refine Aa1 (Ae1 ho hd (x:=.ref l) rfl ?_);show wpAny _ _ (if (Value.ref l == Value.none)=true then _ else _) _ _ s;have nn:¬(Value.ref l == Value.none)=true:=Ar0;rw[if_neg nn];refine Aa1 (m:=field (.ref it) 1) (Ae1 ho hd (x:=.int i 0) rfl ?_);refine Aa1 (m:=seqItems? (.ref l)) (An1 hol hdl ?_);simp only[Aw0,hx];refine Aa1 (Aj1 (Aa1 (wpAny_setField ho hd (by simp) ?_)));refine Aa1 (m:=newExc (.type "StopIteration") []) ?_;simp only[newExc,newTuple];refine Aa1 (wpAny_newObj_type ?_ (by size_fits));refine Aa1 (m:=firstArgMember _ _) (wpAny_of_eq (a:=Value.none) (by first | rfl | (simp only[firstArgMember];rfl)) ?_);refine wpAny_newObj_type ?_ (by size_fits);simp only[raiseNew];refine Aa1 (wpAny_handled ?_);first | rw[show A.in1.handled=none from hh] | rw[hh]
 exact Aa1 (Ac1 (wpAny_throw (hE _ _ (((Heap.SameBut.update ..).extBut.push _).push _) ⟨_,Ak0 _ rfl,rfl⟩)))
theorem yz2 {e it:Addr} {i:Nat} {x old:Value} {T:Heap->Prop} {Q:Value->Shared->Prop} (he:IsEnum s.heap e it i old) (hne:e≠it)
 (hT:∀h h',T h->(∀o,h.get? it=some o->h'.get? it=some o)->T h')
 (hnx:∀Q':Value->Shared->Prop,(∀h',T h'->Heap.SameBut it s.heap h'->Q' x { s with heap:=h' })->wpAny (model prog w) A (Builtin.SmallTypes.nextOf (.ref it)) Q' E s)
 (hQ:∀h',IsEnumOut h' e it ((i:Int)+1) x s.heap.objs.size->T h'->h'.get? s.heap.objs.size=some { cls:=.type "tuple",data:=.seq #[.int i s.toks,x] }->h'.objs.size=s.heap.objs.size+1->
  (∀b o,b≠e->b≠it->s.heap.get? b=some o->h'.get? b=some o)->Q (.ref s.heap.objs.size) { s with heap:=h',toks:=s.toks+1 }) :
 wpAny (model prog w) A (Builtin.«enumerate.__next__» ⟨[.ref e],[]⟩) (fun fin s'=>∃v,fin=.done (.ret v)/\Q v s') E s:=by
 obtain⟨hp,g,d,tk,os⟩:=s;refine Aa1 (m:=field (.ref e) 2) (Ae1 he rfl (x:=.ref it) rfl ?_);refine Aa1 (hnx _ fun h₁ t₁ hs₁=>?_);have hs₁:Heap.SameBut it hp h₁:=hs₁;have he₁:IsEnum h₁ e it i old:=(hs₁.2 e hne).trans he;show wpAny _ _ (field (.ref e) 3 >>= fun _=>_) _ _ ⟨h₁,g,d,tk,os⟩;refine Aa1 (Ae1 he₁ rfl (x:=rawInt i) rfl ?_);refine Aa1 (m:=field (.ref e) 4) (Ae1 he₁ rfl (x:=.none) rfl ?_);refine Aa1 (m:=mkInt i) (wpAny_mkInt ?_);refine Aa1 (m:=setField (.ref e) 3 (rawInt ((i:Int)+1))) (Ag1 he₁ (by simp) fun h₂ he₂ hs₂=>?_);have hs₂:Heap.SameBut e h₁ h₂:=hs₂;have he₂:IsEnum h₂ e it ((i:Int)+1) old:=he₂;refine Aa1 (m:=setField (.ref e) 4 .none) (Ag1 he₂ (by simp) fun h₃ he₃ hs₃=>?_);have hs₃:Heap.SameBut e h₂ h₃:=hs₃;have he₃:IsEnum h₃ e it ((i:Int)+1) old:=he₃;refine Aa1 (m:=newTuple [.int i tk,x]) (wpAny_newTuple ?_);have he₄:IsEnum (h₃.push { cls:=.type "tuple",data:=.seq #[.int i tk,x] }) e it ((i:Int)+1) old:=Ad0 _ he₃;generalize hh₄:h₃.push { cls:=.type "tuple",data:=.seq #[.int i tk,x] }=h₄ at he₄;have hsz:h₃.objs.size=hp.objs.size:=by rw[hs₃.1,hs₂.1,hs₁.1]
 have hel:hp.objs.size≠e:=Nat.ne_of_gt (Heap.lt_size he);have ht₄:h₄.get? hp.objs.size=some { cls:=.type "tuple",data:=.seq #[.int i tk,x] }:=by rw[<-hh₄,<-hsz];exact Ak0 _ rfl
 have hz₄:h₄.objs.size=hp.objs.size+1:=by rw[<-hh₄,Bo0,hsz]
 have up₄:∀b o,b≠e->h₁.get? b=some o->h₄.get? b=some o:=fun b o hb q=>by
  rw[<-hh₄];exact Ad0 _ (hs₃.extBut b o hb (hs₂.extBut b o hb q))
 show wpAny _ _ (Builtin.SmallTypes.ownedTupleIsFree (.ref e) >>= fun _=>_) _ _ ⟨h₄,g,d,tk+1,os⟩;rw[hsz];refine Aa1 ?_;unfold Builtin.SmallTypes.ownedTupleIsFree;refine Aa1 (Ae1 he₄ rfl (x:=.none) rfl (Ac1 ?_));simp only[if_true];refine Aa1 (Aj1 (Aa1 (Ae1 he₄ rfl (x:=old) rfl ?_)));refine Aa1 (Ag1 he₄ (by simp) fun h₅ he₅ hs₅=>?_);have hs₅:Heap.SameBut e h₄ h₅:=hs₅;have he₅:IsEnum h₅ e it ((i:Int)+1) x:=he₅;show wpAny _ _ (Builtin.SmallTypes.ownedTupleHandOut (.ref e) (.ref hp.objs.size) >>= fun _=>_) _ _ ⟨h₅,g,d,tk+1,os⟩;refine Aa1 ?_;unfold Builtin.SmallTypes.ownedTupleHandOut;refine Aa1 (Ag1 he₅ (by simp) fun h₆ he₆ hs₆=>?_);have hs₆:Heap.SameBut e h₅ h₆:=hs₆;have he₆:IsEnumOut h₆ e it ((i:Int)+1) x hp.objs.size:=he₆;refine Ag1 he₆ (by simp) fun h₇ he₇ hs₇=>?_
 have hs₇:Heap.SameBut e h₆ h₇:=hs₇;have he₇:IsEnumOut h₇ e it ((i:Int)+1) x hp.objs.size:=he₇;have up₇:∀b o,b≠e->h₄.get? b=some o->h₇.get? b=some o:=fun b o hb q=>hs₇.extBut b o hb (hs₆.extBut b o hb (hs₅.extBut b o hb q))
 refine Aa1 (wpAny_letGo (Ac1 ⟨_,rfl,hQ h₇ he₇ (hT h₁ h₇ t₁ fun o q=>up₇ _ o (Ne.symm hne) (up₄ _ o (Ne.symm hne) q)) (up₇ _ _ hel ht₄) (by rw[hs₇.1,hs₆.1,hs₅.1,hz₄]) fun b o hb hi q=>up₇ b o hb (up₄ b o hb (hs₁.extBut b o hi q))⟩))
end
end PySem
namespace L2
section
variable {X:Cx} {A3:List (Addr×Obj)} {σ:St} {H:Hp} {s:Shared} {h':Heap}
theorem Inv.turnedT {fp:List Addr} {p:Addr} {vs:List V} {its:List Value} {t':Nat} (I:Inv X A3 σ H s) (hf:∀b∈fp,xf1 X A3 H b) (k:∀b o,b∉fp->s.heap.get? b=some o->h'.get? b=some o)
 (hp:s.heap.objs.size<=p) (hv:zg1 vs its) (hz:vs.length<=sizeLine) (ht:IsTup h' p its.toArray):Inv X A3 σ (upd H p (.tup vs)) { s with heap:=h',toks:=t' }:=by
 have hn:H p=none:=I.hok.fresh hp;have nfp:∀b u,H b=some u->b∉fp:=fun b u e z=>by rw[(hf b z).1] at e;cases e
 have old:∀b u,H b=some u->upd H p (.tup vs) b=some u:=fun b u e=>by rw[zb2 (zb6 e hn)];exact e
 refine I.step (g':=s.gens) (d':=s.drawn) (t':=t') (ch:=fp) (fun b hb=>⟨(hf b hb).2.2.2.1,(hf b hb).2.1,(hf b hb).2.2.2.2.1,(hf b hb).2.2.2.2.2⟩) (fun b o _ _ hc e _=>k b o hc e) (fun b o _ _ hc e _=>⟨o.slots,k b o hc e⟩)
  (fun b o _ e n=>by rw[zb2 (Ao0 (Au0 (Heap.lt_size e) hp))];exact n) (fun b o hc e=>⟨o,k b o hc e⟩) (fun b xs e=>old b _ e) (fun b o u e=>old b _ e) (fun b ps e=>⟨#[],by rw[old b _ e];simp⟩) (fun m hm=>?_) (fun b u e=>?_) I.bare
 ·obtain⟨o,es,ep,ho,r⟩:=hm
  exact⟨o,es,ep,k _ o (fun z=>(hf _ z).2.1 rfl) ho,r⟩
 ·by_cases hb:b=p
  ·subst hb
   rw[zb5] at e;cases e;exact⟨hz,its,hv,ht⟩
  ·rw[zb2 hb] at e
   refine(I.hok b u e).stay (fun d v hd q=>k d v ?_ q) (fun d q=>old d _ q) fun d xs q=>old d _ q
   rcases hd with z | z
   ·rw[z];exact nfp b u e
   ·exact nfp d _ z
theorem Inv.turnedF {fp:List Addr} {t':Nat} (I:Inv X A3 σ H s) (hf:∀b∈fp,xf1 X A3 H b) (k:∀b o,b∉fp->s.heap.get? b=some o->h'.get? b=some o):Inv X A3 σ H { s with heap:=h',toks:=t' }:=by
 have nfp:∀b u,H b=some u->b∉fp:=fun b u e z=>by rw[(hf b z).1] at e;cases e
 refine I.step (g':=s.gens) (d':=s.drawn) (t':=t') (ch:=fp) (fun b hb=>⟨(hf b hb).2.2.2.1,(hf b hb).2.1,(hf b hb).2.2.2.2.1,(hf b hb).2.2.2.2.2⟩) (fun b o _ _ hc e _=>k b o hc e) (fun b o _ _ hc e _=>⟨o.slots,k b o hc e⟩)
  (fun b o _ e n=>n) (fun b o hc e=>⟨o,k b o hc e⟩) (fun b xs e=>e) (fun b o u e=>e) (fun b ps e=>⟨#[],by rw[e];simp⟩) (fun m hm=>?_) (fun b u e=>?_) I.bare
 ·obtain⟨o,es,ep,ho,r⟩:=hm
  exact⟨o,es,ep,k _ o (fun z=>(hf _ z).2.1 rfl) ho,r⟩
 ·refine(I.hok b u e).stay (fun d v hd q=>k d v ?_ q) (fun d q=>q) fun d xs q=>q
  rcases hd with z | z
  ·rw[z];exact nfp b u e
  ·exact nfp d _ z
end
noncomputable def Ien (Sq:Hp->List V->Prop):It:=
 ⟨fun i H=>∃xs x,Sq H xs/\xs[i]?=some x,fun i H v H'=>∃p x,H p=none/\v=.ref p/\H'=upd H p (.tup [.int i,x])/\∀xs,Sq H xs->xs[i]?=some x,fun i H=>∃xs,Sq H xs/\xs.length<=i⟩
set_option tactic.hygienic true in
theorem xm0 {P:Program} {w:World} {K:PySem.W.Frag} {elts:List Expr} {x1} {pos:Pos} (a e it:Addr):wk1 P w K (.Tuple elts x1 pos) (Ien fun H xs=>SqT K H a xs) [e,it] e (fun i h=>e≠it/\(∃old,IsEnum h e it i old)/\h.IsTupleIter it a i) where
 mem:=by simp
 obj:=fun i h st b hb=>by
  obtain⟨hne,⟨old,he⟩,o,ho,c,d⟩:=st;rcases Ai0.mp hb with z | hb
  ·subst z
   exact⟨_,he,fun v z=>by
    have z':Data.fields _=Data.cell v:=z;cases z'⟩
  ·have z:b=it:=by simpa using hb
   subst z;exact⟨o,ho,fun v z=>by rw[d] at z;cases z⟩
 keep:=fun i h h' st k=>by
  obtain⟨hne,⟨old,he⟩,hi⟩:=st;exact⟨hne,⟨old,k e (by simp) _ he⟩,hi.at fun o q=>k it (by simp) o q⟩
 item:=by
  intro X hP hw hK hc i A3 s σ H E I hf st hg;subst hP hw hK;obtain⟨xs,x,hq,hx⟩:=hg;obtain⟨hne,⟨old,he⟩,hi⟩:=st;obtain⟨its,rv,p,hz⟩:=I.tuple hq;obtain⟨u,hu,ru⟩:=rv.get hx;have pT:s.heap.IsTuple a its.toArray:=p;have hT:s.TypeIs (.ref e) "enumerate":=⟨_,he,rfl⟩;unfold pyNext;refine Aa1 (wpAny_attempt (wpAny_callSpecial?_slot (name:=Str.ofString "__next__") hT F.slot_enumerate_next (Ak1 F.slot_enumerate_next hT F.entry_enumerate_next (yz2 (T:=fun h=>h.IsTupleIter it a (i+1)) he hne (fun h h' t q=>t.at q) (fun Q' hQ'=>zs5 hi pT (x:=u) (by simpa using hu) hQ') fun h' ho hi' ht hs kk=>Ac1 ?_) (F.args_enumerate_next_1 _))));refine⟨_,rfl,wpAny_letOwnedTupleGo_enum (s:={ s with heap:=h',toks:=s.toks+1 }) ho fun h2 he2 sb2=>?_⟩;have sb2:Heap.SameBut e h' h2:=sb2;have pe:s.heap.objs.size≠e:=Nat.ne_of_gt (Heap.lt_size he);have k2:∀b o,b∉[e,it]->s.heap.get? b=some o->h2.get? b=some o:=fun b o hb q=>by
   have h1:b≠e:=fun z=>hb (by simp[z])
   have h3:b≠it:=fun z=>hb (by simp[z])
   exact sb2.extBut b o h1 (kk b o h1 h3 q)
  have tt:IsTup h2 s.heap.objs.size [Value.int i s.toks,u].toArray:=⟨_,sb2.extBut _ _ pe ht,rfl,_,rfl⟩;have nn:∀b∈[e,it],b≠s.heap.objs.size:=fun b hb z=>by
   obtain⟨o1,ho1,_⟩:=id hi;rcases Ai0.mp hb with y | y
   ·exact pe (by rw[<-z,y])
   ·have y:b=it:=by simpa using y
    rw[z] at y;rw[<-y] at ho1;exact absurd (Heap.lt_size ho1) (Bs0 _)
  refine⟨.ref s.heap.objs.size,_,I.turnedT (p:=s.heap.objs.size) (vs:=[.int i,x]) hf k2 (Ae0 _) (.cons ⟨_,rfl⟩ (.cons ru .nil)) (by show 2<=sizeLine;decide) tt,rfl,⟨_,x,I.hok.fresh (Ae0 _),rfl,rfl,fun ys hy=>by rw[I.tuple_inj hy hq];exact hx⟩,⟨hne,⟨u,?_⟩,?_⟩,fun b hb=>?_⟩
  ·have:((i+1:Nat):Int)=(i:Int)+1:=by omega
   rw[this];exact he2
  ·exact hi'.extBut sb2.extBut (Ne.symm hne)
  ·rw[zb2 (nn b hb)];exact(hf b hb).1
 done:=by
  intro X hP hw hK hc i A3 s σ H E I hf st hg;subst hP hw hK;obtain⟨xs,hq,hx⟩:=hg;obtain⟨hne,⟨old,he⟩,hi⟩:=st;obtain⟨its,rv,p,hz⟩:=I.tuple hq;have pT:s.heap.IsTuple a its.toArray:=p;have hl:=rv.length;have hT:s.TypeIs (.ref e) "enumerate":=⟨_,he,rfl⟩;unfold pyNext;refine Aa1 (wpAny_attempt (wpAny_callSpecial?_slot (name:=Str.ofString "__next__") hT F.slot_enumerate_next (Ak1 F.slot_enumerate_next hT F.entry_enumerate_next ?_ (F.args_enumerate_next_1 _))));refine Aa1 (m:=field (.ref e) 2) (Ae1 he rfl (x:=.ref it) rfl ?_);refine Aa1 (zu6 (I.ok.hd hc) hi pT (by simp;omega) fun h' x he' hx'=>?_);obtain⟨o,ho,hcls⟩:=hx';refine Aa1 (wpAny_isInstance (T:="StopIteration") (b:=true) ⟨o,ho,hcls⟩ isSubtype_stop (Ac1 ⟨rfl,I.turnedF hf fun b o hb q=>he' b o (fun z=>hb (by simp[z])) q⟩))
 self:=fun _ _ _ _ _ st h=>let ⟨_,⟨_,he⟩,_⟩:=st;wpAny_pyIter_enum he h
section
variable {X:Cx} {elts:List Expr} {x1:Nat} {tpos:Pos}
noncomputable def vq1 (K:PySem.W.Frag) (ta:TA):TI:=fun σ H R=>ta σ H fun vs H1=>∃a xs,vs=[.ref a]/\SqT K H1 a xs/\R (Ien fun H xs=>SqT K H a xs) H1
theorem wc1 {a:Expr} {ta:TA} {p pos:Pos} (hg:Gl X "enumerate") (hm:X.mg "enumerate" = none) (ha:PA X [a] ta) (hs:starEach [a] X.env=[(false,eval a X.env)]:=by rfl):PI X (.Tuple elts x1 tpos) (.Call (.Name "enumerate" p) [a] [] pos) (vq1 X.K ta):=by
 intro A3 s σ H R I h;refine Call_ (yk1 I hg hm boot_enumerate (PyProof.Rows.callWith_type1 (thn (ha pos A3 s σ H _ I h) fun us s1 hI93=>?_) hs rfl));obtain⟨vs,H1,I1,r1,q1⟩:=hI93;obtain⟨l,xs,rfl,hq,q⟩:=q1;cases r1 with
 | cons r rr=>
   cases rr;cases r;obtain⟨its,rv,pt,hz⟩:=I1.tuple hq;refine yt5 (show s1.heap.IsTuple l its.toArray from pt) fun h' he hi kk=>?_
   refine wpAny_pyIter_enum (s:={ s1 with heap:=h' }) he ?_;refine⟨s1.heap.objs.size+1,[s1.heap.objs.size+1,s1.heap.objs.size],_,_,H1,rfl,I1.kept (t':=s1.toks) kk,xm0 l _ _,⟨Nat.succ_ne_self _,⟨_,he⟩,hi⟩,fun b hb=>?_,q⟩;have hb:s1.heap.objs.size<=b:=by
    rcases Ai0.mp hb with z | z
    ·rw[z];exact Nat.le_succ _
    ·have z:b=s1.heap.objs.size:=by simpa using z
     exact Nat.le_of_eq z.symm
   exact I1.fpOk hb (I1.hok.fresh hb)
variable {S:Type} {W:Wd S} {c:Dx W}
noncomputable def zt6 (l:List D):List D:=(l.zipIdx).map fun p=>.tup [.int p.2,p.1]
noncomputable def wd2:List D->Option (List D)
 | [.tup l]=>if D.immL l=true then some (zt6 l) else none
 | _=>none
theorem zw1 {l:List D} {i:Nat} {d:D} (h:(zt6 l)[i]?=some d):∃x,l[i]?=some x/\d=.tup [.int i,x]:=by
 unfold zt6 at h;rw[Ag0,List.getElem?_zipIdx] at h;cases q:l[i]? with
 | none=>rw[q] at h;cases h
 | some x=>rw[q] at h;cases h;exact⟨x,rfl,by simp⟩
theorem zp4 (l:List D):(zt6 l).length=l.length:=by unfold zt6;rw[Aa0,List.length_zipIdx]
theorem xj0:∀{l:List D} {i:Nat} {d:D},D.immL l=true->l[i]?=some d->d.imm=true
 | [],_,_,_,h=>by simp at h
 | x::l,0,d,m,h=>by
   have m':x.imm=true/\D.immL l=true:=by simpa [D.immL] using m
   simp at h;subst h;exact m'.1
 | x::l,i+1,d,m,h=>by
   have m':x.imm=true/\D.immL l=true:=by simpa [D.immL] using m
   exact xj0 (i:=i) m'.2 (by simpa using h)
set_option tactic.hygienic true in
theorem xy0 {a:Expr} {f:FnA S} {p pos:Pos} (hK:c.K=X.K) (hg:Gl X "enumerate") (hm:X.mg "enumerate" = none) (ha:DA X c [a] f) (hs:starEach [a] X.env=[(false,eval a X.env)]:=by rfl):DI X c (.Tuple elts x1 tpos) (.Call (.Name "enumerate" p) [a] [] pos) (xd7 S wd2 f):=
 (wc1 hg hm ha hs).imp fun σ H R hI30=>by
  obtain⟨ρ,st,R0,ok,w⟩:=hI30;refine⟨ρ,st,R0,ok,za7 (za5.mp w) (fun l st1 q vs H1 e ok1 z=>?_) fun x st1 q=>q⟩;obtain⟨m,e1,q⟩:=zb7.mp q;unfold wd2 at e1;split at e1
  ·rename_i l
   split at e1
   ·rename_i im
    cases e1;obtain⟨v,r,e2,i2,i3⟩:=IsL.cons.mp z;obtain⟨a,xs,ea,s0,i⟩:=Is.tup_iff.mp i2;have s:SqT c.K H1 a xs:=.of s0;rw[IsL.nil.mp i3,ea] at e2;refine⟨a,xs,e2,hK▸s,q _ H1 e ok1 ?_⟩;intro c' hK' σ2 ρ2 H2 st2 k R2 ok2 j;have s2:SqT X.K H2 a xs:=by rw[<-hK];exact .of (k.tup a xs s0)
    have i1:IsL c.K (Av c σ ρ) H1 l xs:=IsL.ofImm im i;have i2:IsL c.K (Av c' σ2 ρ2) H2 l xs:=i1.mono k;refine⟨fun d hd=>?_,fun hl=>⟨xs,s2,by rw[zp4] at hl;rw[<-i2.length];exact hl⟩⟩;obtain⟨y,hy,rfl⟩:=zw1 hd;obtain⟨v1,hv,iv⟩:=i2.get hy;refine⟨⟨xs,v1,s2,hv⟩,?_⟩;rintro x H3 ⟨pp,x',hpn,rfl,rfl,hx⟩;have:=hx xs s2;rw[hv] at this;cases this;have sm:yt9 H2 (upd H2 pp (.tup [.int j,v1])):=fun b o hb=>by rw[zb2 (zb6 hb hpn)];exact hb
    refine⟨sm,Is.tup zb5 (IsL.cons.mpr ⟨_,_,rfl,Is.int_iff.mpr rfl,IsL.one ?_⟩)⟩;exact Is.ofImm (xj0 im hy) (iv.mono (A':=Av c' σ2 ρ2) (zl3 (fun b o hb _=>sm b o hb) fun b o a hb=>⟨a,sm b o hb⟩))
   ·cases e1
  ·cases e1
end
section
variable {X:Cx}
theorem zv7 {bs:List Bool}:(List.range bs.length).all (fun i=>bs.getD i false)=bs.all id:=by
 apply Bool.eq_iff_iff.mpr;simp only[List.all_eq_true,Ca0,id];constructor
 ·intro h b hb
  obtain⟨i,hi,e⟩:=List.mem_iff_getElem.mp hb;have:=h i hi;rw[Bv0,Ab0 hi] at this;rw[<-e];exact this
 ·intro h i hi
  rw[Bv0,Ab0 hi];exact h _ (List.getElem_mem hi)
theorem xs5 {bs:List Bool}:(List.range bs.length).any (fun i=>bs.getD i false)=bs.any id:=by
 apply Bool.eq_iff_iff.mpr;simp only[List.any_eq_true,Ca0,id];constructor
 ·rintro ⟨i,hi,h⟩
  rw[Bv0,Ab0 hi] at h;exact⟨_,List.getElem_mem hi,h⟩
 ·rintro ⟨b,hb,h⟩
  obtain⟨i,hi,e⟩:=List.mem_iff_getElem.mp hb;refine⟨i,hi,?_⟩;rw[Bv0,Ab0 hi,e];exact h
theorem xk5 {bs:List Bool} {its:List Value} (r:zg1 (bs.map V.bl) its) {i:Nat} {v:Value} (h:its.toArray[i]?=some v):v=.bool (bs.getD i false):=by
 have hi:i<its.length:=by
  have:=(Array.getElem?_eq_some_iff.mp h).1;simpa using this
 have hl:=r.length;rw[Aa0] at hl;have hb:i<bs.length:=by omega
 obtain⟨u,hu,ru⟩:=r.get (i:=i) (x:=.bl bs[i]) (by rw[Ag0,Ab0 hb];rfl);have:its[i]?=some v:=by simpa using h
 rw[hu] at this;cases this;rw[Bv0,Ab0 hb];exact ru
theorem yt7 (hc:X.calm=true):ya9 X (.builtin "all") (fun xs H Q=>∃(a:Addr) (bs:List Bool),xs=[.ref a]/\SqL X.K H a (bs.map V.bl)/\Q (.bl (bs.all id)) H):=by
 intro A3 s σ H xs us Q I r h;obtain⟨a,bs,rfl,hq,q⟩:=h;obtain⟨u,rfl,r1⟩:=ym5 r;cases r1;obtain⟨its,rv,p,hz⟩:=I.list hq;have hh:X.A.in1.handled=none:=I.ok.hd hc;have lt:a<s.heap.objs.size:=by obtain⟨o,e,_⟩:=p.isList;exact Heap.lt_size e
 refine call_all_walk (wpAny_pyIter_list p.isList ⟨_,_,_,_,_,_,fun i=>bs.getD i false,rfl,Walks.list hh s.heap.objs.size a (Ao0 lt) its.toArray,⟨⟨_,Ak0 _ rfl,rfl,rfl⟩,p.isList.push _⟩,?_,?_⟩)
 ·intro i v Q' E' s' hP hQ
  rw[xk5 rv hP];exact Ai1 hQ
 ·intro h' tk hk
  have e:(List.range its.toArray.size).all (fun i=>bs.getD i false)=bs.all id:=by
   have hl:=rv.length;rw[Aa0] at hl;rw[Ah0,<-hl,zv7]
  rw[e];refine⟨.bl _,H,?_,rfl,q⟩;refine I.kept (t':=tk) fun b o e=>hk b o (fun z=>?_) (Ad0 _ e)
  have z:b=s.heap.objs.size:=by simpa using z
  have lt:=Heap.lt_size e;rw[z] at lt;exact Bs0 _ lt
theorem yt6 (hc:X.calm=true):ya9 X (.builtin "any") (fun xs H Q=>∃(a:Addr) (bs:List Bool),xs=[.ref a]/\SqL X.K H a (bs.map V.bl)/\Q (.bl (bs.any id)) H):=by
 intro A3 s σ H xs us Q I r h;obtain⟨a,bs,rfl,hq,q⟩:=h;obtain⟨u,rfl,r1⟩:=ym5 r;cases r1;obtain⟨its,rv,p,hz⟩:=I.list hq;have hh:X.A.in1.handled=none:=I.ok.hd hc;have lt:a<s.heap.objs.size:=by obtain⟨o,e,_⟩:=p.isList;exact Heap.lt_size e
 refine call_any_walk (wpAny_pyIter_list p.isList ⟨_,_,_,_,_,_,fun i=>bs.getD i false,rfl,Walks.list hh s.heap.objs.size a (Ao0 lt) its.toArray,⟨⟨_,Ak0 _ rfl,rfl,rfl⟩,p.isList.push _⟩,?_,?_⟩)
 ·intro i v Q' E' s' hP hQ
  rw[xk5 rv hP];exact Ai1 hQ
 ·intro h' tk hk
  have e:(List.range its.toArray.size).any (fun i=>bs.getD i false)=bs.any id:=by
   have hl:=rv.length;rw[Aa0] at hl;rw[Ah0,<-hl,xs5]
  rw[e];refine⟨.bl _,H,?_,rfl,q⟩;refine I.kept (t':=tk) fun b o e=>hk b o (fun z=>?_) (Ad0 _ e)
  have z:b=s.heap.objs.size:=by simpa using z
  have lt:=Heap.lt_size e;rw[z] at lt;exact Bs0 _ lt
end
open PySem.SeqAt
mutual
noncomputable def D.eqq:D->D->Option Bool
 | .int i,.int j=>some (i == j)
 | .str i,.str j=>some (i == j)
 | .bl i,.bl j=>some (i == j)
 | .non,.non=>some true
 | .tup l,.tup m=>D.eqL l m
 | .lst l,.lst m=>if l.length=m.length then D.eqL l m else some false
 | _,_=>none
noncomputable def D.eqL:List D->List D->Option Bool
 | [],[]=>some true
 | [],_::_=>some false
 | _::_,[]=>some false
 | a::l,b::m=>(D.eqq a b).bind fun x=>(D.eqL l m).map fun y=>x&&y
end
mutual
noncomputable def D.dep:D->Nat
 | .tup l=>D.depL l+1
 | .lst l=>D.depL l+1
 | _=>0
noncomputable def D.depL:List D->Nat
 | []=>0
 | d::l=>max (D.dep d) (D.depL l)
end
section
variable {X:Cx} {A3:List (Addr×Obj)} {σ:St} {H:Hp} {s:Shared} {A1 A2:Addr->Prop}
mutual
theorem ys7 (I:Inv X A3 σ H s):∀{d1 d2:D} {v:V} {b:Bool},Is X.K A1 H d1 v->Is X.K A2 H d2 v->D.eqq d1 d2=some b->b=true
 | .int i,d2,v,b,h1,h2,e=>by
   rw[Is.int_iff.mp h1] at h2;cases d2 with
   | int j=>have:=Is.int_iff.mp h2;cases this;unfold D.eqq at e;simpa using e.symm
   | _=>unfold D.eqq at e;cases e
 | .str i,d2,v,b,h1,h2,e=>by
   rw[Is.str_iff.mp h1] at h2;cases d2 with
   | str j=>have:=Is.str_iff.mp h2;cases this;unfold D.eqq at e;simpa using e.symm
   | _=>unfold D.eqq at e;cases e
 | .bl i,d2,v,b,h1,h2,e=>by
   rw[Is.bl_iff.mp h1] at h2;cases d2 with
   | bl j=>have:=Is.bl_iff.mp h2;cases this;unfold D.eqq at e;simpa using e.symm
   | _=>unfold D.eqq at e;cases e
 | .non,d2,v,b,h1,h2,e=>by
   cases d2 with
   | non=>unfold D.eqq at e;simpa using e.symm
   | _=>unfold D.eqq at e;cases e
 | .tup l,d2,v,b,h1,h2,e=>by
   cases d2 with
   | tup m=>
     obtain⟨a,vs,ea,s1,i1⟩:=Is.tup_sq h1;obtain⟨a',us,ea',s2,i2⟩:=Is.tup_sq h2;rw[ea] at ea';cases ea';have:=I.tuple_inj s1 s2;subst this;unfold D.eqq at e;exact ys9 I i1 i2 e
   | _=>unfold D.eqq at e;cases e
 | .lst l,d2,v,b,h1,h2,e=>by
   cases d2 with
   | lst m=>
     obtain⟨a,vs,ea,_,s1,i1⟩:=Is.lst_iff.mp h1;obtain⟨a',us,ea',_,s2,i2⟩:=Is.lst_iff.mp h2;rw[ea] at ea';cases ea';have:vs=us:=by rw[s1] at s2;cases s2;rfl
     subst this;unfold D.eqq at e;have hl:l.length=m.length:=by rw[i1.length,i2.length]
     rw[if_pos hl] at e;exact ys9 I i1 i2 e
   | _=>unfold D.eqq at e;cases e
 | .dct _ _,d2,v,b,h1,h2,e=>by cases d2<;>(unfold D.eqq at e;cases e)
 | .fl _,d2,v,b,h1,h2,e=>by cases d2<;>(unfold D.eqq at e;cases e)
theorem ys9 (I:Inv X A3 σ H s):∀{l m:List D} {vs:List V} {b:Bool},IsL X.K A1 H l vs->IsL X.K A2 H m vs->D.eqL l m=some b->b=true
 | [],m,vs,b,h1,h2,e=>by
   rw[IsL.nil.mp h1] at h2;cases m with
   | nil=>unfold D.eqL at e;simpa using e.symm
   | cons x r=>obtain⟨_,_,z,_⟩:=IsL.cons.mp h2;cases z
 | d::l,m,vs,b,h1,h2,e=>by
   obtain⟨v,r,ev,i1,j1⟩:=IsL.cons.mp h1;subst ev;cases m with
   | nil=>have:=IsL.nil.mp h2;cases this
   | cons x m=>
     obtain⟨v',r',ev',i2,j2⟩:=IsL.cons.mp h2;cases ev';unfold D.eqL at e;cases q1:D.eqq d x with
     | none=>rw[q1] at e;cases e
     | some b1=>
       cases q2:D.eqL l m with
       | none=>rw[q1,q2] at e;cases e
       | some b2=>
         rw[q1,q2] at e;have e:some (b1&&b2)=some b:=e;cases e;rw[ys7 I i1 i2 q1,ys9 I j1 j2 q2];rfl
end
noncomputable def yg5:List D->List D->List Bool
 | a::l,b::m=>((D.eqq a b).getD false)::yg5 l m
 | _,_=>[]
theorem zq1:∀(l m:List D),(yg5 l m).length=min l.length m.length
 | [],m=>by cases m<;>simp[yg5]
 | a::l,[]=>by simp[yg5]
 | a::l,b::m=>by simp[yg5,zq1 l m]
theorem yl4:∀{l m:List D} {b:Bool},D.eqL l m=some b->b=((yg5 l m).all id&&l.length == m.length)
 | [],[],b,e=>by unfold D.eqL at e;simpa [yg5] using e.symm
 | [],_::_,b,e=>by unfold D.eqL at e;simpa [yg5] using e.symm
 | _::_,[],b,e=>by unfold D.eqL at e;simpa [yg5] using e.symm
 | a::l,x::m,b,e=>by
   unfold D.eqL at e;cases q1:D.eqq a x with
   | none=>rw[q1] at e;cases e
   | some b1=>
     cases q2:D.eqL l m with
     | none=>rw[q1,q2] at e;cases e
     | some b2=>
       rw[q1,q2] at e;have e:some (b1&&b2)=some b:=e;cases e;rw[yl4 q2];simp[yg5,q1,Bool.and_assoc]
theorem xj5:∀{l m:List D} {b:Bool} {j:Nat} {x y:D},D.eqL l m=some b->l[j]?=some x->m[j]?=some y->D.eqq x y=some ((yg5 l m).getD j false)
 | [],_,_,_,_,_,_,h,_=>by simp at h
 | _::_,[],_,_,_,_,_,_,h=>by simp at h
 | a::l,c::m,b,j,x,y,e,h1,h2=>by
   unfold D.eqL at e;cases q1:D.eqq a c with
   | none=>rw[q1] at e;cases e
   | some b1=>
     cases q2:D.eqL l m with
     | none=>rw[q1,q2] at e;cases e
     | some b2=>
       cases j with
       | zero=>simp at h1 h2;subst h1 h2;simp[yg5,q1]
       | succ j=>
         have:=xj5 (j:=j) q2 (by simpa using h1) (by simpa using h2);simpa [yg5] using this
theorem yt1:∀{l:List D} {j:Nat} {x:D},l[j]?=some x->x.dep<=D.depL l
 | [],_,_,h=>by simp at h
 | a::l,0,x,h=>by simp at h;subst h;unfold D.depL;omega
 | a::l,j+1,x,h=>by
   have:=yt1 (j:=j) (l:=l) (x:=x) (by simpa using h);unfold D.depL;omega
noncomputable def D.plain:D->Bool
 | .tup _=>false
 | .lst _=>false
 | .dct _ _=>false
 | .fl _=>false
 | _=>true
theorem yp4 {A:Around} {d1 d2:D} {b:Bool} {v1 v2:V} {u1 u2:Value} (hp:d1.plain=true) (e:D.eqq d1 d2=some b) (h1:Is X.K A1 H d1 v1) (h2:Is X.K A2 H d2 v2) (r1:zf3 v1 u1) (r2:zf3 v2 u2):EqAt A s u1 u2 b:=by
 cases d1 with
 | int i=>
   cases d2 with
   | int j=>
     have z1:=Is.int_iff.mp h1;have z2:=Is.int_iff.mp h2;subst z1 z2;obtain⟨t,rfl⟩:=r1;obtain⟨t',rfl⟩:=r2;unfold D.eqq at e;cases e;exact EqAt.int_int i t j t'
   | _=>unfold D.eqq at e;cases e
 | str i=>
   cases d2 with
   | str j=>
     have z1:=Is.str_iff.mp h1;have z2:=Is.str_iff.mp h2;subst z1 z2;obtain⟨t,rfl⟩:=r1;obtain⟨t',rfl⟩:=r2;unfold D.eqq at e;cases e;exact EqAt.str_str i t j t'
   | _=>unfold D.eqq at e;cases e
 | bl i=>
   cases d2 with
   | bl j=>
     have z1:=Is.bl_iff.mp h1;have z2:=Is.bl_iff.mp h2;subst z1 z2;cases r1;cases r2;unfold D.eqq at e;cases e;exact EqAt.bool_bool i j
   | _=>unfold D.eqq at e;cases e
 | non=>
   cases d2 with
   | non=>
     have z1:=Is.non_iff.mp h1;have z2:=Is.non_iff.mp h2;subst z1 z2;cases r1;cases r2;unfold D.eqq at e;cases e;exact EqAt.same _
   | _=>unfold D.eqq at e;cases e
 | tup l=>simp[D.plain] at hp
 | lst l=>simp[D.plain] at hp
 | dct _ _=>simp[D.plain] at hp
 | fl _=>simp[D.plain] at hp
theorem zo8 {A:Around} {n:Nat} {l m:List D} {vs us:List V} {its its2:List Value} {b:Bool} (e:D.eqL l m=some b) (i1:IsL X.K A1 H l vs) (i2:IsL X.K A2 H m us) (rv:zg1 vs its) (rv2:zg1 us its2)
 (ih:∀{d1 d2:D} {b:Bool} {v1 v2:V} {u1 u2:Value},d1.dep<=n->D.eqq d1 d2=some b->Is X.K A1 H d1 v1->Is X.K A2 H d2 v2->zf3 v1 u1->zf3 v2 u2->EqAt A s u1 u2 b) (hd:D.depL l<=n)
 (j:Nat) (h1:j<its.toArray.size) (h2:j<its2.toArray.size):EqAt A s its.toArray[j] its2.toArray[j] ((yg5 l m).getD j false):=by
 have h1':j<its.length:=by simpa using h1
 have h2':j<its2.length:=by simpa using h2
 have g1:j<l.length:=by rw[i1.length,rv.length];exact h1'
 have g2:j<m.length:=by rw[i2.length,rv2.length];exact h2'
 have x1:l[j]?=some l[j]:=Ab0 g1;have x2:m[j]?=some m[j]:=Ab0 g2;obtain⟨v1,hv1,z1⟩:=i1.get x1;obtain⟨v2,hv2,z2⟩:=i2.get x2;obtain⟨w1,hw1,r1⟩:=rv.get hv1;obtain⟨w2,hw2,r2⟩:=rv2.get hv2;have e1:its.toArray[j]=w1:=by
  rw[Ab0 h1'] at hw1;have:=Option.some.inj hw1;simpa using this
 have e2:its2.toArray[j]=w2:=by
  rw[Ab0 h2'] at hw2;have:=Option.some.inj hw2;simpa using this
 rw[e1,e2];exact ih (Ax0 (yt1 x1) hd) (xj5 e x1 x2) z1 z2 r1 r2
theorem xx6 (I:Inv X A3 σ H s):∀(n:Nat) {A:Around} {d1 d2:D} {b:Bool} {v1 v2:V} {u1 u2:Value},d1.dep<=n->A.units+n<cLine->D.eqq d1 d2=some b->Is X.K A1 H d1 v1->Is X.K A2 H d2 v2->zf3 v1 u1->zf3 v2 u2->EqAt A s u1 u2 b:=by
 intro n;induction n with
 | zero=>
   intro A d1 d2 b v1 v2 u1 u2 hd hu e h1 h2 r1 r2;refine yp4 ?_ e h1 h2 r1 r2;cases d1 with
   | tup l=>unfold D.dep at hd;omega
   | lst l=>unfold D.dep at hd;omega
   | dct _ _=>cases d2<;>(unfold D.eqq at e;cases e)
   | fl _=>cases d2<;>(unfold D.eqq at e;cases e)
   | _=>rfl
 | succ n ih=>
   intro A d1 d2 b v1 v2 u1 u2 hd hu e h1 h2 r1 r2;by_cases hp:d1.plain=true
   ·exact yp4 hp e h1 h2 r1 r2
   have hu0:A.units<cLine:=by omega
   have ih':∀{d1 d2:D} {b:Bool} {v1 v2:V} {u1 u2:Value},d1.dep<=n->D.eqq d1 d2=some b->Is X.K A1 H d1 v1->Is X.K A2 H d2 v2->zf3 v1 u1->zf3 v2 u2->EqAt A.in1 s u1 u2 b:=
    fun hd e h1 h2 r1 r2=>ih (A:=A.in1) hd (by rw[Around.in1_units];omega) e h1 h2 r1 r2
   cases d1 with
   | tup l=>
     cases d2 with
     | tup m=>
       obtain⟨a,vs,ea,s1,i1⟩:=Is.tup_sq h1;obtain⟨a',us,ea',s2,i2⟩:=Is.tup_sq h2;have hb:a=a'->b=true:=fun z=>by
        subst z;rw[ea'] at h2;rw[ea] at h1;exact ys7 I h1 h2 e
       subst ea ea';cases r1;cases r2;by_cases z:a=a'
       ·rw[hb z,z];exact EqAt.same _
       ·obtain⟨its,rv,p1,_⟩:=I.tuple s1
        obtain⟨its2,rv2,p2,_⟩:=I.tuple s2;unfold D.eqq at e;have dl:D.depL l<=n:=by unfold D.dep at hd;omega
        have q:=RcAt.tuples (A:=A) (e:=fun j=>(yg5 l m).getD j false) (show s.heap.IsTuple a its.toArray from p1) (show s.heap.IsTuple a' its2.toArray from p2) hu0 (fun j g1 g2=>zo8 e i1 i2 rv rv2 ih' dl j g1 g2);have eb:=yl4 e;have l1:its.toArray.size=l.length:=by rw[Ah0,<-rv.length,<-i1.length]
        have l2:its2.toArray.size=m.length:=by rw[Ah0,<-rv2.length,<-i2.length]
        rw[l1,l2,<-zq1,zv7,<-eb] at q;exact EqAt.of_refs z q
     | _=>unfold D.eqq at e;cases e
   | lst l=>
     cases d2 with
     | lst m=>
       obtain⟨a,vs,ea,_,s1,i1⟩:=Is.lst_iff.mp h1;obtain⟨a',us,ea',_,s2,i2⟩:=Is.lst_iff.mp h2;have hb:a=a'->b=true:=fun z=>by
        subst z;rw[ea'] at h2;rw[ea] at h1;exact ys7 I h1 h2 e
       subst ea ea';cases r1;cases r2;by_cases z:a=a'
       ·rw[hb z,z];exact EqAt.same _
       ·obtain⟨its,rv,p1,_⟩:=I.list (.of s1)
        obtain⟨its2,rv2,p2,_⟩:=I.list (.of s2);have l1:its.toArray.size=l.length:=by rw[Ah0,<-rv.length,<-i1.length]
        have l2:its2.toArray.size=m.length:=by rw[Ah0,<-rv2.length,<-i2.length]
        unfold D.eqq at e;by_cases hl:l.length=m.length
        ·rw[if_pos hl] at e
         have dl:D.depL l<=n:=by unfold D.dep at hd;omega
         have q:=RcAt.lists (A:=A) (e:=fun j=>(yg5 l m).getD j false) p1.isList p2.isList (by rw[l1,l2,hl]) hu0 (fun j g1 g2=>zo8 e i1 i2 rv rv2 ih' dl j g1 g2);have eb:=yl4 e;have el:l.length=(yg5 l m).length:=by rw[zq1];omega
         rw[l1,el,zv7] at q;rw[hl] at eb;simp at eb;rw[eb];have:(yg5 l m).all id=(yg5 l m).all (fun x=>x):=rfl;exact EqAt.of_refs z q
        ·rw[if_neg hl] at e
         cases e;exact EqAt.of_refs z (RcAt.lists_lengths p1.isList p2.isList (by rw[l1,l2];simpa using hl) hu0)
     | _=>unfold D.eqq at e;cases e
   | dct _ _=>cases d2<;>(unfold D.eqq at e;cases e)
   | fl _=>cases d2<;>(unfold D.eqq at e;cases e)
   | _=>simp[D.plain] at hp
end
section
variable {X:Cx} {A3:List (Addr×Obj)} {σ:St} {H:Hp} {s:Shared} {A1 A2:Addr->Prop}
theorem wi2 (I:Inv X A3 σ H s) {n:Nat} {A:Around} {d1 d2:D} {b:Bool} {v1 v2:V} {u1 u2:Value} (hd:d1.dep<=n) (hu:A.units+n<cLine) (e:D.eqq d1 d2=some b) (h1:Is X.K A1 H d1 v1) (h2:Is X.K A2 H d2 v2) (r1:zf3 v1 u1) (r2:zf3 v2 u2) :
 RcAt A s u1 u2 b/\RcNeAt A s u1 u2 (!b):=by
 have hu0:A.units<cLine:=by omega
 cases d1 with
 | int i=>
   cases d2 with
   | int j=>
     have z1:=Is.int_iff.mp h1;have z2:=Is.int_iff.mp h2;subst z1 z2;obtain⟨t,rfl⟩:=r1;obtain⟨t',rfl⟩:=r2;unfold D.eqq at e;cases e;exact⟨RcAt.int_int i t j t',RcNeAt.int_int i t j t'⟩
   | _=>unfold D.eqq at e;cases e
 | str i=>
   cases d2 with
   | str j=>
     have z1:=Is.str_iff.mp h1;have z2:=Is.str_iff.mp h2;subst z1 z2;obtain⟨t,rfl⟩:=r1;obtain⟨t',rfl⟩:=r2;unfold D.eqq at e;cases e;exact⟨RcAt.str_str i t j t',RcNeAt.str_str i t j t'⟩
   | _=>unfold D.eqq at e;cases e
 | bl i=>
   cases d2 with
   | bl j=>
     have z1:=Is.bl_iff.mp h1;have z2:=Is.bl_iff.mp h2;subst z1 z2;cases r1;cases r2;unfold D.eqq at e;cases e;exact⟨RcAt.bool_bool i j,RcNeAt.bool_bool i j⟩
   | _=>unfold D.eqq at e;cases e
 | non=>
   cases d2 with
   | non=>
     have z1:=Is.non_iff.mp h1;have z2:=Is.non_iff.mp h2;subst z1 z2;cases r1;cases r2;unfold D.eqq at e;cases e;exact⟨RcAt.none_none,RcNeAt.none_none⟩
   | _=>unfold D.eqq at e;cases e
 | tup l=>
   cases d2 with
   | tup m=>
     obtain⟨a,vs,ea,s1,i1⟩:=Is.tup_sq h1;obtain⟨a',us,ea',s2,i2⟩:=Is.tup_sq h2;subst ea ea';cases r1;cases r2;obtain⟨its,rv,p1,_⟩:=I.tuple s1;obtain⟨its2,rv2,p2,_⟩:=I.tuple s2;unfold D.eqq at e;have hd':D.depL l+1<=n:=by unfold D.dep at hd;exact hd
     have ih':∀{d1 d2:D} {b:Bool} {v1 v2:V} {u1 u2:Value},d1.dep<=n-1->D.eqq d1 d2=some b->Is X.K A1 H d1 v1->Is X.K A2 H d2 v2->zf3 v1 u1->zf3 v2 u2->EqAt A.in1 s u1 u2 b:=
      fun hd e h1 h2 r1 r2=>xx6 I (n-1) (A:=A.in1) hd (by rw[Around.in1_units];omega) e h1 h2 r1 r2
     have q:=RcAt.tuples (A:=A) (e:=fun j=>(yg5 l m).getD j false) (show s.heap.IsTuple a its.toArray from p1) (show s.heap.IsTuple a' its2.toArray from p2) hu0 (fun j g1 g2=>zo8 e i1 i2 rv rv2 ih' (by omega) j g1 g2);have q':=RcNeAt.tuples (A:=A) (e:=fun j=>(yg5 l m).getD j false) (show s.heap.IsTuple a its.toArray from p1) (show s.heap.IsTuple a' its2.toArray from p2) hu0 (fun j g1 g2=>zo8 e i1 i2 rv rv2 ih' (by omega) j g1 g2);have eb:=yl4 e;have l1:its.toArray.size=l.length:=by rw[Ah0,<-rv.length,<-i1.length]
     have l2:its2.toArray.size=m.length:=by rw[Ah0,<-rv2.length,<-i2.length]
     rw[l1,l2,<-zq1,zv7,<-eb] at q q';exact⟨q,q'⟩
   | _=>unfold D.eqq at e;cases e
 | lst l=>
   cases d2 with
   | lst m=>
     obtain⟨a,vs,ea,_,s1,i1⟩:=Is.lst_iff.mp h1;obtain⟨a',us,ea',_,s2,i2⟩:=Is.lst_iff.mp h2;subst ea ea';cases r1;cases r2;obtain⟨its,rv,p1,_⟩:=I.list (.of s1);obtain⟨its2,rv2,p2,_⟩:=I.list (.of s2);have l1:its.toArray.size=l.length:=by rw[Ah0,<-rv.length,<-i1.length]
     have l2:its2.toArray.size=m.length:=by rw[Ah0,<-rv2.length,<-i2.length]
     unfold D.eqq at e;by_cases hl:l.length=m.length
     ·rw[if_pos hl] at e
      have hd':D.depL l+1<=n:=by unfold D.dep at hd;exact hd
      have ih':∀{d1 d2:D} {b:Bool} {v1 v2:V} {u1 u2:Value},d1.dep<=n-1->D.eqq d1 d2=some b->Is X.K A1 H d1 v1->Is X.K A2 H d2 v2->zf3 v1 u1->zf3 v2 u2->EqAt A.in1 s u1 u2 b:=
       fun hd e h1 h2 r1 r2=>xx6 I (n-1) (A:=A.in1) hd (by rw[Around.in1_units];omega) e h1 h2 r1 r2
      have q:=RcAt.lists (A:=A) (e:=fun j=>(yg5 l m).getD j false) p1.isList p2.isList (by rw[l1,l2,hl]) hu0 (fun j g1 g2=>zo8 e i1 i2 rv rv2 ih' (by omega) j g1 g2);have q':=RcNeAt.lists (A:=A) (e:=fun j=>(yg5 l m).getD j false) p1.isList p2.isList (by rw[l1,l2,hl]) hu0 (fun j g1 g2=>zo8 e i1 i2 rv rv2 ih' (by omega) j g1 g2);have eb:=yl4 e;have el:l.length=(yg5 l m).length:=by rw[zq1];omega
      rw[l1,el,zv7] at q q';have eb':b=(yg5 l m).all id:=by rw[eb,hl];simp
      rw[eb'];exact⟨q,q'⟩
     ·rw[if_neg hl] at e
      cases e;exact⟨RcAt.lists_lengths p1.isList p2.isList (by rw[l1,l2];simpa using hl) hu0,RcNeAt.lists_lengths p1.isList p2.isList (by rw[l1,l2];simpa using hl) hu0⟩
   | _=>unfold D.eqq at e;cases e
 | dct _ _=>cases d2<;>(unfold D.eqq at e;cases e)
 | fl _=>cases d2<;>(unfold D.eqq at e;cases e)
noncomputable def vi2 (K:PySem.W.Frag) (neg:Bool):R2:=fun x y H Q=>∃(A:Addr->Prop) (d1 d2:D) (b:Bool),Is K A H d1 x/\Is K A H d2 y/\d1.dep<=30/\D.eqq d1 d2=some b/\Q (.bl (if neg then !b else b)) H
theorem zi0 {k:Nat} (hr:zm7 k X.A):OpR X (compareOp .Eq) (vi2 X.K false):=by
 intro A3 s σ H x y v u Q I rx ry h;obtain⟨A,d1,d2,b,h1,h2,hd,e,q⟩:=h;exact(wi2 I (n:=30) hd (by have:=hr.units;omega) e h1 h2 rx ry).1 _ _ _ _ ⟨.bl b,H,I,rfl,q⟩
theorem yc4 {k:Nat} (hr:zm7 k X.A):OpR X (compareOp .NotEq) (vi2 X.K true):=by
 intro A3 s σ H x y v u Q I rx ry h;obtain⟨A,d1,d2,b,h1,h2,hd,e,q⟩:=h;exact(wi2 I (n:=30) hd (by have:=hr.units;omega) e h1 h2 rx ry).2 _ _ _ _ ⟨.bl (!b),H,I,rfl,q⟩
noncomputable def inD (x:D):List D->Option Bool
 | []=>some false
 | d::l=>(D.eqq d x).bind fun b=>(inD x l).map fun c=>b||c
noncomputable def vi1 (K:PySem.W.Frag) (neg:Bool):R2:=fun x y H Q=>∃(A:Addr->Prop) (d:D) (l:List D) (b:Bool),Is K A H d x/\(Is K A H (.lst l) y\/Is K A H (.tup l) y)/\D.depL l<=30/\inD d l=some b/\Q (.bl (if neg then !b else b)) H
open Classical in
noncomputable def wg9 (x:D) (l:List D) (us:List Value) (u:Value):Bool:=decide (∃(j:Nat) (d:D),us[j]?=some u/\l[j]?=some d/\D.eqq d x=some true)
theorem yh7 {x:D} {l:List D} {us:List Value} {u:Value}:wg9 x l us u=true↔∃(j:Nat) (d:D),us[j]?=some u/\l[j]?=some d/\D.eqq d x=some true:=by
 classical
 unfold wg9;exact decide_eq_true_iff
theorem yy6 {x:D}:∀{l:List D} {b:Bool},inD x l=some b->∀(j:Nat) (d:D),l[j]?=some d->∃c,D.eqq d x=some c
 | [],_,_,_,_,h=>by simp at h
 | a::l,b,e,j,d,h=>by
   unfold inD at e;cases q1:D.eqq a x with
   | none=>rw[q1] at e;cases e
   | some c=>
     cases q2:inD x l with
     | none=>rw[q1,q2] at e;cases e
     | some c2=>
       cases j with
       | zero=>simp at h;subst h;exact⟨c,q1⟩
       | succ j=>exact yy6 q2 j d (by simpa using h)
theorem xw5 {x:D}:∀{l:List D} {b:Bool},inD x l=some b->(b=true↔∃(j:Nat) (d:D),l[j]?=some d/\D.eqq d x=some true)
 | [],b,e=>by
   unfold inD at e;cases e;constructor
   ·intro h;cases h
   ·rintro ⟨j,d,h,_⟩;simp at h
 | a::l,b,e=>by
   unfold inD at e;cases q1:D.eqq a x with
   | none=>rw[q1] at e;cases e
   | some c=>
     cases q2:inD x l with
     | none=>rw[q1,q2] at e;cases e
     | some c2=>
       rw[q1,q2] at e;have e:some (c||c2)=some b:=e;cases e;have ih:=xw5 q2;rw[Bool.or_eq_true];constructor
       ·rintro (h | h)
        ·subst h;exact⟨0,a,rfl,q1⟩
        ·obtain⟨j,d,h1,h2⟩:=ih.mp h
         exact⟨j+1,d,by simpa using h1,h2⟩
       ·rintro ⟨j,d,h1,h2⟩
        cases j with
        | zero=>
          simp at h1;subst h1;rw[q1] at h2;cases h2;exact .inl rfl
        | succ j=>exact .inr (ih.mpr ⟨j,d,by simpa using h1,h2⟩)
theorem yh1 (I:Inv X A3 σ H s) {A:Around} {A1:Addr->Prop} {x:D} {l:List D} {vs:List V} {its:List Value} {b:Bool} {v:V} {u:Value} (hd:D.depL l<=30) (hu:A.units+30<cLine) (e:inD x l=some b) (i:IsL X.K A1 H l vs) (rv:zg1 vs its) (h:Is X.K A1 H x v) (r:zf3 v u) :
 (∀y∈its.toArray,EqAt A s y u (wg9 x l its y))/\its.toArray.any (wg9 x l its)=b:=by
 have at_:∀(j:Nat) (y:Value),its[j]?=some y->∃d w,l[j]?=some d/\Is X.K A1 H d w/\zf3 w y:=fun j y hy=>by
  have hj:j<its.length:=(Ac0.mp hy).1;have hl:j<l.length:=by rw[i.length,rv.length];exact hj
  obtain⟨w,hw,iw⟩:=i.get (Ab0 hl);obtain⟨y',hy',ry⟩:=rv.get hw;rw[hy] at hy';cases hy';exact⟨_,w,Ab0 hl,iw,ry⟩
 have eqs:∀(j:Nat) (y:Value) (d:D) (c:Bool),its[j]?=some y->l[j]?=some d->D.eqq d x=some c->EqAt A s y u c:=fun j y d c hy hd' ec=>by
  obtain⟨d2,w,h2,iw,ry⟩:=at_ j y hy;rw[hd'] at h2;cases h2;exact xx6 I 30 (Ax0 (yt1 hd') hd) hu ec iw h ry r
 constructor
 ·intro y hy
  by_cases hc:∃(j:Nat) (d:D),its[j]?=some y/\l[j]?=some d/\D.eqq d x=some true
  ·obtain⟨j,d,h1,h2,h3⟩:=hc
   have:wg9 x l its y=true:=yh7.mpr ⟨j,d,h1,h2,h3⟩;rw[this];exact eqs j y d true h1 h2 h3
  ·have:wg9 x l its y=false:=by cases q:wg9 x l its y with
    | false=>rfl
    | true=>exact(hc (yh7.mp q)).elim
   rw[this];obtain⟨j,hj,ej⟩:=List.mem_iff_getElem.mp (show y∈its by simpa using hy);have hy':its[j]?=some y:=by rw[Ab0 hj,ej]
   obtain⟨d,w,h2,iw,ry⟩:=at_ j y hy';obtain⟨c,ec⟩:=yy6 e j d h2;cases c with
   | false=>exact eqs j y d false hy' h2 ec
   | true=>exact(hc ⟨j,d,hy',h2,ec⟩).elim
 ·apply Bool.eq_iff_iff.mpr
  rw[xw5 e];have e1:its.toArray.any (wg9 x l its)=its.any (wg9 x l its):=by simp
  rw[e1,List.any_eq_true];constructor
  ·rintro ⟨y,_,hy⟩
   obtain⟨j,d,_,h2,h3⟩:=yh7.mp hy;exact⟨j,d,h2,h3⟩
  ·rintro ⟨j,d,h2,h3⟩
   have hj:j<its.length:=by rw[<-rv.length,<-i.length];exact(Ac0.mp h2).1
   refine⟨its[j],List.getElem_mem hj,?_⟩;exact yh7.mpr ⟨j,d,Ab0 hj,h2,h3⟩
theorem xt9 {k:Nat} (hr:zm7 k X.A):OpR X (compareOp .In) (vi1 X.K false):=by
 intro A3 s σ H x y v u Q I rx ry h;obtain⟨A,d,l,b,h1,h2,hd,e,q⟩:=h;have hu:X.A.in1.units+30<cLine:=by rw[Around.in1_units];have:=hr.units;omega
 rcases h2 with h2 | h2
 ·obtain⟨a,vs,ea,_,s1,i1⟩:=Is.lst_iff.mp h2
  subst ea;cases ry;obtain⟨its,rv,p,_⟩:=I.list (.of s1);obtain⟨g1,g2⟩:=yh1 I hd hu e i1 rv h1 rx;exact in_listAt _ p.isList g1 ⟨.bl b,H,I,by rw[g2];rfl,q⟩
 ·obtain⟨a,vs,ea,s1,i1⟩:=Is.tup_sq h2
  subst ea;cases ry;obtain⟨its,rv,p,_⟩:=I.tuple s1;obtain⟨g1,g2⟩:=yh1 I hd hu e i1 rv h1 rx;exact in_tupleAt _ p g1 ⟨.bl b,H,I,by rw[g2];rfl,q⟩
theorem zv9 {k:Nat} (hr:zm7 k X.A):OpR X (compareOp .NotIn) (vi1 X.K true):=by
 intro A3 s σ H x y v u Q I rx ry h;obtain⟨A,d,l,b,h1,h2,hd,e,q⟩:=h;have hu:X.A.in1.units+30<cLine:=by rw[Around.in1_units];have:=hr.units;omega
 rcases h2 with h2 | h2
 ·obtain⟨a,vs,ea,_,s1,i1⟩:=Is.lst_iff.mp h2
  subst ea;cases ry;obtain⟨its,rv,p,_⟩:=I.list (.of s1);obtain⟨g1,g2⟩:=yh1 I hd hu e i1 rv h1 rx;exact notIn_listAt _ p.isList g1 ⟨.bl (!b),H,I,by rw[g2];rfl,q⟩
 ·obtain⟨a,vs,ea,s1,i1⟩:=Is.tup_sq h2
  subst ea;cases ry;obtain⟨its,rv,p,_⟩:=I.tuple s1;obtain⟨g1,g2⟩:=yh1 I hd hu e i1 rv h1 rx;exact notIn_tupleAt _ p g1 ⟨.bl (!b),H,I,by rw[g2];rfl,q⟩
variable {S:Type} {W:Wd S} {c:Dx W}
noncomputable def oEq (neg:Bool) (a b:D):Option D:=if a.dep<=30 then (D.eqq a b).map fun x=>.bl (if neg then !x else x) else none
noncomputable def oIn (neg:Bool) (a b:D):Option D:=match b with
 | .lst l=>if D.depL l<=30 then (inD a l).map fun x=>.bl (if neg then !x else x) else none
 | .tup l=>if D.depL l<=30 then (inD a l).map fun x=>.bl (if neg then !x else x) else none
 | _=>none
set_option tactic.hygienic true in
theorem zf2 {K:PySem.W.Frag} {neg:Bool} (hK:c.K=K):OpD c (vi2 K neg) (oEq neg):=by
 subst hK;intro d1 d2 v1 v2 H st d Q ok z1 z2 e q;unfold oEq at e;split at e
 ·rename_i hd
  cases h:D.eqq d1 d2 with
  | none=>rw[h] at e;cases e
  | some b=>
    rw[h] at e;cases e;exact⟨_,d1,d2,b,z1,z2,hd,h,q _ H Ext.refl ok zs6⟩
 ·cases e
set_option tactic.hygienic true in
theorem yg0 {K:PySem.W.Frag} {neg:Bool} (hK:c.K=K):OpD c (vi1 K neg) (oIn neg):=by
 subst hK;intro d1 d2 v1 v2 H st d Q ok z1 z2 e q;unfold oIn at e;split at e
 ·rename_i l
  split at e
  ·rename_i hd
   cases h:inD d1 l with
   | none=>rw[h] at e;cases e
   | some b=>
     rw[h] at e;cases e;exact⟨_,d1,l,b,z1,.inl z2,hd,h,q _ H Ext.refl ok zs6⟩
  ·cases e
 ·rename_i l
  split at e
  ·rename_i hd
   cases h:inD d1 l with
   | none=>rw[h] at e;cases e
   | some b=>
     rw[h] at e;cases e;exact⟨_,d1,l,b,z1,.inr z2,hd,h,q _ H Ext.refl ok zs6⟩
  ·cases e
 ·cases e
end
section
variable {X:Cx} {S:Type} {W:Wd S} {c:Dx W} {g:Gr} {a b e:Expr} {zy3:List Expr} {pos:Pos} {fa fb fc:Fn S} {ga gb gc:Gr}
noncomputable def wr9 (S:Type) (f1 f2:Fn S):Fn S:=fun ρ st=>(f1 ρ st).bind fun d st1=>match d with
 | .bl true=>f2 ρ st1
 | .bl false=>.ok (.bl false) st1
 | _=>.bad
noncomputable def vn0 (S:Type) (f1 f2:Fn S):Fn S:=fun ρ st=>(f1 ρ st).bind fun d st1=>match d with
 | .bl true=>.ok (.bl true) st1
 | .bl false=>f2 ρ st1
 | _=>.bad
noncomputable def vb7 (S:Type) (f1:Fn S):Fn S:=fun ρ st=>(f1 ρ st).bind fun d st1=>match d with
 | .bl b=>.ok (.bl (!b)) st1
 | _=>.bad
theorem yp7 {op} {f:Fn S} (h:DE X c g a f):DE X c g (.BoolOp op [a] pos) f:=wy4 h
theorem yp9 (ha:DE X c ga a fa) (hb:DE X c g (.BoolOp .And (b::zy3) pos) fb):DE X c g (.BoolOp .And (a::b::zy3) pos) (wr9 S fa fb):=
 (wy8 ha hb).imp fun σ H Q hI31=>by
  obtain⟨ρ,st,R,ok,w⟩:=hI31;refine zi3 (Go.bind (g':=ga) (k:=fun d ρ st1=>match d with | .bl true=>fb ρ st1 | .bl false=>.ok (.bl false) st1 | _=>.bad) R ok w) fun v H1 hI94=>?_
  obtain⟨d,st1,R1,ok1,e1,z,w1⟩:=hI94;cases d with
  | bl k=>
    have zv:v=.bl k:=Is.bl_iff.mp (show Is c.K (fun b=>¬W.mv b) H1 (.bl k) v from z.toR);refine⟨k,zv,?_⟩;cases k with
    | true=>exact wt5 ⟨ρ,st1,R1,ok1,w1⟩
    | false=>exact va9 (w1 (.bl false) H1 Ext.refl ok1 (New.val R1 zs6 g))
  | _=>exact(show False from w1).elim
theorem vk4 (ha:DE X c ga a fa) (hb:DE X c g (.BoolOp .Or (b::zy3) pos) fb):DE X c g (.BoolOp .Or (a::b::zy3) pos) (vn0 S fa fb):=
 (vi3 ha hb).imp fun σ H Q hI32=>by
  obtain⟨ρ,st,R,ok,w⟩:=hI32;refine zi3 (Go.bind (g':=ga) (k:=fun d ρ st1=>match d with | .bl true=>.ok (.bl true) st1 | .bl false=>fb ρ st1 | _=>.bad) R ok w) fun v H1 hI95=>?_
  obtain⟨d,st1,R1,ok1,e1,z,w1⟩:=hI95;cases d with
  | bl k=>
    have zv:v=.bl k:=Is.bl_iff.mp (show Is c.K (fun b=>¬W.mv b) H1 (.bl k) v from z.toR);refine⟨k,zv,?_⟩;cases k with
    | false=>exact va9 ⟨ρ,st1,R1,ok1,w1⟩
    | true=>exact wt5 (w1 (.bl true) H1 Ext.refl ok1 (New.val R1 zs6 g))
  | _=>exact(show False from w1).elim
theorem vc9 (ha:DE X c ga a fa):DE X c g (.UnaryOp .Not a pos) (vb7 S fa):=
 (wy5 ha).imp fun σ H Q hI33=>by
  obtain⟨ρ,st,R,ok,w⟩:=hI33;refine zi3 (Go.bind (g':=ga) (k:=fun d ρ st1=>match d with | .bl b=>.ok (.bl (!b)) st1 | _=>.bad) R ok w) fun v H1 hI96=>?_
  obtain⟨d,st1,R1,ok1,e1,z,w1⟩:=hI96;cases d with
  | bl k=>
    have zv:v=.bl k:=Is.bl_iff.mp (show Is c.K (fun b=>¬W.mv b) H1 (.bl k) v from z.toR);exact⟨k,zv,w1 (.bl (!k)) H1 Ext.refl ok1 (New.val R1 zs6 g)⟩
  | _=>exact(show False from w1).elim
noncomputable def yz0 (S:Type) (o o':D->D->Option D) (f1 f2 f3:Fn S):Fn S:=fun ρ st=>(f1 ρ st).bind fun d1 st1=>(f2 ρ st1).bind fun d2 st2=>match o d1 d2 with
 | some (.bl true)=>(f3 ρ st2).bind fun d3 st3=>zj2 (o' d2 d3) st3
 | some (.bl false)=>.ok (.bl false) st2
 | _=>.bad
theorem wa9 {r r':R2} {o o':D->D->Option D} {σ:St} {H:Hp} {Q:VK} (hr:OpD c r o) (hr':OpD c r' o') (h:tD c g (yz0 S o o' fa fb fc) σ H Q):wh9 r r' (tD c ga fa) (tD c gb fb) (tD c gc fc) σ H Q:=by
 obtain⟨ρ,st,R,ok,w⟩:=h;refine zi3 (Go.bind (g':=ga) (k:=fun d1 ρ st1=>(fb ρ st1).bind fun d2 st2=>match o d1 d2 with | some (.bl true)=>(fc ρ st2).bind fun d3 st3=>zj2 (o' d2 d3) st3 | some (.bl false)=>.ok (.bl false) st2 | _=>.bad) R ok w) fun v1 H1 hI97=>?_
 obtain⟨d1,st1,R1,ok1,e1,z1,w1⟩:=hI97;refine zi3 (Go.bind (g':=gb) (k:=fun d2 ρ st2=>match o d1 d2 with | some (.bl true)=>(fc ρ st2).bind fun d3 st3=>zj2 (o' d2 d3) st3 | some (.bl false)=>.ok (.bl false) st2 | _=>.bad) R1 ok1 w1) fun v2 H2 hI98=>?_
 obtain⟨d2,st2,R2,ok2,e2,z2,w2⟩:=hI98;cases q:o d1 d2 with
 | none=>simp only[q] at w2;exact(show False from w2).elim
 | some d=>
   simp only[q] at w2;cases d with
   | bl k=>
     refine hr d1 d2 v1 v2 H2 st2 (.bl k) _ ok2 (z1.toR.ext e2 ok1) z2.toR q fun v H' e' ok' n=>?_
     refine⟨k,Is.bl_iff.mp n,?_⟩;have R':=R2.ext ok2 e';cases k with
     | false=>exact va9 (w2 (.bl false) H' e' ok' (New.val R2 zs6 g))
     | true=>
       refine wt5 ?_;have w3:Go c g σ (fun ρ st=>(fc ρ st).bind fun d3 st3=>zj2 (o' d2 d3) st3) H2 Q ρ st2:=w2;refine zi3 (Go.bind (g':=gc) (k:=fun d3 _ st3=>zj2 (o' d2 d3) st3) R' ok' (w3.from e' ok')) fun v3 H3 hI99=>?_
       obtain⟨d3,st3,R3,ok3,e3,z3,w4⟩:=hI99;obtain⟨d,e5,q5⟩:=Go.done w4 ok3;exact hr' d2 d3 v2 v3 H3 st3 d Q ok3 ((z2.toR.ext e' ok2).ext e3 ok') z3.toR e5 fun v H' a b n=>q5 v H' a b (n.val R3 g)
   | _=>exact(show False from w2).elim
theorem yh5 {op op':CmpOp} {r r':R2} {o o':D->D->Option D} {d:Expr} (ho:OpR X (compareOp op) r) (ho':OpR X (compareOp op') r') (hr:OpD c r o) (hr':OpD c r' o') (ha:DE X c ga a fa) (hb:DE X c gb b fb) (hd:DE X c gc d fc)
 (hm:lastMarks [op,op'] [b,d]=false:=by with_unfolding_all rfl):DE X c g (.Compare a [op,op'] [b,d] pos) (yz0 S o o' fa fb fc):=
 (wc6 ho ho' ha hb hd hm).imp fun σ H Q h=>wa9 hr hr' h
noncomputable def D.isNon:D->Bool
 | .non=>true
 | _=>false
noncomputable def yj2 (neg:Bool) (a b:D):Option D:=match b with
 | .non=>some (.bl (if neg then !a.isNon else a.isNon))
 | _=>none
theorem wj0 {K:PySem.W.Frag} {A:Addr->Prop} {H:Hp} {d:D} {v:V} (h:Is K A H d v):(decide (v=V.non))=d.isNon:=by
 cases d with
 | non=>rw[Is.non_iff.mp h];rfl
 | bl b=>rw[Is.bl_iff.mp h];rfl
 | int i=>rw[Is.int_iff.mp h];rfl
 | str x=>rw[Is.str_iff.mp h];rfl
 | tup l=>obtain⟨a,vs,e,_⟩:=Is.tup_sq h;rw[e];rfl
 | lst l=>obtain⟨a,vs,e,_⟩:=Is.lst_iff.mp h;rw[e];rfl
 | dct k l=>obtain⟨a,vs,e,_⟩:=Is.dct_iff.mp h;rw[e];rfl
 | fl l=>obtain⟨a,o,vs,e,_⟩:=Is.fl_iff.mp h;rw[e];rfl
theorem yx1:OpD c (fun x y H Q=>y=.non/\Q (.bl (decide (x=.non))) H) (yj2 false):=by
 intro d1 d2 v1 v2 H st d Q ok z1 z2 e q;cases d2 with
 | non=>
   cases e;refine⟨Is.non_iff.mp z2,?_⟩;rw[wj0 z1];exact q _ H Ext.refl ok zs6
 | _=>cases e
theorem wp6:OpD c (fun x y H Q=>y=.non/\Q (.bl (!decide (x=.non))) H) (yj2 true):=by
 intro d1 d2 v1 v2 H st d Q ok z1 z2 e q;cases d2 with
 | non=>
   cases e;refine⟨Is.non_iff.mp z2,?_⟩;rw[wj0 z1];exact q _ H Ext.refl ok zs6
 | _=>cases e
noncomputable def vn2 (S:Type) (t:FnT S) (f1 f2:Fn S):Fn S:=fun ρ st=>(t ρ st).bind fun k st1=>if k=true then f1 ρ st1 else f2 ρ st1
noncomputable def vn1 (S:Type) (f:Fn S):Fn S:=fun ρ st=>(f ρ st).bind fun d st1=>match d with
 | .int i=>.ok (.int (-i)) st1
 | _=>.bad
theorem xj9 (ha:DE X c ga a fa):DE X c g (.UnaryOp .USub a pos) (vn1 S fa):=
 (wy2 wh6 ha).imp fun σ H Q hI34=>by
  obtain⟨ρ,st,R,ok,w⟩:=hI34;refine zi3 (Go.bind (g':=ga) (k:=fun d _ st1=>match d with | .int i=>.ok (.int (-i)) st1 | _=>.bad) R ok w) fun v H1 hI100=>?_
  obtain⟨d,st1,R1,ok1,e1,z,w1⟩:=hI100;cases d with
  | int i=>exact⟨i,Is.int_iff.mp (show Is c.K (fun b=>¬W.mv b) H1 (.int i) v from z.toR),w1 (.int (-i)) H1 Ext.refl ok1 (New.val R1 zw2 g)⟩
  | _=>exact(show False from w1).elim
end
noncomputable def D.ty:D->String
 | .non=>"NoneType"
 | .bl _=>"bool"
 | .int _=>"int"
 | .str _=>"str"
 | .tup _=>"tuple"
 | .lst _=>"list"
 | .dct _ _=>"dict"
 | .fl _=>"list"
inductive Bt where
 | int | bool | str | list | tuple | dict
noncomputable def Bt.nm:Bt->String
 | .int=>"int"
 | .bool=>"bool"
 | .str=>"str"
 | .list=>"list"
 | .tuple=>"tuple"
 | .dict=>"dict"
noncomputable def isI (T:Bt) (d:D):Bool:=match T,d with
 | .int,.int _=>true
 | .int,.bl _=>true
 | .bool,.bl _=>true
 | .str,.str _=>true
 | .list,.lst _=>true
 | .list,.fl _=>true
 | .tuple,.tup _=>true
 | .dict,.dct _ _=>true
 | _,_=>false
theorem wr2 (K:PySem.W.Frag) (T:Bt) (d:D):PySem.W.kitOne K (.type d.ty) (.type T.nm)=some (isI T d):=by
 cases T<;>cases d<;>first | rfl | decide
section
variable {X:Cx} {A3:List (Addr×Obj)} {σ:St} {H:Hp} {s:Shared}
theorem wr4 {A0:Around} {E:Value->Shared->Prop} {Q:Value->Shared->Prop} {A:Addr->Prop} {d:D} {v:V} {u:Value} (T:Bt) (I:Inv X A3 σ H s) (h:Is X.K A H d v) (r:zf3 v u) (hq:∀tk,Q (.bool (isI T d)) { s with toks:=tk }) :
 wpAny (model X.prog X.w) A0 (call (.builtin "isinstance") [u,.type T.nm]) Q E s:=by
 have e:=wr2 X.K T d;cases d with
 | non=>rw[Is.non_iff.mp h] at r;exact zn3 I r .non e hq
 | bl b=>rw[Is.bl_iff.mp h] at r;exact zn3 I r (.bl b) e hq
 | int i=>rw[Is.int_iff.mp h] at r;exact zn3 I r (.int i) e hq
 | str x=>rw[Is.str_iff.mp h] at r;exact zn3 I r (.str x) e hq
 | lst l=>obtain⟨a,vs,ea,_,e1,_⟩:=Is.lst_iff.mp h;rw[ea] at r;exact zn3 I r (.lst e1) e hq
 | fl l=>obtain⟨a,o,vs,ea,e1,_⟩:=Is.fl_iff.mp h;rw[ea] at r;exact zn3 I r (.frz e1) e hq
 | dct k l=>
   obtain⟨a,vs,ea,_,_,q⟩:=Is.dct_iff.mp h;rw[ea] at r;rcases q with⟨_,_,_,e1⟩ | ⟨_,_,_,e1⟩
   ·exact zn3 I r (.dK e1) e hq
   ·exact zn3 I r (.dT e1) e hq
 | tup l=>
   obtain⟨a,vs,ea,s1,_⟩:=Is.tup_sq h;rw[ea] at r;cases r;obtain⟨its,_,⟨o,h1,h2,_⟩,_⟩:=I.tuple s1;exact PySem.W.kia_one PySem.W.kitx_tuple I.kIn ⟨o,h1,h2⟩ e (fun z=>nomatch z) hq
variable {S:Type} {W:Wd S} {c:Dx W} {g ga:Gr}
noncomputable def fIs (S:Type) (T:Bt) (f:Fn S):Fn S:=fun ρ st=>(f ρ st).bind fun d st1=>.ok (.bl (isI T d)) st1
theorem zf9 {e:Expr} {x:Str} {p p2 pos:Pos} {f:Fn S} (T:Bt) (hK:c.K=X.K) (hg:Gl X "isinstance") (hm:X.mg "isinstance" = none) (hg2:Gl X x) (hm2:X.mg x=none) (hv:bootBuiltins x=some (.type T.nm)) (he:DE X c ga e f)
 (hs:starEach (e::[.Name x p2]) X.env=(false,eval e X.env)::starEach [.Name x p2] X.env:=by rfl) (hs2:starEach [.Name x p2] X.env=(false,eval (.Name x p2) X.env)::starEach [] X.env:=by rfl) (hpl:(backTo pos (starEach [.Name x p2] X.env)).any (·.1)=false:=by rfl) (hn:x≠"__name__":=by decide) (hd:(x == ("__debug__" : Str))=false:=by decide) :
 DE X c g (.Call (.Name "isinstance" p) [e,.Name x p2] [] pos) (fIs S T f):=by
 have hp:PE X (.Call (.Name "isinstance" p) [e,.Name x p2] [] pos) (tCB (fun vs H Q=>∃A d v,vs=[v,.ty T.nm]/\Is X.K A H d v/\Q (.bl (isI T d)) H) (wb2 (tD c ga f) (wb2 (tC (.ty T.nm)) vl6))):=by
  refine yh0 (id:="isinstance") ?_ hg hm boot_isinstance (zn7 he (zn7 (wo9 hg2 hm2 hv rfl hn hd) zz0 hs2) hs) (by decide) (by decide) hs hpl;intro A3 s σ H xs us Q I r h;obtain⟨A,d,v,rfl,hi,q⟩:=h;obtain⟨u,w',rfl,r1,r2⟩:=wl7 r;cases r2;exact wr4 T I hi r1 fun tk=>⟨.bl _,H,I.tok tk,rfl,q⟩
 refine hp.imp fun σ H Q hI101=>?_
 obtain⟨ρ,st,R,ok,w⟩:=hI101;refine zi3 (Go.bind (g':=ga) (k:=fun d _ st1=>.ok (.bl (isI T d)) st1) R ok w) fun v H1 hI102=>?_
 obtain⟨d,st1,R1,ok1,e1,z,w1⟩:=hI102;exact⟨_,d,v,rfl,hK▸(show Is c.K (fun b=>¬W.mv b) H1 d v from z.toR),w1 _ H1 Ext.refl ok1 (New.val R1 zs6 g)⟩
end
section
variable {X:Cx} {S:Type} {W:Wd S} {c:Dx W}
noncomputable def ym7:List D->Option D
 | [.lst l]=>some (.int l.length)
 | [.tup l]=>some (.int l.length)
 | _=>none
set_option tactic.hygienic true in
theorem zr0 {K:PySem.W.Frag} (hK:c.K=K):yb0 c (fun xs H Q=>∃p ys,xs=[.ref p]/\(SqL K H p ys\/SqT K H p ys)/\Q (.int ys.length) H) ym7:=by
 subst hK;intro l vs H st d Q ok z e q;unfold ym7 at e;split at e
 ·rename_i m
  cases e;obtain⟨v,r,e1,i1,i2⟩:=IsL.cons.mp z;obtain⟨a,us,ea,_,s1,i3⟩:=Is.lst_iff.mp i1;rw[IsL.nil.mp i2,ea] at e1;exact⟨a,us,e1,.inl (.of s1),by rw[<-i3.length];exact q _ H Ext.refl ok zw2⟩
 ·rename_i m
  cases e;obtain⟨v,r,e1,i1,i2⟩:=IsL.cons.mp z;obtain⟨a,us,ea,s1,i3⟩:=Is.tup_sq i1;rw[IsL.nil.mp i2,ea] at e1;exact⟨a,us,e1,.inr s1,by rw[<-i3.length];exact q _ H Ext.refl ok zw2⟩
 ·cases e
noncomputable def yc7:List D->Option D
 | [.lst l]=>if D.immL l=true then some (.tup l) else none
 | [.tup l]=>if D.immL l=true then some (.tup l) else none
 | _=>none
set_option tactic.hygienic true in
theorem zo3 {K:PySem.W.Frag} (hK:c.K=K):yb0 c (fun xs H Q=>∃p ys,xs=[.ref p]/\((SqL K H p ys/\∀l,H l=none->Q (.ref l) (upd H l (.tup ys)))\/(SqT K H p ys/\Q (.ref p) H))) yc7:=by
 subst hK;intro l vs H st d Q ok z e q;unfold yc7 at e;split at e
 ·rename_i m
  split at e
  ·rename_i im
   cases e;obtain⟨v,r,e1,i1,i2⟩:=IsL.cons.mp z;obtain⟨a,us,ea,_,s1,i3⟩:=Is.lst_iff.mp i1;rw[IsL.nil.mp i2,ea] at e1;exact⟨a,us,e1,.inl ⟨.of s1,fun p hp=>q _ _ (Ext.laid hp) (zj4 ok hp) (New.tup ok hp (fun _ n=>n) im i3)⟩⟩
  ·cases e
 ·rename_i m
  split at e
  ·rename_i im
   cases e;obtain⟨v,r,e1,i1,i2⟩:=IsL.cons.mp z;obtain⟨a,us,ea,s1,i3⟩:=Is.tup_iff.mp i1;rw[IsL.nil.mp i2,ea] at e1;exact⟨a,us,e1,.inr ⟨.of s1,q _ H Ext.refl ok (Is.tup s1 (IsL.ofImm im i3))⟩⟩
  ·cases e
 ·cases e
noncomputable def xu5:List D->Option D
 | [.lst l]=>if D.immL l=true then some (.lst l) else none
 | [.tup l]=>if D.immL l=true then some (.lst l) else none
 | _=>none
set_option tactic.hygienic true in
theorem xe5 {K:PySem.W.Frag} (hK:c.K=K):yb0 c (fun xs H Q=>∃p ys,xs=[.ref p]/\(SqL K H p ys\/SqT K H p ys)/\∀l,H l=none->Q (.ref l) (upd H l (.lst ys))) xu5:=by
 subst hK;intro l vs H st d Q ok z e q;unfold xu5 at e;split at e
 ·rename_i m
  split at e
  ·rename_i im
   cases e;obtain⟨v,r,e1,i1,i2⟩:=IsL.cons.mp z;obtain⟨a,us,ea,_,s1,i3⟩:=Is.lst_iff.mp i1;rw[IsL.nil.mp i2,ea] at e1;exact⟨a,us,e1,.inl (.of s1),fun p hp=>q _ _ (Ext.laid hp) (zj4 ok hp) (New.lst ok hp (fun _ n=>n) im i3)⟩
  ·cases e
 ·rename_i m
  split at e
  ·rename_i im
   cases e;obtain⟨v,r,e1,i1,i2⟩:=IsL.cons.mp z;obtain⟨a,us,ea,s1,i3⟩:=Is.tup_sq i1;rw[IsL.nil.mp i2,ea] at e1;exact⟨a,us,e1,.inr s1,fun p hp=>q _ _ (Ext.laid hp) (zj4 ok hp) (New.lst ok hp (fun _ n=>n) im i3)⟩
  ·cases e
 ·cases e
noncomputable def ve9:List D->Option D
 | [.int i]=>some (.int i)
 | [.bl k]=>some (.int (if k then 1 else 0))
 | _=>none
set_option tactic.hygienic true in
theorem wj9:yb0 c (fun xs H Q=>(∃i,xs=[.int i]/\Q (.int i) H)\/∃k,xs=[.bl k]/\Q (.int (if k then 1 else 0)) H) ve9:=by
 intro l vs H st d Q ok z e q;unfold ve9 at e;split at e
 ·rename_i i
  cases e;obtain⟨v,r,e1,i1,i2⟩:=IsL.cons.mp z;rw[IsL.nil.mp i2,Is.int_iff.mp i1] at e1;exact .inl ⟨i,e1,q _ H Ext.refl ok zw2⟩
 ·rename_i i
  cases e;obtain⟨v,r,e1,i1,i2⟩:=IsL.cons.mp z;rw[IsL.nil.mp i2,Is.bl_iff.mp i1] at e1;exact .inr ⟨i,e1,q _ H Ext.refl ok zw2⟩
 ·cases e
noncomputable def xh2 (f:Int->Int->Int):List D->Option D
 | [.int i,.int j]=>some (.int (f i j))
 | _=>none
set_option tactic.hygienic true in
theorem zr1 (f:Int->Int->Int):yb0 c (fun xs H Q=>∃i j,xs=[.int i,.int j]/\Q (.int (f i j)) H) (xh2 f):=by
 intro l vs H st d Q ok z e q;unfold xh2 at e;split at e
 ·rename_i i j
  cases e;obtain⟨v,r,e1,i1,i2⟩:=IsL.cons.mp z;obtain⟨v',r',e1',i1',i2'⟩:=IsL.cons.mp i2;rw[e1',IsL.nil.mp i2',Is.int_iff.mp i1,Is.int_iff.mp i1'] at e1;exact⟨i,j,e1,q _ H Ext.refl ok zw2⟩
 ·cases e
noncomputable def zj7:List D->Option (List Bool)
 | []=>some []
 | .bl b::l=>(zj7 l).map fun r=>b::r
 | _=>none
theorem yq3 {K:PySem.W.Frag} {A:Addr->Prop} {H:Hp}:∀{l:List D} {vs:List V} {bs:List Bool},zj7 l=some bs->IsL K A H l vs->vs=bs.map V.bl
 | [],vs,bs,e,h=>by cases e;exact IsL.nil.mp h
 | .bl b::l,vs,bs,e,h=>by
   unfold zj7 at e;cases q:zj7 l with
   | none=>rw[q] at e;cases e
   | some r=>
     rw[q] at e;cases e;obtain⟨v,us,e1,i1,i2⟩:=IsL.cons.mp h;rw[e1,Is.bl_iff.mp i1,yq3 q i2];rfl
 | .non::_,_,_,e,_=>by simp[zj7] at e
 | .int _::_,_,_,e,_=>by simp[zj7] at e
 | .str _::_,_,_,e,_=>by simp[zj7] at e
 | .tup _::_,_,_,e,_=>by simp[zj7] at e
 | .lst _::_,_,_,e,_=>by simp[zj7] at e
 | .dct _ _::_,_,_,e,_=>by simp[zj7] at e
noncomputable def yd0 (f:List Bool->Bool):List D->Option D
 | [.lst l]=>(zj7 l).map fun bs=>.bl (f bs)
 | _=>none
set_option tactic.hygienic true in
theorem zx9 {K:PySem.W.Frag} (f:List Bool->Bool):yb0 c (fun xs H Q=>∃(a:Addr) (bs:List Bool),xs=[.ref a]/\SqL K H a (bs.map V.bl)/\Q (.bl (f bs)) H) (yd0 f):=by
 intro l vs H st d Q ok z e q;unfold yd0 at e;split at e
 ·rename_i m
  cases qb:zj7 m with
  | none=>rw[qb] at e;cases e
  | some bs=>
    rw[qb] at e;cases e;obtain⟨v,r,e1,i1,i2⟩:=IsL.cons.mp z;obtain⟨a,us,ea,_,s1,i3⟩:=Is.lst_iff.mp i1;rw[IsL.nil.mp i2,ea] at e1;rw[yq3 qb i3] at s1;exact⟨a,bs,e1,.of s1,q _ H Ext.refl ok zs6⟩
 ·cases e
noncomputable def wd3:D->D->Option D
 | .lst l,.lst m=>if D.immL l=true/\D.immL m=true/\l.length+m.length<=sizeLine then some (.lst (l++m)) else none
 | _,_=>none
set_option tactic.hygienic true in
theorem wz5:OpD c ve4 wd3:=by
 intro d1 d2 v1 v2 H st d Q ok z1 z2 e q;unfold wd3 at e;split at e
 ·rename_i l m
  split at e
  ·rename_i h
   cases e;obtain⟨a,vs,ea,_,s1,i1⟩:=Is.lst_iff.mp z1;obtain⟨b,us,eb,_,s2,i2⟩:=Is.lst_iff.mp z2;exact⟨a,b,vs,us,ea,eb,s1,s2,by rw[<-i1.length,<-i2.length];exact h.2.2,fun p hp=>q _ _ (Ext.laid hp) (zj4 ok hp) (New.lst ok hp (fun _ n=>n) (zh6 h.1 h.2.1) (i1.append i2))⟩
  ·cases e
 ·cases e
noncomputable def wq3:D->D->Option D
 | .tup l,.tup m=>if D.immL l=true/\D.immL m=true/\l.length+m.length<=sizeLine/\l.isEmpty=false then some (.tup (l++m)) else none
 | _,_=>none
set_option tactic.hygienic true in
theorem wp7 {K:PySem.W.Frag} (hK:c.K=K):OpD c (wb9 K) wq3:=by
 subst hK;intro d1 d2 v1 v2 H st d Q ok z1 z2 e q;unfold wq3 at e;split at e
 ·rename_i l m
  split at e
  ·rename_i h
   cases e;obtain⟨a,vs,ea,s1,i1⟩:=Is.tup_iff.mp z1;obtain⟨b,us,eb,s2,i2⟩:=Is.tup_sq z2;have hl:vs≠[]:=fun z=>by
    have:=i1.length;rw[z] at this;have h4:=h.2.2.2;cases l with
    | nil=>cases h4
    | cons _ _=>cases this
   refine⟨a,b,vs,us,ea,eb,.of s1,s2,hl,by rw[<-i1.length,<-i2.length];exact h.2.2.1,fun hz=>?_,fun _ p hp=>q _ _ (Ext.laid hp) (zj4 ok hp) (New.tup ok hp (fun _ n=>n) (zh6 h.1 h.2.1) (i1.append i2))⟩;have hm:m=[]:=by
    have:=i2.length;rw[hz] at this;exact List.length_eq_zero_iff.mp this
   rw[hm,Bc0] at q;exact q _ H Ext.refl ok (Is.tup s1 (IsL.ofImm h.1 i1))
  ·cases e
 ·cases e
end
noncomputable def yy2:D->Option Key
 | .int i=>some (.inl i)
 | .str x=>some (.inr x)
 | _=>none
noncomputable def yy1:List D->Option (List Key)
 | []=>some []
 | d::l=>(yy2 d).bind fun k=>(yy1 l).map fun r=>k::r
noncomputable def ze3:D->Option (List Key)
 | .tup l=>yy1 l
 | _=>none
theorem xd5 (k:Key):yy2 (xp7 k)=some k:=by cases k<;>rfl
theorem yy0:∀k:List Key,yy1 (k.map xp7)=some k
 | []=>rfl
 | a::k=>by
   show (yy2 (xp7 a)).bind (fun x=>(yy1 (k.map xp7)).map fun r=>x::r)=some (a::k);rw[xd5,yy0 k];rfl
theorem zk3 (k:List Key):ze3 (zg2 k)=some k:=yy0 k
section
variable {K:PySem.W.Frag} {A:Addr->Prop} {H:Hp}
theorem xv6 {d:D} {k:Key} {v:V} (e:yy2 d=some k) (h:Is K A H d v):v=kV k/\d=xp7 k:=by
 cases d with
 | int i=>cases e;exact⟨Is.int_iff.mp h,rfl⟩
 | str x=>cases e;exact⟨Is.str_iff.mp h,rfl⟩
 | _=>cases e
theorem xi3:∀{l:List D} {k:List Key} {vs:List V},yy1 l=some k->IsL K A H l vs->vs=k.map kV/\l=k.map xp7
 | [],k,vs,e,h=>by cases e;exact⟨IsL.nil.mp h,rfl⟩
 | d::l,k,vs,e,h=>by
   unfold yy1 at e;cases q1:yy2 d with
   | none=>rw[q1] at e;cases e
   | some a=>
     cases q2:yy1 l with
     | none=>rw[q1,q2] at e;cases e
     | some r=>
       rw[q1,q2] at e;have e:some (a::r)=some k:=e;cases e;obtain⟨v,us,e1,i1,i2⟩:=IsL.cons.mp h;obtain⟨e2,e3⟩:=xv6 q1 i1;obtain⟨e4,e5⟩:=xi3 q2 i2;subst e1 e2 e4;exact⟨rfl,by rw[e3,e5];rfl⟩
theorem yk2 {d:D} {k:List Key} {v:V} (e:ze3 d=some k) (h:Is K A H d v):∃b,v=.ref b/\H b=some (.tup (k.map kV))/\d=zg2 k:=by
 cases d with
 | tup l=>
   obtain⟨b,vs,e1,s,i⟩:=Is.tup_iff.mp h;obtain⟨e2,e3⟩:=xi3 (show yy1 l=some k from e) i;exact⟨b,e1,by rw[<-e2];exact s,by rw[e3];rfl⟩
 | _=>cases e
noncomputable def ze4 (k:List Key):List D->List D->Option D
 | d::ks,v::vs=>if ze3 d=some k then some v else ze4 k ks vs
 | _,_=>none
theorem yl6 (k:List Key):∀{kk:List (List Key)} {vs:List D} {us:List V},kk.length=us.length->IsL K A H vs us->
 (ze4 k (kk.map zg2) vs=none/\ym4 (kk.zip us) k=none)\/∃d v,ze4 k (kk.map zg2) vs=some d/\ym4 (kk.zip us) k=some v/\Is K A H d v
 | [],vs,us,hl,h=>.inl ⟨by unfold ze4;cases vs<;>rfl,rfl⟩
 | x::kk,vs,us,hl,h=>by
   cases vs with
   | nil=>rw[IsL.nil.mp h] at hl;cases hl
   | cons d vs=>
     obtain⟨v,r,e1,i1,i2⟩:=IsL.cons.mp h;subst e1;have hl':kk.length=r.length:=by simpa using hl
     by_cases e:x=k
     ·refine .inr ⟨d,v,?_,zq3 (p:=(x,v)) e,i1⟩
      show (if ze3 (zg2 x)=some k then some d else _)=some d;rw[zk3,if_pos (by rw[e])]
     ·have e':¬ze3 (zg2 x)=some k:=by rw[zk3];exact fun z=>e (Option.some.inj z)
      have a1:ze4 k ((x::kk).map zg2) (d::vs)=ze4 k (kk.map zg2) vs:=by
       show (if ze3 (zg2 x)=some k then some d else _)=_;rw[if_neg e']
      have a2:ym4 ((x::kk).zip (v::r)) k=ym4 (kk.zip r) k:=zq4 (p:=(x,v)) e;rw[a1,a2];exact yl6 k hl' i2
end
section
variable {X:Cx} {S:Type} {W:Wd S} {c:Dx W} {g ga gb:Gr} {a b:Expr} {pos:Pos} {fa fb:Fn S}
theorem wg1:DE X c g (.Dict [] [] pos) (fC S (.dct [.non] [])):=wc4.imp fun σ H Q ⟨ρ,st,R,ok,w⟩ p hp=>
 w _ _ (Ext.laid hp) (zj4 ok hp) (New.val R (Is.dct_iff.mpr ⟨p,[],rfl,⟨zr9 ok hp,hp⟩,IsL.nil.mpr rfl,.inr ⟨[],rfl,rfl,zb5⟩⟩) g)
noncomputable def wt3 (neg:Bool) (k d:D):Option D:=match d with
 | .dct (.non::ks) vs=>(ze3 k).map fun kk=>.bl (if neg then !(ze4 kk ks vs).isSome else (ze4 kk ks vs).isSome)
 | _=>none
theorem wj7 {A:Addr->Prop} {H:Hp} {K:PySem.W.Frag} {k:D} {ks vs:List D} {kk:List Key} {v1 v2:V} (hk:ze3 k=some kk) (h1:Is K A H k v1) (h2:Is K A H (.dct (.non::ks) vs) v2) :
 ∃a o,v2=.ref a/\yn2 H a v1 o/\((ze4 kk ks vs=none/\o=none)\/∃d v,ze4 kk ks vs=some d/\o=some v/\Is K A H d v):=by
 obtain⟨b,eb,hb,_⟩:=yk2 hk h1;obtain⟨a,us,ea,_,i,q⟩:=Is.dct_iff.mp h2;rcases q with⟨k1,e1,_,_⟩ | ⟨k2,e2,el,eH⟩
 ·cases k1 with
  | nil=>cases e1
  | cons z r=>
    have:D.non=xp7 z:=(List.cons.inj e1).1;cases z<;>cases this
 ·have e3:ks=k2.map zg2:=(List.cons.inj e2).2
  subst e3 eb;refine⟨a,_,ea,yn2.t eH hb,?_⟩;rcases yl6 kk el i with⟨z1,z2⟩ | ⟨d,v,z1,z2,z3⟩
  ·exact .inl ⟨z1,z2⟩
  ·exact .inr ⟨d,v,z1,z2,z3⟩
set_option tactic.hygienic true in
theorem ww0 {σ:St} {H:Hp} {Q:VK} {neg:Bool} (h:tD c g (f2 S (wt3 neg) fa fb) σ H Q):(fun σ H Q=>tD c ga fa σ H fun y H1=>tD c gb fb σ H1 fun x H2=>∃a o,x=.ref a/\yn2 H2 a y o/\Q (.bl (if neg then !o.isSome else o.isSome)) H2) σ H Q:=by
 have hr:OpD c (fun y x H2 Q=>∃a o,x=.ref a/\yn2 H2 a y o/\Q (.bl (if neg then !o.isSome else o.isSome)) H2) (wt3 neg):=by
  intro d1 d2 v1 v2 H st d Q ok z1 z2 e q;unfold wt3 at e;split at e
  ·rename_i ks vs
   cases hk:ze3 d1 with
   | none=>rw[hk] at e;cases e
   | some kk=>
     rw[hk] at e;cases e;obtain⟨a,o,ea,dg,ho⟩:=wj7 hk z1 z2;refine⟨a,o,ea,dg,?_⟩;have eo:o.isSome=(ze4 kk ks vs).isSome:=by
      rcases ho with⟨h1,h2⟩ | ⟨_,_,h1,h2,_⟩<;>rw[h1,h2]<;>rfl
     rw[eo];exact q _ H Ext.refl ok zs6
  ·cases e
 exact xr3 hr h
theorem vd4 (hu:X.A.units+1<cLine) (ha:DE X c ga a fa) (hb:DE X c gb b fb) (hm:behindInMarks .In b=false:=by rfl):DE X c g (.Compare a [.In] [b] pos) (f2 S (wt3 false) fa fb):=
 (wy7 (wy9 hu ha hb) hm).imp fun σ H Q q=>ww0 q
end
noncomputable def ya2 (k:List Key) (v:D) (ks vs:List D):List D×List D:=
 if (ze4 k ks vs).isSome=true then (ks,List.zipWith (fun d u=>if ze3 d=some k then v else u) ks vs) else (ks++[zg2 k],vs++[v])
section
variable {K:PySem.W.Frag} {A:Addr->Prop} {H:Hp}
theorem xs3 {k:List Key} {d:D} {v:V} (hd:Is K A H d v):∀{kk:List (List Key)} {vs:List D} {us:List V},kk.length=us.length->IsL K A H vs us->
 ∃us',IsL K A H (List.zipWith (fun x u=>if ze3 x=some k then d else u) (kk.map zg2) vs) us'/\kk.length=us'.length/\(kk.zip us).map (fun kv=>if kv.1=k then (kv.1,v) else kv)=kk.zip us'
 | [],vs,us,hl,h=>⟨[],by simpa using IsL.nil.mpr rfl,rfl,rfl⟩
 | x::kk,vs,us,hl,h=>by
   cases vs with
   | nil=>rw[IsL.nil.mp h] at hl;cases hl
   | cons e vs=>
     obtain⟨u,r,e1,i1,i2⟩:=IsL.cons.mp h;subst e1;obtain⟨us',g1,g2,g3⟩:=xs3 hd (kk:=kk) (by simpa using hl) i2;by_cases z:x=k
     ·refine⟨v::us',?_,by simp[g2],?_⟩
      ·show IsL K A H ((if ze3 (zg2 x)=some k then d else e)::_) _
       rw[zk3,if_pos (by rw[z])];exact IsL.cons.mpr ⟨v,us',rfl,hd,g1⟩
      ·show (if x=k then (x,v) else (x,u))::_=(x,v)::kk.zip us'
       rw[if_pos z,<-g3];rfl
     ·refine⟨u::us',?_,by simp[g2],?_⟩
      ·show IsL K A H ((if ze3 (zg2 x)=some k then d else e)::_) _
       rw[zk3,if_neg (fun q=>z (Option.some.inj q))];exact IsL.cons.mpr ⟨u,us',rfl,i1,g1⟩
      ·show (if x=k then (x,v) else (x,u))::_=(x,u)::kk.zip us'
       rw[if_neg z,<-g3];rfl
theorem xy5 {k:List Key} {d:D} {v:V} (hd:Is K A H d v) {kk:List (List Key)} {vs:List D} {us:List V} (hl:kk.length=us.length) (h:IsL K A H vs us) :
 ∃(kk':List (List Key)) (us':List V),(ya2 k d (kk.map zg2) vs).1=kk'.map zg2/\IsL K A H (ya2 k d (kk.map zg2) vs).2 us'/\kk'.length=us'.length/\zy7 (kk.zip us) k v=kk'.zip us':=by
 have hv:=yl6 k hl h;unfold ya2 zy7;rw[yb3];rcases hv with⟨z1,z2⟩ | ⟨d',v',z1,z2,_⟩
 ·rw[z1,z2]
  refine⟨kk++[k],us++[v],?_,?_,?_,?_⟩
  ·simp
  ·simpa using h.append (IsL.one hd)
  ·simp[hl]
  ·simp[List.zip_append hl]
 ·rw[z1,z2]
  obtain⟨us',g1,g2,g3⟩:=xs3 (k:=k) hd hl h;exact⟨kk,us',rfl,g1,g2,g3⟩
end
theorem xi7 {k:List Key} {d:D} (hd:d.imm=true):∀{ks vs:List D},D.immL vs=true->D.immL (List.zipWith (fun x u=>if ze3 x=some k then d else u) ks vs)=true
 | [],vs,_=>by simp[D.immL]
 | x::ks,[],_=>by simp[D.immL]
 | x::ks,v::vs,h=>by
   have h':v.imm=true/\D.immL vs=true:=by simpa [D.immL] using h
   show (D.imm (if ze3 x=some k then d else v)&&D.immL _)=true;rw[xi7 hd h'.2];by_cases z:ze3 x=some k
   ·rw[if_pos z,hd];rfl
   ·rw[if_neg z,h'.1];rfl
theorem yk8 {k:List Key} {d:D} {ks vs:List D} (hd:d.imm=true) (h:D.immL vs=true):D.immL (ya2 k d ks vs).2=true:=by
 unfold ya2;split
 ·exact xi7 hd h
 ·exact zh6 h (by simp[D.immL,hd])
section
variable {X:Cx} {S:Type} {W:Wd S} {c:Dx W} {g ga gb:Gr} {a b:Expr} {fk fv:Fn S} {i:Nat}
noncomputable def yn0 (ρ:Rho) (i:Nat):Option (List D×List D):=match ρ[i]? with
 | some (.own (.dct (.non::ks) vs))=>if D.immL vs=true then some (ks,vs) else none
 | _=>none
theorem xp0 {ρ:Rho} {ks vs:List D} (h:yn0 ρ i=some (ks,vs)):ρ[i]?=some (.own (.dct (.non::ks) vs))/\D.immL vs=true:=by
 unfold yn0 at h;split at h
 ·split at h
  ·cases h;exact⟨by assumption,by assumption⟩
  ·cases h
 ·cases h
noncomputable def wi0 (S:Type) (i:Nat) (fk fv:Fn S):FnS S:=fun ρ st=>(fv ρ st).bind fun v st1=>match yn0 ρ i with
 | some (ks,vs)=>(fk ρ st1).bind fun k st2=>match ze3 k with
   | some kk=>if v.imm=true/\ks.length<sizeLine then .ok (.nx (ρ.set i (.own (.dct (.non::(ya2 kk v ks vs).1) (ya2 kk v ks vs).2)))) st2 else .bad
   | none=>.bad
 | none=>.bad
theorem xe2 {x:Str} {k value:Expr} {p1 p2 pos:Pos} (hu:X.A.units+1<cLine) (hx:PE X (.Name x p1) (xm2 i)) (hk:DE X c ga k fk) (hv:DE X c gb value fv) (hs:swapsWith value (some (.Subscript (.Name x p1) k p2)) pos.line X.env=pure false:=by rfl) :
 DS X c (.Assign [.Subscript (.Name x p1) k p2] value pos) (wi0 S i fk fv):=
 (xs8 hu hx hk hv hs).imp fun D σ H q=>by
  refine zi3 (ye6 (g:=gb) (k:=fun v ρ st1=>match yn0 ρ i with
   | some (ks,vs)=>(fk ρ st1).bind fun k st2=>match ze3 k with
     | some kk=>if v.imm=true/\ks.length<sizeLine then .ok (.nx (ρ.set i (.own (.dct (.non::(ya2 kk v ks vs).1) (ya2 kk v ks vs).2)))) st2 else .bad
     | none=>.bad
   | none=>.bad) q) fun v H1 hh=>?_
  obtain⟨ρ,d,st0,st1,R,ok,R1,ok1,e1,z,w⟩:=hh;cases hd:yn0 ρ i with
  | none=>simp only[hd] at w;exact(show False from w).elim
  | some kv=>
    obtain⟨ks,vs⟩:=kv;simp only[hd] at w;obtain⟨ho,im⟩:=xp0 hd;obtain⟨ad,ea,nn,f0,us0,_⟩:=R1.slot i _ ho;refine⟨.ref ad,zn2 ea,ρ,st1,R1,ok1,za7 (za5.mp w) (fun dk st2 q2 vk H2 e2 ok2 zk=>?_) fun x st2 q2 H2 e2 ok2=>q2 H2 ((e1.trans e2).f0 R) ok2⟩;cases hkk:ze3 dk with
    | none=>simp only[hkk] at q2;exact(show False from q2).elim
    | some kk=>
      simp only[hkk] at q2;by_cases hc:d.imm=true/\ks.length<sizeLine
      ·rw[if_pos hc] at q2
       have R2:=R1.ext ok1 e2;obtain⟨ad',ea',nn',f0',us,iu,hq⟩:=R2.slot i _ ho;have:ad'=ad:=by
        have:=(zn2 ea').symm.trans (zn2 ea);cases this;rfl
       subst this;obtain⟨bk,ebk,hbk,_⟩:=yk2 hkk (show Is c.K (fun b=>¬W.mv b) H2 dk vk from zk.toR);have zv:Is c.K (Av c σ ρ) H2 d v:=Is.ofImm hc.1 (z.toR.ext e2 ok1);rcases hq with⟨k1,x1,_,_⟩ | ⟨k2,x2,el,eH⟩
       ·cases k1 with
        | nil=>cases x1
        | cons y r=>
          have:L2.D.non=xp7 y:=(List.cons.inj x1).1;cases y<;>cases this
       ·have e3:ks=k2.map zg2:=(List.cons.inj x2).2
        subst e3;obtain⟨kk',us',g1,g2,g3,g4⟩:=xy5 (k:=kk) zv el iu;have hz:(k2.zip us).length<sizeLine:=by
         rw[List.length_zip,<-el,Nat.min_self];have:=hc.2;rw[Aa0] at this;exact this
        have dp:=wh1.t (v:=v) eH hbk hz;rw[g4] at dp;subst ebk;refine⟨ad',_,rfl,dp,?_⟩;obtain⟨R3,F3⟩:=R2.wr (d':=.dct (.non::(ya2 kk d (k2.map zg2) vs).1) (ya2 kk d (k2.map zg2) vs).2) (o:=.dT (kk'.zip us')) ho (zn2 ea') ⟨(fun u z=>by cases z),(fun ob u z=>by cases z)⟩
         fun kt=>⟨us',g2.mono kt,.inr ⟨kk',by rw[g1],g3,zb5⟩⟩
        exact q2 σ _ ((e1.trans e2).frm.trans F3) (yw9 ok2 nn.1) R3
      ·rw[if_neg hc] at q2;exact(show False from q2).elim
end
section
variable {X:Cx} {S:Type} {W:Wd S} {c:Dx W} {g ga gb:Gr}
noncomputable def xg7 (K:PySem.W.Frag):R2:=fun x y H Q=>∃a b ys,x=.ref a/\y=.ref b/\SqT K H a []/\SqT K H b ys/\Q (.ref b) H
theorem wc7:OpR X (binaryOp .Add) (xg7 X.K):=by
 intro A3 s σ H x y v u Q I rx ry h;obtain⟨a,b,ys,rfl,rfl,ha,hb,q⟩:=h;cases rx;cases ry;obtain⟨its,r1,p1,_⟩:=I.tuple ha;obtain⟨its2,r2,p2,_⟩:=I.tuple hb;cases r1;obtain⟨⟨cls,dd,data,sl⟩,ho,hc,n,hd⟩:=id p1;obtain⟨⟨cls2,dd2,data2,sl2⟩,ho2,hc2,n2,hd2⟩:=id p2;simp only at hc hd hc2 hd2;subst hc hd hc2 hd2;exact concat_meets ⟨_,ho,rfl⟩ ⟨_,ho2,rfl⟩ noFill_tuple_add seq_tuple_add PySem.F.slot_tuple_add PySem.F.entry_tuple_add (PySem.F.args_tuple_add_2 _ _) (tuple_addW0 a b _ its2.toArray n n2 dd dd2 sl sl2 rfl) ⟨ho,ho2,⟨.ref b,H,I,rfl,q⟩⟩
noncomputable def xu6:D->D->Option D
 | .tup [],.tup m=>if D.immL m=true then some (.tup m) else none
 | _,_=>none
set_option tactic.hygienic true in
theorem wc9 {K:PySem.W.Frag}:OpD c (xg7 K) xu6:=by
 intro d1 d2 v1 v2 H st d Q ok z1 z2 e q;unfold xu6 at e;split at e
 ·rename_i m
  split at e
  ·rename_i im
   cases e;obtain⟨a,vs,ea,s1,i1⟩:=Is.tup_iff.mp z1;obtain⟨b,us,eb,s2,i2⟩:=Is.tup_iff.mp z2;rw[IsL.nil.mp i1] at s1;refine⟨a,b,us,ea,eb,.of s1,.of s2,?_⟩;rw[<-eb];exact q _ H Ext.refl ok (Is.ofImm (by show D.immL m=true;exact im) z2)
  ·cases e
 ·cases e
noncomputable def ww6 (S:Type) (i:Nat) (fk fv:Fn S):FnS S:=fun ρ st=>(fv ρ st).bind fun v st1=>match zl7 ρ i with
 | some l=>(fk ρ st1).bind fun k st2=>match k with
   | .int j=>match ixN l.length j with
     | some n=>if v.imm=true then .ok (.nx (ρ.set i (.own (.lst (l.set n v))))) st2 else .bad
     | none=>.bad
   | _=>.bad
 | none=>.bad
theorem yp6 {x:Str} {k value:Expr} {fk fv:Fn S} {i:Nat} {p1 p2 pos:Pos} (hx:PE X (.Name x p1) (xm2 i)) (hk:DE X c ga k fk) (hv:DE X c gb value fv)
 (h:∀{tk tv:TE},PE X k tk->PE X value tv->PS X (.Assign [.Subscript (.Name x p1) k p2] value pos) (wt2 tv (vm9 (xm2 i) tk wx2))):DS X c (.Assign [.Subscript (.Name x p1) k p2] value pos) (ww6 S i fk fv):=
 (h hk hv).imp fun D σ H q=>by
  refine zi3 (ye6 (g:=gb) (k:=fun v ρ st1=>match zl7 ρ i with
   | some l=>(fk ρ st1).bind fun k st2=>match k with
     | .int j=>match ixN l.length j with
       | some n=>if v.imm=true then .ok (.nx (ρ.set i (.own (.lst (l.set n v))))) st2 else .bad
       | none=>.bad
     | _=>.bad
   | none=>.bad) q) fun v H1 hh=>?_
  obtain⟨ρ,d,st0,st1,R,ok,R1,ok1,e1,z,w⟩:=hh;cases hd:zl7 ρ i with
  | none=>simp only[hd] at w;exact(show False from w).elim
  | some l=>
    simp only[hd] at w;obtain⟨ad,vs,ea,eH,zz,nm⟩:=R1.lstAt hd;refine⟨.ref ad,ea,ρ,st1,R1,ok1,za7 (za5.mp w) (fun dk st2 q2 vk H2 e2 ok2 zk=>?_) fun x st2 q2 H2 e2 ok2=>q2 H2 ((e1.trans e2).f0 R) ok2⟩;cases dk with
    | int j=>
      have zj:vk=.int j:=Is.int_iff.mp (show Is c.K (fun b=>¬W.mv b) H2 (.int j) vk from zk.toR);cases hn:ixN l.length j with
      | none=>simp only[hn] at q2;exact(show False from q2).elim
      | some n=>
        simp only[hn] at q2;by_cases hc:d.imm=true
        ·rw[if_pos hc] at q2
         have R2:=R1.ext ok1 e2;have eH2:=e2 ad _ eH nm;have z2:IsL c.K (Av c σ ρ) H2 l vs:=zz.mono (e2.keepT ok1 fun b a=>⟨a.1,a⟩);have zv:Is c.K (Av c σ ρ) H2 d v:=Is.ofImm hc (z.toR.ext e2 ok1);refine⟨ad,vs,j,n,rfl,zj,eH2,by rw[<-z2.length];exact hn,?_⟩;obtain⟨R3,F3⟩:=R2.wr (d':=.lst (l.set n d)) (o:=.lst (vs.set n v)) (yf3 hd) ea ⟨(fun u z=>by cases z),(fun ob u z=>by cases z)⟩ fun kt=>⟨_,zb5,(z2.set n zv).mono kt⟩
         exact q2 σ _ ((e1.trans e2).frm.trans F3) (yw9 ok2 nm) R3
        ·rw[if_neg hc] at q2;exact(show False from q2).elim
    | _=>exact(show False from q2).elim
end
end L2
namespace PySem
structure Wlk (prog:Program) (w:World) (it l:Addr) (xs:List Value) (P:Nat->Heap->Prop):Prop where
 keep:∀k h h',P k h->(∀b o,b=it\/b=l->h.get? b=some o->h'.get? b=some o)->P k h'
 item:∀(A:Around) (E:Value->Shared->Prop) (s:Shared) (k:Nat) (x:Value) (Q:Value->Shared->Prop),P k s.heap->xs[k]?=some x->
  (∀h',P (k+1) h'->Heap.SameBut it s.heap h'->Q x { s with heap:=h' })->wpAny (model prog w) A (Builtin.SmallTypes.nextOf (.ref it)) Q E s
 stop:∀(A:Around) (E:Value->Shared->Prop) (s:Shared) (k:Nat) (Q:Value->Shared->Prop),A.handled=none->P k s.heap->xs[k]?=none->
  (∀h' e,Heap.ExtBut it s.heap h'->(∃o,h'.get? e=some o/\o.cls=.type "StopIteration")->E (.ref e) { s with heap:=h' })->wpAny (model prog w) A (Builtin.SmallTypes.nextOf (.ref it)) Q E s
section
variable {prog:Program} {w:World} {it l:Addr} {xs:List Value}
theorem Wlk.tup (hne:it≠l):Wlk prog w it l xs (fun k h=>h.IsTupleIter it l k/\h.IsTuple l xs.toArray) where
 keep:=fun k h h' ⟨a,b⟩ q=>⟨a.at fun o e=>q it o (.inl rfl) e,by
  obtain⟨o,ho,r⟩:=b;exact⟨o,q l o (.inr rfl) ho,r⟩⟩
 item:=fun A E s k x Q ⟨a,b⟩ hx hQ=>zs5 a b (by simpa using hx) fun h' a' sb=>hQ h' ⟨a',by
  obtain⟨o,ho,r⟩:=b;exact⟨o,sb.extBut l o hne.symm ho,r⟩⟩ sb
 stop:=fun A E s k Q hh ⟨a,b⟩ hx hE=>zu6 hh a b (by simpa using hx) hE
theorem Wlk.lst (hne:it≠l):Wlk prog w it l xs (fun k h=>h.IsListIter it l k/\h.IsList l xs.toArray) where
 keep:=fun k h h' ⟨a,b⟩ q=>⟨a.at fun o e=>q it o (.inl rfl) e,b.at fun o e=>q l o (.inr rfl) e⟩
 item:=fun A E s k x Q ⟨a,b⟩ hx hQ=>wpAny_nextOf_list_item a b (by simpa using hx) fun h' a' sb=>hQ h' ⟨a',b.extBut sb.extBut hne.symm⟩ sb
 stop:=fun A E s k Q hh ⟨a,b⟩ hx hE=>wpAny_nextOf_list_end hh a b (by simpa using hx) hE
end
section
variable {prog:Program} {w:World} {A:Around} {E:Value->Shared->Prop} {s:Shared} {z TI TO i1 i2 l1 l2:Addr} {xs ys:List Value} {P1 P2:Nat->Heap->Prop} {k:Nat} {x y a b:Value}
structure ZAp (z TI TO i1 i2 l1 l2:Addr):Prop where
 zTI:z≠TI
 zTO:z≠TO
 z1:z≠i1
 z2:z≠i2
 io:TI≠TO
 I1:TI≠i1
 I2:TI≠i2
 O1:TO≠i1
 O2:TO≠i2
 ii:i1≠i2
 lz1:l1≠z
 lo1:l1≠TO
 li1:l1≠i2
 lz2:l2≠z
 lo2:l2≠TO
 li2:l2≠i1
theorem Wlk.ext {it l:Addr} {xs:List Value} {P:Nat->Heap->Prop} (W:Wlk prog w it l xs P) {k:Nat} {h h':Heap} {c:Addr} (p:P k h) (e:Heap.ExtBut c h h') (n1:it≠c) (n2:l≠c):P k h':=
 W.keep k h h' p fun b o hb q=>by
  rcases hb with r | r
  ·subst r;exact e _ o n1 q
  ·subst r;exact e _ o n2 q
theorem wa0 {Q:Value->Shared->Prop} (W1:Wlk prog w i1 l1 xs P1) (W2:Wlk prog w i2 l2 ys P2) (D:ZAp z TI TO i1 i2 l1 l2) (hz:IsZip s.heap z TI TO .none) (hTI:IsPair s.heap TI (.ref i1) (.ref i2)) (hTO:IsPair s.heap TO a b)
 (p1:P1 k s.heap) (p2:P2 k s.heap) (hx:xs[k]?=some x) (hy:ys[k]?=some y)
 (hQ:∀h',IsZip h' z TI TO (rawInt s.heap.objs.size)->IsPair h' TO x y->P1 (k+1) h'->P2 (k+1) h'->IsPair h' s.heap.objs.size x y->h'.objs.size=s.heap.objs.size+1->
  (∀c o,c∉[z,TO,i1,i2]->s.heap.get? c=some o->h'.get? c=some o)->Q (.ref s.heap.objs.size) { s with heap:=h' }) :
 wpAny (model prog w) A (Builtin.«zip.__next__» ⟨[.ref z],[]⟩) (fun fin s'=>∃v,fin=.done (.ret v)/\Q v s') E s:=by
 show wpAny (model prog w) A (field (.ref z) 2 >>= fun _=>_) _ _ s;refine Aa1 (Ae1 hz rfl (x:=.bool false) rfl ?_);show wpAny (model prog w) A (field (.ref z) 3 >>= fun _=>_) _ _ s;refine Aa1 (Ae1 hz rfl (x:=.ref TI) rfl (Aa1 (An1 hTI rfl ?_)));show wpAny (model prog w) A (Builtin.SmallTypes.ownedTupleIsFree (.ref z) >>= fun _=>_) _ _ s;refine Aa1 ?_;unfold Builtin.SmallTypes.ownedTupleIsFree;refine Aa1 (Ae1 hz rfl (x:=.none) rfl (Ac1 ?_));rw[if_pos rfl];refine Aa1 (Aj1 (Aa1 (Ae1 hz rfl (x:=.ref TO) rfl (Aa1 (Ag1 hz (by simp) fun g1 z1 c1=>?_)))));have z1:IsZip g1 z TI TO .ellipsis:=z1;have c1:Heap.SameBut z s.heap g1:=c1;refine Aa1 ?_;simp only[List.zipIdx_cons,List.zipIdx_nil,List.forIn_cons,List.forIn_nil];refine Aa1 (Aa1 (wpAny_onRaise ?_));show wpAny (model prog w) _ (Builtin.SmallTypes.nextOf (.ref i1) >>= fun _=>_) _ _ _;refine Aa1 (W1.item _ _ _ k x _ (W1.ext p1 c1.extBut D.z1.symm D.lz1) hx fun g2 q1 c2=>Ac1 ?_);have c2:Heap.SameBut i1 g1 g2:=c2;have t2:IsPair g2 TO a b:=c2.extBut _ _ D.O1 (c1.extBut _ _ D.zTO.symm hTO);refine Aa1 (An1 t2 rfl (Aa1 (wpAny_updateSeq_pair t2 fun g3 t3 c3=>?_)));have t3:IsPair g3 TO x b:=t3;have c3:Heap.SameBut TO g2 g3:=c3;refine Aa1 (wpAny_letGo (Ac1 (Aa1 (Aa1 (wpAny_onRaise ?_)))));show wpAny (model prog w) _ (Builtin.SmallTypes.nextOf (.ref i2) >>= fun _=>_) _ _ _;have p2':P2 k g3:=W2.ext (W2.ext (W2.ext p2 c1.extBut D.z2.symm D.lz2) c2.extBut D.ii.symm D.li2) c3.extBut D.O2.symm D.lo2;refine Aa1 (W2.item _ _ _ k y _ p2' hy fun g4 q2 c4=>Ac1 ?_);have c4:Heap.SameBut i2 g3 g4:=c4;have t4:IsPair g4 TO x b:=c4.extBut _ _ D.O2 t3;refine Aa1 (An1 t4 rfl (Aa1 (wpAny_updateSeq_pair t4 fun g5 t5 c5=>?_)));have t5:IsPair g5 TO x y:=t5;have c5:Heap.SameBut TO g4 g5:=c5;refine Aa1 (wpAny_letGo (Ac1 (Ac1 (Aa1 (An1 t5 rfl (Aa1 (wpAny_newTuple ?_)))))));have sz:g5.objs.size=s.heap.objs.size:=by rw[c5.1,c4.1,c3.1,c2.1,c1.1]
 have k5:∀c o,c∉[z,TO,i1,i2]->s.heap.get? c=some o->g5.get? c=some o:=fun c o n e=>by
  simp only[Ai0,Bd0,or_false,not_or] at n;exact c5.extBut _ _ n.2.1 (c4.extBut _ _ n.2.2.2 (c3.extBut _ _ n.2.1 (c2.extBut _ _ n.2.2.1 (c1.extBut _ _ n.1 e))))
 have z5:IsZip g5 z TI TO .ellipsis:=c5.extBut _ _ D.zTO (c4.extBut _ _ D.z2 (c3.extBut _ _ D.zTO (c2.extBut _ _ D.z1 z1)));have r1:P1 (k+1) g5:=W1.ext (W1.ext (W1.ext q1 c3.extBut D.O1.symm D.lo1) c4.extBut D.ii D.li1) c5.extBut D.O1.symm D.lo1;have r2:P2 (k+1) g5:=W2.ext q2 c5.extBut D.O2.symm D.lo2;show wpAny (model prog w) A (Builtin.SmallTypes.ownedTupleHandOut (.ref z) (.ref g5.objs.size) >>= fun _=>_) _ _ _;refine Aa1 ?_;unfold Builtin.SmallTypes.ownedTupleHandOut;have z6:IsZip (g5.push { cls:=.type "tuple",data:=.seq #[x,y] }) z TI TO .ellipsis:=Ad0 _ z5;have lt:z<g5.objs.size:=Heap.lt_size z5;have n5:(g5.push { cls:=.type "tuple",data:=.seq #[x,y] }).get? g5.objs.size=some { cls:=.type "tuple",data:=.seq #[x,y] }:=Ak0 _ rfl;refine Aa1 (Ag1 z6 (by simp) fun g7 z7 c7=>?_);have z7:IsZip g7 z TI TO (rawInt g5.objs.size):=z7;have c7:Heap.SameBut z (g5.push { cls:=.type "tuple",data:=.seq #[x,y] }) g7:=c7;refine Ag1 z7 (by simp) fun g8 z8 c8=>Ac1 ⟨_,rfl,?_⟩
 have z8:IsZip g8 z TI TO (rawInt g5.objs.size):=z8;have c8:Heap.SameBut z g7 g8:=c8;have up:∀c o,c≠z->g5.get? c=some o->g8.get? c=some o:=fun c o n e=>c8.extBut _ _ n (c7.extBut _ _ n (Ad0 _ e))
 have ex:Heap.ExtBut z g5 g8:=fun c o n e=>up c o n e
 have t8:IsPair g8 g5.objs.size x y:=c8.extBut _ _ (Nat.ne_of_gt lt) (c7.extBut _ _ (Nat.ne_of_gt lt) n5);have s8:g8.objs.size=g5.objs.size+1:=by rw[c8.1,c7.1,Bo0]
 show Q (.ref g5.objs.size) _;rw[sz] at z8 t8 s8 ⊢;exact hQ g8 z8 (up _ _ D.zTO.symm t5) (W1.ext r1 ex D.z1.symm D.lz1) (W2.ext r2 ex D.z2.symm D.lz2) t8 s8 fun c o n e=>up c o (fun h=>n (by simp[h])) (k5 c o n e)
theorem wa1 {Q:Fin->Shared->Prop} (hh:A.handled=none) (W1:Wlk prog w i1 l1 xs P1) (W2:Wlk prog w i2 l2 ys P2) (D:ZAp z TI TO i1 i2 l1 l2) (hz:IsZip s.heap z TI TO .none) (hTI:IsPair s.heap TI (.ref i1) (.ref i2)) (hTO:IsPair s.heap TO a b)
 (p1:P1 k s.heap) (p2:P2 k s.heap) (hend:xs[k]?=none\/ys[k]?=none)
 (hE:∀h' e,(∀c o,c∉[z,TO,i1,i2]->s.heap.get? c=some o->h'.get? c=some o)->(∃o,h'.get? e=some o/\o.cls=.type "StopIteration")->E (.ref e) { s with heap:=h' }) :
 wpAny (model prog w) A (Builtin.«zip.__next__» ⟨[.ref z],[]⟩) Q E s:=by
 have nz:∀{h:Heap} {e:Addr} {f0:Value} {o:Obj},IsZip h z TI TO f0->h.get? e=some o->o.cls=.type "StopIteration"->e≠z:=fun {h e f0 o} q1 q2 q3 q4=>by
  subst q4;rw[q1] at q2;cases q2;simp at q3
 show wpAny (model prog w) A (field (.ref z) 2 >>= fun _=>_) _ _ s;refine Aa1 (Ae1 hz rfl (x:=.bool false) rfl ?_);show wpAny (model prog w) A (field (.ref z) 3 >>= fun _=>_) _ _ s;refine Aa1 (Ae1 hz rfl (x:=.ref TI) rfl (Aa1 (An1 hTI rfl ?_)));show wpAny (model prog w) A (Builtin.SmallTypes.ownedTupleIsFree (.ref z) >>= fun _=>_) _ _ s;refine Aa1 ?_;unfold Builtin.SmallTypes.ownedTupleIsFree;refine Aa1 (Ae1 hz rfl (x:=.none) rfl (Ac1 ?_));rw[if_pos rfl];refine Aa1 (Aj1 (Aa1 (Ae1 hz rfl (x:=.ref TO) rfl (Aa1 (Ag1 hz (by simp) fun g1 z1 c1=>?_)))));have z1:IsZip g1 z TI TO .ellipsis:=z1;have c1:Heap.SameBut z s.heap g1:=c1;refine Aa1 ?_;simp only[List.zipIdx_cons,List.zipIdx_nil,List.forIn_cons,List.forIn_nil];refine Aa1 (Aa1 (wpAny_onRaise ?_));show wpAny (model prog w) _ (Builtin.SmallTypes.nextOf (.ref i1) >>= fun _=>_) _ _ _;have p1':P1 k g1:=W1.ext p1 c1.extBut D.z1.symm D.lz1;cases hx:xs[k]? with
 | none=>
   refine Aa1 (W1.stop _ _ _ k _ hh p1' hx fun g2 e c2 he=>?_);obtain⟨oe,ho,hc⟩:=he;have z2:IsZip g2 z TI TO .ellipsis:=c2 _ _ D.z1 z1;refine Ag1 z2 (by simp) fun g3 _ c3=>hE g3 e (fun c o n q=>?_) ⟨oe,c3.extBut _ _ (nz z2 ho hc) ho,hc⟩
   simp only[Ai0,Bd0,or_false,not_or] at n;exact c3.extBut _ _ n.1 (c2 _ _ n.2.2.1 (c1.extBut _ _ n.1 q))
 | some x=>
   have hy:ys[k]?=none:=by
    rcases hend with h | h
    ·rw[hx] at h;cases h
    ·exact h
   refine Aa1 (W1.item _ _ _ k x _ p1' hx fun g2 q1 c2=>Ac1 ?_);have c2:Heap.SameBut i1 g1 g2:=c2;have t2:IsPair g2 TO a b:=c2.extBut _ _ D.O1 (c1.extBut _ _ D.zTO.symm hTO);refine Aa1 (An1 t2 rfl (Aa1 (wpAny_updateSeq_pair t2 fun g3 t3 c3=>?_)));have c3:Heap.SameBut TO g2 g3:=c3;refine Aa1 (wpAny_letGo (Ac1 (Aa1 (Aa1 (wpAny_onRaise ?_)))));show wpAny (model prog w) _ (Builtin.SmallTypes.nextOf (.ref i2) >>= fun _=>_) _ _ _;have p2':P2 k g3:=W2.ext (W2.ext (W2.ext p2 c1.extBut D.z2.symm D.lz2) c2.extBut D.ii.symm D.li2) c3.extBut D.O2.symm D.lo2;refine Aa1 (W2.stop _ _ _ k _ hh p2' hy fun g4 e c4 he=>?_);obtain⟨oe,ho,hc⟩:=he;have z4:IsZip g4 z TI TO .ellipsis:=c4 _ _ D.z2 (c3.extBut _ _ D.zTO (c2.extBut _ _ D.z1 z1));refine Ag1 z4 (by simp) fun g5 _ c5=>hE g5 e (fun c o n q=>?_) ⟨oe,c5.extBut _ _ (nz z4 ho hc) ho,hc⟩
   simp only[Ai0,Bd0,or_false,not_or] at n;exact c5.extBut _ _ n.1 (c4 _ _ n.2.2.2 (c3.extBut _ _ n.2.1 (c2.extBut _ _ n.2.2.1 (c1.extBut _ _ n.1 q))))
end
noncomputable def zO (nm:String) (l:Addr):Obj:={ cls:=.type nm,data:=.fields #[.ref l,.int 0 0] }
noncomputable def zA (nm:String) (h:Heap) (l1 l2:Addr):Heap:=(h.push (zO nm l1)).push (zO nm l2)
noncomputable def zB (nm:String) (h:Heap) (l1 l2:Addr):Heap:=((zA nm h l1 l2).push { cls:=.type "tuple",data:=.seq #[.ref h.objs.size,.ref (h.push (zO nm l1)).objs.size] }).push { cls:=.type "tuple",data:=.seq #[.none,.none] }
noncomputable def zC (nm:String) (h:Heap) (l1 l2:Addr):Heap:=(zB nm h l1 l2).push { cls:=.type "zip",data:=.fields #[.none,.bool false,.bool false,.ref (zA nm h l1 l2).objs.size,.ref ((zA nm h l1 l2).push { cls:=.type "tuple",data:=.seq #[.ref h.objs.size,.ref (h.push (zO nm l1)).objs.size] }).objs.size] }
theorem xn3 (l1 l2:Addr) (xs ys:Array Value) :
 Meets (Builtin.«zip.__new__» ⟨[.type "zip",.ref l1,.ref l2],[]⟩) (fun _ R s=>s.heap.IsTuple l1 xs/\s.heap.IsTuple l2 ys/\
  R (.ok (.ret (.ref (zB "tuple_iterator" s.heap l1 l2).objs.size))) { s with heap:=zC "tuple_iterator" s.heap l1 l2 }):=
 .of_wp fun prog w A R s h=>by
  obtain⟨hp,g,d,tk,os⟩:=s;obtain⟨hl1,hl2,h⟩:=h;have hsub:=sub_zip;have hL1:Heap.IsTuple (Shared.heap ⟨hp,g,d,tk,os⟩) l1 xs:=hl1;have hL2:Heap.IsTuple (Shared.heap ⟨hp.push { cls:=.type "tuple_iterator",data:=.fields #[.ref l1,.int 0 0] },g,d,tk,os⟩) l2 ys:=by
   obtain⟨o,ho,r⟩:=hl2;exact⟨o,Ad0 _ ho,r⟩
  wp_walk using wpAny_pyIter_tuple hL1,wpAny_pyIter_tuple hL2
  exact⟨_,rfl,h⟩
theorem xf3 (nm:String) (h:Heap) (l1 l2:Addr):(h.push (zO nm l1)).objs.size=h.objs.size+1/\(zA nm h l1 l2).objs.size=h.objs.size+2/\(zB nm h l1 l2).objs.size=h.objs.size+4:=by
 refine⟨Bo0 ..,?_,?_⟩
 ·unfold zA;rw[Bo0,Bo0]
 ·unfold zB zA;rw[Bo0,Bo0,Bo0,Bo0]
theorem xf5 (nm:String) (h:Heap) (l1 l2:Addr):IsZip (zC nm h l1 l2) (h.objs.size+4) (h.objs.size+2) (h.objs.size+3) .none/\IsPair (zC nm h l1 l2) (h.objs.size+2) (.ref h.objs.size) (.ref (h.objs.size+1))/\
 IsPair (zC nm h l1 l2) (h.objs.size+3) .none .none/\(zC nm h l1 l2).get? h.objs.size=some (zO nm l1)/\(zC nm h l1 l2).get? (h.objs.size+1)=some (zO nm l2)/\∀c o,h.get? c=some o->(zC nm h l1 l2).get? c=some o:=by
 obtain⟨s1,s2,s4⟩:=xf3 nm h l1 l2;have s3:((zA nm h l1 l2).push { cls:=.type "tuple",data:=.seq #[.ref h.objs.size,.ref (h.push (zO nm l1)).objs.size] }).objs.size=h.objs.size+3:=by rw[Bo0,s2]
 have u:∀{c:Addr} {o:Obj},(zB nm h l1 l2).get? c=some o->(zC nm h l1 l2).get? c=some o:=fun {c o} q=>Ad0 _ q
 have v:∀{c:Addr} {o:Obj},(zA nm h l1 l2).get? c=some o->(zC nm h l1 l2).get? c=some o:=fun {c o} q=>u (Ad0 _ (Ad0 _ q))
 refine⟨?_,?_,?_,v (Ad0 _ (Ak0 _ rfl)),?_,fun c o q=>v (Ad0 _ (Ad0 _ q))⟩
 ·have q:(zC nm h l1 l2).get? (zB nm h l1 l2).objs.size=some _:=Ak0 _ rfl
  rw[s4,s3,s2] at q;exact q
 ·have q:(zC nm h l1 l2).get? (zA nm h l1 l2).objs.size=some _:=u (Ad0 _ (Ak0 _ rfl))
  rw[s2,s1] at q;exact q
 ·have q:(zC nm h l1 l2).get? ((zA nm h l1 l2).push { cls:=.type "tuple",data:=.seq #[.ref h.objs.size,.ref (h.push (zO nm l1)).objs.size] }).objs.size=some _:=u (Ak0 _ rfl)
  rw[s3] at q;exact q
 ·have q:(zA nm h l1 l2).get? (h.push (zO nm l1)).objs.size=some (zO nm l2):=Ak0 _ rfl
  rw[s1] at q;exact v q
section
variable {prog:Program} {w:World} {A:Around} {E:Value->Shared->Prop} {s:Shared}
theorem xy7 {l1 l2:Addr} {xs ys:Array Value} {Q:Value->Shared->Prop} (hl1:s.heap.IsTuple l1 xs) (hl2:s.heap.IsTuple l2 ys)
 (h:Q (.ref (s.heap.objs.size+4)) { s with heap:=zC "tuple_iterator" s.heap l1 l2 }):wpAny (model prog w) A (call (.type "zip") [.ref l1,.ref l2]) Q E s:=by
 refine callType_new F.called_zip (by decide) (F.typeCall_zip_2 _ _) (F.newCall_zip_2 _ _) (fun obj=>F.args_object_init_3 obj _ _) F.entry_zip_new (xn3 l1 l2 xs ys) ⟨hl1,hl2,?_⟩;obtain⟨q,_⟩:=xf5 "tuple_iterator" s.heap l1 l2;show _/\_;rw[(xf3 "tuple_iterator" s.heap l1 l2).2.2];exact⟨⟨_,q,rfl⟩,h⟩
theorem xy8 {l1 l2:Addr} {xs ys:Array Value} {Q:Value->Shared->Prop} (hl1:s.heap.IsList l1 xs) (hl2:s.heap.IsList l2 ys)
 (h:Q (.ref (s.heap.objs.size+4)) { s with heap:=zC "list_iterator" s.heap l1 l2 }):wpAny (model prog w) A (call (.type "zip") [.ref l1,.ref l2]) Q E s:=by
 refine callType_new F.called_zip (by decide) (F.typeCall_zip_2 _ _) (F.newCall_zip_2 _ _) (fun obj=>F.args_object_init_3 obj _ _) F.entry_zip_new (meets_zip_new l1 l2 xs ys) ⟨hl1,hl2,?_⟩;obtain⟨q,_⟩:=xf5 "list_iterator" s.heap l1 l2;show _/\_;refine⟨⟨{ cls:=.type "zip",data:=.fields #[.none,.bool false,.bool false,.ref (s.heap.objs.size+2),.ref (s.heap.objs.size+3)] },?_,rfl⟩,?_⟩
 ·rw[show (zipH4 s.heap l1 l2).objs.size=s.heap.objs.size+4 from (xf3 "list_iterator" s.heap l1 l2).2.2];exact q
 ·rw[show (zipH4 s.heap l1 l2).objs.size=s.heap.objs.size+4 from (xf3 "list_iterator" s.heap l1 l2).2.2];exact h
end
end PySem
namespace L2
noncomputable def Izp (Sq:Hp->List V->List V->Prop):It:=
 ⟨fun i H=>∃xs ys x y,Sq H xs ys/\xs[i]?=some x/\ys[i]?=some y,fun i H v H'=>∃p x y,H p=none/\v=.ref p/\H'=upd H p (.tup [x,y])/\∀xs ys,Sq H xs ys->xs[i]?=some x/\ys[i]?=some y,fun i H=>∃xs ys,Sq H xs ys/\(xs.length<=i\/ys.length<=i)⟩
structure ZW (P:Program) (w:World) (K:PySem.W.Frag) (l1 l2 i1 i2:Addr) (Sq:Hp->List V->List V->Prop) (T1 T2:Nat->Heap->Prop):Prop where
 obj:∀k h,(T1 k h->∃o,h.get? i1=some o/\∀v,o.data≠.cell v)/\(T2 k h->∃o,h.get? i2=some o/\∀v,o.data≠.cell v)
 keep:∀k h h',(T1 k h->(∀o,h.get? i1=some o->h'.get? i1=some o)->T1 k h')/\(T2 k h->(∀o,h.get? i2=some o->h'.get? i2=some o)->T2 k h')
 there:∀H xs ys,Sq H xs ys->H l1≠none/\H l2≠none
 vals:∀(X:Cx),X.K=K->∀A3 σ H s xs ys,Inv X A3 σ H s->Sq H xs ys->i1≠l1->i2≠l2->∃us vs,zg1 xs us/\zg1 ys vs/\(∀xs' ys',Sq H xs' ys'->xs'=xs/\ys'=ys)/\∃P1 P2:Nat->Heap->Prop,Wlk P w i1 l1 us P1/\Wlk P w i2 l2 vs P2/\
  (∀k,T1 k s.heap->P1 k s.heap)/\(∀k,T2 k s.heap->P2 k s.heap)/\∀k h,(P1 k h->T1 k h)/\(P2 k h->T2 k h)
theorem nd5 {a b c d e:Addr} (h:[a,b,c,d,e].Nodup):(a≠b/\a≠c/\a≠d/\a≠e)/\(b≠c/\b≠d/\b≠e)/\(c≠d/\c≠e)/\d≠e:=by
 simpa only[Bt0,Ai0,Bd0,or_false,not_or,List.nodup_nil,and_true,not_false_eq_true] using h
theorem vm7 {x a b c d e:Addr} (h:x∈[a,b,c,d,e]):x=a\/x=b\/x=c\/x=d\/x=e:=by
 simpa only[Ai0,Bd0,or_false] using h
theorem nm5 {x a b c d e:Addr} (h:x∉[a,b,c,d,e]):x≠a/\x∉[a,c,d,e]:=by
 simp only[Ai0,Bd0,or_false,not_or] at h ⊢;exact⟨h.1,h.1,h.2.2⟩
theorem nm4 {x a b c d:Addr} (h1:x≠a) (h2:x≠b) (h3:x≠c) (h4:x≠d):x∉[a,b,c,d]:=by
 simp only[Ai0,Bd0,or_false,not_or];exact⟨h1,h2,h3,h4⟩
theorem vj0 {x a b c d e:Addr} (h:x∈[a,c,d,e]):x∈[a,b,c,d,e]:=by
 simp only[Ai0,Bd0,or_false] at h ⊢;rcases h with r | r | r | r
 ·exact .inl r
 ·exact .inr (.inr (.inl r))
 ·exact .inr (.inr (.inr (.inl r)))
 ·exact .inr (.inr (.inr (.inr r)))
set_option tactic.hygienic true in
theorem xg3 {P:Program} {w:World} {K:PySem.W.Frag} {elts:List Expr} {x1} {pos:Pos} {l1 l2 z TI TO i1 i2:Addr} {Sq:Hp->List V->List V->Prop} {T1 T2:Nat->Heap->Prop} (Z:ZW P w K l1 l2 i1 i2 Sq T1 T2)
 (nd:[z,TI,TO,i1,i2].Nodup):wk1 P w K (.Tuple elts x1 pos) (Izp Sq) [z,TI,TO,i1,i2] z (fun i h=>IsZip h z TI TO .none/\IsPair h TI (.ref i1) (.ref i2)/\(∃a b,IsPair h TO a b)/\T1 i h/\T2 i h) where
 mem:=by simp
 obj:=fun i h st b hb=>by
  obtain⟨h1,h2,⟨_,_,h3⟩,h4,h5⟩:=st;have nc:∀{d:Data} {v:Option Value},d=Data.cell v->(∃u,d=.fields u)\/(∃u n,d=.seq u n)->False:=fun e q=>by
   subst e;rcases q with⟨u,q⟩ | ⟨u,n,q⟩<;>cases q
  have hb:=vm7 hb;rcases hb with r | r | r | r | r
  ·subst r;exact⟨_,h1,fun v e=>nc (v:=v) e (.inl ⟨_,rfl⟩)⟩
  ·subst r;exact⟨_,h2,fun v e=>nc (v:=v) e (.inr ⟨_,_,rfl⟩)⟩
  ·subst r;exact⟨_,h3,fun v e=>nc (v:=v) e (.inr ⟨_,_,rfl⟩)⟩
  ·subst r;exact(Z.obj i h).1 h4
  ·subst r;exact(Z.obj i h).2 h5
 keep:=fun i h h' st q=>by
  obtain⟨h1,h2,⟨a,b,h3⟩,h4,h5⟩:=st;exact⟨q _ (by simp) _ h1,q _ (by simp) _ h2,⟨a,b,q _ (by simp) _ h3⟩,(Z.keep i h h').1 h4 fun o e=>q _ (by simp) o e,(Z.keep i h h').2 h5 fun o e=>q _ (by simp) o e⟩
 item:=by
  intro X hP hw hK hc i A3 s σ H E I hf st hg;subst hP hw;obtain⟨xs,ys,x,y,hq,hx,hy⟩:=hg;obtain⟨h1,h2,⟨a,b,h3⟩,h4,h5⟩:=st;obtain⟨n1,n2⟩:=Z.there H xs ys hq;have no:∀c∈[z,TI,TO,i1,i2],l1≠c/\l2≠c:=fun c hb=>⟨fun e=>n1 (by rw[e];exact(hf c hb).1),fun e=>n2 (by rw[e];exact(hf c hb).1)⟩
  obtain⟨us,vs,ru,rv,inj,P1,P2,W1,W2,p1,p2,pt⟩:=Z.vals X hK A3 σ H s xs ys I hq (no i1 (by simp)).1.symm (no i2 (by simp)).2.symm;obtain⟨u,hu,rx⟩:=ru.get hx;obtain⟨v,hv,ry⟩:=rv.get hy;have nd:=nd5 nd;have D:ZAp z TI TO i1 i2 l1 l2:=⟨nd.1.1,nd.1.2.1,nd.1.2.2.1,nd.1.2.2.2,nd.2.1.1,nd.2.1.2.1,nd.2.1.2.2,nd.2.2.1.1,nd.2.2.1.2,nd.2.2.2,(no z (by simp)).1,(no TO (by simp)).1,(no i2 (by simp)).1,(no z (by simp)).2,(no TO (by simp)).2,(no i1 (by simp)).2⟩;have hT:s.TypeIs (.ref z) "zip":=⟨_,h1,rfl⟩;unfold pyNext;refine Aa1 (wpAny_attempt (wpAny_callSpecial?_slot (name:=Str.ofString "__next__") hT F.slot_zip_next (Ak1 F.slot_zip_next hT F.entry_zip_next (wa0 W1 W2 D h1 h2 h3 (p1 i h4) (p2 i h5) hu hv fun h' a1 a2 a3 a4 a5 a6 kk=>Ac1 ?_) (F.args_zip_next_1 _))));refine⟨_,rfl,wpAny_letOwnedTupleGo_zip (s:={ s with heap:=h' }) a1 fun g2 zz sb=>?_⟩;have sb:Heap.SameBut z h' g2:=sb;have lt:∀{c:Addr} {o:Obj},s.heap.get? c=some o->c≠s.heap.objs.size:=fun e=>Ao0 (Heap.lt_size e)
  have k2:∀b o,b∉[z,TI,TO,i1,i2]->s.heap.get? b=some o->g2.get? b=some o:=fun b o hb q=>by
   exact sb.extBut b o (nm5 hb).1 (kk b o (nm5 hb).2 q)
  have kTI:g2.get? TI=_:=sb.extBut TI _ D.zTI.symm (kk TI _ (nm4 D.zTI.symm D.io D.I1 D.I2) h2);have tt:IsTup g2 s.heap.objs.size [u,v].toArray:=⟨_,sb.extBut _ _ (lt h1).symm a5,rfl,_,rfl⟩;refine⟨.ref s.heap.objs.size,_,I.turnedT (t':=s.toks) (p:=s.heap.objs.size) (vs:=[x,y]) hf k2 (Ae0 _) (.cons rx (.cons ry .nil)) (by show 2<=sizeLine;decide) tt,rfl,⟨_,x,y,I.hok.fresh (Ae0 _),rfl,rfl,fun xs' ys' hy'=>by
   obtain⟨e1,e2⟩:=inj xs' ys' hy';rw[e1,e2];exact⟨hx,hy⟩⟩,⟨zz,kTI,⟨_,_,sb.extBut _ _ D.zTO.symm a2⟩,(Z.keep (i+1) h' g2).1 ((pt (i+1) h').1 a3) fun o e=>sb.extBut _ o D.z1.symm e,(Z.keep (i+1) h' g2).2 ((pt (i+1) h').2 a4) fun o e=>sb.extBut _ o D.z2.symm e⟩,fun b hb=>?_⟩
  have nb:b≠s.heap.objs.size:=by
   have hb:=vm7 hb;rcases hb with r | r | r | r | r
   ·subst r;exact lt h1
   ·subst r;exact lt h2
   ·subst r;exact lt h3
   ·subst r;obtain⟨o,e,_⟩:=(Z.obj i s.heap).1 h4;exact lt e
   ·subst r;obtain⟨o,e,_⟩:=(Z.obj i s.heap).2 h5;exact lt e
  rw[zb2 nb];exact(hf b hb).1
 done:=by
  intro X hP hw hK hc i A3 s σ H E I hf st hg;subst hP hw;obtain⟨xs,ys,hq,hx⟩:=hg;obtain⟨h1,h2,⟨a,b,h3⟩,h4,h5⟩:=st;obtain⟨n1,n2⟩:=Z.there H xs ys hq;have no:∀c∈[z,TI,TO,i1,i2],l1≠c/\l2≠c:=fun c hb=>⟨fun e=>n1 (by rw[e];exact(hf c hb).1),fun e=>n2 (by rw[e];exact(hf c hb).1)⟩
  obtain⟨us,vs,ru,rv,inj,P1,P2,W1,W2,p1,p2,pt⟩:=Z.vals X hK A3 σ H s xs ys I hq (no i1 (by simp)).1.symm (no i2 (by simp)).2.symm;have nd:=nd5 nd;have D:ZAp z TI TO i1 i2 l1 l2:=⟨nd.1.1,nd.1.2.1,nd.1.2.2.1,nd.1.2.2.2,nd.2.1.1,nd.2.1.2.1,nd.2.1.2.2,nd.2.2.1.1,nd.2.2.1.2,nd.2.2.2,(no z (by simp)).1,(no TO (by simp)).1,(no i2 (by simp)).1,(no z (by simp)).2,(no TO (by simp)).2,(no i1 (by simp)).2⟩;have hT:s.TypeIs (.ref z) "zip":=⟨_,h1,rfl⟩;have en:us[i]?=none\/vs[i]?=none:=by
   rcases hx with hx | hx
   ·exact .inl (List.getElem?_eq_none (by rw[<-ru.length];exact hx))
   ·exact .inr (List.getElem?_eq_none (by rw[<-rv.length];exact hx))
  unfold pyNext;refine Aa1 (wpAny_attempt (wpAny_callSpecial?_slot (name:=Str.ofString "__next__") hT F.slot_zip_next (Ak1 F.slot_zip_next hT F.entry_zip_next (wa1 (I.ok.hd hc) W1 W2 D h1 h2 h3 (p1 i h4) (p2 i h5) en fun h' e kk he=>?_) (F.args_zip_next_1 _))));obtain⟨o,ho,hcls⟩:=he;refine Aa1 (wpAny_isInstance (T:="StopIteration") (b:=true) ⟨o,ho,hcls⟩ isSubtype_stop (Ac1 ⟨rfl,I.turnedF hf fun b o hb q=>kk b o (fun n=>hb (vj0 n)) q⟩))
 self:=fun _ _ _ _ _ st h=>wpAny_pyIter_zip st.1 h
noncomputable def vh3 (a b:Addr):Hp->List V->List V->Prop:=fun H xs ys=>H a=some (.tup xs)/\H b=some (.tup ys)
noncomputable def vh4 (a b:Addr):Hp->List V->List V->Prop:=fun H xs ys=>H a=some (.lst xs)/\H b=some (.lst ys)
theorem wt7 {P:Program} {w:World} {K:PySem.W.Frag} {l1 l2 i1 i2:Addr}:ZW P w K l1 l2 i1 i2 (vh3 l1 l2) (fun k h=>h.IsTupleIter i1 l1 k) (fun k h=>h.IsTupleIter i2 l2 k) where
 obj:=fun k h=>⟨fun ⟨o,ho,c,d⟩=>⟨o,ho,fun v z=>by rw[d] at z;cases z⟩,fun ⟨o,ho,c,d⟩=>⟨o,ho,fun v z=>by rw[d] at z;cases z⟩⟩
 keep:=fun k h h'=>⟨fun a q=>a.at q,fun a q=>a.at q⟩
 there:=fun H xs ys q=>⟨(fun z=>by rw[q.1] at z;cases z),(fun z=>by rw[q.2] at z;cases z)⟩
 vals:=fun X hK A3 σ H s xs ys I q n1 n2=>by
  obtain⟨us,ru,t1,_⟩:=I.tuple (SqT.of q.1);obtain⟨vs,rv,t2,_⟩:=I.tuple (SqT.of q.2);exact⟨us,vs,ru,rv,fun xs' ys' q'=>⟨I.tuple_inj (SqT.of q'.1) (SqT.of q.1),I.tuple_inj (SqT.of q'.2) (SqT.of q.2)⟩,_,_,Wlk.tup n1,Wlk.tup n2,fun k z=>⟨z,t1⟩,fun k z=>⟨z,t2⟩,fun k h=>⟨fun z=>z.1,fun z=>z.1⟩⟩
theorem wt8 {P:Program} {w:World} {K:PySem.W.Frag} {l1 l2 i1 i2:Addr}:ZW P w K l1 l2 i1 i2 (vh4 l1 l2) (fun k h=>h.IsListIter i1 l1 k) (fun k h=>h.IsListIter i2 l2 k) where
 obj:=fun k h=>⟨fun ⟨o,ho,c,d⟩=>⟨o,ho,fun v z=>by rw[d] at z;cases z⟩,fun ⟨o,ho,c,d⟩=>⟨o,ho,fun v z=>by rw[d] at z;cases z⟩⟩
 keep:=fun k h h'=>⟨fun a q=>a.at q,fun a q=>a.at q⟩
 there:=fun H xs ys q=>⟨(fun z=>by rw[q.1] at z;cases z),(fun z=>by rw[q.2] at z;cases z)⟩
 vals:=fun X hK A3 σ H s xs ys I q n1 n2=>by
  obtain⟨us,ru,t1,_⟩:=I.list (SqL.of q.1);obtain⟨vs,rv,t2,_⟩:=I.list (SqL.of q.2);exact⟨us,vs,ru,rv,fun xs' ys' q'=>⟨I.list_inj (SqL.of q'.1) (SqL.of q.1),I.list_inj (SqL.of q'.2) (SqL.of q.2)⟩,_,_,Wlk.lst n1,Wlk.lst n2,fun k z=>⟨z,t1.isList⟩,fun k z=>⟨z,t2.isList⟩,fun k h=>⟨fun z=>z.1,fun z=>z.1⟩⟩
section
variable {X:Cx} {elts:List Expr} {x1:Nat} {tpos:Pos}
theorem vi9 (n:Nat):[n+4,n+2,n+3,n,n+1].Nodup:=by
 simp only[Bt0,Ai0,Bd0,or_false,not_or,List.nodup_nil,and_true,not_false_eq_true];omega
theorem wi7 {b n:Nat} (h:b∈[n+4,n+2,n+3,n,n+1]):n<=b:=by
 simp only[Ai0,Bd0,or_false] at h;omega
noncomputable def vp9 (ta:TA):TI:=fun σ H R=>ta σ H fun vs H1=>∃a b xs ys,vs=[.ref a,.ref b]/\((vh3 a b H1 xs ys/\R (Izp (vh3 a b)) H1)\/(vh4 a b H1 xs ys/\R (Izp (vh4 a b)) H1))
theorem wx9 {e1 e2:Expr} {ta:TA} {p pos:Pos} (hg:Gl X "zip") (hm:X.mg "zip" = none) (ha:PA X [e1,e2] ta) (hs:starEach [e1,e2] X.env=(false,eval e1 X.env)::starEach [e2] X.env:=by rfl) (hs2:starEach [e2] X.env=[(false,eval e2 X.env)]:=by rfl):PI X (.Tuple elts x1 tpos) (.Call (.Name "zip" p) [e1,e2] [] pos) (vp9 ta):=by
 intro A3 s σ H R I h;refine Call_ (yk1 I hg hm boot_zip (PyProof.Rows.callWith_type1 (thn (ha pos A3 s σ H _ I h) fun us s1 hI103=>?_) hs (by rw[hs2];rfl)));obtain⟨vs,H1,I1,r1,q1⟩:=hI103;obtain⟨a,b,xs,ys,rfl,q⟩:=q1;cases r1 with
 | cons r rr=>
   cases rr with
   | cons r' rr=>
     cases rr;cases r;cases r';have nd:=vi9 s1.heap.objs.size;have fr:∀b∈[s1.heap.objs.size+4,s1.heap.objs.size+2,s1.heap.objs.size+3,s1.heap.objs.size,s1.heap.objs.size+1],xf1 X A3 H1 b:=fun b hb=>I1.fpOk (wi7 hb) (I1.hok.fresh (wi7 hb))
     rcases q with⟨hq,q⟩ | ⟨hq,q⟩
     ·obtain⟨us,ru,t1,_⟩:=I1.tuple (SqT.of hq.1)
      obtain⟨vs,rv,t2,_⟩:=I1.tuple (SqT.of hq.2);refine xy7 (show s1.heap.IsTuple a us.toArray from t1) (show s1.heap.IsTuple b vs.toArray from t2) ?_;obtain⟨z1,z2,z3,z4,z5,kk⟩:=xf5 "tuple_iterator" s1.heap a b;refine wpAny_pyIter_zip (s:={ s1 with heap:=zC "tuple_iterator" s1.heap a b }) z1 ?_;exact⟨_,_,_,_,H1,rfl,I1.kept (t':=s1.toks) kk,xg3 wt7 nd,⟨z1,z2,⟨_,_,z3⟩,⟨_,z4,rfl,rfl⟩,⟨_,z5,rfl,rfl⟩⟩,fr,q⟩
     ·obtain⟨us,ru,t1,_⟩:=I1.list (SqL.of hq.1)
      obtain⟨vs,rv,t2,_⟩:=I1.list (SqL.of hq.2);refine xy8 t1.isList t2.isList ?_;obtain⟨z1,z2,z3,z4,z5,kk⟩:=xf5 "list_iterator" s1.heap a b;refine wpAny_pyIter_zip (s:={ s1 with heap:=zC "list_iterator" s1.heap a b }) z1 ?_;exact⟨_,_,_,_,H1,rfl,I1.kept (t':=s1.toks) kk,xg3 wt8 nd,⟨z1,z2,⟨_,_,z3⟩,⟨_,z4,rfl,rfl⟩,⟨_,z5,rfl,rfl⟩⟩,fr,q⟩
variable {S:Type} {W:Wd S} {c:Dx W} {g:Gr}
noncomputable def tDB {S:Type} {W:Wd S} (c:Dx W) (f:FnA S):TA:=fun σ H Q=>∃ρ st,Rep c H σ ρ/\W.ok st H/\
 wpR (f ρ st) (fun l st'=>∀vs H',Ext W H H'->W.ok st' H'->IsL c.K (Av c σ ρ) H' l vs->Q vs H') fun x st'=>∀H',Ext W H H'->W.ok st' H'->c.Ex x st' H'
noncomputable def DB (X:Cx) {S:Type} {W:Wd S} (c:Dx W) (es:List Expr) (f:FnA S):Prop:=PA X es (tDB c f)
theorem ye3:DB X c [] (vf7 S):=zz0.imp fun σ H Q ⟨ρ,st,R,ok,w⟩=>w [] H Ext.refl ok (IsL.nil.mpr rfl)
theorem zg0 {e:Expr} {es:List Expr} {f:Fn S} {r:FnA S} (h:DE X c .B e f) (hr:DB X c es r) (hs:starEach (e::es) X.env=(false,eval e X.env)::starEach es X.env:=by rfl):DB X c (e::es) (zy5 S f r):=
 (zn7 h hr hs).imp fun σ H Q hI35=>by
  obtain⟨ρ,st,R,ok,w⟩:=hI35;refine⟨ρ,st,R,ok,za7 (za5.mp w) (fun d st1 q v H1 e ok1 z=>?_) fun x st1 q=>q⟩;refine⟨ρ,st1,R.ext ok e,ok1,za7 (za5.mp q) (fun l st2 q vs H2 e2 ok2 z2=>?_) fun x st2 q H2 e2 ok2=>q H2 (e.trans e2) ok2⟩;have z:Is c.K (Av c σ ρ) H1 d v:=z;exact q (v::vs) H2 (e.trans e2) ok2 (IsL.cons.mpr ⟨v,vs,rfl,z.ext e2 ok1 (fun b n=>n.1),z2⟩)
noncomputable def ye9 (l m:List D):List D:=List.zipWith (fun a b=>.tup [a,b]) l m
noncomputable def ve8:List D->Option (List D)
 | [.tup l,.tup m]=>some (ye9 l m)
 | [.lst l,.lst m]=>some (ye9 l m)
 | _=>none
theorem yw4 {l m:List D} {i:Nat} {d:D} (h:(ye9 l m)[i]?=some d):∃x y,l[i]?=some x/\m[i]?=some y/\d=.tup [x,y]:=by
 unfold ye9 at h;rw[List.getElem?_zipWith] at h;cases q:l[i]? with
 | none=>rw[q] at h;simp at h
 | some x=>
   cases q2:m[i]? with
   | none=>rw[q,q2] at h;simp at h
   | some y=>rw[q,q2] at h;cases h;exact⟨x,y,rfl,rfl,rfl⟩
theorem xm9 {l m:List D} {i:Nat} (h:(ye9 l m).length<=i):l.length<=i\/m.length<=i:=by
 unfold ye9 at h;rw[List.length_zipWith] at h;omega
theorem xf4 {σ:St} {ρ:Rho} {H1:Hp} {Sq:Hp->List V->List V->Prop} {l m:List D} {xs ys:List V} (hi:∀(c':Dx W) σ2 ρ2 H2,zj8 (Av c σ ρ) (Av c' σ2 ρ2) H1 H2->Sq H2 xs ys) (i1:IsL c.K (Av c σ ρ) H1 l xs) (i2:IsL c.K (Av c σ ρ) H1 m ys):xk8 c σ ρ H1 (Izp Sq) (ye9 l m):=by
 intro c' hK' σ2 ρ2 H2 st2 k R2 ok2 j;have s2:Sq H2 xs ys:=hi c' σ2 ρ2 H2 k;have j1:IsL c.K (Av c' σ2 ρ2) H2 l xs:=i1.mono k;have j2:IsL c.K (Av c' σ2 ρ2) H2 m ys:=i2.mono k;refine⟨fun d hd=>?_,fun hl=>⟨xs,ys,s2,by rw[<-j1.length,<-j2.length];exact xm9 hl⟩⟩;obtain⟨x,y,hx,hy,rfl⟩:=yw4 hd;obtain⟨v1,hv1,iv1⟩:=j1.get hx;obtain⟨v2,hv2,iv2⟩:=j2.get hy;refine⟨⟨xs,ys,v1,v2,s2,hv1,hv2⟩,?_⟩;rintro x' H3 ⟨pp,u1,u2,hpn,rfl,rfl,hx'⟩;obtain⟨e1,e2⟩:=hx' xs ys s2;rw[hv1] at e1;cases e1;rw[hv2] at e2;cases e2;have sm:yt9 H2 (upd H2 pp (.tup [v1,v2])):=fun b o hb=>by rw[zb2 (zb6 hb hpn)];exact hb
 have kk:zj8 (Av c' σ2 ρ2) (Av c' σ2 ρ2) H2 (upd H2 pp (.tup [v1,v2])):=zl3 (fun b o hb _=>sm b o hb) fun b o a hb=>⟨a,sm b o hb⟩
 exact⟨sm,Is.tup zb5 (IsL.cons.mpr ⟨_,_,rfl,iv1.mono kk,IsL.one (iv2.mono kk)⟩)⟩
set_option tactic.hygienic true in
theorem vc5 {e1 e2:Expr} {f:FnA S} {p pos:Pos} (hg:Gl X "zip") (hm:X.mg "zip" = none) (ha:DB X c [e1,e2] f) (hs:starEach [e1,e2] X.env=(false,eval e1 X.env)::starEach [e2] X.env:=by rfl) (hs2:starEach [e2] X.env=[(false,eval e2 X.env)]:=by rfl):DI X c (.Tuple elts x1 tpos) (.Call (.Name "zip" p) [e1,e2] [] pos) (xd7 S ve8 f):=
 (wx9 hg hm ha hs hs2).imp fun σ H R hI36=>by
  obtain⟨ρ,st,R0,ok,w⟩:=hI36;refine⟨ρ,st,R0,ok,za7 (za5.mp w) (fun l st1 q vs H1 e ok1 z=>?_) fun x st1 q=>q⟩;obtain⟨m,e1,q⟩:=zb7.mp q;unfold ve8 at e1;split at e1
  ·rename_i l m
   cases e1;obtain⟨v,r,e2,i2,i3⟩:=IsL.cons.mp z;obtain⟨v',r',e3,i3,i4⟩:=IsL.cons.mp i3;obtain⟨a,xs,ea,s0,i⟩:=Is.tup_iff.mp i2;obtain⟨b,ys,eb,t0,j⟩:=Is.tup_iff.mp i3;rw[e3,IsL.nil.mp i4,ea,eb] at e2;exact⟨a,b,xs,ys,e2,.inl ⟨⟨s0,t0⟩,q _ H1 e ok1 (xf4 (fun c' σ2 ρ2 H2 k=>⟨k.tup a xs s0,k.tup b ys t0⟩) i j)⟩⟩
  ·rename_i l m
   cases e1;obtain⟨v,r,e2,i2,i3⟩:=IsL.cons.mp z;obtain⟨v',r',e3,i3,i4⟩:=IsL.cons.mp i3;obtain⟨a,xs,ea,n0,s0,i⟩:=Is.lst_iff.mp i2;obtain⟨b,ys,eb,n1,t0,j⟩:=Is.lst_iff.mp i3;rw[e3,IsL.nil.mp i4,ea,eb] at e2;exact⟨a,b,xs,ys,e2,.inr ⟨⟨s0,t0⟩,q _ H1 e ok1 (xf4 (fun c' σ2 ρ2 H2 k=>⟨(k.nod a _ n0 s0).2,(k.nod b _ n1 t0).2⟩) i j)⟩⟩
  ·cases e1
end
end L2
namespace HT
open PySem PyProof.Rows
section
variable {prog:Program} {w:World} {A:Around} {E:Value->Shared->Prop} {s:Shared}
end
end HT
namespace L2
section
variable {X:Cx} {e st:Expr} {te ts:TE} {p2 pos:Pos}
end
section
variable {X:Cx} {S:Type} {W:Wd S} {c:Dx W} {g ga gb:Gr} {a b:Expr} {fa fb:Fn S} {pos p2:Pos}
noncomputable abbrev FnO (S:Type):=Rho->S->Res S (Option Int)
theorem PO.imp {X:Cx} {e:Option Expr} {t t':TO} (h:PO X e t) (i:∀σ H Q,t' σ H Q->t σ H Q):PO X e t':=fun A3 s σ H Q I q=>h A3 s σ H Q I (i σ H Q q)
noncomputable def pNo (S:Type):FnO S:=fun _ st=>.ok none st
noncomputable def D.int?:D->Option Int
 | .int i=>some i
 | _=>none
noncomputable def pSo (S:Type) (f:Fn S):FnO S:=fun ρ st=>(f ρ st).bind fun d st1=>(zj2 d.int? st1).bind fun i st2=>.ok (some i) st2
noncomputable def vo0 (xs:List D) (lo hi:Option Int):List D:=(xs.drop (HT.sIx xs.length 0 lo)).take (HT.sIx xs.length xs.length hi-HT.sIx xs.length 0 lo)
noncomputable def vm4 (lo hi:Option Int):D->Option D
 | .lst l=>if D.immL l=true then some (.lst (vo0 l lo hi)) else none
 | .tup l=>if D.immL l=true/\¬(HT.sIx l.length 0 lo=0/\HT.sIx l.length l.length hi=l.length) then some (.tup (vo0 l lo hi)) else none
 | _=>none
noncomputable def vn3 (S:Type) (f:Fn S) (lo hi:FnO S):Fn S:=fun ρ st=>(f ρ st).bind fun d st1=>(lo ρ st1).bind fun l st2=>(hi ρ st2).bind fun h st3=>zj2 (vm4 l h d) st3
noncomputable def zw6:List D->Option (List Int)
 | []=>some []
 | .int i::l=>(zw6 l).map fun r=>i::r
 | _=>none
theorem yy5 {K:PySem.W.Frag} {A:Addr->Prop} {H:Hp}:∀{l:List D} {vs:List V} {ns:List Int},zw6 l=some ns->IsL K A H l vs->vs=ns.map V.int
 | [],vs,ns,e,h=>by cases e;rw[IsL.nil.mp h];rfl
 | .int i::l,vs,ns,e,h=>by
   unfold zw6 at e;cases q:zw6 l with
   | none=>rw[q] at e;cases e
   | some r=>
     rw[q] at e;cases e;obtain⟨v,r',e1,i1,i2⟩:=IsL.cons.mp h;rw[e1,Is.int_iff.mp i1,yy5 q i2];rfl
 | .non::_,_,_,e,_=>by cases e
 | .bl _::_,_,_,e,_=>by cases e
 | .str _::_,_,_,e,_=>by cases e
 | .tup _::_,_,_,e,_=>by cases e
 | .lst _::_,_,_,e,_=>by cases e
 | .dct _ _::_,_,_,e,_=>by cases e
 | .fl _::_,_,_,e,_=>by cases e
noncomputable def vl9 (S:Type):FnS S:=fun _ _=>.bad
theorem vc1 {s:Stmt}:DS X c s (vl9 S):=fun A3 s σ H D I ⟨_,_,_,_,w⟩=>w.elim
end
section
variable {X:Cx} {S:Type} {W:Wd S} {c:Dx W} {g ga gb:Gr} {a b:Expr} {fa fb:Fn S} {pos p2:Pos}
noncomputable def vl7 (S:Type) (i j:Nat) (f:FnA S):FnS S:=fun ρ st=>(f ρ st).bind fun l st1=>match l with
 | [d,e]=>(zj2 (put ρ i d) st1).bind fun ρ1 st2=>(zj2 (put ρ1 j e) st2).bind fun ρ2 st3=>.ok (.nx ρ2) st3
 | _=>.bad
set_option tactic.hygienic true in
theorem zq6 {ρ ρ':Rho} {i:Nat} {d:D} (h:put ρ i d=some ρ'):i<ρ.length/\ρ'=ρ.set i (.bor d):=by
 unfold put at h;split at h
 ·rename_i hi;cases h;exact⟨hi,rfl⟩
 ·cases h
set_option tactic.hygienic true in
theorem xj7 {i j:Nat} {x y:Str} {f:FnA S} {px py pt:Pos} {kt k2 pt2} (hc:X.calm=true) (hN:X.N.Nodup) (hi:X.N[i]?=some x) (hj:X.N[j]?=some y) (hij:i≠j)
 (hx:X.env.scope.names.lookup x=some .local) (hy:X.env.scope.names.lookup y=some .local) (ha:DB X c [a,b] f)
 (hw:swappedStores [.Tuple [.Name x px,.Name y py] kt pt] (.Tuple [a,b] k2 pt2) X.env=pure (some [x,y]))
 (hs:swapsWithSole [.Tuple [.Name x px,.Name y py] kt pt] (.Tuple [a,b] k2 pt2) pos.line X.env=pure false:=by rfl) :
 DS X c (.Assign [.Tuple [.Name x px,.Name y py] kt pt] (.Tuple [a,b] k2 pt2) pos) (vl7 S i j f):=
 (wx6 hc hN hi hj hij hx hy ha hw hs).imp fun D σ H hI37=>by
  obtain⟨ρ,st,R,ok,w⟩:=hI37;refine⟨ρ,st,R,ok,za7 (za5.mp w) (fun l st1 q vs H1 e ok1 z=>?_) fun x st1 q H' e ok'=>q H' (e.f0 R) ok'⟩;split at q
  ·rename_i d e'
   obtain⟨v,r,e2,i2,i3⟩:=IsL.cons.mp z;obtain⟨v',r',e3,i3,i4⟩:=IsL.cons.mp i3;rw[e3,IsL.nil.mp i4] at e2;obtain⟨ρ1,e4,q⟩:=zb7.mp (za5.mp q);obtain⟨ρ2,e5,q⟩:=zb7.mp (za5.mp q);obtain⟨h4,rfl⟩:=zq6 e4;obtain⟨h5,rfl⟩:=zq6 e5;have R1:=(R.ext ok e).setB h4 i2;have k1:zj8 (Av c σ ρ) (Av c (σ.set i (some v)) (ρ.set i (.bor d))) H1 H1:=Frm.keepT (R.ext ok e) ok1 zh0;have R2:=R1.setB h5 (i3.mono k1);exact⟨v,v',e2,q _ _ ((Ext.frm e).trans (zh0.trans zh0)) ok1 R2⟩
  ·exact q.elim
end
section
variable {X:Cx} {S:Type} {W:Wd S} {c:Dx W} {g ga gb:Gr} {a b:Expr} {fa fb:Fn S} {pos p2:Pos}
noncomputable def zn9 (a b:D):Option D:=(zu7 (fun i j=>.int (i+j)) a b).or ((wd3 a b).or ((wq3 a b).or (xu6 a b)))
theorem xu0:OpR X (binaryOp .Add) (fun x y H Q=>rI0 (fun i j=>.int (i+j)) x y H Q\/(ve4 x y H Q\/(wb9 X.K x y H Q\/xg7 X.K x y H Q))):=yw8.or (wz1.or (wp3.or wc7))
theorem xu2 {K:PySem.W.Frag} (hK:c.K=K):OpD c (fun x y H Q=>rI0 (fun i j=>.int (i+j)) x y H Q\/(ve4 x y H Q\/(wb9 K x y H Q\/xg7 K x y H Q))) zn9:=yr9.or (wz5.or ((wp7 hK).or wc9))
noncomputable def D.seq?:D->Option (List D)
 | .tup l=>some l
 | .lst l=>some l
 | _=>none
theorem zm2 {tg e:Expr} {f:Fn S} (hK:c.K=X.K) (h:DE X c .B e f):DI X c tg e (xz7 S D.seq? f):=by
 intro A3 s σ H R I q;obtain⟨ρ,st,R0,ok,w⟩:=q;unfold xz7 at w;cases q:f ρ st with
 | bad=>rw[q] at w;exact w.elim
 | exc x st1=>
   refine wj6 (tg:=tg) hK h A3 s σ H R I ⟨ρ,st,R0,ok,?_⟩;unfold xz7;rw[q] at w ⊢;exact w
 | ok d st1=>
   rw[q] at w;cases d with
   | tup l=>
     refine wj6 (tg:=tg) hK h A3 s σ H R I ⟨ρ,st,R0,ok,?_⟩;unfold xz7;rw[q];exact w
   | lst l=>
     refine vc6 (tg:=tg) hK h A3 s σ H R I ⟨ρ,st,R0,ok,?_⟩;unfold xz7;rw[q];exact w
   | _=>exact w.elim
noncomputable def ww9 (S:Type) (i:Nat) (f:Fn S) (o:Int->Int->Int):FnS S:=fun ρ st=>match rd ρ i with
 | some (.int a)=>(f ρ st).bind fun d st1=>match d with
   | .int b=>(zj2 (put ρ i (.int (o a b))) st1).bind fun ρ1 st2=>.ok (.nx ρ1) st2
   | _=>.bad
 | _=>.bad
set_option tactic.hygienic true in
theorem vc2 {i:Nat} {x:Str} {e:Expr} {f:Fn S} {op:Operator} {o:Int->Int->Int} {p:Pos} (hN:X.N.Nodup) (hi:X.N[i]?=some x) (hx:Loc X.env.scope x) (ho:PIp X op (ipI o)) (he:DE X c .R e f) (hf:X.fn x=true\/X.env.scope.names.lookup x=some .local:=by first | exact .inl rfl | exact .inr rfl | assumption) :
 DS X c (.AugAssign (.Name x p) op e pos) (ww9 S i f o):=
 (wx8 hN hi hx he ho hf).imp fun D σ H hI38=>by
  obtain⟨ρ,st,R,ok,w⟩:=hI38;unfold ww9 at w;split at w
  ·rename_i a0 hr
   obtain⟨v,hv,iv⟩:=R.rd hr;refine⟨v,hv,ρ,st,R,ok,za7 (za5.mp w) (fun d st1 q v2 H1 e ok1 z=>?_) fun x st1 q H' e ok'=>q H' (e.f0 R) ok'⟩;split at q
   ·rename_i b0
    obtain⟨ρ1,e4,q⟩:=zb7.mp (za5.mp q);obtain⟨h4,rfl⟩:=zq6 e4;have R1:=R.ext ok e;have z':Is c.K (fun b=>¬W.mv b) H1 (.int b0) v2:=z.toR;exact⟨a0,b0,Is.int_iff.mp iv,Is.int_iff.mp z',q _ _ ((Ext.frm e).trans zh0) ok1 (R1.setB h4 (Is.int_iff.mpr rfl))⟩
   ·exact q.elim
  ·exact w.elim
noncomputable def vn7:List D->Res Unit D:=fun _=>.bad
theorem vb6 {P:Program} {w:World} {K:PySem.W.Frag} {mg:Str->Option Value} {base:Heap} {f:Addr} {fd:FuncData} {ps:List Str} {k:Nat}:zr3 P w K mg base CX0 k f fd ps (sp0 K vn7):=
 ⟨fun vs H Q E ⟨_,_,h⟩=>h.elim,fun A outer s H args us vs Q E _ _ _ _ ⟨_,_,h⟩=>h.elim⟩
theorem zj6 {id:String} {x:Str} {p pos:Pos} {e:Expr} {es:List Expr} {r:List V->Hp->VK->Prop} {o:List D->Option D} {f:FnA S} (ha:DA X c (e::es) f) (hc:ya9 X (.builtin id) r) (hr:yb0 c r o) (hg:Gl X x) (hm:X.mg x=none) (hv:bootBuiltins x=some (.builtin id)) (hn:x≠"__name__":=by decide) (hdb:(x == ("__debug__" : Str))=false:=by decide)
 (he:starEach (e::es) X.env=(false,eval e X.env)::starEach es X.env:=by rfl) (hpl:(backTo pos (starEach es X.env)).any (·.1)=false:=by rfl):DE X c g (.Call (.Name x p) (e::es) [] pos) (fA S o f):=
 xk0 (id:=id) (yh0 hc hg hm hv ha hn hdb he hpl) rfl hr
theorem ya1 {T:String} {x:Str} {p pos:Pos} {e:Expr} {es:List Expr} {r:List V->Hp->VK->Prop} {o:List D->Option D} {f:FnA S} (ha:DA X c (e::es) f) (hc:ya9 X (.type T) r) (hr:yb0 c r o) (hg:Gl X x) (hm:X.mg x=none) (hv:bootBuiltins x=some (.type T)) (hn:x≠"__name__":=by decide) (hdb:(x == ("__debug__" : Str))=false:=by decide)
 (he:starEach (e::es) X.env=(false,eval e X.env)::starEach es X.env:=by rfl) (hpl:(backTo pos (starEach es X.env)).any (·.1)=false:=by rfl):DE X c g (.Call (.Name x p) (e::es) [] pos) (fA S o f):=
 xk0 (id:=T) (yw3 hc hg hm hv ha hn hdb he hpl) rfl hr
end
end L2
namespace PySem
namespace F
theorem lk_list_keys:typeLookup (.type "list") "keys" = pure none:=by rw[typeLookup_type,builtinLookup_eq_fast];kernel_rfl
end F
section
variable {prog:Program} {w:World} {A:Around} {E:Value->Shared->Prop} {s:Shared} {a:Addr} {its:Array Value}
theorem xv5 {Q:Option Value->Shared->Prop} (hp:PlainL s.heap a its) (hA:A.handled=none) (h:∀h' tk,(∀b o,s.heap.get? b=some o->h'.get? b=some o)->Q none { s with heap:=h',toks:=tk }) :
 wpAny (model prog w) A (getAttr? (.ref a) "keys") Q E s:=by
 obtain⟨⟨c,dct,dat,sl⟩,k,hx,hc,hd,hdat⟩:=hp;simp only at hc hdat hd;subst hc hdat hd;obtain⟨hp,g,d,tk,os⟩:=s;have hT:∀tk',(⟨hp,g,d,tk',os⟩:Shared).TypeIs (.ref a) "list":=fun _=>⟨_,hx,rfl⟩
 have f1:=sub_AttributeError;have f3:=F.slot_list_getattribute.lookup;have f4:=F.slot_list_getattribute.bind (.ref a);have f5:=am_list_getattr_none;unfold getAttr? getAttrBy? getAttrBy;repeat (any_goals (first | assumption | exact hT _ | ((with_reducible show wpAny _ _ (call (Value.builtin "list.__getattribute__") _ _) _ _ _);refine call_meets F.slot_list_getattribute (hT _) am_entry_list_getattribute (F.args_list_getattribute_2 _ _) (meets_getattribute_miss_list a its k sl "keys" _ F.lk_list_keys (by decide +kernel) (by size_fits)) ⟨hx,hA,fun h' tk' e hx'=>?_⟩) | wp_step))
 obtain⟨t',u',he⟩:=hx'.there;show wpAny _ _ (getattributeRaised _ _ _ _ _ _ _) _ _ _;unfold getattributeRaised;repeat (any_goals (first | assumption | wp_step))
 exact h h' tk' hx'.keeps
end
end PySem
namespace PySem.F
theorem plain_upd_loop:plainId "dict.update.loop" = true:=by decide +kernel
theorem entry_upd_loop:entryFor table "dict.update.loop" = some Builtin.«dict.update.loop»:=entryFor_of_fast (by kernel_rfl)
end PySem.F
namespace L2
noncomputable def zu5 (H:Hp):List V->List (List Key×V)->Prop
 | [],ps=>ps=[]
 | v::vs,ps=>∃t b k x r,ps=(k,x)::r/\v=.ref t/\H t=some (.tup [.ref b,x])/\H b=some (.tup (k.map kV))/\zu5 H vs r
noncomputable def yj8 (kvs ps:List (List Key×V)):List (List Key×V):=ps.foldl (fun acc p=>zy7 acc p.1 p.2) kvs
theorem zu5.keep {H:Hp} {d:Addr} {o:HO} (hd:∀u,H d≠some (.tup u)):∀{vs:List V} {ps:List (List Key×V)},zu5 H vs ps->zu5 (upd H d o) vs ps
 | [],ps,h=>h
 | v::vs,ps,⟨t,b,k,x,r,e1,e2,h1,h2,h3⟩=>⟨t,b,k,x,r,e1,e2,by rw[zb2 (fun z=>hd _ (z▸h1))];exact h1,by rw[zb2 (fun z=>hd _ (z▸h2))];exact h2,zu5.keep hd h3⟩
section
variable {X:Cx} {A3:List (Addr×Obj)} {σ:St}
set_option tactic.hygienic true in
theorem xx9 (hc:X.calm=true) (hu:X.A.in1.units+1<cLine) {d a it:Addr} {vs:List V} {Q:VK}:∀(n i:Nat) (s:Shared) (H:Hp) (kvs ps:List (List Key×V)) (t:Tok),vs.length-i=n->i<=vs.length->Inv X A3 σ H s->xf1 X A3 H it->
 s.heap.IsListIter it a i->H a=some (.lst vs)->H d=some (.dT kvs)->zu5 H (vs.drop i) ps->kvs.length+ps.length<sizeLine->Q (.ref d) (upd H d (.dT (yj8 kvs ps)))->
 codeAny (model X.prog X.w) X.A.in1 (.builtin "dict.update.loop" ⟨[.ref d,.ref it,.int i t,.none],[]⟩) (wants (fun r s₂=>r=.none/\EP X A3 σ Q (.ref d) s₂) X.xe) s:=by
 intro n;induction n with
 | zero=>
   intro i s H kvs ps t hn hi I hfp hit ha hd hp hz q;have e:i=vs.length:=by omega
   subst e;rw[List.drop_length] at hp;have hp:ps=[]:=hp;subst hp;obtain⟨its,rv,pl,_⟩:=I.list (SqL.of ha);obtain⟨f0,f1,f2,f3,f4,f5⟩:=hfp;refine codeAny_builtin F.entry_upd_loop ?_;rw[Around.under_plainId F.plain_upd_loop _];show wpAny _ X.A.in1.in1 (pyNext (.ref it) >>= fun _=>_) _ _ s;have hl:=rv.length;refine Aa1 (wpAny_pyNext_list_end (I.ok.hd hc) hit pl.isList (by simp;omega) fun h' eb=>?_);have I1:Inv X A3 σ H { s with heap:=h' }:=I.turned (t':=s.toks) (fun b o hb e=>eb b o hb e) f0 f1 f3 f4 f5;show wpAny _ X.A.in1.in1 (Builtin.Dict.addKeywords d [] >>= fun _=>ret .none) _ _ _;refine Aa1 (Ac1 (Ac1 ?_));refine⟨rfl,.ref d,H,I1,rfl,?_⟩;have e2:upd H d (.dT (yj8 kvs []))=H:=by
    funext b;by_cases hb:b=d
    ·subst hb;rw[zb5,hd];rfl
    ·rw[zb2 hb]
   rw[e2] at q;exact q
 | succ n ih=>
   intro i s H kvs ps t hn hi I hfp hit ha hd hp hz q;have hi':i<vs.length:=by omega
   rw[List.drop_eq_getElem_cons hi'] at hp;obtain⟨tt,b,k,x,r,rfl,ev,ht,hb,hr⟩:=hp;obtain⟨its,rv,pl,_⟩:=I.list (SqL.of ha);obtain⟨u,hu',ru⟩:=rv.get (i:=i) (x:=vs[i]) (Ab0 hi');rw[ev] at ru;cases (show u=Value.ref tt from ru);obtain⟨f0,f1,f2,f3,f4,f5⟩:=id hfp;refine codeAny_builtin F.entry_upd_loop ?_;rw[Around.under_plainId F.plain_upd_loop _];show wpAny _ X.A.in1.in1 (pyNext (.ref it) >>= fun _=>_) _ _ s;refine Aa1 (wpAny_pyNext_list_item hit pl.isList (x:=.ref tt) (by simpa using hu') fun h' hit' sb=>?_);have I1:Inv X A3 σ H { s with heap:=h' }:=I.turned (t':=s.toks) (fun c o hb e=>(sb.2 c hb).trans e) f0 f1 f3 f4 f5;obtain⟨ps2,r2,p2,_⟩:=I1.tuple (SqT.of ht);obtain⟨o2,ho2,hc2,n2,hd2⟩:=id p2;obtain⟨u1,u2,rfl,rk,rx⟩:∃u1 u2,ps2=[u1,u2]/\zf3 (.ref b) u1/\zf3 x u2:=by
    cases r2 with
    | cons p q=>
      cases q with
      | cons p' q'=>cases q';exact⟨_,_,rfl,p,p'⟩
   cases (show u1=Value.ref b from rk);refine Aa1 (wpAny_holding (Aa1 (wpAny_tryCatch ?_)));unfold Builtin.Dict.pairItems;refine Aa1 (wpAny_typeOf (T:="tuple") ⟨o2,ho2,hc2⟩ ?_);rw[if_pos (by decide)];refine Aa1 (An1 ho2 hd2 (Ac1 ?_));obtain⟨z,hdm,xs,rel,dd⟩:=vc0 I1.hok hd;have hz1:xs.length<=sizeLine:=by rw[<-Paired.length rel];exact z
   have hlr:kvs.length+(r.length+1)<sizeLine:=by simpa using hz
   have hl:(zy7 kvs k x).length<=sizeLine:=by have:=zp7 kvs k x;omega
   show wpAny _ _ (holding [.ref b,u2] (dictSet d (.ref b) u2)) _ _ _;refine wpAny_holding (wpAny_dictSet_heap (hsz:=hz1) (tupleKind_room_in1 hu) (yo9 I1.hok hb) dd fun h2 dd' hs=>Ac1 ?_);have I2:Inv X A3 σ (upd H d (.dT (zy7 kvs k x))) { s with heap:=h2,toks:=s.toks+(tupleKind (zg3 X.prog X.w)).draws k }:=by
    obtain⟨q,es,ep,hq,h2',h3,h4,_,h5⟩:=dd';refine yt2 (s:={ s with heap:=h' }) (t':=s.toks+(tupleKind (zg3 X.prog X.w)).draws k) I1 (by rw[hd];exact True.intro) hs ⟨q,hq⟩ ⟨hl,hdm,_,(rel.put k hb rx).keeps fun c ys ec=>?_,q,es,ep,hq,h2',h3,h4,h5⟩;rw[zb2 (wd5 ec hd (fun z=>nomatch z))];exact ec
   have nit:it≠d:=fun e=>by rw[e,hd] at f0;cases f0
   have nda:a≠d:=wd5 ha hd (fun z=>nomatch z);have hs:Heap.SameBut d h' h2:=hs;refine⟨plainId_quiet F.plain_upd_loop _,ih (i+1) _ _ (zy7 kvs k x) r _ (by omega) (by omega) I2 ⟨by rw[zb2 nit];exact f0,f1,f2,f3,f4,f5⟩ (hit'.extBut hs.extBut nit) (by rw[zb2 nda];exact ha) zb5 (hr.keep fun u e=>by rw[hd] at e;cases e) ?_ ?_⟩
   ·have:=zp7 kvs k x;omega
   ·rw[upd_upd];exact q
theorem yl9 (hc:X.calm=true) (hu:X.A.in1.units+1<cLine):ya9 X (.type "dict") (fun xs H Q=>∃(a:Addr) (vs:List V) (ps:List (List Key×V)),xs=[.ref a]/\H a=some (.lst vs)/\zu5 H vs ps/\ps.length<sizeLine/\∀d,H d=none->Q (.ref d) (upd H d (.dT (yj8 [] ps)))):=by
 intro A3 s σ H xs us Q I r h;obtain⟨a,vs,ps,rfl,ha,hp,hz,q⟩:=h;obtain⟨u,rfl,r1⟩:=ym5 r;cases r1;have hhA:X.A.handled=none:=I.ok.hd hc;refine callType_codes (Q₁:=fun obj s₁=>obj=.ref s.heap.objs.size/\s₁={ s with heap:=s.heap.push { cls:=.type "dict",data:=.dict #[] } }) F.kt_called_dict (F.kt_typeCall_dict_1 _) F.entry_dict_init (kt_code_dict_new _ ⟨rfl,rfl⟩) ?_;rintro obj s₁ ⟨rfl,rfl⟩;have hn:=I.hok.fresh (Ae0 s.heap.objs.size);have I1:=I.laid (a:=s.heap.objs.size) (o:=.dT []) (h':=s.heap.push { cls:=.type "dict",data:=.dict #[] }) (t':=s.toks) (fun _ _ q=>Ad0 _ q) (Ae0 _) (xj6 s.heap I.big);have hT:({ s with heap:=s.heap.push { cls:=.type "dict",data:=.dict #[] } }:Shared).TypeIs (.ref s.heap.objs.size) "dict":=⟨_,Ak0 _ rfl,rfl⟩;refine⟨hT,F.args_dict_init_2 _ _,?_⟩;unfold Builtin.«dict.__init__»;refine Aa1 ?_;unfold Builtin.Dict.selfAndRest;refine Aa1 (wpAny_notOrdered_dict hT ?_);show wpAny _ _ (pure (s.heap.objs.size,[Value.ref a])) _ _ _;refine Ac1 ?_;show wpAny _ _ (Builtin.Dict.updateFrom "dict.__init__" s.heap.objs.size (.ref a) [] .none) _ _ _;unfold Builtin.Dict.updateFrom;have nda:a≠s.heap.objs.size:=zb6 ha hn;have ha1:upd H s.heap.objs.size (.dT []) a=some (.lst vs):=by rw[zb2 nda];exact ha
 obtain⟨its,rv,pl,_⟩:=I1.list (SqL.of ha1);refine Aa1 (wpAny_typeOf pl.isList.typeIs ?_);rw[if_pos (by decide)];refine Aa1 (xv5 pl hhA fun h2 tk2 k2=>?_);have I2:Inv X A3 σ (upd H s.heap.objs.size (.dT [])) { s with heap:=h2,toks:=tk2 }:=I1.kept (t':=tk2) k2;obtain⟨its2,rv2,pl2,_⟩:=I2.list (SqL.of ha1);rw[if_pos (by rfl)];refine Aa1 (Aj1 (Aa1 (wpAny_pyIter_list pl2.isList (Ac1 ?_))));have I3:Inv X A3 σ (upd H s.heap.objs.size (.dT [])) { s with heap:=h2.push { cls:=.type "list_iterator",data:=.fields #[.ref a,.int 0 0] },toks:=tk2 }:=I2.kept (t':=tk2) fun b o e=>Ad0 _ e
 have fp:xf1 X A3 (upd H s.heap.objs.size (.dT [])) h2.objs.size:=I2.fpOk (Ae0 _) (I2.hok.fresh (Ae0 _));refine⟨plainId_quiet F.plain_upd_loop _,xx9 hc hu (a:=a) (vs:=vs) vs.length 0 _ _ [] ps _ (by omega) (by omega) I3 fp ⟨_,Ak0 _ rfl,rfl,rfl⟩ ha1 zb5 ?_ (by simpa using hz) ?_⟩
 ·rw[List.drop_zero]
  exact hp.keep fun u e=>by rw[hn] at e;cases e
 ·rw[L2.upd_upd];exact q _ hn
end
theorem yf7:∀{us:List Value} {ns:List Int},IntsAre us ns->zg1 (ns.map V.int) us
 | _,_,.nil=>.nil
 | _,_,.cons n t h=>.cons ⟨t,rfl⟩ (yf7 h)
section
variable {X:Cx} {S:Type} {W:Wd S} {c:Dx W} {g ga gb gc:Gr} {a b:Expr} {fa fb fc:Fn S} {pos p2:Pos}
theorem yl8:ya9 X (.builtin "sorted") (fun xs H Q=>∃(a:Addr) (ns:List Int),xs=[.ref a]/\SqL X.K H a (ns.map V.int)/\ns.length<64/\∀p,H p=none->Q (.ref p) (upd H p (.lst ((sortI ns).map V.int)))):=by
 intro A3 s σ H xs us Q I r h;obtain⟨a,ns,rfl,hq,h64,q⟩:=h;obtain⟨u,rfl,r1⟩:=ym5 r;cases r1;obtain⟨its,rv,p,hz⟩:=I.list hq;have hl:=rv.length;rw[Aa0] at hl;refine sorted_ints p.isList (xo1 rv) (by omega) fun out ns' h1 h2 h3=>?_
 have e:=eq_sortI h2 h3;subst e;obtain⟨e,he⟩:=sortedAll_at s.heap its out;have hlen:(sortI ns).length=ns.length:=h2.length_eq;refine⟨.ref (s.heap.objs.size+1),_,I.laid (t':=s.toks) (a:=s.heap.objs.size+1) (o:=.lst ((sortI ns).map V.int)) (fun b o e=>sortedAll_old e) (Nat.le_succ _) ?_,rfl,q _ (I.hok.fresh (Nat.le_succ _))⟩;refine⟨by rw[Aa0,hlen];exact Nat.le_of_lt (yb4 (by omega)),out.toList,e,yf7 h1,he⟩
noncomputable def yi9:List D->Option D
 | [.lst l]=>(zw6 l).bind fun ns=>if ns.length<64 then some (.lst ((sortI ns).map D.int)) else none
 | _=>none
theorem xi5 {K:PySem.W.Frag} {A:Addr->Prop} {H:Hp}:∀ns:List Int,IsL K A H (ns.map D.int) (ns.map V.int)
 | []=>IsL.nil.mpr rfl
 | n::ns=>IsL.cons.mpr ⟨_,_,rfl,Is.int_iff.mpr rfl,xi5 ns⟩
theorem yy7:∀ns:List Int,D.immL (ns.map D.int)=true
 | []=>rfl
 | n::ns=>by simp[D.immL,D.imm,yy7 ns]
set_option tactic.hygienic true in
theorem xa0 {K:PySem.W.Frag} (hK:c.K=K):yb0 c (fun xs H Q=>∃(a:Addr) (ns:List Int),xs=[.ref a]/\SqL K H a (ns.map V.int)/\ns.length<64/\∀p,H p=none->Q (.ref p) (upd H p (.lst ((sortI ns).map V.int)))) yi9:=by
 subst hK;intro l vs H st d Q ok z e q;unfold yi9 at e;split at e
 ·rename_i m
  cases qq:zw6 m with
  | none=>rw[qq] at e;cases e
  | some ns=>
    rw[qq] at e;have e:(if ns.length<64 then some (D.lst ((sortI ns).map D.int)) else none)=some d:=e;split at e
    ·rename_i h64
     cases e;obtain⟨v,r,e1,i1,i2⟩:=IsL.cons.mp z;obtain⟨a,us,ea,_,s1,i3⟩:=Is.lst_iff.mp i1;rw[IsL.nil.mp i2,ea] at e1;rw[yy5 qq i3] at s1;exact⟨a,ns,e1,.of s1,h64,fun p hp=>q _ _ (Ext.laid hp) (zj4 ok hp) (New.lst ok hp (fun _ n=>n) (yy7 _) (xi5 _))⟩
    ·cases e
 ·cases e
noncomputable def zy9:List D->Option (List (List Key×D))
 | []=>some []
 | .tup [k,v]::l=>if v.imm=true then (ze3 k).bind fun kk=>(zy9 l).map fun r=>(kk,v)::r else none
 | _=>none
noncomputable def zm0 (ps:List (List Key×D)) (acc:List D×List D):List D×List D:=ps.foldl (fun acc p=>ya2 p.1 p.2 acc.1 acc.2) acc
noncomputable def wq2:List D->Option D
 | [.lst l]=>if l.length<sizeLine then (zy9 l).map fun ps=>.dct (.non::(zm0 ps ([],[])).1) (zm0 ps ([],[])).2 else none
 | _=>none
set_option tactic.hygienic true in
theorem yw5 {K:PySem.W.Frag} {A:Addr->Prop} {H:Hp}:∀{l:List D} {vs:List V} {ps:List (List Key×D)},zy9 l=some ps->IsL K A H l vs->
 ∃qs:List (List Key×V),zu5 H vs qs/\qs.map (·.1)=ps.map (·.1)/\IsL K A H (ps.map (·.2)) (qs.map (·.2))/\D.immL (ps.map (·.2))=true/\qs.length=l.length
 | [],vs,ps,e,h=>by
   cases e;rw[IsL.nil.mp h];exact⟨[],rfl,rfl,IsL.nil.mpr rfl,rfl,rfl⟩
 | d::l,vs,ps,e,h=>by
   unfold zy9 at e;split at e
   ·rename_i heq
    cases heq
   ·rename_i k v l' heq
    cases heq;split at e
    ·rename_i hv
     cases q1:ze3 k with
     | none=>rw[q1] at e;cases e
     | some kk=>
       cases q2:zy9 l with
       | none=>rw[q1,q2] at e;cases e
       | some r=>
         rw[q1,q2] at e;cases e;obtain⟨w,rr,e1,i1,i2⟩:=IsL.cons.mp h;obtain⟨t,us,et,ht,i3⟩:=Is.tup_iff.mp i1;obtain⟨w1,r1,e2,j1,j2⟩:=IsL.cons.mp i3;obtain⟨w2,r2,e3,j3,j4⟩:=IsL.cons.mp j2;obtain⟨b,eb,hb,_⟩:=yk2 q1 j1;obtain⟨qs,g1,g2,g3,g4,g5⟩:=yw5 q2 i2;refine⟨(kk,w2)::qs,?_,by simp[g2],IsL.cons.mpr ⟨_,_,rfl,j3,g3⟩,by simp[D.immL,hv,g4],by simp[g5]⟩;rw[e1];refine⟨t,b,kk,w2,qs,rfl,et,?_,hb,g1⟩;rw[ht,e2,e3,eb,IsL.nil.mp j4]
    ·cases e
   ·cases e
theorem yv7 {K:PySem.W.Frag} {A:Addr->Prop} {H:Hp}:∀{ps:List (List Key×D)} {qs:List (List Key×V)},qs.map (·.1)=ps.map (·.1)->IsL K A H (ps.map (·.2)) (qs.map (·.2))->D.immL (ps.map (·.2))=true->
 ∀{kk:List (List Key)} {vs:List D} {us:List V},kk.length=us.length->IsL K A H vs us->D.immL vs=true->
 ∃(kk':List (List Key)) (us':List V),(zm0 ps (kk.map zg2,vs)).1=kk'.map zg2/\IsL K A H (zm0 ps (kk.map zg2,vs)).2 us'/\kk'.length=us'.length/\yj8 (kk.zip us) qs=kk'.zip us'/\D.immL (zm0 ps (kk.map zg2,vs)).2=true
 | [],qs,e,h,m,kk,vs,us,hl,hv,mv=>by
   have:qs=[]:=by simpa using e
   subst this;exact⟨kk,us,rfl,hv,hl,rfl,mv⟩
 | (k,d)::ps,qs,e,h,m,kk,vs,us,hl,hv,mv=>by
   cases qs with
   | nil=>cases e
   | cons q qs=>
     obtain⟨k',v⟩:=q;obtain⟨w,r,e1,i1,i2⟩:=IsL.cons.mp h;have e1:v::qs.map (·.2)=w::r:=e1;cases e1;have ek:k'=k/\qs.map (·.1)=ps.map (·.1):=by simpa using e
     obtain⟨rfl,ek⟩:=ek;have m':d.imm=true/\D.immL (ps.map (·.2))=true:=by simpa [D.immL] using m
     obtain⟨kk1,us1,g1,g2,g3,g4⟩:=xy5 (k:=k') i1 hl hv;have g5:=yk8 (k:=k') (ks:=kk.map zg2) m'.1 mv;obtain⟨kk2,us2,f1,f2,f3,f4,f5⟩:=yv7 ek i2 m'.2 (kk:=kk1) (vs:=(ya2 k' d (kk.map zg2) vs).2) g3 g2 g5;have eq:zm0 ((k',d)::ps) (kk.map zg2,vs)=zm0 ps (kk1.map zg2,(ya2 k' d (kk.map zg2) vs).2):=by
      show zm0 ps (ya2 k' d (kk.map zg2) vs)=_;rw[<-g1]
     rw[eq];refine⟨kk2,us2,f1,f2,f3,?_,f5⟩;show yj8 (zy7 (kk.zip us) k' v) qs=_;rw[g4];exact f4
set_option tactic.hygienic true in
theorem ws8:yb0 c (fun xs H Q=>∃(a:Addr) (vs:List V) (ps:List (List Key×V)),xs=[.ref a]/\H a=some (.lst vs)/\zu5 H vs ps/\ps.length<sizeLine/\∀d,H d=none->Q (.ref d) (upd H d (.dT (yj8 [] ps)))) wq2:=by
 intro l vs H st d Q ok z e q;unfold wq2 at e;split at e
 ·rename_i m
  split at e
  ·rename_i hz
   cases q1:zy9 m with
   | none=>rw[q1] at e;cases e
   | some ps=>
     rw[q1] at e;cases e;obtain⟨v,r,e1,i1,i2⟩:=IsL.cons.mp z;obtain⟨a,us,ea,_,s1,i3⟩:=Is.lst_iff.mp i1;rw[IsL.nil.mp i2,ea] at e1;obtain⟨qs,g1,g2,g3,g4,g5⟩:=yw5 q1 i3;refine⟨a,us,qs,e1,s1,g1,by rw[g5];exact hz,fun p hp=>?_⟩;obtain⟨kk,us',f1,f2,f3,f4,f5⟩:=yv7 g2 g3 g4 (kk:=[]) (vs:=[]) (us:=[]) rfl (IsL.nil.mpr rfl) rfl;have f1:(zm0 ps ([],[])).1=kk.map zg2:=f1;have f2:IsL c.K (fun b=>¬W.mv b) H (zm0 ps ([],[])).2 us':=f2;have f4:yj8 [] qs=kk.zip us':=f4;refine q _ _ (Ext.laid hp) (zj4 ok hp) (Is.dct_iff.mpr ⟨p,us',rfl,⟨zr9 ok hp,hp⟩,IsL.ofImm f5 (f2.ext (Ext.laid hp) ok fun _ n=>n),.inr ⟨kk,by rw[f1],f3,?_⟩⟩);rw[zb5,f4]
  ·cases e
 ·cases e
noncomputable def vg7 (i j k:Nat) (ta:TA):TS:=fun D σ H=>ta σ H fun vs H1=>∃u v w,vs=[u,v,w]/\D.nx (((σ.set i (some u)).set j (some v)).set k (some w)) H1
theorem wo0 {i j k:Nat} {x y z:Str} {d:Expr} {ta:TA} {px py pz pt:Pos} {kt k2 pt2} (hc:X.calm=true) (hN:X.N.Nodup) (hi:X.N[i]?=some x) (hj:X.N[j]?=some y) (hk:X.N[k]?=some z) (hij:i≠j) (hik:i≠k) (hjk:j≠k)
 (hx:X.env.scope.names.lookup x=some .local) (hy:X.env.scope.names.lookup y=some .local) (hz:X.env.scope.names.lookup z=some .local) (ha:PA X [a,b,d] ta)
 (hw:swappedStores [.Tuple [.Name x px,.Name y py,.Name z pz] kt pt] (.Tuple [a,b,d] k2 pt2) X.env=pure (some [x,y,z]))
 (hs:swapsWithSole [.Tuple [.Name x px,.Name y py,.Name z pz] kt pt] (.Tuple [a,b,d] k2 pt2) pos.line X.env=pure false:=by rfl) :
 PS X (.Assign [.Tuple [.Name x px,.Name y py,.Name z pz] kt pt] (.Tuple [a,b,d] k2 pt2) pos) (vg7 i j k ta):=by
 intro A3 s σ H D I h;rw[exec_Assign_arm];refine Aa1 (wpAny_standAt ?_);rw[hs];refine Aa1 (Ac1 ?_);rw[if_neg (by decide)];refine Aa1 (Tuple_ (thn (ha _ A3 s σ H _ I h) fun us s1 hI104=>?_));obtain⟨vs,H1,I1,r1,q1⟩:=hI104;obtain⟨u,v,w,e1,q1⟩:=q1;subst e1;obtain⟨u1,u2,u3,rfl,ru,rv,rw'⟩:∃u1 u2 u3,us=[u1,u2,u3]/\zf3 u u1/\zf3 v u2/\zf3 w u3:=by
  cases r1 with
  | cons p q=>
    cases q with
    | cons p' q'=>
      cases q' with
      | cons p'' q''=>cases q'';exact⟨_,_,_,rfl,p,p',p''⟩
 refine wpAny_newObj_type ?_ (by show 3<=sizeLine;decide);have I2:Inv X A3 σ H1 { s1 with heap:=s1.heap.push { cls:=.type "tuple",data:=.seq [u1,u2,u3].toArray } }:=I1.kept (t':=s1.toks) fun b o e=>Ad0 _ e
 rw[hw];refine Aa1 (Ac1 ?_);show wpAny (model X.prog X.w) X.A (do rule "assign.swapped-stores";let items <-unpackItems (.ref s1.heap.objs.size) 3 none;assignInOrder [fun v=>bindName X.env z v,fun v=>bindName X.env y v,fun v=>bindName X.env x v] items.reverse;pure Flow.next) _ _ _;refine Aa1 (Aj1 (Aa1 (unpackItems_tuple (items:=#[u1,u2,u3]) (I.ok.hd hc) (IsTup.new s1.heap _) fun h' hx'=>?_)));have I3:=I2.kept (h':=h') (t':=s1.toks) fun b o e=>hx' b o (Ao0 (Heap.lt_size e)) e
 show wpAny _ _ (assignInOrder [fun v=>bindName X.env z v,fun v=>bindName X.env y v,fun v=>bindName X.env x v] [u3,u2,u1] >>= fun _=>pure Flow.next) _ _ _;refine Aa1 (assignInOrder_cons (wpAny_bindName (zq5 I3 hN hk (.inl hz) rw' (fun s2 I4=>?_) (.inr hz))));refine assignInOrder_cons (wpAny_bindName (zq5 I4 hN hj (.inl hy) rv (fun s3 I5=>?_) (.inr hy)));refine assignInOrder_cons (wpAny_bindName (zq5 I5 hN hi (.inl hx) ru (fun s4 I6=>assignInOrder_nil (Ac1 ?_)) (.inr hx)));refine⟨_,H1,?_,q1⟩;have e:((σ.set k (some w)).set j (some v)).set i (some u)=((σ.set i (some u)).set j (some v)).set k (some w):=by
  have e1:(σ.set k (some w)).set j (some v)=(σ.set j (some v)).set k (some w):=List.set_comm _ _ (Ne.symm hjk);have e2:∀τ:St,(τ.set k (some w)).set i (some u)=(τ.set i (some u)).set k (some w):=fun τ=>List.set_comm _ _ (Ne.symm hik)
  have e3:(σ.set j (some v)).set i (some u)=(σ.set i (some u)).set j (some v):=List.set_comm _ _ (Ne.symm hij);rw[e1,e2,e3]
 rw[e] at I6;exact I6
noncomputable def ww5 (S:Type) (i j k:Nat) (f:FnA S):FnS S:=fun ρ st=>(f ρ st).bind fun l st1=>match l with
 | [d,e,h]=>(zj2 (put ρ i d) st1).bind fun ρ1 st2=>(zj2 (put ρ1 j e) st2).bind fun ρ2 st3=>(zj2 (put ρ2 k h) st3).bind fun ρ3 st4=>.ok (.nx ρ3) st4
 | _=>.bad
set_option tactic.hygienic true in
theorem xe1 {i j k:Nat} {x y z:Str} {d:Expr} {f:FnA S} {px py pz pt:Pos} {kt k2 pt2} (hc:X.calm=true) (hN:X.N.Nodup) (hi:X.N[i]?=some x) (hj:X.N[j]?=some y) (hk:X.N[k]?=some z) (hij:i≠j) (hik:i≠k) (hjk:j≠k)
 (hx:X.env.scope.names.lookup x=some .local) (hy:X.env.scope.names.lookup y=some .local) (hz:X.env.scope.names.lookup z=some .local) (ha:DB X c [a,b,d] f)
 (hw:swappedStores [.Tuple [.Name x px,.Name y py,.Name z pz] kt pt] (.Tuple [a,b,d] k2 pt2) X.env=pure (some [x,y,z]))
 (hs:swapsWithSole [.Tuple [.Name x px,.Name y py,.Name z pz] kt pt] (.Tuple [a,b,d] k2 pt2) pos.line X.env=pure false:=by rfl) :
 DS X c (.Assign [.Tuple [.Name x px,.Name y py,.Name z pz] kt pt] (.Tuple [a,b,d] k2 pt2) pos) (ww5 S i j k f):=
 (wo0 hc hN hi hj hk hij hik hjk hx hy hz ha hw hs).imp fun D σ H hI39=>by
  obtain⟨ρ,st,R,ok,w⟩:=hI39;refine⟨ρ,st,R,ok,za7 (za5.mp w) (fun l st1 q vs H1 e ok1 zz=>?_) fun x st1 q H' e ok'=>q H' (e.f0 R) ok'⟩;split at q
  ·rename_i d1 d2 d3
   obtain⟨v,r,e2,i2,i3⟩:=IsL.cons.mp zz;obtain⟨v',r',e3,i3,i4⟩:=IsL.cons.mp i3;obtain⟨v'',r'',e4,i4,i5⟩:=IsL.cons.mp i4;rw[e3,e4,IsL.nil.mp i5] at e2;obtain⟨ρ1,p1,q⟩:=zb7.mp (za5.mp q);obtain⟨ρ2,p2,q⟩:=zb7.mp (za5.mp q);obtain⟨ρ3,p3,q⟩:=zb7.mp (za5.mp q);obtain⟨h1,rfl⟩:=zq6 p1;obtain⟨h2,rfl⟩:=zq6 p2;obtain⟨h3,rfl⟩:=zq6 p3;have R1:=(R.ext ok e).setB h1 i2;have k1:zj8 (Av c σ ρ) (Av c (σ.set i (some v)) (ρ.set i (.bor d1))) H1 H1:=Frm.keepT (R.ext ok e) ok1 zh0;have R2:=R1.setB h2 (i3.mono k1);have k2:zj8 (Av c (σ.set i (some v)) (ρ.set i (.bor d1))) (Av c ((σ.set i (some v)).set j (some v')) ((ρ.set i (.bor d1)).set j (.bor d2))) H1 H1:=Frm.keepT R1 ok1 zh0;have R3:=R2.setB h3 ((i4.mono k1).mono k2);exact⟨v,v',v'',e2,q _ _ ((Ext.frm e).trans (zh0.trans (zh0.trans zh0))) ok1 R3⟩
  ·exact q.elim
noncomputable def wm1 {S:Type} {W:Wd S} (c:Dx W):List Str->List (Fn S)->List (TE×TE)
 | k::ks,f::fs=>(tC (.str k),tD c .R f)::wm1 c ks fs
 | _,_=>[]
noncomputable def wh0 (S:Type):List (Fn S)->FnA S
 | []=>vf7 S
 | f::fs=>zy5 S f (wh0 S fs)
theorem yu7:∀(ks:List Str) (fs:List (Fn S)) {σ:St} {H:Hp} {ρ:Rho} {st:S} {Q:List (V×V)->Hp->Prop},ks.length=fs.length->Rep c H σ ρ->W.ok st H->
 wpR (wh0 S fs ρ st) (fun l st'=>∀vs H',Ext W H H'->W.ok st' H'->IsL c.K (fun b=>¬W.mv b) H' l vs->Q ((ks.zip vs).map fun kv=>(V.str kv.1,kv.2)) H') (fun x st'=>∀H',Ext W H H'->W.ok st' H'->c.Ex x st' H')->yu8 (wm1 c ks fs) σ H Q
 | [],[],σ,H,ρ,st,Q,_,R,ok,w=>w [] H Ext.refl ok (IsL.nil.mpr rfl)
 | k::ks,f::fs,σ,H,ρ,st,Q,hl,R,ok,w=>by
   refine⟨ρ,st,R,ok,za7 (za5.mp w) (fun d st1 q v H1 e ok1 z=>?_) fun x st1 q=>q⟩;refine yu7 ks fs (by simpa using hl) (R.ext ok e) ok1 (za7 (za5.mp q) (fun l st2 q vs H2 e2 ok2 z2=>?_) fun x st2 q H2 e2 ok2=>q H2 (e.trans e2) ok2);exact q (v::vs) H2 (e.trans e2) ok2 (IsL.cons.mpr ⟨v,vs,rfl,z.toR.ext e2 ok1,z2⟩)
 | [],_::_,_,_,_,_,_,hl,_,_,_=>by cases hl
 | _::_,[],_,_,_,_,_,hl,_,_,_=>by cases hl
noncomputable def xm6 (x:Str):List Str->List D->Option D
 | k::ks,v::vs=>if k=x then some v else xm6 x ks vs
 | _,_=>none
theorem zw4:∀(kvs acc:List (Key×V)),(acc.map (·.1)++kvs.map (·.1)).Nodup->zz3 acc kvs=acc++kvs
 | [],acc,_=>by show acc=acc++[];simp
 | (k,v)::kvs,acc,h=>by
   have hk:∀p∈acc,p.1≠k:=fun p hp e=>by
    have:=(List.nodup_append.mp h).2.2 p.1 (List.mem_map_of_mem hp) k (by simp);exact this e
   have e:zy7 acc k v=acc++[(k,v)]:=by
    unfold zy7;rw[if_neg];intro z;obtain⟨p,hp,hq⟩:=List.any_eq_true.mp z;exact hk p hp (by simpa using hq)
   show zz3 (zy7 acc k v) kvs=_;rw[e,zw4 kvs (acc++[(k,v)]) (by simpa using h)];simp
noncomputable def DKV (X:Cx) {S:Type} {W:Wd S} (c:Dx W) (pos:Pos) (keys:List (Option Expr)) (values:List Expr) (ks:List Str) (fs:List (Fn S)):Prop:=PPs X pos keys values (wm1 c ks fs)/\ks.length=fs.length
theorem ws3:DKV X c pos [] [] [] ([]:List (Fn S)):=⟨xc3,rfl⟩
theorem yh3 {k:Str} {j} {p:Pos} {v:Expr} {f:Fn S} {keys:List (Option Expr)} {values:List Expr} {ks:List Str} {fs:List (Fn S)} (hv:DE X c .R v f) (h:DKV X c pos keys values ks fs):DKV X c pos (some (.Constant (.str k) j p)::keys) (v::values) (k::ks) (f::fs):=
 ⟨yc1 yc3 hv h.1,by simp[h.2]⟩
noncomputable def vb8 (S:Type) (ks:List Str) (fs:List (Fn S)) (fk:Fn S):Fn S:=fun ρ st=>(wh0 S fs ρ st).bind fun l st1=>(fk ρ st1).bind fun d st2=>match d with
 | .str x=>if D.immL l=true then zj2 (xm6 x ks l) st2 else .bad
 | _=>.bad
theorem xg9 {K:PySem.W.Frag} {A:Addr->Prop} {H:Hp} {x:Str}:∀{ks:List Str} {l:List D} {vs:List V} {d:D},xm6 x ks l=some d->IsL K A H l vs->D.immL l=true->∃v,ym4 ((ks.zip vs).map fun kv=>((Sum.inr kv.1:Key),kv.2)) (Sum.inr x:Key)=some v/\Is K A H d v/\d.imm=true
 | [],l,vs,d,e,_,_=>by cases l<;>cases e
 | k::ks,[],vs,d,e,_,_=>by cases e
 | k::ks,y::l,vs,d,e,h,m=>by
   obtain⟨v,r,e1,i1,i2⟩:=IsL.cons.mp h;subst e1;have m':y.imm=true/\D.immL l=true:=by simpa [D.immL] using m
   unfold xm6 at e;by_cases hk:k=x
   ·rw[if_pos hk] at e;cases e
    subst hk;exact⟨v,zq3 rfl,i1,m'.1⟩
   ·rw[if_neg hk] at e
    obtain⟨v',g1,g2,g3⟩:=xg9 e i2 m'.2;refine⟨v',?_,g2,g3⟩;show ym4 (((Sum.inr k:Key),v)::(ks.zip r).map fun kv=>((Sum.inr kv.1:Key),kv.2)) (Sum.inr x:Key)=_;rw[zq4 (fun z=>hk (Sum.inr.inj z))];exact g1
theorem yu0:∀{ks:List Str} {vs:List V},ks.Nodup->((ks.zip vs).map ((fun x=>x.1) ∘ fun kv=>((Sum.inr kv.1:Key),kv.2))).Nodup
 | [],_,_=>by simp
 | k::ks,[],_=>by simp
 | k::ks,v::vs,h=>by
   obtain⟨h1,h2⟩:=Bt0.mp h;show ((Sum.inr k:Key)::(ks.zip vs).map ((fun x=>x.1) ∘ fun kv=>((Sum.inr kv.1:Key),kv.2))).Nodup;refine Bt0.mpr ⟨fun hm=>?_,yu0 h2⟩;obtain⟨⟨a,b⟩,hab,e⟩:=Bf0.mp hm;have e:a=k:=Sum.inr.inj e;subst e;exact h1 (List.of_mem_zip hab).1
set_option tactic.hygienic true in
theorem ws6 {keys:List (Option Expr)} {values:List Expr} {ks:List Str} {fs:List (Fn S)} {dpos:Pos} {k:Expr} {fk:Fn S} (hu:X.A.units+1<cLine) (h:DKV X c dpos keys values ks fs) (hall:keys.all (·.isSome)=true) (hl:keys.length=values.length) (h0:keys≠[]) (h15:keys.length<=15) (hks:ks.length<=15) (hnd:ks.Nodup)
 (hk:DE X c ga k fk) (hs:vf8 k):DE X c g (.Subscript (.Dict keys values dpos) k pos) (vb8 S ks fs fk):=
 (ye8 hu (xc5 h.1 hall hl h0 h15) hk hs).imp fun σ H Q hI40=>by
  obtain⟨ρ,st,R,ok,w⟩:=hI40;intro p hp;have np:¬W.mv p:=zr9 ok hp;refine yu7 ks fs h.2 (R.ext ok (Ext.laid hp)) (zj4 ok hp) (za7 (za5.mp w) (fun l st1 q vs H2 e2 ok2 z2=>?_) fun x st1 q H2 e2 ok2=>q H2 ((Ext.laid hp).trans e2) ok2);have hp2:H2 p=some (.dK []):=e2 p _ zb5 np;refine⟨hp2,(ks.zip vs).map fun kv=>((Sum.inr kv.1:Key),kv.2),by rw[Bj0];rfl,by rw[Aa0,List.length_zip];omega,?_⟩;have mk:zz3 [] ((ks.zip vs).map fun kv=>((Sum.inr kv.1:Key),kv.2))=(ks.zip vs).map fun kv=>((Sum.inr kv.1:Key),kv.2):=by
   rw[zw4 _ []]
   ·rfl
   ·show (((ks.zip vs).map fun kv=>((Sum.inr kv.1:Key),kv.2)).map (·.1)).Nodup
    rw[Bj0];exact yu0 hnd
  rw[mk];have ex:Ext W H (upd H2 p (.dK ((ks.zip vs).map fun kv=>((Sum.inr kv.1:Key),kv.2)))):=fun b o hb nm=>by
   have b1:b≠p:=zb6 hb hp;rw[zb2 b1];exact e2 b o (by rw[zb2 b1];exact hb) nm
  have ok3:=yw9 (o:=.dK ((ks.zip vs).map fun kv=>((Sum.inr kv.1:Key),kv.2))) ok2 np;have R3:=R.ext ok ex;refine⟨ρ,st1,R3,ok3,za7 (za5.mp q) (fun d st2 q v H4 e4 ok4 z4=>?_) fun x st2 q H4 e4 ok4=>q H4 (ex.trans e4) ok4⟩;split at q
  ·rename_i x
   split at q
   ·rename_i im
    obtain⟨dd,e5,q⟩:=zb7.mp q;have k1:zj8 (fun _=>False) (fun b=>¬W.mv b/\H b=Option.none) H2 H4:=⟨fun b u e sy=>by
     have b1:b≠p:=fun z=>by
      subst z;rw[hp2] at e;cases e;rcases sy with⟨_,y⟩ | ⟨_,_,y⟩<;>cases y
     refine e4 b _ (by rw[zb2 b1];exact e) fun m=>?_
     obtain⟨o',h',n1,n2⟩:=W.live st1 H2 b ok2 m;rw[e] at h';cases h';rcases sy with⟨y,z⟩ | ⟨y1,y2,z⟩
     ·exact n1 y z
     ·exact n2 y1 y2 z,fun b o f=>f.elim⟩
    have z3:IsL c.K (fun _=>False) H2 l vs:=IsL.ofImm im z2;obtain⟨v',g1,g2,g3⟩:=xg9 e5 (z3.mono k1) im;have zx:Is c.K (fun b=>¬W.mv b) H4 (.str x) v:=z4.toR;refine⟨p,v',rfl,?_,q v' H4 (ex.trans e4) ok4 ((New.val (R3.ext ok3 e4) (show New c H4 H4 dd v' from Is.ofImm g3 g2) g).back (ex.trans e4) ok4)⟩;rw[Is.str_iff.mp zx,<-g1];exact yn2.k (k:=(Sum.inr x:Key)) (e4 p _ zb5 np)
   ·exact q.elim
  ·exact q.elim
theorem vb3 {A:Around} {k:Nat} (hr:zm7 k A):A.in1.units+1<cLine:=by
 have:=hr.units;show A.units+1+1<cLine;omega
end
noncomputable abbrev Dr:=List Int×Int
noncomputable def stD (l:Addr) (t:Int):List (Key×V):=[(Sum.inr "cells",.ref l),(Sum.inr "turn",.int t)]
noncomputable def WdS (p l:Addr):Wd Dr where
 ok:=fun st H=>H p=some (.dK (stD l st.2))/\H l=some (.lst (st.1.map V.int))/\st.1≠[]/\st.1.length<=63/\0<=st.2
 mv:=fun b=>b=p\/b=l
 h:=.ref p
 stay:=fun st H H' ⟨a,b,c⟩ k=>⟨k p _ (.inl rfl) a,k l _ (.inr rfl) b,c⟩
 live:=fun st H b hI41 m=>by
  obtain⟨a,c,_⟩:=hI41;rcases m with m | m
  ·subst m;exact⟨_,a,(fun u z=>by cases z),fun ob u z=>by cases z⟩
  ·subst m;exact⟨_,c,(fun u z=>by cases z),fun ob u z=>by cases z⟩
noncomputable def wt4 (cell turn:Int):Int:=(cell % 2147483629+turn*turn*7919+11)*48271 % 2147483647
noncomputable def vm6 (cell turn:Int):Int:=wt4 cell turn*wt4 cell turn % 2147483587
noncomputable def vm5 (cell turn:Int):Int:=(vm6 cell turn+turn*104729)*39373 % 2147483629 / 64
noncomputable def plc (st:Dr):Nat:=((st.2+1) % (st.1.length:Int)).toNat
noncomputable def zv0 (l:List D) (st:Dr):Res Dr D:=match l with
 | [.int many]=>if 0<many/\many<1073741824/\st.2<2 ^ 40 then
  (if 1000000000000000000<=st.1.getD (plc st) 0 then .ok (.int (st.1.getD (plc st) 0 % many)) (st.1.set (plc st) (st.1.getD (plc st) 0 / many),st.2+1)
   else .ok (.int (vm5 (st.1.getD (plc st) 0) (st.2+1) % many)) (st.1,st.2+1)) else .bad
 | _=>.bad
theorem wn0:¬((Sum.inr ("cells" : Str)):Key)=Sum.inr ("turn" : Str):=by decide +kernel
theorem wb3 {l:Addr} {t:Int}:ym4 (stD l t) (Sum.inr "cells" : Key)=some (.ref l):=by
 unfold stD;exact zq3 rfl
theorem xr5 {l:Addr} {t:Int}:ym4 (stD l t) (Sum.inr "turn" : Key)=some (.int t):=by
 unfold stD;rw[zq4 (fun z=>wn0 z)];exact zq3 rfl
theorem ww3 {l:Addr} {t u:Int}:zy7 (stD l t) (Sum.inr "turn" : Key) (.int u)=stD l u:=by
 unfold zy7;rw[yb3,xr5];refine(if_pos (show (some (V.int t)).isSome=true from rfl)).trans ?_;unfold stD;simp only[Ay0,List.map_nil];rw[if_neg (fun z=>wn0 z)];simp
structure Bn (mg:Str->Option Value):Prop where
 len:mg "len" = none
 divmod:mg "divmod" = none
 list:mg "list" = none
 tuple:mg "tuple" = none
 int:mg "int" = none
 bool:mg "bool" = none
 str:mg "str" = none
 dict:mg "dict" = none
 isinstance:mg "isinstance" = none
 all:mg "all" = none
 any:mg "any" = none
 sum:mg "sum" = none
 zip:mg "zip" = none
 enumerate:mg "enumerate" = none
 range:mg "range" = none
 sorted:mg "sorted" = none
 min:mg "min" = none
 max:mg "max" = none
 abs:mg "abs" = none
 reversed:mg "reversed" = none
noncomputable def zu1 (ns:List Int):List Int:=if ns=[] then [7] else ns
noncomputable def xr6 (K:PySem.W.Frag):Sp:=fun vs H Q _=>∃(a:Addr) (ns:List Int),vs=[.ref a]/\SqL K H a (ns.map V.int)/\ns.length<=63/\
 ∀(p l:Addr) (H':Hp),yt9 H H'->H p=none->H l=none->H' p=some (.dK (stD l 0))->H' l=some (.lst ((zu1 ns).map V.int))->Q (.ref p) H'
theorem vk8 {ns:List Int} (h:ns.length<=63):ws7 (ns.map V.int) none (some 63)=ns.map V.int:=by
 unfold ws7;have e:HT.sIx (ns.map V.int).length (ns.map V.int).length (some 63)=(ns.map V.int).length:=by
  have:HT.sIx (ns.map V.int).length (ns.map V.int).length (some ((63:Nat):Int))=min 63 (ns.map V.int).length:=HT.sIx_nat _ _ _;rw[show ((63:Nat):Int)=(63:Int) from rfl] at this;rw[this,Aa0];omega
 rw[e];show ((ns.map V.int).drop 0).take ((ns.map V.int).length-0)=_;rw[List.drop_zero,Nat.sub_zero,Bi0]
theorem xw3 {K:PySem.W.Frag} {A:Addr->Prop} {H:Hp}:∀ns:List Int,IsL K A H (ns.map D.int) (ns.map V.int)
 | []=>IsL.nil.mpr rfl
 | n::ns=>IsL.cons.mpr ⟨_,_,rfl,Is.int_iff.mpr rfl,xw3 ns⟩
theorem yz4:∀ns:List Int,D.depL (ns.map D.int)<=1
 | []=>by simp[D.depL]
 | n::ns=>by
   have:=yz4 ns;simp only[Ay0,D.depL,D.dep];omega
theorem we1 (ns:List Int):D.dep (.lst (ns.map D.int))<=30:=by
 have:=yz4 ns;simp only[D.dep];omega
theorem wz9 {l:Addr}:zz3 [] [((Sum.inr "cells" : Key),.ref l),((Sum.inr "turn" : Key),.int 0)]=stD l 0:=by
 show zy7 (zy7 [] (Sum.inr "cells" : Key) (.ref l)) (Sum.inr "turn" : Key) (.int 0)=_;have e1:zy7 [] (Sum.inr "cells" : Key) (.ref l)=[((Sum.inr "cells" : Key),.ref l)]:=rfl;rw[e1];unfold zy7;rw[yb3,zq4 (fun z=>wn0 z)];rfl
noncomputable def wb4 (K:PySem.W.Frag):Sp:=fun vs H Q _=>∃(a:Addr) (ns:List Int),vs=[.ref a]/\SqL K H a (ns.map V.int)/\ns.length<=63/\∀H',Q (.bl true) H'
noncomputable def rhoL (n:Nat):Rho:=.no::.hnd::List.replicate (n-2) .no
noncomputable def exL {X:Cx} (K:PySem.W.Frag) (F:FnS Dr):TS:=fun D σ H=>∃p l,tS (cxS (WdS p l) K (fun _=>none)) F D σ H
theorem wn8 {X:Cx} {K:PySem.W.Frag} {ss:List Stmt} {F:FnS Dr} (h:∀p l,DSs X (cxS (WdS p l) K (fun _=>none)) ss F):PSs X ss (exL (X:=X) K F):=fun A3 s σ H D I ⟨p,l,q⟩=>h p l A3 s σ H D I q
theorem vi0 {K:PySem.W.Frag} {H:Hp} {p l a:Addr} {m:Nat}:Rep (cxS (WdS p l) K (fun _=>none)) H (some (.ref a)::some (.ref p)::List.replicate m none) (rhoL (m+2)) where
 len:=by simp[rhoL]
 frame:=fun b o e=>by cases e
 slot:=fun i s h=>by
  unfold rhoL at h
  match i with
  | 0=>cases h;trivial
  | 1=>cases h;rfl
  | i+2=>
    have h:(List.replicate (m+2-2) Sl.no)[i]?=some s:=by simpa using h
    rw[List.getElem?_replicate] at h;split at h
    ·cases h;trivial
    ·cases h
 avl:=fun b h=>h.elim
 uniq:=fun i j b d e h1 h2 _ _=>by
  unfold rhoL at h1
  match i with
  | 0=>cases h1
  | 1=>cases h1
  | i+2=>
    have h1:(List.replicate (m+2-2) Sl.no)[i]?=some (.own d):=by simpa using h1
    rw[List.getElem?_replicate] at h1;split at h1
    ·cases h1
    ·cases h1
section
variable {S α β:Type} {E:Exn->S->Prop} {st:S}
set_option tactic.hygienic true in
theorem wpB {r:Res S α} {k:α->S->Res S β} {Q:β->S->Prop} {P:α->S->Prop} (h:∀d st1,wpR (k d st1) Q E↔P d st1):wpR (r.bind k) Q E↔wpR r P E:=by
 rw[za5];exact iff_of_eq (congrArg (fun z=>wpR r z E) (funext fun d=>funext fun st1=>propext (h d st1)))
theorem yl2 {P:α->Prop} {a:α} {R:Prop} (k:R↔P a):R↔∃b,some a=some b/\P b:=⟨fun q=>⟨a,rfl,k.mp q⟩,fun h=>by obtain⟨_,e,q⟩:=h;cases e;exact k.mpr q⟩
theorem yl3 {P:α->Prop}:False↔∃b,(none:Option α)=some b/\P b:=⟨False.elim,fun h=>by obtain⟨_,e,q⟩:=h;cases e⟩
theorem ws0 {P:Bool->Prop} {a:Bool} {R:Prop} (k:R↔P a):R↔∃b,D.bl a=.bl b/\P b:=⟨fun q=>⟨a,rfl,k.mp q⟩,fun h=>by obtain⟨_,e,q⟩:=h;cases e;exact k.mpr q⟩
theorem wj4 {P:Int->Prop} {a:Int} {R:Prop} (k:R↔P a):R↔∃b,D.int a=.int b/\P b:=⟨fun q=>⟨a,rfl,k.mp q⟩,fun h=>by obtain⟨_,e,q⟩:=h;cases e;exact k.mpr q⟩
theorem vb9 {P:Str->Prop} {a:Str} {R:Prop} (k:R↔P a):R↔∃b,D.str a=.str b/\P b:=⟨fun q=>⟨a,rfl,k.mp q⟩,fun h=>by obtain⟨_,e,q⟩:=h;cases e;exact k.mpr q⟩
theorem ym9 {c:β->α} {d:α} {P:β->Prop} (h:∀b,d=c b->False):False↔∃b,d=c b/\P b:=⟨False.elim,fun g=>by obtain⟨b,e,_⟩:=g;exact h b e⟩
theorem xx5 {γ:Type} {c:β->α} {d:α} {P:β->γ->Prop} (h:∀b,d=c b->False):False↔∃b g,d=c b/\P b g:=⟨False.elim,fun g=>by obtain⟨b,_,e,_⟩:=g;exact h b e⟩
theorem xd9 {γ:Type} {P:Int->γ->Prop} {a:Int} {R:Prop} (k:R↔∃g,P a g):R↔∃b g,D.int a=.int b/\P b g:=⟨fun h=>by obtain⟨g,q⟩:=k.mp h;exact⟨a,g,rfl,q⟩,fun h=>by obtain⟨_,g,e,q⟩:=h;cases e;exact k.mpr ⟨g,q⟩⟩
theorem yu2 {c:Prop} [Decidable c] {r:Res S α} {Q:α->S->Prop}:wpR (if c then r else .bad) Q E↔c/\wpR r Q E:=by
 by_cases h:c
 ·rw[if_pos h];exact⟨fun q=>⟨h,q⟩,fun q=>q.2⟩
 ·rw[if_neg h];exact⟨fun q=>q.elim,fun q=>h q.1⟩
theorem yq8 {o:Option Rho} {Q:Fl->S->Prop}:wpR ((zj2 o st).bind fun ρ1 st2=>Res.ok (Fl.nx ρ1) st2) Q E↔∃ρ1,o=some ρ1/\Q (.nx ρ1) st:=by rw[za5,zb7];exact Iff.rfl
theorem yq7 {o:Option Rho} {k:Rho->S->Res S β} {Q:β->S->Prop} {P:Rho->Prop} (h:∀ρ1,wpR (k ρ1 st) Q E↔P ρ1):wpR ((zj2 o st).bind k) Q E↔∃ρ1,o=some ρ1/\P ρ1:=by
 rw[za5,zb7];exact exists_congr fun ρ1=>and_congr Iff.rfl (h ρ1)
end
theorem wg8 {d:D} {b:Bool}:d.bool?=some b↔d=.bl b:=by
 cases d with
 | bl a=>exact⟨fun e=>congrArg D.bl (Option.some.inj e),fun e=>congrArg D.bool? e⟩
 | _=>exact⟨fun e=>(by cases e),fun e=>(by cases e)⟩
theorem int_iff {d:D} {b:Int}:d.int?=some b↔d=.int b:=by
 cases d with
 | int a=>exact⟨fun e=>congrArg D.int (Option.some.inj e),fun e=>congrArg D.int? e⟩
 | _=>exact⟨fun e=>(by cases e),fun e=>(by cases e)⟩
section
variable {S:Type} {E:Exn->S->Prop} {ρ:Rho} {st:S}
section
variable {Q:D->S->Prop} {f f1 f2' f3 fk:Fn S}
theorem wp_fAndV:wpR (wr9 S f1 f2' ρ st) Q E↔wpR (f1 ρ st) (fun d st1=>∃b,d=.bl b/\(if b=true then wpR (f2' ρ st1) Q E else Q (.bl false) st1)) E:=wpB fun d st1=>by
 cases d with
 | bl b=>cases b<;>exact ws0 Iff.rfl
 | _=>exact ym9 fun b e=>by cases e
theorem wp_fOrV:wpR (vn0 S f1 f2' ρ st) Q E↔wpR (f1 ρ st) (fun d st1=>∃b,d=.bl b/\(if b=true then Q (.bl true) st1 else wpR (f2' ρ st1) Q E)) E:=wpB fun d st1=>by
 cases d with
 | bl b=>cases b<;>exact ws0 Iff.rfl
 | _=>exact ym9 fun b e=>by cases e
theorem wp_fNotV:wpR (vb7 S f ρ st) Q E↔wpR (f ρ st) (fun d st1=>∃b,d=.bl b/\Q (.bl (!b)) st1) E:=wpB fun d st1=>by
 cases d with
 | bl b=>exact ws0 Iff.rfl
 | _=>exact ym9 fun b e=>by cases e
theorem wp_fNeg:wpR (vn1 S f ρ st) Q E↔wpR (f ρ st) (fun d st1=>∃i,d=.int i/\Q (.int (-i)) st1) E:=wpB fun d st1=>by
 cases d with
 | int b=>exact wj4 Iff.rfl
 | _=>exact ym9 fun b e=>by cases e
theorem wp_pSo {Q:Option Int->S->Prop}:wpR (pSo S f ρ st) Q E↔wpR (f ρ st) (fun d st1=>∃i,d=.int i/\Q (some i) st1) E:=wpB fun d st1=>by
 rw[za5,zb7];exact exists_congr fun i=>and_congr int_iff Iff.rfl
theorem wp_fB {Q:Bool->S->Prop}:wpR (fB S f ρ st) Q E↔wpR (f ρ st) (fun d st1=>∃b,d=.bl b/\Q b st1) E:=wpB fun d st1=>by
 rw[zb7];exact exists_congr fun i=>and_congr wg8 Iff.rfl
theorem wp_fDisp {ks:List Str} {fs:List (Fn S)}:wpR (vb8 S ks fs fk ρ st) Q E↔wpR (wh0 S fs ρ st) (fun l st1=>wpR (fk ρ st1) (fun d st2=>∃x,d=.str x/\D.immL l=true/\wpR (zj2 (xm6 x ks l) st2) Q E) E) E:=wpB fun l st1=>wpB fun d st2=>by
 cases d with
 | str x=>exact vb9 yu2
 | _=>exact ym9 fun b e=>by cases e
theorem xy6 {r:Option D} {R1 R0:Res S D}:wpR (match r with
 | some (.bl true)=>R1
 | some (.bl false)=>R0
 | _=>.bad) Q E↔∃b,r=some (.bl b)/\(if b=true then wpR R1 Q E else wpR R0 Q E):=by
 cases r with
 | none=>exact ym9 (c:=fun b=>some (D.bl b)) fun b e=>by cases e
 | some d=>cases d with
   | bl b=>cases b<;>exact⟨fun q=>⟨_,rfl,q⟩,fun h=>by obtain⟨_,e,q⟩:=h;cases e;exact q⟩
   | _=>exact ym9 (c:=fun b=>some (D.bl b)) fun b e=>by cases e
theorem wp_fChain {o o':D->D->Option D}:wpR (yz0 S o o' f1 f2' f3 ρ st) Q E↔wpR (f1 ρ st) (fun d1 st1=>wpR (f2' ρ st1) (fun d2 st2=>∃b,o d1 d2=some (.bl b)/\(if b=true then wpR (f3 ρ st2) (fun d3 st3=>wpR (zj2 (o' d2 d3) st3) Q E) E else Q (.bl false) st2)) E) E:=wpB fun d1 st1=>wpB fun d2 st2=>by
 refine xy6.trans ?_;rw[za5];exact Iff.rfl
end
section
variable {Q:Fl->S->Prop} {F G B:FnS S} {t:FnT S} {f fk fv:Fn S} {i j k:Nat}
theorem wp_sAug {o:Int->Int->Int}:wpR (ww9 S i f o ρ st) Q E↔∃a,rd ρ i=some (.int a)/\wpR (f ρ st) (fun d st1=>∃b ρ1,d=.int b/\put ρ i (.int (o a b))=some ρ1/\Q (.nx ρ1) st1) E:=by
 unfold ww9;cases rd ρ i with
 | none=>exact ym9 (c:=fun b=>some (D.int b)) fun b e=>by cases e
 | some d=>cases d with
   | int a=>
     refine(wpB fun d st1=>?_).trans ⟨fun q=>⟨a,rfl,q⟩,fun h=>by obtain⟨_,e,q⟩:=h;cases e;exact q⟩;cases d with
     | int b=>exact xd9 yq8
     | _=>exact xx5 fun b e=>by cases e
   | _=>exact ym9 (c:=fun b=>some (D.int b)) fun b e=>by cases e
theorem wp_sMt {o:List D->D->Option (List D)}:wpR (sMt S i o f ρ st) Q E↔∃l,zl7 ρ i=some l/\wpR (f ρ st) (fun d st1=>∃l',o l d=some l'/\Q (.nx (ρ.set i (.own (.lst l')))) st1) E:=by
 unfold sMt;cases zl7 ρ i with
 | none=>exact yl3
 | some l=>
   refine yl2 (wpB fun d st1=>?_);rw[za5,zb7];exact Iff.rfl
theorem wp_sItem:wpR (ww6 S i fk fv ρ st) Q E↔wpR (fv ρ st) (fun v st1=>∃l,zl7 ρ i=some l/\wpR (fk ρ st1) (fun d st2=>∃j n,d=.int j/\ixN l.length j=some n/\v.imm=true/\Q (.nx (ρ.set i (.own (.lst (l.set n v))))) st2) E) E:=wpB fun v st1=>by
 cases zl7 ρ i with
 | none=>exact yl3
 | some l=>
   refine yl2 (wpB fun d st2=>?_);cases d with
   | int j=>
     refine xd9 ?_;dsimp only;cases ixN l.length j with
     | none=>exact yl3
     | some n=>exact yl2 yu2
   | _=>exact xx5 fun b e=>by cases e
theorem wp_sDPut:wpR (wi0 S i fk fv ρ st) Q E↔wpR (fv ρ st) (fun v st1=>∃ks vs,yn0 ρ i=some (ks,vs)/\wpR (fk ρ st1) (fun d st2=>∃kk,ze3 d=some kk/\v.imm=true/\ks.length<sizeLine/\Q (.nx (ρ.set i (.own (.dct (.non::(ya2 kk v ks vs).1) (ya2 kk v ks vs).2)))) st2) E) E:=wpB fun v st1=>by
 cases yn0 ρ i with
 | none=>exact⟨False.elim,fun h=>by obtain⟨_,_,e,_⟩:=h;cases e⟩
 | some l=>
   obtain⟨ks,vs⟩:=l;refine(wpB fun d st2=>?_).trans ⟨fun q=>⟨ks,vs,rfl,q⟩,fun h=>by obtain⟨_,_,e,q⟩:=h;cases e;exact q⟩;cases ze3 d with
   | none=>exact yl3
   | some kk=>exact yl2 (yu2.trans and_assoc)
theorem wp_sPar {fa:FnA S}:wpR (vl7 S i j fa ρ st) Q E↔wpR (fa ρ st) (fun l st1=>match l with
 | [d,e]=>∃ρ1,put ρ i d=some ρ1/\∃ρ2,put ρ1 j e=some ρ2/\Q (.nx ρ2) st1
 | _=>False) E:=wpB fun l st1=>by
 match l with
 | []=>exact Iff.rfl
 | [_]=>exact Iff.rfl
 | [d,e]=>exact yq7 fun _=>yq8
 | _::_::_::_=>exact Iff.rfl
theorem wp_sPar3 {fa:FnA S}:wpR (ww5 S i j k fa ρ st) Q E↔wpR (fa ρ st) (fun l st1=>match l with
 | [d,e,h]=>∃ρ1,put ρ i d=some ρ1/\∃ρ2,put ρ1 j e=some ρ2/\∃ρ3,put ρ2 k h=some ρ3/\Q (.nx ρ3) st1
 | _=>False) E:=wpB fun l st1=>by
 match l with
 | []=>exact Iff.rfl
 | [_]=>exact Iff.rfl
 | [_,_]=>exact Iff.rfl
 | [d,e,h]=>exact yq7 fun _=>yq7 fun _=>yq8
 | _::_::_::_::_=>exact Iff.rfl
end
end
section
variable {S α β:Type} {Q:α->S->Prop} {E:Exn->S->Prop} {ρ:Rho} {st:S}
theorem wp_ok {a:α}:wpR (Res.ok a st) Q E↔Q a st:=Iff.rfl
theorem wp_bad:wpR (Res.bad:Res S α) Q E↔False:=Iff.rfl
theorem wp_some {a:α}:wpR (zj2 (some a) st) Q E↔Q a st:=Iff.rfl
theorem wp_none:wpR (zj2 (none:Option α) st) Q E↔False:=Iff.rfl
end
section
variable {S:Type} {E:Exn->S->Prop} {ρ:Rho} {st:S}
variable {Q:Fl->S->Prop} {F G B:FnS S} {t:FnT S} {f:Fn S} {i j:Nat}
theorem zb0:wpR (wb6 S F G ρ st) Q E↔wpR (F ρ st) (fun fl st1=>match fl with
 | .nx ρ1=>wpR (G ρ1 st1) Q E
 | .rt d=>Q (.rt d) st1
 | .bk r=>Q (.bk r) st1
 | .ct r=>Q (.ct r) st1) E:=by
 unfold wb6;rw[za5];cases F ρ st with
 | bad=>exact Iff.rfl
 | exc x s=>exact Iff.rfl
 | ok fl s=>cases fl<;>exact Iff.rfl
theorem wp_sNil:wpR (vl8 S ρ st) Q E↔Q (.nx ρ) st:=Iff.rfl
theorem wp_sSet:wpR (wn3 S i f ρ st) Q E↔wpR (f ρ st) (fun d st1=>∃ρ1,putN ρ i d=some ρ1/\Q (.nx ρ1) st1) E:=by
 unfold wn3;rw[za5];have:∀d st1,wpR ((zj2 (putN ρ i d) st1).bind fun ρ' st2=>Res.ok (Fl.nx ρ') st2) Q E↔∃ρ1,putN ρ i d=some ρ1/\Q (.nx ρ1) st1:=fun d st1=>by rw[za5,zb7];exact Iff.rfl
 simp only[this]
theorem wp_sSetB:wpR (wb5 S i f ρ st) Q E↔wpR (f ρ st) (fun d st1=>∃ρ1,put ρ i d=some ρ1/\Q (.nx ρ1) st1) E:=by
 unfold wb5;rw[za5];have:∀d st1,wpR ((zj2 (put ρ i d) st1).bind fun ρ' st2=>Res.ok (Fl.nx ρ') st2) Q E↔∃ρ1,put ρ i d=some ρ1/\Q (.nx ρ1) st1:=fun d st1=>by rw[za5,zb7];exact Iff.rfl
 simp only[this]
theorem wp_sAsg {g:FnG}:wpR (vh9 S g f ρ st) Q E↔wpR (f ρ st) (fun d st1=>∃ρ1,g d ρ=some ρ1/\Q (.nx ρ1) st1) E:=by
 unfold vh9;rw[za5];have:∀d st1,wpR ((zj2 (g d ρ) st1).bind fun ρ' st2=>Res.ok (Fl.nx ρ') st2) Q E↔∃ρ1,g d ρ=some ρ1/\Q (.nx ρ1) st1:=fun d st1=>by rw[za5,zb7];exact Iff.rfl
 simp only[this]
set_option tactic.hygienic true in
theorem wp_sIf:wpR (sIf S t F G ρ st) Q E↔wpR (t ρ st) (fun b st1=>if b=true then wpR (F ρ st1) Q E else wpR (G ρ st1) Q E) E:=by
 unfold sIf;rw[za5];refine iff_of_eq (congrArg (fun z=>wpR (t ρ st) z E) (funext fun b=>funext fun st1=>propext ?_));cases b<;>exact Iff.rfl
set_option tactic.hygienic true in
theorem wp_sRet:wpR (ve2 S f ρ st) Q E↔wpR (f ρ st) (fun d st1=>(d.imm=true\/d.flat=true)/\Q (.rt d) st1) E:=by
 unfold ve2;rw[za5];refine iff_of_eq (congrArg (fun z=>wpR (f ρ st) z E) (funext fun b=>funext fun st1=>propext ?_));by_cases h:b.imm=true\/b.flat=true
 ·rw[if_pos h];exact⟨fun q=>⟨h,q⟩,fun q=>q.2⟩
 ·rw[if_neg h];exact⟨fun q=>q.elim,fun q=>h q.1⟩
theorem wp_sRetV:wpR (wn4 S i ρ st) Q E↔∃d,own? ρ i=some d/\Q (.rt d) st:=by
 unfold wn4;rw[za5,zb7];exact Iff.rfl
theorem xf7:wpR (ww7 S f ρ st) Q E↔wpR (f ρ st) (fun _ st1=>Q (.nx ρ) st1) E:=by unfold ww7;rw[za5];exact Iff.rfl
theorem wp_sFor {fz:List Nat} {fi:FnI S} {g:FnG}:wpR (vh6 S fz fi g B ρ st) Q E↔wpR (fi (frz fz ρ) st) (fun l st1=>wpR (xo3 S g B l (frz fz ρ) st1) Q E) E:=by unfold vh6;rw[za5]
theorem xf6:wpR (vh5 S ρ st) Q E↔Q (.rt .non) st:=Iff.rfl
theorem yu1:wpR (ww8 S ρ st) Q E↔Q (.bk ρ) st:=Iff.rfl
theorem xf8:wpR (vh8 S ρ st) Q E↔Q (.ct ρ) st:=Iff.rfl
theorem wp_sBad:wpR (vl9 S ρ st) Q E↔False:=Iff.rfl
theorem xb1 {g:FnG} (I:Nat->Rho->S->Prop):∀{l:List D} {ρ:Rho} {st:S} (n:Nat),I n ρ st->
 (∀i d ρ st,l[i]?=some d->I (n+i) ρ st->∃ρ1,g d ρ=some ρ1/\wpR (B ρ1 st) (fun fl st'=>match fl with
  | .nx ρ2=>I (n+i+1) ρ2 st'
  | .ct ρ2=>I (n+i+1) ρ2 st'
  | .bk ρ2=>Q (.nx ρ2) st'
  | .rt d=>Q (.rt d) st') E)->(∀ρ st,I (n+l.length) ρ st->Q (.nx ρ) st)->wpR (xo3 S g B l ρ st) Q E
 | [],ρ,st,n,h0,_,he=>he ρ st h0
 | d::l,ρ,st,n,h0,hs,he=>by
   obtain⟨ρ1,e1,q⟩:=hs 0 d ρ st rfl h0;unfold xo3;rw[e1];refine za5.mpr (wp_some.mpr (za5.mpr (za7 q (fun fl st' z=>?_) fun x st' z=>z)));have go:∀ρ2,I (n+1) ρ2 st'->wpR (xo3 S g B l ρ2 st') Q E:=fun ρ2 z=>xb1 I (n+1) z (fun i d ρ st h h'=>by
    have:=hs (i+1) d ρ st (by simpa using h) (by rw[show n+(i+1)=n+1+i by omega];exact h');rw[show n+(i+1)=n+1+i by omega] at this;exact this) fun ρ st h=>he ρ st (by rw[Bm0,show n+(l.length+1)=n+1+l.length by omega];exact h)
   cases fl with
   | nx ρ2=>exact go ρ2 z
   | ct ρ2=>exact go ρ2 z
   | bk ρ2=>exact z
   | rt d=>exact z
end
section
variable {S:Type} {E:Exn->S->Prop} {ρ:Rho} {st:S} {Q:D->S->Prop} {f f1 f2' f3:Fn S} {i:Nat} {t:FnT S}
theorem wp_fC {d:D}:wpR (fC S d ρ st) Q E↔Q d st:=Iff.rfl
theorem wv1:wpR (fV S i ρ st) Q E↔wpR (zj2 (rd ρ i) st) Q E:=Iff.rfl
theorem wp_fVk:wpR (fVk S i ρ st) Q E↔wpR (zj2 (kp ρ i) st) Q E:=Iff.rfl
set_option tactic.hygienic true in
theorem wv2:wpR (fI S f ρ st) Q E↔wpR (f ρ st) (fun d st1=>d.imm=true/\Q d st1) E:=by
 unfold fI;rw[za5];refine iff_of_eq (congrArg (fun z=>wpR (f ρ st) z E) (funext fun b=>funext fun st1=>propext ?_));by_cases h:b.imm=true
 ·rw[if_pos h];exact⟨fun q=>⟨h,q⟩,fun q=>q.2⟩
 ·rw[if_neg h];exact⟨fun q=>q.elim,fun q=>h q.1⟩
theorem wp_f2 {o:D->D->Option D}:wpR (f2 S o f1 f2' ρ st) Q E↔wpR (f1 ρ st) (fun d1 st1=>wpR (f2' ρ st1) (fun d2 st2=>wpR (zj2 (o d1 d2) st2) Q E) E) E:=by
 unfold f2;rw[za5];simp only[za5]
theorem wp_fA {o:List D->Option D} {fa:FnA S}:wpR (fA S o fa ρ st) Q E↔wpR (fa ρ st) (fun l st1=>wpR (zj2 (o l) st1) Q E) E:=by unfold fA;rw[za5]
theorem wp_aNil {Q:List D->S->Prop}:wpR (vf7 S ρ st) Q E↔Q [] st:=Iff.rfl
theorem wp_aCons {Q:List D->S->Prop} {r:FnA S}:wpR (zy5 S f r ρ st) Q E↔wpR (f ρ st) (fun d st1=>wpR (r ρ st1) (fun l st2=>Q (d::l) st2) E) E:=by
 unfold zy5;rw[za5];simp only[za5];exact Iff.rfl
set_option tactic.hygienic true in
theorem wp_fCall {F:List D->Res Unit D} {fa:FnA S}:wpR (xo5 S F fa ρ st) Q E↔wpR (fa ρ st) (fun l st1=>wpR (F l) (fun d _=>Q d st1) fun _ _=>False) E:=by
 unfold xo5;rw[za5];refine iff_of_eq (congrArg (fun z=>wpR (fa ρ st) z E) (funext fun b=>funext fun st1=>propext ?_));cases F b<;>exact Iff.rfl
set_option tactic.hygienic true in
theorem wp_fCallS {F:List D->S->Res S D} {fa:FnA S}:wpR (yz1 S F i fa ρ st) Q E↔ρ[i]?=some .hnd/\wpR (fa ρ st) (fun l st1=>wpR (F l st1) Q fun _ _=>False) E:=by
 unfold yz1;split
 ·rename_i h
  rw[za5];have:∀b st1,wpR (match F b st1 with
   | .ok d st2=>Res.ok d st2
   | _=>Res.bad) Q E↔wpR (F b st1) Q fun _ _=>False:=fun b st1=>by cases F b st1<;>exact Iff.rfl
  refine(iff_of_eq (congrArg (fun z=>wpR (fa ρ st) z E) (funext fun d=>funext fun st1=>propext (this d st1)))).trans ?_;exact⟨fun q=>⟨h,q⟩,fun q=>q.2⟩
 ·rename_i h
  exact⟨fun q=>q.elim,fun q=>h q.1⟩
theorem wh2 {T:Bt}:wpR (fIs S T f ρ st) Q E↔wpR (f ρ st) (fun d st1=>Q (.bl (isI T d)) st1) E:=by unfold fIs;rw[za5];exact Iff.rfl
set_option tactic.hygienic true in
theorem wp_fIfE:wpR (vn2 S t f1 f2' ρ st) Q E↔wpR (t ρ st) (fun b st1=>if b=true then wpR (f1 ρ st1) Q E else wpR (f2' ρ st1) Q E) E:=by
 unfold vn2;rw[za5];refine iff_of_eq (congrArg (fun z=>wpR (t ρ st) z E) (funext fun b=>funext fun st1=>propext ?_));cases b<;>exact Iff.rfl
theorem xq8 {lo hi:FnO S}:wpR (vn3 S f lo hi ρ st) Q E↔wpR (f ρ st) (fun d st1=>wpR (lo ρ st1) (fun l st2=>wpR (hi ρ st2) (fun h st3=>wpR (zj2 (vm4 l h d) st3) Q E) E) E) E:=by
 unfold vn3;rw[za5];simp only[za5]
theorem wp_pNo {Q:Option Int->S->Prop}:wpR (pNo S ρ st) Q E↔Q none st:=Iff.rfl
theorem wp_iSeq {Q:List D->S->Prop} {sel:D->Option (List D)}:wpR (xz7 S sel f ρ st) Q E↔wpR (f ρ st) (fun d st1=>wpR (zj2 (sel d) st1) Q E) E:=by unfold xz7;rw[za5]
theorem wp_iArgs {Q:List D->S->Prop} {o:List D->Option (List D)} {fa:FnA S}:wpR (xd7 S o fa ρ st) Q E↔wpR (fa ρ st) (fun l st1=>wpR (zj2 (o l) st1) Q E) E:=by unfold xd7;rw[za5]
theorem wp_fComp {fz:List Nat} {ixs:List (Option Nat)} {fi:FnI S} {g:FnG}:wpR (xo4 S fz ixs fi g t f ρ st) Q E↔wpR (fi (frz fz ρ) st) (fun l st1=>wpR (zy4 S g t f l [] (pickR (frz fz ρ) ixs) st1) (fun r st2=>Q (.lst r) st2) E) E:=by
 unfold xo4;rw[za5];simp only[za5];exact Iff.rfl
theorem yb2 {g:FnG} {Q:List D->S->Prop} (I:Nat->List D->Rho->S->Prop):∀{l acc:List D} {ρ:Rho} {st:S} (n:Nat),I n acc ρ st->
 (∀i d acc ρ st,l[i]?=some d->I (n+i) acc ρ st->∃ρ1,g d ρ=some ρ1/\wpR (t ρ1 st) (fun b st1=>if b=true then wpR (f ρ1 st1) (fun y st2=>y.imm=true/\acc.length<sizeLine/\I (n+i+1) (acc++[y]) ρ1 st2) E else I (n+i+1) acc ρ1 st1) E)->
 (∀acc ρ st,I (n+l.length) acc ρ st->Q acc st)->wpR (zy4 S g t f l acc ρ st) Q E
 | [],acc,ρ,st,n,h0,_,he=>he acc ρ st h0
 | d::l,acc,ρ,st,n,h0,hs,he=>by
   obtain⟨ρ1,e1,q⟩:=hs 0 d acc ρ st rfl h0;have go:∀acc st',I (n+1) acc ρ1 st'->wpR (zy4 S g t f l acc ρ1 st') Q E:=fun acc st' z=>yb2 I (n+1) z (fun i d acc ρ st h h'=>by
    have:=hs (i+1) d acc ρ st (by simpa using h) (by rw[show n+(i+1)=n+1+i by omega];exact h');rw[show n+(i+1)=n+1+i by omega] at this;exact this) fun acc ρ st h=>he acc ρ st (by rw[Bm0,show n+(l.length+1)=n+1+l.length by omega];exact h)
   unfold zy4;rw[e1];refine za5.mpr (wp_some.mpr (za5.mpr (za7 q (fun b st' z=>?_) fun x st' z=>z)));cases b with
   | true=>
     have z:wpR (f ρ1 st') (fun y st2=>y.imm=true/\acc.length<sizeLine/\I (n+0+1) (acc++[y]) ρ1 st2) E:=z;rw[if_pos rfl];refine za5.mpr (za7 z (fun y st2 hI105=>?_) fun x st' z=>z);obtain⟨h1,h2,h3⟩:=hI105;rw[if_pos ⟨h1,h2⟩];exact go _ _ h3
   | false=>exact go _ _ z
variable {Q:Bool->S->Prop} {t1 t2:FnT S}
set_option tactic.hygienic true in
theorem wp_fAnd:wpR (vf5 S t1 t2 ρ st) Q E↔wpR (t1 ρ st) (fun b st1=>if b=true then wpR (t2 ρ st1) Q E else Q false st1) E:=by
 unfold vf5;rw[za5];refine iff_of_eq (congrArg (fun z=>wpR (t1 ρ st) z E) (funext fun b=>funext fun st1=>propext ?_));cases b<;>exact Iff.rfl
set_option tactic.hygienic true in
theorem wp_fOr:wpR (fOr S t1 t2 ρ st) Q E↔wpR (t1 ρ st) (fun b st1=>if b=true then Q true st1 else wpR (t2 ρ st1) Q E) E:=by
 unfold fOr;rw[za5];refine iff_of_eq (congrArg (fun z=>wpR (t1 ρ st) z E) (funext fun b=>funext fun st1=>propext ?_));cases b<;>exact Iff.rfl
theorem wp_fNot:wpR (vk1 S t1 ρ st) Q E↔wpR (t1 ρ st) (fun b st1=>Q (!b) st1) E:=by unfold vk1;rw[za5];exact Iff.rfl
theorem wp_fTrue:wpR (xx4 S ρ st) Q E↔Q true st:=Iff.rfl
end
theorem zi5 {n p:Nat} {B:FnS Unit} {l:List D} {Q:D->Unit->Prop} {E:Exn->Unit->Prop} (hl:l.length=p) (hp:p<=n) (h:wpR (B (rho0 n l) ()) (fun fl st=>match fl with
 | .rt d=>Q d st
 | .nx _=>Q .non st
 | _=>False) E):wpR (dfn n p B l) Q E:=by
 unfold dfn;rw[if_pos ⟨hl,hp⟩];cases q:B (rho0 n l) () with
 | bad=>rw[q] at h;exact h
 | exc x u=>rw[q] at h;exact h
 | ok fl u=>rw[q] at h;cases fl<;>exact h
theorem yr0 {S:Type} {n p:Nat} {B:FnS S} {l:List D} {st:S} {Q:D->S->Prop} {E:Exn->S->Prop} (hl:l.length+1=p) (hp:p<=n) (h:wpR (B (rhoS n l) st) (fun fl st=>match fl with
 | .rt d=>Q d st
 | .nx _=>Q .non st
 | _=>False) E):wpR (wf9 n p B l st) Q E:=by
 unfold wf9;rw[if_pos ⟨hl,hp⟩];cases q:B (rhoS n l) st with
 | bad=>rw[q] at h;exact h
 | exc x u=>rw[q] at h;exact h
 | ok fl u=>rw[q] at h;cases fl<;>exact h
theorem zd7 {m:Int} {st:Dr} {Q:D->Dr->Prop} {E:Exn->Dr->Prop} (h0:0<m) (h1:m<1073741824) (h2:st.2<2 ^ 40) (h:∀v st',0<=v->v<m->st'.2=st.2+1->Q (.int v) st'):wpR (zv0 [.int m] st) Q E:=by
 unfold zv0;simp only;rw[if_pos ⟨h0,h1,h2⟩];split
 ·exact h _ _ (Int.emod_nonneg _ (by omega)) (Int.emod_lt_of_pos _ h0) rfl
 ·exact h _ _ (Int.emod_nonneg _ (by omega)) (Int.emod_lt_of_pos _ h0) rfl
theorem flat_lst {l:List D}:D.flat (.lst l)=D.immL l:=rfl
theorem flat_dct {k l:List D}:D.flat (.dct k l)=D.immL l:=rfl
theorem flat_int {i:Int}:D.flat (.int i)=false:=rfl
theorem flat_str {i:Str}:D.flat (.str i)=false:=rfl
theorem flat_bl {i:Bool}:D.flat (.bl i)=false:=rfl
theorem flat_non:D.flat .non=false:=rfl
theorem flat_tup {l:List D}:D.flat (.tup l)=false:=rfl
theorem zi4 {n:Nat} (h:n<=1000):n<=sizeLine:=Nat.le_of_lt (yb4 h)
theorem lt_size {n:Nat} (h:n<=1000):n<sizeLine:=yb4 h
theorem zb3 {α:Type} {f:α->D} (h:∀a,(f a).imm=true):∀l:List α,D.immL (l.map f)=true
 | []=>rfl
 | a::l=>by simp only[Ay0,D.immL,h a,zb3 h l,Bool.and_self]
theorem we3 {l:List D}:D.immL l=true↔∀d∈l,d.imm=true:=by
 induction l with
 | nil=>simp[D.immL]
 | cons a l ih=>simp[D.immL,ih]
theorem ys0 {l:List D} (m:D.immL l=true) (h:l.length<=1000):yx2 l=some (.tup l):=if_pos ⟨m,zi4 h⟩
theorem zn8 {l:List D} (m:D.immL l=true) (h:l.length<=1000):xu4 l=some (.lst l):=if_pos ⟨m,zi4 h⟩
theorem yc8 {a b:D} (h1:a.imm=true) (h2:b.imm=true):yx2 [a,b]=some (.tup [a,b]):=ys0 (by simp[D.immL,h1,h2]) (by simp)
theorem wd0 {a b c:D} (h1:a.imm=true) (h2:b.imm=true) (h3:c.imm=true):yx2 [a,b,c]=some (.tup [a,b,c]):=ys0 (by simp[D.immL,h1,h2,h3]) (by simp)
theorem yf0:xu4 []=some (.lst []):=zn8 rfl (by simp)
theorem wq0 {a b:D} (h1:a.imm=true) (h2:b.imm=true):xu4 [a,b]=some (.lst [a,b]):=zn8 (by simp[D.immL,h1,h2]) (by simp)
theorem zt5 {l:List D} {d:D} (m:d.imm=true) (h:l.length<=1000):vf1 l d=some (l++[d]):=if_pos ⟨m,lt_size h⟩
theorem imm_int {i:Int}:D.imm (.int i)=true:=by simp[D.imm]
theorem imm_str {i:Str}:D.imm (.str i)=true:=by simp[D.imm]
theorem imm_bl {i:Bool}:D.imm (.bl i)=true:=by simp[D.imm]
theorem imm_non:D.imm .non=true:=by simp[D.imm]
theorem imm_tup {l:List D}:D.imm (.tup l)=D.immL l:=by simp[D.imm]
theorem zg5 {S:Type} {E:Exn->S->Prop} {ρ:Rho} {st:S} {Q:List D->S->Prop} {g:FnG} {t:FnT S} {f:Fn S} {l:List D} (h:D->D) (R:Rho->Prop) (h0:R ρ)
 (hs:∀d∈l,∀ρ,R ρ->∃ρ1,g d ρ=some ρ1/\R ρ1/\wpR (t ρ1 st) (fun b st1=>b=true/\st1=st) E/\wpR (f ρ1 st) (fun y st2=>y=h d/\y.imm=true/\st2=st) E) (hl:l.length<=sizeLine) (hq:Q (l.map h) st):wpR (zy4 S g t f l [] ρ st) Q E:=by
 refine yb2 (fun n acc ρ' st'=>acc=(l.take n).map h/\R ρ'/\st'=st) 0 ⟨by simp,h0,rfl⟩ (fun i d acc ρ' st' hd hI107=>?_) fun acc ρ' st' hI106=>?_
 ·obtain⟨e1,r,e2⟩:=hI107
  subst e2;have hi:i<l.length:=(Ac0.mp hd).1;obtain⟨ρ1,q1,r1,q2,q3⟩:=hs d (Aj0 hd) ρ' r;refine⟨ρ1,q1,za7 q2 (fun b st1 hI108=>?_) fun x s z=>z⟩;obtain⟨eb,es⟩:=hI108;subst eb es;rw[if_pos rfl];refine za7 q3 (fun y st2 ⟨ey,my,es⟩=>⟨my,?_,?_,r1,es⟩) fun x s z=>z
  ·rw[e1,Aa0,Be0];omega
  ·rw[e1,ey,Af0,Ba0,hd,Aq0];rfl
 ·obtain⟨e1,r,e2⟩:=hI106
  rw[Af0,Bi0] at e1;subst e1 e2;exact hq
theorem yp1 {α:Type} {f:α->Int}:∀l:List α,zw6 (l.map fun a=>.int (f a))=some (l.map f)
 | []=>rfl
 | a::l=>by simp only[Ay0,zw6,yp1 l,Ap0]
theorem zq0 {α:Type} {f:α->Bool}:∀l:List α,zj7 (l.map fun a=>.bl (f a))=some (l.map f)
 | []=>rfl
 | a::l=>by simp only[Ay0,zj7,zq0 l,Ap0]
mutual
noncomputable def D.lw:D->Bool
 | .bl _=>false
 | .dct _ _=>false
 | .fl _=>false
 | .tup l=>D.lwL l&&decide (l.length<=sizeLine)
 | .lst l=>D.lwL l&&decide (l.length<=sizeLine)
 | _=>true
noncomputable def D.lwL:List D->Bool
 | []=>true
 | d::l=>D.lw d&&D.lwL l
end
theorem yk0 {l:List D}:D.lwL l=true↔∀d∈l,d.lw=true:=by
 induction l with
 | nil=>simp[D.lwL]
 | cons a l ih=>simp[D.lwL,ih]
theorem xy1 {l:List D} {d:D} (h:d∈l):d.dep<=D.depL l:=by
 induction l with
 | nil=>cases h
 | cons a l ih=>
   unfold D.depL;rcases Ai0.mp h with e | e
   ·subst e;omega
   ·have:=ih e;omega
theorem xt6 {l:List D} {d:D} (h:d∈ye9 l l):∃x∈l,d=.tup [x,x]:=by
 obtain⟨i,hi⟩:=Av0 h;obtain⟨x,y,h1,h2,rfl⟩:=yw4 hi;rw[h1] at h2;cases h2;exact⟨x,Aj0 h1,rfl⟩
theorem xk6 {l:List D}:zj7 (l.map fun _=>.bl true)=some (l.map fun _=>true):=zq0 (f:=fun _=>true) l
theorem xv9 {a b:D} (ha:a.imm=true) (hb:b.imm=true) {c:Bool}:oIx (.lst [a,b]) (.int (if c=true then 1 else 0))=some (if c=true then b else a):=by
 cases c
 ·show im (some a)=some a
  simp[im,ha]
 ·show im (some b)=some b
  simp[im,hb]
theorem zf7 {j:Int} (h:j<=1000) (h0:0<=j):yj0 [.int j]=some (zp0 0 j.toNat):=if_pos ⟨by omega,by omega⟩
theorem zd1 {lo:Int} {n:Nat}:(zp0 lo n).length=n:=by unfold zp0;simp
theorem zf0 {lo:Int} {n i:Nat} {d:D} (h:(zp0 lo n)[i]?=some d):d=.int (lo+i)/\i<n:=by
 unfold zp0 at h;rw[Ag0] at h;cases q:(List.range n)[i]? with
 | none=>rw[q] at h;cases h
 | some k=>
   rw[q] at h;obtain⟨hi,e⟩:=Ac0.mp q;rw[List.getElem_range] at e;subst e;cases h;exact⟨rfl,by simpa using hi⟩
theorem zm6 {α:Type} {f:α->D} {n:Nat} (h:∀a,(f a).dep<=n):∀l:List α,D.depL (l.map f)<=n
 | []=>An0 _
 | a::l=>by
   have h1:=h a;have h2:=zm6 h l;simp only[Ay0,D.depL];omega
section
variable {S:Type} {E:Exn->S->Prop} {ρ:Rho} {st:S} {Q:Fl->S->Prop} {f fk fv:Fn S} {i j k:Nat} {t:FnT S} {B:FnS S}
theorem yh8 (I:Rho->S->Prop) (μ:Rho->S->Nat) (hs:∀ρ st,I ρ st->wpR (t ρ st) (fun b st1=>if b=true then wpR (B ρ st1) (fun fl st2=>match fl with
 | .nx ρ2=>I ρ2 st2/\μ ρ2 st2<μ ρ st
 | .ct ρ2=>I ρ2 st2/\μ ρ2 st2<μ ρ st
 | .bk ρ2=>Q (.nx ρ2) st2
 | .rt d=>Q (.rt d) st2) E else Q (.nx ρ) st1) E):∀(n:Nat) (ρ:Rho) (st:S),I ρ st->μ ρ st<n->wpR (zl9 S t B n ρ st) Q E
 | 0,_,_,_,h=>absurd h (Cd0 _)
 | n+1,ρ,st,h,hm=>by
   unfold zl9;refine za5.mpr (za7 (hs ρ st h) (fun b st1 q=>?_) fun x s z=>z);cases b with
   | false=>exact q
   | true=>
     have q:wpR (B ρ st1) _ E:=q;rw[if_pos rfl];refine za5.mpr (za7 q (fun fl st2 z=>?_) fun x s z=>z);cases fl with
     | nx ρ2=>exact yh8 I μ hs n ρ2 st2 z.1 (by have:=z.2;omega)
     | ct ρ2=>exact yh8 I μ hs n ρ2 st2 z.1 (by have:=z.2;omega)
     | bk ρ2=>exact z
     | rt d=>exact z
theorem xq3 (I:Rho->S->Prop) (μ:Rho->S->Nat) (h0:I ρ st) (hs:∀ρ st,I ρ st->wpR (t ρ st) (fun b st1=>if b=true then wpR (B ρ st1) (fun fl st2=>match fl with
 | .nx ρ2=>I ρ2 st2/\μ ρ2 st2<μ ρ st
 | .ct ρ2=>I ρ2 st2/\μ ρ2 st2<μ ρ st
 | .bk ρ2=>Q (.nx ρ2) st2
 | .rt d=>Q (.rt d) st2) E else Q (.nx ρ) st1) E):wpR (yi5 S t B ρ st) Q E:=by
 have h:=yh8 (Q:=Q) (E:=E) I μ hs (μ ρ st+1) ρ st h0 (Nat.lt_succ_self _);rw[yv5 (n:=μ ρ st+1) (fun z=>by rw[z] at h;exact h)];exact h
end
section
variable {S:Type} {E:Exn->S->Prop} {ρ:Rho} {st:S} {Q:D->S->Prop} {f1 f2' f3 fk:Fn S}
end
theorem xw6 {C:Int->Int->Prop} [∀i j,Decidable (C i j)] {g:Int->Int->D} {i j:Int} (h:C i j):iOp C g (.int i) (.int j)=some (g i j):=if_pos h
section
variable {S:Type} {E:Exn->S->Prop} {ρ:Rho} {st:S} {Q:Fl->S->Prop} {F G:FnS S}
theorem wv3 (I:Rho->S->Prop) (h1:wpR (F ρ st) (fun fl st1=>∃ρ1,fl=.nx ρ1/\I ρ1 st1) E) (h2:∀ρ1 st1,I ρ1 st1->wpR (G ρ1 st1) Q E):wpR (wb6 S F G ρ st) Q E:=
 zb0.mpr (za7 h1 (fun fl st1 ⟨ρ1,e,h⟩=>by subst e;exact h2 ρ1 st1 h) fun x s z=>z)
end
theorem yx6 {n:Nat} (h:n<=1000000):n<sizeLine:=by rw[sizeLine_eq];omega
theorem xz1 {l:List D} {v:Int} (h0:0<=v) (h1:v<l.length):∃d,atI l v=some d/\l[v.toNat]?=some d:=by
 have hv:v.toNat<l.length:=by omega
 refine⟨l[v.toNat],?_,Ab0 hv⟩;have:=xe7 (Ab0 hv);rwa [show ((v.toNat:Nat):Int)=v by omega] at this
theorem xi4 {l:List D} {v:Int} (m:D.immL l=true) (h0:0<=v) (h1:v<l.length):∃d∈l,oIx (.lst l) (.int v)=some d:=by
 obtain⟨d,e,e2⟩:=xz1 h0 h1;have hd:=Aj0 e2;refine⟨d,hd,?_⟩;show im (atI l v)=_;rw[e];simp[im,we3.mp m d hd]
theorem yk3 {l:List D} {v:Int} {d:D} (m:d.imm=true) (h0:0<=v) (h:l[v.toNat]?=some d):oIx (.lst l) (.int v)=some d/\oIx (.tup l) (.int v)=some d:=by
 have h1:v<l.length:=by have:=(Ac0.mp h).1;omega
 obtain⟨d',e,e2⟩:=xz1 h0 h1;rw[h] at e2;cases e2;constructor
 ·show im (atI l v)=_
  rw[e];simp[im,m]
 ·show im (atI l v)=_
  rw[e];simp[im,m]
theorem ys8 {i j:Int}:D.eqq (.int i) (.int j)=some (i == j):=by simp only[D.eqq]
theorem ws1 {i j:Str}:D.eqq (.str i) (.str j)=some (i == j):=by simp only[D.eqq]
theorem zw0 {neg:Bool} {i j:Int}:oEq neg (.int i) (.int j)=some (.bl (if neg then !(i == j) else (i == j))):=by
 unfold oEq;rw[if_pos (by simp[D.dep]),ys8];rfl
theorem yj3 {neg:Bool} {i j:Str}:oEq neg (.str i) (.str j)=some (.bl (if neg then !(i == j) else (i == j))):=by
 unfold oEq;rw[if_pos (by simp[D.dep]),ws1];rfl
theorem yz5 {k:List Key} {g:D->D->D}:∀{ks vs:List D},ks.length=vs.length->(ze4 k ks (List.zipWith g ks vs)).isSome=(ze4 k ks vs).isSome
 | [],[],_=>rfl
 | a::ks,b::vs,h=>by
   show (ze4 k (a::ks) (g a b::List.zipWith g ks vs)).isSome=_;unfold ze4;by_cases e:ze3 a=some k
   ·rw[if_pos e,if_pos e];rfl
   ·rw[if_neg e,if_neg e];exact yz5 (by simpa using h)
 | [],_::_,h=>by cases h
 | _::_,[],h=>by cases h
theorem yz7 {k k':List Key} {v:D}:∀{ks vs:List D},ks.length=vs.length->(ze4 k (ks++[zg2 k']) (vs++[v])).isSome=((ze4 k ks vs).isSome||decide (k'=k))
 | [],[],_=>by
   show (ze4 k [zg2 k'] [v]).isSome=_;unfold ze4;rw[zk3];by_cases e:k'=k
   ·rw[if_pos (by rw[e])];simp[e]
   ·rw[if_neg (fun z=>e (Option.some.inj z))];simp[ze4,e]
 | a::ks,b::vs,h=>by
   show (ze4 k (a::(ks++[zg2 k'])) (b::(vs++[v]))).isSome=_;unfold ze4;by_cases e:ze3 a=some k
   ·rw[if_pos e,if_pos e];rfl
   ·rw[if_neg e,if_neg e];exact yz7 (by simpa using h)
 | [],_::_,h=>by cases h
 | _::_,[],h=>by cases h
theorem yh6 {k:List Key} {v:D} {ks vs:List D} (h:ks.length=vs.length):(ya2 k v ks vs).1.length=(ya2 k v ks vs).2.length/\(ya2 k v ks vs).1.length<=ks.length+1:=by
 unfold ya2;split
 ·simp[List.length_zipWith,h]
 ·simp[h]
set_option tactic.hygienic true in
theorem xy4 {k k':List Key} {v:D} {ks vs:List D} (h:ks.length=vs.length):(ze4 k (ya2 k' v ks vs).1 (ya2 k' v ks vs).2).isSome=((ze4 k ks vs).isSome||decide (k'=k)):=by
 unfold ya2;split
 ·rename_i hs
  rw[yz5 h];by_cases e:k'=k
  ·subst e;simp[hs]
  ·simp[e]
 ·exact yz7 h
noncomputable def Holds (d:D) (n:Nat) (P:List Key->Prop):Prop:=∃ks vs,d=.dct (.non::ks) vs/\D.immL vs=true/\ks.length=vs.length/\ks.length<=n/\∀k,(ze4 k ks vs).isSome=true↔P k
theorem Holds.put {ks vs:List D} {n:Nat} {P:List Key->Prop} {k:List Key} {v:D} (h:Holds (.dct (.non::ks) vs) n P) (hv:v.imm=true):Holds (.dct (.non::(ya2 k v ks vs).1) (ya2 k v ks vs).2) (n+1) (fun q=>P q\/k=q):=by
 obtain⟨ks',vs',e,h1,h2,h3,h4⟩:=h;cases e;refine⟨_,_,rfl,yk8 hv h1,(yh6 h2).1,by have:=(yh6 (k:=k) (v:=v) h2).2;omega,fun q=>?_⟩;rw[xy4 h2,Bool.or_eq_true,h4 q,decide_eq_true_eq]
theorem Holds.all:∀{ps:List (List Key×D)} {ks vs:List D} {n:Nat} {P:List Key->Prop},Holds (.dct (.non::ks) vs) n P->(∀p∈ps,p.2.imm=true)->Holds (.dct (.non::(zm0 ps (ks,vs)).1) (zm0 ps (ks,vs)).2) (n+ps.length) (fun q=>P q\/∃p∈ps,p.1=q)
 | [],ks,vs,n,P,h,_=>by
   obtain⟨ks',vs',e,h1,h2,h3,h4⟩:=h;exact⟨ks',vs',e,h1,h2,h3,fun q=>by rw[h4 q];simp⟩
 | p::ps,ks,vs,n,P,h,hv=>by
   have h':=Holds.all (ps:=ps) (h.put (k:=p.1) (hv p (by simp))) fun q hq=>hv q (by simp[hq])
   obtain⟨ks',vs',e,h1,h2,h3,h4⟩:=h';refine⟨ks',vs',e,h1,h2,by simp;omega,fun q=>?_⟩;rw[h4 q];simp only[Ai0,exists_eq_or_imp];constructor
   ·rintro ((a | a) | a)
    ·exact .inl a
    ·exact .inr (.inl a)
    ·exact .inr (.inr a)
   ·rintro (a | a | a)
    ·exact .inl (.inl a)
    ·exact .inl (.inr a)
    ·exact .inr a
theorem Holds.in_ {d k:D} {n:Nat} {P:List Key->Prop} {kk:List Key} (h:Holds d n P) (hk:ze3 k=some kk) {b:Bool} (hb:b=true↔P kk):wt3 false k d=some (.bl b)/\wt3 true k d=some (.bl (!b)):=by
 obtain⟨ks,vs,rfl,h1,h2,h3,h4⟩:=h;have e:(ze4 kk ks vs).isSome=b:=by rw[Bool.eq_iff_iff,h4,hb]
 constructor
 ·show (ze3 k).map _=_
  rw[hk];show some (D.bl (ze4 kk ks vs).isSome)=_;rw[e]
 ·show (ze3 k).map _=_
  rw[hk];show some (D.bl (!(ze4 kk ks vs).isSome))=_;rw[e]
theorem Holds.flat {d:D} {n:Nat} {P:List Key->Prop} (h:Holds d n P):d.flat=true:=by
 obtain⟨ks,vs,rfl,h1,h2,h3,h4⟩:=h;exact h1
theorem Holds.nil {n:Nat}:Holds (.dct [.non] []) n (fun _=>False):=⟨[],[],rfl,rfl,rfl,An0 _,fun k=>by simp[ze4]⟩
theorem Holds.imp {d:D} {n m:Nat} {P P':List Key->Prop} (h:Holds d n P) (hm:n<=m) (hp:∀k,P k↔P' k):Holds d m P':=by
 obtain⟨ks,vs,e,h1,h2,h3,h4⟩:=h;exact⟨ks,vs,e,h1,h2,by omega,fun k=>by rw[h4 k,hp k]⟩
noncomputable def FrT (K:PySem.W.Frag) (a:Addr) (xs:List V):Prop:=∃(o:Obj) (its:Array Value) (n:Nat),K.lookup a=some o/\o.cls=.type "tuple"/\o.data=.seq its n/\its.size<=sizeLine/\zg1 xs its.toList
theorem FrT.sq {K:PySem.W.Frag} {a:Addr} {xs:List V} {H:Hp} (h:FrT K a xs):SqT K H a xs:=.inr h
noncomputable def vl0 (K:PySem.W.Frag) (a:Addr) (tbl:List (Int×Int)):Prop:=∃vs,FrT K a vs/\vs.length=tbl.length/\∀(i:Nat) (p:Int×Int),tbl[i]?=some p->∃b,vs[i]?=some (.ref b)/\FrT K b [.int p.1,.int p.2]
section
variable {X:Cx} {S:Type} {W:Wd S} {c:Dx W} {g ga gb gc:Gr} {a b:Expr} {fa fb fc:Fn S} {pos p2:Pos}
theorem wg0 {x:Str} {i:Int} (hc:∃t,X.mg x=some (.int i t)) (hg:Gl X x) (hd:(x == ("__debug__" : Str))=false:=by decide):DE X c g (.Name x pos) (fC S (.int i)):=by
 obtain⟨t,hm⟩:=hc;exact(xt4 (v:=.int i) hg hm ⟨t,rfl⟩ hd).imp fun σ H Q ⟨ρ,st,R,ok,w⟩=>w _ _ Ext.refl ok (New.val R (show New c H H (.int _) (.int _) from Is.int_iff.mpr rfl) g)
noncomputable def ww4 (S:Type) (tbl:List (Int×Int)) (i j:Nat) (f:Fn S):FnS S:=fun ρ st=>(f ρ st).bind fun d st1=>match d with
 | .int k=>if 0<=k then match tbl[k.toNat]? with
  | some p=>(zj2 (put ρ i (.int p.1)) st1).bind fun ρ1 st2=>(zj2 (put ρ1 j (.int p.2)) st2).bind fun ρ2 st3=>.ok (.nx ρ2) st3
  | none=>.bad
   else .bad
 | _=>.bad
set_option tactic.hygienic true in
theorem ws2 {x n1 n2:Str} {e:Expr} {f:Fn S} {tbl:List (Int×Int)} {i j:Nat} {a0:Addr} {px p1 p2 pt ps:Pos} {kt} (hc:X.calm=true) (hK:c.K=X.K) (hm:∃a0,X.mg x=some (.ref a0)/\vl0 X.K a0 tbl) (hg:Gl X x) (hN:X.N.Nodup) (hi:X.N[i]?=some n1) (hj:X.N[j]?=some n2) (h1:Loc X.env.scope n1) (h2:Loc X.env.scope n2)
 (he:DE X c .R e f) (hpi:ym3 e) (hd:(x == ("__debug__" : Str))=false:=by decide)
 (hf1:X.fn n1=true\/X.env.scope.names.lookup n1=some .local:=by first | exact .inl rfl | exact .inr rfl | assumption) (hf2:X.fn n2=true\/X.env.scope.names.lookup n2=some .local:=by first | exact .inl rfl | exact .inr rfl | assumption)
 (hs:swapsWithSole [.Tuple [.Name n1 p1,.Name n2 p2] kt pt] (.Subscript (.Name x px) e ps) pos.line X.env=pure false:=by rfl) (hw:swappedStores [.Tuple [.Name n1 p1,.Name n2 p2] kt pt] (.Subscript (.Name x px) e ps) X.env=pure none:=by rfl)
 (ha:(assignEach [.Tuple [.Name n1 p1,.Name n2 p2] kt pt] X.env).map (·.2)=[assign (.Tuple [.Name n1 p1,.Name n2 p2] kt pt) X.env]:=by rfl)
 (hn:(assignEach [.Name n1 p1,.Name n2 p2] X.env).length=2:=by rfl) (hst:(assignEach [.Name n1 p1,.Name n2 p2] X.env).findIdx? (·.1)=none:=by rfl)
 (hs1:(assignEach [.Name n1 p1,.Name n2 p2] X.env).map (·.2)=assign (.Name n1 p1) X.env::(assignEach [.Name n2 p2] X.env).map (·.2):=by rfl) (hs2:(assignEach [.Name n2 p2] X.env).map (·.2)=assign (.Name n2 p2) X.env::(assignEach [] X.env).map (·.2):=by rfl) :
 DS X c (.Assign [.Tuple [.Name n1 p1,.Name n2 p2] kt pt] (.Subscript (.Name x px) e ps) pos) (ww4 S tbl i j f):=by
 obtain⟨a0,hm,vs,fr,hl,ht⟩:=hm;refine(yv9 (wo6 wi8 (xt4 (v:=.ref a0) hg hm rfl hd) he hpi) (xt1 (n:=2) hc (yc2 (yr8 (i:=i) hN hi h1 hf1) (yc2 (yr8 (i:=j) hN hj h2 hf2) xc4 hs2) hs1) hn hst) hs hw ha).imp fun D σ H hI109=>?_
 obtain⟨ρ,st,R,ok,w⟩:=hI109;refine⟨ρ,st,R,ok,za7 (za5.mp w) (fun d st1 q v H1 e1 ok1 z=>?_) fun x st1 q H' e ok'=>q H' (e.f0 R) ok'⟩;split at q
 ·rename_i k
  split at q
  ·rename_i hk
   split at q
   ·rename_i p hp
    obtain⟨ρ1,p1',q⟩:=zb7.mp (za5.mp q);obtain⟨ρ2,p2',q⟩:=zb7.mp (za5.mp q);obtain⟨l1,rfl⟩:=zq6 p1';obtain⟨l2,rfl⟩:=zq6 p2';obtain⟨b,hb,frb⟩:=ht k.toNat p hp;have z':Is c.K (fun b=>¬W.mv b) H1 (.int k) v:=z.toR;have R1:=(R.ext ok e1).setB l1 (show Is c.K (Av c σ ρ) H1 (.int p.1) (.int p.1) from Is.int_iff.mpr rfl);have R2:=R1.setB l2 (show Is c.K _ H1 (.int p.2) (.int p.2) from Is.int_iff.mpr rfl);refine⟨a0,vs,k,.ref b,rfl,Is.int_iff.mp z',fr.sq,?_,b,[.int p.1,.int p.2],rfl,frb.sq,rfl,_,_,rfl,_,_,rfl,rfl,?_⟩
    ·have:=xe7 hb
     rwa [show ((k.toNat:Nat):Int)=k by omega] at this
    ·exact q _ _ ((Ext.frm e1).trans (zh0.trans zh0)) ok1 R2
   ·exact q.elim
  ·exact q.elim
 ·exact q.elim
noncomputable def xn1 (d k x:D):Option D:=match d with
 | .dct (.non::ks) vs=>(ze3 k).bind fun kk=>im (some ((ze4 kk ks vs).getD x))
 | _=>none
noncomputable def vk3 (S:Type) (f1 f2 f3:Fn S):Fn S:=fun ρ st=>(f1 ρ st).bind fun d st1=>match d with
 | .dct (.non::ks) vs=>(f2 ρ st1).bind fun k st2=>(f3 ρ st2).bind fun x st3=>zj2 (xn1 (.dct (.non::ks) vs) k x) st3
 | _=>.bad
set_option tactic.hygienic true in
theorem vd3 {o e f:Expr} {apos cpos:Pos} (hu:X.A.units+1<cLine) (ho:DE X c ga o fa) (he:DE X c gb e fb) (hf:DE X c gc f fc) (m:M2 X o "get" apos e f cpos):DE X c g (.Call (.Attribute o "get" apos) [e,f] [] cpos) (vk3 S fa fb fc):=
 (wc5 hu ho he hf m).imp fun σ H Q hI42=>by
  obtain⟨ρ,st,R,ok,w⟩:=hI42;have w':=za5.mp w;refine⟨ρ,st,R,ok,za7 w' (fun d st1 q v H1 e1 ok1 z=>?_) fun x st1 q=>q⟩;split at q
  ·rename_i ks vs
   have z1:Is c.K (fun b=>¬W.mv b) H1 (.dct (.non::ks) vs) v:=z.toR;obtain⟨a,us,ev,n,i1,hh⟩:=Is.dct_iff.mp z1;have isd:IsD H1 a:=by
    rcases hh with⟨kk,_,_,h⟩ | ⟨kk,_,_,h⟩
    ·exact .inl ⟨_,.inl h⟩
    ·exact .inr ⟨_,.inl h⟩
   refine⟨a,ev,isd,ρ,st1,R.ext ok e1,ok1,za7 (za5.mp q) (fun k st2 q v2 H2 e2 ok2 z2=>?_) fun x st2 q H2 e2 ok2=>q H2 (e1.trans e2) ok2⟩;have R2:=(R.ext ok e1).ext ok1 e2;refine⟨ρ,st2,R2,ok2,za7 (za5.mp q) (fun x st3 q v3 H3 e3 ok3 z3=>?_) fun x st3 q H3 e3 ok3=>q H3 ((e1.trans e2).trans e3) ok3⟩;obtain⟨dd,e4,q⟩:=zb7.mp q;have et:=(e1.trans e2).trans e3;have R3:=R2.ext ok2 e3;have y1:Is c.K (fun b=>¬W.mv b) H3 (.dct (.non::ks) vs) v:=(z1.ext e2 ok1 fun _ n=>n).ext e3 ok2 fun _ n=>n
   have y2:Is c.K (fun b=>¬W.mv b) H3 k v2:=z2.toR.ext e3 ok2;have y3:Is c.K (fun b=>¬W.mv b) H3 x v3:=z3.toR;cases hk:ze3 k with
   | none=>unfold xn1 at e4;rw[hk] at e4;cases e4
   | some kk=>
     have e4:im (some ((ze4 kk ks vs).getD x))=some dd:=by unfold xn1 at e4;rw[hk] at e4;exact e4
     obtain⟨e5,im5⟩:=xd6 e4;obtain⟨a',o',ea,gd,hcase⟩:=wj7 hk y2 y1;rw[ev] at ea;have ea:a=a':=by cases ea;rfl
     subst ea;refine⟨o',gd,q _ H3 et ok3 ?_⟩;have y:Is c.K (fun b=>¬W.mv b) H3 dd (o'.getD v3):=by
      rcases hcase with⟨h1,h2⟩ | ⟨d',v',h1,h2,h3⟩
      ·rw[h1] at e5;rw[h2]
       cases e5;exact y3
      ·rw[h1] at e5;rw[h2]
       cases e5;exact h3
     exact(New.val R3 (show New c H3 H3 dd _ from Is.ofImm im5 y) g).back et ok3
  ·exact q.elim
noncomputable def vi8:D->D->Option D
 | .lst l,.int k=>if D.immL l=true/\-(2 ^ 63)<=k/\k<2 ^ 63/\l.length*k.toNat<=sizeLine then some (.lst (List.replicate k.toNat l).flatten) else none
 | _,_=>none
theorem wi1 {K:PySem.W.Frag} {A:Addr->Prop} {H:Hp} {l:List D} {vs:List V} (h:IsL K A H l vs):∀k:Nat,IsL K A H (List.replicate k l).flatten (List.replicate k vs).flatten
 | 0=>IsL.nil.mpr rfl
 | k+1=>by
   rw[Bn0,Bn0,Bz0,Bz0];exact h.append (wi1 h k)
theorem xi8 {l:List D} (h:D.immL l=true):∀k:Nat,D.immL (List.replicate k l).flatten=true
 | 0=>rfl
 | k+1=>by
   rw[Bn0,Bz0];exact zh6 h (xi8 h k)
set_option tactic.hygienic true in
theorem wz3:OpD c ve3 vi8:=by
 intro d1 d2 v1 v2 H st d Q ok h1 h2 e q;unfold vi8 at e;split at e
 ·rename_i l k
  split at e
  ·rename_i hc
   cases e;obtain⟨a,us,ea,n,s1,i3⟩:=Is.lst_iff.mp h1;refine⟨a,k,us,ea,Is.int_iff.mp h2,s1,hc.2.1,hc.2.2.1,by rw[<-i3.length];exact hc.2.2.2,fun p hp=>?_⟩;exact q _ _ (Ext.laid hp) (zj4 ok hp) (New.lst ok hp (fun _ n=>n) (xi8 hc.1 _) (wi1 i3 _))
  ·cases e
 ·cases e
noncomputable def wp9 (a b:D):Option D:=(iOp xp9 (fun i j=>.int (i*j)) a b).or (vi8 a b)
theorem xc9:OpR X (binaryOp .Mult) (fun x y H Q=>rI xp9 (fun i j=>.int (i*j)) x y H Q\/ve3 x y H Q):=yi8.or wz0
theorem xd0:OpD c (fun x y H Q=>rI xp9 (fun i j=>.int (i*j)) x y H Q\/ve3 x y H Q) wp9:=wz6.or wz3
end
section
variable {S:Type} {E:Exn->S->Prop} {ρ:Rho} {st:S}
theorem wp_sTab2 {Q:Fl->S->Prop} {i j:Nat} {f:Fn S} {tbl:List (Int×Int)}:wpR (ww4 S tbl i j f ρ st) Q E↔wpR (f ρ st) (fun d st1=>∃k p,d=.int k/\0<=k/\tbl[k.toNat]?=some p/\∃ρ1,put ρ i (.int p.1)=some ρ1/\∃ρ2,put ρ1 j (.int p.2)=some ρ2/\Q (.nx ρ2) st1) E:=wpB fun d st1=>by
 cases d with
 | int k=>
   refine xd9 ?_;refine(yu2.trans ?_).trans exists_and_left.symm;refine and_congr Iff.rfl ?_;cases tbl[k.toNat]? with
   | none=>exact yl3
   | some p=>exact yl2 (yq7 fun _=>yq8)
 | _=>exact xx5 fun b e=>by cases e
set_option tactic.hygienic true in
theorem wp_fGet {Q:D->S->Prop} {f1 f2' f3:Fn S}:wpR (vk3 S f1 f2' f3 ρ st) Q E↔wpR (f1 ρ st) (fun d st1=>∃ks vs,d=.dct (.non::ks) vs/\wpR (f2' ρ st1) (fun k st2=>wpR (f3 ρ st2) (fun x st3=>wpR (zj2 (xn1 (.dct (.non::ks) vs) k x) st3) Q E) E) E) E:=by
 unfold vk3;rw[za5];refine iff_of_eq (congrArg (fun z=>wpR (f1 ρ st) z E) (funext fun d=>funext fun st1=>propext ?_));by_cases hd:∃ks vs,d=.dct (.non::ks) vs
 ·obtain⟨ks,vs,rfl⟩:=hd
  show wpR ((f2' ρ st1).bind fun k st2=>(f3 ρ st2).bind fun x st3=>zj2 (xn1 (.dct (.non::ks) vs) k x) st3) Q E↔_;rw[za5];simp only[za5];exact⟨fun q=>⟨ks,vs,rfl,q⟩,fun ⟨ks',vs',e,q⟩=>by cases e;exact q⟩
 ·constructor
  ·intro q
   split at q
   ·rename_i ks vs
    exact absurd ⟨ks,vs,rfl⟩ hd
   ·exact q.elim
  ·rintro ⟨ks,vs,rfl,_⟩
   exact absurd ⟨ks,vs,rfl⟩ hd
end
theorem wa8 {K:PySem.W.Frag} {a b0 b1 b2 b3:Addr} {p0 p1 p2 p3:Int×Int} {od od0 od1 od2 od3:Option Addr} {sl sl0 sl1 sl2 sl3:Array (Option Value)} {n n0 n1 n2 n3:Nat} {t0 t1 t2 t3 u0 u1 u2 u3:Tok}
 (h:K.lookup a=some ⟨.type "tuple",od,.seq #[.ref b0,.ref b1,.ref b2,.ref b3] n,sl⟩) (h0:K.lookup b0=some ⟨.type "tuple",od0,.seq #[.int p0.1 t0,.int p0.2 u0] n0,sl0⟩) (h1:K.lookup b1=some ⟨.type "tuple",od1,.seq #[.int p1.1 t1,.int p1.2 u1] n1,sl1⟩)
 (h2:K.lookup b2=some ⟨.type "tuple",od2,.seq #[.int p2.1 t2,.int p2.2 u2] n2,sl2⟩) (h3:K.lookup b3=some ⟨.type "tuple",od3,.seq #[.int p3.1 t3,.int p3.2 u3] n3,sl3⟩):vl0 K a [p0,p1,p2,p3]:=by
 have pr:∀{b:Addr} {p:Int×Int} {od:Option Addr} {sl:Array (Option Value)} {n:Nat} {t u:Tok},K.lookup b=some ⟨.type "tuple",od,.seq #[.int p.1 t,.int p.2 u] n,sl⟩->FrT K b [.int p.1,.int p.2]:=fun {b p od sl n t u} h=>
  ⟨_,_,_,h,rfl,rfl,by show 2<=sizeLine;decide,.cons ⟨t,rfl⟩ (.cons ⟨u,rfl⟩ .nil)⟩
 refine⟨[.ref b0,.ref b1,.ref b2,.ref b3],⟨_,_,_,h,rfl,rfl,by show 4<=sizeLine;decide,.cons rfl (.cons rfl (.cons rfl (.cons rfl .nil)))⟩,rfl,fun i p hp=>?_⟩
 match i,hp with
 | 0,hp=>cases hp;exact⟨b0,rfl,pr h0⟩
 | 1,hp=>cases hp;exact⟨b1,rfl,pr h1⟩
 | 2,hp=>cases hp;exact⟨b2,rfl,pr h2⟩
 | 3,hp=>cases hp;exact⟨b3,rfl,pr h3⟩
 | i+4,hp=>simp at hp
end L2
namespace PySem
section
variable {prog:Program} {w:World} {A:Around} {E:Value->Shared->Prop} {s:Shared}
theorem wr6 {T nid:String} {me:Value} {more:List Value} {kw:List (Str×Value)} (hl:typeLookup (.type T) "__init__" = pure (some (.builtin "object.__init__")))
 (hm:Bind.madeBy (.type T)=pure (some nid)) (hne:(some nid != some "object.__new__")=true):Meets (Builtin.«object.__init__» ⟨me::more,kw⟩) (fun _ R s=>s.TypeIs me T/\R (.ok (.ret .none)) s):=
 .of_wp fun prog w A R s hs=>by
  obtain⟨hT,hq⟩:=hs;cases more with
  | nil=>
    cases kw with
    | nil=>exact Ac1 ⟨_,rfl,hq⟩
    | cons=>
      repeat (any_goals (first | assumption | wp_step))
      exact⟨_,rfl,hq⟩
  | cons=>
    repeat (any_goals (first | assumption | wp_step))
    exact⟨_,rfl,hq⟩
theorem wg7 {T nid:String} {B:Builtin} {vs:List Value} {kw:List (Str×Value)} {S:Spec} {Q:Value->Shared->Prop} (ft:TypeCalled T nid "object.__init__") (hne:(some nid != some "object.__new__")=true)
 (hct:checkTypeCall T ⟨vs,kw⟩=pure ()) (hcn:checkBuiltinCall nid ⟨.type T::vs,kw⟩=pure ()) (hok:∀x,argsOk "object.__init__" ⟨x::vs,kw⟩) (eN:entryFor table nid=some B)
 (g:Meets (B ⟨.type T::vs,kw⟩) S) (h:S A.in1 (wants (fun x s1=>s1.TypeIs x T/\Q x s1) E) s):wpAny (model prog w) A (call (.type T) vs kw) Q E s:=by
 obtain⟨c,tl,hmro⟩:=ft.mro;have hmade:=ft.made;have hsub:=ft.sub;refine wpAny_call (codeAny_of_tree (Ac1 ⟨Code.quiet_builtin _ (by decide +kernel),codeAny_builtin F.entry_type_call ?_⟩));rw[Around.under_plain (weight_type_call_type T vs kw) (units_type_call_type T vs kw)];have h1:=ft.notType;have h2:=ft.canCreate;repeat (any_goals (first | assumption | wp_step))
 refine codeAny_mono (codeAny_call_builtin ft.plain eN (wpAny_of_eq hcn (g prog w A.in1 _ s h))) fun r s1 hr=>?_
 cases r with
 | error e=>exact hr
 | ok fl=>
   cases fl with
   | ret x=>
     have hT:s1.TypeIs x T:=hr.1;have hli:=ft.init.lookup;have hbi:=ft.init.bind x;repeat (any_goals (first | assumption | wp_step))
     refine codeAny_mono (codeAny_call_builtin ft.init.plain F.entry_object_init (ft.init.check _ _ _ _ _ _ _ _ hr.1 (hok x) (wr6 ft.init.lookup ft.made hne prog w A.in1 (wants (fun r s2=>r=.none/\Q x s2) E) s1 ⟨hr.1,rfl,hr.2⟩))) fun r2 s2 hr2=>?_
     cases r2 with
     | error e=>exact hr2
     | ok f2=>
       cases f2 with
       | ret r=>
         obtain⟨rfl,hq⟩:=hr2;repeat (any_goals (first | assumption | wp_step))
       | _=>exact hr2.elim
   | _=>exact hr.elim
end
set_option tactic.hygienic true in
theorem yj9 (l:Addr) (t:Tok) (items:Array Value) (n:Nat) (dct:Option Addr) (sl:Array (Option Value)) :
 Meets (Builtin.«enumerate.__new__» ⟨[.type "enumerate",.ref l],[("start",.int 1 t)]⟩) (fun _ R s=>s.heap.get? l=some { cls:=.type "list",dict:=dct,data:=.seq items n,slots:=sl }/\
  R (.ok (.ret (.ref (s.heap.push { cls:=.type "list_iterator",data:=.fields #[.ref l,.int 0 0] }).objs.size)))
    { s with heap:=(s.heap.push { cls:=.type "list_iterator",data:=.fields #[.ref l,.int 0 0] }).push { cls:=.type "enumerate",data:=.fields #[.none,.bool false,.ref s.heap.objs.size,rawInt 1,.none,.none] } }):=
 .of_wp fun prog w A R s h=>by
  obtain⟨hp,g,d,tk,os⟩:=s;obtain⟨hl,h⟩:=h;have hsub:=sub_enumerate;have hL:Heap.IsList (Shared.heap ⟨hp,g,d,tk,os⟩) l items:=⟨_,hl,rfl,n,rfl⟩
  wp_walk using AutoSeq1.wpAny_loadPart' hl
  refine wpAny_stack_any fun st=>Ac1 ?_
  split
  ·rename_i c _ _ _ _ _
   cases (c == Value.type "enumerate")<;>(wp_walk using AutoSeq1.wpAny_loadPart' hl,wpAny_pyIter_list hL;exact⟨_,rfl,h⟩)
  ·(wp_walk using AutoSeq1.wpAny_loadPart' hl,wpAny_pyIter_list hL;exact⟨_,rfl,h⟩)
section
variable {prog:Program} {w:World} {A:Around} {E:Value->Shared->Prop} {s:Shared}
theorem wm3 (a v:Value):checkTypeCall "enumerate" ⟨[a],[("start",v)]⟩=pure ():=by kernel_rfl
theorem wq5 (a v:Value):checkBuiltinCall "enumerate.__new__" ⟨[.type "enumerate",a],[("start",v)]⟩=pure ():=by kernel_rfl
theorem yx0 (x a v:Value):argsOk "object.__init__" ⟨[x,a],[("start",v)]⟩:=by kernel_rfl
theorem xp2 {l:Addr} {t:Tok} {items:Array Value} {Q:Value->Shared->Prop} (hL:s.heap.IsList l items)
 (h:∀h',IsEnum h' (s.heap.objs.size+1) s.heap.objs.size 1 .none->h'.IsListIter s.heap.objs.size l 0->(∀b o,s.heap.get? b=some o->h'.get? b=some o)->Q (.ref (s.heap.objs.size+1)) { s with heap:=h' }) :
 wpAny (model prog w) A (call (.type "enumerate") [.ref l] [("start",.int 1 t)]) Q E s:=by
 obtain⟨⟨c,dct,dt,sl⟩,hl,hc,n,hd⟩:=hL;have hc:c=.type "list":=hc;have hd:dt=.seq items n:=hd;subst hc hd;refine wg7 F.called_enumerate (by decide) (wm3 _ _) (wq5 _ _) (fun x=>yx0 x _ _) F.entry_enumerate_new (yj9 l t items n dct sl) ⟨hl,?_⟩;generalize hg:s.heap.push { cls:=.type "list_iterator",data:=.fields #[.ref l,.int 0 0] }=g;have hz:g.objs.size=s.heap.objs.size+1:=by rw[<-hg];exact Bo0 ..
 have he:IsEnum (g.push { cls:=.type "enumerate",data:=.fields #[.none,.bool false,.ref s.heap.objs.size,rawInt 1,.none,.none] }) (s.heap.objs.size+1) s.heap.objs.size 1 .none:=by
  have:=Ak0 g (o:={ cls:=.type "enumerate",data:=.fields #[.none,.bool false,.ref s.heap.objs.size,rawInt 1,.none,.none] }) rfl;rw[hz] at this;exact this
 have hi:g.get? s.heap.objs.size=some { cls:=.type "list_iterator",data:=.fields #[.ref l,.int 0 0] }:=by rw[<-hg];exact Ak0 _ rfl
 show _/\_;rw[hz];exact⟨⟨_,he,rfl⟩,h _ he ⟨_,Ad0 _ hi,rfl,rfl⟩ fun b o x=>Ad0 _ (by rw[<-hg];exact Ad0 _ x)⟩
end
end PySem
namespace L2
noncomputable def vl5 (b:Nat) (Sq:Hp->List V->Prop):It:=
 ⟨fun i H=>∃xs x,Sq H xs/\xs[i]?=some x,fun i H v H'=>∃p x,H p=none/\v=.ref p/\H'=upd H p (.tup [.int (i+b:Nat),x])/\∀xs,Sq H xs->xs[i]?=some x,fun i H=>∃xs,Sq H xs/\xs.length<=i⟩
set_option tactic.hygienic true in
theorem xm1 {P:Program} {w:World} {K:PySem.W.Frag} {elts:List Expr} {x1} {pos:Pos} (b:Nat) (a e it:Addr):wk1 P w K (.Tuple elts x1 pos) (vl5 b fun H xs=>H a=some (.lst xs)) [e,it] e (fun i h=>e≠it/\(∃old,IsEnum h e it (i+b:Nat) old)/\h.IsListIter it a i) where
 mem:=by simp
 obj:=fun i h st c hb=>by
  obtain⟨hne,⟨old,he⟩,o,ho,_,d⟩:=st;rcases Ai0.mp hb with z | hb
  ·subst z
   exact⟨_,he,fun v z=>by
    have z':Data.fields _=Data.cell v:=z;cases z'⟩
  ·have z:c=it:=by simpa using hb
   subst z;exact⟨o,ho,fun v z=>by rw[d] at z;cases z⟩
 keep:=fun i h h' st k=>by
  obtain⟨hne,⟨old,he⟩,hi⟩:=st;exact⟨hne,⟨old,k e (by simp) _ he⟩,hi.at fun o q=>k it (by simp) o q⟩
 item:=by
  intro X hP hw hK hc i A3 s σ H E I hf st hg;subst hP hw hK;obtain⟨xs,x,hq,hx⟩:=hg;obtain⟨hne,⟨old,he⟩,hi⟩:=st;obtain⟨its,rv,p,hz⟩:=I.list (SqL.of hq);obtain⟨u,hu,ru⟩:=rv.get hx;have hT:s.TypeIs (.ref e) "enumerate":=⟨_,he,rfl⟩;unfold pyNext;refine Aa1 (wpAny_attempt (wpAny_callSpecial?_slot (name:=Str.ofString "__next__") hT F.slot_enumerate_next (Ak1 F.slot_enumerate_next hT F.entry_enumerate_next (yz2 (T:=fun h=>h.IsListIter it a (i+1)) he hne (fun h h' t q=>t.at q) (fun Q' hQ'=>wpAny_nextOf_list_item hi p.isList (x:=u) (by simpa using hu) hQ') fun h' ho hi' ht hs kk=>Ac1 ?_) (F.args_enumerate_next_1 _))));refine⟨_,rfl,wpAny_letOwnedTupleGo_enum (s:={ s with heap:=h',toks:=s.toks+1 }) ho fun h2 he2 sb2=>?_⟩;have sb2:Heap.SameBut e h' h2:=sb2;have pe:s.heap.objs.size≠e:=Nat.ne_of_gt (Heap.lt_size he);have k2:∀b o,b∉[e,it]->s.heap.get? b=some o->h2.get? b=some o:=fun b o hb q=>by
   have h1:b≠e:=fun z=>hb (by simp[z])
   have h3:b≠it:=fun z=>hb (by simp[z])
   exact sb2.extBut b o h1 (kk b o h1 h3 q)
  have tt:IsTup h2 s.heap.objs.size [Value.int (i+b:Nat) s.toks,u].toArray:=⟨_,sb2.extBut _ _ pe ht,rfl,_,rfl⟩;have nn:∀b∈[e,it],b≠s.heap.objs.size:=fun b hb z=>by
   obtain⟨o1,ho1,_⟩:=id hi;rcases Ai0.mp hb with y | y
   ·exact pe (by rw[<-z,y])
   ·have y:b=it:=by simpa using y
    rw[z] at y;rw[<-y] at ho1;exact absurd (Heap.lt_size ho1) (Bs0 _)
  refine⟨.ref s.heap.objs.size,_,I.turnedT (p:=s.heap.objs.size) (vs:=[.int (i+b:Nat),x]) hf k2 (Ae0 _) (.cons ⟨_,rfl⟩ (.cons ru .nil)) (by show 2<=sizeLine;decide) tt,rfl,⟨_,x,I.hok.fresh (Ae0 _),rfl,rfl,fun ys hy=>by rw[I.list_inj (SqL.of hy) (SqL.of hq)];exact hx⟩,⟨hne,⟨u,?_⟩,?_⟩,fun b hb=>?_⟩
  ·have:((i+1+b:Nat):Int)=((i+b:Nat):Int)+1:=by omega
   rw[this];exact he2
  ·exact hi'.extBut sb2.extBut (Ne.symm hne)
  ·rw[zb2 (nn b hb)];exact(hf b hb).1
 done:=by
  intro X hP hw hK hc i A3 s σ H E I hf st hg;subst hP hw hK;obtain⟨xs,hq,hx⟩:=hg;obtain⟨hne,⟨old,he⟩,hi⟩:=st;obtain⟨its,rv,p,hz⟩:=I.list (SqL.of hq);have hl:=rv.length;have hT:s.TypeIs (.ref e) "enumerate":=⟨_,he,rfl⟩;unfold pyNext;refine Aa1 (wpAny_attempt (wpAny_callSpecial?_slot (name:=Str.ofString "__next__") hT F.slot_enumerate_next (Ak1 F.slot_enumerate_next hT F.entry_enumerate_next ?_ (F.args_enumerate_next_1 _))));refine Aa1 (m:=field (.ref e) 2) (Ae1 he rfl (x:=.ref it) rfl ?_);refine Aa1 (wpAny_nextOf_list_end (I.ok.hd hc) hi p.isList (by simp;omega) fun h' x he' hx'=>?_);obtain⟨o,ho,hcls⟩:=hx';refine Aa1 (wpAny_isInstance (T:="StopIteration") (b:=true) ⟨o,ho,hcls⟩ isSubtype_stop (Ac1 ⟨rfl,I.turnedF hf fun b o hb q=>he' b o (fun z=>hb (by simp[z])) q⟩))
 self:=fun _ _ _ _ _ st h=>let ⟨_,⟨_,he⟩,_⟩:=st;wpAny_pyIter_enum he h
section
variable {M:Model} {A:Around} {E:Value->Shared->Prop} {s:Shared} {env:Env}
theorem yt8 {pos:Pos} {T:String} {e:Expr} {zy3:List Expr} {kws:List Keyword} {Q:Value->Shared->Prop}
 (h:wpAny M A (spliced (backTo pos (starEach (e::zy3) env))) (fun vs s1=>wpAny M A (evalAll ((backToKw pos (keywordEach kws env)).map (·.2)))
  (fun ks s2=>wpAny M A (call (.type T) vs (((backToKw pos (keywordEach kws env)).filterMap (·.1)).zip ks)) Q E s2) E s1) E s)
 (he:backTo pos (starEach (e::zy3) env)=(false,eval e env)::backTo pos (starEach zy3 env):=by rfl)
 (hp:(backTo pos (starEach (e::zy3) env)).any (·.1)=false:=by rfl)
 (ha:(backToKw pos (keywordEach kws env)).all (·.1.isSome)=true:=by rfl)
 (hk:(backToKw pos (keywordEach kws env)).any (·.1.isNone)=false:=by rfl) :
 wpAny M A (callWith pos (.type T) [] (backTo pos (starEach (e::zy3) env)) (backToKw pos (keywordEach kws env))) Q E s:=by
 unfold callWith;have h':wpAny M A (evalArgs (.type T) true (backTo pos (starEach (e::zy3) env)) (backToKw pos (keywordEach kws env))) (fun a s1=>wpAny M A (call (.type T) ([]++a.pos) a.kw) Q E s1) E s:=by
  rw[he] at h ⊢;exact evalArgs_kwB ha h
 refine Aa1 (wpAny_holding (Ah1 h' (fun a s1 h1=>Aa1 (wpAny_standAt ?_)) fun _ _ x=>x));simp only[hp,hk,Bool.or_false];refine Aa1 (Ac1 ?_);exact Aa1 (Ah1 h1 (fun r s2 hr=>Aa1 (wpAny_holding (wpAny_point (Ac1 hr)))) fun _ _ x=>x)
end
section
variable {X:Cx} {elts:List Expr} {x1:Nat} {tpos:Pos}
noncomputable def vm8 (b:Nat) (ta:TA):TI:=fun σ H R=>ta σ H fun vs H1=>∃a xs,vs=[.ref a]/\H1 a=some (.lst xs)/\R (vl5 b fun H xs=>H a=some (.lst xs)) H1
theorem wc2 {a:Expr} {ta:TA} {p pos kp cp:Pos} {j} (hg:Gl X "enumerate") (hm:X.mg "enumerate" = none) (ha:PA X [a] ta) (hs:starEach [a] X.env=[(false,eval a X.env)]:=by rfl):PI X (.Tuple elts x1 tpos) (.Call (.Name "enumerate" p) [a] [⟨some "start",.Constant (.int 1) j cp,kp⟩] pos) (vm8 1 ta):=by
 intro A3 s σ H R I h;show wpAny _ _ (do callWith pos (<-eval (.Name "enumerate" p) X.env) [] (backTo pos (starEach [a] X.env)) (backToKw pos (keywordEach [⟨some "start",.Constant (.int 1) j cp,kp⟩] X.env))) _ _ _;refine Aa1 (yk1 I hg hm boot_enumerate (yt8 (thn (ha pos A3 s σ H _ I h) fun us s1 ⟨vs,H1,I1,r1,q1⟩=>kws_cons (thn (zk1 A3 s1 σ H1 (fun v H'=>v=.int 1/\H'=H1) I1 ⟨rfl,rfl⟩) fun u s2 ⟨v,H2,I2,r2,q2⟩=>kws_nil ?_)) (by rw[hs];rfl) (by rw[hs];rfl)));obtain⟨rfl,rfl⟩:=q2;obtain⟨t,rfl⟩:=r2;obtain⟨l,xs,rfl,hq,q⟩:=q1;cases r1 with
 | cons r rr=>
   cases rr;cases r;obtain⟨its,rv,pt,hz⟩:=I2.list (SqL.of hq);refine xp2 (t:=t) pt.isList fun h' he hi kk=>?_
   refine wpAny_pyIter_enum (s:={ s2 with heap:=h' }) he ?_;refine⟨s2.heap.objs.size+1,[s2.heap.objs.size+1,s2.heap.objs.size],_,_,H2,rfl,I2.kept (t':=s2.toks) kk,xm1 1 l _ _,⟨Nat.succ_ne_self _,⟨_,he⟩,hi⟩,fun b hb=>?_,q⟩;have hb:s2.heap.objs.size<=b:=by
    rcases Ai0.mp hb with z | z
    ·rw[z];exact Nat.le_succ _
    ·exact Nat.le_of_eq (Am0.mp z).symm
   exact I2.fpOk hb (I2.hok.fresh hb)
end
section
variable {X:Cx} {elts:List Expr} {x1:Nat} {tpos:Pos} {S:Type} {W:Wd S} {c:Dx W}
noncomputable def wd4 (b:Nat) (l:List D):List D:=(l.zipIdx b).map fun p=>.tup [.int p.2,p.1]
noncomputable def xh3 (b:Nat):List D->Option (List D)
 | [.lst l]=>some (wd4 b l)
 | _=>none
theorem xh4 {b:Nat} {l:List D} {i:Nat} {d:D} (h:(wd4 b l)[i]?=some d):∃x,l[i]?=some x/\d=.tup [.int (i+b:Nat),x]:=by
 unfold wd4 at h;rw[Ag0,List.getElem?_zipIdx] at h;cases q:l[i]? with
 | none=>rw[q] at h;cases h
 | some x=>rw[q] at h;cases h;exact⟨x,rfl,by rw[Nat.add_comm]⟩
theorem yj4 (b:Nat) (l:List D):(wd4 b l).length=l.length:=by unfold wd4;rw[Aa0,List.length_zipIdx]
theorem xo6 {b:Nat} {a:Addr} {σ:St} {ρ:Rho} {H1:Hp} {l:List D} {xs:List V} (n0:Av c σ ρ a) (s0:H1 a=some (.lst xs)) (i1:IsL c.K (Av c σ ρ) H1 l xs):xk8 c σ ρ H1 (vl5 b fun H xs=>H a=some (.lst xs)) (wd4 b l):=by
 intro c' hK' σ2 ρ2 H2 st2 k R2 ok2 j;have s2:H2 a=some (.lst xs):=(k.nod a _ n0 s0).2;have i2:IsL c.K (Av c' σ2 ρ2) H2 l xs:=i1.mono k;refine⟨fun d hd=>?_,fun hl=>⟨xs,s2,by rw[yj4] at hl;rw[<-i2.length];exact hl⟩⟩;obtain⟨y,hy,rfl⟩:=xh4 hd;obtain⟨v1,hv,iv⟩:=i2.get hy;refine⟨⟨xs,v1,s2,hv⟩,?_⟩;rintro x H3 ⟨pp,x',hpn,rfl,rfl,hx⟩;have:=hx xs s2;rw[hv] at this;cases this;have sm:yt9 H2 (upd H2 pp (.tup [.int (j+b:Nat),v1])):=fun b o hb=>by rw[zb2 (zb6 hb hpn)];exact hb
 refine⟨sm,Is.tup zb5 (IsL.cons.mpr ⟨_,_,rfl,Is.int_iff.mpr rfl,IsL.one ?_⟩)⟩;exact iv.mono (zl3 (fun b o hb _=>sm b o hb) fun b o a hb=>⟨a,sm b o hb⟩)
set_option tactic.hygienic true in
theorem wf7 {e a:Expr} {f:FnA S} {b:Nat} (h:∀ta,PA X [a] ta->PI X (.Tuple elts x1 tpos) e (vm8 b ta)) (ha:DB X c [a] f):DI X c (.Tuple elts x1 tpos) e (xd7 S (xh3 b) f):=
 (h _ ha).imp fun σ H R hI43=>by
  obtain⟨ρ,st,R0,ok,w⟩:=hI43;refine⟨ρ,st,R0,ok,za7 (za5.mp w) (fun l st1 q vs H1 e ok1 z=>?_) fun x st1 q=>q⟩;obtain⟨m,e1,q⟩:=zb7.mp q;unfold xh3 at e1;split at e1
  ·rename_i l
   cases e1;obtain⟨v,r,e2,i2,i3⟩:=IsL.cons.mp z;obtain⟨a,xs,ea,n0,s0,i⟩:=Is.lst_iff.mp i2;rw[IsL.nil.mp i3,ea] at e2;exact⟨a,xs,e2,s0,q _ H1 e ok1 (xo6 n0 s0 i)⟩
  ·cases e1
theorem wf8 {a:Expr} {f:FnA S} {p pos kp cp:Pos} {j} (hg:Gl X "enumerate") (hm:X.mg "enumerate" = none) (ha:DB X c [a] f) (hs:starEach [a] X.env=[(false,eval a X.env)]:=by rfl):DI X c (.Tuple elts x1 tpos) (.Call (.Name "enumerate" p) [a] [⟨some "start",.Constant (.int 1) j cp,kp⟩] pos) (xd7 S (xh3 1) f):=
 wf7 (fun _ h=>wc2 hg hm h hs) ha
end
section
variable {X:Cx} {S:Type} {W:Wd S} {c:Dx W} {i:Nat}
end
section
variable {X:Cx} {S:Type} {W:Wd S} {c:Dx W} {g ga gb gc:Gr} {a b:Expr} {fa fb fc:Fn S} {pos p2:Pos} {A3:List (Addr×Obj)} {σ:St} {H:Hp} {s:Shared} {A:Addr->Prop}
end
section
variable {X:Cx} {S:Type} {W:Wd S} {c:Dx W} {g ga gb gc:Gr} {H1:Hp} {σ:St} {ρ:Rho} {st1:S} {A:Addr->Prop}
end
section
variable {X:Cx} {S:Type} {W:Wd S} {c:Dx W} {i:Nat}
section
variable {Q:Fl->S->Prop} {E:Exn->S->Prop} {ρ:Rho} {st:S}
end
end
end L2
namespace PySem
section
variable {prog:Program} {w:World} {A:Around} {E:Value->Shared->Prop} {s:Shared}
end
end PySem
namespace L2
section
variable {X:Cx} {elts:List Expr} {x1:Nat} {tpos:Pos} {S:Type} {W:Wd S} {c:Dx W}
end
section
variable {X:Cx} {S:Type} {W:Wd S} {c:Dx W} {g ga:Gr} {H:Hp} {st:S}
end
end L2
namespace Ts
open PySem PyProof.Rows
section
variable {prog:Program} {w:World} {A:Around} {E:Value->Shared->Prop} {s:Shared} {κ:KeyKind} {knd:SortKind}
noncomputable def Cmp (prog:Program) (w:World) (A:Around) (E:Value->Shared->Prop) (s:Shared) (κ:KeyKind) (knd:SortKind):Prop:=
 ∀(st:SortSt) (x y:Keyed) (a b:κ.α) (Q:Option Bool->SortSt->Prop),kindOf st=knd->κ.keyOf x.1=some a->κ.keyOf y.1=some b->Q (some (κ.blt a b)) st->wpS (model prog w) A E s (lt' x y) Q st
noncomputable def ky (κ:KeyKind) (x:Keyed):κ.α:=(κ.keyOf x.1).getD κ.dflt
structure Bs (a₀:Array Keyed) (knd:SortKind) (P:Array (Nat×Nat×Nat)) (st:SortSt):Prop where
 perm:(arrOf st).Perm a₀
 kind:kindOf st=knd
 fail:failedOf st=none
 pend:pendingOf st=P
variable {a₀:Array Keyed} {P:Array (Nat×Nat×Nat)} {st:SortSt}
theorem Bs.size (B:Bs a₀ knd P st):(arrOf st).size=a₀.size:=B.perm.size_eq
theorem Bs.arr (B:Bs a₀ knd P st) {xs:Array Keyed} (h:xs.Perm (arrOf st)):Bs a₀ knd P (setArr st xs):=⟨h.trans B.perm,B.kind,B.fail,B.pend⟩
theorem Bs.at (B:Bs a₀ knd P st) (h0:KeysOf κ a₀) {i:Nat} (hi:i<a₀.size):∃x a,(arrOf st)[i]?=some x/\κ.keyOf x.1=some a/\KK κ (arrOf st) i=a:=by
 have hi':i<(arrOf st).size:=by rw[B.size];exact hi
 have hm:(arrOf st)[i]∈a₀.toList:=(Array.perm_iff_toList_perm.mp B.perm).mem_iff.mp (Array.getElem_mem_toList hi');obtain⟨a,ha⟩:=h0 _ hm;have e:(arrOf st)[i]?=some (arrOf st)[i]:=Cb0 hi';refine⟨_,a,e,ha,?_⟩;unfold KK;rw[e];show (κ.keyOf (arrOf st)[i].1).getD κ.dflt=a;rw[ha];rfl
theorem yi0 (C:Cmp prog w A E s κ knd) (h0:KeysOf κ a₀) (B:Bs a₀ knd P st) {i j:Nat} (hi:i<a₀.size) (hj:j<a₀.size) {Q:Option Bool->SortSt->Prop}
 (h:Q (some (κ.blt (KK κ (arrOf st) i) (KK κ (arrOf st) j))) st):wpS (model prog w) A E s (ltAt' i j) Q st:=by
 obtain⟨x,a,e1,k1,r1⟩:=B.at h0 hi;obtain⟨y,b,e2,k2,r2⟩:=B.at h0 hj;rw[ltAt'_eq];refine Ab1 (wpS_get ?_);show wpS _ _ _ _ (elem' (arrOf st) i >>= fun x=>elem' (arrOf st) j >>= fun y=>lt' x y) Q st;rw[elem'_eq,elem'_eq,e1,e2];refine Ab1 (Ad1 (Ab1 (Ad1 (C st x y a b Q B.kind k1 k2 ?_))));rw[<-r1,<-r2];exact h
noncomputable def Up (κ:KeyKind) (xs:Array Keyed) (lo hi:Nat):Prop:=∀i j,lo<=i->i<=j->j<hi->κ.kle (KK κ xs i) (KK κ xs j)
noncomputable def Dn (κ:KeyKind) (xs:Array Keyed) (lo hi:Nat):Prop:=∀i j,lo<=i->i<=j->j<hi->κ.kle (KK κ xs j) (KK κ xs i)
theorem Up.one {xs:Array Keyed} {lo hi:Nat} (h:hi<=lo+1):Up κ xs lo hi:=fun i j h1 h2 h3=>by
 have:i=j:=by omega
 subst this;exact KeyOrd.kle_refl _
theorem Up.snoc {xs:Array Keyed} {lo n:Nat} (h:Up κ xs lo (lo+n)) (h1:1<=n) (hl:κ.kle (KK κ xs (lo+n-1)) (KK κ xs (lo+n))):Up κ xs lo (lo+(n+1)):=fun i j g1 g2 g3=>by
 by_cases hj:j<lo+n
 ·exact h i j g1 g2 hj
 ·have:j=lo+n:=by omega
  subst this;by_cases hi:i=lo+n
  ·subst hi;exact KeyOrd.kle_refl _
  ·exact KeyOrd.kle_trans (h i (lo+n-1) g1 (by omega) (by omega)) hl
theorem Dn.snoc {xs:Array Keyed} {lo n:Nat} (h:Dn κ xs lo (lo+n)) (h1:1<=n) (hl:κ.kle (KK κ xs (lo+n)) (KK κ xs (lo+n-1))):Dn κ xs lo (lo+(n+1)):=fun i j g1 g2 g3=>by
 by_cases hj:j<lo+n
 ·exact h i j g1 g2 hj
 ·have:j=lo+n:=by omega
  subst this;by_cases hi:i=lo+n
  ·subst hi;exact KeyOrd.kle_refl _
  ·exact KeyOrd.kle_trans hl (h i (lo+n-1) g1 (by omega) (by omega))
noncomputable def Out (xs ys:Array Keyed) (lo hi:Nat):Prop:=∀i,(i<lo\/hi<=i)->ys[i]?=xs[i]?
theorem xz4 {xs:Array Keyed} {i j k:Nat} (hj:j<=xs.size):KK κ (mirror xs i j ((j-i) / 2)) k=if i<=k/\k<j then KK κ xs (i+j-1-k) else KK κ xs k:=KK_mirror hj k
theorem wh3 (C:Cmp prog w A E s κ knd) (h0:KeysOf κ a₀) (B:Bs a₀ knd P st) {lo B6 a:Nat} (hl:lo+B6<=a₀.size) (ha:1<=a) (han:a<=B6) (hu:Up κ (arrOf st) lo (lo+a)) {Q:Option (Option Nat)×Nat->SortSt->Prop}
 (h:∀n,a<=n->n<=B6->Up κ (arrOf st) lo (lo+n)->(n=B6\/κ.blt (KK κ (arrOf st) (lo+n)) (KK κ (arrOf st) (lo+n-1))=true)->Q (none,n) st) :
 wpS (model prog w) A E s (forIn [a:B6] ((none,a):Option (Option Nat)×Nat) fun _ r=>do
  let x <-ltAt' (lo+r.2) (lo+r.2-1)
  match x with
  | some smaller=>if smaller=true then pure (ForInStep.done (none,r.2)) else pure (ForInStep.yield (none,r.2+1))
  | _=>pure (ForInStep.done (some none,r.2))) Q st:=by
 refine Af1 (I:=fun x c st'=>st'=st/\c=(none,x)/\Up κ (arrOf st) lo (lo+x)) (fun i c st' h1 h2 hI111=>?_) (fun c st' hI110=>?_) ⟨rfl,rfl,hu⟩
 ·obtain⟨e1,e2,hu⟩:=hI111
  subst e1 e2;refine Ab1 (yi0 C h0 B (by omega) (by omega) ?_);show wpS _ _ _ _ (if κ.blt (KK κ (arrOf st') (lo+i)) (KK κ (arrOf st') (lo+i-1))=true then _ else _) _ _;cases hb:κ.blt (KK κ (arrOf st') (lo+i)) (KK κ (arrOf st') (lo+i-1))
  ·rw[if_neg Ar0]
   exact Ad1 ⟨rfl,rfl,hu.snoc (by omega) hb⟩
  ·rw[if_pos rfl]
   exact Ad1 (h i h1 (by omega) hu (.inr hb))
 ·obtain⟨e1,e2,hu⟩:=hI110
  subst e1 e2;have e:max a B6=B6:=by omega
  rw[e] at hu ⊢;exact h B6 han (Ae0 _) hu (.inl rfl)
theorem Out.refl {xs:Array Keyed} {lo hi:Nat}:Out xs xs lo hi:=fun _ _=>rfl
theorem Out.trans {xs ys zs:Array Keyed} {lo hi:Nat} (a:Out xs ys lo hi) (b:Out ys zs lo hi):Out xs zs lo hi:=fun i h=>(b i h).trans (a i h)
theorem Out.mir {xs:Array Keyed} {lo hi p q:Nat} (hq:q<=xs.size) (h1:lo<=p) (h2:q<=hi):Out xs (mirror xs p q ((q-p) / 2)) lo hi:=fun i h=>by
 rw[getElem?_mirror_all hq,if_neg (by omega)]
theorem xf0 {xs:Array Keyed} {p q:Nat} {c:κ.α} (hq:q<=xs.size) (h:∀i,p<=i->i<q->KK κ xs i=c) (k:Nat):KK κ (mirror xs p q ((q-p) / 2)) k=KK κ xs k:=by
 rw[xz4 hq];by_cases hk:p<=k/\k<q
 ·rw[if_pos hk,h k hk.1 hk.2,h _ (by omega) (by omega)]
 ·rw[if_neg hk]
theorem Dn.turn {xs:Array Keyed} {lo n:Nat} (hq:lo+n<=xs.size) (h:Dn κ xs lo (lo+n)):Up κ (mirror xs lo (lo+n) ((lo+n-lo) / 2)) lo (lo+n):=fun i j g1 g2 g3=>by
 rw[xz4 hq,xz4 hq,if_pos ⟨g1,by omega⟩,if_pos ⟨by omega,g3⟩];exact h _ _ (by omega) (by omega) (by omega)
theorem Dn.congr {xs ys:Array Keyed} {lo hi:Nat} (h:Dn κ xs lo hi) (e:∀k,KK κ ys k=KK κ xs k):Dn κ ys lo hi:=fun i j g1 g2 g3=>by rw[e i,e j];exact h i j g1 g2 g3
theorem xq2 (C:Cmp prog w A E s κ knd) (h0:KeysOf κ a₀) (B:Bs a₀ knd P st) {lo B6 n:Nat} (hl:lo+B6<=a₀.size) (h1:1<=n) (hn:n<=B6) (hd:Dn κ (arrOf st) lo (lo+n)) {Q:Option Nat->SortSt->Prop}
 (h:∀m st',Bs a₀ knd P st'->1<=m->m<=B6->Up κ (arrOf st') lo (lo+m)->Out (arrOf st) (arrOf st') lo (lo+B6)->Q (some m) st') :
 wpS (model prog w) A E s (do
  reverseSlice' lo (lo+n)
  let r <-forIn [n:B6] ((none,n):Option (Option Nat)×Nat) fun _ r=>do
   let x <-ltAt' (lo+r.2) (lo+r.2-1)
   match x with
   | some smaller=>if smaller=true then pure (ForInStep.done (none,r.2)) else pure (ForInStep.yield (none,r.2+1))
   | _=>pure (ForInStep.done (some none,r.2))
  match r.1 with
  | some r=>pure r
  | none=>pure (some r.2)) Q st:=by
 have hz:lo+n<=(arrOf st).size:=by rw[B.size];omega
 rw[reverseSlice'_eq];refine Ab1 (Am1 (Ab1 (wh3 C h0 (B.arr (mirror_perm _ _ _ _)) hl h1 hn (Dn.turn hz hd) fun m g1 g2 g3 _=>?_)));exact Ad1 (h m _ (B.arr (mirror_perm _ _ _ _)) (by omega) g2 g3 (Out.mir hz (Ae0 _) (by omega)))
theorem xq9 (C:Cmp prog w A E s κ knd) (h0:KeysOf κ a₀) (B:Bs a₀ knd P st) {lo B6 n:Nat} (hl:lo+B6<=a₀.size) (h1:1<=n) (hn:n<=B6) (hd:Dn κ (arrOf st) lo (lo+n)) {Q:Option Nat->SortSt->Prop}
 (h:∀m st',Bs a₀ knd P st'->1<=m->m<=B6->Up κ (arrOf st') lo (lo+m)->Out (arrOf st) (arrOf st') lo (lo+B6)->Q (some m) st') :
 wpS (model prog w) A E s (do
  liftM (rule "list.sort.descending-run")
  let r <-forIn [n:B6] ((none,n,0):Option (Option Nat)×Nat×Nat) fun _ r=>do
   let x <-ltAt' (lo+r.2.1) (lo+r.2.1-1)
   match x with
   | some smaller=>
     if smaller=true then
      if r.2.2>0 then do
       reverseSlice' (lo+r.2.1-(r.2.2+1)) (lo+r.2.1)
       pure (ForInStep.yield (none,r.2.1+1,0))
      else pure (ForInStep.yield (none,r.2.1+1,0))
     else do
      let x <-ltAt' (lo+r.2.1-1) (lo+r.2.1)
      match x with
      | some larger=>if larger=true then pure (ForInStep.done (none,r.2.1,r.2.2)) else pure (ForInStep.yield (none,r.2.1+1,r.2.2+1))
      | _=>pure (ForInStep.done (some none,r.2.1,r.2.2))
   | _=>pure (ForInStep.done (some none,r.2.1,r.2.2))
  match r.1 with
  | some r=>pure r
  | none=>
    if r.2.2>0 then do
     reverseSlice' (lo+r.2.1-(r.2.2+1)) (lo+r.2.1)
     reverseSlice' lo (lo+r.2.1)
     let r <-forIn [r.2.1:B6] ((none,r.2.1):Option (Option Nat)×Nat) fun _ r=>do
      let x <-ltAt' (lo+r.2) (lo+r.2-1)
      match x with
      | some smaller=>if smaller=true then pure (ForInStep.done (none,r.2)) else pure (ForInStep.yield (none,r.2+1))
      | _=>pure (ForInStep.done (some none,r.2))
     match r.1 with
     | some r=>pure r
     | none=>pure (some r.2)
    else do
     reverseSlice' lo (lo+r.2.1)
     let r <-forIn [r.2.1:B6] ((none,r.2.1):Option (Option Nat)×Nat) fun _ r=>do
      let x <-ltAt' (lo+r.2) (lo+r.2-1)
      match x with
      | some smaller=>if smaller=true then pure (ForInStep.done (none,r.2)) else pure (ForInStep.yield (none,r.2+1))
      | _=>pure (ForInStep.done (some none,r.2))
     match r.1 with
     | some r=>pure r
     | none=>pure (some r.2)) Q st:=by
 refine Ab1 (wpS_lift (Aj1 ⟨rfl,?_⟩));refine Ab1 (Al1 (Af1 (I:=fun x c st'=>∃q,c=(none,x,q)/\Bs a₀ knd P st'/\x<=B6/\Dn κ (arrOf st') lo (lo+x)/\q+1<=x/\(∀i,lo+x-(q+1)<=i->i<lo+x->KK κ (arrOf st') i=KK κ (arrOf st') (lo+x-1))/\Out (arrOf st) (arrOf st') lo (lo+B6)) (Q:=fun c st'=>∃x q,c=(none,x,q)/\1<=x/\Bs a₀ knd P st'/\x<=B6/\Dn κ (arrOf st') lo (lo+x)/\q+1<=x/\(∀i,lo+x-(q+1)<=i->i<lo+x->KK κ (arrOf st') i=KK κ (arrOf st') (lo+x-1))/\Out (arrOf st) (arrOf st') lo (lo+B6))
  (fun x c st' hx1 hx2 hI=>?_) (fun c st' hI=>?_) ⟨0,rfl,B,hn,hd,h1,fun i g1 g2=>by rw[show i=lo+n-1 by omega],Out.refl⟩) fun c st' hI=>?_)
 ·obtain⟨q,e,B',hxn,hd',hq,he,ho⟩:=hI
  subst e;have hz:lo+x<=(arrOf st').size:=by rw[B'.size];omega
  refine Ab1 (yi0 C h0 B' (i:=lo+x) (j:=lo+x-1) (by omega) (by omega) ?_);show wpS _ _ _ _ (if κ.blt (KK κ (arrOf st') (lo+x)) (KK κ (arrOf st') (lo+x-1))=true then _ else _) _ _;cases hb:κ.blt (KK κ (arrOf st') (lo+x)) (KK κ (arrOf st') (lo+x-1))
  ·rw[if_neg Ar0]
   refine Ab1 (yi0 C h0 B' (i:=lo+x-1) (j:=lo+x) (by omega) (by omega) ?_);show wpS _ _ _ _ (if κ.blt (KK κ (arrOf st') (lo+x-1)) (KK κ (arrOf st') (lo+x))=true then _ else _) _ _;cases hb2:κ.blt (KK κ (arrOf st') (lo+x-1)) (KK κ (arrOf st') (lo+x))
   ·rw[if_neg Ar0]
    have ee:KK κ (arrOf st') (lo+x)=KK κ (arrOf st') (lo+x-1):=κ.total _ _ hb hb2;refine Ad1 ⟨q+1,rfl,B',by omega,hd'.snoc (by omega) (by rw[ee];exact KeyOrd.kle_refl _),by omega,fun i g1 g2=>?_,ho⟩;have e3:lo+(x+1)-1=lo+x:=by omega
    rw[e3,ee];by_cases hi:i=lo+x
    ·rw[hi,ee]
    ·exact he i (by omega) (by omega)
   ·rw[if_pos rfl]
    exact Ad1 ⟨x,q,rfl,by omega,B',hxn,hd',hq,he,ho⟩
  ·rw[if_pos rfl]
   have lt:κ.kle (KK κ (arrOf st') (lo+x)) (KK κ (arrOf st') (lo+x-1)):=KeyOrd.kle_of_klt hb;by_cases hq0:q>0
   ·show wpS _ _ _ _ (if q>0 then _ else _) _ _
    rw[if_pos hq0];show wpS _ _ _ _ (reverseSlice' (lo+x-(q+1)) (lo+x) >>= fun _=>pure (ForInStep.yield (none,x+1,0))) _ _;rw[reverseSlice'_eq];have ks:∀k,KK κ (mirror (arrOf st') (lo+x-(q+1)) (lo+x) ((lo+x-(lo+x-(q+1))) / 2)) k=KK κ (arrOf st') k:=xf0 hz he;refine Ab1 (Am1 (Ad1 ⟨0,rfl,B'.arr (mirror_perm _ _ _ _),by omega,(hd'.congr ks).snoc (by omega) (by rw[ks,ks];exact lt),by omega,fun i g1 g2=>?_,ho.trans (Out.mir hz (by omega) (by omega))⟩));rw[show i=lo+(x+1)-1 by omega]
   ·show wpS _ _ _ _ (if q>0 then _ else _) _ _
    rw[if_neg hq0];refine Ad1 ⟨0,rfl,B',by omega,hd'.snoc (by omega) lt,by omega,fun i g1 g2=>?_,ho⟩;rw[show i=lo+(x+1)-1 by omega]
 ·obtain⟨q,e,B',hxn,hd',hq,he,ho⟩:=hI
  exact⟨_,q,e,by omega,B',hxn,hd',hq,he,ho⟩
 ·obtain⟨x,q,e,hx,B',hxn,hd',hq,he,ho⟩:=hI
  subst e;have hz:lo+x<=(arrOf st').size:=by rw[B'.size];omega
  by_cases hq0:q>0
  ·show wpS _ _ _ _ (if q>0 then _ else _) _ _
   rw[if_pos hq0];rw[reverseSlice'_eq (lo+x-(q+1)) (lo+x)];have ks:∀k,KK κ (mirror (arrOf st') (lo+x-(q+1)) (lo+x) ((lo+x-(lo+x-(q+1))) / 2)) k=KK κ (arrOf st') k:=xf0 hz he;refine Ab1 (Am1 ?_);exact xq2 C h0 (B'.arr (mirror_perm _ _ _ _)) hl hx hxn (hd'.congr ks) fun m st2 B2 m1 m2 u2 o2=>h m st2 B2 m1 m2 u2 (ho.trans ((Out.mir hz (by omega) (by omega)).trans o2))
  ·show wpS _ _ _ _ (if q>0 then _ else _) _ _
   rw[if_neg hq0];exact xq2 C h0 B' hl hx hxn hd' fun m st2 B2 m1 m2 u2 o2=>h m st2 B2 m1 m2 u2 (ho.trans o2)
set_option tactic.hygienic true in
theorem yi2 (C:Cmp prog w A E s κ knd) (h0:KeysOf κ a₀) (B:Bs a₀ knd P st) {lo B6:Nat} (hl:lo+B6<=a₀.size) (h1:1<=B6) {Q:Option Nat->SortSt->Prop}
 (h:∀m st',Bs a₀ knd P st'->1<=m->m<=B6->Up κ (arrOf st') lo (lo+m)->Out (arrOf st) (arrOf st') lo (lo+B6)->Q (some m) st'):wpS (model prog w) A E s (countRun' lo B6) Q st:=by
 rw[countRun'_eq];refine Ab1 ?_;refine wh3 C h0 B hl (Ae0 1) h1 (Up.one (by omega)) fun n g1 g2 g3 g4=>?_
 dsimp only;by_cases hn:n=B6
 ·rw[if_pos (by rw[hn];exact Aq1 _)]
  exact Ad1 (h n st B g1 g2 g3 Out.refl)
 rw[if_neg (by simpa using hn)];have hlt:κ.blt (KK κ (arrOf st) (lo+n)) (KK κ (arrOf st) (lo+n-1))=true:=g4.resolve_left hn;by_cases h2:n>1
 ·rw[if_pos h2]
  refine Ab1 (yi0 C h0 B (by omega) (by omega) ?_);show wpS _ _ _ _ (if κ.blt (KK κ (arrOf st) lo) (KK κ (arrOf st) (lo+n-1))=true then _ else _) _ _;cases hb:κ.blt (KK κ (arrOf st) lo) (KK κ (arrOf st) (lo+n-1));case true=>
   rw[if_pos rfl];exact Ad1 (h n st B g1 g2 g3 Out.refl)
  rw[if_neg Ar0];have hz:lo+n<=(arrOf st).size:=by rw[B.size];omega
  have same:∀i,lo<=i->i<lo+n->KK κ (arrOf st) i=KK κ (arrOf st) lo:=fun i k1 k2=>by
   have a1:=g3 lo i (Ae0 _) k1 k2;have a2:=KeyOrd.kle_trans (g3 i (lo+n-1) k1 (by omega) (by omega)) hb;exact KeyOrd.kle_antisymm a2 a1
  have ks:=xf0 hz same;rw[reverseSlice'_eq lo (lo+n)];refine Ab1 (Am1 ?_);have dn:Dn κ (arrOf st) lo (lo+n):=fun i j k1 k2 k3=>by rw[same i k1 (by omega),same j (by omega) k3];exact KeyOrd.kle_refl _
  have go:=xq9 (Q:=Q) C h0 (B.arr (mirror_perm _ _ _ _)) hl (n:=n+1) (by omega) (by omega) ((dn.congr ks).snoc g1 (by rw[ks,ks];exact KeyOrd.kle_of_klt hlt)) fun m st2 B2 m1 m2 u2 o2=>h m st2 B2 m1 m2 u2 ((Out.mir hz (Ae0 _) (by omega)).trans o2)
  refine Eq.mp ?_ go;congr 1;congr 1;funext _u;congr 1;funext i;obtain⟨r1,r2,r3⟩:=i;cases r1 with
  | some r=>rfl
  | none=>
    dsimp only;split
    ·congr 1;funext _v;congr 1;funext _v;congr 1;funext j;obtain⟨j1,j2⟩:=j;cases j1<;>rfl
    ·congr 1;funext _v;congr 1;funext j;obtain⟨j1,j2⟩:=j;cases j1<;>rfl
 ·rw[if_neg h2]
  have e1:n=1:=by omega
  have dn:Dn κ (arrOf st) lo (lo+n):=fun i j k1 k2 k3=>by
   have:i=j:=by omega
   subst this;exact KeyOrd.kle_refl _
  have go:=xq9 (Q:=Q) C h0 B hl (n:=n+1) (by omega) (by omega) (dn.snoc g1 (KeyOrd.kle_of_klt hlt)) h;refine Eq.mp ?_ go;congr 1;congr 1;funext _u;congr 1;funext i;obtain⟨r1,r2,r3⟩:=i;cases r1 with
  | some r=>rfl
  | none=>
    dsimp only;split
    ·congr 1;funext _v;congr 1;funext _v;congr 1;funext j;obtain⟨j1,j2⟩:=j;cases j1<;>rfl
    ·congr 1;funext _v;congr 1;funext j;obtain⟨j1,j2⟩:=j;cases j1<;>rfl
end
section
variable {prog:Program} {w:World} {A:Around} {E:Value->Shared->Prop} {s:Shared} {κ:KeyKind} {knd:SortKind} {a₀:Array Keyed} {P:Array (Nat×Nat×Nat)} {st:SortSt}
theorem wk4 {xs:Array Keyed} {src d k:Nat} (hs:src<xs.size) (hd:d<=src):KK κ (bubble xs src d) k=if k=src-d then KK κ xs src else if src-d<k/\k<=src then KK κ xs (k-1) else KK κ xs k:=KK_bubble hs hd k
theorem yu3 (C:Cmp prog w A E s κ knd) (h0:KeysOf κ a₀) (B:Bs a₀ knd P st) {lo n ok:Nat} (hl:lo+n<=a₀.size) (hok:ok<=n) (hu:Up κ (arrOf st) lo (lo+ok)) {Q:Bool->SortSt->Prop}
 (h:∀st',Bs a₀ knd P st'->Up κ (arrOf st') lo (lo+n)->Out (arrOf st) (arrOf st') lo (lo+n)->Q true st'):wpS (model prog w) A E s (binarySort' lo n ok) Q st:=by
 rw[binarySort'_eq];refine Ab1 (Al1 (Af1 (I:=fun k c st'=>c=(none,())/\Bs a₀ knd P st'/\Up κ (arrOf st') lo (lo+min k n)/\Out (arrOf st) (arrOf st') lo (lo+n)) (Q:=fun c st'=>c=(none,())/\Bs a₀ knd P st'/\Up κ (arrOf st') lo (lo+n)/\Out (arrOf st) (arrOf st') lo (lo+n)) (fun k c st' hk1 hk2 hI=>?_) (fun c st' hI=>?_) ⟨rfl,B,?_,Out.refl⟩) fun c st' hI=>?_)
 ·obtain⟨e,B',hu',ho⟩:=hI
  subst e;rw[show min k n=k by omega] at hu';have hks:lo+k<(arrOf st').size:=by rw[B'.size];omega
  refine Ab1 (Al1 (Af1 (I:=fun x c st2=>st2=st'/\∃l r,c=(none,l,r)/\l<=r/\r<=k/\r-l<=k-x/\(∀i,i<l->κ.kle (KK κ (arrOf st') (lo+i)) (KK κ (arrOf st') (lo+k)))/\∀i,r<=i->i<k->κ.kle (KK κ (arrOf st') (lo+k)) (KK κ (arrOf st') (lo+i))) (Q:=fun c st2=>st2=st'/\∃l r,c=(none,l,r)/\l<=k/\(∀i,i<l->κ.kle (KK κ (arrOf st') (lo+i)) (KK κ (arrOf st') (lo+k)))/\∀i,l<=i->i<k->κ.kle (KK κ (arrOf st') (lo+k)) (KK κ (arrOf st') (lo+i)))
   (fun x c st2 hx1 hx2 hI=>?_) (fun c st2 hI=>?_) ⟨rfl,0,k,rfl,by omega,by omega,by omega,fun i hi=>by omega,fun i g1 g2=>by omega⟩) fun c st2 hI=>?_)
  ·obtain⟨e1,l,r,e2,hlr,hrk,hm,hlo,hhi⟩:=hI
   subst e1 e2;dsimp only;by_cases hge:l>=r
   ·rw[if_pos hge]
    have:l=r:=by omega
    subst this;exact Ad1 ⟨rfl,l,l,rfl,hrk,hlo,hhi⟩
   ·rw[if_neg hge]
    refine Ab1 (yi0 C h0 B' (i:=lo+k) (j:=lo+(l+r) / 2) (by omega) (by omega) ?_);show wpS _ _ _ _ (if κ.blt (KK κ (arrOf st2) (lo+k)) (KK κ (arrOf st2) (lo+(l+r) / 2))=true then _ else _) _ _;cases hb:κ.blt (KK κ (arrOf st2) (lo+k)) (KK κ (arrOf st2) (lo+(l+r) / 2))
    ·rw[if_neg Ar0]
     refine Ad1 ⟨rfl,(l+r) / 2+1,r,rfl,by omega,by omega,by omega,fun i g1=>?_,hhi⟩;exact KeyOrd.kle_trans (hu' (lo+i) (lo+(l+r) / 2) (by omega) (by omega) (by omega)) hb
    ·rw[if_pos rfl]
     refine Ad1 ⟨rfl,l,(l+r) / 2,rfl,by omega,by omega,by omega,hlo,fun i g1 g2=>?_⟩;exact KeyOrd.kle_trans (KeyOrd.kle_of_klt hb) (hu' (lo+(l+r) / 2) (lo+i) (by omega) (by omega) (by omega))
  ·obtain⟨e1,l,r,e2,hlr,hrk,hm,hlo,hhi⟩:=hI
   have:l=r:=by omega
   subst this;exact⟨e1,l,l,e2,hrk,hlo,hhi⟩
  ·obtain⟨e1,l,r,e2,hlk,hlo,hhi⟩:=hI
   subst e1 e2;show wpS _ _ _ _ (moveDown' (lo+k) (lo+l) >>= fun _=>pure (ForInStep.yield (none,()))) _ _;rw[moveDown'_eq];have ds:lo+k-(lo+l)<=lo+k:=by omega
   refine Ab1 (Am1 (Ad1 ⟨rfl,B'.arr (bubble_perm _ _ _),?_,ho.trans fun i hi=>?_⟩))
   ·rw[show min (k+1) n=k+1 by omega]
    intro i j g1 g2 g3;show κ.kle (KK κ (bubble (arrOf st2) (lo+k) (lo+k-(lo+l))) i) (KK κ (bubble (arrOf st2) (lo+k) (lo+k-(lo+l))) j);rw[wk4 hks ds,wk4 hks ds,show lo+k-(lo+k-(lo+l))=lo+l by omega];by_cases i1:i=lo+l
    ·rw[if_pos i1]
     by_cases j1:j=lo+l
     ·rw[if_pos j1];exact KeyOrd.kle_refl _
     ·rw[if_neg j1,if_pos ⟨by omega,by omega⟩]
      have:=hhi (j-1-lo) (by omega) (by omega);rwa [show lo+(j-1-lo)=j-1 by omega] at this
    ·rw[if_neg i1]
     by_cases i2:lo+l<i/\i<=lo+k
     ·rw[if_pos i2,if_neg (by omega),if_pos ⟨by omega,by omega⟩]
      exact hu' _ _ (by omega) (by omega) (by omega)
     ·rw[if_neg i2]
      by_cases j1:j=lo+l
      ·rw[if_pos j1]
       have:=hlo (i-lo) (by omega);rwa [show lo+(i-lo)=i by omega] at this
      ·rw[if_neg j1]
       by_cases j2:lo+l<j/\j<=lo+k
       ·rw[if_pos j2]
        exact hu' _ _ (by omega) (by omega) (by omega)
       ·rw[if_neg j2]
        exact hu' _ _ (by omega) (by omega) (by omega)
   ·show (bubble (arrOf st2) (lo+k) (lo+k-(lo+l)))[i]?=_
    rw[getElem?_bubble hks _ ds,if_neg (by omega),if_neg (by omega)]
 ·obtain⟨e,B',hu',ho⟩:=hI
  rw[show min (max (max ok 1) n) n=n by omega] at hu';exact⟨e,B',hu',ho⟩
 ·by_cases h1:ok=0
  ·exact Up.one (by omega)
  ·exact fun i j g1 g2 g3=>hu i j g1 g2 (by omega)
 ·obtain⟨e,B',hu',ho⟩:=hI
  subst e;exact Ad1 (h st' B' hu' ho)
end
local macro_rules
 | `(tactic| omega)=>`(tactic| omega +splitDisjunctions)
noncomputable abbrev SM:=StateT SortSt Sem
noncomputable def gal:Bool->Keyed->Array Keyed->Nat->Nat->Nat->SM (Option Nat):=sortPriv% PySem.Builtin.gallop
noncomputable def far (left:Bool) (key:Keyed) (arr:Array Keyed) (base i:Nat):SM (Option Bool):=do
 let x <-elem' arr (base+i)
 if left then lt' x key else return (<-lt' key x).map (!·)
noncomputable def we8 (left:Bool) (key:Keyed) (arr:Array Keyed) (base n p0 q0:Nat):SM (Option Nat):=do
 let mut p:=p0
 let mut q:=q0
 for _ in [0:n] do
  if p>=q then break
  let m:=p+(q-p) / 2
  let some y <-far left key arr base m | return none
  if y then p:=m+1 else q:=m
 return some q
theorem vb4 (left:Bool) (key:Keyed) (arr:Array Keyed) (base n hint:Nat):gal left key arr base n hint=(do
 let mut u:=0
 let mut v:=1
 let some r <-far left key arr base hint | return none
 if r then
  for _ in [0:n] do
   if v>=n-hint then break
   let some y <-far left key arr base (hint+v) | return none
   if !y then break
   u:=v
   v:=2*v+1
  we8 left key arr base n (hint+u+1) (hint+min v (n-hint))
 else
  for _ in [0:n] do
   if v>=hint+1 then break
   let some y <-far left key arr base (hint-v) | return none
   if y then break
   u:=v
   v:=2*v+1
  we8 left key arr base n (hint+1-min v (hint+1)) (hint-u)):=rfl
section
variable {prog:Program} {w:World} {A:Around} {E:Value->Shared->Prop} {s:Shared} {κ:KeyKind} {knd:SortKind} {st:SortSt} {left:Bool} {key:Keyed} {arr:Array Keyed} {base n:Nat} {f:Nat->Bool}
structure Cut (prog:Program) (w:World) (A:Around) (E:Value->Shared->Prop) (s:Shared) (knd:SortKind) (left:Bool) (key:Keyed) (arr:Array Keyed) (base n:Nat) (f:Nat->Bool):Prop where
 far:∀(i:Nat) (st:SortSt) (Q:Option Bool->SortSt->Prop),i<n->kindOf st=knd->Q (some (f i)) st->wpS (model prog w) A E s (far left key arr base i) Q st
 mono:∀i j,i<=j->j<n->f j=true->f i=true
theorem xf9 (F:Cut prog w A E s knd left key arr base n f) (hk:kindOf st=knd) {p q:Nat} (hpq:p<=q) (hq:q<=n) (hp1:∀i,i<p->f i=true) (hq1:∀i,q<=i->i<n->f i=false) {Q:Option Nat->SortSt->Prop}
 (h:∀k,k<=n->(∀i,i<k->f i=true)->(∀i,k<=i->i<n->f i=false)->Q (some k) st):wpS (model prog w) A E s (we8 left key arr base n p q) Q st:=by
 unfold we8;refine Ab1 (Al1 (Af1 (I:=fun x c st'=>st'=st/\∃p q,c=(none,p,q)/\p<=q/\q<=n/\q-p<=n-x/\(∀i,i<p->f i=true)/\∀i,q<=i->i<n->f i=false) (Q:=fun c st'=>st'=st/\∃p,c=(none,p,p)/\p<=n/\(∀i,i<p->f i=true)/\∀i,p<=i->i<n->f i=false) (fun x c st' hx1 hx2 hI=>?_) (fun c st' hI=>?_) ⟨rfl,p,q,rfl,hpq,hq,by omega,hp1,hq1⟩) fun c st' hI=>?_)
 ·obtain⟨e1,p,q,e2,g1,g2,g3,g4,g5⟩:=hI
  subst e1 e2;dsimp only;by_cases hge:p>=q
  ·rw[if_pos hge]
   have:p=q:=by omega
   subst this;exact Ad1 ⟨rfl,p,rfl,g2,g4,g5⟩
  ·rw[if_neg hge]
   refine Ab1 (F.far _ _ _ (by omega) hk ?_);show wpS _ _ _ _ (if f (p+(q-p) / 2)=true then _ else _) _ _;cases hf:f (p+(q-p) / 2)
   ·rw[if_neg Ar0]
    refine Ad1 ⟨rfl,p,p+(q-p) / 2,rfl,by omega,by omega,by omega,g4,fun i k1 k2=>?_⟩;cases hi:f i
    ·rfl
    ·rw[F.mono _ i k1 k2 hi] at hf;cases hf
   ·rw[if_pos rfl]
    refine Ad1 ⟨rfl,p+(q-p) / 2+1,q,rfl,by omega,by omega,by omega,fun i k1=>?_,g5⟩;exact F.mono i _ (by omega) (by omega) hf
 ·obtain⟨e1,p,q,e2,g1,g2,g3,g4,g5⟩:=hI
  have:p=q:=by omega
  subst this;exact⟨e1,p,e2,g2,g4,g5⟩
 ·obtain⟨e1,p,e2,g2,g4,g5⟩:=hI
  subst e1 e2;exact Ad1 (h p g2 g4 g5)
theorem yn6 (F:Cut prog w A E s knd left key arr base n f) (hk:kindOf st=knd) {hint:Nat} (hh:hint<n) {Q:Option Nat->SortSt->Prop}
 (h:∀k,k<=n->(∀i,i<k->f i=true)->(∀i,k<=i->i<n->f i=false)->Q (some k) st):wpS (model prog w) A E s (gal left key arr base n hint) Q st:=by
 rw[vb4];have dn:∀i,i<n->f i=false->∀j,i<=j->j<n->f j=false:=fun i hi hf j h1 h2=>by
  cases hj:f j
  ·rfl
  ·rw[F.mono i j h1 h2 hj] at hf;cases hf
 refine Ab1 (F.far hint _ _ hh hk ?_);dsimp only;cases hr:f hint
 ·rw[if_neg Ar0]
  refine Ab1 (Al1 (Af1 (I:=fun x c st'=>st'=st/\∃u v,c=(none,u,v)/\u<=hint/\f (hint-u)=false/\u<v/\x<v) (Q:=fun c st'=>st'=st/\∃u v,c=(none,u,v)/\u<=hint/\f (hint-u)=false/\u<v/\(v>=hint+1\/f (hint-v)=true)) (fun x c st' hx1 hx2 hI=>?_) (fun c st' hI=>?_) ⟨rfl,0,1,rfl,by omega,hr,by omega,by omega⟩) fun c st' hI=>?_)
  ·obtain⟨e1,u,v,e2,g1,g2,g3,g4⟩:=hI
   subst e1 e2;dsimp only;by_cases hv:v>=hint+1
   ·rw[if_pos hv]
    exact Ad1 ⟨rfl,u,v,rfl,g1,g2,g3,.inl hv⟩
   ·rw[if_neg hv]
    refine Ab1 (F.far _ _ _ (by omega) hk ?_);show wpS _ _ _ _ (if f (hint-v)=true then _ else _) _ _;cases hf:f (hint-v)
    ·rw[if_neg Ar0]
     exact Ad1 ⟨rfl,v,2*v+1,rfl,by omega,hf,by omega,by omega⟩
    ·rw[if_pos rfl]
     exact Ad1 ⟨rfl,u,v,rfl,g1,g2,g3,.inr hf⟩
  ·obtain⟨e1,u,v,e2,g1,g2,g3,g4⟩:=hI
   exact⟨e1,u,v,e2,g1,g2,g3,.inl (by omega)⟩
  ·obtain⟨e1,u,v,e2,g1,g2,g3,g4⟩:=hI
   subst e1 e2;refine xf9 F hk (p:=hint+1-min v (hint+1)) (q:=hint-u) (by omega) (by omega) (fun i hi=>?_) (fun i k1 k2=>dn _ (by omega) g2 i k1 k2) h;rcases g4 with g4 | g4
   ·omega
   ·exact F.mono i (hint-v) (by omega) (by omega) g4
 ·rw[if_pos rfl]
  refine Ab1 (Al1 (Af1 (I:=fun x c st'=>st'=st/\∃u v,c=(none,u,v)/\hint+u<n/\f (hint+u)=true/\u<v/\x<v) (Q:=fun c st'=>st'=st/\∃u v,c=(none,u,v)/\hint+u<n/\f (hint+u)=true/\u<v/\(v>=n-hint\/hint+v<n/\f (hint+v)=false)) (fun x c st' hx1 hx2 hI=>?_) (fun c st' hI=>?_) ⟨rfl,0,1,rfl,by omega,hr,by omega,by omega⟩) fun c st' hI=>?_)
  ·obtain⟨e1,u,v,e2,g1,g2,g3,g4⟩:=hI
   subst e1 e2;dsimp only;by_cases hv:v>=n-hint
   ·rw[if_pos hv]
    exact Ad1 ⟨rfl,u,v,rfl,g1,g2,g3,.inl hv⟩
   ·rw[if_neg hv]
    refine Ab1 (F.far _ _ _ (by omega) hk ?_);show wpS _ _ _ _ (if (!f (hint+v))=true then _ else _) _ _;cases hf:f (hint+v)
    ·rw[if_pos (show (!false)=true from rfl)]
     exact Ad1 ⟨rfl,u,v,rfl,g1,g2,g3,.inr ⟨by omega,hf⟩⟩
    ·rw[if_neg (by decide)]
     exact Ad1 ⟨rfl,v,2*v+1,rfl,by omega,hf,by omega,by omega⟩
  ·obtain⟨e1,u,v,e2,g1,g2,g3,g4⟩:=hI
   exact⟨e1,u,v,e2,g1,g2,g3,.inl (by omega)⟩
  ·obtain⟨e1,u,v,e2,g1,g2,g3,g4⟩:=hI
   subst e1 e2;refine xf9 F hk (p:=hint+u+1) (q:=hint+min v (n-hint)) (by omega) (by omega) (fun i hi=>F.mono i (hint+u) (by omega) g1 g2) (fun i k1 k2=>?_) h;rcases g4 with g4 | ⟨g4,g5⟩
   ·omega
   ·exact dn _ g4 g5 i (by omega) k2
end
end Ts
namespace Ts
open PySem PyProof.Rows
noncomputable def mlo:Array Keyed->Array Keyed->SM (Array Keyed):=sortPriv% PySem.Builtin.mergeLo
noncomputable def xz6 (g:Nat):SM Unit:=(sortPriv% PySem.Builtin.setMinGallop) g
noncomputable abbrev zs8 (a b out:Array Keyed) (ia ib:Nat):Array Keyed:=out++a.extract ia a.size++b.extract ib b.size
noncomputable abbrev yl1 (a b out:Array Keyed) (ia ib:Nat):Array Keyed:=out++b.extract ib b.size++a.extract ia a.size
theorem wz7 (a b:Array Keyed):mlo a b=(do
 rule "list.sort.merge-lo"
 let mut out:Array Keyed:=#[<-elem' b 0]
 let mut ia:=0
 let mut ib:=1
 if ib == b.size then return zs8 a b out ia ib
 if ia+1 == a.size then return yl1 a b out ia ib
 let mut mg:=gallopOf (<-get)
 for _ in [0:a.size+b.size] do
  let mut ca:=0
  let mut cb:=0
  for _ in [0:a.size+b.size] do
   let some y <-lt' (<-elem' b ib) (<-elem' a ia) | return zs8 a b out ia ib
   if y then
    out:=out.push (<-elem' b ib)
    ib:=ib+1
    cb:=cb+1
    ca:=0
    if ib == b.size then return zs8 a b out ia ib
    if cb>=mg then break
   else
    out:=out.push (<-elem' a ia)
    ia:=ia+1
    ca:=ca+1
    cb:=0
    if ia+1 == a.size then return yl1 a b out ia ib
    if ca>=mg then break
  rule "list.sort.gallop"
  mg:=mg+1
  for _ in [0:a.size+b.size] do
   if mg>1 then mg:=mg-1
   xz6 mg
   let some k <-gal false (<-elem' b ib) a ia (a.size-ia) 0 | return zs8 a b out ia ib
   ca:=k
   if k>0 then
    out:=out++a.extract ia (ia+k)
    ia:=ia+k
    if ia+1 == a.size then return yl1 a b out ia ib
    if ia == a.size then return zs8 a b out ia ib
   out:=out.push (<-elem' b ib)
   ib:=ib+1
   if ib == b.size then return zs8 a b out ia ib
   let some k <-gal true (<-elem' a ia) b ib (b.size-ib) 0 | return zs8 a b out ia ib
   cb:=k
   if k>0 then
    out:=out++b.extract ib (ib+k)
    ib:=ib+k
    if ib == b.size then return zs8 a b out ia ib
   out:=out.push (<-elem' a ia)
   ia:=ia+1
   if ia+1 == a.size then return yl1 a b out ia ib
   if ca<7&&cb<7 then break
  mg:=mg+1
  xz6 mg
 unsupported "internal:list.sort.merge-bound"):=rfl
section
variable {κ:KeyKind} {a b:Array Keyed} {out:List Keyed} {ia ib:Nat}
noncomputable abbrev le (κ:KeyKind) (x y:Keyed):Prop:=κ.kle (ky κ x) (ky κ y)
theorem zm5 {xs:Array Keyed} {i:Nat} (h:i<xs.size):KK κ xs i=ky κ xs[i]:=by
 unfold KK ky;rw[Cb0 h]
structure Mg (κ:KeyKind) (a b:Array Keyed) (out:List Keyed) (ia ib:Nat):Prop where
 perm:(out++(a.toList.drop ia++b.toList.drop ib)).Perm (a.toList++b.toList)
 up:out.Pairwise (le κ)
 la:∀x∈out,∀i,ia<=i->i<a.size->κ.kle (ky κ x) (KK κ a i)
 lb:∀x∈out,∀i,ib<=i->i<b.size->κ.kle (ky κ x) (KK κ b i)
theorem yt0 {xs:Array Keyed} {i:Nat} (h:i<xs.size):xs.toList.drop i=xs[i]::xs.toList.drop (i+1):=by
 rw[List.drop_eq_getElem_cons (by simpa using h)];simp
theorem xb6 {x:Keyed} (hu:out.Pairwise (le κ)) (h:∀z∈out,le κ z x):(out++[x]).Pairwise (le κ):=
 Bg0.mpr ⟨hu,List.pairwise_singleton _ _,fun z hz y hy=>by rw[Am0.mp hy];exact h z hz⟩
theorem Mg.pushA (m:Mg κ a b out ia ib) (ua:Up κ a 0 a.size) (hi:ia<a.size) (h:∀j,ib<=j->j<b.size->κ.kle (KK κ a ia) (KK κ b j)):Mg κ a b (out++[a[ia]]) (ia+1) ib:=by
 refine⟨?_,xb6 m.up fun z hz=>?_,fun x hx i h1 h2=>?_,fun x hx i h1 h2=>?_⟩
 ·have:=m.perm
  rw[yt0 hi] at this;simpa [As0] using this
 ·have:=m.la z hz ia (Ae0 _) hi
  rwa [zm5 hi] at this
 ·rcases At0.mp hx with hx | hx
  ·exact m.la x hx i (by omega) h2
  ·rw[Am0.mp hx,<-zm5 hi]
   exact ua ia i (An0 _) (by omega) h2
 ·rcases At0.mp hx with hx | hx
  ·exact m.lb x hx i h1 h2
  ·rw[Am0.mp hx,<-zm5 hi]
   exact h i h1 h2
theorem Mg.pushB (m:Mg κ a b out ia ib) (ub:Up κ b 0 b.size) (hi:ib<b.size) (h:∀j,ia<=j->j<a.size->κ.kle (KK κ b ib) (KK κ a j)):Mg κ a b (out++[b[ib]]) ia (ib+1):=by
 refine⟨?_,xb6 m.up fun z hz=>?_,fun x hx i h1 h2=>?_,fun x hx i h1 h2=>?_⟩
 ·have:=m.perm
  rw[yt0 hi] at this;refine List.Perm.trans ?_ this;rw[As0];exact List.Perm.append_left _ (show (b[ib]::(a.toList.drop ia++b.toList.drop (ib+1))).Perm _ from List.perm_middle.symm)
 ·have:=m.lb z hz ib (Ae0 _) hi
  rwa [zm5 hi] at this
 ·rcases At0.mp hx with hx | hx
  ·exact m.la x hx i h1 h2
  ·rw[Am0.mp hx,<-zm5 hi]
   exact h i h1 h2
 ·rcases At0.mp hx with hx | hx
  ·exact m.lb x hx i (by omega) h2
  ·rw[Am0.mp hx,<-zm5 hi]
   exact ub ib i (An0 _) (by omega) h2
theorem xr2 {xs:Array Keyed} {i k:Nat} (h:i+k<xs.size):(xs.toList.drop i).take (k+1)=(xs.toList.drop i).take k++[xs[i+k]]:=by
 rw[Ba0,List.getElem?_drop];simp[Cb0 h]
theorem Mg.takeA (m:Mg κ a b out ia ib) (ua:Up κ a 0 a.size):∀k,ia+k<=a.size->(∀i,i<k->∀j,ib<=j->j<b.size->κ.kle (KK κ a (ia+i)) (KK κ b j))->Mg κ a b (out++(a.toList.drop ia).take k) (ia+k) ib
 | 0,_,_=>by simpa using m
 | k+1,hk,h=>by
   have ih:=Mg.takeA m ua k (by omega) fun i hi=>h i (by omega)
   have:=ih.pushA ua (by omega) (h k (by omega));rw[xr2 (by omega),<-As0];exact this
theorem Mg.takeB (m:Mg κ a b out ia ib) (ub:Up κ b 0 b.size):∀k,ib+k<=b.size->(∀i,i<k->∀j,ia<=j->j<a.size->κ.kle (KK κ b (ib+i)) (KK κ a j))->Mg κ a b (out++(b.toList.drop ib).take k) ia (ib+k)
 | 0,_,_=>by simpa using m
 | k+1,hk,h=>by
   have ih:=Mg.takeB m ub k (by omega) fun i hi=>h i (by omega)
   have:=ih.pushB ub (by omega) (h k (by omega));rw[xr2 (by omega),<-As0];exact this
noncomputable def ym2 (κ:KeyKind) (a b:Array Keyed) (r:List Keyed):Prop:=r.Perm (a.toList++b.toList)/\r.Pairwise (le κ)
theorem yr2 {xs:Array Keyed} {i:Nat} (u:Up κ xs 0 xs.size):(xs.toList.drop i).Pairwise (le κ):=by
 rw[Bk0];intro p q hp hq hpq;rw[List.length_drop,Bp0] at hp hq;have:=u (i+p) (i+q) (An0 _) (by omega) (by omega);rw[zm5 (by omega),zm5 (by omega)] at this;simpa [List.getElem_drop] using this
theorem zx5 {xs:Array Keyed} {i:Nat} {x:Keyed} (h:x∈xs.toList.drop i):∃j,i<=j/\j<xs.size/\ky κ x=KK κ xs j:=by
 obtain⟨j,hj,e⟩:=List.getElem_of_mem h;rw[List.length_drop,Bp0] at hj;refine⟨i+j,by omega,by omega,?_⟩;rw[zm5 (by omega),<-e];simp[List.getElem_drop]
theorem Mg.doneB (m:Mg κ a b out ia ib) (ua:Up κ a 0 a.size) (h:b.size<=ib):ym2 κ a b (out++a.toList.drop ia++b.toList.drop ib):=by
 have hb:b.toList.drop ib=[]:=List.drop_eq_nil_of_le (by simpa using h);refine⟨by rw[As0];exact m.perm,?_⟩;rw[hb,Bc0];refine Bg0.mpr ⟨m.up,yr2 ua,fun x hx y hy=>?_⟩;obtain⟨j,h1,h2,e⟩:=zx5 (κ:=κ) hy;show κ.kle (ky κ x) (ky κ y);rw[e];exact m.la x hx j h1 h2
theorem Mg.doneA (m:Mg κ a b out ia ib) (ub:Up κ b 0 b.size) (h:a.size<=ia):ym2 κ a b (out++a.toList.drop ia++b.toList.drop ib):=by
 have ha:a.toList.drop ia=[]:=List.drop_eq_nil_of_le (by simpa using h);refine⟨by rw[As0];exact m.perm,?_⟩;rw[ha,Bc0];refine Bg0.mpr ⟨m.up,yr2 ub,fun x hx y hy=>?_⟩;obtain⟨j,h1,h2,e⟩:=zx5 (κ:=κ) hy;show κ.kle (ky κ x) (ky κ y);rw[e];exact m.lb x hx j h1 h2
theorem Mg.last (m:Mg κ a b out ia ib) (ub:Up κ b 0 b.size) (h:ia+1=a.size) (hl:∀j,j<b.size->κ.kle (KK κ b j) (KK κ a ia)):ym2 κ a b (out++b.toList.drop ib++a.toList.drop ia):=by
 have ha:a.toList.drop ia=[a[ia]]:=by rw[yt0 (by omega),List.drop_eq_nil_of_le (by simp;omega)]
 refine⟨?_,?_⟩
 ·refine List.Perm.trans ?_ m.perm
  rw[As0];exact List.Perm.append_left _ List.perm_append_comm
 ·rw[ha]
  refine xb6 (Bg0.mpr ⟨m.up,yr2 ub,fun x hx y hy=>?_⟩) fun z hz=>?_
  ·obtain⟨j,h1,h2,e⟩:=zx5 (κ:=κ) hy
   show κ.kle (ky κ x) (ky κ y);rw[e];exact m.lb x hx j h1 h2
  ·show κ.kle (ky κ z) (ky κ a[ia])
   rw[<-zm5 (by omega)];rcases At0.mp hz with hz | hz
   ·exact m.la z hz ia (Ae0 _) (by omega)
   ·obtain⟨j,h1,h2,e⟩:=zx5 (κ:=κ) hz
    rw[e];exact hl j h2
end
section
variable {prog:Program} {w:World} {A:Around} {E:Value->Shared->Prop} {s:Shared} {κ:KeyKind} {knd:SortKind} {st:SortSt} {a b:Array Keyed}
structure zu9 (st st':SortSt):Prop where
 arr:arrOf st'=arrOf st
 pend:pendingOf st'=pendingOf st
 fail:failedOf st'=failedOf st
 kind:kindOf st'=kindOf st
theorem zu9.refl:zu9 st st:=⟨rfl,rfl,rfl,rfl⟩
theorem wq8 (g:Nat):xz6 g=modify fun s=>SortSt.mk' (kindOf s) (arrOf s) (pendingOf s) g (failedOf s):=rfl
theorem yq9 {st0:SortSt} {g:Nat} {Q:Unit->SortSt->Prop} (l:zu9 st0 st) (h:∀st',zu9 st0 st'->Q () st'):wpS (model prog w) A E s (xz6 g) Q st:=by
 rw[wq8];exact Am1 (h _ ⟨l.arr,l.pend,l.fail,l.kind⟩)
theorem ze7 {xs:Array Keyed} {i:Nat} (h:i<xs.size) {Q:Keyed->SortSt->Prop} (hq:Q xs[i] st):wpS (model prog w) A E s (elem' xs i) Q st:=by
 rw[elem'_eq,Cb0 h];exact Ad1 hq
theorem yn4 (C:Cmp prog w A E s κ knd) (hk:kindOf st=knd) (ka:KeysOf κ a) (kb:KeysOf κ b) {i j:Nat} (hi:i<a.size) (hj:j<b.size) {Q:Option Bool->SortSt->Prop} (h:Q (some (κ.blt (KK κ a i) (KK κ b j))) st) :
 wpS (model prog w) A E s (lt' a[i] b[j]) Q st:=by
 obtain⟨x,hx⟩:=ka a[i] (Array.getElem_mem_toList hi);obtain⟨y,hy⟩:=kb b[j] (Array.getElem_mem_toList hj);refine C st _ _ x y Q hk hx hy ?_;rw[zm5 hi,zm5 hj] at h;unfold ky at h;rw[hx,hy] at h;exact h
theorem vn8 (C:Cmp prog w A E s κ knd) (ka:KeysOf κ a) (kb:KeysOf κ b) (ua:Up κ a 0 a.size) {base n j:Nat} (hn:base+n<=a.size) (hj:j<b.size):Cut prog w A E s knd false b[j] a base n (fun i=>!κ.blt (KK κ b j) (KK κ a (base+i))) where
 far:=fun i st Q hi hk h=>by
  unfold far;refine Ab1 (ze7 (by omega) ?_);show wpS _ _ _ _ (lt' b[j] a[base+i] >>= fun x=>pure (x.map (!·))) Q st;exact Ab1 (yn4 C hk kb ka hj (by omega) (Ad1 h))
 mono:=fun i k h1 h2 h=>by
  have h:κ.blt (KK κ b j) (KK κ a (base+k))=false:=by simpa using h
  have:=KeyOrd.kle_trans (ua (base+i) (base+k) (An0 _) (by omega) (by omega)) h;have:κ.blt (KK κ b j) (KK κ a (base+i))=false:=this;simp[this]
theorem vn9 (C:Cmp prog w A E s κ knd) (ka:KeysOf κ a) (kb:KeysOf κ b) (ub:Up κ b 0 b.size) {base n i:Nat} (hn:base+n<=b.size) (hi:i<a.size):Cut prog w A E s knd true a[i] b base n (fun k=>κ.blt (KK κ b (base+k)) (KK κ a i)) where
 far:=fun k st Q hk2 hk h=>by
  unfold far;refine Ab1 (ze7 (by omega) ?_);show wpS _ _ _ _ (lt' b[base+k] a[i]) Q st;exact yn4 C hk kb ka (by omega) hi h
 mono:=fun p q h1 h2 h=>KeyOrd.klt_of_kle_of_klt (ub (base+p) (base+q) (An0 _) (by omega) (by omega)) h
theorem zh9 {xs:Array Keyed} {i j:Nat} (h:j<=xs.size):(xs.extract i j).toList=(xs.toList.drop i).take (j-i):=by
 simp[Array.toList_extract,List.extract_eq_drop_take]
structure Mid (κ:KeyKind) (a b:Array Keyed) (st:SortSt) (out:Array Keyed) (ia ib:Nat) (st':SortSt) (lo:Nat):Prop where
 m:Mg κ a b out.toList ia ib
 ha:ia+1<a.size
 hb:ib<b.size
 like:zu9 st st'
 far:lo<=ia+ib
theorem Mid.le {st:SortSt} {out:Array Keyed} {ia ib lo lo2:Nat} {st':SortSt} (M:Mid κ a b st out ia ib st' lo) (h:lo2<=lo):Mid κ a b st out ia ib st' lo2:=⟨M.m,M.ha,M.hb,M.like,Ax0 h M.far⟩
structure Two (prog:Program) (w:World) (A:Around) (E:Value->Shared->Prop) (s:Shared) (κ:KeyKind) (knd:SortKind) (a b:Array Keyed) (st:SortSt):Prop where
 C:Cmp prog w A E s κ knd
 ka:KeysOf κ a
 kb:KeysOf κ b
 ua:Up κ a 0 a.size
 ub:Up κ b 0 b.size
 hl:∀j,j<b.size->κ.kle (KK κ b j) (KK κ a (a.size-1))
 hk:kindOf st=knd
noncomputable abbrev xk9 (κ:KeyKind) (a b:Array Keyed) (st:SortSt) (r:Array Keyed) (st':SortSt):Prop:=zu9 st st'/\ym2 κ a b r.toList
theorem yz3 (out:Array Keyed) (ia ib:Nat):(zs8 a b out ia ib).toList=out.toList++a.toList.drop ia++b.toList.drop ib:=by
 unfold zs8;rw[Bh0,Bh0,zh9 (Ae0 _),zh9 (Ae0 _),Bu0 (by simp),Bu0 (by simp)]
theorem xv1 (out:Array Keyed) (ia ib:Nat):(yl1 a b out ia ib).toList=out.toList++b.toList.drop ib++a.toList.drop ia:=by
 unfold yl1;rw[Bh0,Bh0,zh9 (Ae0 _),zh9 (Ae0 _),Bu0 (by simp),Bu0 (by simp)]
section
variable {out:Array Keyed} {ia ib lo:Nat} {st':SortSt} (T:Two prog w A E s κ knd a b st)
include T
theorem Two.dB (m:Mg κ a b out.toList ia ib) (h:b.size<=ib) (l:zu9 st st'):xk9 κ a b st (zs8 a b out ia ib) st':=⟨l,by rw[yz3];exact m.doneB T.ua h⟩
theorem Two.dA (m:Mg κ a b out.toList ia ib) (h:a.size<=ia) (l:zu9 st st'):xk9 κ a b st (zs8 a b out ia ib) st':=⟨l,by rw[yz3];exact m.doneA T.ub h⟩
theorem Two.dL (m:Mg κ a b out.toList ia ib) (h:ia+1=a.size) (l:zu9 st st'):xk9 κ a b st (yl1 a b out ia ib) st':=⟨l,by rw[xv1];exact m.last T.ub h (by rw[show ia=a.size-1 by omega];exact T.hl)⟩
theorem Two.kind (l:zu9 st st'):kindOf st'=knd:=l.kind.trans T.hk
end
noncomputable abbrev S6:=Option (Array Keyed)×Array Keyed×Nat×Nat×Nat×Nat
noncomputable abbrev S7:=Option (Array Keyed)×Array Keyed×Nat×Nat×Nat×Nat×Nat
noncomputable def ve7 (a b:Array Keyed) (mg:Nat) (c:S6):SM S6:=forIn [0:a.size+b.size] c fun _ r=>do
 let y <-elem' b r.2.2.2.1
 let x <-elem' a r.2.2.1
 let z <-lt' y x
 match z with
 | some t=>
   if t=true then do
    let y <-elem' b r.2.2.2.1
    if (r.2.2.2.1+1 == b.size)=true then pure (ForInStep.done (some (zs8 a b (r.2.1.push y) r.2.2.1 (r.2.2.2.1+1)),r.2.1.push y,r.2.2.1,r.2.2.2.1+1,0,r.2.2.2.2.2+1))
    else if r.2.2.2.2.2+1>=mg then pure (ForInStep.done (none,r.2.1.push y,r.2.2.1,r.2.2.2.1+1,0,r.2.2.2.2.2+1)) else pure (ForInStep.yield (none,r.2.1.push y,r.2.2.1,r.2.2.2.1+1,0,r.2.2.2.2.2+1))
   else do
    let x <-elem' a r.2.2.1
    if (r.2.2.1+1+1 == a.size)=true then pure (ForInStep.done (some (yl1 a b (r.2.1.push x) (r.2.2.1+1) r.2.2.2.1),r.2.1.push x,r.2.2.1+1,r.2.2.2.1,r.2.2.2.2.1+1,0))
    else if r.2.2.2.2.1+1>=mg then pure (ForInStep.done (none,r.2.1.push x,r.2.2.1+1,r.2.2.2.1,r.2.2.2.2.1+1,0)) else pure (ForInStep.yield (none,r.2.1.push x,r.2.2.1+1,r.2.2.2.1,r.2.2.2.2.1+1,0))
 | _=>pure (ForInStep.done (some (zs8 a b r.2.1 r.2.2.1 r.2.2.2.1),r.2.1,r.2.2.1,r.2.2.2.1,r.2.2.2.2.1,r.2.2.2.2.2))
theorem wl0 (T:Two prog w A E s κ knd a b st) {out:Array Keyed} {ia ib lo mg ca cb:Nat} {st':SortSt} (M:Mid κ a b st out ia ib st' lo) {Q:S6->SortSt->Prop}
 (hr:∀r z st2,xk9 κ a b st r st2->Q (some r,z) st2) (hn:∀out ia ib ca cb st2,Mid κ a b st out ia ib st2 (lo+1)->Q (none,out,ia,ib,ca,cb) st2) :
 wpS (model prog w) A E s (ve7 a b mg (none,out,ia,ib,ca,cb)) Q st':=by
 unfold ve7;refine Af1 (I:=fun y c st2=>∃out ia ib ca cb,c=(none,out,ia,ib,ca,cb)/\Mid κ a b st out ia ib st2 (lo+y)) (fun y c st2 hy1 hy2 hI=>?_) (fun c st2 hI=>?_) ⟨out,ia,ib,ca,cb,rfl,M⟩
 ·obtain⟨out,ia,ib,ca,cb,e,M⟩:=hI
  subst e;have i1:=M.ha;have i2:=M.hb;have i3:=M.far;refine Ab1 (ze7 i2 (Ab1 (ze7 (show ia<a.size by omega) (Ab1 (yn4 T.C (T.kind M.like) T.kb T.ka i2 (by omega) ?_)))));show wpS _ _ _ _ (if κ.blt (KK κ b ib) (KK κ a ia)=true then _ else _) _ _;cases hb:κ.blt (KK κ b ib) (KK κ a ia)
  ·rw[if_neg Ar0]
   refine Ab1 (ze7 (show ia<a.size by omega) ?_);have m2:Mg κ a b (out.push a[ia]).toList (ia+1) ib:=by
    rw[Array.toList_push];exact M.m.pushA T.ua (by omega) fun j g1 g2=>KeyOrd.kle_trans hb (T.ub ib j (An0 _) g1 g2)
   show wpS _ _ _ _ (if (ia+1+1 == a.size)=true then _ else _) _ _;by_cases h1:ia+1+1=a.size
   ·rw[if_pos (beq_iff_eq.mpr h1)]
    exact Ad1 (hr _ _ _ (T.dL m2 h1 M.like))
   ·rw[if_neg (fun z=>h1 (beq_iff_eq.mp z))]
    show wpS _ _ _ _ (if ca+1>=mg then _ else _) _ _;have M2:Mid κ a b st (out.push a[ia]) (ia+1) ib st2 (lo+(y+1)):=⟨m2,by omega,i2,M.like,by omega⟩;by_cases h2:ca+1>=mg
    ·rw[if_pos h2]
     exact Ad1 (hn _ _ _ _ _ _ (M2.le (by omega)))
    ·rw[if_neg h2]
     exact Ad1 ⟨_,_,_,_,_,rfl,M2⟩
  ·rw[if_pos rfl]
   refine Ab1 (ze7 i2 ?_);have m2:Mg κ a b (out.push b[ib]).toList ia (ib+1):=by
    rw[Array.toList_push];exact M.m.pushB T.ub i2 fun j g1 g2=>KeyOrd.kle_trans (KeyOrd.kle_of_klt hb) (T.ua ia j (An0 _) g1 g2)
   show wpS _ _ _ _ (if (ib+1 == b.size)=true then _ else _) _ _;by_cases h1:ib+1=b.size
   ·rw[if_pos (beq_iff_eq.mpr h1)]
    exact Ad1 (hr _ _ _ (T.dB m2 (show b.size<=ib+1 by omega) M.like))
   ·rw[if_neg (fun z=>h1 (beq_iff_eq.mp z))]
    show wpS _ _ _ _ (if cb+1>=mg then _ else _) _ _;have M2:Mid κ a b st (out.push b[ib]) ia (ib+1) st2 (lo+(y+1)):=⟨m2,i1,by omega,M.like,by omega⟩;by_cases h2:cb+1>=mg
    ·rw[if_pos h2]
     exact Ad1 (hn _ _ _ _ _ _ (M2.le (by omega)))
    ·rw[if_neg h2]
     exact Ad1 ⟨_,_,_,_,_,rfl,M2⟩
 ·obtain⟨out,ia,ib,ca,cb,e,M⟩:=hI
  have:=M.ha;have:=M.hb;have:=M.far;omega
noncomputable def Gq (κ:KeyKind) (a b:Array Keyed) (st:SortSt) (lo:Nat) (r:ForInStep S7) (st':SortSt):Prop:=
 match r with
 | .done c=>(∃q z,c=(some q,z)/\xk9 κ a b st q st')\/∃out ia ib mg ca cb,c=(none,out,ia,ib,mg,ca,cb)/\Mid κ a b st out ia ib st' lo
 | .yield c=>∃out ia ib mg ca cb,c=(none,out,ia,ib,mg,ca,cb)/\Mid κ a b st out ia ib st' lo
noncomputable def G3 (a b out:Array Keyed) (ia ib mg ca cb:Nat):SM (ForInStep S7):=do
 let x <-elem' a ia
 if (ia+1+1 == a.size)=true then pure (ForInStep.done ((some (yl1 a b (out.push x) (ia+1) ib),out.push x,ia+1,ib,mg,ca,cb):S7))
 else if (decide (ca<7)&&decide (cb<7))=true then pure (ForInStep.done ((none,out.push x,ia+1,ib,mg,ca,cb):S7)) else pure (ForInStep.yield ((none,out.push x,ia+1,ib,mg,ca,cb):S7))
theorem wu9 (T:Two prog w A E s κ knd a b st) {out:Array Keyed} {ia ib lo mg ca cb:Nat} {st':SortSt} (m:Mg κ a b out.toList ia ib) (i1:ia+1<a.size) (i2:ib<b.size) (l:zu9 st st') (hlo:lo<=ia+ib+1) (hb:κ.blt (KK κ b ib) (KK κ a ia)=false) :
 wpS (model prog w) A E s (G3 a b out ia ib mg ca cb) (Gq κ a b st lo) st':=by
 unfold G3;refine Ab1 (ze7 (show ia<a.size by omega) ?_);have m2:Mg κ a b (out.push a[ia]).toList (ia+1) ib:=by
  rw[Array.toList_push];exact m.pushA T.ua (by omega) fun j g1 g2=>KeyOrd.kle_trans hb (T.ub ib j (An0 _) g1 g2)
 by_cases h1:ia+1+1=a.size
 ·rw[if_pos (beq_iff_eq.mpr h1)]
  exact Ad1 (.inl ⟨_,_,rfl,T.dL m2 h1 l⟩)
 ·rw[if_neg (fun z=>h1 (beq_iff_eq.mp z))]
  have M2:Mid κ a b st (out.push a[ia]) (ia+1) ib st' lo:=⟨m2,by omega,i2,l,by omega⟩;split
  ·exact Ad1 (.inr ⟨_,_,_,_,_,_,rfl,M2⟩)
  ·exact Ad1 ⟨_,_,_,_,_,_,rfl,M2⟩
noncomputable def G2 (a b out:Array Keyed) (ia ib mg ca cb:Nat):SM (ForInStep S7):=do
 let y <-elem' b ib
 if (ib+1 == b.size)=true then pure (ForInStep.done ((some (zs8 a b (out.push y) ia (ib+1)),out.push y,ia,ib+1,mg,ca,cb):S7))
 else do
  let x <-elem' a ia
  let k <-gal true x b (ib+1) (b.size-(ib+1)) 0
  match k with
  | some k=>
    if k>0 then
     if (ib+1+k == b.size)=true then pure (ForInStep.done ((some (zs8 a b (out.push y++b.extract (ib+1) (ib+1+k)) ia (ib+1+k)),out.push y++b.extract (ib+1) (ib+1+k),ia,ib+1+k,mg,ca,k):S7))
     else G3 a b (out.push y++b.extract (ib+1) (ib+1+k)) ia (ib+1+k) mg ca k
    else G3 a b (out.push y) ia (ib+1) mg ca k
  | _=>pure (ForInStep.done ((some (zs8 a b (out.push y) ia (ib+1)),out.push y,ia,ib+1,mg,ca,cb):S7))
theorem wv0 (T:Two prog w A E s κ knd a b st) {out:Array Keyed} {ia ib lo mg ca cb:Nat} {st':SortSt} (m:Mg κ a b out.toList ia ib) (i1:ia+1<a.size) (i2:ib<b.size) (l:zu9 st st') (hlo:lo<=ia+ib+1) (hb:∀j,ia<=j->j<a.size->κ.kle (KK κ b ib) (KK κ a j)) :
 wpS (model prog w) A E s (G2 a b out ia ib mg ca cb) (Gq κ a b st lo) st':=by
 unfold G2;refine Ab1 (ze7 i2 ?_);have m2:Mg κ a b (out.push b[ib]).toList ia (ib+1):=by
  rw[Array.toList_push];exact m.pushB T.ub i2 hb
 by_cases h1:ib+1=b.size
 ·rw[if_pos (beq_iff_eq.mpr h1)]
  exact Ad1 (.inl ⟨_,_,rfl,T.dB m2 (by omega) l⟩)
 rw[if_neg (fun z=>h1 (beq_iff_eq.mp z))];refine Ab1 (ze7 (show ia<a.size by omega) (Ab1 (yn6 (vn9 T.C T.ka T.kb T.ub (by omega) (by omega)) (T.kind l) (by omega) fun k hk hlt hge=>?_)));show wpS _ _ _ _ (if k>0 then _ else _) _ _;by_cases hk0:k>0
 ·rw[if_pos hk0]
  have m3:Mg κ a b (out.push b[ib]++b.extract (ib+1) (ib+1+k)).toList ia (ib+1+k):=by
   rw[Bh0,zh9 (by omega),show ib+1+k-(ib+1)=k by omega];exact m2.takeB T.ub k (by omega) fun i hi j g1 g2=>KeyOrd.kle_trans (KeyOrd.kle_of_klt (hlt i hi)) (T.ua ia j (An0 _) g1 g2)
  by_cases h2:ib+1+k=b.size
  ·rw[if_pos (beq_iff_eq.mpr h2)]
   exact Ad1 (.inl ⟨_,_,rfl,T.dB m3 (by omega) l⟩)
  ·rw[if_neg (fun z=>h2 (beq_iff_eq.mp z))]
   exact wu9 T m3 i1 (by omega) l (by omega) (hge k (Ae0 _) (by omega))
 ·rw[if_neg hk0]
  have hk00:k=0:=by omega
  subst hk00;exact wu9 T m2 i1 (by omega) l (by omega) (hge 0 (Ae0 _) (by omega))
noncomputable def G1 (a b out:Array Keyed) (ia ib mg ca cb:Nat):SM (ForInStep S7):=do
 xz6 mg
 let y <-elem' b ib
 let k <-gal false y a ia (a.size-ia) 0
 match k with
 | some k=>
   if k>0 then
    if (ia+k+1 == a.size)=true then pure (ForInStep.done ((some (yl1 a b (out++a.extract ia (ia+k)) (ia+k) ib),out++a.extract ia (ia+k),ia+k,ib,mg,k,cb):S7))
    else if (ia+k == a.size)=true then pure (ForInStep.done ((some (zs8 a b (out++a.extract ia (ia+k)) (ia+k) ib),out++a.extract ia (ia+k),ia+k,ib,mg,k,cb):S7))
    else G2 a b (out++a.extract ia (ia+k)) (ia+k) ib mg k cb
   else G2 a b out ia ib mg k cb
 | _=>pure (ForInStep.done ((some (zs8 a b out ia ib),out,ia,ib,mg,ca,cb):S7))
theorem vg3 (T:Two prog w A E s κ knd a b st) {out:Array Keyed} {ia ib lo mg ca cb:Nat} {st':SortSt} (M:Mid κ a b st out ia ib st' lo):wpS (model prog w) A E s (G1 a b out ia ib mg ca cb) (Gq κ a b st (lo+1)) st':=by
 unfold G1;have i1:=M.ha;have i2:=M.hb;have i3:=M.far;refine Ab1 (yq9 M.like fun st2 l=>?_);refine Ab1 (ze7 i2 (Ab1 (yn6 (vn8 T.C T.ka T.kb T.ua (by omega) i2) (T.kind l) (by omega) fun k hk hlt hge=>?_)));show wpS _ _ _ _ (if k>0 then _ else _) _ _;have ab:∀j,ia+k<=j->j<a.size->κ.kle (KK κ b ib) (KK κ a j):=fun j g1 g2=>by
  have:=hge (j-ia) (by omega) (by omega);rw[show ia+(j-ia)=j by omega] at this;exact KeyOrd.kle_of_klt (show κ.blt (KK κ b ib) (KK κ a j)=true by simpa using this)
 by_cases hk0:k>0
 ·rw[if_pos hk0]
  have m3:Mg κ a b (out++a.extract ia (ia+k)).toList (ia+k) ib:=by
   rw[Bh0,zh9 (by omega),show ia+k-ia=k by omega];refine M.m.takeA T.ua k (by omega) fun i hi j g1 g2=>?_
   have:=hlt i hi;exact KeyOrd.kle_trans (show κ.blt (KK κ b ib) (KK κ a (ia+i))=false by simpa using this) (T.ub ib j (An0 _) g1 g2)
  by_cases h1:ia+k+1=a.size
  ·rw[if_pos (beq_iff_eq.mpr h1)]
   exact Ad1 (.inl ⟨_,_,rfl,T.dL m3 h1 l⟩)
  rw[if_neg (fun z=>h1 (beq_iff_eq.mp z))];by_cases h2:ia+k=a.size
  ·rw[if_pos (beq_iff_eq.mpr h2)]
   exact Ad1 (.inl ⟨_,_,rfl,T.dA m3 (by omega) l⟩)
  rw[if_neg (fun z=>h2 (beq_iff_eq.mp z))];exact wv0 T m3 (by omega) i2 l (by omega) ab
 ·rw[if_neg hk0]
  have hk00:k=0:=by omega
  subst hk00;exact wv0 T M.m i1 i2 l (by omega) ab
noncomputable def vf4 (a b:Array Keyed) (c:S7):SM S7:=forIn [0:a.size+b.size] c fun _ r=>
 if r.2.2.2.2.1>1 then G1 a b r.2.1 r.2.2.1 r.2.2.2.1 (r.2.2.2.2.1-1) r.2.2.2.2.2.1 r.2.2.2.2.2.2 else G1 a b r.2.1 r.2.2.1 r.2.2.2.1 r.2.2.2.2.1 r.2.2.2.2.2.1 r.2.2.2.2.2.2
noncomputable abbrev S5:=Option (Array Keyed)×Array Keyed×Nat×Nat×Nat
noncomputable def wl9 (a b:Array Keyed) (r:S5):SM (ForInStep S5):=do
 let c <-ve7 a b r.2.2.2.2 (none,r.2.1,r.2.2.1,r.2.2.2.1,0,0)
 match c.1 with
 | some q=>pure (ForInStep.done (some q,c.2.1,c.2.2.1,c.2.2.2.1,r.2.2.2.2))
 | none=>do
   rule "list.sort.gallop"
   let d <-vf4 a b (none,c.2.1,c.2.2.1,c.2.2.2.1,r.2.2.2.2+1,c.2.2.2.2.1,c.2.2.2.2.2)
   match d.1 with
   | some q=>pure (ForInStep.done (some q,d.2.1,d.2.2.1,d.2.2.2.1,d.2.2.2.2.1))
   | none=>do
     xz6 (d.2.2.2.2.1+1)
     pure (ForInStep.yield (none,d.2.1,d.2.2.1,d.2.2.2.1,d.2.2.2.2.1+1))
noncomputable def vq7 (c:S5):SM (Array Keyed):=match c.1 with
 | some q=>pure q
 | none=>unsupported "internal:list.sort.merge-bound"
set_option tactic.hygienic true in
theorem wq6 (a b:Array Keyed):mlo a b=(do
 rule "list.sort.merge-lo"
 let y <-elem' b 0
 if (1 == b.size)=true then pure (zs8 a b #[y] 0 1)
 else if (0+1 == a.size)=true then pure (yl1 a b #[y] 0 1)
 else do
  let st <-get
  let c <-forIn [0:a.size+b.size] ((none,#[y],0,1,gallopOf st):S5) fun _ r=>wl9 a b r
  vq7 c):=by
 rw[wz7];refine congrArg _ (funext fun _=>congrArg _ (funext fun y=>?_));dsimp only;refine congrArg _ (congrArg _ (congrArg _ (funext fun st=>?_)));refine congr (congrArg bind (congrArg _ (funext fun _=>funext fun r=>?_))) ?_
 ·unfold wl9
  refine congr (congrArg bind ?_) (funext fun c=>?_)
  ·unfold ve7;rfl
  ·obtain⟨c1,c2⟩:=c
   cases c1 with
   | some q=>rfl
   | none=>
     dsimp only;refine congrArg _ (funext fun _=>?_);refine congr (congrArg bind ?_) (funext fun d=>?_)
     ·unfold vf4
      refine congrArg _ (funext fun _=>funext fun r=>?_);unfold G1 G2 G3;by_cases hm:r.2.2.2.2.1>1
      ·first | rewrite [if_pos hm,if_pos hm] | rewrite [if_pos hm]
       refine congrArg _ (funext fun _=>congrArg _ (funext fun _=>congrArg _ (funext fun k=>?_)));cases k with
       | none=>rfl
       | some k=>rfl
      ·first | rewrite [if_neg hm,if_neg hm] | rewrite [if_neg hm]
       refine congrArg _ (funext fun _=>congrArg _ (funext fun _=>congrArg _ (funext fun k=>?_)));cases k with
       | none=>rfl
       | some k=>rfl
     ·obtain⟨d1,d2⟩:=d
      cases d1<;>rfl
 ·funext c
  obtain⟨c1,c2⟩:=c;cases c1<;>rfl
theorem wl5 (T:Two prog w A E s κ knd a b st) {out:Array Keyed} {ia ib lo mg ca cb:Nat} {st':SortSt} (M:Mid κ a b st out ia ib st' lo) {Q:S7->SortSt->Prop}
 (h1:∀q z st3,xk9 κ a b st q st3->Q (some q,z) st3) (h2:∀out ia ib mg ca cb st3,Mid κ a b st out ia ib st3 lo->Q (none,out,ia,ib,mg,ca,cb) st3):wpS (model prog w) A E s (vf4 a b (none,out,ia,ib,mg,ca,cb)) Q st':=by
 unfold vf4;refine Af1 (I:=fun y c st3=>∃out ia ib mg ca cb,c=(none,out,ia,ib,mg,ca,cb)/\Mid κ a b st out ia ib st3 (lo+y)) (fun y c st3 hy1 hy2 hI=>?_) (fun c st3 hI=>?_) ⟨out,ia,ib,mg,ca,cb,rfl,M⟩
 ·obtain⟨out,ia,ib,mg,ca,cb,e,M⟩:=hI
  subst e;have fin:∀(mg:Nat),wpS (model prog w) A E s (G1 a b out ia ib mg ca cb) (fun r st4=>match r with | .done c'=>Q c' st4 | .yield c'=>∃out ia ib mg ca cb,c'=(none,out,ia,ib,mg,ca,cb)/\Mid κ a b st out ia ib st4 (lo+(y+1))) st3:=fun mg=>Al1 (vg3 T M) fun r st4 hq=>by
   cases r with
   | done c'=>
     rcases hq with⟨q,z,e,f⟩ | ⟨out,ia,ib,mg,ca,cb,e,M⟩
     ·subst e;exact h1 q z st4 f
     ·subst e;exact h2 _ _ _ _ _ _ st4 (M.le (by omega))
   | yield c'=>exact hq
  show wpS _ _ _ _ (if mg>1 then G1 a b out ia ib (mg-1) ca cb else G1 a b out ia ib mg ca cb) _ _;by_cases hm:mg>1
  ·rw[if_pos hm];exact Al1 (fin (mg-1)) fun r st4 hq=>by cases r<;>exact hq
  ·rw[if_neg hm];exact Al1 (fin mg) fun r st4 hq=>by cases r<;>exact hq
 ·obtain⟨out,ia,ib,mg,ca,cb,e,M⟩:=hI
  have:=M.ha;have:=M.hb;have:=M.far;omega
theorem wu2 (T:Two prog w A E s κ knd a b st) (ha:0<a.size) (hb:0<b.size) (hf:κ.kle (KK κ b 0) (KK κ a 0)) {Q:Array Keyed->SortSt->Prop} (h:∀r st',zu9 st st'->ym2 κ a b r.toList->Q r st'):wpS (model prog w) A E s (mlo a b) Q st:=by
 rw[wq6];refine Ab1 (wpS_lift (Aj1 ⟨rfl,?_⟩));refine Ab1 (ze7 hb ?_);have m0:Mg κ a b [b[0]] 0 1:=by
  have z:Mg κ a b [] 0 0:=⟨by simp,List.Pairwise.nil,fun x hx=>absurd hx (by simp),fun x hx=>absurd hx (by simp)⟩;exact z.pushB T.ub hb fun j _ h2=>KeyOrd.kle_trans hf (T.ua 0 j (Ae0 _) (An0 _) h2)
 by_cases h1:(1 == b.size)=true
 ·rw[if_pos h1]
  have f:=T.dB (out:=#[b[0]]) m0 (by have:=beq_iff_eq.mp h1;omega) zu9.refl;exact Ad1 (h _ _ f.1 f.2)
 rw[if_neg h1];by_cases h2:(0+1 == a.size)=true
 ·rw[if_pos h2]
  have f:=T.dL (out:=#[b[0]]) m0 (by simpa using h2) zu9.refl;exact Ad1 (h _ _ f.1 f.2)
 rw[if_neg h2];have hb1:1<b.size:=by
  have:¬1=b.size:=by simpa using h1
  omega
 have ha1:1<a.size:=by
  have:¬1=a.size:=by simpa using h2
  omega
 refine Ab1 (wpS_get ?_);refine Ab1 (Al1 (Af1 (I:=fun x c st'=>∃out ia ib mg,c=(none,out,ia,ib,mg)/\Mid κ a b st out ia ib st' (1+x)) (Q:=fun c st'=>∃r z,c=(some r,z)/\xk9 κ a b st r st') (fun x c st' hx1 hx2 hI=>?_) (fun c st' hI=>?_) ⟨#[b[0]],0,1,_,rfl,m0,by omega,by omega,zu9.refl,by omega⟩) fun c st' hI=>?_)
 ·obtain⟨out,ia,ib,mg,e,M⟩:=hI
  subst e;unfold wl9;refine Ab1 (wl0 T M (fun r z st2 f=>?_) fun out ia ib ca cb st2 M2=>?_)
  ·exact Ad1 ⟨r,_,rfl,f⟩
  ·refine Ab1 (wpS_lift (Aj1 ⟨rfl,?_⟩))
   refine Ab1 (wl5 T M2 (fun q z st3 f=>?_) fun out ia ib mg ca cb st3 M3=>?_)
   ·exact Ad1 ⟨q,_,rfl,f⟩
   ·exact Ab1 (yq9 M3.like fun st4 l=>Ad1 ⟨out,ia,ib,_,rfl,M3.m,M3.ha,M3.hb,l,M3.far⟩)
 ·obtain⟨out,ia,ib,mg,e,M⟩:=hI
  have:=M.ha;have:=M.hb;have:=M.far;omega
 ·obtain⟨r,z,e,f⟩:=hI
  subst e;exact Ad1 (h _ _ f.1 f.2)
end
noncomputable def mhi:Array Keyed->Array Keyed->SM (Array Keyed):=sortPriv% PySem.Builtin.mergeHi
noncomputable abbrev zs7 (a b out:Array Keyed) (na nb:Nat):Array Keyed:=a.extract 0 na++b.extract 0 nb++out.reverse
noncomputable abbrev xw9 (a b out:Array Keyed) (na nb:Nat):Array Keyed:=b.extract 0 nb++a.extract 0 na++out.reverse
theorem wz8 (a b:Array Keyed):mhi a b=(do
 rule "list.sort.merge-hi"
 let mut na:=a.size-1
 let mut nb:=b.size
 let mut out:Array Keyed:=#[<-elem' a na]
 if na == 0 then return zs7 a b out na nb
 if nb == 1 then return xw9 a b out na nb
 let mut mg:=gallopOf (<-get)
 for _ in [0:a.size+b.size] do
  let mut ca:=0
  let mut cb:=0
  for _ in [0:a.size+b.size] do
   let some y <-lt' (<-elem' b (nb-1)) (<-elem' a (na-1)) | return zs7 a b out na nb
   if y then
    na:=na-1
    out:=out.push (<-elem' a na)
    ca:=ca+1
    cb:=0
    if na == 0 then return zs7 a b out na nb
    if ca>=mg then break
   else
    nb:=nb-1
    out:=out.push (<-elem' b nb)
    cb:=cb+1
    ca:=0
    if nb == 1 then return xw9 a b out na nb
    if cb>=mg then break
  rule "list.sort.gallop"
  mg:=mg+1
  for _ in [0:a.size+b.size] do
   if mg>1 then mg:=mg-1
   xz6 mg
   let some p <-gal false (<-elem' b (nb-1)) a 0 na (na-1) | return zs7 a b out na nb
   ca:=na-p
   if na-p>0 then
    out:=out++(a.extract p na).reverse
    na:=p
    if na == 0 then return zs7 a b out na nb
   nb:=nb-1
   out:=out.push (<-elem' b nb)
   if nb == 1 then return xw9 a b out na nb
   let some p <-gal true (<-elem' a (na-1)) b 0 nb (nb-1) | return zs7 a b out na nb
   cb:=nb-p
   if nb-p>0 then
    out:=out++(b.extract p nb).reverse
    nb:=p
    if nb == 1 then return xw9 a b out na nb
    if nb == 0 then return zs7 a b out na nb
   na:=na-1
   out:=out.push (<-elem' a na)
   if na == 0 then return zs7 a b out na nb
   if ca<7&&cb<7 then break
  mg:=mg+1
  xz6 mg
 unsupported "internal:list.sort.merge-bound"):=rfl
section
variable {κ:KeyKind} {a b:Array Keyed} {t:List Keyed} {na nb:Nat}
structure Mh (κ:KeyKind) (a b:Array Keyed) (t:List Keyed) (na nb:Nat):Prop where
 perm:((a.toList.take na++b.toList.take nb)++t).Perm (a.toList++b.toList)
 up:t.Pairwise (le κ)
 la:∀x∈t,∀i,i<na->κ.kle (KK κ a i) (ky κ x)
 lb:∀x∈t,∀i,i<nb->κ.kle (KK κ b i) (ky κ x)
theorem yi3 {xs:Array Keyed} {i:Nat} (h:i<xs.size):xs.toList.take (i+1)=xs.toList.take i++[xs[i]]:=by
 rw[Ba0];simp[Cb0 h]
theorem Mh.pushA (m:Mh κ a b t (na+1) nb) (ua:Up κ a 0 a.size) (hi:na<a.size) (h:∀j,j<nb->κ.kle (KK κ b j) (KK κ a na)):Mh κ a b (a[na]::t) na nb:=by
 refine⟨?_,Bq0.mpr ⟨fun z hz=>?_,m.up⟩,fun x hx i h1=>?_,fun x hx i h1=>?_⟩
 ·have:=m.perm
  rw[yi3 hi] at this;refine List.Perm.trans ?_ this;rw[As0,As0,As0];exact List.Perm.append_left _ (List.perm_middle (l₁:=b.toList.take nb))
 ·have:=m.la z hz na (by omega)
  rwa [zm5 hi] at this
 ·rcases Ai0.mp hx with hx | hx
  ·rw[hx,<-zm5 hi]
   exact ua i na (An0 _) (by omega) hi
  ·exact m.la x hx i (by omega)
 ·rcases Ai0.mp hx with hx | hx
  ·rw[hx,<-zm5 hi]
   exact h i h1
  ·exact m.lb x hx i h1
theorem Mh.pushB (m:Mh κ a b t na (nb+1)) (ub:Up κ b 0 b.size) (hi:nb<b.size) (h:∀j,j<na->κ.kle (KK κ a j) (KK κ b nb)):Mh κ a b (b[nb]::t) na nb:=by
 refine⟨?_,Bq0.mpr ⟨fun z hz=>?_,m.up⟩,fun x hx i h1=>?_,fun x hx i h1=>?_⟩
 ·have:=m.perm
  rw[yi3 hi] at this;simpa [As0] using this
 ·have:=m.lb z hz nb (by omega)
  rwa [zm5 hi] at this
 ·rcases Ai0.mp hx with hx | hx
  ·rw[hx,<-zm5 hi]
   exact h i h1
  ·exact m.la x hx i h1
 ·rcases Ai0.mp hx with hx | hx
  ·rw[hx,<-zm5 hi]
   exact ub i nb (An0 _) (by omega) hi
  ·exact m.lb x hx i (by omega)
theorem xt5 {xs:Array Keyed} {i k:Nat} (h:i<xs.size):(xs.toList.drop i).take (k+1)=xs[i]::(xs.toList.drop (i+1)).take k:=by
 rw[yt0 h,List.take_succ_cons]
theorem Mh.takeA (ua:Up κ a 0 a.size):∀(k p:Nat) (t:List Keyed),Mh κ a b t (p+k) nb->p+k<=a.size->(∀i,p<=i->i<p+k->∀j,j<nb->κ.kle (KK κ b j) (KK κ a i))->Mh κ a b ((a.toList.drop p).take k++t) p nb
 | 0,p,t,m,_,_=>by simpa using m
 | k+1,p,t,m,hk,h=>by
   have ih:=Mh.takeA ua k (p+1) t (by rw[show p+1+k=p+(k+1) by omega];exact m) (by omega) fun i h1 h2=>h i (by omega) (by omega)
   have:=ih.pushA ua (by omega) (h p (Ae0 _) (by omega));rw[xt5 (by omega)];exact this
theorem Mh.takeB (ub:Up κ b 0 b.size):∀(k p:Nat) (t:List Keyed),Mh κ a b t na (p+k)->p+k<=b.size->(∀i,p<=i->i<p+k->∀j,j<na->κ.kle (KK κ a j) (KK κ b i))->Mh κ a b ((b.toList.drop p).take k++t) na p
 | 0,p,t,m,_,_=>by simpa using m
 | k+1,p,t,m,hk,h=>by
   have ih:=Mh.takeB ub k (p+1) t (by rw[show p+1+k=p+(k+1) by omega];exact m) (by omega) fun i h1 h2=>h i (by omega) (by omega)
   have:=ih.pushB ub (by omega) (h p (Ae0 _) (by omega));rw[xt5 (by omega)];exact this
theorem xb2 {xs:Array Keyed} {i:Nat} (u:Up κ xs 0 xs.size):(xs.toList.take i).Pairwise (le κ):=(yr2 (i:=0) u).sublist (List.take_sublist _ _)
theorem yd7 {xs:Array Keyed} {i:Nat} {x:Keyed} (h:x∈xs.toList.take i):∃j,j<i/\j<xs.size/\ky κ x=KK κ xs j:=by
 obtain⟨j,hj,e⟩:=List.getElem_of_mem h;rw[Be0,Bp0] at hj;refine⟨j,by omega,by omega,?_⟩;rw[zm5 (by omega),<-e];simp[List.getElem_take]
theorem Mh.doneB (m:Mh κ a b t na 0) (ua:Up κ a 0 a.size):ym2 κ a b (a.toList.take na++b.toList.take 0++t):=by
 refine⟨m.perm,?_⟩;rw[List.take_zero,Bc0];refine Bg0.mpr ⟨xb2 ua,m.up,fun x hx y hy=>?_⟩;obtain⟨j,h1,h2,e⟩:=yd7 (κ:=κ) hx;show κ.kle (ky κ x) (ky κ y);rw[e];exact m.la y hy j h1
theorem Mh.doneA (m:Mh κ a b t 0 nb) (ub:Up κ b 0 b.size):ym2 κ a b (a.toList.take 0++b.toList.take nb++t):=by
 refine⟨m.perm,?_⟩;rw[List.take_zero,List.nil_append];refine Bg0.mpr ⟨xb2 ub,m.up,fun x hx y hy=>?_⟩;obtain⟨j,h1,h2,e⟩:=yd7 (κ:=κ) hx;show κ.kle (ky κ x) (ky κ y);rw[e];exact m.lb y hy j h1
theorem Mh.first (m:Mh κ a b t na 1) (ua:Up κ a 0 a.size) (hb:0<b.size) (hf:∀j,j<a.size->κ.kle (KK κ b 0) (KK κ a j)):ym2 κ a b (b.toList.take 1++a.toList.take na++t):=by
 have e:b.toList.take 1=[b[0]]:=by rw[yi3 hb];simp
 refine⟨?_,?_⟩
 ·refine List.Perm.trans (List.Perm.append_right _ List.perm_append_comm) m.perm
 ·rw[e,As0,List.singleton_append]
  refine Bq0.mpr ⟨fun y hy=>?_,Bg0.mpr ⟨xb2 ua,m.up,fun x hx y hy=>?_⟩⟩
  ·show κ.kle (ky κ b[0]) (ky κ y)
   rw[<-zm5 hb];rcases At0.mp hy with hy | hy
   ·obtain⟨j,h1,h2,e⟩:=yd7 (κ:=κ) hy
    rw[e];exact hf j h2
   ·exact m.lb y hy 0 (by omega)
  ·obtain⟨j,h1,h2,e⟩:=yd7 (κ:=κ) hx
   show κ.kle (ky κ x) (ky κ y);rw[e];exact m.la y hy j h1
end
section
variable {prog:Program} {w:World} {A:Around} {E:Value->Shared->Prop} {s:Shared} {κ:KeyKind} {knd:SortKind} {st:SortSt} {a b:Array Keyed}
structure Hid (κ:KeyKind) (a b:Array Keyed) (st:SortSt) (na nb:Nat) (out:Array Keyed) (st':SortSt) (lo:Nat):Prop where
 m:Mh κ a b out.toList.reverse na nb
 ha:0<na
 hb:1<nb
 la:na<=a.size
 lb:nb<=b.size
 like:zu9 st st'
 far:na+nb+lo<=a.size+b.size
theorem Hid.le {st:SortSt} {out:Array Keyed} {na nb lo lo2:Nat} {st':SortSt} (M:Hid κ a b st na nb out st' lo) (h:lo2<=lo):Hid κ a b st na nb out st' lo2:=⟨M.m,M.ha,M.hb,M.la,M.lb,M.like,by have:=M.far;omega⟩
theorem yp3 (out:Array Keyed) {na nb:Nat} (ha:na<=a.size) (hb:nb<=b.size):(zs7 a b out na nb).toList=a.toList.take na++b.toList.take nb++out.toList.reverse:=by
 unfold zs7;rw[Bh0,Bh0,zh9 ha,zh9 hb,Array.toList_reverse];simp
theorem xw8 (out:Array Keyed) {na nb:Nat} (ha:na<=a.size) (hb:nb<=b.size):(xw9 a b out na nb).toList=b.toList.take nb++a.toList.take na++out.toList.reverse:=by
 unfold xw9;rw[Bh0,Bh0,zh9 ha,zh9 hb,Array.toList_reverse];simp
structure Tw (prog:Program) (w:World) (A:Around) (E:Value->Shared->Prop) (s:Shared) (κ:KeyKind) (knd:SortKind) (a b:Array Keyed) (st:SortSt):Prop extends Two prog w A E s κ knd a b st where
 hf:∀j,j<a.size->κ.kle (KK κ b 0) (KK κ a j)
section
variable {out:Array Keyed} {na nb lo:Nat} {st':SortSt} (T:Tw prog w A E s κ knd a b st)
include T
theorem Tw.dB (m:Mh κ a b out.toList.reverse na nb) (ha:na<=a.size) (h:nb=0) (l:zu9 st st'):xk9 κ a b st (zs7 a b out na nb) st':=⟨l,by subst h;rw[yp3 _ ha (An0 _)];exact m.doneB T.ua⟩
theorem Tw.dA (m:Mh κ a b out.toList.reverse na nb) (hb:nb<=b.size) (h:na=0) (l:zu9 st st'):xk9 κ a b st (zs7 a b out na nb) st':=⟨l,by subst h;rw[yp3 _ (An0 _) hb];exact m.doneA T.ub⟩
theorem Tw.dF (m:Mh κ a b out.toList.reverse na nb) (ha:na<=a.size) (hb:nb<=b.size) (h:nb=1) (l:zu9 st st'):xk9 κ a b st (xw9 a b out na nb) st':=⟨l,by subst h;rw[xw8 _ ha hb];exact m.first T.ua hb T.hf⟩
end
theorem xg6 (out:Array Keyed) (x:Keyed):(out.push x).toList.reverse=x::out.toList.reverse:=by simp
theorem xs2 (out:Array Keyed) {xs:Array Keyed} {p q:Nat} (h:q<=xs.size):(out++(xs.extract p q).reverse).toList.reverse=(xs.toList.drop p).take (q-p)++out.toList.reverse:=by
 rw[Bh0,Array.toList_reverse,zh9 h,List.reverse_append,List.reverse_reverse]
section
variable {out:Array Keyed} {na nb lo:Nat} {st':SortSt} (T:Tw prog w A E s κ knd a b st)
include T
theorem Tw.putA (m:Mh κ a b out.toList.reverse na nb) (h0:0<na) (ha:na<=a.size) (h:∀j,j<nb->κ.kle (KK κ b j) (KK κ a (na-1))):Mh κ a b (out.push (a[na-1]'(by omega))).toList.reverse (na-1) nb:=by
 obtain⟨n,rfl⟩:∃n,na=n+1:=⟨na-1,by omega⟩;rw[xg6];exact m.pushA T.ua (show n<a.size by omega) h
theorem Tw.putB (m:Mh κ a b out.toList.reverse na nb) (h0:0<nb) (hb:nb<=b.size) (h:∀j,j<na->κ.kle (KK κ a j) (KK κ b (nb-1))):Mh κ a b (out.push (b[nb-1]'(by omega))).toList.reverse na (nb-1):=by
 obtain⟨n,rfl⟩:∃n,nb=n+1:=⟨nb-1,by omega⟩;rw[xg6];exact m.pushB T.ub (show n<b.size by omega) h
theorem Tw.manyA (m:Mh κ a b out.toList.reverse na nb) {p:Nat} (hp:p<=na) (ha:na<=a.size) (h:∀i,p<=i->i<na->∀j,j<nb->κ.kle (KK κ b j) (KK κ a i)):Mh κ a b (out++(a.extract p na).reverse).toList.reverse p nb:=by
 rw[xs2 out ha];exact Mh.takeA T.ua (na-p) p _ (by rw[show p+(na-p)=na by omega];exact m) (by omega) fun i h1 h2=>h i h1 (by omega)
theorem Tw.manyB (m:Mh κ a b out.toList.reverse na nb) {p:Nat} (hp:p<=nb) (hb:nb<=b.size) (h:∀i,p<=i->i<nb->∀j,j<na->κ.kle (KK κ a j) (KK κ b i)):Mh κ a b (out++(b.extract p nb).reverse).toList.reverse na p:=by
 rw[xs2 out hb];exact Mh.takeB T.ub (nb-p) p _ (by rw[show p+(nb-p)=nb by omega];exact m) (by omega) fun i h1 h2=>h i h1 (by omega)
end
noncomputable abbrev H6:=Option (Array Keyed)×Nat×Nat×Array Keyed×Nat×Nat
noncomputable abbrev H7:=Option (Array Keyed)×Nat×Nat×Array Keyed×Nat×Nat×Nat
noncomputable def we4 (a b:Array Keyed) (mg:Nat) (c:H6):SM H6:=forIn [0:a.size+b.size] c fun _ r=>do
 let y <-elem' b (r.2.2.1-1)
 let x <-elem' a (r.2.1-1)
 let z <-lt' y x
 match z with
 | some t=>
   if t=true then do
    let x <-elem' a (r.2.1-1)
    if (r.2.1-1 == 0)=true then pure (ForInStep.done (some (zs7 a b (r.2.2.2.1.push x) (r.2.1-1) r.2.2.1),r.2.1-1,r.2.2.1,r.2.2.2.1.push x,r.2.2.2.2.1+1,0))
    else if r.2.2.2.2.1+1>=mg then pure (ForInStep.done (none,r.2.1-1,r.2.2.1,r.2.2.2.1.push x,r.2.2.2.2.1+1,0)) else pure (ForInStep.yield (none,r.2.1-1,r.2.2.1,r.2.2.2.1.push x,r.2.2.2.2.1+1,0))
   else do
    let y <-elem' b (r.2.2.1-1)
    if (r.2.2.1-1 == 1)=true then pure (ForInStep.done (some (xw9 a b (r.2.2.2.1.push y) r.2.1 (r.2.2.1-1)),r.2.1,r.2.2.1-1,r.2.2.2.1.push y,0,r.2.2.2.2.2+1))
    else if r.2.2.2.2.2+1>=mg then pure (ForInStep.done (none,r.2.1,r.2.2.1-1,r.2.2.2.1.push y,0,r.2.2.2.2.2+1)) else pure (ForInStep.yield (none,r.2.1,r.2.2.1-1,r.2.2.2.1.push y,0,r.2.2.2.2.2+1))
 | _=>pure (ForInStep.done (some (zs7 a b r.2.2.2.1 r.2.1 r.2.2.1),r.2.1,r.2.2.1,r.2.2.2.1,r.2.2.2.2.1,r.2.2.2.2.2))
theorem wa5 (T:Tw prog w A E s κ knd a b st) {out:Array Keyed} {na nb lo mg ca cb:Nat} {st':SortSt} (M:Hid κ a b st na nb out st' lo) {Q:H6->SortSt->Prop}
 (hr:∀r z st2,xk9 κ a b st r st2->Q (some r,z) st2) (hn:∀out na nb ca cb st2,Hid κ a b st na nb out st2 (lo+1)->Q (none,na,nb,out,ca,cb) st2) :
 wpS (model prog w) A E s (we4 a b mg (none,na,nb,out,ca,cb)) Q st':=by
 unfold we4;refine Af1 (I:=fun y c st2=>∃out na nb ca cb,c=(none,na,nb,out,ca,cb)/\Hid κ a b st na nb out st2 (lo+y)) (fun y c st2 hy1 hy2 hI=>?_) (fun c st2 hI=>?_) ⟨out,na,nb,ca,cb,rfl,M⟩
 ·obtain⟨out,na,nb,ca,cb,e,M⟩:=hI
  subst e;have i1:=M.ha;have i2:=M.hb;have i3:=M.far;have i4:=M.la;have i5:=M.lb;refine Ab1 (ze7 (show nb-1<b.size by omega) (Ab1 (ze7 (show na-1<a.size by omega) (Ab1 (yn4 T.C (T.kind M.like) T.kb T.ka (by omega) (by omega) ?_)))));show wpS _ _ _ _ (if κ.blt (KK κ b (nb-1)) (KK κ a (na-1))=true then _ else _) _ _;cases hb:κ.blt (KK κ b (nb-1)) (KK κ a (na-1))
  ·rw[if_neg Ar0]
   refine Ab1 (ze7 (show nb-1<b.size by omega) ?_);have m2:=T.putB M.m (by omega) i5 fun j g1=>KeyOrd.kle_trans (T.ua j (na-1) (An0 _) (by omega) (by omega)) hb
   show wpS _ _ _ _ (if (nb-1 == 1)=true then _ else _) _ _;by_cases h1:nb-1=1
   ·rw[if_pos (beq_iff_eq.mpr h1)]
    exact Ad1 (hr _ _ _ (T.dF m2 i4 (show nb-1<=b.size by omega) h1 M.like))
   ·rw[if_neg (fun z=>h1 (beq_iff_eq.mp z))]
    show wpS _ _ _ _ (if cb+1>=mg then _ else _) _ _;have M2:Hid κ a b st na (nb-1) (out.push b[nb-1]) st2 (lo+(y+1)):=⟨m2,i1,by omega,i4,by omega,M.like,by omega⟩;by_cases h2:cb+1>=mg
    ·rw[if_pos h2]
     exact Ad1 (hn _ _ _ _ _ _ (M2.le (by omega)))
    ·rw[if_neg h2]
     exact Ad1 ⟨_,_,_,_,_,rfl,M2⟩
  ·rw[if_pos rfl]
   refine Ab1 (ze7 (show na-1<a.size by omega) ?_);have m2:=T.putA M.m i1 i4 fun j g1=>KeyOrd.kle_trans (T.ub j (nb-1) (An0 _) (by omega) (by omega)) (KeyOrd.kle_of_klt hb)
   show wpS _ _ _ _ (if (na-1 == 0)=true then _ else _) _ _;by_cases h1:na-1=0
   ·rw[if_pos (beq_iff_eq.mpr h1)]
    exact Ad1 (hr _ _ _ (T.dA m2 i5 h1 M.like))
   ·rw[if_neg (fun z=>h1 (beq_iff_eq.mp z))]
    show wpS _ _ _ _ (if ca+1>=mg then _ else _) _ _;have M2:Hid κ a b st (na-1) nb (out.push a[na-1]) st2 (lo+(y+1)):=⟨m2,by omega,i2,by omega,i5,M.like,by omega⟩;by_cases h2:ca+1>=mg
    ·rw[if_pos h2]
     exact Ad1 (hn _ _ _ _ _ _ (M2.le (by omega)))
    ·rw[if_neg h2]
     exact Ad1 ⟨_,_,_,_,_,rfl,M2⟩
 ·obtain⟨out,na,nb,ca,cb,e,M⟩:=hI
  have:=M.ha;have:=M.hb;have:=M.far;omega
noncomputable def Hq (κ:KeyKind) (a b:Array Keyed) (st:SortSt) (lo:Nat) (r:ForInStep H7) (st':SortSt):Prop:=
 match r with
 | .done c=>(∃q z,c=(some q,z)/\xk9 κ a b st q st')\/∃na nb out mg ca cb,c=(none,na,nb,out,mg,ca,cb)/\Hid κ a b st na nb out st' lo
 | .yield c=>∃na nb out mg ca cb,c=(none,na,nb,out,mg,ca,cb)/\Hid κ a b st na nb out st' lo
noncomputable def H3 (a b:Array Keyed) (na nb:Nat) (out:Array Keyed) (mg ca cb:Nat):SM (ForInStep H7):=do
 let x <-elem' a (na-1)
 if (na-1 == 0)=true then pure (ForInStep.done ((some (zs7 a b (out.push x) (na-1) nb),na-1,nb,out.push x,mg,ca,cb):H7))
 else if (decide (ca<7)&&decide (cb<7))=true then pure (ForInStep.done ((none,na-1,nb,out.push x,mg,ca,cb):H7)) else pure (ForInStep.yield ((none,na-1,nb,out.push x,mg,ca,cb):H7))
theorem wu7 (T:Tw prog w A E s κ knd a b st) {out:Array Keyed} {na nb lo mg ca cb:Nat} {st':SortSt} (m:Mh κ a b out.toList.reverse na nb) (i1:0<na) (i2:1<nb) (i4:na<=a.size) (i5:nb<=b.size) (l:zu9 st st') (hlo:na+nb+lo<=a.size+b.size+1) (hb:∀j,j<nb->κ.kle (KK κ b j) (KK κ a (na-1))) :
 wpS (model prog w) A E s (H3 a b na nb out mg ca cb) (Hq κ a b st lo) st':=by
 unfold H3;refine Ab1 (ze7 (show na-1<a.size by omega) ?_);have m2:=T.putA m i1 i4 hb;by_cases h1:na-1=0
 ·rw[if_pos (beq_iff_eq.mpr h1)]
  exact Ad1 (.inl ⟨_,_,rfl,T.dA m2 i5 h1 l⟩)
 ·rw[if_neg (fun z=>h1 (beq_iff_eq.mp z))]
  have M2:Hid κ a b st (na-1) nb (out.push a[na-1]) st' lo:=⟨m2,by omega,i2,by omega,i5,l,by omega⟩;split
  ·exact Ad1 (.inr ⟨_,_,_,_,_,_,rfl,M2⟩)
  ·exact Ad1 ⟨_,_,_,_,_,_,rfl,M2⟩
noncomputable def H2 (a b:Array Keyed) (na nb:Nat) (out:Array Keyed) (mg ca cb:Nat):SM (ForInStep H7):=do
 let y <-elem' b (nb-1)
 if (nb-1 == 1)=true then pure (ForInStep.done ((some (xw9 a b (out.push y) na (nb-1)),na,nb-1,out.push y,mg,ca,cb):H7))
 else do
  let x <-elem' a (na-1)
  let p <-gal true x b 0 (nb-1) (nb-1-1)
  match p with
  | some p=>
    if nb-1-p>0 then
     if (p == 1)=true then pure (ForInStep.done ((some (xw9 a b (out.push y++(b.extract p (nb-1)).reverse) na p),na,p,out.push y++(b.extract p (nb-1)).reverse,mg,ca,nb-1-p):H7))
     else if (p == 0)=true then pure (ForInStep.done ((some (zs7 a b (out.push y++(b.extract p (nb-1)).reverse) na p),na,p,out.push y++(b.extract p (nb-1)).reverse,mg,ca,nb-1-p):H7))
     else H3 a b na p (out.push y++(b.extract p (nb-1)).reverse) mg ca (nb-1-p)
    else H3 a b na (nb-1) (out.push y) mg ca (nb-1-p)
  | _=>pure (ForInStep.done ((some (zs7 a b (out.push y) na (nb-1)),na,nb-1,out.push y,mg,ca,cb):H7))
theorem wu8 (T:Tw prog w A E s κ knd a b st) {out:Array Keyed} {na nb lo mg ca cb:Nat} {st':SortSt} (m:Mh κ a b out.toList.reverse na nb) (i1:0<na) (i2:1<nb) (i4:na<=a.size) (i5:nb<=b.size) (l:zu9 st st') (hlo:na+nb+lo<=a.size+b.size+1) (hb:∀j,j<na->κ.kle (KK κ a j) (KK κ b (nb-1))) :
 wpS (model prog w) A E s (H2 a b na nb out mg ca cb) (Hq κ a b st lo) st':=by
 unfold H2;refine Ab1 (ze7 (show nb-1<b.size by omega) ?_);have m2:=T.putB m (by omega) i5 hb;by_cases h1:nb-1=1
 ·rw[if_pos (beq_iff_eq.mpr h1)]
  exact Ad1 (.inl ⟨_,_,rfl,T.dF m2 i4 (by omega) h1 l⟩)
 rw[if_neg (fun z=>h1 (beq_iff_eq.mp z))];refine Ab1 (ze7 (show na-1<a.size by omega) (Ab1 (yn6 (vn9 T.C T.ka T.kb T.ub (by omega) (by omega)) (T.kind l) (by omega) fun p hp hlt hge=>?_)));show wpS _ _ _ _ (if nb-1-p>0 then _ else _) _ _;simp only[Af0] at hlt hge;have bel:∀j,j<p->κ.kle (KK κ b j) (KK κ a (na-1)):=fun j hj=>KeyOrd.kle_of_klt (hlt j hj)
 by_cases hk0:nb-1-p>0
 ·rw[if_pos hk0]
  have m3:=T.manyB m2 hp (by omega) fun i h1 h2 j h3=>KeyOrd.kle_trans (T.ua j (na-1) (An0 _) (by omega) (by omega)) (hge i h1 (by omega))
  by_cases h2:p=1
  ·rw[if_pos (beq_iff_eq.mpr h2)]
   exact Ad1 (.inl ⟨_,_,rfl,T.dF m3 i4 (by omega) h2 l⟩)
  rw[if_neg (fun z=>h2 (beq_iff_eq.mp z))];by_cases h3:p=0
  ·rw[if_pos (beq_iff_eq.mpr h3)]
   exact Ad1 (.inl ⟨_,_,rfl,T.dB m3 i4 h3 l⟩)
  rw[if_neg (fun z=>h3 (beq_iff_eq.mp z))];exact wu7 T m3 i1 (by omega) i4 (by omega) l (by omega) bel
 ·rw[if_neg hk0]
  exact wu7 T m2 i1 (by omega) i4 (by omega) l (by omega) (fun j hj=>bel j (by omega))
noncomputable def H1 (a b:Array Keyed) (na nb:Nat) (out:Array Keyed) (mg ca cb:Nat):SM (ForInStep H7):=do
 xz6 mg
 let y <-elem' b (nb-1)
 let p <-gal false y a 0 na (na-1)
 match p with
 | some p=>
   if na-p>0 then
    if (p == 0)=true then pure (ForInStep.done ((some (zs7 a b (out++(a.extract p na).reverse) p nb),p,nb,out++(a.extract p na).reverse,mg,na-p,cb):H7))
    else H2 a b p nb (out++(a.extract p na).reverse) mg (na-p) cb
   else H2 a b na nb out mg (na-p) cb
 | _=>pure (ForInStep.done ((some (zs7 a b out na nb),na,nb,out,mg,ca,cb):H7))
theorem vg2 (T:Tw prog w A E s κ knd a b st) {out:Array Keyed} {na nb lo mg ca cb:Nat} {st':SortSt} (M:Hid κ a b st na nb out st' lo):wpS (model prog w) A E s (H1 a b na nb out mg ca cb) (Hq κ a b st (lo+1)) st':=by
 unfold H1;have i1:=M.ha;have i2:=M.hb;have i3:=M.far;have i4:=M.la;have i5:=M.lb;refine Ab1 (yq9 M.like fun st2 l=>?_);refine Ab1 (ze7 (show nb-1<b.size by omega) (Ab1 (yn6 (vn8 T.C T.ka T.kb T.ua (by omega) (by omega)) (T.kind l) (by omega) fun p hp hlt hge=>?_)));show wpS _ _ _ _ (if na-p>0 then _ else _) _ _;simp only[Af0] at hlt hge;have ab:∀j,j<p->κ.kle (KK κ a j) (KK κ b (nb-1)):=fun j g1=>by
  have:=hlt j g1;exact(show κ.blt (KK κ b (nb-1)) (KK κ a j)=false by simpa using this)
 by_cases hk0:na-p>0
 ·rw[if_pos hk0]
  have m3:=T.manyA M.m hp i4 fun i h1 h2 j h3=>by
   have:=hge i h1 h2;exact KeyOrd.kle_trans (T.ub j (nb-1) (An0 _) (by omega) (by omega)) (KeyOrd.kle_of_klt (show κ.blt (KK κ b (nb-1)) (KK κ a i)=true by simpa using this))
  by_cases h1:p=0
  ·rw[if_pos (beq_iff_eq.mpr h1)]
   exact Ad1 (.inl ⟨_,_,rfl,T.dA m3 i5 h1 l⟩)
  rw[if_neg (fun z=>h1 (beq_iff_eq.mp z))];exact wu8 T m3 (by omega) i2 (by omega) i5 l (by omega) ab
 ·rw[if_neg hk0]
  exact wu8 T M.m i1 i2 i4 i5 l (by omega) (fun j hj=>ab j (by omega))
noncomputable def vf3 (a b:Array Keyed) (c:H7):SM H7:=forIn [0:a.size+b.size] c fun _ r=>
 if r.2.2.2.2.1>1 then H1 a b r.2.1 r.2.2.1 r.2.2.2.1 (r.2.2.2.2.1-1) r.2.2.2.2.2.1 r.2.2.2.2.2.2 else H1 a b r.2.1 r.2.2.1 r.2.2.2.1 r.2.2.2.2.1 r.2.2.2.2.2.1 r.2.2.2.2.2.2
noncomputable abbrev H5:=Option (Array Keyed)×Nat×Nat×Array Keyed×Nat
noncomputable def wm0 (a b:Array Keyed) (r:H5):SM (ForInStep H5):=do
 let c <-we4 a b r.2.2.2.2 (none,r.2.1,r.2.2.1,r.2.2.2.1,0,0)
 match c.1 with
 | some q=>pure (ForInStep.done (some q,c.2.1,c.2.2.1,c.2.2.2.1,r.2.2.2.2))
 | none=>do
   rule "list.sort.gallop"
   let d <-vf3 a b (none,c.2.1,c.2.2.1,c.2.2.2.1,r.2.2.2.2+1,c.2.2.2.2.1,c.2.2.2.2.2)
   match d.1 with
   | some q=>pure (ForInStep.done (some q,d.2.1,d.2.2.1,d.2.2.2.1,d.2.2.2.2.1))
   | none=>do
     xz6 (d.2.2.2.2.1+1)
     pure (ForInStep.yield (none,d.2.1,d.2.2.1,d.2.2.2.1,d.2.2.2.2.1+1))
noncomputable def vq8 (c:H5):SM (Array Keyed):=match c.1 with
 | some q=>pure q
 | none=>unsupported "internal:list.sort.merge-bound"
set_option tactic.hygienic true in
theorem wq7 (a b:Array Keyed):mhi a b=(do
 rule "list.sort.merge-hi"
 let x <-elem' a (a.size-1)
 if (a.size-1 == 0)=true then pure (zs7 a b #[x] (a.size-1) b.size)
 else if (b.size == 1)=true then pure (xw9 a b #[x] (a.size-1) b.size)
 else do
  let st <-get
  let c <-forIn [0:a.size+b.size] ((none,a.size-1,b.size,#[x],gallopOf st):H5) fun _ r=>wm0 a b r
  vq8 c):=by
 rw[wz8];refine congrArg _ (funext fun _=>?_);dsimp only;refine congrArg _ (funext fun y=>?_);refine congrArg _ (congrArg _ (congrArg _ (funext fun st=>?_)));refine congr (congrArg bind (congrArg _ (funext fun _=>funext fun r=>?_))) ?_
 ·unfold wm0
  refine congr (congrArg bind ?_) (funext fun c=>?_)
  ·unfold we4;rfl
  ·obtain⟨c1,c2⟩:=c
   cases c1 with
   | some q=>rfl
   | none=>
     dsimp only;refine congrArg _ (funext fun _=>?_);refine congr (congrArg bind ?_) (funext fun d=>?_)
     ·unfold vf3
      refine congrArg _ (funext fun _=>funext fun r=>?_);unfold H1 H2 H3;by_cases hm:r.2.2.2.2.1>1
      ·first | rewrite [if_pos hm,if_pos hm] | rewrite [if_pos hm]
       refine congrArg _ (funext fun _=>congrArg _ (funext fun _=>congrArg _ (funext fun k=>?_)));cases k with
       | none=>rfl
       | some k=>rfl
      ·first | rewrite [if_neg hm,if_neg hm] | rewrite [if_neg hm]
       refine congrArg _ (funext fun _=>congrArg _ (funext fun _=>congrArg _ (funext fun k=>?_)));cases k with
       | none=>rfl
       | some k=>rfl
     ·obtain⟨d1,d2⟩:=d
      cases d1<;>rfl
 ·funext c
  obtain⟨c1,c2⟩:=c;cases c1<;>rfl
theorem wl2 (T:Tw prog w A E s κ knd a b st) {out:Array Keyed} {na nb lo mg ca cb:Nat} {st':SortSt} (M:Hid κ a b st na nb out st' lo) {Q:H7->SortSt->Prop}
 (h1:∀q z st3,xk9 κ a b st q st3->Q (some q,z) st3) (h2:∀na nb out mg ca cb st3,Hid κ a b st na nb out st3 lo->Q (none,na,nb,out,mg,ca,cb) st3):wpS (model prog w) A E s (vf3 a b (none,na,nb,out,mg,ca,cb)) Q st':=by
 unfold vf3;refine Af1 (I:=fun y c st3=>∃na nb out mg ca cb,c=(none,na,nb,out,mg,ca,cb)/\Hid κ a b st na nb out st3 (lo+y)) (fun y c st3 hy1 hy2 hI=>?_) (fun c st3 hI=>?_) ⟨na,nb,out,mg,ca,cb,rfl,M⟩
 ·obtain⟨na,nb,out,mg,ca,cb,e,M⟩:=hI
  subst e;have fin:∀(mg:Nat),wpS (model prog w) A E s (H1 a b na nb out mg ca cb) (fun r st4=>match r with | .done c'=>Q c' st4 | .yield c'=>∃na nb out mg ca cb,c'=(none,na,nb,out,mg,ca,cb)/\Hid κ a b st na nb out st4 (lo+(y+1))) st3:=fun mg=>Al1 (vg2 T M) fun r st4 hq=>by
   cases r with
   | done c'=>
     rcases hq with⟨q,z,e,f⟩ | ⟨na,nb,out,mg,ca,cb,e,M⟩
     ·subst e;exact h1 q z st4 f
     ·subst e;exact h2 _ _ _ _ _ _ st4 (M.le (by omega))
   | yield c'=>exact hq
  show wpS _ _ _ _ (if mg>1 then H1 a b na nb out (mg-1) ca cb else H1 a b na nb out mg ca cb) _ _;by_cases hm:mg>1
  ·rw[if_pos hm];exact Al1 (fin (mg-1)) fun r st4 hq=>by cases r<;>exact hq
  ·rw[if_neg hm];exact Al1 (fin mg) fun r st4 hq=>by cases r<;>exact hq
 ·obtain⟨na,nb,out,mg,ca,cb,e,M⟩:=hI
  have:=M.ha;have:=M.hb;have:=M.far;omega
theorem wu3 (T:Tw prog w A E s κ knd a b st) (ha:0<a.size) (hb:0<b.size) {Q:Array Keyed->SortSt->Prop} (h:∀r st',zu9 st st'->ym2 κ a b r.toList->Q r st'):wpS (model prog w) A E s (mhi a b) Q st:=by
 rw[wq7];refine Ab1 (wpS_lift (Aj1 ⟨rfl,?_⟩));refine Ab1 (ze7 (show a.size-1<a.size by omega) ?_);have m0:Mh κ a b (#[a[a.size-1]]:Array Keyed).toList.reverse (a.size-1) b.size:=by
  have z:Mh κ a b [] a.size b.size:=⟨by rw[Bu0 (by simp),Bu0 (by simp),Bc0],List.Pairwise.nil,fun x hx=>absurd hx (by simp),fun x hx=>absurd hx (by simp)⟩;exact T.putA (out:=#[]) z ha (Ae0 _) T.hl
 by_cases h1:(a.size-1 == 0)=true
 ·rw[if_pos h1]
  have f:=T.dA (out:=#[a[a.size-1]]) m0 (Ae0 _) (beq_iff_eq.mp h1) zu9.refl;exact Ad1 (h _ _ f.1 f.2)
 rw[if_neg h1];by_cases h2:(b.size == 1)=true
 ·rw[if_pos h2]
  have f:=T.dF (out:=#[a[a.size-1]]) m0 (by omega) (Ae0 _) (beq_iff_eq.mp h2) zu9.refl;exact Ad1 (h _ _ f.1 f.2)
 rw[if_neg h2];have hb1:1<b.size:=by
  have:¬b.size=1:=by simpa using h2
  omega
 have ha1:1<a.size:=by
  have:¬a.size-1=0:=fun z=>h1 (beq_iff_eq.mpr z)
  omega
 refine Ab1 (wpS_get ?_);refine Ab1 (Al1 (Af1 (I:=fun x c st'=>∃na nb out mg,c=(none,na,nb,out,mg)/\Hid κ a b st na nb out st' (1+x)) (Q:=fun c st'=>∃r z,c=(some r,z)/\xk9 κ a b st r st') (fun x c st' hx1 hx2 hI=>?_) (fun c st' hI=>?_) ⟨a.size-1,b.size,#[a[a.size-1]],_,rfl,m0,by omega,by omega,by omega,by omega,zu9.refl,by omega⟩) fun c st' hI=>?_)
 ·obtain⟨na,nb,out,mg,e,M⟩:=hI
  subst e;unfold wm0;refine Ab1 (wa5 T M (fun r z st2 f=>?_) fun out na nb ca cb st2 M2=>?_)
  ·exact Ad1 ⟨r,_,rfl,f⟩
  ·refine Ab1 (wpS_lift (Aj1 ⟨rfl,?_⟩))
   refine Ab1 (wl2 T M2 (fun q z st3 f=>?_) fun na nb out mg ca cb st3 M3=>?_)
   ·exact Ad1 ⟨q,_,rfl,f⟩
   ·exact Ab1 (yq9 M3.like fun st4 l=>Ad1 ⟨na,nb,out,_,rfl,M3.m,M3.ha,M3.hb,M3.la,M3.lb,l,M3.far⟩)
 ·obtain⟨na,nb,out,mg,e,M⟩:=hI
  have:=M.ha;have:=M.hb;have:=M.far;omega
 ·obtain⟨r,z,e,f⟩:=hI
  subst e;exact Ad1 (h _ _ f.1 f.2)
end
noncomputable def back (sa:Nat) (l:List Keyed) (xs:Array Keyed):Array Keyed:=l.zipIdx.foldl (fun u (p,j)=>u.setIfInBounds (sa+j) p) xs
theorem va0 (i:Nat):mergeAt' i=(do
 let z <-get
 let (some (sa,na,pw),some (sb,nb,_)):=((pendingOf z)[i]?,(pendingOf z)[i+1]?) | unsupported "internal:list.sort.pending"
 set (setPending z (((pendingOf z).setIfInBounds i (sa,na+nb,pw)).eraseIdxIfInBounds (i+1)))
 let some k <-gal false (<-elem' (arrOf z) sb) (arrOf z) sa na 0 | return false
 let (sa,na):=(sa+k,na-k)
 if na == 0 then return true
 let some nb <-gal true (<-elem' (arrOf z) (sa+na-1)) (arrOf z) sb nb (nb-1) | return false
 if nb == 0 then return true
 let x:=(arrOf z).extract sa sb
 let y:=(arrOf z).extract sb (sb+nb)
 let out <-if na<=nb then mlo x y else mhi x y
 modify fun v=>setArr v (back sa out.toList (arrOf v))
 return (failedOf (<-get)).isNone):=rfl
theorem xy9 (sa:Nat) (l:List Keyed) (xs:Array Keyed):(back sa l xs).size=xs.size:=by
 unfold back
 suffices h:∀(l:List (Keyed×Nat)) (xs:Array Keyed),(l.foldl (fun u (p,j)=>u.setIfInBounds (sa+j) p) xs).size=xs.size from h _ _
 intro l;induction l with
 | nil=>intro xs;rfl
 | cons q l ih=>intro xs;rw[List.foldl_cons,ih];simp
theorem ws9 (sa:Nat) (l:List Keyed) (xs:Array Keyed) (h:sa+l.length<=xs.size) (i:Nat):(back sa l xs)[i]?=if sa<=i/\i<sa+l.length then l[i-sa]? else xs[i]?:=by
 unfold back
 suffices g:∀(l:List Keyed) (n:Nat) (xs:Array Keyed),sa+n+l.length<=xs.size->((l.zipIdx n).foldl (fun u (p,j)=>u.setIfInBounds (sa+j) p) xs)[i]?=if sa+n<=i/\i<sa+n+l.length then l[i-(sa+n)]? else xs[i]? by
  have:=g l 0 xs (by simpa using h);simpa using this
 intro l;induction l with
 | nil=>intro n xs _;simp;omega
 | cons q l ih=>
   intro n xs h;simp only[Bm0] at h;rw[List.zipIdx_cons,List.foldl_cons,ih (n+1) _ (by simp;omega)];rw[Array.getElem?_setIfInBounds];by_cases h1:sa+n=i
   ·subst h1
    rw[if_neg (by omega),if_pos rfl,if_pos (by omega),if_pos (by simp)];simp
   ·rw[if_neg (show ¬sa+n=i from h1)]
    by_cases h2:sa+n<=i/\i<sa+n+(l.length+1)
    ·rw[if_pos (by omega),if_pos (by simpa using h2)]
     rw[show i-(sa+n)=(i-(sa+(n+1)))+1 by omega];simp
    ·rw[if_neg (by omega),if_neg (by simpa using h2)]
theorem xz0 (sa:Nat) (l:List Keyed) (xs:Array Keyed) (h:sa+l.length<=xs.size):(back sa l xs).toList=xs.toList.take sa++(l++xs.toList.drop (sa+l.length)):=by
 refine List.ext_getElem? fun i=>?_
 have:=ws9 sa l xs h i;rw[<-Array.getElem?_toList] at this;have lt:xs.toList.length=xs.size:=by simp
 rw[this,List.getElem?_append,Be0,Nat.min_eq_left (by omega)];by_cases h1:i<sa
 ·rw[if_neg (by omega),if_pos h1,List.getElem?_take,if_pos h1]
  simp
 ·rw[if_neg h1,List.getElem?_append]
  by_cases h2:i<sa+l.length
  ·rw[if_pos (by omega),if_pos (by omega)]
  ·rw[if_neg (by omega),if_neg (by omega),List.getElem?_drop]
   simp;congr 1;omega
section
variable {prog:Program} {w:World} {A:Around} {E:Value->Shared->Prop} {s:Shared} {κ:KeyKind} {knd:SortKind} {a₀:Array Keyed} {st:SortSt}
theorem wu0 {z:SortSt} {Q:PUnit->SortSt->Prop} (h:Q ⟨⟩ z):wpS (model prog w) A E s (set z:SM PUnit) Q st:=by
 unfold wpS;rw[StateT.run_set];exact Ac1 ⟨rfl,h⟩
theorem xl7 {xs:Array Keyed} (h:xs.toList.Pairwise (le κ)):Up κ xs 0 xs.size:=fun i j _ g2 g3=>by
 by_cases e:i=j
 ·subst e;exact KeyOrd.kle_refl _
 ·have:=Bk0.mp h i j (by simp;omega) (by simp;omega) (by omega)
  rw[zm5 (by omega),zm5 g3];simpa using this
theorem wd7 {xs:Array Keyed} {i k:Nat} {x:Keyed} (h:x∈(xs.toList.drop i).take k):∃j,i<=j/\j<i+k/\j<xs.size/\ky κ x=KK κ xs j:=by
 obtain⟨j,hj,e⟩:=List.getElem_of_mem h;rw[Be0,List.length_drop,Bp0] at hj;refine⟨i+j,by omega,by omega,by omega,?_⟩;rw[zm5 (by omega),<-e];simp[List.getElem_take,List.getElem_drop]
theorem xr0 {xs:Array Keyed} {p q:Nat} (hq:q<=xs.size) (u:Up κ xs p q) {lo hi:Nat} (h1:p<=lo) (h2:hi<=q) (h3:lo<=hi):Up κ (xs.extract lo hi) 0 (xs.extract lo hi).size:=fun i j _ g2 g3=>by
 have sz:(xs.extract lo hi).size=hi-lo:=by simp;omega
 rw[sz] at g3;have e:∀t,t<hi-lo->KK κ (xs.extract lo hi) t=KK κ xs (lo+t):=fun t ht=>KK_congr (by rw[Array.getElem?_extract];simp;omega)
 rw[e i (by omega),e j g3];exact u _ _ (by omega) (by omega) (by omega)
theorem xk7 {xs:Array Keyed} {lo hi t:Nat} (hq:hi<=xs.size) (ht:lo+t<hi):KK κ (xs.extract lo hi) t=KK κ xs (lo+t):=KK_congr (by rw[Array.getElem?_extract];simp;omega)
theorem yx9 {xs:Array Keyed} (h:KeysOf κ xs) {lo hi:Nat}:KeysOf κ (xs.extract lo hi):=fun p hp=>h p (by
 rw[Array.toList_extract,List.extract_eq_drop_take] at hp;exact List.mem_of_mem_drop (List.mem_of_mem_take hp))
theorem va7 {xs:Array Keyed} {k n m:Nat} {l:List Keyed} (hk:k<=n) (hnm:n<=m) (hm:m<=xs.size) (W:ym2 κ (xs.extract k n) (xs.extract n m) l)
 (u1:Up κ xs 0 n) (u2:Up κ xs n xs.size) (c1:∀i,i<k->∀j,n<=j->j<xs.size->κ.kle (KK κ xs i) (KK κ xs j)) (c2:∀i,i<n->∀j,m<=j->j<xs.size->κ.kle (KK κ xs i) (KK κ xs j)) :
 (back k l xs).Perm xs/\Up κ (back k l xs) 0 (back k l xs).size:=by
 have ll:l.length=m-k:=by
  have:=W.1.length_eq;rw[Al0,Bp0,Bp0] at this;simp at this;omega
 have bl:=xz0 k l xs (by omega);rw[ll,show k+(m-k)=m by omega] at bl;have e1:(xs.extract k n).toList++(xs.extract n m).toList=(xs.toList.drop k).take (m-k):=by
  rw[zh9 (by omega),zh9 hm,show m-k=(n-k)+(m-n) by omega,List.take_add,List.drop_drop,show k+(n-k)=n by omega]
 have W1:=W.1;rw[e1] at W1;refine⟨?_,xl7 ?_⟩
 ·rw[Array.perm_iff_toList_perm,bl]
  have:xs.toList=xs.toList.take k++((xs.toList.drop k).take (m-k)++xs.toList.drop m):=by
   rw[show m=k+(m-k) by omega,<-List.drop_drop,show k+(m-k)-k=m-k by omega,List.take_append_drop,List.take_append_drop]
  refine List.Perm.trans (List.Perm.append_left _ (List.Perm.append_right _ W1)) ?_;rw[<-this]
 ·rw[bl]
  have up1:∀{p q:Nat},q<=xs.size->Up κ xs p q->((xs.toList.drop p).take (q-p)).Pairwise (le κ):=fun {p q} hq u=>by
   rw[Bk0];intro i j hi hj hij;rw[Be0,List.length_drop,Bp0] at hi hj;have:=u (p+i) (p+j) (by omega) (by omega) (by omega);rw[zm5 (by omega),zm5 (by omega)] at this;simpa [List.getElem_drop,List.getElem_take] using this
  have lm:∀x∈l,∃j,k<=j/\j<m/\ky κ x=KK κ xs j:=fun x hx=>by
   obtain⟨j,h1,h2,_,e⟩:=wd7 (κ:=κ) (W1.mem_iff.mp hx);exact⟨j,h1,by omega,e⟩
  refine Bg0.mpr ⟨?_,Bg0.mpr ⟨W.2,?_,fun x hx y hy=>?_⟩,fun x hx y hy=>?_⟩
  ·have:=up1 (p:=0) (q:=k) (by omega) (fun i j g1 g2 g3=>u1 i j g1 g2 (by omega))
   simpa using this
  ·have:=up1 (p:=m) (q:=xs.size) (Ae0 _) (fun i j g1 g2 g3=>u2 i j (by omega) g2 g3)
   rwa [Bu0 (by simp)] at this
  ·obtain⟨i,h1,h2,e⟩:=lm x hx
   obtain⟨j,h3,h4,e2⟩:=zx5 (κ:=κ) hy;show κ.kle (ky κ x) (ky κ y);rw[e,e2];by_cases hi:i<n
   ·exact c2 i hi j h3 h4
   ·exact u2 i j (by omega) (by omega) h4
  ·obtain⟨i,h1,h2,e⟩:=yd7 (κ:=κ) hx
   show κ.kle (ky κ x) (ky κ y);rw[e];rcases At0.mp hy with hy | hy
   ·obtain⟨j,h3,h4,e2⟩:=lm y hy
    rw[e2];by_cases hj:j<n
    ·exact u1 i j (An0 _) (by omega) hj
    ·exact c1 i h1 j (by omega) (by omega)
   ·obtain⟨j,h3,h4,e2⟩:=zx5 (κ:=κ) hy
    rw[e2];exact c1 i h1 j (by omega) h4
theorem wh4 {xs:Array Keyed} {n:Nat} (h0:0<n) (hn:n<xs.size) (u1:Up κ xs 0 n) (u2:Up κ xs n xs.size) (h:κ.kle (KK κ xs (n-1)) (KK κ xs n)):Up κ xs 0 xs.size:=fun i j g1 g2 g3=>by
 by_cases hj:j<n
 ·exact u1 i j g1 g2 hj
 ·by_cases hi:n<=i
  ·exact u2 i j hi g2 g3
  ·exact KeyOrd.kle_trans (u1 i (n-1) g1 (by omega) (by omega)) (KeyOrd.kle_trans h (u2 n j (Ae0 _) (by omega) g3))
theorem vk6 (C:Cmp prog w A E s κ knd) (ka:KeysOf κ a₀) {base n j:Nat} (ua:Up κ a₀ base (base+n)) (hn:base+n<=a₀.size) (hj:j<a₀.size):Cut prog w A E s knd false a₀[j] a₀ base n (fun i=>!κ.blt (KK κ a₀ j) (KK κ a₀ (base+i))) where
 far:=fun i st Q hi hk h=>by
  unfold far;refine Ab1 (ze7 (by omega) ?_);show wpS _ _ _ _ (lt' a₀[j] a₀[base+i] >>= fun x=>pure (x.map (!·))) Q st;exact Ab1 (yn4 C hk ka ka hj (by omega) (Ad1 h))
 mono:=fun i k h1 h2 h=>by
  have h:κ.blt (KK κ a₀ j) (KK κ a₀ (base+k))=false:=by simpa using h
  have:=KeyOrd.kle_trans (ua (base+i) (base+k) (by omega) (by omega) (by omega)) h;have:κ.blt (KK κ a₀ j) (KK κ a₀ (base+i))=false:=this;simp[this]
theorem vk7 (C:Cmp prog w A E s κ knd) (ka:KeysOf κ a₀) {base n i:Nat} (ub:Up κ a₀ base (base+n)) (hn:base+n<=a₀.size) (hi:i<a₀.size):Cut prog w A E s knd true a₀[i] a₀ base n (fun k=>κ.blt (KK κ a₀ (base+k)) (KK κ a₀ i)) where
 far:=fun k st Q hk2 hk h=>by
  unfold far;refine Ab1 (ze7 (by omega) ?_);show wpS _ _ _ _ (lt' a₀[base+k] a₀[i]) Q st;exact yn4 C hk ka ka (by omega) hi h
 mono:=fun p q h1 h2 h=>KeyOrd.klt_of_kle_of_klt (ub (base+p) (base+q) (by omega) (by omega) (by omega)) h
theorem xv4 {xs:Array Keyed} (h:KeysOf κ a₀) (p:xs.Perm a₀):KeysOf κ xs:=fun q hq=>h q ((Array.perm_iff_toList_perm.mp p).mem_iff.mp hq)
theorem wu5 (C:Cmp prog w A E s κ knd) (h0:KeysOf κ a₀) {n1 n2 pw:Nat} (B:Bs a₀ knd #[(0,n1,pw),(n1,n2,0)] st) (hn1:0<n1) (hn2:0<n2) (hs:n1+n2=a₀.size)
 (u1:Up κ (arrOf st) 0 n1) (u2:Up κ (arrOf st) n1 a₀.size) {Q:Bool->SortSt->Prop}
 (h:∀st',Bs a₀ knd #[(0,n1+n2,pw)] st'->Up κ (arrOf st') 0 a₀.size->Q true st'):wpS (model prog w) A E s (mergeAt' 0) Q st:=by
 rw[va0];refine Ab1 (wpS_get ?_);have e0:(pendingOf st)[0]?=some (0,n1,pw):=by rw[B.pend];rfl
 have e1:(pendingOf st)[0+1]?=some (n1,n2,0):=by rw[B.pend];rfl
 have e2:∀z:Nat×Nat×Nat,((pendingOf st).setIfInBounds 0 z).eraseIdxIfInBounds (0+1)=#[z]:=fun z=>by rw[B.pend];simp[Array.eraseIdxIfInBounds]
 rw[e0,e1];dsimp only;rw[e2];refine Ab1 (wu0 ?_);have sz:=B.size;have ks:=xv4 h0 B.perm;have u2':Up κ (arrOf st) n1 (arrOf st).size:=by rw[sz];exact u2
 have B1:Bs a₀ knd #[(0,n1+n2,pw)] (setPending st #[(0,n1+n2,pw)]):=⟨B.perm,B.kind,B.fail,rfl⟩;generalize hst1:setPending st #[(0,n1+n2,pw)]=st1 at B1;have ea:arrOf st1=arrOf st:=by rw[<-hst1]
 rw[<-ea] at sz ks u1 u2' ⊢;have fin:Up κ (arrOf st1) 0 (arrOf st1).size->Q true st1:=fun u=>h st1 B1 (by rw[<-sz];exact u)
 generalize hxs:arrOf st1=xs at *;refine Ab1 (ze7 (show n1<xs.size by omega) (Ab1 (yn6 (vk6 C ks (base:=0) (n:=n1) (by simpa using u1) (by omega) (by omega)) B1.kind (by omega) fun k hk hlt hge=>?_)));dsimp only;simp only[Af0] at hlt hge ⊢;have hlt:∀i,i<k->κ.kle (KK κ xs i) (KK κ xs n1):=fun i hi=>(show κ.blt (KK κ xs n1) (KK κ xs i)=false by simpa using hlt i hi)
 have hge:∀i,k<=i->i<n1->κ.blt (KK κ xs n1) (KK κ xs i)=true:=fun i h1 h2=>by simpa using hge i h1 h2
 by_cases hz:n1-k=0
 ·rw[if_pos (beq_iff_eq.mpr hz)]
  exact Ad1 (fin (wh4 hn1 (by omega) u1 u2' (hlt _ (by omega))))
 rw[if_neg (fun z=>hz (beq_iff_eq.mp z))];have ei:k+(n1-k)-1=n1-1:=by omega
 rw[ei];refine Ab1 (ze7 (show n1-1<xs.size by omega) (Ab1 (yn6 (vk7 C ks (base:=n1) (n:=n2) (by rw[show n1+n2=xs.size by omega];exact u2') (by omega) (by omega)) B1.kind (by omega) fun m hm hlt2 hge2=>?_)));dsimp only;by_cases hz2:m=0
 ·rw[if_pos (beq_iff_eq.mpr hz2)]
  have:=hge2 0 (by omega) (by omega);exact Ad1 (fin (wh4 hn1 (by omega) u1 u2' this))
 rw[if_neg (fun z=>hz2 (beq_iff_eq.mp z))];have hge2:∀j,n1+m<=j->j<xs.size->κ.kle (KK κ xs (n1-1)) (KK κ xs j):=fun j g1 g2=>by
  have:=hge2 (j-n1) (by omega) (by omega);rw[show n1+(j-n1)=j by omega] at this;exact this
 have s1:(xs.extract k n1).size=n1-k:=by simp;omega
 have s2:(xs.extract n1 (n1+m)).size=m:=by simp;omega
 have ff:∀j,j<n1-k->κ.kle (KK κ xs n1) (KK κ xs (k+j)):=fun j hj=>KeyOrd.kle_of_klt (hge _ (by omega) (by omega))
 have T:Tw prog w A E s κ knd (xs.extract k n1) (xs.extract n1 (n1+m)) st1:=by
  refine⟨⟨C,yx9 ks,yx9 ks,xr0 (by omega) u1 (An0 _) (Ae0 _) (by omega),xr0 (Ae0 _) u2' (Ae0 _) (by omega) (by omega),fun j hj=>?_,B1.kind⟩,fun j hj=>?_⟩
  ·rw[s2] at hj
   rw[s1,xk7 (by omega) (by omega),xk7 (by omega) (by omega),show k+(n1-k-1)=n1-1 by omega];exact KeyOrd.kle_of_klt (hlt2 j hj)
  ·rw[s1] at hj
   rw[xk7 (by omega) (by omega),xk7 (by omega) (by omega)];exact ff j hj
 have aft:∀(r:Array Keyed) (st':SortSt),zu9 st1 st'->ym2 κ (xs.extract k n1) (xs.extract n1 (n1+m)) r.toList->wpS (model prog w) A E s (do
  modify fun v=>setArr v (back k r.toList (arrOf v))
  return (failedOf (<-get)).isNone) Q st':=fun r st' l W=>by
  have J:=va7 (by omega) (by omega) (by omega) W u1 u2' (fun i hi j g1 g2=>KeyOrd.kle_trans (hlt i hi) (u2' n1 j (Ae0 _) g1 g2)) (fun i hi j g1 g2=>KeyOrd.kle_trans (u1 i (n1-1) (An0 _) (by omega) (by omega)) (hge2 j g1 g2));refine Ab1 (Am1 (Ab1 (wpS_get ?_)));have ef:failedOf st'=none:=l.fail.trans B1.fail;have ea2:arrOf st'=xs:=l.arr.trans hxs;have e3:(failedOf (setArr st' (back k r.toList (arrOf st')))).isNone=true:=by show (failedOf st').isNone=true;rw[ef];rfl
  rw[e3];refine Ad1 (h _ ⟨?_,l.kind.trans B1.kind,ef,l.pend.trans B1.pend⟩ ?_)
  ·show (back k r.toList (arrOf st')).Perm a₀
   rw[ea2];have:=B1.perm;rw[hxs] at this;exact J.1.trans this
  ·show Up κ (back k r.toList (arrOf st')) 0 a₀.size
   rw[ea2];have:=J.2;rwa [xy9,sz] at this
 by_cases hw:n1-k<=m
 ·rw[if_pos hw]
  refine Ab1 (wu2 T.toTwo (by omega) (by omega) (T.hf 0 (by omega)) aft)
 ·rw[if_neg hw]
  refine Ab1 (wu3 T (by omega) (by omega) aft)
end
section
variable {prog:Program} {w:World} {A:Around} {E:Value->Shared->Prop} {s:Shared} {κ:KeyKind} {knd:SortKind} {a₀:Array Keyed} {st:SortSt}
theorem wr7 {n:Nat} (h2:2<=n) (h:n<128):∃m,minRun' n n 0=m/\1<=m/\m<=n/\n<=2*m:=by
 obtain⟨f,rfl⟩:∃f,n=f+1+1:=⟨n-2,by omega⟩;rw[minRun'_succ];by_cases h64:f+1+1<64
 ·rw[if_pos h64]
  exact⟨_,rfl,by omega,by omega,by omega⟩
 ·rw[if_neg h64,minRun'_succ,if_pos (by omega)]
  exact⟨_,rfl,by omega,by omega,by omega⟩
theorem wk3 {xs ys:Array Keyed} {lo hi i:Nat} (o:Out xs ys lo hi) (h:i<lo\/hi<=i):KK κ ys i=KK κ xs i:=KK_congr (o i h)
theorem Up.out {xs ys:Array Keyed} {lo hi n:Nat} (u:Up κ xs 0 n) (o:Out xs ys lo hi) (h:n<=lo):Up κ ys 0 n:=fun i j g1 g2 g3=>by
 rw[wk3 o (.inl (by omega)),wk3 o (.inl (by omega))];exact u i j g1 g2 g3
noncomputable def vl2 (κ:KeyKind) (a₀:Array Keyed) (knd:SortKind) (m x lo:Nat) (st:SortSt):Prop:=
 (x=0/\lo=0/\Bs a₀ knd #[] st)\/
 (x=1/\lo<a₀.size/\m<=lo/\Bs a₀ knd #[(0,lo,0)] st/\Up κ (arrOf st) 0 lo)\/
 (1<=x/\lo=a₀.size/\∃pw,Bs a₀ knd #[(0,a₀.size,pw)] st/\Up κ (arrOf st) 0 a₀.size)\/
 (2<=x/\lo=a₀.size/\∃n1 n2 pw,0<n1/\0<n2/\n1+n2=a₀.size/\Bs a₀ knd #[(0,n1,pw),(n1,n2,0)] st/\Up κ (arrOf st) 0 n1/\Up κ (arrOf st) n1 a₀.size)
noncomputable def xl0 (κ:KeyKind) (a₀:Array Keyed) (knd:SortKind) (st:SortSt):Prop:=
 (∃pw,Bs a₀ knd #[(0,a₀.size,pw)] st/\Up κ (arrOf st) 0 a₀.size)\/
 ∃n1 n2 pw,0<n1/\0<n2/\n1+n2=a₀.size/\Bs a₀ knd #[(0,n1,pw),(n1,n2,0)] st/\Up κ (arrOf st) 0 n1/\Up κ (arrOf st) n1 a₀.size
theorem Bs.push {P:Array (Nat×Nat×Nat)} (B:Bs a₀ knd P st) (z:Nat×Nat×Nat):Bs a₀ knd (P.push z) (setPending st ((pendingOf st).push z)):=⟨B.perm,B.kind,B.fail,by show (pendingOf st).push z=_;rw[B.pend]⟩
theorem wv7 {m n:Nat} (B:Bs a₀ knd #[] st) (h1:m<=n) (hm:1<=m) (h2:n<=a₀.size) (u:Up κ (arrOf st) 0 (0+n)):vl2 κ a₀ knd m (0+1) (0+n) (setPending st ((pendingOf st).push (0,n,0))):=by
 have B2:=B.push (0,n,0);simp only[Af0] at u ⊢;by_cases hn:n=a₀.size
 ·subst hn
  exact .inr (.inr (.inl ⟨by omega,rfl,0,B2,u⟩))
 ·exact .inr (.inl ⟨rfl,by omega,h1,B2,u⟩)
theorem wk8 (C:Cmp prog w A E s κ knd) (h0:KeysOf κ a₀) (B:Bs a₀ knd #[] st) (h2:2<=a₀.size) (h128:a₀.size<128) {Q:Unit->SortSt->Prop}
 (h:∀st',(arrOf st').Perm a₀->failedOf st'=none->Up κ (arrOf st') 0 a₀.size->Q () st'):wpS (model prog w) A E s sortRuns' Q st:=by
 rw[sortRuns'_eq];refine Ab1 (wpS_get ?_);dsimp only;obtain⟨m,em,hm1,hm2,hm3⟩:=wr7 h2 h128;simp only[B.size,em];refine Ab1 (Al1 (Af1 (I:=fun x c st'=>∃lo,c=(none,lo)/\vl2 κ a₀ knd m x lo st') (Q:=fun c st'=>∃lo,c=(none,lo)/\xl0 κ a₀ knd st') ?step ?fin ⟨0,rfl,.inl ⟨rfl,rfl,B⟩⟩) ?post);case fin=>
  rintro c st' ⟨lo,rfl,R⟩;rcases R with⟨hx,_,_⟩ | ⟨hx,_,_⟩ | ⟨_,_,R⟩ | ⟨_,_,R⟩
  ·omega
  ·omega
  ·exact⟨lo,rfl,.inl R⟩
  ·exact⟨lo,rfl,.inr R⟩
 case step=>
  rintro x c st' _ hx ⟨lo,rfl,R⟩;dsimp only;rcases R with⟨rfl,rfl,B1⟩ | ⟨rfl,hlo,hml,B1,u1⟩ | ⟨_,rfl,R⟩ | ⟨_,rfl,R⟩
  ·rw[if_neg (by omega)]
   refine Ab1 (yi2 C h0 B1 (by omega) (by omega) fun n st2 B2 hn1 hn2 un o=>?_);dsimp only;by_cases hlt:n<m
   ·rw[if_pos hlt]
    refine Ab1 (wpS_lift (Aj1 ⟨rfl,?_⟩));rw[Nat.sub_zero,Nat.min_eq_right hm2];refine Ab1 (yu3 C h0 B2 (by omega) (by omega) un fun st3 B3 u3 o3=>?_);simp only[Bool.not_true,By0,if_false];refine Ab1 (wpS_get ?_);have hb:(pendingOf st3).back?=none:=by rw[B3.pend];rfl
    rw[hb];dsimp only;exact Ab1 (Am1 (Ad1 ⟨_,rfl,wv7 B3 (Ae0 _) hm1 hm2 u3⟩))
   ·rw[if_neg hlt]
    refine Ab1 (wpS_get ?_);have hb:(pendingOf st2).back?=none:=by rw[B2.pend];rfl
    rw[hb];dsimp only;exact Ab1 (Am1 (Ad1 ⟨_,rfl,wv7 B2 (by omega) hm1 (by omega) un⟩))
  ·rw[if_neg (by omega)]
   have aft:∀(st2:SortSt) (n:Nat),n=a₀.size-lo->Bs a₀ knd #[(0,lo,0)] st2->Up κ (arrOf st2) lo (lo+n)->Up κ (arrOf st2) 0 lo->∀pw,vl2 κ a₀ knd m (1+1) (lo+n) (setPending (setPending st2 ((pendingOf st2).modify ((pendingOf st2).size-1) fun (st,len,_)=>(st,len,pw))) ((pendingOf (setPending st2 ((pendingOf st2).modify ((pendingOf st2).size-1) fun (st,len,_)=>(st,len,pw)))).push (lo,n,0))):=fun st2 n hn B2 u2 u1 pw=>by
    subst hn;rw[show lo+(a₀.size-lo)=a₀.size by omega] at u2 ⊢;refine .inr (.inr (.inr ⟨by omega,rfl,lo,a₀.size-lo,pw,by omega,by omega,by omega,⟨B2.perm,B2.kind,B2.fail,?_⟩,u1,u2⟩));show ((pendingOf st2).modify ((pendingOf st2).size-1) _).push _=_;rw[B2.pend];rfl
   have brk:∀(st2:SortSt) (n pw:Nat) (Q':ForInStep (Option Unit×Nat)->SortSt->Prop),Bs a₀ knd #[(0,lo,0)] st2->True:=fun _ _ _ _ _=>trivial
   refine Ab1 (yi2 C h0 B1 (by omega) (by omega) fun n st2 B2 hn1 hn2 un o=>?_);have u1':=u1.out o (Ae0 _);dsimp only;by_cases hlt:n<m
   ·rw[if_pos hlt]
    refine Ab1 (wpS_lift (Aj1 ⟨rfl,?_⟩));rw[Nat.min_eq_left (show a₀.size-lo<=m by omega)];refine Ab1 (yu3 C h0 B2 (by omega) (by omega) un fun st3 B3 u3 o3=>?_);have u1'':=u1'.out o3 (Ae0 _);simp only[Bool.not_true,By0,if_false];refine Ab1 (wpS_get ?_);have hb:(pendingOf st3).back?=some (0,lo,0):=by rw[B3.pend];rfl
    rw[hb];dsimp only;refine Ab1 (Al1 (Af1 (I:=fun _ c st4=>c=(none,())/\st4=st3) (Q:=fun c st4=>c=(none,())/\st4=st3) (fun y c st4 hy1 hy2 hI=>?_) (fun c st4 hI=>hI) ⟨rfl,rfl⟩) fun c st4 hI=>?_)
    ·obtain⟨e1,e2⟩:=hI
     subst e1;rw[e2];refine Ab1 (wpS_get ?_);have e3:(pendingOf st3).size=1:=by rw[B3.pend];rfl
     rw[if_neg (show ¬(pendingOf st3).size>1 by omega)];exact Ad1 ⟨rfl,rfl⟩
    ·obtain⟨e1,e2⟩:=hI
     subst e1 e2;dsimp only;exact Ab1 (Am1 (Ab1 (Am1 (Ad1 ⟨_,rfl,aft _ _ rfl B3 u3 u1'' _⟩))))
   ·rw[if_neg hlt]
    refine Ab1 (wpS_get ?_);have hb:(pendingOf st2).back?=some (0,lo,0):=by rw[B2.pend];rfl
    rw[hb];dsimp only;refine Ab1 (Al1 (Af1 (I:=fun _ c st4=>c=(none,())/\st4=st2) (Q:=fun c st4=>c=(none,())/\st4=st2) (fun y c st4 hy1 hy2 hI=>?_) (fun c st4 hI=>hI) ⟨rfl,rfl⟩) fun c st4 hI=>?_)
    ·obtain⟨e1,e2⟩:=hI
     subst e1;rw[e2];refine Ab1 (wpS_get ?_);have e3:(pendingOf st2).size=1:=by rw[B2.pend];rfl
     rw[if_neg (show ¬(pendingOf st2).size>1 by omega)];exact Ad1 ⟨rfl,rfl⟩
    ·obtain⟨e1,e2⟩:=hI
     subst e1 e2;dsimp only;exact Ab1 (Am1 (Ab1 (Am1 (Ad1 ⟨_,rfl,aft _ _ (by omega) B2 un u1' _⟩))))
  ·rw[if_pos (Ae0 _)]
   exact Ad1 ⟨_,rfl,.inl R⟩
  ·rw[if_pos (Ae0 _)]
   exact Ad1 ⟨_,rfl,.inr R⟩
 case post=>
  rintro c st' ⟨lo,rfl,R⟩;dsimp only;refine Ab1 (Al1 (Af1 (I:=fun x c st''=>c=(none,())/\((x=0/\xl0 κ a₀ knd st'')\/∃pw,Bs a₀ knd #[(0,a₀.size,pw)] st''/\Up κ (arrOf st'') 0 a₀.size)) (Q:=fun c st''=>c=(none,())/\∃pw,Bs a₀ knd #[(0,a₀.size,pw)] st''/\Up κ (arrOf st'') 0 a₀.size) ?_ ?_ ⟨rfl,.inl ⟨rfl,R⟩⟩) ?_)
  ·rintro x c st'' _ _ ⟨rfl,R⟩
   refine Ab1 (wpS_get ?_);have one:(∃pw,Bs a₀ knd #[(0,a₀.size,pw)] st''/\Up κ (arrOf st'') 0 a₀.size)->(pendingOf st'').size=1:=fun ⟨pw,B,_⟩=>by rw[B.pend];rfl
   rcases R with⟨_,R | ⟨n1,n2,pw,g1,g2,g3,B3,u1,u2⟩⟩ | R
   ·rw[if_pos (by rw[one R];exact Ae0 1)]
    exact Ad1 ⟨rfl,R⟩
   ·have e3:(pendingOf st'').size=2:=by rw[B3.pend];rfl
    rw[if_neg (by omega),e3];show wpS _ _ _ _ (mergeAt' 0 >>= _) _ _;refine Ab1 (wu5 C h0 B3 g1 g2 g3 u1 u2 fun st4 B4 u4=>?_);rw[g3] at B4;exact Ad1 ⟨rfl,.inr ⟨pw,B4,u4⟩⟩
   ·rw[if_pos (by rw[one R];exact Ae0 1)]
    exact Ad1 ⟨rfl,R⟩
  ·rintro c st'' ⟨rfl,R⟩
   rcases R with⟨hx,_⟩ | R
   ·omega
   ·exact⟨rfl,R⟩
  ·rintro c st'' ⟨rfl,pw,B,u⟩
   exact Ad1 (h _ B.perm B.fail u)
end
open PySem PyProof PyProof.Rows
noncomputable def ys6 (h:Heap):Value->Option (Int×Int)
 | .ref a=>match h.get? a with
   | some o=>match o.data with
     | .seq xs _=>match xs.toList with
       | [.int x _,.int y _]=>some (x,y)
       | _=>none
     | _=>none
   | none=>none
 | _=>none
noncomputable def zs9 (h:Heap) (v:Value) (p:Int×Int):Prop:=∃a o n t u,v=.ref a/\h.get? a=some o/\o.cls=.type "tuple"/\o.data=.seq #[.int p.1 t,.int p.2 u] n
theorem zs9.key {h:Heap} {v:Value} {p:Int×Int} (z:zs9 h v p):ys6 h v=some p:=by
 obtain⟨a,o,n,t,u,rfl,g,_,d⟩:=z;simp[ys6,g,d]
set_option tactic.hygienic true in
theorem yp0 {h:Heap} {v:Value} {p:Int×Int} (z:ys6 h v=some p):∃a o n t u,v=.ref a/\h.get? a=some o/\o.data=.seq #[.int p.1 t,.int p.2 u] n:=by
 unfold ys6 at z;split at z
 ·rename_i a
  split at z
  ·rename_i o g
   split at z
   ·rename_i xs n d
    split at z
    ·rename_i x t y u e
     cases z;refine⟨a,o,n,t,u,rfl,g,?_⟩;rw[d];congr 1;exact Array.toList_inj.mp e
    ·cases z
   ·cases z
  ·cases z
 ·cases z
noncomputable def lx (a b:Int×Int):Bool:=decide (a.1<b.1\/a.1=b.1/\a.2<b.2)
theorem lx_iff {a b:Int×Int}:lx a b=true↔(a.1<b.1\/a.1=b.1/\a.2<b.2):=decide_eq_true_iff
theorem xi2 {a b:Int×Int}:lx a b=false↔¬(a.1<b.1\/a.1=b.1/\a.2<b.2):=decide_eq_false_iff_not
noncomputable def wl8 (h:Heap):KeyKind where
 α:=Int×Int
 blt:=lx
 irrefl:=fun a=>xi2.mpr (by omega)
 trans:=fun a b c h1 h2=>by rw[lx_iff] at *;omega
 negTrans:=fun a b c h1=>by rw[lx_iff,lx_iff];rw[lx_iff] at h1;omega
 total:=fun a b h1 h2=>by rw[xi2] at *;exact Prod.ext (by omega) (by omega)
 keyOf:=ys6 h
 dflt:=(0,0)
section
variable {prog:Program} {w:World} {A:Around} {E:Value->Shared->Prop} {s:Shared}
theorem yy3 (f:Bool) (x y:Value):keyLt' (tuples' f) x y=(do
 let us <-Builtin.List.listItems x
 let vs <-Builtin.List.listItems y
 for ((p,q),i) in (us.toList.zip vs.toList).zipIdx do
  if !(<-eqBool p q) then return <-oneLt' (f&&i == 0) p q
 return decide (us.size<vs.size)):=rfl
theorem va1 {x y:Int} {t u:Tok} {Q:Bool->Shared->Prop} (h:Q (decide (x<y)) s):wpAny (model prog w) A (oneLt' false (.int x t) (.int y u)) Q E s:=by
 rw[oneLt'_eq];simp only[By0,if_false];refine Aa1 (wpAny_richCompare_same (id:="int.__lt__") (typeIs_int s x t) (typeIs_int s y u) slot_int_lt (call_int_lt ⟨by simp,?_⟩));exact Ai1 h
theorem wg4:Cmp prog w A E s (wl8 s.heap) (tuples' true):=by
 intro st x y a b Q hk hx hy h;obtain⟨i,o,n,t,u,e1,g1,d1⟩:=yp0 hx;obtain⟨j,o2,n2,t2,u2,e2,g2,d2⟩:=yp0 hy;rw[lt'_eq];refine Ab1 (wpS_get ?_);rw[hk,yy3,e1,e2];refine Ab1 (wpS_lift (wpAny_attempt (Aa1 (listItems_at g1 d1 (Aa1 (listItems_at g2 d2 ?_))))));simp only[List.zip_cons_cons,List.zipIdx_cons,List.forIn_cons,List.zip_nil_left,List.zipIdx_nil,List.forIn_nil];refine Aa1 (Aa1 (Aa1 (wpAny_eqBool_int ?_)));by_cases c1:a.1=b.1
 ·rw[if_neg (by simp[c1])]
  refine Ac1 (Aa1 (Aa1 (wpAny_eqBool_int ?_)));by_cases c2:a.2=b.2
  ·rw[if_neg (by simp[c2])]
   refine Ac1 (Ac1 (Ac1 ⟨rfl,Ad1 ?_⟩));rw[show (wl8 s.heap).blt a b=false from xi2.mpr (by omega)] at h;exact h
  ·rw[if_pos (by simp[c2])]
   refine Aa1 (va1 (Ac1 (Ac1 (Ac1 ⟨rfl,Ad1 ?_⟩))));rw[show (wl8 s.heap).blt a b=decide (a.2<b.2) from decide_eq_decide.mpr (by omega)] at h;exact h
 ·rw[if_pos (by simp[c1])]
  refine Aa1 (oneLt_int (Ac1 (Ac1 (Ac1 ⟨rfl,Ad1 ?_⟩))));rw[show (wl8 s.heap).blt a b=decide (a.1<b.1) from decide_eq_decide.mpr (by omega)] at h;exact h
theorem xq6 {α β:Type} {f:α->Sem β} {g:α->β}:∀(l:List α) (Q:List β->Shared->Prop),(∀x∈l,∀R:β->Shared->Prop,R (g x) s->wpAny (model prog w) A (f x) R E s)->Q (l.map g) s->wpAny (model prog w) A (l.mapM f) Q E s
 | [],Q,_,h=>by rw[List.mapM_nil];exact Ac1 h
 | x::l,Q,k,h=>by
   rw[List.mapM_cons];exact Aa1 (k x (Cf0 ..) _ (Aa1 (xq6 l _ (fun y hy=>k y (Bw0 _ hy)) (Ac1 h))))
noncomputable def fst? (h:Heap) (v:Value):Option Value:=match v with
 | .ref a=>match h.get? a with
   | some o=>match o.data with
     | .seq xs _=>xs[0]?
     | _=>none
   | none=>none
 | _=>none
theorem wf3 (v:Value):firstOfTuple' v=(do
 if (<-typeOf v) != .type "tuple" then return none
 return (<-Builtin.List.listItems v)[0]?):=rfl
theorem zs9.fst {h:Heap} {v:Value} {p:Int×Int} (z:zs9 h v p):∃t,fst? h v=some (.int p.1 t):=by
 obtain⟨a,o,n,t,u,rfl,g,_,d⟩:=z;exact⟨t,by simp[fst?,g,d]⟩
theorem xv3 {vs:List Value} (hv:∀v∈vs,∃p,zs9 s.heap v p) (h0:vs≠[]) {Q:SortKind->Shared->Prop} (h:Q (tuples' true) s):wpAny (model prog w) A (keyKind' vs.toArray) Q E s:=by
 rw[keyKind'_eq,List.mapM_toArray];refine Aa1 ?_;rw[map_eq_pure_bind];refine Aa1 (xq6 (g:=fst? s.heap) vs _ (fun v m R hR=>?_) (Ac1 ?_))
 ·obtain⟨p,z⟩:=hv v m
  obtain⟨a,o,n,t,u,rfl,g,c,d⟩:=z;rw[wf3];refine Aa1 (wpAny_typeOf (T:="tuple") ⟨o,g,c⟩ ?_);rw[if_neg (by simp)];refine Aa1 (listItems_at g d (Ac1 ?_));have:fst? s.heap (.ref a)=some (.int p.1 t):=by simp[fst?,g,d]
  rw[this] at hR;exact hR
 ·have all:((vs.map (fst? s.heap)).toArray.all (·.isSome))=true:=by
   simp only[List.all_toArray,List.all_map,List.all_eq_true];intro v m;obtain⟨p,z⟩:=hv v m;obtain⟨t,e⟩:=z.fst;simp[e]
  rw[if_pos all];refine Aa1 (Aj1 ?_);have ex:∀us:List Value,(∀v∈us,∃p,zs9 s.heap v p)->∃ns:List Int,IntsAre ((us.map (fst? s.heap)).filterMap id) ns/\ns.length=us.length:=by
   intro us;induction us with
   | nil=>intro _;exact⟨[],.nil,rfl⟩
   | cons v us ih=>
     intro k;obtain⟨ns,i,l⟩:=ih fun x hx=>k x (Bw0 _ hx)
     obtain⟨p,z⟩:=k v (Cf0 ..);obtain⟨t,e⟩:=z.fst;refine⟨p.1::ns,?_,by simp[l]⟩;rw[Ay0,e];show IntsAre (Value.int p.1 t::(us.map (fst? s.heap)).filterMap id) _;exact .cons _ _ i
  obtain⟨ns,hi,hl⟩:=ex vs hv;have et:(vs.map (fst? s.heap)).toArray.filterMap id=((vs.map (fst? s.heap)).filterMap id).toArray:=by simp
  rw[et];cases hc:(vs.map (fst? s.heap)).filterMap id with
  | nil=>
    rw[hc] at hi;cases hi;cases vs with
    | nil=>exact absurd rfl h0
    | cons _ _=>simp at hl
  | cons v1 zy3=>
    rw[hc] at hi;rw[oneTypeOnly'_eq,List.mapM_toArray,mapM_typeOf_ints hi];simp only[map_pure,pure_bind];have hall:((List.map (fun _=>Value.type "int") (v1::zy3)).toArray.all fun x=>x == Value.type "int")=true:=by
     simp only[List.all_toArray,List.all_map,List.all_eq_true];intro _ _;rfl
    have h1:(List.map (fun _=>Value.type "int") (v1::zy3)).toArray[0]?=some (Value.type "int"):=by simp
    rw[h1];simp only[hall,if_true,pure_bind];exact Ac1 h
end
noncomputable abbrev xn8 (h:Heap) (v:Value):Int×Int:=(ys6 h v).getD (0,0)
noncomputable def lxle (a b:Int×Int):Prop:=a.1<b.1\/a.1=b.1/\a.2<=b.2
theorem wq9 {a b:Int×Int} (h:lx b a=false):lxle a b:=by rw[xi2] at h;unfold lxle;omega
section
variable {prog:Program} {w:World} {A:Around} {E:Value->Shared->Prop} {s:Shared}
noncomputable abbrev Up1 (h:Heap) (a:Addr) (vs:List Value):Heap:=((h.update a (Obj.mapSeq fun _=>#[])).push (seqObj "tuple" vs.toArray 0)).push (seqObj "list" #[] 0)
theorem wv5 {h:Heap} {a b:Addr} {o:Obj} {vs:List Value} (g:h.get? b=some o) (ne:b≠a):(Up1 h a vs).get? b=some o:=by
 have hb:=Heap.lt_size g;unfold Up1;rw[Ch0 _ _ _ (by rw[size_push',Heap.size_update];exact Ao0 (Nat.lt_succ_of_lt hb)),Ch0 _ _ _ (by rw[Heap.size_update];exact Ao0 hb),Heap.get?_update_ne _ _ _ _ ne];exact g
theorem zs9.up1 {h:Heap} {a:Addr} {n:Nat} {vs us:List Value} (o1:h.get? a=some (seqObj "list" vs.toArray n)) {v:Value} {p:Int×Int} (z:zs9 h v p):zs9 (Up1 h a us) v p:=by
 obtain⟨b,o,m,t,u,rfl,g,c,d⟩:=z;refine⟨b,o,m,t,u,rfl,wv5 g fun e=>?_,c,d⟩;subst e;rw[o1] at g;cases g;exact absurd (Value.type.inj c) (by decide)
theorem wr3 {h:Heap} {a:Addr} {n:Nat} {vs us:List Value} (o1:h.get? a=some (seqObj "list" vs.toArray n)) {v:Value} (z:∃p,zs9 h v p):ys6 (Up1 h a us) v=ys6 h v:=by
 obtain⟨p,z⟩:=z;rw[z.key,(z.up1 o1).key]
theorem xr7 {a:Addr} {vs:List Value} {n:Nat} {P:Fin->Shared->Prop} (o1:s.heap.get? a=some (seqObj "list" vs.toArray n)) (hv:∀v∈vs,∃p,zs9 s.heap v p) (h128:vs.length<128)
 (h:∀out:Array Value,out.toList.Perm vs->out.toList.Pairwise (fun x y=>lxle (xn8 s.heap x) (xn8 s.heap y))->P (.done (.ret .none)) { s with heap:=sortedHeap s.heap a vs out }) :
 wpAny (model prog w) A (Builtin.«list.sort» ⟨[.ref a],[]⟩) P E s:=by
 rw[list_sort_plain];have la:a<s.heap.objs.size:=Heap.lt_size o1;refine Aa1 (listItems_at o1 rfl ?_);refine Aa1 (listUpdate_at o1 rfl ?_);obtain⟨e1,o2⟩:∃e1,(s.heap.update a (Obj.mapSeq fun _=>#[])).get? a=some (seqObj "list" #[] e1):=⟨_,get?_update_seq o1 (fun _=>#[])⟩;refine Aa1 (seqEpoch_at o2 rfl ?_);refine Aa1 (wpAny_newTuple (Aa1 (wpAny_newList (wpAny_holding ?_))));have o3:(Up1 s.heap a vs).get? a=some (seqObj "list" #[] e1):=by
  unfold Up1;rw[Ch0 _ _ _ (by rw[size_push',Heap.size_update];exact Ao0 (Nat.lt_succ_of_lt la)),Ch0 _ _ _ (by rw[Heap.size_update];exact Ao0 la)];exact o2
 show wpAny (model prog w) A _ P E { s with heap:=Up1 s.heap a vs };dsimp only;have sz:vs.toArray.size=vs.length:=by simp
 have fin:∀st':SortSt,(arrOf st').Perm (pairsOf vs)->Up (wl8 (Up1 s.heap a vs)) (arrOf st') 0 (pairsOf vs).size->P (.done (.ret .none)) { s with heap:=sortedHeap s.heap a vs ((arrOf st').map (·.2)) }:=by
  intro st' hp hs;have hl:(arrOf st').toList.Perm (vs.zip vs):=by rw[<-pairsOf_toList];exact Array.perm_iff_toList_perm.mp hp
  have hm:∀p,p∈(arrOf st').toList->p.1=p.2/\p.1∈vs:=fun p hp'=>mem_zip_self (hl.mem_iff.mp hp')
  refine h _ ?_ ?_
  ·rw[Array.toList_map]
   have:=hl.map (·.2);rwa [List.map_snd_zip (Ae0 _)] at this
  ·rw[Array.toList_map,List.pairwise_map,Bk0]
   intro i j hi hj hij;have hi':i<(arrOf st').size:=by simpa using hi
   have hj':j<(arrOf st').size:=by simpa using hj
   have h1:=hs i j (An0 _) (Nat.le_of_lt hij) (by rw[<-hp.size_eq];exact hj');rw[zm5 hi',zm5 hj'] at h1;have k:∀t (ht:t<(arrOf st').size),ky (wl8 (Up1 s.heap a vs)) (arrOf st')[t]=xn8 s.heap (arrOf st')[t].2:=fun t ht=>by
    have m:=hm _ (Array.getElem_mem_toList ht);show (ys6 (Up1 s.heap a vs) (arrOf st')[t].1).getD (0,0)=_;rw[wr3 o1 (hv _ m.2),m.1]
   rw[k i hi',k j hj'] at h1;have:=wq9 h1;simpa using this
 by_cases h2:vs.toArray.size<2
 ·rw[if_pos h2,if_pos h2]
  refine Aa1 (Ac1 ?_);rw[StateT.run_pure];refine Aa1 (Ac1 ?_);dsimp only;refine Aa1 (seqEpoch_at o3 rfl ?_);refine Aa1 (listUpdate_at o3 rfl ?_ (hsz2:=Ax0 (Nat.le_of_eq ((Array.size_map ..).trans (pairsOf_size _))) (by rw[sizeLine_eq];omega)));simp only[bne_self_eq_false,By0,if_false];exact Ac1 (fin (SortSt.mk' general' (vs.toArray.zip vs.toArray) #[] 7 none) (Array.Perm.refl _) (Up.one (by rw[pairsOf_size];omega)))
 ·rw[if_neg h2,if_neg h2]
  refine Aa1 (xv3 (s:={ s with heap:=Up1 s.heap a vs }) (fun v m=>(hv v m).imp fun p z=>z.up1 o1) (fun e=>by subst e;simp at h2) ?_);refine Aa1 (Ah1 (wk8 (s:={ s with heap:=Up1 s.heap a vs }) (a₀:=pairsOf vs) (st:=SortSt.mk' (tuples' true) (vs.toArray.zip vs.toArray) #[] 7 none) (Q:=fun _ st'=>(arrOf st').Perm (pairsOf vs)/\failedOf st'=none/\Up (wl8 (Up1 s.heap a vs)) (arrOf st') 0 (pairsOf vs).size) wg4 (fun p hp=>?_) ⟨Array.Perm.refl _,rfl,rfl,rfl⟩ (by rw[pairsOf_size];omega) (by rw[pairsOf_size];exact h128) fun st' a1 a2 a3=>⟨a1,a2,a3⟩) ?_ fun _ _ e=>e)
  ·rw[pairsOf_toList] at hp
   obtain⟨q,z⟩:=hv _ (mem_zip_self hp).2;exact⟨q,(z.up1 o1).key⟩
  ·rintro ⟨⟨⟩,st'⟩ s' ⟨rfl,hp,hf,hs⟩
   dsimp only;refine Aa1 (seqEpoch_at o3 rfl ?_);refine Aa1 (listUpdate_at o3 rfl ?_ (hsz2:=Ax0 (Nat.le_of_eq ((Array.size_map ..).trans (hp.size_eq.trans (pairsOf_size _)))) (by rw[sizeLine_eq];omega)));rw[hf];simp only[bne_self_eq_false,By0,if_false];exact Ac1 (fin st' hp hs)
theorem xb5 {l:Addr} {vs:List Value} {Q:Value->Shared->Prop} (hl:s.heap.IsList l vs.toArray) (hv:∀v∈vs,∃p,zs9 s.heap v p) (h128:vs.length<128)
 (h:∀out:Array Value,out.toList.Perm vs->out.toList.Pairwise (fun x y=>lxle (xn8 s.heap x) (xn8 s.heap y))->Q (.ref (s.heap.objs.size+1)) { s with heap:=sortedAll s.heap vs out }) :
 wpAny (model prog w) A (call (.builtin "sorted") [.ref l]) Q E s:=by
 refine Calls.call_function_entry kind_sorted plain_sorted entry_sorted (args_sorted1 _) ?_;unfold Builtin.«sorted»;refine Aa1 (m:=checkCount "sorted" 1 1 _) (Ac1 (Aa1 (collect_list hl ?_ (by rw[sizeLine_eq];omega))));refine Aa1 (wpAny_newList ?_);have sz:((s.heap.push (seqObj "list" #[] 0)).update s.heap.objs.size (Obj.mapSeq (·++vs.toArray))).objs.size=s.heap.objs.size+1:=by
  rw[Heap.size_update,size_push']
 have o1:(((s.heap.push (seqObj "list" #[] 0)).update s.heap.objs.size (Obj.mapSeq (·++vs.toArray))).push (seqObj "list" vs.toArray 0)).get? (s.heap.objs.size+1)=some (seqObj "list" vs.toArray 0):=by
  rw[<-sz];exact Ak0 _ rfl
 show wpAny _ _ _ _ _ { s with heap:=((s.heap.push (seqObj "list" #[] 0)).update s.heap.objs.size (Obj.mapSeq (·++vs.toArray))).push (seqObj "list" vs.toArray 0) };rw[sz];generalize hH:((s.heap.push (seqObj "list" #[] 0)).update s.heap.objs.size (Obj.mapSeq (·++vs.toArray))).push (seqObj "list" vs.toArray 0)=H1 at o1 ⊢;have old:∀b o,s.heap.get? b=some o->H1.get? b=some o:=fun b o g=>by
  have hb:=Heap.lt_size g;rw[<-hH,Ch0 _ _ _ (by rw[sz];exact Ao0 (Nat.lt_succ_of_lt hb)),Heap.get?_update_ne _ _ _ _ (Ao0 hb),Ch0 _ _ _ (Ao0 hb)];exact g
 have keep:∀v p,zs9 s.heap v p->zs9 H1 v p:=fun v p z=>by
  obtain⟨b,o,m,t,u,rfl,g,c,d⟩:=z;exact⟨b,o,m,t,u,rfl,old _ _ g,c,d⟩
 have ke:∀v∈vs,xn8 H1 v=xn8 s.heap v:=fun v m=>by
  obtain⟨p,z⟩:=hv v m;unfold xn8;rw[z.key,(keep _ _ z).key]
 refine Aa1 (wpAny_holding (Ak1 slot_list_sort ⟨_,o1,rfl⟩ entry_list_sort (xr7 (s:={ s with heap:=H1 }) o1 (fun v m=>(hv v m).imp fun p z=>keep v p z) h128 fun out a1 a2=>⟨_,rfl,?_⟩) (args_list_sort _)));refine Ac1 ⟨_,rfl,?_⟩;have:=h out a1 (a2.imp_of_mem fun {x y} hx hy q=>by
  rw[<-ke x (a1.mem_iff.mp hx),<-ke y (a1.mem_iff.mp hy)];exact q)
 unfold sortedAll at this;rw[hH] at this;exact this
end
end Ts
namespace L2
open PySem PySem.Spec PyProof PyProof.Rows Ts
theorem xc7 {α β:Type} {F:α->β->Prop} {bs bs':List β} (p:bs'.Perm bs):∀{as:List α},Paired F as bs->∃as',as'.Perm as/\Paired F as' bs':=by
 induction p with
 | nil=>intro as h;exact⟨as,.refl _,h⟩
 | cons x _ ih=>
   intro as h;cases h with
   | cons h1 h2=>
     obtain⟨as',p',h'⟩:=ih h2;exact⟨_,p'.cons _,.cons h1 h'⟩
 | swap x y l=>
   intro as h;cases h with
   | cons h1 h2=>cases h2 with
     | cons h3 h4=>exact⟨_,List.Perm.swap ..,.cons h3 (.cons h1 h4)⟩
 | trans _ _ ih1 ih2=>
   intro as h;obtain⟨as1,p1,h1⟩:=ih2 h;obtain⟨as2,p2,h2⟩:=ih1 h1;exact⟨as2,p2.trans p1,h2⟩
noncomputable abbrev P2:=Int×Int
noncomputable def lxB (a b:P2):Bool:=decide (a.1<b.1\/a.1=b.1/\a.2<=b.2)
noncomputable def wt6 (a:P2):List P2->List P2
 | []=>[a]
 | b::l=>if lxB a b then a::b::l else b::wt6 a l
noncomputable def zy1 (l:List P2):List P2:=l.foldr wt6 []
theorem yk6 (a:P2):∀l,(wt6 a l).Perm (a::l)
 | []=>.refl _
 | b::l=>by
   unfold wt6;split
   ·exact .refl _
   ·exact((yk6 a l).cons b).trans (List.Perm.swap ..)
theorem zx3:∀l,(zy1 l).Perm l
 | []=>.refl _
 | a::l=>(yk6 a (zy1 l)).trans ((zx3 l).cons a)
theorem xn5 {a b c:P2} (h1:lxle a b) (h2:lxle b c):lxle a c:=by unfold lxle at *;omega
theorem xu8 {a b:P2} (h1:lxle a b) (h2:lxle b a):a=b:=by unfold lxle at *;exact Prod.ext (by omega) (by omega)
set_option tactic.hygienic true in
theorem xw4 (a:P2):∀l,l.Pairwise lxle->(wt6 a l).Pairwise lxle
 | [],_=>List.pairwise_singleton _ _
 | b::l,h=>by
   have h':=Bq0.mp h;unfold wt6;split
   ·rename_i q
    have q:lxle a b:=(of_decide_eq_true q:a.1<b.1\/a.1=b.1/\a.2<=b.2);refine Bq0.mpr ⟨fun x hx=>?_,h⟩;rcases Ai0.mp hx with rfl | hx
    ·exact q
    ·exact xn5 q (h'.1 x hx)
   ·rename_i q
    have q:lxle b a:=by
     have:¬(a.1<b.1\/a.1=b.1/\a.2<=b.2):=fun z=>q (Ap1 z)
     unfold lxle;omega
    refine Bq0.mpr ⟨fun x hx=>?_,xw4 a l h'.2⟩;rcases Ai0.mp ((yk6 a l).mem_iff.mp hx) with rfl | hx
    ·exact q
    ·exact h'.1 x hx
theorem yr3:∀l,(zy1 l).Pairwise lxle
 | []=>List.Pairwise.nil
 | a::l=>xw4 a _ (yr3 l)
theorem wf4 {l m:List P2} (p:m.Perm l) (u:m.Pairwise lxle):m=zy1 l:=
 (p.trans (zx3 l).symm).eq_of_pairwise (fun a b _ _ h1 h2=>xu8 h1 h2) u (yr3 l)
noncomputable abbrev PrV (H:Hp):List V->List P2->Prop:=Paired fun v p=>∃b,v=.ref b/\H b=some (.tup [.int p.1,.int p.2])
section
variable {X:Cx} {S:Type} {W:Wd S} {c:Dx W} {g ga gb gc:Gr} {a b:Expr} {fa fb fc:Fn S} {pos p2:Pos}
theorem xa1:ya9 X (.builtin "sorted") (fun xs H Q=>∃(a:Addr) (vs:List V) (ps:List P2),xs=[.ref a]/\SqL X.K H a vs/\PrV H vs ps/\ps.length<128/\∀p vs',H p=none->PrV H vs' (zy1 ps)->Q (.ref p) (upd H p (.lst vs'))):=by
 intro A3 s σ H xs us Q I r h;obtain⟨a,vs,ps,rfl,hq,hp,h128,q⟩:=h;obtain⟨u,rfl,r1⟩:=ym5 r;cases r1;obtain⟨its,rv,pl,hz⟩:=I.list hq;have three:∀{vs:List V} {its:List Value} {ps:List P2},zg1 vs its->PrV H vs ps->Paired (fun v u=>zf3 v u/\∃p,(∃b,v=.ref b/\H b=some (.tup [.int p.1,.int p.2]))/\zs9 s.heap u p) vs its/\its.map (xn8 s.heap)=ps:=by
  intro vs its ps rv;induction rv generalizing ps with
  | nil=>intro hp;cases hp;exact⟨.nil,rfl⟩
  | cons r1 _ ih=>
    intro hp;cases hp with
    | cons z hp=>
      obtain⟨i1,i2⟩:=ih hp;obtain⟨b,e,hb⟩:=z;have r0:=r1;rw[e] at r0;obtain⟨js,rj,⟨o,g,cl,n,d⟩,_⟩:=I.tuple (SqT.of hb);cases rj with
      | cons x1 rj=>cases rj with
        | cons x2 rj=>
          cases rj;obtain⟨t1,rfl⟩:=x1;obtain⟨t2,rfl⟩:=x2;have tw:zs9 s.heap (.ref b) _:=⟨b,o,n,t1,t2,rfl,g,cl,d⟩;cases r0;refine⟨.cons ⟨r1,_,⟨b,e,hb⟩,tw⟩ i1,?_⟩;rw[Ay0,i2];unfold xn8;rw[tw.key];rfl
 obtain⟨t3,ek⟩:=three rv hp;have hm:∀{vs:List V} {its:List Value},Paired (fun v u=>zf3 v u/\∃p,(∃b,v=.ref b/\H b=some (.tup [.int p.1,.int p.2]))/\zs9 s.heap u p) vs its->(∀v∈its,∃p,zs9 s.heap v p)/\zg1 vs its/\PrV H vs (its.map (xn8 s.heap)):=by
  intro vs its z;induction z with
  | nil=>exact⟨fun v m=>absurd m (by simp),.nil,.nil⟩
  | cons y _ ih=>
    obtain⟨r1,p,z,tw⟩:=y;refine⟨fun v m=>?_,.cons r1 ih.2.1,.cons ?_ ih.2.2⟩
    ·rcases Ai0.mp m with rfl | m
     ·exact⟨p,tw⟩
     ·exact ih.1 v m
    ·unfold xn8;rw[tw.key];exact z
 have hl:=rv.length;have hl2:=Paired.length hp;refine xb5 pl.isList (hm t3).1 (by omega) fun out p1 u1=>?_
 obtain⟨vs',pv,t3'⟩:=xc7 p1 t3;have es:out.toList.map (xn8 s.heap)=zy1 ps:=wf4 (by rw[<-ek];exact p1.map _) (by rw[List.pairwise_map];exact u1);obtain⟨_,r2,w2⟩:=hm t3';rw[es] at w2;obtain⟨e,he⟩:=sortedAll_at s.heap its out;refine⟨.ref (s.heap.objs.size+1),_,I.laid (t':=s.toks) (a:=s.heap.objs.size+1) (o:=.lst vs') (fun b o e=>sortedAll_old e) (Nat.le_succ _) ?_,rfl,q _ _ (I.hok.fresh (Nat.le_succ _)) w2⟩;exact⟨by rw[pv.length_eq];exact Nat.le_of_lt (yb4 (by omega)),out.toList,e,r2,he⟩
noncomputable abbrev prD (p:P2):D:=.tup [.int p.1,.int p.2]
noncomputable def yr7:List D->Option (List P2)
 | []=>some []
 | .tup [.int x,.int y]::l=>(yr7 l).map fun r=>(x,y)::r
 | _=>none
theorem yw0:∀ps:List P2,yr7 (ps.map prD)=some ps
 | []=>rfl
 | p::ps=>by rw[Ay0];unfold yr7;rw[yw0 ps];rfl
set_option tactic.hygienic true in
theorem xg8 {K:PySem.W.Frag} {A:Addr->Prop} {H:Hp}:∀{l:List D} {vs:List V} {ps:List P2},yr7 l=some ps->IsL K A H l vs->PrV H vs ps
 | [],vs,ps,e,h=>by cases e;rw[IsL.nil.mp h];exact .nil
 | d::l,vs,ps,e,h=>by
   obtain⟨v,r,e1,i1,i2⟩:=IsL.cons.mp h;unfold yr7 at e;split at e
   ·rename_i he;cases he
   ·rename_i x y m he
    cases he;cases q:yr7 l with
    | none=>rw[q] at e;cases e
    | some rs=>
      rw[q] at e;cases e;obtain⟨b,ws,e2,hb,i3⟩:=Is.tup_iff.mp i1;obtain⟨v1,r1,e3,j1,j2⟩:=IsL.cons.mp i3;obtain⟨v2,r2,e4,j3,j4⟩:=IsL.cons.mp j2;rw[Is.int_iff.mp j1] at e3;rw[Is.int_iff.mp j3,IsL.nil.mp j4] at e4;rw[e1];refine .cons ⟨b,e2,?_⟩ (xg8 q i2);rw[hb,e3,e4]
   ·cases e
theorem wi3 {K:PySem.W.Frag} {A:Addr->Prop} {H:Hp}:∀{ps:List P2} {vs:List V},PrV H vs ps->IsL K A H (ps.map prD) vs
 | _,_,.nil=>IsL.nil.mpr rfl
 | _,_,.cons h t=>IsL.cons.mpr ⟨_,_,rfl,by
   obtain⟨b,e,hb⟩:=h;rw[e];exact Is.tup hb (IsL.cons.mpr ⟨_,_,rfl,Is.int_iff.mpr rfl,IsL.cons.mpr ⟨_,_,rfl,Is.int_iff.mpr rfl,IsL.nil.mpr rfl⟩⟩),wi3 t⟩
theorem xi9:∀ps:List P2,D.immL (ps.map prD)=true
 | []=>rfl
 | n::ns=>by simp[D.immL,D.imm,xi9 ns]
noncomputable def xu3:List D->Option D
 | [.lst l]=>(yr7 l).bind fun ps=>if ps.length<128 then some (.lst ((zy1 ps).map prD)) else none
 | _=>none
set_option tactic.hygienic true in
theorem wg6 {K:PySem.W.Frag} (hK:c.K=K):yb0 c (fun xs H Q=>∃(a:Addr) (vs:List V) (ps:List P2),xs=[.ref a]/\SqL K H a vs/\PrV H vs ps/\ps.length<128/\∀p vs',H p=none->PrV H vs' (zy1 ps)->Q (.ref p) (upd H p (.lst vs'))) xu3:=by
 subst hK;intro l vs H st d Q ok z e q;unfold xu3 at e;split at e
 ·rename_i m
  cases qq:yr7 m with
  | none=>rw[qq] at e;cases e
  | some ps=>
    rw[qq] at e;have e:(if ps.length<128 then some (D.lst ((zy1 ps).map prD)) else none)=some d:=e;split at e
    ·rename_i h128
     cases e;obtain⟨v,r,e1,i1,i2⟩:=IsL.cons.mp z;obtain⟨a,us,ea,_,s1,i3⟩:=Is.lst_iff.mp i1;rw[IsL.nil.mp i2,ea] at e1;exact⟨a,us,ps,e1,.of s1,xg8 qq i3,h128,fun p vs' hp w=>q _ _ (Ext.laid hp) (zj4 ok hp) (New.lst ok hp (fun _ n=>n) (xi9 _) (wi3 (A:=fun b=>¬W.mv b) w))⟩
    ·cases e
 ·cases e
end
end L2
namespace HT
open PySem PyProof PyProof.Rows
section
variable {prog:Program} {w:World} {A:Around} {E:Value->Shared->Prop} {s:Shared}
end
end HT
namespace L2
open PySem PySem.Spec PyProof PyProof.Rows
section
variable {X:Cx} {S:Type} {W:Wd S} {c:Dx W} {g ga gb gc:Gr} {a b:Expr} {fa fb fc:Fn S} {pos p2:Pos}
end
end L2
namespace HT
open PySem PyProof PyProof.Rows Ts
section
variable {prog:Program} {w:World} {A:Around} {R:Result->Shared->Prop} {I:Addr} {fp wr:List Addr} {n:Nat} {P:Nat->Value->Prop} {St:Nat->Heap->Prop} {base:Heap}
end
section
variable {prog:Program} {w:World} {A:Around} {E:Value->Shared->Prop} {s:Shared}
end
section
variable {prog:Program} {w:World} {A:Around} {E:Value->Shared->Prop} {s:Shared}
theorem zs9.tup {h:Heap} {v:Value} {p:Int×Int} (z:zs9 h v p):∃a items,v=.ref a/\IsTup h a items/\IntsAre items.toList [p.1,p.2]:=by
 obtain⟨a,o,n,t,u,rfl,g,c,d⟩:=z;exact⟨a,_,rfl,⟨o,g,c,n,d⟩,.cons _ _ (.cons _ _ .nil)⟩
end
end HT
namespace L2
open PySem PySem.Spec PyProof PyProof.Rows Ts
section
variable {X:Cx} {S:Type} {W:Wd S} {c:Dx W} {g ga gb gc:Gr} {a b:Expr} {fa fb fc:Fn S} {pos p2:Pos}
end
section
variable {X:Cx} {S:Type} {W:Wd S} {c:Dx W} {g ga gb gc:Gr} {a b:Expr} {fa fb fc:Fn S} {pos p2:Pos}
end
theorem g0 {α:Type} {a:α} {l:List α}:(a::l)[0]?=some a:=rfl
theorem gS {α:Type} {a:α} {l:List α} {i:Nat}:(a::l)[i+1]?=l[i]?:=rfl
theorem s0 {α:Type} {a b:α} {l:List α}:(a::l).set 0 b=b::l:=rfl
theorem sS {α:Type} {a b:α} {l:List α} {i:Nat}:(a::l).set (i+1) b=a::l.set i b:=rfl
theorem lC {α:Type} {a:α} {l:List α}:(a::l).length=l.length+1:=rfl
theorem lN {α:Type}:([]:List α).length=0:=rfl
theorem rl1_ {α:Type} {i:Nat}:([]:List α)[i]?=none:=rfl
theorem rl2_ {α β:Type} {f:α->β} {a:α} {l:List α}:(a::l).map f=f a::l.map f:=rfl
theorem rl3_ {α β:Type} {f:α->β}:([]:List α).map f=[]:=rfl
theorem rl4_ {α β:Type} {a:α} {f:α->Option β}:(some a).bind f=f a:=rfl
theorem rl5_ {α:Type} {a:α} {o:Option α}:(some a).or o=some a:=rfl
theorem rl6_ {α:Type} {o:Option α}:(none:Option α).or o=o:=rfl
theorem rl7_ {α:Type} {a:α}:List.replicate 0 a=[]:=rfl
theorem rl8_ {α:Type} {a:α} {n:Nat}:List.replicate (n+1) a=a::List.replicate n a:=rfl
theorem rl9_ {α:Type} {a:α} {l m:List α}:(a::l)++m=a::(l++m):=rfl
theorem rl0_ {α:Type} {l:List α}:[]++l=l:=rfl
theorem EV_:(type_of% @D.bl.injEq)/\(type_of% @D.int.injEq)/\(type_of% @D.str.injEq)/\(type_of% @Nat.zero_add)/\(type_of% @if_true.{1})/\(type_of% @if_false.{1})/\(type_of% @Bool.and_true)/\(type_of% @Bool.true_and)/\(type_of% @Bool.and_self)/\(type_of% @Bool.false_eq_true)/\(type_of% @Option.some.injEq.{0})/\(type_of% @exists_eq_left'.{1})/\(type_of% @exists_eq_left.{1})/\(type_of% @exists_eq_right.{1})/\(type_of% @true_or)/\(type_of% @or_true)/\(type_of% @true_and)/\(type_of% @and_true)/\(type_of% @Bool.not_true)/\(type_of% @Bool.not_false):=
 ⟨@D.bl.injEq,@D.int.injEq,@D.str.injEq,@Nat.zero_add,@if_true.{1},@if_false.{1},@Bool.and_true,@Bool.true_and,@Bool.and_self,@Bool.false_eq_true,@Option.some.injEq.{0},@exists_eq_left'.{1},@exists_eq_left.{1},@exists_eq_right.{1},@true_or,@or_true,@true_and,@and_true,@Bool.not_true,@Bool.not_false⟩
section
variable {S:Type}
noncomputable def fP (S:Type) (p:Rho->Option D):Fn S:=fun ρ st=>zj2 (p ρ) st
noncomputable def aP (S:Type) (q:Rho->Option (List D)):FnA S:=fun ρ st=>zj2 (q ρ) st
noncomputable def tP (S:Type) (q:Rho->Option Bool):FnT S:=fun ρ st=>zj2 (q ρ) st
noncomputable def vr (i:Nat):Rho->Option D:=fun ρ=>rd ρ i
noncomputable def cn (d:D):Rho->Option D:=fun _=>some d
noncomputable def o2 (o:D->D->Option D) (p q:Rho->Option D):Rho->Option D:=fun ρ=>(p ρ).bind fun a=>(q ρ).bind fun b=>o a b
noncomputable def nl:Rho->Option (List D):=fun _=>some []
noncomputable def cs (p:Rho->Option D) (q:Rho->Option (List D)):Rho->Option (List D):=fun ρ=>(p ρ).bind fun a=>(q ρ).bind fun l=>some (a::l)
noncomputable def o1 (o:List D->Option D) (q:Rho->Option (List D)):Rho->Option D:=fun ρ=>(q ρ).bind o
noncomputable def ti (T:Bt) (p:Rho->Option D):Rho->Option D:=fun ρ=>(p ρ).bind fun d=>some (.bl (isI T d))
noncomputable def tb (p:Rho->Option D):Rho->Option Bool:=fun ρ=>(p ρ).bind D.bool?
set_option tactic.hygienic true in
theorem vn4 {o:D->D->Option D} {p q:Rho->Option D}:f2 S o (fP S p) (fP S q)=fP S (o2 o p q):=by
 funext ρ st;unfold f2 fP o2;cases p ρ with
 | none=>rfl
 | some a=>cases q ρ<;>rfl
set_option tactic.hygienic true in
theorem wt1 {p:Rho->Option D} {q:Rho->Option (List D)}:zy5 S (fP S p) (aP S q)=aP S (cs p q):=by
 funext ρ st;unfold zy5 fP aP cs;cases p ρ with
 | none=>rfl
 | some a=>cases q ρ<;>rfl
set_option tactic.hygienic true in
theorem vq6 {o:List D->Option D} {q:Rho->Option (List D)}:fA S o (aP S q)=fP S (o1 o q):=by
 funext ρ st;unfold fA fP aP o1;cases q ρ<;>rfl
set_option tactic.hygienic true in
theorem vk2 {T:Bt} {p:Rho->Option D}:fIs S T (fP S p)=fP S (ti T p):=by
 funext ρ st;unfold fIs fP ti;cases p ρ<;>rfl
set_option tactic.hygienic true in
theorem vq5 {p:Rho->Option D}:fB S (fP S p)=tP S (tb p):=by
 funext ρ st;unfold fB fP tP tb;cases p ρ<;>rfl
theorem wp_fP {p:Rho->Option D} {ρ:Rho} {st:S} {Q:D->S->Prop} {E:Exn->S->Prop}:wpR (fP S p ρ st) Q E↔wpR (zj2 (p ρ) st) Q E:=Iff.rfl
theorem wp_aP {p:Rho->Option (List D)} {ρ:Rho} {st:S} {Q:List D->S->Prop} {E:Exn->S->Prop}:wpR (aP S p ρ st) Q E↔wpR (zj2 (p ρ) st) Q E:=Iff.rfl
theorem wp_tP {p:Rho->Option Bool} {ρ:Rho} {st:S} {Q:Bool->S->Prop} {E:Exn->S->Prop}:wpR (tP S p ρ st) Q E↔wpR (zj2 (p ρ) st) Q E:=Iff.rfl
theorem boS {α β:Type} {a:α} {f:α->Option β}:(some a).bind f=f a:=rfl
theorem dbb {b:Bool}:D.bool? (.bl b)=some b:=rfl
end
section
variable {X:Cx} {S:Type} {W:Wd S} {c:Dx W} {g:Gr} {e:Expr} {es:List Expr} {o:D->D->Option D} {p q:Rho->Option D} {oA:List D->Option D} {qa:Rho->Option (List D)} {T:Bt}
theorem za3 {i j pos}:DE X c g (.Constant (.int i) j pos) (fP S (cn (.int i))):=vd2
theorem zd4 {x j pos}:DE X c g (.Constant (.str x) j pos) (fP S (cn (.str x))):=vc8
theorem ye2 {i j pos}:DE X c g (.Constant (.bool i) j pos) (fP S (cn (.bl i))):=vk5
theorem zl4 {j pos}:DE X c g (.Constant .none j pos) (fP S (cn .non)):=vd0
theorem za0 {i:Nat} {x:Str} {pos:Pos} (h:PE X (.Name x pos) (xm2 i)):DE X c .R (.Name x pos) (fP S (vr i)):=vc7 h
theorem yh4 {x:Str} {i:Int} {pos:Pos} (hc:∃t,X.mg x=some (.int i t)) (hg:Gl X x) (hd:(x == ("__debug__" : Str))=false:=by decide):DE X c g (.Name x pos) (fP S (cn (.int i))):=wg0 hc hg hd
theorem za1:DA X c [] (aP S nl):=vd5
theorem g2_ (h:DE X c g e (f2 S o (fP S p) (fP S q))):DE X c g e (fP S (o2 o p q)):=vn4▸h
theorem gA_ (h:DE X c g e (fA S oA (aP S qa))):DE X c g e (fP S (o1 oA qa)):=vq6▸h
theorem gI_ (h:DE X c g e (fIs S T (fP S p))):DE X c g e (fP S (ti T p)):=vk2▸h
theorem gC_ (h:DA X c es (zy5 S (fP S p) (aP S qa))):DA X c es (aP S (cs p qa)):=wt1▸h
theorem gB_ {e:Expr} (h:DT X c e (fB S (fP S p))):DT X c e (tP S (tb p)):=vq5▸h
theorem gT_ {e:Expr} (h:DT X c e (fB S (f2 S o (fP S p) (fP S q)))):DT X c e (tP S (tb (o2 o p q))):=gB_ (vn4▸h)
end
theorem wk7 {S:Type} {F G:FnS S} {ρ:Rho} {st:S} {Q:Fl->S->Prop} {E:Exn->S->Prop} (h:∀P:Fl->S->Prop,(∀ρ1 st1,wpR (G ρ1 st1) Q E->P (.nx ρ1) st1)->(∀d st1,Q (.rt d) st1->P (.rt d) st1)->(∀r st1,Q (.bk r) st1->P (.bk r) st1)->(∀r st1,Q (.ct r) st1->P (.ct r) st1)->wpR (F ρ st) P E):wpR (wb6 S F G ρ st) Q E:=
 zb0.mpr (h _ (fun _ _ z=>z) (fun _ _ z=>z) (fun _ _ z=>z) (fun _ _ z=>z))
section
variable {X:Cx} {S:Type} {W:Wd S} {c:Dx W} {g:Gr} {e a b:Expr} {es:List Expr} {o:D->D->Option D} {p q:Rho->Option D} {qa:Rho->Option (List D)} {pos:Pos} {f fa fb:Fn S} {rr:FnA S}
theorem zc7 {x:Str} (h:DE X c .R (.Name x pos) (fP S p)) (hr:DA X c es (aP S qa)):DA X c (.Name x pos::es) (aP S (cs p qa)):=gC_ (zl5 h hr)
theorem xx1 {x:Str} (h:DE X c .R (.Name x pos) f) (hr:DA X c es rr):DA X c (.Name x pos::es) (zy5 S f rr):=zl5 h hr
theorem zi1 {k:Const} {j} (h:DE X c .R (.Constant k j pos) (fP S p)) (hr:DA X c es (aP S qa)):DA X c (.Constant k j pos::es) (aP S (cs p qa)):=gC_ (zl5 h hr)
theorem xz8 {k:Const} {j} (h:DE X c .R (.Constant k j pos) f) (hr:DA X c es rr):DA X c (.Constant k j pos::es) (zy5 S f rr):=zl5 h hr
theorem yg4 {a b:Expr} (h:DE X c .R (.Subscript a b pos) (fP S p)) (hr:DA X c es (aP S qa)):DA X c (.Subscript a b pos::es) (aP S (cs p qa)):=gC_ (zl5 h hr)
theorem wf1 {a b:Expr} (h:DE X c .R (.Subscript a b pos) f) (hr:DA X c es rr):DA X c (.Subscript a b pos::es) (zy5 S f rr):=zl5 h hr
theorem xz9 {as:List Expr} {x1} (h:DE X c .R (.Tuple as x1 pos) (fP S p)) (hr:DA X c es (aP S qa)):DA X c (.Tuple as x1 pos::es) (aP S (cs p qa)):=gC_ (zl5 h hr)
theorem xd8 {a:Expr} {as:List Expr} {ks} (h:DE X c .R (.Call a as ks pos) (fP S p)) (hr:DA X c es (aP S qa)):DA X c (.Call a as ks pos::es) (aP S (cs p qa)):=gC_ (zl5 h hr)
theorem xx2 {a:Expr} {as:List Expr} {ks} (h:DE X c .R (.Call a as ks pos) f) (hr:DA X c es rr):DA X c (.Call a as ks pos::es) (zy5 S f rr):=zl5 h hr
theorem xx3 {a b:Expr} {op} (h:DE X c .R (.BinOp a op b pos) (fP S p)) (hr:DA X c es (aP S qa)):DA X c (.BinOp a op b pos::es) (aP S (cs p qa)):=gC_ (zl5 h hr)
theorem xp6 {a b:Expr} {op} (h:DE X c .R (.BinOp a op b pos) f) (hr:DA X c es rr):DA X c (.BinOp a op b pos::es) (zy5 S f rr):=zl5 h hr
theorem vj8 {a:Expr} {op} (h:DE X c .R (.UnaryOp op a pos) f) (hr:DA X c es rr):DA X c (.UnaryOp op a pos::es) (zy5 S f rr):=zl5 h hr
theorem wj1 {a:Expr} {gs scope} (h:DE X c .R (.ListComp a gs scope pos) f) (hr:DA X c es rr):DA X c (.ListComp a gs scope pos::es) (zy5 S f rr):=zl5 h hr
theorem vq4 {a:Expr} {ops bs} (h:DE X c .R (.Compare a ops bs pos) f) (hr:DA X c es rr):DA X c (.Compare a ops bs pos::es) (zy5 S f rr):=zl5 h hr
theorem gU_ {x1} (h:DA X c es (aP S qa)):DE X c g (.Tuple es x1 pos) (fP S (o1 yx2 qa)):=gA_ (zz4 h)
theorem gL_ (h:DA X c es (aP S qa)):DE X c g (.List es pos) (fP S (o1 xu4 qa)):=gA_ (yp8 h)
theorem gX_ (h:c.K=X.K) (ha:DE X c .R a (fP S p)) (hb:DE X c .R b (fP S q)) (hs:ym3 b):DE X c g (.Subscript a b pos) (fP S (o2 oIx p q)):=g2_ (vd1 wi9 (wz4 h) ha hb hs)
theorem gY_ (h:c.K=X.K) (ha:DE X c .R a fa) (hb:DE X c .R b fb) (hs:ym3 b):DE X c g (.Subscript a b pos) (f2 S oIx fa fb):=vd1 wi9 (wz4 h) ha hb hs
theorem gP_ (h:c.K=X.K) (ha:DE X c .R a (fP S p)) (hb:DE X c .R b (fP S q)):DE X c g (.BinOp a .Add b pos) (fP S (o2 zn9 p q)):=g2_ (zw8 xu0 (xu2 h) ha hb)
theorem gp_ (h:c.K=X.K) (ha:DE X c .R a fa) (hb:DE X c .R b fb):DE X c g (.BinOp a .Add b pos) (f2 S zn9 fa fb):=zw8 xu0 (xu2 h) ha hb
end
section
variable {X:Cx} {S:Type} {W:Wd S} {c:Dx W} {g ga gb gc:Gr} {a b:Expr} {fa fb fc:Fn S} {pos p2:Pos}
noncomputable def wm2 {S:Type} {W:Wd S} (c:Dx W):List Int->List (Fn S)->List (TE×TE)
 | k::ks,f::fs=>(tC (.int k),tD c .R f)::wm2 c ks fs
 | _,_=>[]
theorem yn8:∀(ks:List Int) (fs:List (Fn S)) {σ:St} {H:Hp} {ρ:Rho} {st:S} {Q:List (V×V)->Hp->Prop},ks.length=fs.length->Rep c H σ ρ->W.ok st H->
 wpR (wh0 S fs ρ st) (fun l st'=>∀vs H',Ext W H H'->W.ok st' H'->IsL c.K (fun b=>¬W.mv b) H' l vs->Q ((ks.zip vs).map fun kv=>(V.int kv.1,kv.2)) H') (fun x st'=>∀H',Ext W H H'->W.ok st' H'->c.Ex x st' H')->yu8 (wm2 c ks fs) σ H Q
 | [],[],σ,H,ρ,st,Q,_,R,ok,w=>w [] H Ext.refl ok (IsL.nil.mpr rfl)
 | k::ks,f::fs,σ,H,ρ,st,Q,hl,R,ok,w=>by
   refine⟨ρ,st,R,ok,za7 (za5.mp w) (fun d st1 q v H1 e ok1 z=>?_) fun x st1 q=>q⟩;refine yn8 ks fs (by simpa using hl) (R.ext ok e) ok1 (za7 (za5.mp q) (fun l st2 q vs H2 e2 ok2 z2=>?_) fun x st2 q H2 e2 ok2=>q H2 (e.trans e2) ok2);exact q (v::vs) H2 (e.trans e2) ok2 (IsL.cons.mpr ⟨v,vs,rfl,z.toR.ext e2 ok1,z2⟩)
 | [],_::_,_,_,_,_,_,hl,_,_,_=>by cases hl
 | _::_,[],_,_,_,_,_,hl,_,_,_=>by cases hl
noncomputable def xm7 (x:Int):List Int->List D->Option D
 | k::ks,v::vs=>if k=x then some v else xm7 x ks vs
 | _,_=>none
noncomputable def DKI (X:Cx) {S:Type} {W:Wd S} (c:Dx W) (pos:Pos) (keys:List (Option Expr)) (values:List Expr) (ks:List Int) (fs:List (Fn S)):Prop:=PPs X pos keys values (wm2 c ks fs)/\ks.length=fs.length
theorem ws4:DKI X c pos [] [] [] ([]:List (Fn S)):=⟨xc3,rfl⟩
theorem xj8 {k:Int} {j} {p:Pos} {v:Expr} {f:Fn S} {keys:List (Option Expr)} {values:List Expr} {ks:List Int} {fs:List (Fn S)} (hv:DE X c .R v f) (h:DKI X c pos keys values ks fs):DKI X c pos (some (.Constant (.int k) j p)::keys) (v::values) (k::ks) (f::fs):=
 ⟨yc1 zk1 hv h.1,by simp[h.2]⟩
theorem ws5 {k:Int} {j} {p p3:Pos} {v:Expr} {f:Fn S} {keys:List (Option Expr)} {values:List Expr} {ks:List Int} {fs:List (Fn S)} (hv:DE X c .R v f) (h:DKI X c pos keys values ks fs):DKI X c pos (some (.UnaryOp .USub (.Constant (.int k) j p) p3)::keys) (v::values) ((-k)::ks) (f::fs):=
 ⟨yc1 ((wy2 wh6 zk1).imp fun σ H Q q=>⟨k,rfl,q⟩) hv h.1,by simp[h.2]⟩
noncomputable def wj3 (S:Type) (ks:List Int) (fs:List (Fn S)) (fk:Fn S):Fn S:=fun ρ st=>(wh0 S fs ρ st).bind fun l st1=>(fk ρ st1).bind fun d st2=>match d with
 | .int x=>if D.immL l=true then zj2 (xm7 x ks l) st2 else .bad
 | _=>.bad
theorem xh0 {K:PySem.W.Frag} {A:Addr->Prop} {H:Hp} {x:Int}:∀{ks:List Int} {l:List D} {vs:List V} {d:D},xm7 x ks l=some d->IsL K A H l vs->D.immL l=true->∃v,ym4 ((ks.zip vs).map fun kv=>((Sum.inl kv.1:Key),kv.2)) (Sum.inl x:Key)=some v/\Is K A H d v/\d.imm=true
 | [],l,vs,d,e,_,_=>by cases l<;>cases e
 | k::ks,[],vs,d,e,_,_=>by cases e
 | k::ks,y::l,vs,d,e,h,m=>by
   obtain⟨v,r,e1,i1,i2⟩:=IsL.cons.mp h;subst e1;have m':y.imm=true/\D.immL l=true:=by simpa [D.immL] using m
   unfold xm7 at e;by_cases hk:k=x
   ·rw[if_pos hk] at e;cases e
    subst hk;exact⟨v,zq3 rfl,i1,m'.1⟩
   ·rw[if_neg hk] at e
    obtain⟨v',g1,g2,g3⟩:=xh0 e i2 m'.2;refine⟨v',?_,g2,g3⟩;show ym4 (((Sum.inl k:Key),v)::(ks.zip r).map fun kv=>((Sum.inl kv.1:Key),kv.2)) (Sum.inl x:Key)=_;rw[zq4 (fun z=>hk (Sum.inl.inj z))];exact g1
theorem yn3:∀{ks:List Int} {vs:List V},ks.Nodup->((ks.zip vs).map ((fun x=>x.1) ∘ fun kv=>((Sum.inl kv.1:Key),kv.2))).Nodup
 | [],_,_=>by simp
 | k::ks,[],_=>by simp
 | k::ks,v::vs,h=>by
   obtain⟨h1,h2⟩:=Bt0.mp h;show ((Sum.inl k:Key)::(ks.zip vs).map ((fun x=>x.1) ∘ fun kv=>((Sum.inl kv.1:Key),kv.2))).Nodup;refine Bt0.mpr ⟨fun hm=>?_,yn3 h2⟩;obtain⟨⟨a,b⟩,hab,e⟩:=Bf0.mp hm;have e:a=k:=Sum.inl.inj e;subst e;exact h1 (List.of_mem_zip hab).1
set_option tactic.hygienic true in
theorem wg2 {keys:List (Option Expr)} {values:List Expr} {ks:List Int} {fs:List (Fn S)} {dpos:Pos} {k:Expr} {fk:Fn S} (hu:X.A.units+1<cLine) (h:DKI X c dpos keys values ks fs) (hall:keys.all (·.isSome)=true) (hl:keys.length=values.length) (h0:keys≠[]) (h15:keys.length<=15) (hks:ks.length<=15) (hnd:ks.Nodup)
 (hk:DE X c ga k fk) (hs:vf8 k):DE X c g (.Subscript (.Dict keys values dpos) k pos) (wj3 S ks fs fk):=
 (ye8 hu (xc5 h.1 hall hl h0 h15) hk hs).imp fun σ H Q hI44=>by
  obtain⟨ρ,st,R,ok,w⟩:=hI44;intro p hp;have np:¬W.mv p:=zr9 ok hp;refine yn8 ks fs h.2 (R.ext ok (Ext.laid hp)) (zj4 ok hp) (za7 (za5.mp w) (fun l st1 q vs H2 e2 ok2 z2=>?_) fun x st1 q H2 e2 ok2=>q H2 ((Ext.laid hp).trans e2) ok2);have hp2:H2 p=some (.dK []):=e2 p _ zb5 np;refine⟨hp2,(ks.zip vs).map fun kv=>((Sum.inl kv.1:Key),kv.2),by rw[Bj0];rfl,by rw[Aa0,List.length_zip];omega,?_⟩;have mk:zz3 [] ((ks.zip vs).map fun kv=>((Sum.inl kv.1:Key),kv.2))=(ks.zip vs).map fun kv=>((Sum.inl kv.1:Key),kv.2):=by
   rw[zw4 _ []]
   ·rfl
   ·show (((ks.zip vs).map fun kv=>((Sum.inl kv.1:Key),kv.2)).map (·.1)).Nodup
    rw[Bj0];exact yn3 hnd
  rw[mk];have ex:Ext W H (upd H2 p (.dK ((ks.zip vs).map fun kv=>((Sum.inl kv.1:Key),kv.2)))):=fun b o hb nm=>by
   have b1:b≠p:=zb6 hb hp;rw[zb2 b1];exact e2 b o (by rw[zb2 b1];exact hb) nm
  have ok3:=yw9 (o:=.dK ((ks.zip vs).map fun kv=>((Sum.inl kv.1:Key),kv.2))) ok2 np;have R3:=R.ext ok ex;refine⟨ρ,st1,R3,ok3,za7 (za5.mp q) (fun d st2 q v H4 e4 ok4 z4=>?_) fun x st2 q H4 e4 ok4=>q H4 (ex.trans e4) ok4⟩;split at q
  ·rename_i x
   split at q
   ·rename_i im
    obtain⟨dd,e5,q⟩:=zb7.mp q;have k1:zj8 (fun _=>False) (fun b=>¬W.mv b/\H b=Option.none) H2 H4:=⟨fun b u e sy=>by
     have b1:b≠p:=fun z=>by
      subst z;rw[hp2] at e;cases e;rcases sy with⟨_,y⟩ | ⟨_,_,y⟩<;>cases y
     refine e4 b _ (by rw[zb2 b1];exact e) fun m=>?_
     obtain⟨o',h',n1,n2⟩:=W.live st1 H2 b ok2 m;rw[e] at h';cases h';rcases sy with⟨y,z⟩ | ⟨y1,y2,z⟩
     ·exact n1 y z
     ·exact n2 y1 y2 z,fun b o f=>f.elim⟩
    have z3:IsL c.K (fun _=>False) H2 l vs:=IsL.ofImm im z2;obtain⟨v',g1,g2,g3⟩:=xh0 e5 (z3.mono k1) im;have zx:Is c.K (fun b=>¬W.mv b) H4 (.int x) v:=z4.toR;refine⟨p,v',rfl,?_,q v' H4 (ex.trans e4) ok4 ((New.val (R3.ext ok3 e4) (show New c H4 H4 dd v' from Is.ofImm g3 g2) g).back (ex.trans e4) ok4)⟩;rw[Is.int_iff.mp zx,<-g1];exact yn2.k (k:=(Sum.inl x:Key)) (e4 p _ zb5 np)
   ·exact q.elim
  ·exact q.elim
end
section
variable {S:Type} {fk:Fn S} {ρ:Rho} {st:S} {Q:D->S->Prop} {E:Exn->S->Prop}
theorem xq7 {ks:List Int} {fs:List (Fn S)}:wpR (wj3 S ks fs fk ρ st) Q E↔wpR (wh0 S fs ρ st) (fun l st1=>wpR (fk ρ st1) (fun d st2=>∃x,d=.int x/\D.immL l=true/\wpR (zj2 (xm7 x ks l) st2) Q E) E) E:=wpB fun l st1=>wpB fun d st2=>by
 cases d with
 | int x=>exact wj4 yu2
 | _=>exact ym9 fun b e=>by cases e
end
end L2
section
open L2
local macro_rules
 | `(tactic| simp?! [$ls,*])=>do
   let x:=("wp_ok wp_bad wp_some wp_none wp_sNil wp_sSet wp_sSetB wp_sAsg wp_sPar wp_sIf wp_sRet wp_sRetV wp_sMt wp_sBad wp_sAug wp_fC wp_fVk wp_f2 wp_fA wp_aNil wp_aCons wp_fCall wp_fCallS wp_fAndV wp_fOrV wp_fNotV wp_fIfE wp_fNeg wp_pNo wp_pSo wp_iSeq wp_iArgs wp_fComp wp_fB wp_fAnd wp_fOr wp_fNot wp_fTrue wp_sPar3 wp_sItem wp_sDPut wp_fChain wp_fDisp wp_sTab2 wp_fGet wp_sFor wp_fP wp_aP wp_tP own? frz frz1 pickR gN gT gsCons gsNil D.seq? D.immL flat_lst flat_dct flat_int flat_str flat_bl flat_non flat_tup imm_int imm_str imm_bl imm_non imm_tup rho0 rhoS rhoL g0 gS s0 sS lC lN rd putN put im kp vr cn o2 cs nl o1 ti tb boS dbb rl0_ rl1_ rl2_ rl3_ rl4_ rl5_ rl6_ rl7_ rl8_ rl9_".splitOn " ").toArray.map fun n=>Lean.mkIdent n.toName
   `(tactic| try simp only[$[$x:term],*,EV_,Nat.reduceAdd,Nat.reduceLT,Nat.reduceLeDiff,Nat.reduceSub,reduceIte,$ls,*])
local macro_rules
 | `(tactic| simp_all!)=>do
   let a:=Lean.mkIdent `hN_
   `(tactic| ((try with_reducible refine $a _ _ ?_);with_reducible refine wk7 fun $(Lean.mkIdent `P_) $a $(Lean.mkIdent `hR_) $(Lean.mkIdent `hB_) $(Lean.mkIdent `hC_)=>?_))
 | `(tactic| simp!)=>`(tactic| simp! [wp_ok])
 | `(tactic| simp! [$ls,*])=>do
   let a:=Lean.mkIdent `hN_
   `(tactic| ((try with_reducible refine $a _ _ ?_);simp?! [$ls,*];(repeat (first | with_reducible refine $a _ _ ?_ | with_reducible refine $(Lean.mkIdent `hR_) _ _ ?_ | with_reducible refine $(Lean.mkIdent `hB_) _ _ ?_ | with_reducible refine $(Lean.mkIdent `hC_) _ _ ?_));simp?! [$ls,*]))
namespace K12
open L2
noncomputable def top (i:Nat):Stmt:=PySem.Challenge.pw_slidehall_k12_halls_by_turns.main.body.getD i (.Pass ⟨0,0,0,0⟩)
structure Cst (K:PySem.W.Frag) (mg:Str->Option Value):Prop where
 ok:True
 WALL:∃t,mg "WALL" = some (.int (-1) t)
 STRONG:∃t,mg "STRONG" = some (.int (1) t)
 DULL:∃t,mg "DULL" = some (.int (-1) t)
 STEPS:∃a0,mg "STEPS" = some (.ref a0)/\vl0 K a0 [(1,0),(0,1),(-1,0),(0,-1)]
noncomputable abbrev zv5:Stmt:=top 23
noncomputable abbrev yx4:List Str:=["_law_script","_law_cells"]
theorem zt1:zc9 yx4 ["_law_script"] (za4 zv5):=by and_intros
noncomputable abbrev zz6:Stmt:=top 24
noncomputable abbrev xd1:List Str:=["_law_state","_law_many","_law_turn","_law_place","_law_cell","_law_digit","_law_mixed"]
theorem zh3:zc9 xd1 ["_law_state","_law_many"] (za4 zz6):=by and_intros
section
variable {P:Program} {w:World} {K:PySem.W.Frag} {mg:Str->Option Value} {base:Heap}
theorem wc8 {f:Addr} {fd:FuncData} (F:Fun K "_law_begin" "_law_begin" zv5 f fd) (hm:Bn mg):zr3 P w K mg base CX0 1 f fd ["_law_script"] (xr6 K):=by
 refine F.ok zt1 (fun vs H Q E h=>?_) (fun cdv A outer s H vs Q E hr h=>?_)
 ·obtain⟨a,ns,rfl,_⟩:=h;rfl
 ·obtain⟨a,ns,rfl,hS,h63,q⟩:=h
  have hcut:ws7 (ns.map V.int) none (some 63)=ns.map V.int:=vk8 h63;refine⟨_,zj0 (zy8 (i:=1) zt1.nd rfl (Or.inl rfl) (yw3 zr2 (by rfl) hm.list boot_list (zn7 (wc3 wn1 (pv 0) wo4 (wo3 zk1)) zz0))) (zj0 (wo1 (xc1 (zi0 hr) (pv 1) (xt3 zz0) (wi5 _)) (yi6 (zy8 (i:=1) zt1.nd rfl (Or.inl rfl) (xt3 (zn7 zk1 zz0)))) xc2) (yi6 (yv8 (xc5 (yc1 yc3 (pv 1) (yc1 yc3 zk1 xc3)) rfl rfl (by simp) (by show 2<=15;decide))))),?_⟩;refine⟨.ref a,rfl,63,rfl,a,_,rfl,hS,fun p1 hp1=>?_⟩;rw[hcut];refine⟨p1,_,rfl,.inl (.of zb5),fun p2 hp2=>?_⟩;have n12:p1≠p2:=zb6 zb5 hp2;have s2:yt9 H (upd (upd H p1 (.lst (ns.map V.int))) p2 (.lst (ns.map V.int))):=fun b o e=>by
   have b1:b≠p1:=zb6 e hp1;have b2:b≠p2:=fun z=>by subst z;rw[zb2 b1,e] at hp2;cases hp2
   rw[zb2 b2,zb2 b1];exact e
  refine⟨_,rfl,(by show 0<=sizeLine;decide),fun p3 hp3=>?_⟩;have n23:p2≠p3:=zb6 zb5 hp3;refine⟨fun _=>True,.lst (ns.map D.int),.lst [],ns.isEmpty,?_,?_,?_,?_,?_⟩
  ·exact Is.lst trivial (by rw[zb2 n23];exact zb5) (xw3 ns)
  ·exact Is.lst trivial zb5 (IsL.nil.mpr rfl)
  ·exact we1 ns
  ·cases ns<;>rfl
  have fin:∀(H3:Hp) (q2:Addr) (xs:List Int),yt9 H H3->H q2=none->H3 q2=some (.lst (xs.map V.int))->xs=zu1 ns->
   wv9 [(fun _ H Q=>Q (.str "cells") H,xm2 1),(fun _ H Q=>Q (.str "turn") H,fun _ H Q=>Q (.int 0) H)] [some (.ref a),some (.ref q2)] H3 Q:=fun H3 q2 xs sm hn hl ex=>by
   intro r hr';have nr:q2≠r:=zb6 hl hr';refine⟨_,rfl,zb5,[(Sum.inr "cells",.ref q2),(Sum.inr "turn",.int 0)],rfl,(by show 2<=15;decide),?_⟩;refine q r q2 _ (fun b o e=>?_) ?_ ?_ ?_ ?_
   ·have br:b≠r:=zb6 (sm b o e) hr'
    rw[zb2 br,zb2 br];exact sm b o e
   ·cases z:H r with
    | none=>rfl
    | some o=>rw[sm r o z] at hr';cases hr'
   ·exact hn
   ·rw[zb5];exact congrArg (fun z=>some (HO.dK z)) wz9
   ·rw[zb2 nr,zb2 nr,hl,ex]
  have g2:H p2=none:=by
   cases z:H p2 with
   | none=>rfl
   | some o=>
     have b1:p2≠p1:=n12.symm;rw[zb2 b1,z] at hp2;cases hp2
  cases ns with
  | nil=>
    refine⟨_,rfl,wt5 ?_⟩;refine⟨(by show 1<=sizeLine;decide),fun p4 hp4=>?_⟩;have s3:yt9 H (upd (upd (upd (upd H p1 (.lst [])) p2 (.lst [])) p3 (.lst [])) p4 (.lst [.int 7])):=fun b o e=>by
     have z2:=s2 b o e;have b3:b≠p3:=zb6 z2 hp3;have b4:b≠p4:=fun z=>by subst z;rw[zb2 b3,z2] at hp4;cases hp4
     rw[zb2 b4,zb2 b3];exact z2
    refine fin _ p4 [7] s3 ?_ zb5 rfl;cases z:H p4 with
    | none=>rfl
    | some o=>
      have z2:=s2 p4 o z;have b3:p4≠p3:=zb6 z2 hp3;rw[zb2 b3,z2] at hp4;cases hp4
  | cons n0 ns=>
    refine⟨_,rfl,va9 ?_⟩;have s3:yt9 H (upd (upd (upd H p1 (.lst ((n0::ns).map V.int))) p2 (.lst ((n0::ns).map V.int))) p3 (.lst [])):=fun b o e=>by
     have z2:=s2 b o e;have b3:b≠p3:=zb6 z2 hp3;rw[zb2 b3];exact z2
    exact fin _ p2 (n0::ns) s3 g2 (by rw[zb2 n23];exact zb5) rfl
set_option tactic.hygienic true in
theorem wp4 {f p l:Addr} {fd:FuncData} (F:Fun K "_law_take" "_law_take" zz6 f fd) (hlen:mg "len" = none) (hdm:mg "divmod" = none):zr3 P w K mg base CX0 1 f fd ["_law_state","_law_many"] (spS (WdS p l) K zv0):=by
 refine F.ok zh3 (fun vs H Q E h=>?_) (fun cdv A outer s H vs Q E hr h=>?_)
 ·obtain⟨ds,us,st,rfl,i,ok,w⟩:=h
  unfold zv0 at w;split at w
  ·rw[Bm0,<-i.length];rfl
  ·exact w.elim
 ·obtain⟨ds,us,st,rfl,i,ok,w⟩:=h
  unfold zv0 at w;split at w
  ·rename_i many
   split at w
   ·rename_i hb
    obtain⟨v,r,ev,i1,i2⟩:=IsL.cons.mp i;rw[IsL.nil.mp i2,Is.int_iff.mp i1] at ev;subst ev;have hu:=yy8 hr;obtain⟨hp,hl,hne,h63,h0⟩:=id ok;have npl:p≠l:=wd5 hp hl (by intro z;cases z);refine⟨_,zj0 (zy8 (i:=2) zh3.nd rfl (Or.inl rfl) (zt3 yw8 (ye8 hu (pv 0) yc3 (fun _ _=>rfl)) zk1)) (zj0 (xs8 hu (pv 0) yc3 (pv 2) rfl) (zj0 (zy8 (i:=3) zh3.nd rfl (Or.inl rfl) (zt3 yc5 (pv 2) (yh0 zc6 (by rfl) hlen PySem.boot_len (zn7 (ye8 hu (pv 0) yc3 (fun _ _=>rfl)) zz0)))) (zj0 (zy8 (i:=4) zh3.nd rfl (Or.inl rfl) (wo6 xw0 (ye8 hu (pv 0) yc3 (fun _ _=>rfl)) (pv 3) (fun _ _=>rfl))) (zj0 (wo1 (xc1 vi7 (pv 4) (zt3 wi4 zk1 zk1) (wi5 _)) (zj0 (yv9 (yh0 xe6 (by rfl) hdm boot_divmod (zn7 (pv 4) (zn7 (pv 1) zz0))) (xt1 (n:=2) rfl (yc2 (xt2 (ye8 hu (pv 0) yc3 (fun _ _=>rfl)) (pv 3) yr5) (yc2 (yr8 (i:=5) zh3.nd rfl (Or.inl rfl)) xc4)))) (yi6 (yv8 (pv 5)))) xc2) (zj0 (zy8 (i:=6) zh3.nd rfl (Or.inl rfl) (zt3 yc5 (zt3 yi8 (zt3 yw8 (zt3 yw8 (zt3 yc5 (pv 4) zk1) (zt3 yi8 (zt3 yi8 (pv 2) (pv 2)) zk1)) zk1) zk1) zk1)) (zj0 (zy8 (i:=6) zh3.nd rfl (Or.inl rfl) (zt3 yc5 (zt3 yi8 (pv 6) (pv 6)) zk1)) (yi6 (yv8 (zt3 yc5 (zt3 wp2 (zt3 yc5 (zt3 yi8 (zt3 yw8 (pv 6) (zt3 yi8 (pv 2) zk1)) zk1) zk1) zk1) (pv 1)))))))))),?_⟩;have n0:(0:Int)<(st.1.length:Int):=by
     have:st.1.length≠0:=fun z=>hne (List.length_eq_zero_iff.mp z)
     omega
    have pl0:0<=(st.2+1) % (st.1.length:Int):=Int.emod_nonneg _ (by omega);have pl1:(st.2+1) % (st.1.length:Int)<(st.1.length:Int):=Int.emod_lt_of_pos _ n0;have ple:((plc st:Nat):Int)=(st.2+1) % (st.1.length:Int):=Int.toNat_of_nonneg pl0;have plt:plc st<st.1.length:=by omega
    have cel:(st.1.map V.int)[plc st]?=some (.int (st.1.getD (plc st) 0)):=by
     rw[Ag0,Ab0 plt,Bv0,Ab0 plt];rfl
    have H1p:∀o,(upd H p o) l=some (.lst (st.1.map V.int)):=fun o=>by rw[zb2 npl.symm];exact hl
    have g0:yn2 H p (.str "turn") (some (.int st.2)):=by
     have q:=yn2.k (k:=(Sum.inr "turn" : Key)) hp;rw[xr5] at q;exact q
    have p0:wh1 H p (.str "turn") (.int (st.2+1)) (upd H p (.dK (stD l (st.2+1)))):=by
     have q:=wh1.k (k:=(Sum.inr "turn" : Key)) (v:=.int (st.2+1)) hp (by show 2<sizeLine;decide);rw[ww3] at q;exact q
    have gc:∀{H2:Hp},H2 p=some (.dK (stD l (st.2+1)))->yn2 H2 p (.str "cells") (some (.ref l)):=fun {H2} e=>by
     have q:=yn2.k (k:=(Sum.inr "cells" : Key)) e;rw[wb3] at q;exact q
    have lenI:(((st.1.map V.int).length:Nat):Int)=(st.1.length:Int):=by rw[Aa0]
    -- turn,its store,the place
    refine⟨_,rfl,p,.int st.2,rfl,g0,st.2,1,rfl,rfl,_,rfl,_,rfl,p,_,rfl,p0,?_⟩;refine⟨_,rfl,_,rfl,p,.ref l,rfl,gc zb5,l,_,rfl,.inl (SqL.of (H1p _)),st.2+1,_,rfl,rfl,by rw[lenI];exact n0,?_⟩
    -- the cell
    refine⟨_,rfl,p,.ref l,rfl,gc zb5,_,rfl,l,_,_,.int (st.1.getD (plc st) 0),rfl,rfl,SqL.of (H1p _),by rw[lenI,<-ple];exact xe7 cel,?_⟩;refine⟨_,rfl,10,18,rfl,rfl,⟨by decide,by decide,by decide⟩,st.1.getD (plc st) 0,_,rfl,rfl,_,rfl,?_⟩;have e18:((10:Int) ^ (18:Int).toNat)=1000000000000000000:=by decide
    by_cases hc:1000000000000000000<=st.1.getD (plc st) 0
    ·rw[if_pos hc] at w
     rw[e18,Ap1 hc];refine wt5 ?_;refine⟨_,rfl,_,rfl,st.1.getD (plc st) 0,many,rfl,⟨hb.1,hb.2.1⟩,fun q hq=>?_⟩;have qp:p≠q:=zb6 zb5 hq;have ql:l≠q:=zb6 (H1p _) hq;refine⟨q,_,rfl,SqT.of zb5,rfl,_,_,rfl,_,rfl,p,.ref l,rfl,gc (by rw[zb2 qp];exact zb5),_,rfl,l,_,_,plc st,rfl,rfl,by rw[zb2 ql];exact H1p _,?_,_,_,rfl,rfl,?_⟩
     ·rw[lenI,<-ple]
      unfold ixN;rw[if_pos (by omega),if_pos (by rw[Aa0];omega)];simp
     ·refine⟨_,rfl,w _ _ (fun b o hb' nm=>?_) ⟨?_,?_,?_,?_,?_⟩ (Is.int_iff.mpr rfl)⟩
      ·have b1:b≠p:=fun z=>nm (.inl z)
       have b2:b≠l:=fun z=>nm (.inr z)
       have b3:b≠q:=fun z=>by
        subst z;rw[zb2 b1,hb'] at hq;cases hq
       rw[zb2 b2,zb2 b3,zb2 b1];exact hb'
      ·rw[zb2 npl,zb2 qp];exact zb5
      ·rw[zb5]
       congr 2;rw[List.map_set]
      ·intro z
       have:=congrArg List.length z;rw[Bx0] at this;exact hne (List.length_eq_zero_iff.mp this)
      ·show (st.1.set _ _).length<=63
       rw[Bx0];exact h63
      ·show 0<=st.2+1
       omega
    ·rw[if_neg hc] at w
     rw[e18,Ao1 hc];refine va9 ?_;have tb:-(2 ^ 64)<st.2+1/\st.2+1<2 ^ 64:=⟨by omega,by omega⟩;have big:∀(j:Int),-(2 ^ 64)<j/\j<2 ^ 64->∀i:Int,xp9 i j:=fun j h i=>.inr h
     refine⟨_,rfl,st.1.getD (plc st) 0,2147483629,rfl,rfl,(by show (0:Int)<2147483629;decide),_,rfl,_,rfl,_,_,rfl,rfl,.inl tb,_,_,rfl,rfl,big _ ⟨by decide,by decide⟩ _,_,_,rfl,rfl,_,_,rfl,rfl,_,_,rfl,rfl,big _ ⟨by decide,by decide⟩ _,_,_,rfl,rfl,(by show (0:Int)<2147483647;decide),?_⟩;have m0:0<=wt4 (st.1.getD (plc st) 0) (st.2+1):=Int.emod_nonneg _ (by decide);have m1:wt4 (st.1.getD (plc st) 0) (st.2+1)<2147483647:=Int.emod_lt_of_pos _ (by decide);refine⟨_,rfl,_,rfl,wt4 (st.1.getD (plc st) 0) (st.2+1),wt4 (st.1.getD (plc st) 0) (st.2+1),rfl,rfl,.inl ⟨by omega,by omega⟩,_,_,rfl,rfl,(by show (0:Int)<2147483587;decide),?_⟩;refine⟨_,rfl,_,rfl,st.2+1,104729,rfl,rfl,big _ ⟨by decide,by decide⟩ _,vm6 (st.1.getD (plc st) 0) (st.2+1),_,rfl,rfl,_,39373,rfl,rfl,big _ ⟨by decide,by decide⟩ _,_,2147483629,rfl,rfl,(by show (0:Int)<2147483629;decide),_,64,rfl,rfl,⟨by decide,by decide⟩,_,rfl,vm5 (st.1.getD (plc st) 0) (st.2+1),many,rfl,rfl,hb.1,?_⟩;refine w _ _ (fun b o hb' nm=>?_) ⟨zb5,H1p _,hne,h63,by show 0<=st.2+1;omega⟩ (Is.int_iff.mpr rfl);rw[zb2 (fun z=>nm (.inl z))];exact hb'
   ·exact w.elim
  ·exact w.elim
end
noncomputable abbrev yb6:Stmt:=top 5
noncomputable abbrev xh8:List Str:=["wide","high","cell"]
theorem xr9:zc9 xh8 ["wide","high","cell"] (za4 yb6):=by and_intros
noncomputable def yr1:{ B:FnS Unit // ∀P w K mg base (hm:Bn mg) (cs:Cst K mg) k f cdv A outer s H E,zm7 k (A.deeper (envOfC "within" (za4 yb6) s.heap.objs.size f cdv))->
 DSs (zw9 CX0 P w K mg base xh8 "within" (za4 yb6) f cdv A outer s H E).nox (cx0 K H) (zc4 yb6) B }:=by
 refine⟨?B,fun P w K mg base hm cs k f cdv A outer s H E hr=>?h⟩;case h=>
  refine' za6 ?q1;case q1=>
   exact zd3 (yp9 (ga:=.R) (yh5 (ga:=.R) (gb:=.R) (gc:=.R) xt8 yw6 yc6 yc6 za3 (gX_ rfl (za0 (pv 2)) za3 (fun _ _=>rfl)) (za0 (pv 0))) (yp7 (yh5 (ga:=.R) (gb:=.R) (gc:=.R) xt8 yw6 yc6 yc6 za3 (gX_ rfl (za0 (pv 2)) za3 (fun _ _=>rfl)) (za0 (pv 1)))))
noncomputable abbrev zs4:Stmt:=top 6
noncomputable abbrev yj5:List Str:=["kind","place","x","y","cells","i"]
theorem zs3:zc9 yj5 ["kind","place"] (za4 zs4):=by and_intros
noncomputable def yl7:{ B:FnS Unit // ∀P w K mg base (hm:Bn mg) (cs:Cst K mg) k f cdv A outer s H E,zm7 k (A.deeper (envOfC "covered" (za4 zs4) s.heap.objs.size f cdv))->
 DSs (zw9 CX0 P w K mg base yj5 "covered" (za4 zs4) f cdv A outer s H E).nox (cx0 K H) (zc4 zs4) B }:=by
 refine⟨?B,fun P w K mg base hm cs k f cdv A outer s H E hr=>?h⟩;case h=>
  refine' za2 ?q1 ?r1;case q1=>
   exact yg3 (zf1 (pv 1)) (zp9 (n:=2) rfl rfl (zb8 (zb1 (i:=2) zs3.nd rfl (Or.inr rfl)) (zb8 (zb1 (i:=3) zs3.nd rfl (Or.inr rfl)) zj5)))
  case r1=>
  refine' za2 ?q2 ?r2;case q2=>
   exact zb9 (i:=4) zs3.nd rfl (Or.inl rfl) (gL_ za1)
  case r2=>
  refine' za2 ?q3 ?r3;case q3=>
   refine' zk4 [] PassesOwn.never rfl ?i4 ?g4 ?b4;case i4=>exact(zf8 rfl hm.range (yg4 (gX_ rfl (za0 (pv 0)) za3 (fun _ _=>rfl)) za1))
   case g4=>exact(zb1 (i:=5) zs3.nd rfl (Or.inr rfl))
   case b4=>
    refine' za6 ?q5;case q5=>
     exact yf5 (i:=4) yd6 yd8 PySem.F.slot_list_extend PySem.F.type_list_extend (pv 4) (zm4 (N':=["j","x","i","y"]) (ixs:=[none,some 2,some 5,some 3]) [] (zm3.scope (N:=yj5) (osc:=za4 zs4) (by decide +kernel)) rfl (zf8 rfl hm.range (yg4 (gX_ rfl (za0 (pv 0)) za3 (fun _ _=>rfl)) za1)) (fun av cl C s H fp=>⟨(zb1 (i:=0) (show (["j","x","i","y"]:List Str).Nodup by decide +kernel) rfl (Or.inl rfl)),zo0,(gU_ (xx3 (gP_ rfl (za0 (pv 1)) (za0 (pv 2))) (xx3 (gP_ rfl (za0 (pv 3)) (za0 (pv 0))) za1)))⟩)) rfl
  case r3=>
  refine' za6 ?q6;case q6=>
   exact zp8 (pv 4)
noncomputable abbrev zv4:Stmt:=top 7
noncomputable abbrev yx3:List Str:=["hall","stand","held","wall","n","kind","cell"]
theorem zo7:zc9 yx3 ["hall","stand"] (za4 zv4):=by and_intros
noncomputable def yk9 (E4):{ B:FnS Unit // ∀P w K mg base (hm:Bn mg) (cs:Cst K mg) k (D1:zc8 P w K mg base k "covered" ["kind","place"] (sp0 K E4)) f cdv A outer s H E,zm7 k (A.deeper (envOfC "holders" (za4 zv4) s.heap.objs.size f cdv))->
 DSs (zw9 CX0 P w K mg base yx3 "holders" (za4 zv4) f cdv A outer s H E).nox (cx0 K H) (zc4 zv4) B }:=by
 refine⟨?B,fun P w K mg base hm cs k D1 f cdv A outer s H E hr=>?h⟩;case h=>
  refine' za2 ?q1 ?r1;case q1=>
   exact zb9 (i:=2) zo7.nd rfl (Or.inl rfl) wg1
  case r1=>
  refine' za2 ?q2 ?r2;case q2=>
   refine' zk4 [] PassesOwn.never rfl ?i3 ?g3 ?b3;case i3=>exact(zm2 rfl (gX_ rfl (za0 (pv 0)) za3 (fun _ _=>rfl)))
   case g3=>exact(zb1 (i:=3) zo7.nd rfl (Or.inl rfl))
   case b3=>
    refine' za6 ?q4;case q4=>
     exact xe2 (yy8 hr) (pv 2) (ga:=.R) (gb:=.R) (za0 (pv 3)) (yh4 cs.WALL rfl)
  case r2=>
  refine' za2 ?q5 ?r5;case q5=>
   refine' zk4 [] PassesOwn.never rfl ?i6 ?g6 ?b6;case i6=>exact(xy0 rfl rfl hm.enumerate (yg4 (gX_ rfl (za0 (pv 0)) za3 (fun _ _=>rfl)) za1))
   case g6=>exact(zp9 (n:=2) rfl rfl (zb8 (zb1 (i:=4) zo7.nd rfl (Or.inl rfl)) (zb8 (zb1 (i:=5) zo7.nd rfl (Or.inl rfl)) zj5)))
   case b6=>
    refine' za6 ?q7;case q7=>
     refine' zk4 [] PassesOwn.never rfl ?i8 ?g8 ?b8;case i8=>exact(zm2 rfl (zc2 D1 hr rfl (zc7 (za0 (pv 5)) (yg4 (gX_ rfl (za0 (pv 1)) (za0 (pv 4)) (fun _ _=>rfl)) za1))))
     case g8=>exact(zb1 (i:=6) zo7.nd rfl (Or.inl rfl))
     case b8=>
      refine' za6 ?q9;case q9=>
       exact xe2 (yy8 hr) (pv 2) (ga:=.R) (gb:=.R) (za0 (pv 6)) (za0 (pv 4))
  case r5=>
  refine' za6 ?q10;case q10=>
   exact zp8 (pv 2)
noncomputable abbrev yv4:Stmt:=top 12
noncomputable abbrev wi6:List Str:=["ways","direction"]
theorem wn2:zc9 wi6 ["ways","direction"] (za4 yv4):=by and_intros
noncomputable def xx0:{ B:FnS Unit // ∀P w K mg base (hm:Bn mg) (cs:Cst K mg) k f cdv A outer s H E,zm7 k (A.deeper (envOfC "goes" (za4 yv4) s.heap.objs.size f cdv))->
 DSs (zw9 CX0 P w K mg base wi6 "goes" (za4 yv4) f cdv A outer s H E).nox (cx0 K H) (zc4 yv4) B }:=by
 refine⟨?B,fun P w K mg base hm cs k f cdv A outer s H E hr=>?h⟩;case h=>
  refine' za2 ?q1 ?r1;case q1=>
   refine' zh1 ?t2 ?a2 ?b2;case t2=>exact(gT_ (zd6 (ga:=.R) (gb:=.R) (zi0 hr) (zf2 rfl) (za0 (pv 0)) zd4 rfl))
   case a2=>
    refine' za6 ?q3;case q3=>
     exact zd3 (g2_ (zu8 (ga:=.R) (gb:=.R) (zi0 hr) (zf2 rfl) (g2_ (zw8 (ga:=.R) (gb:=.R) yc5 wz6 (za0 (pv 1)) za3)) za3 rfl))
   case b2=>
    exact zc5
  case r1=>
  refine' za2 ?q4 ?r4;case q4=>
   refine' zh1 ?t5 ?a5 ?b5;case t5=>exact(gT_ (zd6 (ga:=.R) (gb:=.R) (zi0 hr) (zf2 rfl) (za0 (pv 0)) zd4 rfl))
   case a5=>
    refine' za6 ?q6;case q6=>
     exact zd3 (g2_ (zu8 (ga:=.R) (gb:=.R) (zi0 hr) (zf2 rfl) (g2_ (zw8 (ga:=.R) (gb:=.R) yc5 wz6 (za0 (pv 1)) za3)) za3 rfl))
   case b5=>
    exact zc5
  case r4=>
  refine' za6 ?q7;case q7=>
   exact zd3 (g2_ (zu8 (ga:=.R) (gb:=.R) (zi0 hr) (zf2 rfl) (za0 (pv 0)) zd4 rfl))
noncomputable abbrev zk5:Stmt:=top 13
noncomputable abbrev yd1:List Str:=["place","direction","east","north"]
theorem zy6:zc9 yd1 ["place","direction"] (za4 zk5):=by and_intros
noncomputable def zt4:{ B:FnS Unit // ∀P w K mg base (hm:Bn mg) (cs:Cst K mg) k f cdv A outer s H E,zm7 k (A.deeper (envOfC "one_further" (za4 zk5) s.heap.objs.size f cdv))->
 DSs (zw9 CX0 P w K mg base yd1 "one_further" (za4 zk5) f cdv A outer s H E).nox (cx0 K H) (zc4 zk5) B }:=by
 refine⟨?B,fun P w K mg base hm cs k f cdv A outer s H E hr=>?h⟩;case h=>
  refine' za2 ?q1 ?r1;case q1=>
   exact ws2 (tbl:=[(1,0),(0,1),(-1,0),(0,-1)]) (i:=2) (j:=3) (a0:=0) rfl rfl cs.STEPS rfl zy6.nd rfl rfl (Or.inl rfl) (Or.inl rfl) (za0 (pv 1)) (fun _ _=>rfl)
  case r1=>
  refine' za6 ?q2;case q2=>
   exact zd3 (gU_ (xx3 (gP_ rfl (gX_ rfl (za0 (pv 0)) za3 (fun _ _=>rfl)) (za0 (pv 2))) (xx3 (gP_ rfl (gX_ rfl (za0 (pv 0)) za3 (fun _ _=>rfl)) (za0 (pv 3))) za1)))
noncomputable abbrev yb9:Stmt:=top 14
noncomputable abbrev xi1:List Str:=["hall","stand","held","n","direction","kind","met","cell","holder"]
theorem zv1:zc9 xi1 ["hall","stand","held","n","direction"] (za4 yb9):=by and_intros
noncomputable def ys5 (O0) (E4) (C6) (K6):{ B:FnS Unit // ∀P w K mg base (hm:Bn mg) (cs:Cst K mg) k (K7:zc8 P w K mg base k "goes" ["ways","direction"] (sp0 K O0)) (D1:zc8 P w K mg base k "covered" ["kind","place"] (sp0 K E4)) (B7:zc8 P w K mg base k "one_further" ["place","direction"] (sp0 K C6)) (G6:zc8 P w K mg base k "within" ["wide","high","cell"] (sp0 K K6)) f cdv A outer s H E,zm7 k (A.deeper (envOfC "met_by" (za4 yb9) s.heap.objs.size f cdv))->
 DSs (zw9 CX0 P w K mg base xi1 "met_by" (za4 yb9) f cdv A outer s H E).nox (cx0 K H) (zc4 yb9) B }:=by
 refine⟨?B,fun P w K mg base hm cs k K7 D1 B7 G6 f cdv A outer s H E hr=>?h⟩;case h=>
  refine' za2 ?q1 ?r1;case q1=>
   exact zb9 (i:=5) zv1.nd rfl (Or.inl rfl) (gX_ rfl (gX_ rfl (za0 (pv 0)) za3 (fun _ _=>rfl)) (za0 (pv 3)) (fun _ _=>rfl))
  case r1=>
  refine' za2 ?q2 ?r2;case q2=>
   refine' zh1 ?t3 ?a3 ?b3;case t3=>exact(ye1 (zm1 (g:=.R) (zc2 K7 hr rfl (yg4 (gX_ rfl (za0 (pv 5)) za3 (fun _ _=>rfl)) (zc7 (za0 (pv 4)) za1)))))
   case a3=>
    refine' za6 ?q4;case q4=>
     exact zd3 zl4
   case b3=>
    exact zc5
  case r2=>
  refine' za2 ?q5 ?r5;case q5=>
   exact zb9 (i:=6) zv1.nd rfl (Or.inl rfl) (gL_ za1)
  case r5=>
  refine' za2 ?q6 ?r6;case q6=>
   refine' zk4 [] PassesOwn.never rfl ?i7 ?g7 ?b7;case i7=>exact(zm2 rfl (zc2 D1 hr rfl (xx1 (za0 (pv 5)) (xx2 (zc2 B7 hr rfl (yg4 (gX_ rfl (za0 (pv 1)) (za0 (pv 3)) (fun _ _=>rfl)) (zc7 (za0 (pv 4)) za1))) za1))))
   case g7=>exact(zb1 (i:=7) zv1.nd rfl (Or.inl rfl))
   case b7=>
    refine' za2 ?q8 ?r8;case q8=>
     exact zb9 (i:=8) zv1.nd rfl (Or.inl rfl) (vd3 (ga:=.R) (gb:=.R) (gc:=.R) (yy8 hr) (za0 (pv 2)) (za0 (pv 7)) (za0 (pv 3)) ⟨rfl,rfl,rfl,rfl⟩)
    case r8=>
    refine' za2 ?q9 ?r9;case q9=>
     refine' zh1 ?t10 ?a10 ?b10;case t10=>exact(DW.dt (xo7 (gT_ (zd6 (ga:=.R) (gb:=.R) (zi0 hr) (zf2 rfl) (za0 (pv 8)) (yh4 cs.WALL rfl) rfl)) (yp5 (ye1 (zm1 (g:=.R) (zc2 G6 hr rfl (yg4 (gX_ rfl (za0 (pv 0)) za3 (fun _ _=>rfl)) (yg4 (gX_ rfl (za0 (pv 0)) za3 (fun _ _=>rfl)) (zc7 (za0 (pv 7)) za1)))))))))
     case a10=>
      refine' za6 ?q11;case q11=>
       exact zd3 zl4
     case b10=>
      exact zc5
    case r9=>
    refine' za6 ?q12;case q12=>
     refine' zh1 ?t13 ?a13 ?b13;case t13=>exact(DW.dt (yl5 (gT_ (zd6 (ga:=.R) (gb:=.R) (yc4 hr) (zf2 rfl) (za0 (pv 8)) (za0 (pv 3)) rfl)) (yf4 (gT_ (zd6 (ga:=.R) (gb:=.R) (zv9 hr) (yg0 rfl) (za0 (pv 8)) (za0 (pv 6)) rfl)))))
     case a13=>
      refine' za6 ?q14;case q14=>
       exact yf5 (i:=6) zi8 zl2 PySem.F.slot_list_append PySem.F.type_list_append (pv 6) (za0 (pv 8)) rfl
     case b13=>
      exact zc5
  case r6=>
  refine' za6 ?q15;case q15=>
   exact zp8 (pv 6)
noncomputable abbrev zg6:Stmt:=top 15
noncomputable abbrev zr7:List Str:=["hall","stand","held","n","direction","strong","going","asked","met"]
theorem zf5:zc9 zr7 ["hall","stand","held","n","direction"] (za4 zg6):=by and_intros
noncomputable def zs0 (K8):{ B:FnS Unit // ∀P w K mg base (hm:Bn mg) (cs:Cst K mg) k (G7:zc8 P w K mg base k "met_by" ["hall","stand","held","n","direction"] (sp0 K K8)) f cdv A outer s H E,zm7 k (A.deeper (envOfC "movers_among" (za4 zg6) s.heap.objs.size f cdv))->
 DSs (zw9 CX0 P w K mg base zr7 "movers_among" (za4 zg6) f cdv A outer s H E).nox (cx0 K H) (zc4 zg6) B }:=by
 refine⟨?B,fun P w K mg base hm cs k G7 f cdv A outer s H E hr=>?h⟩;case h=>
  refine' za2 ?q1 ?r1;case q1=>
   exact zb9 (i:=5) zf5.nd rfl (Or.inl rfl) (gX_ rfl (gX_ rfl (gX_ rfl (za0 (pv 0)) za3 (fun _ _=>rfl)) (za0 (pv 3)) (fun _ _=>rfl)) za3 (fun _ _=>rfl))
  case r1=>
  refine' za2 ?q2 ?r2;case q2=>
   refine' zh1 ?t3 ?a3 ?b3;case t3=>exact(gT_ (zd6 (ga:=.R) (gb:=.R) (zi0 hr) (zf2 rfl) (za0 (pv 5)) (yh4 cs.DULL rfl) rfl))
   case a3=>
    refine' za6 ?q4;case q4=>
     exact zd3 zl4
   case b3=>
    exact zc5
  case r2=>
  refine' za2 ?q5 ?r5;case q5=>
   exact zb9 (i:=6) zf5.nd rfl (Or.inr rfl) (gL_ (zc7 (za0 (pv 3)) za1))
  case r5=>
  refine' za2 ?q6 ?r6;case q6=>
   exact zb9 (i:=7) zf5.nd rfl (Or.inl rfl) za3
  case r6=>
  refine' za2 ?q7 ?r7;case q7=>
   refine' yh2 PassesOwn.never ?t8 ?b8;case t8=>exact(gT_ (zd6 (ga:=.R) (gb:=.R) yw6 yc6 (za0 (pv 7)) (gA_ (zj6 (zc7 (za0 (pv 6)) za1) zc6 (zr0 rfl) rfl hm.len PySem.boot_len)) rfl))
   case b8=>
    refine' za2 ?q9 ?r9;case q9=>
     exact zb9 (i:=8) zf5.nd rfl (Or.inl rfl) (zc2 G7 hr rfl (zc7 (za0 (pv 0)) (zc7 (za0 (pv 1)) (zc7 (za0 (pv 2)) (yg4 (gX_ rfl (za0 (pv 6)) (za0 (pv 7)) (fun _ _=>rfl)) (zc7 (za0 (pv 4)) za1))))))
    case r9=>
    refine' za2 ?q10 ?r10;case q10=>
     refine' zh1 ?t11 ?a11 ?b11;case t11=>exact(DW.dt (xo7 (gT_ (zd6 (ga:=.R) (gb:=.R) yw7 yx1 (za0 (pv 8)) zl4 rfl)) (yp5 (DW.dt (yl5 (gT_ (zd6 (ga:=.R) (gb:=.R) (yc4 hr) (zf2 rfl) (za0 (pv 8)) (gL_ za1) rfl)) (yf4 (gT_ (zd6 (ga:=.R) (gb:=.R) (yc4 hr) (zf2 rfl) (za0 (pv 5)) (yh4 cs.STRONG rfl) rfl))))))))
     case a11=>
      refine' za6 ?q12;case q12=>
       exact zd3 zl4
     case b11=>
      exact zc5
    case r10=>
    refine' za2 ?q13 ?r13;case q13=>
     exact yf5 (i:=6) yd6 yd8 PySem.F.slot_list_extend PySem.F.type_list_extend (pv 6) (zm4 (N':=["other","going"]) (ixs:=[none,some 6]) [8] (zm3.scope (N:=zr7) (osc:=za4 zg6) (by decide +kernel)) rfl (zm2 rfl (zf1 (pv 8))) (fun av cl C s H fp=>⟨(zb1 (i:=0) (show (["other","going"]:List Str).Nodup by decide +kernel) rfl (Or.inl rfl)),(xe0 (gT_ (zd6 (ga:=.R) (gb:=.R) (zv9 hr) (yg0 rfl) (za0 (pv 0)) (za0 (pv 1)) rfl))),(za0 (pv 0))⟩)) rfl
    case r13=>
    refine' za6 ?q14;case q14=>
     exact vc2 (i:=7) zf5.nd rfl (Or.inl rfl) vb1 za3
  case r7=>
  refine' za6 ?q15;case q15=>
   exact zd3 (gA_ (ya1 (xd8 (gA_ (zj6 (zc7 (za0 (pv 6)) za1) yl8 (xa0 rfl) rfl hm.sorted boot_sorted)) za1) ze8 (zo3 rfl) rfl hm.tuple boot_tuple))
noncomputable abbrev yb8:Stmt:=top 16
noncomputable abbrev xi0:List Str:=["hall","stand","n","direction"]
theorem xs0:zc9 xi0 ["hall","stand","n","direction"] (za4 yb8):=by and_intros
noncomputable def ys4 (C4) (E5):{ B:FnS Unit // ∀P w K mg base (hm:Bn mg) (cs:Cst K mg) k (B0:zc8 P w K mg base k "movers_among" ["hall","stand","held","n","direction"] (sp0 K C4)) (D2:zc8 P w K mg base k "holders" ["hall","stand"] (sp0 K E5)) f cdv A outer s H E,zm7 k (A.deeper (envOfC "movers" (za4 yb8) s.heap.objs.size f cdv))->
 DSs (zw9 CX0 P w K mg base xi0 "movers" (za4 yb8) f cdv A outer s H E).nox (cx0 K H) (zc4 yb8) B }:=by
 refine⟨?B,fun P w K mg base hm cs k B0 D2 f cdv A outer s H E hr=>?h⟩;case h=>
  refine' za6 ?q1;case q1=>
   exact zd3 (zc2 B0 hr rfl (xx1 (za0 (pv 0)) (xx1 (za0 (pv 1)) (xx2 (zc2 D2 hr rfl (zc7 (za0 (pv 0)) (zc7 (za0 (pv 1)) za1))) (zc7 (za0 (pv 2)) (zc7 (za0 (pv 3)) za1))))))
noncomputable abbrev zk6:Stmt:=top 17
noncomputable abbrev yd2:List Str:=["stand","going","direction","places","n"]
theorem zr5:zc9 yd2 ["stand","going","direction"] (za4 zk6):=by and_intros
noncomputable def zu2 (C6):{ B:FnS Unit // ∀P w K mg base (hm:Bn mg) (cs:Cst K mg) k (B7:zc8 P w K mg base k "one_further" ["place","direction"] (sp0 K C6)) f cdv A outer s H E,zm7 k (A.deeper (envOfC "behind_step" (za4 zk6) s.heap.objs.size f cdv))->
 DSs (zw9 CX0 P w K mg base yd2 "behind_step" (za4 zk6) f cdv A outer s H E).nox (cx0 K H) (zc4 zk6) B }:=by
 refine⟨?B,fun P w K mg base hm cs k B7 f cdv A outer s H E hr=>?h⟩;case h=>
  refine' za2 ?q1 ?r1;case q1=>
   exact zb9 (i:=3) zr5.nd rfl (Or.inl rfl) (gA_ (ya1 (zc7 (za0 (pv 0)) za1) zr2 (xe5 rfl) rfl hm.list boot_list))
  case r1=>
  refine' za2 ?q2 ?r2;case q2=>
   refine' zk4 [1] PassesOwn.never rfl ?i3 ?g3 ?b3;case i3=>exact(zm2 rfl (zf1 (pv 1)))
   case g3=>exact(zb1 (i:=4) zr5.nd rfl (Or.inl rfl))
   case b3=>
    refine' za6 ?q4;case q4=>
     exact yp6 (pv 3) (ga:=.R) (gb:=.R) (za0 (pv 4)) (zc2 B7 hr rfl (yg4 (gX_ rfl (za0 (pv 0)) (za0 (pv 4)) (fun _ _=>rfl)) (zc7 (za0 (pv 2)) za1))) (fun hk hv=>yv9 hv (xt2 (pv 3) hk yr5))
  case r2=>
  refine' za6 ?q5;case q5=>
   exact zd3 (gA_ (ya1 (zc7 (za0 (pv 3)) za1) ze8 (zo3 rfl) rfl hm.tuple boot_tuple))
noncomputable abbrev yb7:Stmt:=top 18
noncomputable abbrev xh9:List Str:=["hall","stand","push","n","direction","many","behind","step","going"]
theorem zm9:zc9 xh9 ["hall","stand","push"] (za4 yb7):=by and_intros
noncomputable def yg8 (D3) (C7):{ B:FnS Unit // ∀P w K mg base (hm:Bn mg) (cs:Cst K mg) k (C1:zc8 P w K mg base k "movers" ["hall","stand","n","direction"] (sp0 K D3)) (B8:zc8 P w K mg base k "behind_step" ["stand","going","direction"] (sp0 K C7)) f cdv A outer s H E,zm7 k (A.deeper (envOfC "pushed" (za4 yb7) s.heap.objs.size f cdv))->
 DSs (zw9 CX0 P w K mg base xh9 "pushed" (za4 yb7) f cdv A outer s H E).nox (cx0 K H) (zc4 yb7) B }:=by
 refine⟨?B,fun P w K mg base hm cs k C1 B8 f cdv A outer s H E hr=>?h⟩;case h=>
  refine' za2 ?q1 ?r1;case q1=>
   exact yg3 (zf1 (pv 2)) (zp9 (n:=3) rfl rfl (zb8 (zb1 (i:=3) zm9.nd rfl (Or.inl rfl)) (zb8 (zb1 (i:=4) zm9.nd rfl (Or.inl rfl)) (zb8 (zb1 (i:=5) zm9.nd rfl (Or.inl rfl)) zj5))))
  case r1=>
  refine' za2 ?q2 ?r2;case q2=>
   exact xx8 (i:=6) zm9.nd rfl (Or.inl rfl) (zf1 (pv 1))
  case r2=>
  refine' za2 ?q3 ?r3;case q3=>
   refine' zk4 [] PassesOwn.never rfl ?i4 ?g4 ?b4;case i4=>exact(zf8 rfl hm.range (zc7 (za0 (pv 5)) za1))
   case g4=>exact(zb1 (i:=7) zm9.nd rfl (Or.inl rfl))
   case b4=>
    refine' za2 ?q5 ?r5;case q5=>
     exact zb9 (i:=8) zm9.nd rfl (Or.inl rfl) (zc2 C1 hr rfl (zc7 (za0 (pv 0)) (zc7 (za0 (pv 6)) (zc7 (za0 (pv 3)) (zc7 (za0 (pv 4)) za1)))))
    case r5=>
    refine' za2 ?q6 ?r6;case q6=>
     refine' zh1 ?t7 ?a7 ?b7;case t7=>exact(gT_ (zd6 (ga:=.R) (gb:=.R) yw7 yx1 (za0 (pv 8)) zl4 rfl))
     case a7=>
      refine' za6 ?q8;case q8=>
       exact vc1
     case b7=>
      exact zc5
    case r6=>
    refine' za6 ?q9;case q9=>
     exact zb9 (i:=6) zm9.nd rfl (Or.inl rfl) (zc2 B8 hr rfl (zc7 (za0 (pv 6)) (zc7 (za0 (pv 8)) (zc7 (za0 (pv 4)) za1))))
  case r3=>
  refine' za6 ?q10;case q10=>
   exact zp8 (pv 6)
noncomputable abbrev zi6:Stmt:=top 19
noncomputable abbrev zz1:List Str:=["hall","stand","held","n","direction","stands","last","going"]
theorem zf4:zc9 zz1 ["hall","stand","held","n","direction"] (za4 zi6):=by and_intros
noncomputable def zr4 (C4) (C7) (D3):{ B:FnS Unit // ∀P w K mg base (hm:Bn mg) (cs:Cst K mg) k (B0:zc8 P w K mg base k "movers_among" ["hall","stand","held","n","direction"] (sp0 K C4)) (B8:zc8 P w K mg base k "behind_step" ["stand","going","direction"] (sp0 K C7)) (C1:zc8 P w K mg base k "movers" ["hall","stand","n","direction"] (sp0 K D3)) f cdv A outer s H E,zm7 k (A.deeper (envOfC "stands_along" (za4 zi6) s.heap.objs.size f cdv))->
 DSs (zw9 CX0 P w K mg base zz1 "stands_along" (za4 zi6) f cdv A outer s H E).nox (cx0 K H) (zc4 zi6) B }:=by
 refine⟨?B,fun P w K mg base hm cs k B0 B8 C1 f cdv A outer s H E hr=>?h⟩;case h=>
  refine' za2 ?q1 ?r1;case q1=>
   exact zb9 (i:=5) zf4.nd rfl (Or.inl rfl) (gL_ za1)
  case r1=>
  refine' za2 ?q2 ?r2;case q2=>
   exact xx8 (i:=6) zf4.nd rfl (Or.inl rfl) (zf1 (pv 1))
  case r2=>
  refine' za2 ?q3 ?r3;case q3=>
   exact zb9 (i:=7) zf4.nd rfl (Or.inl rfl) (zc2 B0 hr rfl (zc7 (za0 (pv 0)) (zc7 (za0 (pv 1)) (zc7 (za0 (pv 2)) (zc7 (za0 (pv 3)) (zc7 (za0 (pv 4)) za1))))))
  case r3=>
  refine' za2 ?q4 ?r4;case q4=>
   refine' yh2 PassesOwn.never ?t5 ?b5;case t5=>exact(gT_ (zd6 (ga:=.R) (gb:=.R) wp1 wp6 (za0 (pv 7)) zl4 rfl))
   case b5=>
    refine' za2 ?q6 ?r6;case q6=>
     exact zb9 (i:=6) zf4.nd rfl (Or.inl rfl) (zc2 B8 hr rfl (zc7 (za0 (pv 6)) (zc7 (za0 (pv 7)) (zc7 (za0 (pv 4)) za1))))
    case r6=>
    refine' za2 ?q7 ?r7;case q7=>
     exact yf5 (i:=5) zi8 zl2 PySem.F.slot_list_append PySem.F.type_list_append (pv 5) (za0 (pv 6)) rfl
    case r7=>
    refine' za6 ?q8;case q8=>
     exact zb9 (i:=7) zf4.nd rfl (Or.inl rfl) (zc2 C1 hr rfl (zc7 (za0 (pv 0)) (zc7 (za0 (pv 6)) (zc7 (za0 (pv 3)) (zc7 (za0 (pv 4)) za1)))))
  case r4=>
  refine' za6 ?q9;case q9=>
   exact zp8 (pv 5)
noncomputable abbrev ze5:Stmt:=top 20
noncomputable abbrev zl1:List Str:=["hall","stand","held","pairs","n","direction","ends"]
theorem ze0:zc9 zl1 ["hall","stand"] (za4 ze5):=by and_intros
noncomputable def zl0 (E5) (E9):{ B:FnS Unit // ∀P w K mg base (hm:Bn mg) (cs:Cst K mg) k (D2:zc8 P w K mg base k "holders" ["hall","stand"] (sp0 K E5)) (D4:zc8 P w K mg base k "stands_along" ["hall","stand","held","n","direction"] (sp0 K E9)) f cdv A outer s H E,zm7 k (A.deeper (envOfC "pushes_with_ends" (za4 ze5) s.heap.objs.size f cdv))->
 DSs (zw9 CX0 P w K mg base zl1 "pushes_with_ends" (za4 ze5) f cdv A outer s H E).nox (cx0 K H) (zc4 ze5) B }:=by
 refine⟨?B,fun P w K mg base hm cs k D2 D4 f cdv A outer s H E hr=>?h⟩;case h=>
  refine' za2 ?q1 ?r1;case q1=>
   exact zb9 (i:=2) ze0.nd rfl (Or.inl rfl) (zc2 D2 hr rfl (zc7 (za0 (pv 0)) (zc7 (za0 (pv 1)) za1)))
  case r1=>
  refine' za2 ?q2 ?r2;case q2=>
   exact zb9 (i:=3) ze0.nd rfl (Or.inl rfl) (gL_ za1)
  case r2=>
  refine' za2 ?q3 ?r3;case q3=>
   refine' zk4 [] PassesOwn.never rfl ?i4 ?g4 ?b4;case i4=>exact(zf8 rfl hm.range (xd8 (gA_ (zj6 (zc7 (za0 (pv 1)) za1) zc6 (zr0 rfl) rfl hm.len PySem.boot_len)) za1))
   case g4=>exact(zb1 (i:=4) ze0.nd rfl (Or.inr rfl))
   case b4=>
    refine' za6 ?q5;case q5=>
     refine' zk4 [] PassesOwn.never rfl ?i6 ?g6 ?b6;case i6=>exact(zf8 rfl hm.range (zi1 za3 za1))
     case g6=>exact(zb1 (i:=5) ze0.nd rfl (Or.inr rfl))
     case b6=>
      refine' za2 ?q7 ?r7;case q7=>
       exact zb9 (i:=6) ze0.nd rfl (Or.inl rfl) (zc2 D4 hr rfl (zc7 (za0 (pv 0)) (zc7 (za0 (pv 1)) (zc7 (za0 (pv 2)) (zc7 (za0 (pv 4)) (zc7 (za0 (pv 5)) za1))))))
      case r7=>
      refine' za6 ?q8;case q8=>
       exact yf5 (i:=3) yd6 yd8 PySem.F.slot_list_extend PySem.F.type_list_extend (pv 3) (zm4 (N':=["many","end","n","direction"]) (ixs:=[none,none,some 4,some 5]) [6] (zm3.scope (N:=zl1) (osc:=za4 ze5) (by decide +kernel)) rfl (wf8 rfl hm.enumerate (zg0 (zf1 (pv 6)) ye3)) (fun av cl C s H fp=>⟨(zp9 (n:=2) rfl rfl (zb8 (zb1 (i:=0) (show (["many","end","n","direction"]:List Str).Nodup by decide +kernel) rfl (Or.inl rfl)) (zb8 (zb1 (i:=1) (show (["many","end","n","direction"]:List Str).Nodup by decide +kernel) rfl (Or.inl rfl)) zj5))),zo0,(gU_ (xz9 (gU_ (zc7 (za0 (pv 2)) (zc7 (za0 (pv 3)) (zc7 (za0 (pv 0)) za1)))) (zc7 (za0 (pv 1)) za1)))⟩)) rfl
  case r3=>
  refine' za6 ?q9;case q9=>
   exact zp8 (pv 3)
noncomputable abbrev zk0:Stmt:=top 21
noncomputable abbrev zw3:List Str:=["hall","stand"]
theorem yr6:zc9 zw3 ["hall","stand"] (za4 zk0):=by and_intros
noncomputable def zx1 (E1):{ B:FnS Unit // ∀P w K mg base (hm:Bn mg) (cs:Cst K mg) k (C5:zc8 P w K mg base k "pushes_with_ends" ["hall","stand"] (sp0 K E1)) f cdv A outer s H E,zm7 k (A.deeper (envOfC "all_pushes" (za4 zk0) s.heap.objs.size f cdv))->
 DSs (zw9 CX0 P w K mg base zw3 "all_pushes" (za4 zk0) f cdv A outer s H E).nox (cx0 K H) (zc4 zk0) B }:=by
 refine⟨?B,fun P w K mg base hm cs k C5 f cdv A outer s H E hr=>?h⟩;case h=>
  refine' za6 ?q1;case q1=>
   exact zd3 (zm4 (N':=["push","end"]) (ixs:=[none,none]) [] (zm3.scope (N:=zw3) (osc:=za4 zk0) (by decide +kernel)) rfl (zm2 rfl (zc2 C5 hr rfl (zc7 (za0 (pv 0)) (zc7 (za0 (pv 1)) za1)))) (fun av cl C s H fp=>⟨(zp9 (n:=2) rfl rfl (zb8 (zb1 (i:=0) (show (["push","end"]:List Str).Nodup by decide +kernel) rfl (Or.inl rfl)) (zb8 (zb1 (i:=1) (show (["push","end"]:List Str).Nodup by decide +kernel) rfl (Or.inl rfl)) zj5))),zo0,(za0 (pv 0))⟩))
noncomputable abbrev zg7:Stmt:=top 25
noncomputable abbrev zr8:List Str:=["_law_kind_here","_law_place","_law_found","_law_i"]
theorem zp1:zc9 zr8 ["_law_kind_here","_law_place"] (za4 zg7):=by and_intros
noncomputable def zs2:{ B:FnS Unit // ∀P w K mg base (hm:Bn mg) (cs:Cst K mg) k f cdv A outer s H E,zm7 k (A.deeper (envOfC "_law_covered" (za4 zg7) s.heap.objs.size f cdv))->
 DSs (zw9 CX0 P w K mg base zr8 "_law_covered" (za4 zg7) f cdv A outer s H E).nox (cx0 K H) (zc4 zg7) B }:=by
 refine⟨?B,fun P w K mg base hm cs k f cdv A outer s H E hr=>?h⟩;case h=>
  refine' za2 ?q1 ?r1;case q1=>
   exact zb9 (i:=2) zp1.nd rfl (Or.inl rfl) (gL_ za1)
  case r1=>
  refine' za2 ?q2 ?r2;case q2=>
   refine' zk4 [] PassesOwn.never rfl ?i3 ?g3 ?b3;case i3=>exact(zf8 rfl hm.range (yg4 (gX_ rfl (za0 (pv 0)) za3 (fun _ _=>rfl)) za1))
   case g3=>exact(zb1 (i:=3) zp1.nd rfl (Or.inr rfl))
   case b3=>
    refine' za6 ?q4;case q4=>
     exact yf5 (i:=2) yd6 yd8 PySem.F.slot_list_extend PySem.F.type_list_extend (pv 2) (zm4 (N':=["_law_j","_law_i","_law_place"]) (ixs:=[none,some 3,some 1]) [] (zm3.scope (N:=zr8) (osc:=za4 zg7) (by decide +kernel)) rfl (zf8 rfl hm.range (yg4 (gX_ rfl (za0 (pv 0)) za3 (fun _ _=>rfl)) za1)) (fun av cl C s H fp=>⟨(zb1 (i:=0) (show (["_law_j","_law_i","_law_place"]:List Str).Nodup by decide +kernel) rfl (Or.inl rfl)),zo0,(gU_ (xx3 (gP_ rfl (gX_ rfl (za0 (pv 2)) za3 (fun _ _=>rfl)) (za0 (pv 1))) (xx3 (gP_ rfl (gX_ rfl (za0 (pv 2)) za3 (fun _ _=>rfl)) (za0 (pv 0))) za1)))⟩)) rfl
  case r2=>
  refine' za6 ?q5;case q5=>
   exact zp8 (pv 2)
noncomputable abbrev zi7:Stmt:=top 26
noncomputable abbrev zz2:List Str:=["_law_wide","_law_high","_law_kind_here","_law_across","_law_up"]
theorem zv3:zc9 zz2 ["_law_wide","_law_high","_law_kind_here"] (za4 zi7):=by and_intros
noncomputable def zs1:{ B:FnS Unit // ∀P w K mg base (hm:Bn mg) (cs:Cst K mg) k f cdv A outer s H E,zm7 k (A.deeper (envOfC "_law_room_of" (za4 zi7) s.heap.objs.size f cdv))->
 DSs (zw9 CX0 P w K mg base zz2 "_law_room_of" (za4 zi7) f cdv A outer s H E).nox (cx0 K H) (zc4 zi7) B }:=by
 refine⟨?B,fun P w K mg base hm cs k f cdv A outer s H E hr=>?h⟩;case h=>
  refine' za2 ?q1 ?r1;case q1=>
   exact xj7 (i:=3) (j:=4) rfl zv3.nd rfl rfl (by decide) rfl rfl (zg0 (gP_ rfl (g2_ (zw8 (ga:=.R) (gb:=.R) yf9 yr9 (za0 (pv 0)) (gX_ rfl (za0 (pv 2)) za3 (fun _ _=>rfl)))) za3) (zg0 (gP_ rfl (g2_ (zw8 (ga:=.R) (gb:=.R) yf9 yr9 (za0 (pv 1)) (gX_ rfl (za0 (pv 2)) za3 (fun _ _=>rfl)))) za3) ye3)) rfl
  case r1=>
  refine' za6 ?q2;case q2=>
   exact zd3 (ws6 (ga:=.R) (yy8 hr) (yh3 (g2_ (zw8 (ga:=.R) (gb:=.R) xc9 xd0 (za0 (pv 3)) (za0 (pv 4)))) (yh3 (za0 (pv 3)) (yh3 (za0 (pv 4)) (yh3 za3 ws3)))) rfl rfl (by simp) (by decide) (by decide) (by decide +kernel) (gX_ rfl (za0 (pv 2)) za3 (fun _ _=>rfl)) (fun _ _=>rfl))
noncomputable abbrev zn0:Stmt:=top 27
noncomputable abbrev yg1:List Str:=["_law_state","_law_broad","_law_way"]
theorem yb5:zc9 yg1 ["_law_state","_law_broad"] (za4 zn0):=by and_intros
noncomputable def zx2 (A8):{ B:FnS Dr // ∀P w K mg base (p l:Addr) (hm:Bn mg) (cs:Cst K mg) k (A6:zc8 P w K mg base k "_law_take" ["_law_state","_law_many"] (spS (WdS p l) K A8)) f cdv A outer s H E,zm7 k (A.deeper (envOfC "_law_sized" (za4 zn0) s.heap.objs.size f cdv))->
 DSs (zw9 CX0 P w K mg base yg1 "_law_sized" (za4 zn0) f cdv A outer s H E).nox (cxS (WdS p l) K H) (zc4 zn0) B }:=by
 refine⟨?B,fun P w K mg base p l hm cs k A6 f cdv A outer s H E hr=>?h⟩;case h=>
  refine' za2 ?q1 ?r1;case q1=>
   refine' zh1 ?t2 ?a2 ?b2;case t2=>exact(gB_ (zm1 (g:=.R) (za0 (pv 1))))
   case a2=>
    refine' za6 ?q3;case q3=>
     exact zd3 (zz4 (xp6 (gp_ rfl za3 (zc1 A6 hr rfl (pv 0) (zi1 za3 za1))) (xp6 (gp_ rfl za3 (zc1 A6 hr rfl (pv 0) (zi1 za3 za1))) za1)))
   case b2=>
    exact zc5
  case r1=>
  refine' za2 ?q4 ?r4;case q4=>
   exact zb9 (i:=2) yb5.nd rfl (Or.inl rfl) (zc1 A6 hr rfl (pv 0) (zi1 za3 za1))
  case r4=>
  refine' za2 ?q5 ?r5;case q5=>
   refine' zh1 ?t6 ?a6 ?b6;case t6=>exact(gT_ (zd6 (ga:=.R) (gb:=.R) (zi0 hr) (zf2 rfl) (za0 (pv 2)) za3 rfl))
   case a6=>
    refine' za6 ?q7;case q7=>
     exact zd3 (zz4 (xp6 (gp_ rfl za3 (zc1 A6 hr rfl (pv 0) (zi1 za3 za1))) (xp6 (gp_ rfl za3 (zc1 A6 hr rfl (pv 0) (zi1 za3 za1))) za1)))
   case b6=>
    exact zc5
  case r5=>
  refine' za2 ?q8 ?r8;case q8=>
   refine' zh1 ?t9 ?a9 ?b9;case t9=>exact(gT_ (zd6 (ga:=.R) (gb:=.R) (zi0 hr) (zf2 rfl) (za0 (pv 2)) za3 rfl))
   case a9=>
    refine' za6 ?q10;case q10=>
     exact zd3 (zz4 (xp6 (gp_ rfl za3 (zc1 A6 hr rfl (pv 0) (zi1 za3 za1))) (xp6 (gp_ rfl za3 (zc1 A6 hr rfl (pv 0) (zi1 za3 za1))) za1)))
   case b9=>
    exact zc5
  case r8=>
  refine' za6 ?q11;case q11=>
   exact zd3 (zz4 (xp6 (gp_ rfl za3 (zc1 A6 hr rfl (pv 0) (zi1 za3 za1))) (xp6 (gp_ rfl za3 (zc1 A6 hr rfl (pv 0) (zi1 za3 za1))) za1)))
noncomputable abbrev zp2:Stmt:=top 28
noncomputable abbrev yj6:List Str:=["_law_state","_law_wide","_law_high","_law_broad","_law_sizes","_law_across","_law_up","_law_ways","_law_great"]
theorem ze2:zc9 yj6 ["_law_state","_law_wide","_law_high","_law_broad"] (za4 zp2):=by and_intros
noncomputable def ya5 (A8):{ B:FnS Dr // ∀P w K mg base (p l:Addr) (hm:Bn mg) (cs:Cst K mg) k (A6:zc8 P w K mg base k "_law_take" ["_law_state","_law_many"] (spS (WdS p l) K A8)) f cdv A outer s H E,zm7 k (A.deeper (envOfC "_law_kind" (za4 zp2) s.heap.objs.size f cdv))->
 DSs (zw9 CX0 P w K mg base yj6 "_law_kind" (za4 zp2) f cdv A outer s H E).nox (cxS (WdS p l) K H) (zc4 zp2) B }:=by
 refine⟨?B,fun P w K mg base p l hm cs k A6 f cdv A outer s H E hr=>?h⟩;case h=>
  refine' za2 ?q1 ?r1;case q1=>
   exact zb9 (i:=4) ze2.nd rfl (Or.inl rfl) (gL_ (zi1 za3 (zi1 za3 (zi1 za3 (zi1 za3 (zi1 za3 (zi1 za3 za1)))))))
  case r1=>
  refine' za2 ?q2 ?r2;case q2=>
   exact xj7 (i:=5) (j:=6) rfl ze2.nd rfl rfl (by decide) rfl rfl (zg0 (zj6 (xx1 (za0 (pv 1)) (wf1 (gY_ rfl (za0 (pv 4)) (zc1 A6 hr rfl (pv 0) (zi1 za3 za1)) (fun _ _=>rfl)) za1)) (zn5 rfl) (zr1 _) rfl hm.min boot_min) (zg0 (zj6 (xx1 (za0 (pv 2)) (wf1 (gY_ rfl (za0 (pv 4)) (zc1 A6 hr rfl (pv 0) (zi1 za3 za1)) (fun _ _=>rfl)) za1)) (zn5 rfl) (zr1 _) rfl hm.min boot_min) ye3)) rfl
  case r2=>
  refine' za2 ?q3 ?r3;case q3=>
   exact zb9 (i:=7) ze2.nd rfl (Or.inl rfl) (gY_ rfl (gL_ (zi1 zd4 (zi1 zd4 (zi1 zd4 (zi1 zd4 (zi1 zd4 (zi1 zd4 za1))))))) (zc1 A6 hr rfl (pv 0) (zi1 za3 za1)) (fun _ _=>rfl))
  case r3=>
  refine' za2 ?q4 ?r4;case q4=>
   refine' zh1 ?t5 ?a5 ?b5;case t5=>exact(gB_ (zm1 (g:=.R) (za0 (pv 3))))
   case a5=>
    refine' za2 ?q6 ?r6;case q6=>
     exact zb9 (i:=7) ze2.nd rfl (Or.inl rfl) (gY_ rfl (gL_ (zi1 zd4 (zi1 zd4 (zi1 zd4 (zi1 zd4 (zi1 zd4 (zi1 zd4 za1))))))) (zc1 A6 hr rfl (pv 0) (zi1 za3 za1)) (fun _ _=>rfl))
    case r6=>
    refine' za2 ?q7 ?r7;case q7=>
     refine' zh1 ?t8 ?a8 ?b8;case t8=>exact(gT_ (zd6 (ga:=.R) (gb:=.R) (zi0 hr) (zf2 rfl) (za0 (pv 7)) zd4 rfl))
     case a8=>
      refine' za6 ?q9;case q9=>
       exact xj7 (i:=5) (j:=6) rfl ze2.nd rfl rfl (by decide) rfl rfl (zg0 (zw8 (ga:=.R) (gb:=.R) yf9 yr9 (za0 (pv 1)) (zc1 A6 hr rfl (pv 0) (zi1 za3 za1))) (zg0 za3 ye3)) rfl
     case b8=>
      exact zc5
    case r7=>
    refine' za6 ?q10;case q10=>
     refine' zh1 ?t11 ?a11 ?b11;case t11=>exact(gT_ (zd6 (ga:=.R) (gb:=.R) (zi0 hr) (zf2 rfl) (za0 (pv 7)) zd4 rfl))
     case a11=>
      refine' za6 ?q12;case q12=>
       exact xj7 (i:=5) (j:=6) rfl ze2.nd rfl rfl (by decide) rfl rfl (zg0 za3 (zg0 (zw8 (ga:=.R) (gb:=.R) yf9 yr9 (za0 (pv 2)) (zc1 A6 hr rfl (pv 0) (zi1 za3 za1))) ye3)) rfl
     case b11=>
      exact zc5
   case b5=>
    exact zc5
  case r4=>
  refine' za2 ?q13 ?r13;case q13=>
   exact zb9 (i:=8) ze2.nd rfl (Or.inl rfl) (zc1 A6 hr rfl (pv 0) (zi1 za3 za1))
  case r13=>
  refine' za2 ?q14 ?r14;case q14=>
   refine' zh1 ?t15 ?a15 ?b15;case t15=>exact(gT_ (zd6 (ga:=.R) (gb:=.R) (zi0 hr) (zf2 rfl) (za0 (pv 8)) za3 rfl))
   case a15=>
    refine' za6 ?q16;case q16=>
     exact xe1 (i:=5) (j:=6) (k:=7) rfl ze2.nd rfl rfl rfl (by decide) (by decide) (by decide) rfl rfl rfl (zg0 za3 (zg0 (zw8 (ga:=.R) (gb:=.R) yf9 yr9 (za0 (pv 2)) (zc1 A6 hr rfl (pv 0) (xd8 (gA_ (zj6 (zc7 (za0 (pv 2)) (zi1 za3 za1)) (zn5 rfl) (zr1 _) rfl hm.min boot_min)) za1))) (zg0 zd4 ye3))) rfl
   case b15=>
    exact zc5
  case r14=>
  refine' za2 ?q17 ?r17;case q17=>
   refine' zh1 ?t18 ?a18 ?b18;case t18=>exact(gT_ (zd6 (ga:=.R) (gb:=.R) (zi0 hr) (zf2 rfl) (za0 (pv 8)) za3 rfl))
   case a18=>
    refine' za6 ?q19;case q19=>
     exact xe1 (i:=5) (j:=6) (k:=7) rfl ze2.nd rfl rfl rfl (by decide) (by decide) (by decide) rfl rfl rfl (zg0 (zw8 (ga:=.R) (gb:=.R) yf9 yr9 (za0 (pv 1)) (zc1 A6 hr rfl (pv 0) (xd8 (gA_ (zj6 (zc7 (za0 (pv 1)) (zi1 za3 za1)) (zn5 rfl) (zr1 _) rfl hm.min boot_min)) za1))) (zg0 za3 (zg0 zd4 ye3))) rfl
   case b18=>
    exact zc5
  case r17=>
  refine' za2 ?q20 ?r20;case q20=>
   refine' zh1 ?t21 ?a21 ?b21;case t21=>exact(gT_ (zd6 (ga:=.R) (gb:=.R) (zi0 hr) (zf2 rfl) (za0 (pv 8)) za3 rfl))
   case a21=>
    refine' za6 ?q22;case q22=>
     exact xe1 (i:=5) (j:=6) (k:=7) rfl ze2.nd rfl rfl rfl (by decide) (by decide) (by decide) rfl rfl rfl (zg0 (gA_ (zj6 (zc7 (za0 (pv 1)) (zi1 za3 za1)) (zn5 rfl) (zr1 _) rfl hm.min boot_min)) (zg0 (gA_ (zj6 (zc7 (za0 (pv 2)) (zi1 za3 za1)) (zn5 rfl) (zr1 _) rfl hm.min boot_min)) (zg0 zd4 ye3))) rfl
   case b21=>
    exact zc5
  case r20=>
  refine' za6 ?q23;case q23=>
   refine' zd3 ?x1;case x1=>
    refine' zz4 ?x2;case x2=>
     refine' xx1 ?x3 ?x4;case x3=>exact za0 (pv 5)
     case x4=>
      refine' xx1 ?x5 ?x6;case x5=>exact za0 (pv 6)
      case x6=>exact xx1 (za0 (pv 7)) (wf1 (gY_ rfl (yp8 (xz8 za3 (xz8 za3 (xz8 za3 (xz8 za3 (xz8 za3 (vj8 (xj9 (ga:=.R) za3) za1))))))) (zc1 A6 hr rfl (pv 0) (zi1 za3 za1)) (fun _ _=>rfl)) za1)
noncomputable abbrev zh5:Stmt:=top 29
noncomputable abbrev zp6:List Str:=["_law_state","_law_broad","_law_much","_law_wide","_law_high","_law_cells","_law_shuts","_law_taken","_law_kinds","_law_places","_law_rooms","_law_turn","_law_kind_here","_law_place","_law_own","_law_room","_law_cell"]
theorem zc3:zc9 zp6 ["_law_state","_law_broad","_law_much"] (za4 zh5):=by and_intros
noncomputable def ya6 (G0) (B5) (A8) (G8) (F6):{ B:FnS Dr // ∀P w K mg base (p l:Addr) (hm:Bn mg) (cs:Cst K mg) k (E2:zc8 P w K mg base k "_law_sized" ["_law_state","_law_broad"] (spS (WdS p l) K G0)) (A7:zc8 P w K mg base k "_law_covered" ["_law_kind_here","_law_place"] (sp0 K B5)) (A6:zc8 P w K mg base k "_law_take" ["_law_state","_law_many"] (spS (WdS p l) K A8)) (E6:zc8 P w K mg base k "_law_kind" ["_law_state","_law_wide","_law_high","_law_broad"] (spS (WdS p l) K G8)) (D5:zc8 P w K mg base k "_law_room_of" ["_law_wide","_law_high","_law_kind_here"] (sp0 K F6)) f cdv A outer s H E,zm7 k (A.deeper (envOfC "_law_hall" (za4 zh5) s.heap.objs.size f cdv))->
 DSs (zw9 CX0 P w K mg base zp6 "_law_hall" (za4 zh5) f cdv A outer s H E).nox (cxS (WdS p l) K H) (zc4 zh5) B }:=by
 refine⟨?B,fun P w K mg base p l hm cs k E2 A7 A6 E6 D5 f cdv A outer s H E hr=>?h⟩;case h=>
  refine' za2 ?q1 ?r1;case q1=>
   exact yg3 (zc1 E2 hr rfl (pv 0) (zc7 (za0 (pv 1)) za1)) (zp9 (n:=2) rfl rfl (zb8 (zb1 (i:=3) zc3.nd rfl (Or.inl rfl)) (zb8 (zb1 (i:=4) zc3.nd rfl (Or.inl rfl)) zj5)))
  case r1=>
  refine' za2 ?q2 ?r2;case q2=>
   exact zb9 (i:=5) zc3.nd rfl (Or.inl rfl) (zc2 A7 hr rfl (xz9 (gU_ (zc7 (za0 (pv 3)) (zc7 (za0 (pv 4)) (zi1 zd4 (zi1 za3 za1))))) (xz9 (gU_ (zi1 za3 (zi1 za3 za1))) za1)))
  case r2=>
  refine' za2 ?q3 ?r3;case q3=>
   exact xx7 (i:=6) (N':=["_law_cell","_law_state","_law_broad"]) (ixs:=[none,some 0,some 1]) [5] (zm3.scope (N:=zp6) (osc:=za4 zh5) (by decide +kernel)) rfl zc3.nd rfl rfl (zm2 rfl (zf1 (pv 5))) (fun av cl C s H fp=>⟨(zb1 (i:=0) (show (["_law_cell","_law_state","_law_broad"]:List Str).Nodup by decide +kernel) rfl (Or.inl rfl)),(xe0 (zd6 (ga:=.R) (gb:=.R) (zi0 hr) (zf2 rfl) (zc1 A6 hr rfl (pv 1) (yg4 (gX_ rfl (gL_ (zi1 za3 (zi1 za3 za1))) (gA_ (ya1 (zc7 (za0 (pv 2)) za1) xa2 wj9 rfl hm.int boot_int)) (fun _ _=>rfl)) za1)) za3 rfl)),(za0 (pv 0))⟩) rfl
  case r3=>
  refine' za2 ?q4 ?r4;case q4=>
   exact zb9 (i:=7) zc3.nd rfl (Or.inr rfl) (ya1 (wj1 (zm4 (N':=["_law_cell"]) (ixs:=[none]) [6] (zm3.scope (N:=zp6) (osc:=za4 zh5) (by decide +kernel)) rfl (zm2 rfl (zf1 (pv 6))) (fun av cl C s H fp=>⟨(zb1 (i:=0) (show (["_law_cell"]:List Str).Nodup by decide +kernel) rfl (Or.inl rfl)),zo0,(gU_ (zc7 (za0 (pv 0)) (zi1 ye2 za1)))⟩)) za1) (yl9 rfl (vb3 hr)) ws8 rfl hm.dict boot_dict)
  case r4=>
  refine' za2 ?q5 ?r5;case q5=>
   exact zb9 (i:=8) zc3.nd rfl (Or.inl rfl) (gL_ za1)
  case r5=>
  refine' za2 ?q6 ?r6;case q6=>
   exact zb9 (i:=9) zc3.nd rfl (Or.inl rfl) (gL_ za1)
  case r6=>
  refine' za2 ?q7 ?r7;case q7=>
   exact zb9 (i:=10) zc3.nd rfl (Or.inl rfl) za3
  case r7=>
  refine' za2 ?q8 ?r8;case q8=>
   refine' zk4 [] PassesOwn.never rfl ?i9 ?g9 ?b9;case i9=>exact(zf8 rfl hm.range (wf1 (gY_ rfl (yp8 (xp6 (gp_ rfl za3 (zc1 A6 hr rfl (pv 0) (zi1 za3 za1))) (zi1 za3 za1))) (gA_ (ya1 (zc7 (za0 (pv 1)) za1) xa2 wj9 rfl hm.int boot_int)) (fun _ _=>rfl)) za1))
   case g9=>exact(zb1 (i:=11) zc3.nd rfl (Or.inl rfl))
   case b9=>
    refine' za2 ?q10 ?r10;case q10=>
     exact zb9 (i:=12) zc3.nd rfl (Or.inl rfl) (zc1 E6 hr rfl (pv 0) (zc7 (za0 (pv 3)) (zc7 (za0 (pv 4)) (zc7 (za0 (pv 1)) za1))))
    case r10=>
    refine' za2 ?q11 ?r11;case q11=>
     exact zb9 (i:=13) zc3.nd rfl (Or.inl rfl) (zz4 (xx2 (zc1 A6 hr rfl (pv 0) (xx3 (gP_ rfl (g2_ (zw8 (ga:=.R) (gb:=.R) yf9 yr9 (za0 (pv 3)) (gX_ rfl (za0 (pv 12)) za3 (fun _ _=>rfl)))) za3) za1)) (xx2 (zc1 A6 hr rfl (pv 0) (xx3 (gP_ rfl (g2_ (zw8 (ga:=.R) (gb:=.R) yf9 yr9 (za0 (pv 4)) (gX_ rfl (za0 (pv 12)) za3 (fun _ _=>rfl)))) za3) za1)) za1)))
    case r11=>
    refine' za2 ?q12 ?r12;case q12=>
     exact zb9 (i:=14) zc3.nd rfl (Or.inl rfl) (zc2 A7 hr rfl (zc7 (za0 (pv 12)) (zc7 (za0 (pv 13)) za1)))
    case r12=>
    refine' za2 ?q13 ?r13;case q13=>
     exact zb9 (i:=15) zc3.nd rfl (Or.inl rfl) (zc2 D5 hr rfl (zc7 (za0 (pv 3)) (zc7 (za0 (pv 4)) (zc7 (za0 (pv 12)) za1))))
    case r13=>
    refine' za6 ?q14;case q14=>
     refine' zh1 ?t15 ?a15 ?b15;case t15=>exact(DW.dt (yl5 (gT_ (zd6 (ga:=.R) (gb:=.R) yw6 yc6 (gA_ (zj6 (zc7 (za0 (pv 8)) za1) zc6 (zr0 rfl) rfl hm.len PySem.boot_len)) za3 rfl)) (yl5 (gT_ (zd6 (ga:=.R) (gb:=.R) xt8 yc6 (g2_ (zw8 (ga:=.R) (gb:=.R) xc9 xd0 (za0 (pv 10)) (za0 (pv 15)))) (za0 (pv 2)) rfl)) (yf4 (ye1 (zm1 (g:=.R) (zj6 (wj1 (zm4 (N':=["_law_cell","_law_taken"]) (ixs:=[none,some 7]) [14] (zm3.scope (N:=zp6) (osc:=za4 zh5) (by decide +kernel)) rfl (zm2 rfl (zf1 (pv 14))) (fun av cl C s H fp=>⟨(zb1 (i:=0) (show (["_law_cell","_law_taken"]:List Str).Nodup by decide +kernel) rfl (Or.inl rfl)),zo0,(g2_ (vd4 (ga:=.R) (gb:=.R) (yy8 hr) (za0 (pv 0)) (za0 (pv 1))))⟩)) za1) (yt6 rfl) (zx9 _) rfl hm.any boot_any)))))))
     case a15=>
      refine' za2 ?q16 ?r16;case q16=>
       exact zb9 (i:=10) zc3.nd rfl (Or.inl rfl) (g2_ (zw8 (ga:=.R) (gb:=.R) xc9 xd0 (za0 (pv 10)) (za0 (pv 15))))
      case r16=>
      refine' za2 ?q17 ?r17;case q17=>
       exact yf5 (i:=8) zi8 zl2 PySem.F.slot_list_append PySem.F.type_list_append (pv 8) (za0 (pv 12)) rfl
      case r17=>
      refine' za2 ?q18 ?r18;case q18=>
       exact yf5 (i:=9) zi8 zl2 PySem.F.slot_list_append PySem.F.type_list_append (pv 9) (za0 (pv 13)) rfl
      case r18=>
      refine' za6 ?q19;case q19=>
       refine' zk4 [14] PassesOwn.never rfl ?i20 ?g20 ?b20;case i20=>exact(zm2 rfl (zf1 (pv 14)))
       case g20=>exact(zb1 (i:=16) zc3.nd rfl (Or.inl rfl))
       case b20=>
        refine' za6 ?q21;case q21=>
         exact xe2 (yy8 hr) (pv 7) (ga:=.R) (gb:=.R) (za0 (pv 16)) ye2
     case b15=>
      exact zc5
  case r8=>
  refine' za6 ?q22;case q22=>
   exact zd3 (gU_ (xz9 (gU_ (zc7 (za0 (pv 3)) (zc7 (za0 (pv 4)) (xd8 (gA_ (ya1 (zc7 (za0 (pv 6)) za1) ze8 (zo3 rfl) rfl hm.tuple boot_tuple)) (xd8 (gA_ (ya1 (zc7 (za0 (pv 8)) za1) ze8 (zo3 rfl) rfl hm.tuple boot_tuple)) za1))))) (xd8 (gA_ (ya1 (zc7 (za0 (pv 9)) za1) ze8 (zo3 rfl) rfl hm.tuple boot_tuple)) za1)))
noncomputable abbrev zk9:Stmt:=top 30
noncomputable abbrev yd5:List Str:=["_law_place","_law_direction"]
theorem ym6:zc9 yd5 ["_law_place","_law_direction"] (za4 zk9):=by and_intros
noncomputable def zu4:{ B:FnS Unit // ∀P w K mg base (hm:Bn mg) (cs:Cst K mg) k f cdv A outer s H E,zm7 k (A.deeper (envOfC "_law_behind" (za4 zk9) s.heap.objs.size f cdv))->
 DSs (zw9 CX0 P w K mg base yd5 "_law_behind" (za4 zk9) f cdv A outer s H E).nox (cx0 K H) (zc4 zk9) B }:=by
 refine⟨?B,fun P w K mg base hm cs k f cdv A outer s H E hr=>?h⟩;case h=>
  refine' za6 ?q1;case q1=>
   refine' zd3 ?x7;case x7=>
    refine' zz4 ?x8;case x8=>
     refine' xp6 ?x9 ?x10;case x9=>exact gp_ rfl (gX_ rfl (za0 (pv 0)) za3 (fun _ _=>rfl)) (gY_ rfl (yp8 (xz8 za3 (xz8 za3 (vj8 (xj9 (ga:=.R) za3) (zi1 za3 za1))))) (za0 (pv 1)) (fun _ _=>rfl))
     case x10=>exact xp6 (gp_ rfl (gX_ rfl (za0 (pv 0)) za3 (fun _ _=>rfl)) (gY_ rfl (yp8 (xz8 za3 (xz8 za3 (xz8 za3 (vj8 (xj9 (ga:=.R) za3) za1))))) (za0 (pv 1)) (fun _ _=>rfl))) za1
noncomputable abbrev zp3:Stmt:=top 31
noncomputable abbrev yj7:List Str:=["_law_kind_here","_law_direction"]
theorem yv3:zc9 yj7 ["_law_kind_here","_law_direction"] (za4 zp3):=by and_intros
noncomputable def ya7:{ B:FnS Unit // ∀P w K mg base (hm:Bn mg) (cs:Cst K mg) k f cdv A outer s H E,zm7 k (A.deeper (envOfC "_law_goes" (za4 zp3) s.heap.objs.size f cdv))->
 DSs (zw9 CX0 P w K mg base yj7 "_law_goes" (za4 zp3) f cdv A outer s H E).nox (cx0 K H) (zc4 zp3) B }:=by
 refine⟨?B,fun P w K mg base hm cs k f cdv A outer s H E hr=>?h⟩;case h=>
  refine' za6 ?q1;case q1=>
   exact zd3 (vk4 (ga:=.R) (g2_ (zu8 (ga:=.R) (gb:=.R) (zi0 hr) (zf2 rfl) (gX_ rfl (za0 (pv 0)) za3 (fun _ _=>rfl)) zd4 rfl)) (yp7 (g2_ (zu8 (ga:=.R) (gb:=.R) (zi0 hr) (zf2 rfl) (gX_ rfl (za0 (pv 0)) za3 (fun _ _=>rfl)) (gX_ rfl (gL_ (zi1 zd4 (zi1 zd4 za1))) (g2_ (zw8 (ga:=.R) (gb:=.R) yc5 wz6 (za0 (pv 1)) za3)) (fun _ _=>rfl)) rfl))))
noncomputable abbrev zh4:Stmt:=top 32
noncomputable abbrev zp5:List Str:=["_law_hall_here","_law_stand","_law_n","_law_direction","_law_wide","_law_high","_law_shuts","_law_kinds","_law_going","_law_at","_law_one","_law_ahead","_law_other","_law_own"]
theorem zd5:zc9 zp5 ["_law_hall_here","_law_stand","_law_n","_law_direction"] (za4 zh4):=by and_intros
noncomputable def ya3 (B5) (C8) (G9):{ B:FnS Unit // ∀P w K mg base (hm:Bn mg) (cs:Cst K mg) k (A7:zc8 P w K mg base k "_law_covered" ["_law_kind_here","_law_place"] (sp0 K B5)) (B9:zc8 P w K mg base k "_law_behind" ["_law_place","_law_direction"] (sp0 K C8)) (E7:zc8 P w K mg base k "_law_goes" ["_law_kind_here","_law_direction"] (sp0 K G9)) f cdv A outer s H E,zm7 k (A.deeper (envOfC "_law_step" (za4 zh4) s.heap.objs.size f cdv))->
 DSs (zw9 CX0 P w K mg base zp5 "_law_step" (za4 zh4) f cdv A outer s H E).nox (cx0 K H) (zc4 zh4) B }:=by
 refine⟨?B,fun P w K mg base hm cs k A7 B9 E7 f cdv A outer s H E hr=>?h⟩;case h=>
  refine' za2 ?q1 ?r1;case q1=>
   exact yg3 (zf1 (pv 0)) (zp9 (n:=4) rfl rfl (zb8 (zb1 (i:=4) zd5.nd rfl (Or.inr rfl)) (zb8 (zb1 (i:=5) zd5.nd rfl (Or.inr rfl)) (zb8 (zb1 (i:=6) zd5.nd rfl (Or.inr rfl)) (zb8 (zb1 (i:=7) zd5.nd rfl (Or.inl rfl)) zj5)))))
  case r1=>
  refine' za2 ?q2 ?r2;case q2=>
   refine' zh1 ?t3 ?a3 ?b3;case t3=>exact(gT_ (zd6 (ga:=.R) (gb:=.R) yw6 yc6 (gX_ rfl (gX_ rfl (za0 (pv 7)) (za0 (pv 2)) (fun _ _=>rfl)) za3 (fun _ _=>rfl)) za3 rfl))
   case a3=>
    refine' za6 ?q4;case q4=>
     exact zd3 zl4
   case b3=>
    exact zc5
  case r2=>
  refine' za2 ?q5 ?r5;case q5=>
   exact zb9 (i:=8) zd5.nd rfl (Or.inl rfl) (gL_ (zc7 (za0 (pv 2)) za1))
  case r5=>
  refine' za2 ?q6 ?r6;case q6=>
   exact zb9 (i:=9) zd5.nd rfl (Or.inl rfl) za3
  case r6=>
  refine' za2 ?q7 ?r7;case q7=>
   refine' yh2 PassesOwn.never ?t8 ?b8;case t8=>exact(gT_ (zd6 (ga:=.R) (gb:=.R) yw6 yc6 (za0 (pv 9)) (gA_ (zj6 (zc7 (za0 (pv 8)) za1) zc6 (zr0 rfl) rfl hm.len PySem.boot_len)) rfl))
   case b8=>
    refine' za2 ?q9 ?r9;case q9=>
     exact zb9 (i:=10) zd5.nd rfl (Or.inl rfl) (gX_ rfl (za0 (pv 8)) (za0 (pv 9)) (fun _ _=>rfl))
    case r9=>
    refine' za2 ?q10 ?r10;case q10=>
     exact zb9 (i:=11) zd5.nd rfl (Or.inr rfl) (zc2 A7 hr rfl (wf1 (gX_ rfl (za0 (pv 7)) (za0 (pv 10)) (fun _ _=>rfl)) (xx2 (zc2 B9 hr rfl (yg4 (gX_ rfl (za0 (pv 1)) (za0 (pv 10)) (fun _ _=>rfl)) (zc7 (za0 (pv 3)) za1))) za1)))
    case r10=>
    refine' za2 ?q11 ?r11;case q11=>
     refine' zh1 ?t12 ?a12 ?b12;case t12=>exact(DW.dt (xo7 (ye1 (zm1 (g:=.R) (zc2 E7 hr rfl (yg4 (gX_ rfl (za0 (pv 7)) (za0 (pv 10)) (fun _ _=>rfl)) (zc7 (za0 (pv 3)) za1))))) (yp5 (zm1 (g:=.R) (zj6 (wj1 (zm4 (N':=["_law_cell","_law_shuts"]) (ixs:=[none,some 6]) [11] (zm3.scope (N:=zp5) (osc:=za4 zh4) (by decide +kernel)) rfl (zm2 rfl (zf1 (pv 11))) (fun av cl C s H fp=>⟨(zb1 (i:=0) (show (["_law_cell","_law_shuts"]:List Str).Nodup by decide +kernel) rfl (Or.inl rfl)),zo0,(g2_ (zu8 (ga:=.R) (gb:=.R) (xt9 hr) (yg0 rfl) (za0 (pv 0)) (za0 (pv 1)) rfl))⟩)) za1) (yt6 rfl) (zx9 _) rfl hm.any boot_any)))))
     case a12=>
      refine' za6 ?q13;case q13=>
       exact zd3 zl4
     case b12=>
      exact zc5
    case r11=>
    refine' za2 ?q14 ?r14;case q14=>
     refine' zh1 ?t15 ?a15 ?b15;case t15=>exact(ye1 (zm1 (g:=.R) (zj6 (wj1 (zm4 (N':=["_law_x","_law_y","_law_wide","_law_high"]) (ixs:=[none,none,some 4,some 5]) [11] (zm3.scope (N:=zp5) (osc:=za4 zh4) (by decide +kernel)) rfl (zm2 rfl (zf1 (pv 11))) (fun av cl C s H fp=>⟨(zp9 (n:=2) rfl rfl (zb8 (zb1 (i:=0) (show (["_law_x","_law_y","_law_wide","_law_high"]:List Str).Nodup by decide +kernel) rfl (Or.inl rfl)) (zb8 (zb1 (i:=1) (show (["_law_x","_law_y","_law_wide","_law_high"]:List Str).Nodup by decide +kernel) rfl (Or.inl rfl)) zj5))),zo0,(yp9 (ga:=.R) (yh5 (ga:=.R) (gb:=.R) (gc:=.R) xt8 yw6 yc6 yc6 za3 (za0 (pv 0)) (za0 (pv 2))) (yp7 (yh5 (ga:=.R) (gb:=.R) (gc:=.R) xt8 yw6 yc6 yc6 za3 (za0 (pv 1)) (za0 (pv 3)))))⟩)) za1) (yt7 rfl) (zx9 _) rfl hm.all boot_all)))
     case a15=>
      refine' za6 ?q16;case q16=>
       exact zd3 zl4
     case b15=>
      exact zc5
    case r14=>
    refine' za2 ?q17 ?r17;case q17=>
     refine' zk4 [] PassesOwn.never rfl ?i18 ?g18 ?b18;case i18=>exact(zf8 rfl hm.range (xd8 (gA_ (zj6 (zc7 (za0 (pv 7)) za1) zc6 (zr0 rfl) rfl hm.len PySem.boot_len)) za1))
     case g18=>exact(zb1 (i:=12) zd5.nd rfl (Or.inl rfl))
     case b18=>
      refine' za2 ?q19 ?r19;case q19=>
       exact zb9 (i:=13) zd5.nd rfl (Or.inl rfl) (zc2 A7 hr rfl (yg4 (gX_ rfl (za0 (pv 7)) (za0 (pv 12)) (fun _ _=>rfl)) (yg4 (gX_ rfl (za0 (pv 1)) (za0 (pv 12)) (fun _ _=>rfl)) za1)))
      case r19=>
      refine' za6 ?q20;case q20=>
       refine' zh1 ?t21 ?a21 ?b21;case t21=>exact(DW.dt (yl5 (gT_ (zd6 (ga:=.R) (gb:=.R) (zv9 hr) (yg0 rfl) (za0 (pv 12)) (za0 (pv 8)) rfl)) (yf4 (zm1 (g:=.R) (zj6 (wj1 (zm4 (N':=["_law_cell","_law_ahead"]) (ixs:=[none,some 11]) [13] (zm3.scope (N:=zp5) (osc:=za4 zh4) (by decide +kernel)) rfl (zm2 rfl (zf1 (pv 13))) (fun av cl C s H fp=>⟨(zb1 (i:=0) (show (["_law_cell","_law_ahead"]:List Str).Nodup by decide +kernel) rfl (Or.inl rfl)),zo0,(g2_ (zu8 (ga:=.R) (gb:=.R) (xt9 hr) (yg0 rfl) (za0 (pv 0)) (za0 (pv 1)) rfl))⟩)) za1) (yt6 rfl) (zx9 _) rfl hm.any boot_any)))))
       case a21=>
        refine' za6 ?q22;case q22=>
         exact yf5 (i:=8) zi8 zl2 PySem.F.slot_list_append PySem.F.type_list_append (pv 8) (za0 (pv 12)) rfl
       case b21=>
        exact zc5
    case r17=>
    refine' za6 ?q23;case q23=>
     exact zb9 (i:=9) zd5.nd rfl (Or.inl rfl) (gP_ rfl (za0 (pv 9)) za3)
  case r7=>
  refine' za2 ?q24 ?r24;case q24=>
   refine' zh1 ?t25 ?a25 ?b25;case t25=>exact(DW.dt (yl5 (gT_ (zd6 (ga:=.R) (gb:=.R) vi6 yc6 (gA_ (zj6 (zc7 (za0 (pv 8)) za1) zc6 (zr0 rfl) rfl hm.len PySem.boot_len)) za3 rfl)) (yf4 (gT_ (zd6 (ga:=.R) (gb:=.R) (zi0 hr) (zf2 rfl) (gX_ rfl (gX_ rfl (za0 (pv 7)) (za0 (pv 2)) (fun _ _=>rfl)) za3 (fun _ _=>rfl)) za3 rfl)))))
   case a25=>
    refine' za6 ?q26;case q26=>
     exact zd3 zl4
   case b25=>
    exact zc5
  case r24=>
  refine' za6 ?q27;case q27=>
   exact zd3 (gA_ (zj6 (zc7 (za0 (pv 8)) za1) yl8 (xa0 rfl) rfl hm.sorted boot_sorted))
noncomputable abbrev zk8:Stmt:=top 33
noncomputable abbrev yd4:List Str:=["_law_hall_here","_law_stand","_law_push","_law_n","_law_direction","_law_many","_law_turn","_law_going","_law_places","_law_k"]
theorem ze1:zc9 yd4 ["_law_hall_here","_law_stand","_law_push"] (za4 zk8):=by and_intros
noncomputable def zu3 (D6) (C8):{ B:FnS Unit // ∀P w K mg base (hm:Bn mg) (cs:Cst K mg) k (C2:zc8 P w K mg base k "_law_step" ["_law_hall_here","_law_stand","_law_n","_law_direction"] (sp0 K D6)) (B9:zc8 P w K mg base k "_law_behind" ["_law_place","_law_direction"] (sp0 K C8)) f cdv A outer s H E,zm7 k (A.deeper (envOfC "_law_pushed" (za4 zk8) s.heap.objs.size f cdv))->
 DSs (zw9 CX0 P w K mg base yd4 "_law_pushed" (za4 zk8) f cdv A outer s H E).nox (cx0 K H) (zc4 zk8) B }:=by
 refine⟨?B,fun P w K mg base hm cs k C2 B9 f cdv A outer s H E hr=>?h⟩;case h=>
  refine' za2 ?q1 ?r1;case q1=>
   exact yg3 (zf1 (pv 2)) (zp9 (n:=3) rfl rfl (zb8 (zb1 (i:=3) ze1.nd rfl (Or.inl rfl)) (zb8 (zb1 (i:=4) ze1.nd rfl (Or.inl rfl)) (zb8 (zb1 (i:=5) ze1.nd rfl (Or.inl rfl)) zj5))))
  case r1=>
  refine' za2 ?q2 ?r2;case q2=>
   refine' zk4 [] PassesOwn.never rfl ?i3 ?g3 ?b3;case i3=>exact(zf8 rfl hm.range (zc7 (za0 (pv 5)) za1))
   case g3=>exact(zb1 (i:=6) ze1.nd rfl (Or.inl rfl))
   case b3=>
    refine' za2 ?q4 ?r4;case q4=>
     exact zb9 (i:=7) ze1.nd rfl (Or.inl rfl) (zc2 C2 hr rfl (zc7 (za0 (pv 0)) (zc7 (za0 (pv 1)) (zc7 (za0 (pv 3)) (zc7 (za0 (pv 4)) za1)))))
    case r4=>
    refine' za2 ?q5 ?r5;case q5=>
     refine' zh1 ?t6 ?a6 ?b6;case t6=>exact(gT_ (zd6 (ga:=.R) (gb:=.R) yw7 yx1 (za0 (pv 7)) zl4 rfl))
     case a6=>
      refine' za6 ?q7;case q7=>
       exact zp8 (pv 6)
     case b6=>
      exact zc5
    case r5=>
    refine' za2 ?q8 ?r8;case q8=>
     exact zb9 (i:=8) ze1.nd rfl (Or.inl rfl) (gA_ (ya1 (zc7 (za0 (pv 1)) za1) zr2 (xe5 rfl) rfl hm.list boot_list))
    case r8=>
    refine' za2 ?q9 ?r9;case q9=>
     refine' zk4 [7] PassesOwn.never rfl ?i10 ?g10 ?b10;case i10=>exact(zm2 rfl (zf1 (pv 7)))
     case g10=>exact(zb1 (i:=9) ze1.nd rfl (Or.inl rfl))
     case b10=>
      refine' za6 ?q11;case q11=>
       exact yp6 (pv 8) (ga:=.R) (gb:=.R) (za0 (pv 9)) (zc2 B9 hr rfl (yg4 (gX_ rfl (za0 (pv 8)) (za0 (pv 9)) (fun _ _=>rfl)) (zc7 (za0 (pv 4)) za1))) (fun hk hv=>yv9 hv (xt2 (pv 8) hk yr5))
    case r9=>
    refine' za6 ?q12;case q12=>
     exact zb9 (i:=1) ze1.nd rfl (Or.inl rfl) (gA_ (ya1 (zc7 (za0 (pv 8)) za1) ze8 (zo3 rfl) rfl hm.tuple boot_tuple))
  case r2=>
  refine' za6 ?q13;case q13=>
   exact zp8 (pv 1)
noncomputable abbrev zk7:Stmt:=top 34
noncomputable abbrev yd3:List Str:=["_law_hall_here","_law_stand","_law_found","_law_n","_law_direction","_law_many","_law_behind_here"]
theorem ze9:zc9 yd3 ["_law_hall_here","_law_stand"] (za4 zk7):=by and_intros
noncomputable def zo4 (F7):{ B:FnS Unit // ∀P w K mg base (hm:Bn mg) (cs:Cst K mg) k (C9:zc8 P w K mg base k "_law_pushed" ["_law_hall_here","_law_stand","_law_push"] (sp0 K F7)) f cdv A outer s H E,zm7 k (A.deeper (envOfC "_law_pushes" (za4 zk7) s.heap.objs.size f cdv))->
 DSs (zw9 CX0 P w K mg base yd3 "_law_pushes" (za4 zk7) f cdv A outer s H E).nox (cx0 K H) (zc4 zk7) B }:=by
 refine⟨?B,fun P w K mg base hm cs k C9 f cdv A outer s H E hr=>?h⟩;case h=>
  refine' za2 ?q1 ?r1;case q1=>
   exact zb9 (i:=2) ze9.nd rfl (Or.inl rfl) (gL_ za1)
  case r1=>
  refine' za2 ?q2 ?r2;case q2=>
   refine' zk4 [] PassesOwn.never rfl ?i3 ?g3 ?b3;case i3=>exact(zf8 rfl hm.range (xd8 (gA_ (zj6 (zc7 (za0 (pv 1)) za1) zc6 (zr0 rfl) rfl hm.len PySem.boot_len)) za1))
   case g3=>exact(zb1 (i:=3) ze9.nd rfl (Or.inl rfl))
   case b3=>
    refine' za6 ?q4;case q4=>
     refine' zk4 [] PassesOwn.never rfl ?i5 ?g5 ?b5;case i5=>exact(zf8 rfl hm.range (zi1 za3 za1))
     case g5=>exact(zb1 (i:=4) ze9.nd rfl (Or.inl rfl))
     case b5=>
      refine' za2 ?q6 ?r6;case q6=>
       exact zb9 (i:=5) ze9.nd rfl (Or.inl rfl) za3
      case r6=>
      refine' za2 ?q7 ?r7;case q7=>
       exact zb9 (i:=6) ze9.nd rfl (Or.inl rfl) (zc2 C9 hr rfl (zc7 (za0 (pv 0)) (zc7 (za0 (pv 1)) (xz9 (gU_ (zc7 (za0 (pv 3)) (zc7 (za0 (pv 4)) (zi1 za3 za1)))) za1))))
      case r7=>
      refine' za6 ?q8;case q8=>
       refine' yh2 PassesOwn.never ?t9 ?b9;case t9=>exact(gB_ (zm1 (g:=.R) (gI_ (zf9 .tuple rfl rfl hm.isinstance rfl hm.tuple boot_tuple (ga:=.R) (za0 (pv 6))))))
       case b9=>
        refine' za2 ?q10 ?r10;case q10=>
         exact yf5 (i:=2) zi8 zl2 PySem.F.slot_list_append PySem.F.type_list_append (pv 2) (gU_ (xz9 (gU_ (zc7 (za0 (pv 3)) (zc7 (za0 (pv 4)) (zc7 (za0 (pv 5)) za1)))) (zc7 (za0 (pv 6)) za1))) rfl
        case r10=>
        refine' za2 ?q11 ?r11;case q11=>
         exact zb9 (i:=5) ze9.nd rfl (Or.inl rfl) (gP_ rfl (za0 (pv 5)) za3)
        case r11=>
        refine' za6 ?q12;case q12=>
         exact zb9 (i:=6) ze9.nd rfl (Or.inl rfl) (zc2 C9 hr rfl (zc7 (za0 (pv 0)) (zc7 (za0 (pv 6)) (xz9 (gU_ (zc7 (za0 (pv 3)) (zc7 (za0 (pv 4)) (zi1 za3 za1)))) za1))))
  case r2=>
  refine' za6 ?q13;case q13=>
   exact zp8 (pv 2)
noncomputable abbrev zj3:Stmt:=top 35
noncomputable abbrev zt7:List Str:=["_law_found","_law_due"]
theorem yv2:zc9 zt7 ["_law_found","_law_due"] (za4 zj3):=by and_intros
noncomputable def ya4 (D7):{ B:FnS Unit // ∀P w K mg base (hm:Bn mg) (cs:Cst K mg) k (A9:zc8 P w K mg base k "_law_same" ["_law_found","_law_due"] (sp0 K D7)) f cdv A outer s H E,zm7 k (A.deeper (envOfC "_law_same" (za4 zj3) s.heap.objs.size f cdv))->
 DSs (zw9 CX0 P w K mg base zt7 "_law_same" (za4 zj3) f cdv A outer s H E).nox (cx0 K H) (zc4 zj3) B }:=by
 refine⟨?B,fun P w K mg base hm cs k A9 f cdv A outer s H E hr=>?h⟩;case h=>
  refine' za2 ?q1 ?r1;case q1=>
   refine' zh1 ?t2 ?a2 ?b2;case t2=>exact(gT_ (zd6 (ga:=.R) (gb:=.R) yw7 yx1 (za0 (pv 1)) zl4 rfl))
   case a2=>
    refine' za6 ?q3;case q3=>
     exact zd3 (g2_ (zu8 (ga:=.R) (gb:=.R) yw7 yx1 (za0 (pv 0)) zl4 rfl))
   case b2=>
    exact zc5
  case r1=>
  refine' za2 ?q4 ?r4;case q4=>
   refine' zh1 ?t5 ?a5 ?b5;case t5=>exact(gB_ (zm1 (g:=.R) (gI_ (zf9 .dict rfl rfl hm.isinstance rfl hm.dict boot_dict (ga:=.R) (za0 (pv 1))))))
   case a5=>
    refine' za2 ?q6 ?r6;case q6=>
     refine' zh1 ?t7 ?a7 ?b7;case t7=>exact(DW.dt (xo7 (ye1 (gB_ (zm1 (g:=.R) (gI_ (zf9 .dict rfl rfl hm.isinstance rfl hm.dict boot_dict (ga:=.R) (za0 (pv 0))))))) (yp5 (gT_ (zd6 (ga:=.R) (gb:=.R) (yc4 hr) (zf2 rfl) (gA_ (zj6 (zc7 (za0 (pv 0)) za1) zc6 (zr0 rfl) rfl hm.len PySem.boot_len)) (gA_ (zj6 (zc7 (za0 (pv 1)) za1) zc6 (zr0 rfl) rfl hm.len PySem.boot_len)) rfl)))))
     case a7=>
      refine' za6 ?q8;case q8=>
       exact zd3 ye2
     case b7=>
      exact zc5
    case r6=>
    refine' za6 ?q9;case q9=>
     exact zd3 (zj6 (wj1 (zm4 (N':=["_law_name","_law_found","_law_due"]) (ixs:=[none,some 0,some 1]) [1] (zm3.scope (N:=zt7) (osc:=za4 zj3) (by decide +kernel)) rfl (zm2 rfl (zf1 (pv 1))) (fun av cl C s H fp=>⟨(zb1 (i:=0) (show (["_law_name","_law_found","_law_due"]:List Str).Nodup by decide +kernel) rfl (Or.inl rfl)),zo0,(yp9 (ga:=.R) (g2_ (zu8 (ga:=.R) (gb:=.R) (xt9 hr) (yg0 rfl) (za0 (pv 0)) (za0 (pv 1)) rfl)) (yp7 (zc2 A9 hr rfl (yg4 (gX_ rfl (za0 (pv 1)) (za0 (pv 0)) (fun _ _=>rfl)) (yg4 (gX_ rfl (za0 (pv 2)) (za0 (pv 0)) (fun _ _=>rfl)) za1)))))⟩)) za1) (yt7 rfl) (zx9 _) rfl hm.all boot_all)
   case b5=>
    exact zc5
  case r4=>
  refine' za2 ?q10 ?r10;case q10=>
   refine' zh1 ?t11 ?a11 ?b11;case t11=>exact(DW.dt (xo7 (gB_ (zm1 (g:=.R) (gI_ (zf9 .list rfl rfl hm.isinstance rfl hm.list boot_list (ga:=.R) (za0 (pv 1)))))) (yp5 (gB_ (zm1 (g:=.R) (gI_ (zf9 .tuple rfl rfl hm.isinstance rfl hm.tuple boot_tuple (ga:=.R) (za0 (pv 1)))))))))
   case a11=>
    refine' za2 ?q12 ?r12;case q12=>
     refine' zh1 ?t13 ?a13 ?b13;case t13=>exact(gT_ (zd6 (ga:=.R) (gb:=.R) (yc4 hr) (zf2 rfl) (gI_ (zf9 .list rfl rfl hm.isinstance rfl hm.list boot_list (ga:=.R) (za0 (pv 0)))) (gI_ (zf9 .list rfl rfl hm.isinstance rfl hm.list boot_list (ga:=.R) (za0 (pv 1)))) rfl))
     case a13=>
      refine' za6 ?q14;case q14=>
       exact zd3 ye2
     case b13=>
      exact zc5
    case r12=>
    refine' za2 ?q15 ?r15;case q15=>
     refine' zh1 ?t16 ?a16 ?b16;case t16=>exact(DW.dt (xo7 (gT_ (zd6 (ga:=.R) (gb:=.R) (yc4 hr) (zf2 rfl) (gI_ (zf9 .tuple rfl rfl hm.isinstance rfl hm.tuple boot_tuple (ga:=.R) (za0 (pv 0)))) (gI_ (zf9 .tuple rfl rfl hm.isinstance rfl hm.tuple boot_tuple (ga:=.R) (za0 (pv 1)))) rfl)) (yp5 (gT_ (zd6 (ga:=.R) (gb:=.R) (yc4 hr) (zf2 rfl) (gA_ (zj6 (zc7 (za0 (pv 0)) za1) zc6 (zr0 rfl) rfl hm.len PySem.boot_len)) (gA_ (zj6 (zc7 (za0 (pv 1)) za1) zc6 (zr0 rfl) rfl hm.len PySem.boot_len)) rfl)))))
     case a16=>
      refine' za6 ?q17;case q17=>
       exact zd3 ye2
     case b16=>
      exact zc5
    case r15=>
    refine' za6 ?q18;case q18=>
     exact zd3 (zj6 (wj1 (zm4 (N':=["_law_one","_law_other"]) (ixs:=[none,none]) [0,1] (zm3.scope (N:=zt7) (osc:=za4 zj3) (by decide +kernel)) rfl (vc5 rfl hm.zip (zg0 (zf1 (pv 0)) (zg0 (zf1 (pv 1)) ye3))) (fun av cl C s H fp=>⟨(zp9 (n:=2) rfl rfl (zb8 (zb1 (i:=0) (show (["_law_one","_law_other"]:List Str).Nodup by decide +kernel) rfl (Or.inl rfl)) (zb8 (zb1 (i:=1) (show (["_law_one","_law_other"]:List Str).Nodup by decide +kernel) rfl (Or.inl rfl)) zj5))),zo0,(zc2 A9 hr rfl (zc7 (za0 (pv 0)) (zc7 (za0 (pv 1)) za1)))⟩)) za1) (yt7 rfl) (zx9 _) rfl hm.all boot_all)
   case b11=>
    exact zc5
  case r10=>
  refine' za2 ?q19 ?r19;case q19=>
   refine' zh1 ?t20 ?a20 ?b20;case t20=>exact(gB_ (zm1 (g:=.R) (gI_ (zf9 .str rfl rfl hm.isinstance rfl hm.str boot_str (ga:=.R) (za0 (pv 1))))))
   case a20=>
    refine' za6 ?q21;case q21=>
     exact zd3 (yp9 (ga:=.R) (gI_ (zf9 .str rfl rfl hm.isinstance rfl hm.str boot_str (ga:=.R) (za0 (pv 0)))) (yp7 (g2_ (zu8 (ga:=.R) (gb:=.R) (zi0 hr) (zf2 rfl) (za0 (pv 0)) (za0 (pv 1)) rfl))))
   case b20=>
    exact zc5
  case r19=>
  refine' za6 ?q22;case q22=>
   exact zd3 (yp9 (ga:=.R) (gI_ (zf9 .int rfl rfl hm.isinstance rfl hm.int boot_int (ga:=.R) (za0 (pv 0)))) (yp9 (ga:=.R) (vc9 (ga:=.R) (gI_ (zf9 .bool rfl rfl hm.isinstance rfl hm.bool boot_bool (ga:=.R) (za0 (pv 0))))) (yp7 (g2_ (zu8 (ga:=.R) (gb:=.R) (zi0 hr) (zf2 rfl) (za0 (pv 0)) (za0 (pv 1)) rfl)))))
noncomputable abbrev zh7:Stmt:=top 36
noncomputable abbrev zt8:List Str:=["_law_state","_law_hall_here","_law_stand","_law_wide","_law_high","_law_shuts","_law_kinds","_law_held","_law_k","_law_place","_law_free","_law_found","_law_turned","_law_kind_here","_law_ways"]
theorem zc0:zc9 zt8 ["_law_state","_law_hall_here","_law_stand"] (za4 zh7):=by and_intros
noncomputable def zo5 (B5) (A8):{ B:FnS Dr // ∀P w K mg base (p l:Addr) (hm:Bn mg) (cs:Cst K mg) k (A7:zc8 P w K mg base k "_law_covered" ["_law_kind_here","_law_place"] (sp0 K B5)) (A6:zc8 P w K mg base k "_law_take" ["_law_state","_law_many"] (spS (WdS p l) K A8)) f cdv A outer s H E,zm7 k (A.deeper (envOfC "_law_others" (za4 zh7) s.heap.objs.size f cdv))->
 DSs (zw9 CX0 P w K mg base zt8 "_law_others" (za4 zh7) f cdv A outer s H E).nox (cxS (WdS p l) K H) (zc4 zh7) B }:=by
 refine⟨?B,fun P w K mg base p l hm cs k A7 A6 f cdv A outer s H E hr=>?h⟩;case h=>
  refine' za2 ?q1 ?r1;case q1=>
   exact yg3 (zf1 (pv 1)) (zp9 (n:=4) rfl rfl (zb8 (zb1 (i:=3) zc0.nd rfl (Or.inl rfl)) (zb8 (zb1 (i:=4) zc0.nd rfl (Or.inl rfl)) (zb8 (zb1 (i:=5) zc0.nd rfl (Or.inr rfl)) (zb8 (zb1 (i:=6) zc0.nd rfl (Or.inl rfl)) zj5)))))
  case r1=>
  refine' za2 ?q2 ?r2;case q2=>
   exact zb9 (i:=7) zc0.nd rfl (Or.inr rfl) (gL_ za1)
  case r2=>
  refine' za2 ?q3 ?r3;case q3=>
   refine' zk4 [] PassesOwn.never rfl ?i4 ?g4 ?b4;case i4=>exact(xy0 rfl rfl hm.enumerate (zc7 (za0 (pv 2)) za1))
   case g4=>exact(zp9 (n:=2) rfl rfl (zb8 (zb1 (i:=8) zc0.nd rfl (Or.inl rfl)) (zb8 (zb1 (i:=9) zc0.nd rfl (Or.inl rfl)) zj5)))
   case b4=>
    refine' za6 ?q5;case q5=>
     exact zb9 (i:=7) zc0.nd rfl (Or.inr rfl) (gp_ rfl (za0 (pv 7)) (zc2 A7 hr rfl (yg4 (gX_ rfl (za0 (pv 6)) (za0 (pv 8)) (fun _ _=>rfl)) (zc7 (za0 (pv 9)) za1))))
  case r3=>
  refine' za2 ?q6 ?r6;case q6=>
   exact xx7 (i:=10) (N':=["_law_cell","_law_held","_law_shuts"]) (ixs:=[none,some 7,some 5]) [] (zm3.scope (N:=zt8) (osc:=za4 zh7) (by decide +kernel)) rfl zc0.nd rfl rfl (zm2 rfl (zc2 A7 hr rfl (xz9 (gU_ (zc7 (za0 (pv 3)) (zc7 (za0 (pv 4)) (zi1 zd4 (zi1 za3 za1))))) (xz9 (gU_ (zi1 za3 (zi1 za3 za1))) za1)))) (fun av cl C s H fp=>⟨(zb1 (i:=0) (show (["_law_cell","_law_held","_law_shuts"]:List Str).Nodup by decide +kernel) rfl (Or.inl rfl)),(xe0 (DW.dt (yl5 (gT_ (zd6 (ga:=.R) (gb:=.R) (zv9 hr) (yg0 rfl) (za0 (pv 0)) (za0 (pv 1)) rfl)) (yf4 (gT_ (zd6 (ga:=.R) (gb:=.R) (zv9 hr) (yg0 rfl) (za0 (pv 0)) (za0 (pv 2)) rfl)))))),(za0 (pv 0))⟩) rfl
  case r6=>
  refine' za2 ?q7 ?r7;case q7=>
   refine' zb9 (i:=11) zc0.nd rfl (Or.inl rfl) ?x11;case x11=>
    refine' gL_ ?x12;case x12=>
     refine' zc7 ?x13 ?x14;case x13=>exact za0 (pv 1)
     case x14=>exact xz9 (gU_ (xd8 (gA_ (zj6 (zi1 za3 (xx3 (gP_ rfl (za0 (pv 3)) za3) za1)) (zn5 rfl) (zr1 _) rfl hm.min boot_min)) (xd8 (gA_ (zj6 (zi1 za3 (xx3 (gP_ rfl (za0 (pv 4)) za3) za1)) (zn5 rfl) (zr1 _) rfl hm.min boot_min)) (zc7 (za0 (pv 5)) (zc7 (za0 (pv 6)) za1))))) za1
  case r7=>
  refine' za2 ?q8 ?r8;case q8=>
   exact zb9 (i:=12) zc0.nd rfl (Or.inl rfl) (gL_ za1)
  case r8=>
  refine' za2 ?q9 ?r9;case q9=>
   refine' zk4 [6] PassesOwn.never rfl ?i10 ?g10 ?b10;case i10=>exact(zm2 rfl (zf1 (pv 6)))
   case g10=>exact(zb1 (i:=13) zc0.nd rfl (Or.inl rfl))
   case b10=>
    refine' za2 ?q11 ?r11;case q11=>
     exact zb9 (i:=14) zc0.nd rfl (Or.inl rfl) (gY_ rfl (gL_ (zi1 zd4 (zi1 zd4 (zi1 zd4 (zi1 zd4 za1))))) (zc1 A6 hr rfl (pv 0) (zi1 za3 za1)) (fun _ _=>rfl))
    case r11=>
    refine' za6 ?q12;case q12=>
     exact yf5 (i:=12) zi8 zl2 PySem.F.slot_list_append PySem.F.type_list_append (pv 12) (zz4 (wf1 (gX_ rfl (za0 (pv 13)) za3 (fun _ _=>rfl)) (wf1 (gX_ rfl (za0 (pv 13)) za3 (fun _ _=>rfl)) (xx1 (za0 (pv 14)) (wf1 (wg2 (ga:=.R) (yy8 hr) (xj8 za3 (xj8 (xj9 (ga:=.R) za3) (ws5 za3 ws4))) rfl rfl (by simp) (by decide) (by decide) (by decide +kernel) (gX_ rfl (za0 (pv 13)) za3 (fun _ _=>rfl)) (fun _ _=>rfl)) za1))))) rfl
  case r9=>
  refine' za2 ?q13 ?r13;case q13=>
   exact yf5 (i:=11) zi8 zl2 PySem.F.slot_list_append PySem.F.type_list_append (pv 11) (gU_ (zc7 (za0 (pv 3)) (zc7 (za0 (pv 4)) (zc7 (za0 (pv 5)) (xd8 (gA_ (ya1 (zc7 (za0 (pv 12)) za1) ze8 (zo3 rfl) rfl hm.tuple boot_tuple)) za1))))) rfl
  case r13=>
  refine' za2 ?q14 ?r14;case q14=>
   refine' zh1 ?t15 ?a15 ?b15;case t15=>exact(gT_ (zd6 (ga:=.R) (gb:=.R) (yc4 hr) (zf2 rfl) (za0 (pv 10)) (gL_ za1) rfl))
   case a15=>
    refine' za6 ?q16;case q16=>
     refine' yf5 (i:=11) zi8 zl2 PySem.F.slot_list_append PySem.F.type_list_append (pv 11) ?x15 rfl;case x15=>
      refine' zz4 ?x16;case x16=>
       refine' xx1 ?x17 ?x18;case x17=>exact za0 (pv 3)
       case x18=>exact xx1 (za0 (pv 4)) (xx2 (ya1 (xx2 (zj6 (xp6 (gp_ rfl (gA_ (ya1 (zc7 (za0 (pv 5)) za1) zr2 (xe5 rfl) rfl hm.list boot_list)) (yp8 (wf1 (gY_ rfl (za0 (pv 10)) (zc1 A6 hr rfl (pv 0) (xd8 (gA_ (zj6 (zc7 (za0 (pv 10)) za1) zc6 (zr0 rfl) rfl hm.len PySem.boot_len)) za1)) (fun _ _=>rfl)) za1))) za1) xa1 (wg6 rfl) rfl hm.sorted boot_sorted) za1) ze8 (zo3 rfl) rfl hm.tuple boot_tuple) (zc7 (za0 (pv 6)) za1))
   case b15=>
    exact zc5
  case r14=>
  refine' za6 ?q17;case q17=>
   exact zp8 (pv 11)
noncomputable abbrev ye7:Stmt:=top 37
noncomputable abbrev ys3:List Str:=["_law_script","_law_state","_law_hall_here","_law_stand","_law_halls","_law_turn","_law_one","_law_rows","_law_push","_law_behind_here","_law_going"]
theorem zv2:zc9 ys3 ["_law_script"] (za4 ye7):=by and_intros
noncomputable def wr1 (I0) (A8) (F8) (F9) (D7) (G4) (D6) (K9) (D3):{ B:FnS Dr // ∀P w K mg base (p l:Addr) (hm:Bn mg) (cs:Cst K mg) k (E8:zc8 P w K mg base k "_law_hall" ["_law_state","_law_broad","_law_much"] (spS (WdS p l) K I0)) (A6:zc8 P w K mg base k "_law_take" ["_law_state","_law_many"] (spS (WdS p l) K A8)) (D8:zc8 P w K mg base k "_law_others" ["_law_state","_law_hall_here","_law_stand"] (spS (WdS p l) K F8)) (D9:zc8 P w K mg base k "_law_pushes" ["_law_hall_here","_law_stand"] (sp0 K F9)) (A9:zc8 P w K mg base k "_law_same" ["_law_found","_law_due"] (sp0 K D7)) (E3:zc8 P w K mg base k "all_pushes" ["hall","stand"] (sp0 K G4)) (C2:zc8 P w K mg base k "_law_step" ["_law_hall_here","_law_stand","_law_n","_law_direction"] (sp0 K D6)) (J0:zc8 P w K mg base k "pushed" ["hall","stand","push"] (sp0 K K9)) (C1:zc8 P w K mg base k "movers" ["hall","stand","n","direction"] (sp0 K D3)) f cdv A outer s H E,zm7 k (A.deeper (envOfC "law" (za4 ye7) s.heap.objs.size f cdv))->
 DSs (zw9 CX0 P w K mg base ys3 "law" (za4 ye7) f cdv A outer s H E).nox (cxS (WdS p l) K (fun _=>none)) ((zc4 ye7).drop 1) B }:=by
 refine⟨?B,fun P w K mg base p l hm cs k E8 A6 D8 D9 A9 E3 C2 J0 C1 f cdv A outer s H E hr=>?h⟩;case h=>
  refine' za2 ?q1 ?r1;case q1=>
   exact yg3 (zc1 E8 hr rfl (pv 1) (vq4 (zu8 (ga:=.R) (gb:=.R) (zi0 hr) (zf2 rfl) (zc1 A6 hr rfl (pv 1) (zi1 za3 za1)) za3 rfl) (xx3 (g2_ (zw8 (ga:=.R) (gb:=.R) wi4 wz6 za3 za3)) za1))) (zp9 (n:=2) rfl rfl (zb8 (zb1 (i:=2) zv2.nd rfl (Or.inl rfl)) (zb8 (zb1 (i:=3) zv2.nd rfl (Or.inl rfl)) zj5)))
  case r1=>
  refine' za2 ?q2 ?r2;case q2=>
   exact zb9 (i:=4) zv2.nd rfl (Or.inl rfl) (zc1 D8 hr rfl (pv 1) (zc7 (za0 (pv 2)) (zc7 (za0 (pv 3)) za1)))
  case r2=>
  refine' za2 ?q3 ?r3;case q3=>
   refine' zk4 [] PassesOwn.never rfl ?i4 ?g4 ?b4;case i4=>exact(zf8 rfl hm.range (zi1 za3 za1))
   case g4=>exact(zb1 (i:=5) zv2.nd rfl (Or.inl rfl))
   case b4=>
    refine' za2 ?q5 ?r5;case q5=>
     exact zb9 (i:=6) zv2.nd rfl (Or.inl rfl) (gY_ rfl (za0 (pv 4)) (zc1 A6 hr rfl (pv 1) (xd8 (gA_ (zj6 (zc7 (za0 (pv 4)) za1) zc6 (zr0 rfl) rfl hm.len PySem.boot_len)) za1)) (fun _ _=>rfl))
    case r5=>
    refine' za2 ?q6 ?r6;case q6=>
     exact zb9 (i:=7) zv2.nd rfl (Or.inl rfl) (zc2 D9 hr rfl (zc7 (za0 (pv 6)) (zc7 (za0 (pv 3)) za1)))
    case r6=>
    refine' za2 ?q7 ?r7;case q7=>
     refine' zh1 ?t8 ?a8 ?b8;case t8=>exact(ye1 (zm1 (g:=.R) (zc2 A9 hr rfl (xx2 (zc2 E3 hr rfl (zc7 (za0 (pv 6)) (zc7 (za0 (pv 3)) za1))) (wj1 (zm4 (N':=["_law_push","_law_behind_here"]) (ixs:=[none,none]) [7] (zm3.scope (N:=ys3) (osc:=za4 ye7) (by decide +kernel)) rfl (zm2 rfl (zf1 (pv 7))) (fun av cl C s H fp=>⟨(zp9 (n:=2) rfl rfl (zb8 (zb1 (i:=0) (show (["_law_push","_law_behind_here"]:List Str).Nodup by decide +kernel) rfl (Or.inl rfl)) (zb8 (zb1 (i:=1) (show (["_law_push","_law_behind_here"]:List Str).Nodup by decide +kernel) rfl (Or.inl rfl)) zj5))),zo0,(za0 (pv 0))⟩)) za1)))))
     case a8=>
      refine' za6 ?q9;case q9=>
       exact zd3 ye2
     case b8=>
      exact zc5
    case r7=>
    refine' za6 ?q10;case q10=>
     refine' zh1 ?t11 ?a11 ?b11;case t11=>exact(gT_ (zd6 (ga:=.R) (gb:=.R) (yc4 hr) (zf2 rfl) (za0 (pv 7)) (gL_ za1) rfl))
     case a11=>
      refine' za2 ?q12 ?r12;case q12=>
       exact yg3 (gY_ rfl (za0 (pv 7)) (zc1 A6 hr rfl (pv 1) (xd8 (gA_ (zj6 (zc7 (za0 (pv 7)) za1) zc6 (zr0 rfl) rfl hm.len PySem.boot_len)) za1)) (fun _ _=>rfl)) (zp9 (n:=2) rfl rfl (zb8 (zb1 (i:=8) zv2.nd rfl (Or.inl rfl)) (zb8 (zb1 (i:=9) zv2.nd rfl (Or.inl rfl)) zj5)))
      case r12=>
      refine' za2 ?q13 ?r13;case q13=>
       exact zb9 (i:=10) zv2.nd rfl (Or.inl rfl) (ya1 (xx2 (zc2 C2 hr rfl (zc7 (za0 (pv 6)) (zc7 (za0 (pv 3)) (yg4 (gX_ rfl (za0 (pv 8)) za3 (fun _ _=>rfl)) (yg4 (gX_ rfl (za0 (pv 8)) za3 (fun _ _=>rfl)) za1))))) za1) ze8 (zo3 rfl) rfl hm.tuple boot_tuple)
      case r13=>
      refine' za2 ?q14 ?r14;case q14=>
       refine' zh1 ?t15 ?a15 ?b15;case t15=>exact(ye1 (zm1 (g:=.R) (zc2 A9 hr rfl (xx2 (zc2 J0 hr rfl (zc7 (za0 (pv 6)) (zc7 (za0 (pv 3)) (zc7 (za0 (pv 8)) za1)))) (zc7 (za0 (pv 9)) za1)))))
       case a15=>
        refine' za6 ?q16;case q16=>
         exact zd3 ye2
       case b15=>
        exact zc5
      case r14=>
      refine' za6 ?q17;case q17=>
       refine' zh1 ?t18 ?a18 ?b18;case t18=>exact(ye1 (zm1 (g:=.R) (zc2 A9 hr rfl (xx2 (zc2 C1 hr rfl (zc7 (za0 (pv 6)) (zc7 (za0 (pv 3)) (yg4 (gX_ rfl (za0 (pv 8)) za3 (fun _ _=>rfl)) (yg4 (gX_ rfl (za0 (pv 8)) za3 (fun _ _=>rfl)) za1))))) (zc7 (za0 (pv 10)) za1)))))
       case a18=>
        refine' za6 ?q19;case q19=>
         exact zd3 ye2
       case b18=>
        exact zc5
     case b11=>
      exact zc5
  case r3=>
  refine' za6 ?q20;case q20=>
   exact zd3 ye2
section
variable {P:Program} {w:World} {K:PySem.W.Frag} {mg:Str->Option Value} {base:Heap}
set_option tactic.hygienic true in
theorem wz2 {f:Addr} {fd:FuncData} (F:Fun K "law" "law" ye7 f fd) {k:Nat} (CB:zc8 P w K mg base k "_law_begin" ["_law_script"] (xr6 K)) {B:FnS Dr}
 (hb:∀(p l:Addr) (cdv:Value) (A:Around) (outer:List Env) (s:Shared) (H:Hp) (E:XK),zm7 k (A.deeper (envOfC "law" (za4 ye7) s.heap.objs.size f cdv))->DSs (zw9 CX0 P w K mg base ys3 "law" (za4 ye7) f cdv A outer s H E).nox (cxS (WdS p l) K (fun _=>none)) ((zc4 ye7).drop 1) B)
 (hB:∀ns:List Int,ns.length<=63->wpR (B (rhoL ys3.length) (zu1 ns,0)) (fun fl _=>fl=.rt (.bl true)) fun _ _=>False):zr3 P w K mg base CX0 (k+1) f fd ["_law_script"] (wb4 K):=by
 refine F.ok zv2 (fun vs H Q E h=>?_) (fun cdv A outer s H vs Q E hr h=>?_)
 ·obtain⟨a,ns,rfl,_⟩:=h;rfl
 ·obtain⟨a,ns,rfl,hS,h63,q⟩:=h
  obtain⟨fa,fd',m1,m2,m3,m4⟩:=CB.ex;refine⟨_,zj0 (zy8 (i:=1) zv2.nd rfl (Or.inl rfl) (xc6 (E:=E0) m4 hr (by rfl) m1 m2 m3 .nil wp0 (zn7 (pv 0) zz0))) (wn8 (K:=K) fun p l=>hb p l cdv A outer s H E hr),?_⟩;refine⟨.ref a,rfl,a,ns,rfl,hS,h63,fun p l H' sm hp hl h1 h2=>?_⟩;have cl:(zu1 ns).length<=63/\zu1 ns≠[]:=by
   unfold zu1;split
   ·exact⟨by decide,by simp⟩
   ·rename_i hne;exact⟨h63,hne⟩
  refine⟨p,l,rhoL ys3.length,(zu1 ns,0),vi0 (m:=ys3.length-2),⟨h1,h2,cl.2,cl.1,Int.le_refl 0⟩,?_⟩;refine za7 (hB ns h63) (fun fl st' e=>?_) fun x st' e=>e.elim
  subst e;intro v H2 _ _ z;rw[Is.bl_iff.mp z];exact q H2
end
section
variable {S:Type} {E:Exn->S->Prop} {Q:Fl->S->Prop} {B:FnS S}
theorem xb0 {g:FnG} (I:Nat->Rho->S->Prop) {l:List D} {ρ:Rho} {st:S} (n:Nat) (h0:I n ρ st)
 (hs:∀i d ρ st,l[i]?=some d->I (n+i) ρ st->∀P:Fl->S->Prop,(∀ρ2 st',I (n+i+1) ρ2 st'->P (.nx ρ2) st')->(∀d st',Q (.rt d) st'->P (.rt d) st')->∃ρ1,g d ρ=some ρ1/\wpR (B ρ1 st) P E)
 (he:∀ρ st,I (n+l.length) ρ st->Q (.nx ρ) st):wpR (xo3 S g B l ρ st) Q E:=
 xb1 I n h0 (fun i d ρ st h h'=>hs i d ρ st h h' _ (fun _ _ z=>z) fun _ _ z=>z) he
theorem zh2 {g:FnG} (I:Nat->Rho->S->Prop) {l:List D} {ρ:Rho} {st:S} (n:Nat) (h0:I n ρ st)
 (hs:∀i d ρ st,l[i]?=some d->I (n+i) ρ st->∀P:Fl->S->Prop,(∀ρ2 st',I (n+i+1) ρ2 st'->P (.nx ρ2) st')->∃ρ1,g d ρ=some ρ1/\wpR (B ρ1 st) P E)
 (he:∀ρ st,I (n+l.length) ρ st->Q (.nx ρ) st):wpR (xo3 S g B l ρ st) Q E:=
 xb1 I n h0 (fun i d ρ st h h'=>hs i d ρ st h h' _ fun _ _ z=>z) he
theorem yi1 {F G:FnS S} {ρ:Rho} {st:S} (I:Rho->S->Prop) (h1:∀P:Fl->S->Prop,(∀ρ1 st1,I ρ1 st1->P (.nx ρ1) st1)->wpR (F ρ st) P E) (h2:∀ρ1 st1,I ρ1 st1->wpR (G ρ1 st1) Q E):wpR (wb6 S F G ρ st) Q E:=
 wv3 I (h1 _ fun ρ1 st1 h=>⟨ρ1,rfl,h⟩) h2
theorem yb1 {t:FnT S} {ρ:Rho} {st:S} (I:Rho->S->Prop) (μ:Rho->S->Nat) (h0:I ρ st)
 (hs:∀ρ st,I ρ st->∀(P:Fl->S->Prop) (Z:S->Prop),(∀ρ2 st2,I ρ2 st2->μ ρ2 st2<μ ρ st->P (.nx ρ2) st2)->(∀d st',Q (.rt d) st'->P (.rt d) st')->(∀st1,Q (.nx ρ) st1->Z st1)->wpR (t ρ st) (fun b st1=>if b=true then wpR (B ρ st1) P E else Z st1) E):wpR (yi5 S t B ρ st) Q E:=
 xq3 I μ h0 fun ρ st h=>hs ρ st h _ (fun st1=>Q (.nx ρ) st1) (fun _ _ a b=>⟨a,b⟩) (fun _ _ z=>z) fun _ z=>z
end
theorem yj1 {i j:Int} (h:xp9 i j):wp9 (.int i) (.int j)=some (.int (i*j)):=by
 unfold wp9;rw[xw6 h];rfl
noncomputable abbrev zd0:=Int×Int
noncomputable def za9 (p:zd0):D:=.tup [.int p.1,.int p.2]
theorem zd8 (p:zd0):(za9 p).imm=true:=by simp[za9,D.imm,D.immL]
theorem wg5 (p:zd0):(za9 p).dep<=1:=by simp[za9,D.dep,D.depL]
noncomputable def yz8 (h:Int) (p:zd0) (i:Nat):List zd0:=(List.range h.toNat).map fun (j:Nat)=>(p.1+(i:Int),p.2+(j:Int))
noncomputable def cov (w h:Int) (p:zd0):List zd0:=(List.range w.toNat).flatMap (yz8 h p)
theorem zz8 {w h:Int} {p q:zd0}:q∈cov w h p↔p.1<=q.1/\q.1<p.1+w/\p.2<=q.2/\q.2<p.2+h:=by
 unfold cov yz8;simp only[List.mem_flatMap,Ca0,Bf0];constructor
 ·rintro ⟨i,hi,j,hj,rfl⟩
  refine⟨?_,?_,?_,?_⟩<;>simp<;>omega
 ·rintro ⟨h1,h2,h3,h4⟩
  refine⟨(q.1-p.1).toNat,by omega,(q.2-p.2).toNat,by omega,?_⟩;refine Prod.ext ?_ ?_<;>simp<;>omega
theorem xp1 {w h:Int} {p:zd0}:(cov w h p).length=w.toNat*h.toNat:=by
 unfold cov yz8;rw[List.length_flatMap];simp only[Aa0,List.length_range,List.map_const',List.sum_replicate_nat]
noncomputable def kd (w h:Int) (ways:Str) (s:Int):D:=.tup [.int w,.int h,.str ways,.int s]
theorem va6 {w h:Int} {ways:Str} {s:Int}:(kd w h ways s).imm=true:=by simp[kd,D.imm,D.immL]
theorem at0 {a b c d:D}:atI [a,b,c,d] 0=some a:=rfl
theorem at1 {a b c d:D}:atI [a,b,c,d] 1=some b:=rfl
theorem at2 {a b c d:D}:atI [a,b,c,d] 2=some c:=rfl
theorem at3 {a b c d:D}:atI [a,b,c,d] 3=some d:=rfl
theorem pt0 {a b:D}:atI [a,b] 0=some a:=rfl
theorem pt1 {a b:D}:atI [a,b] 1=some b:=rfl
noncomputable def zo2:List D->Res Unit D:=dfn 4 2 zs2.1
theorem ys2 {l m:List D} (h1:D.immL m=true) (h2:l.length+m.length<=1000):vf0 l (.lst m)=some (l++m):=by
 show (if D.immL m=true/\l.length+m.length<=sizeLine then some (l++m) else none)=_;rw[if_pos ⟨h1,zi4 h2⟩]
theorem yf1 {a b c d:Nat} (h1:a<=c) (h2:b<=d):a*b<=c*d:=Nat.mul_le_mul h1 h2
theorem zo6 {w h:Int} {ways:Str} {s:Int} {p:zd0} {Q:D->Unit->Prop} {E:Exn->Unit->Prop} (hw:w<=30) (hh:h<=30) (h0:0<=w) (h1:0<=h) (hq:Q (.lst ((cov w h p).map za9)) ()):wpR (zo2 [kd w h ways s,za9 p]) Q E:=by
 refine zi5 rfl (by decide) ?_;unfold zs2;dsimp only;simp?! [zb0,yf0,kd,oIx,at0,at1];rw[zf7 (by omega) h0];refine zh2 (fun i ρ st'=>∃x,ρ=[.bor (kd w h ways s),.bor (za9 p),.own (.lst (((List.range i).flatMap (yz8 h p)).map za9)),x]) 0 ⟨_,rfl⟩ (fun i d ρ st' hd hI P pn=>?_) fun ρ st' hI=>?_
 ·obtain⟨x,e⟩:=hI
  obtain⟨rfl,hi⟩:=zf0 hd;subst e;have him:∀i:Nat,D.immL (((List.range i).flatMap (yz8 h p)).map za9)=true:=fun i=>zb3 zd8 _
  refine⟨_,rfl,?_⟩;simp?! [zb0,zl7,him,kd,oIx,at0,at1];rw[zf7 (by omega) h1];refine zg5 (fun d=>match d with | .int j=>za9 (p.1+(i:Int),p.2+j) | _=>.non) (fun ρ=>∃x,ρ=[x,.bor (.int (0+(i:Int))),.bor (za9 p)]) ⟨_,rfl⟩ (fun d hd ρ hI112=>?_) (zi4 (by rw[zd1];omega)) ?_
  ·obtain⟨x,e⟩:=hI112
   subst e;obtain⟨j,hj⟩:=Av0 hd;obtain⟨rfl,hj'⟩:=zf0 hj;refine⟨_,rfl,⟨_,rfl⟩,⟨rfl,rfl⟩,?_⟩;simp?! [zb0,za9,oIx,pt0,pt1,zn9,zu7,yc8];simp
  ·have e:(zp0 0 h.toNat).map (fun d=>match d with | .int j=>za9 (p.1+(i:Int),p.2+j) | _=>D.non)=(yz8 h p i).map za9:=by
    unfold zp0 yz8;rw[Bj0,Bj0];refine List.map_congr_left fun j _=>?_
    simp[za9]
   rw[e];refine⟨_,ys2 (zb3 zd8 _) ?_,pn _ _ ⟨.bor (.int (0+(i:Int))),?_⟩⟩
   ·rw[Aa0,Aa0,List.length_flatMap]
    unfold yz8;simp only[Aa0,List.length_range,List.map_const',List.sum_replicate_nat];have:i*h.toNat<=29*30:=yf1 (by omega) (by omega);omega
   ·rw[List.range_succ,Cc0,Aq0]
    simp[kd]
 ·obtain⟨x,e⟩:=hI
  subst e;rw[zd1,Af0];have him:∀i:Nat,D.immL (((List.range i).flatMap (yz8 h p)).map za9)=true:=fun i=>zb3 zd8 _
  simp?! [zb0,him];exact hq
noncomputable def wb7:List D->Res Unit D:=dfn 5 3 zs1.1
noncomputable def yo3 (A4 A5 w h:Int) (ways:Str):Int:=if ways = "any" then (A4-w+1)*(A5-h+1) else if ways = "row" then A4-w+1 else if ways = "column" then A5-h+1 else 1
noncomputable def xa7 (x:Str):Prop:=x = "any"\/x = "row"\/x = "column"\/x = "none"
theorem wk9 {A4 A5 w h:Int} {ways:Str} {s:Int} {Q:D->Unit->Prop} {E:Exn->Unit->Prop} (h1:0<=A4-w) (h2:A4-w<=100) (h3:0<=A5-h) (h4:A5-h<=100) (hw:xa7 ways) (hq:Q (.int (yo3 A4 A5 w h ways)) ()):wpR (wb7 [.int A4,.int A5,kd w h ways s]) Q E:=by
 refine zi5 rfl (by decide) ?_;unfold zs1;dsimp only;have cm:xp9 (A4-w+1) (A5-h+1):=.inl ⟨by omega,by omega⟩;simp?! [zb0,kd,oIx,at0,at1,at2,zu7,zn9,wh0,yj1 cm];have pk:xm6 ways ["any","row","column","none"] [D.int ((A4-w+1)*(A5-h+1)),D.int (A4-w+1),D.int (A5-h+1),D.int 1]=some (.int (yo3 A4 A5 w h ways)):=by
  rcases hw with e | e | e | e<;>subst e<;>rfl
 rw[pk];exact⟨.inl imm_int,hq⟩
noncomputable def xg5:List D->Dr->Res Dr D:=wf9 3 2 (zx2 zv0).1
theorem wa2 {C0:Bool} {st:Dr} {Q:D->Dr->Prop} {E:Exn->Dr->Prop} (hs:st.2<2 ^ 39) (h:∀(w h:Int) st',1<=w->w<=9->1<=h->h<=9->(C0=true->5<=w/\4<=h)->st'.2<=st.2+3->Q (.tup [.int w,.int h]) st'):wpR (xg5 [.bl C0] st) Q E:=by
 refine yr0 rfl (by decide) ?_;unfold zx2;dsimp only;simp?! [zb0];cases C0 with
 | true=>
   simp?! [zb0];refine zd7 (by decide) (by decide) (by omega) fun v1 st1 a1 b1 c1=>?_
   simp?! [zn9,zu7,zb0];refine zd7 (by decide) (by decide) (by omega) fun v2 st2 a2 b2 c2=>?_
   simp?! [zn9,zu7,zb0,yc8];exact h _ _ _ (by omega) (by omega) (by omega) (by omega) (fun _=>⟨by omega,by omega⟩) (by omega)
 | false=>
   simp?! [zb0];refine zd7 (by decide) (by decide) (by omega) fun v1 st1 a1 b1 c1=>?_
   simp?! [oEq,D.dep,D.eqq,An0,Ap0,zb0];split
   ·refine zd7 (by decide) (by decide) (by omega) fun v2 st2 a2 b2 c2=>?_
    simp?! [zn9,zu7,zb0];refine zd7 (by decide) (by decide) (by omega) fun v3 st3 a3 b3 c3=>?_
    simp?! [zn9,zu7,zb0,yc8];exact h _ _ _ (by omega) (by omega) (by omega) (by omega) (fun e=>by cases e) (by omega)
   ·split
    ·refine zd7 (by decide) (by decide) (by omega) fun v2 st2 a2 b2 c2=>?_
     simp?! [zn9,zu7,zb0];refine zd7 (by decide) (by decide) (by omega) fun v3 st3 a3 b3 c3=>?_
     simp?! [zn9,zu7,zb0,yc8];exact h _ _ _ (by omega) (by omega) (by omega) (by omega) (fun e=>by cases e) (by omega)
    ·refine zd7 (by decide) (by decide) (by omega) fun v2 st2 a2 b2 c2=>?_
     simp?! [zn9,zu7,zb0];refine zd7 (by decide) (by decide) (by omega) fun v3 st3 a3 b3 c3=>?_
     simp?! [zn9,zu7,zb0,yc8];exact h _ _ _ (by omega) (by omega) (by omega) (by omega) (fun e=>by cases e) (by omega)
theorem yo0 {v:Int} (h0:0<=v) (h1:v<6):∃s:Int,oIx (.lst [.int 1,.int 1,.int 1,.int 2,.int 2,.int 3]) (.int v)=some (.int s)/\1<=s/\s<=3:=by
 obtain⟨d,hd,e⟩:=xi4 (l:=[.int 1,.int 1,.int 1,.int 2,.int 2,.int 3]) (by simp[D.immL,D.imm]) h0 (by simpa using h1);rw[e];simp only[Ai0,Bd0,or_false] at hd;rcases hd with r | r | r | r | r | r<;>subst r<;>exact⟨_,rfl,by decide,by decide⟩
theorem xl6 {v:Int} (h0:0<=v) (h1:v<6):∃s:Str,oIx (.lst [.str "any",.str "any",.str "row",.str "column",.str "row",.str "none"]) (.int v)=some (.str s)/\xa7 s:=by
 obtain⟨d,hd,e⟩:=xi4 (l:=[.str "any",.str "any",.str "row",.str "column",.str "row",.str "none"]) (by simp[D.immL,D.imm]) h0 (by simpa using h1);rw[e];simp only[Ai0,Bd0,or_false] at hd;rcases hd with r | r | r | r | r | r<;>subst r<;>exact⟨_,rfl,by simp[xa7]⟩
theorem xl5 {v:Int} (h0:0<=v) (h1:v<6):∃s:Str,oIx (.lst [.str "row",.str "column",.str "row",.str "column",.str "any",.str "none"]) (.int v)=some (.str s)/\xa7 s:=by
 obtain⟨d,hd,e⟩:=xi4 (l:=[.str "row",.str "column",.str "row",.str "column",.str "any",.str "none"]) (by simp[D.immL,D.imm]) h0 (by simpa using h1);rw[e];simp only[Ai0,Bd0,or_false] at hd;rcases hd with r | r | r | r | r | r<;>subst r<;>exact⟨_,rfl,by simp[xa7]⟩
theorem xb4 {v:Int} (h0:0<=v) (h1:v<6):∃s:Int,oIx (.lst [.int 0,.int 0,.int 1,.int 1,.int 1,.int (-1)]) (.int v)=some (.int s)/\(s=0\/s=1\/s=-1):=by
 obtain⟨d,hd,e⟩:=xi4 (l:=[.int 0,.int 0,.int 1,.int 1,.int 1,.int (-1)]) (by simp[D.immL,D.imm]) h0 (by simpa using h1);rw[e];simp only[Ai0,Bd0,or_false] at hd;rcases hd with r | r | r | r | r | r<;>subst r<;>exact⟨_,rfl,by decide⟩
theorem wp8 {a b c d:D} (h1:a.imm=true) (h2:b.imm=true) (h3:c.imm=true) (h4:d.imm=true):yx2 [a,b,c,d]=some (.tup [a,b,c,d]):=ys0 (by simp[D.immL,h1,h2,h3,h4]) (by simp)
noncomputable def we0:List D->Dr->Res Dr D:=wf9 9 4 (ya5 zv0).1
noncomputable def xp5 (a b:Int):Int:=if b<a then b else a
theorem yx5 {a b:Int}:xh2 (fun i j=>if j<i then j else i) [.int a,.int b]=some (.int (xp5 a b)):=rfl
theorem yf2 {a b:Int}:xp5 a b<=a/\xp5 a b<=b/\(xp5 a b=a\/xp5 a b=b):=by unfold xp5;split<;>omega
theorem wl1 {A4 A5:Int} {C0:Bool} {st:Dr} {Q:D->Dr->Prop} {E:Exn->Dr->Prop} (hs:st.2<2 ^ 39) (h1:1<=A4) (h2:A4<=9) (h3:1<=A5) (h4:A5<=9) (hb:C0=true->5<=A4/\4<=A5)
 (h:∀(a u:Int) (ways:Str) (s:Int) st',1<=a->a<=A4->1<=u->u<=A5->xa7 ways->(s=0\/s=1\/s=-1)->st'.2<=st.2+11->Q (kd a u ways s) st'):wpR (we0 [.int A4,.int A5,.bl C0] st) Q E:=by
 refine yr0 rfl (by decide) ?_;unfold ya5;dsimp only;simp_all!;simp! [zn8];simp_all!;simp!;refine zd7 (by decide) (by decide) (by omega) fun v1 st1 a1 b1 c1=>?_
 obtain⟨s1,e1,l1,u1⟩:=yo0 a1 b1;simp! [e1,yx5];refine zd7 (by decide) (by decide) (by omega) fun v2 st2 a2 b2 c2=>?_
 obtain⟨s2,e2,l2,u2⟩:=yo0 a2 b2;simp! [e2,yx5];simp_all!;simp! [zn8];refine zd7 (by decide) (by decide) (by omega) fun v3 st3 a3 b3 c3=>?_
 obtain⟨x1,e3,w1⟩:=xl6 a3 b3;simp! [e3];have m1:=yf2 (a:=A4) (b:=s1);have m2:=yf2 (a:=A5) (b:=s2);generalize xp5 A4 s1=A1 at m1;generalize xp5 A5 s2=A2 at m2;refine yi1 (fun ρ st'=>∃(a u:Int) (x:Str) (y:Sl),ρ=[Sl.hnd,.bor (.int A4),.bor (.int A5),.bor (.bl C0),.own (.lst [.int 1,.int 1,.int 1,.int 2,.int 2,.int 3]),.bor (.int a),.bor (.int u),.bor (.str x),y]/\1<=a/\a<=A4/\1<=u/\u<=A5/\xa7 x/\st'.2<=st.2+6) ?_ ?_
 ·intro P1 pn1
  simp!;cases C0 with
  | false=>
    simp!;exact pn1 _ _ ⟨A1,A2,x1,_,rfl,by omega,by omega,by omega,by omega,w1,by omega⟩
  | true=>
    obtain⟨k1,k2⟩:=hb rfl;rw[if_pos rfl,zb0];simp! [zn8];refine zd7 (by decide) (by decide) (by omega) fun v4 st4 a4 b4 c4=>?_
    obtain⟨x2,e4,w2⟩:=xl5 a4 b4;simp! [e4];refine yi1 (fun ρ st'=>∃(a u:Int) (y:Sl),ρ=[Sl.hnd,.bor (.int A4),.bor (.int A5),.bor (.bl true),.own (.lst [.int 1,.int 1,.int 1,.int 2,.int 2,.int 3]),.bor (.int a),.bor (.int u),.bor (.str x2),y]/\1<=a/\a<=A4/\1<=u/\u<=A5/\st'.2<=st4.2+1) ?_ ?_
    ·intro P2 pn2
     simp! [oEq,D.dep,D.eqq,An0,Ap0];split
     ·refine zd7 (by decide) (by decide) (by omega) fun v5 st5 a5 b5 c5=>?_
      simp! [zu7];exact pn2 _ _ ⟨_,_,_,rfl,by omega,by omega,by omega,by omega,by omega⟩
     ·exact pn2 _ _ ⟨A1,A2,_,rfl,by omega,by omega,by omega,by omega,by omega⟩
    ·rintro ρ1 st5 ⟨a,u,y,rfl,g1,g2,g3,g4,g5⟩
     simp! [oEq,D.dep,D.eqq,An0,Ap0];split
     ·refine zd7 (by decide) (by decide) (by omega) fun v5 st6 a5 b5 c5=>?_
      simp! [zu7];exact pn1 _ _ ⟨_,_,_,_,rfl,by omega,by omega,by omega,by omega,w2,by omega⟩
     ·exact pn1 _ _ ⟨a,u,_,_,rfl,by omega,by omega,by omega,by omega,w2,by omega⟩
 ·rintro ρ1 st4 ⟨a,u,x,y,rfl,g1,g2,g3,g4,g5,g6⟩
  simp_all!;simp!;refine zd7 (by decide) (by decide) (by omega) fun v4 st5 a4 b4 c4=>?_
  simp!;refine yi1 (fun ρ st'=>∃(a u:Int) (x:Str),ρ=[Sl.hnd,.bor (.int A4),.bor (.int A5),.bor (.bl C0),.own (.lst [.int 1,.int 1,.int 1,.int 2,.int 2,.int 3]),.bor (.int a),.bor (.int u),.bor (.str x),.bor (.int v4)]/\1<=a/\a<=A4/\1<=u/\u<=A5/\xa7 x/\st'.2<=st5.2+1) ?_ ?_
  ·intro P3 pn3
   simp! [oEq,D.dep,D.eqq,An0,Ap0];split
   ·have m3:=yf2 (a:=A5) (b:=3)
    simp! [yx5];generalize xp5 A5 3=B at m3;refine zd7 (by omega) (by omega) (by omega) fun v5 st6 a5 b5 c5=>?_
    simp! [zu7];exact pn3 _ _ ⟨_,_,_,rfl,by omega,by omega,by omega,by omega,by simp[xa7],by omega⟩
   ·exact pn3 _ _ ⟨a,u,x,rfl,by omega,by omega,by omega,by omega,g5,by omega⟩
  ·rintro ρ1 st6 ⟨a,u,x,rfl,g1,g2,g3,g4,g5,g7⟩
   refine yi1 (fun ρ st'=>∃(a u:Int) (x:Str),ρ=[Sl.hnd,.bor (.int A4),.bor (.int A5),.bor (.bl C0),.own (.lst [.int 1,.int 1,.int 1,.int 2,.int 2,.int 3]),.bor (.int a),.bor (.int u),.bor (.str x),.bor (.int v4)]/\1<=a/\a<=A4/\1<=u/\u<=A5/\xa7 x/\st'.2<=st6.2+1) ?_ ?_
   ·intro P4 pn4
    simp! [oEq,D.dep,D.eqq,An0,Ap0];split
    ·have m3:=yf2 (a:=A4) (b:=3)
     simp! [yx5];generalize xp5 A4 3=B at m3;refine zd7 (by omega) (by omega) (by omega) fun v5 st7 a5 b5 c5=>?_
     simp! [zu7];exact pn4 _ _ ⟨_,_,_,rfl,by omega,by omega,by omega,by omega,by simp[xa7],by omega⟩
    ·exact pn4 _ _ ⟨a,u,x,rfl,by omega,by omega,by omega,by omega,g5,by omega⟩
   ·rintro ρ1 st7 ⟨a,u,x,rfl,g1,g2,g3,g4,g5,g8⟩
    refine yi1 (fun ρ st'=>∃(a u:Int) (x:Str),ρ=[Sl.hnd,.bor (.int A4),.bor (.int A5),.bor (.bl C0),.own (.lst [.int 1,.int 1,.int 1,.int 2,.int 2,.int 3]),.bor (.int a),.bor (.int u),.bor (.str x),.bor (.int v4)]/\1<=a/\a<=A4/\1<=u/\u<=A5/\xa7 x/\st'.2<=st7.2) ?_ ?_
    ·intro P5 pn5
     simp! [oEq,D.dep,D.eqq,An0,Ap0];split
     ·have m3:=yf2 (a:=A4) (b:=4)
      have m4:=yf2 (a:=A5) (b:=4);simp! [yx5];generalize xp5 A4 4=B at m3;generalize xp5 A5 4=B' at m4;exact pn5 _ _ ⟨_,_,_,rfl,by omega,by omega,by omega,by omega,by simp[xa7],by omega⟩
     ·exact pn5 _ _ ⟨a,u,x,rfl,by omega,by omega,by omega,by omega,g5,by omega⟩
    ·rintro ρ1 st8 ⟨a,u,x,rfl,g1,g2,g3,g4,g5,g9⟩
     simp! [zn8];refine zd7 (by decide) (by decide) (by omega) fun v5 st9 a5 b5 c5=>?_
     obtain⟨s5,e5,w5⟩:=xb4 a5 b5;simp! [e5,wp8];exact h a u x s5 st9 g1 g2 g3 g4 g5 w5 (by omega)
structure Tr where
 w:Int
 h:Int
 ways:Str
 s:Int
 x:Int
 y:Int
noncomputable def Tr.kind (t:Tr):D:=kd t.w t.h t.ways t.s
noncomputable def Tr.place (t:Tr):D:=za9 (t.x,t.y)
noncomputable def Tr.cells (t:Tr):List zd0:=cov t.w t.h (t.x,t.y)
structure vo3 (A4 A5:Int) (sh:List zd0) (t:Tr):Prop where
 w1:1<=t.w
 h1:1<=t.h
 x0:0<=t.x
 xw:t.x+t.w<=A4
 y0:0<=t.y
 yh:t.y+t.h<=A5
 ways:xa7 t.ways
 st:t.s=0\/t.s=1\/t.s=-1
 free:∀c∈t.cells,c∉sh
structure ze6 (A4 A5:Int) (sh:List zd0) (ts:List Tr):Prop where
 w1:1<=A4
 w9:A4<=9
 h1:1<=A5
 h9:A5<=9
 sub:sh.Sublist (cov A4 A5 (0,0))
 few:ts.length<=12
 tr:∀t∈ts,vo3 A4 A5 sh t
 apart:ts.Pairwise fun a b=>∀c∈a.cells,c∉b.cells
noncomputable def zd2 (A4 A5:Int) (sh:List zd0) (ts:List Tr):D:=.tup [.int A4,.int A5,.tup (sh.map za9),.tup (ts.map Tr.kind)]
noncomputable def za8 (ts:List Tr):D:=.tup (ts.map Tr.place)
theorem zq8 (t:Tr):t.kind.imm=true:=va6
theorem zf6 (t:Tr):t.place.imm=true:=zd8 _
noncomputable def ck (c:zd0):List Key:=[.inl c.1,.inl c.2]
theorem zw5 (c:zd0):ze3 (za9 c)=some (ck c):=rfl
theorem wj8 {a b:zd0} (h:ck a=ck b):a=b:=by
 unfold ck at h;have h1:a.1=b.1/\a.2=b.2:=by simpa using h
 exact Prod.ext h1.1 h1.2
noncomputable def inT (T:List zd0) (k:List Key):Prop:=∃c∈T,ck c=k
theorem vb2 {T:List zd0} {c:zd0}:inT T (ck c)↔c∈T:=⟨fun ⟨d,hd,e⟩=>by rw[<-wj8 e];exact hd,fun h=>⟨c,h,rfl⟩⟩
theorem zz5 {w h:Int} {p:zd0} (hw:w<=9) (hh:h<=9):(cov w h p).length<=81:=by
 rw[xp1];exact yf1 (c:=9) (d:=9) (by omega) (by omega)
noncomputable def vj6 (T:List zd0):D->D
 | .tup [.int x,.int y]=>.bl (decide ((x,y)∈T))
 | _=>.non
theorem xj1 (T:List zd0) (l:List zd0):(l.map za9).map (vj6 T)=l.map fun c=>.bl (decide (c∈T)):=by rw[Bj0];rfl
noncomputable def we9:List D->Dr->Res Dr D:=wf9 17 3 (ya6 xg5 zo2 zv0 we0 wb7).1
noncomputable def xc8 (d:D):D:=.tup [d,.bl true]
theorem xn0 (l:List zd0):zy9 ((l.map za9).map xc8)=some (l.map fun c=>(ck c,.bl true)):=by
 induction l with
 | nil=>rfl
 | cons c l ih=>
   show zy9 (.tup [za9 c,.bl true]::(l.map za9).map xc8)=_;unfold zy9;rw[if_pos (by simp[D.imm]),zw5,ih];rfl
set_option tactic.hygienic true in
theorem wl3 {C0:Bool} {much:Int} {st:Dr} {Q:D->Dr->Prop} {E:Exn->Dr->Prop} (hs:st.2<2 ^ 38) (hm1:1<=much) (hm2:much<=1000000000000)
 (hq:∀A4 A5 sh ts st',ze6 A4 A5 sh ts->st'.2<=st.2+500->Q (.tup [zd2 A4 A5 sh ts,za8 ts]) st'):wpR (we9 [.bl C0,.int much] st) Q E:=by
 refine yr0 rfl (by decide) ?_;unfold ya6;dsimp only;simp_all!;simp!;refine wa2 (by omega) fun A4 A5 st1 w1 w9 h1 h9 hb t1=>?_
 simp!;simp_all!;simp! [wp8,yc8];refine zo6 (ways:="none") (s:=0) (p:=(0,0)) (by omega) (by omega) (by omega) (by omega) ?_;simp! [zb3 zd8];simp_all!;simp!;have hc81:(cov A4 A5 (0,0)).length<=81:=zz5 w9 h9;refine yb2 (fun n acc ρ st'=>∃sh x,acc=sh.map za9/\sh.Sublist ((cov A4 A5 (0,0)).take n)/\ρ=[x,Sl.hnd,.bor (.bl C0)]/\st'.2<=st1.2+n) 0 ⟨[],_,rfl,by simp,rfl,by simp⟩ (fun i d acc ρ st' hd hI=>?_) fun acc ρ st' hI=>?_
 ·obtain⟨sh,x,e1,e2,e3,e4⟩:=hI
  rw[Ag0] at hd;cases q:(cov A4 A5 (0,0))[i]? with
  | none=>rw[q] at hd;cases hd
  | some c=>
    rw[q] at hd;cases hd;subst e1 e3;have hi:i<(cov A4 A5 (0,0)).length:=(Ac0.mp q).1;have hsl:=e2.length_le;rw[Be0] at hsl;have tk:(cov A4 A5 (0,0)).take (i+1)=(cov A4 A5 (0,0)).take i++[c]:=by rw[Ba0,q];rfl
    rw[Af0] at e2 e4;refine⟨_,rfl,?_⟩;simp! [ve9,wq0,xv9];have tk2:∃m:Int,(if C0=true then D.int 20 else D.int 9)=.int m/\0<m/\m<1073741824:=by
     split
     ·exact⟨_,rfl,by decide,by decide⟩
     ·exact⟨_,rfl,by decide,by decide⟩
    obtain⟨m,em,m0,m1⟩:=tk2;rw[em];refine zd7 m0 m1 (by omega) fun v st2 a2 b2 c2=>?_
    simp! [oEq,D.dep,D.eqq,An0,Ap0];split
    ·refine⟨zd8 c,lt_size (by rw[Aa0];omega),sh++[c],_,by rw[Aq0];rfl,?_,rfl,by omega⟩
     rw[tk];exact e2.append (List.Sublist.refl _)
    ·refine⟨sh,_,rfl,?_,rfl,by omega⟩
     rw[tk];exact e2.trans (List.sublist_append_left _ _)
 ·obtain⟨sh,x,e1,e2,e3,e4⟩:=hI
  subst e1;rw[Af0,Aa0,Bi0] at e2;rw[Af0,Aa0] at e4;have hsh:sh.length<=81:=Ax0 e2.length_le hc81;simp! [zb3 zd8];simp_all!;simp!;refine zg5 xc8 (fun ρ=>∃x,ρ=[x]) ⟨_,rfl⟩ (fun d hd ρ hI113=>?_) (zi4 (by rw[Aa0];omega)) ?_
  ·obtain⟨x,e⟩:=hI113
   subst e;obtain⟨c,hc,rfl⟩:=Bf0.mp hd;refine⟨_,rfl,⟨_,rfl⟩,⟨rfl,rfl⟩,?_⟩;simp! [yc8,zd8,xc8]
  ·have od:wq2 [.lst ((sh.map za9).map xc8)]=some (.dct (.non::(zm0 (sh.map fun c=>(ck c,.bl true)) ([],[])).1) (zm0 (sh.map fun c=>(ck c,.bl true)) ([],[])).2):=by
    show (if ((sh.map za9).map xc8).length<sizeLine then (zy9 ((sh.map za9).map xc8)).map _ else none)=_;rw[if_pos (lt_size (by simp;omega)),xn0];rfl
   have hh:=Holds.all (ps:=sh.map fun c=>(ck c,D.bl true)) (Holds.nil (n:=0)) (fun p hp=>by obtain⟨c,_,rfl⟩:=Bf0.mp hp;exact imm_bl);have hT:Holds (.dct (.non::(zm0 (sh.map fun c=>(ck c,.bl true)) ([],[])).1) (zm0 (sh.map fun c=>(ck c,.bl true)) ([],[])).2) sh.length (inT sh):=hh.imp (by simp) fun k=>by
    simp only[false_or,Bf0,inT];constructor
    ·rintro ⟨p,⟨c,hc,rfl⟩,e⟩;exact⟨c,hc,e⟩
    ·rintro ⟨c,hc,e⟩;exact⟨_,⟨c,hc,rfl⟩,e⟩
   rw[od];generalize D.dct (.non::(zm0 (sh.map fun c=>(ck c,.bl true)) ([],[])).1) (zm0 (sh.map fun c=>(ck c,.bl true)) ([],[])).2=tk at hT;have fl:=hT.flat;simp! [fl];simp_all!;simp! [yf0];simp_all!;simp! [yf0];simp_all!;simp!;simp_all!;simp!;refine zd7 (by decide) (by decide) (by omega) fun v2 st2 a2 b2 c2=>?_
   have hmany:∃many:Int,(if C0=true then D.int 30 else D.int (2+v2))=.int many/\0<=many/\many<=30:=by
    split
    ·exact⟨_,rfl,by omega,by omega⟩
    ·exact⟨_,rfl,by omega,by omega⟩
   obtain⟨many,em,hm0,hm3⟩:=hmany;simp! [zn9,zu7,ve9,wq0,xv9,em];rw[zf7 (by omega) hm0];refine zh2 (fun i ρ st''=>∃(ts:List Tr) (T:List zd0) (tk:D) (D0:Int) (y11 y12 y13 y14 y15 y16:Sl),ρ=[Sl.hnd,.bor (.bl C0),.bor (.int much),.bor (.int A4),.bor (.int A5),.own (.lst ((cov A4 A5 (0,0)).map za9)),.own (.lst (sh.map za9)),.own tk,.own (.lst (ts.map Tr.kind)),.own (.lst (ts.map Tr.place)),.bor (.int D0),y11,y12,y13,y14,y15,y16]/\ze6 A4 A5 sh ts/\Holds tk (81+81*i) (inT T)/\(∀c,c∈T↔c∈sh\/∃t∈ts,c∈t.cells)/\1<=D0/\D0<=much/\st''.2<=st2.2+13*i) 0 ⟨[],sh,tk,1,_,_,_,_,_,_,rfl,⟨w1,w9,h1,h9,e2,by simp,fun t ht=>(by cases ht),List.Pairwise.nil⟩,hT.imp (by omega) fun _=>Iff.rfl,by simp,by omega,by omega,by simp⟩ (fun i d ρ st'' hd hI P pn=>?_) fun ρ st'' hI=>?_
   ·obtain⟨ts,T,tk,D0,y11,y12,y13,y14,y15,y16,er,ho,hT,hc,hr1,hr2,hst⟩:=hI
    obtain⟨rfl,hi⟩:=zf0 hd;subst er;rw[Af0] at hT hst;have hb2:st''.2<2 ^ 38+1000:=by omega
    have hi30:i<30:=by omega
    clear hs t1 e4 c2 a2 b2 hm0 hm3 hi em;refine⟨_,rfl,?_⟩;simp_all!;simp!;refine wl1 (by omega) w1 w9 h1 h9 hb fun a u ways s st3 g1 g2 g3 g4 g5 g6 t3=>?_
    have kf:(kd a u ways s).flat=false:=rfl;simp! [kf];simp_all!;simp! [kd,oIx,at0,at1,zu7,zn9];refine zd7 (by omega) (by omega) (by omega) fun x st4 a4 b4 c4=>?_
    refine zd7 (by omega) (by omega) (by omega) fun y st5 a5 b5 c5=>?_
    simp! [yc8];simp_all!;simp!;refine zo6 (p:=(x,y)) (by omega) (by omega) (by omega) (by omega) ?_;simp! [zb3 zd8];simp_all!;simp!;refine wk9 (by omega) (by omega) (by omega) (by omega) g5 ?_;have hroom:1<=yo3 A4 A5 a u ways/\yo3 A4 A5 a u ways<=81:=by
     have z1:1<=A4-a+1/\A4-a+1<=9:=by omega
     have z2:1<=A5-u+1/\A5-u+1<=9:=by omega
     unfold yo3;split
     ·constructor
      ·have:=Int.mul_le_mul z1.1 z2.1 (by omega) (by omega);omega
      ·have:=Int.mul_le_mul z1.2 z2.2 (by omega) (by omega);omega
     ·split
      ·omega
      ·split<;>omega
    generalize yo3 A4 A5 a u ways=room at hroom;have hown:(cov a u (x,y)).length<=81:=zz5 (by omega) (by omega);have cm:xp9 D0 room:=.inr ⟨by omega,by omega⟩;simp! [ym7,Aa0,zu7,yj1 cm];split
    ·rename_i hlen
     have hlen:ts.length<12:=by have:=of_decide_eq_true hlen;omega
     split
     ·rename_i hle
      have hle:D0*room<=much:=of_decide_eq_true hle;refine zg5 (vj6 T) (fun ρ=>∃x,ρ=[x,.bor tk]) ⟨_,rfl⟩ (fun d hd ρ hI114=>?_) (zi4 (by rw[Aa0];omega)) ?_
      ·obtain⟨x',e⟩:=hI114
       subst e;obtain⟨c,hc',rfl⟩:=Bf0.mp hd;refine⟨_,rfl,⟨_,rfl⟩,⟨rfl,rfl⟩,?_⟩;simp! [(hT.in_ (zw5 c) (b:=decide (c∈T)) (by rw[decide_eq_true_eq,vb2])).1];rfl
      ·rw[xj1]
       simp! [yd0,zq0,Ap0];split
       ·rename_i hany
        have hfree:∀c∈cov a u (x,y),c∉T:=fun c hc' hcT=>by
         have:(List.map (fun c=>decide (c∈T)) (cov a u (x,y))).any id=true:=by
          rw[List.any_map,List.any_eq_true];exact⟨c,hc',by simpa using hcT⟩
         rw[this] at hany;cases hany
        have hpos:1<=D0*room:=by have:=Int.mul_le_mul hr1 hroom.1 (by omega) (by omega);omega
        simp_all!;simp! [yj1 cm];simp_all!;simp! [zl7,zb3 zq8];refine⟨_,zt5 (by simp[D.imm,D.immL]) (by rw[Aa0];omega),?_⟩;simp_all!;simp! [zl7,zb3 zf6];refine⟨_,zt5 (by simp[D.imm,D.immL]) (by rw[Aa0];omega),?_⟩;simp!;refine zh2 (fun j ρ st''=>∃(tk':D) (y16:Sl),ρ=[Sl.hnd,.bor (.bl C0),.bor (.int much),.bor (.int A4),.bor (.int A5),.own (.lst ((cov A4 A5 (0,0)).map za9)),.own (.lst (sh.map za9)),.own tk',.own (.lst (ts.map Tr.kind++[D.tup [.int a,.int u,.str ways,.int s]])),.own (.lst (ts.map Tr.place++[D.tup [.int x,.int y]])),.bor (.int (D0*room)),.bor (.int (0+(i:Int))),.bor (D.tup [.int a,.int u,.str ways,.int s]),.bor (D.tup [.int x,.int y]),.bor (.lst ((cov a u (x,y)).map za9)),.bor (.int room),y16]/\Holds tk' (81+81*i+j) (inT (T++(cov a u (x,y)).take j))/\st''=st5) 0 ⟨tk,_,rfl,by simpa using hT,rfl⟩ (fun j d ρ st'' hd hI P2 pn2=>?_) fun ρ st'' hI=>?_
        ·obtain⟨tk',y16,er,hT',es⟩:=hI
         rw[Ag0] at hd;cases q:(cov a u (x,y))[j]? with
         | none=>rw[q] at hd;cases hd
         | some c=>
           rw[q] at hd;cases hd;subst er es;have hj:j<(cov a u (x,y)).length:=(Ac0.mp q).1;obtain⟨ks,vs,rfl,k1,k2,k3,k4⟩:=id hT';refine⟨_,rfl,?_⟩;simp! [yn0,k1,zw5];refine⟨ks,vs,rfl,yx6 (by omega),pn2 _ _ ⟨_,_,rfl,?_,rfl⟩⟩;refine(hT'.put (k:=ck c) (v:=.bl true) imm_bl).imp (by omega) fun k=>?_
           rw[Af0,Ba0,q];simp only[inT,At0,Option.toList,Am0];constructor
           ·rintro (⟨c',h1,h2⟩ | h)
            ·exact⟨c',by rcases h1 with h1 | h1<;>simp[h1],h2⟩
            ·exact⟨c,by simp,h⟩
           ·rintro ⟨c',h1,h2⟩
            rcases h1 with h1 | h1 | h1
            ·exact .inl ⟨c',.inl h1,h2⟩
            ·exact .inl ⟨c',.inr h1,h2⟩
            ·subst h1;exact .inr h2
        ·obtain⟨tk',y16,er,hT',es⟩:=hI
         subst er es;rw[Af0,Aa0,Bi0] at hT';have hnew:vo3 A4 A5 sh ⟨a,u,ways,s,x,y⟩:=⟨g1,g3,a4,by show x+a<=A4;omega,a5,by show y+u<=A5;omega,g5,g6,fun c hc' hcs=>hfree c hc' ((hc c).mpr (.inl hcs))⟩;refine pn _ _ ⟨ts++[⟨a,u,ways,s,x,y⟩],T++cov a u (x,y),tk',D0*room,.bor (.int (0+(i:Int))),.bor (D.tup [.int a,.int u,.str ways,.int s]),.bor (D.tup [.int x,.int y]),.bor (.lst ((cov a u (x,y)).map za9)),.bor (.int room),y16,?_,⟨w1,w9,h1,h9,ho.sub,by rw[Al0];simp;omega,fun t ht=>?_,?_⟩,hT'.imp (by omega) fun _=>Iff.rfl,fun c=>?_,hpos,hle,by omega⟩
         ·rw[Aq0,Aq0];rfl
         ·rcases At0.mp ht with ht | ht
          ·exact ho.tr t ht
          ·rw[Am0.mp ht];exact hnew
         ·refine Bg0.mpr ⟨ho.apart,List.pairwise_singleton _ _,fun t ht t' ht' c hc1 hc2=>?_⟩
          rw[Am0.mp ht'] at hc2;exact hfree c hc2 ((hc c).mpr (.inr ⟨t,ht,hc1⟩))
         ·rw[At0,hc c]
          constructor
          ·rintro ((h | ⟨t,ht,h⟩) | h)
           ·exact .inl h
           ·exact .inr ⟨t,by simp[ht],h⟩
           ·exact .inr ⟨⟨a,u,ways,s,x,y⟩,by simp,h⟩
          ·rintro (h | ⟨t,ht,h⟩)
           ·exact .inl (.inl h)
           ·rcases At0.mp ht with ht | ht
            ·exact .inl (.inr ⟨t,ht,h⟩)
            ·rw[Am0.mp ht] at h;exact .inr h
       ·exact pn _ _ ⟨ts,T,tk,D0,_,_,_,_,_,_,rfl,ho,hT.imp (by omega) fun _=>Iff.rfl,hc,hr1,hr2,by omega⟩
     ·exact pn _ _ ⟨ts,T,tk,D0,_,_,_,_,_,_,rfl,ho,hT.imp (by omega) fun _=>Iff.rfl,hc,hr1,hr2,by omega⟩
    ·exact pn _ _ ⟨ts,T,tk,D0,_,_,_,_,_,_,rfl,ho,hT.imp (by omega) fun _=>Iff.rfl,hc,hr1,hr2,by omega⟩
   ·obtain⟨ts,T,tk,D0,y11,y12,y13,y14,y15,y16,er,ho,hT,hc,hr1,hr2,hst⟩:=hI
    subst er;rw[zd1,Af0] at hst;simp! [yc7,zb3 zd8,zb3 zq8,zb3 zf6,wp8,yc8];exact hq A4 A5 sh ts st'' ho (by omega)
noncomputable def dx (d:Int):Int:=if d=0 then 1 else if d=2 then -1 else 0
noncomputable def dy (d:Int):Int:=if d=1 then 1 else if d=3 then -1 else 0
noncomputable def Dir (d:Int):Prop:=0<=d/\d<4
theorem Dir.cases {d:Int} (h:Dir d):d=0\/d=1\/d=2\/d=3:=by obtain⟨h1,h2⟩:=h;omega
noncomputable def yf6:List D->Res Unit D:=dfn 2 2 zu4.1
theorem yu4 {p:zd0} {d:Int} {Q:D->Unit->Prop} {E:Exn->Unit->Prop} (hd:Dir d) (hq:Q (za9 (p.1+dx d,p.2+dy d)) ()):wpR (yf6 [za9 p,.int d]) Q E:=by
 refine zi5 rfl (by decide) ?_;unfold zu4;dsimp only;have l4:∀a b c e:Int,xu4 [.int a,.int b,.int c,.int e]=some (.lst [.int a,.int b,.int c,.int e]):=fun a b c e=>zn8 (by simp[D.immL,D.imm]) (by simp)
 rcases hd.cases with r | r | r | r<;>subst r<;>simp?! [zb0,za9,oIx,pt0,pt1,l4,at0,at1,at2,at3,zn9,zu7,yc8]<;>exact hq
noncomputable def wf0:List D->Res Unit D:=dfn 2 2 ya7.1
noncomputable def yl0 (ways:Str) (d:Int):Bool:=ways == "any"||ways == (if d % 2=0 then "row" else "column")
theorem wl4 {w h s d:Int} {ways:Str} {Q:D->Unit->Prop} {E:Exn->Unit->Prop} (hd:Dir d) (hq:Q (.bl (yl0 ways d)) ()):wpR (wf0 [kd w h ways s,.int d]) Q E:=by
 refine zi5 rfl (by decide) ?_;unfold ya7;dsimp only;have cm:(0:Int)<2:=by decide
 have i2:∀{d:Int},iOp (fun _ j=>0<j) (fun i j=>D.int (i % j)) (.int d) (.int 2)=some (.int (d % 2)):=fun {d}=>xw6 (C:=fun _ j=>0<j) cm
 simp?! [zb0,kd,oIx,at2,yj3,wq0,i2];by_cases hw:ways == ("any" : Str)
 ·simp?! [hw,zb0]
  have:yl0 ways d=true:=by simp[yl0,hw]
  rw[this] at hq;exact hq
 ·have hw':(ways == ("any" : Str))=false:=by simpa using hw
  simp?! [hw',zb0];have e:yl0 ways d=(ways == (if d % 2=0 then "row" else "column")):=by simp[yl0,hw']
  rw[e] at hq;rcases hd.cases with r | r | r | r<;>subst r<;>exact⟨.inl imm_bl,hq⟩
noncomputable def Tr.ahead (t:Tr) (d:Int):List zd0:=cov t.w t.h (t.x+dx d,t.y+dy d)
noncomputable def Tr.to (t:Tr) (d:Int):Tr:={ t with x:=t.x+dx d,y:=t.y+dy d }
noncomputable def okT (A4 A5:Int) (sh:List zd0) (t:Tr) (d:Int):Prop:=yl0 t.ways d=true/\∀c∈t.ahead d,c∉sh/\0<=c.1/\c.1<A4/\0<=c.2/\c.2<A5
noncomputable def hit (t u:Tr) (d:Int):Prop:=∃c∈u.cells,c∈t.ahead d
inductive yg6 (ts:List Tr) (d:Int) (n:Nat):Nat->Prop where
 | self:yg6 ts d n n
 | more {m k:Nat} {t u:Tr}:yg6 ts d n m->ts[m]?=some t->ts[k]?=some u->hit t u d->yg6 ts d n k
theorem yk7 (c:zd0):∀l:List zd0,inD (za9 c) (l.map za9)=some (decide (c∈l))
 | []=>by simp[inD]
 | a::l=>by
   show ((D.eqq (za9 a) (za9 c)).bind fun b=>(inD (za9 c) (l.map za9)).map fun x=>b||x)=_;rw[yk7 c l];have e:D.eqq (za9 a) (za9 c)=some (decide (a=c)):=by
    show (D.eqq (.int a.1) (.int c.1)).bind (fun x=>(D.eqL [.int a.2] [.int c.2]).map fun y=>x&&y)=_;rw[ys8];show (D.eqL [.int a.2] [.int c.2]).map (fun y=>(a.1 == c.1)&&y)=_;show ((D.eqq (.int a.2) (.int c.2)).bind (fun x=>(D.eqL [] []).map fun y=>x&&y)).map (fun y=>(a.1 == c.1)&&y)=_;rw[ys8];show some ((a.1 == c.1)&&((a.2 == c.2)&&true))=_;rw[Option.some.injEq,Bool.eq_iff_iff];simp[Prod.ext_iff]
   rw[e];simp only[Option.bind_some,Ap0,Option.some.injEq];by_cases h:a=c
   ·subst h;simp
   ·have h':c≠a:=fun z=>h z.symm
    simp[h,h',Ai0]
theorem xi6 (k:Nat):∀l:List Nat,inD (.int k) (l.map fun j:Nat=>D.int j)=some (decide (k∈l))
 | []=>by simp[inD]
 | a::l=>by
   show ((D.eqq (.int a) (.int k)).bind fun b=>(inD (.int k) (l.map fun j:Nat=>D.int j)).map fun x=>b||x)=_;rw[xi6 k l];simp only[ys8,Option.bind_some,Ap0,Option.some.injEq];by_cases h:a=k
   ·subst h;simp
   ·have h':k≠a:=fun z=>h z.symm
    have h'':((a:Int) == (k:Int))=false:=by rw[beq_eq_false_iff_ne];omega
    rw[h''];simp[h',Ai0]
theorem yc9 {neg:Bool} {c:zd0} {l:List zd0}:oIn neg (za9 c) (.tup (l.map za9))=some (.bl (if neg then !decide (c∈l) else decide (c∈l)))/\oIn neg (za9 c) (.lst (l.map za9))=some (.bl (if neg then !decide (c∈l) else decide (c∈l))):=by
 have hd:D.depL (l.map za9)<=30:=Ax0 (zm6 wg5 l) (by decide);constructor
 ·show (if D.depL (l.map za9)<=30 then (inD (za9 c) (l.map za9)).map fun x=>D.bl (if neg then !x else x) else none)=_
  rw[if_pos hd,yk7];rfl
 ·show (if D.depL (l.map za9)<=30 then (inD (za9 c) (l.map za9)).map fun x=>D.bl (if neg then !x else x) else none)=_
  rw[if_pos hd,yk7];rfl
theorem ys1 {neg:Bool} {k:Nat} {l:List Nat}:oIn neg (.int k) (.lst (l.map fun j:Nat=>D.int j))=some (.bl (if neg then !decide (k∈l) else decide (k∈l))):=by
 have hd:D.depL (l.map fun j:Nat=>D.int j)<=30:=Ax0 (zm6 (n:=0) (fun a=>by simp[D.dep]) l) (by decide);show (if D.depL (l.map fun j:Nat=>D.int j)<=30 then (inD (.int k) (l.map fun j:Nat=>D.int j)).map fun x=>D.bl (if neg then !x else x) else none)=_;rw[if_pos hd,xi6];rfl
theorem zq9 {ts:List Tr} {m:Nat} {t:Tr} (h:ts[m]?=some t):oIx (.tup (ts.map Tr.kind)) (.int m)=some t.kind:=(yk3 (zq8 t) (by omega) (by rw[Aw0,Ag0,h];rfl)).2
theorem zw7 {ts:List Tr} {m:Nat} {t:Tr} (h:ts[m]?=some t):oIx (.tup (ts.map Tr.place)) (.int m)=some t.place:=(yk3 (zf6 t) (by omega) (by rw[Aw0,Ag0,h];rfl)).2
noncomputable def zg9 (g:List Nat):List D:=g.map fun j:Nat=>D.int j
theorem zj1 (g:List Nat):D.immL (zg9 g)=true:=zb3 (fun a=>imm_int) g
structure Cfg (A4 A5:Int) (sh:List zd0) (ts:List Tr):Prop where
 few:ts.length<=12
 sh:sh.length<=81
 wh:∀t∈ts,0<=t.w/\t.w<=9/\0<=t.h/\t.h<=9
theorem xg1 {S:Type} {E:Exn->S->Prop} {st:S} {Q:D->S->Prop} {l T:List zd0} {x:Sl} {d:D} (hd:d=.tup (T.map za9)\/d=.lst (T.map za9)) (hl:l.length<=1000) (hq:Q (.bl (decide (∃c∈l,c∈T))) st) :
 wpR (zy4 S (gN 0) (xx4 S) (fP S (o2 (oIn false) (vr 0) (vr 1))) (l.map za9) [] [x,.bor d] st) (fun r st2=>wpR (zj2 (yd0 (fun bs=>bs.any id) [D.lst r]) st2) Q E) E:=by
 refine zg5 (vj6 T) (fun ρ=>∃x,ρ=[x,.bor d]) ⟨_,rfl⟩ (fun e he ρ hI115=>?_) (zi4 (by rw[Aa0];omega)) ?_
 ·obtain⟨x',er⟩:=hI115
  subst er;obtain⟨c,hc',rfl⟩:=Bf0.mp he;refine⟨_,rfl,⟨_,rfl⟩,⟨rfl,rfl⟩,?_⟩;have e1:oIn false (za9 c) d=some (.bl (decide (c∈T))):=by
   rcases hd with r | r
   ·rw[r];exact yc9.1
   ·rw[r];exact yc9.2
  simp! [e1];rfl
 ·rw[xj1]
  simp! [yd0,zq0,Ap0];have e2:(l.map fun c=>decide (c∈T)).any id=decide (∃c∈l,c∈T):=by
   rw[Bool.eq_iff_iff,List.any_map,List.any_eq_true,decide_eq_true_eq];simp
  rw[e2];exact hq
noncomputable def xm3:List D->Res Unit D:=dfn 14 4 (ya3 zo2 yf6 wf0).1
theorem xh7 {g:List Nat} {j m:Nat} (h:g[j]?=some m):oIx (.lst (zg9 g)) (.int j)=some (.int m):=(yk3 imm_int (by omega) (by rw[Aw0];unfold zg9;rw[Ag0,h];rfl)).1
theorem yk5 (g:List Nat):zw6 (zg9 g)=some (g.map fun j:Nat=>(j:Int)):=yp1 (f:=fun j:Nat=>(j:Int)) g
set_option tactic.hygienic true in
theorem yv0 (g:List Nat):∃g':List Nat,(sortI (g.map fun j:Nat=>(j:Int))).map D.int=zg9 g'/\g'.Perm g/\g'.Pairwise (·<=·):=by
 have hp:=PySem.W.sortI_perm (g.map fun j:Nat=>(j:Int));have hr:=PySem.W.sortI_rises (g.map fun j:Nat=>(j:Int));have hm:∀i∈sortI (g.map fun j:Nat=>(j:Int)),((i.toNat:Nat):Int)=i:=fun i hi=>by
  obtain⟨j,_,e⟩:=Bf0.mp (hp.mem_iff.mp hi);omega
 refine⟨(sortI (g.map fun j:Nat=>(j:Int))).map Int.toNat,?_,?_,?_⟩
 ·unfold zg9
  rw[Bj0];refine List.map_congr_left fun i hi=>?_
  show D.int i=D.int ((i.toNat:Nat):Int);rw[hm i hi]
 ·have:=hp.map Int.toNat
  rw[Bj0] at this;refine this.trans (List.Perm.of_eq ?_);rw[show (Int.toNat ∘ fun j:Nat=>(j:Int))=id from funext fun j=>Aw0 j,List.map_id]
 ·rw[List.pairwise_map]
  exact hr.imp fun h=>Int.toNat_le_toNat h
noncomputable def xa8 (A4 A5:Int) (sh:List zd0) (ts:List Tr) (d:Int) (n:Nat) (t:Tr):Prop:=
 t.s<0\/(∃m t',yg6 ts d n m/\ts[m]?=some t'/\¬okT A4 A5 sh t' d)\/(t.s=0/\∃m,m≠n/\yg6 ts d n m)
structure zj9 (A4 A5:Int) (sh:List zd0) (ts:List Tr) (d:Int) (n:Nat) (g:List Nat):Prop where
 nd:g.Nodup
 up:g.Pairwise (·<=·)
 all:∀m,m∈g↔yg6 ts d n m
 lt:∀m∈g,m<ts.length
 ok:∀m∈g,∀t,ts[m]?=some t->okT A4 A5 sh t d
 str:∀t,ts[n]?=some t->¬t.s<0/\(t.s=0->∀m∈g,m=n)
noncomputable def muS (ρ:Rho):Nat:=match (ρ[9]?:Option Sl) with
 | some (Sl.bor (D.int a))=>20-a.toNat
 | _=>0
theorem zo1:∀(N:Nat) (g:List Nat),g.Nodup->(∀m∈g,m<N)->g.length<=N
 | 0,g,_,h=>by
   cases g with
   | nil=>exact Ae0 _
   | cons a g=>exact absurd (h a (by simp)) (Cd0 _)
 | N+1,g,nd,h=>by
   by_cases hN:N∈g
   ·have h1:=zo1 N (g.erase N) (nd.erase N) fun m hm=>by
     have:=h m (List.mem_of_mem_erase hm);have h2:m≠N:=fun z=>by subst z;exact(List.Nodup.not_mem_erase nd) hm
     omega
    rw[List.length_erase_of_mem hN] at h1;omega
   ·have h1:=zo1 N g nd fun m hm=>by
     have:=h m hm;have h2:m≠N:=fun z=>by subst z;exact hN hm
     omega
    omega
noncomputable def zn4 (A4 A5:Int) (c:zd0):Bool:=(decide (0<=c.1)&&decide (c.1<A4))&&(decide (0<=c.2)&&decide (c.2<A5))
noncomputable def vj3 (A4 A5:Int):D->D
 | .tup [.int x,.int y]=>.bl (zn4 A4 A5 (x,y))
 | _=>.non
theorem we2 (A4 A5:Int) (l:List zd0):(l.map za9).map (vj3 A4 A5)=l.map fun c=>.bl (zn4 A4 A5 c):=by rw[Bj0];rfl
theorem xq1 {S:Type} {E:Exn->S->Prop} {st:S} {Q:D->S->Prop} {l:List zd0} {x y:Sl} {A4 A5:Int} (hl:l.length<=1000) (hq:Q (.bl (l.all (zn4 A4 A5))) st) :
 wpR (zy4 S (gT 2 (gsCons (gN 0) (gsCons (gN 1) gsNil))) (xx4 S) (wr9 S (yz0 S (zu7 fun i j=>.bl (decide (i<=j))) (zu7 fun i j=>.bl (decide (i<j))) (fP S (cn (.int 0))) (fP S (vr 0)) (fP S (vr 2))) (yz0 S (zu7 fun i j=>.bl (decide (i<=j))) (zu7 fun i j=>.bl (decide (i<j))) (fP S (cn (.int 0))) (fP S (vr 1)) (fP S (vr 3)))) (l.map za9) [] [x,y,.bor (.int A4),.bor (.int A5)] st) (fun r st2=>wpR (zj2 (yd0 (fun bs=>bs.all id) [D.lst r]) st2) Q E) E:=by
 refine zg5 (vj3 A4 A5) (fun ρ=>∃x y,ρ=[x,y,.bor (.int A4),.bor (.int A5)]) ⟨_,_,rfl⟩ (fun e he ρ hI116=>?_) (zi4 (by rw[Aa0];omega)) ?_
 ·obtain⟨x',y',er⟩:=hI116
  subst er;obtain⟨c,hc',rfl⟩:=Bf0.mp he;refine⟨_,rfl,⟨_,_,rfl⟩,⟨rfl,rfl⟩,?_⟩;simp! [zu7];have e:vj3 A4 A5 (za9 c)=.bl (zn4 A4 A5 c):=rfl;rw[e];unfold zn4;by_cases h1:0<=c.1<;>by_cases h2:c.1<A4<;>by_cases h3:0<=c.2<;>by_cases h4:c.2<A5<;>simp[h1,h2,h3,h4,D.imm]
 ·rw[we2]
  simp! [yd0,zq0,Ap0];have e2:(l.map fun c=>zn4 A4 A5 c).all id=l.all (zn4 A4 A5):=by rw[List.all_map];rfl
  rw[e2];exact hq
theorem wp_step {A4 A5:Int} {sh:List zd0} {ts:List Tr} {n:Nat} {d:Int} {t0:Tr} {Q:D->Unit->Prop} {E:Exn->Unit->Prop} (hc:Cfg A4 A5 sh ts) (hn:ts[n]?=some t0) (hd:Dir d)
 (hN:xa8 A4 A5 sh ts d n t0->Q .non ()) (hL:∀g:List Nat,zj9 A4 A5 sh ts d n g->Q (.lst (zg9 g)) ()):wpR (xm3 [zd2 A4 A5 sh ts,za8 ts,.int n,.int d]) Q E:=by
 refine zi5 rfl (by decide) ?_;unfold ya3;dsimp only;rw  [zb0];simp! [zd2,za8];rw  [zb0];simp! [zq9 hn];have ks:∀t:Tr,oIx t.kind (.int 3)=some (.int t.s):=fun t=>rfl
 simp! [ks,zu7];by_cases hs:t0.s<0
 ·rw[Ap1 hs]
  simp!;exact hN (.inl hs)
 ·rw[Ao1 hs]
  simp!;simp_all!;simp! [zn8];simp_all!;simp!;rw  [zb0];refine yb1 (fun ρ st=>∃(g:List Nat) (at':Nat) (x10 x11 x12 x13:Sl),ρ=[Sl.bor (zd2 A4 A5 sh ts),.bor (za8 ts),.bor (.int n),.bor (.int d),.bor (.int A4),.bor (.int A5),.bor (.tup (sh.map za9)),.bor (.tup (ts.map Tr.kind)),.own (.lst (zg9 g)),.bor (.int at'),x10,x11,x12,x13]/\g.Nodup/\(∀m∈g,m<ts.length/\yg6 ts d n m)/\n∈g/\at'<=g.length/\(∀j m t,j<at'->g[j]?=some m->ts[m]?=some t->okT A4 A5 sh t d/\∀k u,ts[k]?=some u->hit t u d->k∈g)) (fun ρ _=>muS ρ) ⟨[n],0,_,_,_,_,rfl,by simp,fun m hm=>?_,by simp,by simp,fun j m t hj=>absurd hj (Cd0 _)⟩ ?_
  ·rw[Am0.mp hm]
   exact⟨(Ac0.mp hn).1,.self⟩
  ·intro ρ st hI P Z pn pr pz
   obtain⟨g,at',x10,x11,x12,x13,rfl,nd,hg,hng,hat,C3⟩:=hI;have hgl:g.length<=ts.length:=zo1 _ g nd fun m hm=>(hg m hm).1
   have few:=hc.few;have gl:(zg9 g).length=g.length:=by unfold zg9;rw[Aa0]
   simp! [ym7,zu7,gl];by_cases hlt:at' < g.length
   ·rw[Ap1 (show ((at':Nat):Int)<(g.length:Int) by omega),if_pos rfl]
    obtain⟨m,hm⟩:∃m,g[at']?=some m:=⟨_,Ab0 hlt⟩;have hmg:=Aj0 hm;obtain⟨hmN,hmR⟩:=hg m hmg;obtain⟨t,ht⟩:∃t,ts[m]?=some t:=⟨_,Ab0 hmN⟩;obtain⟨q1,q2,q3,q4⟩:=hc.wh t (Aj0 ht);simp_all!;simp! [xh7 hm];simp_all!;simp! [za8,zq9 ht,zw7 ht];refine yu4 (p:=(t.x,t.y)) hd ?_;refine zo6 (by omega) (by omega) q1 q3 ?_;have ha:cov t.w t.h ((t.x,t.y).1+dx d,(t.x,t.y).2+dy d)=t.ahead d:=rfl;rw[ha];have ha81:(t.ahead d).length<=81:=zz5 q2 q4;simp! [zb3 zd8];simp_all!;simp! [zq9 ht];refine wl4 hd ?_;by_cases hgo:yl0 t.ways d=true
    ·rw[hgo]
     simp!;refine xg1 (.inl rfl) (by omega) ?_;simp!;by_cases hsh:∃c∈t.ahead d,c∈sh
     ·rw[Ap1 hsh,if_pos rfl]
      refine hR_ _ _ ?_;refine pr _ _ (hN (.inr (.inl ⟨m,t,hmR,ht,fun ok=>?_⟩)));obtain⟨c,h1,h2⟩:=hsh;exact(ok.2 c h1).1 h2
     ·rw[Ao1 hsh]
      simp!;simp_all!;simp!;refine xq1 (by omega) ?_;simp!;by_cases hin:(t.ahead d).all (zn4 A4 A5)=true
      ·rw[hin]
       simp!;have hok:okT A4 A5 sh t d:=⟨hgo,fun c hc'=>⟨fun h=>hsh ⟨c,hc',h⟩,by
        have:=List.all_eq_true.mp hin c hc';simp[zn4] at this;omega⟩⟩
       simp_all!;simp! [ym7,Aa0];rw[zf7 (by omega) (by omega)];refine zh2 (fun k ρ st'=>∃(g':List Nat) (x12 x13:Sl),ρ=[Sl.bor (zd2 A4 A5 sh ts),.bor (za8 ts),.bor (.int n),.bor (.int d),.bor (.int A4),.bor (.int A5),.bor (.tup (sh.map za9)),.bor (.tup (ts.map Tr.kind)),.own (.lst (zg9 g')),.bor (.int at'),.bor (.int m),.own (.lst ((t.ahead d).map za9)),x12,x13]/\g <+: g'/\g'.Nodup/\(∀m∈g',m<ts.length/\yg6 ts d n m)/\(∀k' u,k' < k->ts[k']?=some u->hit t u d->k'∈g')) 0 ⟨g,_,_,rfl,List.prefix_refl _,nd,hg,fun k' u h=>absurd h (Cd0 _)⟩ (fun k e ρ st' hd' hI P2 pn2=>?_) fun ρ st' hI=>?_
       ·obtain⟨g',x12,x13,er,hpre,nd',hg',hk'⟩:=hI
        obtain⟨rfl,hkN⟩:=zf0 hd';rw[Aw0] at hkN;subst er;rw[Af0] at hk';obtain⟨u,hu⟩:∃u,ts[k]?=some u:=⟨_,Ab0 hkN⟩;obtain⟨p1,p2,p3,p4⟩:=hc.wh u (Aj0 hu);have hgl':g'.length<=ts.length:=zo1 _ g' nd' fun m hm=>(hg' m hm).1
        have k0:(0:Int)+(k:Int)=(k:Int):=by omega
        refine⟨_,rfl,?_⟩;simp_all!;simp! [za8,k0,zq9 hu,zw7 hu];refine zo6 (p:=(u.x,u.y)) (by omega) (by omega) p1 p3 ?_;have hu81:u.cells.length<=81:=zz5 p2 p4;have hcu:cov u.w u.h (u.x,u.y)=u.cells:=rfl;rw[hcu];have on:∀g:List Nat,zg9 g=g.map fun j:Nat=>D.int j:=fun _=>rfl
        simp! [zb3 zd8,on,ys1];by_cases hkg:k∈g'
        ·rw[Ap1 hkg]
         simp!;refine pn2 _ _ ⟨g',_,_,rfl,hpre,nd',hg',fun k'' u' h1 h2 h3=>?_⟩;by_cases h4:k''=k
         ·subst h4;exact hkg
         ·exact hk' k'' u' (by omega) h2 h3
        ·rw[Ao1 hkg]
         simp!;refine xg1 (.inr rfl) (by omega) ?_;simp!;by_cases hh:∃c∈u.cells,c∈t.ahead d
         ·rw[Ap1 hh,if_pos rfl]
          have im':D.immL (g'.map fun j:Nat=>D.int j)=true:=zj1 g';simp! [zl7,im'];refine⟨_,zt5 imm_int (by rw[Aa0];omega),pn2 _ _ ⟨g'++[k],.bor (.int k),.own (.lst (u.cells.map za9)),?_,hpre.trans (List.prefix_append _ _),?_,?_,?_⟩⟩
          ·unfold zg9
           rw[Aq0];rfl
          ·rw[List.nodup_append]
           refine⟨nd',by simp,fun a ha b hb e=>?_⟩;rw[Am0.mp hb] at e;subst e;exact hkg ha
          ·intro m' hm'
           rcases At0.mp hm' with h | h
           ·exact hg' m' h
           ·rw[Am0.mp h]
            exact⟨hkN,.more hmR ht hu hh⟩
          ·intro k'' u' h1 h2 h3
           by_cases h4:k''=k
           ·subst h4;simp
           ·exact Br0 _ (hk' k'' u' (by omega) h2 h3)
         ·rw[Ao1 hh]
          simp!;refine pn2 _ _ ⟨g',_,_,rfl,hpre,nd',hg',fun k'' u' h1 h2 h3=>?_⟩;by_cases h4:k''=k
          ·subst h4
           rw[hu] at h2;cases h2;exact absurd h3 hh
          ·exact hk' k'' u' (by omega) h2 h3
       ·obtain⟨g',x12,x13,er,hpre,nd',hg',hk'⟩:=hI
        subst er;simp! [zn9,zu7];rw[Af0,zd1,Aw0] at hk';refine pn _ _ ⟨g',at' + 1,_,_,_,_,rfl,nd',hg',hpre.mem hng,?_,fun j m' t' hj hm' ht'=>?_⟩ ?_
        ·have:=hpre.length_le;omega
        ·by_cases h5:j=at'
         ·subst h5
          have e1:g'[j]?=some m:=by
           obtain⟨r,rfl⟩:=hpre;rw[Bl0 hlt];exact hm
          rw[e1] at hm';cases hm';rw[ht] at ht';cases ht';exact⟨hok,fun k u h1 h2=>hk' k u (Ac0.mp h1).1 h1 h2⟩
         ·have hj':j<at':=by omega
          have e1:g[j]?=some m':=by
           obtain⟨r,rfl⟩:=hpre;rwa [Bl0 (by omega)] at hm'
          obtain⟨z1,z2⟩:=C3 j m' t' hj' e1 ht';exact⟨z1,fun k u h1 h2=>hpre.mem (z2 k u h1 h2)⟩
        ·show 20-((at':Int)+1).toNat<20-((at':Nat):Int).toNat
         omega
      ·have hin':(t.ahead d).all (zn4 A4 A5)=false:=by simpa using hin
       rw[hin'];simp!;refine pr _ _ (hN (.inr (.inl ⟨m,t,hmR,ht,fun ok=>hin (List.all_eq_true.mpr fun c hc'=>?_)⟩)));have:=(ok.2 c hc').2;simp[zn4];omega
    ·have hgo':yl0 t.ways d=false:=by simpa using hgo
     rw[hgo'];simp!;exact pr _ _ (hN (.inr (.inl ⟨m,t,hmR,ht,fun ok=>hgo ok.1⟩)))
   ·rw[Ao1 (show ¬((at':Nat):Int)<(g.length:Int) by omega)]
    simp!;refine pz _ ?_;simp!;have hall:∀m,m∈g↔yg6 ts d n m:=fun m=>⟨fun h=>(hg m h).2,fun h=>by
     induction h with
     | self=>exact hng
     | more h1 h2 h3 h4 ih=>
       obtain⟨j,hj⟩:=Av0 ih;have hjl:j<g.length:=(Ac0.mp hj).1;exact(C3 j _ _ (by omega) hj h2).2 _ _ h3 h4⟩
    have hokg:∀m∈g,∀t,ts[m]?=some t->okT A4 A5 sh t d:=fun m hm t ht=>by
     obtain⟨j,hj⟩:=Av0 hm;have hjl:j<g.length:=(Ac0.mp hj).1;exact(C3 j m t (by omega) hj ht).1
    have fin:(t0.s=0->∀m∈g,m=n)->wpR (ve2 Unit (fP Unit (o1 yi9 (cs (vr 8) nl))) [Sl.bor (zd2 A4 A5 sh ts),.bor (za8 ts),.bor (.int n),.bor (.int d),.bor (.int A4),.bor (.int A5),.bor (.tup (sh.map za9)),.bor (.tup (ts.map Tr.kind)),.own (.lst (zg9 g)),.bor (.int at'),x10,x11,x12,x13] st) (fun fl st=>match fl with
     | .rt d=>Q d st
     | .nx _=>Q .non st
     | _=>False) E:=fun hz=>by
     obtain⟨g',e1,e2,e3⟩:=yv0 g;have os:yi9 [.lst (zg9 g)]=some (.lst (zg9 g')):=by
      show (zw6 (zg9 g)).bind (fun ns=>if ns.length<64 then some (D.lst ((sortI ns).map D.int)) else none)=_;rw[yk5];show (if (g.map fun j:Nat=>(j:Int)).length<64 then some (D.lst ((sortI (g.map fun j:Nat=>(j:Int))).map D.int)) else none)=_;rw[if_pos (by rw[Aa0];omega),e1]
     simp! [os,zj1];exact hL g' ⟨e2.symm.nodup nd,e3,fun m=>by rw[e2.mem_iff];exact hall m,fun m hm=>(hg m (e2.mem_iff.mp hm)).1,fun m hm=>hokg m (e2.mem_iff.mp hm),fun t ht=>by
      rw[hn] at ht;cases ht;exact⟨hs,fun z m hm=>hz z m (e2.mem_iff.mp hm)⟩⟩
    rw  [zb0];simp! [ym7,gl,zu7,zq9 hn,ks,zw0];by_cases hone:1<g.length
    ·rw[Ap1 (show (1:Int)<(g.length:Int) by omega)]
     simp!;by_cases hz:t0.s=0
     ·have hz':(t0.s == 0)=true:=by simpa using hz
      rw[hz',if_pos rfl];refine hN (.inr (.inr ⟨hz,?_⟩));cases g with
      | nil=>simp at hone
      | cons a g=>
        cases g with
        | nil=>simp at hone
        | cons b g=>
          by_cases ha:a=n
          ·refine⟨b,fun e=>?_,(hall b).mp (by simp)⟩
           rw[ha,e] at nd;simp at nd
          ·exact⟨a,ha,(hall a).mp (by simp)⟩
     ·have hz':(t0.s == 0)=false:=by simpa using hz
      rw[hz'];simp!;have:=fin fun z=>absurd z hz
      simp only[wp_ok,wp_bad,wp_some,wp_none,wp_sNil,wp_sSet,wp_sSetB,wp_sAsg,wp_sPar,wp_sIf,wp_sRet,wp_sRetV,xf7,wp_sMt,xf6,yu1,xf8,wp_sBad,wp_sAug,wp_fC,wv1,wp_fVk,wv2,wp_f2,wp_fA,wp_aNil,wp_aCons,wp_fCall,wp_fCallS,wh2,wp_fAndV,wp_fOrV,wp_fNotV,wp_fIfE,wp_fNeg,xq8,wp_pNo,wp_pSo,wp_iSeq,wp_iArgs,wp_fComp,wp_fB,wp_fAnd,wp_fOr,wp_fNot,wp_fTrue,wp_sPar3,wp_sItem,wp_sDPut,wp_fChain,wp_fDisp,wp_sTab2,wp_fGet,wp_sFor,wp_fP,wp_aP,wp_tP,own?,frz,frz1,pickR,gN,gT,gsCons,gsNil,D.seq?,D.immL,flat_lst,flat_dct,flat_int,flat_str,flat_bl,flat_non,flat_tup,imm_int,imm_str,imm_bl,imm_non,imm_tup,rho0,rhoS,rhoL,D.bl.injEq,D.int.injEq,D.str.injEq,List.getElem?_nil,Ay0,List.map_nil,Af0,if_true,if_false,Bool.and_true,Bool.true_and,Bool.and_self,By0,Option.bind_some,Option.some.injEq,exists_eq_left',exists_eq_left,exists_eq_right,true_or,or_true,true_and,and_true,Bool.not_true,Bool.not_false,Option.some_or,Option.none_or,List.replicate_zero,Bn0,List.cons_append,List.nil_append,g0,gS,s0,sS,lC,lN,rd,putN,put,im,kp,vr,cn,o2,cs,nl,o1,ti,tb,boS,dbb,Nat.reduceAdd,Nat.reduceLT,Nat.reduceLeDiff,Nat.reduceSub,reduceIte] at this;exact this
    ·rw[Ao1 (show ¬(1:Int)<(g.length:Int) by omega)]
     simp!;have:=fin fun _ m hm=>by
      match g,hone,hng,hm with
      | [a],_,hng,hm=>rw[Am0.mp hm,Am0.mp hng]
      | a::b::g,hone,_,_=>simp at hone
     simp only[wp_ok,wp_bad,wp_some,wp_none,wp_sNil,wp_sSet,wp_sSetB,wp_sAsg,wp_sPar,wp_sIf,wp_sRet,wp_sRetV,xf7,wp_sMt,xf6,yu1,xf8,wp_sBad,wp_sAug,wp_fC,wv1,wp_fVk,wv2,wp_f2,wp_fA,wp_aNil,wp_aCons,wp_fCall,wp_fCallS,wh2,wp_fAndV,wp_fOrV,wp_fNotV,wp_fIfE,wp_fNeg,xq8,wp_pNo,wp_pSo,wp_iSeq,wp_iArgs,wp_fComp,wp_fB,wp_fAnd,wp_fOr,wp_fNot,wp_fTrue,wp_sPar3,wp_sItem,wp_sDPut,wp_fChain,wp_fDisp,wp_sTab2,wp_fGet,wp_sFor,wp_fP,wp_aP,wp_tP,own?,frz,frz1,pickR,gN,gT,gsCons,gsNil,D.seq?,D.immL,flat_lst,flat_dct,flat_int,flat_str,flat_bl,flat_non,flat_tup,imm_int,imm_str,imm_bl,imm_non,imm_tup,rho0,rhoS,rhoL,D.bl.injEq,D.int.injEq,D.str.injEq,List.getElem?_nil,Ay0,List.map_nil,Af0,if_true,if_false,Bool.and_true,Bool.true_and,Bool.and_self,By0,Option.bind_some,Option.some.injEq,exists_eq_left',exists_eq_left,exists_eq_right,true_or,or_true,true_and,and_true,Bool.not_true,Bool.not_false,Option.some_or,Option.none_or,List.replicate_zero,Bn0,List.cons_append,List.nil_append,g0,gS,s0,sS,lC,lN,rd,putN,put,im,kp,vr,cn,o2,cs,nl,o1,ti,tb,boS,dbb,Nat.reduceAdd,Nat.reduceLT,Nat.reduceLeDiff,Nat.reduceSub,reduceIte] at this;exact this
noncomputable def zd9 (ts:List Tr) (g:List Nat) (d:Int):List Tr:=ts.mapIdx fun i t=>if i∈g then t.to d else t
theorem zg8 {ts:List Tr} {g:List Nat} {d:Int} {i:Nat}:(zd9 ts g d)[i]?=(ts[i]?).map fun t=>if i∈g then t.to d else t:=by
 unfold zd9;rw[List.getElem?_mapIdx]
theorem zk2 {ts:List Tr} {g:List Nat} {d:Int}:(zd9 ts g d).length=ts.length:=by unfold zd9;simp
theorem yo7 {ts:List Tr} {d:Int}:zd9 ts [] d=ts:=by
 apply List.ext_getElem?;intro i;rw[zg8];cases ts[i]?<;>simp
theorem xd2 {ts:List Tr} {g:List Nat} {d:Int}:(zd9 ts g d).map Tr.kind=ts.map Tr.kind:=by
 apply List.ext_getElem?;intro i;rw[Ag0,Ag0,zg8];cases ts[i]? with
 | none=>rfl
 | some t=>by_cases h:i∈g<;>simp[h]<;>rfl
theorem zh8 {A4 A5:Int} {sh:List zd0} {ts ts':List Tr} (h:ts'.map Tr.kind=ts.map Tr.kind):zd2 A4 A5 sh ts'=zd2 A4 A5 sh ts:=by unfold zd2;rw[h]
theorem xn2 {ts:List Tr} {g:List Nat} {d:Int} {t:Tr} (h:t∈zd9 ts g d):∃u∈ts,t.w=u.w/\t.h=u.h/\t.ways=u.ways/\t.s=u.s:=by
 obtain⟨i,hi⟩:=Av0 h;rw[zg8] at hi;cases q:ts[i]? with
 | none=>rw[q] at hi;cases hi
 | some u=>
   rw[q] at hi;have hi:(if i∈g then u.to d else u)=t:=Option.some.inj hi;refine⟨u,Aj0 q,?_⟩;by_cases hg:i∈g
   ·rw[if_pos hg] at hi;subst hi;exact⟨rfl,rfl,rfl,rfl⟩
   ·rw[if_neg hg] at hi;subst hi;exact⟨rfl,rfl,rfl,rfl⟩
theorem Cfg.moved {A4 A5:Int} {sh:List zd0} {ts:List Tr} {g:List Nat} {d:Int} (h:Cfg A4 A5 sh ts):Cfg A4 A5 sh (zd9 ts g d) where
 few:=by rw[zk2];exact h.few
 sh:=h.sh
 wh:=fun t ht=>by
  obtain⟨u,hu,e1,e2,_⟩:=xn2 ht;rw[e1,e2];exact h.wh u hu
theorem yo6 {ts:List Tr} {g:List Nat} {d:Int} {k:Nat} {t:Tr} (hk:ts[k]?=some t):((zd9 ts g d).map Tr.place).set k (t.to d).place=(zd9 ts (g++[k]) d).map Tr.place:=by
 apply List.ext_getElem?;intro i;rw[List.getElem?_set,Ag0,Ag0,zg8,zg8,Aa0,zk2];have hkl:k<ts.length:=(Ac0.mp hk).1;by_cases h:k=i
 ·subst h
  rw[if_pos rfl,if_pos hkl,hk];simp
 ·rw[if_neg h]
  cases ts[i]? with
  | none=>rfl
  | some u=>
    have h':i≠k:=fun z=>h z.symm
    simp[h']
inductive zi9 (A4 A5:Int) (sh:List zd0) (d:Int) (n:Nat) (ts:List Tr):Nat->List Tr->Prop where
 | zero:zi9 A4 A5 sh d n ts 0 ts
 | succ {k:Nat} {ts':List Tr} {g:List Nat}:zi9 A4 A5 sh d n ts k ts'->zj9 A4 A5 sh ts' d n g->zi9 A4 A5 sh d n ts (k+1) (zd9 ts' g d)
theorem zi9.len {A4 A5:Int} {sh:List zd0} {d:Int} {n:Nat} {ts ts':List Tr} {k:Nat} (h:zi9 A4 A5 sh d n ts k ts'):ts'.length=ts.length:=by
 induction h with
 | zero=>rfl
 | succ _ _ ih=>rw[zk2];exact ih
theorem zi9.kind {A4 A5:Int} {sh:List zd0} {d:Int} {n:Nat} {ts ts':List Tr} {k:Nat} (h:zi9 A4 A5 sh d n ts k ts'):ts'.map Tr.kind=ts.map Tr.kind:=by
 induction h with
 | zero=>rfl
 | succ _ _ ih=>rw[xd2];exact ih
theorem zi9.cfg {A4 A5:Int} {sh:List zd0} {d:Int} {n:Nat} {ts ts':List Tr} {k:Nat} (h:zi9 A4 A5 sh d n ts k ts') (hc:Cfg A4 A5 sh ts):Cfg A4 A5 sh ts':=by
 induction h with
 | zero=>exact hc
 | succ _ _ ih=>exact ih.moved
noncomputable def zu0:List D->Res Unit D:=dfn 10 3 (zu3 xm3 yf6).1
noncomputable def zv8 (n:Nat) (d many:Int):D:=.tup [.int n,.int d,.int many]
set_option tactic.hygienic true in
theorem xl4 {A4 A5:Int} {sh:List zd0} {ts:List Tr} {n:Nat} {d many:Int} {Q:D->Unit->Prop} {E:Exn->Unit->Prop} (hc:Cfg A4 A5 sh ts) (hn:n<ts.length) (hd:Dir d) (h0:0<=many) (h1:many<=1000)
 (hN:∀(k:Nat) ts' t,(k:Int)<many->zi9 A4 A5 sh d n ts k ts'->ts'[n]?=some t->xa8 A4 A5 sh ts' d n t->Q (.int k) ())
 (hL:∀ts',zi9 A4 A5 sh d n ts many.toNat ts'->Q (za8 ts') ()):wpR (zu0 [zd2 A4 A5 sh ts,za8 ts,zv8 n d many]) Q E:=by
 refine zi5 rfl (by decide) ?_;unfold zu3;dsimp only;rw  [zb0];simp! [zv8];rw  [zb0];simp!;rw[zf7 (by omega) h0];refine xb0 (fun i ρ st'=>∃(ts':List Tr) (x6 x7 x8 x9:Sl),ρ=[Sl.bor (zd2 A4 A5 sh ts),.bor (za8 ts'),.bor (zv8 n d many),.bor (.int n),.bor (.int d),.bor (.int many),x6,x7,x8,x9]/\zi9 A4 A5 sh d n ts i ts') 0 ⟨ts,_,_,_,_,rfl,.zero⟩ (fun i e ρ st' he hI P pn pr=>?_) fun ρ st' hI=>?_
 ·obtain⟨ts',x6,x7,x8,x9,er,hst⟩:=hI
  obtain⟨rfl,hi⟩:=zf0 he;subst er;rw[Af0] at hst;have hc':=hst.cfg hc;obtain⟨t,ht⟩:∃t,ts'[n]?=some t:=⟨_,Ab0 (by rw[hst.len];exact hn)⟩;have k0:(0:Int)+(i:Int)=(i:Int):=by omega
  refine⟨_,rfl,?_⟩;simp_all!;simp! [k0];rw[<-zh8 hst.kind];refine wp_step hc' ht hd (fun hno=>?_) fun g hg=>?_
  ·simp!
   simp_all!;simp! [yj2,D.isNon];exact pr _ _ (hN i ts' t (by omega) hst ht hno)
  ·have gf:(D.lst (zg9 g)).flat=true:=zj1 g
   simp! [zj1];simp_all!;simp! [yj2,D.isNon];simp_all!;simp! [za8,xu5,zb3 zf6];simp_all!;simp!;refine zh2 (fun j ρ st'=>∃(x9:Sl),ρ=[Sl.bor (zd2 A4 A5 sh ts'),.bor (za8 ts'),.bor (zv8 n d many),.bor (.int n),.bor (.int d),.bor (.int many),.bor (.int i),.bor (.lst (zg9 g)),.own (.lst ((zd9 ts' (g.take j) d).map Tr.place)),x9]) 0 ⟨_,by rw[List.take_zero,yo7];rfl⟩ (fun j e ρ st' he hI P2 pn2=>?_) fun ρ st' hI=>?_
   ·obtain⟨x9,er⟩:=hI
    unfold zg9 at he;rw[Ag0] at he;cases q:g[j]? with
    | none=>rw[q] at he;cases he
    | some k=>
      rw[q] at he;cases he;subst er;rw[Af0];have hkg:=Aj0 q;have hkl:=hg.lt k hkg;obtain⟨u,hu⟩:∃u,ts'[k]?=some u:=⟨_,Ab0 hkl⟩;have hkt:k∉g.take j:=fun hm=>by
       obtain⟨j',hj'⟩:=Av0 hm;rw[List.getElem?_take] at hj';split at hj'
       ·rename_i hlt
        have hjl:j<g.length:=(Ac0.mp q).1;have:=(List.getElem?_inj (by omega:j' < g.length) hg.nd).mp (hj'.trans q.symm);omega
       ·cases hj'
      have hpl:oIx (.lst ((zd9 ts' (g.take j) d).map Tr.place)) (.int k)=some u.place:=(yk3 (zf6 u) (by omega) (by rw[Aw0,Ag0,zg8,hu];simp[hkt])).1;refine⟨_,rfl,?_⟩;simp! [hpl];refine yu4 (p:=(u.x,u.y)) hd ?_;simp! [zl7,zb3 zf6];refine⟨k,k,rfl,?_,zd8 _,pn2 _ _ ⟨.bor (.int k),?_⟩⟩
      ·unfold ixN
       rw[if_pos (by omega),if_pos (by rw[Aa0,zk2];omega)];simp
      ·have e1:za9 ((u.x,u.y).1+dx d,(u.x,u.y).2+dy d)=(u.to d).place:=rfl
       rw[e1,yo6 hu,Af0,Ba0,q];rfl
   ·obtain⟨x9,er⟩:=hI
    subst er;have gl:(zg9 g).length=g.length:=by unfold zg9;rw[Aa0]
    rw[Af0,gl,Bi0];simp! [yc7,zb3 zf6];rw[zh8 hst.kind];exact pn _ _ ⟨zd9 ts' g d,_,_,_,_,rfl,by rw[Af0];exact .succ hst hg⟩
 ·obtain⟨ts',x6,x7,x8,x9,er,hst⟩:=hI
  subst er;rw[Af0,zd1] at hst;have:own? [Sl.bor (zd2 A4 A5 sh ts),.bor (za8 ts'),.bor (zv8 n d many),.bor (.int n),.bor (.int d),.bor (.int many),x6,x7,x8,x9] 1=some (za8 ts'):=by
   show (if (za8 ts').imm=true then some (za8 ts') else none)=_;rw[if_pos (by unfold za8;rw[imm_tup];exact zb3 zf6 _)]
  simp only[wp_sRetV];exact⟨_,this,hL ts' hst⟩
noncomputable def xb7:Nat->List D->Res Unit D
 | 0=>vn7
 | n+1=>dfn 2 2 (ya4 (xb7 n)).1
theorem yq6:∀(n:Nat) {d:D} {Q:D->Unit->Prop} {E:Exn->Unit->Prop},d.dep<n->d.lw=true->Q (.bl true) ()->wpR (xb7 n [d,d]) Q E
 | 0,d,Q,E,h,_,_=>absurd h (Cd0 _)
 | n+1,d,Q,E,hd,hp,h=>by
   refine zi5 rfl (by decide) ?_;unfold ya4;dsimp only;have lall:∀{l:List D},(∀x∈l,x.dep<n/\x.lw=true)->l.length<=sizeLine->∀{Q:List D->Unit->Prop} {E:Exn->Unit->Prop},Q ((ye9 l l).map fun _=>.bl true) ()->
    wpR (zy4 Unit (gT 2 (gsCons (gN 0) (gsCons (gN 1) gsNil))) (xx4 Unit) (xo5 Unit (xb7 n) (aP Unit (cs (vr 0) (cs (vr 1) nl)))) (ye9 l l) [] [Sl.no,Sl.no] ()) Q E:=fun {l} hx hz {Q E} hQ=>by
    refine zg5 (fun _=>.bl true) (fun ρ=>∃x y,ρ=[x,y]) ⟨_,_,rfl⟩ (fun d hd ρ hI117=>?_) (by unfold ye9;rw[List.length_zipWith];omega) hQ;obtain⟨x,y,e⟩:=hI117;subst e;obtain⟨x,hx',rfl⟩:=xt6 hd;refine⟨_,rfl,⟨_,_,rfl⟩,⟨rfl,rfl⟩,?_⟩;simp?! [zb0];exact yq6 n (hx x hx').1 (hx x hx').2 (by first | exact rfl | exact⟨rfl,rfl⟩ | exact⟨rfl,rfl,rfl⟩)
   cases d with
   | bl b=>simp[D.lw] at hp
   | dct k v=>simp[D.lw] at hp
   | fl l=>simp[D.lw] at hp
   | non=>
     rw  [zb0];simp! [yj2,D.isNon];exact h
   | int i=>
     rw  [zb0];simp! [yj2,D.isNon,isI];rw  [zb0];simp! [yj2,D.isNon,isI];rw  [zb0];simp! [yj2,D.isNon,isI];rw  [zb0];simp! [yj2,D.isNon,isI];simp! [isI,oEq,D.dep,D.eqq,Aq1,Ap0,An0];exact h
   | str i=>
     rw  [zb0];simp! [yj2,D.isNon,isI];rw  [zb0];simp! [yj2,D.isNon,isI];rw  [zb0];simp! [yj2,D.isNon,isI];rw  [zb0];simp! [isI,oEq,D.dep,D.eqq,Aq1,Ap0,An0];exact h
   | tup l=>
     have hp':D.lwL l=true/\l.length<=sizeLine:=by simpa [D.lw] using hp
     have hx:∀x∈l,x.dep<n/\x.lw=true:=fun x hx=>⟨by have:=xy1 hx;unfold D.dep at hd;omega,yk0.mp hp'.1 x hx⟩
     rw  [zb0];simp! [yj2,D.isNon,isI];rw  [zb0];simp! [yj2,D.isNon,isI];rw  [zb0];simp! [yj2,D.isNon,isI];rw  [zb0];simp! [isI,oEq,D.dep,D.eqq,ym7,An0,Ap0,Aq1];rw  [zb0];simp! [isI,oEq,D.dep,D.eqq,ym7,An0,Ap0,Aq1];simp! [ve8];refine lall hx hp'.2 ?_;simp?! [yd0,xk6,Ap0,zb0];rw[show ((ye9 l l).map fun _=>true).all id=true by simp];exact h
   | lst l=>
     have hp':D.lwL l=true/\l.length<=sizeLine:=by simpa [D.lw] using hp
     have hx:∀x∈l,x.dep<n/\x.lw=true:=fun x hx=>⟨by have:=xy1 hx;unfold D.dep at hd;omega,yk0.mp hp'.1 x hx⟩
     rw  [zb0];simp! [yj2,D.isNon,isI];rw  [zb0];simp! [yj2,D.isNon,isI];rw  [zb0];simp! [yj2,D.isNon,isI];rw  [zb0];simp! [isI,oEq,D.dep,D.eqq,ym7,An0,Ap0,Aq1];rw  [zb0];simp! [isI,oEq,D.dep,D.eqq,ym7,An0,Ap0,Aq1];simp! [ve8];refine lall hx hp'.2 ?_;simp?! [yd0,xk6,Ap0,zb0];rw[show ((ye9 l l).map fun _=>true).all id=true by simp];exact h
noncomputable def xm8:List D->Res Unit D:=dfn 6 2 yl7.1
theorem xq4 {w h:Int} {ways:Str} {s:Int} {p:zd0} {Q:D->Unit->Prop} {E:Exn->Unit->Prop} (hw:w<=30) (hh:h<=30) (h0:0<=w) (h1:0<=h) (hq:Q (.lst ((cov w h p).map za9)) ()):wpR (xm8 [kd w h ways s,za9 p]) Q E:=by
 refine zi5 rfl (by decide) ?_;unfold yl7;dsimp only;simp_all!;simp! [za9];simp_all!;simp! [yf0];simp_all!;simp! [kd,oIx,at0,at1];rw[zf7 (by omega) h0];refine zh2 (fun i ρ st'=>∃x,ρ=[.bor (kd w h ways s),.bor (za9 p),.bor (.int p.1),.bor (.int p.2),.own (.lst (((List.range i).flatMap (yz8 h p)).map za9)),x]) 0 ⟨_,rfl⟩ (fun i d ρ st' hd hI P pn=>?_) fun ρ st' hI=>?_
 ·obtain⟨x,e⟩:=hI
  obtain⟨rfl,hi⟩:=zf0 hd;subst e;have him:∀i:Nat,D.immL (((List.range i).flatMap (yz8 h p)).map za9)=true:=fun i=>zb3 zd8 _
  refine⟨_,rfl,?_⟩;simp! [zl7,him,kd,oIx,at0,at1];rw[zf7 (by omega) h1];refine zg5 (fun d=>match d with | .int j=>za9 (p.1+(i:Int),p.2+j) | _=>.non) (fun ρ=>∃x,ρ=[x,.bor (.int p.1),.bor (.int (0+(i:Int))),.bor (.int p.2)]) ⟨_,rfl⟩ (fun d hd ρ hI118=>?_) (zi4 (by rw[zd1];omega)) ?_
  ·obtain⟨x,e⟩:=hI118
   subst e;obtain⟨j,hj⟩:=Av0 hd;obtain⟨rfl,hj'⟩:=zf0 hj;refine⟨_,rfl,⟨_,rfl⟩,⟨rfl,rfl⟩,?_⟩;simp! [za9,zn9,zu7,yc8];simp
  ·have e:(zp0 0 h.toNat).map (fun d=>match d with | .int j=>za9 (p.1+(i:Int),p.2+j) | _=>D.non)=(yz8 h p i).map za9:=by
    unfold zp0 yz8;rw[Bj0,Bj0];refine List.map_congr_left fun j _=>?_
    simp[za9]
   rw[e];refine⟨_,ys2 (zb3 zd8 _) ?_,pn _ _ ⟨.bor (.int (0+(i:Int))),?_⟩⟩
   ·rw[Aa0,Aa0,List.length_flatMap]
    unfold yz8;simp only[Aa0,List.length_range,List.map_const',List.sum_replicate_nat];have:i*h.toNat<=29*30:=yf1 (by omega) (by omega);omega
   ·rw[List.range_succ,Cc0,Aq0]
    simp[za9,kd]
 ·obtain⟨x,e⟩:=hI
  subst e;rw[zd1,Af0];have him:∀i:Nat,D.immL (((List.range i).flatMap (yz8 h p)).map za9)=true:=fun i=>zb3 zd8 _
  simp! [him];exact hq
theorem xb9 {α:Type} {P:List α->Prop} (nil:P []) (append_singleton:∀l a,P l->P (l++[a])) (l:List α):P l:=by
 have h:∀l:List α,P l.reverse:=fun l=>by
  induction l with
  | nil=>exact nil
  | cons a l ih=>rw[List.reverse_cons];exact append_singleton _ _ ih
 have:=h l.reverse;rwa [List.reverse_reverse] at this
noncomputable def zq2 (W:List (zd0×Int)) (c:zd0):Option Int:=(W.reverse.find? fun p=>decide (p.1=c)).map (·.2)
theorem xv2 {c:zd0}:zq2 [] c=none:=rfl
theorem yo8 {W:List (zd0×Int)} {c0 c:zd0} {v:Int}:zq2 (W++[(c0,v)]) c=if c0=c then some v else zq2 W c:=by
 unfold zq2;rw[List.reverse_append];show ((((c0,v)::W.reverse).find? fun p=>decide (p.1=c))).map (·.2)=_;rw[Ce0];by_cases h:c0=c
 ·simp[h]
 ·simp[h]
theorem xn6 {W:List (zd0×Int)} {c:zd0} (h:∀p∈W,p.1≠c):zq2 W c=none:=by
 unfold zq2;rw[List.find?_eq_none.mpr (fun p hp=>by simpa using h p (List.mem_reverse.mp hp))];rfl
theorem zq7 {W V:List (zd0×Int)} {c:zd0}:zq2 (W++V) c=(zq2 V c).or (zq2 W c):=by
 unfold zq2;rw[List.reverse_append,List.find?_append];cases V.reverse.find? (fun p=>decide (p.1=c))<;>simp
theorem zz9 {l:List zd0} {c:zd0} {v:Int}:zq2 (l.map fun q=>(q,v)) c=if c∈l then some v else none:=by
 induction l using xb9 with
 | nil=>rfl
 | append_singleton l a ih=>
   rw[Aq0];show zq2 ((l.map fun q=>(q,v))++[(a,v)]) c=_;rw[yo8,ih];by_cases h:a=c
   ·subst h;simp
   ·have h':c≠a:=fun z=>h z.symm
    simp[h,h']
theorem yz6 {k k':List Key} {v:D}:∀{ks vs:List D},ks.length=vs.length->ze4 k ks (List.zipWith (fun d u=>if ze3 d=some k' then v else u) ks vs)=if k=k' then (ze4 k ks vs).map fun _=>v else ze4 k ks vs
 | [],[],_=>by simp[ze4]
 | a::ks,b::vs,h=>by
   show ze4 k (a::ks) ((if ze3 a=some k' then v else b)::List.zipWith _ ks vs)=_;unfold ze4;by_cases e:ze3 a=some k
   ·rw[if_pos e,if_pos e,e]
    by_cases z:k=k'
    ·subst z;simp
    ·simp[z]
   ·rw[if_neg e,if_neg e];exact yz6 (by simpa using h)
 | [],_::_,h=>by cases h
 | _::_,[],h=>by cases h
theorem yq0 {k k':List Key} {v:D}:∀{ks vs:List D},ks.length=vs.length->ze4 k (ks++[zg2 k']) (vs++[v])=(ze4 k ks vs).or (if k'=k then some v else none)
 | [],[],_=>by
   show ze4 k [zg2 k'] [v]=_;unfold ze4;rw[zk3];by_cases e:k'=k
   ·simp[e,ze4]
   ·simp[e,ze4]
 | a::ks,b::vs,h=>by
   show ze4 k (a::(ks++[zg2 k'])) (b::(vs++[v]))=_;unfold ze4;by_cases e:ze3 a=some k
   ·rw[if_pos e,if_pos e];rfl
   ·rw[if_neg e,if_neg e];exact yq0 (by simpa using h)
 | [],_::_,h=>by cases h
 | _::_,[],h=>by cases h
set_option tactic.hygienic true in
theorem wg3 {k k':List Key} {v:D} {ks vs:List D} (h:ks.length=vs.length):ze4 k (ya2 k' v ks vs).1 (ya2 k' v ks vs).2=if k'=k then some v else ze4 k ks vs:=by
 unfold ya2;split
 ·rename_i hs
  rw[yz6 h];by_cases e:k'=k
  ·subst e
   obtain⟨d,hd⟩:=Option.isSome_iff_exists.mp hs;rw[hd];simp
  ·have e':k≠k':=fun z=>e z.symm
   simp[e,e']
 ·rename_i hs
  rw[yq0 h];by_cases e:k'=k
  ·subst e
   have hn:ze4 k' ks vs=none:=by simpa using hs
   rw[hn];simp
  ·simp[e]
noncomputable def ya8 (d:D) (W:List (zd0×Int)):Prop:=∃ks vs,d=.dct (.non::ks) vs/\D.immL vs=true/\ks.length=vs.length/\ks.length<=W.length/\∀c,ze4 (ck c) ks vs=(zq2 W c).map D.int
theorem ya8.nil:ya8 (.dct [.non] []) []:=⟨[],[],rfl,rfl,rfl,Ae0 _,fun c=>by simp[ze4,xv2]⟩
theorem ya8.put {ks vs:List D} {W:List (zd0×Int)} {c0:zd0} {v:Int} (h:ya8 (.dct (.non::ks) vs) W):ya8 (.dct (.non::(ya2 (ck c0) (.int v) ks vs).1) (ya2 (ck c0) (.int v) ks vs).2) (W++[(c0,v)]):=by
 obtain⟨ks',vs',e,h1,h2,h3,h4⟩:=h;cases e;refine⟨_,_,rfl,yk8 imm_int h1,(yh6 h2).1,by have:=(yh6 (k:=ck c0) (v:=.int v) h2).2;simp;omega,fun c=>?_⟩;rw[wg3 h2,yo8,h4 c];by_cases e:c0=c
 ·subst e;simp
 ·have e':ck c0≠ck c:=fun z=>e (wj8 z)
  simp[e,e']
theorem ya8.flat {d:D} {W:List (zd0×Int)} (h:ya8 d W):d.flat=true:=by
 obtain⟨ks,vs,rfl,h1,_⟩:=h;exact h1
noncomputable def wr (ts:List Tr):List (zd0×Int):=ts.zipIdx.flatMap fun p=>p.1.cells.map fun c=>(c,(p.2:Int))
theorem xa9 {ts:List Tr} {u:Tr}:wr (ts++[u])=wr ts++u.cells.map fun c=>(c,(ts.length:Int)):=by
 unfold wr;rw[List.zipIdx_append,Cc0];simp
noncomputable def yq5 (sh:List zd0) (ts:List Tr):List (zd0×Int):=(sh.map fun c=>(c,-1))++wr ts
theorem xq0 {ts:List Tr} {c:zd0} (h:∀t∈ts,c∉t.cells):zq2 (wr ts) c=none:=by
 apply xn6;rintro ⟨q,v⟩ hq;unfold wr at hq;obtain⟨⟨t,i⟩,h1,h2⟩:=List.mem_flatMap.mp hq;obtain⟨q',h3,h4⟩:=Bf0.mp h2;have ht:t∈ts:=(List.mem_zipIdx h1).2.2▸List.getElem_mem _;intro e;cases h4;exact h t ht (by rw[<-show q=c from e];exact h3)
theorem wk6 {ts:List Tr} {c:zd0} {m:Nat} {t:Tr} (hm:ts[m]?=some t) (hc:c∈t.cells) (ap:ts.Pairwise fun a b=>∀c∈a.cells,c∉b.cells):zq2 (wr ts) c=some (m:Int):=by
 induction ts using xb9 with
 | nil=>simp at hm
 | append_singleton ts u ih=>
   rw[xa9,zq7,zz9];obtain⟨a1,_,a3⟩:=Bg0.mp ap;by_cases h:m<ts.length
   ·rw[Bl0 h] at hm
    have hcu:c∉u.cells:=a3 t (Aj0 hm) u (by simp) c hc;rw[if_neg hcu];simp only[Option.none_or];exact ih hm a1
   ·have hml:m=ts.length:=by
     have:=(Ac0.mp hm).1;rw[Al0] at this;simp at this;omega
    subst hml;rw[List.getElem?_append_right (Ae0 _)] at hm;simp at hm;subst hm;rw[if_pos hc];rfl
theorem xz2 {A4 A5:Int} {sh:List zd0} {ts:List Tr} (ho:ze6 A4 A5 sh ts) {c:zd0} {m:Nat} {t:Tr} (hm:ts[m]?=some t) (hc:c∈t.cells):zq2 (yq5 sh ts) c=some (m:Int):=by
 unfold yq5;rw[zq7,wk6 hm hc ho.apart];rfl
theorem vd9 {A4 A5:Int} {sh:List zd0} {ts:List Tr} (ho:ze6 A4 A5 sh ts) {c:zd0} (hc:c∈sh):zq2 (yq5 sh ts) c=some (-1):=by
 unfold yq5;rw[zq7,xq0 fun t ht h=>(ho.tr t ht).free c h hc,zz9,if_pos hc];rfl
theorem ve0 {sh:List zd0} {ts:List Tr} {c:zd0} (h1:c∉sh) (h2:∀t∈ts,c∉t.cells):zq2 (yq5 sh ts) c=none:=by
 unfold yq5;rw[zq7,xq0 h2,zz9,if_neg h1];rfl
noncomputable def zx6:List D->Res Unit D:=dfn 7 2 (yk9 xm8).1
theorem vj7 {A4 A5:Int} {sh:List zd0} {ts:List Tr}:oIx (zd2 A4 A5 sh ts) (.int 2)=some (.tup (sh.map za9)):=by
 show im (some (D.tup (sh.map za9)))=_;simp[im,imm_tup,zb3 zd8 sh]
theorem hall3' {A4 A5:Int} {sh:List zd0} {ts:List Tr}:oIx (zd2 A4 A5 sh ts) (.int 3)=some (.tup (ts.map Tr.kind)):=by
 show im (some (D.tup (ts.map Tr.kind)))=_;simp[im,imm_tup,zb3 zq8 ts]
theorem wt9 {ts:List Tr} (h:∀t∈ts,t.cells.length<=81):(wr ts).length<=81*ts.length:=by
 induction ts using xb9 with
 | nil=>simp[wr]
 | append_singleton ts u ih=>
   rw[xa9,Al0,Aa0,Al0];have h1:=ih fun t ht=>h t (by simp[ht])
   have h2:=h u (by simp);simp only[Bm0,List.length_nil];omega
theorem yn5 {A4 A5:Int} {sh:List zd0} {ts:List Tr} {Q:D->Unit->Prop} {E:Exn->Unit->Prop} (hc:Cfg A4 A5 sh ts) (hq:∀d,ya8 d (yq5 sh ts)->Q d ()):wpR (zx6 [zd2 A4 A5 sh ts,za8 ts]) Q E:=by
 refine zi5 rfl (by decide) ?_;unfold yk9;dsimp only;have h81:∀t∈ts,t.cells.length<=81:=fun t ht=>zz5 (hc.wh t ht).2.1 (hc.wh t ht).2.2.2
 have few:=hc.few;have shl:=hc.sh;simp_all!;simp!;simp_all!;simp! [vj7];refine zh2 (fun i ρ st'=>∃(d:D) (x3 x4 x5 x6:Sl),ρ=[Sl.bor (zd2 A4 A5 sh ts),.bor (za8 ts),.own d,x3,x4,x5,x6]/\ya8 d ((sh.take i).map fun c=>(c,-1))) 0 ⟨_,_,_,_,_,rfl,ya8.nil⟩ (fun i e ρ st' he hI P pn=>?_) fun ρ st' hI=>?_
 ·obtain⟨d,x3,x4,x5,x6,er,hd⟩:=hI
  rw[Ag0] at he;cases q:sh[i]? with
  | none=>rw[q] at he;cases he
  | some c=>
    rw[q] at he;cases he;subst er;rw[Af0] at hd;obtain⟨ks,vs,rfl,k1,k2,k3,k4⟩:=id hd;rw[Aa0,Be0] at k3;refine⟨_,rfl,?_⟩;simp! [yn0,k1,zw5];refine⟨ks,vs,rfl,yx6 (by omega),pn _ _ ⟨_,_,_,_,_,rfl,?_⟩⟩;rw[Af0];have:=hd.put (c0:=c) (v:=-1);rwa [show (sh.take i).map (fun c=>(c,(-1:Int)))++[(c,-1)]=(sh.take (i+1)).map fun c=>(c,(-1:Int)) by rw[Ba0,q,Aq0];rfl] at this
 ·obtain⟨d,x3,x4,x5,x6,er,hd⟩:=hI
  subst er;rw[Af0,Aa0,Bi0] at hd;simp!;simp_all!;have en:wd2 [.tup (ts.map Tr.kind)]=some (zt6 (ts.map Tr.kind)):=if_pos (zb3 zq8 ts);simp! [hall3',en];refine zh2 (fun i ρ st'=>∃(d:D) (x3 x4 x5 x6:Sl),ρ=[Sl.bor (zd2 A4 A5 sh ts),.bor (za8 ts),.own d,x3,x4,x5,x6]/\ya8 d (yq5 sh (ts.take i))) 0 ⟨_,_,_,_,_,rfl,by unfold yq5 wr;simpa using hd⟩ (fun i e ρ st' he hI P pn=>?_) fun ρ st' hI=>?_
  ·obtain⟨d,x3,x4,x5,x6,er,hd⟩:=hI
   obtain⟨kk,hk,rfl⟩:=zw1 he;rw[Ag0] at hk;cases q:ts[i]? with
   | none=>rw[q] at hk;cases hk
   | some t=>
     rw[q] at hk;cases hk;subst er;rw[Af0] at hd;obtain⟨q1,q2,q3,q4⟩:=hc.wh t (Aj0 q);have hil:i<ts.length:=(Ac0.mp q).1;refine⟨_,rfl,?_⟩;simp! [za8,zw7 q];refine xq4 (p:=(t.x,t.y)) (by omega) (by omega) q1 q3 ?_;have hcu:cov t.w t.h (t.x,t.y)=t.cells:=rfl;rw[hcu];simp!;refine zh2 (fun j ρ st'=>∃(d:D) (x3 x6:Sl),ρ=[Sl.bor (zd2 A4 A5 sh ts),.bor (za8 ts),.own d,x3,.bor (.int i),.bor t.kind,x6]/\ya8 d (yq5 sh (ts.take i)++(t.cells.take j).map fun c=>(c,(i:Int)))) 0 ⟨_,_,_,rfl,by simpa using hd⟩ (fun j e ρ st' he hI P2 pn2=>?_) fun ρ st' hI=>?_
     ·obtain⟨d,x3,x6,er,hd⟩:=hI
      rw[Ag0] at he;cases q5:t.cells[j]? with
      | none=>rw[q5] at he;cases he
      | some c=>
        rw[q5] at he;cases he;subst er;rw[Af0] at hd;obtain⟨ks,vs,rfl,k1,k2,k3,k4⟩:=id hd;have w1:=wt9 (ts:=ts.take i) fun t ht=>h81 t (List.mem_of_mem_take ht)
        have w2:=h81 t (Aj0 q);have kl:ks.length<=3000:=by
         unfold yq5 at k3;rw[Al0,Al0,Aa0,Aa0,Be0] at k3;rw[Be0] at w1;omega
        refine⟨_,rfl,?_⟩;simp! [yn0,k1,zw5];refine⟨ks,vs,rfl,yx6 (by omega),pn2 _ _ ⟨_,_,_,rfl,?_⟩⟩;rw[Af0];have:=hd.put (c0:=c) (v:=i);rwa [show yq5 sh (ts.take i)++(t.cells.take j).map (fun c=>(c,(i:Int)))++[(c,(i:Int))]=yq5 sh (ts.take i)++(t.cells.take (j+1)).map fun c=>(c,(i:Int)) by rw[Ba0,q5,Aq0,As0];rfl] at this
     ·obtain⟨d,x3,x6,er,hd⟩:=hI
      subst er;rw[Af0,Aa0,Bi0] at hd;refine pn _ _ ⟨d,_,_,_,_,rfl,?_⟩;rw[Af0];have e1:yq5 sh (ts.take (i+1))=yq5 sh (ts.take i)++t.cells.map fun c=>(c,(i:Int)):=by
       unfold yq5;rw[Ba0,q];show _++wr (ts.take i++[t])=_;rw[xa9,Be0,Nat.min_eq_left (by omega),As0]
      rw[e1];exact hd
  ·obtain⟨d,x3,x4,x5,x6,er,hd⟩:=hI
   subst er;rw[Af0,zp4,Aa0,Bi0] at hd;simp! [hd.flat];exact hq d hd
noncomputable def xh1:List D->Res Unit D:=dfn 2 2 xx0.1
theorem wa4 {ways:Str} {d:Int} {Q:D->Unit->Prop} {E:Exn->Unit->Prop} (hw:xa7 ways) (hd:Dir d) (hq:Q (.bl (yl0 ways d)) ()):wpR (xh1 [.str ways,.int d]) Q E:=by
 refine zi5 rfl (by decide) ?_;unfold xx0;dsimp only;have i2:∀{d:Int},iOp (fun _ j=>0<j) (fun i j=>D.int (i % j)) (.int d) (.int 2)=some (.int (d % 2)):=fun {d}=>xw6 (C:=fun _ j=>0<j) (by decide)
 rw  [zb0];simp! [yj3,zw0,i2];rcases hw with r | r | r | r<;>subst r
 ·rw  [zb0]
  simp! [yj3];exact hq
 ·rcases hd.cases with r | r | r | r<;>subst r<;>exact hq
 ·rw  [zb0]
  simp! [yj3,zw0,i2];rcases hd.cases with r | r | r | r<;>subst r<;>exact hq
 ·rw  [zb0]
  simp! [yj3];rcases hd.cases with r | r | r | r<;>subst r<;>exact hq
noncomputable def zx8:List D->Res Unit D:=dfn 4 2 zt4.1
theorem yn7 {p:zd0} {d:Int} {Q:D->Unit->Prop} {E:Exn->Unit->Prop} (hd:Dir d) (hq:Q (za9 (p.1+dx d,p.2+dy d)) ()):wpR (zx8 [za9 p,.int d]) Q E:=by
 refine zi5 rfl (by decide) ?_;unfold zt4;dsimp only;rw  [zb0];simp!;rcases hd.cases with r | r | r | r<;>subst r<;>refine⟨_,_,rfl,by decide,rfl,?_⟩<;>simp?! [za9,oIx,pt0,pt1,zn9,zu7,yc8]<;>exact hq
theorem zo9 {A4 A5:Int} {sh:List zd0} {ts:List Tr} (ho:ze6 A4 A5 sh ts):Cfg A4 A5 sh ts where
 few:=ho.few
 sh:=Ax0 ho.sub.length_le (zz5 ho.w9 ho.h9)
 wh:=fun t ht=>by
  have to:=ho.tr t ht;have:=to.w1;have:=to.h1;have:=to.xw;have:=to.yh;have:=to.x0;have:=to.y0;have:=ho.w9;have:=ho.h9;exact⟨by omega,by omega,by omega,by omega⟩
noncomputable def yg7:List D->Res Unit D:=dfn 3 3 yr1.1
theorem xl1 {w h:Int} {c:zd0} {Q:D->Unit->Prop} {E:Exn->Unit->Prop} (hq:Q (.bl (zn4 w h c)) ()):wpR (yg7 [.int w,.int h,za9 c]) Q E:=by
 refine zi5 rfl (by decide) ?_;unfold yr1;dsimp only;simp! [za9,oIx,pt0,pt1,zu7];unfold zn4 at hq;by_cases h1:0<=c.1<;>by_cases h2:c.1<w<;>by_cases h3:0<=c.2<;>by_cases h4:c.2<h<;>simp[h1,h2,h3,h4,D.imm] at hq ⊢<;>exact hq
theorem yp2 {w h:Int} {c:zd0}:zn4 w h c=true↔0<=c.1/\c.1<w/\0<=c.2/\c.2<h:=by
 simp[zn4];omega
theorem xj2 {ks vs:List D} {W:List (zd0×Int)} {c:zd0} {n:Int} (h4:∀c,ze4 (ck c) ks vs=(zq2 W c).map D.int):xn1 (.dct (.non::ks) vs) (za9 c) (.int n)=some (.int ((zq2 W c).getD n)):=by
 show im (some ((ze4 (ck c) ks vs).getD (.int n)))=_;rw[h4 c];cases zq2 W c<;>rfl
theorem we5 {A4 A5:Int} {sh:List zd0} {ts:List Tr} (ho:ze6 A4 A5 sh ts) {c:zd0} {n:Nat} (hc:c∉sh):∃v:Nat,(zq2 (yq5 sh ts) c).getD (n:Int)=(v:Int)/\(v=n\/∃u,ts[v]?=some u/\c∈u.cells)/\∀m u,ts[m]?=some u->c∈u.cells->m=v:=by
 by_cases h:∃(m:Nat) (u:Tr),ts[m]?=some u/\c∈u.cells
 ·obtain⟨m,u,h1,h2⟩:=h
  refine⟨m,by rw[xz2 ho h1 h2];rfl,.inr ⟨u,h1,h2⟩,fun m' u' h3 h4=>?_⟩;have e:=(xz2 ho h1 h2).symm.trans (xz2 ho h3 h4);have:=Option.some.inj e;omega
 ·have hno:∀t∈ts,c∉t.cells:=fun t ht hc'=>by
   obtain⟨m,hm⟩:=Av0 ht;exact h ⟨m,t,hm,hc'⟩
  exact⟨n,by rw[ve0 hc hno];rfl,.inl rfl,fun m u h1 h2=>absurd ⟨m,u,h1,h2⟩ h⟩
noncomputable def vf2:List D->Res Unit D:=dfn 9 5 (ys5 xh1 xm8 zx8 yg7).1
theorem wu4 {A4 A5:Int} {sh:List zd0} {ts:List Tr} {n:Nat} {d:Int} {t:Tr} {dd:D} {Q:D->Unit->Prop} {E:Exn->Unit->Prop} (ho:ze6 A4 A5 sh ts) (hn:ts[n]?=some t) (hd:Dir d) (hh:ya8 dd (yq5 sh ts))
 (hN:¬okT A4 A5 sh t d->Q .non ()) (hL:∀g:List Nat,okT A4 A5 sh t d->g.Nodup->(∀m,m∈g↔m≠n/\∃u,ts[m]?=some u/\hit t u d)->Q (.lst (zg9 g)) ()):wpR (vf2 [zd2 A4 A5 sh ts,za8 ts,dd,.int n,.int d]) Q E:=by
 refine zi5 rfl (by decide) ?_;unfold ys5;dsimp only;obtain⟨ks,vs,rfl,k1,k2,k3,k4⟩:=hh;have hc:=zo9 ho;obtain⟨q1,q2,q3,q4⟩:=hc.wh t (Aj0 hn);have kw:∀t:Tr,oIx t.kind (.int 2)=some (.str t.ways):=fun t=>rfl
 have h0:oIx (zd2 A4 A5 sh ts) (.int 0)=some (.int A4):=rfl;have h1:oIx (zd2 A4 A5 sh ts) (.int 1)=some (.int A5):=rfl;have few:=hc.few;simp_all!;simp! [hall3',zq9 hn];simp_all!;simp! [kw];refine wa4 (ho.tr t (Aj0 hn)).ways hd ?_;by_cases hgo:yl0 t.ways d=true
 ·rw[hgo]
  simp!;simp_all!;simp! [yf0];rw  [zb0];simp! [za8,zw7 hn];refine yn7 (p:=(t.x,t.y)) hd ?_;refine xq4 (p:=((t.x,t.y).1+dx d,(t.x,t.y).2+dy d)) (by omega) (by omega) q1 q3 ?_;have ha:cov t.w t.h ((t.x,t.y).1+dx d,(t.x,t.y).2+dy d)=t.ahead d:=rfl;rw[ha];have ha81:(t.ahead d).length<=81:=zz5 q2 q4;simp!;refine xb0 (fun i ρ st'=>∃(g:List Nat) (x7 x8:Sl),ρ=[Sl.bor (zd2 A4 A5 sh ts),.bor (za8 ts),.bor (.dct (.non::ks) vs),.bor (.int n),.bor (.int d),.bor t.kind,.own (.lst (zg9 g)),x7,x8]/\g.Nodup/\(∀m∈g,m≠n/\∃u,ts[m]?=some u/\hit t u d)/\∀c∈(t.ahead d).take i,(c∉sh/\0<=c.1/\c.1<A4/\0<=c.2/\c.2<A5)/\∀m u,ts[m]?=some u->c∈u.cells->m≠n->m∈g) 0 ⟨[],_,_,rfl,List.nodup_nil,fun m hm=>absurd hm (by simp),fun c hc=>absurd hc (by simp)⟩ (fun i e ρ st' he hI P pn pr=>?_) fun ρ st' hI=>?_
  ·obtain⟨g,x7,x8,er,nd,hg,C3⟩:=hI
   rw[Ag0] at he;cases q:(t.ahead d)[i]? with
   | none=>rw[q] at he;cases he
   | some c=>
     rw[q] at he;cases he;subst er;rw[Af0] at C3;have hca:=Aj0 q;have hgl:g.length<=ts.length:=zo1 _ g nd fun m hm=>by
      obtain⟨_,u,hu,_⟩:=hg m hm;exact(Ac0.mp hu).1
     refine⟨_,rfl,?_⟩;simp_all!;simp! [xj2 k4];refine⟨ks,vs,rfl,?_⟩;simp! [xj2 k4];simp_all!;simp! [zw0];by_cases hsh:c∈sh
     ·rw[vd9 ho hsh]
      simp! [Option.getD_some,Aq1];exact pr _ _ (hN fun ok=>(ok.2 c hca).1 hsh)
     ·obtain⟨v,ev,hv1,hv2⟩:=we5 ho (c:=c) (n:=n) hsh
      rw[ev];have v1:(((v:Nat):Int) == -1)=false:=by rw[beq_eq_false_iff_ne];omega
      rw[v1];simp! [h0,h1];refine xl1 ?_;by_cases hin:zn4 A4 A5 c=true
      ·rw[hin]
       have hin':=yp2.mp hin;simp!;have on:∀g:List Nat,zg9 g=g.map fun j:Nat=>D.int j:=fun _=>rfl
       have keep:∀g':List Nat,(∀m∈g,m∈g')->(v≠n->v∈g')->∀c∈(t.ahead d).take (i+1),(c∉sh/\0<=c.1/\c.1<A4/\0<=c.2/\c.2<A5)/\∀m u,ts[m]?=some u->c∈u.cells->m≠n->m∈g':=fun g' hs hv c' hc'=>by
        rw[Ba0,q] at hc';rcases At0.mp hc' with h | h
        ·exact⟨(C3 c' h).1,fun m u e1 e2 e3=>hs m ((C3 c' h).2 m u e1 e2 e3)⟩
        ·have h:c'=c:=by simpa using h
         subst h;refine⟨⟨hsh,hin'⟩,fun m u e1 e2 e3=>?_⟩;have:=hv2 m u e1 e2;subst this;exact hv e3
       simp only[zw0,on,ys1];by_cases hvn:v=n
       ·have:(((v:Nat):Int) == ((n:Nat):Int))=true:=by rw[hvn];exact Aq1 _
        rw[this];simp!;exact pn _ _ ⟨g,_,_,rfl,nd,hg,by rw[Af0];exact keep g (fun m h=>h) fun h=>absurd hvn h⟩
       ·have:(((v:Nat):Int) == ((n:Nat):Int))=false:=by rw[beq_eq_false_iff_ne];omega
        rw[this];simp!;by_cases hvg:v∈g
        ·rw[Ap1 hvg]
         simp!;exact pn _ _ ⟨g,_,_,rfl,nd,hg,by rw[Af0];exact keep g (fun m h=>h) fun _=>hvg⟩
        ·rw[Ao1 hvg]
         have im':D.immL (g.map fun j:Nat=>D.int j)=true:=zj1 g;simp! [zl7,im'];refine⟨_,zt5 imm_int (by rw[Aa0];omega),pn _ _ ⟨g++[v],.bor (za9 c),.bor (.int v),?_,?_,?_,by rw[Af0];exact keep _ (fun m h=>Br0 _ h) fun _=>by simp⟩⟩
         ·unfold zg9
          rw[Aq0];rfl
         ·rw[List.nodup_append]
          refine⟨nd,by simp,fun a ha b hb e=>?_⟩;rw[Am0.mp hb] at e;subst e;exact hvg ha
         ·intro m hm
          rcases At0.mp hm with h | h
          ·exact hg m h
          ·rw[Am0.mp h]
           refine⟨hvn,?_⟩;rcases hv1 with h | ⟨u,e1,e2⟩
           ·exact absurd h hvn
           ·exact⟨u,e1,c,e2,hca⟩
      ·have hin2:zn4 A4 A5 c=false:=by simpa using hin
       rw[hin2];simp!;exact pr _ _ (hN fun ok=>hin (yp2.mpr (ok.2 c hca).2))
  ·obtain⟨g,x7,x8,er,nd,hg,C3⟩:=hI
   subst er;rw[Af0,Aa0,Bi0] at C3;have im':D.immL (zg9 g)=true:=zj1 g;simp! [im'];refine hL g ⟨hgo,fun c hc'=>(C3 c hc').1⟩ nd fun m=>⟨hg m,fun ⟨h1,u,h2,c,h3,h4⟩=>(C3 c h4).2 m u h2 h3 h1⟩
 ·have hgo':yl0 t.ways d=false:=by simpa using hgo
  rw[hgo'];simp!;exact hN fun ok=>hgo ok.1
noncomputable def yq4:List D->Res Unit D:=dfn 9 5 (zs0 vf2).1
noncomputable def muA (ρ:Rho):Nat:=match (ρ[7]?:Option Sl) with
 | some (Sl.bor (D.int a))=>20-a.toNat
 | _=>0
theorem xl2 {g h:List Nat} {Q:List D->Unit->Prop} {E:Exn->Unit->Prop} {x:Sl} (hl:h.length<=1000) (hq:Q (zg9 (h.filter fun k=>decide (k∉g))) ()) :
 wpR (zy4 Unit (gN 0) (tP Unit (tb (o2 (oIn true) (vr 0) (vr 1)))) (fP Unit (vr 0)) (zg9 h) [] [x,.bor (.lst (zg9 g))] ()) Q E:=by
 refine yb2 (fun n acc ρ st'=>acc=zg9 ((h.take n).filter fun k=>decide (k∉g))/\∃x,ρ=[x,.bor (.lst (zg9 g))]) 0 ⟨rfl,_,rfl⟩ (fun i d acc ρ st' hd hI120=>?_) fun acc ρ st' hI119=>?_
 ·obtain⟨e1,x,er⟩:=hI120
  unfold zg9 at hd;rw[Ag0] at hd;cases q:h[i]? with
  | none=>rw[q] at hd;cases hd
  | some k=>
    rw[q] at hd;cases hd;subst er;rw[Af0] at e1;have on:∀g:List Nat,zg9 g=g.map fun j:Nat=>D.int j:=fun _=>rfl
    refine⟨_,rfl,?_⟩;simp! [on,ys1];have ht:(h.take (i+1)).filter (fun k=>decide (k∉g))=(h.take i).filter (fun k=>decide (k∉g))++[k].filter fun k=>decide (k∉g):=by
     rw[Ba0,q,List.filter_append];rfl
    by_cases hk:k∈g
    ·rw[Ap1 hk]
     simp!;refine⟨?_,_,rfl⟩;rw[ht,e1];simp[hk,zg9]
    ·rw[Ao1 hk]
     simp!;refine⟨yx6 ?_,?_,_,rfl⟩
     ·rw[e1];unfold zg9
      rw[Aa0];have:=List.length_filter_le (fun k=>decide (k∉g)) (h.take i);rw[Be0] at this;omega
     ·rw[ht,e1]
      simp[hk,zg9]
 ·obtain⟨e1,x,er⟩:=hI119
  unfold zg9 at e1;rw[Af0,Aa0,Bi0] at e1;rw[e1];exact hq
theorem wd1 {neg:Bool} {g:List Nat}:oEq neg (.lst (zg9 g)) (.lst [])=some (.bl (if neg then !decide (g=[]) else decide (g=[]))):=by
 have hd:D.depL (zg9 g)<=0:=zm6 (n:=0) (fun a=>by simp[D.dep]) g;cases g with
 | nil=>simp[oEq,zg9,D.eqq,D.eqL,D.dep,D.depL]
 | cons a g=>
   have hd':D.depL (zg9 (a::g))<=29:=Ax0 hd (by decide);simp only[oEq,D.dep,Nat.reduceSubDiff];simp[zg9,D.eqq,D.eqL,D.dep,D.depL] at hd' ⊢;omega
theorem xg2 {A4 A5:Int} {sh:List zd0} {ts:List Tr} {n:Nat} {d:Int} {t0:Tr} {dd:D} {Q:D->Unit->Prop} {E:Exn->Unit->Prop} (ho:ze6 A4 A5 sh ts) (hn:ts[n]?=some t0) (hd:Dir d) (hh:ya8 dd (yq5 sh ts))
 (hN:xa8 A4 A5 sh ts d n t0->Q .non ()) (hL:∀g:List Nat,zj9 A4 A5 sh ts d n g->Q (.tup (zg9 g)) ()):wpR (yq4 [zd2 A4 A5 sh ts,za8 ts,dd,.int n,.int d]) Q E:=by
 refine zi5 rfl (by decide) ?_;unfold zs0;dsimp only;have hc:=zo9 ho;have few:=hc.few;have ks:∀t:Tr,oIx t.kind (.int 3)=some (.int t.s):=fun t=>rfl
 have hf:=hh.flat;have hst:=(ho.tr t0 (Aj0 hn)).st;simp_all!;simp! [hall3',zq9 hn,ks];simp_all!;simp! [zw0];by_cases hs:t0.s=-1
 ·have hs':(t0.s == -1)=true:=by rw[hs];rfl
  rw[hs'];simp!;exact hN (.inl (by omega))
 ·have hs':(t0.s == -1)=false:=by rw[beq_eq_false_iff_ne];exact hs
  rw[hs'];simp!;simp_all!;simp! [zn8];simp_all!;simp!;rw  [zb0];refine yb1 (fun ρ st=>∃(g:List Nat) (at':Nat) (x8:Sl),ρ=[Sl.bor (zd2 A4 A5 sh ts),.bor (za8 ts),.bor dd,.bor (.int n),.bor (.int d),.bor (.int t0.s),.own (.lst (zg9 g)),.bor (.int at'),x8]/\g.Nodup/\(∀m∈g,m<ts.length/\yg6 ts d n m)/\n∈g/\at'<=g.length/\(t0.s=0->∀m∈g,m=n)/\(∀j m t,j<at'->g[j]?=some m->ts[m]?=some t->okT A4 A5 sh t d/\∀k u,ts[k]?=some u->hit t u d->k∈g)) (fun ρ _=>muA ρ) ⟨[n],0,_,rfl,by simp,fun m hm=>?_,by simp,by simp,fun _ m hm=>Am0.mp hm,fun j m t hj=>absurd hj (Cd0 _)⟩ ?_
  ·rw[Am0.mp hm]
   exact⟨(Ac0.mp hn).1,.self⟩
  ·intro ρ st hI P Z pn pr pz
   obtain⟨g,at',x8,rfl,nd,hg,hng,hat,hz,C3⟩:=hI;have hgl:g.length<=ts.length:=zo1 _ g nd fun m hm=>(hg m hm).1
   have gl:(zg9 g).length=g.length:=by unfold zg9;rw[Aa0]
   have im':∀g:List Nat,D.immL (zg9 g)=true:=zj1;simp! [ym7,zu7,gl];by_cases hlt:at' < g.length
   ·rw[Ap1 (show ((at':Nat):Int)<(g.length:Int) by omega),if_pos rfl]
    obtain⟨m,hm⟩:∃m,g[at']?=some m:=⟨_,Ab0 hlt⟩;have hmg:=Aj0 hm;obtain⟨hmN,hmR⟩:=hg m hmg;obtain⟨t,ht⟩:∃t,ts[m]?=some t:=⟨_,Ab0 hmN⟩;simp_all!;simp! [xh7 hm];refine wu4 ho ht hd hh (fun hno=>?_) fun h hok hnd hmem=>?_
    ·simp!
     simp_all!;simp! [yj2,D.isNon];exact pr _ _ (hN (.inr (.inl ⟨m,t,hmR,ht,hno⟩)))
    ·have hlN:∀k∈h,k<ts.length/\yg6 ts d n k:=fun k hk=>by
      obtain⟨_,u,e1,e2⟩:=(hmem k).mp hk;exact⟨(Ac0.mp e1).1,.more hmR ht e1 e2⟩
     have hhl:h.length<=ts.length:=zo1 _ h hnd fun k hk=>(hlN k hk).1
     simp! [im'];simp_all!;simp! [yj2,D.isNon,yf0,wd1,zw0];have go:(t0.s=0->h=[])->wpR (wb6 Unit (sMt Unit 6 vf0 (xo4 Unit [8] [none,some 6] (xz7 Unit D.seq? (fVk Unit 8)) (gN 0) (tP Unit (tb (o2 (oIn true) (vr 0) (vr 1)))) (fP Unit (vr 0)))) (ww9 Unit 7 (fP Unit (cn (D.int 1))) fun i j=>i+j) [Sl.bor (zd2 A4 A5 sh ts),.bor (za8 ts),.bor dd,.bor (.int n),.bor (.int d),.bor (.int t0.s),.own (.lst (zg9 g)),.bor (.int at'),.own (.lst (zg9 h))] ()) P E:=fun hz0=>by
      rw  [zb0];simp! [im',zl7];refine xl2 (by omega) ?_;have hfl:∀k∈h.filter (fun k=>decide (k∉g)),k∈h/\k∉g:=fun k hk=>by simpa using hk
      have hall:∀k∈h,k∈g++h.filter fun k=>decide (k∉g):=fun k hk=>by
       by_cases e:k∈g
       ·exact Br0 _ e
       ·exact Bb0 _ (by simp[hk,e])
      have hnl:(h.filter fun k=>decide (k∉g)).length<=h.length:=List.length_filter_le _ _;have hnd':(h.filter fun k=>decide (k∉g)).Nodup:=hnd.filter _;have hz1:t0.s=0->h.filter (fun k=>decide (k∉g))=[]:=fun e=>by rw[hz0 e];rfl
      generalize h.filter (fun k=>decide (k∉g))=r at hfl hall hnl hnd' hz1;have rl:(zg9 r).length=r.length:=by unfold zg9;rw[Aa0]
      refine⟨_,ys2 (zj1 r) (by omega),?_⟩;refine⟨_,_,rfl,rfl,pn _ _ ⟨g++r,at' + 1,.own (.lst (zg9 h)),?_,?_,?_,Br0 _ hng,?_,?_,?_⟩ ?_⟩
      ·unfold zg9;rw[Aq0];rfl
      ·rw[List.nodup_append]
       exact⟨nd,hnd',fun a ha b hb e=>by subst e;exact(hfl _ hb).2 ha⟩
      ·intro m' hm'
       rcases At0.mp hm' with e | e
       ·exact hg m' e
       ·exact hlN m' (hfl m' e).1
      ·rw[Al0];omega
      ·intro e m' hm'
       rw[hz1 e,Bc0] at hm';exact hz e m' hm'
      ·intro j m' t' hj hm' ht'
       by_cases h5:j=at'
       ·subst h5
        rw[Bl0 hlt,hm] at hm';cases hm';rw[ht] at ht';cases ht';refine⟨hok,fun k u e1 e2=>?_⟩;by_cases e:k=m
        ·subst e;exact Br0 _ hmg
        ·exact hall k ((hmem k).mpr ⟨e,u,e1,e2⟩)
       ·rw[Bl0 (by omega)] at hm'
        obtain⟨z1,z2⟩:=C3 j m' t' (by omega) hm' ht';exact⟨z1,fun k u e1 e2=>Br0 _ (z2 k u e1 e2)⟩
      ·show 20-((at':Int)+1).toNat<20-at'
       omega
     by_cases hh0:h=[]
     ·rw[Ap1 hh0]
      simp!;exact go fun _=>hh0
     ·rw[Ao1 hh0]
      simp!;by_cases h1:t0.s=1
      ·have h1':(t0.s == 1)=true:=by rw[h1];rfl
       rw[h1'];simp!;exact go fun e=>absurd e (by omega)
      ·have h1':(t0.s == 1)=false:=by rw[beq_eq_false_iff_ne];exact h1
       rw[h1'];simp!;refine pr _ _ (hN (.inr (.inr ⟨by omega,?_⟩)));obtain⟨k,hk⟩:=List.exists_mem_of_ne_nil h hh0;by_cases e:k=n
       ·refine⟨m,fun e'=>((hmem k).mp hk).1 (e.trans e'.symm),hmR⟩
       ·exact⟨k,e,(hlN k hk).2⟩
   ·rw[Ao1 (show ¬((at':Nat):Int)<(g.length:Int) by omega)]
    simp!;refine pz _ ?_;have hall:∀m,m∈g↔yg6 ts d n m:=fun m=>⟨fun h=>(hg m h).2,fun h=>by
     induction h with
     | self=>exact hng
     | more h1 h2 h3 h4 ih=>
       obtain⟨j,hj⟩:=Av0 ih;have hjl:j<g.length:=(Ac0.mp hj).1;exact(C3 j _ _ (by omega) hj h2).2 _ _ h3 h4⟩
    have hokg:∀m∈g,∀t,ts[m]?=some t->okT A4 A5 sh t d:=fun m hm t ht=>by
     obtain⟨j,hj⟩:=Av0 hm;have hjl:j<g.length:=(Ac0.mp hj).1;exact(C3 j m t (by omega) hj ht).1
    obtain⟨g',e1,e2,e3⟩:=yv0 g;have os:yi9 [.lst (zg9 g)]=some (.lst (zg9 g')):=by
     show (zw6 (zg9 g)).bind (fun ns=>if ns.length<64 then some (D.lst ((sortI ns).map D.int)) else none)=_;rw[yk5];show (if (g.map fun j:Nat=>(j:Int)).length<64 then some (D.lst ((sortI (g.map fun j:Nat=>(j:Int))).map D.int)) else none)=_;rw[if_pos (by rw[Aa0];omega),e1]
    simp! [os,yc7,zj1];exact hL g' ⟨e2.symm.nodup nd,e3,fun m=>by rw[e2.mem_iff];exact hall m,fun m hm=>(hg m (e2.mem_iff.mp hm)).1,fun m hm=>hokg m (e2.mem_iff.mp hm),fun t ht=>by
     rw[hn] at ht;cases ht;exact⟨by omega,fun z m hm=>hz z m (e2.mem_iff.mp hm)⟩⟩
noncomputable def zt9:List D->Res Unit D:=dfn 4 4 (ys4 yq4 zx6).1
theorem yh9 {A4 A5:Int} {sh:List zd0} {ts:List Tr} {n:Nat} {d:Int} {t0:Tr} {Q:D->Unit->Prop} {E:Exn->Unit->Prop} (ho:ze6 A4 A5 sh ts) (hn:ts[n]?=some t0) (hd:Dir d)
 (hN:xa8 A4 A5 sh ts d n t0->Q .non ()) (hL:∀g:List Nat,zj9 A4 A5 sh ts d n g->Q (.tup (zg9 g)) ()):wpR (zt9 [zd2 A4 A5 sh ts,za8 ts,.int n,.int d]) Q E:=by
 refine zi5 rfl (by decide) ?_;unfold ys4;dsimp only;have hc:=zo9 ho;simp!;refine yn5 hc fun dd hdd=>?_
 refine xg2 ho hn hd hdd (fun h=>?_) fun g h=>?_
 ·exact⟨.inl imm_non,hN h⟩
 ·exact⟨.inl (zj1 g),hL g h⟩
theorem wa7 {t:Tr} {d:Int}:(t.to d).cells=t.ahead d:=rfl
theorem ym1 {t:Tr} {d:Int} {c:zd0}:c∈t.ahead d↔(c.1-dx d,c.2-dy d)∈t.cells:=by
 unfold Tr.ahead Tr.cells;rw[zz8,zz8];simp only;omega
theorem ze6.moved {A4 A5:Int} {sh:List zd0} {ts:List Tr} {g:List Nat} {d:Int} {n:Nat} (ho:ze6 A4 A5 sh ts) (hg:zj9 A4 A5 sh ts d n g):ze6 A4 A5 sh (zd9 ts g d) where
 w1:=ho.w1
 w9:=ho.w9
 h1:=ho.h1
 h9:=ho.h9
 sub:=ho.sub
 few:=by rw[zk2];exact ho.few
 tr:=fun t ht=>by
  obtain⟨i,hi⟩:=Av0 ht;rw[zg8] at hi;cases q:ts[i]? with
  | none=>rw[q] at hi;cases hi
  | some u=>
    rw[q] at hi;have hi:(if i∈g then u.to d else u)=t:=Option.some.inj hi;have hu:=ho.tr u (Aj0 q);by_cases hgi:i∈g
    ·rw[if_pos hgi] at hi
     subst hi;have ok:=(hg.ok i hgi u q).2;have w1:=hu.w1;have h1:=hu.h1;have m1:(u.x+dx d,u.y+dy d)∈u.ahead d:=by unfold Tr.ahead;rw[zz8];simp only;omega
     have m2:(u.x+dx d+u.w-1,u.y+dy d+u.h-1)∈u.ahead d:=by unfold Tr.ahead;rw[zz8];simp only;omega
     obtain⟨_,a1,_,a3,_⟩:=ok _ m1;obtain⟨_,_,b2,_,b4⟩:=ok _ m2;simp only at a1 a3 b2 b4;exact⟨w1,h1,a1,by show u.x+dx d+u.w<=A4;omega,a3,by show u.y+dy d+u.h<=A5;omega,hu.ways,hu.st,fun c hc=>(ok c hc).1⟩
    ·rw[if_neg hgi] at hi
     subst hi;exact hu
 apart:=by
  have ap:=Bk0.mp ho.apart;have two:∀i j (a b:Tr),ts[i]?=some a->ts[j]?=some b->i≠j->∀c∈a.cells,c∉b.cells:=fun i j a b ha hb hij c h1 h2=>by
   obtain⟨hi,rfl⟩:=Ac0.mp ha;obtain⟨hj,rfl⟩:=Ac0.mp hb;rcases Nat.lt_or_gt_of_ne hij with h | h
   ·exact ap i j hi hj h c h1 h2
   ·exact ap j i hj hi h c h2 h1
  refine Bk0.mpr fun i j hi hj hij c h1 h2=>?_
  have li:i<ts.length:=by rw[zk2] at hi;exact hi
  have lj:j<ts.length:=by rw[zk2] at hj;exact hj
  have ei:(zd9 ts g d)[i]?=some ((zd9 ts g d)[i]):=Ab0 hi;have ej:(zd9 ts g d)[j]?=some ((zd9 ts g d)[j]):=Ab0 hj;have qi:ts[i]?=some ts[i]:=Ab0 li;have qj:ts[j]?=some ts[j]:=Ab0 lj;rw[zg8,qi] at ei;rw[zg8,qj] at ej;have ei:(if i∈g then ts[i].to d else ts[i])=(zd9 ts g d)[i]:=Option.some.inj ei;have ej:(if j∈g then ts[j].to d else ts[j])=(zd9 ts g d)[j]:=Option.some.inj ej;rw[<-ei] at h1;rw[<-ej] at h2;have hne:i≠j:=Ao0 hij;by_cases gi:i∈g<;>by_cases gj:j∈g<;>simp only[gi,gj,if_true,if_false,wa7] at h1 h2
  ·exact two i j _ _ qi qj hne _ (ym1.mp h1) (ym1.mp h2)
  ·exact gj ((hg.all j).mpr (.more ((hg.all i).mp gi) qi qj ⟨c,h2,h1⟩))
  ·exact gi ((hg.all i).mpr (.more ((hg.all j).mp gj) qj qi ⟨c,h1,h2⟩))
  ·exact two i j _ _ qi qj hne c h1 h2
theorem wh5:∀(a b:List Nat),a.Pairwise (· < ·)->b.Pairwise (· < ·)->(∀m,m∈a↔m∈b)->a=b
 | [],[],_,_,_=>rfl
 | [],y::b,_,_,h=>absurd ((h y).mpr (by simp)) (by simp)
 | x::a,[],_,_,h=>absurd ((h x).mp (by simp)) (by simp)
 | x::a,y::b,ha,hb,h=>by
   rw[Bq0] at ha hb;have hxy:x=y:=by
    have h1:=(h x).mp (by simp);have h2:=(h y).mpr (by simp);rcases Ai0.mp h1 with e | e
    ·exact e
    ·rcases Ai0.mp h2 with e' | e'
     ·exact e'.symm
     ·have:=hb.1 x e
      have:=ha.1 y e';omega
   subst hxy;rw[wh5 a b ha.2 hb.2 fun m=>⟨fun hm=>?_,fun hm=>?_⟩]
   ·have h1:=ha.1 m hm
    rcases Ai0.mp ((h m).mp (by simp[hm])) with e | e
    ·omega
    ·exact e
   ·have h1:=hb.1 m hm
    rcases Ai0.mp ((h m).mpr (by simp[hm])) with e | e
    ·omega
    ·exact e
theorem zj9.lt' {A4 A5:Int} {sh:List zd0} {ts:List Tr} {d:Int} {n:Nat} {g:List Nat} (h:zj9 A4 A5 sh ts d n g):g.Pairwise (· < ·):=by
 have:=List.Pairwise.and h.up h.nd;exact this.imp fun ⟨a,b⟩=>Nat.lt_of_le_of_ne a b
theorem zj9.one {A4 A5:Int} {sh:List zd0} {ts:List Tr} {d:Int} {n:Nat} {g g':List Nat} (h:zj9 A4 A5 sh ts d n g) (h':zj9 A4 A5 sh ts d n g'):g=g':=
 wh5 g g' h.lt' h'.lt' fun m=>(h.all m).trans (h'.all m).symm
theorem zj9.not {A4 A5:Int} {sh:List zd0} {ts:List Tr} {d:Int} {n:Nat} {g:List Nat} {t:Tr} (h:zj9 A4 A5 sh ts d n g) (hn:ts[n]?=some t):¬xa8 A4 A5 sh ts d n t:=by
 rintro (h1 | ⟨m,t',h1,h2,h3⟩ | ⟨h1,m,h2,h3⟩)
 ·exact(h.str t hn).1 h1
 ·exact h3 (h.ok m ((h.all m).mpr h1) t' h2)
 ·exact h2 ((h.str t hn).2 h1 m ((h.all m).mpr h3))
theorem wd6 (g:List Nat):D.depL (zg9 g)<=0:=zm6 (n:=0) (fun a=>by simp[D.dep]) g
theorem yu6 {g:List Nat} (h:g.length<=1000):(D.tup (zg9 g)).dep<3/\(D.tup (zg9 g)).lw=true:=by
 constructor
 ·have:=wd6 g
  unfold D.dep;omega
 ·have:D.lwL (zg9 g)=true:=yk0.mpr fun d hd=>by
   obtain⟨j,_,rfl⟩:=Bf0.mp hd;rfl
  simp only[D.lw,this,Bool.true_and,decide_eq_true_eq];unfold zg9;exact zi4 (by rw[Aa0];exact h)
theorem zj9.len {A4 A5:Int} {sh:List zd0} {ts:List Tr} {d:Int} {n:Nat} {g:List Nat} (h:zj9 A4 A5 sh ts d n g):g.length<=ts.length:=zo1 _ g h.nd h.lt
theorem wq1 {neg:Bool} {l:List D} (h:D.depL l<=29):oEq neg (.lst l) (.lst [])=some (.bl (if neg then !decide (l=[]) else decide (l=[]))):=by
 cases l with
 | nil=>simp[oEq,D.eqq,D.eqL,D.dep,D.depL]
 | cons a g=>
   have hd:(D.lst (a::g)).dep<=30:=by unfold D.dep;omega
   unfold oEq;rw[if_pos hd];have e:D.eqq (.lst (a::g)) (.lst [])=some false:=by simp[D.eqq,D.eqL]
   rw[e];cases neg<;>simp
theorem zi9.pos {A4 A5:Int} {sh:List zd0} {d:Int} {n:Nat} {ts ts':List Tr} {k:Nat} {t:Tr} (h:zi9 A4 A5 sh d n ts k ts') (hn:ts[n]?=some t) (hw:1<=t.w) (hh:1<=t.h) :
 ts'[n]?=some { t with x:=t.x+k*dx d,y:=t.y+k*dy d }/\(1<=k->0<=t.x+k*dx d/\t.x+k*dx d<A4/\0<=t.y+k*dy d/\t.y+k*dy d<A5):=by
 induction h with
 | zero=>refine⟨?_,fun h=>absurd h (by decide)⟩;rw[hn];simp
 | @succ k ts' g _ hg ih=>
   have hng:n∈g:=(hg.all n).mpr .self;obtain⟨ih,_⟩:=ih;have e1:t.x+((k+1:Nat):Int)*dx d=t.x+k*dx d+dx d:=by rw[Int.natCast_add,Int.add_mul];simp;omega
   have e2:t.y+((k+1:Nat):Int)*dy d=t.y+k*dy d+dy d:=by rw[Int.natCast_add,Int.add_mul];simp;omega
   constructor
   ·rw[zg8,ih,e1,e2]
    simp only[Ap0,if_pos hng];rfl
   ·intro _
    have ok:=hg.ok n hng _ ih;have hm:(t.x+k*dx d+dx d,t.y+k*dy d+dy d)∈Tr.ahead { t with x:=t.x+k*dx d,y:=t.y+k*dy d } d:=by
     unfold Tr.ahead;rw[zz8];refine⟨Int.le_refl _,?_,Int.le_refl _,?_⟩<;>simp only<;>omega
    have:=(ok.2 _ hm).2;rw[e1,e2];exact this
theorem zi9.le9 {A4 A5:Int} {sh:List zd0} {d:Int} {n:Nat} {ts ts':List Tr} {k:Nat} {t:Tr} (h:zi9 A4 A5 sh d n ts k ts') (hn:ts[n]?=some t) (hw:1<=t.w) (hh:1<=t.h) (hx:0<=t.x/\t.x<9) (hy:0<=t.y/\t.y<9) (hW:A4<=9) (hH:A5<=9) (hd:Dir d):k<=9:=by
 by_cases hk:1<=k
 ·obtain⟨_,p⟩:=h.pos hn hw hh
  have p:=p hk;rcases hd.cases with r | r | r | r<;>subst r<;>simp[dx,dy] at p<;>omega
 ·omega
inductive xf2 (A4 A5:Int) (sh:List zd0) (d:Int) (n:Nat):List Tr->List (List Tr)->Prop where
 | stop {ts:List Tr}:(∀g,¬zj9 A4 A5 sh ts d n g)->xf2 A4 A5 sh d n ts []
 | go {ts:List Tr} {g:List Nat} {l:List (List Tr)}:zj9 A4 A5 sh ts d n g->xf2 A4 A5 sh d n (zd9 ts g d) l->xf2 A4 A5 sh d n ts (zd9 ts g d::l)
inductive xe9 (A4 A5:Int) (sh:List zd0) (d:Int) (n:Nat) (ts:List Tr):List (List Tr)->List Tr->Prop where
 | nil:xe9 A4 A5 sh d n ts [] ts
 | snoc {p:List (List Tr)} {cur:List Tr} {g:List Nat}:xe9 A4 A5 sh d n ts p cur->zj9 A4 A5 sh cur d n g->xe9 A4 A5 sh d n ts (p++[zd9 cur g d]) (zd9 cur g d)
section
variable {A4 A5:Int} {sh:List zd0} {d:Int} {n:Nat} {ts cur:List Tr} {l l' p:List (List Tr)}
theorem xf2.one (h:xf2 A4 A5 sh d n ts l):∀{l':List (List Tr)},xf2 A4 A5 sh d n ts l'->l=l':=by
 induction h with
 | stop h=>intro l' h';cases h' with
   | stop _=>rfl
   | go hg _=>exact absurd hg (h _)
 | go hg _ ih=>intro l' h';cases h' with
   | stop h=>exact absurd hg (h _)
   | go hg' h'=>
     have:=hg.one hg';subst this;rw[ih h']
theorem xe9.alng (h:xe9 A4 A5 sh d n ts p cur):∀{l:List (List Tr)},xf2 A4 A5 sh d n cur l->xf2 A4 A5 sh d n ts (p++l):=by
 induction h with
 | nil=>intro l hl;exact hl
 | snoc _ hg ih=>intro l hl;rw[As0];exact ih (.go hg hl)
theorem xe9.steps (h:xe9 A4 A5 sh d n ts p cur):zi9 A4 A5 sh d n ts p.length cur:=by
 induction h with
 | nil=>exact .zero
 | snoc _ hg ih=>rw[Al0];exact .succ ih hg
theorem xe9.ok (h:xe9 A4 A5 sh d n ts p cur) (ho:ze6 A4 A5 sh ts):ze6 A4 A5 sh cur:=by
 induction h with
 | nil=>exact ho
 | snoc _ hg ih=>exact ih.moved hg
theorem xe9.le9 {t:Tr} (h:xe9 A4 A5 sh d n ts p cur) (ho:ze6 A4 A5 sh ts) (ht:ts[n]?=some t) (hd:Dir d):p.length<=9:=by
 have to:=ho.tr t (Aj0 ht);have w9:=ho.w9;have h9:=ho.h9;exact h.steps.le9 ht to.w1 to.h1 ⟨to.x0,by have:=to.xw;have:=to.w1;omega⟩ ⟨to.y0,by have:=to.yh;have:=to.h1;omega⟩ w9 h9 hd
end
open Classical in
noncomputable def yn1 (A4 A5:Int) (sh:List zd0) (ts:List Tr) (d:Int) (n:Nat):List (List Tr):=if h:∃l,xf2 A4 A5 sh d n ts l then h.choose else []
theorem xf2.is {A4 A5:Int} {sh:List zd0} {d:Int} {n:Nat} {ts:List Tr} {l:List (List Tr)} (h:xf2 A4 A5 sh d n ts l):yn1 A4 A5 sh ts d n=l:=by
 unfold yn1;have e:∃l,xf2 A4 A5 sh d n ts l:=⟨l,h⟩;rw[dif_pos e];exact e.choose_spec.one h
theorem xe9.is {A4 A5:Int} {sh:List zd0} {d:Int} {n:Nat} {ts cur:List Tr} {p:List (List Tr)} (h:xe9 A4 A5 sh d n ts p cur) (hs:∀g,¬zj9 A4 A5 sh cur d n g):yn1 A4 A5 sh ts d n=p:=by
 have:=(h.alng (.stop hs)).is;rw[Bc0] at this;exact this
structure Row where
 n:Nat
 d:Int
 k:Nat
 ts:List Tr
noncomputable def Row.push (r:Row):D:=zv8 r.n r.d r.k
noncomputable def Row.data (r:Row):D:=.tup [r.push,za8 r.ts]
theorem zt2 {n:Nat} {d k:Int}:(zv8 n d k).imm=true:=by simp[zv8,D.imm,D.immL]
theorem zm8 {ts:List Tr}:(za8 ts).imm=true:=by unfold za8;rw[imm_tup];exact zb3 zf6 _
theorem zr6 (r:Row):r.data.imm=true:=by unfold Row.data Row.push;simp only[imm_tup,D.immL,zt2,zm8,Bool.and_self]
noncomputable def zz7 (n:Nat) (d:Int) (p:List (List Tr)):List Row:=(p.zipIdx 1).map fun q=>⟨n,d,q.2,q.1⟩
theorem xm5 {n:Nat} {d:Int} {p:List (List Tr)} {s:List Tr}:zz7 n d (p++[s])=zz7 n d p++[⟨n,d,p.length+1,s⟩]:=by
 unfold zz7;rw[List.zipIdx_append,Aq0];simp[Nat.add_comm]
theorem yc0 {n:Nat} {d:Int} {p:List (List Tr)}:(zz7 n d p).length=p.length:=by unfold zz7;simp
noncomputable def zy2 (A4 A5:Int) (sh:List zd0) (ts:List Tr) (n i:Nat):List Row:=(List.range i).flatMap fun d:Nat=>zz7 n (d:Int) (yn1 A4 A5 sh ts (d:Int) n)
noncomputable def zn6 (A4 A5:Int) (sh:List zd0) (ts:List Tr) (m:Nat):List Row:=(List.range m).flatMap fun n=>zy2 A4 A5 sh ts n 4
theorem yo1 {A4 A5:Int} {sh:List zd0} {ts:List Tr} {n i:Nat}:zy2 A4 A5 sh ts n (i+1)=zy2 A4 A5 sh ts n i++zz7 n i (yn1 A4 A5 sh ts i n):=by
 unfold zy2;rw[List.range_succ,Cc0];simp
theorem yo2 {A4 A5:Int} {sh:List zd0} {ts:List Tr} {m:Nat}:zn6 A4 A5 sh ts (m+1)=zn6 A4 A5 sh ts m++zy2 A4 A5 sh ts m 4:=by
 unfold zn6;rw[List.range_succ,Cc0];simp
theorem wx3 {A4 A5:Int} {sh:List zd0} {cur:List Tr} {n:Nat} {d:Int} {Q:D->Unit->Prop} {E:Exn->Unit->Prop} (hc:Cfg A4 A5 sh cur) (hn:n<cur.length) (hd:Dir d) (hN:(∀g,¬zj9 A4 A5 sh cur d n g)->∀j:Nat,Q (.int j) ())
 (hL:∀g,zj9 A4 A5 sh cur d n g->Q (za8 (zd9 cur g d)) ()):wpR (zu0 [zd2 A4 A5 sh cur,za8 cur,zv8 n d 1]) Q E:=by
 refine xl4 hc hn hd (by decide) (by decide) (fun k ts' t hk hs ht hno=>?_) fun ts' hs=>?_
 ·have:k=0:=by omega
  subst this;cases hs;exact hN (fun g hg=>hg.not ht hno) 0
 ·cases hs with
  | succ h0 hg=>cases h0;exact hL _ hg
noncomputable def yd9:List D->Res Unit D:=dfn 7 2 (zo4 zu0).1
noncomputable def muP (ρ:Rho):Nat:=match (ρ[6]?:Option Sl),(ρ[5]?:Option Sl) with
 | some (Sl.bor (D.tup _)),some (Sl.bor (D.int a))=>30-a.toNat
 | _,_=>0
theorem xl3 {A4 A5:Int} {sh:List zd0} {ts:List Tr} {Q:D->Unit->Prop} {E:Exn->Unit->Prop} (ho:ze6 A4 A5 sh ts)
 (hq:(zn6 A4 A5 sh ts ts.length).length<=432->Q (.lst ((zn6 A4 A5 sh ts ts.length).map Row.data)) ()):wpR (yd9 [zd2 A4 A5 sh ts,za8 ts]) Q E:=by
 have h2:[zd2 A4 A5 sh ts,za8 ts].length=2:=by simp
 have h3:2<=7:=by decide
 have go:=@zi5 7 2 (zo4 zu0).1 [zd2 A4 A5 sh ts,za8 ts] Q E h2 h3;unfold yd9;with_reducible refine go ?_
 clear go;unfold zo4;dsimp only;have hc:=zo9 ho;have few:=ho.few;simp_all!;simp! [yf0];simp_all!;have len:ym7 [za8 ts]=some (.int ts.length):=by unfold za8 ym7;simp
 simp! [len];rw[zf7 (by omega) (by omega)];refine zh2 (fun i ρ st'=>∃(x3 x4 x5 x6:Sl),ρ=[Sl.bor (zd2 A4 A5 sh ts),.bor (za8 ts),.own (.lst ((zn6 A4 A5 sh ts i).map Row.data)),x3,x4,x5,x6]/\(zn6 A4 A5 sh ts i).length<=36*i) 0 ⟨_,_,_,_,rfl,by simp[zn6]⟩ (fun n e ρ st' he hI P pn=>?_) fun ρ st' hI=>?_
 ·obtain⟨x3,x4,x5,x6,er,hl⟩:=hI
  obtain⟨rfl,hi⟩:=zf0 he;rw[Aw0] at hi;rw[Af0] at hl er;rw[Af0] at pn;subst er;have k0:(0:Int)+(n:Int)=(n:Int):=by omega
  rw[k0];obtain⟨t,ht⟩:∃t,ts[n]?=some t:=⟨_,Ab0 hi⟩;refine⟨_,rfl,?_⟩;simp!;rw[show yj0 [.int 4]=some (zp0 0 4) from rfl];refine zh2 (fun i ρ st'=>∃(x4 x5 x6:Sl),ρ=[Sl.bor (zd2 A4 A5 sh ts),.bor (za8 ts),.own (.lst ((zn6 A4 A5 sh ts n++zy2 A4 A5 sh ts n i).map Row.data)),.bor (.int n),x4,x5,x6]/\(zn6 A4 A5 sh ts n++zy2 A4 A5 sh ts n i).length<=36*n+9*i) 0 ⟨_,_,_,by rw[show zy2 A4 A5 sh ts n 0=[] from rfl,Bc0],by rw[show zy2 A4 A5 sh ts n 0=[] from rfl,Bc0];exact hl⟩ (fun i e ρ st' he hI P2 pn2=>?_) fun ρ st' hI=>?_
  ·obtain⟨x4,x5,x6,er,hl⟩:=hI
   obtain⟨rfl,hi4⟩:=zf0 he;rw[Af0] at hl er;rw[Af0] at pn2;obtain⟨B,hB⟩:∃B,B=zn6 A4 A5 sh ts n++zy2 A4 A5 sh ts n i:=⟨_,rfl⟩;rw[yo1,<-As0] at pn2;rw[<-hB] at hl er pn2;subst er;have k1:(0:Int)+(i:Int)=(i:Int):=by omega
   rw[k1];have hd:Dir (i:Int):=⟨by omega,by omega⟩;refine⟨_,rfl,?_⟩;simp_all!;simp!;simp_all!;simp! [wd0];have go:∀{x:D} {ρx:Rho},((∃g,x=za8 (zd9 ts g i)/\zj9 A4 A5 sh ts i n g)\/∃j:Nat,x=.int j/\∀g,¬zj9 A4 A5 sh ts i n g)->ρx=[Sl.bor (zd2 A4 A5 sh ts),.bor (za8 ts),.own (.lst (B.map Row.data)),.bor (.int n),.bor (.int i),.bor (.int 1),.bor x]->
    wpR (yi5 Unit (tP Unit (tb (ti Bt.tuple (vr 6)))) (wb6 Unit (sMt Unit 2 vf1 (fP Unit (o1 yx2 (cs (o1 yx2 (cs (vr 3) (cs (vr 4) (cs (vr 5) nl)))) (cs (vr 6) nl))))) (wb6 Unit (wn3 Unit 5 (fP Unit (o2 zn9 (vr 5) (cn (.int 1))))) (wn3 Unit 6 (xo5 Unit zu0 (aP Unit (cs (vr 0) (cs (vr 6) (cs (o1 yx2 (cs (vr 3) (cs (vr 4) (cs (cn (.int 1)) nl)))) nl)))))))) ρx ()) P2 E:=fun {x ρx} hx er=>by
    subst er;refine yb1 (fun ρ st=>∃(k:Nat) (p:List (List Tr)) (cur:List Tr) (x:D),k=p.length+1/\ρ=[Sl.bor (zd2 A4 A5 sh ts),.bor (za8 ts),.own (.lst ((B++zz7 n i p).map Row.data)),.bor (.int n),.bor (.int i),.bor (.int k),.bor x]/\xe9 A4 A5 sh i n ts p cur/\((∃g,x=za8 (zd9 cur g i)/\zj9 A4 A5 sh cur i n g)\/∃j:Nat,x=.int j/\∀g,¬zj9 A4 A5 sh cur i n g)) (fun ρ _=>muP ρ) ⟨1,[],ts,x,rfl,by rw[show zz7 n i []=[] from rfl,Bc0];rfl,.nil,hx⟩ ?_;intro ρ st hI P Z pn pr pz;obtain⟨k,p,cur,x,ek,rfl,hp,hx⟩:=hI;have hp9:=hp.le9 ho ht hd;simp!;rcases hx with⟨g,rfl,hg⟩ | ⟨j,rfl,hno⟩
    ·obtain⟨nx,hnx⟩:∃nx,nx=zd9 cur g i:=⟨_,rfl⟩
     have hp':=hp.snoc hg;rw[<-hnx] at hp' ⊢;have hst:=hp'.steps;have ist:isI Bt.tuple (za8 nx)=true:=rfl;rw[ist,if_pos rfl,zb0];simp! [wd0,zl7,zb3 zr6];have ot:yx2 [D.tup [.int n,.int i,.int k],za8 nx]=some (Row.data ⟨n,i,k,nx⟩):=yc8 zt2 zm8;rw[ot];refine⟨_,zt5 (zr6 _) (by rw[Aa0,Al0,yc0];omega),?_⟩;simp_all!;simp! [zn9,zu7];have hn':n<nx.length:=by rw[hst.len];exact hi
     simp! [wd0];rw[<-zh8 hst.kind];have done:∀y:D,((∃g,y=za8 (zd9 nx g i)/\zj9 A4 A5 sh nx i n g)\/∃j:Nat,y=.int j/\∀g,¬zj9 A4 A5 sh nx i n g)->P (.nx [Sl.bor (zd2 A4 A5 sh ts),.bor (za8 ts),.own (.lst ((B++zz7 n i p).map Row.data++[Row.data ⟨n,i,k,nx⟩])),.bor (.int n),.bor (.int i),.bor (.int (k+1)),.bor y]) ():=fun y hy=>by
      refine pn _ _ ?_ ?_
      ·refine⟨k+1,p++[nx],nx,y,by rw[Al0,ek];rfl,?_,hp',hy⟩
       rw[xm5,<-As0,Aq0 (l₁:=B++zz7 n i p),ek];rfl
      ·have m1:muP [Sl.bor (zd2 A4 A5 sh ts),.bor (za8 ts),.own (.lst ((B++zz7 n i p).map Row.data)),.bor (.int n),.bor (.int i),.bor (.int k),.bor (za8 nx)]=30-(k:Int).toNat:=rfl
       rw[<-hnx,m1];rcases hy with⟨g,rfl,_⟩ | ⟨j,rfl,_⟩
       ·show 30-((k:Int)+1).toNat<30-(k:Int).toNat
        omega
       ·show 0<30-(k:Int).toNat
        omega
     refine wx3 (n:=n) (d:=i) (hst.cfg hc) hn' hd (fun hno j=>?_) fun g' hg'=>?_
     ·simp!
      rw[zh8 hst.kind];exact done (.int j) (.inr ⟨_,rfl,hno⟩)
     ·have sf:(za8 (zd9 nx g' i)).flat=false:=rfl
      simp! [sf];rw[zh8 hst.kind];exact done _ (.inl ⟨g',rfl,hg'⟩)
    ·have ist:isI Bt.tuple (.int j)=false:=rfl
     rw[ist];simp!;rw[hp.is hno] at pn2;exact pz _ (pn2 _ _ ⟨_,_,_,rfl,by rw[Al0,yc0];omega⟩)
   refine wx3 (n:=n) (d:=i) hc hi hd (fun hno j=>?_) fun g hg=>?_
   ·simp!
    exact go (.inr ⟨j,rfl,hno⟩) rfl
   ·have sf:(za8 (zd9 ts g i)).flat=false:=rfl
    simp! [sf];exact go (.inl ⟨g,rfl,hg⟩) rfl
  ·obtain⟨x4,x5,x6,er,hl⟩:=hI
   subst er;rw[Af0,zd1] at hl ⊢;rw[<-yo2] at hl ⊢;exact pn _ _ ⟨_,_,_,_,rfl,by omega⟩
 ·obtain⟨x3,x4,x5,x6,er,hl⟩:=hI
  subst er;rw[Af0,zd1,Aw0] at hl ⊢;simp! [zb3 zr6];exact hq (by omega)
noncomputable def ym0:List D->Res Unit D:=dfn 5 3 (zu2 zx8).1
theorem xg0 {ts:List Tr} {g:List Nat} {d:Int} {Q:D->Unit->Prop} {E:Exn->Unit->Prop} (hd:Dir d) (few:ts.length<=12) (hlt:∀k∈g,k<ts.length) (nd:g.Nodup) (hq:Q (za8 (zd9 ts g d)) ()):wpR (ym0 [za8 ts,.tup (zg9 g),.int d]) Q E:=by
 refine zi5 rfl (by decide) ?_;unfold zu2;dsimp only;simp_all!;simp! [za8,xu5,zb3 zf6];simp_all!;simp!;refine zh2 (fun j ρ st'=>∃(x4:Sl),ρ=[Sl.bor (za8 ts),.bor (.tup (zg9 g)),.bor (.int d),.own (.lst ((zd9 ts (g.take j) d).map Tr.place)),x4]) 0 ⟨_,by rw[List.take_zero,yo7];rfl⟩ (fun j e ρ st' he hI P pn=>?_) fun ρ st' hI=>?_
 ·obtain⟨x4,er⟩:=hI
  unfold zg9 at he;rw[Ag0] at he;cases q:g[j]? with
  | none=>rw[q] at he;cases he
  | some k=>
    rw[q] at he;cases he;subst er;rw[Af0];have hkl:=hlt k (Aj0 q);obtain⟨u,hu⟩:∃u,ts[k]?=some u:=⟨_,Ab0 hkl⟩;have hpl:oIx (za8 ts) (.int k)=some u.place:=zw7 hu;refine⟨_,rfl,?_⟩;simp! [hpl];refine yn7 (p:=(u.x,u.y)) hd ?_;simp! [zl7,zb3 zf6];refine⟨k,k,rfl,?_,zd8 _,pn _ _ ⟨.bor (.int k),?_⟩⟩
    ·unfold ixN
     rw[if_pos (by omega),if_pos (by rw[Aa0,zk2];omega)];simp
    ·have e1:za9 ((u.x,u.y).1+dx d,(u.x,u.y).2+dy d)=(u.to d).place:=rfl
     rw[e1,yo6 hu,Af0,Ba0,q];rfl
 ·obtain⟨x4,er⟩:=hI
  subst er;have gl:(zg9 g).length=g.length:=by unfold zg9;rw[Aa0]
  rw[Af0,gl,Bi0];simp! [yc7,zb3 zf6];exact hq
noncomputable def Nx (A4 A5:Int) (sh:List zd0) (cur:List Tr) (d:Int) (n:Nat) (x:D):Prop:=(x=.non/\∀g,¬zj9 A4 A5 sh cur d n g)\/∃g,x=.tup (zg9 g)/\zj9 A4 A5 sh cur d n g
theorem Nx.flat {A4 A5:Int} {sh:List zd0} {cur:List Tr} {d:Int} {n:Nat} {x:D} (h:Nx A4 A5 sh cur d n x):x.flat=false:=by
 rcases h with⟨rfl,_⟩ | ⟨g,rfl,_⟩<;>rfl
noncomputable def muE (ρ:Rho):Nat:=match (ρ[7]?:Option Sl),(ρ[5]?:Option Sl) with
 | some (Sl.bor (D.tup _)),some (Sl.own (D.lst l))=>30-l.length
 | _,_=>0
noncomputable def wf5:List D->Res Unit D:=dfn 8 5 (zr4 yq4 ym0 zt9).1
theorem wl6 {A4 A5:Int} {sh:List zd0} {ts:List Tr} {n:Nat} {d:Int} {t0:Tr} {dd:D} {Q:D->Unit->Prop} {E:Exn->Unit->Prop} (ho:ze6 A4 A5 sh ts) (hn:ts[n]?=some t0) (hd:Dir d) (hh:ya8 dd (yq5 sh ts))
 (hq:(yn1 A4 A5 sh ts d n).length<=9->Q (.lst ((yn1 A4 A5 sh ts d n).map za8)) ()):wpR (wf5 [zd2 A4 A5 sh ts,za8 ts,dd,.int n,.int d]) Q E:=by
 refine zi5 rfl (by decide) ?_;unfold zr4;dsimp only;have few:=ho.few;have hnl:n<ts.length:=(Ac0.mp hn).1;simp_all!;simp! [yf0];simp_all!;simp!;simp_all!;simp!;refine za7 (xg2 (Q:=fun x _=>Nx A4 A5 sh ts d n x) ho hn hd hh (fun h=>.inl ⟨rfl,fun g hg=>hg.not hn h⟩) fun g h=>.inr ⟨g,rfl,h⟩) (fun x st hx=>?_) fun x s z=>z
 have hxf:=hx.flat;simp! [hxf];rw  [zb0];refine yb1 (fun ρ st=>∃(p:List (List Tr)) (cur:List Tr) (x:D),ρ=[Sl.bor (zd2 A4 A5 sh ts),.bor (za8 ts),.bor dd,.bor (.int n),.bor (.int d),.own (.lst (p.map za8)),.bor (za8 cur),.bor x]/\xe9 A4 A5 sh d n ts p cur/\Nx A4 A5 sh cur d n x) (fun ρ _=>muE ρ) ⟨[],ts,x,rfl,.nil,hx⟩ ?_;intro ρ st hI P Z pn pr pz;obtain⟨p,cur,x,rfl,hp,hx⟩:=hI;have hp9:=hp.le9 ho hn hd;have hoc:=hp.ok ho;have hst:=hp.steps;have pim:∀p:List (List Tr),D.immL (p.map za8)=true:=fun p=>zb3 (fun _=>zm8) p
 rcases hx with⟨rfl,hno⟩ | ⟨g,rfl,hg⟩
 ·simp! [yj2,D.isNon]
  refine pz _ ?_;simp! [pim];have:=hp.is hno;rw[this] at hq;exact hq hp9
 ·simp! [yj2,D.isNon]
  simp_all!;simp!;refine xg0 hd (by rw[hst.len];omega) hg.lt hg.nd ?_;have hp':=hp.snoc hg;have hst':=hp'.steps;have hoc':=hp'.ok ho;obtain⟨nx,hnx⟩:∃nx,nx=zd9 cur g d:=⟨_,rfl⟩;rw[<-hnx] at hp' hst' hoc' ⊢;have sf:(za8 nx).flat=false:=rfl;simp! [sf];rw  [zb0];simp! [zl7,pim];refine⟨_,zt5 zm8 (by rw[Aa0];omega),?_⟩;obtain⟨t1,ht1⟩:∃t,nx[n]?=some t:=⟨_,Ab0 (by rw[hst'.len];exact hnl)⟩;rw[<-zh8 hst'.kind];refine za7 (yh9 (Q:=fun x _=>Nx A4 A5 sh nx d n x) hoc' ht1 hd (fun h=>.inl ⟨rfl,fun g hg=>hg.not ht1 h⟩) fun g h=>.inr ⟨g,rfl,h⟩) (fun y st hy=>?_) fun x s z=>z
  have hyf:=hy.flat;simp! [hyf];rw[zh8 hst'.kind];refine pn _ _ ⟨p++[nx],nx,y,by rw[Aq0];rfl,hp',hy⟩ ?_;have m1:muE [Sl.bor (zd2 A4 A5 sh ts),.bor (za8 ts),.bor dd,.bor (.int n),.bor (.int d),.own (.lst (p.map za8)),.bor (za8 cur),.bor (.tup (zg9 g))]=30-(p.map za8).length:=rfl;rw[m1,Aa0];rcases hy with⟨rfl,_⟩ | ⟨g',rfl,_⟩
  ·show 0<30-p.length
   omega
  ·show 30-(p.map za8++[za8 nx]).length<30-p.length
   rw[Al0,Aa0];simp;omega
noncomputable def ve5:List D->Res Unit D:=dfn 7 2 (zl0 zx6 wf5).1
noncomputable def vn5 (n i:Nat) (d:D):D:=match d with
 | .tup [k,s]=>.tup [.tup [.int n,.int i,k],s]
 | _=>.non
theorem xu7 {n i:Nat} {p:List (List Tr)}:(wd4 1 (p.map za8)).map (vn5 n i)=(zz7 n i p).map Row.data:=by
 unfold wd4 zz7;rw[List.zipIdx_map,Bj0,Bj0,Bj0];refine List.map_congr_left fun q _=>?_
 rfl
theorem wu1 {A4 A5:Int} {sh:List zd0} {ts:List Tr} {Q:D->Unit->Prop} {E:Exn->Unit->Prop} (ho:ze6 A4 A5 sh ts)
 (hq:(zn6 A4 A5 sh ts ts.length).length<=432->Q (.lst ((zn6 A4 A5 sh ts ts.length).map Row.data)) ()):wpR (ve5 [zd2 A4 A5 sh ts,za8 ts]) Q E:=by
 refine zi5 rfl (by decide) ?_;unfold zl0;dsimp only;have hc:=zo9 ho;have few:=ho.few;simp_all!;simp!;refine yn5 hc fun dd hdd=>?_
 have hf:=hdd.flat;simp! [hf];simp_all!;simp! [yf0];simp_all!;have len:ym7 [za8 ts]=some (.int ts.length):=by unfold za8 ym7;simp
 simp! [len];rw[zf7 (by omega) (by omega)];refine zh2 (fun i ρ st'=>∃(x4 x5 x6:Sl),ρ=[Sl.bor (zd2 A4 A5 sh ts),.bor (za8 ts),.own dd,.own (.lst ((zn6 A4 A5 sh ts i).map Row.data)),x4,x5,x6]/\(zn6 A4 A5 sh ts i).length<=36*i) 0 ⟨_,_,_,rfl,by simp[zn6]⟩ (fun n e ρ st' he hI P pn=>?_) fun ρ st' hI=>?_
 ·obtain⟨x4,x5,x6,er,hl⟩:=hI
  obtain⟨rfl,hi⟩:=zf0 he;rw[Aw0] at hi;rw[Af0] at hl er;rw[Af0] at pn;subst er;have k0:(0:Int)+(n:Int)=(n:Int):=by omega
  rw[k0];obtain⟨t,ht⟩:∃t,ts[n]?=some t:=⟨_,Ab0 hi⟩;refine⟨_,rfl,?_⟩;simp!;rw[show yj0 [.int 4]=some (zp0 0 4) from rfl];refine zh2 (fun i ρ st'=>∃(x5 x6:Sl),ρ=[Sl.bor (zd2 A4 A5 sh ts),.bor (za8 ts),.own dd,.own (.lst ((zn6 A4 A5 sh ts n++zy2 A4 A5 sh ts n i).map Row.data)),.bor (.int n),x5,x6]/\(zn6 A4 A5 sh ts n++zy2 A4 A5 sh ts n i).length<=36*n+9*i) 0 ⟨_,_,by rw[show zy2 A4 A5 sh ts n 0=[] from rfl,Bc0],by rw[show zy2 A4 A5 sh ts n 0=[] from rfl,Bc0];exact hl⟩ (fun i e ρ st' he hI P2 pn2=>?_) fun ρ st' hI=>?_
  ·obtain⟨x5,x6,er,hl⟩:=hI
   obtain⟨rfl,hi4⟩:=zf0 he;rw[Af0] at hl er;rw[Af0] at pn2;obtain⟨B,hB⟩:∃B,B=zn6 A4 A5 sh ts n++zy2 A4 A5 sh ts n i:=⟨_,rfl⟩;rw[yo1,<-As0] at pn2;rw[<-hB] at hl er pn2;subst er;have k1:(0:Int)+(i:Int)=(i:Int):=by omega
   rw[k1];have hd:Dir (i:Int):=⟨by omega,by omega⟩;refine⟨_,rfl,?_⟩;simp_all!;simp!;refine wl6 ho ht hd hdd fun h9=>?_
   obtain⟨p,hp⟩:∃p,p=yn1 A4 A5 sh ts i n:=⟨_,rfl⟩;rw[<-hp] at h9 ⊢;have pim:D.immL (p.map za8)=true:=zb3 (fun _=>zm8) p;have en:xh3 1 [.lst (p.map za8)]=some (wd4 1 (p.map za8)):=rfl;simp! [pim];simp! [zl7,zb3 zr6,en];refine zg5 (vn5 n i) (fun ρ=>∃x y,ρ=[x,y,.bor (.int n),.bor (.int i)]) ⟨_,_,rfl⟩ (fun d hd ρ hI121=>?_) (zi4 (by rw[yj4,Aa0];omega)) ?_
   ·obtain⟨x,y,e⟩:=hI121
    subst e;obtain⟨j,hj⟩:=Av0 hd;obtain⟨s,hs,rfl⟩:=xh4 hj;rw[Ag0] at hs;cases q:p[j]? with
    | none=>rw[q] at hs;cases hs
    | some s'=>
      rw[q] at hs;have hs:za8 s'=s:=Option.some.inj hs;subst hs;refine⟨_,rfl,⟨_,_,rfl⟩,⟨rfl,rfl⟩,?_⟩;have ot:yx2 [D.tup [.int n,.int i,.int (j+1:Nat)],za8 s']=some (Row.data ⟨n,i,j+1,s'⟩):=yc8 zt2 zm8;simp! [wd0,ot];exact⟨rfl,zr6 _⟩
   ·rw[xu7]
    refine⟨_,ys2 (zb3 zr6 _) (by rw[Aa0,Aa0,yc0];omega),?_⟩;rw[<-Aq0];rw[<-hp] at pn2;exact pn2 _ _ ⟨_,_,rfl,by rw[Al0,yc0];omega⟩
  ·obtain⟨x5,x6,er,hl⟩:=hI
   subst er;rw[Af0,zd1] at hl ⊢;rw[<-yo2] at hl ⊢;exact pn _ _ ⟨_,_,_,rfl,by omega⟩
 ·obtain⟨x4,x5,x6,er,hl⟩:=hI
  subst er;rw[Af0,zd1,Aw0] at hl ⊢;simp! [zb3 zr6];exact hq (by omega)
noncomputable def vf6:List D->Res Unit D:=dfn 2 2 (zx1 ve5).1
noncomputable def wf2 (d:D):D:=match d with
 | .tup (a::_)=>a
 | _=>.non
theorem wv4 {A4 A5:Int} {sh:List zd0} {ts:List Tr} {Q:D->Unit->Prop} {E:Exn->Unit->Prop} (ho:ze6 A4 A5 sh ts)
 (hq:(zn6 A4 A5 sh ts ts.length).length<=432->Q (.lst ((zn6 A4 A5 sh ts ts.length).map Row.push)) ()):wpR (vf6 [zd2 A4 A5 sh ts,za8 ts]) Q E:=by
 refine zi5 rfl (by decide) ?_;unfold zx1;dsimp only;simp!;refine wu1 ho fun h4=>?_
 obtain⟨rows,hr⟩:∃rows,rows=zn6 A4 A5 sh ts ts.length:=⟨_,rfl⟩;rw[<-hr] at h4 hq ⊢;simp! [zb3 zr6];refine zg5 wf2 (fun ρ=>∃x y,ρ=[x,y]) ⟨_,_,rfl⟩ (fun d hd ρ hI122=>?_) (zi4 (by rw[Aa0];omega)) ?_
 ·obtain⟨x,y,e⟩:=hI122
  subst e;obtain⟨r,_,rfl⟩:=Bf0.mp hd;refine⟨_,rfl,⟨_,_,rfl⟩,⟨rfl,rfl⟩,?_⟩;simp!;exact⟨rfl,zt2⟩
 ·have em:(rows.map Row.data).map wf2=rows.map Row.push:=by rw[Bj0];rfl
  rw[em];exact⟨.inr (zb3 (fun r=>zt2) rows),hq h4⟩
section
variable {A4 A5:Int} {sh:List zd0} {d:Int} {n:Nat} {ts cur mid:List Tr} {k:Nat}
theorem zi9.det (h:zi9 A4 A5 sh d n ts k cur):∀{b:List Tr},zi9 A4 A5 sh d n ts k b->cur=b:=by
 induction h with
 | zero=>intro b hb;cases hb;rfl
 | succ _ hg ih=>
   intro b hb;cases hb with
   | succ h0 hg'=>
     have:=ih h0;subst this;rw[hg.one hg']
theorem zi9.pre (h:zi9 A4 A5 sh d n ts k cur):∀i,i<k->∃mid g,zi9 A4 A5 sh d n ts i mid/\zj9 A4 A5 sh mid d n g:=by
 induction h with
 | zero=>intro i hi;omega
 | @succ k mid g h0 hg ih=>
   intro i hi;by_cases h:i<k
   ·exact ih i h
   ·have:i=k:=by omega
    subst this;exact⟨mid,g,h0,hg⟩
theorem zi9.ok (h:zi9 A4 A5 sh d n ts k cur) (ho:ze6 A4 A5 sh ts):ze6 A4 A5 sh cur:=by
 induction h with
 | zero=>exact ho
 | succ _ hg ih=>exact ih.moved hg
theorem zi9.front {g:List Nat} (h1:zj9 A4 A5 sh ts d n g) (h:zi9 A4 A5 sh d n (zd9 ts g d) k cur):zi9 A4 A5 sh d n ts (k+1) cur:=by
 induction h with
 | zero=>exact .succ .zero h1
 | succ _ hg ih=>exact .succ ih hg
theorem xf2.get {l:List (List Tr)} (h:xf2 A4 A5 sh d n ts l):∀{i:Nat} {s:List Tr},l[i]?=some s->zi9 A4 A5 sh d n ts (i+1) s:=by
 induction h with
 | stop _=>intro i s hs;simp at hs
 | go hg _ ih=>
   intro i s hs;cases i with
   | zero=>simp at hs;subst hs;exact .succ .zero hg
   | succ i=>exact .front hg (ih (by simpa using hs))
end
noncomputable def yw1:List D->Res Unit D:=dfn 9 3 (yg8 zt9 ym0).1
theorem wa3 {A4 A5:Int} {sh:List zd0} {ts cur:List Tr} {n k:Nat} {d:Int} {t0:Tr} {Q:D->Unit->Prop} {E:Exn->Unit->Prop} (ho:ze6 A4 A5 sh ts) (hn:ts[n]?=some t0) (hd:Dir d) (hk9:k<=1000) (hst:zi9 A4 A5 sh d n ts k cur) (hq:Q (za8 cur) ()):wpR (yw1 [zd2 A4 A5 sh ts,za8 ts,zv8 n d k]) Q E:=by
 have go:=@zi5 9 3 (yg8 zt9 ym0).1 [zd2 A4 A5 sh ts,za8 ts,zv8 n d k] Q E (by simp) (by decide);unfold yw1;with_reducible refine go ?_
 clear go;unfold yg8;dsimp only;have few:=ho.few;have hnl:n<ts.length:=(Ac0.mp hn).1;simp_all!;simp! [zv8];simp_all!;simp!;rw  [zb0];simp!;rw[zf7 (by omega) (by omega)];refine zh2 (fun i ρ st'=>∃(mid:List Tr) (x7 x8:Sl),ρ=[Sl.bor (zd2 A4 A5 sh ts),.bor (za8 ts),.bor (zv8 n d k),.bor (.int n),.bor (.int d),.bor (.int k),.bor (za8 mid),x7,x8]/\zi9 A4 A5 sh d n ts i mid) 0 ⟨ts,_,_,rfl,.zero⟩ (fun i e ρ st' he hI P pn=>?_) fun ρ st' hI=>?_
 ·obtain⟨mid,x7,x8,er,hm⟩:=hI
  obtain⟨rfl,hi⟩:=zf0 he;subst er;rw[Af0] at hm;rw[Af0] at pn;obtain⟨mid',g,hp,hg⟩:=hst.pre i (by omega);have:=hm.det hp;subst this;obtain⟨t1,ht1⟩:∃t,mid[n]?=some t:=⟨_,Ab0 (by rw[hm.len];exact hnl)⟩;refine⟨_,rfl,?_⟩;simp_all!;simp!;rw[<-zh8 hm.kind];refine yh9 (hm.ok ho) ht1 hd (fun h=>absurd h (hg.not ht1)) fun g' hg'=>?_
  have gf:(D.tup (zg9 g')).flat=false:=rfl;simp! [gf];simp_all!;simp! [yj2,D.isNon];refine xg0 hd (by rw[hm.len];omega) hg'.lt hg'.nd ?_;have sf:(za8 (zd9 mid g' d)).flat=false:=rfl;simp! [sf];rw[zh8 hm.kind];exact pn _ _ ⟨_,_,_,rfl,.succ hm hg'⟩
 ·obtain⟨mid,x7,x8,er,hm⟩:=hI
  subst er;rw[Af0,zd1,Aw0] at hm;have:=hst.det hm;subst this;have own:own? [Sl.bor (zd2 A4 A5 sh ts),.bor (za8 ts),.bor (zv8 n d k),.bor (.int n),.bor (.int d),.bor (.int k),.bor (za8 cur),x7,x8] 6=some (za8 cur):=by
   show (if (za8 cur).imm=true then some (za8 cur) else none)=_;rw[if_pos zm8]
  simp only[wp_sRetV];exact⟨_,own,hq⟩
theorem xk1 {w h:Int} {p:zd0}:(cov w h p).Pairwise fun a b=>Ts.lx a b=true:=by
 unfold cov;rw[List.pairwise_flatMap];refine⟨fun i _=>?_,List.pairwise_lt_range.imp fun {a b} hab x hx y hy=>?_⟩
 ·unfold yz8
  rw[List.pairwise_map];refine List.pairwise_lt_range.imp fun {a b} hab=>?_
  exact Ts.lx_iff.mpr (.inr ⟨rfl,by show p.2+(a:Int)<p.2+(b:Int);omega⟩)
 ·unfold yz8 at hx hy
  obtain⟨j,_,rfl⟩:=Bf0.mp hx;obtain⟨k,_,rfl⟩:=Bf0.mp hy;exact Ts.lx_iff.mpr (.inl (by show p.1+(a:Int)<p.1+(b:Int);omega))
theorem wd8 {a b:zd0} (h:Ts.lx a b=true):a≠b:=fun e=>by
 subst e;rw[Ts.lx_iff] at h;omega
theorem vj1 {a b c:zd0} (h:Ts.lx a b=true) (h2:Ts.lx b c=true):Ts.lx a c=true:=by
 rw[Ts.lx_iff] at *;omega
theorem xg4:∀{l' l:List zd0},l.Pairwise (fun a b=>Ts.lx a b=true)->l'.Pairwise (fun a b=>Ts.lx a b=true)->(∀x∈l,x∈l')->l.Sublist l'
 | [],l,_,_,h=>by
   cases l with
   | nil=>exact List.Sublist.refl _
   | cons a l=>exact absurd (h a (by simp)) (by simp)
 | b::l',l,hl,hl',h=>by
   cases l with
   | nil=>exact List.nil_sublist _
   | cons a l=>
     obtain⟨ha,hr⟩:=Bq0.mp hl;obtain⟨hb,hr'⟩:=Bq0.mp hl';rcases Ai0.mp (h a (by simp)) with e | e
     ·subst e
      refine List.Sublist.cons₂ _ (xg4 hr hr' fun x hx=>?_);rcases Ai0.mp (h x (by simp[hx])) with e | e
      ·exact absurd e.symm (wd8 (ha x hx))
      ·exact e
     ·refine List.Sublist.cons _ (xg4 hl hr' fun x hx=>?_)
      rcases Ai0.mp (h x hx) with e2 | e2
      ·subst e2
       rcases Ai0.mp hx with e3 | e3
       ·exact absurd e3 (wd8 (hb a e))
       ·exact absurd rfl (wd8 (vj1 (hb a e) (ha _ e3)))
      ·exact e2
theorem vj2 {l:List zd0} (u:l.Pairwise Ts.lxle) (n:l.Nodup):l.Pairwise fun a b=>Ts.lx a b=true:=by
 refine(u.and n).imp fun {a b} h=>?_
 obtain⟨h1,h2⟩:=h;refine Ts.lx_iff.mpr ?_;unfold Ts.lxle at h1;have:¬(a.1=b.1/\a.2=b.2):=fun z=>h2 (Prod.ext z.1 z.2)
 omega
section
variable {A4 A5:Int} {sh:List zd0} {ts us:List Tr}
theorem ze6.wider (ho:ze6 A4 A5 sh ts):ze6 (min 9 (A4+1)) (min 9 (A5+1)) sh ts:=by
 have w1:=ho.w1;have w9:=ho.w9;have h1:=ho.h1;have h9:=ho.h9;refine⟨by omega,by omega,by omega,by omega,xg4 (xk1.sublist ho.sub) xk1 fun c hc=>?_,ho.few,fun t ht=>?_,ho.apart⟩
 ·have:=zz8.mp (ho.sub.subset hc)
  exact zz8.mpr (by simp only at this ⊢;omega)
 ·have to:=ho.tr t ht
  have:=to.xw;have:=to.yh;exact⟨to.w1,to.h1,to.x0,by omega,to.y0,by omega,to.ways,to.st,to.free⟩
noncomputable def zu9 (t u:Tr):Prop:=(u.w=t.w/\u.h=t.h/\u.x=t.x/\u.y=t.y)/\xa7 u.ways/\(u.s=0\/u.s=1\/u.s=-1)
theorem zu9.cells {t u:Tr} (h:zu9 t u):u.cells=t.cells:=by
 obtain⟨⟨a,b,c,d⟩,_⟩:=h;unfold Tr.cells;rw[a,b,c,d]
theorem ze6.like (ho:ze6 A4 A5 sh ts) (hl:us.length=ts.length) (h:∀(j:Nat) t u,ts[j]?=some t->us[j]?=some u->zu9 t u):ze6 A4 A5 sh us/\us.map Tr.place=ts.map Tr.place:=by
 have pick:∀(j:Nat) u,us[j]?=some u->∃t,ts[j]?=some t/\zu9 t u:=fun j u hu=>by
  obtain⟨hj,_⟩:=Ac0.mp hu;exact⟨_,Ab0 (by omega),h j _ u (Ab0 (by omega)) hu⟩
 refine⟨⟨ho.w1,ho.w9,ho.h1,ho.h9,ho.sub,by rw[hl];exact ho.few,fun u hu=>?_,?_⟩,?_⟩
 ·obtain⟨j,hj⟩:=Av0 hu
  obtain⟨t,ht,k⟩:=pick j u hj;have to:=ho.tr t (Aj0 ht);have e:=k.cells;obtain⟨⟨e1,e2,e3,e4⟩,kw,ks⟩:=k;exact⟨by rw[e1];exact to.w1,by rw[e2];exact to.h1,by rw[e3];exact to.x0,by rw[e3,e1];exact to.xw,by rw[e4];exact to.y0,by rw[e4,e2];exact to.yh,kw,ks,by rw[e];exact to.free⟩
 ·refine Bk0.mpr fun i j hi hj hij=>?_
  obtain⟨t,ht,k⟩:=pick i _ (Ab0 hi);obtain⟨t',ht',k'⟩:=pick j _ (Ab0 hj);rw[k.cells,k'.cells];obtain⟨a1,rfl⟩:=Ac0.mp ht;obtain⟨a2,rfl⟩:=Ac0.mp ht';exact Bk0.mp ho.apart i j a1 a2 hij
 ·refine List.ext_getElem? fun j=>?_
  rw[Ag0,Ag0];cases q:us[j]? with
  | none=>
    have:=List.getElem?_eq_none_iff.mp q;rw[List.getElem?_eq_none_iff.mpr (by omega)]
  | some u=>
    obtain⟨t,ht,⟨_,_,e3,e4⟩,_⟩:=pick j u q;rw[ht];show some (za9 (u.x,u.y))=some (za9 (t.x,t.y));rw[e3,e4]
theorem ze6.shut {c:zd0} (ho:ze6 A4 A5 sh ts) (hc:c∈cov A4 A5 (0,0)) (hs:c∉sh) (hf:∀t∈ts,c∉t.cells):ze6 A4 A5 (zy1 (sh++[c])) ts:=by
 have up:sh.Pairwise fun a b=>Ts.lx a b=true:=xk1.sublist ho.sub
 have nd:(sh++[c]).Nodup:=by
  rw[List.nodup_append];exact⟨up.imp fun h=>wd8 h,by simp,fun a ha b hb e=>by rw[Am0.mp hb] at e;rw[e] at ha;exact hs ha⟩
 have mem:∀x,x∈zy1 (sh++[c])↔x∈sh\/x=c:=fun x=>by rw[(zx3 _).mem_iff,At0,Am0]
 refine⟨ho.w1,ho.w9,ho.h1,ho.h9,xg4 (vj2 (yr3 _) ((zx3 _).nodup_iff.mpr nd)) xk1 fun x hx=>?_,ho.few,fun t ht=>?_,ho.apart⟩
 ·rcases (mem x).mp hx with e | e
  ·exact ho.sub.subset e
  ·rw[e];exact hc
 ·have to:=ho.tr t ht
  refine⟨to.w1,to.h1,to.x0,to.xw,to.y0,to.yh,to.ways,to.st,fun x hx h2=>?_⟩;rcases (mem x).mp h2 with e | e
  ·exact to.free x hx e
  ·subst e;exact hf t ht hx
end
theorem vo1 {a b:List D} (h1:D.immL a=true) (h2:D.immL b=true) (h:a.length+b.length<=1000):zn9 (.lst a) (.lst b)=some (.lst (a++b)):=by
 have e0:zu7 (fun i j=>D.int (i+j)) (.lst a) (.lst b)=none:=rfl;have e1:wd3 (.lst a) (.lst b)=some (.lst (a++b)):=if_pos ⟨h1,h2,zi4 h⟩;unfold zn9;rw[e0,e1];rfl
structure HX where
 w:Int
 h:Int
 sh:List zd0
 us:List Tr
noncomputable def HX.data (x:HX):D:=zd2 x.w x.h x.sh x.us
noncomputable def HX.ok (ts:List Tr) (x:HX):Prop:=ze6 x.w x.h x.sh x.us/\x.us.map Tr.place=ts.map Tr.place
theorem zx7 (w h:Int) (sh:List zd0) (ts:List Tr):(zd2 w h sh ts).imm=true:=by
 have h1:D.immL (sh.map za9)=true:=zb3 zd8 sh;have h2:D.immL (ts.map Tr.kind)=true:=zb3 zq8 ts;unfold zd2;simp only[D.imm,D.immL,h1,h2,Bool.and_self]
theorem wa6 {held sh l:List zd0} {Q:List D->Dr->Prop} {E:Exn->Dr->Prop} {x:Sl} {st:Dr} (hl:l.length<=1000) (hq:Q ((l.filter fun c=>decide (c∉held/\c∉sh)).map za9) st) :
 wpR (zy4 Dr (gN 0) (vf5 Dr (tP Dr (tb (o2 (oIn true) (vr 0) (vr 1)))) (tP Dr (tb (o2 (oIn true) (vr 0) (vr 2))))) (fP Dr (vr 0)) (l.map za9) [] [x,.bor (.lst (held.map za9)),.bor (.tup (sh.map za9))] st) Q E:=by
 refine yb2 (fun n acc ρ st'=>acc=((l.take n).filter fun c=>decide (c∉held/\c∉sh)).map za9/\st'=st/\∃x,ρ=[x,.bor (.lst (held.map za9)),.bor (.tup (sh.map za9))]) 0 ⟨rfl,rfl,_,rfl⟩ (fun i d acc ρ st' hd hI124=>?_) fun acc ρ st' hI123=>?_
 ·obtain⟨e1,es,x,er⟩:=hI124
  rw[Ag0] at hd;cases q:l[i]? with
  | none=>rw[q] at hd;cases hd
  | some c=>
    rw[q] at hd;cases hd;subst er es;rw[Af0] at e1;refine⟨_,rfl,?_⟩;have ht:(l.take (i+1)).filter (fun c=>decide (c∉held/\c∉sh))=(l.take i).filter (fun c=>decide (c∉held/\c∉sh))++[c].filter fun c=>decide (c∉held/\c∉sh):=by
     rw[Ba0,q,List.filter_append];rfl
    have i1:oIn true (za9 c) (.lst (held.map za9))=some (.bl (!decide (c∈held))):=(yc9 (neg:=true)).2;have i2:oIn true (za9 c) (.tup (sh.map za9))=some (.bl (!decide (c∈sh))):=(yc9 (neg:=true)).1;simp! [i1,i2];by_cases h1:c∈held
    ·rw[Ap1 h1]
     simp!;refine⟨?_,_,rfl⟩;rw[ht,e1];simp[h1]
    ·rw[Ao1 h1]
     by_cases h2:c∈sh
     ·rw[Ap1 h2]
      simp!;refine⟨?_,_,rfl⟩;rw[ht,e1];simp[h2]
     ·rw[Ao1 h2]
      simp!;refine⟨zd8 c,yx6 ?_,?_,_,rfl⟩
      ·rw[e1,Aa0]
       have:=List.length_filter_le (fun c=>decide (c∉held/\c∉sh)) (l.take i);rw[Be0] at this;omega
      ·rw[ht,e1]
       simp[h1,h2]
 ·obtain⟨e1,es,x,er⟩:=hI123
  rw[Af0,Aa0,Bi0] at e1;rw[e1,es];exact hq
theorem wq4 {l:List zd0}:oEq true (.lst (l.map za9)) (.lst [])=some (.bl (!decide (l=[]))):=by
 cases l with
 | nil=>simp[oEq,D.eqq,D.eqL,D.dep,D.depL]
 | cons a l=>
   have h:D.depL ((a::l).map za9)<=1:=zm6 (n:=1) (fun a=>by simp[za9,D.dep,D.depL]) (a::l);unfold oEq;rw[if_pos (by unfold D.dep;omega)];simp[D.eqq,D.eqL]
theorem xm4 {l:List zd0} (h:l.length<=127):xu3 [.lst (l.map za9)]=some (.lst ((zy1 l).map za9)):=by
 show (yr7 (l.map prD)).bind _=_;rw[yw0];exact if_pos (by omega)
noncomputable def yi7:List D->Dr->Res Dr D:=wf9 15 3 (zo5 zo2 zv0).1
theorem xq5 {A4 A5:Int} {sh:List zd0} {ts:List Tr} {st:Dr} {Q:D->Dr->Prop} {E:Exn->Dr->Prop} (ho:ze6 A4 A5 sh ts) (hs:st.2<2 ^ 38) (hq:∀(hs:List HX) st',0<hs.length->hs.length<=4->(∀x∈hs,HX.ok ts x)->st'.2<=st.2+20->Q (.lst (hs.map HX.data)) st'):wpR (yi7 [zd2 A4 A5 sh ts,za8 ts] st) Q E:=by
 have few:=ho.few;have w1:=ho.w1;have w9:=ho.w9;have h1:=ho.h1;have h9:=ho.h9;have shl:sh.length<=81:=Ax0 ho.sub.length_le (zz5 ho.w9 ho.h9);have him:∀l:List zd0,D.immL (l.map za9)=true:=fun l=>zb3 zd8 l
 have hik:∀l:List Tr,D.immL (l.map Tr.kind)=true:=fun l=>zb3 zq8 l
 have hip:D.immL (ts.map Tr.place)=true:=zb3 zf6 ts;have go:=@yr0 Dr 15 3 (zo5 zo2 zv0).1 [zd2 A4 A5 sh ts,za8 ts] st Q E (by simp) (by decide);unfold yi7;with_reducible refine go ?_
 clear go;unfold zo5;dsimp only;simp_all!;simp! [zd2,za8,him,hik];simp_all!;simp! [yf0];simp_all!;have en:wd2 [.tup (ts.map Tr.place)]=some (zt6 (ts.map Tr.place)):=if_pos hip;simp! [en];refine zh2 (fun i ρ st'=>∃(x8 x9:Sl),ρ=[Sl.hnd,.bor (zd2 A4 A5 sh ts),.bor (za8 ts),.bor (.int A4),.bor (.int A5),.bor (.tup (sh.map za9)),.bor (.tup (ts.map Tr.kind)),.own (.lst (((ts.take i).flatMap Tr.cells).map za9)),x8,x9,.no,.no,.no,.no,.no]/\((ts.take i).flatMap Tr.cells).length<=81*i/\st'=st) 0 ⟨_,_,rfl,by simp,rfl⟩ (fun i e ρ st' he hI P pn=>?_) fun ρ st' hI=>?_
 ·obtain⟨x8,x9,er,hl,es⟩:=hI
  obtain⟨c,hk,rfl⟩:=zw1 he;subst er es;rw[Af0] at hl;rw[Ag0] at hk;cases q:ts[i]? with
  | none=>rw[q] at hk;cases hk
  | some t=>
    rw[q] at hk;cases hk;have hi:=(Ac0.mp q).1;have to:=ho.tr t (Aj0 q);have:=to.w1;have:=to.h1;have:=to.xw;have:=to.yh;have:=to.x0;have:=to.y0;have tl:t.cells.length<=81:=zz5 (by omega) (by omega);have nx:((ts.take (i+1)).flatMap Tr.cells)=(ts.take i).flatMap Tr.cells++t.cells:=by rw[Ba0,q,Cc0];simp
    refine⟨_,rfl,?_⟩;simp! [zq9 q];refine zo6 (by omega) (by omega) (by omega) (by omega) ?_;have ec:cov t.w t.h (t.x,t.y)=t.cells:=rfl;rw[ec];have ad:=vo1 (him ((ts.take i).flatMap Tr.cells)) (him t.cells) (by simp only[Aa0];omega);rw[<-Aq0,<-nx] at ad;have imn:=him ((ts.take (i+1)).flatMap Tr.cells);simp! [him,ad];exact pn _ _ ⟨_,_,by rw[Af0],by rw[Af0,nx,Al0];omega,rfl⟩
 ·obtain⟨x8,x9,er,hl,es⟩:=hI
  have es:=es.symm;subst er es;rw[Af0,zp4,Aa0,Bi0] at hl ⊢;obtain⟨held,hheld⟩:∃held,held=ts.flatMap Tr.cells:=⟨_,rfl⟩;rw[<-hheld] at hl ⊢;have t0:yx2 [.int 0,.int 0]=some (za9 (0,0)):=rfl;have t1:yx2 [.int A4,.int A5,.str "none",.int 0]=some (kd A4 A5 "none" 0):=rfl;simp_all!;simp! [t0,t1];refine zo6 (by omega) (by omega) (by omega) (by omega) ?_;simp! [him];have cl:=zz5 (p:=(0,0)) w9 h9;refine wa6 (by omega) ?_;obtain⟨F,hF⟩:∃F,F=(cov A4 A5 (0,0)).filter fun c=>decide (c∉held/\c∉sh):=⟨_,rfl⟩
  rw[<-hF];have Fl:F.length<=81:=by rw[hF];exact Ax0 (List.length_filter_le _ _) cl
  simp! [him];have ad1:∀a b:Int,zn9 (.int a) (.int b)=some (.int (a+b)):=fun _ _=>rfl
  have mn:∀a:Int,xh2 (fun i j=>if j<i then j else i) [.int 9,.int a]=some (.int (min 9 a)):=fun a=>by
   show some (D.int (if a<9 then a else 9))=_;congr 2;split<;>omega
  have o4:∀(a b:Int) (s:List zd0) (us:List Tr),yx2 [.int a,.int b,.tup (s.map za9),.tup (us.map Tr.kind)]=some (zd2 a b s us):=fun a b s us=>ys0 (l:=[.int a,.int b,.tup (s.map za9),.tup (us.map Tr.kind)]) (zx7 a b s us) (by simp)
  have dim:∀l:List HX,D.immL (l.map HX.data)=true:=fun l=>zb3 (fun x=>zx7 _ _ _ _) l
  obtain⟨L1,hL1⟩:∃L1:List HX,L1=[⟨A4,A5,sh,ts⟩,⟨min 9 (A4+1),min 9 (A5+1),sh,ts⟩]:=⟨_,rfl⟩;have oL:xu4 [zd2 A4 A5 sh ts,zd2 (min 9 (A4+1)) (min 9 (A5+1)) sh ts]=some (.lst (L1.map HX.data)):=by
   rw[hL1];exact zn8 (dim [⟨A4,A5,sh,ts⟩,⟨min 9 (A4+1),min 9 (A5+1),sh,ts⟩]) (by simp)
  have k1:∀x∈L1,HX.ok ts x:=fun x hx=>by
   rw[hL1] at hx;rcases Ai0.mp hx with e | e
   ·rw[e];exact⟨ho,rfl⟩
   ·rw[Am0.mp e];exact⟨ho.wider,rfl⟩
  have l1:L1.length=2:=by rw[hL1];rfl
  simp_all!;simp! [ad1,mn,o4,oL,dim];simp_all!;simp! [yf0];simp_all!;simp!;clear hL1 oL;refine zh2 (fun i ρ st'=>∃(f:Nat->Tr) (x13 x14:Sl),ρ=[Sl.hnd,.bor (zd2 A4 A5 sh ts),.bor (za8 ts),.bor (.int A4),.bor (.int A5),.bor (.tup (sh.map za9)),.bor (.tup (ts.map Tr.kind)),.own (.lst (held.map za9)),x8,x9,.own (.lst (F.map za9)),.own (.lst (L1.map HX.data)),.own (.lst (((List.range i).map f).map Tr.kind)),x13,x14]/\(∀(j:Nat) t,j<i->ts[j]?=some t->zu9 t (f j))/\st'.2<=st.2+i) 0 ⟨fun _=>⟨1,1,"any",0,0,0⟩,_,_,rfl,fun j t h=>absurd h (Cd0 _),by omega⟩ (fun i e ρ st' he hI P pn=>?_) fun ρ st' hI=>?_
  ·obtain⟨f,x13,x14,er,hf,hst⟩:=hI
   rw[Ag0] at he;cases q:ts[i]? with
   | none=>rw[q] at he;cases he
   | some t=>
     rw[q] at he;cases he;subst er;rw[Af0] at hf hst;have hi:=(Ac0.mp q).1;have to:=ho.tr t (Aj0 q);refine⟨_,rfl,?_⟩;simp_all!;have o4':xu4 [.str "any",.str "row",.str "column",.str "none"]=some (.lst [.str "any",.str "row",.str "column",.str "none"]):=zn8 rfl (by simp);simp! [o4'];refine zd7 (by decide) (by decide) (by omega) fun v1 st1 a1 b1 c1=>?_
     obtain⟨ws,hw,hws⟩:∃ws:Str,oIx (.lst [.str "any",.str "row",.str "column",.str "none"]) (.int v1)=some (.str ws)/\xa7 ws:=by
      rcases (show v1=0\/v1=1\/v1=2\/v1=3 by omega) with r | r | r | r<;>subst r
      ·exact⟨_,rfl,.inl rfl⟩
      ·exact⟨_,rfl,.inr (.inl rfl)⟩
      ·exact⟨_,rfl,.inr (.inr (.inl rfl))⟩
      ·exact⟨_,rfl,.inr (.inr (.inr rfl))⟩
     obtain⟨s',hs',hss⟩:∃s':Int,xm7 t.s [0,1,-1] [.int 1,.int (-1),.int 0]=some (.int s')/\(s'=0\/s'=1\/s'=-1):=by
      rcases to.st with r | r | r<;>rw[r]
      ·exact⟨1,rfl,.inr (.inl rfl)⟩
      ·exact⟨-1,rfl,.inr (.inr rfl)⟩
      ·exact⟨0,rfl,.inl rfl⟩
     have ik:oIx t.kind (.int 0)=some (.int t.w)/\oIx t.kind (.int 1)=some (.int t.h)/\oIx t.kind (.int 3)=some (.int t.s):=⟨rfl,rfl,rfl⟩;have oT:yx2 [.int t.w,.int t.h,.str ws,.int s']=some (kd t.w t.h ws s'):=rfl;have im3:D.immL [.int 1,.int (-1),.int 0]=true:=rfl;have ng:-(1:Int)=-1:=rfl;obtain⟨u,hu⟩:∃u:Tr,u=⟨t.w,t.h,ws,s',t.x,t.y⟩:=⟨_,rfl⟩;have eu:kd t.w t.h ws s'=u.kind:=by rw[hu];rfl
     have lu:zu9 t u:=by rw[hu];exact⟨⟨rfl,rfl,rfl,rfl⟩,hws,hss⟩
     have lr:(((List.range i).map f).map Tr.kind).length<=12:=by simp;omega
     simp! [hw,zl7,hik,ik,xq7,wh0,im3,hs',oT,ng,eu];refine⟨_,zt5 (zq8 u) (by omega),?_⟩;refine pn _ _ ⟨fun j=>if j=i then u else f j,.bor t.kind,.bor (.str ws),?_,?_,by omega⟩
     ·rw[Af0]
      have e:(List.range (i+1)).map (fun j=>if j=i then u else f j)=(List.range i).map f++[u]:=by
       rw[List.range_succ,Aq0];congr 1
       ·refine List.map_congr_left fun j hj=>?_
        have:=Ca0.mp hj;rw[if_neg (by omega)]
       ·simp
      rw[e,Aq0];rfl
     ·intro j t' hj ht'
      rw[Af0] at hj;by_cases hji:j=i
      ·subst hji
       rw[q] at ht';cases ht';show zu9 t (if j=j then u else f j);rw[if_pos rfl];exact lu
      ·show zu9 t' (if j=i then u else f j)
       rw[if_neg hji];exact hf j t' (by omega) ht'
  ·obtain⟨f,x13,x14,er,hf,hst⟩:=hI
   subst er;rw[Af0,Aa0] at hf hst ⊢;obtain⟨us,hus⟩:∃us,us=(List.range ts.length).map f:=⟨_,rfl⟩;have usl:us.length=ts.length:=by rw[hus];simp
   have lk:∀(j:Nat) t u,ts[j]?=some t->us[j]?=some u->zu9 t u:=fun j t u ht hu=>by
    have hj:=(Ac0.mp ht).1;rw[hus,Ag0,List.getElem?_range hj] at hu;cases hu;exact hf j t hj ht
   obtain⟨hou,epl⟩:=ho.like usl lk;rw[<-hus];have oTu:yc7 [.lst (us.map Tr.kind)]=some (.tup (us.map Tr.kind)):=if_pos (hik us);obtain⟨L2',hL2⟩:∃L2':List HX,L2'=L1++[⟨A4,A5,sh,us⟩]:=⟨_,rfl⟩;have k2:∀x∈L2',HX.ok ts x:=fun x hx=>by
    rw[hL2] at hx;rcases At0.mp hx with e | e
    ·exact k1 x e
    ·rw[Am0.mp e];exact⟨hou,epl⟩
   have l2:L2'.length=3:=by rw[hL2,Al0,l1];rfl
   have e2:L1.map HX.data++[zd2 A4 A5 sh us]=L2'.map HX.data:=by rw[hL2,Aq0];rfl
   simp_all!;simp! [zl7,dim,oTu,o4,hik];refine⟨_,zt5 (zx7 _ _ _ _) (by rw[Aa0];omega),?_⟩;rw[e2];clear e2 hL2;simp_all!;have nlC:oEq true (.lst (F.map za9)) (.lst [])=some (.bl (!decide (F=[]))):=wq4;have ol:ym7 [.lst (F.map za9)]=some (.int (F.length:Nat)):=by unfold ym7;simp
   simp! [yf0,nlC,him];by_cases hF0:F=[]
   ·rw[Ap1 hF0]
    simp! [dim];exact hq _ _ (by omega) (by omega) k2 (by omega)
   ·rw[Ao1 hF0]
    have hp:0<F.length:=List.length_pos_iff.mpr hF0;have li:xu5 [.tup (sh.map za9)]=some (.lst (sh.map za9)):=if_pos (him sh);simp! [zl7,dim,li,ol,him];refine zd7 (by omega) (by omega) (by omega) fun v3 st3 a3 b3 c3=>?_
    obtain⟨c,hc⟩:∃c,F[v3.toNat]?=some c:=⟨_,Ab0 (by omega)⟩;have ix:oIx (.lst (F.map za9)) (.int v3)=some (za9 c):=(yk3 (zd8 c) a3 (by rw[Ag0,hc];rfl)).1;have hcF:=Aj0 hc;rw[hF] at hcF;obtain⟨c1',c2'⟩:=List.mem_filter.mp hcF;have c2':=of_decide_eq_true c2';have hoc:=ho.shut c1' c2'.2 fun t ht h=>c2'.1 (by rw[hheld];exact List.mem_flatMap.mpr ⟨t,ht,h⟩)
    have oc:xu4 [za9 c]=some (.lst [za9 c]):=zn8 (l:=[za9 c]) (him [c]) (by simp);have ca:zn9 (.lst (sh.map za9)) (.lst [za9 c])=some (.lst ((sh++[c]).map za9)):=by
     rw[Aq0];exact vo1 (him sh) (him [c]) (by simp;omega)
    have so:=xm4 (l:=sh++[c]) (by simp;omega);have tu:yc7 [.lst ((zy1 (sh++[c])).map za9)]=some (.tup ((zy1 (sh++[c])).map za9)):=if_pos (him _);simp! [ix,oc,ca,so,tu,o4,him];refine⟨_,zt5 (zx7 _ _ _ _) (by rw[Aa0];omega),?_⟩;obtain⟨L3,hL3⟩:∃L3:List HX,L3=L2'++[⟨A4,A5,zy1 (sh++[c]),ts⟩]:=⟨_,rfl⟩;have e3:L2'.map HX.data++[zd2 A4 A5 (zy1 (sh++[c])) ts]=L3.map HX.data:=by rw[hL3,Aq0];rfl
    have l3:L3.length=4:=by rw[hL3,Al0,l2];rfl
    have k3:∀x∈L3,HX.ok ts x:=fun x hx=>by
     rw[hL3] at hx;rcases At0.mp hx with e | e
     ·exact k2 x e
     ·rw[Am0.mp e];exact⟨hoc,rfl⟩
    rw[e3];simp! [dim];exact hq _ _ (by omega) (by omega) k3 (by omega)
section
variable {A4 A5:Int} {sh:List zd0} {ts:List Tr}
theorem xb8 {m:Nat} {r:Row} (h:r∈zn6 A4 A5 sh ts m):r.n<m/\Dir r.d/\1<=r.k/\zi9 A4 A5 sh r.d r.n ts r.k r.ts:=by
 unfold zn6 zy2 at h;obtain⟨n,hn,h⟩:=List.mem_flatMap.mp h;obtain⟨d,hd,h⟩:=List.mem_flatMap.mp h;have hn:=Ca0.mp hn;have hd:=Ca0.mp hd;unfold zz7 at h;obtain⟨⟨s,i⟩,hq,rfl⟩:=Bf0.mp h;obtain⟨a,b,c⟩:=List.mem_zipIdx hq;have hs:(yn1 A4 A5 sh ts d n)[i-1]?=some s:=by
  rw[c];exact Ab0 _
 have e:∃l,xf2 A4 A5 sh d n ts l:=by
  apply Classical.byContradiction;intro e;unfold yn1 at hs;rw[dif_neg e] at hs;simp at hs
 obtain⟨l,hl⟩:=e;rw[hl.is] at hs;have:=hl.get hs;rw[show i-1+1=i by omega] at this;exact⟨hn,⟨by show (0:Int)<=d;omega,by show (d:Int)<4;omega⟩,a,this⟩
end
theorem yv6 (r:Row):r.push.imm=true:=zt2
theorem xs1 (l:List Row):D.depL (l.map Row.push)<=1:=zm6 (n:=1) (fun a=>by simp[Row.push,zv8,D.dep,D.depL]) l
theorem xc0 {l:List Row} (h:l.length<=1000):(D.lst (l.map Row.push)).dep<3/\(D.lst (l.map Row.push)).lw=true:=by
 constructor
 ·have:=xs1 l
  unfold D.dep;omega
 ·have:D.lwL (l.map Row.push)=true:=yk0.mpr fun d hd=>by
   obtain⟨j,_,rfl⟩:=Bf0.mp hd;rfl
  simp only[D.lw,this,Bool.true_and,decide_eq_true_eq];exact zi4 (by rw[Aa0];exact h)
theorem wn5 (r:Row):r.data.dep<=3:=by
 have h:D.depL (r.ts.map Tr.place)<=1:=zm6 (n:=1) (fun a=>by simp[Tr.place,za9,D.dep,D.depL]) r.ts;simp only[Row.data,Row.push,zv8,za8,D.dep,D.depL];omega
theorem yn9 {ts:List Tr} (h:ts.length<=1000):(za8 ts).dep<3/\(za8 ts).lw=true:=by
 constructor
 ·have:D.depL (ts.map Tr.place)<=1:=zm6 (n:=1) (fun a=>by simp[Tr.place,za9,D.dep,D.depL]) ts
  unfold za8 D.dep;omega
 ·have:D.lwL (ts.map Tr.place)=true:=yk0.mpr fun d hd=>by
   obtain⟨j,_,rfl⟩:=Bf0.mp hd;rfl
  unfold za8;simp only[D.lw,this,Bool.true_and,decide_eq_true_eq];exact zi4 (by rw[Aa0];exact h)
theorem wu6 (ns:List Int) (hn:ns.length<=63):wpR ((wr1 we9 zv0 yi7 yd9 (xb7 3) vf6 xm3 yw1 zt9).1 (rhoL ys3.length) (zu1 ns,0)) (fun fl _=>fl=.rt (.bl true)) fun _ _=>False:=by
 unfold wr1;dsimp only;have rh:rhoL ys3.length=[Sl.no,.hnd,.no,.no,.no,.no,.no,.no,.no,.no,.no]:=rfl;rw[rh,zb0];obtain⟨st0,hst0,h00⟩:∃st0:Dr,(zu1 ns,(0:Int))=st0/\st0.2=0:=⟨_,rfl,rfl⟩;rw[hst0];have pw:iOp vg0 (fun i j=>D.int (i ^ j.toNat)) (.int 10) (.int 9)=some (.int 1000000000):=rfl;simp! [pw];refine zd7 (by decide) (by decide) (by omega) fun v1 st1 a1 b1 c1=>?_
 simp! [zw0];refine wl3 (by omega) (by decide) (by decide) fun A4 A5 sh ts st2 ho t2=>?_
 simp!;have hf:∀w h s us,(zd2 w h s us).flat=false:=fun _ _ _ _=>rfl
 have sf:∀us,(za8 us).flat=false:=fun _=>rfl
 simp! [hf,sf];simp_all!;simp!;with_reducible refine xq5 ho (by omega) fun hs st3 hp h4 hok t3=>?_
 have dim:∀l:List HX,D.immL (l.map HX.data)=true:=fun l=>zb3 (fun x=>zx7 _ _ _ _) l
 simp! [dim];rw  [zb0];simp!;rw[zf7 (by decide) (by decide)];refine xb0 (fun i ρ st'=>∃(x5 x6 x7 x8 x9 x10:Sl),ρ=[Sl.no,.hnd,.bor (zd2 A4 A5 sh ts),.bor (za8 ts),.own (.lst (hs.map HX.data)),x5,x6,x7,x8,x9,x10]/\st'.2<=st3.2+2*i) 0 ⟨_,_,_,_,_,_,rfl,by omega⟩ (fun i e ρ st' he hI P pn pr=>?_) fun ρ st' hI=>?_
 ·obtain⟨x5,x6,x7,x8,x9,x10,er,hst⟩:=hI
  obtain⟨rfl,hi⟩:=zf0 he;subst er;rw[Af0] at hst;have hi:i<10:=hi;refine⟨_,rfl,?_⟩;have ol:ym7 [.lst (hs.map HX.data)]=some (.int (hs.length:Nat)):=by unfold ym7;simp
  simp_all!;simp! [dim,ol];refine zd7 (by omega) (by omega) (by omega) fun v4 st4 a4 b4 c4=>?_
  obtain⟨x,hx⟩:∃x,hs[v4.toNat]?=some x:=⟨_,Ab0 (by omega)⟩;have ix:oIx (.lst (hs.map HX.data)) (.int v4)=some x.data:=(yk3 (zx7 _ _ _ _) a4 (by rw[Ag0,hx];rfl)).1;obtain⟨hox,epl⟩:=hok x (Aj0 hx);have est:za8 ts=za8 x.us:=by unfold za8;rw[epl]
  have xf:x.data.flat=false:=rfl;have xd:x.data=zd2 x.w x.h x.sh x.us:=rfl;simp! [dim,ix,xf];rewrite [est,xd];obtain⟨w,h,s,us⟩:=x;simp only at hox;have fewu:=hox.few;simp_all!;simp!;with_reducible refine xl3 hox fun h5=>?_
  obtain⟨rows,hr⟩:∃rows,rows=zn6 w h s us us.length:=⟨_,rfl⟩;rw[<-hr] at h5 ⊢;have rim:D.immL (rows.map Row.data)=true:=zb3 zr6 rows;have pim:∀rows:List Row,D.immL (rows.map Row.push)=true:=fun rows=>zb3 yv6 rows
  obtain⟨sm1,sm2⟩:=xc0 (l:=rows) (by omega);simp! [rim];simp_all!;simp!;with_reducible refine wv4 hox fun _=>?_
  rw[<-hr];simp! [rim];refine zg5 wf2 (fun ρ=>∃x y,ρ=[x,y]) ⟨_,_,rfl⟩ (fun d hd ρ hI125=>?_) (zi4 (by rw[Aa0];omega)) ?_
  ·obtain⟨x,y,e⟩:=hI125
   subst e;obtain⟨r,_,rfl⟩:=Bf0.mp hd;refine⟨_,rfl,⟨_,_,rfl⟩,⟨rfl,rfl⟩,?_⟩;simp!;exact⟨rfl,zt2⟩
  have em:(rows.map Row.data).map wf2=rows.map Row.push:=by rw[Bj0];rfl
  rw[em];simp! [pim];refine yq6 3 sm1 sm2 ?_;simp!;have rdep:D.depL (rows.map Row.data)<=29:=Ax0 (zm6 (n:=3) (fun a=>wn5 a) rows) (by decide);simp! [yf0,wq1 rdep,rim];by_cases hp0:rows=[]
  ·subst hp0
   simp! [decide_true];rewrite [<-est];exact pn _ _ ⟨_,_,_,_,_,_,rfl,by omega⟩
  ·have hp0':decide (rows.map Row.data=[])=false:=Ao1 (by simpa using hp0)
   have hpos:0<rows.length:=List.length_pos_iff.mpr hp0;have olr:ym7 [.lst (rows.map Row.data)]=some (.int (rows.length:Nat)):=by unfold ym7;simp
   rw[hp0'];simp!;simp_all!;simp! [olr,rim];refine zd7 (by omega) (by omega) (by omega) fun v5 st5 a5 b5 c5=>?_
   obtain⟨r,hrr⟩:∃r,rows[v5.toNat]?=some r:=⟨_,Ab0 (by omega)⟩;have ip:oIx (.lst (rows.map Row.data)) (.int v5)=some (.tup [r.push,za8 r.ts]):=(yk3 (d:=r.data) (zr6 r) a5 (by rw[Ag0,hrr];rfl)).1;have hrm:=Aj0 hrr;rw[hr] at hrm;obtain⟨rn,dr,rk,rs⟩:=xb8 hrm;obtain⟨t,ht⟩:∃t,us[r.n]?=some t:=⟨_,Ab0 rn⟩;obtain⟨g0',hg0⟩:∃g0,zj9 w h s us r.d r.n g0:=by
    obtain⟨mid,g,hz,hg⟩:=rs.pre 0 (by omega);cases hz;exact⟨g,hg⟩
   have to:=hox.tr t (Aj0 ht);have rk9:r.k<=9:=by
    have:=to.w1;have:=to.h1;have:=to.xw;have:=to.yh;have:=hox.w9;have:=hox.h9;exact rs.le9 ht to.w1 to.h1 ⟨to.x0,by omega⟩ ⟨to.y0,by omega⟩ hox.w9 hox.h9 dr
   have pf:r.push.flat=false:=rfl;have pmi:r.push.imm=true:=yv6 r;simp! [ip,pf,sf,pmi,zm8,rim];have p0:oIx r.push (.int 0)=some (.int r.n):=rfl;have p1:oIx r.push (.int 1)=some (.int r.d):=rfl;simp_all!;simp! [p0,p1];with_reducible refine wp_step (zo9 hox) ht dr (fun h=>absurd h (hg0.not ht)) fun g hg=>?_
   have gl:g.length<=12:=Ax0 (zo1 _ g hg.nd hg.lt) fewu;have gt:yc7 [.lst (zg9 g)]=some (.tup (zg9 g)):=if_pos (zj1 g);have gf:(D.tup (zg9 g)).flat=false:=rfl;simp! [zj1,gt,gf];simp_all!;simp!;have pe:r.push=zv8 r.n r.d r.k:=rfl;rewrite [pe];with_reducible refine wa3 hox ht dr (by omega) rs ?_
   simp!;refine yq6 3 (yn9 (by rw[rs.len];omega)).1 (yn9 (by rw[rs.len];omega)).2 ?_;simp!;rewrite [<-pe];simp! [p0,p1];with_reducible refine yh9 hox ht dr (fun h=>absurd h (hg0.not ht)) fun g2' hg2=>?_
   have e2:=hg.one hg2;subst e2;simp!;refine yq6 3 (yu6 (by omega)).1 (yu6 (by omega)).2 ?_;simp!;rewrite [<-est];exact pn _ _ ⟨_,_,_,_,_,_,rfl,by omega⟩
 ·obtain⟨x5,x6,x7,x8,x9,x10,er,hst⟩:=hI
  subst er;simp!
end K12
section
set_option maxHeartbeats 0
namespace K12
open L2
theorem ln1 {α:Type} {us:List α} (h:us.length=1):∃a,us=[a]:=by
 match us,h with
 | [a],_=>exact⟨a,rfl⟩
theorem ln2 {α:Type} {us:List α} (h:us.length=2):∃a b,us=[a,b]:=by
 match us,h with
 | [a,b],_=>exact⟨a,b,rfl⟩
theorem ln3 {α:Type} {us:List α} (h:us.length=3):∃a b c,us=[a,b,c]:=by
 match us,h with
 | [a,b,c],_=>exact⟨a,b,c,rfl⟩
theorem ln4 {α:Type} {us:List α} (h:us.length=4):∃a b c d,us=[a,b,c,d]:=by
 match us,h with
 | [a,b,c,d],_=>exact⟨a,b,c,d,rfl⟩
theorem ln5 {α:Type} {us:List α} (h:us.length=5):∃a b c d e,us=[a,b,c,d,e]:=by
 match us,h with
 | [a,b,c,d,e],_=>exact⟨a,b,c,d,e,rfl⟩
noncomputable def At (K:PySem.W.Frag) (x:Str) (st:Stmt) (f:Addr) (d:FuncData):Prop:=nsIn K mainGlobals x=some (some (.ref f))/\Fun K x x st f d
theorem At.of {K:PySem.W.Frag} {x:Str} {st:Stmt} {f:Addr} {oc:Value} {od an:Option Addr} {osl:Array (Option Value)} {kV doc pm cdv ct:Value} (a:nsIn K mainGlobals x=some (some (.ref f)):=by k_is)
 (l:K.lookup f=some ⟨oc,od,.func (fnOf x x (ya0 st) (zc4 st) (za4 st) .none kV doc pm an cdv ct),osl⟩:=by k_is) (c:codeIn K cdv x=true:=by k_is) (k:keepIn K (.ref f)=true:=by k_is) :
 At K x st f (fnOf x x (ya0 st) (zc4 st) (za4 st) .none kV doc pm an cdv ct):=⟨a,vb5 l c k⟩
theorem all_mk {l:PySem.W.OpenLaw} {w:World} {K:PySem.W.Frag} {h:Heap} {mg:Str->Option Value} {fa f_0 f_1 f_2 f_3 f_4 f_5 f_6 f_7 f_8 f_9 f_10 f_11 f_12 f_13 f_14 f_15 f_16 f_17 f_18 f_19 f_20 f_21 f_22 f_23 f_24 f_25 f_26 f_27:Addr} (X:K.In h) (G:h.Ns mainGlobals mg) (hfa:mg "law" = some (.ref fa))
 {d_0 d_1 d_2 d_3 d_4 d_5 d_6 d_7 d_8 d_9 d_10 d_11 d_12 d_13 d_14 d_15 d_16 d_17 d_18 d_19 d_20 d_21 d_22 d_23 d_24 d_25 d_26 d_27:FuncData}
 (h_0:At K "_law_begin" zv5 f_0 d_0)
 (h_1:At K "_law_take" zz6 f_1 d_1)
 (h_2:At K "within" yb6 f_2 d_2)
 (h_3:At K "covered" zs4 f_3 d_3)
 (h_4:At K "holders" zv4 f_4 d_4)
 (h_5:At K "goes" yv4 f_5 d_5)
 (h_6:At K "one_further" zk5 f_6 d_6)
 (h_7:At K "met_by" yb9 f_7 d_7)
 (h_8:At K "movers_among" zg6 f_8 d_8)
 (h_9:At K "movers" yb8 f_9 d_9)
 (h_10:At K "behind_step" zk6 f_10 d_10)
 (h_11:At K "pushed" yb7 f_11 d_11)
 (h_12:At K "stands_along" zi6 f_12 d_12)
 (h_13:At K "pushes_with_ends" ze5 f_13 d_13)
 (h_14:At K "all_pushes" zk0 f_14 d_14)
 (h_15:At K "_law_covered" zg7 f_15 d_15)
 (h_16:At K "_law_room_of" zi7 f_16 d_16)
 (h_17:At K "_law_sized" zn0 f_17 d_17)
 (h_18:At K "_law_kind" zp2 f_18 d_18)
 (h_19:At K "_law_hall" zh5 f_19 d_19)
 (h_20:At K "_law_behind" zk9 f_20 d_20)
 (h_21:At K "_law_goes" zp3 f_21 d_21)
 (h_22:At K "_law_step" zh4 f_22 d_22)
 (h_23:At K "_law_pushed" zk8 f_23 d_23)
 (h_24:At K "_law_pushes" zk7 f_24 d_24)
 (h_25:At K "_law_same" zj3 f_25 d_25)
 (h_26:At K "_law_others" zh7 f_26 d_26)
 (h_27:At K "law" ye7 f_27 d_27)
 (O8:nsIn K mainGlobals "len" = some none)
 (L0:nsIn K mainGlobals "divmod" = some none)
 (O3:nsIn K mainGlobals "list" = some none)
 (N7:nsIn K mainGlobals "tuple" = some none)
 (O9:nsIn K mainGlobals "int" = some none)
 (O4:nsIn K mainGlobals "bool" = some none)
 (P0:nsIn K mainGlobals "str" = some none)
 (O5:nsIn K mainGlobals "dict" = some none)
 (G5:nsIn K mainGlobals "isinstance" = some none)
 (P6:nsIn K mainGlobals "all" = some none)
 (P7:nsIn K mainGlobals "any" = some none)
 (P8:nsIn K mainGlobals "sum" = some none)
 (P9:nsIn K mainGlobals "zip" = some none)
 (J1:nsIn K mainGlobals "enumerate" = some none)
 (N8:nsIn K mainGlobals "range" = some none)
 (L4:nsIn K mainGlobals "sorted" = some none)
 (Q0:nsIn K mainGlobals "min" = some none)
 (Q1:nsIn K mainGlobals "max" = some none)
 (Q2:nsIn K mainGlobals "abs" = some none)
 (J6:nsIn K mainGlobals "reversed" = some none)
 {t_WALL:Tok} (O6:nsIn K mainGlobals "WALL" = some (some (.int (-1) t_WALL)))
 {t_STRONG:Tok} (L5:nsIn K mainGlobals "STRONG" = some (some (.int (1) t_STRONG)))
 {t_DULL:Tok} (O7:nsIn K mainGlobals "DULL" = some (some (.int (-1) t_DULL)))
 {J7 J2 J3 J4 J5:Addr} {L6 J8 J9 K0 K1:Option Addr} {L7 K2 K3 K4 K5:Array (Option Value)} {n_STEPS L8 L9 M0 M1:Nat} {M4 M5 M6 M7 M8 M9 N0 N1:Tok}
 (N9:nsIn K mainGlobals "STEPS" = some (some (.ref J7))) (N2:K.lookup J7=some ⟨.type "tuple",L6,.seq #[.ref J2,.ref J3,.ref J4,.ref J5] n_STEPS,L7⟩)
 (N3:K.lookup J2=some ⟨.type "tuple",J8,.seq #[.int (1) M4,.int (0) M5] L8,K2⟩)
 (N4:K.lookup J3=some ⟨.type "tuple",J9,.seq #[.int (0) M6,.int (1) M7] L9,K3⟩)
 (N5:K.lookup J4=some ⟨.type "tuple",K0,.seq #[.int (-1) M8,.int (0) M9] M0,K4⟩)
 (N6:K.lookup J5=some ⟨.type "tuple",K1,.seq #[.int (0) N0,.int (-1) N1] M1,K5⟩)
 : ∃fd:FuncData,(∀(s:Shared) (v:Value),BindsTo s fd ⟨[v],[]⟩ [("_law_script",v)])/\∀base:Heap,K.In base->base.Ns mainGlobals mg->zr3 l.prog w K mg base CX0 8 fa fd ["_law_script"] (wb4 K):=by
 obtain⟨a_0,F_0⟩:=h_0;obtain⟨a_1,F_1⟩:=h_1;obtain⟨a_2,F_2⟩:=h_2;obtain⟨a_3,F_3⟩:=h_3;obtain⟨a_4,F_4⟩:=h_4;obtain⟨a_5,F_5⟩:=h_5;obtain⟨a_6,F_6⟩:=h_6;obtain⟨a_7,F_7⟩:=h_7;obtain⟨a_8,F_8⟩:=h_8;obtain⟨a_9,F_9⟩:=h_9;obtain⟨a_10,F_10⟩:=h_10;obtain⟨a_11,F_11⟩:=h_11;obtain⟨a_12,F_12⟩:=h_12;obtain⟨a_13,F_13⟩:=h_13;obtain⟨a_14,F_14⟩:=h_14;obtain⟨a_15,F_15⟩:=h_15;obtain⟨a_16,F_16⟩:=h_16;obtain⟨a_17,F_17⟩:=h_17;obtain⟨a_18,F_18⟩:=h_18;obtain⟨a_19,F_19⟩:=h_19;obtain⟨a_20,F_20⟩:=h_20;obtain⟨a_21,F_21⟩:=h_21;obtain⟨a_22,F_22⟩:=h_22;obtain⟨a_23,F_23⟩:=h_23;obtain⟨a_24,F_24⟩:=h_24;obtain⟨a_25,F_25⟩:=h_25;obtain⟨a_26,F_26⟩:=h_26;obtain⟨a_27,F_27⟩:=h_27;obtain⟨_,_,kV,dc,pm,an,cd,ct,_,rfl,_,_⟩:=F_27.ex;have e:=hfa.symm.trans (mg_of X G a_27);cases e;have hm:Bn mg:=⟨mg_none_of X G O8,mg_none_of X G L0,mg_none_of X G O3,mg_none_of X G N7,mg_none_of X G O9,mg_none_of X G O4,mg_none_of X G P0,mg_none_of X G O5,mg_none_of X G G5,mg_none_of X G P6,mg_none_of X G P7,mg_none_of X G P8,mg_none_of X G P9,mg_none_of X G J1,mg_none_of X G N8,mg_none_of X G L4,mg_none_of X G Q0,mg_none_of X G Q1,mg_none_of X G Q2,mg_none_of X G J6⟩;have cs:Cst K mg:=⟨trivial,⟨_,mg_of X G O6⟩,⟨_,mg_of X G L5⟩,⟨_,mg_of X G O7⟩,⟨_,mg_of X G N9,wa8 (p0:=(1,0)) (p1:=(0,1)) (p2:=(-1,0)) (p3:=(0,-1)) N2 N3 N4 N5 N6⟩⟩;have b_0:=F_0.binds (ps:=["_law_script"]) fun _ _ _ _ _ _ us hl=>by obtain⟨_,rfl⟩:=ln1 hl;rfl
 have m_0:=mg_of X G a_0;have b_1:=F_1.binds (ps:=["_law_state","_law_many"]) fun _ _ _ _ _ _ us hl=>by obtain⟨_,_,rfl⟩:=ln2 hl;rfl
 have m_1:=mg_of X G a_1;have b_2:=F_2.binds (ps:=["wide","high","cell"]) fun _ _ _ _ _ _ us hl=>by obtain⟨_,_,_,rfl⟩:=ln3 hl;rfl
 have m_2:=mg_of X G a_2;have b_3:=F_3.binds (ps:=["kind","place"]) fun _ _ _ _ _ _ us hl=>by obtain⟨_,_,rfl⟩:=ln2 hl;rfl
 have m_3:=mg_of X G a_3;have b_4:=F_4.binds (ps:=["hall","stand"]) fun _ _ _ _ _ _ us hl=>by obtain⟨_,_,rfl⟩:=ln2 hl;rfl
 have m_4:=mg_of X G a_4;have b_5:=F_5.binds (ps:=["ways","direction"]) fun _ _ _ _ _ _ us hl=>by obtain⟨_,_,rfl⟩:=ln2 hl;rfl
 have m_5:=mg_of X G a_5;have b_6:=F_6.binds (ps:=["place","direction"]) fun _ _ _ _ _ _ us hl=>by obtain⟨_,_,rfl⟩:=ln2 hl;rfl
 have m_6:=mg_of X G a_6;have b_7:=F_7.binds (ps:=["hall","stand","held","n","direction"]) fun _ _ _ _ _ _ us hl=>by obtain⟨_,_,_,_,_,rfl⟩:=ln5 hl;rfl
 have m_7:=mg_of X G a_7;have b_8:=F_8.binds (ps:=["hall","stand","held","n","direction"]) fun _ _ _ _ _ _ us hl=>by obtain⟨_,_,_,_,_,rfl⟩:=ln5 hl;rfl
 have m_8:=mg_of X G a_8;have b_9:=F_9.binds (ps:=["hall","stand","n","direction"]) fun _ _ _ _ _ _ us hl=>by obtain⟨_,_,_,_,rfl⟩:=ln4 hl;rfl
 have m_9:=mg_of X G a_9;have b_10:=F_10.binds (ps:=["stand","going","direction"]) fun _ _ _ _ _ _ us hl=>by obtain⟨_,_,_,rfl⟩:=ln3 hl;rfl
 have m_10:=mg_of X G a_10;have b_11:=F_11.binds (ps:=["hall","stand","push"]) fun _ _ _ _ _ _ us hl=>by obtain⟨_,_,_,rfl⟩:=ln3 hl;rfl
 have m_11:=mg_of X G a_11;have b_12:=F_12.binds (ps:=["hall","stand","held","n","direction"]) fun _ _ _ _ _ _ us hl=>by obtain⟨_,_,_,_,_,rfl⟩:=ln5 hl;rfl
 have m_12:=mg_of X G a_12;have b_13:=F_13.binds (ps:=["hall","stand"]) fun _ _ _ _ _ _ us hl=>by obtain⟨_,_,rfl⟩:=ln2 hl;rfl
 have m_13:=mg_of X G a_13;have b_14:=F_14.binds (ps:=["hall","stand"]) fun _ _ _ _ _ _ us hl=>by obtain⟨_,_,rfl⟩:=ln2 hl;rfl
 have m_14:=mg_of X G a_14;have b_15:=F_15.binds (ps:=["_law_kind_here","_law_place"]) fun _ _ _ _ _ _ us hl=>by obtain⟨_,_,rfl⟩:=ln2 hl;rfl
 have m_15:=mg_of X G a_15;have b_16:=F_16.binds (ps:=["_law_wide","_law_high","_law_kind_here"]) fun _ _ _ _ _ _ us hl=>by obtain⟨_,_,_,rfl⟩:=ln3 hl;rfl
 have m_16:=mg_of X G a_16;have b_17:=F_17.binds (ps:=["_law_state","_law_broad"]) fun _ _ _ _ _ _ us hl=>by obtain⟨_,_,rfl⟩:=ln2 hl;rfl
 have m_17:=mg_of X G a_17;have b_18:=F_18.binds (ps:=["_law_state","_law_wide","_law_high","_law_broad"]) fun _ _ _ _ _ _ us hl=>by obtain⟨_,_,_,_,rfl⟩:=ln4 hl;rfl
 have m_18:=mg_of X G a_18;have b_19:=F_19.binds (ps:=["_law_state","_law_broad","_law_much"]) fun _ _ _ _ _ _ us hl=>by obtain⟨_,_,_,rfl⟩:=ln3 hl;rfl
 have m_19:=mg_of X G a_19;have b_20:=F_20.binds (ps:=["_law_place","_law_direction"]) fun _ _ _ _ _ _ us hl=>by obtain⟨_,_,rfl⟩:=ln2 hl;rfl
 have m_20:=mg_of X G a_20;have b_21:=F_21.binds (ps:=["_law_kind_here","_law_direction"]) fun _ _ _ _ _ _ us hl=>by obtain⟨_,_,rfl⟩:=ln2 hl;rfl
 have m_21:=mg_of X G a_21;have b_22:=F_22.binds (ps:=["_law_hall_here","_law_stand","_law_n","_law_direction"]) fun _ _ _ _ _ _ us hl=>by obtain⟨_,_,_,_,rfl⟩:=ln4 hl;rfl
 have m_22:=mg_of X G a_22;have b_23:=F_23.binds (ps:=["_law_hall_here","_law_stand","_law_push"]) fun _ _ _ _ _ _ us hl=>by obtain⟨_,_,_,rfl⟩:=ln3 hl;rfl
 have m_23:=mg_of X G a_23;have b_24:=F_24.binds (ps:=["_law_hall_here","_law_stand"]) fun _ _ _ _ _ _ us hl=>by obtain⟨_,_,rfl⟩:=ln2 hl;rfl
 have m_24:=mg_of X G a_24;have b_25:=F_25.binds (ps:=["_law_found","_law_due"]) fun _ _ _ _ _ _ us hl=>by obtain⟨_,_,rfl⟩:=ln2 hl;rfl
 have m_25:=mg_of X G a_25;have b_26:=F_26.binds (ps:=["_law_state","_law_hall_here","_law_stand"]) fun _ _ _ _ _ _ us hl=>by obtain⟨_,_,_,rfl⟩:=ln3 hl;rfl
 have m_26:=mg_of X G a_26;have b_27:=F_27.binds (ps:=["_law_script"]) fun _ _ _ _ _ _ us hl=>by obtain⟨_,rfl⟩:=ln1 hl;rfl
 have m_27:=mg_of X G a_27;refine⟨fnOf "law" "law" (ya0 ye7) (zc4 ye7) (za4 ye7) .none kV dc pm an cd ct,fun s v=>.of_eq rfl,fun base _ _=>?_⟩;have okB:=wc8 (P:=l.prog) (w:=w) (base:=base) F_0 hm;have ok_1:∀p q:Addr,zr3 l.prog w K mg base CX0 1 f_1 _ ["_law_state","_law_many"] (spS (WdS p q) K zv0):=fun p q=>wp4 F_1 hm.len hm.divmod
 have ok_2:zr3 l.prog w K mg base CX0 1 f_2 _ ["wide","high","cell"] (sp0 K yg7):=Fun.d0 F_2 xr9 fun cdv A outer s H E hr=>yr1.2 _ _ _ _ _ hm cs 0  _ cdv A outer s H E hr
 have ok_3:zr3 l.prog w K mg base CX0 1 f_3 _ ["kind","place"] (sp0 K xm8):=Fun.d0 F_3 zs3 fun cdv A outer s H E hr=>yl7.2 _ _ _ _ _ hm cs 0  _ cdv A outer s H E hr
 have ok_4:zr3 l.prog w K mg base CX0 2 f_4 _ ["hall","stand"] (sp0 K zx6):=Fun.d0 F_4 zo7 fun cdv A outer s H E hr=>(yk9 xm8).2 _ _ _ _ _ hm cs 1 ⟨_,_,m_3,F_3.kp,b_3,ok_3.mono (by decide)⟩ _ cdv A outer s H E hr
 have ok_5:zr3 l.prog w K mg base CX0 1 f_5 _ ["ways","direction"] (sp0 K xh1):=Fun.d0 F_5 wn2 fun cdv A outer s H E hr=>xx0.2 _ _ _ _ _ hm cs 0  _ cdv A outer s H E hr
 have ok_6:zr3 l.prog w K mg base CX0 1 f_6 _ ["place","direction"] (sp0 K zx8):=Fun.d0 F_6 zy6 fun cdv A outer s H E hr=>zt4.2 _ _ _ _ _ hm cs 0  _ cdv A outer s H E hr
 have ok_7:zr3 l.prog w K mg base CX0 2 f_7 _ ["hall","stand","held","n","direction"] (sp0 K vf2):=Fun.d0 F_7 zv1 fun cdv A outer s H E hr=>(ys5 xh1 xm8 zx8 yg7).2 _ _ _ _ _ hm cs 1 ⟨_,_,m_5,F_5.kp,b_5,ok_5.mono (by decide)⟩ ⟨_,_,m_3,F_3.kp,b_3,ok_3.mono (by decide)⟩ ⟨_,_,m_6,F_6.kp,b_6,ok_6.mono (by decide)⟩ ⟨_,_,m_2,F_2.kp,b_2,ok_2.mono (by decide)⟩ _ cdv A outer s H E hr
 have ok_8:zr3 l.prog w K mg base CX0 3 f_8 _ ["hall","stand","held","n","direction"] (sp0 K yq4):=Fun.d0 F_8 zf5 fun cdv A outer s H E hr=>(zs0 vf2).2 _ _ _ _ _ hm cs 2 ⟨_,_,m_7,F_7.kp,b_7,ok_7.mono (by decide)⟩ _ cdv A outer s H E hr
 have ok_9:zr3 l.prog w K mg base CX0 4 f_9 _ ["hall","stand","n","direction"] (sp0 K zt9):=Fun.d0 F_9 xs0 fun cdv A outer s H E hr=>(ys4 yq4 zx6).2 _ _ _ _ _ hm cs 3 ⟨_,_,m_8,F_8.kp,b_8,ok_8.mono (by decide)⟩ ⟨_,_,m_4,F_4.kp,b_4,ok_4.mono (by decide)⟩ _ cdv A outer s H E hr
 have ok_10:zr3 l.prog w K mg base CX0 2 f_10 _ ["stand","going","direction"] (sp0 K ym0):=Fun.d0 F_10 zr5 fun cdv A outer s H E hr=>(zu2 zx8).2 _ _ _ _ _ hm cs 1 ⟨_,_,m_6,F_6.kp,b_6,ok_6.mono (by decide)⟩ _ cdv A outer s H E hr
 have ok_11:zr3 l.prog w K mg base CX0 5 f_11 _ ["hall","stand","push"] (sp0 K yw1):=Fun.d0 F_11 zm9 fun cdv A outer s H E hr=>(yg8 zt9 ym0).2 _ _ _ _ _ hm cs 4 ⟨_,_,m_9,F_9.kp,b_9,ok_9.mono (by decide)⟩ ⟨_,_,m_10,F_10.kp,b_10,ok_10.mono (by decide)⟩ _ cdv A outer s H E hr
 have ok_12:zr3 l.prog w K mg base CX0 5 f_12 _ ["hall","stand","held","n","direction"] (sp0 K wf5):=Fun.d0 F_12 zf4 fun cdv A outer s H E hr=>(zr4 yq4 ym0 zt9).2 _ _ _ _ _ hm cs 4 ⟨_,_,m_8,F_8.kp,b_8,ok_8.mono (by decide)⟩ ⟨_,_,m_10,F_10.kp,b_10,ok_10.mono (by decide)⟩ ⟨_,_,m_9,F_9.kp,b_9,ok_9.mono (by decide)⟩ _ cdv A outer s H E hr
 have ok_13:zr3 l.prog w K mg base CX0 6 f_13 _ ["hall","stand"] (sp0 K ve5):=Fun.d0 F_13 ze0 fun cdv A outer s H E hr=>(zl0 zx6 wf5).2 _ _ _ _ _ hm cs 5 ⟨_,_,m_4,F_4.kp,b_4,ok_4.mono (by decide)⟩ ⟨_,_,m_12,F_12.kp,b_12,ok_12.mono (by decide)⟩ _ cdv A outer s H E hr
 have ok_14:zr3 l.prog w K mg base CX0 7 f_14 _ ["hall","stand"] (sp0 K vf6):=Fun.d0 F_14 yr6 fun cdv A outer s H E hr=>(zx1 ve5).2 _ _ _ _ _ hm cs 6 ⟨_,_,m_13,F_13.kp,b_13,ok_13.mono (by decide)⟩ _ cdv A outer s H E hr
 have ok_15:zr3 l.prog w K mg base CX0 1 f_15 _ ["_law_kind_here","_law_place"] (sp0 K zo2):=Fun.d0 F_15 zp1 fun cdv A outer s H E hr=>zs2.2 _ _ _ _ _ hm cs 0  _ cdv A outer s H E hr
 have ok_16:zr3 l.prog w K mg base CX0 1 f_16 _ ["_law_wide","_law_high","_law_kind_here"] (sp0 K wb7):=Fun.d0 F_16 zv3 fun cdv A outer s H E hr=>zs1.2 _ _ _ _ _ hm cs 0  _ cdv A outer s H E hr
 have ok_17:∀p q:Addr,zr3 l.prog w K mg base CX0 2 f_17 _ ["_law_state","_law_broad"] (spS (WdS p q) K xg5):=fun p q=>Fun.dS F_17 yb5 fun cdv A outer s H E hr=>(zx2 zv0).2 _ _ _ _ _ p q hm cs 1 ⟨_,_,m_1,F_1.kp,b_1,(ok_1 p q).mono (by decide)⟩ _ cdv A outer s H E hr
 have ok_18:∀p q:Addr,zr3 l.prog w K mg base CX0 2 f_18 _ ["_law_state","_law_wide","_law_high","_law_broad"] (spS (WdS p q) K we0):=fun p q=>Fun.dS F_18 ze2 fun cdv A outer s H E hr=>(ya5 zv0).2 _ _ _ _ _ p q hm cs 1 ⟨_,_,m_1,F_1.kp,b_1,(ok_1 p q).mono (by decide)⟩ _ cdv A outer s H E hr
 have ok_19:∀p q:Addr,zr3 l.prog w K mg base CX0 3 f_19 _ ["_law_state","_law_broad","_law_much"] (spS (WdS p q) K we9):=fun p q=>Fun.dS F_19 zc3 fun cdv A outer s H E hr=>(ya6 xg5 zo2 zv0 we0 wb7).2 _ _ _ _ _ p q hm cs 2 ⟨_,_,m_17,F_17.kp,b_17,(ok_17 p q).mono (by decide)⟩ ⟨_,_,m_15,F_15.kp,b_15,ok_15.mono (by decide)⟩ ⟨_,_,m_1,F_1.kp,b_1,(ok_1 p q).mono (by decide)⟩ ⟨_,_,m_18,F_18.kp,b_18,(ok_18 p q).mono (by decide)⟩ ⟨_,_,m_16,F_16.kp,b_16,ok_16.mono (by decide)⟩ _ cdv A outer s H E hr
 have ok_20:zr3 l.prog w K mg base CX0 1 f_20 _ ["_law_place","_law_direction"] (sp0 K yf6):=Fun.d0 F_20 ym6 fun cdv A outer s H E hr=>zu4.2 _ _ _ _ _ hm cs 0  _ cdv A outer s H E hr
 have ok_21:zr3 l.prog w K mg base CX0 1 f_21 _ ["_law_kind_here","_law_direction"] (sp0 K wf0):=Fun.d0 F_21 yv3 fun cdv A outer s H E hr=>ya7.2 _ _ _ _ _ hm cs 0  _ cdv A outer s H E hr
 have ok_22:zr3 l.prog w K mg base CX0 2 f_22 _ ["_law_hall_here","_law_stand","_law_n","_law_direction"] (sp0 K xm3):=Fun.d0 F_22 zd5 fun cdv A outer s H E hr=>(ya3 zo2 yf6 wf0).2 _ _ _ _ _ hm cs 1 ⟨_,_,m_15,F_15.kp,b_15,ok_15.mono (by decide)⟩ ⟨_,_,m_20,F_20.kp,b_20,ok_20.mono (by decide)⟩ ⟨_,_,m_21,F_21.kp,b_21,ok_21.mono (by decide)⟩ _ cdv A outer s H E hr
 have ok_23:zr3 l.prog w K mg base CX0 3 f_23 _ ["_law_hall_here","_law_stand","_law_push"] (sp0 K zu0):=Fun.d0 F_23 ze1 fun cdv A outer s H E hr=>(zu3 xm3 yf6).2 _ _ _ _ _ hm cs 2 ⟨_,_,m_22,F_22.kp,b_22,ok_22.mono (by decide)⟩ ⟨_,_,m_20,F_20.kp,b_20,ok_20.mono (by decide)⟩ _ cdv A outer s H E hr
 have ok_24:zr3 l.prog w K mg base CX0 4 f_24 _ ["_law_hall_here","_law_stand"] (sp0 K yd9):=Fun.d0 F_24 ze9 fun cdv A outer s H E hr=>(zo4 zu0).2 _ _ _ _ _ hm cs 3 ⟨_,_,m_23,F_23.kp,b_23,ok_23.mono (by decide)⟩ _ cdv A outer s H E hr
 have okS:∀n:Nat,zr3 l.prog w K mg base CX0 n f_25 _ ["_law_found","_law_due"] (sp0 K (xb7 n)):=fun n=>by
  induction n with
  | zero=>exact vb6
  | succ n ih=>exact Fun.d0 F_25 yv2 fun cdv A outer s H E hr=>(ya4 (xb7 n)).2 _ _ _ _ _ hm cs n ⟨_,_,m_25,F_25.kp,b_25,ih⟩ _ cdv A outer s H E hr
 have ok_25:=okS 3;have ok_26:∀p q:Addr,zr3 l.prog w K mg base CX0 2 f_26 _ ["_law_state","_law_hall_here","_law_stand"] (spS (WdS p q) K yi7):=fun p q=>Fun.dS F_26 zc0 fun cdv A outer s H E hr=>(zo5 zo2 zv0).2 _ _ _ _ _ p q hm cs 1 ⟨_,_,m_15,F_15.kp,b_15,ok_15.mono (by decide)⟩ ⟨_,_,m_1,F_1.kp,b_1,(ok_1 p q).mono (by decide)⟩ _ cdv A outer s H E hr
 exact wz2 F_27 (k:=7) ⟨_,_,m_0,F_0.kp,b_0,okB.mono (by decide)⟩ (fun p q cdv A outer s H E hr=>(wr1 we9 zv0 yi7 yd9 (xb7 3) vf6 xm3 yw1 zt9).2 _ _ _ _ _ p q hm cs 7 ⟨_,_,m_19,F_19.kp,b_19,(ok_19 p q).mono (by decide)⟩ ⟨_,_,m_1,F_1.kp,b_1,(ok_1 p q).mono (by decide)⟩ ⟨_,_,m_26,F_26.kp,b_26,(ok_26 p q).mono (by decide)⟩ ⟨_,_,m_24,F_24.kp,b_24,ok_24.mono (by decide)⟩ ⟨_,_,m_25,F_25.kp,b_25,ok_25.mono (by decide)⟩ ⟨_,_,m_14,F_14.kp,b_14,ok_14.mono (by decide)⟩ ⟨_,_,m_22,F_22.kp,b_22,ok_22.mono (by decide)⟩ ⟨_,_,m_11,F_11.kp,b_11,ok_11.mono (by decide)⟩ ⟨_,_,m_9,F_9.kp,b_9,ok_9.mono (by decide)⟩ _ cdv A outer s H E hr) wu6
theorem walk {l:PySem.W.OpenLaw} {q:Program} {loose:List Str} {XP:(Str->Option Value)->Heap->Prop} {YP:World->Heap->Prop} {d:DefRec} {K:Params->PySem.W.Frag} (hn:l.most=some 63) (hdf:d.params.defaults=[])
 (hY:∀(w:World) (h:Heap),YP w h->(K w.params).In h) (F:∀(w:World) (mg:Str->Option Value) (fa:Addr) (h:Heap),(K w.params).In h->h.Ns mainGlobals mg->mg d.name=some (.ref fa)->
  ∃fd:FuncData,(∀(s:Shared) (u:Value),BindsTo s fd ⟨[u],[]⟩ [("_law_script",u)])/\∀base:Heap,(K w.params).In base->base.Ns mainGlobals mg->zr3 l.prog w (K w.params) mg base CX0 8 fa fd ["_law_script"] (wb4 (K w.params))) :
 PySem.W.WalkO q loose XP YP l.row.toRowW d [] (fun f vs=>PySem.call f vs):=
 L2.walk_of (n:=63) (k:=8) (x:="_law_script") (CX:=fun _=>CX0) (sp:=fun w=>wb4 (K w.params)) hn (by decide) hdf ⟨rfl,by decide,by decide,rfl⟩ hY F (fun _ _ a ns hl _ hS=>⟨a,ns,rfl,hS,hl,fun _=>rfl⟩) fun _ _ _ _ _ z=>z
end K12
open PySem PySem.W PyProof.Rows
noncomputable def PySem.Challenge.vw:PySem.Program:=PySem.W.view PySem.Challenge.rw_slidehall_k12_halls_by_turns.row.toRowW.prog [1,2,4,5,6,7,9,10,11,12,13,14,15,16,17,18,19,20,21,23,24,25,26,27,28,29,30,31,32,33,34,35,36,37]
local macro_rules
 |`(tactic|o_head $H)=>`(tactic|(
  refine holds_open (q:=PySem.Challenge.vw) (loose:=[]) (N:=2934)
   (Xt:=fun s=>xlAt PySem.Challenge.vw [] s&&recOk PySem.Challenge.rw_slidehall_k12_halls_by_turns.row.toRowW.records s)
   (XP:=XL PySem.Challenge.vw [])
   (Yf:=($H).obs) (Ya:=($H).val) (YP:=($H).says) ?hl
   (($H).of) (($H).keeps)
   (fun s e=>xl_of s (Bool.and_eq_true_iff.mp e).1)
   XL.keeps (by rfl) (by rfl) (by rfl)
   (fun s e=>recFacts_of (Bool.and_eq_true_iff.mp e).2)
   (by rfl) (by first|assumption|decide +kernel)
   (by decide +kernel)
   ⟨rfl,rfl,rfl,rfl,rfl,by decide +kernel⟩ ?hw ?hc
  (case hl=>intro w;kernel_rfl)
  (case hw=>w_witness2)))
set_option maxRecDepth 100000 in
theorem PySem.Challenge.cw_slidehall_k12_halls_by_turns_holds : PySem.Challenge.rw_slidehall_k12_halls_by_turns.Holds := by
 w_on;o_law;k_head
 k_fill
 refine K12.walk (l:=PySem.Challenge.rw_slidehall_k12_halls_by_turns) rfl rfl (fun w h Y=>PySem.W.kIn_of Y) ?F;case F=>
  intro w mg fa h KX G hmg;exact K12.all_mk KX G hmg K12.At.of K12.At.of K12.At.of K12.At.of K12.At.of K12.At.of K12.At.of K12.At.of K12.At.of K12.At.of K12.At.of K12.At.of K12.At.of K12.At.of K12.At.of K12.At.of K12.At.of K12.At.of K12.At.of K12.At.of K12.At.of K12.At.of K12.At.of K12.At.of K12.At.of K12.At.of K12.At.of K12.At.of (by k_is) (by k_is) (by k_is) (by k_is) (by k_is) (by k_is) (by k_is) (by k_is) (by k_is) (by k_is) (by k_is) (by k_is) (by k_is) (by k_is) (by k_is) (by k_is) (by k_is) (by k_is) (by k_is) (by k_is) (by k_is) (by k_is) (by k_is) (by k_is) (by k_is) (by k_is) (by k_is) (by k_is) (by k_is)
end
