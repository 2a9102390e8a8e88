import PyProof.Rows.All
import Wide.All
import OpenK.AllK
import Wide.FinOn
import KE.KDictSum
import KE.KRevIter
import Lean
import PyProof.AutoRange
import PyProof.DictWalks
import PyProof.EqAt
import PyProof.EqKinds
import PyProof.FactsAll.range_2
import PyProof.FactsAll.tuple_2
import PyProof.ListMulRoad
import PyProof.NeKinds
import PyProof.ReprLen
import PyProof.ReprRoads
import PyProof.Rows.Range3
import PyProof.Rows.SortRunsK
import PyProof.Rows.SortShell
import PyProof.Rows.TupDisplay
import PyProof.TupleCall
import PyProof.WalkInts
import PySem.Challenge.RW_slidehall_k30_sides
theorem Aa0:type_of% @PySem.Heap.get?_push_of_some:=@PySem.Heap.get?_push_of_some
theorem Ab0:type_of% @List.length_map:=@List.length_map
theorem Ac0:type_of% @Nat.le_refl:=@Nat.le_refl
theorem Ad0:type_of% @PySem.Heap.get?_push_size:=@PySem.Heap.get?_push_size
theorem Ae0:type_of% @List.getElem?_eq_some_iff:=@List.getElem?_eq_some_iff
theorem Af0:type_of% @List.size_toArray:=@List.size_toArray
theorem Ag0:type_of% @List.getElem?_eq_getElem:=@List.getElem?_eq_getElem
theorem Ah0:type_of% @List.mem_cons:=@List.mem_cons
theorem Ai0:type_of% @List.getElem?_map:=@List.getElem?_map
theorem Aj0:type_of% @Nat.zero_add:=@Nat.zero_add
theorem Ak0:type_of% @Nat.zero_le:=@Nat.zero_le
theorem Al0:type_of% @List.length_append:=@List.length_append
theorem Am0:type_of% @Bool.false_ne_true:=@Bool.false_ne_true
theorem An0:type_of% @List.length_cons:=@List.length_cons
theorem Ao0:type_of% @List.map_cons:=@List.map_cons
theorem Ap0:type_of% @List.mem_singleton:=@List.mem_singleton
theorem Aq0:type_of% @List.append_assoc:=@List.append_assoc
theorem Ar0:type_of% @Nat.ne_of_lt:=@Nat.ne_of_lt
theorem As0:type_of% @List.mem_append:=@List.mem_append
theorem At0:type_of% @Nat.lt_of_lt_of_le:=@Nat.lt_of_lt_of_le
theorem Au0:type_of% @PySem.Heap.size_push:=@PySem.Heap.size_push
theorem Av0:type_of% @Option.map_some:=@Option.map_some
theorem Aw0:type_of% @List.mem_of_getElem?:=@List.mem_of_getElem?
theorem Ax0:type_of% @List.mem_append_right:=@List.mem_append_right
theorem Ay0:type_of% @PySem.Heap.get?_update_other:=@PySem.Heap.get?_update_other
theorem Az0:type_of% @List.getElem?_set_ne:=@List.getElem?_set_ne
theorem Ba0:type_of% @List.map_append:=@List.map_append
theorem Bb0:type_of% @List.not_mem_nil:=@List.not_mem_nil
theorem Bc0:type_of% @List.length_take:=@List.length_take
theorem Bd0:type_of% @Array.getElem?_eq_getElem:=@Array.getElem?_eq_getElem
theorem Be0:type_of% @Nat.le_trans:=@Nat.le_trans
theorem Bf0:type_of% @Array.toList_append:=@Array.toList_append
theorem Bg0:type_of% @List.pairwise_append:=@List.pairwise_append
theorem Bh0:type_of% @List.length_set:=@List.length_set
theorem Bi0:type_of% @Array.length_toList:=@Array.length_toList
theorem Bj0:type_of% @List.append_nil:=@List.append_nil
theorem Bk0:type_of% @List.mem_append_left:=@List.mem_append_left
theorem Bl0:type_of% @List.mem_map:=@List.mem_map
theorem Bm0:type_of% @List.take_add_one:=@List.take_add_one
theorem Bn0:type_of% @Nat.lt_irrefl:=@Nat.lt_irrefl
theorem Bo0:type_of% @List.take_length:=@List.take_length
theorem Bp0:type_of% @List.mem_cons_of_mem:=@List.mem_cons_of_mem
theorem Bq0:type_of% @Int.toNat_natCast:=@Int.toNat_natCast
theorem Br0:type_of% @List.length_nil:=@List.length_nil
theorem Bs0:type_of% @List.replicate_succ:=@List.replicate_succ
theorem Bt0:type_of% @List.take_of_length_le:=@List.take_of_length_le
theorem Bu0:type_of% @List.getD_eq_getElem?_getD:=@List.getD_eq_getElem?_getD
theorem Bv0:type_of% @List.pairwise_cons:=@List.pairwise_cons
theorem Bw0:type_of% @List.getElem?_append_left:=@List.getElem?_append_left
theorem Bx0:type_of% @List.nodup_cons:=@List.nodup_cons
theorem By0:type_of% @Bool.false_eq_true:=@Bool.false_eq_true
theorem Bz0:type_of% @List.map_map:=@List.map_map
theorem Ca0:type_of% @List.flatten_cons:=@List.flatten_cons
theorem Cb0:type_of% @List.find?_cons:=@List.find?_cons
theorem Cc0:type_of% @List.mem_cons_self:=@List.mem_cons_self
theorem Cd0:type_of% @List.getElem?_set_self:=@List.getElem?_set_self
theorem Ce0:type_of% @List.map_nil:=@List.map_nil
theorem Cf0:type_of% @PySem.Heap.get?_update_self:=@PySem.Heap.get?_update_self
set_option Elab.async false
set_option linter.all false
set_option maxRecDepth 100000
set_option tactic.hygienic false
set_option bootstrap.genMatcherCode false
set_option maxHeartbeats 0
set_option compiler.extract_closed false
local macro_rules
 | `(tactic| omega)=>`(tactic| first | lia | omega +splitDisjunctions)
section
namespace L2
open PySem PySem.Spec PyProof.Rows
noncomputable abbrev Key:=Sum Int Str
noncomputable def xi3:Key->Value->Bool
 | .inl k,v=>Value.isInt k v
 | .inr x,v=>Value.isStrOf x v
noncomputable def vm5 (w:World):Key->Int
 | .inl k=>hashInt k
 | .inr x=>hashStr w x
theorem zg4:∀{k:Key} {v:Value},xi3 k v=true->(∃i t,k=Sum.inl i/\v=Value.int i t)\/(∃x t,k=Sum.inr x/\v=Value.str x t)
 | .inl i,v,h=>by
   obtain⟨t,e⟩:=Value.isInt_shape (k:=i) (v:=v) h;exact .inl ⟨i,t,rfl,e⟩
 | .inr x,v,h=>by
   obtain⟨t,e⟩:=Value.isStrOf_shape (x:=x) (v:=v) h;exact .inr ⟨x,t,rfl,e⟩
theorem xr0 (i:Int) (t:Tok):xi3 (.inl i) (.int i t)=true:=by simp[xi3,Value.isInt]
theorem xq9 (x:Str) (t:Tok):xi3 (.inr x) (.str x t)=true:=by simp[xi3,Value.isStrOf]
theorem wy2 (a b:Int):decide ((Sum.inl a:Key)=Sum.inl b)=(a == b):=by
 by_cases e:a=b
 ·subst e;simp
 ·have h:¬(Sum.inl a:Key)=Sum.inl b:=fun q=>e (Sum.inl.inj q)
  rw[decide_eq_false h];exact(beq_eq_false_iff_ne.mpr e).symm
theorem wx9 (a b:Str):decide ((Sum.inr a:Key)=Sum.inr b)=decide (a=b):=by
 by_cases e:a=b
 ·subst e;simp
 ·have h:¬(Sum.inr a:Key)=Sum.inr b:=fun q=>e (Sum.inr.inj q)
  rw[decide_eq_false h,decide_eq_false e]
theorem wy1 (a:Int) (b:Str):decide ((Sum.inl a:Key)=Sum.inr b)=false:=decide_eq_false (fun q=>nomatch q)
theorem wy0 (a:Str) (b:Int):decide ((Sum.inr a:Key)=Sum.inl b)=false:=decide_eq_false (fun q=>nomatch q)
noncomputable def zg0 (prog:Program) (w:World):PySem.KeyKind prog w Key where
 is:=xi3
 hash:=vm5 w
 inj:=fun v a b ha hb=>by
  rcases zg4 ha with⟨i,t,rfl,rfl⟩ | ⟨x,t,rfl,rfl⟩
  ·rcases zg4 hb with⟨j,u,rfl,e⟩ | ⟨y,u,rfl,e⟩
   ·injection e with e1 _;rw[e1]
   ·exact nomatch e
  ·rcases zg4 hb with⟨j,u,rfl,e⟩ | ⟨y,u,rfl,e⟩
   ·exact nomatch e
   ·injection e with e1 _;rw[e1]
 byValue:=fun k v h=>by
  rcases zg4 h with⟨i,t,rfl,rfl⟩ | ⟨x,t,rfl,rfl⟩<;>rfl
 pyHash:=fun hv h=>by
  rcases zg4 hv with⟨i,t,rfl,rfl⟩ | ⟨x,t,rfl,rfl⟩
  ·exact wpAny_pyHash_int h
  ·exact wpAny_pyHash_str h
 eqBool:=fun hu hv h=>by
  rcases zg4 hu with⟨i,t,rfl,rfl⟩ | ⟨x,t,rfl,rfl⟩
  ·rcases zg4 hv with⟨j,u,rfl,rfl⟩ | ⟨y,u,rfl,rfl⟩
   ·rw[wy2] at h;exact wpAny_eqBool_int h
   ·rw[wy1] at h;exact SeqAt.EqAt.int_str i t y u _ _ _ _ h
  ·rcases zg4 hv with⟨j,u,rfl,rfl⟩ | ⟨y,u,rfl,rfl⟩
   ·rw[wy0] at h;exact SeqAt.EqAt.str_int x t j u _ _ _ _ h
   ·rw[wx9] at h;exact wpAny_eqBool_str h
 «strs»:=fun k x t v h=>by
  rcases zg4 h with⟨i,u,rfl,e⟩ | ⟨y,u,rfl,e⟩
  ·exact nomatch e
  ·injection e with e1 _
   subst e1;cases v<;>rfl
theorem yx9 (prog:Program) (w:World) (i:Int) (t:Tok):(zg0 prog w).is (.inl i) (.int i t)=true:=xr0 i t
theorem yx8 (prog:Program) (w:World) (x:Str) (t:Tok):(zg0 prog w).is (.inr x) (.str x t)=true:=xq9 x t
end L2
namespace L2
open PySem PySem.Spec PyProof.Rows
inductive V where
 | non | bl (b:Bool) | int (i:Int) | str (x:Str) | byt (b:Array UInt8) | flt (b:UInt64) | ref (a:Addr) | ty (n:String)
 deriving DecidableEq
noncomputable def zf0:V->Value->Prop
 | .non,u=>u=Value.none
 | .bl b,u=>u=Value.bool b
 | .int i,u=>∃t,u=Value.int i t
 | .str x,u=>∃t,u=Value.str x t
 | .byt b,u=>∃t,u=Value.bytes b t
 | .flt b,u=>∃t,u=Value.float b t
 | .ref a,u=>u=Value.ref a
 | .ty n,u=>u=Value.type n
noncomputable abbrev zf8:List V->List Value->Prop:=Paired zf0
theorem zf8.length {xs:List V} {us:List Value} (r:zf8 xs us):xs.length=us.length:=Paired.length r
theorem zf8.get:∀{xs:List V} {us:List Value} {i:Nat} {x:V},zf8 xs us->xs[i]?=some x->∃u,us[i]?=some u/\zf0 x u
 | _,_,_,_,.nil,e=>by simp at e
 | _,_,0,_,.cons r _,e=>by simp at e;subst e;exact⟨_,rfl,r⟩
 | _,_,i+1,x,.cons _ t,e=>by
   obtain⟨u,h1,h2⟩:=zf8.get (i:=i) (x:=x) t (by simpa using e);exact⟨u,by simpa using h1,h2⟩
theorem zf8.set {x:V} {u:Value} (r:zf0 x u):∀{xs:List V} {us:List Value} (i:Nat),zf8 xs us->zf8 (xs.set i x) (us.set i u)
 | _,_,_,.nil=>.nil
 | _,_,0,.cons _ t=>.cons r t
 | _,_,i+1,.cons q t=>.cons q (zf8.set r i t)
theorem zf8.append:∀{xs ys:List V} {us ws:List Value},zf8 xs us->zf8 ys ws->zf8 (xs++ys) (us++ws)
 | _,_,_,_,.nil,s=>s
 | _,_,_,_,.cons r t,s=>.cons r (zf8.append t s)
theorem zf8.take:∀{xs:List V} {us:List Value} (n:Nat),zf8 xs us->zf8 (xs.take n) (us.take n)
 | _,_,0,_=>.nil
 | _,_,_+1,.nil=>.nil
 | _,_,n+1,.cons r t=>.cons r (zf8.take n t)
theorem zf8.drop:∀{xs:List V} {us:List Value} (n:Nat),zf8 xs us->zf8 (xs.drop n) (us.drop n)
 | _,_,0,r=>r
 | _,_,_+1,.nil=>.nil
 | _,_,n+1,.cons _ t=>zf8.drop n t
noncomputable def xj4:Option V->Option Value->Prop
 | some v,some u=>zf0 v u
 | none,none=>True
 | _,_=>False
noncomputable def KV {κ:Type}:List (κ×V)->List (κ×Value)->Prop:=Paired fun (p:κ×V) (q:κ×Value)=>p.1=q.1/\zf0 p.2 q.2
noncomputable def kV:Key->V
 | .inl i=>.int i
 | .inr x=>.str x
inductive HO where
 /-- a list -/
 | lst (xs:List V)
 /-- a tuple (never changes) -/
 | tup (xs:List V)
 /-- a dict whose keys are ints and texts;one whose keys are tuples of ints and texts (the empty one is both) -/
 | dK (kvs:List (Key×V)) | dT (kvs:List (List Key×V))
 /-- a set of ints: its members,its size -/
 | set (S:Int->Bool) (n:Nat)
 /-- an instance of the class at C,its dict at dx,its attributes -/
 | ins (C dx:Addr) (fs:List (Str×V))
 /-- the dict of the instance at x -/
 | own (x:Addr)
 /-- the dict of an exception -/
 | xd (fs:List (Str×V))
 /-- a bound method,f of x -/
 | met (f x:Addr)
 /-- a range object lo,lo+1,.. below hi -/
 | rng (lo hi:Int)
 /-- a thing that is known to the object (the script;a dict while a loop walks it): read,never written while it is so -/
 | frz (o:Obj) (u:HO)
 /-- a code object's table -/
 | tbl (ps:Array Value)
 /-- any other thing,by what is true of its one object (a def of one's own: SetO a S n:=HO.ext fun h=>..) -/
 | ext (φ:Heap->Prop)
noncomputable abbrev Hp:=Addr->Option HO
noncomputable def upd (H:Hp) (a:Addr) (o:HO):Hp:=fun b=>if b=a then some o else H b
theorem zb0 {H:Hp} {a:Addr} {o:HO}:upd H a o a=some o:=by unfold upd;rw[if_pos rfl]
theorem za9 {H:Hp} {a b:Addr} {o:HO} (h:b≠a):upd H a o b=H b:=by unfold upd;rw[if_neg h]
set_option tactic.hygienic true in
theorem upd_upd {H:Hp} {a:Addr} {o u:HO}:upd (upd H a o) a u=upd H a u:=by
 funext b;unfold upd;split<;>rfl
theorem xp8 {H:Hp} {a b:Addr} {o u:HO} (h:H a=some o) (h':H b=some u) (d:o≠u):a≠b:=by
 intro e;subst e;rw[h] at h';exact d (Option.some.inj h')
theorem zb7 {H:Hp} {a b:Addr} {o:HO} (h:H a=some o) (h':H b=none):a≠b:=by
 intro e;subst e;rw[h] at h';cases h'
section
variable (P:Program) (w:World)
noncomputable def zk1 (H:Hp) (h:Heap) (a:Addr):HO->Prop
 | .lst xs=>xs.length<=sizeLine/\∃(its:List Value) (n:Nat),zf8 xs its/\h.get? a=some { cls:=.type "list",data:=.seq its.toArray n }
 | .tup xs=>xs.length<=sizeLine/\∃its:List Value,zf8 xs its/\IsTup h a its.toArray
 | .dK kvs=>kvs.length<=sizeLine/\(a == sysModules)=false/\∃vs,KV kvs vs/\h.DictOf (zg0 P w) a vs
 | .dT kvs=>kvs.length<=sizeLine/\(a == sysModules)=false/\∃xs:List (List Key×Addr×Value),
  Paired (fun (p:List Key×V) (q:List Key×Addr×Value)=>p.1=q.1/\H q.2.1=some (.tup (p.1.map kV))/\zf0 p.2 q.2.2) kvs xs/\
  ∃o es ep,h.get? a=some o/\o.ExactDict/\o.data=.dict es ep/\es.toList=xs.map (entryOfKey (tupleKind (zg0 P w)))/\(xs.map (·.1)).Nodup
 | .set S n=>h.SetOf (intKind P w) a S n
 | .ins C dx fs=>H dx=some (.own a)/\fs.length<=1000/\dx≠a/\h.get? a=some (PySem.W.instObj C dx)/\
  ∃mA,h.Ns1 dx mA/\(∀f,xj4 (fs.lookup f) (mA f))/\PySem.Within mA (fs.map (·.1))
 | .own _=>∃o,h.get? a=some o
 | .xd fs=>∃mA,h.Ns1 a mA/\∀f,xj4 (fs.lookup f) (mA f)
 | .rng lo hi=>∃t u v,h.get? a=some { cls:=.type "range",data:=.fields #[.int lo t,.int hi u,.int 1 v] }
 | .frz o u=>h.get? a=some o/\zk1 H h a u
 | .tbl ps=>h.get? a=some { cls:=.none,data:=.fields ps }
 | .met f x=>h.get? a=some (PySem.W.methodObj (.ref f) (.ref x))
 | .ext φ=>φ h/\(∃o,h.get? a=some o)/\∀h1 h2:Heap,φ h1->(∀o,h1.get? a=some o->h2.get? a=some o)->φ h2
noncomputable def HOk (H:Hp) (h:Heap):Prop:=∀a o,H a=some o->zk1 P w H h a o
end
section
variable {P:Program} {w:World} {H H':Hp} {h h':Heap} {a:Addr} {o:HO}
theorem zk1.lt (x:zk1 P w H h a o):a<h.objs.size:=by
 cases o with
 | lst xs=>obtain⟨_,_,_,_,e⟩:=x;exact Heap.lt_size e
 | tup xs=>obtain⟨_,_,_,p⟩:=x;exact p.lt
 | dK kvs=>obtain⟨_,_,_,_,o,_,_,e,_⟩:=x;exact Heap.lt_size e
 | dT kvs=>obtain⟨_,_,_,_,o,_,_,e,_⟩:=x;exact Heap.lt_size e
 | set S n=>obtain⟨o,_,_,_,e,_⟩:=x;exact Heap.lt_size e
 | ins C dx fs=>obtain⟨_,_,_,e,_⟩:=x;exact Heap.lt_size e
 | own y=>obtain⟨_,e⟩:=x;exact Heap.lt_size e
 | xd fs=>obtain⟨_,⟨_,_,_,e,_⟩,_⟩:=x;exact Heap.lt_size e
 | rng lo hi=>obtain⟨_,_,_,e⟩:=x;exact Heap.lt_size e
 | frz ob u=>obtain⟨e,_⟩:=x;exact Heap.lt_size e
 | tbl ps=>exact Heap.lt_size (show h.get? a=some _ from x)
 | met f y=>exact Heap.lt_size (show h.get? a=some _ from x)
 | ext φ=>obtain⟨_,⟨_,e⟩,_⟩:=x;exact Heap.lt_size e
theorem Paired.mapP {α β:Type} {F G:α->β->Prop}:∀{l₁:List α} {l₂:List β},Paired F l₁ l₂->(∀a b,F a b->G a b)->Paired G l₁ l₂
 | _,_,.nil,_=>.nil
 | _,_,.cons r t,f=>.cons (f _ _ r) (Paired.mapP t f)
theorem zk1.stay (x:zk1 P w H h a o) (k:∀b u,(b=a\/H b=some (.own a))->h.get? b=some u->h'.get? b=some u)
 (ho:∀b,H b=some (.own a)->H' b=some (.own a)) (ht:∀b xs,H b=some (.tup xs)->H' b=some (.tup xs)):zk1 P w H' h' a o:=by
 induction o with
 | lst xs=>obtain⟨z,its,n,r,e⟩:=x;exact⟨z,its,n,r,k _ _ (.inl rfl) e⟩
 | tup xs=>obtain⟨z,its,r,ob,e,c⟩:=x;exact⟨z,its,r,ob,k _ _ (.inl rfl) e,c⟩
 | dK kvs=>obtain⟨z,y,vs,r,ob,es,ep,e,c⟩:=x;exact⟨z,y,vs,r,ob,es,ep,k _ _ (.inl rfl) e,c⟩
 | dT kvs=>
   obtain⟨z,y,xs,r,ob,es,ep,e,c⟩:=x;exact⟨z,y,xs,Paired.mapP r fun p q z=>⟨z.1,ht _ _ z.2.1,z.2.2⟩,ob,es,ep,k _ _ (.inl rfl) e,c⟩
 | set S n=>obtain⟨ob,es,ep,t,e,c⟩:=x;exact⟨ob,es,ep,t,k _ _ (.inl rfl) e,c⟩
 | ins C dx fs=>
   obtain⟨d,z,ne,e,mA,⟨od,es,ep,e2,c⟩,r⟩:=x;exact⟨ho _ d,z,ne,k _ _ (.inl rfl) e,mA,⟨od,es,ep,k _ _ (.inr d) e2,c⟩,r⟩
 | own y=>obtain⟨ob,e⟩:=x;exact⟨ob,k _ _ (.inl rfl) e⟩
 | xd fs=>obtain⟨mA,⟨od,es,ep,e,c⟩,r⟩:=x;exact⟨mA,⟨od,es,ep,k _ _ (.inl rfl) e,c⟩,r⟩
 | rng lo hi=>obtain⟨t,u,v,e⟩:=x;exact⟨t,u,v,k _ _ (.inl rfl) e⟩
 | frz ob u ih=>obtain⟨e,q⟩:=x;exact⟨k _ _ (.inl rfl) e,ih q⟩
 | tbl ps=>
   have e:h.get? a=some { cls:=.none,data:=.fields ps }:=x;show h'.get? a=some { cls:=.none,data:=.fields ps };exact k a _ (.inl rfl) e
 | met f y=>
   have e:h.get? a=some (PySem.W.methodObj (.ref f) (.ref y)):=x;show h'.get? a=some (PySem.W.methodObj (.ref f) (.ref y));exact k a _ (.inl rfl) e
 | ext φ=>obtain⟨p,⟨o,e⟩,st⟩:=x;exact⟨st _ _ p fun o q=>k _ _ (.inl rfl) q,⟨o,k _ _ (.inl rfl) e⟩,st⟩
theorem HOk.lt (x:HOk P w H h) (e:H a=some o):a<h.objs.size:=(x a o e).lt
theorem HOk.fresh (x:HOk P w H h) (e:h.objs.size<=a):H a=none:=by
 cases q:H a with
 | none=>rfl
 | some u=>exact absurd (At0 (x.lt q) e) (Bn0 _)
theorem HOk.kept (x:HOk P w H h) (k:∀b u,h.get? b=some u->h'.get? b=some u):HOk P w H h':=fun a o e=>
 (x a o e).stay (fun b u _ q=>k b u q) (fun _ q=>q) fun _ _ q=>q
theorem HOk.laid (x:HOk P w H h) (k:∀b u,h.get? b=some u->h'.get? b=some u) (hp:h.objs.size<=a) (new:zk1 P w (upd H a o) h' a o):HOk P w (upd H a o) h':=fun b u e=>by
 have hn:=x.fresh hp;by_cases hb:b=a
 ·subst hb;rw[zb0] at e;cases e;exact new
 ·rw[za9 hb] at e
  exact(x b u e).stay (fun c v _ q=>k c v q) (fun c q=>by rw[za9 (zb7 q hn)];exact q) fun c xs q=>by rw[za9 (zb7 q hn)];exact q
end
noncomputable def Rd (H:Hp) (a:Addr) (u:HO):Prop:=H a=some u\/∃o,H a=some (.frz o u)
theorem Rd.ok {P:Program} {w:World} {H:Hp} {h:Heap} {a:Addr} {u:HO} (r:Rd H a u) (x:HOk P w H h):zk1 P w H h a u:=by
 rcases r with r | ⟨o,r⟩
 ·exact x a u r
 ·obtain⟨_,q⟩:=x a _ r
  exact q
noncomputable def Mut:Option HO->Prop
 | some (.lst _)=>True
 | some (.dK _)=>True
 | some (.dT _)=>True
 | some (.set _ _)=>True
 | some (.ins _ _ _)=>True
 | some (.ext _)=>True
 | _=>False
section
variable {P:Program} {w:World} {H:Hp} {h h':Heap} {x e:Addr} {o':HO}
theorem HOk.write (ok:HOk P w H h) (mu:Mut (H x)) (he:e=x\/H e=some (.own x)) (k:∀b u,b≠e->h.get? b=some u->h'.get? b=some u) (heo:∃u,h'.get? e=some u)
 (new:zk1 P w (upd H x o') h' x o'):HOk P w (upd H x o') h':=fun b u q=>by
 have nown:∀c y,H c=some (.own y)->c≠x:=fun c y r z=>by subst z;rw[r] at mu;exact mu
 have ntup:∀c xs,H c=some (.tup xs)->c≠x:=fun c xs r z=>by subst z;rw[r] at mu;exact mu
 by_cases hb:b=x
 ·subst hb;rw[zb0] at q;cases q;exact new
 ·rw[za9 hb] at q
  by_cases hbe:b=e
  ·have q':H b=some (.own x):=by
    rcases he with z | z
    ·exact absurd (hbe.trans z) hb
    ·rw[hbe];exact z
   rw[q] at q';cases q';obtain⟨v,hv⟩:=heo;exact⟨v,by rw[hbe];exact hv⟩
  ·refine(ok b u q).stay (fun c v hc r=>k c v ?_ r) (fun c r=>by rw[za9 (nown c b r)];exact r) fun c xs r=>by rw[za9 (ntup c xs r)];exact r
   rcases hc with rfl | hc
   ·exact hbe
   ·rintro rfl
    rcases he with z | z
    ·exact nown c b hc z
    ·rw[hc] at z;cases z;exact hb rfl
end
structure Un (fs ex:List Addr) (H H':Hp) (h h':Heap):Prop where
 keep:∀b o,h.get? b=some o->H b=none->b∉fs->b∉ex->h'.get? b=some o
 slot:∀b o,h.get? b=some o->H b=none->b∈fs->b∉ex->∃sl,h'.get? b=some { o with slots:=sl }
 free:∀b o,h.get? b=some o->H b=none->b∉ex->H' b=none
 there:∀b o,h.get? b=some o->b∉ex->∃o',h'.get? b=some o'
 tups:∀b xs,H b=some (.tup xs)->H' b=some (.tup xs)
 frzs:∀b o u,H b=some (.frz o u)->H' b=some (.frz o u)
 tbls:∀b ps,H b=some (.tbl ps)->∃more,H' b=some (.tbl (ps++more))
section
variable {fs fs' ex ex':List Addr} {H H1 H2:Hp} {h h1 h2 h':Heap} {a x e:Addr} {o:HO}
theorem Un.any (u:Un fs ex H H1 h h1) {b:Addr} {ob:Obj} (q:h.get? b=some ob) (n:H b=none) (hx:b∉ex):∃sl,h1.get? b=some { ob with slots:=sl }:=by
 by_cases hb:b∈fs
 ·exact u.slot b ob q n hb hx
 ·exact⟨ob.slots,u.keep b ob q n hb hx⟩
theorem Un.kept (k:∀b u,h.get? b=some u->h'.get? b=some u):Un fs ex H H h h':=
 ⟨fun b ob q _ _ _=>k b ob q,fun b ob q _ _ _=>⟨ob.slots,k b ob q⟩,fun _ _ _ n _=>n,fun b ob q _=>⟨ob,k b ob q⟩,fun _ _ q=>q,fun _ _ _ q=>q,fun _ ps q=>⟨#[],by rw[q];simp⟩⟩
theorem Un.refl:Un fs ex H H h h:=Un.kept fun _ _ q=>q
theorem Un.laid (k:∀b u,h.get? b=some u->h'.get? b=some u) (hp:h.objs.size<=a) (hn:H a=none):Un fs ex H (upd H a o) h h' where
 keep:=fun b u q _ _ _=>k b u q
 slot:=fun b u q _ _ _=>⟨u.slots,k b u q⟩
 free:=fun b u q n _=>by rw[za9 (Ar0 (At0 (Heap.lt_size q) hp))];exact n
 there:=fun b u q _=>⟨u,k b u q⟩
 tups:=fun b xs q=>by rw[za9 (zb7 q hn)];exact q
 frzs:=fun b u xs q=>by rw[za9 (zb7 q hn)];exact q
 tbls:=fun b ps q=>⟨#[],by rw[za9 (zb7 q hn),q];simp⟩
theorem Un.write (mu:Mut (H x)) (he:e=x\/H e=some (.own x)) (k:∀b u,b≠e->h.get? b=some u->h'.get? b=some u) (heo:∃u,h'.get? e=some u):Un fs ex H (upd H x o) h h':=by
 have hx:∀b,H b=none->b≠x:=fun b n z=>by subst z;rw[n] at mu;exact mu
 have hb:∀b,H b=none->b≠e:=fun b n z=>by
  subst z;rcases he with r | r
  ·exact hx b n r
  ·rw[n] at r;cases r
 have hm:∀b u,H b=some u->¬Mut (some u)->b≠x:=fun b u q nm z=>by subst z;rw[q] at mu;exact nm mu
 refine⟨fun b u q n _ _=>k b u (hb b n) q,fun b u q n _ _=>⟨u.slots,k b u (hb b n) q⟩,fun b u q n _=>by rw[za9 (hx b n)];exact n,fun b u q _=>?_,
  fun b xs q=>by rw[za9 (hm b _ q fun z=>z)];exact q,fun b u xs q=>by rw[za9 (hm b _ q fun z=>z)];exact q,fun b ps q=>⟨#[],by rw[za9 (hm b _ q fun z=>z),q];simp⟩⟩
 by_cases hbe:b=e
 ·subst hbe;exact heo
 ·exact⟨u,k b u hbe q⟩
end
noncomputable def trk (h:Heap) (H:Hp):List Addr:=(List.range h.objs.size).filter fun a=>(H a).isSome
noncomputable def wb0 (h:Heap) (H:Hp):Heap:=PySem.W.hideAll h (trk h H)
theorem xs1 (h:Heap) (H:Hp):(wb0 h H).objs.size=h.objs.size:=PySem.W.hideAll_size _ _
theorem wa9 {h:Heap} {H:Hp} {b:Addr} {o:Obj} (e:h.get? b=some o) (n:H b=none):(wb0 h H).get? b=some o:=
 PySem.W.hideAll_get _ e fun hm=>by
  have q:(H b).isSome=true:=(List.mem_filter.mp hm).2;rw[n] at q;simp at q
theorem wm0 {h:Heap} {H:Hp} {b:Addr} {o:Obj} (e:(wb0 h H).get? b=some o):h.get? b=some o/\H b=none:=by
 have e':h.get? b=some o:=PySem.W.of_hideAll (trk h H) e;refine⟨e',?_⟩;cases q:H b with
 | none=>rfl
 | some x=>
   have hm:b∈trk h H:=List.mem_filter.mpr ⟨List.mem_range.mpr (Heap.lt_size e'),by simp[q]⟩;have z:(wb0 h H).get? b=none:=PySem.W.hideAll_none (trk h H) hm;rw[z] at e;cases e
noncomputable def wq8 (g h:Heap) (L:Addr):List (Addr×Obj):=(List.range h.objs.size).filterMap fun a=>if a=L\/(g.get? a).isSome=true then none else (h.get? a).map fun o=>(a,o)
noncomputable def zx5 (g h:Heap) (L d:Addr):List (Addr×Obj):=(wq8 g h L).filter fun p=>decide (p.1≠d)
end L2
namespace L2
open PySem PySem.Spec PyProof.Rows
structure Mod (K:PySem.W.Frag) (mg:Str->Option Value) (base:Heap):Prop where
 kin:K.In base
 glob:base.Ns mainGlobals mg
 blt:∃mb,base.Ns builtinsNs mb/\∀x:Str,x≠"__name__"->mb x=bootBuiltins x
 nolimit:base.NoLimit
structure Cx where
 prog:Program
 w:World
 K:PySem.W.Frag
 mg:Str->Option Value
 base:Heap
 A:Around
 N:List Str
 s₀:Shared
 H₀:Hp
 env:Env
 outer:List Env
 stack:List Env
 ex:List Addr
 fn:Str->Bool
 calm:Bool
 pn:List (Addr×Obj)
 xe:Value->Shared->Prop
noncomputable def frs (l:List Env):List Addr:=l.filterMap (·.frame)
noncomputable abbrev Cx.fs (X:Cx):List Addr:=frs X.outer
noncomputable def Vis (sc:Scope) (x:Str):Prop:=sc.names.lookup x=some .local\/sc.names.lookup x=some .cell\/sc.names.lookup x=some .free
noncomputable def Loc (sc:Scope) (x:Str):Prop:=sc.names.lookup x=some .local\/sc.names.lookup x=some .cell
noncomputable def vn6 (env:Env) (h:Heap) (m:Str->Option Value) (x:Str) (u:Value):Prop:=
 (env.kindOf x=some .local/\m x=some u)\/((env.kindOf x=some .cell\/env.kindOf x=some .free)/\∃c,env.cells.lookup x=some c/\h.IsCell c (some u))
structure Cx.Ok (X:Cx):Prop where
 mod:Mod X.K X.mg X.base
 kind:X.env.scope.kind=.function
 glob:X.env.globals=mainGlobals
 blt:X.env.builtins=builtinsNs
 above:X.s₀.heap.objs.size<=X.env.locals
 inj:∀x y c,X.env.cells.lookup x=some c->X.env.cells.lookup y=some c->x=y
 has:∀x,(X.env.kindOf x=some .cell\/X.env.kindOf x=some .free)->∃c,X.env.cells.lookup x=some c
 cab:∀x c,X.fn x=true->X.env.cells.lookup x=some c->X.s₀.heap.objs.size<=c
 hd:X.calm=true->X.A.handled=none
 frames:X.A.frames=some X.stack
 stk:X.stack=X.outer\/(X.stack=X.env::X.outer/\X.env.frame=some X.env.locals)
 exf:∀b∈X.ex,b≠X.env.locals/\∀x c,X.env.cells.lookup x=some c->c≠b
 bs:∀b o,X.base.get? b=some o->X.s₀.heap.get? b=some o/\X.H₀ b=none
 bsz:X.base.objs.size<=X.s₀.heap.objs.size
 noex:∀b o,X.base.get? b=some o->b∉X.ex
 exfs:∀b∈X.ex,b∉X.fs
 funs:X.s₀.heap.FunFrames X.base X.outer
 frf:∀b∈X.fs,X.H₀ b=none
structure Inv (X:Cx) (pins:List (Addr×Obj)) (σ:List (Option V)) (H:Hp) (s:Shared):Prop where
 ok:X.Ok
 os:s.os=X.s₀.os
 bare:AllBare s.gens
 base:Un X.fs X.ex X.H₀ H X.s₀.heap s.heap
 loc:∃m,s.heap.Ns X.env.locals m/\∀(i:Nat) (x:Str) (v:V),X.N[i]?=some x->σ[i]?=some (some v)->Vis X.env.scope x->∃u,zf0 v u/\vn6 X.env s.heap m x u
 cell:∀x c,X.env.cells.lookup x=some c->∃v,s.heap.IsCell c v
 free:H X.env.locals=none
 freeC:∀x c,X.env.cells.lookup x=some c->H c=none
 pin:∀p∈X.pn++pins,s.heap.get? p.1=some p.2/\H p.1=none/\p.1≠X.env.locals/\p.1∉X.fs/\∀v,p.2.data≠.cell v
 hok:HOk X.prog X.w H s.heap
 len:σ.length=X.N.length
section
variable {X:Cx} {pins:List (Addr×Obj)} {σ:List (Option V)} {H H':Hp} {s:Shared} {h':Heap}
theorem Cx.Ok.nofr (ok:X.Ok) {b:Addr} {o:Obj} (e:X.base.get? b=some o):b∉X.fs:=fun hb=>by
 have:=(ok.funs.mem hb).1;rw[e] at this;cases this
theorem Inv.bs (I:Inv X pins σ H s):∀b o,X.base.get? b=some o->s.heap.get? b=some o/\H b=none:=fun b o e=>
 ⟨I.base.keep b o (I.ok.bs b o e).1 (I.ok.bs b o e).2 (I.ok.nofr e) (I.ok.noex b o e),I.base.free b o (I.ok.bs b o e).1 (I.ok.bs b o e).2 (I.ok.noex b o e)⟩
theorem Inv.bk (I:Inv X pins σ H s):∀b o,X.base.get? b=some o->s.heap.get? b=some o:=fun b o e=>(I.bs b o e).1
theorem Inv.mod (I:Inv X pins σ H s):Mod X.K X.mg X.base:=I.ok.mod
theorem Inv.kIn (I:Inv X pins σ H s):X.K.In s.heap:=I.ok.mod.kin.keeps I.bk
theorem Inv.lt (I:Inv X pins σ H s):X.env.locals<s.heap.objs.size:=let ⟨_,hn,_⟩:=I.loc;hn.lt
theorem Inv.sz (I:Inv X pins σ H s):X.s₀.heap.objs.size<=s.heap.objs.size:=Be0 I.ok.above (Nat.le_of_lt I.lt)
theorem Inv.nofs (I:Inv X pins σ H s) {a:Addr} (h:s.heap.objs.size<=a):a∉X.fs:=fun hb=>by
 obtain⟨_,o,ho,_⟩:=I.ok.funs.mem hb;exact absurd (At0 (Heap.lt_size ho) (Be0 I.sz h)) (Bn0 _)
theorem Inv.cne (I:Inv X pins σ H s):∀x c,X.env.cells.lookup x=some c->c≠X.env.locals:=fun x c e z=>by
 obtain⟨v,o,ho,hd⟩:=I.cell x c e;obtain⟨m,⟨o',es,ep,ho',hd',_⟩,_⟩:=I.loc;rw[z,ho'] at ho;cases ho;rw[hd'] at hd;cases hd
theorem Inv.funs (I:Inv X pins σ H s):s.heap.FunFrames X.base X.outer:=by
 have all:∀(l:List Env),(∀b∈frs l,b∈X.fs)->X.s₀.heap.FunFrames X.base l->s.heap.FunFrames X.base l:=by
  intro l;induction l with
  | nil=>intro _ _;trivial
  | cons env r ih=>
    intro hs hl;obtain⟨hk,⟨L,o,hf,hn,ho,hd⟩,hr⟩:=hl;have hL:L∈X.fs:=hs L (by unfold frs;rw[List.filterMap_cons,hf];exact Cc0);obtain⟨sl,e⟩:=I.base.slot L o ho (I.ok.frf L hL) hL fun z=>I.ok.exfs L z hL
    exact⟨hk,⟨L,_,hf,hn,e,hd⟩,ih (fun b hb=>hs b (by unfold frs;rw[List.filterMap_cons,hf];exact Bp0 _ hb)) hr⟩
 exact all X.outer (fun _ hb=>hb) I.ok.funs
theorem Inv.stack (I:Inv X pins σ H s):s.heap.FunFrames X.base X.stack:=by
 rcases I.ok.stk with e | ⟨e,hf⟩
 ·rw[e];exact I.funs
 ·rw[e]
  obtain⟨m,hn,_⟩:=I.loc;refine .cons (by rw[I.ok.kind];decide) hf hn ?_ I.funs;exact Heap.get?_none_of_le (Be0 I.ok.bsz I.ok.above)
theorem Inv.stkSub (I:Inv X pins σ H s):∀b∈frs X.stack,b∈X.env.locals::X.fs:=fun b hb=>by
 rcases I.ok.stk with e | ⟨e,hf⟩
 ·rw[e] at hb;exact Bp0 _ hb
 ·rw[e] at hb
  unfold frs at hb;rw[List.filterMap_cons,hf] at hb;exact hb
theorem Inv.stkFree (I:Inv X pins σ H s):∀b∈frs X.stack,H b=none:=fun b hb=>by
 rcases Ah0.mp (I.stkSub b hb) with e | hb
 ·rw[e];exact I.free
 ·obtain⟨_,o,ho,_⟩:=I.ok.funs.mem hb
  exact I.base.free b o ho (I.ok.frf b hb) fun z=>I.ok.exfs b z hb
theorem Inv.step {g':Array GenState} {t':Nat} {d':Drawn} {ch:List Addr} (I:Inv X pins σ H s)
 (hch:∀b∈ch,(b∈X.ex\/X.s₀.heap.objs.size<=b)/\b≠X.env.locals/\(∀x c,X.env.cells.lookup x=some c->c≠b)/\∀p∈X.pn++pins,p.1≠b)
 (keep:∀b o,b≠X.env.locals->b∉X.fs->b∉ch->s.heap.get? b=some o->H b=none->h'.get? b=some o)
 (slot:∀b o,b≠X.env.locals->b∈X.fs->b∉ch->s.heap.get? b=some o->H b=none->∃sl,h'.get? b=some { o with slots:=sl }) (free:∀b o,b∉ch->s.heap.get? b=some o->H b=none->H' b=none)
 (there:∀b o,b∉ch->s.heap.get? b=some o->∃o',h'.get? b=some o')
 (tups:∀b xs,H b=some (.tup xs)->H' b=some (.tup xs)) (frzs:∀b o u,H b=some (.frz o u)->H' b=some (.frz o u)) (tbls:∀b ps,H b=some (.tbl ps)->∃more,H' b=some (.tbl (ps++more)))
 (ns:∀m,s.heap.Ns X.env.locals m->h'.Ns X.env.locals m) (hok:HOk X.prog X.w H' h') (hg:AllBare g') :
 Inv X pins σ H' { s with heap:=h',gens:=g',drawn:=d',toks:=t' }:=by
 have neL:∀b o,X.s₀.heap.get? b=some o->b≠X.env.locals:=fun b o e=>Ar0 (At0 (Heap.lt_size e) I.ok.above)
 have neC:∀b o,X.s₀.heap.get? b=some o->b∉X.ex->b∉ch:=fun b o e hx hb=>by
  rcases (hch b hb).1 with z | z
  ·exact hx z
  ·exact absurd (At0 (Heap.lt_size e) z) (Bn0 _)
 have cellK:∀x c,X.env.cells.lookup x=some c->∀v,s.heap.IsCell c v->h'.IsCell c v:=fun x c e v hI1=>by
  obtain⟨o,ho,hd⟩:=hI1;have nch:c∉ch:=fun z=>(hch c z).2.2.1 x c e rfl
  by_cases hc:c∈X.fs
  ·obtain⟨sl,q⟩:=slot c o (I.cne x c e) hc nch ho (I.freeC x c e)
   exact⟨_,q,hd⟩
  ·exact⟨o,keep c o (I.cne x c e) hc nch ho (I.freeC x c e),hd⟩
 refine⟨I.ok,I.os,hg,⟨fun b o e n hb hx=>?_,fun b o e n hb hx=>?_,fun b o e n hx=>?_,fun b o e hx=>?_,fun b xs e=>tups b xs (I.base.tups b xs e),fun b o xs e=>frzs b o xs (I.base.frzs b o xs e),fun b ps e=>?_⟩,?_,fun x c e=>?_,?_,fun x c e=>?_,fun p hp=>?_,hok,I.len⟩
 ·exact keep b o (neL b o e) hb (neC b o e hx) (I.base.keep b o e n hb hx) (I.base.free b o e n hx)
 ·obtain⟨sl,e1⟩:=I.base.slot b o e n hb hx
  obtain⟨sl',e2⟩:=slot b _ (neL b o e) hb (neC b o e hx) e1 (I.base.free b o e n hx);exact⟨sl',e2⟩
 ·obtain⟨o',e1⟩:=I.base.there b o e hx
  exact free b o' (neC b o e hx) e1 (I.base.free b o e n hx)
 ·obtain⟨o',e1⟩:=I.base.there b o e hx
  exact there b o' (neC b o e hx) e1
 ·obtain⟨m1,e1⟩:=I.base.tbls b ps e
  obtain⟨m2,e2⟩:=tbls b _ e1;exact⟨m1++m2,by rw[e2,Array.append_assoc]⟩
 ·obtain⟨m,hn,hl⟩:=I.loc
  refine⟨m,ns m hn,fun i x v e1 e2 e3=>?_⟩;obtain⟨u,r,l⟩:=hl i x v e1 e2 e3;refine⟨u,r,?_⟩;rcases l with l | ⟨k,c,e,z⟩
  ·exact .inl l
  ·exact .inr ⟨k,c,e,cellK x c e _ z⟩
 ·obtain⟨v,z⟩:=I.cell x c e
  exact⟨v,cellK x c e v z⟩
 ·obtain⟨m,⟨o,_,_,ho,_⟩,_⟩:=I.loc
  exact free _ o (fun z=>(hch _ z).2.1 rfl) ho I.free
 ·obtain⟨v,o,ho,hd⟩:=I.cell x c e
  exact free c o (fun z=>(hch c z).2.2.1 x c e rfl) ho (I.freeC x c e)
 ·obtain⟨e,n,ne,nf,d⟩:=I.pin p hp
  have nch:p.1∉ch:=fun z=>(hch p.1 z).2.2.2 p hp rfl
  exact⟨keep p.1 p.2 ne nf nch e n,free p.1 p.2 nch e n,ne,nf,d⟩
theorem Inv.un {t':Nat} (I:Inv X pins σ H s) (u:Un X.fs [] H H' s.heap h') (hok:HOk X.prog X.w H' h'):Inv X pins σ H' { s with heap:=h',toks:=t' }:=by
 obtain⟨m,⟨o,es,ep,ho,r⟩,_⟩:=id I.loc;obtain⟨sl,hL⟩:=u.any ho I.free (by simp);exact I.step (g':=s.gens) (d':=s.drawn) (ch:=[]) (fun _ z=>nomatch z) (fun b o _ hb _ e n=>u.keep b o e n hb (by simp)) (fun b o _ hb _ e n=>u.slot b o e n hb (by simp)) (fun b o _ e n=>u.free b o e n (by simp)) (fun b o _ e=>u.there b o e (by simp)) u.tups u.frzs u.tbls (fun m' hm=>by
  obtain⟨o',es',ep',ho',r'⟩:=hm;rw[ho] at ho';cases ho';exact⟨_,es',ep',hL,r'⟩) hok I.bare
theorem Inv.call {g':Array GenState} {t':Nat} {d':Drawn} {ch:List Addr} (I:Inv X pins σ H s) (u:Un (frs X.stack) ch H H' s.heap h') (hok:HOk X.prog X.w H' h') (hg:AllBare g')
 (hch:∀b∈ch,(b∈X.ex\/X.s₀.heap.objs.size<=b)/\b≠X.env.locals/\(∀x c,X.env.cells.lookup x=some c->c≠b)/\∀p∈X.pn++pins,p.1≠b) :
 Inv X pins σ H' { s with heap:=h',gens:=g',drawn:=d',toks:=t' }:=by
 obtain⟨m,⟨o,es,ep,ho,r⟩,_⟩:=id I.loc;obtain⟨sl,hL⟩:=u.any ho I.free fun z=>(hch _ z).2.1 rfl
 exact I.step (ch:=ch) hch (fun b o hL hb hc e n=>u.keep b o e n (fun z=>(Ah0.mp (I.stkSub b z)).elim hL hb) hc) (fun b o _ _ hc e n=>u.any e n hc) (fun b o hc e n=>u.free b o e n hc) (fun b o hc e=>u.there b o e hc) u.tups u.frzs u.tbls (fun m' hm=>by
  obtain⟨o',es',ep',ho',r'⟩:=hm;rw[ho] at ho';cases ho';exact⟨_,es',ep',hL,r'⟩) hok hg
theorem Inv.turned {t':Nat} {it:Addr} (I:Inv X pins σ H s) (k:∀b o,b≠it->s.heap.get? b=some o->h'.get? b=some o) (hn:H it=none) (hL:it≠X.env.locals)
 (h1:it∈X.ex\/X.s₀.heap.objs.size<=it) (h2:∀x c,X.env.cells.lookup x=some c->c≠it) (h3:∀p∈X.pn++pins,p.1≠it):Inv X pins σ H { s with heap:=h',toks:=t' }:=by
 have nit:∀b u,H b=some u->b≠it:=fun b u e z=>by rw[z,hn] at e;cases e
 refine I.step (g':=s.gens) (d':=s.drawn) (ch:=[it]) (fun b hb=>?_) (fun b o _ _ hc e _=>k b o (fun z=>hc (by simp[z])) e) (fun b o _ _ hc e _=>⟨o.slots,k b o (fun z=>hc (by simp[z])) e⟩) (fun _ _ _ _ n=>n)
  (fun b o hc e=>⟨o,k b o (fun z=>hc (by simp[z])) e⟩) (fun _ _ e=>e) (fun _ _ _ e=>e) (fun b ps e=>⟨#[],by rw[e];simp⟩) (fun m hm=>?_) (fun b u e=>?_) I.bare
 ·have e:b=it:=by simpa using hb
  subst e;exact⟨h1,hL,h2,h3⟩
 ·obtain⟨o,es,ep,ho,r⟩:=hm
  exact⟨o,es,ep,k _ o (Ne.symm hL) ho,r⟩
 ·refine(I.hok b u e).stay (fun c v hc q=>k c v ?_ q) (fun _ q=>q) fun _ _ q=>q
  rcases hc with z | z
  ·rw[z];exact nit b u e
  ·exact nit c _ z
theorem Inv.tok (I:Inv X pins σ H s) (t:Nat):Inv X pins σ H { s with toks:=t }:=I.un (h':=s.heap) (t':=t) Un.refl I.hok
theorem Inv.kept {t':Nat} (I:Inv X pins σ H s) (k:∀b u,s.heap.get? b=some u->h'.get? b=some u):Inv X pins σ H { s with heap:=h',toks:=t' }:=I.un (Un.kept k) (I.hok.kept k)
theorem Inv.laid {a:Addr} {o:HO} {t':Nat} (I:Inv X pins σ H s) (k:∀b u,s.heap.get? b=some u->h'.get? b=some u) (hp:s.heap.objs.size<=a) (new:zk1 X.prog X.w (upd H a o) h' a o) :
 Inv X pins σ (upd H a o) { s with heap:=h',toks:=t' }:=I.un (Un.laid k hp (I.hok.fresh hp)) (I.hok.laid k hp new)
theorem Inv.write {x e:Addr} {o:HO} {t':Nat} (I:Inv X pins σ H s) (mu:Mut (H x)) (he:e=x\/H e=some (.own x)) (k:∀b u,b≠e->s.heap.get? b=some u->h'.get? b=some u) (heo:∃u,h'.get? e=some u)
 (new:zk1 X.prog X.w (upd H x o) h' x o):Inv X pins σ (upd H x o) { s with heap:=h',toks:=t' }:=I.un (Un.write mu he k heo) (I.hok.write mu he k heo new)
theorem Inv.pins_of {pins':List (Addr×Obj)} (I:Inv X pins σ H s) (h:∀p∈pins',s.heap.get? p.1=some p.2/\H p.1=none/\p.1≠X.env.locals/\p.1∉X.fs/\∀v,p.2.data≠.cell v):Inv X pins' σ H s:=
 ⟨I.ok,I.os,I.bare,I.base,I.loc,I.cell,I.free,I.freeC,fun p hp=>(As0.mp hp).elim (fun z=>I.pin p (Bk0 _ z)) (h p),I.hok,I.len⟩
theorem xc5 {N:List Str} (hN:N.Nodup) {i j:Nat} {x:Str} (a:N[i]?=some x) (b:N[j]?=some x):i=j:=by
 obtain⟨h1,e1⟩:=Ae0.mp a;obtain⟨h2,e2⟩:=Ae0.mp b;exact(List.getElem_inj hN).mp (e1.trans e2.symm)
theorem yp5 {M:Model} {A:Around} {E:Value->Shared->Prop} {i:Nat} {x:Str} {v:V} {u:Value} {Q:Unit->Shared->Prop} (I:Inv X pins σ H s) (hN:X.N.Nodup) (hi:X.N[i]?=some x) (hx:Loc X.env.scope x) (r:zf0 v u)
 (h:∀s',Inv X pins (σ.set i (some v)) H s'->(∃a,Heap.SameBut a s.heap s'.heap/\(a=X.env.locals\/X.env.cells.lookup x=some a))->Q () s') (hf:X.fn x=true\/X.env.scope.names.lookup x=some .local:=by first | exact .inl rfl | exact .inr rfl | assumption):wpAny M A (storeName X.env x u) Q E s:=by
 obtain⟨m,hn,hl⟩:=id I.loc;have hcls:(X.env.scope.kind == .class||(X.env.scope.kind == .module&&X.env.locals != X.env.globals))=false:=by rw[I.ok.kind];rfl
 have hiσ:i<σ.length:=by rw[I.len];exact(Ae0.mp hi).1
 have cne:=I.cne;have tracked:∀{a:Addr} {h':Heap},(∃o,s.heap.get? a=some o/\H a=none)->Heap.SameBut a s.heap h'->HOk X.prog X.w H h':=fun {a h'} ha hs b ob e=>by
  obtain⟨_,_,hfree⟩:=ha;refine(I.hok b ob e).stay (fun c w' hc q=>(hs.2 c ?_).trans q) (fun _ q=>q) fun _ _ q=>q
  rintro rfl;rcases hc with rfl | hc
  ·rw[hfree] at e;cases e
  ·rw[hfree] at hc;cases hc
 rcases hx with hk | hk
 ·refine wpAny_storeName_local hk hn (fun h' hn' hs=>?_) hcls
  obtain⟨oL,_,_,hoL,_⟩:=id hn;refine h _ ⟨I.ok,I.os,I.bare,⟨fun b o e n hb hx=>?_,fun b o e n hb hx=>?_,I.base.free,fun b o e hx=>?_,I.base.tups,I.base.frzs,I.base.tbls⟩,⟨_,hn',fun j y v' e1 e2 e3=>?_⟩,fun y c e=>?_,I.free,I.freeC,fun p hp=>?_,tracked ⟨oL,hoL,I.free⟩ hs,by simpa using I.len⟩ ⟨_,hs,.inl rfl⟩
  ·exact(hs.2 b (Ar0 (At0 (Heap.lt_size e) I.ok.above))).trans (I.base.keep b o e n hb hx)
  ·obtain⟨sl,e1⟩:=I.base.slot b o e n hb hx
   exact⟨sl,(hs.2 b (Ar0 (At0 (Heap.lt_size e) I.ok.above))).trans e1⟩
  ·obtain⟨o',e1⟩:=I.base.there b o e hx
   exact⟨o',(hs.2 b (Ar0 (At0 (Heap.lt_size e) I.ok.above))).trans e1⟩
  ·by_cases hj:j=i
   ·subst hj
    rw[hi] at e1;cases e1;rw[Cd0 hiσ] at e2;cases e2;exact⟨u,r,.inl ⟨hk,by simp⟩⟩
   ·rw[Az0 (Ne.symm hj)] at e2
    obtain⟨u',r',q⟩:=hl j y v' e1 e2 e3;refine⟨u',r',?_⟩;rcases q with⟨k,e⟩ | ⟨k,c,e,z⟩
    ·refine .inl ⟨k,?_⟩
     have:y≠x:=fun e=>hj (xc5 hN e1 (e▸hi))
     simp[this,e]
    ·exact .inr ⟨k,c,e,z.sameBut hs (cne y c e)⟩
  ·obtain⟨w',z⟩:=I.cell y c e
   exact⟨w',z.sameBut hs (cne y c e)⟩
  ·obtain⟨e,n,ne,nf,d⟩:=I.pin p hp
   exact⟨(hs.2 p.1 ne).trans e,n,ne,nf,d⟩
 ·have hfn:X.fn x=true:=by
   rcases hf with z | z
   ·exact z
   ·rw[z] at hk;cases hk
  obtain⟨c,hc⟩:=I.ok.has x (.inl hk);obtain⟨w',z⟩:=I.cell x c hc;refine wpAny_storeName_cell I.ok.kind hk hc z (fun h' hc' hs=>?_);obtain⟨oc,hoc,hocd⟩:=id z;refine h { s with heap:=h' } ⟨I.ok,I.os,I.bare,⟨fun b o e n hb hx=>?_,fun b o e n hb hx=>?_,I.base.free,fun b o e hx=>?_,I.base.tups,I.base.frzs,I.base.tbls⟩,⟨m,hn.sameBut hs (Ne.symm (cne x c hc)),fun j y v' e1 e2 e3=>?_⟩,fun y c' e=>?_,I.free,I.freeC,fun p hp=>?_,tracked ⟨oc,hoc,I.freeC x c hc⟩ hs,by simpa using I.len⟩ ⟨c,hs,.inr hc⟩
  ·exact(hs.2 b (Ar0 (At0 (Heap.lt_size e) (I.ok.cab x c hfn hc)))).trans (I.base.keep b o e n hb hx)
  ·obtain⟨sl,e1⟩:=I.base.slot b o e n hb hx
   exact⟨sl,(hs.2 b (Ar0 (At0 (Heap.lt_size e) (I.ok.cab x c hfn hc)))).trans e1⟩
  ·obtain⟨o',e1⟩:=I.base.there b o e hx
   exact⟨o',(hs.2 b (Ar0 (At0 (Heap.lt_size e) (I.ok.cab x c hfn hc)))).trans e1⟩
  ·by_cases hj:j=i
   ·subst hj
    rw[hi] at e1;cases e1;rw[Cd0 hiσ] at e2;cases e2;exact⟨u,r,.inr ⟨.inl hk,c,hc,hc'⟩⟩
   ·rw[Az0 (Ne.symm hj)] at e2
    obtain⟨u',r',q⟩:=hl j y v' e1 e2 e3;refine⟨u',r',?_⟩;rcases q with q | ⟨k,c',e,z'⟩
    ·exact .inl q
    ·refine .inr ⟨k,c',e,z'.sameBut hs ?_⟩
     rintro rfl;exact hj (xc5 hN e1 (I.ok.inj _ _ _ e hc▸hi))
  ·by_cases hcc:c'=c
   ·subst hcc;exact⟨_,hc'⟩
   ·obtain⟨w2,z2⟩:=I.cell y c' e
    exact⟨w2,z2.sameBut hs hcc⟩
  ·obtain⟨e,n,ne,nf,d⟩:=I.pin p hp
   refine⟨(hs.2 p.1 ?_).trans e,n,ne,nf,d⟩;intro q;rw[q,hoc] at e;have q':oc=p.2:=Option.some.inj e;exact d w' (by rw[<-q'];exact hocd)
theorem zq3 {M:Model} {A:Around} {E:Value->Shared->Prop} {i:Nat} {x:Str} {v:V} {u:Value} {Q:Unit->Shared->Prop} (I:Inv X pins σ H s) (hN:X.N.Nodup) (hi:X.N[i]?=some x) (hx:Loc X.env.scope x) (r:zf0 v u)
 (h:∀s',Inv X pins (σ.set i (some v)) H s'->Q () s') (hf:X.fn x=true\/X.env.scope.names.lookup x=some .local:=by first | exact .inl rfl | exact .inr rfl | assumption):wpAny M A (storeName X.env x u) Q E s:=
 yp5 I hN hi hx r (fun s' I' _=>h s' I') hf
theorem Inv.call' {s':Shared} {ch:List Addr} (I:Inv X pins σ H s) (ho:s'.os=s.os) (u:Un (frs X.stack) ch H H' s.heap s'.heap) (hok:HOk X.prog X.w H' s'.heap) (hg:AllBare s'.gens)
 (hch:∀b∈ch,(b∈X.ex\/X.s₀.heap.objs.size<=b)/\b≠X.env.locals/\(∀x c,X.env.cells.lookup x=some c->c≠b)/\∀p∈X.pn++pins,p.1≠b):Inv X pins σ H' s':=by
 obtain⟨h',g',d',t',o'⟩:=s';have e:o'=s.os:=ho;subst e;exact I.call (g':=g') (t':=t') (d':=d') u hok hg hch
end
noncomputable abbrev XK:=Value->Option Addr->Hp->Prop
noncomputable abbrev St:=List (Option V)
noncomputable abbrev VK:=V->Hp->Prop
noncomputable abbrev TE:=St->Hp->VK->Prop
noncomputable abbrev TT:=St->Hp->(Bool->Hp->Prop)->Prop
noncomputable abbrev TA:=St->Hp->(List V->Hp->Prop)->Prop
structure xf7 where
 nx:St->Hp->Prop
 rt:VK
 bk:St->Hp->Prop:=fun _ _=>False
 ct:St->Hp->Prop:=fun _ _=>False
noncomputable abbrev TS:=xf7->St->Hp->Prop
noncomputable def EP (X:Cx) (pins:List (Addr×Obj)) (σ:St) (Q:VK) (u:Value) (s':Shared):Prop:=∃v H',Inv X pins σ H' s'/\zf0 v u/\Q v H'
noncomputable def TP (X:Cx) (pins:List (Addr×Obj)) (σ:St) (Q:Bool->Hp->Prop) (b:Bool) (s':Shared):Prop:=∃H',Inv X pins σ H' s'/\Q b H'
noncomputable def AP (X:Cx) (pins:List (Addr×Obj)) (σ:St) (Q:List V->Hp->Prop) (us:List Value) (s':Shared):Prop:=∃vs H',Inv X pins σ H' s'/\zf8 vs us/\Q vs H'
set_option tactic.hygienic true in
noncomputable def SP (X:Cx) (pins:List (Addr×Obj)) (D:xf7) (f:Flow) (s':Shared):Prop:=
 match f with
 | .next=>∃σ' H',Inv X pins σ' H' s'/\D.nx σ' H'
 | .brk=>∃σ' H',Inv X pins σ' H' s'/\D.bk σ' H'
 | .cont=>∃σ' H',Inv X pins σ' H' s'/\D.ct σ' H'
 | .ret u=>∃v σ' H',Inv X pins σ' H' s'/\zf0 v u/\D.rt v H'
noncomputable def PE (X:Cx) (e:Expr) (t:TE):Prop:=
 ∀(pins:List (Addr×Obj)) (s:Shared) (σ:St) (H:Hp) (Q:VK),Inv X pins σ H s->t σ H Q->wpAny (model X.prog X.w) X.A (eval e X.env) (EP X pins σ Q) X.xe s
noncomputable def PT (X:Cx) (e:Expr) (t:TT):Prop:=
 ∀(pins:List (Addr×Obj)) (s:Shared) (σ:St) (H:Hp) (Q:Bool->Hp->Prop),Inv X pins σ H s->t σ H Q->wpAny (model X.prog X.w) X.A (isTrue e X.env (eval e X.env)) (TP X pins σ Q) X.xe s
noncomputable def PW (X:Cx) (e:Expr) (t:TT):Prop:=
 ∀(whole:Sem Value) (pins:List (Addr×Obj)) (s:Shared) (σ:St) (H:Hp) (Q:Bool->Hp->Prop),Inv X pins σ H s->t σ H Q->wpAny (model X.prog X.w) X.A (isTrue e X.env whole) (TP X pins σ Q) X.xe s
theorem PW.pt {X:Cx} {e:Expr} {t:TT} (h:PW X e t):PT X e t:=h _
noncomputable def PA (X:Cx) (es:List Expr) (t:TA):Prop:=
 ∀(pos:Pos) (pins:List (Addr×Obj)) (s:Shared) (σ:St) (H:Hp) (Q:List V->Hp->Prop),Inv X pins σ H s->t σ H Q->wpAny (model X.prog X.w) X.A (spliced (backTo pos (starEach es X.env))) (AP X pins σ Q) X.xe s
noncomputable def PS (X:Cx) (st:Stmt) (t:TS):Prop:=
 ∀(pins:List (Addr×Obj)) (s:Shared) (σ:St) (H:Hp) (D:xf7),Inv X pins σ H s->t D σ H->wpAny (model X.prog X.w) X.A (exec st X.env) (SP X pins D) X.xe s
noncomputable def PSs (X:Cx) (st:List Stmt) (t:TS):Prop:=
 ∀(pins:List (Addr×Obj)) (s:Shared) (σ:St) (H:Hp) (D:xf7),Inv X pins σ H s->t D σ H->wpAny (model X.prog X.w) X.A (execs st X.env) (SP X pins D) X.xe s
theorem thn {α:Type} {t:Sem α} {Q Q':α->Shared->Prop} {M:Model} {A:Around} {E:Value->Shared->Prop} {s:Shared} (h:wpAny M A t Q E s) (hQ:∀a s,Q a s->Q' a s):wpAny M A t Q' E s:=wpAny_mono h hQ fun _ _ x=>x
end L2
namespace L2
open PySem PySem.Spec PyProof.Rows
section
variable {X:Cx}
noncomputable def yh9 (i:Nat):TE:=fun σ H Q=>∃v,σ[i]?=some (some v)/\Q v H
noncomputable def tC (v:V):TE:=fun _ H Q=>Q v H
theorem wv3 {i:Nat} {x:Str} {pos:Pos} (hN:X.N[i]?=some x) (hv:Vis X.env.scope x) (hd:(x == ("__debug__" : Str))=false:=by decide) (hcd:(x == ("__classdict__" : Str))=false:=by decide):PE X (.Name x pos) (yh9 i):=by
 intro pins s σ H Q I h;obtain⟨v,e,h⟩:=h;obtain⟨m,hn,hl⟩:=I.loc;obtain⟨u,r,l⟩:=hl i x v hN e hv;have fin:EP X pins σ Q u s:=⟨v,H,I,r,h⟩;rcases l with⟨hk,hm⟩ | ⟨hk,c,hc,hcell⟩
 ·exact wpAny_Name (wpAny_loadName_local I.ok.kind hk hn hm fin) hd
 ·rcases hk with hk | hk
  ·exact wpAny_Name (wpAny_loadName_cell I.ok.kind hk hc hcell fin) hd
  ·exact wpAny_Name (wpAny_loadName_free I.ok.kind hk hc hcell fin hcd) hd
theorem zl4 {i j pos}:PE X (.Constant (.int i) j pos) (tC (.int i)):=fun _ _ _ H _ I h=>wpAny_Constant_int ⟨.int i,H,I.tok _,⟨_,rfl⟩,h⟩
theorem vf5 {b j pos}:PE X (.Constant (.bool b) j pos) (tC (.bl b)):=fun _ _ _ H _ I h=>Constant_bool ⟨.bl b,H,I,rfl,h⟩
theorem wv6 {j pos}:PE X (.Constant .none j pos) (tC .non):=fun _ _ _ H _ I h=>Constant_none ⟨.non,H,I,rfl,h⟩
theorem zx7 {x j pos}:PE X (.Constant (.str x) j pos) (tC (.str x)):=fun _ _ _ H _ I h=>Calls.Constant_str ⟨.str x,H,I.tok _,⟨_,rfl⟩,h⟩
noncomputable def Gl (X:Cx) (x:Str):Prop:=X.env.kindOf x=some .globalImplicit
theorem xq2 {E:Value->Shared->Prop} {pins:List (Addr×Obj)} {s:Shared} {σ:St} {H:Hp} {x:Str} {u:Value} {pos:Pos} {Q:Value->Shared->Prop} (I:Inv X pins σ H s) (hg:Gl X x) (hm:X.mg x=some u) (h:Q u s)
 (hd:(x == ("__debug__" : Str))=false:=by decide):wpAny (model X.prog X.w) X.A (eval (.Name x pos) X.env) Q E s:=
 Calls.Name_function_global I.ok.kind hg (Calls.loadGlobal_global (by rw[I.ok.glob];exact I.mod.glob.keeps I.bk) hm h) hd
theorem yf5 {E:Value->Shared->Prop} {pins:List (Addr×Obj)} {s:Shared} {σ:St} {H:Hp} {x:Str} {u:Value} {pos:Pos} {Q:Value->Shared->Prop} (I:Inv X pins σ H s) (hg:Gl X x) (hm:X.mg x=none) (hv:bootBuiltins x=some u) (h:Q u s)
 (hn:x≠"__name__":=by decide) (hd:(x == ("__debug__" : Str))=false:=by decide):wpAny (model X.prog X.w) X.A (eval (.Name x pos) X.env) Q E s:=by
 obtain⟨mb,h1,h2⟩:=I.mod.blt;exact Calls.Name_function_global I.ok.kind hg (Calls.loadGlobal_builtin (by rw[I.ok.glob];exact I.mod.glob.keeps I.bk) hm (by rw[I.ok.blt];exact h1.keeps I.bk) ((h2 x hn).trans hv) h) hd
theorem xn9 {x:Str} {v:V} {u:Value} {pos:Pos} (hg:Gl X x) (hm:X.mg x=some u) (r:zf0 v u) (hd:(x == ("__debug__" : Str))=false:=by decide):PE X (.Name x pos) (tC v):=
 fun _ _ _ H _ I h=>xq2 I hg hm ⟨v,H,I,r,h⟩ hd
theorem wl3 {x:Str} {v:V} {u:Value} {pos:Pos} (hg:Gl X x) (hm:X.mg x=none) (hv:bootBuiltins x=some u) (r:zf0 v u) (hn:x≠"__name__":=by decide) (hd:(x == ("__debug__" : Str))=false:=by decide):PE X (.Name x pos) (tC v):=
 fun _ _ _ H _ I h=>yf5 I hg hm hv ⟨v,H,I,r,h⟩ hn hd
variable {a b:Expr} {ta tb:TE} {pos:Pos}
noncomputable def PC (X:Cx) (op:CmpOp) (a b:Expr) (t:TE):Prop:=
 ∀(pins:List (Addr×Obj)) (s:Shared) (σ:St) (H:Hp) (Q:VK),Inv X pins σ H s->t σ H Q->
  wpAny (model X.prog X.w) X.A (eval a X.env) (fun v s₁=>wpAny (model X.prog X.w) X.A (eval b X.env) (fun u s₂=>wpAny (model X.prog X.w) X.A (compareOp op v u) (EP X pins σ Q) X.xe s₂) X.xe s₁) X.xe s
noncomputable def tB (t:TE):TT:=fun σ H Q=>t σ H fun x H1=>∃c,x=.bl c/\Q c H1
theorem we2 {op:CmpOp} {t:TE} (h:PC X op a b t) (h1:behindInMarks op b=false:=by first | exact nobehind _ (by decide) (by decide) | rfl):PE X (.Compare a [op] [b] pos) t:=fun pins s σ H Q I hw=>wpAny_Compare1 (h pins s σ H Q I hw) h1
theorem wd8 {op:CmpOp} {t:TE} (h:PC X op a b t) (h1:behindInMarks op b=false:=by first | exact nobehind _ (by decide) (by decide) | rfl):PT X (.Compare a [op] [b] pos) (tB t):=by
 intro pins s σ H Q I hw;refine wpAny_isTrue_Compare1 (thn (h pins s σ H _ I hw) fun v s1 h1=>thn h1 fun u s2 h2=>thn h2 fun c s3 hI48=>?_) h1;obtain⟨x,H1,I1,r1,q1⟩:=hI48;obtain⟨d,rfl,q⟩:=q1;cases r1;exact wpAny_truthy_bool ⟨H1,I1,q⟩
theorem wu7 {e:Expr} {t:TE} (h:PE X e t) (he:∀whole,isTrue e X.env whole=(do let v <-whole;standAt e.pos;holding [v] (truthy v)):=by intro _;rfl):PT X e (tB t):=by
 intro pins s σ H Q I hw;refine isTrue_plain (thn (h pins s σ H _ I hw) fun v s1 hI49=>?_) (he _);obtain⟨x,H1,I1,r1,q1⟩:=hI49;obtain⟨d,rfl,q⟩:=q1;cases r1;exact wpAny_truthy_bool ⟨H1,I1,q⟩
variable {tA tB':TT} {zx5:List Expr}
noncomputable def vm0 (t u:TT):TT:=fun σ H Q=>t σ H fun c H1=>if c=true then u σ H1 Q else Q false H1
noncomputable def tOr (t u:TT):TT:=fun σ H Q=>t σ H fun c H1=>if c=true then Q true H1 else u σ H1 Q
noncomputable def vl4 (t:TT):TT:=fun σ H Q=>t σ H fun c H1=>Q (!c) H1
theorem pw_and1 (ha:PT X a tA):PW X (.BoolOp .And [a] pos) tA:=by
 intro wh pins s σ H Q I h;refine isTrue_and (thn (ha pins s σ H Q I h) fun c s1 e=>?_);cases c with
 | true=>exact isTrue_and_nil e
 | false=>exact e
theorem pw_or1 (ha:PT X a tA):PW X (.BoolOp .Or [a] pos) tA:=by
 intro wh pins s σ H Q I h;refine isTrue_or (thn (ha pins s σ H Q I h) fun c s1 e=>?_);cases c with
 | false=>exact isTrue_or_nil e
 | true=>exact e
theorem pw_and (ha:PT X a tA) (hb:PW X (.BoolOp .And (b::zx5) pos) tB'):PW X (.BoolOp .And (a::b::zx5) pos) (vm0 tA tB'):=by
 intro wh pins s σ H Q I h;refine isTrue_and (thn (ha pins s σ H _ I h) fun c s1 hI50=>?_);obtain⟨H1,I1,q1⟩:=hI50;cases c with
 | true=>exact hb wh pins s1 σ H1 Q I1 q1
 | false=>exact⟨H1,I1,q1⟩
theorem pw_or (ha:PT X a tA) (hb:PW X (.BoolOp .Or (b::zx5) pos) tB'):PW X (.BoolOp .Or (a::b::zx5) pos) (tOr tA tB'):=by
 intro wh pins s σ H Q I h;refine isTrue_or (thn (ha pins s σ H _ I h) fun c s1 hI51=>?_);obtain⟨H1,I1,q1⟩:=hI51;cases c with
 | true=>exact⟨H1,I1,q1⟩
 | false=>exact hb wh pins s1 σ H1 Q I1 q1
theorem wu8 (ha:PT X a tA):PT X (.UnaryOp .Not a pos) (vl4 tA):=by
 intro pins s σ H Q I h;exact isTrue_not (ha pins s σ H (fun c H1=>Q (!c) H1) I h)
noncomputable def ve1 (ta tb:TE):TE:=fun σ H Q=>ta σ H fun x H1=>∃c,x=.bl c/\if c=true then tb σ H1 Q else Q (.bl false) H1
noncomputable def vl3 (ta tb:TE):TE:=fun σ H Q=>ta σ H fun x H1=>∃c,x=.bl c/\if c=true then Q (.bl true) H1 else tb σ H1 Q
noncomputable def vd7 (ta:TE):TE:=fun σ H Q=>ta σ H fun x H1=>∃c,x=.bl c/\Q (.bl (!c)) H1
theorem wv4 {op} {t:TE} (h:PE X a t):PE X (.BoolOp op [a] pos) t:=fun pins s σ H Q I hw=>BoolOp_one (h pins s σ H Q I hw)
theorem wv9 (ha:PE X a ta) (hb:PE X (.BoolOp .And (b::zx5) pos) tb):PE X (.BoolOp .And (a::b::zx5) pos) (ve1 ta tb):=by
 intro pins s σ H Q I h;refine BoolOp_and (thn (ha pins s σ H _ I h) fun v s1 hI52=>?_);obtain⟨x,H1,I1,r1,q1⟩:=hI52;obtain⟨c,rfl,q1⟩:=q1;cases r1;refine wpAny_truthy_bool ?_;cases c with
 | true=>exact hb pins s1 σ H1 Q I1 q1
 | false=>exact⟨.bl false,H1,I1,rfl,q1⟩
theorem vf4 (ha:PE X a ta) (hb:PE X (.BoolOp .Or (b::zx5) pos) tb):PE X (.BoolOp .Or (a::b::zx5) pos) (vl3 ta tb):=by
 intro pins s σ H Q I h;refine BoolOp_or (thn (ha pins s σ H _ I h) fun v s1 hI53=>?_);obtain⟨x,H1,I1,r1,q1⟩:=hI53;obtain⟨c,rfl,q1⟩:=q1;cases r1;refine wpAny_truthy_bool ?_;cases c with
 | false=>exact hb pins s1 σ H1 Q I1 q1
 | true=>exact⟨.bl true,H1,I1,rfl,q1⟩
theorem wv5 (ha:PE X a ta):PE X (.UnaryOp .Not a pos) (vd7 ta):=by
 intro pins s σ H Q I h;refine UnaryOp_ (thn (ha pins s σ H _ I h) fun v s1 hI54=>?_);obtain⟨x,H1,I1,r1,q1⟩:=hI54;obtain⟨c,rfl,q1⟩:=q1;cases r1;exact not_of (wpAny_truthy_bool ⟨.bl (!c),H1,I1,rfl,q1⟩)
end
end L2
namespace L2
open PySem PySem.Spec PyProof.Rows
noncomputable def SqL (K:PySem.W.Frag) (H:Hp) (a:Addr) (xs:List V):Prop:=
 Rd H a (.lst xs)\/
  ∃(o:Obj) (its:Array Value) (n:Nat),K.lookup a=some o/\o.cls=.type "list"/\o.dict=none/\o.data=.seq its n/\its.size<=sizeLine/\zf8 xs its.toList
noncomputable def SqT (K:PySem.W.Frag) (H:Hp) (a:Addr) (xs:List V):Prop:=
 Rd H a (.tup xs)\/
  ∃(o:Obj) (its:Array Value) (n:Nat),K.lookup a=some o/\o.cls=.type "tuple"/\o.data=.seq its n/\its.size<=sizeLine/\zf8 xs its.toList
noncomputable def vn5:Value->Option V
 | .none=>some .non
 | .bool b=>some (.bl b)
 | .int i _=>some (.int i)
 | .str x _=>some (.str x)
 | .bytes b _=>some (.byt b)
 | .float b _=>some (.flt b)
 | .ref a=>some (.ref a)
 | .type n=>some (.ty n)
 | _=>none
theorem zf0.abs {x:V} {u:Value} (r:zf0 x u):vn5 u=some x:=by
 cases x with
 | non=>cases r;rfl
 | bl _=>cases r;rfl
 | int _=>obtain⟨t,rfl⟩:=r;rfl
 | str _=>obtain⟨t,rfl⟩:=r;rfl
 | byt _=>obtain⟨t,rfl⟩:=r;rfl
 | flt _=>obtain⟨t,rfl⟩:=r;rfl
 | ref _=>cases r;rfl
 | ty _=>cases r;rfl
theorem zf0.inj {x y:V} {u:Value} (r:zf0 x u) (q:zf0 y u):x=y:=Option.some.inj (r.abs.symm.trans q.abs)
theorem zf8.inj:∀{xs ys:List V} {us:List Value},zf8 xs us->zf8 ys us->xs=ys
 | _,_,_,.nil,.nil=>rfl
 | _,_,_,.cons r t,.cons r' t'=>by rw[r.inj r',zf8.inj t t']
section
variable {X:Cx} {pins:List (Addr×Obj)} {σ:St} {H:Hp} {s:Shared} {a:Addr} {xs ys:List V}
theorem SqL.of {K:PySem.W.Frag} (h:H a=some (.lst xs)):SqL K H a xs:=.inl (.inl h)
theorem SqT.of {K:PySem.W.Frag} (h:H a=some (.tup xs)):SqT K H a xs:=.inl (.inl h)
theorem Inv.list (I:Inv X pins σ H s) (h:SqL X.K H a xs):∃its:List Value,zf8 xs its/\PlainL s.heap a its.toArray/\xs.length<=sizeLine:=by
 rcases h with h | ⟨o,its,n,hk,hc,hd,hs,hz,r⟩
 ·obtain⟨z,its,n,r,e⟩:=h.ok I.hok
  exact⟨its,r,⟨_,n,e,rfl,rfl,rfl⟩,z⟩
 ·refine⟨its.toList,r,⟨o,n,I.kIn a o hk,hc,hd,by simpa using hs⟩,?_⟩
  have e:=r.length;simp only[Bi0] at e;omega
theorem Inv.tuple (I:Inv X pins σ H s) (h:SqT X.K H a xs):∃its:List Value,zf8 xs its/\IsTup s.heap a its.toArray/\xs.length<=sizeLine:=by
 rcases h with h | ⟨o,its,n,hk,hc,hs,hz,r⟩
 ·obtain⟨z,its,r,p⟩:=h.ok I.hok
  exact⟨its,r,p,z⟩
 ·refine⟨its.toList,r,⟨o,I.kIn a o hk,hc,n,by simpa using hs⟩,?_⟩
  have e:=r.length;simp only[Bi0] at e;omega
theorem Inv.list_inj (I:Inv X pins σ H s) (h:SqL X.K H a xs) (h':SqL X.K H a ys):xs=ys:=by
 obtain⟨its,r,⟨o,n,e,_,_,d⟩,_⟩:=I.list h;obtain⟨its',r',⟨o',n',e',_,_,d'⟩,_⟩:=I.list h';rw[e] at e';cases e';rw[d] at d';injection d' with d1 _
 have:its=its':=by simpa using congrArg Array.toList d1
 subst this;exact r.inj r'
theorem Inv.tuple_inj (I:Inv X pins σ H s) (h:SqT X.K H a xs) (h':SqT X.K H a ys):xs=ys:=by
 obtain⟨its,r,⟨o,e,_,n,d⟩,_⟩:=I.tuple h;obtain⟨its',r',⟨o',e',_,n',d'⟩,_⟩:=I.tuple h';rw[e] at e';cases e';rw[d] at d';injection d' with d1 _
 have:its=its':=by simpa using congrArg Array.toList d1
 subst this;exact r.inj r'
end
noncomputable abbrev Cx.wish (X:Cx) (E:Value->Shared->Prop):Cx:={ X with xe:=E }
noncomputable abbrev Cx.nox (X:Cx):Cx:=X.wish fun _ _=>False
theorem Cx.Ok.wish {X:Cx} (ok:X.Ok) (E:Value->Shared->Prop):(X.wish E).Ok:=
 ⟨ok.mod,ok.kind,ok.glob,ok.blt,ok.above,ok.inj,ok.has,ok.cab,ok.hd,ok.frames,ok.stk,ok.exf,ok.bs,ok.bsz,ok.noex,ok.exfs,ok.funs,ok.frf⟩
theorem Cx.Ok.unwish {X:Cx} {E:Value->Shared->Prop} (ok:(X.wish E).Ok):X.Ok:=
 ⟨ok.mod,ok.kind,ok.glob,ok.blt,ok.above,ok.inj,ok.has,ok.cab,ok.hd,ok.frames,ok.stk,ok.exf,ok.bs,ok.bsz,ok.noex,ok.exfs,ok.funs,ok.frf⟩
section
variable {X:Cx} {pins:List (Addr×Obj)} {σ:St} {H:Hp} {s:Shared} {E:Value->Shared->Prop}
theorem Inv.wish (I:Inv X pins σ H s) (E:Value->Shared->Prop):Inv (X.wish E) pins σ H s:=⟨I.ok.wish E,I.os,I.bare,I.base,I.loc,I.cell,I.free,I.freeC,I.pin,I.hok,I.len⟩
theorem Inv.unwish (I:Inv (X.wish E) pins σ H s):Inv X pins σ H s:=⟨I.ok.unwish,I.os,I.bare,I.base,I.loc,I.cell,I.free,I.freeC,I.pin,I.hok,I.len⟩
set_option tactic.hygienic true in
theorem SP.unwish {D:xf7} {f:Flow} {s':Shared} (h:SP (X.wish E) pins D f s'):SP X pins D f s':=by
 cases f with
 | next=>obtain⟨σ',H',I,q⟩:=h;exact⟨σ',H',I.unwish,q⟩
 | brk=>obtain⟨σ',H',I,q⟩:=h;exact⟨σ',H',I.unwish,q⟩
 | cont=>obtain⟨σ',H',I,q⟩:=h;exact⟨σ',H',I.unwish,q⟩
 | ret u=>obtain⟨v,σ',H',I,r,q⟩:=h;exact⟨v,σ',H',I.unwish,r,q⟩
theorem PSs.nox {st:List Stmt} {t:TS} (h:PSs X.nox st t):PSs X st t:=fun pins s σ H D I hw=>
 wpAny_mono (h pins s σ H D (I.wish _) hw) (fun _ _ q=>q.unwish) fun _ _ z=>False.elim z
end
section
variable {X:Cx} {st:Stmt} {zx5:List Stmt} {t u:TS} {e:Expr} {te:TE} {pos:Pos}
noncomputable def vd8:TS:=fun D σ H=>D.nx σ H
noncomputable def vl0 (t u:TS):TS:=fun D σ H=>t { D with nx:=u D } σ H
theorem yw6:PSs X [] vd8:=fun _ _ σ H _ I h=>wpAny_execs_nil ⟨σ,H,I,h⟩
set_option tactic.hygienic true in
theorem zi7 (h1:PS X st t) (h2:PSs X zx5 u):PSs X (st::zx5) (vl0 t u):=by
 intro pins s σ H D I h;refine wpAny_execs_cons (thn (h1 pins s σ H { D with nx:=u D } I h) fun f s1 q=>?_);cases f with
 | next=>
   obtain⟨σ',H',I',q⟩:=q;exact h2 pins s1 σ' H' D I' q
 | ret v=>exact q
 | brk=>exact q
 | cont=>exact q
set_option tactic.hygienic true in
theorem ye1 (h1:PS X st t):PSs X [st] t:=by
 intro pins s σ H D I h;refine wpAny_execs_cons (thn (h1 pins s σ H D I h) fun f s1 q=>?_);cases f with
 | next=>exact wpAny_execs_nil q
 | ret v=>exact q
 | brk=>exact q
 | cont=>exact q
theorem Inv.quiet {pins:List (Addr×Obj)} {σ:St} {H:Hp} {s:Shared} (I:Inv X pins σ H s):interactive X.env=false:=by simp[interactive,I.ok.kind]
noncomputable def vd9 (te:TE):TS:=fun D σ H=>te σ H fun _ H1=>D.nx σ H1
theorem xn4 (he:PE X e te) (hs:swapsWith e none pos.line X.env=pure false:=by rfl):PS X (.Expr e pos) (vd9 te):=by
 intro pins s σ H D I h;exact wpAny_Expr_any (thn (he pins s σ H _ I h) fun v s1 ⟨x,H1,I1,r1,q1⟩=>⟨σ,H1,I1,q1⟩) I.quiet hs
noncomputable def vl1 (te:TE):TS:=fun D σ H=>te σ H D.rt
theorem yq3 (he:PE X e te):PS X (.Return (some e) pos) (vl1 te):=by
 intro pins s σ H D I h;exact wpAny_Return_some (thn (he pins s σ H _ I h) fun v s1 ⟨x,H1,I1,r1,q1⟩=>⟨x,σ,H1,I1,r1,q1⟩)
noncomputable def vl6 (c:TT) (t u:TS):TS:=fun D σ H=>c σ H fun b H1=>if b=true then t D σ H1 else u D σ H1
theorem wk5 {c:Expr} {a b:List Stmt} {tc:TT} (hc:PT X c tc) (ha:PSs X a t) (hb:PSs X b u):PS X (.If c a b pos) (vl6 tc t u):=by
 intro pins s σ H D I h;refine wpAny_If (thn (hc pins s σ H _ I h) fun d s1 hI55=>?_);obtain⟨H1,I1,q1⟩:=hI55;cases d with
 | true=>exact ha pins s1 σ H1 D I1 q1
 | false=>exact hb pins s1 σ H1 D I1 q1
end
noncomputable abbrev TG:=V->St->Hp->(St->Hp->Prop)->Prop
noncomputable abbrev TGs:=List V->St->Hp->(St->Hp->Prop)->Prop
noncomputable def PG (X:Cx) (target:Expr) (t:TG):Prop:=
 ∀(pins:List (Addr×Obj)) (s:Shared) (σ:St) (H:Hp) (v:V) (u:Value) (Q:St->Hp->Prop),Inv X pins σ H s->zf0 v u->t v σ H Q->
  wpAny (model X.prog X.w) X.A (assign target X.env u) (fun _ s'=>∃σ' H',Inv X pins σ' H' s'/\Q σ' H') X.xe s
noncomputable def PGs (X:Cx) (ts:List Expr) (t:TGs):Prop:=
 ∀(pins:List (Addr×Obj)) (s:Shared) (σ:St) (H:Hp) (vs:List V) (us:List Value) (Q:St->Hp->Prop),Inv X pins σ H s->zf8 vs us->t vs σ H Q->
  wpAny (model X.prog X.w) X.A (assignInOrder ((assignEach ts X.env).map (·.2)) us) (fun _ s'=>∃σ' H',Inv X pins σ' H' s'/\Q σ' H') X.xe s
noncomputable abbrev vc7:=V->V->V->Hp->(Hp->Prop)->Prop
noncomputable def vk8 (X:Cx) (t:vc7):Prop:=
 ∀(pins:List (Addr×Obj)) (s:Shared) (σ:St) (H:Hp) (o i v:V) (ov iv u:Value) (Q:Hp->Prop),Inv X pins σ H s->zf0 o ov->zf0 i iv->zf0 v u->t o i v H Q->
  wpAny (model X.prog X.w) X.A (setItem ov iv u) (fun _ s'=>∃H',Inv X pins σ H' s'/\Q H') X.xe s
section
variable {X:Cx} {pos:Pos}
noncomputable def xi6 (i:Nat):TG:=fun v σ H Q=>Q (σ.set i (some v)) H
theorem ym1 {i:Nat} {x:Str} (hN:X.N.Nodup) (hi:X.N[i]?=some x) (hx:Loc X.env.scope x) (hf:X.fn x=true\/X.env.scope.names.lookup x=some .local:=by first | exact .inl rfl | exact .inr rfl | assumption):PG X (.Name x pos) (xi6 i):=by
 intro pins s σ H v u Q I r h;exact wpAny_assign_Name (zq3 I hN hi hx r (fun s' I'=>⟨_,H,I',h⟩) hf)
noncomputable def vj7:TGs:=fun vs σ H Q=>vs=[]/\Q σ H
noncomputable def wo9 (t:TG) (u:TGs):TGs:=fun vs σ H Q=>∃v r,vs=v::r/\t v σ H fun σ' H'=>u r σ' H' Q
theorem ym0:PGs X [] vj7:=by
 intro pins s σ H vs us Q I r h;obtain⟨e,h⟩:=h;subst e;cases r;exact assignInOrder_nil ⟨σ,H,I,h⟩
theorem zq6 {e:Expr} {es:List Expr} {t:TG} {u:TGs} (h1:PG X e t) (h2:PGs X es u)
 (hs:(assignEach (e::es) X.env).map (·.2)=assign e X.env::(assignEach es X.env).map (·.2):=by rfl):PGs X (e::es) (wo9 t u):=by
 intro pins s σ H vs us Q I r h;obtain⟨v,vr,e1,h⟩:=h;subst e1;cases r with
 | cons r rr=>
   rw[hs];refine assignInOrder_cons (thn (h1 pins s σ H _ _ _ I r h) fun _ s1 hI56=>?_);obtain⟨σ1,H1,I1,q1⟩:=hI56;exact h2 pins s1 σ1 H1 _ _ Q I1 rr q1
noncomputable def vj6 (K:PySem.W.Frag) (n:Nat) (t:TGs):TG:=fun v σ H Q=>∃a xs,v=.ref a/\SqT K H a xs/\xs.length=n/\t xs σ H Q
theorem xb9 {es:List Expr} {k:Nat} {t:TGs} {n:Nat} (hc:X.calm=true) (h:PGs X es t)
 (hn:(assignEach es X.env).length=n:=by rfl) (hst:(assignEach es X.env).findIdx? (·.1)=none:=by rfl):PG X (.Tuple es k pos) (vj6 X.K n t):=by
 intro pins s σ H v u Q I r hw;obtain⟨a,xs,e1,hq,hl,hw⟩:=hw;subst e1;cases r;obtain⟨its,rv,ht,hz⟩:=I.tuple hq;refine assign_Tuple_tuple (I.ok.hd hc) ht (by simp[hn,<-hl,rv.length]) hst fun h' hx=>?_
 have I1:Inv X pins σ H { s with heap:=h' }:=I.kept (t':=s.toks) fun b o e=>hx b o (Ar0 (Heap.lt_size e)) e
 exact h pins _ σ H xs _ Q I1 (by simpa using rv) hw
noncomputable def wf5 (to ti:TE) (t:vc7):TG:=fun v σ H Q=>to σ H fun o H1=>ti σ H1 fun i H2=>t o i v H2 fun H3=>Q σ H3
theorem xc0 {o i:Expr} {to ti:TE} {t:vc7} (ho:PE X o to) (hi:PE X i ti) (hs:vk8 X t)
 (ha:∀v,assign (.Subscript o i pos) X.env v=(do
  let ov <-holding [v] (eval o X.env)
  let iv <-holding [v,ov] (eval i X.env)
  standAt pos
  holding [v,ov,iv] (setItem ov iv v)
  release [v,ov,iv] []):=by intro _;rfl):PG X (.Subscript o i pos) (wf5 to ti t):=by
 intro pins s σ H v u Q I r h;rw[ha];refine wpAny_bind (wpAny_holding (thn (ho pins s σ H _ I h) fun ov s1 hI57=>?_));obtain⟨x,H1,I1,r1,q1⟩:=hI57;refine wpAny_bind (wpAny_holding (thn (hi pins s1 σ H1 _ I1 q1) fun iv s2 hI58=>?_));obtain⟨y,H2,I2,r2,q2⟩:=hI58;refine wpAny_bind (wpAny_standAt (wpAny_bind (wpAny_holding (thn (hs pins s2 σ H2 x y v ov iv u _ I2 r1 r2 r q2) fun _ s3 hI59=>?_))));obtain⟨H3,I3,q3⟩:=hI59;exact wpAny_release ⟨σ,H3,I3,q3⟩
noncomputable def wj3 (te:TE) (g:TG):TS:=fun D σ H=>te σ H fun x H1=>g x σ H1 D.nx
theorem yq4 {tg e:Expr} {te:TE} {g:TG} (he:PE X e te) (hg:PG X tg g) (hs:swapsWithSole [tg] e pos.line X.env=pure false:=by rfl) (hw:swappedStores [tg] e X.env=pure none:=by rfl)
 (h1:(assignEach [tg] X.env).map (·.2)=[assign tg X.env]:=by rfl):PS X (.Assign [tg] e pos) (wj3 te g):=by
 intro pins s σ H D I h;refine wpAny_Assign_stores (thn (he pins s σ H _ I h) fun v s1 hI60=>?_) hs hw;obtain⟨x,H1,I1,r1,q1⟩:=hI60;rw[h1];exact thn (hg pins s1 σ H1 x v _ I1 r1 q1) fun _ s2 q=>q
theorem zs3 {i:Nat} {x:Str} {e:Expr} {te:TE} {pos':Pos} (hN:X.N.Nodup) (hi:X.N[i]?=some x) (hx:Loc X.env.scope x) (he:PE X e te) (hs:swapsWith e (some (.Name x pos')) pos.line X.env=pure false:=by rfl) (hf:X.fn x=true\/X.env.scope.names.lookup x=some .local:=by first | exact .inl rfl | exact .inr rfl | assumption) :
 PS X (.Assign [.Name x pos'] e pos) (wj3 te (xi6 i)):=by
 intro pins s σ H D I h;refine wpAny_Assign_Name (thn (he pins s σ H _ I h) fun v s1 hI61=>?_) hs;obtain⟨y,H1,I1,r1,q1⟩:=hI61;exact zq3 I1 hN hi hx r1 (fun s2 I2=>⟨_,H1,I2,q1⟩) hf
noncomputable def vl2 (i j:Nat) (ta:TA):TS:=fun D σ H=>ta σ H fun vs H1=>∃v w,vs=[v,w]/\D.nx ((σ.set i (some v)).set j (some w)) H1
theorem wu9 {i j:Nat} {x y:Str} {a b:Expr} {ta:TA} {px py pt:Pos} {kt k2 pt2} (hc:X.calm=true) (hN:X.N.Nodup) (hi:X.N[i]?=some x) (hj:X.N[j]?=some y) (hij:i≠j)
 (hx:X.env.scope.names.lookup x=some .local) (hy:X.env.scope.names.lookup y=some .local) (ha:PA X [a,b] ta)
 (hw:swappedStores [.Tuple [.Name x px,.Name y py] kt pt] (.Tuple [a,b] k2 pt2) X.env=pure (some [x,y]))
 (hs:swapsWithSole [.Tuple [.Name x px,.Name y py] kt pt] (.Tuple [a,b] k2 pt2) pos.line X.env=pure false:=by rfl) :
 PS X (.Assign [.Tuple [.Name x px,.Name y py] kt pt] (.Tuple [a,b] k2 pt2) pos) (vl2 i j ta):=by
 intro pins s σ H D I h;rw[exec_Assign_arm];refine wpAny_bind (wpAny_standAt ?_);rw[hs];refine wpAny_bind (wpAny_pure ?_);rw[if_neg (by decide)];refine wpAny_bind (Tuple_ (thn (ha _ pins s σ H _ I h) fun us s1 hI62=>?_));obtain⟨vs,H1,I1,r1,q1⟩:=hI62;obtain⟨v,w,e1,q1⟩:=q1;subst e1;obtain⟨u1,u2,rfl,rv,rw'⟩:∃u1 u2,us=[u1,u2]/\zf0 v u1/\zf0 w u2:=by
  cases r1 with
  | cons p q=>
    cases q with
    | cons p' q'=>
      cases q';exact⟨_,_,rfl,p,p'⟩
 refine wpAny_newObj_type ?_ (by show 2<=sizeLine;decide);have I2:Inv X pins σ H1 { s1 with heap:=s1.heap.push { cls:=.type "tuple",data:=.seq [u1,u2].toArray } }:=I1.kept (t':=s1.toks) fun b o e=>Aa0 _ e
 rw[hw];refine wpAny_bind (wpAny_pure ?_);show wpAny (model X.prog X.w) X.A (do rule "assign.swapped-stores";let items <-unpackItems (.ref s1.heap.objs.size) 2 none;assignInOrder [fun v=>bindName X.env y v,fun v=>bindName X.env x v] items.reverse;pure Flow.next) _ _ _;refine wpAny_bind (wpAny_rule (wpAny_bind (unpackItems_tuple (items:=#[u1,u2]) (I.ok.hd hc) (IsTup.new s1.heap _) fun h' hx'=>?_)));have I3:=I2.kept (h':=h') (t':=s1.toks) fun b o e=>hx' b o (Ar0 (Heap.lt_size e)) e
 show wpAny _ _ (assignInOrder [fun v=>bindName X.env y v,fun v=>bindName X.env x v] [u2,u1] >>= fun _=>pure Flow.next) _ _ _;refine wpAny_bind (assignInOrder_cons (wpAny_bindName (zq3 I3 hN hj (.inl hy) rw' (fun s2 I4=>?_) (.inr hy))));refine assignInOrder_cons (wpAny_bindName (zq3 I4 hN hi (.inl hx) rv (fun s3 I5=>assignInOrder_nil (wpAny_pure ?_)) (.inr hx)));rw[List.set_comm _ _ (Ne.symm hij)] at I5;exact⟨_,H1,I5,q1⟩
end
section
variable {X:Cx} {pos:Pos}
noncomputable def wt4 (c:TT) (tb:TS):TS:=fun D σ H=>∃W:Nat->St->Hp->Prop,(∃m,W m σ H)/\∀m σ H,W m σ H->
 c σ H fun b H1=>if b=true then ∃N:St->Hp->Prop,(∀σ' H',N σ' H'->∃m',m' < m/\W m' σ' H')/\tb { D with nx:=N,ct:=N,bk:=D.nx } σ H1 else D.nx σ H1
set_option tactic.hygienic true in
theorem xy5 {c:Expr} {body:List Stmt} {tc:TT} {tb:TS} (hp:PassesOwn (model X.prog X.w) X.A X.env X.xe) (hc:PT X c tc) (hb:PSs X body tb):PS X (.While c body [] pos) (wt4 tc tb):=by
 intro pins s σ H D I h;obtain⟨W,⟨m0,w0⟩,turn⟩:=h;refine wpAny_While (codeAny_whileLoop (fun n s'=>∃σ' H',Inv X pins σ' H' s'/\W n σ' H') ?_ m0 ⟨σ,H,I,w0⟩);rintro n s1 ⟨σ1,H1,I1,w1⟩;refine wpAny_passesOwn hp (thn (hc pins s1 σ1 H1 _ I1 (turn n σ1 H1 w1)) fun b s2 hI63=>?_);obtain⟨H2,I2,q2⟩:=hI63;cases b with
 | true=>
   obtain⟨N,hN,q2⟩:=q2;rw[if_pos rfl];refine wpAny_passesOwn hp (thn (hb pins s2 σ1 H2 _ I2 q2) fun f s3 q3=>?_);cases f with
   | next=>
     obtain⟨σ3,H3,I3,n3⟩:=q3;obtain⟨m',hm,w3⟩:=hN σ3 H3 n3;exact⟨m',hm,σ3,H3,I3,w3⟩
   | cont=>
     obtain⟨σ3,H3,I3,n3⟩:=q3;obtain⟨m',hm,w3⟩:=hN σ3 H3 n3;exact⟨m',hm,σ3,H3,I3,w3⟩
   | brk=>exact q3
   | ret v=>exact q3
 | false=>
   rw[if_neg Am0];exact wpAny_execs_nil ⟨σ1,H2,I2,q2⟩
end
structure It where
 go:Nat->Hp->Prop
 yld:Nat->Hp->V->Hp->Prop
 stop:Nat->Hp->Prop
noncomputable def yv4 (X:Cx) (pins:List (Addr×Obj)) (H:Hp) (b:Addr):Prop:=
 H b=none/\b≠X.env.locals/\b∉X.fs/\(b∈X.ex\/X.s₀.heap.objs.size<=b)/\(∀x c,X.env.cells.lookup x=some c->c≠b)/\∀p∈X.pn++pins,p.1≠b
theorem Inv.fpOk {X:Cx} {pins:List (Addr×Obj)} {σ:St} {H H':Hp} {s:Shared} {b:Addr} (I:Inv X pins σ H s) (hb:s.heap.objs.size<=b) (hn:H' b=none):yv4 X pins H' b:=by
 refine⟨hn,Nat.ne_of_gt (At0 I.lt hb),I.nofs hb,.inr (Be0 I.sz hb),fun x c e z=>?_,fun p hp z=>?_⟩
 ·obtain⟨v,q⟩:=I.cell x c e
  exact absurd (At0 q.lt (by rw[z];exact hb)) (Bn0 _)
 ·exact absurd (At0 (Heap.lt_size (I.pin p hp).1) (by rw[z];exact hb)) (Bn0 _)
structure wr0 (P:Program) (w:World) (K:PySem.W.Frag) (tg:Expr) (J:It) (fp:List Addr) (it:Addr) (tn:Nat->Heap->Prop):Prop where
 mem:it∈fp
 obj:∀i h,tn i h->∀b∈fp,∃o,h.get? b=some o/\∀v,o.data≠.cell v
 keep:∀i h h',tn i h->(∀b∈fp,∀o,h.get? b=some o->h'.get? b=some o)->tn i h'
 item:∀(X:Cx),X.prog=P->X.w=w->X.K=K->X.calm=true->∀(i:Nat) (pins:List (Addr×Obj)) (s:Shared) (σ:St) (H:Hp) (E:Value->Shared->Prop),Inv X pins σ H s->(∀b∈fp,yv4 X pins H b)->tn i s.heap->J.go i H->
  wpAny (model P w) X.A (pyNext (.ref it)) (fun r s1=>∃u,r=some u/\
   wpAny (model P w) X.A (letOwnedTupleGo tg (.ref it) u) (fun _ s2=>∃x H',Inv X pins σ H' s2/\zf0 x u/\J.yld i H x H'/\tn (i+1) s2.heap/\∀b∈fp,H' b=none) E s1) E s
 done:∀(X:Cx),X.prog=P->X.w=w->X.K=K->X.calm=true->∀(i:Nat) (pins:List (Addr×Obj)) (s:Shared) (σ:St) (H:Hp) (E:Value->Shared->Prop),Inv X pins σ H s->(∀b∈fp,yv4 X pins H b)->tn i s.heap->J.stop i H->
  wpAny (model P w) X.A (pyNext (.ref it)) (fun r s1=>r=none/\Inv X pins σ H s1) E s
 self:∀(A:Around) (i:Nat) (s:Shared) (Q:Value->Shared->Prop) (E:Value->Shared->Prop),tn i s.heap->Q (.ref it) s->wpAny (model P w) A (pyIter (.ref it)) Q E s
noncomputable abbrev TI:=St->Hp->(It->Hp->Prop)->Prop
noncomputable def PIE (X:Cx) (pins:List (Addr×Obj)) (σ:St) (tg:Expr) (R:It->Hp->Prop) (itv:Value) (s2:Shared):Prop:=
 ∃(it:Addr) (fp:List Addr) (tn:Nat->Heap->Prop) (J:It) (H':Hp),itv=.ref it/\Inv X pins σ H' s2/\wr0 X.prog X.w X.K tg J fp it tn/\tn 0 s2.heap/\(∀b∈fp,yv4 X pins H' b)/\R J H'
noncomputable def PI (X:Cx) (tg iter:Expr) (wi:TI):Prop:=
 ∀(pins:List (Addr×Obj)) (s:Shared) (σ:St) (H:Hp) (R:It->Hp->Prop),Inv X pins σ H s->wi σ H R->
  wpAny (model X.prog X.w) X.A (eval iter X.env) (fun v s1=>wpAny (model X.prog X.w) X.A (pyIter v) (PIE X pins σ tg R) X.xe s1) X.xe s
theorem wo6 {M:Model} {A:Around} {E:Value->Shared->Prop} {s:Shared} {tg:Expr} {it:Addr} {u:Value} {o:Obj} {n:String} {vs:Array Value} {Q:Unit->Shared->Prop} (ho:s.heap.get? it=some o) (hc:o.cls=.type n) (hd:o.data=.fields vs)
 (hn:["enumerate","zip","dict_itemiterator","dict_reverseitemiterator","odict_iterator","itertools.zip_longest","itertools.pairwise"].contains n=false) (hQ:Q () s):wpAny M A (letOwnedTupleGo tg (.ref it) u) Q E s:=by
 unfold letOwnedTupleGo;cases tg<;>first
  | exact wpAny_pure hQ
  | (cases u<;>first
   | exact wpAny_pure hQ
   | (refine wpAny_bind (wpAny_load ho ?_)
      rw[hc,hd];show wpAny M A (if (["enumerate","zip","dict_itemiterator","dict_reverseitemiterator","odict_iterator","itertools.zip_longest","itertools.pairwise"].contains n&&vs[0]? == some (rawInt _))=true then _ else _) Q E s;rw[if_neg (by intro h;rw[hn,Bool.false_and] at h;cases h)];exact wpAny_pure hQ))
noncomputable def Itl (K:PySem.W.Frag) (a:Addr):It:=
 ⟨fun i H=>∃xs x,SqL K H a xs/\xs[i]?=some x,fun i H x H'=>H'=H/\∀xs,SqL K H a xs->xs[i]?=some x,fun i H=>∃xs,SqL K H a xs/\xs.length<=i⟩
noncomputable def Itt (K:PySem.W.Frag) (a:Addr):It:=
 ⟨fun i H=>∃xs x,SqT K H a xs/\xs[i]?=some x,fun i H x H'=>H'=H/\∀xs,SqT K H a xs->xs[i]?=some x,fun i H=>∃xs,SqT K H a xs/\xs.length<=i⟩
noncomputable def Itr (lo:Int) (n:Nat):It:=⟨fun i _=>i<n,fun i H x H'=>H'=H/\x=.int (lo+i),fun i _=>n<=i⟩
theorem xl4 {P:Program} {w:World} {K:PySem.W.Frag} {tg:Expr} (a it:Addr):wr0 P w K tg (Itl K a) [it] it (fun i h=>h.IsListIter it a i) where
 mem:=by simp
 obj:=fun i h st b hb=>by
  have e:b=it:=by simpa using hb
  subst e;obtain⟨o,e,c,d⟩:=st;exact⟨o,e,fun v z=>by rw[d] at z;cases z⟩
 keep:=fun i h h' st k=>st.at fun o e=>k it (by simp) o e
 item:=by
  intro X hP hw hK hc i pins s σ H E I hf st hg;subst hP hw hK;obtain⟨xs,x,hq,hx⟩:=hg;obtain⟨its,rv,p,hz⟩:=I.list hq;obtain⟨u,hu,ru⟩:=rv.get hx;obtain⟨f0,f1,f2,f3,f4,f5⟩:=hf it (by simp);refine wpAny_pyNext_list_item st p.isList (x:=u) (by simpa using hu) fun h' st' sb=>?_
  have I1:Inv X pins σ H { s with heap:=h' }:=I.turned (t':=s.toks) (fun b o hb e=>(sb.2 b hb).trans e) f0 f1 f3 f4 f5;obtain⟨o,e,c,d⟩:=id st';exact⟨u,rfl,wo6 (s:={ s with heap:=h' }) e c d (by decide) ⟨x,H,I1,ru,⟨rfl,fun ys hy=>by rw[I.list_inj hy hq];exact hx⟩,st',fun b hb=>(hf b hb).1⟩⟩
 done:=by
  intro X hP hw hK hc i pins s σ H E I hf st hg;subst hP hw hK;obtain⟨xs,hq,hx⟩:=hg;obtain⟨its,rv,p,hz⟩:=I.list hq;obtain⟨f0,f1,f2,f3,f4,f5⟩:=hf it (by simp);have hl:=rv.length;exact wpAny_pyNext_list_end (I.ok.hd hc) st p.isList (by simp;omega) fun h' eb=>⟨rfl,I.turned (t':=s.toks) (fun b o hb e=>eb b o hb e) f0 f1 f3 f4 f5⟩
 self:=fun _ _ _ _ _ st h=>wpAny_pyIter_listiter st h
theorem xg5 {P:Program} {w:World} {K:PySem.W.Frag} {tg:Expr} (a it:Addr):wr0 P w K tg (Itt K a) [it] it (fun i h=>h.IsTupleIter it a i) where
 mem:=by simp
 obj:=fun i h st b hb=>by
  have e:b=it:=by simpa using hb
  subst e;obtain⟨o,e,c,d⟩:=st;exact⟨o,e,fun v z=>by rw[d] at z;cases z⟩
 keep:=fun i h h' st k=>st.at fun o e=>k it (by simp) o e
 item:=by
  intro X hP hw hK hc i pins s σ H E I hf st hg;subst hP hw hK;obtain⟨xs,x,hq,hx⟩:=hg;obtain⟨its,rv,p,hz⟩:=I.tuple hq;obtain⟨u,hu,ru⟩:=rv.get hx;obtain⟨f0,f1,f2,f3,f4,f5⟩:=hf it (by simp);refine wpAny_pyNext_tuple_item st (show s.heap.IsTuple a its.toArray from p) (x:=u) (by simpa using hu) fun h' st' sb=>?_
  have I1:Inv X pins σ H { s with heap:=h' }:=I.turned (t':=s.toks) (fun b o hb e=>(sb.2 b hb).trans e) f0 f1 f3 f4 f5;obtain⟨o,e,c,d⟩:=id st';exact⟨u,rfl,wo6 (s:={ s with heap:=h' }) e c d (by decide) ⟨x,H,I1,ru,⟨rfl,fun ys hy=>by rw[I.tuple_inj hy hq];exact hx⟩,st',fun b hb=>(hf b hb).1⟩⟩
 done:=by
  intro X hP hw hK hc i pins s σ H E I hf st hg;subst hP hw hK;obtain⟨xs,hq,hx⟩:=hg;obtain⟨its,rv,p,hz⟩:=I.tuple hq;obtain⟨f0,f1,f2,f3,f4,f5⟩:=hf it (by simp);have hl:=rv.length;exact wpAny_pyNext_tuple_end (I.ok.hd hc) st (show s.heap.IsTuple a its.toArray from p) (by simp;omega) fun h' eb=>⟨rfl,I.turned (t':=s.toks) (fun b o hb e=>eb b o hb e) f0 f1 f3 f4 f5⟩
 self:=fun _ _ _ _ _ st h=>wpAny_pyIter_tupleiter st h
theorem xg6 {P:Program} {w:World} {K:PySem.W.Frag} {tg:Expr} (it:Addr) (lo:Int) (n:Nat):wr0 P w K tg (Itr lo n) [it] it (fun i h=>IsRangeIter h it (lo+(i:Nat)*1) ((n:Int)-(i:Nat)) 1) where
 mem:=by simp
 obj:=fun i h st b hb=>by
  have e:b=it:=by simpa using hb
  subst e;exact⟨_,st,fun v z=>by
   have z':Data.fields _=Data.cell v:=z;cases z'⟩
 keep:=fun i h h' st k=>k it (by simp) _ st
 item:=by
  intro X hP hw hK hc i pins s σ H E I hf st hg;subst hP hw hK;obtain⟨f0,f1,f2,f3,f4,f5⟩:=hf it (by simp);have W:=Walks.range (prog:=X.prog) (w:=X.w) (I.ok.hd hc) it lo 1 n;refine W.item i s _ _ hg st fun v h' tk hv st' kk=>?_
  obtain⟨t,rfl⟩:=hv;have I1:Inv X pins σ H { s with heap:=h',toks:=tk }:=I.turned (fun b o hb e=>kk b o (by simpa using hb) e) f0 f1 f3 f4 f5;refine⟨_,rfl,wo6 (s:={ s with heap:=h',toks:=tk }) (n:="range_iterator") st' rfl rfl (by decide) ⟨.int (lo+i),H,I1,⟨t,?_⟩,⟨rfl,rfl⟩,st',fun b hb=>(hf b hb).1⟩⟩;rw[Int.mul_one]
 done:=by
  intro X hP hw hK hc i pins s σ H E I hf st hg;subst hP hw hK;obtain⟨f0,f1,f2,f3,f4,f5⟩:=hf it (by simp);exact wpAny_pyNext_range_end (I.ok.hd hc) st (by have:n<=i:=hg;omega) fun h' eb=>⟨rfl,I.turned (t':=s.toks) (fun b o hb e=>eb b o hb e) f0 f1 f3 f4 f5⟩
 self:=fun _ _ _ _ _ st h=>wpAny_pyIter_rangeiter st h
end L2
namespace L2
open PySem PySem.Spec PyProof.Rows
section
variable {X:Cx} {tg:Expr}
noncomputable def vg4 (K:PySem.W.Frag) (tl:TE):TI:=fun σ H R=>tl σ H fun x H1=>∃a,x=.ref a/\(∃xs,SqL K H1 a xs)/\R (Itl K a) H1
noncomputable def vm7 (K:PySem.W.Frag) (tl:TE):TI:=fun σ H R=>tl σ H fun x H1=>∃a,x=.ref a/\(∃xs,SqT K H1 a xs)/\R (Itt K a) H1
theorem wk9 {l:Expr} {tl:TE} (hl:PE X l tl):PI X tg l (vg4 X.K tl):=by
 intro pins s σ H R I h;refine thn (hl pins s σ H _ I h) fun v s1 hI64=>?_
 obtain⟨x,H1,I1,r1,q1⟩:=hI64;obtain⟨a,e,⟨xs,hq⟩,q⟩:=q1;subst e;cases r1;obtain⟨its,rv,p,hz⟩:=I1.list hq;refine wpAny_pyIter_list p.isList ?_;refine⟨s1.heap.objs.size,[s1.heap.objs.size],_,_,H1,rfl,I1.kept (t':=s1.toks) fun b o e=>Aa0 _ e,xl4 a _,⟨_,Ad0 _ rfl,rfl,rfl⟩,fun b hb=>?_,q⟩;have e:b=s1.heap.objs.size:=by simpa using hb
 subst e;exact I1.fpOk (Ac0 _) (I1.hok.fresh (Ac0 _))
theorem wv2 {l:Expr} {tl:TE} (hl:PE X l tl):PI X tg l (vm7 X.K tl):=by
 intro pins s σ H R I h;refine thn (hl pins s σ H _ I h) fun v s1 hI65=>?_
 obtain⟨x,H1,I1,r1,q1⟩:=hI65;obtain⟨a,e,⟨xs,hq⟩,q⟩:=q1;subst e;cases r1;obtain⟨its,rv,p,hz⟩:=I1.tuple hq;refine wpAny_pyIter_tuple (show s1.heap.IsTuple a its.toArray from p) ?_;refine⟨s1.heap.objs.size,[s1.heap.objs.size],_,_,H1,rfl,I1.kept (t':=s1.toks) fun b o e=>Aa0 _ e,xg5 a _,⟨_,Ad0 _ rfl,rfl,rfl⟩,fun b hb=>?_,q⟩;have e:b=s1.heap.objs.size:=by simpa using hb
 subst e;exact I1.fpOk (Ac0 _) (I1.hok.fresh (Ac0 _))
theorem xy2 {pins:List (Addr×Obj)} {σ:St} {H:Hp} {s:Shared} {R:It->Hp->Prop} {E:Value->Shared->Prop} {lo hi:Int} {t u v:Tok} {tk:Nat} (I:Inv X pins σ H s) (h1:-(2 ^ 62)<=lo) (h2:lo<2 ^ 62) (h3:-(2 ^ 62)<=hi) (h4:hi<2 ^ 62)
 (q:R (Itr lo (hi-lo).toNat) H):wpAny (model X.prog X.w) X.A (pyIter (.ref s.heap.objs.size)) (PIE X pins σ tg R) E { s with heap:=s.heap.push { cls:=.type "range",data:=.fields #[.int lo t,.int hi u,.int 1 v] },toks:=tk }:=by
 refine wpAny_pyIter_range (IsRange.new ..) (small_one h1 h2 h3 h4) ?_;have I1:Inv X pins σ H { s with heap:=s.heap.push { cls:=.type "range",data:=.fields #[.int lo t,.int hi u,.int 1 v] },toks:=tk }:=I.kept fun b o e=>Aa0 _ e
 refine⟨(s.heap.push { cls:=.type "range",data:=.fields #[.int lo t,.int hi u,.int 1 v] }).objs.size,[(s.heap.push { cls:=.type "range",data:=.fields #[.int lo t,.int hi u,.int 1 v] }).objs.size],_,_,H,rfl,I1.kept (t':=tk) fun b o e=>Aa0 _ e,xg6 _ lo (hi-lo).toNat,?_,fun b hb=>?_,q⟩
 ·have e1:lo+((0:Nat):Int)*1=lo:=by simp
  have e2:(((hi-lo).toNat:Nat):Int)-((0:Nat):Int)=Builtin.Range.rangeSize lo hi 1:=by rw[rangeSize_one];split<;>omega
  show IsRangeIter _ _ (lo+((0:Nat):Int)*1) ((((hi-lo).toNat:Nat):Int)-((0:Nat):Int)) 1;rw[e1,e2];exact Ad0 _ rfl
 ·have e:b=(s.heap.push { cls:=.type "range",data:=.fields #[.int lo t,.int hi u,.int 1 v] }).objs.size:=by simpa using hb
  subst e;exact I1.fpOk (Ac0 _) (I1.hok.fresh (Ac0 _))
noncomputable def vg3 (ta:TA):TI:=fun σ H R=>ta σ H fun vs H1=>∃j:Int,vs=[.int j]/\-(2 ^ 62)<=j/\j<2 ^ 62/\R (Itr 0 j.toNat) H1
theorem xn7 {a:Expr} {ta:TA} {p pos:Pos} (hg:Gl X "range") (hm:X.mg "range" = none) (ha:PA X [a] ta) (hs:starEach [a] X.env=[(false,eval a X.env)]:=by rfl):PI X tg (.Call (.Name "range" p) [a] [] pos) (vg3 ta):=by
 intro pins s σ H R I h;refine Call_ (yf5 I hg hm boot_range (PyProof.Rows.callWith_type1 (thn (ha pos pins s σ H _ I h) fun us s1 hI66=>?_) hs rfl));obtain⟨vs,H1,I1,r1,q1⟩:=hI66;obtain⟨j,e,q1,q2,q⟩:=q1;subst e;cases r1 with
 | cons r rr=>
   cases rr;obtain⟨t,rfl⟩:=r;exact call_range_1 (xy2 I1 (by omega) (by omega) q1 q2 (by simpa using q))
noncomputable def vl7 (wi:TI) (g:TG) (tb:TS):TS:=fun D σ H=>wi σ H fun J H1=>∃W:Nat->Nat->St->Hp->Prop,(∃m,W 0 m σ H1)/\∀i m σ H,W i m σ H->
 (J.stop i H/\D.nx σ H)\/(J.go i H/\∃N:St->Hp->Prop,(∀σ' H',N σ' H'->∃m',m' < m/\W (i+1) m' σ' H')/\∀x H',J.yld i H x H'->g x σ H' fun σ2 H2=>tb { D with nx:=N,ct:=N,bk:=D.nx } σ2 H2)
noncomputable def yq5 (fp:List Addr) (h:Heap):List (Addr×Obj):=fp.filterMap fun b=>(h.get? b).map fun o=>(b,o)
theorem zt7 {fp:List Addr} {h:Heap} {b:Addr} {o:Obj} (hb:b∈fp) (e:h.get? b=some o):(b,o)∈yq5 fp h:=List.mem_filterMap.mpr ⟨b,hb,by rw[e];rfl⟩
theorem xo6 {fp:List Addr} {h:Heap} {p:Addr×Obj} (hp:p∈yq5 fp h):p.1∈fp/\h.get? p.1=some p.2:=by
 obtain⟨b,hb,e⟩:=List.mem_filterMap.mp hp;cases q:h.get? b with
 | none=>rw[q] at e;cases e
 | some o=>
   rw[q] at e;have e':(b,o)=p:=Option.some.inj e;subst e';exact⟨hb,q⟩
theorem Inv.pinned {pins:List (Addr×Obj)} {σ:St} {H:Hp} {s:Shared} {fp:List Addr} (I:Inv X pins σ H s) (hf:∀b∈fp,yv4 X pins H b) (ho:∀b∈fp,∃o,s.heap.get? b=some o/\∀v,o.data≠.cell v):Inv X (pins++yq5 fp s.heap) σ H s:=
 I.pins_of fun p hp=>(As0.mp hp).elim (fun z=>I.pin p (Ax0 _ z)) fun z=>by
  obtain⟨hb,e⟩:=xo6 z;obtain⟨f0,f1,f2,_⟩:=hf p.1 hb;obtain⟨o,e',d⟩:=ho p.1 hb;rw[e] at e';cases e';exact⟨e,f0,f1,f2,d⟩
theorem Inv.unpinned {pins pl:List (Addr×Obj)} {σ:St} {H:Hp} {s:Shared} (I:Inv X (pins++pl) σ H s):Inv X pins σ H s:=I.pins_of fun p hp=>I.pin p (Ax0 _ (Bk0 _ hp))
set_option tactic.hygienic true in
theorem wv0 {iter:Expr} {body:List Stmt} {wi:TI} {g:TG} {tb:TS} {pos:Pos} (hp:PassesOwn (model X.prog X.w) X.A X.env X.xe) (hc:X.calm=true) (hi:PI X tg iter wi) (hg:PG X tg g) (hb:PSs X body tb)
 (hs:∀x,foldedSetIterable iter X.env x=pure x:=by intro _;rfl):PS X (.For tg iter body [] pos) (vl7 wi g tb):=by
 intro pins s σ H D I h;refine wpAny_For (thn (hi pins s σ H _ I h) fun v s1 h1=>thn h1 fun itv s2 h2=>?_) hs;obtain⟨it,fp,tn,J,H2,e,I2,T,st2,f2,W,⟨m0,w0⟩,turn⟩:=h2;subst e
 -- what stays true of the iterator's objects through the loop
 have stat:∀{H':Hp},(∀b∈fp,H' b=none)->∀b∈fp,yv4 X pins H' b:=fun hn b hb=>⟨hn b hb,(f2 b hb).2⟩
 refine codeAny_forLoop_any (fun n s'=>∃i σ' H',Inv X pins σ' H' s'/\tn i s'.heap/\(∀b∈fp,H' b=none)/\W i n σ' H') ?_ m0 ⟨0,σ,H2,I2,st2,fun b hb=>(f2 b hb).1,w0⟩;rintro n s3 ⟨i,σ3,H3,I3,st3,fr3,w3⟩;rcases turn i n σ3 H3 w3 with⟨stop,qn⟩ | ⟨go,N,hN,step⟩
 ·refine wpAny_passesOwn hp (thn (T.done X rfl rfl rfl hc i pins s3 σ3 H3 X.xe I3 (stat fr3) st3 stop) fun r s4 hI67=>?_)
  obtain⟨hr,I4⟩:=hI67;subst hr;exact wpAny_execs_nil ⟨σ3,H3,I4,qn⟩
 ·refine wpAny_passesOwn hp (thn (T.item X rfl rfl rfl hc i pins s3 σ3 H3 X.xe I3 (stat fr3) st3 go) fun r s4 hI68=>?_)
  obtain⟨u,hr,h4⟩:=hI68;subst hr;refine wpAny_passesOwn hp (thn h4 fun _ s5 hI69=>?_);obtain⟨x,H5,I5,r5,y5,st5,fr5⟩:=hI69;have I5':=I5.pinned (stat fr5) (T.obj _ _ st5);refine wpAny_passesOwn hp (thn (hg _ s5 σ3 H5 x u _ I5' r5 (step x H5 y5)) fun _ s6 hI70=>?_);obtain⟨σ6,H6,I6,q6⟩:=hI70;refine wpAny_passesOwn hp (thn (hb _ s6 σ6 H6 _ I6 q6) fun f s7 q7=>?_);have again:∀{σ7:St} {H7:Hp},Inv X (pins++yq5 fp s5.heap) σ7 H7 s7->N σ7 H7->∃m,m<n/\∃i σ' H',Inv X pins σ' H' s7/\tn i s7.heap/\(∀b∈fp,H' b=none)/\W i m σ' H':=fun {σ7 H7} I7 n7=>by
   obtain⟨m',hm,w7⟩:=hN σ7 H7 n7;refine⟨m',hm,i+1,σ7,H7,I7.unpinned,T.keep _ _ _ st5 fun b hb o e=>(I7.pin (b,o) (Ax0 _ (Ax0 _ (zt7 hb e)))).1,fun b hb=>?_,w7⟩;obtain⟨o,e,d⟩:=T.obj _ _ st5 b hb;exact(I7.pin (b,o) (Ax0 _ (Ax0 _ (zt7 hb e)))).2.1
  cases f with
  | next=>obtain⟨σ7,H7,I7,n7⟩:=q7;exact again I7 n7
  | cont=>obtain⟨σ7,H7,I7,n7⟩:=q7;exact again I7 n7
  | brk=>obtain⟨σ7,H7,I7,q7⟩:=q7;exact⟨σ7,H7,I7.unpinned,q7⟩
  | ret v=>obtain⟨x7,σ7,H7,I7,r7,q7⟩:=q7;exact⟨x7,σ7,H7,I7.unpinned,r7,q7⟩
end
end L2
namespace L2
open PySem PySem.Spec PyProof.Rows
noncomputable abbrev R2:=V->V->Hp->VK->Prop
noncomputable def OpR (X:Cx) (f:Value->Value->Sem Value) (r:R2):Prop:=
 ∀(pins:List (Addr×Obj)) (s:Shared) (σ:St) (H:Hp) (x y:V) (v u:Value) (Q:VK),Inv X pins σ H s->zf0 x v->zf0 y u->r x y H Q->
  wpAny (model X.prog X.w) X.A (f v u) (EP X pins σ Q) X.xe s
noncomputable def UnR (X:Cx) (f:Value->Sem Value) (r:V->Hp->VK->Prop):Prop:=
 ∀(pins:List (Addr×Obj)) (s:Shared) (σ:St) (H:Hp) (x:V) (v:Value) (Q:VK),Inv X pins σ H s->zf0 x v->r x H Q->
  wpAny (model X.prog X.w) X.A (f v) (EP X pins σ Q) X.xe s
noncomputable def zw9 (X:Cx) (f:Value) (r:List V->Hp->VK->Prop):Prop:=
 ∀(pins:List (Addr×Obj)) (s:Shared) (σ:St) (H:Hp) (xs:List V) (us:List Value) (Q:VK),Inv X pins σ H s->zf8 xs us->r xs H Q->
  wpAny (model X.prog X.w) X.A (call f us) (EP X pins σ Q) X.xe s
noncomputable def tOp (r:R2) (ta tb:TE):TE:=fun σ H Q=>ta σ H fun x H1=>tb σ H1 fun y H2=>r x y H2 Q
noncomputable def tUn (r:V->Hp->VK->Prop) (ta:TE):TE:=fun σ H Q=>ta σ H fun x H1=>r x H1 Q
noncomputable def rI (C:Int->Int->Prop) (g:Int->Int->V):R2:=fun x y H Q=>∃i j,x=.int i/\y=.int j/\C i j/\Q (g i j) H
noncomputable def rI0 (g:Int->Int->V):R2:=fun x y H Q=>∃i j,x=.int i/\y=.int j/\Q (g i j) H
noncomputable def rU (g:Int->V):V->Hp->VK->Prop:=fun x H Q=>∃i,x=.int i/\Q (g i) H
section
variable {X:Cx} {a b c:Expr} {ta tb tc:TE} {pos:Pos}
theorem vh6 (ha:PE X a ta) (hb:PE X b tb) {pins:List (Addr×Obj)} {s:Shared} {σ:St} {H:Hp} {R:V->V->Hp->Prop} (I:Inv X pins σ H s)
 (h:ta σ H fun x H1=>tb σ H1 fun y H2=>R x y H2) {Q:Value->Shared->Prop} {f:Value->Value->Sem Value}
 (hf:∀v u s2 x y H2,Inv X pins σ H2 s2->zf0 x v->zf0 y u->R x y H2->wpAny (model X.prog X.w) X.A (f v u) Q X.xe s2) :
 wpAny (model X.prog X.w) X.A (eval a X.env) (fun v s₁=>wpAny (model X.prog X.w) X.A (eval b X.env) (fun u s₂=>wpAny (model X.prog X.w) X.A (f v u) Q X.xe s₂) X.xe s₁) X.xe s:=by
 refine thn (ha pins s σ H _ I h) fun v s1 hI71=>?_
 obtain⟨x,H1,I1,r1,q1⟩:=hI71;refine thn (hb pins s1 σ H1 _ I1 q1) fun u s2 hI72=>?_
 obtain⟨y,H2,I2,r2,q2⟩:=hI72;exact hf v u s2 x y H2 I2 r1 r2 q2
theorem zq7 {op:Operator} {r:R2} (ho:OpR X (binaryOp op) r) (ha:PE X a ta) (hb:PE X b tb):PE X (.BinOp a op b pos) (tOp r ta tb):=by
 intro pins s σ H Q I h;exact wpAny_BinOp (vh6 ha hb I h fun v u s2 x y H2 I2 rx ry q=>ho pins s2 σ H2 x y v u Q I2 rx ry q)
theorem vf3 {op:UnaryOp} {r:V->Hp->VK->Prop} (ho:UnR X (unaryOp op) r) (ha:PE X a ta):PE X (.UnaryOp op a pos) (tUn r ta):=by
 intro pins s σ H Q I h;exact UnaryOp_ (thn (ha pins s σ H _ I h) fun v s1 ⟨x,H1,I1,r1,q1⟩=>ho pins s1 σ H1 x v Q I1 r1 q1)
theorem opI {f:Value->Value->Sem Value} {C:Int->Int->Prop} {g:Int->Int->Int}
 (rule:∀(i j:Int) (t u:Tok) (s:Shared) (Q:Value->Shared->Prop) (E:Value->Shared->Prop),C i j->Q (.int (g i j) s.toks) { s with toks:=s.toks+1 }->wpAny (model X.prog X.w) X.A (f (.int i t) (.int j u)) Q E s) :
 OpR X f (rI C fun i j=>.int (g i j)):=by
 intro pins s σ H x y v u Q I rx ry h;obtain⟨i,j,rfl,rfl,hc,q⟩:=h;obtain⟨t,rfl⟩:=rx;obtain⟨t',rfl⟩:=ry;exact rule i j t t' s _ _ hc ⟨.int (g i j),H,I.tok _,⟨_,rfl⟩,q⟩
theorem vj0 {f:Value->Value->Sem Value} {g:Int->Int->Int}
 (rule:∀(i j:Int) (t u:Tok) (s:Shared) (Q:Value->Shared->Prop) (E:Value->Shared->Prop),Q (.int (g i j) s.toks) { s with toks:=s.toks+1 }->wpAny (model X.prog X.w) X.A (f (.int i t) (.int j u)) Q E s) :
 OpR X f (rI0 fun i j=>.int (g i j)):=by
 intro pins s σ H x y v u Q I rx ry h;obtain⟨i,j,rfl,rfl,q⟩:=h;obtain⟨t,rfl⟩:=rx;obtain⟨t',rfl⟩:=ry;exact rule i j t t' s _ _ ⟨.int (g i j),H,I.tok _,⟨_,rfl⟩,q⟩
theorem vf7 {f:Value->Value->Sem Value} {g:Int->Int->Bool}
 (rule:∀(i j:Int) (t u:Tok) (s:Shared) (Q:Value->Shared->Prop) (E:Value->Shared->Prop),Q (.bool (g i j)) s->wpAny (model X.prog X.w) X.A (f (.int i t) (.int j u)) Q E s) :
 OpR X f (rI0 fun i j=>.bl (g i j)):=by
 intro pins s σ H x y v u Q I rx ry h;obtain⟨i,j,rfl,rfl,q⟩:=h;obtain⟨t,rfl⟩:=rx;obtain⟨t',rfl⟩:=ry;exact rule i j t t' s _ _ ⟨.bl (g i j),H,I,rfl,q⟩
noncomputable def vd1 (i j:Int):Prop:=0<j/\j<1073741824
noncomputable def vb5 (i j:Int):Prop:=j≠0/\j.natAbs<1073741824
noncomputable def vd0 (i j:Int):Prop:=0<=j/\j<=1000000/\i.natAbs<2 ^ 64
noncomputable def xj8 (i j:Int):Prop:=(-(2 ^ 64)<i/\i<2 ^ 64)\/(-(2 ^ 64)<j/\j<2 ^ 64)
theorem xj8.ok {i j:Int} (h:xj8 i j):IntMulOk i j:=by
 rcases h with⟨h1,h2⟩ | ⟨h1,h2⟩
 ·exact .of_left (intBits_le_64 h1 h2)
 ·exact .of_right (intBits_le_64 h1 h2)
theorem yr1:OpR X (binaryOp .Add) (rI0 fun i j=>.int (i+j)):=vj0 fun _ _ _ _ _ _ _ q=>add_int q
theorem ya3:OpR X (binaryOp .Sub) (rI0 fun i j=>.int (i-j)):=vj0 fun _ _ _ _ _ _ _ q=>sub_int q
theorem ye6:OpR X (binaryOp .Mult) (rI xj8 fun i j=>.int (i*j)):=opI fun _ _ _ _ _ _ _ hc q=>mul_int q hc.ok
theorem wl6:OpR X (binaryOp .FloorDiv) (rI vd1 fun i j=>.int (i / j)):=opI fun i j _ _ _ _ _ hc q=>by
 have h1:(0:Int)<j:=hc.1;have h2:j<1073741824:=hc.2;exact floordiv_int (by omega) (by rw[Int.fdiv_eq_ediv_of_nonneg i (by omega)];exact q) (.inl (PyProof.noPylong_small (by omega)))
theorem zx9:OpR X (binaryOp .Mod) (rI (fun _ j=>0<j) fun i j=>.int (i % j)):=opI fun i j _ _ _ _ _ hc q=>by
 have h1:(0:Int)<j:=hc;exact mod_int' (by omega) (by rw[Int.fmod_eq_emod_of_nonneg i (by omega)];exact q)
theorem we4:OpR X (binaryOp .Pow) (rI vd0 fun i j=>.int (i ^ j.toNat)):=opI fun _ _ _ _ _ _ _ hc q=>pow_int_small hc.1 hc.2.1 hc.2.2 q
theorem unI {f:Value->Sem Value} {g:Int->Int}
 (rule:∀(i:Int) (t:Tok) (s:Shared) (Q:Value->Shared->Prop) (E:Value->Shared->Prop),Q (.int (g i) s.toks) { s with toks:=s.toks+1 }->wpAny (model X.prog X.w) X.A (f (.int i t)) Q E s) :
 UnR X f (rU fun i=>.int (g i)):=by
 intro pins s σ H x v Q I rx h;obtain⟨i,rfl,q⟩:=h;obtain⟨t,rfl⟩:=rx;exact rule i t s _ _ ⟨.int (g i),H,I.tok _,⟨_,rfl⟩,q⟩
theorem wt2:UnR X (unaryOp .USub) (rU fun i=>.int (-i)):=unI fun _ _ _ _ _ q=>neg_int q
end
section
variable {X:Cx} {a b c:Expr} {ta tb tc:TE} {pos:Pos}
theorem wf8 {pins:List (Addr×Obj)} {σ:St} {H:Hp} {s:Shared} {Q:VK} {k k':Bool} (I:Inv X pins σ H s) (q:Q (.bl k) H) (e:k=k'):EP X pins σ Q (.bool k') s:=by
 subst e;exact⟨.bl k,H,I,rfl,q⟩
theorem yr0:OpR X (compareOp .Lt) (rI0 fun i j=>.bl (decide (i<j))):=vf7 fun _ _ _ _ _ _ _ q=>lt_int q
theorem yx1:OpR X (compareOp .LtE) (rI0 fun i j=>.bl (decide (i<=j))):=vf7 fun _ _ _ _ _ _ _ q=>le_int q
theorem vf6:OpR X (compareOp .GtE) (rI0 fun i j=>.bl (decide (j<=i))):=vf7 fun _ _ _ _ _ _ _ q=>ge_int q
theorem we5:OpR X (compareOp .Is) (fun x y H Q=>y=.non/\Q (.bl (decide (x=.non))) H):=by
 intro pins s σ H x y v u Q I rx ry h;obtain⟨rfl,q⟩:=h;cases ry;refine is_none_gen (wf8 I q ?_);cases x<;>first
  | (cases rx;rfl)
  | (obtain⟨t,rfl⟩:=rx;rfl)
theorem wl5:OpR X (compareOp .IsNot) (fun x y H Q=>y=.non/\Q (.bl (!decide (x=.non))) H):=by
 intro pins s σ H x y v u Q I rx ry h;obtain⟨rfl,q⟩:=h;cases ry;refine isnot_none_gen (wf8 I q ?_);cases x<;>first
  | (cases rx;rfl)
  | (obtain⟨t,rfl⟩:=rx;rfl)
theorem OpR.or {f:Value->Value->Sem Value} {r r':R2} (h:OpR X f r) (h':OpR X f r'):OpR X f (fun x y H Q=>r x y H Q\/r' x y H Q):=by
 intro pins s σ H x y v u Q I rx ry q;rcases q with q | q
 ·exact h pins s σ H x y v u Q I rx ry q
 ·exact h' pins s σ H x y v u Q I rx ry q
theorem we8 (b:Expr) {op:CmpOp} (h:op≠.In:=by decide) (h2:op≠.NotIn:=by decide):behindInMarks op b=false:=by
 have e1:(op == CmpOp.In)=false:=by cases op<;>first | rfl | exact absurd rfl h
 have e2:(op == CmpOp.NotIn)=false:=by cases op<;>first | rfl | exact absurd rfl h2
 cases b<;>simp[behindInMarks,e1,e2]
theorem wl2 {op:CmpOp} {r:R2} (ho:OpR X (compareOp op) r) (ha:PE X a ta) (hb:PE X b tb) (hm:behindInMarks op b=false):PE X (.Compare a [op] [b] pos) (tOp r ta tb):=by
 intro pins s σ H Q I h;exact wpAny_Compare1 (vh6 ha hb I h fun v u s2 x y H2 I2 rx ry q=>ho pins s2 σ H2 x y v u Q I2 rx ry q) hm
noncomputable def wt5 (t:TE):TT:=fun σ H Q=>t σ H fun x H'=>∃k,x=.bl k/\Q k H'
theorem yw5 {op:CmpOp} {r:R2} (ho:OpR X (compareOp op) r) (ha:PE X a ta) (hb:PE X b tb) (hm:behindInMarks op b=false):PT X (.Compare a [op] [b] pos) (wt5 (tOp r ta tb)):=by
 intro pins s σ H Q I h;refine wpAny_isTrue_Compare1 (thn (ha pins s σ H _ I h) fun v s1 ⟨x,H1,I1,r1,q1⟩=>thn (hb pins s1 σ H1 _ I1 q1) fun u s2 ⟨y,H2,I2,r2,q2⟩=>thn (ho pins s2 σ H2 x y v u _ I2 r1 r2 q2) fun c s3 hI73=>?_) hm;obtain⟨z,H3,I3,r3,k,e,q3⟩:=hI73;subst e;cases r3;exact wpAny_truthy_bool ⟨H3,I3,q3⟩
noncomputable def xl8 (r r':R2) (ta tb tc:TE):TE:=fun σ H Q=>ta σ H fun x H1=>tb σ H1 fun y H2=>r x y H2 fun z H3=>∃k,z=.bl k/\
 (if k=true then tc σ H3 fun w' H4=>r' y w' H4 Q else Q (.bl false) H3)
theorem xz1 {op op':CmpOp} {r r':R2} (ho:OpR X (compareOp op) r) (ho':OpR X (compareOp op') r') (ha:PE X a ta) (hb:PE X b tb) (hc:PE X c tc)
 (hm:lastMarks [op,op'] [b,c]=false:=by with_unfolding_all rfl):PE X (.Compare a [op,op'] [b,c] pos) (xl8 r r' ta tb tc):=by
 intro pins s σ H Q I h;refine Compare_chain (thn (ha pins s σ H _ I h) fun v s1 ⟨x,H1,I1,r1,q1⟩=>chain_link (thn (hb pins s1 σ H1 _ I1 q1) fun u s2 ⟨y,H2,I2,r2,q2⟩=>thn (ho pins s2 σ H2 x y v u _ I2 r1 r2 q2) fun d s3 hI74=>?_)) hm;obtain⟨z,H3,I3,r3,k,e,q3⟩:=hI74;subst e;cases r3;refine wpAny_truthy_bool ?_;cases k with
 | false=>exact ite_ff ⟨.bl false,H3,I3,rfl,q3⟩
 | true=>exact ite_tt (chain_last (thn (hc pins s3 σ H3 _ I3 q3) fun w' s4 ⟨z',H4,I4,r4,q4⟩=>ho' pins s4 σ H4 y z' u w' Q I4 r2 r4 q4))
theorem xy4 {op op':CmpOp} {r r':R2} (ho:OpR X (compareOp op) r) (ho':OpR X (compareOp op') r') (ha:PE X a ta) (hb:PE X b tb) (hc:PE X c tc)
 (hm:lastMarks [op,op'] [b,c]=false:=by with_unfolding_all rfl):PT X (.Compare a [op,op'] [b,c] pos) (wt5 (xl8 r r' ta tb tc)):=by
 intro pins s σ H Q I h;refine isTrue_chain (thn (ha pins s σ H _ I h) fun v s1 ⟨x,H1,I1,r1,q1⟩=>test_link (thn (hb pins s1 σ H1 _ I1 q1) fun u s2 ⟨y,H2,I2,r2,q2⟩=>thn (ho pins s2 σ H2 x y v u _ I2 r1 r2 q2) fun d s3 hI75=>?_)) hm;obtain⟨z,H3,I3,r3,k,e,q3⟩:=hI75;subst e;cases r3;refine wpAny_truthy_bool ?_;cases k with
 | false=>
   obtain⟨k',e',q'⟩:=q3;cases e';exact ite_ff ⟨H3,I3,q'⟩
 | true=>
   refine ite_tt (test_last (thn (hc pins s3 σ H3 _ I3 q3) fun w' s4 ⟨z',H4,I4,r4,q4⟩=>thn (ho' pins s4 σ H4 y z' u w' _ I4 r2 r4 q4) fun d' s5 hI76=>?_));obtain⟨z2,H5,I5,r5,k2,e2,q5⟩:=hI76;subst e2;cases r5;exact wpAny_truthy_bool ⟨H5,I5,q5⟩
theorem ys2:(sizeLine:Nat)<2 ^ 63:=by rw[sizeLine_eq];decide
theorem yh8 {x:V} {us:List Value} (r:zf8 [x] us):∃u,us=[u]/\zf0 x u:=by
 cases r with
 | cons r1 r2=>cases r2;exact⟨_,rfl,r1⟩
theorem wi2 {x y:V} {us:List Value} (r:zf8 [x,y] us):∃u w',us=[u,w']/\zf0 x u/\zf0 y w':=by
 cases r with
 | cons r1 r2=>
   cases r2 with
   | cons r3 r4=>cases r4;exact⟨_,_,rfl,r1,r3⟩
theorem zp8 (hc:X.calm=true):zw9 X (.builtin "min") (fun xs H Q=>∃i j,xs=[.int i,.int j]/\Q (.int (if j<i then j else i)) H):=by
 intro pins s σ H xs us Q I r h;obtain⟨i,j,rfl,q⟩:=h;obtain⟨u,w',rfl,⟨t,rfl⟩,⟨t',rfl⟩⟩:=wi2 r;refine min_two_ints (I.ok.hd hc) fun h' tk k=>⟨_,H,I.kept k,?_,q⟩
 by_cases hj:j<i
 ·rw[if_pos hj,if_pos hj];exact⟨_,rfl⟩
 ·rw[if_neg hj,if_neg hj];exact⟨_,rfl⟩
theorem yu8:zw9 X (.type "int") (fun xs H Q=>(∃i,xs=[.int i]/\Q (.int i) H)\/∃k,xs=[.bl k]/\Q (.int (if k then 1 else 0)) H):=by
 intro pins s σ H xs us Q I r h;rcases h with⟨i,rfl,q⟩ | ⟨k,rfl,q⟩
 ·obtain⟨u,rfl,t,rfl⟩:=yh8 r
  exact call_int_int ⟨.int i,H,I,⟨_,rfl⟩,q⟩
 ·obtain⟨u,rfl,r1⟩:=yh8 r
  cases r1;exact call_int_bool ⟨.int (if k then 1 else 0),H,I.tok _,⟨_,rfl⟩,q⟩
theorem yz8:zw9 X (.builtin "divmod") (fun xs H Q=>∃i j,xs=[.int i,.int j]/\vd1 i j/\∀p,H p=none->Q (.ref p) (upd H p (.tup [.int (i / j),.int (i % j)]))):=by
 intro pins s σ H xs us Q I r h;obtain⟨i,j,rfl,⟨h1,h2⟩,q⟩:=h;obtain⟨u,w',rfl,⟨t,rfl⟩,⟨t',rfl⟩⟩:=wi2 r;refine divmod_int (by omega) ?_ (.inl (PyProof.noPylong_small (by omega)));rw[Int.fdiv_eq_ediv_of_nonneg i (by omega),Int.fmod_eq_emod_of_nonneg i (by omega)];have hn:H s.heap.objs.size=none:=I.hok.fresh (Ac0 _);refine⟨.ref s.heap.objs.size,_,?_,rfl,q _ hn⟩;refine I.laid (fun b o e=>Aa0 _ e) (Ac0 _) ⟨by simp only[An0,Br0];rw[sizeLine_eq];decide,[.int (i / j) s.toks,.int (i % j) (s.toks+1)],.cons ⟨_,rfl⟩ (.cons ⟨_,rfl⟩ .nil),?_⟩;exact⟨_,Ad0 s.heap rfl,rfl,0,rfl⟩
end
end L2
namespace L2
open PySem PySem.Spec PyProof.Rows
structure vi1 (h:Heap) (x dx C:Addr) (mA:Str->Option Value):Prop where
 obj:h.get? x=some (PySem.W.instObj C dx)
 ns:h.Ns1 dx mA
 ne:dx≠x
set_option tactic.hygienic true in
theorem xq1 {h:Heap} {dx:Addr} {mA:Str->Option Value} (n:h.Ns1 dx mA):∃od,h.get? dx=some od/\∀name,PySem.W.lookIn name od=some (mA name):=by
 obtain⟨o,es,ep,ho,hd,hk,_,hm⟩:=n;refine⟨o,ho,fun name=>?_⟩;have e:=hm name;unfold nsFind findBy at e;rw[<-Array.find?_toList] at e;unfold PySem.W.lookIn;rw[hd];dsimp only;split
 ·rename_i y q
  rw[q] at e;exact congrArg some e
 ·rename_i q
  rw[q] at e;have a:es.toList.any (·.refKey)=false:=by
   rw[List.any_eq_false];intro y hy;obtain⟨z,t,hkey⟩:=hk y (Array.mem_toList_iff.mp hy);simp[DictEntry.refKey,hkey]
  have a':¬es.toList.any (·.refKey)=true:=by rw[a];exact Am0
  rw[if_neg a'];exact congrArg some e
theorem vi1.look {h:Heap} {x dx C:Addr} {mA:Str->Option Value} (I:vi1 h x dx C mA):∃od,PySem.W.InstAt h x (PySem.W.instObj C dx) C (some od)/\∀name,PySem.W.lookIn name od=some (mA name):=
 let ⟨od,ho,hl⟩:=xq1 I.ns
 ⟨od,⟨I.obj,rfl,rfl,ho⟩,hl⟩
section
variable {prog:Program} {w:World} {A:Around} {E:Value->Shared->Prop} {s:Shared} {K:PySem.W.Frag} {x dx C f:Addr} {mA:Str->Option Value} {name:Str} {v:Value}
end
theorem xj4.some_of {v:V} {o:Option Value} (r:xj4 (some v) o):∃u,o=some u/\zf0 v u:=by
 cases o with
 | none=>exact(show False from r).elim
 | some u=>exact⟨u,rfl,r⟩
section
variable {P:Program} {w:World} {H H':Hp} {h h':Heap} {a C dx:Addr} {fs fs':List (Str×V)}
theorem wo2 (hok:HOk P w H h) (e:H a=some (.ins C dx fs)):∃mA,vi1 h a dx C mA/\(∀f,xj4 (fs.lookup f) (mA f))/\PySem.Within mA (fs.map (·.1))/\fs.length<=1000/\H dx=some (.own a):=by
 obtain⟨d,z,ne,ob,mA,n,r,q⟩:=(show zk1 P w H h a (.ins C dx fs) from hok a _ e);exact⟨mA,⟨ob,n,ne⟩,r,q,z,d⟩
end
structure Cls (K:PySem.W.Frag) (C:Addr):Prop where
 pg:PySem.W.plainGet K C Str.empty=true
 hd:PySem.W.hasDictIn K C=true
 po:PySem.W.plainOver K C=true
 sa:PySem.W.findIn K (.ref C) "__setattr__" = some (some (.builtin "object.__setattr__"))
theorem Cls.get {K:PySem.W.Frag} {C:Addr} (c:Cls K C) (f:Str):PySem.W.plainGet K C f=true:=c.pg
section
variable {X:Cx} {pins:List (Addr×Obj)} {σ:St} {H:Hp} {s:Shared} {a C dx:Addr} {fs:List (Str×V)} {f:Str} {v:V} {A:Around} {E:Value->Shared->Prop}
end
section
variable {X:Cx} {o e value:Expr} {f:Str} {pos pos' tpos:Pos} {ta tv:TE}
end
section
variable {X:Cx} {pins:List (Addr×Obj)} {σ:St} {H:Hp} {s:Shared} {A:Around} {E:Value->Shared->Prop} {Q:Value->Shared->Prop} {c:Value} {b:Bool}
inductive xj7 (K:PySem.W.Frag) (H:Hp):V->Value->Prop where
 | non:xj7 K H .non (.type "NoneType")
 | bl (x:Bool):xj7 K H (.bl x) (.type "bool")
 | int (i:Int):xj7 K H (.int i) (.type "int")
 | str (x:Str):xj7 K H (.str x) (.type "str")
 | flt (x:UInt64):xj7 K H (.flt x) (.type "float")
 | lst {a:Addr} {xs:List V} (e:H a=some (.lst xs)):xj7 K H (.ref a) (.type "list")
 | frz {a:Addr} {o:Obj} {xs:List V} (e:H a=some (.frz o (.lst xs))):xj7 K H (.ref a) (.type "list")
 | tup {a:Addr} {xs:List V} (e:H a=some (.tup xs)):xj7 K H (.ref a) (.type "tuple")
 | dK {a:Addr} {kvs:List (Key×V)} (e:H a=some (.dK kvs)):xj7 K H (.ref a) (.type "dict")
 | dT {a:Addr} {kvs:List (List Key×V)} (e:H a=some (.dT kvs)):xj7 K H (.ref a) (.type "dict")
 | ins {a C dx:Addr} {fs:List (Str×V)} (e:H a=some (.ins C dx fs)) (cl:Cls K C) (ha:PySem.W.findIn K (.ref C) "__class__" = some (some (.builtin "object.__class__")))
  (hn:PySem.W.specialIn K (.builtin "object.__class__") "__get__" = some (some (.builtin "getset_descriptor.__get__"))) (htk:PySem.W.takesIn K (.builtin "object.__class__")=some true)
  (hm:PySem.W.mroIn K C (.type "object")=some true):xj7 K H (.ref a) (.ref C)
theorem zl6 {x:V} {u t:Value} (I:Inv X pins σ H s) (rx:zf0 x u) (ty:xj7 X.K H x t) (e:PySem.W.kitOne X.K t c=some b) (h:∀tk,Q (.bool b) { s with toks:=tk }) :
 wpAny (model X.prog X.w) A (call (.builtin "isinstance") [u,c]) Q E s:=by
 cases ty with
 | non=>cases (show u=Value.none from rx);exact PySem.W.kia_one PySem.W.kitx_none I.kIn True.intro e (fun z=>nomatch z) h
 | bl y=>cases (show u=Value.bool y from rx);exact PySem.W.kia_one PySem.W.kitx_bool I.kIn True.intro e (fun z=>nomatch z) h
 | int i=>obtain⟨t,q⟩:=(show ∃t,u=Value.int i t from rx);cases q;exact PySem.W.kia_one PySem.W.kitx_int I.kIn True.intro e (fun z=>nomatch z) h
 | str y=>obtain⟨t,q⟩:=(show ∃t,u=Value.str y t from rx);cases q;exact PySem.W.kia_one PySem.W.kitx_str I.kIn True.intro e (fun z=>nomatch z) h
 | flt y=>obtain⟨t,q⟩:=(show ∃t,u=Value.float y t from rx);cases q;exact PySem.W.kia_one PySem.W.kitx_float I.kIn True.intro e (fun z=>nomatch z) h
 | @lst a xs ea=>
   cases (show u=Value.ref a from rx);obtain⟨_,_,n,_,h1⟩:=(show zk1 X.prog X.w H s.heap a (.lst xs) from I.hok a _ ea);exact PySem.W.kia_one PySem.W.kitx_list I.kIn ⟨_,h1,rfl⟩ e (fun z=>nomatch z) h
 | @frz a ob xs ea=>
   cases (show u=Value.ref a from rx);obtain⟨_,_,_,n,_,h1⟩:=(show zk1 X.prog X.w H s.heap a (.frz ob (.lst xs)) from I.hok a _ ea);exact PySem.W.kia_one PySem.W.kitx_list I.kIn ⟨_,h1,rfl⟩ e (fun z=>nomatch z) h
 | @tup a xs ea=>
   cases (show u=Value.ref a from rx);obtain⟨_,_,_,p⟩:=(show zk1 X.prog X.w H s.heap a (.tup xs) from I.hok a _ ea);obtain⟨o,h1,h2,_⟩:=p;exact PySem.W.kia_one PySem.W.kitx_tuple I.kIn ⟨o,h1,h2⟩ e (fun z=>nomatch z) h
 | @dK a kvs ea=>
   cases (show u=Value.ref a from rx);obtain⟨_,_,vs,_,p⟩:=(show zk1 X.prog X.w H s.heap a (.dK kvs) from I.hok a _ ea);obtain⟨o,es,ep,h1,h2,_⟩:=p;exact PySem.W.kia_one PySem.W.kitx_dict I.kIn ⟨o,h1,h2.1⟩ e (fun z=>nomatch z) h
 | @dT a kvs ea=>
   cases (show u=Value.ref a from rx);obtain⟨_,_,xs,_,o,es,ep,h1,h2,_⟩:=(show zk1 X.prog X.w H s.heap a (.dT kvs) from I.hok a _ ea);exact PySem.W.kia_one PySem.W.kitx_dict I.kIn ⟨o,h1,h2.1⟩ e (fun z=>nomatch z) h
 | @ins a C dx fs ea cl ha hn htk hm=>
   cases (show u=Value.ref a from rx);obtain⟨mA,O,_⟩:=wo2 I.hok ea;obtain⟨od,J,_⟩:=O.look;exact PySem.W.kia_one (PySem.W.kitx_own (cl.get _) cl.hd ha hn htk hm) I.kIn J e (fun z=>nomatch z) h
end
end L2
namespace L2
open PySem PySem.Spec PyProof.Rows
structure zl9 (k:Nat) (A:Around):Prop where
 hd:A.handled=none
 dp:A.depth+3*k+5<recursionLimit
 un:A.units+16*k+200<cLine
 gd:A.guards=some []
theorem zl9.mono {j k:Nat} {A:Around} (r:zl9 k A) (h:j<=k):zl9 j A:=⟨r.hd,by have:=r.dp;omega,by have:=r.un;omega,r.gd⟩
theorem zl9.deeper {k:Nat} {A:Around} (r:zl9 (k+1) A) (env:Env):zl9 k (A.deeper env):=
 ⟨r.hd,by have:=r.dp;show A.depth+1+3*k+5<_;omega,by have:=r.un;show A.units+3+16*k+200<_;omega,r.gd⟩
theorem zl9.depth {k:Nat} {A:Around} (r:zl9 k A):A.depth<recursionLimit:=by have:=r.dp;omega
theorem zl9.units {k:Nat} {A:Around} (r:zl9 k A):A.units+64<cLine:=by have:=r.un;omega
noncomputable def vi4:TA:=fun _ H Q=>Q [] H
noncomputable def xx4 (ta:TE) (tr:TA):TA:=fun σ H Q=>ta σ H fun x H1=>tr σ H1 fun xs H2=>Q (x::xs) H2
section
variable {X:Cx} {e:Expr} {es:List Expr} {te:TE} {t:TA} {pos:Pos}
theorem zs5:PA X [] vi4:=fun _ _ _ _ H Q I h=>Calls.spliced_nil ⟨[],H,I,.nil,h⟩
theorem zk7 (ha:PE X e te) (hr:PA X es t) (hs:starEach (e::es) X.env=(false,eval e X.env)::starEach es X.env:=by rfl):PA X (e::es) (xx4 te t):=by
 intro pos pins s σ H Q I h;rw[hs];show wpAny _ _ (spliced ((false,eval e X.env)::backTo pos (starEach es X.env))) _ _ s;refine Calls.spliced_cons (thn (ha pins s σ H _ I h) fun u s1 hI77=>?_);obtain⟨x,H1,I1,r1,q1⟩:=hI77;exact thn (hr pos pins s1 σ H1 _ I1 q1) fun us s2 ⟨xs,H2,I2,r2,q2⟩=>⟨x::xs,H2,I2,.cons r1 r2,q2⟩
noncomputable def vk9 (t:TA):TE:=fun σ H Q=>t σ H fun xs H1=>xs.length<=sizeLine/\∀p,H1 p=none->Q (.ref p) (upd H1 p (.tup xs))
noncomputable def vl5 (t:TA):TE:=fun σ H Q=>t σ H fun xs H1=>xs.length<=sizeLine/\∀p,H1 p=none->Q (.ref p) (upd H1 p (.lst xs))
theorem we1 {x1} (h:PA X es t):PE X (.Tuple es x1 pos) (vk9 t):=by
 intro pins s σ H Q I hq;refine wpAny_Tuple_spliced (thn (h pos pins s σ H _ I hq) fun us s1 ⟨xs,H1,I1,r,z,q⟩=>⟨by rw[<-r.length];exact z,?_⟩);have hf:H1 s1.heap.objs.size=none:=I1.hok.fresh (Ac0 _);refine⟨.ref s1.heap.objs.size,upd H1 s1.heap.objs.size (.tup xs),I1.laid (t':=s1.toks) (fun b u e=>Aa0 _ e) (Ac0 _) ?_,rfl,q _ hf⟩;exact⟨z,us,r,⟨_,Ad0 _ rfl,rfl,_,rfl⟩⟩
theorem xn8 (h:PA X es t):PE X (.List es pos) (vl5 t):=by
 intro pins s σ H Q I hq;refine wpAny_List_spliced (thn (h pos pins s σ H _ I hq) fun us s1 ⟨xs,H1,I1,r,z,q⟩=>⟨by rw[<-r.length];exact z,?_⟩);have hf:H1 s1.heap.objs.size=none:=I1.hok.fresh (Ac0 _);refine⟨.ref s1.heap.objs.size,upd H1 s1.heap.objs.size (.lst xs),I1.laid (t':=s1.toks) (fun b u e=>Aa0 _ e) (Ac0 _) ?_,rfl,q _ hf⟩;exact⟨z,us,0,r,Ad0 _ rfl⟩
end
noncomputable abbrev Sp:=List V->Hp->VK->XK->Prop
noncomputable abbrev CXT:=List Env->Hp->Shared->XK->Value->Shared->Prop
structure vc8 (P:Program) (w:World) (K:PySem.W.Frag) (mg:Str->Option Value) (base:Heap) (A:Around) (outer:List Env) (s:Shared) (H:Hp):Prop where
 frames:A.frames=some outer
 mod:Mod K mg base
 bs:∀b o,base.get? b=some o->s.heap.get? b=some o/\H b=none
 bsz:base.objs.size<=s.heap.objs.size
 funs:s.heap.FunFrames base outer
 frf:∀b∈frs outer,H b=none
 hok:HOk P w H s.heap
 bare:AllBare s.gens
noncomputable def CE (outer:List Env) (P:Program) (w:World) (H:Hp) (s:Shared) (Q:VK) (u:Value) (s':Shared):Prop:=
 ∃v H',s'.os=s.os/\AllBare s'.gens/\Un (frs outer) [] H H' s.heap s'.heap/\HOk P w H' s'.heap/\zf0 v u/\Q v H'
noncomputable def CR (CX:CXT) (outer:List Env) (P:Program) (w:World) (H:Hp) (s:Shared) (Q:VK) (E:XK) (r:Result) (s':Shared):Prop:=
 match r with
 | .ok (.ret u)=>CE outer P w H s Q u s'
 | .ok _=>False
 | .error e=>CX outer H s E e s'
structure zp9 (P:Program) (w:World) (K:PySem.W.Frag) (mg:Str->Option Value) (base:Heap) (CX:CXT) (k:Nat) (f:Addr) (fd:FuncData) (ps:List Str) (sp:Sp):Prop where
 len:∀vs H Q E,sp vs H Q E->vs.length=ps.length
 run:∀(A:Around) (outer:List Env) (s:Shared) (H:Hp) (args:Args) (us:List Value) (vs:List V) (Q:VK) (E:XK),zl9 k A->vc8 P w K mg base A outer s H->BindsTo s fd args (ps.zip us)->zf8 vs us->sp vs H Q E->
  codeAny (model P w) A (.call (.ref f) args) (CR CX outer P w H s Q E) s
theorem zp9.mono {P:Program} {w:World} {K:PySem.W.Frag} {mg:Str->Option Value} {base:Heap} {CX:CXT} {j k:Nat} {f:Addr} {fd:FuncData} {ps:List Str} {sp:Sp} (F:zp9 P w K mg base CX j f fd ps sp) (h:j<=k) :
 zp9 P w K mg base CX k f fd ps sp:=⟨F.len,fun A outer s H args us vs Q E hr=>F.run A outer s H args us vs Q E (hr.mono h)⟩
section
variable {X:Cx} {pins:List (Addr×Obj)} {σ:St} {H:Hp} {s s':Shared}
theorem Inv.env0 (I:Inv X pins σ H s):vc8 X.prog X.w X.K X.mg X.base X.A X.stack s H:=
 ⟨I.ok.frames,I.ok.mod,I.bs,Be0 I.ok.bsz I.sz,I.stack,I.stkFree,I.hok,I.bare⟩
theorem Inv.after {Q:VK} {u:Value} (I:Inv X pins σ H s) (h:CE X.stack X.prog X.w H s Q u s'):EP X pins σ Q u s':=by
 obtain⟨v,H',os,bare,un,hok,r,q⟩:=h;obtain⟨hh,g,d,t,os'⟩:=s';obtain rfl:os'=s.os:=os;exact⟨v,H',I.call (h':=hh) (g':=g) (d':=d) (t':=t) (ch:=[]) un hok bare (fun b z=>absurd z (by simp)),r,q⟩
end
noncomputable def wj2 (sp:Sp) (dvs:List V) (E:XK) (t:TA):TE:=fun σ H Q=>t σ H fun vs H1=>sp (vs++dvs) H1 Q E
noncomputable def xj5 (K:PySem.W.Frag) (fd:FuncData) (ps:List Str) (ds:List Value):Prop:=
 ∀(s:Shared) (us:List Value),K.In s.heap->(us++ds).length=ps.length->BindsTo s fd ⟨us,[]⟩ (ps.zip (us++ds))
theorem xj5.all {K:PySem.W.Frag} {fd:FuncData} {ps:List Str} (h:∀us:List Value,us.length=ps.length->bindArgs fd ⟨us,[]⟩=pure (ps.zip us)):xj5 K fd ps []:=fun s us _ hl=>by
 rw[Bj0] at hl ⊢;exact .of_eq (h us hl)
noncomputable def xv6 (CX:CXT) (X:Cx) (E:XK):Prop:=∀(pins:List (Addr×Obj)) (σ:St) (H:Hp) (s:Shared) (e:Value) (s':Shared),Inv X pins σ H s->CX X.stack H s E e s'->X.xe e s'
section
variable {X:Cx} {CX:CXT} {k:Nat} {f C:Addr} {fd:FuncData} {ps:List Str} {sp:Sp} {dvs:List V} {ds:List Value} {E:XK} {x m:Str} {p pos apos:Pos} {e o:Expr} {es:List Expr} {ta:TE} {t:TA}
set_option tactic.hygienic true in
theorem wu5 {pins:List (Addr×Obj)} {σ:St} {H:Hp} {s:Shared} {Q:VK} {us:List Value} {vs:List V} (F:zp9 X.prog X.w X.K X.mg X.base CX k f fd ps sp) (hr:zl9 k X.A) (hb:xj5 X.K fd ps ds) (hd:zf8 dvs ds) (hx:xv6 CX X E)
 (I:Inv X pins σ H s) (r:zf8 vs us) (h:sp (vs++dvs) H Q E):wpAny (model X.prog X.w) X.A (call (.ref f) us) (EP X pins σ Q) X.xe s:=by
 have r2:zf8 (vs++dvs) (us++ds):=r.append hd;have hl:(us++ds).length=ps.length:=by rw[<-r2.length];exact F.len _ _ _ _ h
 refine wpAny_call (codeAny_mono (F.run X.A X.stack s H ⟨us,[]⟩ (us++ds) (vs++dvs) Q E hr I.env0 (hb s us I.kIn hl) r2 h) fun r s' hq=>?_);cases r with
 | error e=>exact hx pins σ H s e s' I hq
 | ok fl=>
   cases fl with
   | ret u=>exact I.after hq
   | next=>exact False.elim hq
   | brk=>exact False.elim hq
   | cont=>exact False.elim hq
theorem yw8 (F:zp9 X.prog X.w X.K X.mg X.base CX k f fd ps sp) (hr:zl9 k X.A) (hg:Gl X x) (hm:X.mg x=some (.ref f)) (hk:PySem.W.keepIn X.K (.ref f)=true) (hb:xj5 X.K fd ps ds) (hd:zf8 dvs ds) (hx:xv6 CX X E)
 (ha:PA X (e::es) t) (hdb:(x == ("__debug__" : Str))=false:=by decide) (he:starEach (e::es) X.env=(false,eval e X.env)::starEach es X.env:=by rfl) (hpl:(backTo pos (starEach es X.env)).any (·.1)=false:=by rfl) :
 PE X (.Call (.Name x p) (e::es) [] pos) (wj2 sp dvs E t):=by
 intro pins s σ H Q I h;refine wpAny_Call_Name_kw (xq2 I hg hm ?_ hdb);refine PySem.W.callWith_K (h₀:=X.base) I.ok.mod.kin hk (thn (ha pos pins s σ H _ I h) fun us s1 ⟨vs,H1,I1,r,q⟩=>⟨I1.kIn,?_⟩) he hpl;exact wu5 F hr hb hd hx I1 r q
end
section
variable {X:Cx} {CX:CXT} {k:Nat} {f C:Addr} {fd:FuncData} {ps ks:List Str} {sp:Sp} {E:XK} {x m:Str} {p pos apos kpos:Pos} {e o:Expr} {es:List Expr} {kws:List Keyword} {te ta:TE} {t tk:TA} {nm:Option Str}
variable {g:List Value->List Value->List Value} {gV:List V->List V->List V}
end
structure zd1 (N P:List Str) (sc:Scope):Prop where
 kind:sc.kind=.function
 co:sc.isCoroutine=false
 gen:sc.isGenerator=false
 nd:N.Nodup
 pre:N.take P.length=P
 par:∀x∈P,sc.names.lookup x=some .local\/sc.names.lookup x=some .cell
 nofree:∀y∈sc.names,y.2≠.free
theorem yu9 {kindOf:Str->Option NameKind} {x:Str}:∀{binds:List (Str×Value)} {m:Str->Option Value},(∀v,(x,v)∉binds)->bindL kindOf binds m x=m x
 | [],_,_=>rfl
 | (n,v)::r,m,h=>by
   unfold bindL;rw[yu9 fun w hw=>h w (Bp0 _ hw)];split
   ·have:x≠n:=by rintro rfl;exact h v Cc0
    simp[this]
   ·rfl
theorem yv1 {kindOf:Str->Option NameKind} {x:Str}:∀{binds:List (Str×Value)} {m:Str->Option Value},(∀v,(x,v)∉binds)->bindC kindOf binds m x=m x
 | [],_,_=>rfl
 | (n,v)::r,m,h=>by
   unfold bindC;rw[yv1 fun w hw=>h w (Bp0 _ hw)];split
   ·rfl
   ·have:x≠n:=by rintro rfl;exact h v Cc0
    simp[this]
theorem yv0 {kindOf:Str->Option NameKind} {x:Str} {v:Value}:∀{P:List Str} {vs:List Value} {i:Nat} {m:Str->Option Value},P.Nodup->P[i]?=some x->vs[i]?=some v->kindOf x=some .local->
 bindL kindOf (P.zip vs) m x=some v
 | [],_,_,_,_,h,_,_=>by simp at h
 | _::_,[],_,_,_,_,h,_=>by simp at h
 | p::P,w::vs,0,m,nd,h1,h2,hk=>by
   simp at h1 h2;subst h1;subst h2;show bindL kindOf ((p,w)::P.zip vs) m p=_;unfold bindL;rw[yu9 fun v hv=>(Bx0.mp nd).1 (List.of_mem_zip hv).1,if_pos hk];simp
 | p::P,w::vs,i+1,m,nd,h1,h2,hk=>by
   show bindL kindOf ((p,w)::P.zip vs) m x=_;unfold bindL;exact yv0 (i:=i) (Bx0.mp nd).2 (by simpa using h1) (by simpa using h2) hk
theorem yv2 {kindOf:Str->Option NameKind} {x:Str} {v:Value}:∀{P:List Str} {vs:List Value} {i:Nat} {m:Str->Option Value},P.Nodup->P[i]?=some x->vs[i]?=some v->kindOf x≠some .local->
 bindC kindOf (P.zip vs) m x=some v
 | [],_,_,_,_,h,_,_=>by simp at h
 | _::_,[],_,_,_,_,h,_=>by simp at h
 | p::P,w::vs,0,m,nd,h1,h2,hk=>by
   simp at h1 h2;subst h1;subst h2;show bindC kindOf ((p,w)::P.zip vs) m p=_;unfold bindC;rw[yv1 fun v hv=>(Bx0.mp nd).1 (List.of_mem_zip hv).1,if_neg hk];simp
 | p::P,w::vs,i+1,m,nd,h1,h2,hk=>by
   show bindC kindOf ((p,w)::P.zip vs) m x=_;unfold bindC;exact yv2 (i:=i) (Bx0.mp nd).2 (by simpa using h1) (by simpa using h2) hk
noncomputable def zu4 (N:List Str) (vs:List V):St:=vs.map some++List.replicate (N.length-vs.length) none
noncomputable def zw3 (CX:CXT) (P:Program) (w:World) (K:PySem.W.Frag) (mg:Str->Option Value) (base:Heap) (N:List Str) (qual:Str) (scope:Scope) (f:Addr) (cd:Value) (A:Around) (outer:List Env) (s:Shared) (H:Hp) (E:XK):Cx where
 prog:=P
 w:=w
 K:=K
 mg:=mg
 base:=base
 A:=A.deeper (envOfC qual scope s.heap.objs.size f cd)
 N:=N
 s₀:=s
 H₀:=H
 env:=envOfC qual scope s.heap.objs.size f cd
 outer:=outer
 stack:=envOfC qual scope s.heap.objs.size f cd::outer
 ex:=[]
 calm:=true
 fn:=fun _=>true
 pn:=[]
 xe:=fun e s'=>wpAny (model P w) (A.deeper (envOfC qual scope s.heap.objs.size f cd)) (leaving (envOfC qual scope s.heap.objs.size f cd) e) (fun _ s''=>CX outer H s E e s'') (fun e' s''=>CX outer H s E e' s'') s'
theorem xe9 {sc:Scope} {n:Nat} {x:Str} (h:sc.names.lookup x=some .cell):∃c,(cellsFrom n sc.names []).lookup x=some c:=by
 have q:=PySem.W.cellsFrom_some sc.names n [] (.inl h);exact Option.isSome_iff_exists.mp q
theorem xr5 {CX:CXT} {P:Program} {w:World} {K:PySem.W.Frag} {mg:Str->Option Value} {base:Heap} {N ps:List Str} {qual:Str} {scope:Scope} {f:Addr} {cd:Value} {A:Around} {outer:List Env} {s s1:Shared} {H:Hp} {E:XK} {us:List Value} {vs:List V}
 (S:zd1 N ps scope) (hd:A.handled=none) (e0:vc8 P w K mg base A outer s H) (hl:vs.length=ps.length) (r:zf8 vs us)
 (x:InCallC s s.heap.objs.size (bindL (envOfC qual scope s.heap.objs.size f cd).kindOf (ps.zip us) fun _=>none) (cellsFrom (s.heap.objs.size+1) scope.names []) (bindC (envOfC qual scope s.heap.objs.size f cd).kindOf (ps.zip us) fun _=>none) s1) :
 Inv (zw3 CX P w K mg base N qual scope f cd A outer s H E) [] (zu4 N vs) H s1:=by
 have hpl:ps.length<=N.length:=by have:=congrArg List.length S.pre;rw[Bc0] at this;omega
 obtain⟨h1,tk,rfl,hk⟩:=x.done;have noA:∀b:Addr,b∉(zw3 CX P w K mg base N qual scope f cd A outer s H E).ex:=fun b z=>absurd (show b∈([]:List Addr) from z) (by simp)
 refine⟨⟨e0.mod,S.kind,rfl,rfl,Ac0 _,fun y z c h1 h2=>?_,fun y hy=>?_,fun y c _ h=>?_,fun _=>hd,Around.frames_deeper e0.frames,.inr ⟨rfl,rfl⟩,fun b z=>absurd z (noA b),e0.bs,e0.bsz,fun b _ _=>noA b,fun b z=>absurd z (noA b),e0.funs,e0.frf⟩,rfl,e0.bare,Un.kept hk,⟨_,x.toInCall.ns,fun i y v h1 h2 h3=>?_⟩,fun y c h=>⟨_,x.cell y c h⟩,e0.hok.fresh (Ac0 _),fun y c h=>?_,fun p hp=>absurd (show p∈([]:List (Addr×Obj)) from hp) (by simp),e0.hok.kept hk,?_⟩
 ·exact name_of_addr x.apart (PySem.mem_of_lookup h1) (PySem.mem_of_lookup h2)
 ·have hy:scope.names.lookup y=some .cell\/scope.names.lookup y=some .free:=hy
  rcases hy with hy | hy
  ·exact xe9 hy
  ·exact absurd rfl (S.nofree _ (PySem.mem_of_lookup hy))
 ·exact Nat.le_of_lt (x.above y c (PySem.mem_of_lookup h))
 ·have hi:i<vs.length:=by
   unfold zu4 at h2;by_cases hi:i<vs.length
   ·exact hi
   ·rw[List.getElem?_append_right (by simpa using hi)] at h2
    rw[List.getElem?_replicate] at h2;split at h2<;>cases h2
  have ha:vs[i]?=some v:=by
   unfold zu4 at h2;rw[Bw0 (by simpa using hi),Ai0] at h2;cases e:vs[i]? with
   | none=>rw[e] at h2;cases h2
   | some a=>rw[e] at h2;cases h2;rfl
  obtain⟨u,hu,rv⟩:=r.get ha;have hp:ps[i]?=some y:=by
   rw[<-S.pre,List.getElem?_take_of_lt (by omega)];exact h1
  have ndP:ps.Nodup:=by rw[<-S.pre];exact S.nd.sublist (List.take_sublist _ _)
  refine⟨u,rv,?_⟩;rcases S.par y (Aw0 hp) with k | k
  ·exact .inl ⟨k,yv0 ndP hp hu k⟩
  ·obtain⟨c,e⟩:=xe9 (n:=s.heap.objs.size+1) k
   refine .inr ⟨.inl k,c,e,?_⟩;have q:=x.cell y c e;rw[yv2 ndP hp hu (by show scope.names.lookup y≠_;rw[k];decide)] at q;exact q
 ·exact e0.hok.fresh (Nat.le_of_lt (x.above y c (PySem.mem_of_lookup h)))
 ·unfold zu4
  show _=N.length;rw[Al0,Ab0,List.length_replicate];omega
set_option tactic.hygienic true in
theorem vg6 {CX:CXT} {P:Program} {w:World} {K:PySem.W.Frag} {mg:Str->Option Value} {base:Heap} {k:Nat} {f:Addr} {name qual:Str} {params:Arguments} {body:List Stmt} {scope:Scope} {dV kV doc pm cdv ct oc:Value} {an od:Option Addr}
 {osl:Array (Option Value)} {N ps:List Str} {sp:Sp} (lk:K.lookup f=some ⟨oc,od,.func (PySem.W.fnOf name qual params body scope dV kV doc pm an cdv ct),osl⟩) (hcd:PySem.W.codeIn K cdv qual=true) (S:zd1 N ps scope)
 (len:∀vs H Q E,sp vs H Q E->vs.length=ps.length)
 (hbody:∀(A:Around) (outer:List Env) (s:Shared) (H:Hp) (vs:List V) (Q:VK) (E:XK),zl9 k (A.deeper (envOfC qual scope s.heap.objs.size f cdv))->sp vs H Q E->
  ∃t,PSs (zw3 CX P w K mg base N qual scope f cdv A outer s H E) body t/\t { nx:=fun _ H'=>Q .non H',rt:=Q } (zu4 N vs) H) :
 zp9 P w K mg base CX (k+1) f (PySem.W.fnOf name qual params body scope dV kV doc pm an cdv ct) ps sp:=by
 refine⟨len,fun A outer s H args us vs Q E hr e0 hb r hsp=>?_⟩;have hl:=len _ _ _ _ hsp;have KX:K.In s.heap:=e0.mod.kin.keeps fun b o e=>(e0.bs b o e).1
 have lim:s.heap.NoLimit:=e0.mod.nolimit.keeps fun b o e=>(e0.bs b o e).1
 have hkind:∀y∈ps.zip us,scope.names.lookup y.1=some .local\/(scope.names.lookup y.1=some .cell/\((cellsFrom (s.heap.objs.size+1) scope.names []).lookup y.1).isSome=true):=fun hI2 hy=>by
  obtain⟨n,v⟩:=hI2;rcases S.par n (List.of_mem_zip hy).1 with q | q
  ·exact .inl q
  ·exact .inr ⟨q,PySem.W.cellsFrom_some _ _ _ (.inl q)⟩
 refine codeAny_call_function hr.depth (KX _ _ lk) rfl S.co S.gen rfl (PySem.W.codeRec_of KX hcd) (hb _ _ _ _ ?_);refine wpAny_newFunctionEnv_cells S.kind hkind fun env he s1 x=>?_
 subst he;refine⟨lim.keeps x.toInCall.keep,codeAny_func ?_⟩;obtain⟨t,ht,hq⟩:=hbody A outer s H vs Q E (hr.deeper _) hsp;have I:Inv (zw3 CX P w K mg base N qual scope f cdv A outer s H E) [] (zu4 N vs) H s1:=xr5 S hr.hd e0 hl r x;refine wpAny_mono (ht [] s1 (zu4 N vs) H _ I hq) (fun fl s' hs=>?_) fun e s' hs=>hs
 have fin:∀{σ':St} {H':Hp} {v:V} {u:Value},Inv (zw3 CX P w K mg base N qual scope f cdv A outer s H E) [] σ' H' s'->zf0 v u->Q v H'->CE outer P w H s Q u s':=
  fun {σ' H' v u} J rv q=>⟨v,H',J.os,J.bare,J.base,J.hok,rv,q⟩
 cases fl with
 | ret u=>
   obtain⟨v,σ',H',J,rv,q⟩:=hs;exact fin J rv q
 | next=>
   obtain⟨σ',H',J,q⟩:=hs;exact fin (v:=V.non) (u:=Value.none) J rfl q
 | brk=>
   obtain⟨_,_,_,q⟩:=hs;exact False.elim q
 | cont=>
   obtain⟨_,_,_,q⟩:=hs;exact False.elim q
end L2
namespace L2
open PySem PySem.Spec PyProof.Rows
section
variable {X:Cx} {x:Str} {p pos:Pos} {e:Expr} {es:List Expr} {t:TA} {id T:String} {r:List V->Hp->VK->Prop}
noncomputable def tCB (r:List V->Hp->VK->Prop) (t:TA):TE:=fun σ H Q=>t σ H fun vs H1=>r vs H1 Q
theorem yc5 (hc:zw9 X (.builtin id) r) (hg:Gl X x) (hm:X.mg x=none) (hv:bootBuiltins x=some (.builtin id)) (ha:PA X (e::es) t) (hn:x≠"__name__":=by decide) (hdb:(x == ("__debug__" : Str))=false:=by decide)
 (he:starEach (e::es) X.env=(false,eval e X.env)::starEach es X.env:=by rfl) (hpl:(backTo pos (starEach es X.env)).any (·.1)=false:=by rfl):PE X (.Call (.Name x p) (e::es) [] pos) (tCB r t):=by
 intro pins s σ H Q I h;refine wpAny_Call_Name_kw (yf5 I hg hm hv ?_ hn hdb);exact PyProof.Rows.callWith_builtin1 (thn (ha pos pins s σ H _ I h) fun us s1 ⟨vs,H1,I1,r1,q1⟩=>hc pins s1 σ H1 vs us Q I1 r1 q1) he hpl
theorem yq7 (hc:zw9 X (.type T) r) (hg:Gl X x) (hm:X.mg x=none) (hv:bootBuiltins x=some (.type T)) (ha:PA X (e::es) t) (hn:x≠"__name__":=by decide) (hdb:(x == ("__debug__" : Str))=false:=by decide)
 (he:starEach (e::es) X.env=(false,eval e X.env)::starEach es X.env:=by rfl) (hpl:(backTo pos (starEach es X.env)).any (·.1)=false:=by rfl):PE X (.Call (.Name x p) (e::es) [] pos) (tCB r t):=by
 intro pins s σ H Q I h;refine wpAny_Call_Name_kw (yf5 I hg hm hv ?_ hn hdb);exact PyProof.Rows.callWith_type1 (thn (ha pos pins s σ H _ I h) fun us s1 ⟨vs,H1,I1,r1,q1⟩=>hc pins s1 σ H1 vs us Q I1 r1 q1) he hpl
end
end L2
namespace HT
open PySem PyProof.Rows
noncomputable def zu5:List Int->List Int->Bool
 | [],[]=>false
 | [],_::_=>true
 | _::_,[]=>false
 | x::xs,y::ys=>if x=y then zu5 xs ys else decide (x<y)
theorem xi0 (x y:Int) (xs ys:List Int):zu5 (x::xs) (y::ys)=if x=y then zu5 xs ys else decide (x<y):=rfl
theorem ym8:zu5 [] []=false:=rfl
theorem yi2 (y:Int) (ys:List Int):zu5 [] (y::ys)=true:=rfl
theorem yi3 (x:Int) (xs:List Int):zu5 (x::xs) []=false:=rfl
theorem wb9 (A:Around) (s:Shared) (a:Int) (t:Tok) (c:Int) (u:Tok):∃e,SeqAt.EqAt A s (.int a t) (.int c u) e/\(e=true↔a=c):=
 ⟨(a == c),SeqAt.EqAt.int_int a t c u,by simp⟩
theorem xy1 (A:Around) (s:Shared) (a:Int) (t:Tok) (c:Int) (u:Tok) (prog:Program) (w:World) (E:Value->Shared->Prop) (Q:Value->Shared->Prop) (h:Q (.bool (decide (a<c))) s) :
 wpAny (model prog w) A (richCompare .Lt (.int a t) (.int c u)) Q E s:=
 (PyProof.Rows.lt_int h:wpAny (model prog w) A (compareOp .Lt (.int a t) (.int c u)) Q E s)
section
open PySem.SeqAt
open PySem.AutoSeq1 (wpAny_loadPart')
open PySem.MeetsSeq PySem.MeetsSeq2 PySem.MeetsSeq3
theorem yl7 (l b:Addr) (items items2:Array Value) (n n2:Nat) (dd dd2:Option Addr) (sl sl2:Array (Option Value)) (ns ms:List Int) (hi:IntsAre items.toList ns) (hj:IntsAre items2.toList ms) :
 Meets (Builtin.«tuple.__lt__» ⟨[.ref l,.ref b],[]⟩)
  (fun _ R s=>s.heap.get? l=some { cls:=.type "tuple",dict:=dd,data:=.seq items n,slots:=sl }/\s.heap.get? b=some { cls:=.type "tuple",dict:=dd2,data:=.seq items2 n2,slots:=sl2 }/\
   R (.ok (.ret (.bool (zu5 ns ms)))) s):=
 .of_wp fun prog w A R s h=>by
  obtain⟨hp,g,d,tk,os⟩:=s;obtain⟨hl,hb,h⟩:=h;have f2:=AutoSeq1.sub_tuple_tuple;have z1:items.size=ns.length:=by rw[<-hi.length];simp
  have z2:items2.size=ms.length:=by rw[<-hj.length];simp
  wp_walk using wpAny_loadPart' hl,wpAny_loadPart' hb,wpAny_forIn_list _ (fun zx5 b s'=>b.1=none/\s'=⟨hp,g,d,tk,os⟩/\∃(vs ws:List Value) (ns' ms':List Int),zx5=vs.zip ws/\
   IntsAre vs ns'/\IntsAre ws ms'/\ns'.length+items2.size=ms'.length+items.size/\R (.ok (.ret (.bool (zu5 ns' ms')))) ⟨hp,g,d,tk,os⟩) _
  case turn=>
   rintro ⟨y,x⟩ zx5 b s' ⟨hb',rfl,vs,ws,ns',ms',hz,hvi,hwi,hlen,hR⟩;cases hvi with
   | nil=>rw[List.zip_nil_left] at hz;cases hz
   | cons a t hvi'=>
     cases hwi with
     | nil=>rw[List.zip_nil_right] at hz;cases hz
     | cons c u hwi'=>
       rw[List.zip_cons_cons] at hz;injection hz with hyx hrest
       injection hyx with hy hx
       subst hy hx;rw[xi0] at hR;simp only[An0] at hlen;obtain⟨e,he,hiff⟩:=wb9 A.in1 ⟨hp,g,d,tk,os⟩ a t c u;refine wpAny_bind (he prog w _ _ ?_);cases e with
       | true=>
         rw[if_pos (hiff.mp rfl)] at hR
         wp_walk
         exact⟨rfl,rfl,_,_,_,_,hrest,hvi',hwi',by omega,hR⟩
       | false=>
         rw[if_neg (fun q=>absurd (hiff.mpr q) Am0)] at hR;have hri:=xy1 A.in1 ⟨hp,g,d,tk,os⟩ a t c u prog w
         wp_walk using hri
         exact⟨_,rfl,by simpa using hR⟩
  case fin=>
   rintro ⟨b1,b2⟩ s' ⟨hb',rfl,vs,ws,ns',ms',hz,hvi,hwi,hlen,hR⟩;simp only at hb';subst hb';have hv:zu5 ns' ms'=decide (items.size<items2.size):=by
    cases hvi with
    | nil=>
      cases hwi with
      | nil=>
        simp only[Br0] at hlen;rw[ym8];exact(decide_eq_false (by omega)).symm
      | cons c u hw=>
        simp only[Br0,An0] at hlen;rw[yi2];exact(decide_eq_true (by omega)).symm
    | cons a t hv=>
      cases hwi with
      | nil=>
        simp only[Br0,An0] at hlen;rw[yi3];exact(decide_eq_false (by omega)).symm
      | cons c u hw=>
        rw[List.zip_cons_cons] at hz;cases hz
   rw[hv] at hR
   wp_walk
   exact⟨_,rfl,by simpa [Builtin.Tuple.tupleCompareSizes] using hR⟩
  case h=>
   exact⟨rfl,rfl,items.toList,items2.toList,ns,ms,rfl,hi,hj,by omega,h⟩
end
section
variable {prog:Program} {w:World} {A:Around} {E:Value->Shared->Prop} {s:Shared}
theorem xh9 {l b:Addr} {items items2:Array Value} {ns ms:List Int} {Q:Value->Shared->Prop} (hl:IsTup s.heap l items) (hb:IsTup s.heap b items2) (hi:IntsAre items.toList ns) (hj:IntsAre items2.toList ms)
 (hu:A.units<cLine) (h:Q (.bool (zu5 ns ms)) s):wpAny (model prog w) A (compareOp .Lt (.ref l) (.ref b)) Q E s:=by
 obtain⟨⟨cls,dd,data,sl⟩,ho,hc,n,hd⟩:=id hl;obtain⟨⟨cls2,dd2,data2,sl2⟩,ho2,hc2,n2,hd2⟩:=id hb;simp only at hc hd hc2 hd2;subst hc hd hc2 hd2;exact richCompare_meets_room (op:=.Lt) ⟨_,ho,rfl⟩ ⟨_,ho2,rfl⟩ PySem.F.slot_tuple_lt PySem.F.entry_tuple_lt (PySem.F.args_tuple_lt_2 _ _) (yl7 l b items items2 n n2 dd dd2 sl sl2 ns ms hi hj)
  ⟨ho,ho2,show Value.bool (zu5 ns ms)≠Value.notImplemented/\Q (.bool (zu5 ns ms)) s from⟨(fun x=>nomatch x),h⟩⟩ hu
theorem cat_tup {t b:Addr} {vs ws:List Value} {Q:Value->Shared->Prop} (ht:IsTup s.heap t vs.toArray) (hb:IsTup s.heap b ws.toArray) (hv:vs≠[])
 (h1:ws=[]->Q (.ref t) s) (h2:ws≠[]->Q (.ref s.heap.objs.size) { s with heap:=s.heap.push { cls:=.type "tuple",data:=.seq (vs++ws).toArray } })
 (hsz:vs.length+ws.length<=sizeLine):wpAny (model prog w) A (binaryOp .Add (.ref t) (.ref b)) Q E s:=by
 obtain⟨⟨cls,dd,data,sl⟩,ho,hc,n,hd⟩:=id ht;obtain⟨⟨cls2,dd2,data2,sl2⟩,ho2,hc2,n2,hd2⟩:=id hb;simp only at hc hd hc2 hd2;subst hc hd hc2 hd2;have e:vs.toArray++ws.toArray=(vs++ws).toArray:=by simp
 by_cases hw:ws=[]
 ·exact concat_meets ⟨_,ho,rfl⟩ ⟨_,ho2,rfl⟩ noFill_tuple_add seq_tuple_add PySem.F.slot_tuple_add PySem.F.entry_tuple_add (PySem.F.args_tuple_add_2 _ _)
   (tuple_addW1 t b vs.toArray ws.toArray n n2 dd dd2 sl sl2 (by simpa using hv) (by simp[hw])) ⟨ho,ho2,h1 hw⟩
 ·refine concat_meets ⟨_,ho,rfl⟩ ⟨_,ho2,rfl⟩ noFill_tuple_add seq_tuple_add PySem.F.slot_tuple_add PySem.F.entry_tuple_add (PySem.F.args_tuple_add_2 _ _)
   (tuple_addW2 t b vs.toArray ws.toArray n n2 dd dd2 sl sl2 (by simpa using hv) (by simpa using hw) (by rw[Af0,Af0];exact hsz)) ⟨ho,ho2,?_⟩
  rw[e];exact h2 hw
noncomputable def sIx (n d:Nat):Option Int->Nat
 | none=>d
 | some v=>if v<0 then (v+(n:Int)).toNat else min v.toNat n
theorem sIx_nat (n d k:Nat):sIx n d (some (k:Int))=min k n:=by
 show (if (k:Int)<0 then ((k:Int)+(n:Int)).toNat else min (k:Int).toNat n)=min k n;rw[if_neg (by omega),Bq0]
end
end HT
namespace L2
open PySem PySem.Spec PyProof.Rows
noncomputable abbrev TO:=St->Hp->(Option Int->Hp->Prop)->Prop
noncomputable def PO (X:Cx) (e:Option Expr) (t:TO):Prop:=
 ∀(pins:List (Addr×Obj)) (s:Shared) (σ:St) (H:Hp) (Q:Option Int->Hp->Prop),Inv X pins σ H s->t σ H Q->
  wpAny (model X.prog X.w) X.A (evalPart e X.env) (fun u s'=>∃o H',Inv X pins σ H' s'/\IsPart u o/\Q o H') X.xe s
noncomputable def wi9:TO:=fun _ H Q=>Q none H
noncomputable def vd5 (t:TE):TO:=fun σ H Q=>t σ H fun x H1=>∃i,x=.int i/\Q (some i) H1
section
variable {X:Cx} {e:Expr} {te:TE} {lo hi:Option Expr} {tl th:TO} {pos p2:Pos}
theorem wk7:PO X none wi9:=by
 intro pins s σ H Q I h;rw[evalPart_none];exact wpAny_pure ⟨none,H,I,.none,h⟩
theorem wk6 (h:PE X e te):PO X (some e) (vd5 te):=by
 intro pins s σ H Q I hw;rw[evalPart_some];refine thn (h pins s σ H _ I hw) fun u s1 hI78=>?_
 obtain⟨x,H1,I1,r1,q1⟩:=hI78;obtain⟨i,rfl,q⟩:=q1;obtain⟨t,rfl⟩:=r1;exact⟨some i,H1,I1,.int i t,q⟩
noncomputable def SlR (X:Cx) (r:V->Option Int->Option Int->Hp->VK->Prop):Prop:=
 ∀(pins:List (Addr×Obj)) (s:Shared) (σ:St) (H:Hp) (x:V) (v vl vu:Value) (lo hi:Option Int) (sl:Addr) (Q:VK),Inv X pins σ H s->zf0 x v->s.heap.IsSliceOf sl vl vu .none->IsPart vl lo->IsPart vu hi->r x lo hi H Q->
  ∃T id,typeLookup (.type T) "__getitem__" = pure (some (.builtin id))/\s.TypeIs v T/\wpAny (model X.prog X.w) X.A (getItem v (.ref sl)) (EP X pins σ Q) X.xe s
theorem SlR.or {r r':V->Option Int->Option Int->Hp->VK->Prop} (h:SlR X r) (h':SlR X r'):SlR X (fun x lo hi H Q=>r x lo hi H Q\/r' x lo hi H Q):=by
 intro pins s σ H x v vl vu lo hi sl Q I rx hs pl pu q;rcases q with q | q
 ·exact h pins s σ H x v vl vu lo hi sl Q I rx hs pl pu q
 ·exact h' pins s σ H x v vl vu lo hi sl Q I rx hs pl pu q
noncomputable def tSl (r:V->Option Int->Option Int->Hp->VK->Prop) (te:TE) (tl th:TO):TE:=fun σ H Q=>te σ H fun x H1=>tl σ H1 fun l H2=>th σ H2 fun u H3=>r x l u H3 Q
theorem xy7 {r:V->Option Int->Option Int->Hp->VK->Prop} (hr:SlR X r) (he:PE X e te) (hl:PO X lo tl) (hu:PO X hi th):PE X (.Subscript e (.Slice lo hi none p2) pos) (tSl r te tl th):=by
 intro pins s σ H Q I h;refine Subscript_ (thn (he pins s σ H _ I h) fun v s1 hI79=>?_);obtain⟨x,H1,I1,r1,q1⟩:=hI79;refine wpAny_Slice (thn (hl pins s1 σ H1 _ I1 q1) fun vl s2 ⟨l,H2,I2,pl,q2⟩=>thn (hu pins s2 σ H2 _ I2 q2) fun vu s3 hI80=>?_);obtain⟨u,H3,I3,pu,q3⟩:=hI80;rw[evalPart_none];refine wpAny_pure ?_;have I4:Inv X pins σ H3 { s3 with heap:=s3.heap.push { cls:=.type "slice",data:=.fields #[vl,vu,.none] } }:=I3.kept (t':=s3.toks) fun b ob q=>Aa0 _ q
 obtain⟨T,id,hT,ht,hg⟩:=hr pins { s3 with heap:=s3.heap.push { cls:=.type "slice",data:=.fields #[vl,vu,.none] } } σ H3 x v vl vu l u s3.heap.objs.size Q I4 r1 (Heap.IsSliceOf.new ..) pl pu q3;show wpAny (model X.prog X.w) X.A (subscriptTail e (.Slice lo hi none p2) v (.ref s3.heap.objs.size)) (EP X pins σ Q) X.xe { s3 with heap:=s3.heap.push { cls:=.type "slice",data:=.fields #[vl,vu,.none] } };exact tail_any (ops:=[.ref s3.heap.objs.size,v]) ht hT hg (by with_unfolding_all rfl)
noncomputable def wq4 (xs:List V) (lo hi:Option Int):List V:=(xs.drop (HT.sIx xs.length 0 lo)).take (HT.sIx xs.length xs.length hi-HT.sIx xs.length 0 lo)
theorem yz6 (xs:List V) (lo hi:Option Int):(wq4 xs lo hi).length<=xs.length:=by
 unfold wq4;rw[Bc0,List.length_drop];omega
noncomputable def xy3 (K:PySem.W.Frag):R2:=fun x y H Q=>∃a b xs ys,x=.ref a/\y=.ref b/\SqT K H a xs/\SqT K H b ys/\xs≠[]/\xs.length+ys.length<=sizeLine/\
 (ys=[]->Q (.ref a) H)/\(ys≠[]->∀p,H p=none->Q (.ref p) (upd H p (.tup (xs++ys))))
theorem zf8.nil_iff {xs:List V} {us:List Value} (r:zf8 xs us):us=[]↔xs=[]:=by
 cases r with
 | nil=>simp
 | cons _ _=>simp
theorem wl7:OpR X (binaryOp .Add) (xy3 X.K):=by
 intro pins s σ H x y v u Q I rx ry h;obtain⟨a,b,xs,ys,rfl,rfl,ha,hb,hx,hz,q1,q2⟩:=h;cases rx;cases ry;obtain⟨its,r1,p1,_⟩:=I.tuple ha;obtain⟨its2,r2,p2,_⟩:=I.tuple hb;refine HT.cat_tup p1 p2 (fun z=>hx (r1.nil_iff.mp z)) (fun z=>⟨.ref a,H,I,rfl,q1 (r2.nil_iff.mp z)⟩) (fun z=>?_) (by rw[<-r1.length,<-r2.length];exact hz);refine⟨.ref s.heap.objs.size,_,I.laid (t':=s.toks) (o:=.tup (xs++ys)) (fun b ob q=>Aa0 _ q) (Ac0 _) ?_,rfl,q2 (fun w=>z (r2.nil_iff.mpr w)) _ (I.hok.fresh (Ac0 _))⟩;exact⟨by rw[Al0];exact hz,_,r1.append r2,IsTup.new _ _⟩
end
end L2
namespace L2
open PySem PySem.Spec PyProof.Rows
noncomputable def ixN (n:Nat) (i:Int):Option Nat:=if 0<=i then (if i<n then some i.toNat else none) else if -(n:Int)<=i then some (i+n).toNat else none
noncomputable def atI {α:Type} (xs:List α) (i:Int):Option α:=(ixN xs.length i).bind fun j=>xs[j]?
theorem xr3 {n:Nat} {i:Int} {j:Nat} (h:ixN n i=some j):seqIndex? i n=some j/\j<n/\-(n:Int)<=i/\i<n:=by
 unfold ixN at h;by_cases h0:0<=i
 ·rw[if_pos h0] at h
  by_cases h1:i<n
  ·rw[if_pos h1] at h
   have e:i.toNat=j:=Option.some.inj h;exact⟨by rw[seqIndex_of h0 h1,e],by omega,by omega,h1⟩
  ·rw[if_neg h1] at h;cases h
 ·rw[if_neg h0] at h
  by_cases h1:-(n:Int)<=i
  ·rw[if_pos h1] at h
   have e:(i+n).toNat=j:=Option.some.inj h;exact⟨by rw[seqIndex_neg (by omega) h1,e],by omega,h1,by omega⟩
  ·rw[if_neg h1] at h;cases h
theorem xa0 {α:Type} {xs:List α} {i:Int} {v:α} (h:atI xs i=some v):∃j,seqIndex? i xs.length=some j/\xs[j]?=some v/\j<xs.length/\-(xs.length:Int)<=i/\i<xs.length:=by
 unfold atI at h;cases e:ixN xs.length i with
 | none=>rw[e] at h;cases h
 | some j=>
   rw[e] at h;obtain⟨h1,h2,h3,h4⟩:=xr3 e;exact⟨j,h1,h,h2,h3,h4⟩
theorem yz9 {α:Type} {xs:List α} {j:Nat} {v:α} (h:xs[j]?=some v):atI xs (j:Int)=some v:=by
 have hj:j<xs.length:=(Ae0.mp h).1;have e:ixN xs.length (j:Int)=some j:=by
  unfold ixN;rw[if_pos (by omega),if_pos (by omega)];simp
 unfold atI;rw[e];exact h
noncomputable def yh5 (b:Expr):Prop:=∀o i,subscripted b false o i=operate [o,i] (getItem o i)
noncomputable def IxR (X:Cx) (r:R2):Prop:=
 ∀(value slice:Expr) (pins:List (Addr×Obj)) (s:Shared) (σ:St) (H:Hp) (x y:V) (v u:Value) (Q:VK),Inv X pins σ H s->zf0 x v->zf0 y u->r x y H Q->
  subscripted slice false v u=operate [v,u] (getItem v u)->wpAny (model X.prog X.w) X.A (subscriptTail value slice v u) (EP X pins σ Q) X.xe s
noncomputable def MtR (X:Cx) (id:String) (r:V->List V->Hp->VK->Prop):Prop:=
 ∀(pins:List (Addr×Obj)) (s:Shared) (σ:St) (H:Hp) (x:V) (xs:List V) (v:Value) (us:List Value) (Q:VK),Inv X pins σ H s->zf0 x v->zf8 xs us->r x xs H Q->
  wpAny (model X.prog X.w) X.A (call (.builtin id) (v::us)) (EP X pins σ Q) X.xe s
section
variable {X:Cx} {a b:Expr} {ta tb:TE} {pos:Pos}
theorem IxR.or {r r':R2} (h:IxR X r) (h':IxR X r'):IxR X (fun x y H Q=>r x y H Q\/r' x y H Q):=by
 intro value slice pins s σ H x y v u Q I rx ry q hs;rcases q with q | q
 ·exact h value slice pins s σ H x y v u Q I rx ry q hs
 ·exact h' value slice pins s σ H x y v u Q I rx ry q hs
theorem wl0 {r:R2} (hr:IxR X r) (ha:PE X a ta) (hb:PE X b tb) (hs:yh5 b):PE X (.Subscript a b pos) (tOp r ta tb):=by
 intro pins s σ H Q I h;exact Subscript_ (vh6 ha hb I h fun v u s2 x y H2 I2 rx ry q=>hr a b pins s2 σ H2 x y v u Q I2 rx ry q (hs _ _))
noncomputable def vi9 (K:PySem.W.Frag):R2:=fun x y H Q=>∃p xs i v,x=.ref p/\y=.int i/\SqL K H p xs/\atI xs i=some v/\Q v H
noncomputable def vi7 (K:PySem.W.Frag):R2:=fun x y H Q=>∃p xs i v,x=.ref p/\y=.int i/\SqT K H p xs/\atI xs i=some v/\Q v H
noncomputable def vi8:R2:=fun x y H Q=>∃z i c,x=.str z/\y=.int i/\z.length<=sizeLine/\atI z.cps.toList i=some c/\Q (.str ⟨#[c]⟩) H
theorem xr2:IxR X (vi9 X.K):=by
 intro value slice pins s σ H x y v u Q I rx ry h hs;obtain⟨p,xs,i,z,rfl,rfl,hq,he,q⟩:=h;cases rx;obtain⟨t,rfl⟩:=ry;obtain⟨its,r,pl,hz⟩:=I.list hq;obtain⟨j,h1,h2,h3,h4,h5⟩:=xa0 he;obtain⟨w,ew,rw'⟩:=r.get h2;have hl:=r.length;have hn:=ys2;have fin:EP X pins σ Q w s:=⟨z,H,I,rw',q⟩;by_cases h0:0<=i
 ·have hj:i.toNat=j:=by
   rw[seqIndex_of h0 h5] at h1;exact Option.some.inj h1
  exact item_listR pl.isList h0 (by omega) (by rw[hj];simpa using ew) fin hs
 ·have hj:(i+(its.toArray.size:Int)).toNat=j:=by
   rw[seqIndex_neg (by omega) h4] at h1;rw[Af0,<-hl];exact Option.some.inj h1
  exact subscriptTail_builtinR (x:=w) pl.isList.typeIs slot_list_getitem.lookup
   (wpAny_getItem_list_neg (Q:=fun r s'=>r=w/\EP X pins σ Q r s') pl.isList (by omega) (by rw[Af0]<;>omega) (by omega) (by rw[hj];simpa using ew) ⟨rfl,fin⟩) hs
theorem wf1:IxR X (vi7 X.K):=by
 intro value slice pins s σ H x y v u Q I rx ry h hs;obtain⟨p,xs,i,z,rfl,rfl,hq,he,q⟩:=h;cases rx;obtain⟨t,rfl⟩:=ry;obtain⟨its,r,pl,hz⟩:=I.tuple hq;obtain⟨j,h1,h2,h3,h4,h5⟩:=xa0 he;obtain⟨w,ew,rw'⟩:=r.get h2;have hl:=r.length;have hn:=ys2;have fin:EP X pins σ Q w s:=⟨z,H,I,rw',q⟩;exact subscriptTail_builtinR (x:=w) pl.typeIs slot_tuple_getitem.lookup
  (getItem_tuple (j:=j) (Q:=fun r s'=>r=w/\EP X pins σ Q r s') pl (by omega) (by omega) (by rw[Af0,<-hl];exact h1) (by simpa using ew) ⟨rfl,fin⟩) hs
theorem wy5:IxR X vi8:=by
 intro value slice pins s σ H x y v u Q I rx ry h hs;obtain⟨z,i,c,rfl,rfl,hz,he,q⟩:=h;obtain⟨t,rfl⟩:=rx;obtain⟨t',rfl⟩:=ry;obtain⟨j,h1,h2,h3,h4,h5⟩:=xa0 he;have hl:z.cps.toList.length=z.length:=by simp[Str.length]
 rw[hl] at h1 h4 h5;have hn:=ys2;exact tail_any (typeIs_str s z t) slot_str_getitem.lookup (getItem_str (c:=c) (by
  have e1:decide (i < -(2 ^ 63:Int))=false:=decide_eq_false (by omega);have e2:decide (i>=2 ^ 63)=false:=decide_eq_false (by omega);rw[e1,e2,Bool.or_false]) (by rw[h1];simpa using h2) ⟨.str ⟨#[c]⟩,H,I.tok _,⟨_,rfl⟩,q⟩) hs
noncomputable def rIx (K:PySem.W.Frag):R2:=fun x y H Q=>vi9 K x y H Q\/vi7 K x y H Q\/vi8 x y H Q
theorem wf2:IxR X (rIx X.K):=xr2.or (wf1.or wy5)
theorem xh7 (its:List Value) (n j:Nat) (u:Value):Obj.mapSeq (·.setIfInBounds j u) { cls:=.type "list",data:=.seq its.toArray n }={ cls:=.type "list",data:=.seq (its.set j u).toArray n }:=by
 simp[Obj.mapSeq]
theorem Inv.lst {pins:List (Addr×Obj)} {σ:St} {H:Hp} {s:Shared} {p:Addr} {xs:List V} (I:Inv X pins σ H s) (h:H p=some (.lst xs)) :
 ∃(its:List Value) (n:Nat),zf8 xs its/\s.heap.get? p=some { cls:=.type "list",data:=.seq its.toArray n }/\xs.length<=sizeLine:=by
 obtain⟨z,its,n,r,e⟩:=I.hok p _ h;exact⟨its,n,r,e,z⟩
theorem Inv.lstUpd {pins:List (Addr×Obj)} {σ:St} {H:Hp} {s:Shared} {p:Addr} {xs ys:List V} {its its':List Value} {n n':Nat} {f:Obj->Obj} (I:Inv X pins σ H s) (h:H p=some (.lst xs))
 (ho:s.heap.get? p=some { cls:=.type "list",data:=.seq its.toArray n }) (hf:f { cls:=.type "list",data:=.seq its.toArray n }={ cls:=.type "list",data:=.seq its'.toArray n' }) (r:zf8 ys its') (hz:ys.length<=sizeLine) (t:Nat) :
 Inv X pins σ (upd H p (.lst ys)) { s with heap:=s.heap.update p f,toks:=t }:=by
 have e:(s.heap.update p f).get? p=some { cls:=.type "list",data:=.seq its'.toArray n' }:=by
  rw[Cf0 f ho (by rw[hf]<;>rfl),hf]
 refine I.write (x:=p) (e:=p) (by rw[h];trivial) (.inl rfl) (fun b u hb q=>(Ay0 _ _ (Ne.symm hb)).trans q) ⟨_,e⟩ ?_;exact⟨hz,its',n',r,e⟩
noncomputable def yq1:V->V->V->Hp->(Hp->Prop)->Prop:=fun o i v H Q=>∃p xs k j,o=.ref p/\i=.int k/\H p=some (.lst xs)/\ixN xs.length k=some j/\Q (upd H p (.lst (xs.set j v)))
theorem yc1:vk8 X yq1:=by
 intro pins s σ H o i v ov iv u Q I ro ri rv h;obtain⟨p,xs,k,j,rfl,rfl,hp,hj,q⟩:=h;cases ro;obtain⟨t,rfl⟩:=ri;obtain⟨its,n,r,ho,hz⟩:=I.lst hp;obtain⟨h1,h2,h3,h4⟩:=xr3 hj;have hl:=r.length;have hn:=ys2;have I':Inv X pins σ (upd H p (.lst (xs.set j v))) { s with heap:=s.heap.update p (Obj.mapSeq (·.setIfInBounds j u)) }:=
  I.lstUpd hp ho (xh7 its n j u) (r.set rv j) (by rw[Bh0];exact hz) s.toks
 by_cases h0:0<=k
 ·have hk:k.toNat=j:=by
   rw[seqIndex_of h0 h4] at h1;exact Option.some.inj h1
  exact PySem.W.ki_setAt ho h0 (by omega) (by rw[Af0,<-hl];exact h4) (by rw[hk];exact⟨_,I',q⟩)
 ·have hk:(k+(its.toArray.size:Int)).toNat=j:=by
   rw[seqIndex_neg (by omega) h3] at h1;rw[Af0,<-hl];exact Option.some.inj h1
  exact PySem.W.ki_setBack ho (by omega) (by rw[Af0,<-hl];exact h3) (by omega) (by rw[hk];exact⟨_,I',q⟩)
theorem yp6 (lo hi:Option Int) (n:Nat):(sliceBounds lo hi none n).1=((HT.sIx n 0 lo:Nat):Int)/\(sliceBounds lo hi none n).2.1=((HT.sIx n n hi:Nat):Int)/\(sliceBounds lo hi none n).2.2=1:=by
 refine⟨?_,?_,rfl⟩
 ·cases lo with
  | none=>simp[sliceBounds,HT.sIx]
  | some i=>
    simp only[sliceBounds,HT.sIx,Option.getD_none,show (1:Int)>0 by decide,if_true];by_cases h:i<0
    ·simp only[h,if_true]<;>omega
    ·simp only[h,if_false]<;>omega
 ·cases hi with
  | none=>simp[sliceBounds,HT.sIx]
  | some i=>
    simp only[sliceBounds,HT.sIx,Option.getD_none,show (1:Int)>0 by decide,if_true];by_cases h:i<0
    ·simp only[h,if_true]<;>omega
    ·simp only[h,if_false]<;>omega
theorem yl8 (its:List Value) (lo hi:Option Int):slicePick its.toArray lo hi none=((its.drop (HT.sIx its.length 0 lo)).take (HT.sIx its.length its.length hi-HT.sIx its.length 0 lo)).toArray:=by
 obtain⟨h1,h2,h3⟩:=yp6 lo hi its.toArray.size;unfold slicePick;rw[h1,h2,h3];simp only[sliceRange_one,pick_run,Af0]<;>rfl
noncomputable def vm3 (K:PySem.W.Frag):V->Option Int->Option Int->Hp->VK->Prop:=fun x lo hi H Q=>∃a xs,x=.ref a/\SqL K H a xs/\∀p,H p=none->Q (.ref p) (upd H p (.lst (wq4 xs lo hi)))
theorem wj6:SlR X (vm3 X.K):=by
 intro pins s σ H x v vl vu lo hi sl Q I rx hs pl pu h;obtain⟨a,xs,rfl,hx,q⟩:=h;cases rx;obtain⟨its,r,ht,hz⟩:=I.list hx;have hlen:=r.length;refine⟨"list",_,slot_list_getitem.lookup,ht.isList.typeIs,?_⟩;refine wpAny_getItem_list_slice ht.isList hs pl pu .none (by simp) ?_ (by rw[Af0]<;>omega);rw[yl8,<-hlen];refine⟨.ref s.heap.objs.size,_,I.laid (t':=s.toks) (o:=.lst (wq4 xs lo hi)) (fun b ob q=>Aa0 _ q) (Ac0 _) ?_,rfl,q _ (I.hok.fresh (Ac0 _))⟩;exact⟨Be0 (yz6 xs lo hi) hz,_,0,(r.drop (HT.sIx xs.length 0 lo)).take (HT.sIx xs.length xs.length hi-HT.sIx xs.length 0 lo),Ad0 _ rfl⟩
theorem zf6:zw9 X (.builtin "len") (fun xs H Q=>∃p ys,xs=[.ref p]/\(SqL X.K H p ys\/SqT X.K H p ys)/\Q (.int ys.length) H):=by
 intro pins s σ H xs us Q I r h;obtain⟨p,ys,rfl,hq,q⟩:=h;obtain⟨u,rfl,rx⟩:=yh8 r;cases rx;have hn:=ys2;rcases hq with hq | hq
 ·obtain⟨its,r',pl,hz⟩:=I.list hq
  have hlen:=r'.length;exact Calls.call_len_list pl.isList (by simp only[Af0]<;>omega) ⟨.int ys.length,H,I.tok _,⟨s.toks+1,by rw[Af0,hlen]⟩,q⟩
 ·obtain⟨its,r',pl,hz⟩:=I.tuple hq
  have hlen:=r'.length;exact len_tuple pl (by simp only[Af0]<;>omega) ⟨.int ys.length,H,I.tok _,⟨s.toks+1,by rw[Af0,hlen]⟩,q⟩
theorem zt1:zw9 X (.type "list") (fun xs H Q=>∃p ys,xs=[.ref p]/\(SqL X.K H p ys\/SqT X.K H p ys)/\∀l,H l=none->Q (.ref l) (upd H l (.lst ys))):=by
 intro pins s σ H xs us Q I r h;obtain⟨p,ys,rfl,hq,q⟩:=h;obtain⟨u,rfl,rx⟩:=yh8 r;cases rx;have fin:∀(its:List Value),zf8 ys its->ys.length<=sizeLine->∀(h':Heap) (c':Nat),(∀b o',s.heap.get? b=some o'->h'.get? b=some o')->
  h'.get? s.heap.objs.size=some { cls:=.type "list",dict:=none,data:=.seq its.toArray c',slots:=#[] }->EP X pins σ Q (.ref s.heap.objs.size) { s with heap:=h' }:=fun its r' hz h' c' kp e=>
  ⟨.ref s.heap.objs.size,_,I.laid (t':=s.toks) kp (Ac0 _) (show zk1 X.prog X.w _ h' _ (.lst ys) from⟨hz,its,c',r',e⟩),rfl,q _ (I.hok.fresh (Ac0 _))⟩
 rcases hq with hq | hq
 ·obtain⟨its,r',pl,hz⟩:=I.list hq
  have hlen:=r'.length;obtain⟨o,ho,hc,n,hd⟩:=pl.isList;exact call_list_seq p (.inl rfl) ho hc hd (fun h' c' kp e=>fin its r' hz h' c' kp e) (by simp only[Af0]<;>omega)
 ·obtain⟨its,r',pl,hz⟩:=I.tuple hq
  have hlen:=r'.length;obtain⟨o,ho,hc,n,hd⟩:=pl;exact call_list_seq p (.inr rfl) ho hc hd (fun h' c' kp e=>fin its r' hz h' c' kp e) (by simp only[Af0]<;>omega)
theorem zi0:zw9 X (.type "tuple") (fun xs H Q=>∃p ys,xs=[.ref p]/\((SqL X.K H p ys/\∀l,H l=none->Q (.ref l) (upd H l (.tup ys)))\/(SqT X.K H p ys/\Q (.ref p) H))):=by
 intro pins s σ H xs us Q I r h;obtain⟨p,ys,rfl,h⟩:=h;obtain⟨u,rfl,rx⟩:=yh8 r;cases rx;rcases h with⟨hq,q⟩ | ⟨hq,q⟩
 ·obtain⟨its,r',pl,hz⟩:=I.list hq
  have hlen:=r'.length;refine call_tuple_list pl.isList (fun h' kp=>?_) (by simp only[Af0]<;>omega);have I1:Inv X pins σ H { s with heap:=h' }:=I.kept (t':=s.toks) kp;have I2:Inv X pins σ (upd H h'.objs.size (.tup ys)) { s with heap:=h'.push { cls:=.type "tuple",data:=.seq its.toArray } }:=
   I1.laid (t':=s.toks) (fun b o e=>Aa0 _ e) (Ac0 _) (show zk1 X.prog X.w _ _ _ (.tup ys) from⟨hz,its,r',IsTup.new _ _⟩)
  exact⟨.ref h'.objs.size,_,I2,rfl,q _ (I1.hok.fresh (Ac0 _))⟩
 ·obtain⟨its,r',pl,hz⟩:=I.tuple hq
  exact call_tuple_same pl ⟨.ref p,H,I,rfl,q⟩
noncomputable def tyV (K:PySem.W.Frag) (T:String) (x:V) (H:Hp):Prop:=match x with
 | .str _=>T = "str"
 | .int _=>T = "int"
 | .ref p=>(T = "list"/\∃xs,SqL K H p xs)\/(T = "tuple"/\∃o,K.lookup p=some o/\o.cls=.type "tuple"/\o.dict=none)\/
  (T = "dict"/\((∃kvs,H p=some (.dK kvs))\/∃kvs,H p=some (.dT kvs)))\/(T = "set"/\∃S n,H p=some (.set S n))
 | _=>False
theorem wd3 {pins:List (Addr×Obj)} {σ:St} {H:Hp} {s:Shared} {T:String} {x:V} {v:Value} (I:Inv X pins σ H s) (r:zf0 x v) (ty:tyV X.K T x H) :
 s.TypeIs v T/\∀a,v=.ref a->∃ob,s.heap.get? a=some ob/\ob.dict=none:=by
 cases x with
 | str z=>
   obtain⟨t,rfl⟩:=r;cases (show T = "str" from ty);exact⟨typeIs_str s z t,fun _ e=>nomatch e⟩
 | int i=>
   obtain⟨t,rfl⟩:=r;cases (show T = "int" from ty);exact⟨typeIs_int s i t,fun _ e=>nomatch e⟩
 | ref p=>
   cases r;rcases ty with⟨rfl,xs,hq⟩ | ⟨rfl,o,hk,hc,hd⟩ | ⟨rfl,hk⟩ | ⟨rfl,S,n,hk⟩
   ·obtain⟨its,_,pl,_⟩:=I.list hq
    refine⟨pl.isList.typeIs,fun a e=>?_⟩;cases e;obtain⟨o,n,e,c,hd,_⟩:=pl;exact⟨o,e,hd⟩
   ·refine⟨⟨o,I.kIn p o hk,hc⟩,fun a e=>?_⟩
    cases e;exact⟨o,I.kIn _ o hk,hd⟩
   ·have z:∃o,s.heap.get? p=some o/\o.ExactDict:=by
     rcases hk with⟨kvs,hk⟩ | ⟨kvs,hk⟩
     ·obtain⟨_,_,_,_,o,_,_,e,ex,_⟩:=I.hok p _ hk
      exact⟨o,e,ex⟩
     ·obtain⟨_,_,_,_,o,_,_,e,ex,_⟩:=I.hok p _ hk
      exact⟨o,e,ex⟩
    obtain⟨o,e,ex⟩:=z;refine⟨⟨o,e,ex.1⟩,fun a e2=>?_⟩;cases e2;exact⟨o,e,ex.2.1⟩
   ·obtain⟨o,_,_,_,e,ex,_⟩:=I.hok p _ hk
    refine⟨⟨o,e,ex.1⟩,fun a e2=>?_⟩;cases e2;exact⟨o,e,ex.2.1⟩
 | _=>exact False.elim ty
noncomputable def vl9 (K:PySem.W.Frag) (T:String) (r:V->List V->Hp->VK->Prop) (to:TE):TE:=fun σ H Q=>to σ H fun x H1=>tyV K T x H1/\r x [] H1 Q
noncomputable def tBM (K:PySem.W.Frag) (T:String) (r:V->List V->Hp->VK->Prop) (to:TE) (t:TA):TE:=fun σ H Q=>to σ H fun x H1=>tyV K T x H1/\t σ H1 fun xs H2=>r x xs H2 Q
variable {o e:Expr} {es:List Expr} {to:TE} {t:TA} {name:Str} {apos cpos:Pos} {T id:String} {r:V->List V->Hp->VK->Prop}
theorem wv7 (pa:PlainAttrs T) (slot:Slot T name id) (hty:typeOf (.builtin id)=pure (.type "method_descriptor")) (hm:MtR X id r) (ho:PE X o to)
 (hbase:attributeBase o name X.env (eval o X.env)=eval o X.env:=by rfl) (hline:(apos.endLine == cpos.line)=true:=by rfl):PE X (.Call (.Attribute o name apos) [] [] cpos) (vl9 X.K T r to):=by
 intro pins s σ H Q I h;refine wpAny_Call_method0_late hbase hline (thn (ho pins s σ H _ I h) fun v s1 hI81=>?_);obtain⟨x,H1,I1,r1,ty,q1⟩:=hI81;obtain⟨h1,h2⟩:=wd3 I1 r1 ty;exact⟨T,id,pa,slot,hty,h1,h2,Calls.callWith_builtin rfl (PySem.evalArgs_none (hm pins s1 σ H1 x [] v [] Q I1 r1 .nil q1))⟩
theorem wv8 (pa:PlainAttrs T) (slot:Slot T name id) (hty:typeOf (.builtin id)=pure (.type "method_descriptor")) (hm:MtR X id r) (ho:PE X o to) (ha:PA X (e::es) t)
 (hbase:attributeBase o name X.env (eval o X.env)=eval o X.env:=by rfl)
 (hfew:((backTo cpos (starEach (e::es) X.env)).all (fun x=>!x.1)&&(backToKw cpos (keywordEach [] X.env)).all (fun x=>x.1.isSome)
  && decide ((e::es).length+([]:List Keyword).length+(if ([]:List Keyword).isEmpty then 0 else 1)<30))=true:=by rfl)
 (hline:(apos.endLine == cpos.line)=true:=by rfl) (hs:starEach (e::es) X.env=(false,eval e X.env)::starEach es X.env:=by rfl) (hplain:(backTo cpos (starEach es X.env)).any (·.1)=false:=by rfl) :
 PE X (.Call (.Attribute o name apos) (e::es) [] cpos) (tBM X.K T r to t):=by
 intro pins s σ H Q I h;refine wpAny_Call_method_late hbase hfew hline rfl (thn (ho pins s σ H _ I h) fun v s1 hI82=>?_);obtain⟨x,H1,I1,r1,ty,q1⟩:=hI82;obtain⟨h1,h2⟩:=wd3 I1 r1 ty;refine⟨T,id,pa,slot,hty,h1,h2,?_⟩;have hA:=ha cpos pins s1 σ H1 _ I1 q1;rw[hs] at hA ⊢;refine Calls.callWith_builtin (by show (false||(backTo cpos (starEach es X.env)).any (·.1))=false;rw[hplain]<;>rfl) (Calls.evalArgs_plain ?_);exact thn hA fun us s2 ⟨vs,H2,I2,r2,q2⟩=>hm pins s2 σ H2 x vs v us Q I2 r1 r2 q2
end
end L2
namespace L2
open PySem PySem.Spec PyProof.Rows
noncomputable def MtM (X:Cx) (id:String) (r:V->List V->Hp->VK->Prop):Prop:=
 ∀(pins:List (Addr×Obj)) (s:Shared) (σ:St) (H:Hp) (x:V) (xs:List V) (v:Value) (us:List Value) (Q:VK),Inv X pins σ H s->zf0 x v->zf8 xs us->r x xs H Q->
  wpAny (model X.prog X.w) X.A (call (.builtin id) (v::us)) (EP X pins σ Q) X.xe s
theorem zf8.unc {x:V} {xs:List V} {us:List Value} (h:zf8 (x::xs) us):∃u r,us=u::r/\zf0 x u/\zf8 xs r:=by
 cases h with
 | cons r t=>exact⟨_,_,rfl,r,t⟩
theorem zf8.unn {us:List Value} (h:zf8 [] us):us=[]:=by
 cases h;rfl
theorem zf8.one {x:V} {us:List Value} (h:zf8 [x] us):∃u,us=[u]/\zf0 x u:=by
 obtain⟨u,r,e,a,b⟩:=h.unc;rw[b.unn] at e;exact⟨u,e,a⟩
theorem zf8.zero:∀{us:List Value},zf8 [] us->us=[]
 | _,.nil=>rfl
theorem zf8.dropLast {xs:List V} {us:List Value} (h:zf8 xs us):zf8 xs.dropLast us.dropLast:=by
 induction h with
 | nil=>exact .nil
 | cons r t ih=>
   cases t with
   | nil=>exact .nil
   | cons q t'=>exact .cons r ih
theorem zf8.reverse {xs:List V} {us:List Value} (h:zf8 xs us):zf8 xs.reverse us.reverse:=by
 induction h with
 | nil=>exact .nil
 | cons r t ih=>rw[List.reverse_cons,List.reverse_cons];exact zf8.append ih (.cons r .nil)
theorem zf8.rep {xs:List V} {us:List Value} (h:zf8 xs us):∀k:Nat,zf8 (List.replicate k xs).flatten (List.replicate k us).flatten
 | 0=>.nil
 | k+1=>by
   rw[Bs0,Bs0,Ca0,Ca0];exact zf8.append h (zf8.rep h k)
theorem xi9 {α:Type} (l:List α):l.eraseIdx (l.length-1)=l.dropLast:=by
 induction l with
 | nil=>rfl
 | cons a r ih=>
   cases r with
   | nil=>rfl
   | cons b r=>
     have e:(a::b::r).length-1=((b::r).length-1)+1:=by
      have h1:(a::b::r).length=r.length+2:=rfl;have h2:(b::r).length=r.length+1:=rfl;omega
     rw[e,List.eraseIdx_cons_succ,ih]
     all_goals rfl
theorem yt3 (its:List Value):∀(k:Nat) (acc:List Value),
 List.foldl (fun x1 x2=>x1++x2) acc.toArray (List.replicate k its.toArray)=(acc++(List.replicate k its).flatten).toArray
 | 0,acc=>by simp
 | k+1,acc=>by
   have e:acc.toArray++its.toArray=(acc++its).toArray:=by simp
   have e2:(acc++its)++(List.replicate k its).flatten=acc++(List.replicate (k+1) its).flatten:=by
    rw[Bs0,Ca0,Aq0]
   rw[<-e2,<-yt3 its k (acc++its),<-e,Bs0,List.foldl_cons]
section
variable {X:Cx} {pins:List (Addr×Obj)} {σ:St} {H:Hp} {s:Shared} {l b:Addr} {xs ys zs:List V}
theorem Inv.lset {its its':List Value} {n:Nat} {f:Array Value->Array Value} {t':Nat} (I:Inv X pins σ H s) (hH:H l=some (.lst xs))
 (e:s.heap.get? l=some { cls:=.type "list",data:=.seq its.toArray n }) (hf:f its.toArray=its'.toArray) (hv:zf8 ys its') (hz:ys.length<=sizeLine) :
 Inv X pins σ (upd H l (.lst ys)) { s with heap:=s.heap.update l (Obj.mapSeq f),toks:=t' }:=by
 have q:=PySem.IsL.update e f;rw[hf] at q;refine I.write (x:=l) (e:=l) (by rw[hH];exact trivial) (.inl rfl) (fun b' u hb hu=>(Ay0 s.heap (Obj.mapSeq f) (Ne.symm hb)).trans hu) ⟨_,q⟩ ?_;exact⟨hz,its',_,hv,q⟩
theorem Inv.lnew {its:List Value} {t':Nat} (I:Inv X pins σ H s) (hv:zf8 ys its) (hz:ys.length<=sizeLine) :
 Inv X pins σ (upd H s.heap.objs.size (.lst ys)) { s with heap:=s.heap.push { cls:=.type "list",data:=.seq its.toArray },toks:=t' }:=
 I.laid (fun _ _ q=>Aa0 _ q) (Ac0 _) ⟨hz,its,0,hv,Ad0 _ rfl⟩
theorem Inv.fresh (I:Inv X pins σ H s):H s.heap.objs.size=none:=I.hok.fresh (Ac0 _)
theorem Inv.lstM (I:Inv X pins σ H s) (hH:H l=some (.lst xs)):xs.length<=sizeLine/\∃(its:List Value) (n:Nat),zf8 xs its/\xs.length=its.length/\s.heap.get? l=some { cls:=.type "list",data:=.seq its.toArray n }:=by
 obtain⟨z,its,n,r,e⟩:=I.hok l _ hH;exact⟨z,its,n,r,r.length,e⟩
theorem xc4 {n:Nat} (h:n<=sizeLine):Builtin.List.listTooLong n=false:=by
 unfold Builtin.List.listTooLong;exact decide_eq_false (by omega)
end
section
variable {X:Cx}
noncomputable def xn3:V->List V->Hp->VK->Prop:=fun x vs H Q=>∃l xs y,x=.ref l/\vs=[y]/\H l=some (.lst xs)/\xs.length<sizeLine/\Q .non (upd H l (.lst (xs++[y])))
theorem zm6:MtM X "list.append" xn3:=by
 intro pins s σ H x vs v us Q I rx rv h;obtain⟨l,xs,y,rfl,rfl,hH,hz,q⟩:=h;cases rx;obtain⟨u,rfl,ru⟩:=rv.one;obtain⟨z,its,n,r,hl,e⟩:=I.lstM hH;refine call_meets F.slot_list_append ⟨_,e,rfl⟩ F.entry_list_append (F.args_list_append_2 _ _) (PySem.list_append l its.toArray n u (by rw[Af0];omega)) ⟨e,?_⟩;refine⟨.non,_,I.lset (its':=its++[u]) hH e (by simp) (r.append (.cons ru .nil)) ?_,rfl,q⟩;rw[Al0,List.length_singleton];omega
noncomputable def xn2:V->List V->Hp->VK->Prop:=fun x vs H Q=>∃l b xs zs,x=.ref l/\vs=[.ref b]/\H l=some (.lst xs)/\H b=some (.lst zs)/\xs.length+zs.length<=sizeLine/\Q .non (upd H l (.lst (xs++zs)))
theorem yr6:MtM X "list.extend" xn2:=by
 intro pins s σ H x vs v us Q I rx rv h;obtain⟨l,b,xs,zs,rfl,rfl,hH,hB,hz,q⟩:=h;cases rx;obtain⟨u,rfl,ru⟩:=rv.one;cases ru;obtain⟨z,its,n,r,hl,e⟩:=I.lstM hH;obtain⟨z2,its2,n2,r2,hl2,e2⟩:=I.lstM hB;have hsz:its.toArray.size+its2.toArray.size<=sizeLine:=by rw[Af0,Af0];omega
 have hlong:¬(!its.toArray.isEmpty&&Builtin.List.listTooLong (its.toArray.size+its2.toArray.size))=true:=by
  rw[xc4 hsz,Bool.and_false];exact Am0
 refine call_meets F.slot_list_extend ⟨_,e,rfl⟩ F.entry_list_extend (F.args_list_extend_2 _ _)
  (AutoSeq1.list_extend_list_list_0 l its.toArray n b its2.toArray n2 hlong (by rw[Af0];omega) (by omega)) ⟨e,e2,?_⟩
 refine⟨.non,_,I.lset (its':=its++its2) hH e (by simp) (r.append r2) ?_,rfl,q⟩;rw[Al0];omega
noncomputable def vm4:V->List V->Hp->VK->Prop:=fun x vs H Q=>∃l xs y,x=.ref l/\vs=[]/\H l=some (.lst xs)/\xs[xs.length-1]?=some y/\Q y (upd H l (.lst xs.dropLast))
theorem ww9:MtM X "list.pop" vm4:=by
 intro pins s σ H x vs v us Q I rx rv h;obtain⟨l,xs,y,rfl,rfl,hH,hy,q⟩:=h;cases rx;have hus:=rv.zero;subst hus;obtain⟨z,its,n,r,hl,e⟩:=I.lstM hH;obtain⟨u,hu,ru⟩:=r.get hy;have hy':its.toArray[its.toArray.size-1]?=some u:=by
  show its.toArray[its.length-1]?=some u;rw[<-Array.getElem?_toList,<-hl];exact hu
 refine call_meets F.slot_list_pop ⟨_,e,rfl⟩ F.entry_list_pop (F.args_list_pop_1 _) (MeetsSeq.list_pop_last l its.toArray n u hy' (by rw[Af0];omega)) ⟨e,?_⟩;refine⟨y,_,I.lset (its':=its.dropLast) hH e ?_ r.dropLast ?_,ru,q⟩
 ·show its.toArray.eraseIdxIfInBounds (its.toArray.size-1)=its.dropLast.toArray
  rw[Af0,List.eraseIdxIfInBounds_toArray,xi9]
 ·rw[List.length_dropLast]
  omega
noncomputable def vb8:R2:=fun x y H Q=>∃l b xs zs,x=.ref l/\y=.ref b/\H l=some (.lst xs)/\H b=some (.lst zs)/\xs.length+zs.length<=sizeLine/\∀p,H p=none->Q (.ref p) (upd H p (.lst (xs++zs)))
theorem ww1:OpR X (binaryOp .Add) vb8:=by
 intro pins s σ H x y v u Q I rx ry h;obtain⟨l,b,xs,zs,rfl,rfl,hH,hB,hz,q⟩:=h;cases rx;cases ry;obtain⟨z,its,n,r,hl,e⟩:=I.lstM hH;obtain⟨z2,its2,n2,r2,hl2,e2⟩:=I.lstM hB;refine PySem.P.add_list e e2 ?_ (by rw[Af0,Af0];omega);have ea:its.toArray++its2.toArray=(its++its2).toArray:=by simp
 rw[ea];exact⟨.ref _,_,I.lnew (t':=s.toks) (r.append r2) (by rw[Al0];omega),rfl,q _ I.fresh⟩
noncomputable def vb7:R2:=fun x y H Q=>∃l k xs,x=.ref l/\y=.int k/\H l=some (.lst xs)/\-(2 ^ 63)<=k/\k<2 ^ 63/\xs.length*k.toNat<=sizeLine/\
 ∀p,H p=none->Q (.ref p) (upd H p (.lst (List.replicate k.toNat xs).flatten))
theorem wn4 {α:Type} (xs:List α) (k:Nat):(List.replicate k xs).flatten.length=k*xs.length:=by
 induction k with
 | zero=>simp
 | succ k ih=>rw[Bs0,Ca0,Al0,ih,Nat.succ_mul,Nat.add_comm]
theorem ww0:OpR X (binaryOp .Mult) vb7:=by
 intro pins s σ H x y v u Q I rx ry h;obtain⟨l,k,xs,rfl,rfl,hH,h1,h2,hz,q⟩:=h;cases rx;obtain⟨t,rfl⟩:=ry;obtain⟨z,its,n,r,hl,e⟩:=I.lstM hH;have hlen:its.toArray.size*k.toNat<=sizeLine:=by rw[Af0,<-hl];exact hz
 have hcap:¬its.toArray.size*k.toNat>(2 ^ 63-1) / 8:=by
  have:(sizeLine:Nat)<=(2 ^ 63-1) / 8:=by decide
  omega
 have hfit:¬(!Builtin.List.listFitsIndex k)=true:=by
  rw[fitsIndex_both h1 h2];exact Am0
 have hlong:¬Builtin.List.listTooLong (its.toArray.size*k.toNat)=true:=by
  rw[xc4 hlen];exact Am0
 have hnew:List.foldl (fun x1 x2=>x1++x2) #[] (List.replicate (if its.toArray.isEmpty=true then 0 else k.toNat) its.toArray)=(List.replicate k.toNat its).flatten.toArray:=by
  have f0:∀m:Nat,List.foldl (fun x1 x2=>x1++x2) #[] (List.replicate m its.toArray)=(List.replicate m its).flatten.toArray:=fun m=>by
   have:=yt3 its m [];rw[List.nil_append] at this;exact this
  rw[f0];cases its with
  | nil=>simp
  | cons a r'=>rw[if_neg (by simp)]
 refine wpAny_binaryOp_repeat_ref (T:="list") (U:="int") (by decide) ⟨_,e,rfl⟩ (fun s'=>typeIs_int s' k t) noFill_list_mul F.fills_int_mul F.slot_int_rmul repeat_list F.slot_int_index.lookup
  (call_meets F.slot_int_rmul (typeIs_int s k t) F.entry_int_rmul (F.args_int_rmul_2 _ _) (int___rmul___int_list k t l its.toArray n)
   ⟨e,rfl,⟨_,e,rfl⟩,call_meets F.slot_list_mul ⟨_,e,rfl⟩ F.entry_list_mul (F.args_list_mul_2 _ _) (AutoListH.list___mul___list_int_3 l its.toArray n k t hfit hcap hlong) ⟨e,?_⟩⟩)
 rw[hnew];exact⟨.ref _,_,I.lnew (t':=s.toks) (r.rep k.toNat) (by rw[wn4,Nat.mul_comm];exact hz),rfl,q _ I.fresh⟩
end
section
variable {prog:Program} {w:World} {A:Around} {E:Value->Shared->Prop} {s:Shared}
end
section
variable {X:Cx}
end
end L2
namespace Att
open PySem PySem.W PySem.Calls PyProof.Rows
theorem yf6 {P:Params} {h:Heap}:∀(ns:List Int) (vs:List Value),WellAll P h vs (ns.map WData.int)->IntsAre vs ns:=by
 intro ns;induction ns with
 | nil=>
   intro vs w;rw[Ce0] at w;cases w;exact .nil
 | cons n ns ih=>
   intro vs w;rw[Ao0] at w;cases w with
   | cons a b=>
     cases a;exact .cons _ _ (ih _ b)
theorem xm3 {l:OpenLaw} {n:Nat} (hn:l.most=some n) {P:Params} {h:Heap} {args:List WData} {vals:List Value}
 (hpre:l.row.toRowW.claim.pre args=true) (hwl:WellAll P h vals args) :
 ∃a vs ns,vals=[Value.ref a]/\args=[WData.list (ns.map WData.int)]/\h.get? a=some { cls:=.type "list",data:=.seq vs.toArray }/\IntsAre vs ns/\ns.length<=n:=by
 have hsh:WShape.hasAll [] args [.list .int]=true:=(pre_splitW hpre).1;have hc:l.pre.holds [] { args:=args }=true:=(pre_splitW hpre).2;obtain⟨d,r,rfl,h1,h2⟩:=hasAllW_cons hsh;obtain rfl:=hasAllW_nil h2;obtain⟨xs,rfl,h3⟩:=hasW_list h1;obtain⟨ns,rfl⟩:=items_int h3;have hlen:ns.length<=n:=by
  unfold OpenLaw.pre at hc;have h4:(WTm.not (.lt (.lit (.int (n:Int))) (.len (.arg 0)))).holds [] { args:=[.list (ns.map .int)] }=true:=by
   have h4:=(holds_andW hc).1;rw[hn] at h4;exact h4
  have h5:=condW_of h4 (w_not (w_lt w_lit (w_len_list (w_arg rfl))));rw[Ab0] at h5;refine Nat.le_of_not_lt fun q=>?_
  have q':(n:Int)<((ns.length:Nat):Int):=by omega
  first
   | (rw[decide_eq_true q'] at h5;exact absurd h5 (by decide))
   | (simp at h5;omega)
 cases hwl with
 | cons w1 w2=>
   cases w2;cases w1 with
   | list ho hall=>exact⟨_,_,ns,rfl,rfl,ho,yf6 ns _ hall,hlen⟩
theorem xn6 (l:OpenLaw) (args:List WData):l.row.toRowW.claim.post args (.bool true) args=true:=
 postW_of (r:=l.row.toRowW) (X:=(true == true))
  (show WShape.has [] (.bool true) .bool=true by first | rfl | decide | simp[WShape.has,WShape.arms,WShape.armsAll])
  (show (WTm.eq .res (.lit (.bool true))).value [] { args:=args,res:=some (.bool true),after:=args }=some (.bool (true == true)) from w_eq_bool (w_res rfl) w_lit) rfl
theorem attach_call {l:OpenLaw} {n:Nat} {q:Program} {loose:List Str} {XP:(Str->Option Value)->Heap->Prop} {YP:World->Heap->Prop} {d:DefRec}
 (hn:l.most=some n) (hdf:d.params.defaults=[])
 (call:∀(w:World) (s₀ s₁:Shared) (mg mb:Str->Option Value) (fa:Addr) (o:Obj) (pm cd doc:Value) (a:Addr) (vs:List Value) (ns:List Int),
  Ground q loose [] XP w s₀ mg mb s₁.heap->YP w s₁.heap->
  s₁.heap.get? fa=some o->o.data=.func (docDef d.name d.params d.body d.scope pm cd doc)->s₁.heap.CodeRec cd d.name->mg d.name=some (.ref fa)->
  s₁.heap.get? a=some { cls:=.type "list",data:=.seq vs.toArray }->IntsAre vs ns->ns.length<=n->s₁.gens=#[]->
  codeAny (model l.prog w) callerA (.call (.ref fa) ⟨[.ref a],[]⟩) (fun r s'=>r=.ok (.ret (.bool true))/\OldK s₁.heap s'.heap/\s'.os=s₁.os/\AllBare s'.gens) s₁) :
 WalkO q loose XP YP l.row.toRowW d [] (fun f vs=>PySem.call f vs):=by
 intro w s₀ s₁ mg mb G Y fa o pm cd doc dV kV ho hd hcd hD hmg hg args vals as hpre hlay hrd hwl hlo;obtain rfl:dV=.none:=Dflts.none hD hdf;obtain rfl:kV=.none:=Dflts.noKw hD;obtain⟨a,vs,ns,rfl,rfl,hobj,hints,hlen⟩:=xm3 hn hpre hwl;refine enter_call (codeAny_mono (call w s₀ s₁ mg mb fa o pm cd doc a vs ns G Y ho (fd_plain hd) hcd hmg hobj hints hlen hg) fun r s' hq=>?_);obtain⟨rfl,h2,h3,h4⟩:=hq;exact⟨.inl ⟨.bool true,.bool true,[],rfl,fun _=>rfl,.bool true,xn6 l _,fun _=>⟨List.Pairwise.nil,fun _ hm=>(nomatch hm)⟩⟩,h2,h3,h4⟩
section
variable {prog:Program} {w:World} {A:Around} {E:Value->Shared->Prop} {s:Shared} {K:Frag}
end
end Att
namespace L2
open PySem PySem.Spec PyProof.Rows
theorem yp1:∀{vs:List Value} {ns:List Int},IntsAre vs ns->zf8 (ns.map V.int) vs
 | _,_,.nil=>.nil
 | _,_,.cons n t h=>.cons ⟨t,rfl⟩ (yp1 h)
noncomputable def vi0 (H:Hp):Prop:=∀b,H b=none\/∃o xs,H b=some (.frz o (.lst xs))
set_option tactic.hygienic true in
theorem wa2 {P:Program} {w:World} {K:PySem.W.Frag} {mg mb:Str->Option Value} {CX:CXT} {k:Nat} {fa a:Addr} {fd:FuncData} {x:Str} {sp:Sp} {s₁:Shared} {vs:List Value} {ns:List Int}
 (KX:K.In s₁.heap) (hns:s₁.heap.Ns mainGlobals mg) (hb:s₁.heap.Ns builtinsNs mb) (hbb:∀x:Str,x≠"__name__"->mb x=bootBuiltins x) (hlim:s₁.heap.NoLimit) (hg:s₁.gens=#[])
 (ha:s₁.heap.get? a=some { cls:=.type "list",data:=.seq vs.toArray }) (hi:IntsAre vs ns) (hl:ns.length<=sizeLine) (hr:zl9 k callerA)
 (F:∀base:Heap,K.In base->base.Ns mainGlobals mg->zp9 P w K mg base CX k fa fd [x] sp) (hbind:∀(s:Shared) (u:Value),BindsTo s fd ⟨[u],[]⟩ [(x,u)])
 (hsp:∀H:Hp,vi0 H->SqL K H a (ns.map V.int)->sp [.ref a] H (fun v _=>v=.bl true) fun _ _ _=>False)
 (hCX:∀H e s',CX [] H s₁ (fun _ _ _=>False) e s'->False) :
 codeAny (model P w) callerA (.call (.ref fa) ⟨[.ref a],[]⟩) (fun r s'=>r=.ok (.ret (.bool true))/\OldK s₁.heap s'.heap/\s'.os=s₁.os/\AllBare s'.gens) s₁:=by
 have rv:=yp1 hi;have lenV:=hi.length
 -- from an abstract heap in which nothing but the script may be tracked
 have core:∀H:Hp,vi0 H->SqL K H a (ns.map V.int)->HOk P w H s₁.heap->(∀b,H b≠none->b=a)->(H a≠none->K.lookup a=none)->
  codeAny (model P w) callerA (.call (.ref fa) ⟨[.ref a],[]⟩) (fun r s'=>r=.ok (.ret (.bool true))/\OldK s₁.heap s'.heap/\s'.os=s₁.os/\AllBare s'.gens) s₁:=by
  intro H hO hS hok hA hK;have base_of:∀{b:Addr} {o:Obj},s₁.heap.get? b=some o->H b=none->(wb0 s₁.heap H).get? b=some o:=fun e n=>wa9 e n
  have noA:∀{b:Addr} {o:Obj} {es:Array DictEntry} {ep:Nat},s₁.heap.get? b=some o->o.data=.dict es ep->H b=none:=fun {b o es ep} e d=>by
   cases q:H b with
   | none=>rfl
   | some u=>
     have e':b=a:=hA b (by rw[q];simp);subst e';rw[ha] at e;cases e;have d':Data.seq vs.toArray _=Data.dict es ep:=d;cases d'
  have nsK:∀{b:Addr} {m:Str->Option Value},s₁.heap.Ns b m->(wb0 s₁.heap H).Ns b m:=fun {b m} ⟨o,es,ep,e,d,r⟩=>⟨o,es,ep,base_of e (noA e d),d,r⟩
  have hKb:K.In (wb0 s₁.heap H):=fun b o e=>base_of (KX b o e) (by
   cases q:H b with
   | none=>rfl
   | some u=>
     have e':b=a:=hA b (by rw[q];simp);subst e';rw[hK (by rw[q];simp)] at e;cases e)
  have hM:Mod K mg (wb0 s₁.heap H):=⟨hKb,nsK hns,⟨mb,nsK hb,hbb⟩,let ⟨mc,h1,h2⟩:=hlim;⟨mc,nsK h1,h2⟩⟩;have e0:vc8 P w K mg (wb0 s₁.heap H) callerA [] s₁ H:=⟨rfl,hM,fun b o e=>wm0 e,Nat.le_of_eq (xs1 _ _),trivial,fun b hb=>absurd (show b∈([]:List Addr) from hb) (by simp),hok,.of_eq hg⟩;refine codeAny_mono ((F _ hKb (nsK hns)).run callerA [] s₁ H ⟨[.ref a],[]⟩ [.ref a] [.ref a] _ _ hr e0 (hbind s₁ (.ref a)) (.cons rfl .nil) (hsp H hO hS)) fun r s' h=>?_
  cases r with
  | error e=>exact(hCX H e s' h).elim
  | ok fl=>
    cases fl with
    | next=>exact False.elim h
    | brk=>exact False.elim h
    | cont=>exact False.elim h
    | ret u=>
      obtain⟨v,H',os,bare,un,hok',r',q⟩:=h;have q':v=.bl true:=q;subst q';obtain rfl:u=Value.bool true:=r';refine⟨rfl,OldK.of_keep fun b o e=>?_,os,bare⟩;cases q:H b with
      | none=>exact un.keep b o e q (by intro z;exact absurd (show b∈([]:List Addr) from z) (by simp)) (by simp)
      | some u=>
        rcases hO b with z | ⟨ob,xs,z⟩
        ·rw[q] at z;cases z
        ·have z2:=un.frzs b ob _ z
         obtain⟨e1,_⟩:=hok b _ z;obtain⟨e2,_⟩:=hok' b _ z2;rw[e] at e1;cases e1;exact e2
 cases hk:K.lookup a with
 | some o=>
   -- the script is one of the module's own objects
   have e:=KX a o hk;rw[ha] at e;cases e;refine core (fun _=>none) (fun _=>.inl rfl) (.inr ⟨_,vs.toArray,_,hk,rfl,rfl,rfl,by rw[Af0,lenV];exact hl,by simpa using rv⟩) (fun b u z=>by have z':(none:Option HO)=some u:=z;cases z') (fun b z=>absurd rfl z) fun z=>absurd rfl z
 | none=>
   refine core (fun b=>if b=a then some (.frz { cls:=.type "list",data:=.seq vs.toArray } (.lst (ns.map V.int))) else none) (fun b=>?_) (.inl (.inr ⟨{ cls:=.type "list",data:=.seq vs.toArray },if_pos rfl⟩)) (fun b u z=>?_) (fun b z=>?_) fun _=>hk
   ·by_cases hb:b=a
    ·exact .inr ⟨_,_,if_pos hb⟩
    ·exact .inl (if_neg hb)
   ·by_cases hb:b=a
    ·have z':=(if_pos hb).symm.trans z
     cases z';subst hb;exact⟨ha,by rw[Ab0];exact hl,vs,_,rv,ha⟩
    ·have z':=(if_neg hb).symm.trans z
     cases z'
   ·by_cases hb:b=a
    ·exact hb
    ·exact absurd (if_neg hb) z
end L2
namespace L2
open PySem PySem.Spec PyProof.Rows
theorem walk_of {l:PySem.W.OpenLaw} {n k:Nat} {q:Program} {loose:List Str} {XP:(Str->Option Value)->Heap->Prop} {YP:World->Heap->Prop} {d:DefRec} {K:Params->PySem.W.Frag} {CX:World->CXT} {sp:World->Sp} {x:Str}
 (hn:l.most=some n) (hn2:n<=sizeLine) (hdf:d.params.defaults=[]) (hr:zl9 k callerA)
 (hY:∀(w:World) (h:Heap),YP w h->(K w.params).In h)
 (F:∀(w:World) (mg:Str->Option Value) (fa:Addr) (h:Heap),(K w.params).In h->h.Ns mainGlobals mg->mg d.name=some (.ref fa)->
  ∃fd:FuncData,(∀(s:Shared) (u:Value),BindsTo s fd ⟨[u],[]⟩ [(x,u)])/\
   ∀base:Heap,(K w.params).In base->base.Ns mainGlobals mg->zp9 l.prog w (K w.params) mg base (CX w) k fa fd [x] (sp w))
 (hsp:∀(w:World) (H:Hp) (a:Addr) (ns:List Int),ns.length<=n->vi0 H->SqL (K w.params) H a (ns.map V.int)->sp w [.ref a] H (fun v _=>v=.bl true) fun _ _ _=>False)
 (hCX:∀(w:World) (H:Hp) (s:Shared) (e:Value) (s':Shared),CX w [] H s (fun _ _ _=>False) e s'->False) :
 PySem.W.WalkO q loose XP YP l.row.toRowW d [] (fun f vs=>PySem.call f vs):=by
 refine Att.attach_call hn hdf fun w s₀ s₁ mg mb fa o pm cd doc a vs ns G Y ho hd hcd hmg hobj hints hlen hg=>?_
 have KX:=hY w _ Y;obtain⟨fd,hb,hF⟩:=F w mg fa _ KX G.T.g hmg;exact wa2 KX G.T.g G.T.b G.T.builtins G.T.nolimit hg hobj hints (Be0 hlen hn2) hr hF hb (fun H hO hS=>hsp w H a ns hlen hO hS) fun H e s'=>hCX w H s₁ e s'
end L2
namespace L2
open PySem PySem.Spec PyProof.Rows
noncomputable def zd0 (s:Stmt):Arguments:=match s with
 | .FunctionDef _ a _ _ _ _ _ _ _ _=>a
 | _=>{ posonlyargs:=[],args:=[],vararg:=none,kwonlyargs:=[],kw_defaults:=[],kwarg:=none,defaults:=[] }
noncomputable def zb2 (s:Stmt):List Stmt:=match s with
 | .FunctionDef _ _ b _ _ _ _ _ _ _=>b
 | _=>[]
noncomputable def za1 (s:Stmt):Scope:=match s with
 | .FunctionDef _ _ _ _ _ _ sc _ _ _=>sc
 | _=>{ kind:=.function,names:=[],isGenerator:=false,isCoroutine:=false }
noncomputable abbrev CX0:CXT:=fun _ _ _ _ _ _=>False
noncomputable abbrev E0:XK:=fun _ _ _=>False
theorem wl4 {X:Cx}:xv6 CX0 X E0:=fun _ _ _ _ _ _ _ h=>h.elim
structure Fun (K:PySem.W.Frag) (x qual:Str) (st:Stmt) (f:Addr) (fd:FuncData):Prop where
 ex:∃(oc:Value) (od:Option Addr) (kV doc pm:Value) (an:Option Addr) (cdv ct:Value) (osl:Array (Option Value)),
  fd=PySem.W.fnOf x qual (zd0 st) (zb2 st) (za1 st) .none kV doc pm an cdv ct/\K.lookup f=some ⟨oc,od,.func fd,osl⟩/\PySem.W.codeIn K cdv qual=true
 kp:PySem.W.keepIn K (.ref f)=true
section
variable {P:Program} {w:World} {K:PySem.W.Frag} {mg:Str->Option Value} {base:Heap}
theorem Fun.ok {x qual:Str} {st:Stmt} {f:Addr} {fd:FuncData} {N ps:List Str} {k:Nat} {sp:Sp} (F:Fun K x qual st f fd) (S:zd1 N ps (za1 st)) (len:∀vs H Q E,sp vs H Q E->vs.length=ps.length)
 (hbody:∀(cdv:Value) (A:Around) (outer:List Env) (s:Shared) (H:Hp) (vs:List V) (Q:VK) (E:XK),zl9 k (A.deeper (envOfC qual (za1 st) s.heap.objs.size f cdv))->sp vs H Q E->
  ∃t,PSs (zw3 CX0 P w K mg base N qual (za1 st) f cdv A outer s H E).nox (zb2 st) t/\t { nx:=fun _ H'=>Q .non H',rt:=Q } (zu4 N vs) H):zp9 P w K mg base CX0 (k+1) f fd ps sp:=by
 obtain⟨oc,od,kV,doc,pm,an,cdv,ct,osl,rfl,lk,hcd⟩:=F.ex;refine vg6 lk hcd S len fun A outer s H vs Q E hr hsp=>?_
 obtain⟨t,h,q⟩:=hbody cdv A outer s H vs Q E hr hsp;exact⟨t,h.nox,q⟩
theorem Fun.binds {x qual:Str} {st:Stmt} {f:Addr} {fd:FuncData} {ps:List Str} (F:Fun K x qual st f fd)
 (h:∀(kV doc pm:Value) (an:Option Addr) (cdv ct:Value) (us:List Value),us.length=ps.length->bindArgs (PySem.W.fnOf x qual (zd0 st) (zb2 st) (za1 st) .none kV doc pm an cdv ct) ⟨us,[]⟩=pure (ps.zip us)):xj5 K fd ps []:=by
 obtain⟨oc,od,kV,doc,pm,an,cdv,ct,osl,rfl,lk,hcd⟩:=F.ex;exact .all (h kV doc pm an cdv ct)
theorem zh3 {x qual:Str} {st:Stmt} {f:Addr} {oc:Value} {od an:Option Addr} {osl:Array (Option Value)} {kV doc pm cdv ct:Value} (l:K.lookup f=some ⟨oc,od,.func (PySem.W.fnOf x qual (zd0 st) (zb2 st) (za1 st) .none kV doc pm an cdv ct),osl⟩)
 (c:PySem.W.codeIn K cdv qual=true) (k:PySem.W.keepIn K (.ref f)=true):Fun K x qual st f (PySem.W.fnOf x qual (zd0 st) (zb2 st) (za1 st) .none kV doc pm an cdv ct):=⟨⟨oc,od,kV,doc,pm,an,cdv,ct,osl,rfl,l,c⟩,k⟩
end
theorem zu6 {A:Around} {k:Nat} (hr:zl9 k A):A.units+1<cLine:=Nat.lt_of_le_of_lt (Nat.add_le_add_left (by decide:1<=64) _) hr.units
theorem ye0 {n:Nat} (h:n<=1000):n<sizeLine:=Nat.lt_of_le_of_lt h (by decide)
section
variable {X:Cx}
theorem pv (i:Nat) {x:Str} {pos:Pos} (hN:X.N[i]?=some x:=by rfl) (hv:Vis X.env.scope x:=by first | exact Or.inl rfl | exact Or.inr (Or.inl rfl) | exact Or.inr (Or.inr rfl)) (hd:(x == ("__debug__" : Str))=false:=by decide)
 (hcd:(x == ("__classdict__" : Str))=false:=by decide):PE X (.Name x pos) (yh9 i):=wv3 hN hv hd hcd
end
theorem wy6 {A B:Prop} (h:B):if false=true then A else B:=by
 rw[if_neg Am0];exact h
theorem wr4 {A B:Prop} (h:A):if true=true then A else B:=by
 rw[if_pos rfl];exact h
noncomputable def yv3 (H H':Hp):Prop:=∀b o,H b=some o->H' b=some o
theorem yv3.refl (H:Hp):yv3 H H:=fun _ _ h=>h
end L2
namespace L2
open PySem PySem.Spec PyProof.Rows
section
variable {κ:Type} [DecidableEq κ]
noncomputable def yi9 (kvs:List (κ×V)) (k:κ):Option V:=(kvs.find? fun kv=>decide (kv.1=k)).map (·.2)
noncomputable def zv0 (kvs:List (κ×V)) (k:κ) (v:V):List (κ×V):=
 if (kvs.any fun kv=>decide (kv.1=k))=true then kvs.map (fun kv=>if kv.1=k then (kv.1,v) else kv) else kvs++[(k,v)]
theorem zq1 {p:κ×V} {r:List (κ×V)} {k:κ} (e:p.1=k):yi9 (p::r) k=some p.2:=by simp[yi9,Cb0,e]
theorem zq2 {p:κ×V} {r:List (κ×V)} {k:κ} (e:¬p.1=k):yi9 (p::r) k=yi9 r k:=by simp[yi9,Cb0,e]
theorem zx2 (k:κ):∀kvs:List (κ×V),(kvs.any fun kv=>decide (kv.1=k))=(yi9 kvs k).isSome
 | []=>rfl
 | p::r=>by
   rw[List.any_cons];by_cases e:p.1=k
   ·simp only[zq1 e,decide_eq_true e,Bool.true_or,Option.isSome_some]
   ·rw[zq2 e,decide_eq_false e,Bool.false_or];exact zx2 k r
theorem zm7 (kvs:List (κ×V)) (k:κ) (v:V):(zv0 kvs k v).length<=kvs.length+1:=by
 unfold zv0;split
 ·rw[Ab0];omega
 ·rw[Al0,An0,Br0];omega
theorem xj4.isSome_eq {o:Option V} {u:Option Value} (r:xj4 o u):o.isSome=u.isSome:=by
 cases o with
 | none=>cases u with
   | none=>rfl
   | some _=>exact(show False from r).elim
 | some _=>cases u with
   | none=>exact(show False from r).elim
   | some _=>rfl
theorem xj4.getD {o:Option V} {u:Option Value} {d:V} {d':Value} (r:xj4 o u) (rd:zf0 d d'):zf0 (o.getD d) (u.getD d'):=by
 cases o with
 | none=>cases u with
   | none=>exact rd
   | some _=>exact(show False from r).elim
 | some _=>cases u with
   | none=>exact(show False from r).elim
   | some _=>exact r
theorem KV.val {kvs:List (κ×V)} {vs:List (κ×Value)} (r:KV kvs vs) (k:κ):xj4 (yi9 kvs k) (valueAt vs k):=by
 unfold KV at r;induction r with
 | nil=>exact True.intro
 | @cons p q ps qs h t ih=>
   obtain⟨h1,h2⟩:=h;by_cases e:p.1=k
   ·have e':q.1=k:=h1.symm.trans e
    have b:valueAt (q::qs) k=some q.2:=by simp[valueAt,Cb0,e']
    rw[zq1 e,b];exact h2
   ·have e':¬q.1=k:=fun z=>e (h1.trans z)
    have b:valueAt (q::qs) k=valueAt qs k:=by simp[valueAt,Cb0,e']
    rw[zq2 e,b];exact ih
theorem KV.any {kvs:List (κ×V)} {vs:List (κ×Value)} (r:KV kvs vs) (k:κ):(kvs.any fun kv=>decide (kv.1=k))=vs.any fun kv=>decide (kv.1=k):=by
 unfold KV at r;induction r with
 | nil=>rfl
 | cons h t ih=>rw[List.any_cons,List.any_cons,ih,h.1]
theorem KV.repl {kvs:List (κ×V)} {vs:List (κ×Value)} (r:KV kvs vs) (k:κ) {y:V} {u:Value} (ry:zf0 y u) :
 KV (kvs.map fun kv=>if kv.1=k then (kv.1,y) else kv) (vs.map fun kv=>if kv.1=k then (kv.1,u) else kv):=by
 unfold KV at r ⊢;induction r with
 | nil=>exact .nil
 | @cons p q ps qs h t ih=>
   rw[Ao0,Ao0];refine .cons ?_ ih;obtain⟨h1,h2⟩:=h;by_cases e:p.1=k
   ·rw[if_pos e,if_pos (h1.symm.trans e)];exact⟨h1,ry⟩
   ·rw[if_neg e,if_neg (fun z=>e (h1.trans z))];exact⟨h1,h2⟩
theorem KV.put {kvs:List (κ×V)} {vs:List (κ×Value)} (r:KV kvs vs) (k:κ) {y:V} {u:Value} (ry:zf0 y u):KV (zv0 kvs k y) (stored vs k u):=by
 unfold zv0 stored;rw[r.any k];by_cases e:(vs.any fun kv=>decide (kv.1=k))=true
 ·rw[if_pos e,if_pos e];exact r.repl k ry
 ·rw[if_neg e,if_neg e];exact Paired.snoc r ⟨rfl,ry⟩
theorem KV.length {kvs:List (κ×V)} {vs:List (κ×Value)} (r:KV kvs vs):kvs.length=vs.length:=Paired.length r
end
theorem yy4 {P:Program} {w:World} {k:Key} {u:Value} (r:zf0 (kV k) u):(zg0 P w).is k u=true:=by
 cases k with
 | inl i=>obtain⟨t,e⟩:=(show ∃t,u=Value.int i t from r);subst e;exact yx9 P w i t
 | inr x=>obtain⟨t,e⟩:=(show ∃t,u=Value.str x t from r);subst e;exact yx8 P w x t
theorem yt0 {P:Program} {w:World}:∀{ks:List Key} {us:List Value},zf8 (ks.map kV) us->ItemsAre (zg0 P w) ks us
 | [],_,r=>by rw[Ce0] at r;cases r;exact .nil
 | k::ks,_,r=>by
   rw[Ao0] at r;cases r with
   | cons h t=>exact .cons (yy4 h) (yt0 t)
noncomputable abbrev KT (H:Hp):List (List Key×V)->List (List Key×Addr×Value)->Prop:=Paired fun p q=>p.1=q.1/\H q.2.1=some (.tup (p.1.map kV))/\zf0 p.2 q.2.2
theorem KT.val {H:Hp} {kvs:List (List Key×V)} {xs:List (List Key×Addr×Value)} (r:KT H kvs xs) (k:List Key):xj4 (yi9 kvs k) ((atKey xs k).map (·.2)):=by
 induction r with
 | nil=>exact True.intro
 | @cons p q ps qs h t ih=>
   obtain⟨h1,_,h2⟩:=h;by_cases e:p.1=k
   ·have e':q.1=k:=h1.symm.trans e
    have b:atKey (q::qs) k=some q.2:=by simp[atKey,Cb0,e']
    rw[zq1 e,b];exact h2
   ·have e':¬q.1=k:=fun z=>e (h1.trans z)
    have b:atKey (q::qs) k=atKey qs k:=by simp[atKey,Cb0,e']
    rw[zq2 e,b];exact ih
theorem KT.repl {H:Hp} {kvs:List (List Key×V)} {xs:List (List Key×Addr×Value)} (r:KT H kvs xs) (k:List Key) {y:V} {u:Value} (ry:zf0 y u) :
 KT H (kvs.map fun kv=>if kv.1=k then (kv.1,y) else kv) (xs.map (putAt k u)):=by
 induction r with
 | nil=>exact .nil
 | @cons p q ps qs h t ih=>
   rw[Ao0,Ao0];refine .cons ?_ ih;obtain⟨h1,h2,h3⟩:=h;unfold putAt;by_cases e:p.1=k
   ·rw[if_pos e,if_pos (h1.symm.trans e)];exact⟨h1,h2,ry⟩
   ·rw[if_neg e,if_neg (fun z=>e (h1.trans z))];exact⟨h1,h2,h3⟩
theorem KT.put {H:Hp} {kvs:List (List Key×V)} {xs:List (List Key×Addr×Value)} (r:KT H kvs xs) (k:List Key) {b:Addr} {y:V} {u:Value} (hb:H b=some (.tup (k.map kV))) (ry:zf0 y u) :
 KT H (zv0 kvs k y) (storedH xs k b u):=by
 have e:(kvs.any fun kv=>decide (kv.1=k))=(atKey xs k).isSome:=by
  rw[zx2,(r.val k).isSome_eq,Option.isSome_map]
 unfold zv0 storedH;rw[e];by_cases q:(atKey xs k).isSome=true
 ·rw[if_pos q,if_pos q];exact r.repl k ry
 ·rw[if_neg q,if_neg q];exact Paired.snoc r ⟨rfl,hb,ry⟩
theorem KT.keeps {H H':Hp} {kvs:List (List Key×V)} {xs:List (List Key×Addr×Value)} (r:KT H kvs xs) (ht:∀b ys,H b=some (.tup ys)->H' b=some (.tup ys)):KT H' kvs xs:=
 Paired.mapP r fun _ _ z=>⟨z.1,ht _ _ z.2.1,z.2.2⟩
section
variable {P:Program} {w:World} {H:Hp} {h:Heap} {a:Addr}
theorem wu6 {u:HO} (ok:HOk P w H h) (e:Rd H a u):zk1 P w H h a u:=e.ok ok
theorem yz3 {kvs:List (Key×V)} (ok:HOk P w H h) (e:Rd H a (.dK kvs)):kvs.length<=sizeLine/\(a == sysModules)=false/\∃vs,KV kvs vs/\h.DictOf (zg0 P w) a vs:=
 show zk1 P w H h a (.dK kvs) from wu6 ok e
theorem wz8 {kvs:List (Key×V)} (ok:HOk P w H h) (e:H a=some (.dK kvs)):kvs.length<=sizeLine/\(a == sysModules)=false/\∃vs,KV kvs vs/\h.DictOf (zg0 P w) a vs:=yz3 ok (.inl e)
theorem ya8 {ks:List Key} (ok:HOk P w H h) (e:H a=some (.tup (ks.map kV))):(tupleKind (zg0 P w)).is h ks a:=by
 obtain⟨_,its,r,o,h1,h2,n,h3⟩:=(show zk1 P w H h a (.tup (ks.map kV)) from ok a _ e);exact⟨o,its.toArray,n,h1,h2,h3,by simpa using yt0 r⟩
theorem yy9 {kvs:List (List Key×V)} (ok:HOk P w H h) (e:Rd H a (.dT kvs)):kvs.length<=sizeLine/\(a == sysModules)=false/\
 ∃xs,KT H kvs xs/\h.DictOfH (tupleKind (zg0 P w)) a xs:=by
 obtain⟨z,y,xs,r,o,es,ep,h1,h2,h3,h4,h5⟩:=(show zk1 P w H h a (.dT kvs) from wu6 ok e);refine⟨z,y,xs,r,o,es,ep,h1,h2,h3,h4,fun x hx=>?_,h5⟩;have all:∀{l:List (List Key×V)} {m:List (List Key×Addr×Value)},KT H l m->∀x∈m,(tupleKind (zg0 P w)).is h x.1 x.2.1:=by
  intro l m q;induction q with
  | nil=>intro x hx;exact nomatch hx
  | @cons p q ps qs hq t ih=>
    intro x hx;rcases Ah0.mp hx with e | hx
    ·subst e
     exact ya8 ok (by rw[<-hq.1];exact hq.2.1)
    ·exact ih x hx
 exact all r x hx
theorem wp5 {kvs:List (List Key×V)} (ok:HOk P w H h) (e:H a=some (.dT kvs)):kvs.length<=sizeLine/\(a == sysModules)=false/\
 ∃xs,KT H kvs xs/\h.DictOfH (tupleKind (zg0 P w)) a xs:=yy9 ok (.inl e)
end
noncomputable def yh7 (H:Hp) (a:Addr) (y:V) (r:Option V):Prop:=
 (∃kvs k,Rd H a (.dK kvs)/\y=kV k/\r=yi9 kvs k)\/∃kvs k b,Rd H a (.dT kvs)/\y=.ref b/\H b=some (.tup (k.map kV))/\r=yi9 kvs k
noncomputable def wd0 (H:Hp) (a:Addr) (y v:V) (H':Hp):Prop:=
 (∃kvs k,H a=some (.dK kvs)/\y=kV k/\kvs.length<sizeLine/\H'=upd H a (.dK (zv0 kvs k v)))\/
 ∃kvs k b,H a=some (.dT kvs)/\y=.ref b/\H b=some (.tup (k.map kV))/\kvs.length<sizeLine/\H'=upd H a (.dT (zv0 kvs k v))
theorem yh7.k {H:Hp} {a:Addr} {kvs:List (Key×V)} {k:Key} (e:H a=some (.dK kvs)):yh7 H a (kV k) (yi9 kvs k):=.inl ⟨kvs,k,.inl e,rfl,rfl⟩
theorem yh7.t {H:Hp} {a b:Addr} {kvs:List (List Key×V)} {k:List Key} (e:H a=some (.dT kvs)) (eb:H b=some (.tup (k.map kV))):yh7 H a (.ref b) (yi9 kvs k):=.inr ⟨kvs,k,b,.inl e,rfl,eb,rfl⟩
theorem wd0.k {H:Hp} {a:Addr} {kvs:List (Key×V)} {k:Key} {v:V} (e:H a=some (.dK kvs)) (hl:kvs.length<sizeLine):wd0 H a (kV k) v (upd H a (.dK (zv0 kvs k v))):=.inl ⟨kvs,k,e,rfl,hl,rfl⟩
theorem wd0.t {H:Hp} {a b:Addr} {kvs:List (List Key×V)} {k:List Key} {v:V} (e:H a=some (.dT kvs)) (eb:H b=some (.tup (k.map kV))) (hl:kvs.length<sizeLine) :
 wd0 H a (.ref b) v (upd H a (.dT (zv0 kvs k v))):=.inr ⟨kvs,k,b,e,rfl,eb,hl,rfl⟩
section
variable {X:Cx} {pins:List (Addr×Obj)} {σ:St} {H:Hp} {s:Shared} {a:Addr} {y v:V} {u r:Value} {o:Option V} {A:Around} {E:Value->Shared->Prop}
theorem Inv.big (I:Inv X pins σ H s):sysModules<s.heap.objs.size:=by
 have h:mainGlobals<s.heap.objs.size:=(I.mod.glob.keeps I.bk).lt;exact Nat.lt_trans (by decide) h
theorem xt8 {Q:Value->Shared->Prop} (hu:A.units+1<cLine) (I:Inv X pins σ H s) (g:yh7 H a y (some v)) (ry:zf0 y u) (h:∀w' s',Inv X pins σ H s'->zf0 v w'->Q w' s') :
 wpAny (model X.prog X.w) A (getItem (.ref a) u) Q E s:=by
 rcases g with⟨kvs,k,e,ey,l⟩ | ⟨kvs,k,b,e,ey,eb,l⟩
 ·subst ey
  obtain⟨z,hd,vs,rel,dd⟩:=yz3 I.hok e;obtain⟨w',hw,rw'⟩:=xj4.some_of (v:=v) (o:=valueAt vs k) (by rw[l];exact rel.val k);exact wpAny_getItem_of (yy4 ry) dd.mapOf hw (h w' _ (I.tok _) rw')
 ·subst ey
  cases (show u=Value.ref b from ry);obtain⟨z,hd,xs,rel,dd⟩:=yy9 I.hok e;obtain⟨w',hw,rw'⟩:=xj4.some_of (v:=v) (o:=(atKey xs k).map (·.2)) (by rw[l];exact rel.val k);obtain⟨p,hp,hp2⟩:=Option.map_eq_some_iff.mp hw;refine wpAny_getItem_heap (tupleKind_room_in1 hu) (ya8 I.hok eb) dd hp ?_;rw[hp2];exact h w' _ (I.tok _) rw'
theorem vn4 {Q:Value->Shared->Prop} (hu:A.units+1<cLine) (I:Inv X pins σ H s) (g:yh7 H a y o) (ry:zf0 y u) (h:∀s',Inv X pins σ H s'->Q (.bool o.isSome) s') :
 wpAny (model X.prog X.w) A (compareOp .In u (.ref a)) Q E s:=by
 rcases g with⟨kvs,k,e,ey,l⟩ | ⟨kvs,k,b,e,ey,eb,l⟩
 ·subst ey
  obtain⟨z,hd,vs,rel,dd⟩:=yz3 I.hok e;refine wpAny_in_of (yy4 ry) hd dd.mapOf ?_;rw[<-(rel.val k).isSome_eq,<-l];exact h _ (I.tok _)
 ·subst ey
  cases (show u=Value.ref b from ry);obtain⟨z,hd,xs,rel,dd⟩:=yy9 I.hok e;refine wpAny_in_heap (tupleKind_room_in1 hu) (ya8 I.hok eb) hd dd ?_;have q:=(rel.val k).isSome_eq;rw[Option.isSome_map] at q;rw[<-q,<-l];exact h _ (I.tok _)
theorem wq3 {Q:Value->Shared->Prop} (hu:A.units+1<cLine) (I:Inv X pins σ H s) (g:yh7 H a y o) (ry:zf0 y u) (h:∀s',Inv X pins σ H s'->Q (.bool (!o.isSome)) s') :
 wpAny (model X.prog X.w) A (compareOp .NotIn u (.ref a)) Q E s:=by
 rcases g with⟨kvs,k,e,ey,l⟩ | ⟨kvs,k,b,e,ey,eb,l⟩
 ·subst ey
  obtain⟨z,hd,vs,rel,dd⟩:=yz3 I.hok e;refine wpAny_notIn_of (yy4 ry) hd dd.mapOf ?_;rw[<-(rel.val k).isSome_eq,<-l];exact h _ (I.tok _)
 ·subst ey
  cases (show u=Value.ref b from ry);obtain⟨z,hd,xs,rel,dd⟩:=yy9 I.hok e;refine wpAny_notIn_heap (tupleKind_room_in1 hu) (ya8 I.hok eb) hd dd ?_;have q:=(rel.val k).isSome_eq;rw[Option.isSome_map] at q;rw[<-q,<-l];exact h _ (I.tok _)
theorem yh0 {h':Heap} {t':Nat} {ob:HO} (I:Inv X pins σ H s) (mu:Mut (H a)) (hs:Heap.SameBut a s.heap h') (he:∃q,h'.get? a=some q) (new:zk1 X.prog X.w (upd H a ob) h' a ob) :
 Inv X pins σ (upd H a ob) { s with heap:=h',toks:=t' }:=
 I.write (x:=a) (e:=a) mu (.inl rfl) (fun b q hb z=>(hs.2 b hb).trans z) he new
theorem wg1 {P:Program} {w:World} {H':Hp} {h':Heap} {kvs:List (Key×V)} {vs:List (Key×Value)} (z:kvs.length<=sizeLine) (hd:(a == sysModules)=false) (rel:KV kvs vs) (dd:h'.DictOf (zg0 P w) a vs) :
 zk1 P w H' h' a (.dK kvs):=⟨z,hd,vs,rel,dd⟩
theorem xt7 {H':Hp} {Q:Unit->Shared->Prop} (hu:A.units+1<cLine) (I:Inv X pins σ H s) (g:wd0 H a y v H') (ry:zf0 y u) (rv:zf0 v r) (h:∀s',Inv X pins σ H' s'->Q () s') :
 wpAny (model X.prog X.w) A (setItem (.ref a) u r) Q E s:=by
 rcases g with⟨kvs,k,e,ey,l,eH⟩ | ⟨kvs,k,b,e,ey,eb,l,eH⟩
 ·subst ey eH
  obtain⟨z,hd,vs,rel,dd⟩:=wz8 I.hok e;have hz:vs.length<=sizeLine:=by rw[<-rel.length];exact z
  have hl:(zv0 kvs k v).length<=sizeLine:=by have:=zm7 kvs k v;omega
  refine wpAny_setItem_pairs (hsz:=hz) (yy4 ry) dd fun h' dd' hs=>h _ ?_
  have he:∃q,h'.get? a=some q:=let ⟨q,_,_,hq,_⟩:=dd';⟨q,hq⟩;exact yh0 I (by rw[e];exact True.intro) hs he (wg1 hl hd (rel.put k rv) dd')
 ·subst ey eH
  cases (show u=Value.ref b from ry);obtain⟨z,hd,xs,rel,dd⟩:=wp5 I.hok e;have hz:xs.length<=sizeLine:=by rw[<-Paired.length rel];exact z
  have hl:(zv0 kvs k v).length<=sizeLine:=by have:=zm7 kvs k v;omega
  refine wpAny_setItem_heap (hsz:=hz) (tupleKind_room_in1 hu) (ya8 I.hok eb) dd fun h' dd' hs=>h _ ?_
  obtain⟨q,es,ep,hq,h2,h3,h4,_,h5⟩:=dd';refine yh0 I (by rw[e];exact True.intro) hs ⟨q,hq⟩ ⟨hl,hd,_,(rel.put k eb rv).keeps fun c ys ec=>?_,q,es,ep,hq,h2,h3,h4,h5⟩;rw[za9 (xp8 ec e (fun z=>nomatch z))];exact ec
end
section
variable {X:Cx} {pins:List (Addr×Obj)} {σ:St} {H:Hp} {s:Shared} {a:Addr} {kvs:List (Key×V)} {k:Key} {u:Value} {A:Around} {E:Value->Shared->Prop}
end
noncomputable def vi2 (i:Expr):Prop:=∀ov iv,subscripted i false ov iv=operate [ov,iv] (getItem ov iv)
theorem wj4 {prog:Program} {w:World} {A:Around} {E:Value->Shared->Prop} {s:Shared} {env:Env} {value slice:Expr} {pos:Pos} {T id:String} {Q:Value->Shared->Prop}
 (hl:typeLookup (.type T) "__getitem__" = pure (some (.builtin id))) (hs:vi2 slice)
 (h:wpAny (model prog w) A (eval value env) (fun o s₁=>wpAny (model prog w) A (eval slice env) (fun i s₂=>s₂.TypeIs o T/\wpAny (model prog w) A (getItem o i) Q E s₂) E s₁) E s) :
 wpAny (model prog w) A (eval (.Subscript value slice pos) env) Q E s:=by
 refine Subscript_ (wpAny_mono h (fun o s₁ h₁=>wpAny_mono h₁ (fun i s₂ h₂=>?_) fun _ _ x=>x) fun _ _ x=>x);obtain⟨hT,h₂⟩:=h₂;unfold subscriptTail;refine wpAny_bind ?_;rw[getitemInPython_of_ne hT.not_modules];refine wpAny_bind (wpAny_specialOf hT hl ?_);have fin:wpAny (model prog w) A (subscripted slice false o i) (fun r s₃=>wpAny (model prog w) A (letTemporaryGo value o r >>= fun _=>pure r) Q E s₃) E s₂:=by
  rw[hs o i];exact wpAny_operating (wpAny_mono h₂ (fun r s₃ h₃=>wpAny_bind (wpAny_letTemporaryGo (wpAny_pure h₃))) fun _ _ x=>x)
 first
  | exact wpAny_pure (wpAny_bind fin)
  | exact wpAny_bind (wpAny_pure (wpAny_bind fin))
  | exact wpAny_bind fin
theorem yz4 {X:Cx} {pins:List (Addr×Obj)} {σ:St} {H:Hp} {s:Shared} {a:Addr} {y:V} {o:Option V} (I:Inv X pins σ H s) (g:yh7 H a y o):s.TypeIs (.ref a) "dict":=by
 rcases g with⟨kvs,k,e,_,_⟩ | ⟨kvs,k,b,e,_,_,_⟩
 ·obtain⟨_,_,vs,_,dd⟩:=yz3 I.hok e
  exact dd.typeIs
 ·obtain⟨_,_,xs,_,dd⟩:=yy9 I.hok e
  exact dd.typeIs
noncomputable def ve0 (td ty:TE):TE:=fun σ H Q=>td σ H fun x H1=>ty σ H1 fun y H2=>∃a v,x=.ref a/\yh7 H2 a y (some v)/\Q v H2
noncomputable def vl8 (ty td:TE):TE:=fun σ H Q=>ty σ H fun y H1=>td σ H1 fun x H2=>∃a o,x=.ref a/\yh7 H2 a y o/\Q (.bl o.isSome) H2
noncomputable def wj0 (ty td:TE):TE:=fun σ H Q=>ty σ H fun y H1=>td σ H1 fun x H2=>∃a o,x=.ref a/\yh7 H2 a y o/\Q (.bl (!o.isSome)) H2
noncomputable def ve8 (td ty tv:TE):TS:=fun D σ H=>tv σ H fun v H1=>td σ H1 fun x H2=>ty σ H2 fun y H3=>∃a H4,x=.ref a/\wd0 H3 a y v H4/\D.nx σ H4
section
variable {X:Cx} {o i e value:Expr} {pos pos' tpos:Pos} {td ty tv:TE}
theorem ye3 (hu:X.A.units+1<cLine) (ho:PE X o td) (hi:PE X i ty) (hs:vi2 i):PE X (.Subscript o i pos) (ve0 td ty):=by
 intro pins s σ H Q I h;refine wj4 PySem.F.slot_dict_getitem.lookup hs (thn (ho pins s σ H _ I h) fun u s1 ⟨x,H1,I1,rx,q1⟩=>thn (hi pins s1 σ H1 _ I1 q1) fun iv s2 hI83=>?_);obtain⟨y,H2,I2,ry,a,v,ex,g,q2⟩:=hI83;subst ex;obtain rfl:u=Value.ref a:=rx;exact⟨yz4 I2 g,xt8 hu I2 g ry fun w' s3 I3 rw'=>⟨v,H2,I3,rw',q2⟩⟩
theorem we3 (hu:X.A.units+1<cLine) (hi:PE X i ty) (ho:PE X o td):PC X .In i o (vl8 ty td):=by
 intro pins s σ H Q I h;refine thn (hi pins s σ H _ I h) fun iv s1 ⟨y,H1,I1,ry,q1⟩=>thn (ho pins s1 σ H1 _ I1 q1) fun u s2 hI84=>?_
 obtain⟨x,H2,I2,rx,a,ov,ex,g,q2⟩:=hI84;subst ex;obtain rfl:u=Value.ref a:=rx;exact vn4 hu I2 g ry fun s3 I3=>⟨.bl ov.isSome,H2,I3,rfl,q2⟩
theorem yq8 (hu:X.A.units+1<cLine) (hi:PE X i ty) (ho:PE X o td):PC X .NotIn i o (wj0 ty td):=by
 intro pins s σ H Q I h;refine thn (hi pins s σ H _ I h) fun iv s1 ⟨y,H1,I1,ry,q1⟩=>thn (ho pins s1 σ H1 _ I1 q1) fun u s2 hI85=>?_
 obtain⟨x,H2,I2,rx,a,ov,ex,g,q2⟩:=hI85;subst ex;obtain rfl:u=Value.ref a:=rx;exact wq3 hu I2 g ry fun s3 I3=>⟨.bl (!ov.isSome),H2,I3,rfl,q2⟩
theorem xn5 (hu:X.A.units+1<cLine) (ho:PE X o td) (hi:PE X i ty) (hv:PE X value tv) (hs:swapsWith value (some (.Subscript o i pos')) pos.line X.env=pure false) :
 PS X (.Assign [.Subscript o i pos'] value pos) (ve8 td ty tv):=by
 intro pins s σ H D I h;refine wpAny_Assign_Subscript (thn (hv pins s σ H _ I h) fun r s1 ⟨v,H1,I1,rv,q1⟩=>thn (ho pins s1 σ H1 _ I1 q1) fun u s2 ⟨x,H2,I2,rx,q2⟩=>thn (hi pins s2 σ H2 _ I2 q2) fun iv s3 hI86=>?_) hs;obtain⟨y,H3,I3,ry,a,H4,ex,g,q3⟩:=hI86;subst ex;obtain rfl:u=Value.ref a:=rx;exact xt7 hu I3 g ry rv fun s4 I4=>⟨σ,H4,I4,q3⟩
end
theorem wc0 {P:Program} {w:World} {H:Hp} (h:Heap) (hb:sysModules<h.objs.size):zk1 P w H (h.push { cls:=.type "dict",data:=.dict #[] }) h.objs.size (.dK []):=
 ⟨Ak0 _,beq_eq_false_iff_ne.mpr (Ne.symm (Ar0 hb)),[],.nil,Heap.DictOf.new h⟩
theorem yn6 {P:Program} {w:World} {H:Hp} (h:Heap) (hb:sysModules<h.objs.size):zk1 P w H (h.push { cls:=.type "dict",data:=.dict #[] }) h.objs.size (.dT []):=
 ⟨Ak0 _,beq_eq_false_iff_ne.mpr (Ne.symm (Ar0 hb)),[],.nil,_,#[],0,Ad0 _ rfl,⟨rfl,rfl,rfl⟩,rfl,rfl,List.nodup_nil⟩
noncomputable def wt8:TE:=fun _ H Q=>∀p,H p=none->Q (.ref p) (upd H p (.dT []))
section
variable {X:Cx} {pos:Pos}
theorem xy8:PE X (.Dict [] [] pos) wt8:=fun pins s σ H Q I h=>
 wpAny_Dict_empty ⟨.ref s.heap.objs.size,_,I.laid (a:=s.heap.objs.size) (o:=.dT []) (t':=s.toks) (fun _ _ q=>Aa0 _ q) (Ac0 _) (yn6 s.heap I.big),rfl,h _ (I.hok.fresh (Ac0 _))⟩
end
noncomputable def yp3:List (TE×TE)->St->Hp->(List (V×V)->Hp->Prop)->Prop
 | [],_,H,Q=>Q [] H
 | (tk,tv)::r,σ,H,Q=>tk σ H fun x H1=>tv σ H1 fun y H2=>yp3 r σ H2 fun ps H3=>Q ((x,y)::ps) H3
noncomputable abbrev VV:List (V×V)->List (Value×Value)->Prop:=Paired fun p q=>zf0 p.1 q.1/\zf0 p.2 q.2
noncomputable def PPs (X:Cx) (pos:Pos) (keys:List (Option Expr)) (values:List Expr) (trs:List (TE×TE)):Prop:=
 ∀(pins:List (Addr×Obj)) (s:Shared) (σ:St) (H:Hp) (Q:List (V×V)->Hp->Prop),Inv X pins σ H s->yp3 trs σ H Q->
  wpAny (model X.prog X.w) X.A (evalPairs (pairTrees keys values X.env pos)) (fun vs s'=>∃ps H',Inv X pins σ H' s'/\VV ps vs/\Q ps H') X.xe s
theorem yw7 {X:Cx} {pos:Pos}:PPs X pos [] [] []:=fun pins s σ H Q I h=>pairTrees_nil_walk ⟨[],H,I,.nil,h⟩
theorem yc3 {X:Cx} {pos:Pos} {k v:Expr} {ks:List (Option Expr)} {vs:List Expr} {tk tv:TE} {trs:List (TE×TE)} (hk:PE X k tk) (hv:PE X v tv) (hr:PPs X pos ks vs trs) :
 PPs X pos (some k::ks) (v::vs) ((tk,tv)::trs):=fun pins s σ H Q I h=>
 pairTrees_cons_walk (thn (hk pins s σ H _ I h) fun u s1 ⟨x,H1,I1,rx,q1⟩=>thn (hv pins s1 σ H1 _ I1 q1) fun w2 s2 ⟨y,H2,I2,ry,q2⟩=>
  thn (hr pins s2 σ H2 _ I2 q2) fun ws s3 ⟨ps,H3,I3,rel,q3⟩=>⟨(x,y)::ps,H3,I3,.cons ⟨rx,ry⟩ rel,q3⟩)
noncomputable def zy3 (kvs more:List (Key×V)):List (Key×V):=more.foldl (fun acc kv=>zv0 acc kv.1 kv.2) kvs
theorem KV.merge:∀{more:List (Key×V)} {rs:List (Key×Value)} {kvs:List (Key×V)} {vs:List (Key×Value)},KV more rs->KV kvs vs->KV (zy3 kvs more) (merged vs rs):=by
 intro more rs kvs vs r;unfold KV at r;induction r generalizing kvs vs with
 | nil=>intro q;exact q
 | @cons p q ps qs h t ih=>
   intro r0;have e:KV (zv0 kvs p.1 p.2) (stored vs q.1 q.2):=by
    have:=r0.put p.1 h.2;rw[<-h.1];exact this
   exact ih e
theorem zy5:∀(more kvs:List (Key×V)),(zy3 kvs more).length<=kvs.length+more.length
 | [],kvs=>by show kvs.length<=kvs.length+0;omega
 | p::r,kvs=>by
   have h1:=zy5 r (zv0 kvs p.1 p.2);have h2:=zm7 kvs p.1 p.2;show (zy3 (zv0 kvs p.1 p.2) r).length<=_;rw[An0];omega
theorem yk8 {P:Program} {w:World}:∀{kvs:List (Key×V)} {ws:List (Value×Value)},VV (kvs.map fun kv=>(kV kv.1,kv.2)) ws->∃rs,Carries (zg0 P w) ws rs/\KV kvs rs
 | [],_,r=>by rw[Ce0] at r;cases r;exact⟨[],True.intro,.nil⟩
 | p::kvs,_,r=>by
   rw[Ao0] at r;cases r with
   | @cons a b as bs h t=>
     obtain⟨rs,c,q⟩:=yk8 (P:=P) (w:=w) t;obtain⟨b1,b2⟩:=b;exact⟨(p.1,b2)::rs,⟨yy4 h.1,rfl,c⟩,.cons ⟨rfl,h.2⟩ q⟩
noncomputable def wt7 (trs:List (TE×TE)):TE:=fun σ H Q=>∀p,H p=none->yp3 trs σ (upd H p (.dK [])) fun ps H2=>H2 p=some (.dK [])/\∃kvs:List (Key×V),ps=kvs.map (fun kv=>(kV kv.1,kv.2))/\kvs.length<=15/\Q (.ref p) (upd H2 p (.dK (zy3 [] kvs)))
theorem xo0 {X:Cx} {pos:Pos} {keys:List (Option Expr)} {values:List Expr} {trs:List (TE×TE)} (h:PPs X pos keys values trs) (hall:keys.all (·.isSome)=true) (hl:keys.length=values.length) (h0:keys≠[])
 (h15:keys.length<=15):PE X (.Dict keys values pos) (wt7 trs):=by
 intro pins s σ H Q I q;have hn:=I.hok.fresh (Ac0 s.heap.objs.size);have I1:=I.laid (a:=s.heap.objs.size) (o:=.dK []) (h':=s.heap.push { cls:=.type "dict",data:=.dict #[] }) (t':=s.toks) (fun _ _ q=>Aa0 _ q) (Ac0 _) (wc0 s.heap I.big);refine wpAny_Dict_walk (knd:=zg0 X.prog X.w) hall hl h0 h15 (thn (h pins _ σ _ _ I1 (q _ hn)) fun ws s2 hI87=>?_);obtain⟨ps,H2,I2,rel,e,kvs,ep,lk,q2⟩:=hI87;subst ep;obtain⟨rs,c,rk⟩:=yk8 (P:=X.prog) (w:=X.w) rel;obtain⟨z,hd,vs0,r0,dd⟩:=wz8 I2.hok e;cases r0;refine⟨rs,c,dd,fun h' dd' hs=>⟨.ref s.heap.objs.size,_,?_,rfl,q2⟩⟩;have hz:(zy3 [] kvs).length<=sizeLine:=by
  have h1:=zy5 kvs [];rw[Br0] at h1;rw[sizeLine_eq];omega
 have he:∃q,h'.get? s.heap.objs.size=some q:=let ⟨q,_,_,hq,_⟩:=dd';⟨q,hq⟩;exact yh0 I2 (by rw[e];exact True.intro) hs he (wg1 hz hd (rk.merge .nil) dd')
structure M2 (X:Cx) (o:Expr) (m:Str) (apos:Pos) (e f:Expr) (cpos:Pos):Prop where
 base:attributeBase o m X.env (eval o X.env)=eval o X.env
 few:((backTo cpos (starEach [e,f] X.env)).all (fun x=>!x.1)&&(backToKw cpos (keywordEach [] X.env)).all (fun x=>x.1.isSome)
  && decide (([e,f]:List Expr).length+([]:List Keyword).length+(if ([]:List Keyword).isEmpty then 0 else 1)<30))=true
 line:(apos.endLine == cpos.line)=true
 trees:backTo cpos (starEach [e,f] X.env)=[(false,eval e X.env),(false,eval f X.env)]
noncomputable def IsD (H:Hp) (a:Addr):Prop:=(∃kvs,Rd H a (.dK kvs))\/∃kvs,Rd H a (.dT kvs)
theorem wy7 {X:Cx} {pins:List (Addr×Obj)} {σ:St} {H:Hp} {s:Shared} {a:Addr} (I:Inv X pins σ H s) (d:IsD H a) :
 s.TypeIs (.ref a) "dict"/\(∀b,Value.ref a=.ref b->∃ob,s.heap.get? b=some ob/\ob.dict=none)/\(a == sysModules)=false:=by
 rcases d with⟨kvs,e⟩ | ⟨kvs,e⟩
 ·obtain⟨_,hd,vs,_,dd⟩:=yz3 I.hok e
  refine⟨dd.typeIs,fun b q=>?_,hd⟩;cases q;obtain⟨ob,_,_,h1,h2,_⟩:=dd;exact⟨ob,h1,h2.2.1⟩
 ·obtain⟨_,hd,xs,_,dd⟩:=yy9 I.hok e
  refine⟨dd.typeIs,fun b q=>?_,hd⟩;cases q;obtain⟨ob,_,_,h1,h2,_⟩:=dd;exact⟨ob,h1,h2.2.1⟩
section
variable {X:Cx} {pins:List (Addr×Obj)} {σ:St} {H:Hp} {s:Shared} {a:Addr} {y d:V} {u r:Value} {o:Option V} {A:Around} {E:Value->Shared->Prop}
theorem vb0 {Q:Value->Shared->Prop} (hu:A.units+1<cLine) (I:Inv X pins σ H s) (g:yh7 H a y o) (ry:zf0 y u) (rd:zf0 d r) (h:∀w' s',Inv X pins σ H s'->zf0 (o.getD d) w'->Q w' s') :
 wpAny (model X.prog X.w) A (call (.builtin "dict.get") [.ref a,u,r]) Q E s:=by
 rcases g with⟨kvs,k,e,ey,l⟩ | ⟨kvs,k,b,e,ey,eb,l⟩
 ·subst ey
  obtain⟨z,hd,vs,rel,dd⟩:=yz3 I.hok e;refine call_meetsIn PySem.F.slot_dict_get dd.typeIs PySem.F.entry_dict_get (PySem.F.args_dict_get_3 _ _ _) (meets_dict_get_default (zg0 X.prog X.w) a (yy4 ry) hd r) ⟨_,dd.mapOf,h _ _ (I.tok _) ?_⟩;rw[l];exact(rel.val k).getD rd
 ·subst ey
  cases (show u=Value.ref b from ry);obtain⟨z,hd,xs,rel,dd⟩:=yy9 I.hok e;refine call_meetsIn PySem.F.slot_dict_get dd.typeIs PySem.F.entry_dict_get (PySem.F.args_dict_get_3 _ _ _) (meetsH_dict_get_default (tupleKind (zg0 X.prog X.w)) a b hd r) ⟨tupleKind_room_in1 hu,k,xs,ya8 I.hok eb,dd,h _ _ (I.tok _) ?_⟩;rw[l];exact(rel.val k).getD rd
end
noncomputable def wt9 (td ty tx:TE):TE:=fun σ H Q=>td σ H fun x H1=>∃a,x=.ref a/\IsD H1 a/\ty σ H1 fun y H2=>tx σ H2 fun z H3=>∃o,yh7 H3 a y o/\Q (o.getD z) H3
section
variable {X:Cx} {o e f:Expr} {apos cpos:Pos} {td ty tx:TE}
theorem xz0 (hu:X.A.units+1<cLine) (ho:PE X o td) (he:PE X e ty) (hf:PE X f tx) (m:M2 X o "get" apos e f cpos):PE X (.Call (.Attribute o "get" apos) [e,f] [] cpos) (wt9 td ty tx):=by
 intro pins s σ H Q I h;refine wpAny_Call_method m.base m.few m.line PySem.F.plainAttrs_dict PySem.F.slot_dict_get PySem.F.type_dict_get (thn (ho pins s σ H _ I h) fun u s1 hI88=>?_);obtain⟨x,H1,I1,rx,a,ex,d,q1⟩:=hI88;subst ex;obtain rfl:u=Value.ref a:=rx;obtain⟨t1,t2,_⟩:=wy7 I1 d;refine⟨t1,t2,?_⟩;rw[m.trees];refine Calls.callWith_builtin rfl (Calls.evalArgs_plain (Calls.spliced_cons (thn (he pins s1 σ H1 _ I1 q1) fun iv s2 ⟨y,H2,I2,ry,q2⟩=>Calls.spliced_cons (thn (hf pins s2 σ H2 _ I2 q2) fun fv s3 ⟨z,H3,I3,rz,ov,g,q3⟩=>Calls.spliced_nil ?_))));exact vb0 hu I3 g ry rz fun w' s4 I4 rw'=>⟨_,H3,I4,rw',q3⟩
end
section
variable {X:Cx} {pins:List (Addr×Obj)} {σ:St} {H:Hp} {s:Shared} {a:Addr} {kvs:List (Key×V)} {A:Around} {E:Value->Shared->Prop}
end
section
variable {X:Cx} {pins:List (Addr×Obj)} {σ:St} {H:Hp} {s:Shared} {a:Addr} {y:V} {u:Value} {A:Around} {E:Value->Shared->Prop}
end
end L2
namespace L2
open PySem PySem.Spec PyProof.Rows
section
variable {κ:Type} [DecidableEq κ]
end
end L2
end
section
namespace L2
open PySem PySem.Spec PyProof.Rows
noncomputable def zz0 (cells:List (Str×Addr)):List (Str×NameKind)->List (Str×Addr)->List (Str×Addr)
 | [],cs=>cs
 | (n,k)::r,cs=>zz0 cells r (if k == .free then (match cells.lookup n with | some a=>(n,a)::cs | none=>cs) else cs)
theorem zt0 {env:Env}:∀(names:List (Str×NameKind)) (cs:List (Str×Addr)),(∀y∈names,y.2=.free->∃a,env.cells.lookup y.1=some a)->
 (forIn (m:=Sem) names cs fun (x:Str×NameKind) (r:List (Str×Addr))=>
  match x with
  | (name,kind)=>if (kind == .free)=true then do let a <-cellOf env name;pure (ForInStep.yield ((name,a)::r)) else pure (ForInStep.yield r))=pure (zz0 env.cells names cs)
 | [],cs,_=>rfl
 | (n,k)::r,cs,h=>by
   rw[List.forIn_cons];have ih:=fun cs'=>zt0 (env:=env) r cs' fun y hy=>h y (Bp0 _ hy)
   by_cases hk:(k == NameKind.free)=true
   ·have hk':k=.free:=by simpa using hk
    obtain⟨a,ha⟩:=h (n,k) Cc0 hk';simp only[hk,if_true,zz0,cellOf];have ha':env.cells.lookup n=some a:=ha;rw[ha'];exact ih _
   ·simp only[hk,zz0]
    exact ih _
theorem yo0 {scope:Scope} {env:Env} (h:∀y∈scope.names,y.2=.free->∃a,env.cells.lookup y.1=some a):closureFor scope env=pure (zz0 env.cells scope.names []):=by
 simp only[closureFor];have e:=zt0 (env:=env) scope.names [] h;have e2:=congrArg (fun m:Sem (List (Str×Addr))=>m >>= pure) e;exact e2
theorem zl5 {α:Type} {x n:Str} {v:α} {l:List (Str×α)}:List.lookup x ((n,v)::l)=if x=n then some v else l.lookup x:=by
 rw[List.lookup_cons];by_cases e:x=n
 ·subst e;simp
 ·rw[if_neg e]
  have:(x == n)=false:=by simpa using e
  rw[this]
theorem xe7 {cells:List (Str×Addr)}:∀(names:List (Str×NameKind)) (cs:List (Str×Addr)) (x:Str) (c:Addr),
 (∀x c,cs.lookup x=some c->cells.lookup x=some c)->(zz0 cells names cs).lookup x=some c->cells.lookup x=some c
 | [],cs,x,c,h,e=>h x c e
 | (n,k)::r,cs,x,c,h,e=>by
   refine xe7 r _ x c (fun y d hy=>?_) e;by_cases hk:(k == NameKind.free)=true
   ·rw[if_pos hk] at hy
    cases ha:cells.lookup n with
    | none=>rw[ha] at hy;exact h y d hy
    | some a=>
      rw[ha] at hy;have hy:List.lookup y ((n,a)::cs)=some d:=hy;rw[zl5] at hy;by_cases e:y=n
      ·rw[if_pos e] at hy;cases hy;rw[e];exact ha
      ·rw[if_neg e] at hy;exact h y d hy
   ·rw[if_neg hk] at hy;exact h y d hy
theorem yu6 {cells:List (Str×Addr)}:∀(names:List (Str×NameKind)) (cs:List (Str×Addr)) (x:Str),(∃c,cs.lookup x=some c)->∃c,(zz0 cells names cs).lookup x=some c
 | [],_,_,h=>h
 | (n,k)::r,cs,x,h=>by
   refine yu6 r _ x ?_;by_cases hk:(k == NameKind.free)=true
   ·rw[if_pos hk]
    cases ha:cells.lookup n with
    | none=>exact h
    | some a=>
      show ∃c,List.lookup x ((n,a)::cs)=some c;rw[zl5];by_cases e:x=n
      ·rw[if_pos e];exact⟨_,rfl⟩
      ·rw[if_neg e];exact h
   ·rw[if_neg hk];exact h
theorem xe8 {cells:List (Str×Addr)}:∀(names:List (Str×NameKind)) (cs:List (Str×Addr)) (x:Str),(x,NameKind.free)∈names->(∃a,cells.lookup x=some a)->∃c,(zz0 cells names cs).lookup x=some c
 | [],_,_,h,_=>nomatch h
 | (n,k)::r,cs,x,h,ha=>by
   rcases Ah0.mp h with e | h'
   ·have e1:x=n:=congrArg Prod.fst e
    have e2:NameKind.free=k:=congrArg Prod.snd e;subst e1 e2;obtain⟨a,ha⟩:=ha;refine yu6 r _ x ?_;show ∃c,List.lookup x (if (NameKind.free == NameKind.free)=true then (match cells.lookup x with | some a=>(x,a)::cs | none=>cs) else cs)=some c;rw[if_pos (by rfl),ha];show ∃c,List.lookup x ((x,a)::cs)=some c;rw[zl5,if_pos rfl];exact⟨_,rfl⟩
   ·exact xe8 r _ x h' ha
noncomputable def pick (σ:St) (ixs:List (Option Nat)):St:=ixs.map fun o=>match o with
 | some i=>(σ[i]?).join
 | none=>none
noncomputable def zi2 (X:Cx) (N':List Str) (scope:Scope) (cl:List (Str×Addr)) (C:Addr) (s:Shared) (H:Hp) (fp:List Addr):Cx:=
 { X with N:=N',s₀:=s,H₀:=H,env:=compEnvC scope cl C X.env,outer:=X.stack,ex:=fp,fn:=fun _=>false,pn:=[],xe:=fun _ _=>False }
noncomputable def ya2 (env:Env) (n:Str) (k:NameKind):NameKind:=if (k == NameKind.free&&env.scope.kind == .function&&env.kindOf n == some .cell)=true then .cell else k
theorem ya7 {env:Env}:∀{names:List (Str×NameKind)} {x:Str},(names.map fun (n,k)=>if (k == NameKind.free&&env.scope.kind == .function&&env.kindOf n == some .cell) then (n,NameKind.cell) else (n,k)).lookup x=(names.lookup x).map (ya2 env x)
 | [],_=>rfl
 | (n,k)::r,x=>by
   have ih:=@ya7 env r x;rw[Ao0];have e1:(if (k == NameKind.free&&env.scope.kind == .function&&env.kindOf n == some .cell)=true then (n,NameKind.cell) else (n,k))=(n,ya2 env n k):=by
    unfold ya2;split<;>rfl
   show List.lookup x ((if (k == NameKind.free&&env.scope.kind == .function&&env.kindOf n == some .cell)=true then (n,NameKind.cell) else (n,k))::_)=_;rw[e1,zl5,zl5];by_cases e:x=n
   ·rw[if_pos e,if_pos e,e];rfl
   ·rw[if_neg e,if_neg e];exact ih
structure zk2 (X:Cx) (N':List Str) (ixs:List (Option Nat)) (scope:Scope):Prop where
 kind:scope.kind=.function
 nocell:∀y∈scope.names,y.2≠.cell
 loc:∀y∈scope.names,y.2=.local->scope.names.lookup y.1=some .local
 len:ixs.length=N'.length
 free:∀y∈scope.names,y.2=.free->X.env.scope.names.lookup y.1=some .cell\/X.env.scope.names.lookup y.1=some .free
 slot:∀(j i:Nat) (y:Str),N'[j]?=some y->ixs[j]?=some (some i)->X.N[i]?=some y/\scope.names.lookup y=some .free
section
variable {X:Cx} {pins:List (Addr×Obj)} {σ:St} {H:Hp} {s:Shared} {N':List Str} {ixs:List (Option Nat)} {scope:Scope}
set_option tactic.hygienic true in
theorem zk2.clos (S:zk2 X N' ixs scope) (I:Inv X pins σ H s):closureFor scope X.env=pure (zz0 X.env.cells scope.names []):=
 yo0 fun y hy hf=>I.ok.has y.1 (S.free y hy hf)
set_option tactic.hygienic true in
theorem Inv.comp {fp:List Addr} {h':Heap} {t':Nat} (I:Inv X pins σ H s) (S:zk2 X N' ixs scope) (hf:∀b∈fp,yv4 X pins H b) (hlt:∀b∈fp,∃o,s.heap.get? b=some o/\∀v,o.data≠.cell v)
 (hk:∀b o,s.heap.get? b=some o->h'.get? b=some o) (hn:h'.Ns s.heap.objs.size (fun _=>none)) :
 Inv (zi2 X N' scope (zz0 X.env.cells scope.names []) s.heap.objs.size s H fp) [] (pick σ ixs) H { s with heap:=h',toks:=t' }:=by
 have sub:∀x c,(zz0 X.env.cells scope.names []).lookup x=some c->X.env.cells.lookup x=some c:=fun x c e=>xe7 _ _ x c (fun _ _ z=>absurd z (by simp)) e
 have cellOld:∀x c,X.env.cells.lookup x=some c->c<s.heap.objs.size:=fun x c e=>by obtain⟨v,z⟩:=I.cell x c e;exact z.lt
 have fpOld:∀b∈fp,b<s.heap.objs.size:=fun b hb=>by obtain⟨o,e,_⟩:=hlt b hb;exact Heap.lt_size e
 have kinds:∀x,Env.kindOf (compEnvC scope (zz0 X.env.cells scope.names []) s.heap.objs.size X.env) x=(scope.names.lookup x).map (ya2 X.env x):=fun x=>ya7
 have hasF:∀x,scope.names.lookup x=some .free->∃c,(zz0 X.env.cells scope.names []).lookup x=some c:=fun x e=>
  xe8 _ _ x (PySem.mem_of_lookup e) (I.ok.has x (S.free _ (PySem.mem_of_lookup e) rfl))
 have freeOf:∀x,(Env.kindOf (compEnvC scope (zz0 X.env.cells scope.names []) s.heap.objs.size X.env) x=some .cell\/Env.kindOf (compEnvC scope (zz0 X.env.cells scope.names []) s.heap.objs.size X.env) x=some .free)->scope.names.lookup x=some .free:=fun x e=>by
  rw[kinds x] at e;cases q:scope.names.lookup x with
  | none=>rw[q] at e;rcases e with e | e<;>cases e
  | some k=>
    rw[q] at e;have nc:=S.nocell _ (PySem.mem_of_lookup q);unfold ya2 at e;rcases e with e | e
    ·have e:=Option.some.inj e
     dsimp only at e;split at e
     ·rename_i hh
      have:(k == NameKind.free)=true:=by
       cases hz:(k == NameKind.free) with
       | true=>rfl
       | false=>rw[hz] at hh;simp at hh
      rw[show k=.free by simpa using this]
     ·exact absurd e nc
    ·have e:=Option.some.inj e
     dsimp only at e;split at e
     ·cases e
     ·rw[e]
 refine⟨⟨I.ok.mod,S.kind,I.ok.glob,I.ok.blt,Ac0 _,fun x y c h1 h2=>I.ok.inj x y c (sub x c h1) (sub y c h2),fun x hx=>hasF x (freeOf x hx),(fun _ _ z _=>Bool.noConfusion z),I.ok.hd,I.ok.frames,.inl rfl,fun b hb=>⟨Ar0 (fpOld b hb),fun x c e=>(hf b hb).2.2.2.2.1 x c (sub x c e)⟩,fun b o e=>I.bs b o e,Be0 I.ok.bsz I.sz,fun b o e hb=>?_,fun b hb z=>?_,I.stack,I.stkFree⟩,rfl,I.bare,Un.kept hk,⟨_,hn,fun j x v e1 e2 e3=>?_⟩,fun x c e=>?_,I.hok.fresh (Ac0 _),fun x c e=>I.freeC x c (sub x c e),(fun p hp=>absurd (show p∈([]:List (Addr×Obj)) from hp) (by simp)),I.hok.kept hk,?_⟩
 ·-- base objects are no iterators
  have hf':=hf b hb;rcases hf'.2.2.2.1 with z | z
  ·exact I.ok.noex b o e z
  ·exact absurd (At0 (Heap.lt_size (I.ok.bs b o e).1) z) (Bn0 _)
 ·-- iterators are no frames
  have hf':=hf b hb;rcases Ah0.mp (I.stkSub b z) with e | e
  ·exact hf'.2.1 e
  ·exact hf'.2.2.1 e
 ·-- the names
  have e2':(pick σ ixs)[j]?=some (some v):=e2;unfold pick at e2';rw[Ai0] at e2';cases q:ixs[j]? with
  | none=>rw[q] at e2';cases e2'
  | some o=>
    rw[q] at e2';cases o with
    | none=>cases e2'
    | some i=>
      have e4:(σ[i]?).join=some v:=Option.some.inj e2';have e5:σ[i]?=some (some v):=by
       cases z:σ[i]? with
       | none=>rw[z] at e4;cases e4
       | some a=>rw[z] at e4;rw[show a=some v from e4]
      obtain⟨hx,hfr⟩:=S.slot j i x e1 q;obtain⟨m,_,hl⟩:=I.loc;have vis:Vis X.env.scope x:=by
       rcases S.free _ (PySem.mem_of_lookup hfr) rfl with z | z
       ·exact .inr (.inl z)
       ·exact .inr (.inr z)
      obtain⟨u,r,l⟩:=hl i x v hx e5 vis;refine⟨u,r,.inr ⟨?_,?_⟩⟩
      ·show Env.kindOf (compEnvC scope (zz0 X.env.cells scope.names []) s.heap.objs.size X.env) x=some .cell\/Env.kindOf (compEnvC scope (zz0 X.env.cells scope.names []) s.heap.objs.size X.env) x=some .free
       rw[kinds x,hfr];show some (ya2 X.env x .free)=_\/some (ya2 X.env x .free)=_;unfold ya2;split
       ·exact .inl rfl
       ·exact .inr rfl
      ·obtain⟨c,ec⟩:=hasF x hfr
       refine⟨c,ec,?_⟩;have ec':=sub x c ec;rcases l with⟨k,_⟩ | ⟨_,c2,e6,z⟩
       ·have k':X.env.scope.names.lookup x=some .local:=k
        rcases S.free _ (PySem.mem_of_lookup hfr) rfl with z | z<;>(rw[show ((x,NameKind.free):Str×NameKind).1=x from rfl,k'] at z;cases z)
       ·rw[ec'] at e6;cases e6
        obtain⟨o,ho,hd⟩:=z;exact⟨o,hk c o ho,hd⟩
 ·obtain⟨v,o,ho,hd⟩:=I.cell x c (sub x c e)
  exact⟨v,o,hk c o ho,hd⟩
 ·show (pick σ ixs).length=N'.length
  unfold pick;rw[Ab0];exact S.len
end
end L2
end
section
namespace L2
open PySem PySem.Spec PyProof.Rows
section
variable {prog:Program} {w:World} {A:Around} {R:Result->Shared->Prop} {s:Shared}
theorem yn9 {elt target iter:Expr} {ifs:List Expr} {scope:Scope} {pos:Pos} {it acc:Value} {env:Env} (I:Nat->Shared->Prop)
 (turn:∀n s,I n s->wpAny (model prog w) A (pyNext it) (fun r s₁=>match r with
  | none=>R (.ok .next) s₁
  | some v=>wpAny (model prog w) A (letOwnedTupleGo target it v) (fun _ s₂=>wpAny (model prog w) A (assign target env v) (fun _ s₃=>
   wpAny (model prog w) A (forIn ifs true fun c r=>if r=true then do let ok <-isTrue c env (eval c env);pure (ForInStep.yield ok) else pure (ForInStep.yield r)) (fun ok s₄=>
    if ok=true then wpAny (model prog w) A (eval elt env) (fun x s₅=>
     wpAny (model prog w) A (call (.builtin "list.append") [acc,x]) (fun _ s₆=>∃m,m<n/\I m s₆) (fun _ _=>False) s₅) (fun _ _=>False) s₄
    else ∃m,m<n/\I m s₄) (fun _ _=>False) s₃) (fun _ _=>False) s₂) (fun _ _=>False) s₁) (fun _ _=>False) s)
 (n:Nat) (h:I n s) :
 codeAny (model prog w) A (.compLoop (.ListComp elt [⟨target,iter,ifs,0⟩] scope pos) 0 it acc env) R s:=by
 refine codeAny_loop rfl I (fun n s hI=>?_) n h;show wpAny _ A ((compTurn (.ListComp elt [⟨target,iter,ifs,0⟩] scope pos) 0 it acc env).onRaise (fun x=>do noteFrame x env;theTreesLotGoes x)) _ _ s;refine wpAny_noted ?_;rw[compTurn_list];refine wpAny_bind (wpAny_standAt (wpAny_bind (wpAny_mono (turn n s hI) (fun r s₁ h₁=>?_) fun _ _ h'=>h'.elim)));cases r with
 | none=>exact wpAny_pure h₁
 | some v=>
   refine wpAny_bind (wpAny_mono h₁ (fun _ s₂ h₂=>wpAny_bind (wpAny_mono h₂ (fun _ s₃ h₃=>wpAny_bind (wpAny_mono h₃ (fun ok s₄ h₄=>?_) fun _ _ h'=>h'.elim)) fun _ _ h'=>h'.elim)) fun _ _ h'=>h'.elim);cases ok with
   | false=>exact wpAny_pure ⟨rfl,h₄⟩
   | true=>
     exact wpAny_bind (wpAny_bind (wpAny_mono h₄ (fun x s₅ h₅=>wpAny_bind (wpAny_mono h₅ (fun _ s₆ h₆=>wpAny_pure (wpAny_pure ⟨rfl,h₆⟩)) fun _ _ h'=>h'.elim)) fun _ _ h'=>h'.elim))
end
noncomputable def PTs (X:Cx) (ifs:List Expr) (t:TT):Prop:=
 ∀(pins:List (Addr×Obj)) (s:Shared) (σ:St) (H:Hp) (Q:Bool->Hp->Prop),Inv X pins σ H s->t σ H Q->
  wpAny (model X.prog X.w) X.A (forIn ifs true fun c r=>if r=true then do let ok <-isTrue c X.env (eval c X.env);pure (ForInStep.yield ok) else pure (ForInStep.yield r)) (TP X pins σ Q) X.xe s
noncomputable def vd4:TT:=fun _ H Q=>Q true H
theorem wk0 {X:Cx}:PTs X [] vd4:=fun _ _ _ H _ I h=>wpAny_tests_nil ⟨H,I,h⟩
theorem wj9 {X:Cx} {c:Expr} {t:TT} (h:PT X c t):PTs X [c] t:=fun pins s σ H Q I q=>wpAny_tests_one (h pins s σ H Q I q)
noncomputable def wj1 (wi:TI) (ixs:List (Option Nat)) (g:TG) (tc:TT) (te:TE):TE:=fun σ H Q=>wi σ H fun J H1=>∀D,H1 D=none->
 ∃W:Nat->Nat->St->Hp->Prop,(∃m,W 0 m (pick σ ixs) (upd H1 D (.lst [])))/\∀i m σ' H',W i m σ' H'->
  (J.stop i H'/\Q (.ref D) H')\/(J.go i H'/\∃N:St->Hp->Prop,(∀σ2 H2,N σ2 H2->∃m',m' < m/\W (i+1) m' σ2 H2)/\∀x H2,J.yld i H' x H2->g x σ' H2 fun σ3 H3=>
   tc σ3 H3 fun b H4=>if b=true then te σ3 H4 fun y H5=>∃ys,H5 D=some (.lst ys)/\ys.length<sizeLine/\N σ3 (upd H5 D (.lst (ys++[y]))) else N σ3 H4)
section
variable {X:Cx} {N':List Str} {ixs:List (Option Nat)} {scope:Scope} {tg iter elt:Expr} {ifs:List Expr} {wi:TI} {g:TG} {tc:TT} {te:TE} {pos:Pos}
theorem yk7 {pins:List (Addr×Obj)} {σ:St} {H2:Hp} {s2:Shared} {it:Addr} {fp:List Addr} {tn:Nat->Heap->Prop} {J:It} {E:Value->Shared->Prop} {RR:Value->Addr->Result->Shared->Prop} {Q:VK}
 (S:zk2 X N' ixs scope) (hc:X.calm=true) (I2:Inv X pins σ H2 s2) (T:wr0 X.prog X.w X.K tg J fp it tn) (st2:tn 0 s2.heap) (f2:∀b∈fp,yv4 X pins H2 b)
 (hin:∀cl C s H fp,PG (zi2 X N' scope cl C s H fp) tg g/\PTs (zi2 X N' scope cl C s H fp) ifs tc/\PE (zi2 X N' scope cl C s H fp) elt te)
 (hw:∀D,H2 D=none->∃W:Nat->Nat->St->Hp->Prop,(∃m,W 0 m (pick σ ixs) (upd H2 D (.lst [])))/\∀i m σ' H',W i m σ' H'->
  (J.stop i H'/\Q (.ref D) H')\/(J.go i H'/\∃N:St->Hp->Prop,(∀σ2 H2,N σ2 H2->∃m',m' < m/\W (i+1) m' σ2 H2)/\∀x H2,J.yld i H' x H2->g x σ' H2 fun σ3 H3=>
   tc σ3 H3 fun b H4=>if b=true then te σ3 H4 fun y H5=>∃ys,H5 D=some (.lst ys)/\ys.length<sizeLine/\N σ3 (upd H5 D (.lst (ys++[y]))) else N σ3 H4))
 (hR:∀(D C:Addr) (H':Hp) (s':Shared) (m:Str->Option Value),s'.heap.Ns C m->C≠X.env.locals->H' C=none->X.s₀.heap.objs.size<=C->(∀x c,X.env.cells.lookup x=some c->c≠C)->(∀p∈X.pn++pins,p.1≠C)->C∉X.fs->Inv X pins σ H' s'->Q (.ref D) H'->RR (.ref D) C (.ok .next) s') :
 wpAny (model X.prog X.w) X.A (newList []) (fun acc s₃=>wpAny (model X.prog X.w) X.A (newFunctionEnv scope X.env.globals (zz0 X.env.cells scope.names []) [] X.env.qual none .none (some X.env)) (fun cenv s₄=>
  codeAny (model X.prog X.w) X.A (.compStart (.ListComp elt [⟨tg,iter,ifs,0⟩] scope pos) 0 (.ref it) acc { cenv with scope:=relabel scope X.env }) (RR acc cenv.locals) s₄) E s₃) E s2:=by
 have fD:H2 s2.heap.objs.size=none:=I2.hok.fresh (Ac0 _);refine wpAny_newObj_type ?_;have I3:Inv X pins σ (upd H2 s2.heap.objs.size (.lst [])) { s2 with heap:=s2.heap.push { cls:=.type "list",dict:=none,data:=.seq ([]:List Value).toArray } }:=
  I2.lnew (ys:=[]) (its:=[]) (t':=s2.toks) .nil (Ak0 _)
 generalize hs3:({ s2 with heap:=s2.heap.push { cls:=.type "list",dict:=none,data:=.seq ([]:List Value).toArray } }:Shared)=s3 at I3;have kp3:∀b o,s2.heap.get? b=some o->s3.heap.get? b=some o:=fun b o e=>by rw[<-hs3];exact Aa0 _ e
 have os3:s3.heap.objs.size=s2.heap.objs.size+1:=by rw[<-hs3];exact Au0 _ _
 have goal:wpAny (model X.prog X.w) X.A (newFunctionEnv scope X.env.globals (zz0 X.env.cells scope.names []) [] X.env.qual none .none (some X.env)) (fun cenv s₄=>
  codeAny (model X.prog X.w) X.A (.compStart (.ListComp elt [⟨tg,iter,ifs,0⟩] scope pos) 0 (.ref it) (.ref s2.heap.objs.size) { cenv with scope:=relabel scope X.env }) (RR (.ref s2.heap.objs.size) cenv.locals) s₄) E s3:=by
  refine wpAny_newFunctionEnv S.nocell (by intro y hy;simp at hy) (fun h1 hns hsb=>?_) S.kind;have kp4:∀b o,s3.heap.get? b=some o->h1.get? b=some o:=fun b o e=>hsb.extBut b o (Ar0 (Heap.lt_size e)) (Aa0 _ e)
  have fpO:∀b∈fp,∃o,s2.heap.get? b=some o/\∀v,o.data≠.cell v:=T.obj 0 s2.heap st2;have f3:∀b∈fp,yv4 X pins (upd H2 s2.heap.objs.size (.lst [])) b:=fun b hb=>by
   obtain⟨o,e,_⟩:=fpO b hb;exact⟨by rw[za9 (Ar0 (Heap.lt_size e))];exact(f2 b hb).1,(f2 b hb).2⟩
  have I4:=I3.comp (h':=h1) (t':=s3.toks+([]:List (Str×Value)).length) S f3 (fun b hb=>let ⟨o,e,d⟩:=fpO b hb;⟨o,kp3 b o e,d⟩) kp4 hns;have st4:tn 0 h1:=T.keep 0 _ _ st2 fun b _ o e=>kp4 b o (kp3 b o e)
  show codeAny (model X.prog X.w) X.A (.compStart (.ListComp elt [⟨tg,iter,ifs,0⟩] scope pos) 0 (.ref it) (.ref s2.heap.objs.size) (compEnvC scope (zz0 X.env.cells scope.names []) s3.heap.objs.size X.env)) (RR (.ref s2.heap.objs.size) s3.heap.objs.size) { s3 with heap:=h1,toks:=s3.toks+([]:List (Str×Value)).length };have st4':tn 0 ({ s3 with heap:=h1,toks:=s3.toks+([]:List (Str×Value)).length }:Shared).heap:=st4;generalize ({ s3 with heap:=h1,toks:=s3.toks+([]:List (Str×Value)).length }:Shared)=s4 at I4 st4' ⊢;obtain⟨W,⟨m0,w0⟩,step⟩:=hw s2.heap.objs.size fD;have fpOld:∀b∈fp,b<s3.heap.objs.size:=fun b hb=>by
   obtain⟨o,e,_⟩:=fpO b hb;exact Heap.lt_size (kp3 b o e)
  have stat:∀{H':Hp},(∀b∈fp,H' b=none)->∀b∈fp,yv4 (zi2 X N' scope (zz0 X.env.cells scope.names []) s3.heap.objs.size s3 (upd H2 s2.heap.objs.size (.lst [])) fp) [] H' b:=fun hn b hb=>
   ⟨hn b hb,Ar0 (fpOld b hb),fun z=>I4.ok.exfs b hb z,.inl hb,(I4.ok.exf b hb).2,fun p hp=>absurd (show p∈([]:List (Addr×Obj)) from hp) (by simp)⟩
  have loop:codeAny (model X.prog X.w) X.A (.compLoop (.ListComp elt [⟨tg,iter,ifs,0⟩] scope pos) 0 (.ref it) (.ref s2.heap.objs.size) (compEnvC scope (zz0 X.env.cells scope.names []) s3.heap.objs.size X.env)) (RR (.ref s2.heap.objs.size) s3.heap.objs.size) s4:=by
   obtain⟨hg,ht,he⟩:=hin (zz0 X.env.cells scope.names []) s3.heap.objs.size s3 (upd H2 s2.heap.objs.size (.lst [])) fp;refine yn9 (fun n s'=>∃i σ' H',Inv (zi2 X N' scope (zz0 X.env.cells scope.names []) s3.heap.objs.size s3 (upd H2 s2.heap.objs.size (.lst [])) fp) [] σ' H' s'/\tn i s'.heap/\(∀b∈fp,H' b=none)/\W i n σ' H') ?_ m0 ⟨0,_,_,I4,st4',fun b hb=>(f3 b hb).1,w0⟩;rintro n s5 ⟨i,σ5,H5,I5,st5,fr5,w5⟩;rcases step i n σ5 H5 w5 with⟨stop,q⟩ | ⟨go,N,hN,go2⟩
   ·refine thn (T.done (zi2 X N' scope (zz0 X.env.cells scope.names []) s3.heap.objs.size s3 (upd H2 s2.heap.objs.size (.lst [])) fp) rfl rfl rfl hc i [] s5 σ5 H5 (fun _ _=>False) I5 (stat fr5) st5 stop) fun r s6 hI89=>?_
    obtain⟨hr,I6⟩:=hI89;subst hr;obtain⟨m,hm,_⟩:=I6.loc;refine hR _ _ H5 s6 m hm (Ne.symm (Ar0 I3.lt)) I6.free I3.sz (fun x c e z=>?_) (fun p hp z=>?_) (I3.nofs (Ac0 _)) (I3.call' (ch:=fp) I6.os I6.base I6.hok I6.bare fun b hb=>⟨(f3 b hb).2.2.2.1,(f3 b hb).2.1,(f3 b hb).2.2.2.2.1,(f3 b hb).2.2.2.2.2⟩) q
    ·obtain⟨v,y⟩:=I3.cell x c e
     have:=y.lt;rw[z] at this;exact absurd this (Bn0 _)
    ·have:=Heap.lt_size (I3.pin p hp).1
     rw[z] at this;exact absurd this (Bn0 _)
   ·refine thn (T.item (zi2 X N' scope (zz0 X.env.cells scope.names []) s3.heap.objs.size s3 (upd H2 s2.heap.objs.size (.lst [])) fp) rfl rfl rfl hc i [] s5 σ5 H5 (fun _ _=>False) I5 (stat fr5) st5 go) fun r s6 hI90=>?_
    obtain⟨u,hr,h6⟩:=hI90;subst hr;refine thn h6 fun _ s7 hI91=>?_
    obtain⟨x,H7,I7,r7,y7,st7,fr7⟩:=hI91;have I7':=I7.pinned (stat fr7) (T.obj _ _ st7);refine thn (hg _ s7 σ5 H7 x u _ I7' r7 (go2 x H7 y7)) fun _ s8 hI92=>?_
    obtain⟨σ8,H8,I8,q8⟩:=hI92;refine thn (ht _ s8 σ8 H8 _ I8 q8) fun ok s9 hI93=>?_
    obtain⟨H9,I9,q9⟩:=hI93;have again:∀{sz:Shared} {σz:St} {Hz:Hp},Inv (zi2 X N' scope (zz0 X.env.cells scope.names []) s3.heap.objs.size s3 (upd H2 s2.heap.objs.size (.lst [])) fp) ([]++yq5 fp s7.heap) σz Hz sz->N σz Hz->
     ∃m,m<n/\∃i σ' H',Inv (zi2 X N' scope (zz0 X.env.cells scope.names []) s3.heap.objs.size s3 (upd H2 s2.heap.objs.size (.lst [])) fp) [] σ' H' sz/\tn i sz.heap/\(∀b∈fp,H' b=none)/\W i m σ' H':=fun {sz σz Hz} Iz nz=>by
     obtain⟨m',hm,wz⟩:=hN σz Hz nz;refine⟨m',hm,i+1,σz,Hz,Iz.unpinned,T.keep _ _ _ st7 fun b hb o e=>(Iz.pin (b,o) (Ax0 _ (Ax0 _ (zt7 hb e)))).1,fun b hb=>?_,wz⟩;obtain⟨o,e,d⟩:=T.obj _ _ st7 b hb;exact(Iz.pin (b,o) (Ax0 _ (Ax0 _ (zt7 hb e)))).2.1
    cases ok with
    | false=>
      rw[if_neg (by decide)] at q9 ⊢;exact again I9 q9
    | true=>
      rw[if_pos rfl] at q9 ⊢;refine thn (he _ s9 σ8 H9 _ I9 q9) fun v s10 hI94=>?_
      obtain⟨y,H10,I10,r10,ys,hD,hz,q10⟩:=hI94;refine thn (zm6 _ s10 σ8 H10 (.ref s2.heap.objs.size) [y] (.ref s2.heap.objs.size) [v] (fun _ H=>N σ8 H) I10 rfl (.cons r10 .nil) ⟨_,ys,y,rfl,rfl,hD,hz,q10⟩) fun _ s11 hI95=>?_
      obtain⟨_,H11,I11,_,q11⟩:=hI95;exact again I11 q11
  refine codeAny_compStart_list loop (T.self _ 0 _ _ _ st4' loop)
 exact goal
theorem wl1 (S:zk2 X N' ixs scope) (hc:X.calm=true) (hi:PI X tg iter wi)
 (hin:∀cl C s H fp,PG (zi2 X N' scope cl C s H fp) tg g/\PTs (zi2 X N' scope cl C s H fp) ifs tc/\PE (zi2 X N' scope cl C s H fp) elt te)
 (hs:∀x,foldedSetIterable iter X.env x=pure x:=by intro _;rfl) :
 PE X (.ListComp elt [⟨tg,iter,ifs,0⟩] scope pos) (wj1 wi ixs g tc te):=by
 intro pins s σ H Q I h;rw[eval_ListComp];refine wpAny_comprehension_free (use:=none) rfl hs (S.clos I) S.kind S.loc (thn (hi pins s σ H _ I h) fun v s1 h1=>thn h1 fun itv s2 h2=>?_);obtain⟨it,fp,tn,J,H2,rfl,I2,T,st2,f2,hw⟩:=h2;refine yk7 (RR:=fun acc C=>compPost (model X.prog X.w) X.A X.xe none (EP X pins σ Q) acc C) S hc I2 T st2 f2 hin hw ?_;intro D C H' s' m hn hL hC hsz hcl hpn hfs I' q;refine⟨m,hn,fun h' hs'=>⟨.ref D,H',?_,rfl,q⟩⟩;exact I'.turned (t':=s'.toks) (fun b o hb e=>hs'.extBut b o hb e) hC hL (.inr hsz) hcl hpn
end
end L2
end
section
namespace L2
open PySem PySem.Spec PyProof.Rows
section
variable {X:Cx} {N':List Str} {ixs:List (Option Nat)} {scope:Scope} {tg iter elt:Expr} {ifs:List Expr} {wi:TI} {g:TG} {tc:TT} {te:TE} {pos spos:Pos}
set_option tactic.hygienic true in
theorem wk3 {i:Nat} {y:Str} {py:Pos} (S:zk2 X N' ixs scope) (hc:X.calm=true) (hN:X.N.Nodup) (hi:X.N[i]?=some y) (hy:X.env.scope.names.lookup y=some .local) (hit:PI X tg iter wi)
 (hin:∀cl C s H fp,PG (zi2 X N' scope cl C s H fp) tg g/\PTs (zi2 X N' scope cl C s H fp) ifs tc/\PE (zi2 X N' scope cl C s H fp) elt te)
 (hsw:swapsWith (.ListComp elt [⟨tg,iter,ifs,0⟩] scope pos) (some (.Name y py)) spos.line X.env=pure true)
 (hs:∀x,foldedSetIterable iter X.env x=pure x:=by intro _;rfl) :
 PS X (.Assign [.Name y py] (.ListComp elt [⟨tg,iter,ifs,0⟩] scope pos) spos) (wj3 (wj1 wi ixs g tc te) (xi6 i)):=by
 intro pins s σ H D I h;rw[exec_Assign_Name_used _ _ _ _ hsw];refine wpAny_bind (wpAny_standAt (wpAny_bind ?_));show wpAny _ X.A (do let _ <-comprehension (.ListComp elt [⟨tg,iter,ifs,0⟩] scope pos) scope X.env _ (newList []) false (eval iter X.env) (some (assign (.Name y py) X.env))) _ _ s;refine wpAny_bind (wpAny_mono (wpAny_comprehension_free (use:=some (assign (.Name y py) X.env)) (Q:=fun _ s'=>SP X pins D .next s') rfl hs (S.clos I) S.kind S.loc (thn (hit pins s σ H _ I h) fun v s1 h1=>thn h1 fun itv s2 h2=>?_)) (fun _ s' hq=>wpAny_pure (wpAny_pure hq)) fun _ _ e=>e);obtain⟨it,fp,tn,J,H2,rfl,I2,T,st2,f2,hw⟩:=h2;refine yk7 (Q:=fun x H1=>xi6 i x σ H1 D.nx) (RR:=fun acc C=>compPost (model X.prog X.w) X.A X.xe (some (assign (.Name y py) X.env)) (fun _ s'=>SP X pins D .next s') acc C) S hc I2 T st2 f2 hin hw ?_;intro D' C H' s' m hn hL hC hsz hcl hpn hfs I' q;show wpAny _ X.A (assign (.Name y py) X.env (.ref D')) _ _ _;refine wpAny_assign_Name (yp5 (v:=V.ref D') I' hN hi (.inl hy) rfl (fun s3 I3 hI96=>?_) (.inr hy));obtain⟨a,hsb,ha⟩:=hI96;have hCa:C≠a:=by
  rcases ha with rfl | ha
  ·exact hL
  ·exact fun z=>hcl y a ha z.symm
 refine⟨m,hn.sameBut hsb hCa,fun h' hs'=>⟨_,H',?_,q⟩⟩;exact I3.turned (t':=s3.toks) (fun b o hb e=>hs'.extBut b o hb e) hC hL (.inr hsz) hcl hpn
end
end L2
end
section
namespace L2
open PySem PySem.Spec PyProof.Rows
inductive D where
 | non | bl (b:Bool) | int (i:Int) | str (x:Str) | tup (l:List D) | lst (l:List D) | dct (ks vs:List D) | fl (l:List D)
noncomputable def xj2:Key->D
 | .inl i=>.int i
 | .inr x=>.str x
noncomputable def ze8 (k:List Key):D:=.tup (k.map xj2)
mutual
noncomputable def Is (K:PySem.W.Frag) (A:Addr->Prop) (H:Hp):D->V->Prop
 | .non,v=>v=.non
 | .bl b,v=>v=.bl b
 | .int i,v=>v=.int i
 | .str x,v=>v=.str x
 | .tup l,v=>∃a vs,v=.ref a/\H a=some (.tup vs)/\IsL K A H l vs
 | .lst l,v=>∃a vs,v=.ref a/\A a/\H a=some (.lst vs)/\IsL K A H l vs
 | .dct ks l,v=>∃a vs,v=.ref a/\A a/\IsL K A H l vs/\
  ((∃kk:List Key,ks=kk.map xj2/\kk.length=vs.length/\H a=some (.dK (kk.zip vs)))\/(∃kk:List (List Key),ks=D.non::kk.map ze8/\kk.length=vs.length/\H a=some (.dT (kk.zip vs))))
 | .fl l,v=>∃a o vs,v=.ref a/\H a=some (.frz o (.lst vs))/\IsL K A H l vs
noncomputable def IsL (K:PySem.W.Frag) (A:Addr->Prop) (H:Hp):List D->List V->Prop
 | [],vs=>vs=[]
 | d::l,vs=>∃v r,vs=v::r/\Is K A H d v/\IsL K A H l r
end
noncomputable def vh8 (o:HO):Prop:=(∃u,o=.tup u)\/∃ob u,o=.frz ob u
structure zi6 (A A':Addr->Prop) (H H':Hp):Prop where
 sty:∀b o,H b=some o->vh8 o->H' b=some o
 nod:∀b o,A b->H b=some o->A' b/\H' b=some o
section
variable {K:PySem.W.Frag} {A A':Addr->Prop} {H H':Hp}
theorem zi6.tup (k:zi6 A A' H H') (b:Addr) (u:List V) (h:H b=some (.tup u)):H' b=some (.tup u):=k.sty b _ h (.inl ⟨_,rfl⟩)
theorem zi6.frz (k:zi6 A A' H H') (b:Addr) (o:Obj) (u:HO) (h:H b=some (.frz o u)):H' b=some (.frz o u):=k.sty b _ h (.inr ⟨_,_,rfl⟩)
mutual
theorem Is.mono (k:zi6 A A' H H'):∀{d:D} {v:V},Is K A H d v->Is K A' H' d v
 | .non,_,h=>h
 | .bl _,_,h=>h
 | .int _,_,h=>h
 | .str _,_,h=>h
 | .tup l,v,h=>by
   unfold Is at h ⊢;obtain⟨a,vs,e,q,i⟩:=h;exact⟨a,vs,e,k.tup a vs q,IsL.mono k i⟩
 | .lst l,v,h=>by
   unfold Is at h ⊢;obtain⟨a,vs,e,n,q,i⟩:=h;exact⟨a,vs,e,(k.nod a _ n q).1,(k.nod a _ n q).2,IsL.mono k i⟩
 | .dct ks l,v,h=>by
   unfold Is at h ⊢;obtain⟨a,vs,e,n,i,q⟩:=h;refine⟨a,vs,e,?_,IsL.mono k i,?_⟩
   ·rcases q with⟨_,_,_,q⟩ | ⟨_,_,_,q⟩<;>exact(k.nod a _ n q).1
   ·rcases q with⟨kk,e1,e2,q⟩ | ⟨kk,e1,e2,q⟩
    ·exact .inl ⟨kk,e1,e2,(k.nod a _ n q).2⟩
    ·exact .inr ⟨kk,e1,e2,(k.nod a _ n q).2⟩
 | .fl l,v,h=>by
   unfold Is at h ⊢;obtain⟨a,o,vs,e,q,i⟩:=h;exact⟨a,o,vs,e,k.frz a o _ q,IsL.mono k i⟩
theorem IsL.mono (k:zi6 A A' H H'):∀{l:List D} {vs:List V},IsL K A H l vs->IsL K A' H' l vs
 | [],_,h=>h
 | d::l,vs,h=>by
   unfold IsL at h ⊢;obtain⟨v,r,e,i,j⟩:=h;exact⟨v,r,e,Is.mono k i,IsL.mono k j⟩
end
theorem IsL.nil {vs:List V}:IsL K A H [] vs↔vs=[]:=by unfold IsL;rfl
theorem IsL.cons {d:D} {l:List D} {vs:List V}:IsL K A H (d::l) vs↔∃v r,vs=v::r/\Is K A H d v/\IsL K A H l r:=by conv=>lhs;unfold IsL
theorem IsL.length:∀{l:List D} {vs:List V},IsL K A H l vs->l.length=vs.length
 | [],vs,h=>by rw[IsL.nil.mp h];rfl
 | d::l,vs,h=>by
   obtain⟨v,r,e,_,j⟩:=IsL.cons.mp h;rw[e,An0,An0,IsL.length j]
theorem IsL.get:∀{l:List D} {vs:List V} {i:Nat} {d:D},IsL K A H l vs->l[i]?=some d->∃v,vs[i]?=some v/\Is K A H d v
 | [],_,_,_,_,e=>by simp at e
 | x::l,vs,0,d,h,e=>by
   obtain⟨v,r,e',i,_⟩:=IsL.cons.mp h;simp at e;subst e e';exact⟨v,rfl,i⟩
 | x::l,vs,i+1,d,h,e=>by
   obtain⟨v,r,e',_,j⟩:=IsL.cons.mp h;subst e';simpa using IsL.get (i:=i) j (by simpa using e)
theorem IsL.append:∀{l m:List D} {vs us:List V},IsL K A H l vs->IsL K A H m us->IsL K A H (l++m) (vs++us)
 | [],m,vs,us,h,g=>by rw[IsL.nil.mp h];exact g
 | d::l,m,vs,us,h,g=>by
   obtain⟨v,r,e,i,j⟩:=IsL.cons.mp h;subst e;exact IsL.cons.mpr ⟨v,r++us,rfl,i,IsL.append j g⟩
theorem IsL.one {d:D} {v:V} (h:Is K A H d v):IsL K A H [d] [v]:=IsL.cons.mpr ⟨v,[],rfl,h,IsL.nil.mpr rfl⟩
theorem IsL.take:∀{l:List D} {vs:List V} (n:Nat),IsL K A H l vs->IsL K A H (l.take n) (vs.take n)
 | _,_,0,_=>by simp only[List.take_zero];exact IsL.nil.mpr rfl
 | [],vs,n+1,h=>by rw[IsL.nil.mp h];simp only[List.take_nil];exact IsL.nil.mpr rfl
 | d::l,vs,n+1,h=>by
   obtain⟨v,r,e,i,j⟩:=IsL.cons.mp h;subst e;exact IsL.cons.mpr ⟨v,r.take n,rfl,i,IsL.take n j⟩
theorem IsL.reverse:∀{l:List D} {vs:List V},IsL K A H l vs->IsL K A H l.reverse vs.reverse
 | [],vs,h=>by rw[IsL.nil.mp h];exact IsL.nil.mpr rfl
 | d::l,vs,h=>by
   obtain⟨v,r,e,i,j⟩:=IsL.cons.mp h;subst e;rw[List.reverse_cons,List.reverse_cons];exact IsL.append (IsL.reverse j) (IsL.one i)
theorem IsL.set:∀{l:List D} {vs:List V} (n:Nat) {d:D} {v:V},IsL K A H l vs->Is K A H d v->IsL K A H (l.set n d) (vs.set n v)
 | [],vs,n,d,v,h,_=>by rw[IsL.nil.mp h];simp only[List.set_nil];exact IsL.nil.mpr rfl
 | x::l,vs,0,d,v,h,g=>by
   obtain⟨w,r,e,i,j⟩:=IsL.cons.mp h;subst e;exact IsL.cons.mpr ⟨v,r,rfl,g,j⟩
 | x::l,vs,n+1,d,v,h,g=>by
   obtain⟨w,r,e,i,j⟩:=IsL.cons.mp h;subst e;exact IsL.cons.mpr ⟨w,r.set n v,rfl,i,IsL.set n j g⟩
end
mutual
noncomputable def D.imm:D->Bool
 | .tup l=>D.immL l
 | .lst _=>false
 | .dct _ _=>false
 | .fl l=>D.immL l
 | _=>true
noncomputable def D.immL:List D->Bool
 | []=>true
 | d::l=>D.imm d&&D.immL l
end
section
variable {K:PySem.W.Frag} {A A':Addr->Prop} {H:Hp}
mutual
theorem Is.ofImm:∀{d:D} {v:V},d.imm=true->Is K A H d v->Is K A' H d v
 | .non,_,_,h=>h
 | .bl _,_,_,h=>h
 | .int _,_,_,h=>h
 | .str _,_,_,h=>h
 | .tup l,v,m,h=>by
   unfold Is at h ⊢;obtain⟨a,vs,e,q,i⟩:=h;exact⟨a,vs,e,q,IsL.ofImm (by simpa [D.imm] using m) i⟩
 | .lst l,v,m,_=>by simp[D.imm] at m
 | .dct _ l,v,m,_=>by simp[D.imm] at m
 | .fl l,v,m,h=>by
   unfold Is at h ⊢;obtain⟨a,o,vs,e,q,i⟩:=h;exact⟨a,o,vs,e,q,IsL.ofImm (by simpa [D.imm] using m) i⟩
theorem IsL.ofImm:∀{l:List D} {vs:List V},D.immL l=true->IsL K A H l vs->IsL K A' H l vs
 | [],_,_,h=>h
 | d::l,vs,m,h=>by
   have m':d.imm=true/\D.immL l=true:=by simpa [D.immL] using m
   unfold IsL at h ⊢;obtain⟨v,r,e,i,j⟩:=h;exact⟨v,r,e,Is.ofImm m'.1 i,IsL.ofImm m'.2 j⟩
end
theorem Is.tup {a:Addr} {vs:List V} {l:List D} (h:H a=some (.tup vs)) (i:IsL K A H l vs):Is K A H (.tup l) (.ref a):=by
 unfold Is;exact⟨a,vs,rfl,h,i⟩
theorem Is.lst {a:Addr} {vs:List V} {l:List D} (n:A a) (h:H a=some (.lst vs)) (i:IsL K A H l vs):Is K A H (.lst l) (.ref a):=by
 unfold Is;exact⟨a,vs,rfl,n,h,i⟩
theorem Is.int_iff {i:Int} {v:V}:Is K A H (.int i) v↔v=.int i:=by unfold Is;rfl
theorem Is.bl_iff {i:Bool} {v:V}:Is K A H (.bl i) v↔v=.bl i:=by unfold Is;rfl
theorem Is.str_iff {i:Str} {v:V}:Is K A H (.str i) v↔v=.str i:=by unfold Is;rfl
theorem Is.non_iff {v:V}:Is K A H .non v↔v=.non:=by unfold Is;rfl
theorem Is.tup_iff {l:List D} {v:V}:Is K A H (.tup l) v↔∃a vs,v=.ref a/\H a=some (.tup vs)/\IsL K A H l vs:=by conv=>lhs;unfold Is
theorem Is.tup_sq {l:List D} {v:V} (h:Is K A H (.tup l) v):∃a vs,v=.ref a/\SqT K H a vs/\IsL K A H l vs:=let ⟨a,vs,e,s,i⟩:=Is.tup_iff.mp h;⟨a,vs,e,.of s,i⟩
theorem Is.lst_iff {l:List D} {v:V}:Is K A H (.lst l) v↔∃a vs,v=.ref a/\A a/\H a=some (.lst vs)/\IsL K A H l vs:=by conv=>lhs;unfold Is
theorem Is.fl_iff {l:List D} {v:V}:Is K A H (.fl l) v↔∃a o vs,v=.ref a/\H a=some (.frz o (.lst vs))/\IsL K A H l vs:=by conv=>lhs;unfold Is
theorem Is.dct_iff {ks l:List D} {v:V}:Is K A H (.dct ks l) v↔∃a vs,v=.ref a/\A a/\IsL K A H l vs/\
 ((∃kk:List Key,ks=kk.map xj2/\kk.length=vs.length/\H a=some (.dK (kk.zip vs)))\/(∃kk:List (List Key),ks=D.non::kk.map ze8/\kk.length=vs.length/\H a=some (.dT (kk.zip vs)))):=by conv=>lhs;unfold Is
end
end L2
end
section
namespace L2
open PySem PySem.Spec PyProof.Rows
structure Exn where
 cls:Str
 args:List D
inductive Res (S α:Type) where
 | ok (a:α) (st:S) | exc (x:Exn) (st:S) | bad
variable {S α β γ:Type}
noncomputable def Res.bind (r:Res S α) (k:α->S->Res S β):Res S β:=match r with
 | .ok a st=>k a st
 | .exc x st=>.exc x st
 | .bad=>.bad
noncomputable def wpR (r:Res S α) (Q:α->S->Prop) (E:Exn->S->Prop):Prop:=match r with
 | .ok a st=>Q a st
 | .exc x st=>E x st
 | .bad=>False
theorem za3 {r:Res S α} {k:α->S->Res S β} {Q:β->S->Prop} {E:Exn->S->Prop}:wpR (r.bind k) Q E↔wpR r (fun a st=>wpR (k a st) Q E) E:=by
 cases r<;>rfl
theorem za7 {r:Res S α} {Q Q':α->S->Prop} {E E':Exn->S->Prop} (h:wpR r Q E) (hQ:∀a st,Q a st->Q' a st) (hE:∀x st,E x st->E' x st):wpR r Q' E':=by
 cases r with
 | ok a st=>exact hQ a st h
 | exc x st=>exact hE x st h
 | bad=>exact h.elim
noncomputable def zk3 (o:Option α) (st:S):Res S α:=match o with
 | some a=>.ok a st
 | none=>.bad
theorem zb8 {o:Option α} {st:S} {Q:α->S->Prop} {E:Exn->S->Prop}:wpR (zk3 o st) Q E↔∃a,o=some a/\Q a st:=by
 cases o with
 | none=>constructor
         ·intro h;exact h.elim
         ·rintro ⟨a,e,_⟩;cases e
 | some a=>constructor
           ·intro h;exact⟨a,rfl,h⟩
           ·rintro ⟨b,e,q⟩;cases e;exact q
@[simp] theorem Res.bind_ok (a:α) (st:S) (k:α->S->Res S β):(Res.ok a st).bind k=k a st:=rfl
structure Wd (S:Type) where
 ok:S->Hp->Prop
 mv:Addr->Prop
 h:V
 stay:∀st H H',ok st H->(∀b o,mv b->H b=some o->H' b=some o)->ok st H'
 live:∀st H b,ok st H->mv b->∃o,H b=some o/\(∀u,o≠.tup u)/\∀ob u,o≠.frz ob u
noncomputable def W0:Wd Unit:=⟨fun _ _=>True,fun _=>False,.non,fun _ _ _ h _=>h,fun _ _ _ _ h=>h.elim⟩
inductive Sl where
 | no | bor (d:D) | own (d:D) | hnd
noncomputable abbrev Rho:=List Sl
structure Dx {S:Type} (W:Wd S) where
 K:PySem.W.Frag
 H0:Hp
 Ex:Exn->S->Hp->Prop
 /-- addresses that no tree holds (a comprehension's list while it grows) -/
 av:Addr->Prop
noncomputable def Ext {S:Type} (W:Wd S) (H H':Hp):Prop:=∀b o,H b=some o->¬W.mv b->H' b=some o
theorem Ext.refl {S:Type} {W:Wd S} {H:Hp}:Ext W H H:=fun _ _ h _=>h
theorem Ext.trans {S:Type} {W:Wd S} {H H1 H2:Hp} (a:Ext W H H1) (b:Ext W H1 H2):Ext W H H2:=fun c o h n=>b c o (a c o h n) n
theorem Ext.laid {S:Type} {W:Wd S} {H:Hp} {p:Addr} {o:HO} (h:H p=none):Ext W H (upd H p o):=fun b u e _=>by rw[za9 (zb7 e h)];exact e
theorem yv3.ext {S:Type} {W:Wd S} {H H':Hp} (h:yv3 H H'):Ext W H H':=fun b o e _=>h b o e
noncomputable def Ow (σ:St) (ρ:Rho) (b:Addr):Prop:=∃(i:Nat) (d:D),ρ[i]?=some (Sl.own d)/\σ[i]?=some (some (V.ref b))
noncomputable def Av {S:Type} {W:Wd S} (c:Dx W) (σ:St) (ρ:Rho) (b:Addr):Prop:=¬W.mv b/\¬Ow σ ρ b/\¬c.av b
noncomputable def Top (K:PySem.W.Frag) (A:Addr->Prop) (H:Hp) (d:D) (a:Addr):Prop:=match d with
 | .lst l=>∃vs,H a=some (.lst vs)/\IsL K A H l vs
 | .dct ks l=>∃vs,IsL K A H l vs/\((∃kk:List Key,ks=kk.map xj2/\kk.length=vs.length/\H a=some (.dK (kk.zip vs)))\/(∃kk:List (List Key),ks=D.non::kk.map ze8/\kk.length=vs.length/\H a=some (.dT (kk.zip vs))))
 | _=>False
noncomputable def wg6 {S:Type} {W:Wd S} (c:Dx W) (H:Hp) (A:Addr->Prop) (ov:Option V):Sl->Prop
 | .no=>True
 | .bor d=>∃v,ov=some v/\Is c.K A H d v
 | .own d=>∃a,ov=some (.ref a)/\(¬W.mv a/\¬c.av a)/\c.H0 a=none/\Top c.K A H d a
 | .hnd=>ov=some W.h
structure Rep {S:Type} {W:Wd S} (c:Dx W) (H:Hp) (σ:St) (ρ:Rho):Prop where
 len:σ.length=ρ.length
 frame:∀b o,c.H0 b=some o->¬W.mv b->H b=some o
 slot:∀(i:Nat) (s:Sl),ρ[i]?=some s->wg6 c H (Av c σ ρ) (σ[i]?).join s
 avl:∀b,c.av b->¬W.mv b/\c.H0 b=none/\∃o,H b=some o/\(∀u,o≠.tup u)/\∀ob u,o≠.frz ob u
 uniq:∀(i j:Nat) (a:Addr) (d e:D),ρ[i]?=some (.own d)->ρ[j]?=some (.own e)->σ[i]?=some (some (.ref a))->σ[j]?=some (some (.ref a))->i=j
section
variable {S:Type} {W:Wd S} {c:Dx W} {H H':Hp} {σ:St} {ρ:Rho} {A A':Addr->Prop}
theorem Top.isTop {d:D} {a:Addr} (n:A a) (h:Top c.K A H d a):Is c.K A H d (.ref a):=by
 cases d with
 | lst l=>obtain⟨vs,e,i⟩:=h;exact Is.lst n e i
 | dct ks l=>obtain⟨vs,i,q⟩:=h;exact Is.dct_iff.mpr ⟨a,vs,rfl,n,i,q⟩
 | _=>exact h.elim
theorem Top.there {d:D} {a:Addr} (h:Top c.K A H d a):∃o,H a=some o/\(∀u,o≠.tup u)/\∀ob u,o≠.frz ob u:=by
 cases d with
 | lst l=>obtain⟨vs,e,i⟩:=h;exact⟨_,e,(fun u z=>by cases z),(fun ob u z=>by cases z)⟩
 | dct ks l=>
   obtain⟨vs,i,⟨_,_,_,q⟩ | ⟨_,_,_,q⟩⟩:=h
   ·exact⟨_,q,(fun u z=>by cases z),(fun ob u z=>by cases z)⟩
   ·exact⟨_,q,(fun u z=>by cases z),(fun ob u z=>by cases z)⟩
 | _=>exact h.elim
theorem Top.mono {d:D} {a:Addr} (k:zi6 A A' H H') (e:∀o,H a=some o->H' a=some o) (h:Top c.K A H d a):Top c.K A' H' d a:=by
 cases d with
 | lst l=>obtain⟨vs,q,i⟩:=h;exact⟨vs,e _ q,i.mono k⟩
 | dct ks l=>
   obtain⟨vs,i,⟨kk,e1,e2,q⟩ | ⟨kk,e1,e2,q⟩⟩:=h
   ·exact⟨vs,i.mono k,.inl ⟨kk,e1,e2,e _ q⟩⟩
   ·exact⟨vs,i.mono k,.inr ⟨kk,e1,e2,e _ q⟩⟩
 | _=>exact h.elim
theorem Rep.owOk (R:Rep c H σ ρ) {b:Addr} (h:Ow σ ρ b):¬W.mv b/\c.H0 b=none/\∃o,H b=some o/\(∀u,o≠.tup u)/\∀ob u,o≠.frz ob u:=by
 obtain⟨i,d,e1,e2⟩:=h;obtain⟨a,e,n,f,t⟩:=R.slot i _ e1;rw[e2] at e;have e:some (V.ref b)=some (V.ref a):=e;cases e;exact⟨n.1,f,t.there⟩
theorem zl0 (ht:∀b o,H b=some o->(∃u,o=.tup u)\/(∃ob u,o=.frz ob u)->H' b=some o) (hn:∀b o,A b->H b=some o->A' b/\H' b=some o):zi6 A A' H H':=
 ⟨ht,hn⟩
theorem Ext.keepT {st:S} (e:Ext W H H') (ok:W.ok st H) (hA:∀b,A b->¬W.mv b/\A' b):zi6 A A' H H':=
 zl0 (fun b o h t=>e b o h fun m=>by
  obtain⟨o',h',n1,n2⟩:=W.live st H b ok m;rw[h] at h';cases h';rcases t with⟨u,z⟩ | ⟨ob,u,z⟩
  ·exact n1 u z
  ·exact n2 ob u z) fun b o a h=>⟨(hA b a).2,e b o h (hA b a).1⟩
theorem Rep.ext {st:S} (R:Rep c H σ ρ) (ok:W.ok st H) (e:Ext W H H'):Rep c H' σ ρ where
 len:=R.len
 frame:=fun b o h n=>e b o (R.frame b o h n) n
 avl:=fun b h=>let ⟨n,z,o,h',q⟩:=R.avl b h;⟨n,z,o,e b o h' n,q⟩
 uniq:=R.uniq
 slot:=fun i s h=>by
  have k:zi6 (Av c σ ρ) (Av c σ ρ) H H':=e.keepT ok fun b a=>⟨a.1,a⟩
  have q:=R.slot i s h;cases s with
  | no=>trivial
  | bor d=>obtain⟨v,e1,i1⟩:=q;exact⟨v,e1,i1.mono k⟩
  | own d=>obtain⟨a,e1,n,f,t⟩:=q;exact⟨a,e1,n,f,t.mono k fun o z=>e a o z n.1⟩
  | hnd=>exact q
end
noncomputable def D.mut:D->Bool
 | .lst _=>true
 | .dct _ _=>true
 | _=>false
inductive Gr where
 | R | B | F
noncomputable def Val {S:Type} {W:Wd S} (c:Dx W) (g:Gr) (σ:St) (ρ:Rho) (H H':Hp) (d:D) (v:V):Prop:=match g with
 | .R=>Is c.K (fun b=>¬W.mv b) H' d v
 | .B=>Is c.K (Av c σ ρ) H' d v
 | .F=>Is c.K (Av c σ ρ) H' d v/\∀a,v=.ref a->d.mut=true->H a=none
section
variable {S:Type} {W:Wd S} {c:Dx W} {H H1 H':Hp} {σ:St} {ρ:Rho} {d:D} {v:V} {g:Gr}
theorem Val.toR (h:Val c g σ ρ H H' d v):Val c .R σ ρ H H' d v:=by
 have k:zi6 (Av c σ ρ) (fun b=>¬W.mv b) H' H':=⟨fun _ _ z _=>z,fun b o a z=>⟨a.1,z⟩⟩;cases g with
 | R=>exact h
 | B=>exact Is.mono k h
 | F=>exact Is.mono k h.1
theorem Val.toB (h:Val c .F σ ρ H H' d v):Val c .B σ ρ H H' d v:=h.1
end
noncomputable abbrev Fn (S:Type):=Rho->S->Res S D
noncomputable def tD {S:Type} {W:Wd S} (c:Dx W) (g:Gr) (f:Fn S):TE:=fun σ H Q=>∃ρ st,Rep c H σ ρ/\W.ok st H/\
 wpR (f ρ st) (fun d st'=>∀v H',Ext W H H'->W.ok st' H'->Val c g σ ρ H H' d v->Q v H') fun x st'=>∀H',Ext W H H'->W.ok st' H'->c.Ex x st' H'
noncomputable def DE (X:Cx) {S:Type} {W:Wd S} (c:Dx W) (g:Gr) (e:Expr) (f:Fn S):Prop:=PE X e (tD c g f)
theorem PE.imp {X:Cx} {e:Expr} {t t':TE} (h:PE X e t) (i:∀σ H Q,t' σ H Q->t σ H Q):PE X e t':=fun pins s σ H Q I q=>h pins s σ H Q I (i σ H Q q)
theorem PT.imp {X:Cx} {e:Expr} {t t':TT} (h:PT X e t) (i:∀σ H Q,t' σ H Q->t σ H Q):PT X e t':=fun pins s σ H Q I q=>h pins s σ H Q I (i σ H Q q)
theorem PS.imp {X:Cx} {e:Stmt} {t t':TS} (h:PS X e t) (i:∀D σ H,t' D σ H->t D σ H):PS X e t':=fun pins s σ H D I q=>h pins s σ H D I (i D σ H q)
theorem PSs.imp {X:Cx} {e:List Stmt} {t t':TS} (h:PSs X e t) (i:∀D σ H,t' D σ H->t D σ H):PSs X e t':=fun pins s σ H D I q=>h pins s σ H D I (i D σ H q)
section
variable {X:Cx} {S:Type} {W:Wd S} {c:Dx W} {g:Gr} {e:Expr} {f:Fn S}
end
end L2
end
section
namespace L2
open PySem PySem.Spec PyProof.Rows
noncomputable def Go {S:Type} {W:Wd S} (c:Dx W) (g:Gr) (σ:St) (f:Fn S) (H:Hp) (Q:VK) (ρ:Rho) (st:S):Prop:=
 wpR (f ρ st) (fun d st'=>∀v H',Ext W H H'->W.ok st' H'->Val c g σ ρ H H' d v->Q v H') fun x st'=>∀H',Ext W H H'->W.ok st' H'->c.Ex x st' H'
section
variable {S:Type} {W:Wd S} {c:Dx W} {H H1 H':Hp} {σ:St} {ρ:Rho} {d:D} {v:V} {g g':Gr} {st st1:S}
theorem Ext.none (e:Ext W H H1) (ok:W.ok st H1) {a:Addr} (h:H1 a=none):H a=none:=by
 cases q:H a with
 | none=>rfl
 | some o=>
   have n:¬W.mv a:=fun m=>by obtain⟨o',h',_⟩:=W.live st H1 a ok m;rw[h] at h';cases h'
   rw[e a o q n] at h;cases h
theorem Val.back (e:Ext W H H1) (ok:W.ok st H1) (h:Val c g σ ρ H1 H' d v):Val c g σ ρ H H' d v:=by
 cases g with
 | R=>exact h
 | B=>exact h
 | F=>exact⟨h.1,fun a ea m=>e.none ok (h.2 a ea m)⟩
theorem Val.ext (e:Ext W H' H1) (ok:W.ok st H') (h:Val c .R σ ρ H H' d v):Val c .R σ ρ H H1 d v:=Is.mono (e.keepT ok fun b n=>⟨n,n⟩) h
theorem Is.ext {A:Addr->Prop} (e:Ext W H' H1) (ok:W.ok st H') (hA:∀b,A b->¬W.mv b) (h:Is c.K A H' d v):Is c.K A H1 d v:=Is.mono (e.keepT ok fun b n=>⟨hA b n,n⟩) h
theorem IsL.ext {A:Addr->Prop} {l:List D} {vs:List V} (e:Ext W H' H1) (ok:W.ok st H') (hA:∀b,A b->¬W.mv b) (h:IsL c.K A H' l vs):IsL c.K A H1 l vs:=IsL.mono (e.keepT ok fun b n=>⟨hA b n,n⟩) h
theorem Go.from {f:Fn S} {Q:VK} (e:Ext W H H1) (ok:W.ok st1 H1) (h:Go c g σ f H Q ρ st):Go c g σ f H1 Q ρ st:=
 za7 h (fun d st' q v H' a b z=>q v H' (e.trans a) b (z.back e ok)) fun x st' q H' a b=>q H' (e.trans a) b
theorem Go.bind {f:Fn S} {k:D->Fn S} {Q:VK} (R:Rep c H σ ρ) (ok:W.ok st H) (h:Go c g σ (fun ρ st=>(f ρ st).bind fun d st1=>k d ρ st1) H Q ρ st) :
 tD c g' f σ H fun v H1=>∃d st1,Rep c H1 σ ρ/\W.ok st1 H1/\Ext W H H1/\Val c g' σ ρ H H1 d v/\Go c g σ (k d) H1 Q ρ st1:=by
 refine⟨ρ,st,R,ok,?_⟩;have h':=za3.mp h;refine za7 h' (fun d st1 q v H1 e ok1 z=>?_) fun x st1 q=>q
 exact⟨d,st1,R.ext ok e,ok1,e,z,za7 q (fun d' st' q v' H' a b y=>q v' H' (e.trans a) b (y.back e ok1)) fun x st' q H' a b=>q H' (e.trans a) b⟩
theorem Go.done {Q:VK} {o:Option D} (h:Go c g σ (fun _ st=>zk3 o st) H Q ρ st) (ok:W.ok st H):∃d,o=some d/\∀v H',Ext W H H'->W.ok st H'->Val c g σ ρ H H' d v->Q v H':=by
 obtain⟨d,e,q⟩:=zb8.mp h;exact⟨d,e,q⟩
noncomputable def New {S:Type} {W:Wd S} (c:Dx W) (H H':Hp) (d:D) (v:V):Prop:=Is c.K (fun b=>¬W.mv b/\H b=none) H' d v
theorem New.valF (R:Rep c H σ ρ) (h:New c H H' d v):Val c .F σ ρ H H' d v:=by
 have k:zi6 (fun b=>¬W.mv b/\H b=Option.none) (Av c σ ρ) H' H':=⟨fun _ _ z _=>z,fun b o a z=>⟨⟨a.1,(fun w=>by
  obtain⟨_,_,o',h',_⟩:=R.owOk w;rw[a.2] at h';cases h'),fun w=>by
  obtain⟨_,_,o',h',_⟩:=R.avl b w;rw[a.2] at h';cases h'⟩,z⟩⟩
 refine⟨Is.mono k h,fun a ea m=>?_⟩;subst ea;cases d with
 | lst l=>obtain⟨b,vs,e,n,_⟩:=Is.lst_iff.mp h;cases e;exact n.2
 | dct ks l=>obtain⟨b,vs,e,n,_⟩:=Is.dct_iff.mp h;cases e;exact n.2
 | _=>simp[D.mut] at m
theorem New.val (R:Rep c H σ ρ) (h:New c H H' d v) (g:Gr):Val c g σ ρ H H' d v:=by
 cases g with
 | R=>exact(h.valF R).toR
 | B=>exact(h.valF R).toB
 | F=>exact h.valF R
theorem New.imm (m:d.imm=true) {A:Addr->Prop} (h:Is c.K A H' d v):New c H H' d v:=Is.ofImm m h
theorem zi3 {p:Addr} {o:HO} (ok:W.ok st H) (h:H p=none):W.ok st (upd H p o):=W.stay st H _ ok fun b u _ e=>by rw[za9 (zb7 e h)];exact e
theorem zo4 {p:Addr} (ok:W.ok st H) (h:H p=none):¬W.mv p:=fun m=>by
 obtain⟨o',h',_⟩:=W.live st H p ok m;rw[h] at h';cases h'
theorem New.tup {p:Addr} {l:List D} {vs:List V} {A:Addr->Prop} (ok:W.ok st H) (h:H p=none) (hA:∀b,A b->¬W.mv b) (m:D.immL l=true) (i:IsL c.K A H l vs):New c H (upd H p (.tup vs)) (.tup l) (.ref p):=
 Is.tup zb0 (IsL.ofImm m (i.ext (Ext.laid h) ok hA))
theorem New.lst {p:Addr} {l:List D} {vs:List V} {A:Addr->Prop} (ok:W.ok st H) (h:H p=none) (hA:∀b,A b->¬W.mv b) (m:D.immL l=true) (i:IsL c.K A H l vs):New c H (upd H p (.lst vs)) (.lst l) (.ref p):=
 Is.lst ⟨zo4 ok h,h⟩ zb0 (IsL.ofImm m (i.ext (Ext.laid h) ok hA))
end
section
variable {X:Cx} {S:Type} {W:Wd S} {c:Dx W} {g:Gr}
noncomputable def fC (S:Type) (d:D):Fn S:=fun _ st=>.ok d st
theorem va6 {i j pos}:DE X c g (.Constant (.int i) j pos) (fC S (.int i)):=zl4.imp fun σ H Q ⟨ρ,st,R,ok,w⟩=>w _ _ Ext.refl ok (New.val R (show New c H H (.int _) (.int _) from Is.int_iff.mpr rfl) g)
theorem vh2 {i j pos}:DE X c g (.Constant (.bool i) j pos) (fC S (.bl i)):=vf5.imp fun σ H Q ⟨ρ,st,R,ok,w⟩=>w _ _ Ext.refl ok (New.val R (show New c H H (.bl _) (.bl _) from Is.bl_iff.mpr rfl) g)
theorem va4 {j pos}:DE X c g (.Constant .none j pos) (fC S .non):=wv6.imp fun σ H Q ⟨ρ,st,R,ok,w⟩=>w _ _ Ext.refl ok (New.val R (show New c H H .non .non from Is.non_iff.mpr rfl) g)
theorem va2 {x j pos}:DE X c g (.Constant (.str x) j pos) (fC S (.str x)):=zx7.imp fun σ H Q ⟨ρ,st,R,ok,w⟩=>w _ _ Ext.refl ok (New.val R (show New c H H (.str _) (.str _) from Is.str_iff.mpr rfl) g)
noncomputable def rd (ρ:Rho) (i:Nat):Option D:=match ρ[i]? with
 | some (.bor d)=>some d
 | some (.own d)=>some d
 | _=>none
noncomputable def kp (ρ:Rho) (i:Nat):Option D:=match ρ[i]? with
 | some (.bor d)=>some d
 | _=>none
noncomputable def im (o:Option D):Option D:=o.bind fun d=>if d.imm=true then some d else none
noncomputable def fV (S:Type) (i:Nat):Fn S:=fun ρ st=>zk3 (rd ρ i) st
noncomputable def fVk (S:Type) (i:Nat):Fn S:=fun ρ st=>zk3 (kp ρ i) st
theorem Rep.rd {H:Hp} {σ:St} {ρ:Rho} {i:Nat} {d:D} (R:Rep c H σ ρ) (h:L2.rd ρ i=some d):∃v,σ[i]?=some (some v)/\Is c.K (fun b=>¬W.mv b) H d v:=by
 unfold L2.rd at h;have jn:∀{o:Option (Option V)} {v:V},o.join=some v->o=some (some v):=fun {o v} e=>by cases o with
  | none=>cases e
  | some a=>rw[show a=some v from e]
 cases q:ρ[i]? with
 | none=>rw[q] at h;cases h
 | some s=>
   rw[q] at h;have z:=R.slot i s q;cases s with
   | no=>cases h
   | hnd=>cases h
   | bor e=>
     cases h;obtain⟨v,e1,i1⟩:=z;exact⟨v,jn e1,i1.mono ⟨fun _ _ z _=>z,fun b o a z=>⟨a.1,z⟩⟩⟩
   | own e=>
     cases h;obtain⟨a,e1,n,f,t⟩:=z;exact⟨_,jn e1,(t.mono (A':=fun b=>¬W.mv b) ⟨fun _ _ z _=>z,fun b o a z=>⟨a.1,z⟩⟩ fun o z=>z).isTop n.1⟩
theorem Rep.kp {H:Hp} {σ:St} {ρ:Rho} {i:Nat} {d:D} (R:Rep c H σ ρ) (h:L2.kp ρ i=some d):∃v,σ[i]?=some (some v)/\Is c.K (Av c σ ρ) H d v:=by
 unfold L2.kp at h;cases q:ρ[i]? with
 | none=>rw[q] at h;cases h
 | some s=>
   rw[q] at h;have z:=R.slot i s q;cases s with
   | no=>cases h
   | hnd=>cases h
   | own e=>cases h
   | bor e=>
     cases h;obtain⟨v,e1,i1⟩:=z;refine⟨v,?_,i1⟩;cases w:σ[i]? with
     | none=>rw[w] at e1;cases e1
     | some a=>rw[w] at e1;rw[show a=some v from e1]
theorem va1 {i:Nat} {x:Str} {pos:Pos} (h:PE X (.Name x pos) (yh9 i)):DE X c .R (.Name x pos) (fV S i):=h.imp fun σ H Q hI3=>by
 obtain⟨ρ,st,R,ok,w⟩:=hI3;obtain⟨d,e,q⟩:=zb8.mp w;obtain⟨v,e1,i1⟩:=R.rd e;exact⟨v,e1,q v H Ext.refl ok i1⟩
theorem zg5 {i:Nat} {x:Str} {pos:Pos} (h:PE X (.Name x pos) (yh9 i)):DE X c .B (.Name x pos) (fVk S i):=h.imp fun σ H Q hI4=>by
 obtain⟨ρ,st,R,ok,w⟩:=hI4;obtain⟨d,e,q⟩:=zb8.mp w;obtain⟨v,e1,i1⟩:=R.kp e;exact⟨v,e1,q v H Ext.refl ok i1⟩
noncomputable def fI (S:Type) (f:Fn S):Fn S:=fun ρ st=>(f ρ st).bind fun d st1=>if d.imm=true then .ok d st1 else .bad
noncomputable def OpD {S:Type} {W:Wd S} (c:Dx W) (r:R2) (o:D->D->Option D):Prop:=∀d1 d2 v1 v2 H (st:S) d Q,W.ok st H->Is c.K (fun b=>¬W.mv b) H d1 v1->Is c.K (fun b=>¬W.mv b) H d2 v2->o d1 d2=some d->
 (∀v H',Ext W H H'->W.ok st H'->New c H H' d v->Q v H')->r v1 v2 H Q
noncomputable def f2 (S:Type) (o:D->D->Option D) (f1 f2:Fn S):Fn S:=fun ρ st=>(f1 ρ st).bind fun d1 st1=>(f2 ρ st1).bind fun d2 st2=>zk3 (o d1 d2) st2
theorem zg9 {f:Fn S} {σ:St} {H:Hp} {Q Q':VK} (h:tD c g f σ H Q) (i:∀v H',Q v H'->Q' v H'):tD c g f σ H Q':=by
 obtain⟨ρ,st,R,ok,w⟩:=h;exact⟨ρ,st,R,ok,za7 w (fun d st' q v H' a b z=>i v H' (q v H' a b z)) fun x st' q=>q⟩
theorem xl6 {r:R2} {o:D->D->Option D} {fa fb:Fn S} {ga gb:Gr} {σ:St} {H:Hp} {Q:VK} (hr:OpD c r o) (h:tD c g (f2 S o fa fb) σ H Q):tOp r (tD c ga fa) (tD c gb fb) σ H Q:=by
 obtain⟨ρ,st,R,ok,w⟩:=h;have w:Go c g σ (fun ρ st=>(fa ρ st).bind fun d1 st1=>(fun ρ st1=>(fb ρ st1).bind fun d2 st2=>zk3 (o d1 d2) st2) ρ st1) H Q ρ st:=w;refine zg9 (Go.bind (g':=ga) R ok w) fun v1 H1 hI97=>?_
 obtain⟨d1,st1,R1,ok1,e1,z1,w1⟩:=hI97;refine zg9 (Go.bind (g':=gb) (f:=fb) (k:=fun d2 _ st2=>zk3 (o d1 d2) st2) R1 ok1 w1) fun v2 H2 hI98=>?_
 obtain⟨d2,st2,R2,ok2,e2,z2,w2⟩:=hI98;obtain⟨d,e,q⟩:=Go.done w2 ok2;exact hr d1 d2 v1 v2 H2 st2 d Q ok2 (z1.toR.ext e2 ok1) z2.toR e fun v H' a b n=>q v H' a b (n.val R2 g)
theorem zs9 {op:Operator} {r:R2} {o:D->D->Option D} {a b:Expr} {pos:Pos} {fa fb:Fn S} {ga gb:Gr} (ho:OpR X (binaryOp op) r) (hr:OpD c r o) (ha:DE X c ga a fa) (hb:DE X c gb b fb):DE X c g (.BinOp a op b pos) (f2 S o fa fb):=
 (zq7 ho ha hb).imp fun σ H Q h=>xl6 hr h
theorem zv3 {op:CmpOp} {r:R2} {o:D->D->Option D} {a b:Expr} {pos:Pos} {fa fb:Fn S} {ga gb:Gr} (ho:OpR X (compareOp op) r) (hr:OpD c r o) (ha:DE X c ga a fa) (hb:DE X c gb b fb) (hm:behindInMarks op b=false):DE X c g (.Compare a [op] [b] pos) (f2 S o fa fb):=
 (wl2 ho ha hb hm).imp fun σ H Q h=>xl6 hr h
theorem va5 {r:R2} {o:D->D->Option D} {a b:Expr} {pos:Pos} {fa fb:Fn S} {ga gb:Gr} (ho:IxR X r) (hr:OpD c r o) (ha:DE X c ga a fa) (hb:DE X c gb b fb) (hs:yh5 b):DE X c g (.Subscript a b pos) (f2 S o fa fb):=
 (wl0 ho ha hb hs).imp fun σ H Q h=>xl6 hr h
noncomputable abbrev FnT (S:Type):=Rho->S->Res S Bool
noncomputable def tDT {S:Type} {W:Wd S} (c:Dx W) (f:FnT S):TT:=fun σ H Q=>∃ρ st,Rep c H σ ρ/\W.ok st H/\
 wpR (f ρ st) (fun b st'=>∀H',Ext W H H'->W.ok st' H'->Q b H') fun x st'=>∀H',Ext W H H'->W.ok st' H'->c.Ex x st' H'
noncomputable def DT (X:Cx) {S:Type} {W:Wd S} (c:Dx W) (e:Expr) (f:FnT S):Prop:=PT X e (tDT c f)
noncomputable def D.bool?:D->Option Bool
 | .bl b=>some b
 | _=>none
noncomputable def fB (S:Type) (f:Fn S):FnT S:=fun ρ st=>(f ρ st).bind fun d st1=>zk3 d.bool? st1
theorem yp4 {f:Fn S} {σ:St} {H:Hp} {Q:Bool->Hp->Prop} (h:tDT c (fB S f) σ H Q):tB (tD c g f) σ H Q:=by
 obtain⟨ρ,st,R,ok,w⟩:=h;refine⟨ρ,st,R,ok,za7 (za3.mp w) (fun d st1 q v H1 e ok1 z=>?_) fun x st1 q=>q⟩;obtain⟨b,e1,q⟩:=zb8.mp q;cases d with
 | bl k=>
   cases e1;have z':Is c.K (fun b=>¬W.mv b) H1 (.bl b) v:=z.toR;exact⟨_,Is.bl_iff.mp z',q H1 e ok1⟩
 | _=>cases e1
theorem zn8 {e:Expr} {f:Fn S} (h:DE X c g e f) (he:∀whole,isTrue e X.env whole=(do let v <-whole;standAt e.pos;holding [v] (truthy v)):=by intro _;rfl):DT X c e (fB S f):=
 (wu7 h he).imp fun σ H Q q=>yp4 q
theorem zg2 {op:CmpOp} {r:R2} {o:D->D->Option D} {a b:Expr} {pos:Pos} {fa fb:Fn S} {ga gb:Gr} (ho:OpR X (compareOp op) r) (hr:OpD c r o) (ha:DE X c ga a fa) (hb:DE X c gb b fb) (hm:behindInMarks op b=false):DT X c (.Compare a [op] [b] pos) (fB S (f2 S o fa fb)):=
 (yw5 ho ha hb hm).imp fun σ H Q q=>by
  have q':tB (tD c .R (f2 S o fa fb)) σ H Q:=yp4 q;exact xl6 (ga:=ga) (gb:=gb) hr q'
noncomputable def vh0 (S:Type) (f1 f2:FnT S):FnT S:=fun ρ st=>(f1 ρ st).bind fun b st1=>if b=true then f2 ρ st1 else .ok false st1
noncomputable def fOr (S:Type) (f1 f2:FnT S):FnT S:=fun ρ st=>(f1 ρ st).bind fun b st1=>if b=true then .ok true st1 else f2 ρ st1
noncomputable def vg7 (S:Type) (f1:FnT S):FnT S:=fun ρ st=>(f1 ρ st).bind fun b st1=>.ok (!b) st1
noncomputable def DW (X:Cx) {S:Type} {W:Wd S} (c:Dx W) (e:Expr) (f:FnT S):Prop:=PW X e (tDT c f)
theorem PW.imp {X:Cx} {e:Expr} {t t':TT} (h:PW X e t) (i:∀σ H Q,t' σ H Q->t σ H Q):PW X e t':=fun w pins s σ H Q I q=>h w pins s σ H Q I (i σ H Q q)
theorem DW.dt {e:Expr} {f:FnT S} (h:DW X c e f):DT X c e f:=PW.pt h
theorem yn5 {a:Expr} {pos:Pos} {f:FnT S} (h:DT X c a f):DW X c (.BoolOp .And [a] pos) f:=pw_and1 h
theorem yt6 {a:Expr} {pos:Pos} {f:FnT S} (h:DT X c a f):DW X c (.BoolOp .Or [a] pos) f:=pw_or1 h
theorem yk4 {a b:Expr} {zx5:List Expr} {pos:Pos} {f1 f2:FnT S} (ha:DT X c a f1) (hb:DW X c (.BoolOp .And (b::zx5) pos) f2):DW X c (.BoolOp .And (a::b::zx5) pos) (vh0 S f1 f2):=
 (pw_and ha hb).imp fun σ H Q hI5=>by
  obtain⟨ρ,st,R,ok,w⟩:=hI5;refine⟨ρ,st,R,ok,za7 (za3.mp w) (fun b st1 q H1 e ok1=>?_) fun x st1 q=>q⟩;cases b with
  | true=>exact⟨ρ,st1,R.ext ok e,ok1,za7 q (fun b st2 q H2 e2=>q H2 (e.trans e2)) fun x st2 q H2 e2=>q H2 (e.trans e2)⟩
  | false=>exact q H1 e ok1
theorem yy8 {a b:Expr} {zx5:List Expr} {pos:Pos} {f1 f2:FnT S} (ha:DT X c a f1) (hb:DW X c (.BoolOp .Or (b::zx5) pos) f2):DW X c (.BoolOp .Or (a::b::zx5) pos) (fOr S f1 f2):=
 (pw_or ha hb).imp fun σ H Q hI6=>by
  obtain⟨ρ,st,R,ok,w⟩:=hI6;refine⟨ρ,st,R,ok,za7 (za3.mp w) (fun b st1 q H1 e ok1=>?_) fun x st1 q=>q⟩;cases b with
  | false=>exact⟨ρ,st1,R.ext ok e,ok1,za7 q (fun b st2 q H2 e2=>q H2 (e.trans e2)) fun x st2 q H2 e2=>q H2 (e.trans e2)⟩
  | true=>exact q H1 e ok1
theorem yg6 {a:Expr} {pos:Pos} {f1:FnT S} (ha:DT X c a f1):DT X c (.UnaryOp .Not a pos) (vg7 S f1):=
 (wu8 ha).imp fun σ H Q ⟨ρ,st,R,ok,w⟩=>⟨ρ,st,R,ok,za7 (za3.mp w) (fun b st1 q H1 e ok1=>q H1 e ok1) fun x st1 q=>q⟩
end
end L2
end
section
namespace L2
open PySem PySem.Spec PyProof.Rows
section
variable {X:Cx} {S:Type} {W:Wd S} {c:Dx W} {g:Gr}
noncomputable abbrev FnA (S:Type):=Rho->S->Res S (List D)
noncomputable def tDA {S:Type} {W:Wd S} (c:Dx W) (f:FnA S):TA:=fun σ H Q=>∃ρ st,Rep c H σ ρ/\W.ok st H/\
 wpR (f ρ st) (fun l st'=>∀vs H',Ext W H H'->W.ok st' H'->IsL c.K (fun b=>¬W.mv b) H' l vs->Q vs H') fun x st'=>∀H',Ext W H H'->W.ok st' H'->c.Ex x st' H'
noncomputable def DA (X:Cx) {S:Type} {W:Wd S} (c:Dx W) (es:List Expr) (f:FnA S):Prop:=PA X es (tDA c f)
theorem PA.imp {X:Cx} {e:List Expr} {t t':TA} (h:PA X e t) (i:∀σ H Q,t' σ H Q->t σ H Q):PA X e t':=fun p pins s σ H Q I q=>h p pins s σ H Q I (i σ H Q q)
noncomputable def vc6 (S:Type):FnA S:=fun _ st=>.ok [] st
noncomputable def zu8 (S:Type) (f:Fn S) (r:FnA S):FnA S:=fun ρ st=>(f ρ st).bind fun d st1=>(r ρ st1).bind fun l st2=>.ok (d::l) st2
theorem va9:DA X c [] (vc6 S):=zs5.imp fun σ H Q ⟨ρ,st,R,ok,w⟩=>w [] H Ext.refl ok (IsL.nil.mpr rfl)
theorem zj9 {e:Expr} {es:List Expr} {f:Fn S} {r:FnA S} (h:DE X c g e f) (hr:DA X c es r) (hs:starEach (e::es) X.env=(false,eval e X.env)::starEach es X.env:=by rfl):DA X c (e::es) (zu8 S f r):=
 (zk7 h hr hs).imp fun σ H Q hI7=>by
  obtain⟨ρ,st,R,ok,w⟩:=hI7;refine⟨ρ,st,R,ok,za7 (za3.mp w) (fun d st1 q v H1 e ok1 z=>?_) fun x st1 q=>q⟩;refine⟨ρ,st1,R.ext ok e,ok1,za7 (za3.mp q) (fun l st2 q vs H2 e2 ok2 z2=>?_) fun x st2 q H2 e2 ok2=>q H2 (e.trans e2) ok2⟩;exact q (v::vs) H2 (e.trans e2) ok2 (IsL.cons.mpr ⟨v,vs,rfl,z.toR.ext e2 ok1,z2⟩)
noncomputable def fA (S:Type) (o:List D->Option D) (f:FnA S):Fn S:=fun ρ st=>(f ρ st).bind fun l st1=>zk3 (o l) st1
noncomputable def zx0 {S:Type} {W:Wd S} (c:Dx W) (r:List V->Hp->VK->Prop) (o:List D->Option D):Prop:=∀l vs H (st:S) d Q,W.ok st H->IsL c.K (fun b=>¬W.mv b) H l vs->o l=some d->
 (∀v H',Ext W H H'->W.ok st H'->New c H H' d v->Q v H')->r vs H Q
theorem yv9 {r:List V->Hp->VK->Prop} {o:List D->Option D} {f:FnA S} {σ:St} {H:Hp} {Q:VK} (hr:zx0 c r o) (h:tD c g (fA S o f) σ H Q):tDA c f σ H fun vs H1=>r vs H1 Q:=by
 obtain⟨ρ,st,R,ok,w⟩:=h;refine⟨ρ,st,R,ok,za7 (za3.mp w) (fun l st1 q vs H1 e ok1 z=>?_) fun x st1 q=>q⟩;obtain⟨d,e1,q⟩:=zb8.mp q;exact hr l vs H1 st1 d Q ok1 z e1 fun v H' a b n=>q v H' (e.trans a) b ((n.val (R.ext ok e) g).back e ok1)
noncomputable def xc3 (l:List D):Option D:=if D.immL l=true/\l.length<=sizeLine then some (.tup l) else none
noncomputable def xp0 (l:List D):Option D:=if D.immL l=true/\l.length<=sizeLine then some (.lst l) else none
set_option tactic.hygienic true in
theorem vb1:zx0 c (fun xs H1 Q=>xs.length<=sizeLine/\∀p,H1 p=none->Q (.ref p) (upd H1 p (.tup xs))) xc3:=by
 intro l vs H st d Q ok z e q;unfold xc3 at e;split at e
 ·rename_i h
  cases e;exact⟨by rw[<-z.length];exact h.2,fun p hp=>q _ _ (Ext.laid hp) (zi3 ok hp) (New.tup ok hp (fun _ n=>n) h.1 z)⟩
 ·cases e
set_option tactic.hygienic true in
theorem vb2:zx0 c (fun xs H1 Q=>xs.length<=sizeLine/\∀p,H1 p=none->Q (.ref p) (upd H1 p (.lst xs))) xp0:=by
 intro l vs H st d Q ok z e q;unfold xp0 at e;split at e
 ·rename_i h
  cases e;exact⟨by rw[<-z.length];exact h.2,fun p hp=>q _ _ (Ext.laid hp) (zi3 ok hp) (New.lst ok hp (fun _ n=>n) h.1 z)⟩
 ·cases e
theorem zy8 {es:List Expr} {x1} {pos:Pos} {f:FnA S} (h:DA X c es f):DE X c g (.Tuple es x1 pos) (fA S xc3 f):=(we1 h).imp fun σ H Q q=>yv9 (g:=g) vb1 q
theorem yu2 {es:List Expr} {pos:Pos} {f:FnA S} (h:DA X c es f):DE X c g (.List es pos) (fA S xp0 f):=(xn8 h).imp fun σ H Q q=>yv9 (g:=g) vb2 q
theorem xe6 {id:String} {x:Str} {p pos:Pos} {e:Expr} {es:List Expr} {r:List V->Hp->VK->Prop} {o:List D->Option D} {f:FnA S} {t:TA} (h:PE X (.Call (.Name x p) (e::es) [] pos) (tCB r t)) (ht:t=tDA c f) (hr:zx0 c r o):DE X c g (.Call (.Name x p) (e::es) [] pos) (fA S o f):=
 h.imp fun σ H Q q=>by rw[ht];exact yv9 (g:=g) hr q
noncomputable def sp0 (K:PySem.W.Frag) (F:List D->Res Unit D):Sp:=fun vs H Q _=>∃l,IsL K (fun _=>True) H l vs/\wpR (F l) (fun d _=>∀v H',yv3 H H'->Is K (fun b=>H b=none) H' d v->Q v H') fun _ _=>False
noncomputable def spS {S:Type} (W:Wd S) (K:PySem.W.Frag) (F:List D->S->Res S D):Sp:=fun vs H Q _=>∃l us st,vs=W.h::us/\IsL K (fun b=>¬W.mv b) H l us/\W.ok st H/\
 wpR (F l st) (fun d st'=>∀v H',Ext W H H'->W.ok st' H'->Is K (fun b=>¬W.mv b/\H b=none) H' d v->Q v H') fun _ _=>False
noncomputable def xs8 (S:Type) (F:List D->Res Unit D) (f:FnA S):Fn S:=fun ρ st=>(f ρ st).bind fun l st1=>match F l with
 | .ok d _=>.ok d st1
 | _=>.bad
theorem xx3 {F:List D->Res Unit D} {f:FnA S} {σ:St} {H:Hp} {Q:VK} {E:XK} (h:tD c g (xs8 S F f) σ H Q):wj2 (sp0 c.K F) [] E (tDA c f) σ H Q:=by
 obtain⟨ρ,st,R,ok,w⟩:=h;refine⟨ρ,st,R,ok,za7 (za3.mp w) (fun l st1 q vs H1 e ok1 z=>?_) fun x st1 q=>q⟩;show sp0 c.K F (vs++[]) H1 Q E;rw[Bj0];refine⟨l,IsL.mono (A:=fun b=>¬W.mv b) ⟨fun _ _ z _=>z,fun b o a z=>⟨trivial,z⟩⟩ z,?_⟩;cases q':F l with
 | ok d u=>
   rw[q'] at q;intro v H' s n;have okH:W.ok st1 H':=W.stay st1 H1 H' ok1 fun b o _ hb=>s b o hb
   have n':New c H1 H' d v:=Is.mono (A:=fun b=>H1 b=none) ⟨fun _ _ z _=>z,fun b o a z=>⟨⟨zo4 ok1 a,a⟩,z⟩⟩ n;exact q v H' (e.trans s.ext) okH ((n'.val (R.ext ok e) g).back e ok1)
 | exc x u=>rw[q'] at q;exact q.elim
 | bad=>rw[q'] at q;exact q.elim
noncomputable def yt5 (S:Type) (F:List D->S->Res S D) (i:Nat) (f:FnA S):Fn S:=fun ρ st=>match ρ[i]? with
 | some .hnd=>(f ρ st).bind fun l st1=>match F l st1 with
   | .ok d st2=>.ok d st2
   | _=>.bad
 | _=>.bad
theorem xx2 {F:List D->S->Res S D} {i:Nat} {f:FnA S} {σ:St} {H:Hp} {Q:VK} {E:XK} (h:tD c g (yt5 S F i f) σ H Q):wj2 (spS W c.K F) [] E (xx4 (yh9 i) (tDA c f)) σ H Q:=by
 obtain⟨ρ,st,R,ok,w⟩:=h;unfold yt5 at w;cases hi:ρ[i]? with
 | none=>rw[hi] at w;exact w.elim
 | some s=>
   rw[hi] at w;have zs:=R.slot i s hi;cases s with
   | no=>exact w.elim
   | bor d=>exact w.elim
   | own d=>exact w.elim
   | hnd=>
     have zs:(σ[i]?).join=some W.h:=zs;have ei:σ[i]?=some (some W.h):=by
      cases q:σ[i]? with
      | none=>rw[q] at zs;cases zs
      | some a=>rw[q] at zs;rw[show a=some W.h from zs]
     refine⟨W.h,ei,ρ,st,R,ok,za7 (za3.mp w) (fun l st1 q vs H1 e ok1 z=>?_) fun x st1 q=>q⟩;show spS W c.K F ((W.h::vs)++[]) H1 Q E;rw[Bj0];refine⟨l,vs,st1,rfl,z,ok1,?_⟩;cases q':F l st1 with
     | ok d st2=>
       rw[q'] at q;intro v H' s okH n;exact q v H' (e.trans s) okH ((New.val (R.ext ok e) n g).back e ok1)
     | exc x u=>rw[q'] at q;exact q.elim
     | bad=>rw[q'] at q;exact q.elim
end
end L2
end
section
namespace L2
open PySem PySem.Spec PyProof.Rows
inductive Fl where
 | nx (ρ:Rho) | rt (d:D) | bk (ρ:Rho) | ct (ρ:Rho)
noncomputable abbrev FnS (S:Type):=Rho->S->Res S Fl
structure Frm {S:Type} {W:Wd S} (c:Dx W) (H:Hp) (σ:St) (ρ:Rho) (H':Hp) (σ':St) (ρ':Rho):Prop where
 keep:∀b o,H b=some o->¬W.mv b->¬Ow σ ρ b->H' b=some o
 own:∀b o,H b=some o->¬W.mv b->Ow σ' ρ' b->Ow σ ρ b
noncomputable def F0 {S:Type} {W:Wd S} (c:Dx W) (H':Hp):Prop:=∀b o,c.H0 b=some o->¬W.mv b->H' b=some o
noncomputable def Nx {S:Type} {W:Wd S} (c:Dx W) (Q:St->Hp->Prop) (σ:St) (ρ:Rho) (H:Hp) (ρ':Rho) (st':S):Prop:=∀σ' H',Frm c H σ ρ H' σ' ρ'->W.ok st' H'->Rep c H' σ' ρ'->Q σ' H'
noncomputable def Rt {S:Type} {W:Wd S} (c:Dx W) (Q:VK) (d:D) (st':S):Prop:=∀v H',F0 c H'->W.ok st' H'->Is c.K (fun b=>¬W.mv b/\c.H0 b=none) H' d v->Q v H'
noncomputable def zw8 {S:Type} {W:Wd S} (c:Dx W) (D:xf7) (σ:St) (ρ:Rho) (H:Hp) (fl:Fl) (st':S):Prop:=match fl with
 | .nx ρ'=>Nx c D.nx σ ρ H ρ' st'
 | .bk ρ'=>Nx c D.bk σ ρ H ρ' st'
 | .ct ρ'=>Nx c D.ct σ ρ H ρ' st'
 | .rt d=>Rt c D.rt d st'
noncomputable def xf6 {S:Type} {W:Wd S} (c:Dx W) (x:Exn) (st':S):Prop:=∀H',F0 c H'->W.ok st' H'->c.Ex x st' H'
noncomputable def tS {S:Type} {W:Wd S} (c:Dx W) (F:FnS S):TS:=fun D σ H=>∃ρ st,Rep c H σ ρ/\W.ok st H/\wpR (F ρ st) (zw8 c D σ ρ H) (xf6 c)
noncomputable def DS (X:Cx) {S:Type} {W:Wd S} (c:Dx W) (s:Stmt) (F:FnS S):Prop:=PS X s (tS c F)
noncomputable def DSs (X:Cx) {S:Type} {W:Wd S} (c:Dx W) (s:List Stmt) (F:FnS S):Prop:=PSs X s (tS c F)
section
variable {S:Type} {W:Wd S} {c:Dx W} {H H1 H2 H':Hp} {σ σ1 σ2 σ':St} {ρ ρ1 ρ2 ρ':Rho} {st st1:S}
theorem Frm.refl:Frm c H σ ρ H σ ρ:=⟨fun _ _ h _ _=>h,fun _ _ _ _ h=>h⟩
theorem Frm.trans (a:Frm c H σ ρ H1 σ1 ρ1) (b:Frm c H1 σ1 ρ1 H2 σ2 ρ2):Frm c H σ ρ H2 σ2 ρ2 where
 keep:=fun x o h m w=>b.keep x o (a.keep x o h m w) m fun w1=>w (a.own x o h m w1)
 own:=fun x o h m w=>by
  by_cases w0:Ow σ ρ x
  ·exact w0
  ·exact a.own x o h m (b.own x o (a.keep x o h m w0) m w)
theorem Ext.frm (e:Ext W H H'):Frm c H σ ρ H' σ ρ:=⟨fun b o h m _=>e b o h m,fun _ _ _ _ h=>h⟩
theorem Ext.f0 (R:Rep c H σ ρ) (e:Ext W H H'):F0 c H':=fun b o h n=>e b o (R.frame b o h n) n
theorem Nx.from {Q:St->Hp->Prop} (h:Nx c Q σ ρ H ρ' st) (f:Frm c H σ ρ H1 σ1 ρ1):Nx c Q σ1 ρ1 H1 ρ' st:=fun σ' H' g ok R=>h σ' H' (f.trans g) ok R
theorem zw8.from {D:xf7} {fl:Fl} (h:zw8 c D σ ρ H fl st) (f:Frm c H σ ρ H1 σ1 ρ1):zw8 c D σ1 ρ1 H1 fl st:=by
 cases fl with
 | nx r=>exact Nx.from h f
 | bk r=>exact Nx.from h f
 | ct r=>exact Nx.from h f
 | rt d=>exact h
theorem Frm.keepT (R:Rep c H σ ρ) (ok:W.ok st H) (f:Frm c H σ ρ H' σ' ρ'):zi6 (Av c σ ρ) (Av c σ' ρ') H H':=
 zl0 (fun b o h t=>f.keep b o h (fun m=>by
  obtain⟨o',h',n1,n2⟩:=W.live st H b ok m;rw[h] at h';cases h';rcases t with⟨u,z⟩ | ⟨ob,u,z⟩
  ·exact n1 u z
  ·exact n2 ob u z) fun w=>by
  obtain⟨_,_,o',h',n1,n2⟩:=R.owOk w;rw[h] at h';cases h';rcases t with⟨u,z⟩ | ⟨ob,u,z⟩
  ·exact n1 u z
  ·exact n2 ob u z) fun b o a h=>⟨⟨a.1,fun w=>a.2.1 (f.own b o h a.1 w),a.2.2⟩,f.keep b o h a.1 a.2.1⟩
theorem zv4 {g:Gr} {f:Fn S} {k:D->FnS S} {D:xf7} (h:tS c (fun ρ st=>(f ρ st).bind fun d st1=>k d ρ st1) D σ H) :
 tD c g f σ H fun v H1=>∃ρ d st0 st1,Rep c H σ ρ/\W.ok st0 H/\Rep c H1 σ ρ/\W.ok st1 H1/\Ext W H H1/\Val c g σ ρ H H1 d v/\wpR (k d ρ st1) (zw8 c D σ ρ H) (xf6 c):=by
 obtain⟨ρ,st,R,ok,w⟩:=h;refine⟨ρ,st,R,ok,za7 (za3.mp w) (fun d st1 q v H1 e ok1 z=>?_) fun x st1 q H1 e ok1=>q H1 (e.f0 R) ok1⟩;exact⟨ρ,d,st,st1,R,ok,R.ext ok e,ok1,e,z,q⟩
theorem wi7 {f:FnT S} {k:Bool->FnS S} {D:xf7} (h:tS c (fun ρ st=>(f ρ st).bind fun d st1=>k d ρ st1) D σ H) :
 tDT c f σ H fun b H1=>∃ρ st1,Rep c H1 σ ρ/\W.ok st1 H1/\wpR (k b ρ st1) (zw8 c D σ ρ H1) (xf6 c):=by
 obtain⟨ρ,st,R,ok,w⟩:=h;refine⟨ρ,st,R,ok,za7 (za3.mp w) (fun d st1 q H1 e ok1=>?_) fun x st1 q H1 e ok1=>q H1 (e.f0 R) ok1⟩;exact⟨ρ,st1,R.ext ok e,ok1,za7 q (fun fl st2 q=>q.from e.frm) fun x st2 q=>q⟩
end
section
variable {X:Cx} {S:Type} {W:Wd S} {c:Dx W}
noncomputable def vi6 (S:Type):FnS S:=fun ρ st=>.ok (.nx ρ) st
noncomputable def wr2 (S:Type) (F G:FnS S):FnS S:=fun ρ st=>(F ρ st).bind fun fl st1=>match fl with
 | .nx ρ1=>G ρ1 st1
 | .rt d=>.ok (.rt d) st1
 | .bk r=>.ok (.bk r) st1
 | .ct r=>.ok (.ct r) st1
theorem zd3:DSs X c [] (vi6 S):=yw6.imp fun D σ H ⟨ρ,st,R,ok,w⟩=>w σ H Frm.refl ok R
theorem za5 {s:Stmt} {r:List Stmt} {F G:FnS S} (h1:DS X c s F) (h2:DSs X c r G):DSs X c (s::r) (wr2 S F G):=
 (zi7 h1 h2).imp fun D σ H hI8=>by
  obtain⟨ρ,st,R,ok,w⟩:=hI8;refine⟨ρ,st,R,ok,za7 (za3.mp w) (fun fl st1 q=>?_) fun x st1 q=>q⟩;cases fl with
  | nx ρ1=>exact fun σ1 H1 f ok1 R1=>⟨ρ1,st1,R1,ok1,za7 q (fun fl st2 q=>q.from f) fun x st2 q=>q⟩
  | rt d=>exact q
  | bk r=>exact q
  | ct r=>exact q
theorem za8 {s:Stmt} {F:FnS S} (h1:DS X c s F):DSs X c [s] F:=ye1 h1
noncomputable def D.flat:D->Bool
 | .lst l=>D.immL l
 | .dct _ l=>D.immL l
 | _=>false
noncomputable def ve5 (S:Type) (f:Fn S):FnS S:=fun ρ st=>(f ρ st).bind fun d st1=>if d.imm=true\/d.flat=true then .ok (.rt d) st1 else .bad
theorem xd9 {K:PySem.W.Frag} {A A':Addr->Prop} {H:Hp} {d:D} {a:Addr} (h:Is K A H d (.ref a)) (m:d.flat=true) (n:A' a):Is K A' H d (.ref a):=by
 cases d with
 | lst l=>
   obtain⟨b,vs,e,_,e2,i⟩:=Is.lst_iff.mp h;cases e;exact Is.lst n e2 (IsL.ofImm m i)
 | dct ks l=>
   obtain⟨b,vs,e,_,i,q⟩:=Is.dct_iff.mp h;cases e;exact Is.dct_iff.mpr ⟨a,vs,rfl,n,IsL.ofImm m i,q⟩
 | _=>simp[D.flat] at m
theorem xd8 {K:PySem.W.Frag} {A:Addr->Prop} {H:Hp} {d:D} {v:V} (h:Is K A H d v) (m:d.flat=true):∃a,v=.ref a/\d.mut=true/\A a/\∃o,H a=some o:=by
 cases d with
 | lst l=>
   obtain⟨b,vs,e,n,e2,i⟩:=Is.lst_iff.mp h;exact⟨b,e,rfl,n,_,e2⟩
 | dct ks l=>
   obtain⟨b,vs,e,n,i,q⟩:=Is.dct_iff.mp h;rcases q with⟨_,_,_,q⟩ | ⟨_,_,_,q⟩<;>exact⟨b,e,rfl,n,_,q⟩
 | _=>simp[D.flat] at m
theorem Rep.none0 {H:Hp} {σ:St} {ρ:Rho} {st:S} (R:Rep c H σ ρ) (ok:W.ok st H) {a:Addr} (h:H a=none):c.H0 a=none:=by
 cases q:c.H0 a with
 | none=>rfl
 | some o=>rw[R.frame a o q (zo4 ok h)] at h;cases h
theorem ze1 {e:Expr} {f:Fn S} {pos:Pos} (h:DE X c .F e f):DS X c (.Return (some e) pos) (ve5 S f):=
 (yq3 h).imp fun D σ H q=>zg9 (zv4 (g:=.F) q) fun v H1 hI9=>by
  obtain⟨ρ,d,st0,st1,R,ok,R1,ok1,e,z,w⟩:=hI9;by_cases m:d.imm=true\/d.flat=true
  ·rw[if_pos m] at w
   refine w v H1 (e.f0 R) ok1 ?_;rcases m with m | m
   ·exact Is.ofImm m z.1
   ·obtain⟨a,rfl,mu,av,_⟩:=xd8 z.1 m
    exact xd9 z.1 m ⟨av.1,R.none0 ok (z.2 a rfl mu)⟩
  ·rw[if_neg m] at w;exact w.elim
noncomputable def own? (ρ:Rho) (i:Nat):Option D:=match ρ[i]? with
 | some (.own d)=>if d.flat=true then some d else none
 | some (.bor d)=>if d.imm=true then some d else none
 | _=>none
noncomputable def wj8 (S:Type) (i:Nat):FnS S:=fun ρ st=>(zk3 (own? ρ i) st).bind fun d st1=>.ok (.rt d) st1
set_option tactic.hygienic true in
theorem yg7 {i:Nat} {x:Str} {p pos:Pos} (h:PE X (.Name x p) (yh9 i)):DS X c (.Return (some (.Name x p)) pos) (wj8 S i):=
 (yq3 h).imp fun D σ H hI10=>by
  obtain⟨ρ,st,R,ok,w⟩:=hI10;obtain⟨d,e,q⟩:=zb8.mp (za3.mp w);have jn:∀{o:Option (Option V)} {v:V},o.join=some v->o=some (some v):=fun {o v} e=>by cases o with
   | none=>cases e
   | some a=>rw[show a=some v from e]
  unfold own? at e;cases hs:ρ[i]? with
  | none=>rw[hs] at e;cases e
  | some s=>
    rw[hs] at e;have z:=R.slot i s hs;cases s with
    | no=>cases e
    | hnd=>cases e
    | bor d'=>
      have e:(if d'.imm=true then some d' else none)=some d:=e;split at e
      ·rename_i m
       cases e;obtain⟨v,e1,i1⟩:=z;exact⟨v,jn e1,q v H (fun b o h n=>R.frame b o h n) ok (Is.ofImm m i1)⟩
      ·cases e
    | own d'=>
      have e:(if d'.flat=true then some d' else none)=some d:=e;split at e
      ·rename_i m
       cases e;obtain⟨a,e1,n,f,t⟩:=z;have tt:Is c.K (fun b=>¬W.mv b) H d (.ref a):=(t.mono (A':=fun b=>¬W.mv b) ⟨fun _ _ z _=>z,fun b o a z=>⟨a.1,z⟩⟩ fun o z=>z).isTop n.1;exact⟨_,jn e1,q _ H (fun b o h n=>R.frame b o h n) ok (xd9 tt m ⟨n.1,f⟩)⟩
      ·cases e
noncomputable def sIf (S:Type) (t:FnT S) (F G:FnS S):FnS S:=fun ρ st=>(t ρ st).bind fun b st1=>if b=true then F ρ st1 else G ρ st1
set_option tactic.hygienic true in
theorem zj8 {e:Expr} {a b:List Stmt} {pos:Pos} {t:FnT S} {F G:FnS S} (h:DT X c e t) (ha:DSs X c a F) (hb:DSs X c b G):DS X c (.If e a b pos) (sIf S t F G):=
 (wk5 h ha hb).imp fun D σ H q=>by
  obtain⟨ρ,st,R,ok,w⟩:=wi7 (k:=fun b=>if b=true then F else G) (by
   obtain⟨ρ,st,R,ok,w⟩:=q;refine⟨ρ,st,R,ok,?_⟩;have e:sIf S t F G ρ st=(t ρ st).bind fun d st1=>(if d=true then F else G) ρ st1:=by
    unfold sIf;congr;funext d st1;cases d<;>rfl
   rw[e] at w;exact w)
  refine⟨ρ,st,R,ok,za7 w (fun b st1 q H1 e ok1=>?_) fun x st1 q=>q⟩;obtain⟨ρ1,st2,R1,ok2,w1⟩:=q H1 e ok1;cases b with
  | true=>exact⟨ρ1,st2,R1,ok2,w1⟩
  | false=>exact⟨ρ1,st2,R1,ok2,w1⟩
end
end L2
end
section
namespace L2
open PySem PySem.Spec PyProof.Rows
section
variable {X:Cx} {S:Type} {W:Wd S} {c:Dx W} {H H1 H':Hp} {σ σ':St} {ρ ρ':Rho} {st:S} {i:Nat} {d:D} {v:V}
theorem zb3 {α:Type} {l:List α} {i j:Nat} {a b:α} (h:(l.set i a)[j]?=some b):(j=i/\b=a)\/(j≠i/\l[j]?=some b):=by
 by_cases e:j=i
 ·subst e
  rw[List.getElem?_set_self'] at h;cases q:l[j]? with
  | none=>rw[q] at h;cases h
  | some x=>rw[q] at h;exact .inl ⟨rfl,(Option.some.inj h).symm⟩
 ·rw[Az0 (Ne.symm e)] at h
  exact .inr ⟨e,h⟩
theorem zj7 {o:Option (Option V)} {v:V} (e:o.join=some v):o=some (some v):=by
 cases o with
 | none=>cases e
 | some a=>rw[show a=some v from e]
theorem yj5 {b:Addr} (h:Ow (σ.set i (some v)) (ρ.set i (.bor d)) b):Ow σ ρ b:=by
 obtain⟨j,e,h1,h2⟩:=h;rcases zb3 h1 with⟨_,z⟩ | ⟨n,z⟩
 ·cases z
 ·rcases zb3 h2 with⟨m,_⟩ | ⟨_,y⟩
  ·exact absurd m n
  ·exact⟨j,e,z,y⟩
theorem Rep.setB (R:Rep c H σ ρ) (hi:i<ρ.length) (h:Is c.K (Av c σ ρ) H d v):Rep c H (σ.set i (some v)) (ρ.set i (.bor d)) where
 len:=by rw[Bh0,Bh0];exact R.len
 frame:=R.frame
 avl:=R.avl
 slot:=fun j s hs=>by
  have k:zi6 (Av c σ ρ) (Av c (σ.set i (some v)) (ρ.set i (.bor d))) H H:=⟨fun _ _ z _=>z,fun b o a z=>⟨⟨a.1,fun w=>a.2.1 (yj5 w),a.2.2⟩,z⟩⟩;rcases zb3 hs with⟨e,z⟩ | ⟨n,z⟩
  ·subst z
   subst e;refine⟨v,?_,Is.mono k h⟩;rw[Cd0 (by rw[R.len];exact hi)];rfl
  ·rw[Az0 (Ne.symm n)]
   have q:=R.slot j s z;cases s with
   | no=>trivial
   | bor e=>obtain⟨v',e1,i1⟩:=q;exact⟨v',e1,i1.mono k⟩
   | own e=>obtain⟨a,e1,n1,f,t⟩:=q;exact⟨a,e1,n1,f,t.mono k fun o z=>z⟩
   | hnd=>exact q
 uniq:=fun j j' a e e' h1 h2 h3 h4=>by
  rcases zb3 h1 with⟨_,z⟩ | ⟨n,z⟩
  ·cases z
  ·rcases zb3 h2 with⟨_,z'⟩ | ⟨n',z'⟩
   ·cases z'
   ·rw[Az0 (Ne.symm n)] at h3
    rw[Az0 (Ne.symm n')] at h4;exact R.uniq j j' a e e' z z' h3 h4
theorem zh4:Frm c H σ ρ H (σ.set i (some v)) (ρ.set i (.bor d)):=⟨fun _ _ h _ _=>h,fun _ _ _ _ w=>yj5 w⟩
theorem yj4 {a b:Addr} (h:Ow (σ.set i (some (.ref a))) (ρ.set i (.own d)) b):Ow σ ρ b\/b=a:=by
 obtain⟨j,e,h1,h2⟩:=h;rcases zb3 h1 with⟨m,_⟩ | ⟨n,z⟩
 ·rcases zb3 h2 with⟨_,y⟩ | ⟨n,_⟩
  ·cases y;exact .inr rfl
  ·exact absurd m n
 ·rcases zb3 h2 with⟨m,_⟩ | ⟨_,y⟩
  ·exact absurd m n
  ·exact .inl ⟨j,e,z,y⟩
theorem Rep.setO {a:Addr} (R:Rep c H σ ρ) (ok:W.ok st H) (x:Ext W H H1) {st1:S} (ok1:W.ok st1 H1) (hi:i<ρ.length) (h:Is c.K (Av c σ ρ) H1 d (.ref a)) (m:d.flat=true) (hn:H a=none) :
 Rep c H1 (σ.set i (some (.ref a))) (ρ.set i (.own d))/\Frm c H σ ρ H1 (σ.set i (some (.ref a))) (ρ.set i (.own d)):=by
 have hmv:¬W.mv a:=zo4 ok hn;have k:zi6 (Av c σ ρ) (Av c (σ.set i (some (.ref a))) (ρ.set i (.own d))) H H1:=zl0 (fun b o e t=>x b o e fun mm=>by
  obtain⟨o',h',n1,n2⟩:=W.live st H b ok mm;rw[e] at h';cases h';rcases t with⟨u,z⟩ | ⟨ob,u,z⟩
  ·exact n1 u z
  ·exact n2 ob u z) fun b o av e=>⟨⟨av.1,(fun w=>by
   rcases yj4 w with w | w
   ·exact av.2.1 w
   ·subst w;rw[hn] at e;cases e),av.2.2⟩,x b o e av.1⟩
 refine⟨⟨by rw[Bh0,Bh0];exact R.len,fun b o e n=>x b o (R.frame b o e n) n,fun j s hs=>?_,(fun b h=>let ⟨n,z,o,h',q⟩:=R.avl b h;⟨n,z,o,x b o h' n,q⟩),fun j j' b e e' h1 h2 h3 h4=>?_⟩,⟨fun b o e n w=>x b o e n,fun b o e n w=>?_⟩⟩
 ·rcases zb3 hs with⟨e,z⟩ | ⟨n,z⟩
  ·subst z
   subst e;refine⟨a,by rw[Cd0 (by rw[R.len];exact hi)];rfl,⟨hmv,fun w=>by obtain⟨_,_,o,h',_⟩:=R.avl a w;rw[hn] at h';cases h'⟩,R.none0 ok hn,?_⟩;cases d with
   | lst l=>
     obtain⟨b,vs,e,_,e2,i1⟩:=Is.lst_iff.mp h;cases e;exact⟨vs,e2,IsL.ofImm m i1⟩
   | dct ks l=>
     obtain⟨b,vs,e,_,i1,q⟩:=Is.dct_iff.mp h;cases e;exact⟨vs,IsL.ofImm m i1,q⟩
   | _=>simp[D.flat] at m
  ·rw[Az0 (Ne.symm n)]
   have q:=R.slot j s z;cases s with
   | no=>trivial
   | bor e=>obtain⟨v',e1,i1⟩:=q;exact⟨v',e1,i1.mono k⟩
   | own e=>obtain⟨b,e1,n1,f,t⟩:=q;exact⟨b,e1,n1,f,t.mono k fun o z=>x b o z n1.1⟩
   | hnd=>exact q
 ·have fresh:∀(j:Nat) (e:D),ρ[j]?=some (.own e)->σ[j]?=some (some (.ref a))->False:=fun j e h1 h2=>by
   obtain⟨_,_,o,h',_⟩:=R.owOk ⟨j,e,h1,h2⟩;rw[hn] at h';cases h'
  rcases zb3 h1 with⟨m1,z⟩ | ⟨n,z⟩
  ·rcases zb3 h2 with⟨m2,z'⟩ | ⟨n',z'⟩
   ·rw[m1,m2]
   ·rw[Az0 (Ne.symm n')] at h4
    rcases zb3 h3 with⟨_,y⟩ | ⟨n3,_⟩
    ·cases y;exact(fresh j' e' z' h4).elim
    ·exact absurd m1 n3
  ·rcases zb3 h2 with⟨m2,z'⟩ | ⟨n',z'⟩
   ·rw[Az0 (Ne.symm n)] at h3
    rcases zb3 h4 with⟨_,y⟩ | ⟨n3,_⟩
    ·cases y;exact(fresh j e z h3).elim
    ·exact absurd m2 n3
   ·rw[Az0 (Ne.symm n)] at h3
    rw[Az0 (Ne.symm n')] at h4;exact R.uniq j j' b e e' z z' h3 h4
 ·rcases yj4 w with w | w
  ·exact w
  ·subst w;rw[hn] at e;cases e
noncomputable def put (ρ:Rho) (i:Nat) (d:D):Option Rho:=if i<ρ.length then some (ρ.set i (.bor d)) else none
noncomputable def putN (ρ:Rho) (i:Nat) (d:D):Option Rho:=if i<ρ.length then some (ρ.set i (if d.flat=true then .own d else .bor d)) else none
noncomputable def wu2 (S:Type) (i:Nat) (f:Fn S):FnS S:=fun ρ st=>(f ρ st).bind fun d st1=>(zk3 (putN ρ i d) st1).bind fun ρ' st2=>.ok (.nx ρ') st2
noncomputable def xm5 (S:Type) (i:Nat) (f:Fn S):FnS S:=fun ρ st=>(f ρ st).bind fun d st1=>(zk3 (put ρ i d) st1).bind fun ρ' st2=>.ok (.nx ρ') st2
set_option tactic.hygienic true in
theorem wd4 {f:Fn S} {D:xf7} (h:tS c (wu2 S i f) D σ H):wj3 (tD c .F f) (xi6 i) D σ H:=
 zg9 (zv4 (g:=.F) h) fun v H1 hI11=>by
  obtain⟨ρ,d,st0,st1,R,ok,R1,ok1,e,z,w⟩:=hI11;obtain⟨ρ',e1,w⟩:=zb8.mp (za3.mp w);unfold putN at e1;split at e1
  ·rename_i hi
   by_cases m:d.flat=true
   ·rw[if_pos m] at e1
    cases e1;obtain⟨a,rfl,mu,av,_⟩:=xd8 z.1 m;obtain⟨R2,F2⟩:=R.setO (i:=i) ok e ok1 hi z.1 m (z.2 a rfl mu);exact w (σ.set i (some (.ref a))) H1 F2 ok1 R2
   ·rw[if_neg m] at e1
    cases e1;exact w _ H1 (e.frm.trans zh4) ok1 (R1.setB hi z.1)
  ·cases e1
set_option tactic.hygienic true in
theorem wi8 {f:Fn S} {D:xf7} (h:tS c (xm5 S i f) D σ H):wj3 (tD c .B f) (xi6 i) D σ H:=
 zg9 (zv4 (g:=.B) h) fun v H1 hI12=>by
  obtain⟨ρ,d,st0,st1,R,ok,R1,ok1,e,z,w⟩:=hI12;obtain⟨ρ',e1,w⟩:=zb8.mp (za3.mp w);unfold put at e1;split at e1
  ·rename_i hi
   cases e1;exact w _ H1 (e.frm.trans zh4) ok1 (R1.setB hi z)
  ·cases e1
theorem zd2 {x:Str} {e:Expr} {f:Fn S} {p pos:Pos} (hN:X.N.Nodup) (hi:X.N[i]?=some x) (hx:Loc X.env.scope x) (he:DE X c .F e f) (hs:swapsWith e (some (.Name x p)) pos.line X.env=pure false:=by rfl) (hf:X.fn x=true\/X.env.scope.names.lookup x=some .local:=by first | exact .inl rfl | exact .inr rfl | assumption) :
 DS X c (.Assign [.Name x p] e pos) (wu2 S i f):=(zs3 hN hi hx he hs hf).imp fun D σ H q=>wd4 q
theorem wp8 {x:Str} {e:Expr} {f:Fn S} {p pos:Pos} (hN:X.N.Nodup) (hi:X.N[i]?=some x) (hx:Loc X.env.scope x) (he:DE X c .B e f) (hs:swapsWith e (some (.Name x p)) pos.line X.env=pure false:=by rfl) (hf:X.fn x=true\/X.env.scope.names.lookup x=some .local:=by first | exact .inl rfl | exact .inr rfl | assumption) :
 DS X c (.Assign [.Name x p] e pos) (xm5 S i f):=(zs3 hN hi hx he hs hf).imp fun D σ H q=>wi8 q
noncomputable abbrev FnG:=D->Rho->Option Rho
noncomputable abbrev wg9:=List D->Rho->Option Rho
noncomputable def tG {S:Type} {W:Wd S} (c:Dx W) (G:FnG):TG:=fun v σ H Q=>∃ρ d ρ' st,Rep c H σ ρ/\W.ok st H/\Is c.K (Av c σ ρ) H d v/\G d ρ=some ρ'/\∀σ',Rep c H σ' ρ'->Frm c H σ ρ H σ' ρ'->Q σ' H
noncomputable def tGs {S:Type} {W:Wd S} (c:Dx W) (G:wg9):TGs:=fun vs σ H Q=>∃ρ l ρ' st,Rep c H σ ρ/\W.ok st H/\IsL c.K (Av c σ ρ) H l vs/\G l ρ=some ρ'/\∀σ',Rep c H σ' ρ'->Frm c H σ ρ H σ' ρ'->Q σ' H
noncomputable def DG (X:Cx) {S:Type} {W:Wd S} (c:Dx W) (e:Expr) (G:FnG):Prop:=PG X e (tG c G)
noncomputable def DGs (X:Cx) {S:Type} {W:Wd S} (c:Dx W) (e:List Expr) (G:wg9):Prop:=PGs X e (tGs c G)
theorem PG.imp {X:Cx} {e:Expr} {t t':TG} (h:PG X e t) (i:∀v σ H Q,t' v σ H Q->t v σ H Q):PG X e t':=fun pins s σ H v u Q I r q=>h pins s σ H v u Q I r (i v σ H Q q)
theorem PGs.imp {X:Cx} {e:List Expr} {t t':TGs} (h:PGs X e t) (i:∀v σ H Q,t' v σ H Q->t v σ H Q):PGs X e t':=fun pins s σ H v u Q I r q=>h pins s σ H v u Q I r (i v σ H Q q)
noncomputable def gN (i:Nat):FnG:=fun d ρ=>put ρ i d
set_option tactic.hygienic true in
theorem zb6 {x:Str} {pos:Pos} (hN:X.N.Nodup) (hi:X.N[i]?=some x) (hx:Loc X.env.scope x) (hf:X.fn x=true\/X.env.scope.names.lookup x=some .local:=by first | exact .inl rfl | exact .inr rfl | assumption):DG X c (.Name x pos) (gN i):=
 (ym1 hN hi hx hf).imp fun v σ H Q hI13=>by
  obtain⟨ρ,d,ρ',st,R,ok,z,e,q⟩:=hI13;unfold gN put at e;split at e
  ·rename_i h
   cases e;exact q _ (R.setB h z) zh4
  ·cases e
noncomputable def gsNil:wg9:=fun l ρ=>match l with
 | []=>some ρ
 | _=>none
noncomputable def gsCons (G:FnG) (Gs:wg9):wg9:=fun l ρ=>match l with
 | d::r=>(G d ρ).bind fun ρ1=>Gs r ρ1
 | []=>none
theorem zl8:DGs X c [] gsNil:=ym0.imp fun v σ H Q hI14=>by
 obtain⟨ρ,l,ρ',st,R,ok,z,e,q⟩:=hI14;cases l with
 | nil=>cases e;exact⟨IsL.nil.mp z,q σ R Frm.refl⟩
 | cons _ _=>cases e
theorem zc3 {e:Expr} {es:List Expr} {G:FnG} {Gs:wg9} (h1:DG X c e G) (h2:DGs X c es Gs) (hs:(assignEach (e::es) X.env).map (·.2)=assign e X.env::(assignEach es X.env).map (·.2):=by rfl):DGs X c (e::es) (gsCons G Gs):=
 (zq6 h1 h2 hs).imp fun v σ H Q hI15=>by
  obtain⟨ρ,l,ρ',st,R,ok,z,e,q⟩:=hI15;cases l with
  | nil=>cases e
  | cons d r=>
    obtain⟨v1,vs,e1,i1,j1⟩:=IsL.cons.mp z;have e:(G d ρ).bind (fun ρ1=>Gs r ρ1)=some ρ':=e;cases q1:G d ρ with
    | none=>rw[q1] at e;cases e
    | some ρ1=>
      rw[q1] at e;refine⟨v1,vs,e1,ρ,d,ρ1,st,R,ok,i1,q1,fun σ1 R1 F1=>?_⟩;exact⟨ρ1,r,ρ',st,R1,ok,j1.mono (F1.keepT R ok),e,fun σ2 R2 F2=>q σ2 R2 (F1.trans F2)⟩
noncomputable def gT (n:Nat) (Gs:wg9):FnG:=fun d ρ=>match d with
 | .tup l=>if l.length=n then Gs l ρ else none
 | _=>none
set_option tactic.hygienic true in
theorem zr6 {es:List Expr} {k:Nat} {pos:Pos} {Gs:wg9} {n:Nat} (hc:X.calm=true) (hK:c.K=X.K) (h:DGs X c es Gs) (hn:(assignEach es X.env).length=n:=by rfl) (hst:(assignEach es X.env).findIdx? (·.1)=none:=by rfl):DG X c (.Tuple es k pos) (gT n Gs):=
 (xb9 hc h hn hst).imp fun v σ H Q hI16=>by
  obtain⟨ρ,d,ρ',st,R,ok,z,e,q⟩:=hI16;cases d with
  | tup l=>
    obtain⟨a,vs,e1,s1,j1⟩:=Is.tup_sq z;have e:(if l.length=n then Gs l ρ else none)=some ρ':=e;split at e
    ·rename_i hl
     exact⟨a,vs,e1,by rw[<-hK];exact s1,by rw[<-j1.length];exact hl,ρ,l,ρ',st,R,ok,j1,e,q⟩
    ·cases e
  | _=>cases e
noncomputable def ve9 (S:Type) (G:FnG) (f:Fn S):FnS S:=fun ρ st=>(f ρ st).bind fun d st1=>(zk3 (G d ρ) st1).bind fun ρ' st2=>.ok (.nx ρ') st2
theorem yt9 {tg e:Expr} {f:Fn S} {G:FnG} {pos:Pos} (he:DE X c .B e f) (hg:DG X c tg G) (hs:swapsWithSole [tg] e pos.line X.env=pure false:=by rfl) (hw:swappedStores [tg] e X.env=pure none:=by rfl)
 (h1:(assignEach [tg] X.env).map (·.2)=[assign tg X.env]:=by rfl):DS X c (.Assign [tg] e pos) (ve9 S G f):=
 (yq4 he hg hs hw h1).imp fun D σ H q=>zg9 (zv4 (g:=.B) q) fun v H1 hI17=>by
  obtain⟨ρ,d,st0,st1,R,ok,R1,ok1,e,z,w⟩:=hI17;obtain⟨ρ',e1,w⟩:=zb8.mp (za3.mp w);exact⟨ρ,d,ρ',st1,R1,ok1,z,e1,fun σ' R' F'=>w σ' H1 (e.frm.trans F') ok1 R'⟩
end
end L2
end
section
namespace L2
open PySem PySem.Spec PyProof.Rows
noncomputable def xv8 {S:Type} {W:Wd S} (c:Dx W) (σ:St) (ρ:Rho) (H:Hp) (J:It) (l:List D):Prop:=∀(c':Dx W) (hK:c'.K=c.K) σ2 ρ2 H2 (st2:S),zi6 (Av c σ ρ) (Av c' σ2 ρ2) H H2->Rep c' H2 σ2 ρ2->W.ok st2 H2->∀i:Nat,
 (∀d,l[i]?=some d->J.go i H2/\∀x H3,J.yld i H2 x H3->yv3 H2 H3/\Is c.K (Av c' σ2 ρ2) H3 d x)/\(l.length<=i->J.stop i H2)
noncomputable abbrev FnI (S:Type):=FnA S
noncomputable def tI {S:Type} {W:Wd S} (c:Dx W) (f:FnI S):TI:=fun σ H R=>∃ρ st,Rep c H σ ρ/\W.ok st H/\
 wpR (f ρ st) (fun l st'=>∀J H',Ext W H H'->W.ok st' H'->xv8 c σ ρ H' J l->R J H') fun x st'=>∀H',Ext W H H'->W.ok st' H'->c.Ex x st' H'
noncomputable def DI (X:Cx) {S:Type} {W:Wd S} (c:Dx W) (tg iter:Expr) (f:FnI S):Prop:=PI X tg iter (tI c f)
theorem PI.imp {X:Cx} {tg e:Expr} {t t':TI} (h:PI X tg e t) (i:∀σ H R,t' σ H R->t σ H R):PI X tg e t':=fun pins s σ H R I q=>h pins s σ H R I (i σ H R q)
section
variable {X:Cx} {S:Type} {W:Wd S} {c:Dx W} {tg:Expr}
noncomputable def wa7 (S:Type) (sel:D->Option (List D)) (f:Fn S):FnI S:=fun ρ st=>(f ρ st).bind fun d st1=>zk3 (sel d) st1
noncomputable def D.tup?:D->Option (List D)
 | .tup l=>some l
 | _=>none
noncomputable def D.lst?:D->Option (List D)
 | .lst l=>some l
 | _=>none
theorem wg2 {e:Expr} {f:Fn S} (hK:c.K=X.K) (h:DE X c .B e f):DI X c tg e (wa7 S D.tup? f):=
 (wv2 h).imp fun σ H R hI18=>by
  obtain⟨ρ,st,R0,ok,w⟩:=hI18;refine⟨ρ,st,R0,ok,za7 (za3.mp w) (fun d st1 q v H1 e ok1 z=>?_) fun x st1 q=>q⟩;obtain⟨l,e1,q⟩:=zb8.mp q;cases d with
  | tup m=>
    cases e1;obtain⟨a,vs,ev,s0,i⟩:=Is.tup_iff.mp z;have s:SqT c.K H1 a vs:=.of s0;refine⟨a,ev,⟨vs,by rw[<-hK];exact s⟩,q _ H1 e ok1 ?_⟩;intro c' hK' σ2 ρ2 H2 st2 k R2 ok2 j;have s2:SqT c.K H2 a vs:=.of (k.tup a vs s0);have i2:IsL c.K (Av c' σ2 ρ2) H2 l vs:=i.mono k;refine⟨fun d hd=>?_,fun hl=>⟨vs,by rw[<-hK];exact s2,by rw[<-i2.length];exact hl⟩⟩;obtain⟨v1,hv,iv⟩:=i2.get hd;exact⟨⟨vs,v1,by rw[<-hK];exact s2,hv⟩,fun x H3 hI19=>by
     obtain⟨e3,y⟩:=hI19;subst e3;have hx:=y vs (by rw[<-hK];exact s2);rw[hv] at hx;cases hx;exact⟨yv3.refl _,iv⟩⟩
  | _=>cases e1
theorem va0 {e:Expr} {f:Fn S} (hK:c.K=X.K) (h:DE X c .B e f):DI X c tg e (wa7 S D.lst? f):=
 (wk9 h).imp fun σ H R hI20=>by
  obtain⟨ρ,st,R0,ok,w⟩:=hI20;refine⟨ρ,st,R0,ok,za7 (za3.mp w) (fun d st1 q v H1 e ok1 z=>?_) fun x st1 q=>q⟩;obtain⟨l,e1,q⟩:=zb8.mp q;cases d with
  | lst m=>
    cases e1;obtain⟨a,vs,ev,n,s,i⟩:=Is.lst_iff.mp z;refine⟨a,ev,⟨vs,.of s⟩,q _ H1 e ok1 ?_⟩;intro c' hK' σ2 ρ2 H2 st2 k R2 ok2 j;have s2:H2 a=some (.lst vs):=(k.nod a _ n s).2;have i2:IsL c.K (Av c' σ2 ρ2) H2 l vs:=i.mono k;refine⟨fun d hd=>?_,fun hl=>⟨vs,.of s2,by rw[<-i2.length];exact hl⟩⟩;obtain⟨v1,hv,iv⟩:=i2.get hd;exact⟨⟨vs,v1,.of s2,hv⟩,fun x H3 hI21=>by
     obtain⟨e3,y⟩:=hI21;subst e3;have hx:=y vs (.of s2);rw[hv] at hx;cases hx;exact⟨yv3.refl _,iv⟩⟩
  | _=>cases e1
noncomputable def zp0 (lo:Int) (n:Nat):List D:=(List.range n).map fun (k:Nat)=>D.int (lo+(k:Int))
noncomputable def yx3:List D->Option (List D)
 | [.int j]=>if -(2 ^ 62)<=j/\j<2 ^ 62 then some (zp0 0 j.toNat) else none
 | _=>none
noncomputable def xi5 (S:Type) (o:List D->Option (List D)) (f:FnA S):FnI S:=fun ρ st=>(f ρ st).bind fun l st1=>zk3 (o l) st1
theorem xi4 {σ:St} {ρ:Rho} {H:Hp} (lo:Int) (n:Nat):xv8 c σ ρ H (Itr lo n) (zp0 lo n):=by
 intro c' hK' σ2 ρ2 H2 st2 k R2 ok2 j;refine⟨fun d hd=>?_,fun hl=>?_⟩
 ·unfold zp0 at hd
  rw[Ai0] at hd;cases q:(List.range n)[j]? with
  | none=>rw[q] at hd;cases hd
  | some m=>
    rw[q] at hd;cases hd;obtain⟨h1,h2⟩:=Ae0.mp q;rw[List.getElem_range] at h2;subst h2;rw[List.length_range] at h1;exact⟨h1,fun x H3 ⟨e3,e4⟩=>by subst e3 e4;exact⟨yv3.refl _,Is.int_iff.mpr rfl⟩⟩
 ·unfold zp0 at hl
  rw[Ab0,List.length_range] at hl;exact hl
set_option tactic.hygienic true in
theorem zi5 {a:Expr} {f:FnA S} {p pos:Pos} (hg:Gl X "range") (hm:X.mg "range" = none) (ha:DA X c [a] f) (hs:starEach [a] X.env=[(false,eval a X.env)]:=by rfl):DI X c tg (.Call (.Name "range" p) [a] [] pos) (xi5 S yx3 f):=
 (xn7 hg hm ha hs).imp fun σ H R hI22=>by
  obtain⟨ρ,st,R0,ok,w⟩:=hI22;refine⟨ρ,st,R0,ok,za7 (za3.mp w) (fun l st1 q vs H1 e ok1 z=>?_) fun x st1 q=>q⟩;obtain⟨m,e1,q⟩:=zb8.mp q;unfold yx3 at e1;split at e1
  ·rename_i j
   split at e1
   ·rename_i h
    cases e1;obtain⟨v,r,e2,i2,i3⟩:=IsL.cons.mp z;rw[IsL.nil.mp i3,Is.int_iff.mp i2] at e2;exact⟨j,e2,h.1,h.2,q _ H1 e ok1 (xi4 0 _)⟩
   ·cases e1
  ·cases e1
noncomputable def frz1 (i:Nat) (ρ:Rho):Rho:=match ρ[i]? with
 | some (.own d)=>ρ.set i (.bor d)
 | _=>ρ
noncomputable def frz:List Nat->Rho->Rho
 | [],ρ=>ρ
 | i::r,ρ=>frz r (frz1 i ρ)
set_option tactic.hygienic true in
theorem Rep.frz1 {H:Hp} {σ:St} {ρ:Rho} {st:S} (i:Nat) (R:Rep c H σ ρ) (ok:W.ok st H):Rep c H σ (frz1 i ρ)/\Frm c H σ ρ H σ (L2.frz1 i ρ):=by
 unfold L2.frz1;split
 ·rename_i d hi
  obtain⟨a,e1,n,f,t⟩:=R.slot i _ hi;have e1':=zj7 e1;have hlt:i<ρ.length:=(Ae0.mp hi).1;have sub:∀b,Ow σ (ρ.set i (.bor d)) b->Ow σ ρ b/\b≠a:=fun b hI23=>by
   obtain⟨j,e,h1,h2⟩:=hI23;rcases zb3 h1 with⟨_,z⟩ | ⟨nj,z⟩
   ·cases z
   ·refine⟨⟨j,e,z,h2⟩,fun q=>?_⟩
    subst q;exact nj (R.uniq j i b e d z hi h2 e1')
  have k:zi6 (Av c σ ρ) (Av c σ (ρ.set i (.bor d))) H H:=⟨fun _ _ z _=>z,fun b o a z=>⟨⟨a.1,fun w=>a.2.1 (sub b w).1,a.2.2⟩,z⟩⟩;refine⟨⟨by rw[Bh0];exact R.len,R.frame,fun j s hs=>?_,R.avl,fun j j' b e e' h1 h2 h3 h4=>?_⟩,⟨fun b o h _ _=>h,fun b o _ _ w=>(sub b w).1⟩⟩
  ·rcases zb3 hs with⟨ej,z⟩ | ⟨nj,z⟩
   ·subst z ej
    exact⟨_,e1,(t.mono k fun o z=>z).isTop ⟨n.1,fun w=>(sub a w).2 rfl,n.2⟩⟩
   ·have q:=R.slot j s z
    cases s with
    | no=>trivial
    | bor e=>obtain⟨v',e1,i1⟩:=q;exact⟨v',e1,i1.mono k⟩
    | own e=>obtain⟨b,e1,n1,f,t⟩:=q;exact⟨b,e1,n1,f,t.mono k fun o z=>z⟩
    | hnd=>exact q
  ·rcases zb3 h1 with⟨_,z⟩ | ⟨_,z⟩
   ·cases z
   ·rcases zb3 h2 with⟨_,z'⟩ | ⟨_,z'⟩
    ·cases z'
    ·exact R.uniq j j' b e e' z z' h3 h4
 ·exact⟨R,Frm.refl⟩
theorem Rep.frz {H:Hp} {σ:St} {st:S} (ok:W.ok st H):∀(l:List Nat) {ρ:Rho},Rep c H σ ρ->Rep c H σ (L2.frz l ρ)/\Frm c H σ ρ H σ (L2.frz l ρ)
 | [],ρ,R=>⟨R,Frm.refl⟩
 | i::r,ρ,R=>by
   obtain⟨R1,F1⟩:=R.frz1 i ok;obtain⟨R2,F2⟩:=Rep.frz ok r R1;exact⟨R2,F1.trans F2⟩
noncomputable def xi8 (S:Type) (G:FnG) (B:FnS S):List D->FnS S
 | [],ρ,st=>.ok (.nx ρ) st
 | d::r,ρ,st=>(zk3 (G d ρ) st).bind fun ρ1 st1=>(B ρ1 st1).bind fun fl st2=>match fl with
   | .nx ρ2=>xi8 S G B r ρ2 st2
   | .ct ρ2=>xi8 S G B r ρ2 st2
   | .bk ρ2=>.ok (.nx ρ2) st2
   | .rt d=>.ok (.rt d) st2
noncomputable def ve7 (S:Type) (fz:List Nat) (f:FnI S) (G:FnG) (B:FnS S):FnS S:=fun ρ st=>(f (frz fz ρ) st).bind fun l st1=>xi8 S G B l (frz fz ρ) st1
theorem zl7 {iter:Expr} {body:List Stmt} {f:FnI S} {G:FnG} {B:FnS S} {pos:Pos} (fz:List Nat) (hp:PassesOwn (model X.prog X.w) X.A X.env X.xe) (hc:X.calm=true) (hi:DI X c tg iter f) (hg:DG X c tg G) (hb:DSs X c body B)
 (hs:∀x,foldedSetIterable iter X.env x=pure x:=by intro _;rfl):DS X c (.For tg iter body [] pos) (ve7 S fz f G B):=
 (wv0 hp hc hi hg hb hs).imp fun D σ H hI24=>by
  obtain⟨ρ,st,R,ok,w⟩:=hI24;obtain⟨Rf,Ff⟩:=R.frz ok fz;refine⟨frz fz ρ,st,Rf,ok,za7 (za3.mp w) (fun l st1 q J H1 e ok1 it=>?_) fun x st1 q H1 e ok1=>q H1 (e.f0 R) ok1⟩;have R1:=Rf.ext ok e;refine⟨fun i m σ2 H2=>∃ρ2 st2,i<=l.length/\m=l.length-i/\Frm c H1 σ (frz fz ρ) H2 σ2 ρ2/\Rep c H2 σ2 ρ2/\W.ok st2 H2/\wpR (xi8 S G B (l.drop i) ρ2 st2) (zw8 c D σ2 ρ2 H2) (xf6 c),⟨l.length,frz fz ρ,st1,Ak0 _,rfl,Frm.refl,R1,ok1,?_⟩,?_⟩
  ·rw[List.drop_zero]
   exact za7 q (fun fl st2 q=>(q.from Ff).from e.frm) fun x st2 q=>q
  ·rintro i m σ2 H2 ⟨ρ2,st2,hle,rfl,F2,R2,ok2,w2⟩
   obtain⟨h1,h2⟩:=it c rfl σ2 ρ2 H2 st2 (F2.keepT R1 ok1) R2 ok2 i;by_cases hlt:i<l.length
   ·have hd:l[i]?=some l[i]:=Ag0 hlt
    obtain⟨go,yl⟩:=h1 _ hd;rw[List.drop_eq_getElem_cons hlt] at w2;refine .inr ⟨go,fun σ3 H3=>∃ρ3 st3,Frm c H1 σ (frz fz ρ) H3 σ3 ρ3/\Rep c H3 σ3 ρ3/\W.ok st3 H3/\wpR (xi8 S G B (l.drop (i+1)) ρ3 st3) (zw8 c D σ3 ρ3 H3) (xf6 c),fun σ3 H3 ⟨ρ3,st3,F3,R3,ok3,w3⟩=>⟨l.length-(i+1),by omega,ρ3,st3,hlt,rfl,F3,R3,ok3,w3⟩,fun x H3 y=>?_⟩;obtain⟨sm,iv⟩:=yl x H3 y;have ex:Ext W H2 H3:=sm.ext;have ok3:W.ok st2 H3:=W.stay st2 H2 H3 ok2 fun b o _ hb=>sm b o hb
    have R3:=R2.ext ok2 ex;obtain⟨ρ4,e4,w4⟩:=zb8.mp (za3.mp w2);refine⟨ρ2,_,ρ4,st2,R3,ok3,iv,e4,fun σ4 R4 F4=>?_⟩;have F24:Frm c H2 σ2 ρ2 H3 σ4 ρ4:=ex.frm.trans F4;refine⟨ρ4,st2,R4,ok3,za7 (za3.mp w4) (fun fl st5 q5=>?_) fun x st5 q=>q⟩;have nxt:∀ρ5,wpR (xi8 S G B (l.drop (i+1)) ρ5 st5) (zw8 c D σ2 ρ2 H2) (xf6 c)->Nx c (fun σ3 H3=>∃ρ3 st3,Frm c H1 σ (frz fz ρ) H3 σ3 ρ3/\Rep c H3 σ3 ρ3/\W.ok st3 H3/\wpR (xi8 S G B (l.drop (i+1)) ρ3 st3) (zw8 c D σ3 ρ3 H3) (xf6 c)) σ4 ρ4 H3 ρ5 st5:=
     fun ρ5 q5 σ5 H5 F5 ok5 R5=>⟨ρ5,st5,F2.trans (F24.trans F5),R5,ok5,za7 q5 (fun fl st6 q=>q.from (F24.trans F5)) fun x st6 q=>q⟩
    cases fl with
    | nx ρ5=>exact nxt ρ5 q5
    | ct ρ5=>exact nxt ρ5 q5
    | bk ρ5=>exact fun σ5 H5 F5 ok5 R5=>q5 σ5 H5 (F24.trans F5) ok5 R5
    | rt d=>exact q5
   ·have e0:i=l.length:=by omega
    subst e0;rw[List.drop_length] at w2;exact .inl ⟨h2 (Ac0 _),w2 σ2 H2 Frm.refl ok2 R2⟩
end
end L2
end
section
namespace L2
open PySem PySem.Spec PyProof.Rows
theorem zh8:∀{l m:List D},D.immL l=true->D.immL m=true->D.immL (l++m)=true
 | [],_,_,h=>h
 | d::l,m,h,k=>by
   have h':d.imm=true/\D.immL l=true:=by simpa [D.immL] using h
   show (d.imm&&D.immL (l++m))=true;rw[h'.1,zh8 h'.2 k];rfl
noncomputable abbrev Dx.avoid {S:Type} {W:Wd S} (c:Dx W) (av:Addr->Prop):Dx W:=⟨c.K,c.H0,c.Ex,av⟩
noncomputable def pickR (ρ:Rho) (ixs:List (Option Nat)):Rho:=ixs.map fun o=>match o with
 | some i=>(match ρ[i]? with
   | some (.bor d)=>.bor d
   | some (.own d)=>.bor d
   | some .hnd=>.hnd
   | _=>.no)
 | none=>.no
section
variable {S:Type} {W:Wd S} {c:Dx W} {H H1:Hp} {σ:St} {ρ:Rho} {st:S}
theorem yc4 {σ':St} {ixs:List (Option Nat)} {b:Addr}:¬Ow σ' (pickR ρ ixs) b:=fun hI25=>by
 obtain⟨j,d,h,_⟩:=hI25;unfold pickR at h;rw[Ai0] at h;cases q:ixs[j]? with
 | none=>rw[q] at h;cases h
 | some o=>
   rw[q] at h;cases o with
   | none=>cases h
   | some i=>
     have h:(match ρ[i]? with | some (.bor d)=>Sl.bor d | some (.own d)=>.bor d | some .hnd=>.hnd | _=>.no)=Sl.own d:=Option.some.inj h;split at h<;>cases h
theorem Rep.pick {D:Addr} (R:Rep c H σ ρ) (ok:W.ok st H) (hD:H D=none) (ixs:List (Option Nat)):Rep (c.avoid fun b=>c.av b\/b=D) (upd H D (.lst [])) (L2.pick σ ixs) (pickR ρ ixs) where
 len:=by unfold L2.pick pickR;rw[Ab0,Ab0]
 frame:=fun b o h n=>by
  have e:H b=some o:=R.frame b o h n;show upd H D _ b=some o;rw[za9 (zb7 e hD)];exact e
 uniq:=fun i j a d e h1 _ _ _=>(yc4 (σ':=L2.pick σ ixs) (ρ:=ρ) (ixs:=ixs) (b:=a) ⟨i,d,h1,by assumption⟩).elim
 avl:=fun b h=>by
  rcases h with h | h
  ·obtain⟨n,z,o,h',q⟩:=R.avl b h
   exact⟨n,z,o,by show upd H D _ b=some o;rw[za9 (zb7 h' hD)];exact h',q⟩
  ·subst h
   exact⟨zo4 ok hD,R.none0 ok hD,_,zb0,(fun u z=>by cases z),fun ob u z=>by cases z⟩
 slot:=fun j s hs=>by
  unfold pickR at hs;rw[Ai0] at hs;have kk:∀{A:Addr->Prop},(∀b,A b->¬W.mv b/\¬c.av b)->zi6 A (Av (c.avoid fun b=>c.av b\/b=D) (L2.pick σ ixs) (pickR ρ ixs)) H (upd H D (.lst [])):=fun {A} hA=>
   zl0 (fun b o e _=>by rw[za9 (zb7 e hD)];exact e) fun b o a e=>⟨⟨(hA b a).1,yc4,fun w=>w.elim (hA b a).2 (fun z=>by subst z;rw[hD] at e;cases e)⟩,by rw[za9 (zb7 e hD)];exact e⟩
  cases q:ixs[j]? with
  | none=>rw[q] at hs;cases hs
  | some o=>
    rw[q] at hs;have ej:(L2.pick σ ixs)[j]?=(ixs[j]?).map (fun o=>match o with | some i=>(σ[i]?).join | none=>none):=by
     unfold L2.pick;rw[Ai0]
     all_goals rfl
    rw[ej,q];cases o with
    | none=>cases hs;trivial
    | some i=>
      have hs:(match ρ[i]? with | some (.bor d)=>Sl.bor d | some (.own d)=>.bor d | some .hnd=>.hnd | _=>.no)=s:=Option.some.inj hs;show wg6 _ _ _ (σ[i]?).join s;cases h:ρ[i]? with
      | none=>rw[h] at hs;cases hs;trivial
      | some s'=>
        rw[h] at hs;have z:=R.slot i s' h;cases s' with
        | no=>cases hs;trivial
        | hnd=>cases hs;exact z
        | bor d=>cases hs;obtain⟨v,e1,i1⟩:=z;exact⟨v,e1,i1.mono (kk fun b a=>⟨a.1,a.2.2⟩)⟩
        | own d=>
          cases hs;obtain⟨a,e1,n,f,t⟩:=z;refine⟨.ref a,e1,?_⟩;have t':=t.mono (c:=c) (kk fun b a=>⟨a.1,a.2.2⟩) fun o z=>by rw[za9 (zb7 z hD)];exact z
          obtain⟨o,ho,_⟩:=t.there;exact Top.isTop (c:=c) ⟨n.1,yc4,fun w=>w.elim n.2 (fun z=>by subst z;rw[hD] at ho;cases ho)⟩ t'
end
noncomputable def yb6 (S:Type) (G:FnG) (t:FnT S) (e:Fn S):List D->List D->Rho->S->Res S (List D)
 | [],acc,_,st=>.ok acc st
 | d::r,acc,ρ,st=>(zk3 (G d ρ) st).bind fun ρ1 st1=>(t ρ1 st1).bind fun b st2=>if b=true then
    (e ρ1 st2).bind fun y st3=>if y.imm=true/\acc.length<sizeLine then yb6 S G t e r (acc++[y]) ρ1 st3 else .bad
   else yb6 S G t e r acc ρ1 st2
noncomputable def xs7 (S:Type) (fz:List Nat) (ixs:List (Option Nat)) (f:FnI S) (G:FnG) (t:FnT S) (e:Fn S):Fn S:=fun ρ st=>(f (frz fz ρ) st).bind fun l st1=>(yb6 S G t e l [] (pickR (frz fz ρ) ixs) st1).bind fun r st2=>.ok (.lst r) st2
noncomputable def DTs (X:Cx) {S:Type} {W:Wd S} (c:Dx W) (ifs:List Expr) (t:FnT S):Prop:=PTs X ifs (tDT c t)
theorem PTs.imp {X:Cx} {e:List Expr} {t t':TT} (h:PTs X e t) (i:∀σ H Q,t' σ H Q->t σ H Q):PTs X e t':=fun pins s σ H Q I q=>h pins s σ H Q I (i σ H Q q)
noncomputable def wp1 (S:Type):FnT S:=fun _ st=>.ok true st
theorem zo6 {X:Cx} {S:Type} {W:Wd S} {c:Dx W}:DTs X c [] (wp1 S):=wk0.imp fun σ H Q ⟨ρ,st,R,ok,w⟩=>w H Ext.refl ok
theorem wp4 {X:Cx} {S:Type} {W:Wd S} {c:Dx W} {e:Expr} {t:FnT S} (h:DT X c e t):DTs X c [e] t:=wj9 h
section
variable {X:Cx} {S:Type} {W:Wd S} {c:Dx W} {N':List Str} {ixs:List (Option Nat)} {scope:Scope} {tg iter elt:Expr} {ifs:List Expr} {f:FnI S} {G:FnG} {t:FnT S} {e:Fn S} {pos:Pos} {g:Gr}
noncomputable def gEx {S:Type} {W:Wd S} (c:Dx W) (G:FnG):TG:=fun v σ H Q=>∃av,tG (c.avoid av) G v σ H Q
noncomputable def tEx {S:Type} {W:Wd S} (c:Dx W) (t:FnT S):TT:=fun σ H Q=>∃av,tDT (c.avoid av) t σ H Q
noncomputable def eEx {S:Type} {W:Wd S} (c:Dx W) (e:Fn S):TE:=fun σ H Q=>∃av,tD (c.avoid av) .R e σ H Q
noncomputable def vk6 (S:Type) {W:Wd S} (c:Dx W) (G:FnG) (t:FnT S) (e:Fn S) (l:List D) (A:Addr) (H1:Hp) (Pq:D->S->Prop) (Pe:Exn->S->Prop) (i:Nat) (σ2:St) (H2:Hp):Prop:=
 ∃ρ2 st2 acc ys,Rep (c.avoid fun b=>c.av b\/b=A) H2 σ2 ρ2/\(∀b,¬Ow σ2 ρ2 b)/\W.ok st2 H2/\Ext W H1 H2/\H2 A=some (.lst ys)/\D.immL acc=true/\IsL c.K (fun _=>False) H2 acc ys/\
  wpR ((yb6 S G t e (l.drop i) acc ρ2 st2).bind fun r st2=>.ok (.lst r) st2) Pq Pe
noncomputable def cPq (S:Type) {W:Wd S} (c:Dx W) (g:Gr) (σ:St) (ρ:Rho) (H:Hp) (Q:VK):D->S->Prop:=fun d st'=>∀v H',Ext W H H'->W.ok st' H'->Val c g σ ρ H H' d v->Q v H'
noncomputable def cPe (S:Type) {W:Wd S} (c:Dx W) (H:Hp):Exn->S->Prop:=fun x st'=>∀H',Ext W H H'->W.ok st' H'->c.Ex x st' H'
theorem xl7 {fz:List Nat} {σ:St} {H:Hp} {Q:VK} (h:tD c g (xs7 S fz ixs f G t e) σ H Q):wj1 (tI c f) ixs (gEx c G) (tEx c t) (eEx c e) σ H Q:=by
 obtain⟨ρ,st,R,ok,w⟩:=h;obtain⟨Rf,Ff⟩:=R.frz ok fz;refine⟨frz fz ρ,st,Rf,ok,za7 (za3.mp w) (fun l st1 q J H1 e1 ok1 it=>?_) fun x st1 q=>q⟩;have R1:=R.ext ok e1;have Rf1:=Rf.ext ok e1;intro A hA;have hAm:¬W.mv A:=zo4 ok1 hA;have hA0:H A=none:=e1.none ok1 hA;refine⟨fun i m σ2 H2=>i<=l.length/\m=l.length-i/\vk6 S c G t e l A H1 (cPq S c g σ ρ H Q) (cPe S c H) i σ2 H2,⟨l.length,Ak0 _,rfl,pickR (frz fz ρ) ixs,st1,[],[],Rf1.pick ok1 hA ixs,fun b=>yc4,zi3 ok1 hA,Ext.laid hA,zb0,rfl,IsL.nil.mpr rfl,by rw[List.drop_zero];exact q⟩,?_⟩;intro i m σ2 H2 hI;obtain⟨hle,rfl,ρ2,st2,acc,ys,R2,no2,ok2,x2,hA2,im,il,w2⟩:=hI;have k2:zi6 (Av c σ (frz fz ρ)) (Av (c.avoid fun b=>c.av b\/b=A) σ2 ρ2) H1 H2:=zl0 (fun b o h tt=>x2 b o h fun m=>by
  obtain⟨o',h',n1,n2⟩:=W.live st1 H1 b ok1 m;rw[h] at h';cases h';rcases tt with⟨u,z⟩ | ⟨ob,u,z⟩
  ·exact n1 u z
  ·exact n2 ob u z) fun b o a h=>⟨⟨a.1,no2 b,fun w=>w.elim a.2.2 (fun z=>by subst z;rw[hA] at h;cases h)⟩,x2 b o h a.1⟩
 obtain⟨h1,h2⟩:=it (c.avoid fun b=>c.av b\/b=A) rfl σ2 ρ2 H2 st2 k2 R2 ok2 i;by_cases hlt:i<l.length
 ·have hd:l[i]?=some l[i]:=Ag0 hlt
  obtain⟨go,yl⟩:=h1 _ hd;rw[List.drop_eq_getElem_cons hlt] at w2;refine .inr ⟨go,fun σ3 H3=>vk6 S c G t e l A H1 (cPq S c g σ ρ H Q) (cPe S c H) (i+1) σ3 H3,fun σ3 H3 hh=>⟨l.length-(i+1),by omega,hlt,rfl,hh⟩,fun x H3 y=>?_⟩;obtain⟨sm,iv⟩:=yl x H3 y;have ex:Ext W H2 H3:=sm.ext;have ok3:W.ok st2 H3:=W.stay st2 H2 H3 ok2 fun b o _ hb=>sm b o hb
  have R3:=R2.ext (c:=c.avoid fun b=>c.av b\/b=A) ok2 ex;have w2:wpR (((zk3 (G l[i] ρ2) st2).bind fun ρ1 st1=>(t ρ1 st1).bind fun b st2=>if b=true then
   (e ρ1 st2).bind fun y st3=>if y.imm=true/\acc.length<sizeLine then yb6 S G t e (l.drop (i+1)) (acc++[y]) ρ1 st3 else .bad
   else yb6 S G t e (l.drop (i+1)) acc ρ1 st2).bind fun r st2=>.ok (.lst r) st2) (cPq S c g σ ρ H Q) (cPe S c H):=w2
  obtain⟨ρ4,e4,w4⟩:=zb8.mp (za3.mp (za3.mp w2));refine⟨(fun b=>c.av b\/b=A),ρ2,_,ρ4,st2,R3,ok3,iv,e4,fun σ4 R4 F4=>?_⟩;have no4:∀b,¬Ow σ4 ρ4 b:=fun b wb=>by
   obtain⟨n,_,o,ho,_⟩:=R4.owOk wb;exact no2 b (F4.own b o ho n wb)
  refine⟨(fun b=>c.av b\/b=A),ρ4,st2,R4,ok3,za7 (za3.mp w4) (fun b st5 q5 H5 x5 ok5=>?_) fun x st5 q H5 x5 ok5=>q H5 ((e1.trans x2).trans (ex.trans x5)) ok5⟩;have R5:=R4.ext (c:=c.avoid fun b=>c.av b\/b=A) ok3 x5;have hA5:H5 A=some (.lst ys):=x5 A _ (sm A _ hA2) hAm;cases b with
  | false=>
    exact⟨ρ4,st5,acc,ys,R5,no4,ok5,x2.trans (ex.trans x5),hA5,im,(il.ext ex ok2 fun _ z=>z.elim).ext x5 ok3 fun _ z=>z.elim,za3.mpr q5⟩
  | true=>
    refine⟨(fun b=>c.av b\/b=A),ρ4,st5,R5,ok5,za7 (za3.mp q5) (fun y st6 q6 v H6 x6 ok6 z6=>?_) fun x st6 q H6 x6 ok6=>q H6 ((e1.trans x2).trans (ex.trans (x5.trans x6))) ok6⟩;by_cases hy:y.imm=true/\acc.length<sizeLine
    ·rw[if_pos hy] at q6
     have hA6:H6 A=some (.lst ys):=x6 A _ hA5 hAm;have il6:IsL c.K (fun _=>False) H6 acc ys:=((il.ext ex ok2 fun _ z=>z.elim).ext x5 ok3 fun _ z=>z.elim).ext x6 ok5 fun _ z=>z.elim
     refine⟨ys,hA6,by rw[<-il6.length];exact hy.2,ρ4,st6,acc++[y],ys++[v],?_,no4,?_,?_,zb0,?_,?_,za3.mpr q6⟩
     ·-- the slots do not see the list
      have R6:=R5.ext (c:=c.avoid fun b=>c.av b\/b=A) ok5 x6;have nA:∀b,Av (c.avoid fun b=>c.av b\/b=A) σ4 ρ4 b->b≠A:=fun b a z=>a.2.2 (.inr z)
      have k:zi6 (Av (c.avoid fun b=>c.av b\/b=A) σ4 ρ4) (Av (c.avoid fun b=>c.av b\/b=A) σ4 ρ4) H6 (upd H6 A (.lst (ys++[v]))):=zl0 (fun b o h tt=>by
       have hb:b≠A:=fun z=>by
        subst z;rw[hA6] at h;cases h;rcases tt with⟨u,z⟩ | ⟨ob,u,z⟩<;>cases z
       rw[za9 hb];exact h) fun b o a h=>⟨a,by rw[za9 (nA b a)];exact h⟩
      refine⟨R6.len,fun b o h n=>?_,fun j s hs=>?_,fun b h=>?_,R6.uniq⟩
      ·have hb:b≠A:=fun z=>by
        subst z;have:=(R6.avl b (.inr rfl)).2.1;rw[show (c.avoid fun b'=>c.av b'\/b'=b).H0 b=c.H0 b from rfl] at this;rw[this] at h;cases h
       rw[za9 hb];exact R6.frame b o h n
      ·have qs:=R6.slot j s hs
       cases s with
       | no=>trivial
       | bor d=>obtain⟨v',e1,i1⟩:=qs;exact⟨v',e1,i1.mono k⟩
       | own d=>obtain⟨a,ea,_,_,_⟩:=qs;exact(no4 a ⟨j,d,hs,zj7 ea⟩).elim
       | hnd=>exact qs
      ·obtain⟨n,z,o,h',qq⟩:=R6.avl b h
       by_cases hb:b=A
       ·subst hb
        exact⟨n,z,_,zb0,(fun u z=>by cases z),fun ob u z=>by cases z⟩
       ·exact⟨n,z,o,by rw[za9 hb];exact h',qq⟩
     ·exact W.stay st6 H6 _ ok6 fun b o m h=>by
       have hb:b≠A:=fun z=>hAm (z▸m)
       rw[za9 hb];exact h
     ·intro b o h n
      have hb:b≠A:=fun z=>by subst z;rw[hA] at h;cases h
      rw[za9 hb];exact((x2.trans (ex.trans (x5.trans x6))) b o h n)
     ·exact zh8 im (by simp[D.immL,hy.1])
     ·have z6':Is c.K (fun _=>False) H6 y v:=Is.ofImm hy.1 z6
      have kk:zi6 (fun _=>False) (fun _=>False) H6 (upd H6 A (.lst (ys++[v]))):=zl0 (fun b o h tt=>by
       have hb:b≠A:=fun z=>by
        subst z;rw[hA6] at h;cases h;rcases tt with⟨u,z⟩ | ⟨ob,u,z⟩<;>cases z
       rw[za9 hb];exact h) fun b o a h=>a.elim
      exact(il6.append (IsL.one z6')).mono kk
    ·rw[if_neg hy] at q6;exact q6.elim
 ·have e0:i=l.length:=by omega
  subst e0;rw[List.drop_length] at w2;refine .inl ⟨h2 (Ac0 _),w2 (.ref A) H2 (e1.trans x2) ok2 (New.val R ?_ g)⟩;exact Is.lst ⟨hAm,hA0⟩ hA2 (IsL.ofImm im il)
theorem zo7 (fz:List Nat) (CS:zk2 X N' ixs scope) (hc:X.calm=true) (hi:DI X c tg iter f)
 (hin:∀av cl C s H fp,DG (zi2 X N' scope cl C s H fp) (c.avoid av) tg G/\DTs (zi2 X N' scope cl C s H fp) (c.avoid av) ifs t/\DE (zi2 X N' scope cl C s H fp) (c.avoid av) .R elt e)
 (hs:∀x,foldedSetIterable iter X.env x=pure x:=by intro _;rfl):DE X c g (.ListComp elt [⟨tg,iter,ifs,0⟩] scope pos) (xs7 S fz ixs f G t e):=
 (wl1 (g:=gEx c G) (tc:=tEx c t) (te:=eEx c e) CS hc hi (fun cl C s H fp=>
  ⟨fun pins s' σ H' v u Q I r ⟨av,q⟩=>(hin av cl C s H fp).1 pins s' σ H' v u Q I r q,fun pins s' σ H' Q I ⟨av,q⟩=>(hin av cl C s H fp).2.1 pins s' σ H' Q I q,fun pins s' σ H' Q I ⟨av,q⟩=>(hin av cl C s H fp).2.2 pins s' σ H' Q I q⟩) hs).imp fun σ H Q q=>xl7 (g:=g) q
theorem wp7 {i:Nat} {y:Str} {py spos:Pos} (fz:List Nat) (CS:zk2 X N' ixs scope) (hc:X.calm=true) (hN:X.N.Nodup) (hy0:X.N[i]?=some y) (hy:X.env.scope.names.lookup y=some .local) (hi:DI X c tg iter f)
 (hin:∀av cl C s H fp,DG (zi2 X N' scope cl C s H fp) (c.avoid av) tg G/\DTs (zi2 X N' scope cl C s H fp) (c.avoid av) ifs t/\DE (zi2 X N' scope cl C s H fp) (c.avoid av) .R elt e)
 (hsw:swapsWith (.ListComp elt [⟨tg,iter,ifs,0⟩] scope pos) (some (.Name y py)) spos.line X.env=pure true)
 (hs:∀x,foldedSetIterable iter X.env x=pure x:=by intro _;rfl):DS X c (.Assign [.Name y py] (.ListComp elt [⟨tg,iter,ifs,0⟩] scope pos) spos) (wu2 S i (xs7 S fz ixs f G t e)):=
 (wk3 (g:=gEx c G) (tc:=tEx c t) (te:=eEx c e) CS hc hN hy0 hy hi (fun cl C s H fp=>
  ⟨fun pins s' σ H' v u Q I r ⟨av,q⟩=>(hin av cl C s H fp).1 pins s' σ H' v u Q I r q,fun pins s' σ H' Q I ⟨av,q⟩=>(hin av cl C s H fp).2.1 pins s' σ H' Q I q,fun pins s' σ H' Q I ⟨av,q⟩=>(hin av cl C s H fp).2.2 pins s' σ H' Q I q⟩) hsw hs).imp fun D σ H q=>xl7 (g:=.F) (wd4 q)
noncomputable def zk4 (S:Type) (t:FnT S) (B:FnS S):Nat->FnS S
 | 0,_,_=>.bad
 | n+1,ρ,st=>(t ρ st).bind fun b st1=>if b=true then (B ρ st1).bind fun fl st2=>match fl with
    | .nx ρ2=>zk4 S t B n ρ2 st2
    | .ct ρ2=>zk4 S t B n ρ2 st2
    | .bk ρ2=>.ok (.nx ρ2) st2
    | .rt d=>.ok (.rt d) st2
   else .ok (.nx ρ) st1
open Classical in
noncomputable def yj1 (S:Type) (t:FnT S) (B:FnS S):FnS S:=fun ρ st=>if h:∃n,zk4 S t B n ρ st≠.bad then zk4 S t B h.choose ρ st else .bad
theorem zq0 {t:FnT S} {B:FnS S}:∀(n k:Nat) (ρ:Rho) (st:S),zk4 S t B n ρ st≠.bad->zk4 S t B (n+k) ρ st=zk4 S t B n ρ st
 | 0,_,_,_,h=>(h rfl).elim
 | n+1,k,ρ,st,h=>by
   rw[show n+1+k=(n+k)+1 by omega];unfold zk4 at h ⊢;cases q:t ρ st with
   | bad=>rfl
   | exc x s=>rfl
   | ok b st1=>
     rw[q] at h;simp only[Res.bind_ok] at h ⊢;cases b with
     | false=>rfl
     | true=>
       simp only[if_true] at h ⊢;cases q2:B ρ st1 with
       | bad=>rfl
       | exc x s=>rfl
       | ok fl st2=>
         rw[q2] at h;simp only[Res.bind_ok] at h ⊢;cases fl with
         | nx ρ2=>exact zq0 n k ρ2 st2 h
         | ct ρ2=>exact zq0 n k ρ2 st2 h
         | bk ρ2=>rfl
         | rt d=>rfl
theorem yq0 {t:FnT S} {B:FnS S} {n:Nat} {ρ:Rho} {st:S} (h:zk4 S t B n ρ st≠.bad):yj1 S t B ρ st=zk4 S t B n ρ st:=by
 unfold yj1;have hx:∃n,zk4 S t B n ρ st≠.bad:=⟨n,h⟩;rw[dif_pos hx];have h1:=zq0 n hx.choose ρ st h;have h2:=zq0 hx.choose n ρ st hx.choose_spec;rw[Nat.add_comm] at h2;exact h2.symm.trans h1
theorem xe2 {test:Expr} {body:List Stmt} {t:FnT S} {B:FnS S} (hp:PassesOwn (model X.prog X.w) X.A X.env X.xe) (ht:DT X c test t) (hb:DSs X c body B):DS X c (.While test body [] pos) (yj1 S t B):=
 (xy5 hp ht hb).imp fun D σ H hI26=>by
  obtain⟨ρ,st,R,ok,w⟩:=hI26;have hx:∃n,zk4 S t B n ρ st≠.bad:=by
   apply Classical.byContradiction;intro h;unfold yj1 at w;rw[dif_neg h] at w;exact w
  obtain⟨n,hn⟩:=hx;rw[yq0 hn] at w;refine⟨fun m σ2 H2=>∃ρ2 st2,Rep c H2 σ2 ρ2/\W.ok st2 H2/\wpR (zk4 S t B m ρ2 st2) (zw8 c D σ2 ρ2 H2) (xf6 c),⟨n,ρ,st,R,ok,w⟩,?_⟩;rintro m σ2 H2 ⟨ρ2,st2,R2,ok2,w2⟩;cases m with
  | zero=>exact w2.elim
  | succ m=>
    refine⟨ρ2,st2,R2,ok2,za7 (za3.mp w2) (fun b st3 q3 H3 x3 ok3=>?_) fun x st3 q H3 x3 ok3=>q H3 (x3.f0 R2) ok3⟩;have R3:=R2.ext ok2 x3;cases b with
    | false=>exact q3 σ2 H3 x3.frm ok3 R3
    | true=>
      refine wr4 ?_;refine⟨fun σ4 H4=>∃ρ4 st4,Rep c H4 σ4 ρ4/\W.ok st4 H4/\wpR (zk4 S t B m ρ4 st4) (zw8 c D σ4 ρ4 H4) (xf6 c),fun σ4 H4 q=>⟨m,Nat.lt_succ_self m,q⟩,ρ2,st3,R3,ok3,za7 (za3.mp q3) (fun fl st4 q4=>?_) fun x st4 q=>q⟩;have nxt:∀ρ5,wpR (zk4 S t B m ρ5 st4) (zw8 c D σ2 ρ2 H2) (xf6 c)->Nx c (fun σ4 H4=>∃ρ4 st4,Rep c H4 σ4 ρ4/\W.ok st4 H4/\wpR (zk4 S t B m ρ4 st4) (zw8 c D σ4 ρ4 H4) (xf6 c)) σ2 ρ2 H3 ρ5 st4:=
       fun ρ5 q5 σ5 H5 F5 ok5 R5=>⟨ρ5,st4,R5,ok5,za7 q5 (fun fl st6 q=>q.from (x3.frm.trans F5)) fun x st6 q=>q⟩
      cases fl with
      | nx ρ5=>exact nxt ρ5 q4
      | ct ρ5=>exact nxt ρ5 q4
      | bk ρ5=>exact fun σ5 H5 F5 ok5 R5=>q4 σ5 H5 (x3.frm.trans F5) ok5 R5
      | rt d=>exact q4
end
end L2
end
section
namespace L2
open PySem PySem.Spec PyProof.Rows
noncomputable def rho0 (n:Nat) (l:List D):Rho:=l.map Sl.bor++List.replicate (n-l.length) .no
noncomputable def rhoS (n:Nat) (l:List D):Rho:=Sl.hnd::(l.map Sl.bor++List.replicate (n-1-l.length) .no)
noncomputable def vk2 {S:Type} (r:Res S Fl):Res S D:=match r with
 | .ok (.rt d) st=>.ok d st
 | .ok (.nx _) st=>.ok .non st
 | .ok _ _=>.bad
 | .exc x st=>.exc x st
 | .bad=>.bad
noncomputable def dfn (n p:Nat) (B:FnS Unit):List D->Res Unit D:=fun l=>if l.length=p/\p<=n then vk2 (B (rho0 n l) ()) else .bad
noncomputable def wc1 {S:Type} (n p:Nat) (B:FnS S):List D->S->Res S D:=fun l st=>if l.length+1=p/\p<=n then vk2 (B (rhoS n l) st) else .bad
noncomputable abbrev cx0 (K:PySem.W.Frag) (H:Hp):Dx W0:=⟨K,H,fun _ _ _=>False,fun _=>False⟩
noncomputable abbrev cxS {S:Type} (W:Wd S) (K:PySem.W.Frag) (H:Hp):Dx W:=⟨K,H,fun _ _ _=>False,fun _=>False⟩
theorem zs1 {n:Nat} {l:List D} {i:Nat} {s:Sl} (h:(rho0 n l)[i]?=some s):(∃d,s=.bor d/\l[i]?=some d)\/s=.no:=by
 unfold rho0 at h;by_cases hi:i<l.length
 ·rw[Bw0 (by rw[Ab0];exact hi),Ai0] at h
  cases q:l[i]? with
  | none=>rw[q] at h;cases h
  | some d=>rw[q] at h;cases h;exact .inl ⟨d,rfl,rfl⟩
 ·rw[List.getElem?_append_right (by rw[Ab0];omega),List.getElem?_replicate] at h
  split at h
  ·cases h;exact .inr rfl
  ·cases h
theorem yd9 {N:List Str} {vs:List V} {i:Nat} {v:V} (h:vs[i]?=some v):(zu4 N vs)[i]?=some (some v):=by
 unfold zu4;have hi:i<vs.length:=(Ae0.mp h).1;rw[Bw0 (by rw[Ab0];exact hi),Ai0,h];rfl
set_option tactic.hygienic true in
theorem xn0 {K:PySem.W.Frag} {H:Hp} {N:List Str} {l:List D} {vs:List V} (hl:l.length<=N.length) (h:IsL K (fun _=>True) H l vs):Rep (cx0 K H) H (zu4 N vs) (rho0 N.length l):=by
 have no:∀b,¬Ow (zu4 N vs) (rho0 N.length l) b:=fun b hI27=>by
  obtain⟨i,d,h1,_⟩:=hI27;rcases zs1 h1 with⟨_,z,_⟩ | z<;>cases z
 refine⟨?_,fun b o e _=>e,fun i s hs=>?_,fun b z=>z.elim,fun i j a d e h1 _ _ _=>?_⟩
 ·unfold zu4 rho0
  rw[Al0,Al0,Ab0,Ab0,List.length_replicate,List.length_replicate,h.length]
 ·rcases zs1 hs with⟨d,rfl,hd⟩ | rfl
  ·obtain⟨v,hv,iv⟩:=h.get hd
   exact⟨v,by rw[yd9 hv];rfl,iv.mono ⟨fun _ _ z _=>z,fun b o _ z=>⟨⟨fun m=>m,no b,fun m=>m⟩,z⟩⟩⟩
  ·trivial
 ·rcases zs1 h1 with⟨_,z,_⟩ | z<;>cases z
section
variable {P:Program} {w:World} {K:PySem.W.Frag} {mg:Str->Option Value} {base:Heap}
set_option tactic.hygienic true in
theorem Fun.d0 {x qual:Str} {st:Stmt} {f:Addr} {fd:FuncData} {N ps:List Str} {k:Nat} {B:FnS Unit} (F:Fun K x qual st f fd) (S:zd1 N ps (za1 st))
 (hb:∀(cdv:Value) (A:Around) (outer:List Env) (s:Shared) (H:Hp) (E:XK),zl9 k (A.deeper (envOfC qual (za1 st) s.heap.objs.size f cdv))->
  DSs (zw3 CX0 P w K mg base N qual (za1 st) f cdv A outer s H E).nox (cx0 K H) (zb2 st) B):zp9 P w K mg base CX0 (k+1) f fd ps (sp0 K (dfn N.length ps.length B)):=by
 refine F.ok S (fun vs H Q E h=>?_) fun cdv A outer s H vs Q E hr h=>?_
 ·obtain⟨l,i,w⟩:=h
  unfold dfn at w;split at w
  ·rename_i hl
   rw[<-i.length];exact hl.1
  ·exact w.elim
 ·obtain⟨l,i,w⟩:=h
  unfold dfn at w;split at w
  ·rename_i hl
   refine⟨_,hb cdv A outer s H E hr,rho0 N.length l,(),xn0 (by omega) i,trivial,?_⟩;cases q:B (rho0 N.length l) () with
   | bad=>rw[q] at w;exact w.elim
   | exc x u=>rw[q] at w;exact w.elim
   | ok fl u=>
     rw[q] at w;have fin:∀d v H',F0 (cx0 K H) H'->Is K (fun b=>¬W0.mv b/\H b=none) H' d v->(∀v H',yv3 H H'->Is K (fun b=>H b=none) H' d v->Q v H')->Q v H':=fun d v H' f0 z q=>
      q v H' (fun b o e=>f0 b o e fun m=>m) (z.mono ⟨fun _ _ z _=>z,fun b o a z=>⟨a.2,z⟩⟩)
     cases fl with
     | rt d=>exact fun v H' f0 _ z=>fin d v H' f0 z w
     | nx ρ=>exact fun σ' H' fr _ R'=>fin .non .non H' (fun b o e n=>R'.frame b o e n) (Is.non_iff.mpr rfl) w
     | bk ρ=>exact w.elim
     | ct ρ=>exact w.elim
  ·exact w.elim
set_option tactic.hygienic true in
theorem Fun.dS {Sx:Type} {W:Wd Sx} {x qual:Str} {st:Stmt} {f:Addr} {fd:FuncData} {N ps:List Str} {k:Nat} {B:FnS Sx} (F:Fun K x qual st f fd) (S:zd1 N ps (za1 st))
 (hb:∀(cdv:Value) (A:Around) (outer:List Env) (s:Shared) (H:Hp) (E:XK),zl9 k (A.deeper (envOfC qual (za1 st) s.heap.objs.size f cdv))->
  DSs (zw3 CX0 P w K mg base N qual (za1 st) f cdv A outer s H E).nox (cxS W K H) (zb2 st) B):zp9 P w K mg base CX0 (k+1) f fd ps (spS W K (wc1 N.length ps.length B)):=by
 refine F.ok S (fun vs H Q E h=>?_) fun cdv A outer s H vs Q E hr h=>?_
 ·obtain⟨l,us,st0,rfl,i,ok,w⟩:=h
  unfold wc1 at w;split at w
  ·rename_i hl
   rw[An0,<-i.length];exact hl.1
  ·exact w.elim
 ·obtain⟨l,us,st0,rfl,i,ok,w⟩:=h
  unfold wc1 at w;split at w
  ·rename_i hl
   have no:∀b,¬Ow (zu4 N (W.h::us)) (rhoS N.length l) b:=fun b hI28=>by
    obtain⟨j,d,h1,_⟩:=hI28;unfold rhoS at h1;cases j with
    | zero=>cases h1
    | succ j=>
      have h1:(l.map Sl.bor++List.replicate (N.length-1-l.length) .no)[j]?=some (.own d):=by simpa using h1
      rcases zs1 (n:=N.length-1) h1 with⟨_,z,_⟩ | z<;>cases z
   have R:Rep (cxS W K H) H (zu4 N (W.h::us)) (rhoS N.length l):=by
    refine⟨?_,fun b o e _=>e,fun j s hs=>?_,fun b z=>z.elim,fun j j' a d e h1 _ h3 _=>(no a ⟨j,d,h1,h3⟩).elim⟩
    ·unfold zu4 rhoS
     simp only[Al0,An0,Ab0,List.length_replicate];have:=i.length;omega
    ·unfold rhoS at hs
     cases j with
     | zero=>cases hs;exact by rw[yd9 (v:=W.h) rfl];rfl
     | succ j=>
       have hs:(l.map Sl.bor++List.replicate (N.length-1-l.length) .no)[j]?=some s:=by simpa using hs
       rcases zs1 (n:=N.length-1) hs with⟨d,rfl,hd⟩ | rfl
       ·obtain⟨v,hv,iv⟩:=i.get hd
        exact⟨v,by rw[yd9 (v:=v) (by simpa using hv)];rfl,iv.mono ⟨fun _ _ z _=>z,fun b o a z=>⟨⟨a,no b,fun m=>m⟩,z⟩⟩⟩
       ·trivial
   refine⟨_,hb cdv A outer s H E hr,rhoS N.length l,st0,R,ok,?_⟩;cases q:B (rhoS N.length l) st0 with
   | bad=>rw[q] at w;exact w.elim
   | exc x u=>rw[q] at w;exact w.elim
   | ok fl u=>
     rw[q] at w;cases fl with
     | rt d=>exact fun v H' f0 ok' z=>w v H' f0 ok' z
     | nx ρ=>exact fun σ' H' fr ok' R'=>w .non H' (fun b o e n=>R'.frame b o e n) ok' (Is.non_iff.mpr rfl)
     | bk ρ=>exact w.elim
     | ct ρ=>exact w.elim
  ·exact w.elim
end
structure ze0 (P:Program) (w:World) (K:PySem.W.Frag) (mg:Str->Option Value) (base:Heap) (k:Nat) (x:Str) (ps:List Str) (sp:Sp):Prop where
 ex:∃f fd,mg x=some (.ref f)/\PySem.W.keepIn K (.ref f)=true/\xj5 K fd ps []/\zp9 P w K mg base CX0 k f fd ps sp
section
variable {X:Cx} {S:Type} {W:Wd S} {c:Dx W} {g:Gr} {k:Nat} {x:Str} {ps:List Str} {p pos:Pos} {e:Expr} {es:List Expr}
theorem ze4 {G:List D->Res Unit D} {f:FnA S} (C:ze0 X.prog X.w X.K X.mg X.base k x ps (sp0 c.K G)) (hr:zl9 k X.A) (hg:Gl X x) (ha:DA X c (e::es) f) (hdb:(x == ("__debug__" : Str))=false:=by decide)
 (he:starEach (e::es) X.env=(false,eval e X.env)::starEach es X.env:=by rfl) (hpl:(backTo pos (starEach es X.env)).any (·.1)=false:=by rfl):DE X c g (.Call (.Name x p) (e::es) [] pos) (xs8 S G f):=by
 obtain⟨fa,fd,hm,hk,hb,F⟩:=C.ex;exact(yw8 (E:=E0) F hr hg hm hk hb .nil wl4 ha hdb he hpl).imp fun σ H Q q=>xx3 q
theorem zb9 {G:List D->S->Res S D} {f:FnA S} {i:Nat} {y:Str} {py:Pos} (C:ze0 X.prog X.w X.K X.mg X.base k x ps (spS W c.K G)) (hr:zl9 k X.A) (hg:Gl X x) (hy:PE X (.Name y py) (yh9 i)) (ha:DA X c es f) (hdb:(x == ("__debug__" : Str))=false:=by decide)
 (he:starEach (.Name y py::es) X.env=(false,eval (.Name y py) X.env)::starEach es X.env:=by rfl) (hpl:(backTo pos (starEach es X.env)).any (·.1)=false:=by rfl):DE X c g (.Call (.Name x p) (.Name y py::es) [] pos) (yt5 S G i f):=by
 obtain⟨fa,fd,hm,hk,hb,F⟩:=C.ex;exact(yw8 (E:=E0) F hr hg hm hk hb .nil wl4 (zk7 hy ha he) hdb he hpl).imp fun σ H Q q=>xx2 q
end
end L2
end
section
namespace L2
open PySem PySem.Spec PyProof.Rows
section
variable {S:Type} {W:Wd S} {c:Dx W}
theorem zs6 {H H':Hp} {i:Int}:New c H H' (.int i) (.int i):=Is.int_iff.mpr rfl
theorem zp3 {H H':Hp} {i:Bool}:New c H H' (.bl i) (.bl i):=Is.bl_iff.mpr rfl
noncomputable def iOp (C:Int->Int->Prop) [∀i j,Decidable (C i j)] (g:Int->Int->D):D->D->Option D
 | .int i,.int j=>if C i j then some (g i j) else none
 | _,_=>none
noncomputable def zw2 (g:Int->Int->D):D->D->Option D
 | .int i,.int j=>some (g i j)
 | _,_=>none
set_option tactic.hygienic true in
theorem ww7 {C:Int->Int->Prop} [∀i j,Decidable (C i j)] {g:Int->Int->Int}:OpD c (rI C fun i j=>.int (g i j)) (iOp C fun i j=>.int (g i j)):=by
 intro d1 d2 v1 v2 H st d Q ok z1 z2 e q;unfold iOp at e;split at e
 ·rename_i i j
  split at e
  ·rename_i h
   cases e;exact⟨i,j,Is.int_iff.mp z1,Is.int_iff.mp z2,h,q _ H Ext.refl ok zs6⟩
  ·cases e
 ·cases e
set_option tactic.hygienic true in
theorem ym3 {g:Int->Int->Int}:OpD c (rI0 fun i j=>.int (g i j)) (zw2 fun i j=>.int (g i j)):=by
 intro d1 d2 v1 v2 H st d Q ok z1 z2 e q;unfold zw2 at e;split at e
 ·rename_i i j
  cases e;exact⟨i,j,Is.int_iff.mp z1,Is.int_iff.mp z2,q _ H Ext.refl ok zs6⟩
 ·cases e
set_option tactic.hygienic true in
theorem zv9 {g:Int->Int->Bool}:OpD c (rI0 fun i j=>.bl (g i j)) (zw2 fun i j=>.bl (g i j)):=by
 intro d1 d2 v1 v2 H st d Q ok z1 z2 e q;unfold zw2 at e;split at e
 ·rename_i i j
  cases e;exact⟨i,j,Is.int_iff.mp z1,Is.int_iff.mp z2,q _ H Ext.refl ok zp3⟩
 ·cases e
theorem OpD.or {r r':R2} {o o':D->D->Option D} (h:OpD c r o) (h':OpD c r' o'):OpD c (fun x y H Q=>r x y H Q\/r' x y H Q) (fun a b=>(o a b).or (o' a b)):=by
 intro d1 d2 v1 v2 H st d Q ok z1 z2 e q;cases e1:o d1 d2 with
 | some d'=>
   have e:some d'=some d:=by simpa [e1] using e
   cases e;exact .inl (h d1 d2 v1 v2 H st d Q ok z1 z2 e1 q)
 | none=>
   have e:o' d1 d2=some d:=by simpa [e1] using e
   exact .inr (h' d1 d2 v1 v2 H st d Q ok z1 z2 e q)
noncomputable instance (i j:Int):Decidable (vd1 i j):=by unfold vd1;infer_instance
noncomputable instance (i j:Int):Decidable (xj8 i j):=by unfold xj8;infer_instance
noncomputable instance (i j:Int):Decidable (vd0 i j):=by unfold vd0;infer_instance
noncomputable instance (i j:Int):Decidable (vb5 i j):=by unfold vb5;infer_instance
noncomputable def oIx:D->D->Option D
 | .tup l,.int i=>im (atI l i)
 | .lst l,.int i=>im (atI l i)
 | _,_=>none
theorem wg5 {K:PySem.W.Frag} {A:Addr->Prop} {H:Hp} {l:List D} {vs:List V} {i:Int} {d:D} (z:IsL K A H l vs) (h:atI l i=some d):∃v,atI vs i=some v/\Is K A H d v:=by
 unfold atI at h ⊢;rw[<-z.length];cases q:ixN l.length i with
 | none=>rw[q] at h;cases h
 | some j=>
   rw[q] at h;exact z.get (i:=j) h
theorem yy5 {o:Option D} {d:D} (h:im o=some d):o=some d/\d.imm=true:=by
 cases o with
 | none=>cases h
 | some x=>
   have h:(if x.imm=true then some x else none)=some d:=h;split at h
   ·cases h;exact⟨rfl,by assumption⟩
   ·cases h
set_option tactic.hygienic true in
theorem ww5 {K:PySem.W.Frag} (hK:c.K=K):OpD c (rIx K) oIx:=by
 intro d1 d2 v1 v2 H st d Q ok z1 z2 e q;unfold oIx at e;split at e
 ·rename_i l i
  obtain⟨a,vs,ea,s,z⟩:=Is.tup_sq z1;obtain⟨e,m⟩:=yy5 e;obtain⟨v,hv,iv⟩:=wg5 z e;exact .inr (.inl ⟨a,vs,i,v,ea,Is.int_iff.mp z2,hK▸s,hv,q v H Ext.refl ok (New.imm m iv)⟩)
 ·rename_i l i
  obtain⟨a,vs,ea,n,s,z⟩:=Is.lst_iff.mp z1;obtain⟨e,m⟩:=yy5 e;obtain⟨v,hv,iv⟩:=wg5 z e;exact .inl ⟨a,vs,i,v,ea,Is.int_iff.mp z2,.of s,hv,q v H Ext.refl ok (New.imm m iv)⟩
 ·cases e
end
section
variable {X:Cx} {S:Type} {W:Wd S} {c:Dx W} {H H':Hp} {σ:St} {ρ:Rho} {st:S} {i:Nat} {d d':D} {a:Addr} {o:HO}
set_option tactic.hygienic true in
theorem xo3 (hi:ρ[i]?=some (.own d)) (b:Addr):Ow σ (ρ.set i (.own d')) b↔Ow σ ρ b:=by
 have hlt:i<ρ.length:=(Ae0.mp hi).1;constructor
 ·rintro ⟨j,e,h1,h2⟩
  rcases zb3 h1 with⟨m,_⟩ | ⟨_,z⟩
  ·subst m;exact⟨j,d,hi,h2⟩
  ·exact⟨j,e,z,h2⟩
 ·rintro ⟨j,e,h1,h2⟩
  by_cases m:j=i
  ·subst m;exact⟨j,d',Cd0 hlt,h2⟩
  ·exact⟨j,e,by rw[Az0 (Ne.symm m)];exact h1,h2⟩
set_option tactic.hygienic true in
theorem Rep.wr (R:Rep c H σ ρ) (hi:ρ[i]?=some (.own d)) (ha:σ[i]?=some (some (.ref a))) (ht:(∀u,o≠.tup u)/\∀ob u,o≠.frz ob u)
 (h:zi6 (Av c σ ρ) (Av c σ ρ) H (upd H a o)->Top c.K (Av c σ ρ) (upd H a o) d' a):Rep c (upd H a o) σ (ρ.set i (.own d'))/\Frm c H σ ρ (upd H a o) σ (ρ.set i (.own d')):=by
 have hlt:i<ρ.length:=(Ae0.mp hi).1;have wa:Ow σ ρ a:=⟨i,d,hi,ha⟩;obtain⟨nm,h0,o1,ho,n1,n2⟩:=R.owOk wa;have k:zi6 (Av c σ ρ) (Av c σ ρ) H (upd H a o):=zl0 (fun b u e t=>by
  have hb:b≠a:=fun z=>by
   subst z;rw[ho] at e;cases e;rcases t with⟨w,z⟩ | ⟨ob,w,z⟩
   ·exact n1 w z
   ·exact n2 ob w z
  rw[za9 hb];exact e) fun b u av e=>⟨av,by rw[za9 (fun (z:b=a)=>av.2.1 (z▸wa))];exact e⟩
 have avEq:Av c σ (ρ.set i (.own d'))=Av c σ ρ:=by
  funext b;unfold Av;rw[xo3 (σ:=σ) (d':=d') hi b]
 have T:=h k;refine⟨⟨by rw[Bh0];exact R.len,fun b u e n=>?_,fun j s hs=>?_,fun b hb=>?_,fun j j' b e e' h1 h2 h3 h4=>?_⟩,⟨fun b u e n w=>?_,fun b u e n w=>(xo3 hi b).mp w⟩⟩
 ·have hb:b≠a:=fun z=>by subst z;rw[show c.H0 b=none from h0] at e;cases e
  rw[za9 hb];exact R.frame b u e n
 ·rw[avEq]
  rcases zb3 hs with⟨m,z⟩ | ⟨nj,z⟩
  ·subst z m
   obtain⟨b,e1,n,f,t⟩:=R.slot j _ hi;rw[ha] at e1;have e1:some (V.ref a)=some (V.ref b):=e1;cases e1;exact⟨a,by rw[ha];rfl,n,f,T⟩
  ·have q:=R.slot j s z
   cases s with
   | no=>trivial
   | bor e=>obtain⟨v',e1,i1⟩:=q;exact⟨v',e1,i1.mono k⟩
   | own e=>
     obtain⟨b,e1,n,f,t⟩:=q;have hb:b≠a:=fun z'=>by
      subst z';exact nj (R.uniq j i b e d z hi (zj7 e1) ha)
     exact⟨b,e1,n,f,t.mono k fun u z=>by rw[za9 hb];exact z⟩
   | hnd=>exact q
 ·obtain⟨n,z,u,h',q⟩:=R.avl b hb
  have hba:b≠a:=fun z'=>by
   subst z';obtain⟨b',e1,n',_⟩:=R.slot i _ hi;rw[ha] at e1;have e1:some (V.ref b)=some (V.ref b'):=e1;cases e1;exact n'.2 hb
  exact⟨n,z,u,by rw[za9 hba];exact h',q⟩
 ·have fix:∀(j:Nat) (e:D),(ρ.set i (.own d'))[j]?=some (.own e)->∃e',ρ[j]?=some (.own e'):=fun j e h1=>by
   rcases zb3 h1 with⟨m,_⟩ | ⟨_,z⟩
   ·subst m;exact⟨d,hi⟩
   ·exact⟨e,z⟩
  obtain⟨x1,y1⟩:=fix j e h1;obtain⟨x2,y2⟩:=fix j' e' h2;exact R.uniq j j' b x1 x2 y1 y2 h3 h4
 ·have hb:b≠a:=fun z=>w (z▸wa)
  rw[za9 hb];exact e
noncomputable def zj1 (ρ:Rho) (i:Nat):Option (List D):=match ρ[i]? with
 | some (.own (.lst l))=>if D.immL l=true then some l else none
 | _=>none
theorem yf4 {l:List D} (h:zj1 ρ i=some l):ρ[i]?=some (.own (.lst l))/\D.immL l=true:=by
 unfold zj1 at h;split at h
 ·split at h
  ·cases h;exact⟨by assumption,by assumption⟩
  ·cases h
 ·cases h
theorem zt9 {l:List D} (h:zj1 ρ i=some l):ρ[i]?=some (.own (.lst l)):=(yf4 h).1
theorem Rep.lstAt {l:List D} (R:Rep c H σ ρ) (h:zj1 ρ i=some l):∃a vs,σ[i]?=some (some (.ref a))/\H a=some (.lst vs)/\IsL c.K (Av c σ ρ) H l vs/\¬W.mv a:=by
 obtain⟨a,e1,n,f,vs,e2,z⟩:=R.slot i _ (zt9 h);exact⟨a,vs,zj7 e1,e2,z,n.1⟩
theorem ya4 {a:Addr} {o:HO} (ok:W.ok st H) (n:¬W.mv a):W.ok st (upd H a o):=W.stay st H _ ok fun b u m e=>by rw[za9 (fun (z:b=a)=>n (z▸m))];exact e
noncomputable def sMt (S:Type) (i:Nat) (o:List D->D->Option (List D)) (f:Fn S):FnS S:=fun ρ st=>match zj1 ρ i with
 | some l=>(f ρ st).bind fun d st1=>(zk3 (o l d) st1).bind fun l' st2=>.ok (.nx (ρ.set i (.own (.lst l')))) st2
 | none=>.bad
noncomputable def MtD {S:Type} {W:Wd S} (c:Dx W) (r:V->List V->Hp->VK->Prop) (o:List D->D->Option (List D)):Prop:=∀l d l' a vs v H (Q:VK),o l d=some l'->H a=some (.lst vs)->IsL c.K (fun b=>¬W.mv b) H l vs->Is c.K (fun b=>¬W.mv b) H d v->
 (∀us,(D.immL l=true->D.immL l'=true/\IsL c.K (fun b=>¬W.mv b) H l' us)->Q .non (upd H a (.lst us)))->r (.ref a) [v] H Q
theorem yz2 {x m:Str} {id:String} {e:Expr} {f:Fn S} {p1 p2 p3 p4:Pos} {r:V->List V->Hp->VK->Prop} {o:List D->D->Option (List D)} (hm:MtR X id r) (ho:MtD c r o) (slot:Slot "list" m id) (hty:typeOf (.builtin id)=pure (.type "method_descriptor")) (hx:PE X (.Name x p1) (yh9 i)) (he:DE X c .R e f) (hK:c.K=X.K)
 (hbase:attributeBase (.Name x p1) m X.env (eval (.Name x p1) X.env)=eval (.Name x p1) X.env:=by rfl)
 (hfew:((backTo p3 (starEach [e] X.env)).all (fun x=>!x.1)&&(backToKw p3 (keywordEach [] X.env)).all (fun x=>x.1.isSome)
  && decide (([e]:List Expr).length+([]:List Keyword).length+(if ([]:List Keyword).isEmpty then 0 else 1)<30))=true:=by rfl)
 (hline:(p2.endLine == p3.line)=true:=by rfl) (hs:starEach [e] X.env=(false,eval e X.env)::starEach [] X.env:=by rfl) (hplain:(backTo p3 (starEach [] X.env)).any (·.1)=false:=by rfl) (hsw:swapsWith (.Call (.Attribute (.Name x p1) m p2) [e] [] p3) none p4.line X.env=pure false:=by rfl) :
 DS X c (.Expr (.Call (.Attribute (.Name x p1) m p2) [e] [] p3) p4) (sMt S i o f):=
 (xn4 (wv8 PySem.F.plainAttrs_list slot hty hm hx (zk7 he zs5 hs) hbase hfew hline hs hplain) hsw).imp fun D σ H hI29=>by
  obtain⟨ρ,st,R,ok,w⟩:=hI29;unfold sMt at w;cases q:zj1 ρ i with
  | none=>rw[q] at w;exact w.elim
  | some l=>
    rw[q] at w;obtain⟨a,vs,ea,eH,z,nm⟩:=R.lstAt q;refine⟨.ref a,ea,.inl ⟨rfl,vs,.of eH⟩,ρ,st,R,ok,za7 (za3.mp w) (fun d st1 q v H1 e ok1 zv=>?_) fun x st1 q H1 e ok1=>q H1 (e.f0 R) ok1⟩;obtain⟨l',e',q'⟩:=zb8.mp (za3.mp q);have R1:=R.ext ok e;have eH1:=e a _ eH nm;have kA:zi6 (Av c σ ρ) (fun b=>¬W.mv b) H1 H1:=⟨fun _ _ z _=>z,fun b o a z=>⟨a.1,z⟩⟩;refine ho l d l' a vs v H1 _ e' eH1 (IsL.mono kA (z.mono (e.keepT ok fun b a=>⟨a.1,a⟩))) zv fun us hus=>?_
    obtain⟨m',z'⟩:=hus (yf4 (by assumption)).2;obtain⟨R2,F2⟩:=R1.wr (d':=.lst l') (o:=.lst us) (zt9 (by assumption)) ea ⟨(fun u z=>by cases z),(fun ob u z=>by cases z)⟩ fun k=>⟨us,zb0,IsL.mono k (IsL.ofImm m' z')⟩
    exact q' σ _ (e.frm.trans F2) (ya4 ok1 nm) R2
noncomputable def vg0 (l:List D) (d:D):Option (List D):=if d.imm=true/\l.length<sizeLine then some (l++[d]) else none
noncomputable def vf9 (l:List D) (d:D):Option (List D):=match d with
 | .lst m=>if D.immL m=true/\l.length+m.length<=sizeLine then some (l++m) else none
 | _=>none
set_option tactic.hygienic true in
theorem zs8:MtD c xn3 vg0:=by
 intro l d l' a vs v H Q e eH z zv q;unfold vg0 at e;split at e
 ·rename_i h
  cases e;refine⟨a,vs,v,rfl,rfl,eH,by rw[<-z.length];exact h.2,q _ fun m=>⟨zh8 m (by simp[D.immL,h.1]),z.append (IsL.one zv)⟩⟩
 ·cases e
set_option tactic.hygienic true in
theorem yr8:MtD c xn2 vf9:=by
 intro l d l' a vs v H Q e eH z zv q;unfold vf9 at e;split at e
 ·rename_i n
  split at e
  ·rename_i h
   cases e;obtain⟨b,us,eb,nb,hb,zb⟩:=Is.lst_iff.mp zv;subst eb;refine⟨a,b,vs,us,rfl,rfl,eH,hb,by rw[<-z.length,<-zb.length];exact h.2,q _ fun m=>⟨zh8 m h.1,z.append zb⟩⟩
  ·cases e
 ·cases e
end
end L2
end
section
namespace L2
open PySem PySem.Spec PyProof.Rows
noncomputable def zo0 (N:List Str) (osc:Scope) (N':List Str) (ixs:List (Option Nat)) (scope:Scope):Bool:=
 decide (scope.kind=.function)&&scope.names.all (fun y=>decide (y.2≠.cell))&&scope.names.all (fun y=>decide (y.2=.local->scope.names.lookup y.1=some .local))&&decide (ixs.length=N'.length) &&
 scope.names.all (fun y=>decide (y.2=.free->osc.names.lookup y.1=some .cell\/osc.names.lookup y.1=some .free)) &&
 (List.range N'.length).all (fun j=>match N'[j]?,ixs[j]? with
  | some y,some (some i)=>decide (N[i]?=some y)&&decide (scope.names.lookup y=some .free)
  | _,_=>true)
theorem zo0.scope {X:Cx} {N:List Str} {osc:Scope} {N':List Str} {ixs:List (Option Nat)} {scope:Scope} (h:zo0 N osc N' ixs scope=true) (hN:X.N=N:=by rfl) (hS:X.env.scope=osc:=by rfl):zk2 X N' ixs scope:=by
 unfold zo0 at h;simp only[Bool.and_eq_true,decide_eq_true_eq,List.all_eq_true] at h;obtain⟨⟨⟨⟨⟨h1,h2⟩,h3⟩,h4⟩,h5⟩,h6⟩:=h;refine⟨h1,h2,h3,h4,fun y hy hf=>by rw[hS];exact h5 y hy hf,fun j i y e1 e2=>?_⟩;have hj:j<N'.length:=(Ae0.mp e1).1;have q:=h6 j (List.mem_range.mpr hj);rw[e1,e2] at q;simp only[Bool.and_eq_true,decide_eq_true_eq] at q;exact⟨by rw[hN];exact q.1,q.2⟩
end L2
end
section
namespace PySem
open AutoSeq1 (wpAny_loadPart')
set_option tactic.hygienic true in
theorem yi1 (l:Addr) (items:Array Value) (n:Nat) (dct:Option Addr) (sl:Array (Option Value)) :
 Meets (Builtin.«enumerate.__new__» ⟨[.type "enumerate",.ref l],[]⟩) (fun _ R s=>s.heap.get? l=some { cls:=.type "tuple",dict:=dct,data:=.seq items n,slots:=sl }/\
  R (.ok (.ret (.ref (s.heap.push { cls:=.type "tuple_iterator",data:=.fields #[.ref l,.int 0 0] }).objs.size)))
    { s with heap:=(s.heap.push { cls:=.type "tuple_iterator",data:=.fields #[.ref l,.int 0 0] }).push { cls:=.type "enumerate",data:=.fields #[.none,.bool false,.ref s.heap.objs.size,rawInt 0,.none,.none] } }):=
 .of_wp fun prog w A R s h=>by
  obtain⟨hp,g,d,tk,os⟩:=s;obtain⟨hl,h⟩:=h;have hsub:=sub_enumerate;have hT:Heap.IsTuple (Shared.heap ⟨hp,g,d,tk,os⟩) l items:=⟨_,hl,rfl,n,rfl⟩
  wp_walk using wpAny_loadPart' hl
  refine wpAny_stack_any fun st=>wpAny_pure ?_
  split
  ·rename_i c _ _ _ _ _
   cases (c == Value.type "enumerate")<;>(wp_walk using wpAny_loadPart' hl,wpAny_pyIter_tuple hT;exact⟨_,rfl,h⟩)
  ·(wp_walk using wpAny_loadPart' hl,wpAny_pyIter_tuple hT;exact⟨_,rfl,h⟩)
end PySem
end
section
namespace PySem
section
variable {prog:Program} {w:World} {A:Around} {E:Value->Shared->Prop} {s:Shared}
theorem yo1 {l:Addr} {items:Array Value} {Q:Value->Shared->Prop} (hL:s.heap.IsTuple l items)
 (h:∀h',IsEnum h' (s.heap.objs.size+1) s.heap.objs.size 0 .none->h'.IsTupleIter s.heap.objs.size l 0->(∀b o,s.heap.get? b=some o->h'.get? b=some o)->Q (.ref (s.heap.objs.size+1)) { s with heap:=h' }) :
 wpAny (model prog w) A (call (.type "enumerate") [.ref l]) Q E s:=by
 obtain⟨⟨c,dct,dt,sl⟩,hl,hc,n,hd⟩:=hL;have hc:c=.type "tuple":=hc;have hd:dt=.seq items n:=hd;subst hc hd;refine callType_new F.called_enumerate (by decide) (F.typeCall_enumerate_1 _) (F.newCall_enumerate_1 _) (fun obj=>F.args_object_init_2 obj _) F.entry_enumerate_new (yi1 l items n dct sl) ⟨hl,?_⟩;generalize hg:s.heap.push { cls:=.type "tuple_iterator",data:=.fields #[.ref l,.int 0 0] }=g;have hz:g.objs.size=s.heap.objs.size+1:=by rw[<-hg];exact Au0 ..
 have he:IsEnum (g.push { cls:=.type "enumerate",data:=.fields #[.none,.bool false,.ref s.heap.objs.size,rawInt 0,.none,.none] }) (s.heap.objs.size+1) s.heap.objs.size 0 .none:=by
  have:=Ad0 g (o:={ cls:=.type "enumerate",data:=.fields #[.none,.bool false,.ref s.heap.objs.size,rawInt 0,.none,.none] }) rfl;rw[hz] at this;exact this
 have hi:g.get? s.heap.objs.size=some { cls:=.type "tuple_iterator",data:=.fields #[.ref l,.int 0 0] }:=by rw[<-hg];exact Ad0 _ rfl
 show _/\_;rw[hz];exact⟨⟨_,he,rfl⟩,h _ he ⟨_,Aa0 _ hi,rfl,rfl⟩ fun b o x=>Aa0 _ (by rw[<-hg];exact Aa0 _ x)⟩
set_option tactic.hygienic true in
theorem zp2 {it l:Addr} {i:Nat} {items:Array Value} {x:Value} {Q:Value->Shared->Prop} (hit:s.heap.IsTupleIter it l i) (hl:s.heap.IsTuple l items) (hx:items[i]?=some x)
 (hQ:∀h',h'.IsTupleIter it l (i+1)->Heap.SameBut it s.heap h'->Q x { s with heap:=h' }):wpAny (model prog w) A (Builtin.SmallTypes.nextOf (.ref it)) Q E s:=by
 obtain⟨o,ho,hc,hd⟩:=id hit;obtain⟨ol,hol,_,nl,hdl⟩:=hl;unfold Builtin.SmallTypes.nextOf;refine wpAny_bind (wpAny_callSpecial?_slot (name:=Str.ofString "__next__") hit.typeIs F.slot_tuple_iterator_next (wpAny_call_entry F.slot_tuple_iterator_next hit.typeIs F.entry_tuple_iterator_next ?_ (F.args_tuple_iterator_next_1 _)));show wpAny _ _ (field (.ref it) 0 >>= fun _=>_) _ _ s;refine wpAny_bind (wpAny_field ho hd (x:=.ref l) rfl ?_);show wpAny _ _ (if (Value.ref l == Value.none)=true then _ else _) _ _ s;have nn:¬(Value.ref l == Value.none)=true:=Am0;rw[if_neg nn];refine wpAny_bind (m:=field (.ref it) 1) (wpAny_field ho hd (x:=.int i 0) rfl ?_);refine wpAny_bind (m:=seqItems? (.ref l)) (wpAny_seqItems hol hdl ?_);simp only[Bq0,hx];refine wpAny_bind (wpAny_setField ho hd (by simp) (wpAny_pure ⟨x,rfl,wpAny_pure (hQ _ ?_ (Heap.SameBut.update ..))⟩));refine⟨_,Cf0 _ ho (Obj.isFreed_of_fields (Obj.data_mapFields hd _)),(Obj.cls_mapFields ..).trans hc,?_⟩;rw[Obj.data_mapFields hd];simp[rawInt]
set_option tactic.hygienic true in
theorem zr5 {it l:Addr} {i:Nat} {items:Array Value} {Q:Value->Shared->Prop} (hh:A.handled=none) (hit:s.heap.IsTupleIter it l i) (hl:s.heap.IsTuple l items) (hx:items[i]?=none)
 (hE:∀h' e,Heap.ExtBut it s.heap h'->(∃o,h'.get? e=some o/\o.cls=.type "StopIteration")->E (.ref e) { s with heap:=h' }):wpAny (model prog w) A (Builtin.SmallTypes.nextOf (.ref it)) Q E s:=by
 obtain⟨o,ho,hc,hd⟩:=id hit;obtain⟨ol,hol,_,nl,hdl⟩:=hl;unfold Builtin.SmallTypes.nextOf;refine wpAny_bind (wpAny_callSpecial?_slot (name:=Str.ofString "__next__") hit.typeIs F.slot_tuple_iterator_next (wpAny_call_entry F.slot_tuple_iterator_next hit.typeIs F.entry_tuple_iterator_next ?_ (F.args_tuple_iterator_next_1 _)));show wpAny _ _ (field (.ref it) 0 >>= fun _=>_) _ _ s;refine wpAny_bind (wpAny_field ho hd (x:=.ref l) rfl ?_);show wpAny _ _ (if (Value.ref l == Value.none)=true then _ else _) _ _ s;have nn:¬(Value.ref l == Value.none)=true:=Am0;rw[if_neg nn];refine wpAny_bind (m:=field (.ref it) 1) (wpAny_field ho hd (x:=.int i 0) rfl ?_);refine wpAny_bind (m:=seqItems? (.ref l)) (wpAny_seqItems hol hdl ?_);simp only[Bq0,hx];refine wpAny_bind (wpAny_rule (wpAny_bind (wpAny_setField ho hd (by simp) ?_)));refine wpAny_bind (m:=newExc (.type "StopIteration") []) ?_;simp only[newExc,newTuple];refine wpAny_bind (wpAny_newObj_type ?_ (by size_fits));refine wpAny_bind (m:=firstArgMember _ _) (wpAny_of_eq (a:=Value.none) (by first | rfl | (simp only[firstArgMember];rfl)) ?_);refine wpAny_newObj_type ?_ (by size_fits);simp only[raiseNew];refine wpAny_bind (wpAny_handled ?_);first | rw[show A.in1.handled=none from hh] | rw[hh]
 exact wpAny_bind (wpAny_pure (wpAny_throw (hE _ _ (((Heap.SameBut.update ..).extBut.push _).push _) ⟨_,Ad0 _ rfl,rfl⟩)))
theorem xt1 {e it:Addr} {i:Nat} {x old:Value} {T:Heap->Prop} {Q:Value->Shared->Prop} (he:IsEnum s.heap e it i old) (hne:e≠it)
 (hT:∀h h',T h->(∀o,h.get? it=some o->h'.get? it=some o)->T h')
 (hnx:∀Q':Value->Shared->Prop,(∀h',T h'->Heap.SameBut it s.heap h'->Q' x { s with heap:=h' })->wpAny (model prog w) A (Builtin.SmallTypes.nextOf (.ref it)) Q' E s)
 (hQ:∀h',IsEnumOut h' e it ((i:Int)+1) x s.heap.objs.size->T h'->h'.get? s.heap.objs.size=some { cls:=.type "tuple",data:=.seq #[.int i s.toks,x] }->h'.objs.size=s.heap.objs.size+1->
  (∀b o,b≠e->b≠it->s.heap.get? b=some o->h'.get? b=some o)->Q (.ref s.heap.objs.size) { s with heap:=h',toks:=s.toks+1 }) :
 wpAny (model prog w) A (Builtin.«enumerate.__next__» ⟨[.ref e],[]⟩) (fun fin s'=>∃v,fin=.done (.ret v)/\Q v s') E s:=by
 obtain⟨hp,g,d,tk,os⟩:=s;refine wpAny_bind (m:=field (.ref e) 2) (wpAny_field he rfl (x:=.ref it) rfl ?_);refine wpAny_bind (hnx _ fun h₁ t₁ hs₁=>?_);have hs₁:Heap.SameBut it hp h₁:=hs₁;have he₁:IsEnum h₁ e it i old:=(hs₁.2 e hne).trans he;show wpAny _ _ (field (.ref e) 3 >>= fun _=>_) _ _ ⟨h₁,g,d,tk,os⟩;refine wpAny_bind (wpAny_field he₁ rfl (x:=rawInt i) rfl ?_);refine wpAny_bind (m:=field (.ref e) 4) (wpAny_field he₁ rfl (x:=.none) rfl ?_);refine wpAny_bind (m:=mkInt i) (wpAny_mkInt ?_);refine wpAny_bind (m:=setField (.ref e) 3 (rawInt ((i:Int)+1))) (wpAny_setField_rec he₁ (by simp) fun h₂ he₂ hs₂=>?_);have hs₂:Heap.SameBut e h₁ h₂:=hs₂;have he₂:IsEnum h₂ e it ((i:Int)+1) old:=he₂;refine wpAny_bind (m:=setField (.ref e) 4 .none) (wpAny_setField_rec he₂ (by simp) fun h₃ he₃ hs₃=>?_);have hs₃:Heap.SameBut e h₂ h₃:=hs₃;have he₃:IsEnum h₃ e it ((i:Int)+1) old:=he₃;refine wpAny_bind (m:=newTuple [.int i tk,x]) (wpAny_newTuple ?_);have he₄:IsEnum (h₃.push { cls:=.type "tuple",data:=.seq #[.int i tk,x] }) e it ((i:Int)+1) old:=Aa0 _ he₃;generalize hh₄:h₃.push { cls:=.type "tuple",data:=.seq #[.int i tk,x] }=h₄ at he₄;have hsz:h₃.objs.size=hp.objs.size:=by rw[hs₃.1,hs₂.1,hs₁.1]
 have hel:hp.objs.size≠e:=Nat.ne_of_gt (Heap.lt_size he);have ht₄:h₄.get? hp.objs.size=some { cls:=.type "tuple",data:=.seq #[.int i tk,x] }:=by rw[<-hh₄,<-hsz];exact Ad0 _ rfl
 have hz₄:h₄.objs.size=hp.objs.size+1:=by rw[<-hh₄,Au0,hsz]
 have up₄:∀b o,b≠e->h₁.get? b=some o->h₄.get? b=some o:=fun b o hb q=>by
  rw[<-hh₄];exact Aa0 _ (hs₃.extBut b o hb (hs₂.extBut b o hb q))
 show wpAny _ _ (Builtin.SmallTypes.ownedTupleIsFree (.ref e) >>= fun _=>_) _ _ ⟨h₄,g,d,tk+1,os⟩;rw[hsz];refine wpAny_bind ?_;unfold Builtin.SmallTypes.ownedTupleIsFree;refine wpAny_bind (wpAny_field he₄ rfl (x:=.none) rfl (wpAny_pure ?_));simp only[if_true];refine wpAny_bind (wpAny_rule (wpAny_bind (wpAny_field he₄ rfl (x:=old) rfl ?_)));refine wpAny_bind (wpAny_setField_rec he₄ (by simp) fun h₅ he₅ hs₅=>?_);have hs₅:Heap.SameBut e h₄ h₅:=hs₅;have he₅:IsEnum h₅ e it ((i:Int)+1) x:=he₅;show wpAny _ _ (Builtin.SmallTypes.ownedTupleHandOut (.ref e) (.ref hp.objs.size) >>= fun _=>_) _ _ ⟨h₅,g,d,tk+1,os⟩;refine wpAny_bind ?_;unfold Builtin.SmallTypes.ownedTupleHandOut;refine wpAny_bind (wpAny_setField_rec he₅ (by simp) fun h₆ he₆ hs₆=>?_);have hs₆:Heap.SameBut e h₅ h₆:=hs₆;have he₆:IsEnumOut h₆ e it ((i:Int)+1) x hp.objs.size:=he₆;refine wpAny_setField_rec he₆ (by simp) fun h₇ he₇ hs₇=>?_
 have hs₇:Heap.SameBut e h₆ h₇:=hs₇;have he₇:IsEnumOut h₇ e it ((i:Int)+1) x hp.objs.size:=he₇;have up₇:∀b o,b≠e->h₄.get? b=some o->h₇.get? b=some o:=fun b o hb q=>hs₇.extBut b o hb (hs₆.extBut b o hb (hs₅.extBut b o hb q))
 refine wpAny_bind (wpAny_letGo (wpAny_pure ⟨_,rfl,hQ h₇ he₇ (hT h₁ h₇ t₁ fun o q=>up₇ _ o (Ne.symm hne) (up₄ _ o (Ne.symm hne) q)) (up₇ _ _ hel ht₄) (by rw[hs₇.1,hs₆.1,hs₅.1,hz₄]) fun b o hb hi q=>up₇ b o hb (up₄ b o hb (hs₁.extBut b o hi q))⟩))
end
end PySem
end
section
namespace L2
open PySem PySem.Spec PyProof.Rows
section
variable {X:Cx} {pins:List (Addr×Obj)} {σ:St} {H:Hp} {s:Shared} {h':Heap}
theorem Inv.turnedT {fp:List Addr} {p:Addr} {vs:List V} {its:List Value} {t':Nat} (I:Inv X pins σ H s) (hf:∀b∈fp,yv4 X pins H b) (k:∀b o,b∉fp->s.heap.get? b=some o->h'.get? b=some o)
 (hp:s.heap.objs.size<=p) (hv:zf8 vs its) (hz:vs.length<=sizeLine) (ht:IsTup h' p its.toArray):Inv X pins σ (upd H p (.tup vs)) { s with heap:=h',toks:=t' }:=by
 have hn:H p=none:=I.hok.fresh hp;have nfp:∀b u,H b=some u->b∉fp:=fun b u e z=>by rw[(hf b z).1] at e;cases e
 have old:∀b u,H b=some u->upd H p (.tup vs) b=some u:=fun b u e=>by rw[za9 (zb7 e hn)];exact e
 refine I.step (g':=s.gens) (d':=s.drawn) (t':=t') (ch:=fp) (fun b hb=>⟨(hf b hb).2.2.2.1,(hf b hb).2.1,(hf b hb).2.2.2.2.1,(hf b hb).2.2.2.2.2⟩) (fun b o _ _ hc e _=>k b o hc e) (fun b o _ _ hc e _=>⟨o.slots,k b o hc e⟩)
  (fun b o _ e n=>by rw[za9 (Ar0 (At0 (Heap.lt_size e) hp))];exact n) (fun b o hc e=>⟨o,k b o hc e⟩) (fun b xs e=>old b _ e) (fun b o u e=>old b _ e) (fun b ps e=>⟨#[],by rw[old b _ e];simp⟩) (fun m hm=>?_) (fun b u e=>?_) I.bare
 ·obtain⟨o,es,ep,ho,r⟩:=hm
  exact⟨o,es,ep,k _ o (fun z=>(hf _ z).2.1 rfl) ho,r⟩
 ·by_cases hb:b=p
  ·subst hb
   rw[zb0] at e;cases e;exact⟨hz,its,hv,ht⟩
  ·rw[za9 hb] at e
   refine(I.hok b u e).stay (fun d v hd q=>k d v ?_ q) (fun d q=>old d _ q) fun d xs q=>old d _ q
   rcases hd with z | z
   ·rw[z];exact nfp b u e
   ·exact nfp d _ z
theorem Inv.turnedF {fp:List Addr} {t':Nat} (I:Inv X pins σ H s) (hf:∀b∈fp,yv4 X pins H b) (k:∀b o,b∉fp->s.heap.get? b=some o->h'.get? b=some o):Inv X pins σ H { s with heap:=h',toks:=t' }:=by
 have nfp:∀b u,H b=some u->b∉fp:=fun b u e z=>by rw[(hf b z).1] at e;cases e
 refine I.step (g':=s.gens) (d':=s.drawn) (t':=t') (ch:=fp) (fun b hb=>⟨(hf b hb).2.2.2.1,(hf b hb).2.1,(hf b hb).2.2.2.2.1,(hf b hb).2.2.2.2.2⟩) (fun b o _ _ hc e _=>k b o hc e) (fun b o _ _ hc e _=>⟨o.slots,k b o hc e⟩)
  (fun b o _ e n=>n) (fun b o hc e=>⟨o,k b o hc e⟩) (fun b xs e=>e) (fun b o u e=>e) (fun b ps e=>⟨#[],by rw[e];simp⟩) (fun m hm=>?_) (fun b u e=>?_) I.bare
 ·obtain⟨o,es,ep,ho,r⟩:=hm
  exact⟨o,es,ep,k _ o (fun z=>(hf _ z).2.1 rfl) ho,r⟩
 ·refine(I.hok b u e).stay (fun d v hd q=>k d v ?_ q) (fun d q=>q) fun d xs q=>q
  rcases hd with z | z
  ·rw[z];exact nfp b u e
  ·exact nfp d _ z
end
noncomputable def Ien (Sq:Hp->List V->Prop):It:=
 ⟨fun i H=>∃xs x,Sq H xs/\xs[i]?=some x,fun i H v H'=>∃p x,H p=none/\v=.ref p/\H'=upd H p (.tup [.int i,x])/\∀xs,Sq H xs->xs[i]?=some x,fun i H=>∃xs,Sq H xs/\xs.length<=i⟩
set_option tactic.hygienic true in
theorem xg7 {P:Program} {w:World} {K:PySem.W.Frag} {elts:List Expr} {x1} {pos:Pos} (a e it:Addr):wr0 P w K (.Tuple elts x1 pos) (Ien fun H xs=>SqT K H a xs) [e,it] e (fun i h=>e≠it/\(∃old,IsEnum h e it i old)/\h.IsTupleIter it a i) where
 mem:=by simp
 obj:=fun i h st b hb=>by
  obtain⟨hne,⟨old,he⟩,o,ho,c,d⟩:=st;rcases Ah0.mp hb with z | hb
  ·subst z
   exact⟨_,he,fun v z=>by
    have z':Data.fields _=Data.cell v:=z;cases z'⟩
  ·have z:b=it:=by simpa using hb
   subst z;exact⟨o,ho,fun v z=>by rw[d] at z;cases z⟩
 keep:=fun i h h' st k=>by
  obtain⟨hne,⟨old,he⟩,hi⟩:=st;exact⟨hne,⟨old,k e (by simp) _ he⟩,hi.at fun o q=>k it (by simp) o q⟩
 item:=by
  intro X hP hw hK hc i pins s σ H E I hf st hg;subst hP hw hK;obtain⟨xs,x,hq,hx⟩:=hg;obtain⟨hne,⟨old,he⟩,hi⟩:=st;obtain⟨its,rv,p,hz⟩:=I.tuple hq;obtain⟨u,hu,ru⟩:=rv.get hx;have pT:s.heap.IsTuple a its.toArray:=p;have hT:s.TypeIs (.ref e) "enumerate":=⟨_,he,rfl⟩;unfold pyNext;refine wpAny_bind (wpAny_attempt (wpAny_callSpecial?_slot (name:=Str.ofString "__next__") hT F.slot_enumerate_next (wpAny_call_entry F.slot_enumerate_next hT F.entry_enumerate_next (xt1 (T:=fun h=>h.IsTupleIter it a (i+1)) he hne (fun h h' t q=>t.at q) (fun Q' hQ'=>zp2 hi pT (x:=u) (by simpa using hu) hQ') fun h' ho hi' ht hs kk=>wpAny_pure ?_) (F.args_enumerate_next_1 _))));refine⟨_,rfl,wpAny_letOwnedTupleGo_enum (s:={ s with heap:=h',toks:=s.toks+1 }) ho fun h2 he2 sb2=>?_⟩;have sb2:Heap.SameBut e h' h2:=sb2;have pe:s.heap.objs.size≠e:=Nat.ne_of_gt (Heap.lt_size he);have k2:∀b o,b∉[e,it]->s.heap.get? b=some o->h2.get? b=some o:=fun b o hb q=>by
   have h1:b≠e:=fun z=>hb (by simp[z])
   have h3:b≠it:=fun z=>hb (by simp[z])
   exact sb2.extBut b o h1 (kk b o h1 h3 q)
  have tt:IsTup h2 s.heap.objs.size [Value.int i s.toks,u].toArray:=⟨_,sb2.extBut _ _ pe ht,rfl,_,rfl⟩;have nn:∀b∈[e,it],b≠s.heap.objs.size:=fun b hb z=>by
   obtain⟨o1,ho1,_⟩:=id hi;rcases Ah0.mp hb with y | y
   ·exact pe (by rw[<-z,y])
   ·have y:b=it:=by simpa using y
    rw[z] at y;rw[<-y] at ho1;exact absurd (Heap.lt_size ho1) (Bn0 _)
  refine⟨.ref s.heap.objs.size,_,I.turnedT (p:=s.heap.objs.size) (vs:=[.int i,x]) hf k2 (Ac0 _) (.cons ⟨_,rfl⟩ (.cons ru .nil)) (by show 2<=sizeLine;decide) tt,rfl,⟨_,x,I.hok.fresh (Ac0 _),rfl,rfl,fun ys hy=>by rw[I.tuple_inj hy hq];exact hx⟩,⟨hne,⟨u,?_⟩,?_⟩,fun b hb=>?_⟩
  ·have:((i+1:Nat):Int)=(i:Int)+1:=by omega
   rw[this];exact he2
  ·exact hi'.extBut sb2.extBut (Ne.symm hne)
  ·rw[za9 (nn b hb)];exact(hf b hb).1
 done:=by
  intro X hP hw hK hc i pins s σ H E I hf st hg;subst hP hw hK;obtain⟨xs,hq,hx⟩:=hg;obtain⟨hne,⟨old,he⟩,hi⟩:=st;obtain⟨its,rv,p,hz⟩:=I.tuple hq;have pT:s.heap.IsTuple a its.toArray:=p;have hl:=rv.length;have hT:s.TypeIs (.ref e) "enumerate":=⟨_,he,rfl⟩;unfold pyNext;refine wpAny_bind (wpAny_attempt (wpAny_callSpecial?_slot (name:=Str.ofString "__next__") hT F.slot_enumerate_next (wpAny_call_entry F.slot_enumerate_next hT F.entry_enumerate_next ?_ (F.args_enumerate_next_1 _))));refine wpAny_bind (m:=field (.ref e) 2) (wpAny_field he rfl (x:=.ref it) rfl ?_);refine wpAny_bind (zr5 (I.ok.hd hc) hi pT (by simp;omega) fun h' x he' hx'=>?_);obtain⟨o,ho,hcls⟩:=hx';refine wpAny_bind (wpAny_isInstance (T:="StopIteration") (b:=true) ⟨o,ho,hcls⟩ isSubtype_stop (wpAny_pure ⟨rfl,I.turnedF hf fun b o hb q=>he' b o (fun z=>hb (by simp[z])) q⟩))
 self:=fun _ _ _ _ _ st h=>let ⟨_,⟨_,he⟩,_⟩:=st;wpAny_pyIter_enum he h
end L2
end
section
namespace L2
open PySem PySem.Spec PyProof.Rows
section
variable {X:Cx} {elts:List Expr} {x1:Nat} {tpos:Pos}
noncomputable def vm8 (K:PySem.W.Frag) (ta:TA):TI:=fun σ H R=>ta σ H fun vs H1=>∃a xs,vs=[.ref a]/\SqT K H1 a xs/\R (Ien fun H xs=>SqT K H a xs) H1
theorem xy6 {a:Expr} {ta:TA} {p pos:Pos} (hg:Gl X "enumerate") (hm:X.mg "enumerate" = none) (ha:PA X [a] ta) (hs:starEach [a] X.env=[(false,eval a X.env)]:=by rfl):PI X (.Tuple elts x1 tpos) (.Call (.Name "enumerate" p) [a] [] pos) (vm8 X.K ta):=by
 intro pins s σ H R I h;refine Call_ (yf5 I hg hm boot_enumerate (PyProof.Rows.callWith_type1 (thn (ha pos pins s σ H _ I h) fun us s1 hI99=>?_) hs rfl));obtain⟨vs,H1,I1,r1,q1⟩:=hI99;obtain⟨l,xs,rfl,hq,q⟩:=q1;cases r1 with
 | cons r rr=>
   cases rr;cases r;obtain⟨its,rv,pt,hz⟩:=I1.tuple hq;refine yo1 (show s1.heap.IsTuple l its.toArray from pt) fun h' he hi kk=>?_
   refine wpAny_pyIter_enum (s:={ s1 with heap:=h' }) he ?_;refine⟨s1.heap.objs.size+1,[s1.heap.objs.size+1,s1.heap.objs.size],_,_,H1,rfl,I1.kept (t':=s1.toks) kk,xg7 l _ _,⟨Nat.succ_ne_self _,⟨_,he⟩,hi⟩,fun b hb=>?_,q⟩;have hb:s1.heap.objs.size<=b:=by
    rcases Ah0.mp hb with z | z
    ·rw[z];exact Nat.le_succ _
    ·have z:b=s1.heap.objs.size:=by simpa using z
     exact Nat.le_of_eq z.symm
   exact I1.fpOk hb (I1.hok.fresh hb)
variable {S:Type} {W:Wd S} {c:Dx W}
noncomputable def zk9 (l:List D):List D:=(l.zipIdx).map fun p=>.tup [.int p.2,p.1]
noncomputable def xp5:List D->Option (List D)
 | [.tup l]=>if D.immL l=true then some (zk9 l) else none
 | _=>none
theorem zn3 {l:List D} {i:Nat} {d:D} (h:(zk9 l)[i]?=some d):∃x,l[i]?=some x/\d=.tup [.int i,x]:=by
 unfold zk9 at h;rw[Ai0,List.getElem?_zipIdx] at h;cases q:l[i]? with
 | none=>rw[q] at h;cases h
 | some x=>rw[q] at h;cases h;exact⟨x,rfl,by simp⟩
theorem zj6 (l:List D):(zk9 l).length=l.length:=by unfold zk9;rw[Ab0,List.length_zipIdx]
theorem xd6:∀{l:List D} {i:Nat} {d:D},D.immL l=true->l[i]?=some d->d.imm=true
 | [],_,_,_,h=>by simp at h
 | x::l,0,d,m,h=>by
   have m':x.imm=true/\D.immL l=true:=by simpa [D.immL] using m
   simp at h;subst h;exact m'.1
 | x::l,i+1,d,m,h=>by
   have m':x.imm=true/\D.immL l=true:=by simpa [D.immL] using m
   exact xd6 (i:=i) m'.2 (by simpa using h)
set_option tactic.hygienic true in
theorem yz5 {a:Expr} {f:FnA S} {p pos:Pos} (hK:c.K=X.K) (hg:Gl X "enumerate") (hm:X.mg "enumerate" = none) (ha:DA X c [a] f) (hs:starEach [a] X.env=[(false,eval a X.env)]:=by rfl):DI X c (.Tuple elts x1 tpos) (.Call (.Name "enumerate" p) [a] [] pos) (xi5 S xp5 f):=
 (xy6 hg hm ha hs).imp fun σ H R hI30=>by
  obtain⟨ρ,st,R0,ok,w⟩:=hI30;refine⟨ρ,st,R0,ok,za7 (za3.mp w) (fun l st1 q vs H1 e ok1 z=>?_) fun x st1 q=>q⟩;obtain⟨m,e1,q⟩:=zb8.mp q;unfold xp5 at e1;split at e1
  ·rename_i l
   split at e1
   ·rename_i im
    cases e1;obtain⟨v,r,e2,i2,i3⟩:=IsL.cons.mp z;obtain⟨a,xs,ea,s0,i⟩:=Is.tup_iff.mp i2;have s:SqT c.K H1 a xs:=.of s0;rw[IsL.nil.mp i3,ea] at e2;refine⟨a,xs,e2,hK▸s,q _ H1 e ok1 ?_⟩;intro c' hK' σ2 ρ2 H2 st2 k R2 ok2 j;have s2:SqT X.K H2 a xs:=by rw[<-hK];exact .of (k.tup a xs s0)
    have i1:IsL c.K (Av c σ ρ) H1 l xs:=IsL.ofImm im i;have i2:IsL c.K (Av c' σ2 ρ2) H2 l xs:=i1.mono k;refine⟨fun d hd=>?_,fun hl=>⟨xs,s2,by rw[zj6] at hl;rw[<-i2.length];exact hl⟩⟩;obtain⟨y,hy,rfl⟩:=zn3 hd;obtain⟨v1,hv,iv⟩:=i2.get hy;refine⟨⟨xs,v1,s2,hv⟩,?_⟩;rintro x H3 ⟨pp,x',hpn,rfl,rfl,hx⟩;have:=hx xs s2;rw[hv] at this;cases this;have sm:yv3 H2 (upd H2 pp (.tup [.int j,v1])):=fun b o hb=>by rw[za9 (zb7 hb hpn)];exact hb
    refine⟨sm,Is.tup zb0 (IsL.cons.mpr ⟨_,_,rfl,Is.int_iff.mpr rfl,IsL.one ?_⟩)⟩;exact Is.ofImm (xd6 im hy) (iv.mono (A':=Av c' σ2 ρ2) (zl0 (fun b o hb _=>sm b o hb) fun b o a hb=>⟨a,sm b o hb⟩))
   ·cases e1
  ·cases e1
end
end L2
end
section
namespace L2
open PySem PySem.Spec PyProof.Rows
section
variable {X:Cx}
theorem zs2 {bs:List Bool}:(List.range bs.length).all (fun i=>bs.getD i false)=bs.all id:=by
 apply Bool.eq_iff_iff.mpr;simp only[List.all_eq_true,List.mem_range,id];constructor
 ·intro h b hb
  obtain⟨i,hi,e⟩:=List.mem_iff_getElem.mp hb;have:=h i hi;rw[Bu0,Ag0 hi] at this;rw[<-e];exact this
 ·intro h i hi
  rw[Bu0,Ag0 hi];exact h _ (List.getElem_mem hi)
theorem xn1 {bs:List Bool}:(List.range bs.length).any (fun i=>bs.getD i false)=bs.any id:=by
 apply Bool.eq_iff_iff.mpr;simp only[List.any_eq_true,List.mem_range,id];constructor
 ·rintro ⟨i,hi,h⟩
  rw[Bu0,Ag0 hi] at h;exact⟨_,List.getElem_mem hi,h⟩
 ·rintro ⟨b,hb,h⟩
  obtain⟨i,hi,e⟩:=List.mem_iff_getElem.mp hb;refine⟨i,hi,?_⟩;rw[Bu0,Ag0 hi,e];exact h
theorem xf0 {bs:List Bool} {its:List Value} (r:zf8 (bs.map V.bl) its) {i:Nat} {v:Value} (h:its.toArray[i]?=some v):v=.bool (bs.getD i false):=by
 have hi:i<its.length:=by
  have:=(Array.getElem?_eq_some_iff.mp h).1;simpa using this
 have hl:=r.length;rw[Ab0] at hl;have hb:i<bs.length:=by omega
 obtain⟨u,hu,ru⟩:=r.get (i:=i) (x:=.bl bs[i]) (by rw[Ai0,Ag0 hb];rfl);have:its[i]?=some v:=by simpa using h
 rw[hu] at this;cases this;rw[Bu0,Ag0 hb];exact ru
theorem yo2 (hc:X.calm=true):zw9 X (.builtin "all") (fun xs H Q=>∃(a:Addr) (bs:List Bool),xs=[.ref a]/\SqL X.K H a (bs.map V.bl)/\Q (.bl (bs.all id)) H):=by
 intro pins s σ H xs us Q I r h;obtain⟨a,bs,rfl,hq,q⟩:=h;obtain⟨u,rfl,r1⟩:=yh8 r;cases r1;obtain⟨its,rv,p,hz⟩:=I.list hq;have hh:X.A.in1.handled=none:=I.ok.hd hc;have lt:a<s.heap.objs.size:=by obtain⟨o,e,_⟩:=p.isList;exact Heap.lt_size e
 refine call_all_walk (wpAny_pyIter_list p.isList ⟨_,_,_,_,_,_,fun i=>bs.getD i false,rfl,Walks.list hh s.heap.objs.size a (Ar0 lt) its.toArray,⟨⟨_,Ad0 _ rfl,rfl,rfl⟩,p.isList.push _⟩,?_,?_⟩)
 ·intro i v Q' E' s' hP hQ
  rw[xf0 rv hP];exact wpAny_truthy_bool hQ
 ·intro h' tk hk
  have e:(List.range its.toArray.size).all (fun i=>bs.getD i false)=bs.all id:=by
   have hl:=rv.length;rw[Ab0] at hl;rw[Af0,<-hl,zs2]
  rw[e];refine⟨.bl _,H,?_,rfl,q⟩;refine I.kept (t':=tk) fun b o e=>hk b o (fun z=>?_) (Aa0 _ e)
  have z:b=s.heap.objs.size:=by simpa using z
  have lt:=Heap.lt_size e;rw[z] at lt;exact Bn0 _ lt
theorem wc6 (hc:X.calm=true):zw9 X (.builtin "any") (fun xs H Q=>∃(a:Addr) (bs:List Bool),xs=[.ref a]/\SqL X.K H a (bs.map V.bl)/\Q (.bl (bs.any id)) H):=by
 intro pins s σ H xs us Q I r h;obtain⟨a,bs,rfl,hq,q⟩:=h;obtain⟨u,rfl,r1⟩:=yh8 r;cases r1;obtain⟨its,rv,p,hz⟩:=I.list hq;have hh:X.A.in1.handled=none:=I.ok.hd hc;have lt:a<s.heap.objs.size:=by obtain⟨o,e,_⟩:=p.isList;exact Heap.lt_size e
 refine call_any_walk (wpAny_pyIter_list p.isList ⟨_,_,_,_,_,_,fun i=>bs.getD i false,rfl,Walks.list hh s.heap.objs.size a (Ar0 lt) its.toArray,⟨⟨_,Ad0 _ rfl,rfl,rfl⟩,p.isList.push _⟩,?_,?_⟩)
 ·intro i v Q' E' s' hP hQ
  rw[xf0 rv hP];exact wpAny_truthy_bool hQ
 ·intro h' tk hk
  have e:(List.range its.toArray.size).any (fun i=>bs.getD i false)=bs.any id:=by
   have hl:=rv.length;rw[Ab0] at hl;rw[Af0,<-hl,xn1]
  rw[e];refine⟨.bl _,H,?_,rfl,q⟩;refine I.kept (t':=tk) fun b o e=>hk b o (fun z=>?_) (Aa0 _ e)
  have z:b=s.heap.objs.size:=by simpa using z
  have lt:=Heap.lt_size e;rw[z] at lt;exact Bn0 _ lt
end
end L2
end
section
namespace L2
open PySem PySem.Spec PyProof.Rows
open PySem.SeqAt
mutual
noncomputable def D.eqq:D->D->Option Bool
 | .int i,.int j=>some (i == j)
 | .str i,.str j=>some (i == j)
 | .bl i,.bl j=>some (i == j)
 | .non,.non=>some true
 | .tup l,.tup m=>D.eqL l m
 | .lst l,.lst m=>if l.length=m.length then D.eqL l m else some false
 | _,_=>none
noncomputable def D.eqL:List D->List D->Option Bool
 | [],[]=>some true
 | [],_::_=>some false
 | _::_,[]=>some false
 | a::l,b::m=>(D.eqq a b).bind fun x=>(D.eqL l m).map fun y=>x&&y
end
mutual
noncomputable def D.dep:D->Nat
 | .tup l=>D.depL l+1
 | .lst l=>D.depL l+1
 | _=>0
noncomputable def D.depL:List D->Nat
 | []=>0
 | d::l=>max (D.dep d) (D.depL l)
end
section
variable {X:Cx} {pins:List (Addr×Obj)} {σ:St} {H:Hp} {s:Shared} {A1 A2:Addr->Prop}
mutual
theorem yn3 (I:Inv X pins σ H s):∀{d1 d2:D} {v:V} {b:Bool},Is X.K A1 H d1 v->Is X.K A2 H d2 v->D.eqq d1 d2=some b->b=true
 | .int i,d2,v,b,h1,h2,e=>by
   rw[Is.int_iff.mp h1] at h2;cases d2 with
   | int j=>have:=Is.int_iff.mp h2;cases this;unfold D.eqq at e;simpa using e.symm
   | _=>unfold D.eqq at e;cases e
 | .str i,d2,v,b,h1,h2,e=>by
   rw[Is.str_iff.mp h1] at h2;cases d2 with
   | str j=>have:=Is.str_iff.mp h2;cases this;unfold D.eqq at e;simpa using e.symm
   | _=>unfold D.eqq at e;cases e
 | .bl i,d2,v,b,h1,h2,e=>by
   rw[Is.bl_iff.mp h1] at h2;cases d2 with
   | bl j=>have:=Is.bl_iff.mp h2;cases this;unfold D.eqq at e;simpa using e.symm
   | _=>unfold D.eqq at e;cases e
 | .non,d2,v,b,h1,h2,e=>by
   cases d2 with
   | non=>unfold D.eqq at e;simpa using e.symm
   | _=>unfold D.eqq at e;cases e
 | .tup l,d2,v,b,h1,h2,e=>by
   cases d2 with
   | tup m=>
     obtain⟨a,vs,ea,s1,i1⟩:=Is.tup_sq h1;obtain⟨a',us,ea',s2,i2⟩:=Is.tup_sq h2;rw[ea] at ea';cases ea';have:=I.tuple_inj s1 s2;subst this;unfold D.eqq at e;exact yn4 I i1 i2 e
   | _=>unfold D.eqq at e;cases e
 | .lst l,d2,v,b,h1,h2,e=>by
   cases d2 with
   | lst m=>
     obtain⟨a,vs,ea,_,s1,i1⟩:=Is.lst_iff.mp h1;obtain⟨a',us,ea',_,s2,i2⟩:=Is.lst_iff.mp h2;rw[ea] at ea';cases ea';have:vs=us:=by rw[s1] at s2;cases s2;rfl
     subst this;unfold D.eqq at e;have hl:l.length=m.length:=by rw[i1.length,i2.length]
     rw[if_pos hl] at e;exact yn4 I i1 i2 e
   | _=>unfold D.eqq at e;cases e
 | .dct _ _,d2,v,b,h1,h2,e=>by cases d2<;>(unfold D.eqq at e;cases e)
 | .fl _,d2,v,b,h1,h2,e=>by cases d2<;>(unfold D.eqq at e;cases e)
theorem yn4 (I:Inv X pins σ H s):∀{l m:List D} {vs:List V} {b:Bool},IsL X.K A1 H l vs->IsL X.K A2 H m vs->D.eqL l m=some b->b=true
 | [],m,vs,b,h1,h2,e=>by
   rw[IsL.nil.mp h1] at h2;cases m with
   | nil=>unfold D.eqL at e;simpa using e.symm
   | cons x r=>obtain⟨_,_,z,_⟩:=IsL.cons.mp h2;cases z
 | d::l,m,vs,b,h1,h2,e=>by
   obtain⟨v,r,ev,i1,j1⟩:=IsL.cons.mp h1;subst ev;cases m with
   | nil=>have:=IsL.nil.mp h2;cases this
   | cons x m=>
     obtain⟨v',r',ev',i2,j2⟩:=IsL.cons.mp h2;cases ev';unfold D.eqL at e;cases q1:D.eqq d x with
     | none=>rw[q1] at e;cases e
     | some b1=>
       cases q2:D.eqL l m with
       | none=>rw[q1,q2] at e;cases e
       | some b2=>
         rw[q1,q2] at e;have e:some (b1&&b2)=some b:=e;cases e;rw[yn3 I i1 i2 q1,yn4 I j1 j2 q2];rfl
end
noncomputable def yb7:List D->List D->List Bool
 | a::l,b::m=>((D.eqq a b).getD false)::yb7 l m
 | _,_=>[]
theorem zm9:∀(l m:List D),(yb7 l m).length=min l.length m.length
 | [],m=>by cases m<;>simp[yb7]
 | a::l,[]=>by simp[yb7]
 | a::l,b::m=>by simp[yb7,zm9 l m]
theorem yg5:∀{l m:List D} {b:Bool},D.eqL l m=some b->b=((yb7 l m).all id&&l.length == m.length)
 | [],[],b,e=>by unfold D.eqL at e;simpa [yb7] using e.symm
 | [],_::_,b,e=>by unfold D.eqL at e;simpa [yb7] using e.symm
 | _::_,[],b,e=>by unfold D.eqL at e;simpa [yb7] using e.symm
 | a::l,x::m,b,e=>by
   unfold D.eqL at e;cases q1:D.eqq a x with
   | none=>rw[q1] at e;cases e
   | some b1=>
     cases q2:D.eqL l m with
     | none=>rw[q1,q2] at e;cases e
     | some b2=>
       rw[q1,q2] at e;have e:some (b1&&b2)=some b:=e;cases e;rw[yg5 q2];simp[yb7,q1,Bool.and_assoc]
theorem xe0:∀{l m:List D} {b:Bool} {j:Nat} {x y:D},D.eqL l m=some b->l[j]?=some x->m[j]?=some y->D.eqq x y=some ((yb7 l m).getD j false)
 | [],_,_,_,_,_,_,h,_=>by simp at h
 | _::_,[],_,_,_,_,_,_,h=>by simp at h
 | a::l,c::m,b,j,x,y,e,h1,h2=>by
   unfold D.eqL at e;cases q1:D.eqq a c with
   | none=>rw[q1] at e;cases e
   | some b1=>
     cases q2:D.eqL l m with
     | none=>rw[q1,q2] at e;cases e
     | some b2=>
       cases j with
       | zero=>simp at h1 h2;subst h1 h2;simp[yb7,q1]
       | succ j=>
         have:=xe0 (j:=j) q2 (by simpa using h1) (by simpa using h2);simpa [yb7] using this
theorem yn8:∀{l:List D} {j:Nat} {x:D},l[j]?=some x->x.dep<=D.depL l
 | [],_,_,h=>by simp at h
 | a::l,0,x,h=>by simp at h;subst h;unfold D.depL;omega
 | a::l,j+1,x,h=>by
   have:=yn8 (j:=j) (l:=l) (x:=x) (by simpa using h);unfold D.depL;omega
noncomputable def D.plain:D->Bool
 | .tup _=>false
 | .lst _=>false
 | .dct _ _=>false
 | .fl _=>false
 | _=>true
theorem yk3 {A:Around} {d1 d2:D} {b:Bool} {v1 v2:V} {u1 u2:Value} (hp:d1.plain=true) (e:D.eqq d1 d2=some b) (h1:Is X.K A1 H d1 v1) (h2:Is X.K A2 H d2 v2) (r1:zf0 v1 u1) (r2:zf0 v2 u2):EqAt A s u1 u2 b:=by
 cases d1 with
 | int i=>
   cases d2 with
   | int j=>
     have z1:=Is.int_iff.mp h1;have z2:=Is.int_iff.mp h2;subst z1 z2;obtain⟨t,rfl⟩:=r1;obtain⟨t',rfl⟩:=r2;unfold D.eqq at e;cases e;exact EqAt.int_int i t j t'
   | _=>unfold D.eqq at e;cases e
 | str i=>
   cases d2 with
   | str j=>
     have z1:=Is.str_iff.mp h1;have z2:=Is.str_iff.mp h2;subst z1 z2;obtain⟨t,rfl⟩:=r1;obtain⟨t',rfl⟩:=r2;unfold D.eqq at e;cases e;exact EqAt.str_str i t j t'
   | _=>unfold D.eqq at e;cases e
 | bl i=>
   cases d2 with
   | bl j=>
     have z1:=Is.bl_iff.mp h1;have z2:=Is.bl_iff.mp h2;subst z1 z2;cases r1;cases r2;unfold D.eqq at e;cases e;exact EqAt.bool_bool i j
   | _=>unfold D.eqq at e;cases e
 | non=>
   cases d2 with
   | non=>
     have z1:=Is.non_iff.mp h1;have z2:=Is.non_iff.mp h2;subst z1 z2;cases r1;cases r2;unfold D.eqq at e;cases e;exact EqAt.same _
   | _=>unfold D.eqq at e;cases e
 | tup l=>simp[D.plain] at hp
 | lst l=>simp[D.plain] at hp
 | dct _ _=>simp[D.plain] at hp
 | fl _=>simp[D.plain] at hp
theorem zm3 {A:Around} {n:Nat} {l m:List D} {vs us:List V} {its its2:List Value} {b:Bool} (e:D.eqL l m=some b) (i1:IsL X.K A1 H l vs) (i2:IsL X.K A2 H m us) (rv:zf8 vs its) (rv2:zf8 us its2)
 (ih:∀{d1 d2:D} {b:Bool} {v1 v2:V} {u1 u2:Value},d1.dep<=n->D.eqq d1 d2=some b->Is X.K A1 H d1 v1->Is X.K A2 H d2 v2->zf0 v1 u1->zf0 v2 u2->EqAt A s u1 u2 b) (hd:D.depL l<=n)
 (j:Nat) (h1:j<its.toArray.size) (h2:j<its2.toArray.size):EqAt A s its.toArray[j] its2.toArray[j] ((yb7 l m).getD j false):=by
 have h1':j<its.length:=by simpa using h1
 have h2':j<its2.length:=by simpa using h2
 have g1:j<l.length:=by rw[i1.length,rv.length];exact h1'
 have g2:j<m.length:=by rw[i2.length,rv2.length];exact h2'
 have x1:l[j]?=some l[j]:=Ag0 g1;have x2:m[j]?=some m[j]:=Ag0 g2;obtain⟨v1,hv1,z1⟩:=i1.get x1;obtain⟨v2,hv2,z2⟩:=i2.get x2;obtain⟨w1,hw1,r1⟩:=rv.get hv1;obtain⟨w2,hw2,r2⟩:=rv2.get hv2;have e1:its.toArray[j]=w1:=by
  rw[Ag0 h1'] at hw1;have:=Option.some.inj hw1;simpa using this
 have e2:its2.toArray[j]=w2:=by
  rw[Ag0 h2'] at hw2;have:=Option.some.inj hw2;simpa using this
 rw[e1,e2];exact ih (Be0 (yn8 x1) hd) (xe0 e x1 x2) z1 z2 r1 r2
theorem xt0 (I:Inv X pins σ H s):∀(n:Nat) {A:Around} {d1 d2:D} {b:Bool} {v1 v2:V} {u1 u2:Value},d1.dep<=n->A.units+n<cLine->D.eqq d1 d2=some b->Is X.K A1 H d1 v1->Is X.K A2 H d2 v2->zf0 v1 u1->zf0 v2 u2->EqAt A s u1 u2 b:=by
 intro n;induction n with
 | zero=>
   intro A d1 d2 b v1 v2 u1 u2 hd hu e h1 h2 r1 r2;refine yk3 ?_ e h1 h2 r1 r2;cases d1 with
   | tup l=>unfold D.dep at hd;omega
   | lst l=>unfold D.dep at hd;omega
   | dct _ _=>cases d2<;>(unfold D.eqq at e;cases e)
   | fl _=>cases d2<;>(unfold D.eqq at e;cases e)
   | _=>rfl
 | succ n ih=>
   intro A d1 d2 b v1 v2 u1 u2 hd hu e h1 h2 r1 r2;by_cases hp:d1.plain=true
   ·exact yk3 hp e h1 h2 r1 r2
   have hu0:A.units<cLine:=by omega
   have ih':∀{d1 d2:D} {b:Bool} {v1 v2:V} {u1 u2:Value},d1.dep<=n->D.eqq d1 d2=some b->Is X.K A1 H d1 v1->Is X.K A2 H d2 v2->zf0 v1 u1->zf0 v2 u2->EqAt A.in1 s u1 u2 b:=
    fun hd e h1 h2 r1 r2=>ih (A:=A.in1) hd (by rw[Around.in1_units];omega) e h1 h2 r1 r2
   cases d1 with
   | tup l=>
     cases d2 with
     | tup m=>
       obtain⟨a,vs,ea,s1,i1⟩:=Is.tup_sq h1;obtain⟨a',us,ea',s2,i2⟩:=Is.tup_sq h2;have hb:a=a'->b=true:=fun z=>by
        subst z;rw[ea'] at h2;rw[ea] at h1;exact yn3 I h1 h2 e
       subst ea ea';cases r1;cases r2;by_cases z:a=a'
       ·rw[hb z,z];exact EqAt.same _
       ·obtain⟨its,rv,p1,_⟩:=I.tuple s1
        obtain⟨its2,rv2,p2,_⟩:=I.tuple s2;unfold D.eqq at e;have dl:D.depL l<=n:=by unfold D.dep at hd;omega
        have q:=RcAt.tuples (A:=A) (e:=fun j=>(yb7 l m).getD j false) (show s.heap.IsTuple a its.toArray from p1) (show s.heap.IsTuple a' its2.toArray from p2) hu0 (fun j g1 g2=>zm3 e i1 i2 rv rv2 ih' dl j g1 g2);have eb:=yg5 e;have l1:its.toArray.size=l.length:=by rw[Af0,<-rv.length,<-i1.length]
        have l2:its2.toArray.size=m.length:=by rw[Af0,<-rv2.length,<-i2.length]
        rw[l1,l2,<-zm9,zs2,<-eb] at q;exact EqAt.of_refs z q
     | _=>unfold D.eqq at e;cases e
   | lst l=>
     cases d2 with
     | lst m=>
       obtain⟨a,vs,ea,_,s1,i1⟩:=Is.lst_iff.mp h1;obtain⟨a',us,ea',_,s2,i2⟩:=Is.lst_iff.mp h2;have hb:a=a'->b=true:=fun z=>by
        subst z;rw[ea'] at h2;rw[ea] at h1;exact yn3 I h1 h2 e
       subst ea ea';cases r1;cases r2;by_cases z:a=a'
       ·rw[hb z,z];exact EqAt.same _
       ·obtain⟨its,rv,p1,_⟩:=I.list (.of s1)
        obtain⟨its2,rv2,p2,_⟩:=I.list (.of s2);have l1:its.toArray.size=l.length:=by rw[Af0,<-rv.length,<-i1.length]
        have l2:its2.toArray.size=m.length:=by rw[Af0,<-rv2.length,<-i2.length]
        unfold D.eqq at e;by_cases hl:l.length=m.length
        ·rw[if_pos hl] at e
         have dl:D.depL l<=n:=by unfold D.dep at hd;omega
         have q:=RcAt.lists (A:=A) (e:=fun j=>(yb7 l m).getD j false) p1.isList p2.isList (by rw[l1,l2,hl]) hu0 (fun j g1 g2=>zm3 e i1 i2 rv rv2 ih' dl j g1 g2);have eb:=yg5 e;have el:l.length=(yb7 l m).length:=by rw[zm9];omega
         rw[l1,el,zs2] at q;rw[hl] at eb;simp at eb;rw[eb];have:(yb7 l m).all id=(yb7 l m).all (fun x=>x):=rfl;exact EqAt.of_refs z q
        ·rw[if_neg hl] at e
         cases e;exact EqAt.of_refs z (RcAt.lists_lengths p1.isList p2.isList (by rw[l1,l2];simpa using hl) hu0)
     | _=>unfold D.eqq at e;cases e
   | dct _ _=>cases d2<;>(unfold D.eqq at e;cases e)
   | fl _=>cases d2<;>(unfold D.eqq at e;cases e)
   | _=>simp[D.plain] at hp
end
end L2
end
section
namespace L2
open PySem PySem.Spec PyProof.Rows
open PySem.SeqAt
section
variable {X:Cx} {pins:List (Addr×Obj)} {σ:St} {H:Hp} {s:Shared} {A1 A2:Addr->Prop}
theorem wd7 (I:Inv X pins σ H s) {n:Nat} {A:Around} {d1 d2:D} {b:Bool} {v1 v2:V} {u1 u2:Value} (hd:d1.dep<=n) (hu:A.units+n<cLine) (e:D.eqq d1 d2=some b) (h1:Is X.K A1 H d1 v1) (h2:Is X.K A2 H d2 v2) (r1:zf0 v1 u1) (r2:zf0 v2 u2) :
 RcAt A s u1 u2 b/\RcNeAt A s u1 u2 (!b):=by
 have hu0:A.units<cLine:=by omega
 cases d1 with
 | int i=>
   cases d2 with
   | int j=>
     have z1:=Is.int_iff.mp h1;have z2:=Is.int_iff.mp h2;subst z1 z2;obtain⟨t,rfl⟩:=r1;obtain⟨t',rfl⟩:=r2;unfold D.eqq at e;cases e;exact⟨RcAt.int_int i t j t',RcNeAt.int_int i t j t'⟩
   | _=>unfold D.eqq at e;cases e
 | str i=>
   cases d2 with
   | str j=>
     have z1:=Is.str_iff.mp h1;have z2:=Is.str_iff.mp h2;subst z1 z2;obtain⟨t,rfl⟩:=r1;obtain⟨t',rfl⟩:=r2;unfold D.eqq at e;cases e;exact⟨RcAt.str_str i t j t',RcNeAt.str_str i t j t'⟩
   | _=>unfold D.eqq at e;cases e
 | bl i=>
   cases d2 with
   | bl j=>
     have z1:=Is.bl_iff.mp h1;have z2:=Is.bl_iff.mp h2;subst z1 z2;cases r1;cases r2;unfold D.eqq at e;cases e;exact⟨RcAt.bool_bool i j,RcNeAt.bool_bool i j⟩
   | _=>unfold D.eqq at e;cases e
 | non=>
   cases d2 with
   | non=>
     have z1:=Is.non_iff.mp h1;have z2:=Is.non_iff.mp h2;subst z1 z2;cases r1;cases r2;unfold D.eqq at e;cases e;exact⟨RcAt.none_none,RcNeAt.none_none⟩
   | _=>unfold D.eqq at e;cases e
 | tup l=>
   cases d2 with
   | tup m=>
     obtain⟨a,vs,ea,s1,i1⟩:=Is.tup_sq h1;obtain⟨a',us,ea',s2,i2⟩:=Is.tup_sq h2;subst ea ea';cases r1;cases r2;obtain⟨its,rv,p1,_⟩:=I.tuple s1;obtain⟨its2,rv2,p2,_⟩:=I.tuple s2;unfold D.eqq at e;have hd':D.depL l+1<=n:=by unfold D.dep at hd;exact hd
     have ih':∀{d1 d2:D} {b:Bool} {v1 v2:V} {u1 u2:Value},d1.dep<=n-1->D.eqq d1 d2=some b->Is X.K A1 H d1 v1->Is X.K A2 H d2 v2->zf0 v1 u1->zf0 v2 u2->EqAt A.in1 s u1 u2 b:=
      fun hd e h1 h2 r1 r2=>xt0 I (n-1) (A:=A.in1) hd (by rw[Around.in1_units];omega) e h1 h2 r1 r2
     have q:=RcAt.tuples (A:=A) (e:=fun j=>(yb7 l m).getD j false) (show s.heap.IsTuple a its.toArray from p1) (show s.heap.IsTuple a' its2.toArray from p2) hu0 (fun j g1 g2=>zm3 e i1 i2 rv rv2 ih' (by omega) j g1 g2);have q':=RcNeAt.tuples (A:=A) (e:=fun j=>(yb7 l m).getD j false) (show s.heap.IsTuple a its.toArray from p1) (show s.heap.IsTuple a' its2.toArray from p2) hu0 (fun j g1 g2=>zm3 e i1 i2 rv rv2 ih' (by omega) j g1 g2);have eb:=yg5 e;have l1:its.toArray.size=l.length:=by rw[Af0,<-rv.length,<-i1.length]
     have l2:its2.toArray.size=m.length:=by rw[Af0,<-rv2.length,<-i2.length]
     rw[l1,l2,<-zm9,zs2,<-eb] at q q';exact⟨q,q'⟩
   | _=>unfold D.eqq at e;cases e
 | lst l=>
   cases d2 with
   | lst m=>
     obtain⟨a,vs,ea,_,s1,i1⟩:=Is.lst_iff.mp h1;obtain⟨a',us,ea',_,s2,i2⟩:=Is.lst_iff.mp h2;subst ea ea';cases r1;cases r2;obtain⟨its,rv,p1,_⟩:=I.list (.of s1);obtain⟨its2,rv2,p2,_⟩:=I.list (.of s2);have l1:its.toArray.size=l.length:=by rw[Af0,<-rv.length,<-i1.length]
     have l2:its2.toArray.size=m.length:=by rw[Af0,<-rv2.length,<-i2.length]
     unfold D.eqq at e;by_cases hl:l.length=m.length
     ·rw[if_pos hl] at e
      have hd':D.depL l+1<=n:=by unfold D.dep at hd;exact hd
      have ih':∀{d1 d2:D} {b:Bool} {v1 v2:V} {u1 u2:Value},d1.dep<=n-1->D.eqq d1 d2=some b->Is X.K A1 H d1 v1->Is X.K A2 H d2 v2->zf0 v1 u1->zf0 v2 u2->EqAt A.in1 s u1 u2 b:=
       fun hd e h1 h2 r1 r2=>xt0 I (n-1) (A:=A.in1) hd (by rw[Around.in1_units];omega) e h1 h2 r1 r2
      have q:=RcAt.lists (A:=A) (e:=fun j=>(yb7 l m).getD j false) p1.isList p2.isList (by rw[l1,l2,hl]) hu0 (fun j g1 g2=>zm3 e i1 i2 rv rv2 ih' (by omega) j g1 g2);have q':=RcNeAt.lists (A:=A) (e:=fun j=>(yb7 l m).getD j false) p1.isList p2.isList (by rw[l1,l2,hl]) hu0 (fun j g1 g2=>zm3 e i1 i2 rv rv2 ih' (by omega) j g1 g2);have eb:=yg5 e;have el:l.length=(yb7 l m).length:=by rw[zm9];omega
      rw[l1,el,zs2] at q q';have eb':b=(yb7 l m).all id:=by rw[eb,hl];simp
      rw[eb'];exact⟨q,q'⟩
     ·rw[if_neg hl] at e
      cases e;exact⟨RcAt.lists_lengths p1.isList p2.isList (by rw[l1,l2];simpa using hl) hu0,RcNeAt.lists_lengths p1.isList p2.isList (by rw[l1,l2];simpa using hl) hu0⟩
   | _=>unfold D.eqq at e;cases e
 | dct _ _=>cases d2<;>(unfold D.eqq at e;cases e)
 | fl _=>cases d2<;>(unfold D.eqq at e;cases e)
noncomputable def vf2 (K:PySem.W.Frag) (neg:Bool):R2:=fun x y H Q=>∃(A:Addr->Prop) (d1 d2:D) (b:Bool),Is K A H d1 x/\Is K A H d2 y/\d1.dep<=30/\D.eqq d1 d2=some b/\Q (.bl (if neg then !b else b)) H
theorem zi4 {k:Nat} (hr:zl9 k X.A):OpR X (compareOp .Eq) (vf2 X.K false):=by
 intro pins s σ H x y v u Q I rx ry h;obtain⟨A,d1,d2,b,h1,h2,hd,e,q⟩:=h;exact(wd7 I (n:=30) hd (by have:=hr.units;omega) e h1 h2 rx ry).1 _ _ _ _ ⟨.bl b,H,I,rfl,q⟩
theorem ye5 {k:Nat} (hr:zl9 k X.A):OpR X (compareOp .NotEq) (vf2 X.K true):=by
 intro pins s σ H x y v u Q I rx ry h;obtain⟨A,d1,d2,b,h1,h2,hd,e,q⟩:=h;exact(wd7 I (n:=30) hd (by have:=hr.units;omega) e h1 h2 rx ry).2 _ _ _ _ ⟨.bl (!b),H,I,rfl,q⟩
noncomputable def inD (x:D):List D->Option Bool
 | []=>some false
 | d::l=>(D.eqq d x).bind fun b=>(inD x l).map fun c=>b||c
noncomputable def vf1 (K:PySem.W.Frag) (neg:Bool):R2:=fun x y H Q=>∃(A:Addr->Prop) (d:D) (l:List D) (b:Bool),Is K A H d x/\(Is K A H (.lst l) y\/Is K A H (.tup l) y)/\D.depL l<=30/\inD d l=some b/\Q (.bl (if neg then !b else b)) H
open Classical in
noncomputable def wc8 (x:D) (l:List D) (us:List Value) (u:Value):Bool:=decide (∃(j:Nat) (d:D),us[j]?=some u/\l[j]?=some d/\D.eqq d x=some true)
theorem yd4 {x:D} {l:List D} {us:List Value} {u:Value}:wc8 x l us u=true↔∃(j:Nat) (d:D),us[j]?=some u/\l[j]?=some d/\D.eqq d x=some true:=by
 classical
 unfold wc8;exact decide_eq_true_iff
theorem yt1 {x:D}:∀{l:List D} {b:Bool},inD x l=some b->∀(j:Nat) (d:D),l[j]?=some d->∃c,D.eqq d x=some c
 | [],_,_,_,_,h=>by simp at h
 | a::l,b,e,j,d,h=>by
   unfold inD at e;cases q1:D.eqq a x with
   | none=>rw[q1] at e;cases e
   | some c=>
     cases q2:inD x l with
     | none=>rw[q1,q2] at e;cases e
     | some c2=>
       cases j with
       | zero=>simp at h;subst h;exact⟨c,q1⟩
       | succ j=>exact yt1 q2 j d (by simpa using h)
theorem xr9 {x:D}:∀{l:List D} {b:Bool},inD x l=some b->(b=true↔∃(j:Nat) (d:D),l[j]?=some d/\D.eqq d x=some true)
 | [],b,e=>by
   unfold inD at e;cases e;constructor
   ·intro h;cases h
   ·rintro ⟨j,d,h,_⟩;simp at h
 | a::l,b,e=>by
   unfold inD at e;cases q1:D.eqq a x with
   | none=>rw[q1] at e;cases e
   | some c=>
     cases q2:inD x l with
     | none=>rw[q1,q2] at e;cases e
     | some c2=>
       rw[q1,q2] at e;have e:some (c||c2)=some b:=e;cases e;have ih:=xr9 q2;rw[Bool.or_eq_true];constructor
       ·rintro (h | h)
        ·subst h;exact⟨0,a,rfl,q1⟩
        ·obtain⟨j,d,h1,h2⟩:=ih.mp h
         exact⟨j+1,d,by simpa using h1,h2⟩
       ·rintro ⟨j,d,h1,h2⟩
        cases j with
        | zero=>
          simp at h1;subst h1;rw[q1] at h2;cases h2;exact .inl rfl
        | succ j=>exact .inr (ih.mpr ⟨j,d,by simpa using h1,h2⟩)
theorem yc7 (I:Inv X pins σ H s) {A:Around} {A1:Addr->Prop} {x:D} {l:List D} {vs:List V} {its:List Value} {b:Bool} {v:V} {u:Value} (hd:D.depL l<=30) (hu:A.units+30<cLine) (e:inD x l=some b) (i:IsL X.K A1 H l vs) (rv:zf8 vs its) (h:Is X.K A1 H x v) (r:zf0 v u) :
 (∀y∈its.toArray,EqAt A s y u (wc8 x l its y))/\its.toArray.any (wc8 x l its)=b:=by
 have at_:∀(j:Nat) (y:Value),its[j]?=some y->∃d w,l[j]?=some d/\Is X.K A1 H d w/\zf0 w y:=fun j y hy=>by
  have hj:j<its.length:=(Ae0.mp hy).1;have hl:j<l.length:=by rw[i.length,rv.length];exact hj
  obtain⟨w,hw,iw⟩:=i.get (Ag0 hl);obtain⟨y',hy',ry⟩:=rv.get hw;rw[hy] at hy';cases hy';exact⟨_,w,Ag0 hl,iw,ry⟩
 have eqs:∀(j:Nat) (y:Value) (d:D) (c:Bool),its[j]?=some y->l[j]?=some d->D.eqq d x=some c->EqAt A s y u c:=fun j y d c hy hd' ec=>by
  obtain⟨d2,w,h2,iw,ry⟩:=at_ j y hy;rw[hd'] at h2;cases h2;exact xt0 I 30 (Be0 (yn8 hd') hd) hu ec iw h ry r
 constructor
 ·intro y hy
  by_cases hc:∃(j:Nat) (d:D),its[j]?=some y/\l[j]?=some d/\D.eqq d x=some true
  ·obtain⟨j,d,h1,h2,h3⟩:=hc
   have:wc8 x l its y=true:=yd4.mpr ⟨j,d,h1,h2,h3⟩;rw[this];exact eqs j y d true h1 h2 h3
  ·have:wc8 x l its y=false:=by cases q:wc8 x l its y with
    | false=>rfl
    | true=>exact(hc (yd4.mp q)).elim
   rw[this];obtain⟨j,hj,ej⟩:=List.mem_iff_getElem.mp (show y∈its by simpa using hy);have hy':its[j]?=some y:=by rw[Ag0 hj,ej]
   obtain⟨d,w,h2,iw,ry⟩:=at_ j y hy';obtain⟨c,ec⟩:=yt1 e j d h2;cases c with
   | false=>exact eqs j y d false hy' h2 ec
   | true=>exact(hc ⟨j,d,hy',h2,ec⟩).elim
 ·apply Bool.eq_iff_iff.mpr
  rw[xr9 e];have e1:its.toArray.any (wc8 x l its)=its.any (wc8 x l its):=by simp
  rw[e1,List.any_eq_true];constructor
  ·rintro ⟨y,_,hy⟩
   obtain⟨j,d,_,h2,h3⟩:=yd4.mp hy;exact⟨j,d,h2,h3⟩
  ·rintro ⟨j,d,h2,h3⟩
   have hj:j<its.length:=by rw[<-rv.length,<-i.length];exact(Ae0.mp h2).1
   refine⟨its[j],List.getElem_mem hj,?_⟩;exact yd4.mpr ⟨j,d,Ag0 hj,h2,h3⟩
theorem we6 {k:Nat} (hr:zl9 k X.A):OpR X (compareOp .In) (vf1 X.K false):=by
 intro pins s σ H x y v u Q I rx ry h;obtain⟨A,d,l,b,h1,h2,hd,e,q⟩:=h;have hu:X.A.in1.units+30<cLine:=by rw[Around.in1_units];have:=hr.units;omega
 rcases h2 with h2 | h2
 ·obtain⟨a,vs,ea,_,s1,i1⟩:=Is.lst_iff.mp h2
  subst ea;cases ry;obtain⟨its,rv,p,_⟩:=I.list (.of s1);obtain⟨g1,g2⟩:=yc7 I hd hu e i1 rv h1 rx;exact in_listAt _ p.isList g1 ⟨.bl b,H,I,by rw[g2];rfl,q⟩
 ·obtain⟨a,vs,ea,s1,i1⟩:=Is.tup_sq h2
  subst ea;cases ry;obtain⟨its,rv,p,_⟩:=I.tuple s1;obtain⟨g1,g2⟩:=yc7 I hd hu e i1 rv h1 rx;exact in_tupleAt _ p g1 ⟨.bl b,H,I,by rw[g2];rfl,q⟩
theorem xo4 {k:Nat} (hr:zl9 k X.A):OpR X (compareOp .NotIn) (vf1 X.K true):=by
 intro pins s σ H x y v u Q I rx ry h;obtain⟨A,d,l,b,h1,h2,hd,e,q⟩:=h;have hu:X.A.in1.units+30<cLine:=by rw[Around.in1_units];have:=hr.units;omega
 rcases h2 with h2 | h2
 ·obtain⟨a,vs,ea,_,s1,i1⟩:=Is.lst_iff.mp h2
  subst ea;cases ry;obtain⟨its,rv,p,_⟩:=I.list (.of s1);obtain⟨g1,g2⟩:=yc7 I hd hu e i1 rv h1 rx;exact notIn_listAt _ p.isList g1 ⟨.bl (!b),H,I,by rw[g2];rfl,q⟩
 ·obtain⟨a,vs,ea,s1,i1⟩:=Is.tup_sq h2
  subst ea;cases ry;obtain⟨its,rv,p,_⟩:=I.tuple s1;obtain⟨g1,g2⟩:=yc7 I hd hu e i1 rv h1 rx;exact notIn_tupleAt _ p g1 ⟨.bl (!b),H,I,by rw[g2];rfl,q⟩
variable {S:Type} {W:Wd S} {c:Dx W}
noncomputable def oEq (neg:Bool) (a b:D):Option D:=if a.dep<=30 then (D.eqq a b).map fun x=>.bl (if neg then !x else x) else none
noncomputable def oIn (neg:Bool) (a b:D):Option D:=match b with
 | .lst l=>if D.depL l<=30 then (inD a l).map fun x=>.bl (if neg then !x else x) else none
 | .tup l=>if D.depL l<=30 then (inD a l).map fun x=>.bl (if neg then !x else x) else none
 | _=>none
set_option tactic.hygienic true in
theorem zf9 {K:PySem.W.Frag} {neg:Bool} (hK:c.K=K):OpD c (vf2 K neg) (oEq neg):=by
 subst hK;intro d1 d2 v1 v2 H st d Q ok z1 z2 e q;unfold oEq at e;split at e
 ·rename_i hd
  cases h:D.eqq d1 d2 with
  | none=>rw[h] at e;cases e
  | some b=>
    rw[h] at e;cases e;exact⟨_,d1,d2,b,z1,z2,hd,h,q _ H Ext.refl ok zp3⟩
 ·cases e
set_option tactic.hygienic true in
theorem xo7 {K:PySem.W.Frag} {neg:Bool} (hK:c.K=K):OpD c (vf1 K neg) (oIn neg):=by
 subst hK;intro d1 d2 v1 v2 H st d Q ok z1 z2 e q;unfold oIn at e;split at e
 ·rename_i l
  split at e
  ·rename_i hd
   cases h:inD d1 l with
   | none=>rw[h] at e;cases e
   | some b=>
     rw[h] at e;cases e;exact⟨_,d1,l,b,z1,.inl z2,hd,h,q _ H Ext.refl ok zp3⟩
  ·cases e
 ·rename_i l
  split at e
  ·rename_i hd
   cases h:inD d1 l with
   | none=>rw[h] at e;cases e
   | some b=>
     rw[h] at e;cases e;exact⟨_,d1,l,b,z1,.inr z2,hd,h,q _ H Ext.refl ok zp3⟩
  ·cases e
 ·cases e
end
end L2
end
section
namespace L2
open PySem PySem.Spec PyProof.Rows
section
variable {X:Cx} {S:Type} {W:Wd S} {c:Dx W} {g:Gr} {a b e:Expr} {zx5:List Expr} {pos:Pos} {fa fb fc:Fn S} {ga gb gc:Gr}
noncomputable def wz2 (S:Type) (f1 f2:Fn S):Fn S:=fun ρ st=>(f1 ρ st).bind fun d st1=>match d with
 | .bl true=>f2 ρ st1
 | .bl false=>.ok (.bl false) st1
 | _=>.bad
noncomputable def vj8 (S:Type) (f1 f2:Fn S):Fn S:=fun ρ st=>(f1 ρ st).bind fun d st1=>match d with
 | .bl true=>.ok (.bl true) st1
 | .bl false=>f2 ρ st1
 | _=>.bad
noncomputable def wz0 (S:Type) (f1:Fn S):Fn S:=fun ρ st=>(f1 ρ st).bind fun d st1=>match d with
 | .bl b=>.ok (.bl (!b)) st1
 | _=>.bad
theorem yk5 {op} {f:Fn S} (h:DE X c g a f):DE X c g (.BoolOp op [a] pos) f:=wv4 h
theorem yg9 (ha:DE X c ga a fa) (hb:DE X c g (.BoolOp .And (b::zx5) pos) fb):DE X c g (.BoolOp .And (a::b::zx5) pos) (wz2 S fa fb):=
 (wv9 ha hb).imp fun σ H Q hI31=>by
  obtain⟨ρ,st,R,ok,w⟩:=hI31;refine zg9 (Go.bind (g':=ga) (k:=fun d ρ st1=>match d with | .bl true=>fb ρ st1 | .bl false=>.ok (.bl false) st1 | _=>.bad) R ok w) fun v H1 hI100=>?_
  obtain⟨d,st1,R1,ok1,e1,z,w1⟩:=hI100;cases d with
  | bl k=>
    have zv:v=.bl k:=Is.bl_iff.mp (show Is c.K (fun b=>¬W.mv b) H1 (.bl k) v from z.toR);refine⟨k,zv,?_⟩;cases k with
    | true=>exact wr4 ⟨ρ,st1,R1,ok1,w1⟩
    | false=>exact wy6 (w1 (.bl false) H1 Ext.refl ok1 (New.val R1 zp3 g))
  | _=>exact(show False from w1).elim
theorem vh1 (ha:DE X c ga a fa) (hb:DE X c g (.BoolOp .Or (b::zx5) pos) fb):DE X c g (.BoolOp .Or (a::b::zx5) pos) (vj8 S fa fb):=
 (vf4 ha hb).imp fun σ H Q hI32=>by
  obtain⟨ρ,st,R,ok,w⟩:=hI32;refine zg9 (Go.bind (g':=ga) (k:=fun d ρ st1=>match d with | .bl true=>.ok (.bl true) st1 | .bl false=>fb ρ st1 | _=>.bad) R ok w) fun v H1 hI101=>?_
  obtain⟨d,st1,R1,ok1,e1,z,w1⟩:=hI101;cases d with
  | bl k=>
    have zv:v=.bl k:=Is.bl_iff.mp (show Is c.K (fun b=>¬W.mv b) H1 (.bl k) v from z.toR);refine⟨k,zv,?_⟩;cases k with
    | false=>exact wy6 ⟨ρ,st1,R1,ok1,w1⟩
    | true=>exact wr4 (w1 (.bl true) H1 Ext.refl ok1 (New.val R1 zp3 g))
  | _=>exact(show False from w1).elim
theorem va3 (ha:DE X c ga a fa):DE X c g (.UnaryOp .Not a pos) (wz0 S fa):=
 (wv5 ha).imp fun σ H Q hI33=>by
  obtain⟨ρ,st,R,ok,w⟩:=hI33;refine zg9 (Go.bind (g':=ga) (k:=fun d ρ st1=>match d with | .bl b=>.ok (.bl (!b)) st1 | _=>.bad) R ok w) fun v H1 hI102=>?_
  obtain⟨d,st1,R1,ok1,e1,z,w1⟩:=hI102;cases d with
  | bl k=>
    have zv:v=.bl k:=Is.bl_iff.mp (show Is c.K (fun b=>¬W.mv b) H1 (.bl k) v from z.toR);exact⟨k,zv,w1 (.bl (!k)) H1 Ext.refl ok1 (New.val R1 zp3 g)⟩
  | _=>exact(show False from w1).elim
noncomputable def yt4 (S:Type) (o o':D->D->Option D) (f1 f2 f3:Fn S):Fn S:=fun ρ st=>(f1 ρ st).bind fun d1 st1=>(f2 ρ st1).bind fun d2 st2=>match o d1 d2 with
 | some (.bl true)=>(f3 ρ st2).bind fun d3 st3=>zk3 (o' d2 d3) st3
 | some (.bl false)=>.ok (.bl false) st2
 | _=>.bad
theorem xb0 {r r':R2} {o o':D->D->Option D} {σ:St} {H:Hp} {Q:VK} (hr:OpD c r o) (hr':OpD c r' o') (h:tD c g (yt4 S o o' fa fb fc) σ H Q):xl8 r r' (tD c ga fa) (tD c gb fb) (tD c gc fc) σ H Q:=by
 obtain⟨ρ,st,R,ok,w⟩:=h;refine zg9 (Go.bind (g':=ga) (k:=fun d1 ρ st1=>(fb ρ st1).bind fun d2 st2=>match o d1 d2 with | some (.bl true)=>(fc ρ st2).bind fun d3 st3=>zk3 (o' d2 d3) st3 | some (.bl false)=>.ok (.bl false) st2 | _=>.bad) R ok w) fun v1 H1 hI103=>?_
 obtain⟨d1,st1,R1,ok1,e1,z1,w1⟩:=hI103;refine zg9 (Go.bind (g':=gb) (k:=fun d2 ρ st2=>match o d1 d2 with | some (.bl true)=>(fc ρ st2).bind fun d3 st3=>zk3 (o' d2 d3) st3 | some (.bl false)=>.ok (.bl false) st2 | _=>.bad) R1 ok1 w1) fun v2 H2 hI104=>?_
 obtain⟨d2,st2,R2,ok2,e2,z2,w2⟩:=hI104;cases q:o d1 d2 with
 | none=>simp only[q] at w2;exact(show False from w2).elim
 | some d=>
   simp only[q] at w2;cases d with
   | bl k=>
     refine hr d1 d2 v1 v2 H2 st2 (.bl k) _ ok2 (z1.toR.ext e2 ok1) z2.toR q fun v H' e' ok' n=>?_
     refine⟨k,Is.bl_iff.mp n,?_⟩;have R':=R2.ext ok2 e';cases k with
     | false=>exact wy6 (w2 (.bl false) H' e' ok' (New.val R2 zp3 g))
     | true=>
       refine wr4 ?_;have w3:Go c g σ (fun ρ st=>(fc ρ st).bind fun d3 st3=>zk3 (o' d2 d3) st3) H2 Q ρ st2:=w2;refine zg9 (Go.bind (g':=gc) (k:=fun d3 _ st3=>zk3 (o' d2 d3) st3) R' ok' (w3.from e' ok')) fun v3 H3 hI105=>?_
       obtain⟨d3,st3,R3,ok3,e3,z3,w4⟩:=hI105;obtain⟨d,e5,q5⟩:=Go.done w4 ok3;exact hr' d2 d3 v2 v3 H3 st3 d Q ok3 ((z2.toR.ext e' ok2).ext e3 ok') z3.toR e5 fun v H' a b n=>q5 v H' a b (n.val R3 g)
   | _=>exact(show False from w2).elim
theorem yd0 {op op':CmpOp} {r r':R2} {o o':D->D->Option D} {d:Expr} (ho:OpR X (compareOp op) r) (ho':OpR X (compareOp op') r') (hr:OpD c r o) (hr':OpD c r' o') (ha:DE X c ga a fa) (hb:DE X c gb b fb) (hd:DE X c gc d fc)
 (hm:lastMarks [op,op'] [b,d]=false:=by with_unfolding_all rfl):DE X c g (.Compare a [op,op'] [b,d] pos) (yt4 S o o' fa fb fc):=
 (xz1 ho ho' ha hb hd hm).imp fun σ H Q h=>xb0 hr hr' h
theorem xe1 {op op':CmpOp} {r r':R2} {o o':D->D->Option D} {d:Expr} (ho:OpR X (compareOp op) r) (ho':OpR X (compareOp op') r') (hr:OpD c r o) (hr':OpD c r' o') (ha:DE X c ga a fa) (hb:DE X c gb b fb) (hd:DE X c gc d fc)
 (hm:lastMarks [op,op'] [b,d]=false:=by with_unfolding_all rfl):DT X c (.Compare a [op,op'] [b,d] pos) (fB S (yt4 S o o' fa fb fc)):=
 (xy4 ho ho' ha hb hd hm).imp fun σ H Q q=>by
  have q':tB (tD c .R (yt4 S o o' fa fb fc)) σ H Q:=yp4 q;exact xb0 (ga:=ga) (gb:=gb) (gc:=gc) hr hr' q'
noncomputable def D.isNon:D->Bool
 | .non=>true
 | _=>false
noncomputable def yo5 (neg:Bool) (a b:D):Option D:=match b with
 | .non=>some (.bl (if neg then !a.isNon else a.isNon))
 | _=>none
theorem wf3 {K:PySem.W.Frag} {A:Addr->Prop} {H:Hp} {d:D} {v:V} (h:Is K A H d v):(decide (v=V.non))=d.isNon:=by
 cases d with
 | non=>rw[Is.non_iff.mp h];rfl
 | bl b=>rw[Is.bl_iff.mp h];rfl
 | int i=>rw[Is.int_iff.mp h];rfl
 | str x=>rw[Is.str_iff.mp h];rfl
 | tup l=>obtain⟨a,vs,e,_⟩:=Is.tup_sq h;rw[e];rfl
 | lst l=>obtain⟨a,vs,e,_⟩:=Is.lst_iff.mp h;rw[e];rfl
 | dct k l=>obtain⟨a,vs,e,_⟩:=Is.dct_iff.mp h;rw[e];rfl
 | fl l=>obtain⟨a,o,vs,e,_⟩:=Is.fl_iff.mp h;rw[e];rfl
theorem we7:OpD c (fun x y H Q=>y=.non/\Q (.bl (decide (x=.non))) H) (yo5 false):=by
 intro d1 d2 v1 v2 H st d Q ok z1 z2 e q;cases d2 with
 | non=>
   cases e;refine⟨Is.non_iff.mp z2,?_⟩;rw[wf3 z1];exact q _ H Ext.refl ok zp3
 | _=>cases e
theorem wm1:OpD c (fun x y H Q=>y=.non/\Q (.bl (!decide (x=.non))) H) (yo5 true):=by
 intro d1 d2 v1 v2 H st d Q ok z1 z2 e q;cases d2 with
 | non=>
   cases e;refine⟨Is.non_iff.mp z2,?_⟩;rw[wf3 z1];exact q _ H Ext.refl ok zp3
 | _=>cases e
noncomputable def vk0 (S:Type) (t:FnT S) (f1 f2:Fn S):Fn S:=fun ρ st=>(t ρ st).bind fun k st1=>if k=true then f1 ρ st1 else f2 ρ st1
noncomputable def vj9 (S:Type) (f:Fn S):Fn S:=fun ρ st=>(f ρ st).bind fun d st1=>match d with
 | .int i=>.ok (.int (-i)) st1
 | _=>.bad
theorem xt5 (ha:DE X c ga a fa):DE X c g (.UnaryOp .USub a pos) (vj9 S fa):=
 (vf3 wt2 ha).imp fun σ H Q hI34=>by
  obtain⟨ρ,st,R,ok,w⟩:=hI34;refine zg9 (Go.bind (g':=ga) (k:=fun d _ st1=>match d with | .int i=>.ok (.int (-i)) st1 | _=>.bad) R ok w) fun v H1 hI106=>?_
  obtain⟨d,st1,R1,ok1,e1,z,w1⟩:=hI106;cases d with
  | int i=>exact⟨i,Is.int_iff.mp (show Is c.K (fun b=>¬W.mv b) H1 (.int i) v from z.toR),w1 (.int (-i)) H1 Ext.refl ok1 (New.val R1 zs6 g)⟩
  | _=>exact(show False from w1).elim
end
end L2
end
section
namespace L2
open PySem PySem.Spec PyProof.Rows
noncomputable def D.ty:D->String
 | .non=>"NoneType"
 | .bl _=>"bool"
 | .int _=>"int"
 | .str _=>"str"
 | .tup _=>"tuple"
 | .lst _=>"list"
 | .dct _ _=>"dict"
 | .fl _=>"list"
inductive Bt where
 | int | bool | str | list | tuple | dict
noncomputable def Bt.nm:Bt->String
 | .int=>"int"
 | .bool=>"bool"
 | .str=>"str"
 | .list=>"list"
 | .tuple=>"tuple"
 | .dict=>"dict"
noncomputable def isI (T:Bt) (d:D):Bool:=match T,d with
 | .int,.int _=>true
 | .int,.bl _=>true
 | .bool,.bl _=>true
 | .str,.str _=>true
 | .list,.lst _=>true
 | .list,.fl _=>true
 | .tuple,.tup _=>true
 | .dict,.dct _ _=>true
 | _,_=>false
theorem wn9 (K:PySem.W.Frag) (T:Bt) (d:D):PySem.W.kitOne K (.type d.ty) (.type T.nm)=some (isI T d):=by
 cases T<;>cases d<;>first | rfl | decide
section
variable {X:Cx} {pins:List (Addr×Obj)} {σ:St} {H:Hp} {s:Shared}
theorem wo1 {A0:Around} {E:Value->Shared->Prop} {Q:Value->Shared->Prop} {A:Addr->Prop} {d:D} {v:V} {u:Value} (T:Bt) (I:Inv X pins σ H s) (h:Is X.K A H d v) (r:zf0 v u) (hq:∀tk,Q (.bool (isI T d)) { s with toks:=tk }) :
 wpAny (model X.prog X.w) A0 (call (.builtin "isinstance") [u,.type T.nm]) Q E s:=by
 have e:=wn9 X.K T d;cases d with
 | non=>rw[Is.non_iff.mp h] at r;exact zl6 I r .non e hq
 | bl b=>rw[Is.bl_iff.mp h] at r;exact zl6 I r (.bl b) e hq
 | int i=>rw[Is.int_iff.mp h] at r;exact zl6 I r (.int i) e hq
 | str x=>rw[Is.str_iff.mp h] at r;exact zl6 I r (.str x) e hq
 | lst l=>obtain⟨a,vs,ea,_,e1,_⟩:=Is.lst_iff.mp h;rw[ea] at r;exact zl6 I r (.lst e1) e hq
 | fl l=>obtain⟨a,o,vs,ea,e1,_⟩:=Is.fl_iff.mp h;rw[ea] at r;exact zl6 I r (.frz e1) e hq
 | dct k l=>
   obtain⟨a,vs,ea,_,_,q⟩:=Is.dct_iff.mp h;rw[ea] at r;rcases q with⟨_,_,_,e1⟩ | ⟨_,_,_,e1⟩
   ·exact zl6 I r (.dK e1) e hq
   ·exact zl6 I r (.dT e1) e hq
 | tup l=>
   obtain⟨a,vs,ea,s1,_⟩:=Is.tup_sq h;rw[ea] at r;cases r;obtain⟨its,_,⟨o,h1,h2,_⟩,_⟩:=I.tuple s1;exact PySem.W.kia_one PySem.W.kitx_tuple I.kIn ⟨o,h1,h2⟩ e (fun z=>nomatch z) hq
variable {S:Type} {W:Wd S} {c:Dx W} {g ga:Gr}
noncomputable def fIs (S:Type) (T:Bt) (f:Fn S):Fn S:=fun ρ st=>(f ρ st).bind fun d st1=>.ok (.bl (isI T d)) st1
theorem zg6 {e:Expr} {x:Str} {p p2 pos:Pos} {f:Fn S} (T:Bt) (hK:c.K=X.K) (hg:Gl X "isinstance") (hm:X.mg "isinstance" = none) (hg2:Gl X x) (hm2:X.mg x=none) (hv:bootBuiltins x=some (.type T.nm)) (he:DE X c ga e f)
 (hs:starEach (e::[.Name x p2]) X.env=(false,eval e X.env)::starEach [.Name x p2] X.env:=by rfl) (hs2:starEach [.Name x p2] X.env=(false,eval (.Name x p2) X.env)::starEach [] X.env:=by rfl) (hpl:(backTo pos (starEach [.Name x p2] X.env)).any (·.1)=false:=by rfl) (hn:x≠"__name__":=by decide) (hd:(x == ("__debug__" : Str))=false:=by decide) :
 DE X c g (.Call (.Name "isinstance" p) [e,.Name x p2] [] pos) (fIs S T f):=by
 have hp:PE X (.Call (.Name "isinstance" p) [e,.Name x p2] [] pos) (tCB (fun vs H Q=>∃A d v,vs=[v,.ty T.nm]/\Is X.K A H d v/\Q (.bl (isI T d)) H) (xx4 (tD c ga f) (xx4 (tC (.ty T.nm)) vi4))):=by
  refine yc5 (id:="isinstance") ?_ hg hm boot_isinstance (zk7 he (zk7 (wl3 hg2 hm2 hv rfl hn hd) zs5 hs2) hs) (by decide) (by decide) hs hpl;intro pins s σ H xs us Q I r h;obtain⟨A,d,v,rfl,hi,q⟩:=h;obtain⟨u,w',rfl,r1,r2⟩:=wi2 r;cases r2;exact wo1 T I hi r1 fun tk=>⟨.bl _,H,I.tok tk,rfl,q⟩
 refine hp.imp fun σ H Q hI107=>?_
 obtain⟨ρ,st,R,ok,w⟩:=hI107;refine zg9 (Go.bind (g':=ga) (k:=fun d _ st1=>.ok (.bl (isI T d)) st1) R ok w) fun v H1 hI108=>?_
 obtain⟨d,st1,R1,ok1,e1,z,w1⟩:=hI108;exact⟨_,d,v,rfl,hK▸(show Is c.K (fun b=>¬W.mv b) H1 d v from z.toR),w1 _ H1 Ext.refl ok1 (New.val R1 zp3 g)⟩
end
section
variable {X:Cx} {S:Type} {W:Wd S} {c:Dx W}
noncomputable def xv9:List D->Option D
 | [.lst l]=>some (.int l.length)
 | [.tup l]=>some (.int l.length)
 | _=>none
set_option tactic.hygienic true in
theorem yb0 {K:PySem.W.Frag} (hK:c.K=K):zx0 c (fun xs H Q=>∃p ys,xs=[.ref p]/\(SqL K H p ys\/SqT K H p ys)/\Q (.int ys.length) H) xv9:=by
 subst hK;intro l vs H st d Q ok z e q;unfold xv9 at e;split at e
 ·rename_i m
  cases e;obtain⟨v,r,e1,i1,i2⟩:=IsL.cons.mp z;obtain⟨a,us,ea,_,s1,i3⟩:=Is.lst_iff.mp i1;rw[IsL.nil.mp i2,ea] at e1;exact⟨a,us,e1,.inl (.of s1),by rw[<-i3.length];exact q _ H Ext.refl ok zs6⟩
 ·rename_i m
  cases e;obtain⟨v,r,e1,i1,i2⟩:=IsL.cons.mp z;obtain⟨a,us,ea,s1,i3⟩:=Is.tup_sq i1;rw[IsL.nil.mp i2,ea] at e1;exact⟨a,us,e1,.inr s1,by rw[<-i3.length];exact q _ H Ext.refl ok zs6⟩
 ·cases e
noncomputable def yj6:List D->Option D
 | [.lst l]=>if D.immL l=true then some (.tup l) else none
 | [.tup l]=>if D.immL l=true then some (.tup l) else none
 | _=>none
set_option tactic.hygienic true in
theorem zu1 {K:PySem.W.Frag} (hK:c.K=K):zx0 c (fun xs H Q=>∃p ys,xs=[.ref p]/\((SqL K H p ys/\∀l,H l=none->Q (.ref l) (upd H l (.tup ys)))\/(SqT K H p ys/\Q (.ref p) H))) yj6:=by
 subst hK;intro l vs H st d Q ok z e q;unfold yj6 at e;split at e
 ·rename_i m
  split at e
  ·rename_i im
   cases e;obtain⟨v,r,e1,i1,i2⟩:=IsL.cons.mp z;obtain⟨a,us,ea,_,s1,i3⟩:=Is.lst_iff.mp i1;rw[IsL.nil.mp i2,ea] at e1;exact⟨a,us,e1,.inl ⟨.of s1,fun p hp=>q _ _ (Ext.laid hp) (zi3 ok hp) (New.tup ok hp (fun _ n=>n) im i3)⟩⟩
  ·cases e
 ·rename_i m
  split at e
  ·rename_i im
   cases e;obtain⟨v,r,e1,i1,i2⟩:=IsL.cons.mp z;obtain⟨a,us,ea,s1,i3⟩:=Is.tup_iff.mp i1;rw[IsL.nil.mp i2,ea] at e1;exact⟨a,us,e1,.inr ⟨.of s1,q _ H Ext.refl ok (Is.tup s1 (IsL.ofImm im i3))⟩⟩
  ·cases e
 ·cases e
noncomputable def xz6:List D->Option D
 | [.lst l]=>if D.immL l=true then some (.lst l) else none
 | [.tup l]=>if D.immL l=true then some (.lst l) else none
 | _=>none
set_option tactic.hygienic true in
theorem xu5 {K:PySem.W.Frag} (hK:c.K=K):zx0 c (fun xs H Q=>∃p ys,xs=[.ref p]/\(SqL K H p ys\/SqT K H p ys)/\∀l,H l=none->Q (.ref l) (upd H l (.lst ys))) xz6:=by
 subst hK;intro l vs H st d Q ok z e q;unfold xz6 at e;split at e
 ·rename_i m
  split at e
  ·rename_i im
   cases e;obtain⟨v,r,e1,i1,i2⟩:=IsL.cons.mp z;obtain⟨a,us,ea,_,s1,i3⟩:=Is.lst_iff.mp i1;rw[IsL.nil.mp i2,ea] at e1;exact⟨a,us,e1,.inl (.of s1),fun p hp=>q _ _ (Ext.laid hp) (zi3 ok hp) (New.lst ok hp (fun _ n=>n) im i3)⟩
  ·cases e
 ·rename_i m
  split at e
  ·rename_i im
   cases e;obtain⟨v,r,e1,i1,i2⟩:=IsL.cons.mp z;obtain⟨a,us,ea,s1,i3⟩:=Is.tup_sq i1;rw[IsL.nil.mp i2,ea] at e1;exact⟨a,us,e1,.inr s1,fun p hp=>q _ _ (Ext.laid hp) (zi3 ok hp) (New.lst ok hp (fun _ n=>n) im i3)⟩
  ·cases e
 ·cases e
noncomputable def vc1:List D->Option D
 | [.int i]=>some (.int i)
 | [.bl k]=>some (.int (if k then 1 else 0))
 | _=>none
set_option tactic.hygienic true in
theorem wg4:zx0 c (fun xs H Q=>(∃i,xs=[.int i]/\Q (.int i) H)\/∃k,xs=[.bl k]/\Q (.int (if k then 1 else 0)) H) vc1:=by
 intro l vs H st d Q ok z e q;unfold vc1 at e;split at e
 ·rename_i i
  cases e;obtain⟨v,r,e1,i1,i2⟩:=IsL.cons.mp z;rw[IsL.nil.mp i2,Is.int_iff.mp i1] at e1;exact .inl ⟨i,e1,q _ H Ext.refl ok zs6⟩
 ·rename_i i
  cases e;obtain⟨v,r,e1,i1,i2⟩:=IsL.cons.mp z;rw[IsL.nil.mp i2,Is.bl_iff.mp i1] at e1;exact .inr ⟨i,e1,q _ H Ext.refl ok zs6⟩
 ·cases e
noncomputable def xp1 (f:Int->Int->Int):List D->Option D
 | [.int i,.int j]=>some (.int (f i j))
 | _=>none
set_option tactic.hygienic true in
theorem zu2 (f:Int->Int->Int):zx0 c (fun xs H Q=>∃i j,xs=[.int i,.int j]/\Q (.int (f i j)) H) (xp1 f):=by
 intro l vs H st d Q ok z e q;unfold xp1 at e;split at e
 ·rename_i i j
  cases e;obtain⟨v,r,e1,i1,i2⟩:=IsL.cons.mp z;obtain⟨v',r',e1',i1',i2'⟩:=IsL.cons.mp i2;rw[e1',IsL.nil.mp i2',Is.int_iff.mp i1,Is.int_iff.mp i1'] at e1;exact⟨i,j,e1,q _ H Ext.refl ok zs6⟩
 ·cases e
noncomputable def zi8:List D->Option (List Bool)
 | []=>some []
 | .bl b::l=>(zi8 l).map fun r=>b::r
 | _=>none
theorem yk9 {K:PySem.W.Frag} {A:Addr->Prop} {H:Hp}:∀{l:List D} {vs:List V} {bs:List Bool},zi8 l=some bs->IsL K A H l vs->vs=bs.map V.bl
 | [],vs,bs,e,h=>by cases e;exact IsL.nil.mp h
 | .bl b::l,vs,bs,e,h=>by
   unfold zi8 at e;cases q:zi8 l with
   | none=>rw[q] at e;cases e
   | some r=>
     rw[q] at e;cases e;obtain⟨v,us,e1,i1,i2⟩:=IsL.cons.mp h;rw[e1,Is.bl_iff.mp i1,yk9 q i2];rfl
 | .non::_,_,_,e,_=>by simp[zi8] at e
 | .int _::_,_,_,e,_=>by simp[zi8] at e
 | .str _::_,_,_,e,_=>by simp[zi8] at e
 | .tup _::_,_,_,e,_=>by simp[zi8] at e
 | .lst _::_,_,_,e,_=>by simp[zi8] at e
 | .dct _ _::_,_,_,e,_=>by simp[zi8] at e
noncomputable def yj7 (f:List Bool->Bool):List D->Option D
 | [.lst l]=>(zi8 l).map fun bs=>.bl (f bs)
 | _=>none
set_option tactic.hygienic true in
theorem yd3 {K:PySem.W.Frag} (f:List Bool->Bool):zx0 c (fun xs H Q=>∃(a:Addr) (bs:List Bool),xs=[.ref a]/\SqL K H a (bs.map V.bl)/\Q (.bl (f bs)) H) (yj7 f):=by
 intro l vs H st d Q ok z e q;unfold yj7 at e;split at e
 ·rename_i m
  cases qb:zi8 m with
  | none=>rw[qb] at e;cases e
  | some bs=>
    rw[qb] at e;cases e;obtain⟨v,r,e1,i1,i2⟩:=IsL.cons.mp z;obtain⟨a,us,ea,_,s1,i3⟩:=Is.lst_iff.mp i1;rw[IsL.nil.mp i2,ea] at e1;rw[yk9 qb i3] at s1;exact⟨a,bs,e1,.of s1,q _ H Ext.refl ok zp3⟩
 ·cases e
noncomputable def wm9:D->D->Option D
 | .lst l,.lst m=>if D.immL l=true/\D.immL m=true/\l.length+m.length<=sizeLine then some (.lst (l++m)) else none
 | _,_=>none
set_option tactic.hygienic true in
theorem ww6:OpD c vb8 wm9:=by
 intro d1 d2 v1 v2 H st d Q ok z1 z2 e q;unfold wm9 at e;split at e
 ·rename_i l m
  split at e
  ·rename_i h
   cases e;obtain⟨a,vs,ea,_,s1,i1⟩:=Is.lst_iff.mp z1;obtain⟨b,us,eb,_,s2,i2⟩:=Is.lst_iff.mp z2;exact⟨a,b,vs,us,ea,eb,s1,s2,by rw[<-i1.length,<-i2.length];exact h.2.2,fun p hp=>q _ _ (Ext.laid hp) (zi3 ok hp) (New.lst ok hp (fun _ n=>n) (zh8 h.1 h.2.1) (i1.append i2))⟩
  ·cases e
 ·cases e
noncomputable def wm8:D->D->Option D
 | .tup l,.tup m=>if D.immL l=true/\D.immL m=true/\l.length+m.length<=sizeLine/\l.isEmpty=false then some (.tup (l++m)) else none
 | _,_=>none
set_option tactic.hygienic true in
theorem wm2 {K:PySem.W.Frag} (hK:c.K=K):OpD c (xy3 K) wm8:=by
 subst hK;intro d1 d2 v1 v2 H st d Q ok z1 z2 e q;unfold wm8 at e;split at e
 ·rename_i l m
  split at e
  ·rename_i h
   cases e;obtain⟨a,vs,ea,s1,i1⟩:=Is.tup_iff.mp z1;obtain⟨b,us,eb,s2,i2⟩:=Is.tup_sq z2;have hl:vs≠[]:=fun z=>by
    have:=i1.length;rw[z] at this;have h4:=h.2.2.2;cases l with
    | nil=>cases h4
    | cons _ _=>cases this
   refine⟨a,b,vs,us,ea,eb,.of s1,s2,hl,by rw[<-i1.length,<-i2.length];exact h.2.2.1,fun hz=>?_,fun _ p hp=>q _ _ (Ext.laid hp) (zi3 ok hp) (New.tup ok hp (fun _ n=>n) (zh8 h.1 h.2.1) (i1.append i2))⟩;have hm:m=[]:=by
    have:=i2.length;rw[hz] at this;exact List.length_eq_zero_iff.mp this
   rw[hm,Bj0] at q;exact q _ H Ext.refl ok (Is.tup s1 (IsL.ofImm h.1 i1))
  ·cases e
 ·cases e
end
end L2
end
section
namespace L2
open PySem PySem.Spec PyProof.Rows
noncomputable def ys8:D->Option Key
 | .int i=>some (.inl i)
 | .str x=>some (.inr x)
 | _=>none
noncomputable def ys7:List D->Option (List Key)
 | []=>some []
 | d::l=>(ys8 d).bind fun k=>(ys7 l).map fun r=>k::r
noncomputable def zc8:D->Option (List Key)
 | .tup l=>ys7 l
 | _=>none
theorem yy3 (k:Key):ys8 (xj2 k)=some k:=by cases k<;>rfl
theorem ys6:∀k:List Key,ys7 (k.map xj2)=some k
 | []=>rfl
 | a::k=>by
   show (ys8 (xj2 a)).bind (fun x=>(ys7 (k.map xj2)).map fun r=>x::r)=some (a::k);rw[yy3,ys6 k];rfl
theorem zj0 (k:List Key):zc8 (ze8 k)=some k:=ys6 k
section
variable {K:PySem.W.Frag} {A:Addr->Prop} {H:Hp}
theorem xq8 {d:D} {k:Key} {v:V} (e:ys8 d=some k) (h:Is K A H d v):v=kV k/\d=xj2 k:=by
 cases d with
 | int i=>cases e;exact⟨Is.int_iff.mp h,rfl⟩
 | str x=>cases e;exact⟨Is.str_iff.mp h,rfl⟩
 | _=>cases e
theorem xd0:∀{l:List D} {k:List Key} {vs:List V},ys7 l=some k->IsL K A H l vs->vs=k.map kV/\l=k.map xj2
 | [],k,vs,e,h=>by cases e;exact⟨IsL.nil.mp h,rfl⟩
 | d::l,k,vs,e,h=>by
   unfold ys7 at e;cases q1:ys8 d with
   | none=>rw[q1] at e;cases e
   | some a=>
     cases q2:ys7 l with
     | none=>rw[q1,q2] at e;cases e
     | some r=>
       rw[q1,q2] at e;have e:some (a::r)=some k:=e;cases e;obtain⟨v,us,e1,i1,i2⟩:=IsL.cons.mp h;obtain⟨e2,e3⟩:=xq8 q1 i1;obtain⟨e4,e5⟩:=xd0 q2 i2;subst e1 e2 e4;exact⟨rfl,by rw[e3,e5];rfl⟩
theorem zy6 {d:D} {k:List Key} {v:V} (e:zc8 d=some k) (h:Is K A H d v):∃b,v=.ref b/\H b=some (.tup (k.map kV))/\d=ze8 k:=by
 cases d with
 | tup l=>
   obtain⟨b,vs,e1,s,i⟩:=Is.tup_iff.mp h;obtain⟨e2,e3⟩:=xd0 (show ys7 l=some k from e) i;exact⟨b,e1,by rw[<-e2];exact s,by rw[e3];rfl⟩
 | _=>cases e
noncomputable def zc9 (k:List Key):List D->List D->Option D
 | d::ks,v::vs=>if zc8 d=some k then some v else zc9 k ks vs
 | _,_=>none
theorem yh1 (k:List Key):∀{kk:List (List Key)} {vs:List D} {us:List V},kk.length=us.length->IsL K A H vs us->
 (zc9 k (kk.map ze8) vs=none/\yi9 (kk.zip us) k=none)\/∃d v,zc9 k (kk.map ze8) vs=some d/\yi9 (kk.zip us) k=some v/\Is K A H d v
 | [],vs,us,hl,h=>.inl ⟨by unfold zc9;cases vs<;>rfl,rfl⟩
 | x::kk,vs,us,hl,h=>by
   cases vs with
   | nil=>rw[IsL.nil.mp h] at hl;cases hl
   | cons d vs=>
     obtain⟨v,r,e1,i1,i2⟩:=IsL.cons.mp h;subst e1;have hl':kk.length=r.length:=by simpa using hl
     by_cases e:x=k
     ·refine .inr ⟨d,v,?_,zq1 (p:=(x,v)) e,i1⟩
      show (if zc8 (ze8 x)=some k then some d else _)=some d;rw[zj0,if_pos (by rw[e])]
     ·have e':¬zc8 (ze8 x)=some k:=by rw[zj0];exact fun z=>e (Option.some.inj z)
      have a1:zc9 k ((x::kk).map ze8) (d::vs)=zc9 k (kk.map ze8) vs:=by
       show (if zc8 (ze8 x)=some k then some d else _)=_;rw[if_neg e']
      have a2:yi9 ((x::kk).zip (v::r)) k=yi9 (kk.zip r) k:=zq2 (p:=(x,v)) e;rw[a1,a2];exact yh1 k hl' i2
end
section
variable {X:Cx} {S:Type} {W:Wd S} {c:Dx W} {g ga gb:Gr} {a b:Expr} {pos:Pos} {fa fb:Fn S}
theorem xe4:DE X c g (.Dict [] [] pos) (fC S (.dct [.non] [])):=xy8.imp fun σ H Q ⟨ρ,st,R,ok,w⟩ p hp=>
 w _ _ (Ext.laid hp) (zi3 ok hp) (New.val R (Is.dct_iff.mpr ⟨p,[],rfl,⟨zo4 ok hp,hp⟩,IsL.nil.mpr rfl,.inr ⟨[],rfl,rfl,zb0⟩⟩) g)
noncomputable def xh4 (neg:Bool) (k d:D):Option D:=match d with
 | .dct (.non::ks) vs=>(zc8 k).map fun kk=>.bl (if neg then !(zc9 kk ks vs).isSome else (zc9 kk ks vs).isSome)
 | _=>none
theorem wg3 {A:Addr->Prop} {H:Hp} {K:PySem.W.Frag} {k:D} {ks vs:List D} {kk:List Key} {v1 v2:V} (hk:zc8 k=some kk) (h1:Is K A H k v1) (h2:Is K A H (.dct (.non::ks) vs) v2) :
 ∃a o,v2=.ref a/\yh7 H a v1 o/\((zc9 kk ks vs=none/\o=none)\/∃d v,zc9 kk ks vs=some d/\o=some v/\Is K A H d v):=by
 obtain⟨b,eb,hb,_⟩:=zy6 hk h1;obtain⟨a,us,ea,_,i,q⟩:=Is.dct_iff.mp h2;rcases q with⟨k1,e1,_,_⟩ | ⟨k2,e2,el,eH⟩
 ·cases k1 with
  | nil=>cases e1
  | cons z r=>
    have:D.non=xj2 z:=(List.cons.inj e1).1;cases z<;>cases this
 ·have e3:ks=k2.map ze8:=(List.cons.inj e2).2
  subst e3 eb;refine⟨a,_,ea,yh7.t eH hb,?_⟩;rcases yh1 kk el i with⟨z1,z2⟩ | ⟨d,v,z1,z2,z3⟩
  ·exact .inl ⟨z1,z2⟩
  ·exact .inr ⟨d,v,z1,z2,z3⟩
set_option tactic.hygienic true in
theorem xa9 {σ:St} {H:Hp} {Q:VK} {neg:Bool} (h:tD c g (f2 S (xh4 neg) fa fb) σ H Q):(fun σ H Q=>tD c ga fa σ H fun y H1=>tD c gb fb σ H1 fun x H2=>∃a o,x=.ref a/\yh7 H2 a y o/\Q (.bl (if neg then !o.isSome else o.isSome)) H2) σ H Q:=by
 have hr:OpD c (fun y x H2 Q=>∃a o,x=.ref a/\yh7 H2 a y o/\Q (.bl (if neg then !o.isSome else o.isSome)) H2) (xh4 neg):=by
  intro d1 d2 v1 v2 H st d Q ok z1 z2 e q;unfold xh4 at e;split at e
  ·rename_i ks vs
   cases hk:zc8 d1 with
   | none=>rw[hk] at e;cases e
   | some kk=>
     rw[hk] at e;cases e;obtain⟨a,o,ea,dg,ho⟩:=wg3 hk z1 z2;refine⟨a,o,ea,dg,?_⟩;have eo:o.isSome=(zc9 kk ks vs).isSome:=by
      rcases ho with⟨h1,h2⟩ | ⟨_,_,h1,h2,_⟩<;>rw[h1,h2]<;>rfl
     rw[eo];exact q _ H Ext.refl ok zp3
  ·cases e
 exact xl6 hr h
theorem va8 (hu:X.A.units+1<cLine) (ha:DE X c ga a fa) (hb:DE X c gb b fb) (hm:behindInMarks .In b=false:=by rfl):DE X c g (.Compare a [.In] [b] pos) (f2 S (xh4 false) fa fb):=
 (we2 (we3 hu ha hb) hm).imp fun σ H Q q=>xa9 q
theorem xt6 (hu:X.A.units+1<cLine) (ha:DE X c ga a fa) (hb:DE X c gb b fb) (hm:behindInMarks .NotIn b=false:=by rfl):DE X c g (.Compare a [.NotIn] [b] pos) (f2 S (xh4 true) fa fb):=
 (we2 (yq8 hu ha hb) hm).imp fun σ H Q q=>xa9 q
theorem wz5 (hu:X.A.units+1<cLine) (ha:DE X c ga a fa) (hb:DE X c gb b fb) (hm:behindInMarks .In b=false:=by rfl):DT X c (.Compare a [.In] [b] pos) (fB S (f2 S (xh4 false) fa fb)):=
 (wd8 (we3 hu ha hb) hm).imp fun σ H Q q=>by
  have q':tB (tD c .R (f2 S (xh4 false) fa fb)) σ H Q:=yp4 q;exact xa9 (ga:=ga) (gb:=gb) q'
end
end L2
end
section
namespace L2
open PySem PySem.Spec PyProof.Rows
noncomputable def zu7 (k:List Key) (v:D) (ks vs:List D):List D×List D:=
 if (zc9 k ks vs).isSome=true then (ks,List.zipWith (fun d u=>if zc8 d=some k then v else u) ks vs) else (ks++[ze8 k],vs++[v])
section
variable {K:PySem.W.Frag} {A:Addr->Prop} {H:Hp}
theorem xm9 {k:List Key} {d:D} {v:V} (hd:Is K A H d v):∀{kk:List (List Key)} {vs:List D} {us:List V},kk.length=us.length->IsL K A H vs us->
 ∃us',IsL K A H (List.zipWith (fun x u=>if zc8 x=some k then d else u) (kk.map ze8) vs) us'/\kk.length=us'.length/\(kk.zip us).map (fun kv=>if kv.1=k then (kv.1,v) else kv)=kk.zip us'
 | [],vs,us,hl,h=>⟨[],by simpa using IsL.nil.mpr rfl,rfl,rfl⟩
 | x::kk,vs,us,hl,h=>by
   cases vs with
   | nil=>rw[IsL.nil.mp h] at hl;cases hl
   | cons e vs=>
     obtain⟨u,r,e1,i1,i2⟩:=IsL.cons.mp h;subst e1;obtain⟨us',g1,g2,g3⟩:=xm9 hd (kk:=kk) (by simpa using hl) i2;by_cases z:x=k
     ·refine⟨v::us',?_,by simp[g2],?_⟩
      ·show IsL K A H ((if zc8 (ze8 x)=some k then d else e)::_) _
       rw[zj0,if_pos (by rw[z])];exact IsL.cons.mpr ⟨v,us',rfl,hd,g1⟩
      ·show (if x=k then (x,v) else (x,u))::_=(x,v)::kk.zip us'
       rw[if_pos z,<-g3];rfl
     ·refine⟨u::us',?_,by simp[g2],?_⟩
      ·show IsL K A H ((if zc8 (ze8 x)=some k then d else e)::_) _
       rw[zj0,if_neg (fun q=>z (Option.some.inj q))];exact IsL.cons.mpr ⟨u,us',rfl,i1,g1⟩
      ·show (if x=k then (x,v) else (x,u))::_=(x,u)::kk.zip us'
       rw[if_neg z,<-g3];rfl
theorem xu0 {k:List Key} {d:D} {v:V} (hd:Is K A H d v) {kk:List (List Key)} {vs:List D} {us:List V} (hl:kk.length=us.length) (h:IsL K A H vs us) :
 ∃(kk':List (List Key)) (us':List V),(zu7 k d (kk.map ze8) vs).1=kk'.map ze8/\IsL K A H (zu7 k d (kk.map ze8) vs).2 us'/\kk'.length=us'.length/\zv0 (kk.zip us) k v=kk'.zip us':=by
 have hv:=yh1 k hl h;unfold zu7 zv0;rw[zx2];rcases hv with⟨z1,z2⟩ | ⟨d',v',z1,z2,_⟩
 ·rw[z1,z2]
  refine⟨kk++[k],us++[v],?_,?_,?_,?_⟩
  ·simp
  ·simpa using h.append (IsL.one hd)
  ·simp[hl]
  ·simp[List.zip_append hl]
 ·rw[z1,z2]
  obtain⟨us',g1,g2,g3⟩:=xm9 (k:=k) hd hl h;exact⟨kk,us',rfl,g1,g2,g3⟩
end
theorem xd3 {k:List Key} {d:D} (hd:d.imm=true):∀{ks vs:List D},D.immL vs=true->D.immL (List.zipWith (fun x u=>if zc8 x=some k then d else u) ks vs)=true
 | [],vs,_=>by simp[D.immL]
 | x::ks,[],_=>by simp[D.immL]
 | x::ks,v::vs,h=>by
   have h':v.imm=true/\D.immL vs=true:=by simpa [D.immL] using h
   show (D.imm (if zc8 x=some k then d else v)&&D.immL _)=true;rw[xd3 hd h'.2];by_cases z:zc8 x=some k
   ·rw[if_pos z,hd];rfl
   ·rw[if_neg z,h'.1];rfl
theorem yf9 {k:List Key} {d:D} {ks vs:List D} (hd:d.imm=true) (h:D.immL vs=true):D.immL (zu7 k d ks vs).2=true:=by
 unfold zu7;split
 ·exact xd3 hd h
 ·exact zh8 h (by simp[D.immL,hd])
section
variable {X:Cx} {S:Type} {W:Wd S} {c:Dx W} {g ga gb:Gr} {a b:Expr} {fk fv:Fn S} {i:Nat}
noncomputable def zz8 (ρ:Rho) (i:Nat):Option (List D×List D):=match ρ[i]? with
 | some (.own (.dct (.non::ks) vs))=>if D.immL vs=true then some (ks,vs) else none
 | _=>none
theorem xj1 {ρ:Rho} {ks vs:List D} (h:zz8 ρ i=some (ks,vs)):ρ[i]?=some (.own (.dct (.non::ks) vs))/\D.immL vs=true:=by
 unfold zz8 at h;split at h
 ·split at h
  ·cases h;exact⟨by assumption,by assumption⟩
  ·cases h
 ·cases h
noncomputable def wd5 (S:Type) (i:Nat) (fk fv:Fn S):FnS S:=fun ρ st=>(fv ρ st).bind fun v st1=>match zz8 ρ i with
 | some (ks,vs)=>(fk ρ st1).bind fun k st2=>match zc8 k with
   | some kk=>if v.imm=true/\ks.length<sizeLine then .ok (.nx (ρ.set i (.own (.dct (.non::(zu7 kk v ks vs).1) (zu7 kk v ks vs).2)))) st2 else .bad
   | none=>.bad
 | none=>.bad
theorem zz7 {x:Str} {k value:Expr} {p1 p2 pos:Pos} (hu:X.A.units+1<cLine) (hx:PE X (.Name x p1) (yh9 i)) (hk:DE X c ga k fk) (hv:DE X c gb value fv) (hs:swapsWith value (some (.Subscript (.Name x p1) k p2)) pos.line X.env=pure false:=by rfl) :
 DS X c (.Assign [.Subscript (.Name x p1) k p2] value pos) (wd5 S i fk fv):=
 (xn5 hu hx hk hv hs).imp fun D σ H q=>by
  refine zg9 (zv4 (g:=gb) (k:=fun v ρ st1=>match zz8 ρ i with
   | some (ks,vs)=>(fk ρ st1).bind fun k st2=>match zc8 k with
     | some kk=>if v.imm=true/\ks.length<sizeLine then .ok (.nx (ρ.set i (.own (.dct (.non::(zu7 kk v ks vs).1) (zu7 kk v ks vs).2)))) st2 else .bad
     | none=>.bad
   | none=>.bad) q) fun v H1 hh=>?_
  obtain⟨ρ,d,st0,st1,R,ok,R1,ok1,e1,z,w⟩:=hh;cases hd:zz8 ρ i with
  | none=>simp only[hd] at w;exact(show False from w).elim
  | some kv=>
    obtain⟨ks,vs⟩:=kv;simp only[hd] at w;obtain⟨ho,im⟩:=xj1 hd;obtain⟨ad,ea,nn,f0,us0,_⟩:=R1.slot i _ ho;refine⟨.ref ad,zj7 ea,ρ,st1,R1,ok1,za7 (za3.mp w) (fun dk st2 q2 vk H2 e2 ok2 zk=>?_) fun x st2 q2 H2 e2 ok2=>q2 H2 ((e1.trans e2).f0 R) ok2⟩;cases hkk:zc8 dk with
    | none=>simp only[hkk] at q2;exact(show False from q2).elim
    | some kk=>
      simp only[hkk] at q2;by_cases hc:d.imm=true/\ks.length<sizeLine
      ·rw[if_pos hc] at q2
       have R2:=R1.ext ok1 e2;obtain⟨ad',ea',nn',f0',us,iu,hq⟩:=R2.slot i _ ho;have:ad'=ad:=by
        have:=(zj7 ea').symm.trans (zj7 ea);cases this;rfl
       subst this;obtain⟨bk,ebk,hbk,_⟩:=zy6 hkk (show Is c.K (fun b=>¬W.mv b) H2 dk vk from zk.toR);have zv:Is c.K (Av c σ ρ) H2 d v:=Is.ofImm hc.1 (z.toR.ext e2 ok1);rcases hq with⟨k1,x1,_,_⟩ | ⟨k2,x2,el,eH⟩
       ·cases k1 with
        | nil=>cases x1
        | cons y r=>
          have:L2.D.non=xj2 y:=(List.cons.inj x1).1;cases y<;>cases this
       ·have e3:ks=k2.map ze8:=(List.cons.inj x2).2
        subst e3;obtain⟨kk',us',g1,g2,g3,g4⟩:=xu0 (k:=kk) zv el iu;have hz:(k2.zip us).length<sizeLine:=by
         rw[List.length_zip,<-el,Nat.min_self];have:=hc.2;rw[Ab0] at this;exact this
        have dp:=wd0.t (v:=v) eH hbk hz;rw[g4] at dp;subst ebk;refine⟨ad',_,rfl,dp,?_⟩;obtain⟨R3,F3⟩:=R2.wr (d':=.dct (.non::(zu7 kk d (k2.map ze8) vs).1) (zu7 kk d (k2.map ze8) vs).2) (o:=.dT (kk'.zip us')) ho (zj7 ea') ⟨(fun u z=>by cases z),(fun ob u z=>by cases z)⟩
         fun kt=>⟨us',g2.mono kt,.inr ⟨kk',by rw[g1],g3,zb0⟩⟩
        exact q2 σ _ ((e1.trans e2).frm.trans F3) (ya4 ok2 nn.1) R3
      ·rw[if_neg hc] at q2;exact(show False from q2).elim
end
end L2
end
section
namespace L2
open PySem PySem.Spec PyProof.Rows
section
variable {X:Cx} {S:Type} {W:Wd S} {c:Dx W} {g ga gb:Gr}
noncomputable def xb4 (K:PySem.W.Frag):R2:=fun x y H Q=>∃a b ys,x=.ref a/\y=.ref b/\SqT K H a []/\SqT K H b ys/\Q (.ref b) H
theorem xz2:OpR X (binaryOp .Add) (xb4 X.K):=by
 intro pins s σ H x y v u Q I rx ry h;obtain⟨a,b,ys,rfl,rfl,ha,hb,q⟩:=h;cases rx;cases ry;obtain⟨its,r1,p1,_⟩:=I.tuple ha;obtain⟨its2,r2,p2,_⟩:=I.tuple hb;cases r1;obtain⟨⟨cls,dd,data,sl⟩,ho,hc,n,hd⟩:=id p1;obtain⟨⟨cls2,dd2,data2,sl2⟩,ho2,hc2,n2,hd2⟩:=id p2;simp only at hc hd hc2 hd2;subst hc hd hc2 hd2;exact concat_meets ⟨_,ho,rfl⟩ ⟨_,ho2,rfl⟩ noFill_tuple_add seq_tuple_add PySem.F.slot_tuple_add PySem.F.entry_tuple_add (PySem.F.args_tuple_add_2 _ _) (tuple_addW0 a b _ its2.toArray n n2 dd dd2 sl sl2 rfl) ⟨ho,ho2,⟨.ref b,H,I,rfl,q⟩⟩
noncomputable def xp6:D->D->Option D
 | .tup [],.tup m=>if D.immL m=true then some (.tup m) else none
 | _,_=>none
set_option tactic.hygienic true in
theorem xz4 {K:PySem.W.Frag}:OpD c (xb4 K) xp6:=by
 intro d1 d2 v1 v2 H st d Q ok z1 z2 e q;unfold xp6 at e;split at e
 ·rename_i m
  split at e
  ·rename_i im
   cases e;obtain⟨a,vs,ea,s1,i1⟩:=Is.tup_iff.mp z1;obtain⟨b,us,eb,s2,i2⟩:=Is.tup_iff.mp z2;rw[IsL.nil.mp i1] at s1;refine⟨a,b,us,ea,eb,.of s1,.of s2,?_⟩;rw[<-eb];exact q _ H Ext.refl ok (Is.ofImm (by show D.immL m=true;exact im) z2)
  ·cases e
 ·cases e
noncomputable def wu4 (S:Type) (i:Nat) (fk fv:Fn S):FnS S:=fun ρ st=>(fv ρ st).bind fun v st1=>match zj1 ρ i with
 | some l=>(fk ρ st1).bind fun k st2=>match k with
   | .int j=>match ixN l.length j with
     | some n=>if v.imm=true then .ok (.nx (ρ.set i (.own (.lst (l.set n v))))) st2 else .bad
     | none=>.bad
   | _=>.bad
 | none=>.bad
theorem xj0 {x:Str} {k value:Expr} {fk fv:Fn S} {i:Nat} {p1 p2 pos:Pos} (hx:PE X (.Name x p1) (yh9 i)) (hk:DE X c ga k fk) (hv:DE X c gb value fv)
 (h:∀{tk tv:TE},PE X k tk->PE X value tv->PS X (.Assign [.Subscript (.Name x p1) k p2] value pos) (wj3 tv (wf5 (yh9 i) tk yq1))):DS X c (.Assign [.Subscript (.Name x p1) k p2] value pos) (wu4 S i fk fv):=
 (h hk hv).imp fun D σ H q=>by
  refine zg9 (zv4 (g:=gb) (k:=fun v ρ st1=>match zj1 ρ i with
   | some l=>(fk ρ st1).bind fun k st2=>match k with
     | .int j=>match ixN l.length j with
       | some n=>if v.imm=true then .ok (.nx (ρ.set i (.own (.lst (l.set n v))))) st2 else .bad
       | none=>.bad
     | _=>.bad
   | none=>.bad) q) fun v H1 hh=>?_
  obtain⟨ρ,d,st0,st1,R,ok,R1,ok1,e1,z,w⟩:=hh;cases hd:zj1 ρ i with
  | none=>simp only[hd] at w;exact(show False from w).elim
  | some l=>
    simp only[hd] at w;obtain⟨ad,vs,ea,eH,zz,nm⟩:=R1.lstAt hd;refine⟨.ref ad,ea,ρ,st1,R1,ok1,za7 (za3.mp w) (fun dk st2 q2 vk H2 e2 ok2 zk=>?_) fun x st2 q2 H2 e2 ok2=>q2 H2 ((e1.trans e2).f0 R) ok2⟩;cases dk with
    | int j=>
      have zj:vk=.int j:=Is.int_iff.mp (show Is c.K (fun b=>¬W.mv b) H2 (.int j) vk from zk.toR);cases hn:ixN l.length j with
      | none=>simp only[hn] at q2;exact(show False from q2).elim
      | some n=>
        simp only[hn] at q2;by_cases hc:d.imm=true
        ·rw[if_pos hc] at q2
         have R2:=R1.ext ok1 e2;have eH2:=e2 ad _ eH nm;have z2:IsL c.K (Av c σ ρ) H2 l vs:=zz.mono (e2.keepT ok1 fun b a=>⟨a.1,a⟩);have zv:Is c.K (Av c σ ρ) H2 d v:=Is.ofImm hc (z.toR.ext e2 ok1);refine⟨ad,vs,j,n,rfl,zj,eH2,by rw[<-z2.length];exact hn,?_⟩;obtain⟨R3,F3⟩:=R2.wr (d':=.lst (l.set n d)) (o:=.lst (vs.set n v)) (zt9 hd) ea ⟨(fun u z=>by cases z),(fun ob u z=>by cases z)⟩ fun kt=>⟨_,zb0,(z2.set n zv).mono kt⟩
         exact q2 σ _ ((e1.trans e2).frm.trans F3) (ya4 ok2 nm) R3
        ·rw[if_neg hc] at q2;exact(show False from q2).elim
    | _=>exact(show False from q2).elim
end
end L2
end
section
namespace PySem
structure Wlk (prog:Program) (w:World) (it l:Addr) (xs:List Value) (P:Nat->Heap->Prop):Prop where
 keep:∀k h h',P k h->(∀b o,b=it\/b=l->h.get? b=some o->h'.get? b=some o)->P k h'
 item:∀(A:Around) (E:Value->Shared->Prop) (s:Shared) (k:Nat) (x:Value) (Q:Value->Shared->Prop),P k s.heap->xs[k]?=some x->
  (∀h',P (k+1) h'->Heap.SameBut it s.heap h'->Q x { s with heap:=h' })->wpAny (model prog w) A (Builtin.SmallTypes.nextOf (.ref it)) Q E s
 stop:∀(A:Around) (E:Value->Shared->Prop) (s:Shared) (k:Nat) (Q:Value->Shared->Prop),A.handled=none->P k s.heap->xs[k]?=none->
  (∀h' e,Heap.ExtBut it s.heap h'->(∃o,h'.get? e=some o/\o.cls=.type "StopIteration")->E (.ref e) { s with heap:=h' })->wpAny (model prog w) A (Builtin.SmallTypes.nextOf (.ref it)) Q E s
section
variable {prog:Program} {w:World} {it l:Addr} {xs:List Value}
theorem Wlk.tup (hne:it≠l):Wlk prog w it l xs (fun k h=>h.IsTupleIter it l k/\h.IsTuple l xs.toArray) where
 keep:=fun k h h' ⟨a,b⟩ q=>⟨a.at fun o e=>q it o (.inl rfl) e,by
  obtain⟨o,ho,r⟩:=b;exact⟨o,q l o (.inr rfl) ho,r⟩⟩
 item:=fun A E s k x Q ⟨a,b⟩ hx hQ=>zp2 a b (by simpa using hx) fun h' a' sb=>hQ h' ⟨a',by
  obtain⟨o,ho,r⟩:=b;exact⟨o,sb.extBut l o hne.symm ho,r⟩⟩ sb
 stop:=fun A E s k Q hh ⟨a,b⟩ hx hE=>zr5 hh a b (by simpa using hx) hE
theorem Wlk.lst (hne:it≠l):Wlk prog w it l xs (fun k h=>h.IsListIter it l k/\h.IsList l xs.toArray) where
 keep:=fun k h h' ⟨a,b⟩ q=>⟨a.at fun o e=>q it o (.inl rfl) e,b.at fun o e=>q l o (.inr rfl) e⟩
 item:=fun A E s k x Q ⟨a,b⟩ hx hQ=>wpAny_nextOf_list_item a b (by simpa using hx) fun h' a' sb=>hQ h' ⟨a',b.extBut sb.extBut hne.symm⟩ sb
 stop:=fun A E s k Q hh ⟨a,b⟩ hx hE=>wpAny_nextOf_list_end hh a b (by simpa using hx) hE
end
section
variable {prog:Program} {w:World} {A:Around} {E:Value->Shared->Prop} {s:Shared} {z TI TO i1 i2 l1 l2:Addr} {xs ys:List Value} {P1 P2:Nat->Heap->Prop} {k:Nat} {x y a b:Value}
structure ZAp (z TI TO i1 i2 l1 l2:Addr):Prop where
 zTI:z≠TI
 zTO:z≠TO
 z1:z≠i1
 z2:z≠i2
 io:TI≠TO
 I1:TI≠i1
 I2:TI≠i2
 O1:TO≠i1
 O2:TO≠i2
 ii:i1≠i2
 lz1:l1≠z
 lo1:l1≠TO
 li1:l1≠i2
 lz2:l2≠z
 lo2:l2≠TO
 li2:l2≠i1
theorem Wlk.ext {it l:Addr} {xs:List Value} {P:Nat->Heap->Prop} (W:Wlk prog w it l xs P) {k:Nat} {h h':Heap} {c:Addr} (p:P k h) (e:Heap.ExtBut c h h') (n1:it≠c) (n2:l≠c):P k h':=
 W.keep k h h' p fun b o hb q=>by
  rcases hb with r | r
  ·subst r;exact e _ o n1 q
  ·subst r;exact e _ o n2 q
theorem xw3 {Q:Value->Shared->Prop} (W1:Wlk prog w i1 l1 xs P1) (W2:Wlk prog w i2 l2 ys P2) (D:ZAp z TI TO i1 i2 l1 l2) (hz:IsZip s.heap z TI TO .none) (hTI:IsPair s.heap TI (.ref i1) (.ref i2)) (hTO:IsPair s.heap TO a b)
 (p1:P1 k s.heap) (p2:P2 k s.heap) (hx:xs[k]?=some x) (hy:ys[k]?=some y)
 (hQ:∀h',IsZip h' z TI TO (rawInt s.heap.objs.size)->IsPair h' TO x y->P1 (k+1) h'->P2 (k+1) h'->IsPair h' s.heap.objs.size x y->h'.objs.size=s.heap.objs.size+1->
  (∀c o,c∉[z,TO,i1,i2]->s.heap.get? c=some o->h'.get? c=some o)->Q (.ref s.heap.objs.size) { s with heap:=h' }) :
 wpAny (model prog w) A (Builtin.«zip.__next__» ⟨[.ref z],[]⟩) (fun fin s'=>∃v,fin=.done (.ret v)/\Q v s') E s:=by
 show wpAny (model prog w) A (field (.ref z) 2 >>= fun _=>_) _ _ s;refine wpAny_bind (wpAny_field hz rfl (x:=.bool false) rfl ?_);show wpAny (model prog w) A (field (.ref z) 3 >>= fun _=>_) _ _ s;refine wpAny_bind (wpAny_field hz rfl (x:=.ref TI) rfl (wpAny_bind (wpAny_seqItems hTI rfl ?_)));show wpAny (model prog w) A (Builtin.SmallTypes.ownedTupleIsFree (.ref z) >>= fun _=>_) _ _ s;refine wpAny_bind ?_;unfold Builtin.SmallTypes.ownedTupleIsFree;refine wpAny_bind (wpAny_field hz rfl (x:=.none) rfl (wpAny_pure ?_));rw[if_pos rfl];refine wpAny_bind (wpAny_rule (wpAny_bind (wpAny_field hz rfl (x:=.ref TO) rfl (wpAny_bind (wpAny_setField_rec hz (by simp) fun g1 z1 c1=>?_)))));have z1:IsZip g1 z TI TO .ellipsis:=z1;have c1:Heap.SameBut z s.heap g1:=c1;refine wpAny_bind ?_;simp only[List.zipIdx_cons,List.zipIdx_nil,List.forIn_cons,List.forIn_nil];refine wpAny_bind (wpAny_bind (wpAny_onRaise ?_));show wpAny (model prog w) _ (Builtin.SmallTypes.nextOf (.ref i1) >>= fun _=>_) _ _ _;refine wpAny_bind (W1.item _ _ _ k x _ (W1.ext p1 c1.extBut D.z1.symm D.lz1) hx fun g2 q1 c2=>wpAny_pure ?_);have c2:Heap.SameBut i1 g1 g2:=c2;have t2:IsPair g2 TO a b:=c2.extBut _ _ D.O1 (c1.extBut _ _ D.zTO.symm hTO);refine wpAny_bind (wpAny_seqItems t2 rfl (wpAny_bind (wpAny_updateSeq_pair t2 fun g3 t3 c3=>?_)));have t3:IsPair g3 TO x b:=t3;have c3:Heap.SameBut TO g2 g3:=c3;refine wpAny_bind (wpAny_letGo (wpAny_pure (wpAny_bind (wpAny_bind (wpAny_onRaise ?_)))));show wpAny (model prog w) _ (Builtin.SmallTypes.nextOf (.ref i2) >>= fun _=>_) _ _ _;have p2':P2 k g3:=W2.ext (W2.ext (W2.ext p2 c1.extBut D.z2.symm D.lz2) c2.extBut D.ii.symm D.li2) c3.extBut D.O2.symm D.lo2;refine wpAny_bind (W2.item _ _ _ k y _ p2' hy fun g4 q2 c4=>wpAny_pure ?_);have c4:Heap.SameBut i2 g3 g4:=c4;have t4:IsPair g4 TO x b:=c4.extBut _ _ D.O2 t3;refine wpAny_bind (wpAny_seqItems t4 rfl (wpAny_bind (wpAny_updateSeq_pair t4 fun g5 t5 c5=>?_)));have t5:IsPair g5 TO x y:=t5;have c5:Heap.SameBut TO g4 g5:=c5;refine wpAny_bind (wpAny_letGo (wpAny_pure (wpAny_pure (wpAny_bind (wpAny_seqItems t5 rfl (wpAny_bind (wpAny_newTuple ?_)))))));have sz:g5.objs.size=s.heap.objs.size:=by rw[c5.1,c4.1,c3.1,c2.1,c1.1]
 have k5:∀c o,c∉[z,TO,i1,i2]->s.heap.get? c=some o->g5.get? c=some o:=fun c o n e=>by
  simp only[Ah0,Bb0,or_false,not_or] at n;exact c5.extBut _ _ n.2.1 (c4.extBut _ _ n.2.2.2 (c3.extBut _ _ n.2.1 (c2.extBut _ _ n.2.2.1 (c1.extBut _ _ n.1 e))))
 have z5:IsZip g5 z TI TO .ellipsis:=c5.extBut _ _ D.zTO (c4.extBut _ _ D.z2 (c3.extBut _ _ D.zTO (c2.extBut _ _ D.z1 z1)));have r1:P1 (k+1) g5:=W1.ext (W1.ext (W1.ext q1 c3.extBut D.O1.symm D.lo1) c4.extBut D.ii D.li1) c5.extBut D.O1.symm D.lo1;have r2:P2 (k+1) g5:=W2.ext q2 c5.extBut D.O2.symm D.lo2;show wpAny (model prog w) A (Builtin.SmallTypes.ownedTupleHandOut (.ref z) (.ref g5.objs.size) >>= fun _=>_) _ _ _;refine wpAny_bind ?_;unfold Builtin.SmallTypes.ownedTupleHandOut;have z6:IsZip (g5.push { cls:=.type "tuple",data:=.seq #[x,y] }) z TI TO .ellipsis:=Aa0 _ z5;have lt:z<g5.objs.size:=Heap.lt_size z5;have n5:(g5.push { cls:=.type "tuple",data:=.seq #[x,y] }).get? g5.objs.size=some { cls:=.type "tuple",data:=.seq #[x,y] }:=Ad0 _ rfl;refine wpAny_bind (wpAny_setField_rec z6 (by simp) fun g7 z7 c7=>?_);have z7:IsZip g7 z TI TO (rawInt g5.objs.size):=z7;have c7:Heap.SameBut z (g5.push { cls:=.type "tuple",data:=.seq #[x,y] }) g7:=c7;refine wpAny_setField_rec z7 (by simp) fun g8 z8 c8=>wpAny_pure ⟨_,rfl,?_⟩
 have z8:IsZip g8 z TI TO (rawInt g5.objs.size):=z8;have c8:Heap.SameBut z g7 g8:=c8;have up:∀c o,c≠z->g5.get? c=some o->g8.get? c=some o:=fun c o n e=>c8.extBut _ _ n (c7.extBut _ _ n (Aa0 _ e))
 have ex:Heap.ExtBut z g5 g8:=fun c o n e=>up c o n e
 have t8:IsPair g8 g5.objs.size x y:=c8.extBut _ _ (Nat.ne_of_gt lt) (c7.extBut _ _ (Nat.ne_of_gt lt) n5);have s8:g8.objs.size=g5.objs.size+1:=by rw[c8.1,c7.1,Au0]
 show Q (.ref g5.objs.size) _;rw[sz] at z8 t8 s8 ⊢;exact hQ g8 z8 (up _ _ D.zTO.symm t5) (W1.ext r1 ex D.z1.symm D.lz1) (W2.ext r2 ex D.z2.symm D.lz2) t8 s8 fun c o n e=>up c o (fun h=>n (by simp[h])) (k5 c o n e)
theorem xw4 {Q:Fin->Shared->Prop} (hh:A.handled=none) (W1:Wlk prog w i1 l1 xs P1) (W2:Wlk prog w i2 l2 ys P2) (D:ZAp z TI TO i1 i2 l1 l2) (hz:IsZip s.heap z TI TO .none) (hTI:IsPair s.heap TI (.ref i1) (.ref i2)) (hTO:IsPair s.heap TO a b)
 (p1:P1 k s.heap) (p2:P2 k s.heap) (hend:xs[k]?=none\/ys[k]?=none)
 (hE:∀h' e,(∀c o,c∉[z,TO,i1,i2]->s.heap.get? c=some o->h'.get? c=some o)->(∃o,h'.get? e=some o/\o.cls=.type "StopIteration")->E (.ref e) { s with heap:=h' }) :
 wpAny (model prog w) A (Builtin.«zip.__next__» ⟨[.ref z],[]⟩) Q E s:=by
 have nz:∀{h:Heap} {e:Addr} {f0:Value} {o:Obj},IsZip h z TI TO f0->h.get? e=some o->o.cls=.type "StopIteration"->e≠z:=fun {h e f0 o} q1 q2 q3 q4=>by
  subst q4;rw[q1] at q2;cases q2;simp at q3
 show wpAny (model prog w) A (field (.ref z) 2 >>= fun _=>_) _ _ s;refine wpAny_bind (wpAny_field hz rfl (x:=.bool false) rfl ?_);show wpAny (model prog w) A (field (.ref z) 3 >>= fun _=>_) _ _ s;refine wpAny_bind (wpAny_field hz rfl (x:=.ref TI) rfl (wpAny_bind (wpAny_seqItems hTI rfl ?_)));show wpAny (model prog w) A (Builtin.SmallTypes.ownedTupleIsFree (.ref z) >>= fun _=>_) _ _ s;refine wpAny_bind ?_;unfold Builtin.SmallTypes.ownedTupleIsFree;refine wpAny_bind (wpAny_field hz rfl (x:=.none) rfl (wpAny_pure ?_));rw[if_pos rfl];refine wpAny_bind (wpAny_rule (wpAny_bind (wpAny_field hz rfl (x:=.ref TO) rfl (wpAny_bind (wpAny_setField_rec hz (by simp) fun g1 z1 c1=>?_)))));have z1:IsZip g1 z TI TO .ellipsis:=z1;have c1:Heap.SameBut z s.heap g1:=c1;refine wpAny_bind ?_;simp only[List.zipIdx_cons,List.zipIdx_nil,List.forIn_cons,List.forIn_nil];refine wpAny_bind (wpAny_bind (wpAny_onRaise ?_));show wpAny (model prog w) _ (Builtin.SmallTypes.nextOf (.ref i1) >>= fun _=>_) _ _ _;have p1':P1 k g1:=W1.ext p1 c1.extBut D.z1.symm D.lz1;cases hx:xs[k]? with
 | none=>
   refine wpAny_bind (W1.stop _ _ _ k _ hh p1' hx fun g2 e c2 he=>?_);obtain⟨oe,ho,hc⟩:=he;have z2:IsZip g2 z TI TO .ellipsis:=c2 _ _ D.z1 z1;refine wpAny_setField_rec z2 (by simp) fun g3 _ c3=>hE g3 e (fun c o n q=>?_) ⟨oe,c3.extBut _ _ (nz z2 ho hc) ho,hc⟩
   simp only[Ah0,Bb0,or_false,not_or] at n;exact c3.extBut _ _ n.1 (c2 _ _ n.2.2.1 (c1.extBut _ _ n.1 q))
 | some x=>
   have hy:ys[k]?=none:=by
    rcases hend with h | h
    ·rw[hx] at h;cases h
    ·exact h
   refine wpAny_bind (W1.item _ _ _ k x _ p1' hx fun g2 q1 c2=>wpAny_pure ?_);have c2:Heap.SameBut i1 g1 g2:=c2;have t2:IsPair g2 TO a b:=c2.extBut _ _ D.O1 (c1.extBut _ _ D.zTO.symm hTO);refine wpAny_bind (wpAny_seqItems t2 rfl (wpAny_bind (wpAny_updateSeq_pair t2 fun g3 t3 c3=>?_)));have c3:Heap.SameBut TO g2 g3:=c3;refine wpAny_bind (wpAny_letGo (wpAny_pure (wpAny_bind (wpAny_bind (wpAny_onRaise ?_)))));show wpAny (model prog w) _ (Builtin.SmallTypes.nextOf (.ref i2) >>= fun _=>_) _ _ _;have p2':P2 k g3:=W2.ext (W2.ext (W2.ext p2 c1.extBut D.z2.symm D.lz2) c2.extBut D.ii.symm D.li2) c3.extBut D.O2.symm D.lo2;refine wpAny_bind (W2.stop _ _ _ k _ hh p2' hy fun g4 e c4 he=>?_);obtain⟨oe,ho,hc⟩:=he;have z4:IsZip g4 z TI TO .ellipsis:=c4 _ _ D.z2 (c3.extBut _ _ D.zTO (c2.extBut _ _ D.z1 z1));refine wpAny_setField_rec z4 (by simp) fun g5 _ c5=>hE g5 e (fun c o n q=>?_) ⟨oe,c5.extBut _ _ (nz z4 ho hc) ho,hc⟩
   simp only[Ah0,Bb0,or_false,not_or] at n;exact c5.extBut _ _ n.1 (c4 _ _ n.2.2.2 (c3.extBut _ _ n.2.1 (c2.extBut _ _ n.2.2.1 (c1.extBut _ _ n.1 q))))
end
end PySem
end
section
namespace PySem
noncomputable def zO (nm:String) (l:Addr):Obj:={ cls:=.type nm,data:=.fields #[.ref l,.int 0 0] }
noncomputable def zA (nm:String) (h:Heap) (l1 l2:Addr):Heap:=(h.push (zO nm l1)).push (zO nm l2)
noncomputable def zB (nm:String) (h:Heap) (l1 l2:Addr):Heap:=((zA nm h l1 l2).push { cls:=.type "tuple",data:=.seq #[.ref h.objs.size,.ref (h.push (zO nm l1)).objs.size] }).push { cls:=.type "tuple",data:=.seq #[.none,.none] }
noncomputable def zC (nm:String) (h:Heap) (l1 l2:Addr):Heap:=(zB nm h l1 l2).push { cls:=.type "zip",data:=.fields #[.none,.bool false,.bool false,.ref (zA nm h l1 l2).objs.size,.ref ((zA nm h l1 l2).push { cls:=.type "tuple",data:=.seq #[.ref h.objs.size,.ref (h.push (zO nm l1)).objs.size] }).objs.size] }
theorem xh5 (l1 l2:Addr) (xs ys:Array Value) :
 Meets (Builtin.«zip.__new__» ⟨[.type "zip",.ref l1,.ref l2],[]⟩) (fun _ R s=>s.heap.IsTuple l1 xs/\s.heap.IsTuple l2 ys/\
  R (.ok (.ret (.ref (zB "tuple_iterator" s.heap l1 l2).objs.size))) { s with heap:=zC "tuple_iterator" s.heap l1 l2 }):=
 .of_wp fun prog w A R s h=>by
  obtain⟨hp,g,d,tk,os⟩:=s;obtain⟨hl1,hl2,h⟩:=h;have hsub:=sub_zip;have hL1:Heap.IsTuple (Shared.heap ⟨hp,g,d,tk,os⟩) l1 xs:=hl1;have hL2:Heap.IsTuple (Shared.heap ⟨hp.push { cls:=.type "tuple_iterator",data:=.fields #[.ref l1,.int 0 0] },g,d,tk,os⟩) l2 ys:=by
   obtain⟨o,ho,r⟩:=hl2;exact⟨o,Aa0 _ ho,r⟩
  wp_walk using wpAny_pyIter_tuple hL1,wpAny_pyIter_tuple hL2
  exact⟨_,rfl,h⟩
theorem xa2 (nm:String) (h:Heap) (l1 l2:Addr):(h.push (zO nm l1)).objs.size=h.objs.size+1/\(zA nm h l1 l2).objs.size=h.objs.size+2/\(zB nm h l1 l2).objs.size=h.objs.size+4:=by
 refine⟨Au0 ..,?_,?_⟩
 ·unfold zA;rw[Au0,Au0]
 ·unfold zB zA;rw[Au0,Au0,Au0,Au0]
theorem xa3 (nm:String) (h:Heap) (l1 l2:Addr):IsZip (zC nm h l1 l2) (h.objs.size+4) (h.objs.size+2) (h.objs.size+3) .none/\IsPair (zC nm h l1 l2) (h.objs.size+2) (.ref h.objs.size) (.ref (h.objs.size+1))/\
 IsPair (zC nm h l1 l2) (h.objs.size+3) .none .none/\(zC nm h l1 l2).get? h.objs.size=some (zO nm l1)/\(zC nm h l1 l2).get? (h.objs.size+1)=some (zO nm l2)/\∀c o,h.get? c=some o->(zC nm h l1 l2).get? c=some o:=by
 obtain⟨s1,s2,s4⟩:=xa2 nm h l1 l2;have s3:((zA nm h l1 l2).push { cls:=.type "tuple",data:=.seq #[.ref h.objs.size,.ref (h.push (zO nm l1)).objs.size] }).objs.size=h.objs.size+3:=by rw[Au0,s2]
 have u:∀{c:Addr} {o:Obj},(zB nm h l1 l2).get? c=some o->(zC nm h l1 l2).get? c=some o:=fun {c o} q=>Aa0 _ q
 have v:∀{c:Addr} {o:Obj},(zA nm h l1 l2).get? c=some o->(zC nm h l1 l2).get? c=some o:=fun {c o} q=>u (Aa0 _ (Aa0 _ q))
 refine⟨?_,?_,?_,v (Aa0 _ (Ad0 _ rfl)),?_,fun c o q=>v (Aa0 _ (Aa0 _ q))⟩
 ·have q:(zC nm h l1 l2).get? (zB nm h l1 l2).objs.size=some _:=Ad0 _ rfl
  rw[s4,s3,s2] at q;exact q
 ·have q:(zC nm h l1 l2).get? (zA nm h l1 l2).objs.size=some _:=u (Aa0 _ (Ad0 _ rfl))
  rw[s2,s1] at q;exact q
 ·have q:(zC nm h l1 l2).get? ((zA nm h l1 l2).push { cls:=.type "tuple",data:=.seq #[.ref h.objs.size,.ref (h.push (zO nm l1)).objs.size] }).objs.size=some _:=u (Ad0 _ rfl)
  rw[s3] at q;exact q
 ·have q:(zA nm h l1 l2).get? (h.push (zO nm l1)).objs.size=some (zO nm l2):=Ad0 _ rfl
  rw[s1] at q;exact v q
section
variable {prog:Program} {w:World} {A:Around} {E:Value->Shared->Prop} {s:Shared}
theorem xu7 {l1 l2:Addr} {xs ys:Array Value} {Q:Value->Shared->Prop} (hl1:s.heap.IsTuple l1 xs) (hl2:s.heap.IsTuple l2 ys)
 (h:Q (.ref (s.heap.objs.size+4)) { s with heap:=zC "tuple_iterator" s.heap l1 l2 }):wpAny (model prog w) A (call (.type "zip") [.ref l1,.ref l2]) Q E s:=by
 refine callType_new F.called_zip (by decide) (F.typeCall_zip_2 _ _) (F.newCall_zip_2 _ _) (fun obj=>F.args_object_init_3 obj _ _) F.entry_zip_new (xh5 l1 l2 xs ys) ⟨hl1,hl2,?_⟩;obtain⟨q,_⟩:=xa3 "tuple_iterator" s.heap l1 l2;show _/\_;rw[(xa2 "tuple_iterator" s.heap l1 l2).2.2];exact⟨⟨_,q,rfl⟩,h⟩
theorem xu9 {l1 l2:Addr} {xs ys:Array Value} {Q:Value->Shared->Prop} (hl1:s.heap.IsList l1 xs) (hl2:s.heap.IsList l2 ys)
 (h:Q (.ref (s.heap.objs.size+4)) { s with heap:=zC "list_iterator" s.heap l1 l2 }):wpAny (model prog w) A (call (.type "zip") [.ref l1,.ref l2]) Q E s:=by
 refine callType_new F.called_zip (by decide) (F.typeCall_zip_2 _ _) (F.newCall_zip_2 _ _) (fun obj=>F.args_object_init_3 obj _ _) F.entry_zip_new (meets_zip_new l1 l2 xs ys) ⟨hl1,hl2,?_⟩;obtain⟨q,_⟩:=xa3 "list_iterator" s.heap l1 l2;show _/\_;refine⟨⟨{ cls:=.type "zip",data:=.fields #[.none,.bool false,.bool false,.ref (s.heap.objs.size+2),.ref (s.heap.objs.size+3)] },?_,rfl⟩,?_⟩
 ·rw[show (zipH4 s.heap l1 l2).objs.size=s.heap.objs.size+4 from (xa2 "list_iterator" s.heap l1 l2).2.2];exact q
 ·rw[show (zipH4 s.heap l1 l2).objs.size=s.heap.objs.size+4 from (xa2 "list_iterator" s.heap l1 l2).2.2];exact h
end
end PySem
namespace L2
open PySem PySem.Spec PyProof.Rows
noncomputable def Izp (Sq:Hp->List V->List V->Prop):It:=
 ⟨fun i H=>∃xs ys x y,Sq H xs ys/\xs[i]?=some x/\ys[i]?=some y,fun i H v H'=>∃p x y,H p=none/\v=.ref p/\H'=upd H p (.tup [x,y])/\∀xs ys,Sq H xs ys->xs[i]?=some x/\ys[i]?=some y,fun i H=>∃xs ys,Sq H xs ys/\(xs.length<=i\/ys.length<=i)⟩
structure ZW (P:Program) (w:World) (K:PySem.W.Frag) (l1 l2 i1 i2:Addr) (Sq:Hp->List V->List V->Prop) (T1 T2:Nat->Heap->Prop):Prop where
 obj:∀k h,(T1 k h->∃o,h.get? i1=some o/\∀v,o.data≠.cell v)/\(T2 k h->∃o,h.get? i2=some o/\∀v,o.data≠.cell v)
 keep:∀k h h',(T1 k h->(∀o,h.get? i1=some o->h'.get? i1=some o)->T1 k h')/\(T2 k h->(∀o,h.get? i2=some o->h'.get? i2=some o)->T2 k h')
 there:∀H xs ys,Sq H xs ys->H l1≠none/\H l2≠none
 vals:∀(X:Cx),X.K=K->∀pins σ H s xs ys,Inv X pins σ H s->Sq H xs ys->i1≠l1->i2≠l2->∃us vs,zf8 xs us/\zf8 ys vs/\(∀xs' ys',Sq H xs' ys'->xs'=xs/\ys'=ys)/\∃P1 P2:Nat->Heap->Prop,Wlk P w i1 l1 us P1/\Wlk P w i2 l2 vs P2/\
  (∀k,T1 k s.heap->P1 k s.heap)/\(∀k,T2 k s.heap->P2 k s.heap)/\∀k h,(P1 k h->T1 k h)/\(P2 k h->T2 k h)
theorem nd5 {a b c d e:Addr} (h:[a,b,c,d,e].Nodup):(a≠b/\a≠c/\a≠d/\a≠e)/\(b≠c/\b≠d/\b≠e)/\(c≠d/\c≠e)/\d≠e:=by
 simpa only[Bx0,Ah0,Bb0,or_false,not_or,List.nodup_nil,and_true,not_false_eq_true] using h
theorem vj3 {x a b c d e:Addr} (h:x∈[a,b,c,d,e]):x=a\/x=b\/x=c\/x=d\/x=e:=by
 simpa only[Ah0,Bb0,or_false] using h
theorem nm5 {x a b c d e:Addr} (h:x∉[a,b,c,d,e]):x≠a/\x∉[a,c,d,e]:=by
 simp only[Ah0,Bb0,or_false,not_or] at h ⊢;exact⟨h.1,h.1,h.2.2⟩
theorem nm4 {x a b c d:Addr} (h1:x≠a) (h2:x≠b) (h3:x≠c) (h4:x≠d):x∉[a,b,c,d]:=by
 simp only[Ah0,Bb0,or_false,not_or];exact⟨h1,h2,h3,h4⟩
theorem vg1 {x a b c d e:Addr} (h:x∈[a,c,d,e]):x∈[a,b,c,d,e]:=by
 simp only[Ah0,Bb0,or_false] at h ⊢;rcases h with r | r | r | r
 ·exact .inl r
 ·exact .inr (.inr (.inl r))
 ·exact .inr (.inr (.inr (.inl r)))
 ·exact .inr (.inr (.inr (.inr r)))
set_option tactic.hygienic true in
theorem yl6 {P:Program} {w:World} {K:PySem.W.Frag} {elts:List Expr} {x1} {pos:Pos} {l1 l2 z TI TO i1 i2:Addr} {Sq:Hp->List V->List V->Prop} {T1 T2:Nat->Heap->Prop} (Z:ZW P w K l1 l2 i1 i2 Sq T1 T2)
 (nd:[z,TI,TO,i1,i2].Nodup):wr0 P w K (.Tuple elts x1 pos) (Izp Sq) [z,TI,TO,i1,i2] z (fun i h=>IsZip h z TI TO .none/\IsPair h TI (.ref i1) (.ref i2)/\(∃a b,IsPair h TO a b)/\T1 i h/\T2 i h) where
 mem:=by simp
 obj:=fun i h st b hb=>by
  obtain⟨h1,h2,⟨_,_,h3⟩,h4,h5⟩:=st;have nc:∀{d:Data} {v:Option Value},d=Data.cell v->(∃u,d=.fields u)\/(∃u n,d=.seq u n)->False:=fun e q=>by
   subst e;rcases q with⟨u,q⟩ | ⟨u,n,q⟩<;>cases q
  have hb:=vj3 hb;rcases hb with r | r | r | r | r
  ·subst r;exact⟨_,h1,fun v e=>nc (v:=v) e (.inl ⟨_,rfl⟩)⟩
  ·subst r;exact⟨_,h2,fun v e=>nc (v:=v) e (.inr ⟨_,_,rfl⟩)⟩
  ·subst r;exact⟨_,h3,fun v e=>nc (v:=v) e (.inr ⟨_,_,rfl⟩)⟩
  ·subst r;exact(Z.obj i h).1 h4
  ·subst r;exact(Z.obj i h).2 h5
 keep:=fun i h h' st q=>by
  obtain⟨h1,h2,⟨a,b,h3⟩,h4,h5⟩:=st;exact⟨q _ (by simp) _ h1,q _ (by simp) _ h2,⟨a,b,q _ (by simp) _ h3⟩,(Z.keep i h h').1 h4 fun o e=>q _ (by simp) o e,(Z.keep i h h').2 h5 fun o e=>q _ (by simp) o e⟩
 item:=by
  intro X hP hw hK hc i pins s σ H E I hf st hg;subst hP hw;obtain⟨xs,ys,x,y,hq,hx,hy⟩:=hg;obtain⟨h1,h2,⟨a,b,h3⟩,h4,h5⟩:=st;obtain⟨n1,n2⟩:=Z.there H xs ys hq;have no:∀c∈[z,TI,TO,i1,i2],l1≠c/\l2≠c:=fun c hb=>⟨fun e=>n1 (by rw[e];exact(hf c hb).1),fun e=>n2 (by rw[e];exact(hf c hb).1)⟩
  obtain⟨us,vs,ru,rv,inj,P1,P2,W1,W2,p1,p2,pt⟩:=Z.vals X hK pins σ H s xs ys I hq (no i1 (by simp)).1.symm (no i2 (by simp)).2.symm;obtain⟨u,hu,rx⟩:=ru.get hx;obtain⟨v,hv,ry⟩:=rv.get hy;have nd:=nd5 nd;have D:ZAp z TI TO i1 i2 l1 l2:=⟨nd.1.1,nd.1.2.1,nd.1.2.2.1,nd.1.2.2.2,nd.2.1.1,nd.2.1.2.1,nd.2.1.2.2,nd.2.2.1.1,nd.2.2.1.2,nd.2.2.2,(no z (by simp)).1,(no TO (by simp)).1,(no i2 (by simp)).1,(no z (by simp)).2,(no TO (by simp)).2,(no i1 (by simp)).2⟩;have hT:s.TypeIs (.ref z) "zip":=⟨_,h1,rfl⟩;unfold pyNext;refine wpAny_bind (wpAny_attempt (wpAny_callSpecial?_slot (name:=Str.ofString "__next__") hT F.slot_zip_next (wpAny_call_entry F.slot_zip_next hT F.entry_zip_next (xw3 W1 W2 D h1 h2 h3 (p1 i h4) (p2 i h5) hu hv fun h' a1 a2 a3 a4 a5 a6 kk=>wpAny_pure ?_) (F.args_zip_next_1 _))));refine⟨_,rfl,wpAny_letOwnedTupleGo_zip (s:={ s with heap:=h' }) a1 fun g2 zz sb=>?_⟩;have sb:Heap.SameBut z h' g2:=sb;have lt:∀{c:Addr} {o:Obj},s.heap.get? c=some o->c≠s.heap.objs.size:=fun e=>Ar0 (Heap.lt_size e)
  have k2:∀b o,b∉[z,TI,TO,i1,i2]->s.heap.get? b=some o->g2.get? b=some o:=fun b o hb q=>by
   exact sb.extBut b o (nm5 hb).1 (kk b o (nm5 hb).2 q)
  have kTI:g2.get? TI=_:=sb.extBut TI _ D.zTI.symm (kk TI _ (nm4 D.zTI.symm D.io D.I1 D.I2) h2);have tt:IsTup g2 s.heap.objs.size [u,v].toArray:=⟨_,sb.extBut _ _ (lt h1).symm a5,rfl,_,rfl⟩;refine⟨.ref s.heap.objs.size,_,I.turnedT (t':=s.toks) (p:=s.heap.objs.size) (vs:=[x,y]) hf k2 (Ac0 _) (.cons rx (.cons ry .nil)) (by show 2<=sizeLine;decide) tt,rfl,⟨_,x,y,I.hok.fresh (Ac0 _),rfl,rfl,fun xs' ys' hy'=>by
   obtain⟨e1,e2⟩:=inj xs' ys' hy';rw[e1,e2];exact⟨hx,hy⟩⟩,⟨zz,kTI,⟨_,_,sb.extBut _ _ D.zTO.symm a2⟩,(Z.keep (i+1) h' g2).1 ((pt (i+1) h').1 a3) fun o e=>sb.extBut _ o D.z1.symm e,(Z.keep (i+1) h' g2).2 ((pt (i+1) h').2 a4) fun o e=>sb.extBut _ o D.z2.symm e⟩,fun b hb=>?_⟩
  have nb:b≠s.heap.objs.size:=by
   have hb:=vj3 hb;rcases hb with r | r | r | r | r
   ·subst r;exact lt h1
   ·subst r;exact lt h2
   ·subst r;exact lt h3
   ·subst r;obtain⟨o,e,_⟩:=(Z.obj i s.heap).1 h4;exact lt e
   ·subst r;obtain⟨o,e,_⟩:=(Z.obj i s.heap).2 h5;exact lt e
  rw[za9 nb];exact(hf b hb).1
 done:=by
  intro X hP hw hK hc i pins s σ H E I hf st hg;subst hP hw;obtain⟨xs,ys,hq,hx⟩:=hg;obtain⟨h1,h2,⟨a,b,h3⟩,h4,h5⟩:=st;obtain⟨n1,n2⟩:=Z.there H xs ys hq;have no:∀c∈[z,TI,TO,i1,i2],l1≠c/\l2≠c:=fun c hb=>⟨fun e=>n1 (by rw[e];exact(hf c hb).1),fun e=>n2 (by rw[e];exact(hf c hb).1)⟩
  obtain⟨us,vs,ru,rv,inj,P1,P2,W1,W2,p1,p2,pt⟩:=Z.vals X hK pins σ H s xs ys I hq (no i1 (by simp)).1.symm (no i2 (by simp)).2.symm;have nd:=nd5 nd;have D:ZAp z TI TO i1 i2 l1 l2:=⟨nd.1.1,nd.1.2.1,nd.1.2.2.1,nd.1.2.2.2,nd.2.1.1,nd.2.1.2.1,nd.2.1.2.2,nd.2.2.1.1,nd.2.2.1.2,nd.2.2.2,(no z (by simp)).1,(no TO (by simp)).1,(no i2 (by simp)).1,(no z (by simp)).2,(no TO (by simp)).2,(no i1 (by simp)).2⟩;have hT:s.TypeIs (.ref z) "zip":=⟨_,h1,rfl⟩;have en:us[i]?=none\/vs[i]?=none:=by
   rcases hx with hx | hx
   ·exact .inl (List.getElem?_eq_none (by rw[<-ru.length];exact hx))
   ·exact .inr (List.getElem?_eq_none (by rw[<-rv.length];exact hx))
  unfold pyNext;refine wpAny_bind (wpAny_attempt (wpAny_callSpecial?_slot (name:=Str.ofString "__next__") hT F.slot_zip_next (wpAny_call_entry F.slot_zip_next hT F.entry_zip_next (xw4 (I.ok.hd hc) W1 W2 D h1 h2 h3 (p1 i h4) (p2 i h5) en fun h' e kk he=>?_) (F.args_zip_next_1 _))));obtain⟨o,ho,hcls⟩:=he;refine wpAny_bind (wpAny_isInstance (T:="StopIteration") (b:=true) ⟨o,ho,hcls⟩ isSubtype_stop (wpAny_pure ⟨rfl,I.turnedF hf fun b o hb q=>kk b o (fun n=>hb (vg1 n)) q⟩))
 self:=fun _ _ _ _ _ st h=>wpAny_pyIter_zip st.1 h
end L2
end
section
namespace L2
open PySem PySem.Spec PyProof.Rows
noncomputable def ve2 (a b:Addr):Hp->List V->List V->Prop:=fun H xs ys=>H a=some (.tup xs)/\H b=some (.tup ys)
noncomputable def ve4 (a b:Addr):Hp->List V->List V->Prop:=fun H xs ys=>H a=some (.lst xs)/\H b=some (.lst ys)
theorem wr7 {P:Program} {w:World} {K:PySem.W.Frag} {l1 l2 i1 i2:Addr}:ZW P w K l1 l2 i1 i2 (ve2 l1 l2) (fun k h=>h.IsTupleIter i1 l1 k) (fun k h=>h.IsTupleIter i2 l2 k) where
 obj:=fun k h=>⟨fun ⟨o,ho,c,d⟩=>⟨o,ho,fun v z=>by rw[d] at z;cases z⟩,fun ⟨o,ho,c,d⟩=>⟨o,ho,fun v z=>by rw[d] at z;cases z⟩⟩
 keep:=fun k h h'=>⟨fun a q=>a.at q,fun a q=>a.at q⟩
 there:=fun H xs ys q=>⟨(fun z=>by rw[q.1] at z;cases z),(fun z=>by rw[q.2] at z;cases z)⟩
 vals:=fun X hK pins σ H s xs ys I q n1 n2=>by
  obtain⟨us,ru,t1,_⟩:=I.tuple (SqT.of q.1);obtain⟨vs,rv,t2,_⟩:=I.tuple (SqT.of q.2);exact⟨us,vs,ru,rv,fun xs' ys' q'=>⟨I.tuple_inj (SqT.of q'.1) (SqT.of q.1),I.tuple_inj (SqT.of q'.2) (SqT.of q.2)⟩,_,_,Wlk.tup n1,Wlk.tup n2,fun k z=>⟨z,t1⟩,fun k z=>⟨z,t2⟩,fun k h=>⟨fun z=>z.1,fun z=>z.1⟩⟩
theorem wr9 {P:Program} {w:World} {K:PySem.W.Frag} {l1 l2 i1 i2:Addr}:ZW P w K l1 l2 i1 i2 (ve4 l1 l2) (fun k h=>h.IsListIter i1 l1 k) (fun k h=>h.IsListIter i2 l2 k) where
 obj:=fun k h=>⟨fun ⟨o,ho,c,d⟩=>⟨o,ho,fun v z=>by rw[d] at z;cases z⟩,fun ⟨o,ho,c,d⟩=>⟨o,ho,fun v z=>by rw[d] at z;cases z⟩⟩
 keep:=fun k h h'=>⟨fun a q=>a.at q,fun a q=>a.at q⟩
 there:=fun H xs ys q=>⟨(fun z=>by rw[q.1] at z;cases z),(fun z=>by rw[q.2] at z;cases z)⟩
 vals:=fun X hK pins σ H s xs ys I q n1 n2=>by
  obtain⟨us,ru,t1,_⟩:=I.list (SqL.of q.1);obtain⟨vs,rv,t2,_⟩:=I.list (SqL.of q.2);exact⟨us,vs,ru,rv,fun xs' ys' q'=>⟨I.list_inj (SqL.of q'.1) (SqL.of q.1),I.list_inj (SqL.of q'.2) (SqL.of q.2)⟩,_,_,Wlk.lst n1,Wlk.lst n2,fun k z=>⟨z,t1.isList⟩,fun k z=>⟨z,t2.isList⟩,fun k h=>⟨fun z=>z.1,fun z=>z.1⟩⟩
section
variable {X:Cx} {elts:List Expr} {x1:Nat} {tpos:Pos}
theorem ww8 (n:Nat):[n+4,n+2,n+3,n,n+1].Nodup:=by
 simp only[Bx0,Ah0,Bb0,or_false,not_or,List.nodup_nil,and_true,not_false_eq_true];omega
theorem xc8 {b n:Nat} (h:b∈[n+4,n+2,n+3,n,n+1]):n<=b:=by
 simp only[Ah0,Bb0,or_false] at h;omega
noncomputable def vm6 (ta:TA):TI:=fun σ H R=>ta σ H fun vs H1=>∃a b xs ys,vs=[.ref a,.ref b]/\((ve2 a b H1 xs ys/\R (Izp (ve2 a b)) H1)\/(ve4 a b H1 xs ys/\R (Izp (ve4 a b)) H1))
theorem wv1 {e1 e2:Expr} {ta:TA} {p pos:Pos} (hg:Gl X "zip") (hm:X.mg "zip" = none) (ha:PA X [e1,e2] ta) (hs:starEach [e1,e2] X.env=(false,eval e1 X.env)::starEach [e2] X.env:=by rfl) (hs2:starEach [e2] X.env=[(false,eval e2 X.env)]:=by rfl):PI X (.Tuple elts x1 tpos) (.Call (.Name "zip" p) [e1,e2] [] pos) (vm6 ta):=by
 intro pins s σ H R I h;refine Call_ (yf5 I hg hm boot_zip (PyProof.Rows.callWith_type1 (thn (ha pos pins s σ H _ I h) fun us s1 hI109=>?_) hs (by rw[hs2];rfl)));obtain⟨vs,H1,I1,r1,q1⟩:=hI109;obtain⟨a,b,xs,ys,rfl,q⟩:=q1;cases r1 with
 | cons r rr=>
   cases rr with
   | cons r' rr=>
     cases rr;cases r;cases r';have nd:=ww8 s1.heap.objs.size;have fr:∀b∈[s1.heap.objs.size+4,s1.heap.objs.size+2,s1.heap.objs.size+3,s1.heap.objs.size,s1.heap.objs.size+1],yv4 X pins H1 b:=fun b hb=>I1.fpOk (xc8 hb) (I1.hok.fresh (xc8 hb))
     rcases q with⟨hq,q⟩ | ⟨hq,q⟩
     ·obtain⟨us,ru,t1,_⟩:=I1.tuple (SqT.of hq.1)
      obtain⟨vs,rv,t2,_⟩:=I1.tuple (SqT.of hq.2);refine xu7 (show s1.heap.IsTuple a us.toArray from t1) (show s1.heap.IsTuple b vs.toArray from t2) ?_;obtain⟨z1,z2,z3,z4,z5,kk⟩:=xa3 "tuple_iterator" s1.heap a b;refine wpAny_pyIter_zip (s:={ s1 with heap:=zC "tuple_iterator" s1.heap a b }) z1 ?_;exact⟨_,_,_,_,H1,rfl,I1.kept (t':=s1.toks) kk,yl6 wr7 nd,⟨z1,z2,⟨_,_,z3⟩,⟨_,z4,rfl,rfl⟩,⟨_,z5,rfl,rfl⟩⟩,fr,q⟩
     ·obtain⟨us,ru,t1,_⟩:=I1.list (SqL.of hq.1)
      obtain⟨vs,rv,t2,_⟩:=I1.list (SqL.of hq.2);refine xu9 t1.isList t2.isList ?_;obtain⟨z1,z2,z3,z4,z5,kk⟩:=xa3 "list_iterator" s1.heap a b;refine wpAny_pyIter_zip (s:={ s1 with heap:=zC "list_iterator" s1.heap a b }) z1 ?_;exact⟨_,_,_,_,H1,rfl,I1.kept (t':=s1.toks) kk,yl6 wr9 nd,⟨z1,z2,⟨_,_,z3⟩,⟨_,z4,rfl,rfl⟩,⟨_,z5,rfl,rfl⟩⟩,fr,q⟩
variable {S:Type} {W:Wd S} {c:Dx W} {g:Gr}
noncomputable def tDB {S:Type} {W:Wd S} (c:Dx W) (f:FnA S):TA:=fun σ H Q=>∃ρ st,Rep c H σ ρ/\W.ok st H/\
 wpR (f ρ st) (fun l st'=>∀vs H',Ext W H H'->W.ok st' H'->IsL c.K (Av c σ ρ) H' l vs->Q vs H') fun x st'=>∀H',Ext W H H'->W.ok st' H'->c.Ex x st' H'
noncomputable def DB (X:Cx) {S:Type} {W:Wd S} (c:Dx W) (es:List Expr) (f:FnA S):Prop:=PA X es (tDB c f)
theorem zr7:DB X c [] (vc6 S):=zs5.imp fun σ H Q ⟨ρ,st,R,ok,w⟩=>w [] H Ext.refl ok (IsL.nil.mpr rfl)
theorem zd4 {e:Expr} {es:List Expr} {f:Fn S} {r:FnA S} (h:DE X c .B e f) (hr:DB X c es r) (hs:starEach (e::es) X.env=(false,eval e X.env)::starEach es X.env:=by rfl):DB X c (e::es) (zu8 S f r):=
 (zk7 h hr hs).imp fun σ H Q hI35=>by
  obtain⟨ρ,st,R,ok,w⟩:=hI35;refine⟨ρ,st,R,ok,za7 (za3.mp w) (fun d st1 q v H1 e ok1 z=>?_) fun x st1 q=>q⟩;refine⟨ρ,st1,R.ext ok e,ok1,za7 (za3.mp q) (fun l st2 q vs H2 e2 ok2 z2=>?_) fun x st2 q H2 e2 ok2=>q H2 (e.trans e2) ok2⟩;have z:Is c.K (Av c σ ρ) H1 d v:=z;exact q (v::vs) H2 (e.trans e2) ok2 (IsL.cons.mpr ⟨v,vs,rfl,z.ext e2 ok1 (fun b n=>n.1),z2⟩)
noncomputable def xz5 (l:List D):Option D:=if l.length<=sizeLine then some (.tup l) else none
set_option tactic.hygienic true in
theorem xt4 {es:List Expr} {x1} {pos:Pos} {f:FnA S} (h:DB X c es f):DE X c .B (.Tuple es x1 pos) (fA S xz5 f):=
 (we1 h).imp fun σ H Q hI36=>by
  obtain⟨ρ,st,R,ok,w⟩:=hI36;refine⟨ρ,st,R,ok,za7 (za3.mp w) (fun l st1 q vs H1 e ok1 z=>?_) fun x st1 q=>q⟩;obtain⟨d,e1,q⟩:=zb8.mp q;unfold xz5 at e1;split at e1
  ·rename_i hl
   cases e1;refine⟨by rw[<-z.length];exact hl,fun p hp=>q _ _ (e.trans (Ext.laid hp)) (zi3 ok1 hp) ?_⟩;exact Is.tup zb0 (z.ext (Ext.laid hp) ok1 fun b n=>n.1)
  ·cases e1
noncomputable def zx8 (l m:List D):List D:=List.zipWith (fun a b=>.tup [a,b]) l m
noncomputable def vc0:List D->Option (List D)
 | [.tup l,.tup m]=>some (zx8 l m)
 | [.lst l,.lst m]=>some (zx8 l m)
 | _=>none
theorem ye4 {l m:List D} {i:Nat} {d:D} (h:(zx8 l m)[i]?=some d):∃x y,l[i]?=some x/\m[i]?=some y/\d=.tup [x,y]:=by
 unfold zx8 at h;rw[List.getElem?_zipWith] at h;cases q:l[i]? with
 | none=>rw[q] at h;simp at h
 | some x=>
   cases q2:m[i]? with
   | none=>rw[q,q2] at h;simp at h
   | some y=>rw[q,q2] at h;cases h;exact⟨x,y,rfl,rfl,rfl⟩
theorem xh3 {l m:List D} {i:Nat} (h:(zx8 l m).length<=i):l.length<=i\/m.length<=i:=by
 unfold zx8 at h;rw[List.length_zipWith] at h;omega
theorem yl0 {σ:St} {ρ:Rho} {H1:Hp} {Sq:Hp->List V->List V->Prop} {l m:List D} {xs ys:List V} (hi:∀(c':Dx W) σ2 ρ2 H2,zi6 (Av c σ ρ) (Av c' σ2 ρ2) H1 H2->Sq H2 xs ys) (i1:IsL c.K (Av c σ ρ) H1 l xs) (i2:IsL c.K (Av c σ ρ) H1 m ys):xv8 c σ ρ H1 (Izp Sq) (zx8 l m):=by
 intro c' hK' σ2 ρ2 H2 st2 k R2 ok2 j;have s2:Sq H2 xs ys:=hi c' σ2 ρ2 H2 k;have j1:IsL c.K (Av c' σ2 ρ2) H2 l xs:=i1.mono k;have j2:IsL c.K (Av c' σ2 ρ2) H2 m ys:=i2.mono k;refine⟨fun d hd=>?_,fun hl=>⟨xs,ys,s2,by rw[<-j1.length,<-j2.length];exact xh3 hl⟩⟩;obtain⟨x,y,hx,hy,rfl⟩:=ye4 hd;obtain⟨v1,hv1,iv1⟩:=j1.get hx;obtain⟨v2,hv2,iv2⟩:=j2.get hy;refine⟨⟨xs,ys,v1,v2,s2,hv1,hv2⟩,?_⟩;rintro x' H3 ⟨pp,u1,u2,hpn,rfl,rfl,hx'⟩;obtain⟨e1,e2⟩:=hx' xs ys s2;rw[hv1] at e1;cases e1;rw[hv2] at e2;cases e2;have sm:yv3 H2 (upd H2 pp (.tup [v1,v2])):=fun b o hb=>by rw[za9 (zb7 hb hpn)];exact hb
 have kk:zi6 (Av c' σ2 ρ2) (Av c' σ2 ρ2) H2 (upd H2 pp (.tup [v1,v2])):=zl0 (fun b o hb _=>sm b o hb) fun b o a hb=>⟨a,sm b o hb⟩
 exact⟨sm,Is.tup zb0 (IsL.cons.mpr ⟨_,_,rfl,iv1.mono kk,IsL.one (iv2.mono kk)⟩)⟩
set_option tactic.hygienic true in
theorem wz9 {e1 e2:Expr} {f:FnA S} {p pos:Pos} (hg:Gl X "zip") (hm:X.mg "zip" = none) (ha:DB X c [e1,e2] f) (hs:starEach [e1,e2] X.env=(false,eval e1 X.env)::starEach [e2] X.env:=by rfl) (hs2:starEach [e2] X.env=[(false,eval e2 X.env)]:=by rfl):DI X c (.Tuple elts x1 tpos) (.Call (.Name "zip" p) [e1,e2] [] pos) (xi5 S vc0 f):=
 (wv1 hg hm ha hs hs2).imp fun σ H R hI37=>by
  obtain⟨ρ,st,R0,ok,w⟩:=hI37;refine⟨ρ,st,R0,ok,za7 (za3.mp w) (fun l st1 q vs H1 e ok1 z=>?_) fun x st1 q=>q⟩;obtain⟨m,e1,q⟩:=zb8.mp q;unfold vc0 at e1;split at e1
  ·rename_i l m
   cases e1;obtain⟨v,r,e2,i2,i3⟩:=IsL.cons.mp z;obtain⟨v',r',e3,i3,i4⟩:=IsL.cons.mp i3;obtain⟨a,xs,ea,s0,i⟩:=Is.tup_iff.mp i2;obtain⟨b,ys,eb,t0,j⟩:=Is.tup_iff.mp i3;rw[e3,IsL.nil.mp i4,ea,eb] at e2;exact⟨a,b,xs,ys,e2,.inl ⟨⟨s0,t0⟩,q _ H1 e ok1 (yl0 (fun c' σ2 ρ2 H2 k=>⟨k.tup a xs s0,k.tup b ys t0⟩) i j)⟩⟩
  ·rename_i l m
   cases e1;obtain⟨v,r,e2,i2,i3⟩:=IsL.cons.mp z;obtain⟨v',r',e3,i3,i4⟩:=IsL.cons.mp i3;obtain⟨a,xs,ea,n0,s0,i⟩:=Is.lst_iff.mp i2;obtain⟨b,ys,eb,n1,t0,j⟩:=Is.lst_iff.mp i3;rw[e3,IsL.nil.mp i4,ea,eb] at e2;exact⟨a,b,xs,ys,e2,.inr ⟨⟨s0,t0⟩,q _ H1 e ok1 (yl0 (fun c' σ2 ρ2 H2 k=>⟨(k.nod a _ n0 s0).2,(k.nod b _ n1 t0).2⟩) i j)⟩⟩
  ·cases e1
end
end L2
end
section
namespace HT
open PySem PyProof.Rows
section
variable {prog:Program} {w:World} {A:Around} {E:Value->Shared->Prop} {s:Shared}
end
end HT
namespace L2
open PySem PySem.Spec PyProof.Rows
section
variable {X:Cx} {e st:Expr} {te ts:TE} {p2 pos:Pos}
end
end L2
end
section
namespace L2
open PySem PySem.Spec PyProof.Rows
section
variable {X:Cx} {S:Type} {W:Wd S} {c:Dx W} {g ga gb:Gr} {a b:Expr} {fa fb:Fn S} {pos p2:Pos}
noncomputable abbrev FnO (S:Type):=Rho->S->Res S (Option Int)
theorem PO.imp {X:Cx} {e:Option Expr} {t t':TO} (h:PO X e t) (i:∀σ H Q,t' σ H Q->t σ H Q):PO X e t':=fun pins s σ H Q I q=>h pins s σ H Q I (i σ H Q q)
noncomputable def pNo (S:Type):FnO S:=fun _ st=>.ok none st
noncomputable def D.int?:D->Option Int
 | .int i=>some i
 | _=>none
noncomputable def pSo (S:Type) (f:Fn S):FnO S:=fun ρ st=>(f ρ st).bind fun d st1=>(zk3 d.int? st1).bind fun i st2=>.ok (some i) st2
noncomputable def vm2 (S:Type):FnS S:=fun _ _=>.bad
end
end L2
end
section
namespace L2
open PySem PySem.Spec PyProof.Rows
section
variable {X:Cx} {S:Type} {W:Wd S} {c:Dx W} {g ga gb:Gr} {a b:Expr} {fa fb:Fn S} {pos p2:Pos}
noncomputable def vi5 (S:Type) (i j:Nat) (f:FnA S):FnS S:=fun ρ st=>(f ρ st).bind fun l st1=>match l with
 | [d,e]=>(zk3 (put ρ i d) st1).bind fun ρ1 st2=>(zk3 (put ρ1 j e) st2).bind fun ρ2 st3=>.ok (.nx ρ2) st3
 | _=>.bad
set_option tactic.hygienic true in
theorem zn2 {ρ ρ':Rho} {i:Nat} {d:D} (h:put ρ i d=some ρ'):i<ρ.length/\ρ'=ρ.set i (.bor d):=by
 unfold put at h;split at h
 ·rename_i hi;cases h;exact⟨hi,rfl⟩
 ·cases h
set_option tactic.hygienic true in
theorem yt8 {i j:Nat} {x y:Str} {f:FnA S} {px py pt:Pos} {kt k2 pt2} (hc:X.calm=true) (hN:X.N.Nodup) (hi:X.N[i]?=some x) (hj:X.N[j]?=some y) (hij:i≠j)
 (hx:X.env.scope.names.lookup x=some .local) (hy:X.env.scope.names.lookup y=some .local) (ha:DB X c [a,b] f)
 (hw:swappedStores [.Tuple [.Name x px,.Name y py] kt pt] (.Tuple [a,b] k2 pt2) X.env=pure (some [x,y]))
 (hs:swapsWithSole [.Tuple [.Name x px,.Name y py] kt pt] (.Tuple [a,b] k2 pt2) pos.line X.env=pure false:=by rfl) :
 DS X c (.Assign [.Tuple [.Name x px,.Name y py] kt pt] (.Tuple [a,b] k2 pt2) pos) (vi5 S i j f):=
 (wu9 hc hN hi hj hij hx hy ha hw hs).imp fun D σ H hI38=>by
  obtain⟨ρ,st,R,ok,w⟩:=hI38;refine⟨ρ,st,R,ok,za7 (za3.mp w) (fun l st1 q vs H1 e ok1 z=>?_) fun x st1 q H' e ok'=>q H' (e.f0 R) ok'⟩;split at q
  ·rename_i d e'
   obtain⟨v,r,e2,i2,i3⟩:=IsL.cons.mp z;obtain⟨v',r',e3,i3,i4⟩:=IsL.cons.mp i3;rw[e3,IsL.nil.mp i4] at e2;obtain⟨ρ1,e4,q⟩:=zb8.mp (za3.mp q);obtain⟨ρ2,e5,q⟩:=zb8.mp (za3.mp q);obtain⟨h4,rfl⟩:=zn2 e4;obtain⟨h5,rfl⟩:=zn2 e5;have R1:=(R.ext ok e).setB h4 i2;have k1:zi6 (Av c σ ρ) (Av c (σ.set i (some v)) (ρ.set i (.bor d))) H1 H1:=Frm.keepT (R.ext ok e) ok1 zh4;have R2:=R1.setB h5 (i3.mono k1);exact⟨v,v',e2,q _ _ ((Ext.frm e).trans (zh4.trans zh4)) ok1 R2⟩
  ·exact q.elim
end
end L2
end
section
namespace L2
open PySem PySem.Spec PyProof.Rows
section
variable {X:Cx} {S:Type} {W:Wd S} {c:Dx W} {g ga gb:Gr} {a b:Expr} {fa fb:Fn S} {pos p2:Pos}
noncomputable def zo2 (a b:D):Option D:=(zw2 (fun i j=>.int (i+j)) a b).or ((wm9 a b).or ((wm8 a b).or (xp6 a b)))
theorem xo5:OpR X (binaryOp .Add) (fun x y H Q=>rI0 (fun i j=>.int (i+j)) x y H Q\/(vb8 x y H Q\/(xy3 X.K x y H Q\/xb4 X.K x y H Q))):=yr1.or (ww1.or (wl7.or xz2))
theorem xo8 {K:PySem.W.Frag} (hK:c.K=K):OpD c (fun x y H Q=>rI0 (fun i j=>.int (i+j)) x y H Q\/(vb8 x y H Q\/(xy3 K x y H Q\/xb4 K x y H Q))) zo2:=ym3.or (ww6.or ((wm2 hK).or xz4))
noncomputable def D.seq?:D->Option (List D)
 | .tup l=>some l
 | .lst l=>some l
 | _=>none
theorem zp6 {tg e:Expr} {f:Fn S} (hK:c.K=X.K) (h:DE X c .B e f):DI X c tg e (wa7 S D.seq? f):=by
 intro pins s σ H R I q;obtain⟨ρ,st,R0,ok,w⟩:=q;unfold wa7 at w;cases q:f ρ st with
 | bad=>rw[q] at w;exact w.elim
 | exc x st1=>
   refine wg2 (tg:=tg) hK h pins s σ H R I ⟨ρ,st,R0,ok,?_⟩;unfold wa7;rw[q] at w ⊢;exact w
 | ok d st1=>
   rw[q] at w;cases d with
   | tup l=>
     refine wg2 (tg:=tg) hK h pins s σ H R I ⟨ρ,st,R0,ok,?_⟩;unfold wa7;rw[q];exact w
   | lst l=>
     refine va0 (tg:=tg) hK h pins s σ H R I ⟨ρ,st,R0,ok,?_⟩;unfold wa7;rw[q];exact w
   | _=>exact w.elim
noncomputable def vk3:List D->Res Unit D:=fun _=>.bad
theorem wy9 {P:Program} {w:World} {K:PySem.W.Frag} {mg:Str->Option Value} {base:Heap} {f:Addr} {fd:FuncData} {ps:List Str} {k:Nat}:zp9 P w K mg base CX0 k f fd ps (sp0 K vk3):=
 ⟨fun vs H Q E ⟨_,_,h⟩=>h.elim,fun A outer s H args us vs Q E _ _ _ _ ⟨_,_,h⟩=>h.elim⟩
theorem zp7 {id:String} {x:Str} {p pos:Pos} {e:Expr} {es:List Expr} {r:List V->Hp->VK->Prop} {o:List D->Option D} {f:FnA S} (ha:DA X c (e::es) f) (hc:zw9 X (.builtin id) r) (hr:zx0 c r o) (hg:Gl X x) (hm:X.mg x=none) (hv:bootBuiltins x=some (.builtin id)) (hn:x≠"__name__":=by decide) (hdb:(x == ("__debug__" : Str))=false:=by decide)
 (he:starEach (e::es) X.env=(false,eval e X.env)::starEach es X.env:=by rfl) (hpl:(backTo pos (starEach es X.env)).any (·.1)=false:=by rfl):DE X c g (.Call (.Name x p) (e::es) [] pos) (fA S o f):=
 xe6 (id:=id) (yc5 hc hg hm hv ha hn hdb he hpl) rfl hr
theorem yb5 {T:String} {x:Str} {p pos:Pos} {e:Expr} {es:List Expr} {r:List V->Hp->VK->Prop} {o:List D->Option D} {f:FnA S} (ha:DA X c (e::es) f) (hc:zw9 X (.type T) r) (hr:zx0 c r o) (hg:Gl X x) (hm:X.mg x=none) (hv:bootBuiltins x=some (.type T)) (hn:x≠"__name__":=by decide) (hdb:(x == ("__debug__" : Str))=false:=by decide)
 (he:starEach (e::es) X.env=(false,eval e X.env)::starEach es X.env:=by rfl) (hpl:(backTo pos (starEach es X.env)).any (·.1)=false:=by rfl):DE X c g (.Call (.Name x p) (e::es) [] pos) (fA S o f):=
 xe6 (id:=T) (yq7 hc hg hm hv ha hn hdb he hpl) rfl hr
end
end L2
end
section
namespace PySem
open Sem (wp)
namespace F
theorem lk_list_keys:typeLookup (.type "list") "keys" = pure none:=by rw[typeLookup_type,builtinLookup_eq_fast];kernel_rfl
end F
section
variable {prog:Program} {w:World} {A:Around} {E:Value->Shared->Prop} {s:Shared} {a:Addr} {its:Array Value}
theorem xq7 {Q:Option Value->Shared->Prop} (hp:PlainL s.heap a its) (hA:A.handled=none) (h:∀h' tk,(∀b o,s.heap.get? b=some o->h'.get? b=some o)->Q none { s with heap:=h',toks:=tk }) :
 wpAny (model prog w) A (getAttr? (.ref a) "keys") Q E s:=by
 obtain⟨⟨c,dct,dat,sl⟩,k,hx,hc,hd,hdat⟩:=hp;simp only at hc hdat hd;subst hc hdat hd;obtain⟨hp,g,d,tk,os⟩:=s;have hT:∀tk',(⟨hp,g,d,tk',os⟩:Shared).TypeIs (.ref a) "list":=fun _=>⟨_,hx,rfl⟩
 have f1:=sub_AttributeError;have f3:=F.slot_list_getattribute.lookup;have f4:=F.slot_list_getattribute.bind (.ref a);have f5:=am_list_getattr_none;unfold getAttr? getAttrBy? getAttrBy;repeat (any_goals (first | assumption | exact hT _ | ((with_reducible show wpAny _ _ (call (Value.builtin "list.__getattribute__") _ _) _ _ _);refine call_meets F.slot_list_getattribute (hT _) am_entry_list_getattribute (F.args_list_getattribute_2 _ _) (meets_getattribute_miss_list a its k sl "keys" _ F.lk_list_keys (by decide +kernel) (by size_fits)) ⟨hx,hA,fun h' tk' e hx'=>?_⟩) | wp_step))
 obtain⟨t',u',he⟩:=hx'.there;show wpAny _ _ (getattributeRaised _ _ _ _ _ _ _) _ _ _;unfold getattributeRaised;repeat (any_goals (first | assumption | wp_step))
 exact h h' tk' hx'.keeps
end
end PySem
end
section
namespace PySem.F
theorem plain_upd_loop:plainId "dict.update.loop" = true:=by decide +kernel
theorem entry_upd_loop:entryFor table "dict.update.loop" = some Builtin.«dict.update.loop»:=entryFor_of_fast (by kernel_rfl)
end PySem.F
namespace L2
open PySem PySem.Spec PyProof.Rows
noncomputable def zr4 (H:Hp):List V->List (List Key×V)->Prop
 | [],ps=>ps=[]
 | v::vs,ps=>∃t b k x r,ps=(k,x)::r/\v=.ref t/\H t=some (.tup [.ref b,x])/\H b=some (.tup (k.map kV))/\zr4 H vs r
noncomputable def yf2 (kvs ps:List (List Key×V)):List (List Key×V):=ps.foldl (fun acc p=>zv0 acc p.1 p.2) kvs
theorem zr4.keep {H:Hp} {d:Addr} {o:HO} (hd:∀u,H d≠some (.tup u)):∀{vs:List V} {ps:List (List Key×V)},zr4 H vs ps->zr4 (upd H d o) vs ps
 | [],ps,h=>h
 | v::vs,ps,⟨t,b,k,x,r,e1,e2,h1,h2,h3⟩=>⟨t,b,k,x,r,e1,e2,by rw[za9 (fun z=>hd _ (z▸h1))];exact h1,by rw[za9 (fun z=>hd _ (z▸h2))];exact h2,zr4.keep hd h3⟩
section
variable {X:Cx} {pins:List (Addr×Obj)} {σ:St}
set_option tactic.hygienic true in
theorem xt2 (hc:X.calm=true) (hu:X.A.in1.units+1<cLine) {d a it:Addr} {vs:List V} {Q:VK}:∀(n i:Nat) (s:Shared) (H:Hp) (kvs ps:List (List Key×V)) (t:Tok),vs.length-i=n->i<=vs.length->Inv X pins σ H s->yv4 X pins H it->
 s.heap.IsListIter it a i->H a=some (.lst vs)->H d=some (.dT kvs)->zr4 H (vs.drop i) ps->kvs.length+ps.length<sizeLine->Q (.ref d) (upd H d (.dT (yf2 kvs ps)))->
 codeAny (model X.prog X.w) X.A.in1 (.builtin "dict.update.loop" ⟨[.ref d,.ref it,.int i t,.none],[]⟩) (wants (fun r s₂=>r=.none/\EP X pins σ Q (.ref d) s₂) X.xe) s:=by
 intro n;induction n with
 | zero=>
   intro i s H kvs ps t hn hi I hfp hit ha hd hp hz q;have e:i=vs.length:=by omega
   subst e;rw[List.drop_length] at hp;have hp:ps=[]:=hp;subst hp;obtain⟨its,rv,pl,_⟩:=I.list (SqL.of ha);obtain⟨f0,f1,f2,f3,f4,f5⟩:=hfp;refine codeAny_builtin F.entry_upd_loop ?_;rw[Around.under_plainId F.plain_upd_loop _];show wpAny _ X.A.in1.in1 (pyNext (.ref it) >>= fun _=>_) _ _ s;have hl:=rv.length;refine wpAny_bind (wpAny_pyNext_list_end (I.ok.hd hc) hit pl.isList (by simp;omega) fun h' eb=>?_);have I1:Inv X pins σ H { s with heap:=h' }:=I.turned (t':=s.toks) (fun b o hb e=>eb b o hb e) f0 f1 f3 f4 f5;show wpAny _ X.A.in1.in1 (Builtin.Dict.addKeywords d [] >>= fun _=>ret .none) _ _ _;refine wpAny_bind (wpAny_pure (wpAny_pure ?_));refine⟨rfl,.ref d,H,I1,rfl,?_⟩;have e2:upd H d (.dT (yf2 kvs []))=H:=by
    funext b;by_cases hb:b=d
    ·subst hb;rw[zb0,hd];rfl
    ·rw[za9 hb]
   rw[e2] at q;exact q
 | succ n ih=>
   intro i s H kvs ps t hn hi I hfp hit ha hd hp hz q;have hi':i<vs.length:=by omega
   rw[List.drop_eq_getElem_cons hi'] at hp;obtain⟨tt,b,k,x,r,rfl,ev,ht,hb,hr⟩:=hp;obtain⟨its,rv,pl,_⟩:=I.list (SqL.of ha);obtain⟨u,hu',ru⟩:=rv.get (i:=i) (x:=vs[i]) (Ag0 hi');rw[ev] at ru;cases (show u=Value.ref tt from ru);obtain⟨f0,f1,f2,f3,f4,f5⟩:=id hfp;refine codeAny_builtin F.entry_upd_loop ?_;rw[Around.under_plainId F.plain_upd_loop _];show wpAny _ X.A.in1.in1 (pyNext (.ref it) >>= fun _=>_) _ _ s;refine wpAny_bind (wpAny_pyNext_list_item hit pl.isList (x:=.ref tt) (by simpa using hu') fun h' hit' sb=>?_);have I1:Inv X pins σ H { s with heap:=h' }:=I.turned (t':=s.toks) (fun c o hb e=>(sb.2 c hb).trans e) f0 f1 f3 f4 f5;obtain⟨ps2,r2,p2,_⟩:=I1.tuple (SqT.of ht);obtain⟨o2,ho2,hc2,n2,hd2⟩:=id p2;obtain⟨u1,u2,rfl,rk,rx⟩:∃u1 u2,ps2=[u1,u2]/\zf0 (.ref b) u1/\zf0 x u2:=by
    cases r2 with
    | cons p q=>
      cases q with
      | cons p' q'=>cases q';exact⟨_,_,rfl,p,p'⟩
   cases (show u1=Value.ref b from rk);refine wpAny_bind (wpAny_holding (wpAny_bind (wpAny_tryCatch ?_)));unfold Builtin.Dict.pairItems;refine wpAny_bind (wpAny_typeOf (T:="tuple") ⟨o2,ho2,hc2⟩ ?_);rw[if_pos (by decide)];refine wpAny_bind (wpAny_seqItems ho2 hd2 (wpAny_pure ?_));obtain⟨z,hdm,xs,rel,dd⟩:=wp5 I1.hok hd;have hz1:xs.length<=sizeLine:=by rw[<-Paired.length rel];exact z
   have hlr:kvs.length+(r.length+1)<sizeLine:=by simpa using hz
   have hl:(zv0 kvs k x).length<=sizeLine:=by have:=zm7 kvs k x;omega
   show wpAny _ _ (holding [.ref b,u2] (dictSet d (.ref b) u2)) _ _ _;refine wpAny_holding (wpAny_dictSet_heap (hsz:=hz1) (tupleKind_room_in1 hu) (ya8 I1.hok hb) dd fun h2 dd' hs=>wpAny_pure ?_);have I2:Inv X pins σ (upd H d (.dT (zv0 kvs k x))) { s with heap:=h2,toks:=s.toks+(tupleKind (zg0 X.prog X.w)).draws k }:=by
    obtain⟨q,es,ep,hq,h2',h3,h4,_,h5⟩:=dd';refine yh0 (s:={ s with heap:=h' }) (t':=s.toks+(tupleKind (zg0 X.prog X.w)).draws k) I1 (by rw[hd];exact True.intro) hs ⟨q,hq⟩ ⟨hl,hdm,_,(rel.put k hb rx).keeps fun c ys ec=>?_,q,es,ep,hq,h2',h3,h4,h5⟩;rw[za9 (xp8 ec hd (fun z=>nomatch z))];exact ec
   have nit:it≠d:=fun e=>by rw[e,hd] at f0;cases f0
   have nda:a≠d:=xp8 ha hd (fun z=>nomatch z);have hs:Heap.SameBut d h' h2:=hs;refine⟨plainId_quiet F.plain_upd_loop _,ih (i+1) _ _ (zv0 kvs k x) r _ (by omega) (by omega) I2 ⟨by rw[za9 nit];exact f0,f1,f2,f3,f4,f5⟩ (hit'.extBut hs.extBut nit) (by rw[za9 nda];exact ha) zb0 (hr.keep fun u e=>by rw[hd] at e;cases e) ?_ ?_⟩
   ·have:=zm7 kvs k x;omega
   ·rw[upd_upd];exact q
theorem zt2 (hc:X.calm=true) (hu:X.A.in1.units+1<cLine):zw9 X (.type "dict") (fun xs H Q=>∃(a:Addr) (vs:List V) (ps:List (List Key×V)),xs=[.ref a]/\H a=some (.lst vs)/\zr4 H vs ps/\ps.length<sizeLine/\∀d,H d=none->Q (.ref d) (upd H d (.dT (yf2 [] ps)))):=by
 intro pins s σ H xs us Q I r h;obtain⟨a,vs,ps,rfl,ha,hp,hz,q⟩:=h;obtain⟨u,rfl,r1⟩:=yh8 r;cases r1;have hhA:X.A.handled=none:=I.ok.hd hc;refine callType_codes (Q₁:=fun obj s₁=>obj=.ref s.heap.objs.size/\s₁={ s with heap:=s.heap.push { cls:=.type "dict",data:=.dict #[] } }) F.kt_called_dict (F.kt_typeCall_dict_1 _) F.entry_dict_init (kt_code_dict_new _ ⟨rfl,rfl⟩) ?_;rintro obj s₁ ⟨rfl,rfl⟩;have hn:=I.hok.fresh (Ac0 s.heap.objs.size);have I1:=I.laid (a:=s.heap.objs.size) (o:=.dT []) (h':=s.heap.push { cls:=.type "dict",data:=.dict #[] }) (t':=s.toks) (fun _ _ q=>Aa0 _ q) (Ac0 _) (yn6 s.heap I.big);have hT:({ s with heap:=s.heap.push { cls:=.type "dict",data:=.dict #[] } }:Shared).TypeIs (.ref s.heap.objs.size) "dict":=⟨_,Ad0 _ rfl,rfl⟩;refine⟨hT,F.args_dict_init_2 _ _,?_⟩;unfold Builtin.«dict.__init__»;refine wpAny_bind ?_;unfold Builtin.Dict.selfAndRest;refine wpAny_bind (wpAny_notOrdered_dict hT ?_);show wpAny _ _ (pure (s.heap.objs.size,[Value.ref a])) _ _ _;refine wpAny_pure ?_;show wpAny _ _ (Builtin.Dict.updateFrom "dict.__init__" s.heap.objs.size (.ref a) [] .none) _ _ _;unfold Builtin.Dict.updateFrom;have nda:a≠s.heap.objs.size:=zb7 ha hn;have ha1:upd H s.heap.objs.size (.dT []) a=some (.lst vs):=by rw[za9 nda];exact ha
 obtain⟨its,rv,pl,_⟩:=I1.list (SqL.of ha1);refine wpAny_bind (wpAny_typeOf pl.isList.typeIs ?_);rw[if_pos (by decide)];refine wpAny_bind (xq7 pl hhA fun h2 tk2 k2=>?_);have I2:Inv X pins σ (upd H s.heap.objs.size (.dT [])) { s with heap:=h2,toks:=tk2 }:=I1.kept (t':=tk2) k2;obtain⟨its2,rv2,pl2,_⟩:=I2.list (SqL.of ha1);rw[if_pos (by rfl)];refine wpAny_bind (wpAny_rule (wpAny_bind (wpAny_pyIter_list pl2.isList (wpAny_pure ?_))));have I3:Inv X pins σ (upd H s.heap.objs.size (.dT [])) { s with heap:=h2.push { cls:=.type "list_iterator",data:=.fields #[.ref a,.int 0 0] },toks:=tk2 }:=I2.kept (t':=tk2) fun b o e=>Aa0 _ e
 have fp:yv4 X pins (upd H s.heap.objs.size (.dT [])) h2.objs.size:=I2.fpOk (Ac0 _) (I2.hok.fresh (Ac0 _));refine⟨plainId_quiet F.plain_upd_loop _,xt2 hc hu (a:=a) (vs:=vs) vs.length 0 _ _ [] ps _ (by omega) (by omega) I3 fp ⟨_,Ad0 _ rfl,rfl,rfl⟩ ha1 zb0 ?_ (by simpa using hz) ?_⟩
 ·rw[List.drop_zero]
  exact hp.keep fun u e=>by rw[hn] at e;cases e
 ·rw[L2.upd_upd];exact q _ hn
end
end L2
end
section
namespace L2
open PySem PySem.Spec PyProof.Rows
section
variable {X:Cx} {S:Type} {W:Wd S} {c:Dx W} {g ga gb gc:Gr} {a b:Expr} {fa fb fc:Fn S} {pos p2:Pos}
noncomputable def zs4:List D->Option (List (List Key×D))
 | []=>some []
 | .tup [k,v]::l=>if v.imm=true then (zc8 k).bind fun kk=>(zs4 l).map fun r=>(kk,v)::r else none
 | _=>none
noncomputable def zh1 (ps:List (List Key×D)) (acc:List D×List D):List D×List D:=ps.foldl (fun acc p=>zu7 p.1 p.2 acc.1 acc.2) acc
noncomputable def xz7:List D->Option D
 | [.lst l]=>if l.length<sizeLine then (zs4 l).map fun ps=>.dct (.non::(zh1 ps ([],[])).1) (zh1 ps ([],[])).2 else none
 | _=>none
set_option tactic.hygienic true in
theorem yq9 {K:PySem.W.Frag} {A:Addr->Prop} {H:Hp}:∀{l:List D} {vs:List V} {ps:List (List Key×D)},zs4 l=some ps->IsL K A H l vs->
 ∃qs:List (List Key×V),zr4 H vs qs/\qs.map (·.1)=ps.map (·.1)/\IsL K A H (ps.map (·.2)) (qs.map (·.2))/\D.immL (ps.map (·.2))=true/\qs.length=l.length
 | [],vs,ps,e,h=>by
   cases e;rw[IsL.nil.mp h];exact⟨[],rfl,rfl,IsL.nil.mpr rfl,rfl,rfl⟩
 | d::l,vs,ps,e,h=>by
   unfold zs4 at e;split at e
   ·rename_i heq
    cases heq
   ·rename_i k v l' heq
    cases heq;split at e
    ·rename_i hv
     cases q1:zc8 k with
     | none=>rw[q1] at e;cases e
     | some kk=>
       cases q2:zs4 l with
       | none=>rw[q1,q2] at e;cases e
       | some r=>
         rw[q1,q2] at e;cases e;obtain⟨w,rr,e1,i1,i2⟩:=IsL.cons.mp h;obtain⟨t,us,et,ht,i3⟩:=Is.tup_iff.mp i1;obtain⟨w1,r1,e2,j1,j2⟩:=IsL.cons.mp i3;obtain⟨w2,r2,e3,j3,j4⟩:=IsL.cons.mp j2;obtain⟨b,eb,hb,_⟩:=zy6 q1 j1;obtain⟨qs,g1,g2,g3,g4,g5⟩:=yq9 q2 i2;refine⟨(kk,w2)::qs,?_,by simp[g2],IsL.cons.mpr ⟨_,_,rfl,j3,g3⟩,by simp[D.immL,hv,g4],by simp[g5]⟩;rw[e1];refine⟨t,b,kk,w2,qs,rfl,et,?_,hb,g1⟩;rw[ht,e2,e3,eb,IsL.nil.mp j4]
    ·cases e
   ·cases e
theorem yq2 {K:PySem.W.Frag} {A:Addr->Prop} {H:Hp}:∀{ps:List (List Key×D)} {qs:List (List Key×V)},qs.map (·.1)=ps.map (·.1)->IsL K A H (ps.map (·.2)) (qs.map (·.2))->D.immL (ps.map (·.2))=true->
 ∀{kk:List (List Key)} {vs:List D} {us:List V},kk.length=us.length->IsL K A H vs us->D.immL vs=true->
 ∃(kk':List (List Key)) (us':List V),(zh1 ps (kk.map ze8,vs)).1=kk'.map ze8/\IsL K A H (zh1 ps (kk.map ze8,vs)).2 us'/\kk'.length=us'.length/\yf2 (kk.zip us) qs=kk'.zip us'/\D.immL (zh1 ps (kk.map ze8,vs)).2=true
 | [],qs,e,h,m,kk,vs,us,hl,hv,mv=>by
   have:qs=[]:=by simpa using e
   subst this;exact⟨kk,us,rfl,hv,hl,rfl,mv⟩
 | (k,d)::ps,qs,e,h,m,kk,vs,us,hl,hv,mv=>by
   cases qs with
   | nil=>cases e
   | cons q qs=>
     obtain⟨k',v⟩:=q;obtain⟨w,r,e1,i1,i2⟩:=IsL.cons.mp h;have e1:v::qs.map (·.2)=w::r:=e1;cases e1;have ek:k'=k/\qs.map (·.1)=ps.map (·.1):=by simpa using e
     obtain⟨rfl,ek⟩:=ek;have m':d.imm=true/\D.immL (ps.map (·.2))=true:=by simpa [D.immL] using m
     obtain⟨kk1,us1,g1,g2,g3,g4⟩:=xu0 (k:=k') i1 hl hv;have g5:=yf9 (k:=k') (ks:=kk.map ze8) m'.1 mv;obtain⟨kk2,us2,f1,f2,f3,f4,f5⟩:=yq2 ek i2 m'.2 (kk:=kk1) (vs:=(zu7 k' d (kk.map ze8) vs).2) g3 g2 g5;have eq:zh1 ((k',d)::ps) (kk.map ze8,vs)=zh1 ps (kk1.map ze8,(zu7 k' d (kk.map ze8) vs).2):=by
      show zh1 ps (zu7 k' d (kk.map ze8) vs)=_;rw[<-g1]
     rw[eq];refine⟨kk2,us2,f1,f2,f3,?_,f5⟩;show yf2 (zv0 (kk.zip us) k' v) qs=_;rw[g4];exact f4
set_option tactic.hygienic true in
theorem xu6:zx0 c (fun xs H Q=>∃(a:Addr) (vs:List V) (ps:List (List Key×V)),xs=[.ref a]/\H a=some (.lst vs)/\zr4 H vs ps/\ps.length<sizeLine/\∀d,H d=none->Q (.ref d) (upd H d (.dT (yf2 [] ps)))) xz7:=by
 intro l vs H st d Q ok z e q;unfold xz7 at e;split at e
 ·rename_i m
  split at e
  ·rename_i hz
   cases q1:zs4 m with
   | none=>rw[q1] at e;cases e
   | some ps=>
     rw[q1] at e;cases e;obtain⟨v,r,e1,i1,i2⟩:=IsL.cons.mp z;obtain⟨a,us,ea,_,s1,i3⟩:=Is.lst_iff.mp i1;rw[IsL.nil.mp i2,ea] at e1;obtain⟨qs,g1,g2,g3,g4,g5⟩:=yq9 q1 i3;refine⟨a,us,qs,e1,s1,g1,by rw[g5];exact hz,fun p hp=>?_⟩;obtain⟨kk,us',f1,f2,f3,f4,f5⟩:=yq2 g2 g3 g4 (kk:=[]) (vs:=[]) (us:=[]) rfl (IsL.nil.mpr rfl) rfl;have f1:(zh1 ps ([],[])).1=kk.map ze8:=f1;have f2:IsL c.K (fun b=>¬W.mv b) H (zh1 ps ([],[])).2 us':=f2;have f4:yf2 [] qs=kk.zip us':=f4;refine q _ _ (Ext.laid hp) (zi3 ok hp) (Is.dct_iff.mpr ⟨p,us',rfl,⟨zo4 ok hp,hp⟩,IsL.ofImm f5 (f2.ext (Ext.laid hp) ok fun _ n=>n),.inr ⟨kk,by rw[f1],f3,?_⟩⟩);rw[zb0,f4]
  ·cases e
 ·cases e
noncomputable def vd6 (i j k:Nat) (ta:TA):TS:=fun D σ H=>ta σ H fun vs H1=>∃u v w,vs=[u,v,w]/\D.nx (((σ.set i (some u)).set j (some v)).set k (some w)) H1
theorem wk4 {i j k:Nat} {x y z:Str} {d:Expr} {ta:TA} {px py pz pt:Pos} {kt k2 pt2} (hc:X.calm=true) (hN:X.N.Nodup) (hi:X.N[i]?=some x) (hj:X.N[j]?=some y) (hk:X.N[k]?=some z) (hij:i≠j) (hik:i≠k) (hjk:j≠k)
 (hx:X.env.scope.names.lookup x=some .local) (hy:X.env.scope.names.lookup y=some .local) (hz:X.env.scope.names.lookup z=some .local) (ha:PA X [a,b,d] ta)
 (hw:swappedStores [.Tuple [.Name x px,.Name y py,.Name z pz] kt pt] (.Tuple [a,b,d] k2 pt2) X.env=pure (some [x,y,z]))
 (hs:swapsWithSole [.Tuple [.Name x px,.Name y py,.Name z pz] kt pt] (.Tuple [a,b,d] k2 pt2) pos.line X.env=pure false:=by rfl) :
 PS X (.Assign [.Tuple [.Name x px,.Name y py,.Name z pz] kt pt] (.Tuple [a,b,d] k2 pt2) pos) (vd6 i j k ta):=by
 intro pins s σ H D I h;rw[exec_Assign_arm];refine wpAny_bind (wpAny_standAt ?_);rw[hs];refine wpAny_bind (wpAny_pure ?_);rw[if_neg (by decide)];refine wpAny_bind (Tuple_ (thn (ha _ pins s σ H _ I h) fun us s1 hI110=>?_));obtain⟨vs,H1,I1,r1,q1⟩:=hI110;obtain⟨u,v,w,e1,q1⟩:=q1;subst e1;obtain⟨u1,u2,u3,rfl,ru,rv,rw'⟩:∃u1 u2 u3,us=[u1,u2,u3]/\zf0 u u1/\zf0 v u2/\zf0 w u3:=by
  cases r1 with
  | cons p q=>
    cases q with
    | cons p' q'=>
      cases q' with
      | cons p'' q''=>cases q'';exact⟨_,_,_,rfl,p,p',p''⟩
 refine wpAny_newObj_type ?_ (by show 3<=sizeLine;decide);have I2:Inv X pins σ H1 { s1 with heap:=s1.heap.push { cls:=.type "tuple",data:=.seq [u1,u2,u3].toArray } }:=I1.kept (t':=s1.toks) fun b o e=>Aa0 _ e
 rw[hw];refine wpAny_bind (wpAny_pure ?_);show wpAny (model X.prog X.w) X.A (do rule "assign.swapped-stores";let items <-unpackItems (.ref s1.heap.objs.size) 3 none;assignInOrder [fun v=>bindName X.env z v,fun v=>bindName X.env y v,fun v=>bindName X.env x v] items.reverse;pure Flow.next) _ _ _;refine wpAny_bind (wpAny_rule (wpAny_bind (unpackItems_tuple (items:=#[u1,u2,u3]) (I.ok.hd hc) (IsTup.new s1.heap _) fun h' hx'=>?_)));have I3:=I2.kept (h':=h') (t':=s1.toks) fun b o e=>hx' b o (Ar0 (Heap.lt_size e)) e
 show wpAny _ _ (assignInOrder [fun v=>bindName X.env z v,fun v=>bindName X.env y v,fun v=>bindName X.env x v] [u3,u2,u1] >>= fun _=>pure Flow.next) _ _ _;refine wpAny_bind (assignInOrder_cons (wpAny_bindName (zq3 I3 hN hk (.inl hz) rw' (fun s2 I4=>?_) (.inr hz))));refine assignInOrder_cons (wpAny_bindName (zq3 I4 hN hj (.inl hy) rv (fun s3 I5=>?_) (.inr hy)));refine assignInOrder_cons (wpAny_bindName (zq3 I5 hN hi (.inl hx) ru (fun s4 I6=>assignInOrder_nil (wpAny_pure ?_)) (.inr hx)));refine⟨_,H1,?_,q1⟩;have e:((σ.set k (some w)).set j (some v)).set i (some u)=((σ.set i (some u)).set j (some v)).set k (some w):=by
  have e1:(σ.set k (some w)).set j (some v)=(σ.set j (some v)).set k (some w):=List.set_comm _ _ (Ne.symm hjk);have e2:∀τ:St,(τ.set k (some w)).set i (some u)=(τ.set i (some u)).set k (some w):=fun τ=>List.set_comm _ _ (Ne.symm hik)
  have e3:(σ.set j (some v)).set i (some u)=(σ.set i (some u)).set j (some v):=List.set_comm _ _ (Ne.symm hij);rw[e1,e2,e3]
 rw[e] at I6;exact I6
noncomputable def wu3 (S:Type) (i j k:Nat) (f:FnA S):FnS S:=fun ρ st=>(f ρ st).bind fun l st1=>match l with
 | [d,e,h]=>(zk3 (put ρ i d) st1).bind fun ρ1 st2=>(zk3 (put ρ1 j e) st2).bind fun ρ2 st3=>(zk3 (put ρ2 k h) st3).bind fun ρ3 st4=>.ok (.nx ρ3) st4
 | _=>.bad
set_option tactic.hygienic true in
theorem yz1 {i j k:Nat} {x y z:Str} {d:Expr} {f:FnA S} {px py pz pt:Pos} {kt k2 pt2} (hc:X.calm=true) (hN:X.N.Nodup) (hi:X.N[i]?=some x) (hj:X.N[j]?=some y) (hk:X.N[k]?=some z) (hij:i≠j) (hik:i≠k) (hjk:j≠k)
 (hx:X.env.scope.names.lookup x=some .local) (hy:X.env.scope.names.lookup y=some .local) (hz:X.env.scope.names.lookup z=some .local) (ha:DB X c [a,b,d] f)
 (hw:swappedStores [.Tuple [.Name x px,.Name y py,.Name z pz] kt pt] (.Tuple [a,b,d] k2 pt2) X.env=pure (some [x,y,z]))
 (hs:swapsWithSole [.Tuple [.Name x px,.Name y py,.Name z pz] kt pt] (.Tuple [a,b,d] k2 pt2) pos.line X.env=pure false:=by rfl) :
 DS X c (.Assign [.Tuple [.Name x px,.Name y py,.Name z pz] kt pt] (.Tuple [a,b,d] k2 pt2) pos) (wu3 S i j k f):=
 (wk4 hc hN hi hj hk hij hik hjk hx hy hz ha hw hs).imp fun D σ H hI39=>by
  obtain⟨ρ,st,R,ok,w⟩:=hI39;refine⟨ρ,st,R,ok,za7 (za3.mp w) (fun l st1 q vs H1 e ok1 zz=>?_) fun x st1 q H' e ok'=>q H' (e.f0 R) ok'⟩;split at q
  ·rename_i d1 d2 d3
   obtain⟨v,r,e2,i2,i3⟩:=IsL.cons.mp zz;obtain⟨v',r',e3,i3,i4⟩:=IsL.cons.mp i3;obtain⟨v'',r'',e4,i4,i5⟩:=IsL.cons.mp i4;rw[e3,e4,IsL.nil.mp i5] at e2;obtain⟨ρ1,p1,q⟩:=zb8.mp (za3.mp q);obtain⟨ρ2,p2,q⟩:=zb8.mp (za3.mp q);obtain⟨ρ3,p3,q⟩:=zb8.mp (za3.mp q);obtain⟨h1,rfl⟩:=zn2 p1;obtain⟨h2,rfl⟩:=zn2 p2;obtain⟨h3,rfl⟩:=zn2 p3;have R1:=(R.ext ok e).setB h1 i2;have k1:zi6 (Av c σ ρ) (Av c (σ.set i (some v)) (ρ.set i (.bor d1))) H1 H1:=Frm.keepT (R.ext ok e) ok1 zh4;have R2:=R1.setB h2 (i3.mono k1);have k2:zi6 (Av c (σ.set i (some v)) (ρ.set i (.bor d1))) (Av c ((σ.set i (some v)).set j (some v')) ((ρ.set i (.bor d1)).set j (.bor d2))) H1 H1:=Frm.keepT R1 ok1 zh4;have R3:=R2.setB h3 ((i4.mono k1).mono k2);exact⟨v,v',v'',e2,q _ _ ((Ext.frm e).trans (zh4.trans (zh4.trans zh4))) ok1 R3⟩
  ·exact q.elim
noncomputable def wi6 {S:Type} {W:Wd S} (c:Dx W):List Str->List (Fn S)->List (TE×TE)
 | k::ks,f::fs=>(tC (.str k),tD c .R f)::wi6 c ks fs
 | _,_=>[]
noncomputable def vb3 (S:Type):List (Fn S)->FnA S
 | []=>vc6 S
 | f::fs=>zu8 S f (vb3 S fs)
theorem yp2:∀(ks:List Str) (fs:List (Fn S)) {σ:St} {H:Hp} {ρ:Rho} {st:S} {Q:List (V×V)->Hp->Prop},ks.length=fs.length->Rep c H σ ρ->W.ok st H->
 wpR (vb3 S fs ρ st) (fun l st'=>∀vs H',Ext W H H'->W.ok st' H'->IsL c.K (fun b=>¬W.mv b) H' l vs->Q ((ks.zip vs).map fun kv=>(V.str kv.1,kv.2)) H') (fun x st'=>∀H',Ext W H H'->W.ok st' H'->c.Ex x st' H')->yp3 (wi6 c ks fs) σ H Q
 | [],[],σ,H,ρ,st,Q,_,R,ok,w=>w [] H Ext.refl ok (IsL.nil.mpr rfl)
 | k::ks,f::fs,σ,H,ρ,st,Q,hl,R,ok,w=>by
   refine⟨ρ,st,R,ok,za7 (za3.mp w) (fun d st1 q v H1 e ok1 z=>?_) fun x st1 q=>q⟩;refine yp2 ks fs (by simpa using hl) (R.ext ok e) ok1 (za7 (za3.mp q) (fun l st2 q vs H2 e2 ok2 z2=>?_) fun x st2 q H2 e2 ok2=>q H2 (e.trans e2) ok2);exact q (v::vs) H2 (e.trans e2) ok2 (IsL.cons.mpr ⟨v,vs,rfl,z.toR.ext e2 ok1,z2⟩)
 | [],_::_,_,_,_,_,_,hl,_,_,_=>by cases hl
 | _::_,[],_,_,_,_,_,hl,_,_,_=>by cases hl
noncomputable def xh1 (x:Str):List Str->List D->Option D
 | k::ks,v::vs=>if k=x then some v else xh1 x ks vs
 | _,_=>none
theorem ya6:∀(kvs acc:List (Key×V)),(acc.map (·.1)++kvs.map (·.1)).Nodup->zy3 acc kvs=acc++kvs
 | [],acc,_=>by show acc=acc++[];simp
 | (k,v)::kvs,acc,h=>by
   have hk:∀p∈acc,p.1≠k:=fun p hp e=>by
    have:=(List.nodup_append.mp h).2.2 p.1 (List.mem_map_of_mem hp) k (by simp);exact this e
   have e:zv0 acc k v=acc++[(k,v)]:=by
    unfold zv0;rw[if_neg];intro z;obtain⟨p,hp,hq⟩:=List.any_eq_true.mp z;exact hk p hp (by simpa using hq)
   show zy3 (zv0 acc k v) kvs=_;rw[e,ya6 kvs (acc++[(k,v)]) (by simpa using h)];simp
noncomputable def DKV (X:Cx) {S:Type} {W:Wd S} (c:Dx W) (pos:Pos) (keys:List (Option Expr)) (values:List Expr) (ks:List Str) (fs:List (Fn S)):Prop:=PPs X pos keys values (wi6 c ks fs)/\ks.length=fs.length
theorem wq0:DKV X c pos [] [] [] ([]:List (Fn S)):=⟨yw7,rfl⟩
theorem yc9 {k:Str} {j} {p:Pos} {v:Expr} {f:Fn S} {keys:List (Option Expr)} {values:List Expr} {ks:List Str} {fs:List (Fn S)} (hv:DE X c .R v f) (h:DKV X c pos keys values ks fs):DKV X c pos (some (.Constant (.str k) j p)::keys) (v::values) (k::ks) (f::fs):=
 ⟨yc3 zx7 hv h.1,by simp[h.2]⟩
noncomputable def wz1 (S:Type) (ks:List Str) (fs:List (Fn S)) (fk:Fn S):Fn S:=fun ρ st=>(vb3 S fs ρ st).bind fun l st1=>(fk ρ st1).bind fun d st2=>match d with
 | .str x=>if D.immL l=true then zk3 (xh1 x ks l) st2 else .bad
 | _=>.bad
theorem xb7 {K:PySem.W.Frag} {A:Addr->Prop} {H:Hp} {x:Str}:∀{ks:List Str} {l:List D} {vs:List V} {d:D},xh1 x ks l=some d->IsL K A H l vs->D.immL l=true->∃v,yi9 ((ks.zip vs).map fun kv=>((Sum.inr kv.1:Key),kv.2)) (Sum.inr x:Key)=some v/\Is K A H d v/\d.imm=true
 | [],l,vs,d,e,_,_=>by cases l<;>cases e
 | k::ks,[],vs,d,e,_,_=>by cases e
 | k::ks,y::l,vs,d,e,h,m=>by
   obtain⟨v,r,e1,i1,i2⟩:=IsL.cons.mp h;subst e1;have m':y.imm=true/\D.immL l=true:=by simpa [D.immL] using m
   unfold xh1 at e;by_cases hk:k=x
   ·rw[if_pos hk] at e;cases e
    subst hk;exact⟨v,zq1 rfl,i1,m'.1⟩
   ·rw[if_neg hk] at e
    obtain⟨v',g1,g2,g3⟩:=xb7 e i2 m'.2;refine⟨v',?_,g2,g3⟩;show yi9 (((Sum.inr k:Key),v)::(ks.zip r).map fun kv=>((Sum.inr kv.1:Key),kv.2)) (Sum.inr x:Key)=_;rw[zq2 (fun z=>hk (Sum.inr.inj z))];exact g1
theorem yo7:∀{ks:List Str} {vs:List V},ks.Nodup->((ks.zip vs).map ((fun x=>x.1) ∘ fun kv=>((Sum.inr kv.1:Key),kv.2))).Nodup
 | [],_,_=>by simp
 | k::ks,[],_=>by simp
 | k::ks,v::vs,h=>by
   obtain⟨h1,h2⟩:=Bx0.mp h;show ((Sum.inr k:Key)::(ks.zip vs).map ((fun x=>x.1) ∘ fun kv=>((Sum.inr kv.1:Key),kv.2))).Nodup;refine Bx0.mpr ⟨fun hm=>?_,yo7 h2⟩;obtain⟨⟨a,b⟩,hab,e⟩:=Bl0.mp hm;have e:a=k:=Sum.inr.inj e;subst e;exact h1 (List.of_mem_zip hab).1
set_option tactic.hygienic true in
theorem wq2 {keys:List (Option Expr)} {values:List Expr} {ks:List Str} {fs:List (Fn S)} {dpos:Pos} {k:Expr} {fk:Fn S} (hu:X.A.units+1<cLine) (h:DKV X c dpos keys values ks fs) (hall:keys.all (·.isSome)=true) (hl:keys.length=values.length) (h0:keys≠[]) (h15:keys.length<=15) (hks:ks.length<=15) (hnd:ks.Nodup)
 (hk:DE X c ga k fk) (hs:vi2 k):DE X c g (.Subscript (.Dict keys values dpos) k pos) (wz1 S ks fs fk):=
 (ye3 hu (xo0 h.1 hall hl h0 h15) hk hs).imp fun σ H Q hI40=>by
  obtain⟨ρ,st,R,ok,w⟩:=hI40;intro p hp;have np:¬W.mv p:=zo4 ok hp;refine yp2 ks fs h.2 (R.ext ok (Ext.laid hp)) (zi3 ok hp) (za7 (za3.mp w) (fun l st1 q vs H2 e2 ok2 z2=>?_) fun x st1 q H2 e2 ok2=>q H2 ((Ext.laid hp).trans e2) ok2);have hp2:H2 p=some (.dK []):=e2 p _ zb0 np;refine⟨hp2,(ks.zip vs).map fun kv=>((Sum.inr kv.1:Key),kv.2),by rw[Bz0];rfl,by rw[Ab0,List.length_zip];omega,?_⟩;have mk:zy3 [] ((ks.zip vs).map fun kv=>((Sum.inr kv.1:Key),kv.2))=(ks.zip vs).map fun kv=>((Sum.inr kv.1:Key),kv.2):=by
   rw[ya6 _ []]
   ·rfl
   ·show (((ks.zip vs).map fun kv=>((Sum.inr kv.1:Key),kv.2)).map (·.1)).Nodup
    rw[Bz0];exact yo7 hnd
  rw[mk];have ex:Ext W H (upd H2 p (.dK ((ks.zip vs).map fun kv=>((Sum.inr kv.1:Key),kv.2)))):=fun b o hb nm=>by
   have b1:b≠p:=zb7 hb hp;rw[za9 b1];exact e2 b o (by rw[za9 b1];exact hb) nm
  have ok3:=ya4 (o:=.dK ((ks.zip vs).map fun kv=>((Sum.inr kv.1:Key),kv.2))) ok2 np;have R3:=R.ext ok ex;refine⟨ρ,st1,R3,ok3,za7 (za3.mp q) (fun d st2 q v H4 e4 ok4 z4=>?_) fun x st2 q H4 e4 ok4=>q H4 (ex.trans e4) ok4⟩;split at q
  ·rename_i x
   split at q
   ·rename_i im
    obtain⟨dd,e5,q⟩:=zb8.mp q;have k1:zi6 (fun _=>False) (fun b=>¬W.mv b/\H b=Option.none) H2 H4:=⟨fun b u e sy=>by
     have b1:b≠p:=fun z=>by
      subst z;rw[hp2] at e;cases e;rcases sy with⟨_,y⟩ | ⟨_,_,y⟩<;>cases y
     refine e4 b _ (by rw[za9 b1];exact e) fun m=>?_
     obtain⟨o',h',n1,n2⟩:=W.live st1 H2 b ok2 m;rw[e] at h';cases h';rcases sy with⟨y,z⟩ | ⟨y1,y2,z⟩
     ·exact n1 y z
     ·exact n2 y1 y2 z,fun b o f=>f.elim⟩
    have z3:IsL c.K (fun _=>False) H2 l vs:=IsL.ofImm im z2;obtain⟨v',g1,g2,g3⟩:=xb7 e5 (z3.mono k1) im;have zx:Is c.K (fun b=>¬W.mv b) H4 (.str x) v:=z4.toR;refine⟨p,v',rfl,?_,q v' H4 (ex.trans e4) ok4 ((New.val (R3.ext ok3 e4) (show New c H4 H4 dd v' from Is.ofImm g3 g2) g).back (ex.trans e4) ok4)⟩;rw[Is.str_iff.mp zx,<-g1];exact yh7.k (k:=(Sum.inr x:Key)) (e4 p _ zb0 np)
   ·exact q.elim
  ·exact q.elim
theorem wf4 {A:Around} {k:Nat} (hr:zl9 k A):A.in1.units+1<cLine:=by
 have:=hr.units;show A.units+1+1<cLine;omega
theorem yt7 (hu:X.A.units+1<cLine) (ha:DE X c ga a fa) (hb:DE X c gb b fb) (hm:behindInMarks .NotIn b=false:=by rfl):DT X c (.Compare a [.NotIn] [b] pos) (fB S (f2 S (xh4 true) fa fb)):=
 (wd8 (yq8 hu ha hb) hm).imp fun σ H Q q=>by
  have q':tB (tD c .R (f2 S (xh4 true) fa fb)) σ H Q:=yp4 q;exact xa9 (ga:=ga) (gb:=gb) q'
end
end L2
end
section
namespace L2
open PySem PySem.Spec PyProof.Rows
noncomputable abbrev Dr:=List Int×Int
noncomputable def stD (l:Addr) (t:Int):List (Key×V):=[(Sum.inr "cells",.ref l),(Sum.inr "turn",.int t)]
noncomputable def WdS (p l:Addr):Wd Dr where
 ok:=fun st H=>H p=some (.dK (stD l st.2))/\H l=some (.lst (st.1.map V.int))/\st.1≠[]/\st.1.length<=63/\0<=st.2
 mv:=fun b=>b=p\/b=l
 h:=.ref p
 stay:=fun st H H' ⟨a,b,c⟩ k=>⟨k p _ (.inl rfl) a,k l _ (.inr rfl) b,c⟩
 live:=fun st H b hI41 m=>by
  obtain⟨a,c,_⟩:=hI41;rcases m with m | m
  ·subst m;exact⟨_,a,(fun u z=>by cases z),fun ob u z=>by cases z⟩
  ·subst m;exact⟨_,c,(fun u z=>by cases z),fun ob u z=>by cases z⟩
noncomputable def wr3 (cell turn:Int):Int:=(cell % 2147483629+turn*turn*7919+11)*48271 % 2147483647
noncomputable def vj2 (cell turn:Int):Int:=wr3 cell turn*wr3 cell turn % 2147483587
noncomputable def vj1 (cell turn:Int):Int:=(vj2 cell turn+turn*104729)*39373 % 2147483629 / 64
noncomputable def plc (st:Dr):Nat:=((st.2+1) % (st.1.length:Int)).toNat
noncomputable def zu3 (l:List D) (st:Dr):Res Dr D:=match l with
 | [.int many]=>if 0<many/\many<1073741824/\st.2<2 ^ 40 then
  (if 1000000000000000000<=st.1.getD (plc st) 0 then .ok (.int (st.1.getD (plc st) 0 % many)) (st.1.set (plc st) (st.1.getD (plc st) 0 / many),st.2+1)
   else .ok (.int (vj1 (st.1.getD (plc st) 0) (st.2+1) % many)) (st.1,st.2+1)) else .bad
 | _=>.bad
theorem wj5:¬((Sum.inr ("cells" : Str)):Key)=Sum.inr ("turn" : Str):=by decide +kernel
theorem xx5 {l:Addr} {t:Int}:yi9 (stD l t) (Sum.inr "cells" : Key)=some (.ref l):=by
 unfold stD;exact zq1 rfl
theorem xl9 {l:Addr} {t:Int}:yi9 (stD l t) (Sum.inr "turn" : Key)=some (.int t):=by
 unfold stD;rw[zq2 (fun z=>wj5 z)];exact zq1 rfl
theorem wu0 {l:Addr} {t u:Int}:zv0 (stD l t) (Sum.inr "turn" : Key) (.int u)=stD l u:=by
 unfold zv0;rw[zx2,xl9];refine(if_pos (show (some (V.int t)).isSome=true from rfl)).trans ?_;unfold stD;simp only[Ao0,Ce0];rw[if_neg (fun z=>wj5 z)];simp
structure Bn (mg:Str->Option Value):Prop where
 len:mg "len" = none
 divmod:mg "divmod" = none
 list:mg "list" = none
 tuple:mg "tuple" = none
 int:mg "int" = none
 bool:mg "bool" = none
 str:mg "str" = none
 dict:mg "dict" = none
 isinstance:mg "isinstance" = none
 all:mg "all" = none
 any:mg "any" = none
 sum:mg "sum" = none
 zip:mg "zip" = none
 enumerate:mg "enumerate" = none
 range:mg "range" = none
 sorted:mg "sorted" = none
 min:mg "min" = none
 max:mg "max" = none
 abs:mg "abs" = none
 reversed:mg "reversed" = none
end L2
end
section
namespace L2
open PySem PySem.Spec PyProof.Rows
noncomputable def zr0 (ns:List Int):List Int:=if ns=[] then [7] else ns
noncomputable def xm0 (K:PySem.W.Frag):Sp:=fun vs H Q _=>∃(a:Addr) (ns:List Int),vs=[.ref a]/\SqL K H a (ns.map V.int)/\ns.length<=63/\
 ∀(p l:Addr) (H':Hp),yv3 H H'->H p=none->H l=none->H' p=some (.dK (stD l 0))->H' l=some (.lst ((zr0 ns).map V.int))->Q (.ref p) H'
theorem vh5 {ns:List Int} (h:ns.length<=63):wq4 (ns.map V.int) none (some 63)=ns.map V.int:=by
 unfold wq4;have e:HT.sIx (ns.map V.int).length (ns.map V.int).length (some 63)=(ns.map V.int).length:=by
  have:HT.sIx (ns.map V.int).length (ns.map V.int).length (some ((63:Nat):Int))=min 63 (ns.map V.int).length:=HT.sIx_nat _ _ _;rw[show ((63:Nat):Int)=(63:Int) from rfl] at this;rw[this,Ab0];omega
 rw[e];show ((ns.map V.int).drop 0).take ((ns.map V.int).length-0)=_;rw[List.drop_zero,Nat.sub_zero,Bo0]
theorem xr6 {K:PySem.W.Frag} {A:Addr->Prop} {H:Hp}:∀ns:List Int,IsL K A H (ns.map D.int) (ns.map V.int)
 | []=>IsL.nil.mpr rfl
 | n::ns=>IsL.cons.mpr ⟨_,_,rfl,Is.int_iff.mpr rfl,xr6 ns⟩
theorem yu1:∀ns:List Int,D.depL (ns.map D.int)<=1
 | []=>by simp[D.depL]
 | n::ns=>by
   have:=yu1 ns;simp only[Ao0,D.depL,D.dep];omega
theorem wa4 (ns:List Int):D.dep (.lst (ns.map D.int))<=30:=by
 have:=yu1 ns;simp only[D.dep];omega
theorem wx2 {l:Addr}:zy3 [] [((Sum.inr "cells" : Key),.ref l),((Sum.inr "turn" : Key),.int 0)]=stD l 0:=by
 show zv0 (zv0 [] (Sum.inr "cells" : Key) (.ref l)) (Sum.inr "turn" : Key) (.int 0)=_;have e1:zv0 [] (Sum.inr "cells" : Key) (.ref l)=[((Sum.inr "cells" : Key),.ref l)]:=rfl;rw[e1];unfold zv0;rw[zx2,zq2 (fun z=>wj5 z)];rfl
noncomputable def xx7 (K:PySem.W.Frag):Sp:=fun vs H Q _=>∃(a:Addr) (ns:List Int),vs=[.ref a]/\SqL K H a (ns.map V.int)/\ns.length<=63/\∀H',Q (.bl true) H'
noncomputable def rhoL (n:Nat):Rho:=.no::.hnd::List.replicate (n-2) .no
noncomputable def exL {X:Cx} (K:PySem.W.Frag) (F:FnS Dr):TS:=fun D σ H=>∃p l,tS (cxS (WdS p l) K (fun _=>none)) F D σ H
theorem wk2 {X:Cx} {K:PySem.W.Frag} {ss:List Stmt} {F:FnS Dr} (h:∀p l,DSs X (cxS (WdS p l) K (fun _=>none)) ss F):PSs X ss (exL (X:=X) K F):=fun pins s σ H D I ⟨p,l,q⟩=>h p l pins s σ H D I q
theorem vf0 {K:PySem.W.Frag} {H:Hp} {p l a:Addr} {m:Nat}:Rep (cxS (WdS p l) K (fun _=>none)) H (some (.ref a)::some (.ref p)::List.replicate m none) (rhoL (m+2)) where
 len:=by simp[rhoL]
 frame:=fun b o e=>by cases e
 slot:=fun i s h=>by
  unfold rhoL at h
  match i with
  | 0=>cases h;trivial
  | 1=>cases h;rfl
  | i+2=>
    have h:(List.replicate (m+2-2) Sl.no)[i]?=some s:=by simpa using h
    rw[List.getElem?_replicate] at h;split at h
    ·cases h;trivial
    ·cases h
 avl:=fun b h=>h.elim
 uniq:=fun i j b d e h1 h2 _ _=>by
  unfold rhoL at h1
  match i with
  | 0=>cases h1
  | 1=>cases h1
  | i+2=>
    have h1:(List.replicate (m+2-2) Sl.no)[i]?=some (.own d):=by simpa using h1
    rw[List.getElem?_replicate] at h1;split at h1
    ·cases h1
    ·cases h1
end L2
end
section
namespace L2
open PySem PySem.Spec PyProof.Rows
section
variable {S α β:Type} {E:Exn->S->Prop} {st:S}
set_option tactic.hygienic true in
theorem wpB {r:Res S α} {k:α->S->Res S β} {Q:β->S->Prop} {P:α->S->Prop} (h:∀d st1,wpR (k d st1) Q E↔P d st1):wpR (r.bind k) Q E↔wpR r P E:=by
 rw[za3];exact iff_of_eq (congrArg (fun z=>wpR r z E) (funext fun d=>funext fun st1=>propext (h d st1)))
theorem yg3 {P:α->Prop} {a:α} {R:Prop} (k:R↔P a):R↔∃b,some a=some b/\P b:=⟨fun q=>⟨a,rfl,k.mp q⟩,fun h=>by obtain⟨_,e,q⟩:=h;cases e;exact k.mpr q⟩
theorem yg4 {P:α->Prop}:False↔∃b,(none:Option α)=some b/\P b:=⟨False.elim,fun h=>by obtain⟨_,e,q⟩:=h;cases e⟩
theorem wp2 {P:Bool->Prop} {a:Bool} {R:Prop} (k:R↔P a):R↔∃b,D.bl a=.bl b/\P b:=⟨fun q=>⟨a,rfl,k.mp q⟩,fun h=>by obtain⟨_,e,q⟩:=h;cases e;exact k.mpr q⟩
theorem wz4 {P:Int->Prop} {a:Int} {R:Prop} (k:R↔P a):R↔∃b,D.int a=.int b/\P b:=⟨fun q=>⟨a,rfl,k.mp q⟩,fun h=>by obtain⟨_,e,q⟩:=h;cases e;exact k.mpr q⟩
theorem wz3 {P:Str->Prop} {a:Str} {R:Prop} (k:R↔P a):R↔∃b,D.str a=.str b/\P b:=⟨fun q=>⟨a,rfl,k.mp q⟩,fun h=>by obtain⟨_,e,q⟩:=h;cases e;exact k.mpr q⟩
theorem yy6 {c:β->α} {d:α} {P:β->Prop} (h:∀b,d=c b->False):False↔∃b,d=c b/\P b:=⟨False.elim,fun g=>by obtain⟨b,e,_⟩:=g;exact h b e⟩
theorem wg0 {γ:Type} {c:β->α} {d:α} {P:β->γ->Prop} (h:∀b,d=c b->False):False↔∃b g,d=c b/\P b g:=⟨False.elim,fun g=>by obtain⟨b,_,e,_⟩:=g;exact h b e⟩
theorem xs9 {γ:Type} {P:Int->γ->Prop} {a:Int} {R:Prop} (k:R↔∃g,P a g):R↔∃b g,D.int a=.int b/\P b g:=⟨fun h=>by obtain⟨g,q⟩:=k.mp h;exact⟨a,g,rfl,q⟩,fun h=>by obtain⟨_,g,e,q⟩:=h;cases e;exact k.mpr ⟨g,q⟩⟩
theorem xa5 {c:Prop} [Decidable c] {r:Res S α} {Q:α->S->Prop}:wpR (if c then r else .bad) Q E↔c/\wpR r Q E:=by
 by_cases h:c
 ·rw[if_pos h];exact⟨fun q=>⟨h,q⟩,fun q=>q.2⟩
 ·rw[if_neg h];exact⟨fun q=>q.elim,fun q=>h q.1⟩
theorem yv5 {o:Option Rho} {Q:Fl->S->Prop}:wpR ((zk3 o st).bind fun ρ1 st2=>Res.ok (Fl.nx ρ1) st2) Q E↔∃ρ1,o=some ρ1/\Q (.nx ρ1) st:=by rw[za3,zb8];exact Iff.rfl
theorem yl1 {o:Option Rho} {k:Rho->S->Res S β} {Q:β->S->Prop} {P:Rho->Prop} (h:∀ρ1,wpR (k ρ1 st) Q E↔P ρ1):wpR ((zk3 o st).bind k) Q E↔∃ρ1,o=some ρ1/\P ρ1:=by
 rw[za3,zb8];exact exists_congr fun ρ1=>and_congr Iff.rfl (h ρ1)
end
theorem wc7 {d:D} {b:Bool}:d.bool?=some b↔d=.bl b:=by
 cases d with
 | bl a=>exact⟨fun e=>congrArg D.bl (Option.some.inj e),fun e=>congrArg D.bool? e⟩
 | _=>exact⟨fun e=>(by cases e),fun e=>(by cases e)⟩
theorem int_iff {d:D} {b:Int}:d.int?=some b↔d=.int b:=by
 cases d with
 | int a=>exact⟨fun e=>congrArg D.int (Option.some.inj e),fun e=>congrArg D.int? e⟩
 | _=>exact⟨fun e=>(by cases e),fun e=>(by cases e)⟩
section
variable {S:Type} {E:Exn->S->Prop} {ρ:Rho} {st:S}
section
variable {Q:D->S->Prop} {f f1 f2' f3 fk:Fn S}
theorem wp_fAndV:wpR (wz2 S f1 f2' ρ st) Q E↔wpR (f1 ρ st) (fun d st1=>∃b,d=.bl b/\(if b=true then wpR (f2' ρ st1) Q E else Q (.bl false) st1)) E:=wpB fun d st1=>by
 cases d with
 | bl b=>cases b<;>exact wp2 Iff.rfl
 | _=>exact yy6 fun b e=>by cases e
theorem wp_fOrV:wpR (vj8 S f1 f2' ρ st) Q E↔wpR (f1 ρ st) (fun d st1=>∃b,d=.bl b/\(if b=true then Q (.bl true) st1 else wpR (f2' ρ st1) Q E)) E:=wpB fun d st1=>by
 cases d with
 | bl b=>cases b<;>exact wp2 Iff.rfl
 | _=>exact yy6 fun b e=>by cases e
theorem wp_fNotV:wpR (wz0 S f ρ st) Q E↔wpR (f ρ st) (fun d st1=>∃b,d=.bl b/\Q (.bl (!b)) st1) E:=wpB fun d st1=>by
 cases d with
 | bl b=>exact wp2 Iff.rfl
 | _=>exact yy6 fun b e=>by cases e
theorem wp_fNeg:wpR (vj9 S f ρ st) Q E↔wpR (f ρ st) (fun d st1=>∃i,d=.int i/\Q (.int (-i)) st1) E:=wpB fun d st1=>by
 cases d with
 | int b=>exact wz4 Iff.rfl
 | _=>exact yy6 fun b e=>by cases e
theorem wp_pSo {Q:Option Int->S->Prop}:wpR (pSo S f ρ st) Q E↔wpR (f ρ st) (fun d st1=>∃i,d=.int i/\Q (some i) st1) E:=wpB fun d st1=>by
 rw[za3,zb8];exact exists_congr fun i=>and_congr int_iff Iff.rfl
theorem wp_fB {Q:Bool->S->Prop}:wpR (fB S f ρ st) Q E↔wpR (f ρ st) (fun d st1=>∃b,d=.bl b/\Q b st1) E:=wpB fun d st1=>by
 rw[zb8];exact exists_congr fun i=>and_congr wc7 Iff.rfl
theorem wp_fDisp {ks:List Str} {fs:List (Fn S)}:wpR (wz1 S ks fs fk ρ st) Q E↔wpR (vb3 S fs ρ st) (fun l st1=>wpR (fk ρ st1) (fun d st2=>∃x,d=.str x/\D.immL l=true/\wpR (zk3 (xh1 x ks l) st2) Q E) E) E:=wpB fun l st1=>wpB fun d st2=>by
 cases d with
 | str x=>exact wz3 xa5
 | _=>exact yy6 fun b e=>by cases e
theorem xu3 {r:Option D} {R1 R0:Res S D}:wpR (match r with
 | some (.bl true)=>R1
 | some (.bl false)=>R0
 | _=>.bad) Q E↔∃b,r=some (.bl b)/\(if b=true then wpR R1 Q E else wpR R0 Q E):=by
 cases r with
 | none=>exact yy6 (c:=fun b=>some (D.bl b)) fun b e=>by cases e
 | some d=>cases d with
   | bl b=>cases b<;>exact⟨fun q=>⟨_,rfl,q⟩,fun h=>by obtain⟨_,e,q⟩:=h;cases e;exact q⟩
   | _=>exact yy6 (c:=fun b=>some (D.bl b)) fun b e=>by cases e
theorem wp_fChain {o o':D->D->Option D}:wpR (yt4 S o o' f1 f2' f3 ρ st) Q E↔wpR (f1 ρ st) (fun d1 st1=>wpR (f2' ρ st1) (fun d2 st2=>∃b,o d1 d2=some (.bl b)/\(if b=true then wpR (f3 ρ st2) (fun d3 st3=>wpR (zk3 (o' d2 d3) st3) Q E) E else Q (.bl false) st2)) E) E:=wpB fun d1 st1=>wpB fun d2 st2=>by
 refine xu3.trans ?_;rw[za3];exact Iff.rfl
end
section
variable {Q:Fl->S->Prop} {F G B:FnS S} {t:FnT S} {f fk fv:Fn S} {i j k:Nat}
theorem wp_sMt {o:List D->D->Option (List D)}:wpR (sMt S i o f ρ st) Q E↔∃l,zj1 ρ i=some l/\wpR (f ρ st) (fun d st1=>∃l',o l d=some l'/\Q (.nx (ρ.set i (.own (.lst l')))) st1) E:=by
 unfold sMt;cases zj1 ρ i with
 | none=>exact yg4
 | some l=>
   refine yg3 (wpB fun d st1=>?_);rw[za3,zb8];exact Iff.rfl
theorem wp_sItem:wpR (wu4 S i fk fv ρ st) Q E↔wpR (fv ρ st) (fun v st1=>∃l,zj1 ρ i=some l/\wpR (fk ρ st1) (fun d st2=>∃j n,d=.int j/\ixN l.length j=some n/\v.imm=true/\Q (.nx (ρ.set i (.own (.lst (l.set n v))))) st2) E) E:=wpB fun v st1=>by
 cases zj1 ρ i with
 | none=>exact yg4
 | some l=>
   refine yg3 (wpB fun d st2=>?_);cases d with
   | int j=>
     refine xs9 ?_;dsimp only;cases ixN l.length j with
     | none=>exact yg4
     | some n=>exact yg3 xa5
   | _=>exact wg0 fun b e=>by cases e
theorem wp_sDPut:wpR (wd5 S i fk fv ρ st) Q E↔wpR (fv ρ st) (fun v st1=>∃ks vs,zz8 ρ i=some (ks,vs)/\wpR (fk ρ st1) (fun d st2=>∃kk,zc8 d=some kk/\v.imm=true/\ks.length<sizeLine/\Q (.nx (ρ.set i (.own (.dct (.non::(zu7 kk v ks vs).1) (zu7 kk v ks vs).2)))) st2) E) E:=wpB fun v st1=>by
 cases zz8 ρ i with
 | none=>exact⟨False.elim,fun h=>by obtain⟨_,_,e,_⟩:=h;cases e⟩
 | some l=>
   obtain⟨ks,vs⟩:=l;refine(wpB fun d st2=>?_).trans ⟨fun q=>⟨ks,vs,rfl,q⟩,fun h=>by obtain⟨_,_,e,q⟩:=h;cases e;exact q⟩;cases zc8 d with
   | none=>exact yg4
   | some kk=>exact yg3 (xa5.trans and_assoc)
theorem wp_sPar {fa:FnA S}:wpR (vi5 S i j fa ρ st) Q E↔wpR (fa ρ st) (fun l st1=>match l with
 | [d,e]=>∃ρ1,put ρ i d=some ρ1/\∃ρ2,put ρ1 j e=some ρ2/\Q (.nx ρ2) st1
 | _=>False) E:=wpB fun l st1=>by
 match l with
 | []=>exact Iff.rfl
 | [_]=>exact Iff.rfl
 | [d,e]=>exact yl1 fun _=>yv5
 | _::_::_::_=>exact Iff.rfl
theorem wp_sPar3 {fa:FnA S}:wpR (wu3 S i j k fa ρ st) Q E↔wpR (fa ρ st) (fun l st1=>match l with
 | [d,e,h]=>∃ρ1,put ρ i d=some ρ1/\∃ρ2,put ρ1 j e=some ρ2/\∃ρ3,put ρ2 k h=some ρ3/\Q (.nx ρ3) st1
 | _=>False) E:=wpB fun l st1=>by
 match l with
 | []=>exact Iff.rfl
 | [_]=>exact Iff.rfl
 | [_,_]=>exact Iff.rfl
 | [d,e,h]=>exact yl1 fun _=>yl1 fun _=>yv5
 | _::_::_::_::_=>exact Iff.rfl
end
end
section
variable {S α β:Type} {Q:α->S->Prop} {E:Exn->S->Prop} {ρ:Rho} {st:S}
theorem wp_ok {a:α}:wpR (Res.ok a st) Q E↔Q a st:=Iff.rfl
theorem wp_bad:wpR (Res.bad:Res S α) Q E↔False:=Iff.rfl
theorem wp_some {a:α}:wpR (zk3 (some a) st) Q E↔Q a st:=Iff.rfl
theorem wp_none:wpR (zk3 (none:Option α) st) Q E↔False:=Iff.rfl
end
section
variable {S:Type} {E:Exn->S->Prop} {ρ:Rho} {st:S}
variable {Q:Fl->S->Prop} {F G B:FnS S} {t:FnT S} {f:Fn S} {i j:Nat}
theorem zb1:wpR (wr2 S F G ρ st) Q E↔wpR (F ρ st) (fun fl st1=>match fl with
 | .nx ρ1=>wpR (G ρ1 st1) Q E
 | .rt d=>Q (.rt d) st1
 | .bk r=>Q (.bk r) st1
 | .ct r=>Q (.ct r) st1) E:=by
 unfold wr2;rw[za3];cases F ρ st with
 | bad=>exact Iff.rfl
 | exc x s=>exact Iff.rfl
 | ok fl s=>cases fl<;>exact Iff.rfl
theorem wp_sNil:wpR (vi6 S ρ st) Q E↔Q (.nx ρ) st:=Iff.rfl
theorem wp_sSet:wpR (wu2 S i f ρ st) Q E↔wpR (f ρ st) (fun d st1=>∃ρ1,putN ρ i d=some ρ1/\Q (.nx ρ1) st1) E:=by
 unfold wu2;rw[za3];have:∀d st1,wpR ((zk3 (putN ρ i d) st1).bind fun ρ' st2=>Res.ok (Fl.nx ρ') st2) Q E↔∃ρ1,putN ρ i d=some ρ1/\Q (.nx ρ1) st1:=fun d st1=>by rw[za3,zb8];exact Iff.rfl
 simp only[this]
theorem wp_sSetB:wpR (xm5 S i f ρ st) Q E↔wpR (f ρ st) (fun d st1=>∃ρ1,put ρ i d=some ρ1/\Q (.nx ρ1) st1) E:=by
 unfold xm5;rw[za3];have:∀d st1,wpR ((zk3 (put ρ i d) st1).bind fun ρ' st2=>Res.ok (Fl.nx ρ') st2) Q E↔∃ρ1,put ρ i d=some ρ1/\Q (.nx ρ1) st1:=fun d st1=>by rw[za3,zb8];exact Iff.rfl
 simp only[this]
theorem wp_sAsg {g:FnG}:wpR (ve9 S g f ρ st) Q E↔wpR (f ρ st) (fun d st1=>∃ρ1,g d ρ=some ρ1/\Q (.nx ρ1) st1) E:=by
 unfold ve9;rw[za3];have:∀d st1,wpR ((zk3 (g d ρ) st1).bind fun ρ' st2=>Res.ok (Fl.nx ρ') st2) Q E↔∃ρ1,g d ρ=some ρ1/\Q (.nx ρ1) st1:=fun d st1=>by rw[za3,zb8];exact Iff.rfl
 simp only[this]
set_option tactic.hygienic true in
theorem wp_sIf:wpR (sIf S t F G ρ st) Q E↔wpR (t ρ st) (fun b st1=>if b=true then wpR (F ρ st1) Q E else wpR (G ρ st1) Q E) E:=by
 unfold sIf;rw[za3];refine iff_of_eq (congrArg (fun z=>wpR (t ρ st) z E) (funext fun b=>funext fun st1=>propext ?_));cases b<;>exact Iff.rfl
set_option tactic.hygienic true in
theorem wp_sRet:wpR (ve5 S f ρ st) Q E↔wpR (f ρ st) (fun d st1=>(d.imm=true\/d.flat=true)/\Q (.rt d) st1) E:=by
 unfold ve5;rw[za3];refine iff_of_eq (congrArg (fun z=>wpR (f ρ st) z E) (funext fun b=>funext fun st1=>propext ?_));by_cases h:b.imm=true\/b.flat=true
 ·rw[if_pos h];exact⟨fun q=>⟨h,q⟩,fun q=>q.2⟩
 ·rw[if_neg h];exact⟨fun q=>q.elim,fun q=>h q.1⟩
theorem wp_sRetV:wpR (wj8 S i ρ st) Q E↔∃d,own? ρ i=some d/\Q (.rt d) st:=by
 unfold wj8;rw[za3,zb8];exact Iff.rfl
theorem wp_sFor {fz:List Nat} {fi:FnI S} {g:FnG}:wpR (ve7 S fz fi g B ρ st) Q E↔wpR (fi (frz fz ρ) st) (fun l st1=>wpR (xi8 S g B l (frz fz ρ) st1) Q E) E:=by unfold ve7;rw[za3]
theorem wp_sBad:wpR (vm2 S ρ st) Q E↔False:=Iff.rfl
theorem yv7 {g:FnG} (I:Nat->Rho->S->Prop):∀{l:List D} {ρ:Rho} {st:S} (n:Nat),I n ρ st->
 (∀i d ρ st,l[i]?=some d->I (n+i) ρ st->∃ρ1,g d ρ=some ρ1/\wpR (B ρ1 st) (fun fl st'=>match fl with
  | .nx ρ2=>I (n+i+1) ρ2 st'
  | .ct ρ2=>I (n+i+1) ρ2 st'
  | .bk ρ2=>Q (.nx ρ2) st'
  | .rt d=>Q (.rt d) st') E)->(∀ρ st,I (n+l.length) ρ st->Q (.nx ρ) st)->wpR (xi8 S g B l ρ st) Q E
 | [],ρ,st,n,h0,_,he=>he ρ st h0
 | d::l,ρ,st,n,h0,hs,he=>by
   obtain⟨ρ1,e1,q⟩:=hs 0 d ρ st rfl h0;unfold xi8;rw[e1];refine za3.mpr (wp_some.mpr (za3.mpr (za7 q (fun fl st' z=>?_) fun x st' z=>z)));have go:∀ρ2,I (n+1) ρ2 st'->wpR (xi8 S g B l ρ2 st') Q E:=fun ρ2 z=>yv7 I (n+1) z (fun i d ρ st h h'=>by
    have:=hs (i+1) d ρ st (by simpa using h) (by rw[show n+(i+1)=n+1+i by omega];exact h');rw[show n+(i+1)=n+1+i by omega] at this;exact this) fun ρ st h=>he ρ st (by rw[An0,show n+(l.length+1)=n+1+l.length by omega];exact h)
   cases fl with
   | nx ρ2=>exact go ρ2 z
   | ct ρ2=>exact go ρ2 z
   | bk ρ2=>exact z
   | rt d=>exact z
end
section
variable {S:Type} {E:Exn->S->Prop} {ρ:Rho} {st:S} {Q:D->S->Prop} {f f1 f2' f3:Fn S} {i:Nat} {t:FnT S}
theorem wp_fC {d:D}:wpR (fC S d ρ st) Q E↔Q d st:=Iff.rfl
theorem wp_fVk:wpR (fVk S i ρ st) Q E↔wpR (zk3 (kp ρ i) st) Q E:=Iff.rfl
theorem wp_f2 {o:D->D->Option D}:wpR (f2 S o f1 f2' ρ st) Q E↔wpR (f1 ρ st) (fun d1 st1=>wpR (f2' ρ st1) (fun d2 st2=>wpR (zk3 (o d1 d2) st2) Q E) E) E:=by
 unfold f2;rw[za3];simp only[za3]
theorem wp_fA {o:List D->Option D} {fa:FnA S}:wpR (fA S o fa ρ st) Q E↔wpR (fa ρ st) (fun l st1=>wpR (zk3 (o l) st1) Q E) E:=by unfold fA;rw[za3]
theorem wp_aNil {Q:List D->S->Prop}:wpR (vc6 S ρ st) Q E↔Q [] st:=Iff.rfl
theorem wp_aCons {Q:List D->S->Prop} {r:FnA S}:wpR (zu8 S f r ρ st) Q E↔wpR (f ρ st) (fun d st1=>wpR (r ρ st1) (fun l st2=>Q (d::l) st2) E) E:=by
 unfold zu8;rw[za3];simp only[za3];exact Iff.rfl
set_option tactic.hygienic true in
theorem wp_fCall {F:List D->Res Unit D} {fa:FnA S}:wpR (xs8 S F fa ρ st) Q E↔wpR (fa ρ st) (fun l st1=>wpR (F l) (fun d _=>Q d st1) fun _ _=>False) E:=by
 unfold xs8;rw[za3];refine iff_of_eq (congrArg (fun z=>wpR (fa ρ st) z E) (funext fun b=>funext fun st1=>propext ?_));cases F b<;>exact Iff.rfl
set_option tactic.hygienic true in
theorem wp_fCallS {F:List D->S->Res S D} {fa:FnA S}:wpR (yt5 S F i fa ρ st) Q E↔ρ[i]?=some .hnd/\wpR (fa ρ st) (fun l st1=>wpR (F l st1) Q fun _ _=>False) E:=by
 unfold yt5;split
 ·rename_i h
  rw[za3];have:∀b st1,wpR (match F b st1 with
   | .ok d st2=>Res.ok d st2
   | _=>Res.bad) Q E↔wpR (F b st1) Q fun _ _=>False:=fun b st1=>by cases F b st1<;>exact Iff.rfl
  refine(iff_of_eq (congrArg (fun z=>wpR (fa ρ st) z E) (funext fun d=>funext fun st1=>propext (this d st1)))).trans ?_;exact⟨fun q=>⟨h,q⟩,fun q=>q.2⟩
 ·rename_i h
  exact⟨fun q=>q.elim,fun q=>h q.1⟩
set_option tactic.hygienic true in
theorem wp_fIfE:wpR (vk0 S t f1 f2' ρ st) Q E↔wpR (t ρ st) (fun b st1=>if b=true then wpR (f1 ρ st1) Q E else wpR (f2' ρ st1) Q E) E:=by
 unfold vk0;rw[za3];refine iff_of_eq (congrArg (fun z=>wpR (t ρ st) z E) (funext fun b=>funext fun st1=>propext ?_));cases b<;>exact Iff.rfl
theorem wp_pNo {Q:Option Int->S->Prop}:wpR (pNo S ρ st) Q E↔Q none st:=Iff.rfl
theorem wp_iSeq {Q:List D->S->Prop} {sel:D->Option (List D)}:wpR (wa7 S sel f ρ st) Q E↔wpR (f ρ st) (fun d st1=>wpR (zk3 (sel d) st1) Q E) E:=by unfold wa7;rw[za3]
theorem wp_iArgs {Q:List D->S->Prop} {o:List D->Option (List D)} {fa:FnA S}:wpR (xi5 S o fa ρ st) Q E↔wpR (fa ρ st) (fun l st1=>wpR (zk3 (o l) st1) Q E) E:=by unfold xi5;rw[za3]
theorem wp_fComp {fz:List Nat} {ixs:List (Option Nat)} {fi:FnI S} {g:FnG}:wpR (xs7 S fz ixs fi g t f ρ st) Q E↔wpR (fi (frz fz ρ) st) (fun l st1=>wpR (yb6 S g t f l [] (pickR (frz fz ρ) ixs) st1) (fun r st2=>Q (.lst r) st2) E) E:=by
 unfold xs7;rw[za3];simp only[za3];exact Iff.rfl
theorem zx1 {g:FnG} {Q:List D->S->Prop} (I:Nat->List D->Rho->S->Prop):∀{l acc:List D} {ρ:Rho} {st:S} (n:Nat),I n acc ρ st->
 (∀i d acc ρ st,l[i]?=some d->I (n+i) acc ρ st->∃ρ1,g d ρ=some ρ1/\wpR (t ρ1 st) (fun b st1=>if b=true then wpR (f ρ1 st1) (fun y st2=>y.imm=true/\acc.length<sizeLine/\I (n+i+1) (acc++[y]) ρ1 st2) E else I (n+i+1) acc ρ1 st1) E)->
 (∀acc ρ st,I (n+l.length) acc ρ st->Q acc st)->wpR (yb6 S g t f l acc ρ st) Q E
 | [],acc,ρ,st,n,h0,_,he=>he acc ρ st h0
 | d::l,acc,ρ,st,n,h0,hs,he=>by
   obtain⟨ρ1,e1,q⟩:=hs 0 d acc ρ st rfl h0;have go:∀acc st',I (n+1) acc ρ1 st'->wpR (yb6 S g t f l acc ρ1 st') Q E:=fun acc st' z=>zx1 I (n+1) z (fun i d acc ρ st h h'=>by
    have:=hs (i+1) d acc ρ st (by simpa using h) (by rw[show n+(i+1)=n+1+i by omega];exact h');rw[show n+(i+1)=n+1+i by omega] at this;exact this) fun acc ρ st h=>he acc ρ st (by rw[An0,show n+(l.length+1)=n+1+l.length by omega];exact h)
   unfold yb6;rw[e1];refine za3.mpr (wp_some.mpr (za3.mpr (za7 q (fun b st' z=>?_) fun x st' z=>z)));cases b with
   | true=>
     have z:wpR (f ρ1 st') (fun y st2=>y.imm=true/\acc.length<sizeLine/\I (n+0+1) (acc++[y]) ρ1 st2) E:=z;rw[if_pos rfl];refine za3.mpr (za7 z (fun y st2 hI111=>?_) fun x st' z=>z);obtain⟨h1,h2,h3⟩:=hI111;rw[if_pos ⟨h1,h2⟩];exact go _ _ h3
   | false=>exact go _ _ z
variable {Q:Bool->S->Prop} {t1 t2:FnT S}
set_option tactic.hygienic true in
theorem wp_fAnd:wpR (vh0 S t1 t2 ρ st) Q E↔wpR (t1 ρ st) (fun b st1=>if b=true then wpR (t2 ρ st1) Q E else Q false st1) E:=by
 unfold vh0;rw[za3];refine iff_of_eq (congrArg (fun z=>wpR (t1 ρ st) z E) (funext fun b=>funext fun st1=>propext ?_));cases b<;>exact Iff.rfl
set_option tactic.hygienic true in
theorem wp_fOr:wpR (fOr S t1 t2 ρ st) Q E↔wpR (t1 ρ st) (fun b st1=>if b=true then Q true st1 else wpR (t2 ρ st1) Q E) E:=by
 unfold fOr;rw[za3];refine iff_of_eq (congrArg (fun z=>wpR (t1 ρ st) z E) (funext fun b=>funext fun st1=>propext ?_));cases b<;>exact Iff.rfl
theorem wp_fNot:wpR (vg7 S t1 ρ st) Q E↔wpR (t1 ρ st) (fun b st1=>Q (!b) st1) E:=by unfold vg7;rw[za3];exact Iff.rfl
theorem wp_fTrue:wpR (wp1 S ρ st) Q E↔Q true st:=Iff.rfl
end
theorem zl1 {n p:Nat} {B:FnS Unit} {l:List D} {Q:D->Unit->Prop} {E:Exn->Unit->Prop} (hl:l.length=p) (hp:p<=n) (h:wpR (B (rho0 n l) ()) (fun fl st=>match fl with
 | .rt d=>Q d st
 | .nx _=>Q .non st
 | _=>False) E):wpR (dfn n p B l) Q E:=by
 unfold dfn;rw[if_pos ⟨hl,hp⟩];cases q:B (rho0 n l) () with
 | bad=>rw[q] at h;exact h
 | exc x u=>rw[q] at h;exact h
 | ok fl u=>rw[q] at h;cases fl<;>exact h
theorem yl3 {S:Type} {n p:Nat} {B:FnS S} {l:List D} {st:S} {Q:D->S->Prop} {E:Exn->S->Prop} (hl:l.length+1=p) (hp:p<=n) (h:wpR (B (rhoS n l) st) (fun fl st=>match fl with
 | .rt d=>Q d st
 | .nx _=>Q .non st
 | _=>False) E):wpR (wc1 n p B l st) Q E:=by
 unfold wc1;rw[if_pos ⟨hl,hp⟩];cases q:B (rhoS n l) st with
 | bad=>rw[q] at h;exact h
 | exc x u=>rw[q] at h;exact h
 | ok fl u=>rw[q] at h;cases fl<;>exact h
theorem zc6 {m:Int} {st:Dr} {Q:D->Dr->Prop} {E:Exn->Dr->Prop} (h0:0<m) (h1:m<1073741824) (h2:st.2<2 ^ 40) (h:∀v st',0<=v->v<m->st'.2=st.2+1->Q (.int v) st'):wpR (zu3 [.int m] st) Q E:=by
 unfold zu3;simp only;rw[if_pos ⟨h0,h1,h2⟩];split
 ·exact h _ _ (Int.emod_nonneg _ (by omega)) (Int.emod_lt_of_pos _ h0) rfl
 ·exact h _ _ (Int.emod_nonneg _ (by omega)) (Int.emod_lt_of_pos _ h0) rfl
end L2
end
section
namespace L2
open PySem PySem.Spec PyProof.Rows
theorem flat_lst {l:List D}:D.flat (.lst l)=D.immL l:=rfl
theorem flat_dct {k l:List D}:D.flat (.dct k l)=D.immL l:=rfl
theorem flat_int {i:Int}:D.flat (.int i)=false:=rfl
theorem flat_str {i:Str}:D.flat (.str i)=false:=rfl
theorem flat_bl {i:Bool}:D.flat (.bl i)=false:=rfl
theorem flat_non:D.flat .non=false:=rfl
theorem flat_tup {l:List D}:D.flat (.tup l)=false:=rfl
theorem zo5 {n:Nat} (h:n<=1000):n<=sizeLine:=Nat.le_of_lt (ye0 h)
theorem lt_size {n:Nat} (h:n<=1000):n<sizeLine:=ye0 h
theorem zb5 {α:Type} {f:α->D} (h:∀a,(f a).imm=true):∀l:List α,D.immL (l.map f)=true
 | []=>rfl
 | a::l=>by simp only[Ao0,D.immL,h a,zb5 h l,Bool.and_self]
theorem wa6 {l:List D}:D.immL l=true↔∀d∈l,d.imm=true:=by
 induction l with
 | nil=>simp[D.immL]
 | cons a l ih=>simp[D.immL,ih]
theorem ym4 {l:List D} (m:D.immL l=true) (h:l.length<=1000):xc3 l=some (.tup l):=if_pos ⟨m,zo5 h⟩
theorem zw1 {l:List D} (m:D.immL l=true) (h:l.length<=1000):xp0 l=some (.lst l):=if_pos ⟨m,zo5 h⟩
theorem zw0 {a b:D} (h1:a.imm=true) (h2:b.imm=true):xc3 [a,b]=some (.tup [a,b]):=ym4 (by simp[D.immL,h1,h2]) (by simp)
theorem yx4:xp0 []=some (.lst []):=zw1 rfl (by simp)
theorem wm7 {a b:D} (h1:a.imm=true) (h2:b.imm=true):xp0 [a,b]=some (.lst [a,b]):=zw1 (by simp[D.immL,h1,h2]) (by simp)
theorem ym5 {l:List D} {d:D} (m:d.imm=true) (h:l.length<=1000):vg0 l d=some (l++[d]):=if_pos ⟨m,lt_size h⟩
theorem imm_int {i:Int}:D.imm (.int i)=true:=by simp[D.imm]
theorem imm_str {i:Str}:D.imm (.str i)=true:=by simp[D.imm]
theorem imm_bl {i:Bool}:D.imm (.bl i)=true:=by simp[D.imm]
theorem imm_non:D.imm .non=true:=by simp[D.imm]
theorem imm_tup {l:List D}:D.imm (.tup l)=D.immL l:=by simp[D.imm]
theorem zk5 {S:Type} {E:Exn->S->Prop} {ρ:Rho} {st:S} {Q:List D->S->Prop} {g:FnG} {t:FnT S} {f:Fn S} {l:List D} (h:D->D) (R:Rho->Prop) (h0:R ρ)
 (hs:∀d∈l,∀ρ,R ρ->∃ρ1,g d ρ=some ρ1/\R ρ1/\wpR (t ρ1 st) (fun b st1=>b=true/\st1=st) E/\wpR (f ρ1 st) (fun y st2=>y=h d/\y.imm=true/\st2=st) E) (hl:l.length<=sizeLine) (hq:Q (l.map h) st):wpR (yb6 S g t f l [] ρ st) Q E:=by
 refine zx1 (fun n acc ρ' st'=>acc=(l.take n).map h/\R ρ'/\st'=st) 0 ⟨by simp,h0,rfl⟩ (fun i d acc ρ' st' hd hI113=>?_) fun acc ρ' st' hI112=>?_
 ·obtain⟨e1,r,e2⟩:=hI113
  subst e2;have hi:i<l.length:=(Ae0.mp hd).1;obtain⟨ρ1,q1,r1,q2,q3⟩:=hs d (Aw0 hd) ρ' r;refine⟨ρ1,q1,za7 q2 (fun b st1 hI114=>?_) fun x s z=>z⟩;obtain⟨eb,es⟩:=hI114;subst eb es;rw[if_pos rfl];refine za7 q3 (fun y st2 ⟨ey,my,es⟩=>⟨my,?_,?_,r1,es⟩) fun x s z=>z
  ·rw[e1,Ab0,Bc0];omega
  ·rw[e1,ey,Aj0,Bm0,hd,Ba0];rfl
 ·obtain⟨e1,r,e2⟩:=hI112
  rw[Aj0,Bo0] at e1;subst e1 e2;exact hq
theorem zr1 {α:Type} {f:α->Bool}:∀l:List α,zi8 (l.map fun a=>.bl (f a))=some (l.map f)
 | []=>rfl
 | a::l=>by simp only[Ao0,zi8,zr1 l,Av0]
mutual
noncomputable def D.lw:D->Bool
 | .bl _=>false
 | .dct _ _=>false
 | .fl _=>false
 | .tup l=>D.lwL l&&decide (l.length<=sizeLine)
 | .lst l=>D.lwL l&&decide (l.length<=sizeLine)
 | _=>true
noncomputable def D.lwL:List D->Bool
 | []=>true
 | d::l=>D.lw d&&D.lwL l
end
theorem yy0 {l:List D}:D.lwL l=true↔∀d∈l,d.lw=true:=by
 induction l with
 | nil=>simp[D.lwL]
 | cons a l ih=>simp[D.lwL,ih]
theorem xt3 {l:List D} {d:D} (h:d∈l):d.dep<=D.depL l:=by
 induction l with
 | nil=>cases h
 | cons a l ih=>
   unfold D.depL;rcases Ah0.mp h with e | e
   ·subst e;omega
   ·have:=ih e;omega
theorem xo2 {l:List D} {d:D} (h:d∈zx8 l l):∃x∈l,d=.tup [x,x]:=by
 obtain⟨i,hi⟩:=List.getElem?_of_mem h;obtain⟨x,y,h1,h2,rfl⟩:=ye4 hi;rw[h1] at h2;cases h2;exact⟨x,Aw0 h1,rfl⟩
theorem xf1 {l:List D}:zi8 (l.map fun _=>.bl true)=some (l.map fun _=>true):=zr1 (f:=fun _=>true) l
theorem xr1 {a b:D} (ha:a.imm=true) (hb:b.imm=true) {c:Bool}:oIx (.lst [a,b]) (.int (if c=true then 1 else 0))=some (if c=true then b else a):=by
 cases c
 ·show im (some a)=some a
  simp[im,ha]
 ·show im (some b)=some b
  simp[im,hb]
theorem zg8 {j:Int} (h:j<=1000) (h0:0<=j):yx3 [.int j]=some (zp0 0 j.toNat):=if_pos ⟨by omega,by omega⟩
theorem zg3 {lo:Int} {n:Nat}:(zp0 lo n).length=n:=by unfold zp0;simp
theorem zg7 {lo:Int} {n i:Nat} {d:D} (h:(zp0 lo n)[i]?=some d):d=.int (lo+i)/\i<n:=by
 unfold zp0 at h;rw[Ai0] at h;cases q:(List.range n)[i]? with
 | none=>rw[q] at h;cases h
 | some k=>
   rw[q] at h;obtain⟨hi,e⟩:=Ae0.mp q;rw[List.getElem_range] at e;subst e;cases h;exact⟨rfl,by simpa using hi⟩
theorem wf0 {l:List D} (h:D.lwL l=true) (hl:l.length<=1000):D.lw (.tup l)=true:=by
 simp only[D.lw,h,Bool.true_and,decide_eq_true_eq];exact zo5 hl
theorem zy7 {α:Type} {f:α->D} {n:Nat} (h:∀a,(f a).dep<=n):∀l:List α,D.depL (l.map f)<=n
 | []=>Ak0 _
 | a::l=>by
   have h1:=h a;have h2:=zy7 h l;simp only[Ao0,D.depL];omega
end L2
end
section
namespace L2
open PySem PySem.Spec PyProof.Rows
section
variable {S:Type} {E:Exn->S->Prop} {ρ:Rho} {st:S} {Q:Fl->S->Prop} {f fk fv:Fn S} {i j k:Nat} {t:FnT S} {B:FnS S}
theorem yd5 (I:Rho->S->Prop) (μ:Rho->S->Nat) (hs:∀ρ st,I ρ st->wpR (t ρ st) (fun b st1=>if b=true then wpR (B ρ st1) (fun fl st2=>match fl with
 | .nx ρ2=>I ρ2 st2/\μ ρ2 st2<μ ρ st
 | .ct ρ2=>I ρ2 st2/\μ ρ2 st2<μ ρ st
 | .bk ρ2=>Q (.nx ρ2) st2
 | .rt d=>Q (.rt d) st2) E else Q (.nx ρ) st1) E):∀(n:Nat) (ρ:Rho) (st:S),I ρ st->μ ρ st<n->wpR (zk4 S t B n ρ st) Q E
 | 0,_,_,_,h=>absurd h (Nat.not_lt_zero _)
 | n+1,ρ,st,h,hm=>by
   unfold zk4;refine za3.mpr (za7 (hs ρ st h) (fun b st1 q=>?_) fun x s z=>z);cases b with
   | false=>exact q
   | true=>
     have q:wpR (B ρ st1) _ E:=q;rw[if_pos rfl];refine za3.mpr (za7 q (fun fl st2 z=>?_) fun x s z=>z);cases fl with
     | nx ρ2=>exact yd5 I μ hs n ρ2 st2 z.1 (by have:=z.2;omega)
     | ct ρ2=>exact yd5 I μ hs n ρ2 st2 z.1 (by have:=z.2;omega)
     | bk ρ2=>exact z
     | rt d=>exact z
theorem xk4 (I:Rho->S->Prop) (μ:Rho->S->Nat) (h0:I ρ st) (hs:∀ρ st,I ρ st->wpR (t ρ st) (fun b st1=>if b=true then wpR (B ρ st1) (fun fl st2=>match fl with
 | .nx ρ2=>I ρ2 st2/\μ ρ2 st2<μ ρ st
 | .ct ρ2=>I ρ2 st2/\μ ρ2 st2<μ ρ st
 | .bk ρ2=>Q (.nx ρ2) st2
 | .rt d=>Q (.rt d) st2) E else Q (.nx ρ) st1) E):wpR (yj1 S t B ρ st) Q E:=by
 have h:=yd5 (Q:=Q) (E:=E) I μ hs (μ ρ st+1) ρ st h0 (Nat.lt_succ_self _);rw[yq0 (n:=μ ρ st+1) (fun z=>by rw[z] at h;exact h)];exact h
end
section
variable {S:Type} {E:Exn->S->Prop} {ρ:Rho} {st:S} {Q:D->S->Prop} {f1 f2' f3 fk:Fn S}
end
theorem xs0 {C:Int->Int->Prop} [∀i j,Decidable (C i j)] {g:Int->Int->D} {i j:Int} (h:C i j):iOp C g (.int i) (.int j)=some (g i j):=if_pos h
end L2
end
section
namespace L2
open PySem PySem.Spec PyProof.Rows
section
variable {S:Type} {E:Exn->S->Prop} {ρ:Rho} {st:S} {Q:Fl->S->Prop} {F G:FnS S}
theorem wt0 (I:Rho->S->Prop) (h1:wpR (F ρ st) (fun fl st1=>∃ρ1,fl=.nx ρ1/\I ρ1 st1) E) (h2:∀ρ1 st1,I ρ1 st1->wpR (G ρ1 st1) Q E):wpR (wr2 S F G ρ st) Q E:=
 zb1.mpr (za7 h1 (fun fl st1 ⟨ρ1,e,h⟩=>by subst e;exact h2 ρ1 st1 h) fun x s z=>z)
end
theorem yj8 {n:Nat} (h:n<=1000000):n<sizeLine:=by rw[sizeLine_eq];omega
theorem xv5 {l:List D} {v:Int} (h0:0<=v) (h1:v<l.length):∃d,atI l v=some d/\l[v.toNat]?=some d:=by
 have hv:v.toNat<l.length:=by omega
 refine⟨l[v.toNat],?_,Ag0 hv⟩;have:=yz9 (Ag0 hv);rwa [show ((v.toNat:Nat):Int)=v by omega] at this
theorem xd1 {l:List D} {v:Int} (m:D.immL l=true) (h0:0<=v) (h1:v<l.length):∃d∈l,oIx (.lst l) (.int v)=some d:=by
 obtain⟨d,e,e2⟩:=xv5 h0 h1;have hd:=Aw0 e2;refine⟨d,hd,?_⟩;show im (atI l v)=_;rw[e];simp[im,wa6.mp m d hd]
theorem xd2 {l:List D} {v:Int} {d:D} (m:d.imm=true) (h0:0<=v) (h:l[v.toNat]?=some d):oIx (.lst l) (.int v)=some d/\oIx (.tup l) (.int v)=some d:=by
 have h1:v<l.length:=by have:=(Ae0.mp h).1;omega
 obtain⟨d',e,e2⟩:=xv5 h0 h1;rw[h] at e2;cases e2;constructor
 ·show im (atI l v)=_
  rw[e];simp[im,m]
 ·show im (atI l v)=_
  rw[e];simp[im,m]
theorem yy7 {i j:Int}:D.eqq (.int i) (.int j)=some (i == j):=by simp only[D.eqq]
theorem wp3 {i j:Str}:D.eqq (.str i) (.str j)=some (i == j):=by simp only[D.eqq]
theorem zz2 {neg:Bool} {i j:Int}:oEq neg (.int i) (.int j)=some (.bl (if neg then !(i == j) else (i == j))):=by
 unfold oEq;rw[if_pos (by simp[D.dep]),yy7];rfl
theorem ye8 {neg:Bool} {i j:Str}:oEq neg (.str i) (.str j)=some (.bl (if neg then !(i == j) else (i == j))):=by
 unfold oEq;rw[if_pos (by simp[D.dep]),wp3];rfl
theorem yu3 {k:List Key} {g:D->D->D}:∀{ks vs:List D},ks.length=vs.length->(zc9 k ks (List.zipWith g ks vs)).isSome=(zc9 k ks vs).isSome
 | [],[],_=>rfl
 | a::ks,b::vs,h=>by
   show (zc9 k (a::ks) (g a b::List.zipWith g ks vs)).isSome=_;unfold zc9;by_cases e:zc8 a=some k
   ·rw[if_pos e,if_pos e];rfl
   ·rw[if_neg e,if_neg e];exact yu3 (by simpa using h)
 | [],_::_,h=>by cases h
 | _::_,[],h=>by cases h
theorem yu5 {k k':List Key} {v:D}:∀{ks vs:List D},ks.length=vs.length->(zc9 k (ks++[ze8 k']) (vs++[v])).isSome=((zc9 k ks vs).isSome||decide (k'=k))
 | [],[],_=>by
   show (zc9 k [ze8 k'] [v]).isSome=_;unfold zc9;rw[zj0];by_cases e:k'=k
   ·rw[if_pos (by rw[e])];simp[e]
   ·rw[if_neg (fun z=>e (Option.some.inj z))];simp[zc9,e]
 | a::ks,b::vs,h=>by
   show (zc9 k (a::(ks++[ze8 k'])) (b::(vs++[v]))).isSome=_;unfold zc9;by_cases e:zc8 a=some k
   ·rw[if_pos e,if_pos e];rfl
   ·rw[if_neg e,if_neg e];exact yu5 (by simpa using h)
 | [],_::_,h=>by cases h
 | _::_,[],h=>by cases h
theorem yd1 {k:List Key} {v:D} {ks vs:List D} (h:ks.length=vs.length):(zu7 k v ks vs).1.length=(zu7 k v ks vs).2.length/\(zu7 k v ks vs).1.length<=ks.length+1:=by
 unfold zu7;split
 ·simp[List.length_zipWith,h]
 ·simp[h]
set_option tactic.hygienic true in
theorem xt9 {k k':List Key} {v:D} {ks vs:List D} (h:ks.length=vs.length):(zc9 k (zu7 k' v ks vs).1 (zu7 k' v ks vs).2).isSome=((zc9 k ks vs).isSome||decide (k'=k)):=by
 unfold zu7;split
 ·rename_i hs
  rw[yu3 h];by_cases e:k'=k
  ·subst e;simp[hs]
  ·simp[e]
 ·exact yu5 h
noncomputable def Holds (d:D) (n:Nat) (P:List Key->Prop):Prop:=∃ks vs,d=.dct (.non::ks) vs/\D.immL vs=true/\ks.length=vs.length/\ks.length<=n/\∀k,(zc9 k ks vs).isSome=true↔P k
theorem Holds.put {ks vs:List D} {n:Nat} {P:List Key->Prop} {k:List Key} {v:D} (h:Holds (.dct (.non::ks) vs) n P) (hv:v.imm=true):Holds (.dct (.non::(zu7 k v ks vs).1) (zu7 k v ks vs).2) (n+1) (fun q=>P q\/k=q):=by
 obtain⟨ks',vs',e,h1,h2,h3,h4⟩:=h;cases e;refine⟨_,_,rfl,yf9 hv h1,(yd1 h2).1,by have:=(yd1 (k:=k) (v:=v) h2).2;omega,fun q=>?_⟩;rw[xt9 h2,Bool.or_eq_true,h4 q,decide_eq_true_eq]
theorem Holds.all:∀{ps:List (List Key×D)} {ks vs:List D} {n:Nat} {P:List Key->Prop},Holds (.dct (.non::ks) vs) n P->(∀p∈ps,p.2.imm=true)->Holds (.dct (.non::(zh1 ps (ks,vs)).1) (zh1 ps (ks,vs)).2) (n+ps.length) (fun q=>P q\/∃p∈ps,p.1=q)
 | [],ks,vs,n,P,h,_=>by
   obtain⟨ks',vs',e,h1,h2,h3,h4⟩:=h;exact⟨ks',vs',e,h1,h2,h3,fun q=>by rw[h4 q];simp⟩
 | p::ps,ks,vs,n,P,h,hv=>by
   have h':=Holds.all (ps:=ps) (h.put (k:=p.1) (hv p (by simp))) fun q hq=>hv q (by simp[hq])
   obtain⟨ks',vs',e,h1,h2,h3,h4⟩:=h';refine⟨ks',vs',e,h1,h2,by simp;omega,fun q=>?_⟩;rw[h4 q];simp only[Ah0,exists_eq_or_imp];constructor
   ·rintro ((a | a) | a)
    ·exact .inl a
    ·exact .inr (.inl a)
    ·exact .inr (.inr a)
   ·rintro (a | a | a)
    ·exact .inl (.inl a)
    ·exact .inl (.inr a)
    ·exact .inr a
theorem Holds.in_ {d k:D} {n:Nat} {P:List Key->Prop} {kk:List Key} (h:Holds d n P) (hk:zc8 k=some kk) {b:Bool} (hb:b=true↔P kk):xh4 false k d=some (.bl b)/\xh4 true k d=some (.bl (!b)):=by
 obtain⟨ks,vs,rfl,h1,h2,h3,h4⟩:=h;have e:(zc9 kk ks vs).isSome=b:=by rw[Bool.eq_iff_iff,h4,hb]
 constructor
 ·show (zc8 k).map _=_
  rw[hk];show some (D.bl (zc9 kk ks vs).isSome)=_;rw[e]
 ·show (zc8 k).map _=_
  rw[hk];show some (D.bl (!(zc9 kk ks vs).isSome))=_;rw[e]
theorem Holds.flat {d:D} {n:Nat} {P:List Key->Prop} (h:Holds d n P):d.flat=true:=by
 obtain⟨ks,vs,rfl,h1,h2,h3,h4⟩:=h;exact h1
theorem Holds.nil {n:Nat}:Holds (.dct [.non] []) n (fun _=>False):=⟨[],[],rfl,rfl,rfl,Ak0 _,fun k=>by simp[zc9]⟩
theorem Holds.imp {d:D} {n m:Nat} {P P':List Key->Prop} (h:Holds d n P) (hm:n<=m) (hp:∀k,P k↔P' k):Holds d m P':=by
 obtain⟨ks,vs,e,h1,h2,h3,h4⟩:=h;exact⟨ks,vs,e,h1,h2,by omega,fun k=>by rw[h4 k,hp k]⟩
end L2
end
section
end
section
namespace L2
open PySem PySem.Spec PyProof.Rows
noncomputable def FrT (K:PySem.W.Frag) (a:Addr) (xs:List V):Prop:=∃(o:Obj) (its:Array Value) (n:Nat),K.lookup a=some o/\o.cls=.type "tuple"/\o.data=.seq its n/\its.size<=sizeLine/\zf8 xs its.toList
theorem FrT.sq {K:PySem.W.Frag} {a:Addr} {xs:List V} {H:Hp} (h:FrT K a xs):SqT K H a xs:=.inr h
noncomputable def vh7 (K:PySem.W.Frag) (a:Addr) (tbl:List (Int×Int)):Prop:=∃vs,FrT K a vs/\vs.length=tbl.length/\∀(i:Nat) (p:Int×Int),tbl[i]?=some p->∃b,vs[i]?=some (.ref b)/\FrT K b [.int p.1,.int p.2]
section
variable {X:Cx} {S:Type} {W:Wd S} {c:Dx W} {g ga gb gc:Gr} {a b:Expr} {fa fb fc:Fn S} {pos p2:Pos}
theorem wc2 {x:Str} {i:Int} (hc:∃t,X.mg x=some (.int i t)) (hg:Gl X x) (hd:(x == ("__debug__" : Str))=false:=by decide):DE X c g (.Name x pos) (fC S (.int i)):=by
 obtain⟨t,hm⟩:=hc;exact(xn9 (v:=.int i) hg hm ⟨t,rfl⟩ hd).imp fun σ H Q ⟨ρ,st,R,ok,w⟩=>w _ _ Ext.refl ok (New.val R (show New c H H (.int _) (.int _) from Is.int_iff.mpr rfl) g)
noncomputable def wu1 (S:Type) (tbl:List (Int×Int)) (i j:Nat) (f:Fn S):FnS S:=fun ρ st=>(f ρ st).bind fun d st1=>match d with
 | .int k=>if 0<=k then match tbl[k.toNat]? with
  | some p=>(zk3 (put ρ i (.int p.1)) st1).bind fun ρ1 st2=>(zk3 (put ρ1 j (.int p.2)) st2).bind fun ρ2 st3=>.ok (.nx ρ2) st3
  | none=>.bad
   else .bad
 | _=>.bad
set_option tactic.hygienic true in
theorem wp6 {x n1 n2:Str} {e:Expr} {f:Fn S} {tbl:List (Int×Int)} {i j:Nat} {a0:Addr} {px p1 p2 pt ps:Pos} {kt} (hc:X.calm=true) (hK:c.K=X.K) (hm:∃a0,X.mg x=some (.ref a0)/\vh7 X.K a0 tbl) (hg:Gl X x) (hN:X.N.Nodup) (hi:X.N[i]?=some n1) (hj:X.N[j]?=some n2) (h1:Loc X.env.scope n1) (h2:Loc X.env.scope n2)
 (he:DE X c .R e f) (hpi:yh5 e) (hd:(x == ("__debug__" : Str))=false:=by decide)
 (hf1:X.fn n1=true\/X.env.scope.names.lookup n1=some .local:=by first | exact .inl rfl | exact .inr rfl | assumption) (hf2:X.fn n2=true\/X.env.scope.names.lookup n2=some .local:=by first | exact .inl rfl | exact .inr rfl | assumption)
 (hs:swapsWithSole [.Tuple [.Name n1 p1,.Name n2 p2] kt pt] (.Subscript (.Name x px) e ps) pos.line X.env=pure false:=by rfl) (hw:swappedStores [.Tuple [.Name n1 p1,.Name n2 p2] kt pt] (.Subscript (.Name x px) e ps) X.env=pure none:=by rfl)
 (ha:(assignEach [.Tuple [.Name n1 p1,.Name n2 p2] kt pt] X.env).map (·.2)=[assign (.Tuple [.Name n1 p1,.Name n2 p2] kt pt) X.env]:=by rfl)
 (hn:(assignEach [.Name n1 p1,.Name n2 p2] X.env).length=2:=by rfl) (hst:(assignEach [.Name n1 p1,.Name n2 p2] X.env).findIdx? (·.1)=none:=by rfl)
 (hs1:(assignEach [.Name n1 p1,.Name n2 p2] X.env).map (·.2)=assign (.Name n1 p1) X.env::(assignEach [.Name n2 p2] X.env).map (·.2):=by rfl) (hs2:(assignEach [.Name n2 p2] X.env).map (·.2)=assign (.Name n2 p2) X.env::(assignEach [] X.env).map (·.2):=by rfl) :
 DS X c (.Assign [.Tuple [.Name n1 p1,.Name n2 p2] kt pt] (.Subscript (.Name x px) e ps) pos) (wu1 S tbl i j f):=by
 obtain⟨a0,hm,vs,fr,hl,ht⟩:=hm;refine(yq4 (wl0 wf1 (xn9 (v:=.ref a0) hg hm rfl hd) he hpi) (xb9 (n:=2) hc (zq6 (ym1 (i:=i) hN hi h1 hf1) (zq6 (ym1 (i:=j) hN hj h2 hf2) ym0 hs2) hs1) hn hst) hs hw ha).imp fun D σ H hI115=>?_
 obtain⟨ρ,st,R,ok,w⟩:=hI115;refine⟨ρ,st,R,ok,za7 (za3.mp w) (fun d st1 q v H1 e1 ok1 z=>?_) fun x st1 q H' e ok'=>q H' (e.f0 R) ok'⟩;split at q
 ·rename_i k
  split at q
  ·rename_i hk
   split at q
   ·rename_i p hp
    obtain⟨ρ1,p1',q⟩:=zb8.mp (za3.mp q);obtain⟨ρ2,p2',q⟩:=zb8.mp (za3.mp q);obtain⟨l1,rfl⟩:=zn2 p1';obtain⟨l2,rfl⟩:=zn2 p2';obtain⟨b,hb,frb⟩:=ht k.toNat p hp;have z':Is c.K (fun b=>¬W.mv b) H1 (.int k) v:=z.toR;have R1:=(R.ext ok e1).setB l1 (show Is c.K (Av c σ ρ) H1 (.int p.1) (.int p.1) from Is.int_iff.mpr rfl);have R2:=R1.setB l2 (show Is c.K _ H1 (.int p.2) (.int p.2) from Is.int_iff.mpr rfl);refine⟨a0,vs,k,.ref b,rfl,Is.int_iff.mp z',fr.sq,?_,b,[.int p.1,.int p.2],rfl,frb.sq,rfl,_,_,rfl,_,_,rfl,rfl,?_⟩
    ·have:=yz9 hb
     rwa [show ((k.toNat:Nat):Int)=k by omega] at this
    ·exact q _ _ ((Ext.frm e1).trans (zh4.trans zh4)) ok1 R2
   ·exact q.elim
  ·exact q.elim
 ·exact q.elim
noncomputable def yx5 (d k x:D):Option D:=match d with
 | .dct (.non::ks) vs=>(zc8 k).bind fun kk=>im (some ((zc9 kk ks vs).getD x))
 | _=>none
noncomputable def vg9 (S:Type) (f1 f2 f3:Fn S):Fn S:=fun ρ st=>(f1 ρ st).bind fun d st1=>match d with
 | .dct (.non::ks) vs=>(f2 ρ st1).bind fun k st2=>(f3 ρ st2).bind fun x st3=>zk3 (yx5 (.dct (.non::ks) vs) k x) st3
 | _=>.bad
set_option tactic.hygienic true in
theorem va7 {o e f:Expr} {apos cpos:Pos} (hu:X.A.units+1<cLine) (ho:DE X c ga o fa) (he:DE X c gb e fb) (hf:DE X c gc f fc) (m:M2 X o "get" apos e f cpos):DE X c g (.Call (.Attribute o "get" apos) [e,f] [] cpos) (vg9 S fa fb fc):=
 (xz0 hu ho he hf m).imp fun σ H Q hI42=>by
  obtain⟨ρ,st,R,ok,w⟩:=hI42;have w':=za3.mp w;refine⟨ρ,st,R,ok,za7 w' (fun d st1 q v H1 e1 ok1 z=>?_) fun x st1 q=>q⟩;split at q
  ·rename_i ks vs
   have z1:Is c.K (fun b=>¬W.mv b) H1 (.dct (.non::ks) vs) v:=z.toR;obtain⟨a,us,ev,n,i1,hh⟩:=Is.dct_iff.mp z1;have isd:IsD H1 a:=by
    rcases hh with⟨kk,_,_,h⟩ | ⟨kk,_,_,h⟩
    ·exact .inl ⟨_,.inl h⟩
    ·exact .inr ⟨_,.inl h⟩
   refine⟨a,ev,isd,ρ,st1,R.ext ok e1,ok1,za7 (za3.mp q) (fun k st2 q v2 H2 e2 ok2 z2=>?_) fun x st2 q H2 e2 ok2=>q H2 (e1.trans e2) ok2⟩;have R2:=(R.ext ok e1).ext ok1 e2;refine⟨ρ,st2,R2,ok2,za7 (za3.mp q) (fun x st3 q v3 H3 e3 ok3 z3=>?_) fun x st3 q H3 e3 ok3=>q H3 ((e1.trans e2).trans e3) ok3⟩;obtain⟨dd,e4,q⟩:=zb8.mp q;have et:=(e1.trans e2).trans e3;have R3:=R2.ext ok2 e3;have y1:Is c.K (fun b=>¬W.mv b) H3 (.dct (.non::ks) vs) v:=(z1.ext e2 ok1 fun _ n=>n).ext e3 ok2 fun _ n=>n
   have y2:Is c.K (fun b=>¬W.mv b) H3 k v2:=z2.toR.ext e3 ok2;have y3:Is c.K (fun b=>¬W.mv b) H3 x v3:=z3.toR;cases hk:zc8 k with
   | none=>unfold yx5 at e4;rw[hk] at e4;cases e4
   | some kk=>
     have e4:im (some ((zc9 kk ks vs).getD x))=some dd:=by unfold yx5 at e4;rw[hk] at e4;exact e4
     obtain⟨e5,im5⟩:=yy5 e4;obtain⟨a',o',ea,gd,hcase⟩:=wg3 hk y2 y1;rw[ev] at ea;have ea:a=a':=by cases ea;rfl
     subst ea;refine⟨o',gd,q _ H3 et ok3 ?_⟩;have y:Is c.K (fun b=>¬W.mv b) H3 dd (o'.getD v3):=by
      rcases hcase with⟨h1,h2⟩ | ⟨d',v',h1,h2,h3⟩
      ·rw[h1] at e5;rw[h2]
       cases e5;exact y3
      ·rw[h1] at e5;rw[h2]
       cases e5;exact h3
     exact(New.val R3 (show New c H3 H3 dd _ from Is.ofImm im5 y) g).back et ok3
  ·exact q.elim
noncomputable def vf8:D->D->Option D
 | .lst l,.int k=>if D.immL l=true/\-(2 ^ 63)<=k/\k<2 ^ 63/\l.length*k.toNat<=sizeLine then some (.lst (List.replicate k.toNat l).flatten) else none
 | _,_=>none
theorem wd6 {K:PySem.W.Frag} {A:Addr->Prop} {H:Hp} {l:List D} {vs:List V} (h:IsL K A H l vs):∀k:Nat,IsL K A H (List.replicate k l).flatten (List.replicate k vs).flatten
 | 0=>IsL.nil.mpr rfl
 | k+1=>by
   rw[Bs0,Bs0,Ca0,Ca0];exact h.append (wd6 h k)
theorem xd4 {l:List D} (h:D.immL l=true):∀k:Nat,D.immL (List.replicate k l).flatten=true
 | 0=>rfl
 | k+1=>by
   rw[Bs0,Ca0];exact zh8 h (xd4 h k)
set_option tactic.hygienic true in
theorem ww4:OpD c vb7 vf8:=by
 intro d1 d2 v1 v2 H st d Q ok h1 h2 e q;unfold vf8 at e;split at e
 ·rename_i l k
  split at e
  ·rename_i hc
   cases e;obtain⟨a,us,ea,n,s1,i3⟩:=Is.lst_iff.mp h1;refine⟨a,k,us,ea,Is.int_iff.mp h2,s1,hc.2.1,hc.2.2.1,by rw[<-i3.length];exact hc.2.2.2,fun p hp=>?_⟩;exact q _ _ (Ext.laid hp) (zi3 ok hp) (New.lst ok hp (fun _ n=>n) (xd4 hc.1 _) (wd6 i3 _))
  ·cases e
 ·cases e
noncomputable def wm5 (a b:D):Option D:=(iOp xj8 (fun i j=>.int (i*j)) a b).or (vf8 a b)
theorem yx0:OpR X (binaryOp .Mult) (fun x y H Q=>rI xj8 (fun i j=>.int (i*j)) x y H Q\/vb7 x y H Q):=ye6.or ww0
theorem yx2:OpD c (fun x y H Q=>rI xj8 (fun i j=>.int (i*j)) x y H Q\/vb7 x y H Q) wm5:=ww7.or ww4
end
end L2
end
section
namespace L2
open PySem PySem.Spec PyProof.Rows
section
variable {S:Type} {E:Exn->S->Prop} {ρ:Rho} {st:S}
theorem wp_sTab2 {Q:Fl->S->Prop} {i j:Nat} {f:Fn S} {tbl:List (Int×Int)}:wpR (wu1 S tbl i j f ρ st) Q E↔wpR (f ρ st) (fun d st1=>∃k p,d=.int k/\0<=k/\tbl[k.toNat]?=some p/\∃ρ1,put ρ i (.int p.1)=some ρ1/\∃ρ2,put ρ1 j (.int p.2)=some ρ2/\Q (.nx ρ2) st1) E:=wpB fun d st1=>by
 cases d with
 | int k=>
   refine xs9 ?_;refine(xa5.trans ?_).trans exists_and_left.symm;refine and_congr Iff.rfl ?_;cases tbl[k.toNat]? with
   | none=>exact yg4
   | some p=>exact yg3 (yl1 fun _=>yv5)
 | _=>exact wg0 fun b e=>by cases e
set_option tactic.hygienic true in
theorem wp_fGet {Q:D->S->Prop} {f1 f2' f3:Fn S}:wpR (vg9 S f1 f2' f3 ρ st) Q E↔wpR (f1 ρ st) (fun d st1=>∃ks vs,d=.dct (.non::ks) vs/\wpR (f2' ρ st1) (fun k st2=>wpR (f3 ρ st2) (fun x st3=>wpR (zk3 (yx5 (.dct (.non::ks) vs) k x) st3) Q E) E) E) E:=by
 unfold vg9;rw[za3];refine iff_of_eq (congrArg (fun z=>wpR (f1 ρ st) z E) (funext fun d=>funext fun st1=>propext ?_));by_cases hd:∃ks vs,d=.dct (.non::ks) vs
 ·obtain⟨ks,vs,rfl⟩:=hd
  show wpR ((f2' ρ st1).bind fun k st2=>(f3 ρ st2).bind fun x st3=>zk3 (yx5 (.dct (.non::ks) vs) k x) st3) Q E↔_;rw[za3];simp only[za3];exact⟨fun q=>⟨ks,vs,rfl,q⟩,fun ⟨ks',vs',e,q⟩=>by cases e;exact q⟩
 ·constructor
  ·intro q
   split at q
   ·rename_i ks vs
    exact absurd ⟨ks,vs,rfl⟩ hd
   ·exact q.elim
  ·rintro ⟨ks,vs,rfl,_⟩
   exact absurd ⟨ks,vs,rfl⟩ hd
end
theorem xx1 {K:PySem.W.Frag} {a b0 b1 b2 b3:Addr} {p0 p1 p2 p3:Int×Int} {od od0 od1 od2 od3:Option Addr} {sl sl0 sl1 sl2 sl3:Array (Option Value)} {n n0 n1 n2 n3:Nat} {t0 t1 t2 t3 u0 u1 u2 u3:Tok}
 (h:K.lookup a=some ⟨.type "tuple",od,.seq #[.ref b0,.ref b1,.ref b2,.ref b3] n,sl⟩) (h0:K.lookup b0=some ⟨.type "tuple",od0,.seq #[.int p0.1 t0,.int p0.2 u0] n0,sl0⟩) (h1:K.lookup b1=some ⟨.type "tuple",od1,.seq #[.int p1.1 t1,.int p1.2 u1] n1,sl1⟩)
 (h2:K.lookup b2=some ⟨.type "tuple",od2,.seq #[.int p2.1 t2,.int p2.2 u2] n2,sl2⟩) (h3:K.lookup b3=some ⟨.type "tuple",od3,.seq #[.int p3.1 t3,.int p3.2 u3] n3,sl3⟩):vh7 K a [p0,p1,p2,p3]:=by
 have pr:∀{b:Addr} {p:Int×Int} {od:Option Addr} {sl:Array (Option Value)} {n:Nat} {t u:Tok},K.lookup b=some ⟨.type "tuple",od,.seq #[.int p.1 t,.int p.2 u] n,sl⟩->FrT K b [.int p.1,.int p.2]:=fun {b p od sl n t u} h=>
  ⟨_,_,_,h,rfl,rfl,by show 2<=sizeLine;decide,.cons ⟨t,rfl⟩ (.cons ⟨u,rfl⟩ .nil)⟩
 refine⟨[.ref b0,.ref b1,.ref b2,.ref b3],⟨_,_,_,h,rfl,rfl,by show 4<=sizeLine;decide,.cons rfl (.cons rfl (.cons rfl (.cons rfl .nil)))⟩,rfl,fun i p hp=>?_⟩
 match i,hp with
 | 0,hp=>cases hp;exact⟨b0,rfl,pr h0⟩
 | 1,hp=>cases hp;exact⟨b1,rfl,pr h1⟩
 | 2,hp=>cases hp;exact⟨b2,rfl,pr h2⟩
 | 3,hp=>cases hp;exact⟨b3,rfl,pr h3⟩
 | i+4,hp=>simp at hp
end L2
end
section
namespace PySem
section
variable {prog:Program} {w:World} {A:Around} {E:Value->Shared->Prop} {s:Shared}
end
end PySem
end
section
namespace PySem
section
variable {prog:Program} {w:World} {A:Around} {E:Value->Shared->Prop} {s:Shared}
end
end PySem
namespace L2
open PySem PySem.Spec PyProof.Rows
end L2
end
section
namespace L2
open PySem PySem.Spec PyProof.Rows
section
variable {M:Model} {A:Around} {E:Value->Shared->Prop} {s:Shared} {env:Env}
end
section
variable {X:Cx} {elts:List Expr} {x1:Nat} {tpos:Pos}
end
end L2
end
section
namespace L2
open PySem PySem.Spec PyProof.Rows
section
variable {X:Cx} {elts:List Expr} {x1:Nat} {tpos:Pos} {S:Type} {W:Wd S} {c:Dx W}
end
end L2
end
section
namespace L2
open PySem PySem.Spec PyProof.Rows
section
variable {X:Cx} {S:Type} {W:Wd S} {c:Dx W} {i:Nat}
end
end L2
end
section
namespace L2
open PySem PySem.Spec PyProof.Rows
section
variable {X:Cx} {S:Type} {W:Wd S} {c:Dx W} {g ga gb gc:Gr} {a b:Expr} {fa fb fc:Fn S} {pos p2:Pos} {pins:List (Addr×Obj)} {σ:St} {H:Hp} {s:Shared} {A:Addr->Prop}
end
end L2
end
section
namespace L2
open PySem PySem.Spec PyProof.Rows
noncomputable def yb3 (S:Type) (i:Nat) (fk:Fn S) (v:D):FnS S:=fun ρ st=>match zj1 ρ i with
 | some l=>(fk ρ st).bind fun k st2=>match k with
   | .int j=>match ixN l.length j with
     | some n=>if v.imm=true then .ok (.nx (ρ.set i (.own (.lst (l.set n v))))) st2 else .bad
     | none=>.bad
   | _=>.bad
 | none=>.bad
noncomputable def xm6 (S:Type) (i:Nat) (fk fl fv:Fn S):FnS S:=fun ρ st=>(fv ρ st).bind fun t st1=>match t with
 | .tup [a,b]=>if b.imm=true then (yb3 S i fk a ρ st1).bind fun r st2=>match r with
   | .nx ρ1=>yb3 S i fl b ρ1 st2
   | _=>.bad
   else .bad
 | _=>.bad
section
variable {X:Cx} {S:Type} {W:Wd S} {c:Dx W} {g ga gb gc:Gr} {H1:Hp} {σ:St} {ρ:Rho} {st1:S} {A:Addr->Prop}
theorem wo5 {i:Nat} {fk:Fn S} {d:D} {v:V} {Qn:Fl->S->Prop} (R1:Rep c H1 σ ρ) (ok1:W.ok st1 H1) (z:Is c.K A H1 d v) (w:wpR (yb3 S i fk d ρ st1) Qn (xf6 c)) :
 wf5 (yh9 i) (tD c ga fk) yq1 v σ H1 fun σ' H'=>∃ρ' st',Frm c H1 σ ρ H' σ' ρ'/\W.ok st' H'/\Rep c H' σ' ρ'/\Qn (.nx ρ') st':=by
 unfold yb3 at w;cases hd:zj1 ρ i with
 | none=>simp only[hd] at w;exact(show False from w).elim
 | some l=>
   simp only[hd] at w;obtain⟨ad,vs,ea,eH,zz,nm⟩:=R1.lstAt hd;refine⟨.ref ad,ea,ρ,st1,R1,ok1,za7 (za3.mp w) (fun dk st2 q2 vk H2 e2 ok2 zk=>?_) fun x st2 q2 H2 e2 ok2=>q2 H2 (e2.f0 R1) ok2⟩;cases dk with
   | int j=>
     have zj:vk=.int j:=Is.int_iff.mp (show Is c.K (fun b=>¬W.mv b) H2 (.int j) vk from zk.toR);cases hn:ixN l.length j with
     | none=>simp only[hn] at q2;exact(show False from q2).elim
     | some n=>
       simp only[hn] at q2;by_cases hc:d.imm=true
       ·rw[if_pos hc] at q2
        have R2:=R1.ext ok1 e2;have eH2:=e2 ad _ eH nm;have z2:IsL c.K (Av c σ ρ) H2 l vs:=zz.mono (e2.keepT ok1 fun b a=>⟨a.1,a⟩);have zv:Is c.K (Av c σ ρ) H2 d v:=Is.ofImm (A:=Av c σ ρ) hc ((Is.ofImm (A':=Av c σ ρ) hc z).mono (e2.keepT ok1 fun b a=>⟨a.1,a⟩));refine⟨ad,vs,j,n,rfl,zj,eH2,by rw[<-z2.length];exact hn,?_⟩;obtain⟨R3,F3⟩:=R2.wr (d':=.lst (l.set n d)) (o:=.lst (vs.set n v)) (zt9 hd) ea ⟨(fun u z=>by cases z),(fun ob u z=>by cases z)⟩ fun kt=>⟨_,zb0,(z2.set n zv).mono kt⟩
        exact⟨_,st2,e2.frm.trans F3,ya4 ok2 nm,R3,q2⟩
       ·rw[if_neg hc] at q2;exact(show False from q2).elim
   | _=>exact(show False from q2).elim
theorem xs4 {to ti:TE} {t:vc7} {v:V} {H:Hp} {Q Q':St->Hp->Prop} (mo:∀σ H P P',(∀v H,P v H->P' v H)->to σ H P->to σ H P') (mi:∀σ H P P',(∀v H,P v H->P' v H)->ti σ H P->ti σ H P')
 (mt:∀o i v H P P',(∀H,P H->P' H)->t o i v H P->t o i v H P') (h:wf5 to ti t v σ H Q) (k:∀σ H,Q σ H->Q' σ H):wf5 to ti t v σ H Q':=
 mo _ _ _ _ (fun _ _ h=>mi _ _ _ _ (fun _ _ h=>mt _ _ _ _ _ _ (fun _ h=>k _ _ h) h) h) h
theorem xh0 (o i v:V) (H:Hp) (P P':Hp->Prop) (k:∀H,P H->P' H) (h:yq1 o i v H P):yq1 o i v H P':=
 let ⟨p,xs,kk,j,a,b,c,d,e⟩:=h;⟨p,xs,kk,j,a,b,c,d,k _ e⟩
theorem gsub_ok' {i:Nat} {fk:Fn S} {d:D} {v:V} {Qn:Fl->S->Prop} {Q':St->Hp->Prop} (R1:Rep c H1 σ ρ) (ok1:W.ok st1 H1) (z:Is c.K A H1 d v) (w:wpR (yb3 S i fk d ρ st1) Qn (xf6 c))
 (k:∀σ' H' ρ' st',Frm c H1 σ ρ H' σ' ρ'->W.ok st' H'->Rep c H' σ' ρ'->Qn (.nx ρ') st'->Q' σ' H'):wf5 (yh9 i) (tD c ga fk) yq1 v σ H1 Q':=
 xs4 (fun _ _ _ _ k ⟨x,e,h⟩=>⟨x,e,k _ _ h⟩) (fun _ _ _ _ k h=>zg9 h fun v H h=>k v H h) xh0 (wo5 R1 ok1 z w) fun σ' H' ⟨ρ',st',a,b,r,q⟩=>k σ' H' ρ' st' a b r q
set_option tactic.hygienic true in
theorem yz0 {x:Str} {k l value:Expr} {fk fl fv:Fn S} {i n1:Nat} {p1 p2 p3 p4 p5 pos:Pos} (hc:X.calm=true) (hx:PE X (.Name x p1) (yh9 i)) (hx':PE X (.Name x p3) (yh9 i)) (hk:DE X c ga k fk) (hl:DE X c gb l fl) (hv:DE X c .R value fv) (hK:X.K=c.K)
 (h:∀{tk tl tv:TE},PE X k tk->PE X l tl->PE X value tv->PS X (.Assign [.Tuple [.Subscript (.Name x p1) k p2,.Subscript (.Name x p3) l p4] n1 p5] value pos) (wj3 tv (vj6 X.K 2 (wo9 (wf5 (yh9 i) tk yq1) (wo9 (wf5 (yh9 i) tl yq1) vj7))))) :
 DS X c (.Assign [.Tuple [.Subscript (.Name x p1) k p2,.Subscript (.Name x p3) l p4] n1 p5] value pos) (xm6 S i fk fl fv):=
 (h hk hl hv).imp fun D σ H q=>by
  refine zg9 (zv4 (g:=.R) (k:=fun t ρ st1=>match t with
   | .tup [a,b]=>if b.imm=true then (yb3 S i fk a ρ st1).bind fun r st2=>match r with
     | .nx ρ1=>yb3 S i fl b ρ1 st2
     | _=>.bad
     else .bad
   | _=>.bad) q) fun v H1 ⟨ρ,d,st0,st1,R,ok,R1,ok1,e1,z,w⟩=>?_
  split at w
  ·rename_i a b
   by_cases hb:b.imm=true;case neg=>rw[if_neg hb] at w;exact(show False from w).elim
   rw[if_pos hb] at w;obtain⟨ad,vs,ea,es,i1⟩:=Is.tup_sq (show Is c.K (fun b=>¬W.mv b) H1 (.tup [a,b]) v from z.toR);obtain⟨va,r,e2,ia,i2⟩:=IsL.cons.mp i1;obtain⟨vb,r',e3,ib,i3⟩:=IsL.cons.mp i2;rw[IsL.nil.mp i3] at e3;subst e3;refine⟨ad,vs,ea,by rw[hK];exact es,by rw[e2];rfl,va,_,e2,?_⟩;refine gsub_ok' R1 ok1 ia (za3.mp w) fun σ2 H2 ρ2 st2 f2 ok2 R2 q2=>⟨vb,_,rfl,?_⟩
   have q2:wpR (yb3 S i fl b ρ2 st2) (zw8 c D σ ρ H) (xf6 c):=q2;have ib2:Is c.K (Av c σ2 ρ2) H2 b vb:=(Is.ofImm (A':=Av c σ ρ) hb ib).mono (f2.keepT R1 ok1);exact gsub_ok' R2 ok2 ib2 q2 fun σ3 H3 ρ3 st3 f3 ok3 R3 q3=>⟨rfl,q3 σ3 H3 (e1.frm.trans (f2.trans f3)) ok3 R3⟩
  ·exact(show False from w).elim
end
end L2
end
section
namespace L2
open PySem PySem.Spec PyProof.Rows
noncomputable def wx6 (ρ:Rho) (i:Nat):Option (List D):=match ρ[i]? with
 | some (.own (.lst l))=>some l
 | _=>none
theorem ys1 {ρ:Rho} {i:Nat} {l:List D} (h:wx6 ρ i=some l):ρ[i]?=some (.own (.lst l)):=by
 unfold wx6 at h;split at h
 ·cases h;assumption
 ·cases h
noncomputable def xx9 (S:Type) (i:Nat) (f:Fn S):FnS S:=fun ρ st=>match wx6 ρ i with
 | some l=>(f ρ st).bind fun d st1=>if l.length<sizeLine then .ok (.nx (ρ.set i (.own (.lst (l++[d]))))) st1 else .bad
 | none=>.bad
section
variable {X:Cx} {S:Type} {W:Wd S} {c:Dx W} {i:Nat}
theorem wp9 {x:Str} {e:Expr} {f:Fn S} {p1 p2 p3 p4:Pos} (hx:PE X (.Name x p1) (yh9 i)) (he:DE X c .B e f) (hK:c.K=X.K)
 (hbase:attributeBase (.Name x p1) "append" X.env (eval (.Name x p1) X.env)=eval (.Name x p1) X.env:=by rfl)
 (hfew:((backTo p3 (starEach [e] X.env)).all (fun x=>!x.1)&&(backToKw p3 (keywordEach [] X.env)).all (fun x=>x.1.isSome)
  && decide (([e]:List Expr).length+([]:List Keyword).length+(if ([]:List Keyword).isEmpty then 0 else 1)<30))=true:=by rfl)
 (hline:(p2.endLine == p3.line)=true:=by rfl) (hs:starEach [e] X.env=(false,eval e X.env)::starEach [] X.env:=by rfl) (hplain:(backTo p3 (starEach [] X.env)).any (·.1)=false:=by rfl) (hsw:swapsWith (.Call (.Attribute (.Name x p1) "append" p2) [e] [] p3) none p4.line X.env=pure false:=by rfl) :
 DS X c (.Expr (.Call (.Attribute (.Name x p1) "append" p2) [e] [] p3) p4) (xx9 S i f):=
 (xn4 (wv8 PySem.F.plainAttrs_list PySem.F.slot_list_append PySem.F.type_list_append zm6 hx (zk7 he zs5 hs) hbase hfew hline hs hplain) hsw).imp fun D σ H hI43=>by
  obtain⟨ρ,st,R,ok,w⟩:=hI43;unfold xx9 at w;cases q:wx6 ρ i with
  | none=>rw[q] at w;exact w.elim
  | some l=>
    rw[q] at w;obtain⟨a,e1,n,f0,vs,e2,z⟩:=R.slot i _ (ys1 q);have ea:=zj7 e1;refine⟨.ref a,ea,.inl ⟨rfl,vs,.of e2⟩,ρ,st,R,ok,za7 (za3.mp w) (fun d st1 q1 v H1 e ok1 zv=>?_) fun x st1 q H1 e ok1=>q H1 (e.f0 R) ok1⟩;by_cases hl:l.length<sizeLine
    ·rw[if_pos hl] at q1
     have R1:=R.ext ok e;have eH1:=e a _ e2 n.1;have z1:IsL c.K (Av c σ ρ) H1 l vs:=z.mono (e.keepT ok fun b a=>⟨a.1,a⟩);have zv:Is c.K (Av c σ ρ) H1 d v:=zv;refine⟨a,vs,v,rfl,rfl,eH1,by rw[<-z1.length];exact hl,?_⟩;obtain⟨R2,F2⟩:=R1.wr (d':=.lst (l++[d])) (o:=.lst (vs++[v])) (ys1 q) ea ⟨(fun u z=>by cases z),(fun ob u z=>by cases z)⟩ fun k=>⟨_,zb0,IsL.mono k (z1.append (IsL.one zv))⟩
     exact q1 σ _ (e.frm.trans F2) (ya4 ok1 n.1) R2
    ·rw[if_neg hl] at q1;exact(show False from q1).elim
noncomputable def ve6 (S:Type) (fz:List Nat) (F:FnS S):FnS S:=fun ρ st=>F (frz fz ρ) st
theorem wz6 {s:Stmt} {F:FnS S} (fz:List Nat) (h:DS X c s F):DS X c s (ve6 S fz F):=h.imp fun D σ H hI44=>by
 obtain⟨ρ,st,R,ok,w⟩:=hI44;obtain⟨R1,F1⟩:=Rep.frz ok fz R;exact⟨frz fz ρ,st,R1,ok,za7 (show wpR (F (frz fz ρ) st) _ _ from w) (fun fl st' q=>q.from F1) fun _ _ q=>q⟩
section
variable {Q:Fl->S->Prop} {E:Exn->S->Prop} {ρ:Rho} {st:S}
theorem wh1 {fz:List Nat} {F:FnS S}:wpR (ve6 S fz F ρ st) Q E↔wpR (F (frz fz ρ) st) Q E:=Iff.rfl
theorem xw7 {f:Fn S} {l:List D} (h1:wx6 ρ i=some l) (h2:wpR (f ρ st) (fun d st1=>l.length<sizeLine/\Q (.nx (ρ.set i (.own (.lst (l++[d]))))) st1) E):wpR (xx9 S i f ρ st) Q E:=by
 unfold xx9;rw[h1];refine za3.mpr (za7 h2 (fun d st1 hI116=>?_) fun _ _ z=>z);obtain⟨h,q⟩:=hI116;rw[if_pos h];exact q
end
end
end L2
end
section
namespace PySem
noncomputable def zA2 (n1 n2:String) (h:Heap) (l1 l2:Addr):Heap:=(h.push (zO n1 l1)).push (zO n2 l2)
noncomputable def zB2 (n1 n2:String) (h:Heap) (l1 l2:Addr):Heap:=((zA2 n1 n2 h l1 l2).push { cls:=.type "tuple",data:=.seq #[.ref h.objs.size,.ref (h.push (zO n1 l1)).objs.size] }).push { cls:=.type "tuple",data:=.seq #[.none,.none] }
noncomputable def zC2 (n1 n2:String) (h:Heap) (l1 l2:Addr):Heap:=(zB2 n1 n2 h l1 l2).push { cls:=.type "zip",data:=.fields #[.none,.bool false,.bool false,.ref (zA2 n1 n2 h l1 l2).objs.size,.ref ((zA2 n1 n2 h l1 l2).push { cls:=.type "tuple",data:=.seq #[.ref h.objs.size,.ref (h.push (zO n1 l1)).objs.size] }).objs.size] }
theorem xh6 (l1 l2:Addr) (xs ys:Array Value) :
 Meets (Builtin.«zip.__new__» ⟨[.type "zip",.ref l1,.ref l2],[]⟩) (fun _ R s=>s.heap.IsTuple l1 xs/\s.heap.IsList l2 ys/\
  R (.ok (.ret (.ref (zB2 "tuple_iterator" "list_iterator" s.heap l1 l2).objs.size))) { s with heap:=zC2 "tuple_iterator" "list_iterator" s.heap l1 l2 }):=
 .of_wp fun prog w A R s h=>by
  obtain⟨hp,g,d,tk,os⟩:=s;obtain⟨hl1,hl2,h⟩:=h;have hsub:=sub_zip;have hL1:Heap.IsTuple (Shared.heap ⟨hp,g,d,tk,os⟩) l1 xs:=hl1;have hL2:Heap.IsList (Shared.heap ⟨hp.push { cls:=.type "tuple_iterator",data:=.fields #[.ref l1,.int 0 0] },g,d,tk,os⟩) l2 ys:=hl2.at fun o e=>Aa0 _ e
  wp_walk using wpAny_pyIter_tuple hL1,wpAny_pyIter_list hL2
  exact⟨_,rfl,h⟩
theorem xj9 (n1 n2:String) (h:Heap) (l1 l2:Addr):(h.push (zO n1 l1)).objs.size=h.objs.size+1/\(zA2 n1 n2 h l1 l2).objs.size=h.objs.size+2/\(zB2 n1 n2 h l1 l2).objs.size=h.objs.size+4:=by
 refine⟨Au0 ..,?_,?_⟩
 ·unfold zA2;rw[Au0,Au0]
 ·unfold zB2 zA2;rw[Au0,Au0,Au0,Au0]
theorem xk0 (n1 n2:String) (h:Heap) (l1 l2:Addr):IsZip (zC2 n1 n2 h l1 l2) (h.objs.size+4) (h.objs.size+2) (h.objs.size+3) .none/\IsPair (zC2 n1 n2 h l1 l2) (h.objs.size+2) (.ref h.objs.size) (.ref (h.objs.size+1))/\
 IsPair (zC2 n1 n2 h l1 l2) (h.objs.size+3) .none .none/\(zC2 n1 n2 h l1 l2).get? h.objs.size=some (zO n1 l1)/\(zC2 n1 n2 h l1 l2).get? (h.objs.size+1)=some (zO n2 l2)/\∀c o,h.get? c=some o->(zC2 n1 n2 h l1 l2).get? c=some o:=by
 obtain⟨s1,s2,s4⟩:=xj9 n1 n2 h l1 l2;have s3:((zA2 n1 n2 h l1 l2).push { cls:=.type "tuple",data:=.seq #[.ref h.objs.size,.ref (h.push (zO n1 l1)).objs.size] }).objs.size=h.objs.size+3:=by rw[Au0,s2]
 have u:∀{c:Addr} {o:Obj},(zB2 n1 n2 h l1 l2).get? c=some o->(zC2 n1 n2 h l1 l2).get? c=some o:=fun {c o} q=>Aa0 _ q
 have v:∀{c:Addr} {o:Obj},(zA2 n1 n2 h l1 l2).get? c=some o->(zC2 n1 n2 h l1 l2).get? c=some o:=fun {c o} q=>u (Aa0 _ (Aa0 _ q))
 refine⟨?_,?_,?_,v (Aa0 _ (Ad0 _ rfl)),?_,fun c o q=>v (Aa0 _ (Aa0 _ q))⟩
 ·have q:(zC2 n1 n2 h l1 l2).get? (zB2 n1 n2 h l1 l2).objs.size=some _:=Ad0 _ rfl
  rw[s4,s3,s2] at q;exact q
 ·have q:(zC2 n1 n2 h l1 l2).get? (zA2 n1 n2 h l1 l2).objs.size=some _:=u (Aa0 _ (Ad0 _ rfl))
  rw[s2,s1] at q;exact q
 ·have q:(zC2 n1 n2 h l1 l2).get? ((zA2 n1 n2 h l1 l2).push { cls:=.type "tuple",data:=.seq #[.ref h.objs.size,.ref (h.push (zO n1 l1)).objs.size] }).objs.size=some _:=u (Ad0 _ rfl)
  rw[s3] at q;exact q
 ·have q:(zA2 n1 n2 h l1 l2).get? (h.push (zO n1 l1)).objs.size=some (zO n2 l2):=Ad0 _ rfl
  rw[s1] at q;exact v q
section
variable {prog:Program} {w:World} {A:Around} {E:Value->Shared->Prop} {s:Shared}
theorem xu8 {l1 l2:Addr} {xs ys:Array Value} {Q:Value->Shared->Prop} (hl1:s.heap.IsTuple l1 xs) (hl2:s.heap.IsList l2 ys)
 (h:Q (.ref (s.heap.objs.size+4)) { s with heap:=zC2 "tuple_iterator" "list_iterator" s.heap l1 l2 }):wpAny (model prog w) A (call (.type "zip") [.ref l1,.ref l2]) Q E s:=by
 refine callType_new F.called_zip (by decide) (F.typeCall_zip_2 _ _) (F.newCall_zip_2 _ _) (fun obj=>F.args_object_init_3 obj _ _) F.entry_zip_new (xh6 l1 l2 xs ys) ⟨hl1,hl2,?_⟩;obtain⟨q,_⟩:=xk0 "tuple_iterator" "list_iterator" s.heap l1 l2;show _/\_;rw[(xj9 "tuple_iterator" "list_iterator" s.heap l1 l2).2.2];exact⟨⟨_,q,rfl⟩,h⟩
end
end PySem
namespace L2
open PySem PySem.Spec PyProof.Rows
noncomputable def ve3 (a b:Addr):Hp->List V->List V->Prop:=fun H xs ys=>H a=some (.tup xs)/\H b=some (.lst ys)
theorem wr8 {P:Program} {w:World} {K:PySem.W.Frag} {l1 l2 i1 i2:Addr}:ZW P w K l1 l2 i1 i2 (ve3 l1 l2) (fun k h=>h.IsTupleIter i1 l1 k) (fun k h=>h.IsListIter i2 l2 k) where
 obj:=fun k h=>⟨fun ⟨o,ho,c,d⟩=>⟨o,ho,fun v z=>by rw[d] at z;cases z⟩,fun ⟨o,ho,c,d⟩=>⟨o,ho,fun v z=>by rw[d] at z;cases z⟩⟩
 keep:=fun k h h'=>⟨fun a q=>a.at q,fun a q=>a.at q⟩
 there:=fun H xs ys q=>⟨(fun z=>by rw[q.1] at z;cases z),(fun z=>by rw[q.2] at z;cases z)⟩
 vals:=fun X hK pins σ H s xs ys I q n1 n2=>by
  obtain⟨us,ru,t1,_⟩:=I.tuple (SqT.of q.1);obtain⟨vs,rv,t2,_⟩:=I.list (SqL.of q.2);exact⟨us,vs,ru,rv,fun xs' ys' q'=>⟨I.tuple_inj (SqT.of q'.1) (SqT.of q.1),I.list_inj (SqL.of q'.2) (SqL.of q.2)⟩,_,_,Wlk.tup n1,Wlk.lst n2,fun k z=>⟨z,t1⟩,fun k z=>⟨z,t2.isList⟩,fun k h=>⟨fun z=>z.1,fun z=>z.1⟩⟩
section
variable {X:Cx} {elts:List Expr} {x1:Nat} {tpos:Pos} {S:Type} {W:Wd S} {c:Dx W}
noncomputable def vg2 (ta:TA):TI:=fun σ H R=>ta σ H fun vs H1=>∃a b xs ys,vs=[.ref a,.ref b]/\ve3 a b H1 xs ys/\R (Izp (ve3 a b)) H1
theorem wk8 {e1 e2:Expr} {ta:TA} {p pos:Pos} (hg:Gl X "zip") (hm:X.mg "zip" = none) (ha:PA X [e1,e2] ta) (hs:starEach [e1,e2] X.env=(false,eval e1 X.env)::starEach [e2] X.env:=by rfl) (hs2:starEach [e2] X.env=[(false,eval e2 X.env)]:=by rfl):PI X (.Tuple elts x1 tpos) (.Call (.Name "zip" p) [e1,e2] [] pos) (vg2 ta):=by
 intro pins s σ H R I h;refine Call_ (yf5 I hg hm boot_zip (PyProof.Rows.callWith_type1 (thn (ha pos pins s σ H _ I h) fun us s1 hI117=>?_) hs (by rw[hs2];rfl)));obtain⟨vs,H1,I1,r1,q1⟩:=hI117;obtain⟨a,b,xs,ys,rfl,hq,q⟩:=q1;cases r1 with
 | cons r rr=>
   cases rr with
   | cons r' rr=>
     cases rr;cases r;cases r';have nd:=ww8 s1.heap.objs.size;have fr:∀b∈[s1.heap.objs.size+4,s1.heap.objs.size+2,s1.heap.objs.size+3,s1.heap.objs.size,s1.heap.objs.size+1],yv4 X pins H1 b:=fun b hb=>I1.fpOk (xc8 hb) (I1.hok.fresh (xc8 hb))
     obtain⟨us,ru,t1,_⟩:=I1.tuple (SqT.of hq.1);obtain⟨vs,rv,t2,_⟩:=I1.list (SqL.of hq.2);refine xu8 (show s1.heap.IsTuple a us.toArray from t1) t2.isList ?_;obtain⟨z1,z2,z3,z4,z5,kk⟩:=xk0 "tuple_iterator" "list_iterator" s1.heap a b;refine wpAny_pyIter_zip (s:={ s1 with heap:=zC2 "tuple_iterator" "list_iterator" s1.heap a b }) z1 ?_;exact⟨_,_,_,_,H1,rfl,I1.kept (t':=s1.toks) kk,yl6 wr8 nd,⟨z1,z2,⟨_,_,z3⟩,⟨_,z4,rfl,rfl⟩,⟨_,z5,rfl,rfl⟩⟩,fr,q⟩
noncomputable def wm3:List D->Option (List D)
 | [.tup l,.lst m]=>some (zx8 l m)
 | _=>none
set_option tactic.hygienic true in
theorem wq1 {e1 e2:Expr} {f:FnA S} {p pos:Pos} (hg:Gl X "zip") (hm:X.mg "zip" = none) (ha:DB X c [e1,e2] f) (hs:starEach [e1,e2] X.env=(false,eval e1 X.env)::starEach [e2] X.env:=by rfl) (hs2:starEach [e2] X.env=[(false,eval e2 X.env)]:=by rfl):DI X c (.Tuple elts x1 tpos) (.Call (.Name "zip" p) [e1,e2] [] pos) (xi5 S wm3 f):=
 (wk8 hg hm ha hs hs2).imp fun σ H R hI45=>by
  obtain⟨ρ,st,R0,ok,w⟩:=hI45;refine⟨ρ,st,R0,ok,za7 (za3.mp w) (fun l st1 q vs H1 e ok1 z=>?_) fun x st1 q=>q⟩;obtain⟨m,e1,q⟩:=zb8.mp q;unfold wm3 at e1;split at e1
  ·rename_i l m
   cases e1;obtain⟨v,r,e2,i2,i3⟩:=IsL.cons.mp z;obtain⟨v',r',e3,i3,i4⟩:=IsL.cons.mp i3;obtain⟨a,xs,ea,s0,i⟩:=Is.tup_iff.mp i2;obtain⟨b,ys,eb,n1,t0,j⟩:=Is.lst_iff.mp i3;rw[e3,IsL.nil.mp i4,ea,eb] at e2;exact⟨a,b,xs,ys,e2,⟨s0,t0⟩,q _ H1 e ok1 (yl0 (fun c' σ2 ρ2 H2 k=>⟨k.tup a xs s0,(k.nod b _ n1 t0).2⟩) i j)⟩
  ·cases e1
end
end L2
end
section
namespace L2
open PySem PySem.Spec PyProof.Rows
section
variable {X:Cx} {S:Type} {W:Wd S} {c:Dx W} {g ga:Gr} {H:Hp} {st:S}
end
end L2
end
section
namespace Ts
open PySem PyProof.Rows
section
variable {prog:Program} {w:World} {A:Around} {E:Value->Shared->Prop} {s:Shared} {κ:KeyKind} {knd:SortKind}
noncomputable def Cmp (prog:Program) (w:World) (A:Around) (E:Value->Shared->Prop) (s:Shared) (κ:KeyKind) (knd:SortKind):Prop:=
 ∀(st:SortSt) (x y:Keyed) (a b:κ.α) (Q:Option Bool->SortSt->Prop),kindOf st=knd->κ.keyOf x.1=some a->κ.keyOf y.1=some b->Q (some (κ.blt a b)) st->wpS (model prog w) A E s (lt' x y) Q st
noncomputable def ky (κ:KeyKind) (x:Keyed):κ.α:=(κ.keyOf x.1).getD κ.dflt
structure Bs (a₀:Array Keyed) (knd:SortKind) (P:Array (Nat×Nat×Nat)) (st:SortSt):Prop where
 perm:(arrOf st).Perm a₀
 kind:kindOf st=knd
 fail:failedOf st=none
 pend:pendingOf st=P
variable {a₀:Array Keyed} {P:Array (Nat×Nat×Nat)} {st:SortSt}
theorem Bs.size (B:Bs a₀ knd P st):(arrOf st).size=a₀.size:=B.perm.size_eq
theorem Bs.arr (B:Bs a₀ knd P st) {xs:Array Keyed} (h:xs.Perm (arrOf st)):Bs a₀ knd P (setArr st xs):=⟨h.trans B.perm,B.kind,B.fail,B.pend⟩
theorem Bs.at (B:Bs a₀ knd P st) (h0:KeysOf κ a₀) {i:Nat} (hi:i<a₀.size):∃x a,(arrOf st)[i]?=some x/\κ.keyOf x.1=some a/\KK κ (arrOf st) i=a:=by
 have hi':i<(arrOf st).size:=by rw[B.size];exact hi
 have hm:(arrOf st)[i]∈a₀.toList:=(Array.perm_iff_toList_perm.mp B.perm).mem_iff.mp (Array.getElem_mem_toList hi');obtain⟨a,ha⟩:=h0 _ hm;have e:(arrOf st)[i]?=some (arrOf st)[i]:=Bd0 hi';refine⟨_,a,e,ha,?_⟩;unfold KK;rw[e];show (κ.keyOf (arrOf st)[i].1).getD κ.dflt=a;rw[ha];rfl
theorem yd6 (C:Cmp prog w A E s κ knd) (h0:KeysOf κ a₀) (B:Bs a₀ knd P st) {i j:Nat} (hi:i<a₀.size) (hj:j<a₀.size) {Q:Option Bool->SortSt->Prop}
 (h:Q (some (κ.blt (KK κ (arrOf st) i) (KK κ (arrOf st) j))) st):wpS (model prog w) A E s (ltAt' i j) Q st:=by
 obtain⟨x,a,e1,k1,r1⟩:=B.at h0 hi;obtain⟨y,b,e2,k2,r2⟩:=B.at h0 hj;rw[ltAt'_eq];refine wpS_bind (wpS_get ?_);show wpS _ _ _ _ (elem' (arrOf st) i >>= fun x=>elem' (arrOf st) j >>= fun y=>lt' x y) Q st;rw[elem'_eq,elem'_eq,e1,e2];refine wpS_bind (wpS_pure (wpS_bind (wpS_pure (C st x y a b Q B.kind k1 k2 ?_))));rw[<-r1,<-r2];exact h
noncomputable def Up (κ:KeyKind) (xs:Array Keyed) (lo hi:Nat):Prop:=∀i j,lo<=i->i<=j->j<hi->κ.kle (KK κ xs i) (KK κ xs j)
noncomputable def Dn (κ:KeyKind) (xs:Array Keyed) (lo hi:Nat):Prop:=∀i j,lo<=i->i<=j->j<hi->κ.kle (KK κ xs j) (KK κ xs i)
theorem Up.one {xs:Array Keyed} {lo hi:Nat} (h:hi<=lo+1):Up κ xs lo hi:=fun i j h1 h2 h3=>by
 have:i=j:=by omega
 subst this;exact KeyOrd.kle_refl _
theorem Up.snoc {xs:Array Keyed} {lo n:Nat} (h:Up κ xs lo (lo+n)) (h1:1<=n) (hl:κ.kle (KK κ xs (lo+n-1)) (KK κ xs (lo+n))):Up κ xs lo (lo+(n+1)):=fun i j g1 g2 g3=>by
 by_cases hj:j<lo+n
 ·exact h i j g1 g2 hj
 ·have:j=lo+n:=by omega
  subst this;by_cases hi:i=lo+n
  ·subst hi;exact KeyOrd.kle_refl _
  ·exact KeyOrd.kle_trans (h i (lo+n-1) g1 (by omega) (by omega)) hl
theorem Dn.snoc {xs:Array Keyed} {lo n:Nat} (h:Dn κ xs lo (lo+n)) (h1:1<=n) (hl:κ.kle (KK κ xs (lo+n)) (KK κ xs (lo+n-1))):Dn κ xs lo (lo+(n+1)):=fun i j g1 g2 g3=>by
 by_cases hj:j<lo+n
 ·exact h i j g1 g2 hj
 ·have:j=lo+n:=by omega
  subst this;by_cases hi:i=lo+n
  ·subst hi;exact KeyOrd.kle_refl _
  ·exact KeyOrd.kle_trans hl (h i (lo+n-1) g1 (by omega) (by omega))
noncomputable def Out (xs ys:Array Keyed) (lo hi:Nat):Prop:=∀i,(i<lo\/hi<=i)->ys[i]?=xs[i]?
theorem xv7 {xs:Array Keyed} {i j k:Nat} (hj:j<=xs.size):KK κ (mirror xs i j ((j-i) / 2)) k=if i<=k/\k<j then KK κ xs (i+j-1-k) else KK κ xs k:=KK_mirror hj k
theorem wd1 (C:Cmp prog w A E s κ knd) (h0:KeysOf κ a₀) (B:Bs a₀ knd P st) {lo nrem a:Nat} (hl:lo+nrem<=a₀.size) (ha:1<=a) (han:a<=nrem) (hu:Up κ (arrOf st) lo (lo+a)) {Q:Option (Option Nat)×Nat->SortSt->Prop}
 (h:∀n,a<=n->n<=nrem->Up κ (arrOf st) lo (lo+n)->(n=nrem\/κ.blt (KK κ (arrOf st) (lo+n)) (KK κ (arrOf st) (lo+n-1))=true)->Q (none,n) st) :
 wpS (model prog w) A E s (forIn [a:nrem] ((none,a):Option (Option Nat)×Nat) fun _ r=>do
  let x <-ltAt' (lo+r.2) (lo+r.2-1)
  match x with
  | some smaller=>if smaller=true then pure (ForInStep.done (none,r.2)) else pure (ForInStep.yield (none,r.2+1))
  | _=>pure (ForInStep.done (some none,r.2))) Q st:=by
 refine wpS_forRange (I:=fun x c st'=>st'=st/\c=(none,x)/\Up κ (arrOf st) lo (lo+x)) (fun i c st' h1 h2 hI119=>?_) (fun c st' hI118=>?_) ⟨rfl,rfl,hu⟩
 ·obtain⟨e1,e2,hu⟩:=hI119
  subst e1 e2;refine wpS_bind (yd6 C h0 B (by omega) (by omega) ?_);show wpS _ _ _ _ (if κ.blt (KK κ (arrOf st') (lo+i)) (KK κ (arrOf st') (lo+i-1))=true then _ else _) _ _;cases hb:κ.blt (KK κ (arrOf st') (lo+i)) (KK κ (arrOf st') (lo+i-1))
  ·rw[if_neg Am0]
   exact wpS_pure ⟨rfl,rfl,hu.snoc (by omega) hb⟩
  ·rw[if_pos rfl]
   exact wpS_pure (h i h1 (by omega) hu (.inr hb))
 ·obtain⟨e1,e2,hu⟩:=hI118
  subst e1 e2;have e:max a nrem=nrem:=by omega
  rw[e] at hu ⊢;exact h nrem han (Ac0 _) hu (.inl rfl)
theorem Out.refl {xs:Array Keyed} {lo hi:Nat}:Out xs xs lo hi:=fun _ _=>rfl
theorem Out.trans {xs ys zs:Array Keyed} {lo hi:Nat} (a:Out xs ys lo hi) (b:Out ys zs lo hi):Out xs zs lo hi:=fun i h=>(b i h).trans (a i h)
theorem Out.mir {xs:Array Keyed} {lo hi p q:Nat} (hq:q<=xs.size) (h1:lo<=p) (h2:q<=hi):Out xs (mirror xs p q ((q-p) / 2)) lo hi:=fun i h=>by
 rw[getElem?_mirror_all hq,if_neg (by omega)]
theorem xa1 {xs:Array Keyed} {p q:Nat} {c:κ.α} (hq:q<=xs.size) (h:∀i,p<=i->i<q->KK κ xs i=c) (k:Nat):KK κ (mirror xs p q ((q-p) / 2)) k=KK κ xs k:=by
 rw[xv7 hq];by_cases hk:p<=k/\k<q
 ·rw[if_pos hk,h k hk.1 hk.2,h _ (by omega) (by omega)]
 ·rw[if_neg hk]
theorem Dn.turn {xs:Array Keyed} {lo n:Nat} (hq:lo+n<=xs.size) (h:Dn κ xs lo (lo+n)):Up κ (mirror xs lo (lo+n) ((lo+n-lo) / 2)) lo (lo+n):=fun i j g1 g2 g3=>by
 rw[xv7 hq,xv7 hq,if_pos ⟨g1,by omega⟩,if_pos ⟨by omega,g3⟩];exact h _ _ (by omega) (by omega) (by omega)
theorem Dn.congr {xs ys:Array Keyed} {lo hi:Nat} (h:Dn κ xs lo hi) (e:∀k,KK κ ys k=KK κ xs k):Dn κ ys lo hi:=fun i j g1 g2 g3=>by rw[e i,e j];exact h i j g1 g2 g3
theorem xk2 (C:Cmp prog w A E s κ knd) (h0:KeysOf κ a₀) (B:Bs a₀ knd P st) {lo nrem n:Nat} (hl:lo+nrem<=a₀.size) (h1:1<=n) (hn:n<=nrem) (hd:Dn κ (arrOf st) lo (lo+n)) {Q:Option Nat->SortSt->Prop}
 (h:∀m st',Bs a₀ knd P st'->1<=m->m<=nrem->Up κ (arrOf st') lo (lo+m)->Out (arrOf st) (arrOf st') lo (lo+nrem)->Q (some m) st') :
 wpS (model prog w) A E s (do
  reverseSlice' lo (lo+n)
  let r <-forIn [n:nrem] ((none,n):Option (Option Nat)×Nat) fun _ r=>do
   let x <-ltAt' (lo+r.2) (lo+r.2-1)
   match x with
   | some smaller=>if smaller=true then pure (ForInStep.done (none,r.2)) else pure (ForInStep.yield (none,r.2+1))
   | _=>pure (ForInStep.done (some none,r.2))
  match r.1 with
  | some r=>pure r
  | none=>pure (some r.2)) Q st:=by
 have hz:lo+n<=(arrOf st).size:=by rw[B.size];omega
 rw[reverseSlice'_eq];refine wpS_bind (wpS_modify (wpS_bind (wd1 C h0 (B.arr (mirror_perm _ _ _ _)) hl h1 hn (Dn.turn hz hd) fun m g1 g2 g3 _=>?_)));exact wpS_pure (h m _ (B.arr (mirror_perm _ _ _ _)) (by omega) g2 g3 (Out.mir hz (Ac0 _) (by omega)))
theorem xl1 (C:Cmp prog w A E s κ knd) (h0:KeysOf κ a₀) (B:Bs a₀ knd P st) {lo nrem n:Nat} (hl:lo+nrem<=a₀.size) (h1:1<=n) (hn:n<=nrem) (hd:Dn κ (arrOf st) lo (lo+n)) {Q:Option Nat->SortSt->Prop}
 (h:∀m st',Bs a₀ knd P st'->1<=m->m<=nrem->Up κ (arrOf st') lo (lo+m)->Out (arrOf st) (arrOf st') lo (lo+nrem)->Q (some m) st') :
 wpS (model prog w) A E s (do
  liftM (rule "list.sort.descending-run")
  let r <-forIn [n:nrem] ((none,n,0):Option (Option Nat)×Nat×Nat) fun _ r=>do
   let x <-ltAt' (lo+r.2.1) (lo+r.2.1-1)
   match x with
   | some smaller=>
     if smaller=true then
      if r.2.2>0 then do
       reverseSlice' (lo+r.2.1-(r.2.2+1)) (lo+r.2.1)
       pure (ForInStep.yield (none,r.2.1+1,0))
      else pure (ForInStep.yield (none,r.2.1+1,0))
     else do
      let x <-ltAt' (lo+r.2.1-1) (lo+r.2.1)
      match x with
      | some larger=>if larger=true then pure (ForInStep.done (none,r.2.1,r.2.2)) else pure (ForInStep.yield (none,r.2.1+1,r.2.2+1))
      | _=>pure (ForInStep.done (some none,r.2.1,r.2.2))
   | _=>pure (ForInStep.done (some none,r.2.1,r.2.2))
  match r.1 with
  | some r=>pure r
  | none=>
    if r.2.2>0 then do
     reverseSlice' (lo+r.2.1-(r.2.2+1)) (lo+r.2.1)
     reverseSlice' lo (lo+r.2.1)
     let r <-forIn [r.2.1:nrem] ((none,r.2.1):Option (Option Nat)×Nat) fun _ r=>do
      let x <-ltAt' (lo+r.2) (lo+r.2-1)
      match x with
      | some smaller=>if smaller=true then pure (ForInStep.done (none,r.2)) else pure (ForInStep.yield (none,r.2+1))
      | _=>pure (ForInStep.done (some none,r.2))
     match r.1 with
     | some r=>pure r
     | none=>pure (some r.2)
    else do
     reverseSlice' lo (lo+r.2.1)
     let r <-forIn [r.2.1:nrem] ((none,r.2.1):Option (Option Nat)×Nat) fun _ r=>do
      let x <-ltAt' (lo+r.2) (lo+r.2-1)
      match x with
      | some smaller=>if smaller=true then pure (ForInStep.done (none,r.2)) else pure (ForInStep.yield (none,r.2+1))
      | _=>pure (ForInStep.done (some none,r.2))
     match r.1 with
     | some r=>pure r
     | none=>pure (some r.2)) Q st:=by
 refine wpS_bind (wpS_lift (wpAny_rule ⟨rfl,?_⟩));refine wpS_bind (wpS_mono (wpS_forRange (I:=fun x c st'=>∃q,c=(none,x,q)/\Bs a₀ knd P st'/\x<=nrem/\Dn κ (arrOf st') lo (lo+x)/\q+1<=x/\(∀i,lo+x-(q+1)<=i->i<lo+x->KK κ (arrOf st') i=KK κ (arrOf st') (lo+x-1))/\Out (arrOf st) (arrOf st') lo (lo+nrem)) (Q:=fun c st'=>∃x q,c=(none,x,q)/\1<=x/\Bs a₀ knd P st'/\x<=nrem/\Dn κ (arrOf st') lo (lo+x)/\q+1<=x/\(∀i,lo+x-(q+1)<=i->i<lo+x->KK κ (arrOf st') i=KK κ (arrOf st') (lo+x-1))/\Out (arrOf st) (arrOf st') lo (lo+nrem))
  (fun x c st' hx1 hx2 hI=>?_) (fun c st' hI=>?_) ⟨0,rfl,B,hn,hd,h1,fun i g1 g2=>by rw[show i=lo+n-1 by omega],Out.refl⟩) fun c st' hI=>?_)
 ·obtain⟨q,e,B',hxn,hd',hq,he,ho⟩:=hI
  subst e;have hz:lo+x<=(arrOf st').size:=by rw[B'.size];omega
  refine wpS_bind (yd6 C h0 B' (i:=lo+x) (j:=lo+x-1) (by omega) (by omega) ?_);show wpS _ _ _ _ (if κ.blt (KK κ (arrOf st') (lo+x)) (KK κ (arrOf st') (lo+x-1))=true then _ else _) _ _;cases hb:κ.blt (KK κ (arrOf st') (lo+x)) (KK κ (arrOf st') (lo+x-1))
  ·rw[if_neg Am0]
   refine wpS_bind (yd6 C h0 B' (i:=lo+x-1) (j:=lo+x) (by omega) (by omega) ?_);show wpS _ _ _ _ (if κ.blt (KK κ (arrOf st') (lo+x-1)) (KK κ (arrOf st') (lo+x))=true then _ else _) _ _;cases hb2:κ.blt (KK κ (arrOf st') (lo+x-1)) (KK κ (arrOf st') (lo+x))
   ·rw[if_neg Am0]
    have ee:KK κ (arrOf st') (lo+x)=KK κ (arrOf st') (lo+x-1):=κ.total _ _ hb hb2;refine wpS_pure ⟨q+1,rfl,B',by omega,hd'.snoc (by omega) (by rw[ee];exact KeyOrd.kle_refl _),by omega,fun i g1 g2=>?_,ho⟩;have e3:lo+(x+1)-1=lo+x:=by omega
    rw[e3,ee];by_cases hi:i=lo+x
    ·rw[hi,ee]
    ·exact he i (by omega) (by omega)
   ·rw[if_pos rfl]
    exact wpS_pure ⟨x,q,rfl,by omega,B',hxn,hd',hq,he,ho⟩
  ·rw[if_pos rfl]
   have lt:κ.kle (KK κ (arrOf st') (lo+x)) (KK κ (arrOf st') (lo+x-1)):=KeyOrd.kle_of_klt hb;by_cases hq0:q>0
   ·show wpS _ _ _ _ (if q>0 then _ else _) _ _
    rw[if_pos hq0];show wpS _ _ _ _ (reverseSlice' (lo+x-(q+1)) (lo+x) >>= fun _=>pure (ForInStep.yield (none,x+1,0))) _ _;rw[reverseSlice'_eq];have ks:∀k,KK κ (mirror (arrOf st') (lo+x-(q+1)) (lo+x) ((lo+x-(lo+x-(q+1))) / 2)) k=KK κ (arrOf st') k:=xa1 hz he;refine wpS_bind (wpS_modify (wpS_pure ⟨0,rfl,B'.arr (mirror_perm _ _ _ _),by omega,(hd'.congr ks).snoc (by omega) (by rw[ks,ks];exact lt),by omega,fun i g1 g2=>?_,ho.trans (Out.mir hz (by omega) (by omega))⟩));rw[show i=lo+(x+1)-1 by omega]
   ·show wpS _ _ _ _ (if q>0 then _ else _) _ _
    rw[if_neg hq0];refine wpS_pure ⟨0,rfl,B',by omega,hd'.snoc (by omega) lt,by omega,fun i g1 g2=>?_,ho⟩;rw[show i=lo+(x+1)-1 by omega]
 ·obtain⟨q,e,B',hxn,hd',hq,he,ho⟩:=hI
  exact⟨_,q,e,by omega,B',hxn,hd',hq,he,ho⟩
 ·obtain⟨x,q,e,hx,B',hxn,hd',hq,he,ho⟩:=hI
  subst e;have hz:lo+x<=(arrOf st').size:=by rw[B'.size];omega
  by_cases hq0:q>0
  ·show wpS _ _ _ _ (if q>0 then _ else _) _ _
   rw[if_pos hq0];rw[reverseSlice'_eq (lo+x-(q+1)) (lo+x)];have ks:∀k,KK κ (mirror (arrOf st') (lo+x-(q+1)) (lo+x) ((lo+x-(lo+x-(q+1))) / 2)) k=KK κ (arrOf st') k:=xa1 hz he;refine wpS_bind (wpS_modify ?_);exact xk2 C h0 (B'.arr (mirror_perm _ _ _ _)) hl hx hxn (hd'.congr ks) fun m st2 B2 m1 m2 u2 o2=>h m st2 B2 m1 m2 u2 (ho.trans ((Out.mir hz (by omega) (by omega)).trans o2))
  ·show wpS _ _ _ _ (if q>0 then _ else _) _ _
   rw[if_neg hq0];exact xk2 C h0 B' hl hx hxn hd' fun m st2 B2 m1 m2 u2 o2=>h m st2 B2 m1 m2 u2 (ho.trans o2)
set_option tactic.hygienic true in
theorem yd7 (C:Cmp prog w A E s κ knd) (h0:KeysOf κ a₀) (B:Bs a₀ knd P st) {lo nrem:Nat} (hl:lo+nrem<=a₀.size) (h1:1<=nrem) {Q:Option Nat->SortSt->Prop}
 (h:∀m st',Bs a₀ knd P st'->1<=m->m<=nrem->Up κ (arrOf st') lo (lo+m)->Out (arrOf st) (arrOf st') lo (lo+nrem)->Q (some m) st'):wpS (model prog w) A E s (countRun' lo nrem) Q st:=by
 rw[countRun'_eq];refine wpS_bind ?_;refine wd1 C h0 B hl (Ac0 1) h1 (Up.one (by omega)) fun n g1 g2 g3 g4=>?_
 dsimp only;by_cases hn:n=nrem
 ·rw[if_pos (by rw[hn];exact beq_self_eq_true _)]
  exact wpS_pure (h n st B g1 g2 g3 Out.refl)
 rw[if_neg (by simpa using hn)];have hlt:κ.blt (KK κ (arrOf st) (lo+n)) (KK κ (arrOf st) (lo+n-1))=true:=g4.resolve_left hn;by_cases h2:n>1
 ·rw[if_pos h2]
  refine wpS_bind (yd6 C h0 B (by omega) (by omega) ?_);show wpS _ _ _ _ (if κ.blt (KK κ (arrOf st) lo) (KK κ (arrOf st) (lo+n-1))=true then _ else _) _ _;cases hb:κ.blt (KK κ (arrOf st) lo) (KK κ (arrOf st) (lo+n-1));case true=>
   rw[if_pos rfl];exact wpS_pure (h n st B g1 g2 g3 Out.refl)
  rw[if_neg Am0];have hz:lo+n<=(arrOf st).size:=by rw[B.size];omega
  have same:∀i,lo<=i->i<lo+n->KK κ (arrOf st) i=KK κ (arrOf st) lo:=fun i k1 k2=>by
   have a1:=g3 lo i (Ac0 _) k1 k2;have a2:=KeyOrd.kle_trans (g3 i (lo+n-1) k1 (by omega) (by omega)) hb;exact KeyOrd.kle_antisymm a2 a1
  have ks:=xa1 hz same;rw[reverseSlice'_eq lo (lo+n)];refine wpS_bind (wpS_modify ?_);have dn:Dn κ (arrOf st) lo (lo+n):=fun i j k1 k2 k3=>by rw[same i k1 (by omega),same j (by omega) k3];exact KeyOrd.kle_refl _
  have go:=xl1 (Q:=Q) C h0 (B.arr (mirror_perm _ _ _ _)) hl (n:=n+1) (by omega) (by omega) ((dn.congr ks).snoc g1 (by rw[ks,ks];exact KeyOrd.kle_of_klt hlt)) fun m st2 B2 m1 m2 u2 o2=>h m st2 B2 m1 m2 u2 ((Out.mir hz (Ac0 _) (by omega)).trans o2)
  refine Eq.mp ?_ go;congr 1;congr 1;funext _u;congr 1;funext i;obtain⟨r1,r2,r3⟩:=i;cases r1 with
  | some r=>rfl
  | none=>
    dsimp only;split
    ·congr 1;funext _v;congr 1;funext _v;congr 1;funext j;obtain⟨j1,j2⟩:=j;cases j1<;>rfl
    ·congr 1;funext _v;congr 1;funext j;obtain⟨j1,j2⟩:=j;cases j1<;>rfl
 ·rw[if_neg h2]
  have e1:n=1:=by omega
  have dn:Dn κ (arrOf st) lo (lo+n):=fun i j k1 k2 k3=>by
   have:i=j:=by omega
   subst this;exact KeyOrd.kle_refl _
  have go:=xl1 (Q:=Q) C h0 B hl (n:=n+1) (by omega) (by omega) (dn.snoc g1 (KeyOrd.kle_of_klt hlt)) h;refine Eq.mp ?_ go;congr 1;congr 1;funext _u;congr 1;funext i;obtain⟨r1,r2,r3⟩:=i;cases r1 with
  | some r=>rfl
  | none=>
    dsimp only;split
    ·congr 1;funext _v;congr 1;funext _v;congr 1;funext j;obtain⟨j1,j2⟩:=j;cases j1<;>rfl
    ·congr 1;funext _v;congr 1;funext j;obtain⟨j1,j2⟩:=j;cases j1<;>rfl
end
end Ts
end
section
namespace Ts
open PySem PyProof.Rows
section
variable {prog:Program} {w:World} {A:Around} {E:Value->Shared->Prop} {s:Shared} {κ:KeyKind} {knd:SortKind} {a₀:Array Keyed} {P:Array (Nat×Nat×Nat)} {st:SortSt}
theorem wg8 {xs:Array Keyed} {src d k:Nat} (hs:src<xs.size) (hd:d<=src):KK κ (bubble xs src d) k=if k=src-d then KK κ xs src else if src-d<k/\k<=src then KK κ xs (k-1) else KK κ xs k:=KK_bubble hs hd k
theorem yp0 (C:Cmp prog w A E s κ knd) (h0:KeysOf κ a₀) (B:Bs a₀ knd P st) {lo n ok:Nat} (hl:lo+n<=a₀.size) (hok:ok<=n) (hu:Up κ (arrOf st) lo (lo+ok)) {Q:Bool->SortSt->Prop}
 (h:∀st',Bs a₀ knd P st'->Up κ (arrOf st') lo (lo+n)->Out (arrOf st) (arrOf st') lo (lo+n)->Q true st'):wpS (model prog w) A E s (binarySort' lo n ok) Q st:=by
 rw[binarySort'_eq];refine wpS_bind (wpS_mono (wpS_forRange (I:=fun k c st'=>c=(none,())/\Bs a₀ knd P st'/\Up κ (arrOf st') lo (lo+min k n)/\Out (arrOf st) (arrOf st') lo (lo+n)) (Q:=fun c st'=>c=(none,())/\Bs a₀ knd P st'/\Up κ (arrOf st') lo (lo+n)/\Out (arrOf st) (arrOf st') lo (lo+n)) (fun k c st' hk1 hk2 hI=>?_) (fun c st' hI=>?_) ⟨rfl,B,?_,Out.refl⟩) fun c st' hI=>?_)
 ·obtain⟨e,B',hu',ho⟩:=hI
  subst e;rw[show min k n=k by omega] at hu';have hks:lo+k<(arrOf st').size:=by rw[B'.size];omega
  refine wpS_bind (wpS_mono (wpS_forRange (I:=fun x c st2=>st2=st'/\∃l r,c=(none,l,r)/\l<=r/\r<=k/\r-l<=k-x/\(∀i,i<l->κ.kle (KK κ (arrOf st') (lo+i)) (KK κ (arrOf st') (lo+k)))/\∀i,r<=i->i<k->κ.kle (KK κ (arrOf st') (lo+k)) (KK κ (arrOf st') (lo+i))) (Q:=fun c st2=>st2=st'/\∃l r,c=(none,l,r)/\l<=k/\(∀i,i<l->κ.kle (KK κ (arrOf st') (lo+i)) (KK κ (arrOf st') (lo+k)))/\∀i,l<=i->i<k->κ.kle (KK κ (arrOf st') (lo+k)) (KK κ (arrOf st') (lo+i)))
   (fun x c st2 hx1 hx2 hI=>?_) (fun c st2 hI=>?_) ⟨rfl,0,k,rfl,by omega,by omega,by omega,fun i hi=>by omega,fun i g1 g2=>by omega⟩) fun c st2 hI=>?_)
  ·obtain⟨e1,l,r,e2,hlr,hrk,hm,hlo,hhi⟩:=hI
   subst e1 e2;dsimp only;by_cases hge:l>=r
   ·rw[if_pos hge]
    have:l=r:=by omega
    subst this;exact wpS_pure ⟨rfl,l,l,rfl,hrk,hlo,hhi⟩
   ·rw[if_neg hge]
    refine wpS_bind (yd6 C h0 B' (i:=lo+k) (j:=lo+(l+r) / 2) (by omega) (by omega) ?_);show wpS _ _ _ _ (if κ.blt (KK κ (arrOf st2) (lo+k)) (KK κ (arrOf st2) (lo+(l+r) / 2))=true then _ else _) _ _;cases hb:κ.blt (KK κ (arrOf st2) (lo+k)) (KK κ (arrOf st2) (lo+(l+r) / 2))
    ·rw[if_neg Am0]
     refine wpS_pure ⟨rfl,(l+r) / 2+1,r,rfl,by omega,by omega,by omega,fun i g1=>?_,hhi⟩;exact KeyOrd.kle_trans (hu' (lo+i) (lo+(l+r) / 2) (by omega) (by omega) (by omega)) hb
    ·rw[if_pos rfl]
     refine wpS_pure ⟨rfl,l,(l+r) / 2,rfl,by omega,by omega,by omega,hlo,fun i g1 g2=>?_⟩;exact KeyOrd.kle_trans (KeyOrd.kle_of_klt hb) (hu' (lo+(l+r) / 2) (lo+i) (by omega) (by omega) (by omega))
  ·obtain⟨e1,l,r,e2,hlr,hrk,hm,hlo,hhi⟩:=hI
   have:l=r:=by omega
   subst this;exact⟨e1,l,l,e2,hrk,hlo,hhi⟩
  ·obtain⟨e1,l,r,e2,hlk,hlo,hhi⟩:=hI
   subst e1 e2;show wpS _ _ _ _ (moveDown' (lo+k) (lo+l) >>= fun _=>pure (ForInStep.yield (none,()))) _ _;rw[moveDown'_eq];have ds:lo+k-(lo+l)<=lo+k:=by omega
   refine wpS_bind (wpS_modify (wpS_pure ⟨rfl,B'.arr (bubble_perm _ _ _),?_,ho.trans fun i hi=>?_⟩))
   ·rw[show min (k+1) n=k+1 by omega]
    intro i j g1 g2 g3;show κ.kle (KK κ (bubble (arrOf st2) (lo+k) (lo+k-(lo+l))) i) (KK κ (bubble (arrOf st2) (lo+k) (lo+k-(lo+l))) j);rw[wg8 hks ds,wg8 hks ds,show lo+k-(lo+k-(lo+l))=lo+l by omega];by_cases i1:i=lo+l
    ·rw[if_pos i1]
     by_cases j1:j=lo+l
     ·rw[if_pos j1];exact KeyOrd.kle_refl _
     ·rw[if_neg j1,if_pos ⟨by omega,by omega⟩]
      have:=hhi (j-1-lo) (by omega) (by omega);rwa [show lo+(j-1-lo)=j-1 by omega] at this
    ·rw[if_neg i1]
     by_cases i2:lo+l<i/\i<=lo+k
     ·rw[if_pos i2,if_neg (by omega),if_pos ⟨by omega,by omega⟩]
      exact hu' _ _ (by omega) (by omega) (by omega)
     ·rw[if_neg i2]
      by_cases j1:j=lo+l
      ·rw[if_pos j1]
       have:=hlo (i-lo) (by omega);rwa [show lo+(i-lo)=i by omega] at this
      ·rw[if_neg j1]
       by_cases j2:lo+l<j/\j<=lo+k
       ·rw[if_pos j2]
        exact hu' _ _ (by omega) (by omega) (by omega)
       ·rw[if_neg j2]
        exact hu' _ _ (by omega) (by omega) (by omega)
   ·show (bubble (arrOf st2) (lo+k) (lo+k-(lo+l)))[i]?=_
    rw[getElem?_bubble hks _ ds,if_neg (by omega),if_neg (by omega)]
 ·obtain⟨e,B',hu',ho⟩:=hI
  rw[show min (max (max ok 1) n) n=n by omega] at hu';exact⟨e,B',hu',ho⟩
 ·by_cases h1:ok=0
  ·exact Up.one (by omega)
  ·exact fun i j g1 g2 g3=>hu i j g1 g2 (by omega)
 ·obtain⟨e,B',hu',ho⟩:=hI
  subst e;exact wpS_pure (h st' B' hu' ho)
end
end Ts
end
section
namespace Ts
local macro_rules
 | `(tactic| omega)=>`(tactic| omega +splitDisjunctions)
open PySem PyProof.Rows
noncomputable abbrev SM:=StateT SortSt Sem
noncomputable def gal:Bool->Keyed->Array Keyed->Nat->Nat->Nat->SM (Option Nat):=sortPriv% PySem.Builtin.gallop
noncomputable def far (left:Bool) (key:Keyed) (arr:Array Keyed) (base i:Nat):SM (Option Bool):=do
 let x <-elem' arr (base+i)
 if left then lt' x key else return (<-lt' key x).map (!·)
noncomputable def wb2 (left:Bool) (key:Keyed) (arr:Array Keyed) (base n p0 q0:Nat):SM (Option Nat):=do
 let mut p:=p0
 let mut q:=q0
 for _ in [0:n] do
  if p>=q then break
  let m:=p+(q-p) / 2
  let some y <-far left key arr base m | return none
  if y then p:=m+1 else q:=m
 return some q
theorem wy8 (left:Bool) (key:Keyed) (arr:Array Keyed) (base n hint:Nat):gal left key arr base n hint=(do
 let mut u:=0
 let mut v:=1
 let some r <-far left key arr base hint | return none
 if r then
  for _ in [0:n] do
   if v>=n-hint then break
   let some y <-far left key arr base (hint+v) | return none
   if !y then break
   u:=v
   v:=2*v+1
  wb2 left key arr base n (hint+u+1) (hint+min v (n-hint))
 else
  for _ in [0:n] do
   if v>=hint+1 then break
   let some y <-far left key arr base (hint-v) | return none
   if y then break
   u:=v
   v:=2*v+1
  wb2 left key arr base n (hint+1-min v (hint+1)) (hint-u)):=rfl
section
variable {prog:Program} {w:World} {A:Around} {E:Value->Shared->Prop} {s:Shared} {κ:KeyKind} {knd:SortKind} {st:SortSt} {left:Bool} {key:Keyed} {arr:Array Keyed} {base n:Nat} {f:Nat->Bool}
structure Cut (prog:Program) (w:World) (A:Around) (E:Value->Shared->Prop) (s:Shared) (knd:SortKind) (left:Bool) (key:Keyed) (arr:Array Keyed) (base n:Nat) (f:Nat->Bool):Prop where
 far:∀(i:Nat) (st:SortSt) (Q:Option Bool->SortSt->Prop),i<n->kindOf st=knd->Q (some (f i)) st->wpS (model prog w) A E s (far left key arr base i) Q st
 mono:∀i j,i<=j->j<n->f j=true->f i=true
theorem xa6 (F:Cut prog w A E s knd left key arr base n f) (hk:kindOf st=knd) {p q:Nat} (hpq:p<=q) (hq:q<=n) (hp1:∀i,i<p->f i=true) (hq1:∀i,q<=i->i<n->f i=false) {Q:Option Nat->SortSt->Prop}
 (h:∀k,k<=n->(∀i,i<k->f i=true)->(∀i,k<=i->i<n->f i=false)->Q (some k) st):wpS (model prog w) A E s (wb2 left key arr base n p q) Q st:=by
 unfold wb2;refine wpS_bind (wpS_mono (wpS_forRange (I:=fun x c st'=>st'=st/\∃p q,c=(none,p,q)/\p<=q/\q<=n/\q-p<=n-x/\(∀i,i<p->f i=true)/\∀i,q<=i->i<n->f i=false) (Q:=fun c st'=>st'=st/\∃p,c=(none,p,p)/\p<=n/\(∀i,i<p->f i=true)/\∀i,p<=i->i<n->f i=false) (fun x c st' hx1 hx2 hI=>?_) (fun c st' hI=>?_) ⟨rfl,p,q,rfl,hpq,hq,by omega,hp1,hq1⟩) fun c st' hI=>?_)
 ·obtain⟨e1,p,q,e2,g1,g2,g3,g4,g5⟩:=hI
  subst e1 e2;dsimp only;by_cases hge:p>=q
  ·rw[if_pos hge]
   have:p=q:=by omega
   subst this;exact wpS_pure ⟨rfl,p,rfl,g2,g4,g5⟩
  ·rw[if_neg hge]
   refine wpS_bind (F.far _ _ _ (by omega) hk ?_);show wpS _ _ _ _ (if f (p+(q-p) / 2)=true then _ else _) _ _;cases hf:f (p+(q-p) / 2)
   ·rw[if_neg Am0]
    refine wpS_pure ⟨rfl,p,p+(q-p) / 2,rfl,by omega,by omega,by omega,g4,fun i k1 k2=>?_⟩;cases hi:f i
    ·rfl
    ·rw[F.mono _ i k1 k2 hi] at hf;cases hf
   ·rw[if_pos rfl]
    refine wpS_pure ⟨rfl,p+(q-p) / 2+1,q,rfl,by omega,by omega,by omega,fun i k1=>?_,g5⟩;exact F.mono i _ (by omega) (by omega) hf
 ·obtain⟨e1,p,q,e2,g1,g2,g3,g4,g5⟩:=hI
  have:p=q:=by omega
  subst this;exact⟨e1,p,e2,g2,g4,g5⟩
 ·obtain⟨e1,p,e2,g2,g4,g5⟩:=hI
  subst e1 e2;exact wpS_pure (h p g2 g4 g5)
theorem yi7 (F:Cut prog w A E s knd left key arr base n f) (hk:kindOf st=knd) {hint:Nat} (hh:hint<n) {Q:Option Nat->SortSt->Prop}
 (h:∀k,k<=n->(∀i,i<k->f i=true)->(∀i,k<=i->i<n->f i=false)->Q (some k) st):wpS (model prog w) A E s (gal left key arr base n hint) Q st:=by
 rw[wy8];have dn:∀i,i<n->f i=false->∀j,i<=j->j<n->f j=false:=fun i hi hf j h1 h2=>by
  cases hj:f j
  ·rfl
  ·rw[F.mono i j h1 h2 hj] at hf;cases hf
 refine wpS_bind (F.far hint _ _ hh hk ?_);dsimp only;cases hr:f hint
 ·rw[if_neg Am0]
  refine wpS_bind (wpS_mono (wpS_forRange (I:=fun x c st'=>st'=st/\∃u v,c=(none,u,v)/\u<=hint/\f (hint-u)=false/\u<v/\x<v) (Q:=fun c st'=>st'=st/\∃u v,c=(none,u,v)/\u<=hint/\f (hint-u)=false/\u<v/\(v>=hint+1\/f (hint-v)=true)) (fun x c st' hx1 hx2 hI=>?_) (fun c st' hI=>?_) ⟨rfl,0,1,rfl,by omega,hr,by omega,by omega⟩) fun c st' hI=>?_)
  ·obtain⟨e1,u,v,e2,g1,g2,g3,g4⟩:=hI
   subst e1 e2;dsimp only;by_cases hv:v>=hint+1
   ·rw[if_pos hv]
    exact wpS_pure ⟨rfl,u,v,rfl,g1,g2,g3,.inl hv⟩
   ·rw[if_neg hv]
    refine wpS_bind (F.far _ _ _ (by omega) hk ?_);show wpS _ _ _ _ (if f (hint-v)=true then _ else _) _ _;cases hf:f (hint-v)
    ·rw[if_neg Am0]
     exact wpS_pure ⟨rfl,v,2*v+1,rfl,by omega,hf,by omega,by omega⟩
    ·rw[if_pos rfl]
     exact wpS_pure ⟨rfl,u,v,rfl,g1,g2,g3,.inr hf⟩
  ·obtain⟨e1,u,v,e2,g1,g2,g3,g4⟩:=hI
   exact⟨e1,u,v,e2,g1,g2,g3,.inl (by omega)⟩
  ·obtain⟨e1,u,v,e2,g1,g2,g3,g4⟩:=hI
   subst e1 e2;refine xa6 F hk (p:=hint+1-min v (hint+1)) (q:=hint-u) (by omega) (by omega) (fun i hi=>?_) (fun i k1 k2=>dn _ (by omega) g2 i k1 k2) h;rcases g4 with g4 | g4
   ·omega
   ·exact F.mono i (hint-v) (by omega) (by omega) g4
 ·rw[if_pos rfl]
  refine wpS_bind (wpS_mono (wpS_forRange (I:=fun x c st'=>st'=st/\∃u v,c=(none,u,v)/\hint+u<n/\f (hint+u)=true/\u<v/\x<v) (Q:=fun c st'=>st'=st/\∃u v,c=(none,u,v)/\hint+u<n/\f (hint+u)=true/\u<v/\(v>=n-hint\/hint+v<n/\f (hint+v)=false)) (fun x c st' hx1 hx2 hI=>?_) (fun c st' hI=>?_) ⟨rfl,0,1,rfl,by omega,hr,by omega,by omega⟩) fun c st' hI=>?_)
  ·obtain⟨e1,u,v,e2,g1,g2,g3,g4⟩:=hI
   subst e1 e2;dsimp only;by_cases hv:v>=n-hint
   ·rw[if_pos hv]
    exact wpS_pure ⟨rfl,u,v,rfl,g1,g2,g3,.inl hv⟩
   ·rw[if_neg hv]
    refine wpS_bind (F.far _ _ _ (by omega) hk ?_);show wpS _ _ _ _ (if (!f (hint+v))=true then _ else _) _ _;cases hf:f (hint+v)
    ·rw[if_pos (show (!false)=true from rfl)]
     exact wpS_pure ⟨rfl,u,v,rfl,g1,g2,g3,.inr ⟨by omega,hf⟩⟩
    ·rw[if_neg (by decide)]
     exact wpS_pure ⟨rfl,v,2*v+1,rfl,by omega,hf,by omega,by omega⟩
  ·obtain⟨e1,u,v,e2,g1,g2,g3,g4⟩:=hI
   exact⟨e1,u,v,e2,g1,g2,g3,.inl (by omega)⟩
  ·obtain⟨e1,u,v,e2,g1,g2,g3,g4⟩:=hI
   subst e1 e2;refine xa6 F hk (p:=hint+u+1) (q:=hint+min v (n-hint)) (by omega) (by omega) (fun i hi=>F.mono i (hint+u) (by omega) g1 g2) (fun i k1 k2=>?_) h;rcases g4 with g4 | ⟨g4,g5⟩
   ·omega
   ·exact dn _ g4 g5 i (by omega) k2
end
end Ts
end
section
namespace Ts
open PySem PyProof.Rows
noncomputable def mlo:Array Keyed->Array Keyed->SM (Array Keyed):=sortPriv% PySem.Builtin.mergeLo
noncomputable def xw0 (g:Nat):SM Unit:=(sortPriv% PySem.Builtin.setMinGallop) g
noncomputable abbrev zp5 (a b out:Array Keyed) (ia ib:Nat):Array Keyed:=out++a.extract ia a.size++b.extract ib b.size
noncomputable abbrev yg2 (a b out:Array Keyed) (ia ib:Nat):Array Keyed:=out++b.extract ib b.size++a.extract ia a.size
theorem wx0 (a b:Array Keyed):mlo a b=(do
 rule "list.sort.merge-lo"
 let mut out:Array Keyed:=#[<-elem' b 0]
 let mut ia:=0
 let mut ib:=1
 if ib == b.size then return zp5 a b out ia ib
 if ia+1 == a.size then return yg2 a b out ia ib
 let mut mg:=gallopOf (<-get)
 for _ in [0:a.size+b.size] do
  let mut ca:=0
  let mut cb:=0
  for _ in [0:a.size+b.size] do
   let some y <-lt' (<-elem' b ib) (<-elem' a ia) | return zp5 a b out ia ib
   if y then
    out:=out.push (<-elem' b ib)
    ib:=ib+1
    cb:=cb+1
    ca:=0
    if ib == b.size then return zp5 a b out ia ib
    if cb>=mg then break
   else
    out:=out.push (<-elem' a ia)
    ia:=ia+1
    ca:=ca+1
    cb:=0
    if ia+1 == a.size then return yg2 a b out ia ib
    if ca>=mg then break
  rule "list.sort.gallop"
  mg:=mg+1
  for _ in [0:a.size+b.size] do
   if mg>1 then mg:=mg-1
   xw0 mg
   let some k <-gal false (<-elem' b ib) a ia (a.size-ia) 0 | return zp5 a b out ia ib
   ca:=k
   if k>0 then
    out:=out++a.extract ia (ia+k)
    ia:=ia+k
    if ia+1 == a.size then return yg2 a b out ia ib
    if ia == a.size then return zp5 a b out ia ib
   out:=out.push (<-elem' b ib)
   ib:=ib+1
   if ib == b.size then return zp5 a b out ia ib
   let some k <-gal true (<-elem' a ia) b ib (b.size-ib) 0 | return zp5 a b out ia ib
   cb:=k
   if k>0 then
    out:=out++b.extract ib (ib+k)
    ib:=ib+k
    if ib == b.size then return zp5 a b out ia ib
   out:=out.push (<-elem' a ia)
   ia:=ia+1
   if ia+1 == a.size then return yg2 a b out ia ib
   if ca<7&&cb<7 then break
  mg:=mg+1
  xw0 mg
 unsupported "internal:list.sort.merge-bound"):=rfl
end Ts
end
section
namespace Ts
open PySem PyProof.Rows
section
variable {κ:KeyKind} {a b:Array Keyed} {out:List Keyed} {ia ib:Nat}
noncomputable abbrev le (κ:KeyKind) (x y:Keyed):Prop:=κ.kle (ky κ x) (ky κ y)
theorem zk8 {xs:Array Keyed} {i:Nat} (h:i<xs.size):KK κ xs i=ky κ xs[i]:=by
 unfold KK ky;rw[Bd0 h]
structure Mg (κ:KeyKind) (a b:Array Keyed) (out:List Keyed) (ia ib:Nat):Prop where
 perm:(out++(a.toList.drop ia++b.toList.drop ib)).Perm (a.toList++b.toList)
 up:out.Pairwise (le κ)
 la:∀x∈out,∀i,ia<=i->i<a.size->κ.kle (ky κ x) (KK κ a i)
 lb:∀x∈out,∀i,ib<=i->i<b.size->κ.kle (ky κ x) (KK κ b i)
theorem yn7 {xs:Array Keyed} {i:Nat} (h:i<xs.size):xs.toList.drop i=xs[i]::xs.toList.drop (i+1):=by
 rw[List.drop_eq_getElem_cons (by simpa using h)];simp
theorem yw2 {x:Keyed} (hu:out.Pairwise (le κ)) (h:∀z∈out,le κ z x):(out++[x]).Pairwise (le κ):=
 Bg0.mpr ⟨hu,List.pairwise_singleton _ _,fun z hz y hy=>by rw[Ap0.mp hy];exact h z hz⟩
theorem Mg.pushA (m:Mg κ a b out ia ib) (ua:Up κ a 0 a.size) (hi:ia<a.size) (h:∀j,ib<=j->j<b.size->κ.kle (KK κ a ia) (KK κ b j)):Mg κ a b (out++[a[ia]]) (ia+1) ib:=by
 refine⟨?_,yw2 m.up fun z hz=>?_,fun x hx i h1 h2=>?_,fun x hx i h1 h2=>?_⟩
 ·have:=m.perm
  rw[yn7 hi] at this;simpa [Aq0] using this
 ·have:=m.la z hz ia (Ac0 _) hi
  rwa [zk8 hi] at this
 ·rcases As0.mp hx with hx | hx
  ·exact m.la x hx i (by omega) h2
  ·rw[Ap0.mp hx,<-zk8 hi]
   exact ua ia i (Ak0 _) (by omega) h2
 ·rcases As0.mp hx with hx | hx
  ·exact m.lb x hx i h1 h2
  ·rw[Ap0.mp hx,<-zk8 hi]
   exact h i h1 h2
theorem Mg.pushB (m:Mg κ a b out ia ib) (ub:Up κ b 0 b.size) (hi:ib<b.size) (h:∀j,ia<=j->j<a.size->κ.kle (KK κ b ib) (KK κ a j)):Mg κ a b (out++[b[ib]]) ia (ib+1):=by
 refine⟨?_,yw2 m.up fun z hz=>?_,fun x hx i h1 h2=>?_,fun x hx i h1 h2=>?_⟩
 ·have:=m.perm
  rw[yn7 hi] at this;refine List.Perm.trans ?_ this;rw[Aq0];exact List.Perm.append_left _ (show (b[ib]::(a.toList.drop ia++b.toList.drop (ib+1))).Perm _ from List.perm_middle.symm)
 ·have:=m.lb z hz ib (Ac0 _) hi
  rwa [zk8 hi] at this
 ·rcases As0.mp hx with hx | hx
  ·exact m.la x hx i h1 h2
  ·rw[Ap0.mp hx,<-zk8 hi]
   exact h i h1 h2
 ·rcases As0.mp hx with hx | hx
  ·exact m.lb x hx i (by omega) h2
  ·rw[Ap0.mp hx,<-zk8 hi]
   exact ub ib i (Ak0 _) (by omega) h2
theorem xl5 {xs:Array Keyed} {i k:Nat} (h:i+k<xs.size):(xs.toList.drop i).take (k+1)=(xs.toList.drop i).take k++[xs[i+k]]:=by
 rw[Bm0,List.getElem?_drop];simp[Bd0 h]
theorem Mg.takeA (m:Mg κ a b out ia ib) (ua:Up κ a 0 a.size):∀k,ia+k<=a.size->(∀i,i<k->∀j,ib<=j->j<b.size->κ.kle (KK κ a (ia+i)) (KK κ b j))->Mg κ a b (out++(a.toList.drop ia).take k) (ia+k) ib
 | 0,_,_=>by simpa using m
 | k+1,hk,h=>by
   have ih:=Mg.takeA m ua k (by omega) fun i hi=>h i (by omega)
   have:=ih.pushA ua (by omega) (h k (by omega));rw[xl5 (by omega),<-Aq0];exact this
theorem Mg.takeB (m:Mg κ a b out ia ib) (ub:Up κ b 0 b.size):∀k,ib+k<=b.size->(∀i,i<k->∀j,ia<=j->j<a.size->κ.kle (KK κ b (ib+i)) (KK κ a j))->Mg κ a b (out++(b.toList.drop ib).take k) ia (ib+k)
 | 0,_,_=>by simpa using m
 | k+1,hk,h=>by
   have ih:=Mg.takeB m ub k (by omega) fun i hi=>h i (by omega)
   have:=ih.pushB ub (by omega) (h k (by omega));rw[xl5 (by omega),<-Aq0];exact this
noncomputable def yh4 (κ:KeyKind) (a b:Array Keyed) (r:List Keyed):Prop:=r.Perm (a.toList++b.toList)/\r.Pairwise (le κ)
theorem yl5 {xs:Array Keyed} {i:Nat} (u:Up κ xs 0 xs.size):(xs.toList.drop i).Pairwise (le κ):=by
 rw[List.pairwise_iff_getElem];intro p q hp hq hpq;rw[List.length_drop,Bi0] at hp hq;have:=u (i+p) (i+q) (Ak0 _) (by omega) (by omega);rw[zk8 (by omega),zk8 (by omega)] at this;simpa [List.getElem_drop] using this
theorem zt8 {xs:Array Keyed} {i:Nat} {x:Keyed} (h:x∈xs.toList.drop i):∃j,i<=j/\j<xs.size/\ky κ x=KK κ xs j:=by
 obtain⟨j,hj,e⟩:=List.getElem_of_mem h;rw[List.length_drop,Bi0] at hj;refine⟨i+j,by omega,by omega,?_⟩;rw[zk8 (by omega),<-e];simp[List.getElem_drop]
theorem Mg.doneB (m:Mg κ a b out ia ib) (ua:Up κ a 0 a.size) (h:b.size<=ib):yh4 κ a b (out++a.toList.drop ia++b.toList.drop ib):=by
 have hb:b.toList.drop ib=[]:=List.drop_eq_nil_of_le (by simpa using h);refine⟨by rw[Aq0];exact m.perm,?_⟩;rw[hb,Bj0];refine Bg0.mpr ⟨m.up,yl5 ua,fun x hx y hy=>?_⟩;obtain⟨j,h1,h2,e⟩:=zt8 (κ:=κ) hy;show κ.kle (ky κ x) (ky κ y);rw[e];exact m.la x hx j h1 h2
theorem Mg.doneA (m:Mg κ a b out ia ib) (ub:Up κ b 0 b.size) (h:a.size<=ia):yh4 κ a b (out++a.toList.drop ia++b.toList.drop ib):=by
 have ha:a.toList.drop ia=[]:=List.drop_eq_nil_of_le (by simpa using h);refine⟨by rw[Aq0];exact m.perm,?_⟩;rw[ha,Bj0];refine Bg0.mpr ⟨m.up,yl5 ub,fun x hx y hy=>?_⟩;obtain⟨j,h1,h2,e⟩:=zt8 (κ:=κ) hy;show κ.kle (ky κ x) (ky κ y);rw[e];exact m.lb x hx j h1 h2
theorem Mg.last (m:Mg κ a b out ia ib) (ub:Up κ b 0 b.size) (h:ia+1=a.size) (hl:∀j,j<b.size->κ.kle (KK κ b j) (KK κ a ia)):yh4 κ a b (out++b.toList.drop ib++a.toList.drop ia):=by
 have ha:a.toList.drop ia=[a[ia]]:=by rw[yn7 (by omega),List.drop_eq_nil_of_le (by simp;omega)]
 refine⟨?_,?_⟩
 ·refine List.Perm.trans ?_ m.perm
  rw[Aq0];exact List.Perm.append_left _ List.perm_append_comm
 ·rw[ha]
  refine yw2 (Bg0.mpr ⟨m.up,yl5 ub,fun x hx y hy=>?_⟩) fun z hz=>?_
  ·obtain⟨j,h1,h2,e⟩:=zt8 (κ:=κ) hy
   show κ.kle (ky κ x) (ky κ y);rw[e];exact m.lb x hx j h1 h2
  ·show κ.kle (ky κ z) (ky κ a[ia])
   rw[<-zk8 (by omega)];rcases As0.mp hz with hz | hz
   ·exact m.la z hz ia (Ac0 _) (by omega)
   ·obtain⟨j,h1,h2,e⟩:=zt8 (κ:=κ) hz
    rw[e];exact hl j h2
end
end Ts
end
section
namespace Ts
open PySem PyProof.Rows
section
variable {prog:Program} {w:World} {A:Around} {E:Value->Shared->Prop} {s:Shared} {κ:KeyKind} {knd:SortKind} {st:SortSt} {a b:Array Keyed}
structure zz9 (st st':SortSt):Prop where
 arr:arrOf st'=arrOf st
 pend:pendingOf st'=pendingOf st
 fail:failedOf st'=failedOf st
 kind:kindOf st'=kindOf st
theorem zz9.refl:zz9 st st:=⟨rfl,rfl,rfl,rfl⟩
theorem wn2 (g:Nat):xw0 g=modify fun s=>SortSt.mk' (kindOf s) (arrOf s) (pendingOf s) g (failedOf s):=rfl
theorem yl2 {st0:SortSt} {g:Nat} {Q:Unit->SortSt->Prop} (l:zz9 st0 st) (h:∀st',zz9 st0 st'->Q () st'):wpS (model prog w) A E s (xw0 g) Q st:=by
 rw[wn2];exact wpS_modify (h _ ⟨l.arr,l.pend,l.fail,l.kind⟩)
theorem ze2 {xs:Array Keyed} {i:Nat} (h:i<xs.size) {Q:Keyed->SortSt->Prop} (hq:Q xs[i] st):wpS (model prog w) A E s (elem' xs i) Q st:=by
 rw[elem'_eq,Bd0 h];exact wpS_pure hq
theorem yi5 (C:Cmp prog w A E s κ knd) (hk:kindOf st=knd) (ka:KeysOf κ a) (kb:KeysOf κ b) {i j:Nat} (hi:i<a.size) (hj:j<b.size) {Q:Option Bool->SortSt->Prop} (h:Q (some (κ.blt (KK κ a i) (KK κ b j))) st) :
 wpS (model prog w) A E s (lt' a[i] b[j]) Q st:=by
 obtain⟨x,hx⟩:=ka a[i] (Array.getElem_mem_toList hi);obtain⟨y,hy⟩:=kb b[j] (Array.getElem_mem_toList hj);refine C st _ _ x y Q hk hx hy ?_;rw[zk8 hi,zk8 hj] at h;unfold ky at h;rw[hx,hy] at h;exact h
theorem vk4 (C:Cmp prog w A E s κ knd) (ka:KeysOf κ a) (kb:KeysOf κ b) (ua:Up κ a 0 a.size) {base n j:Nat} (hn:base+n<=a.size) (hj:j<b.size):Cut prog w A E s knd false b[j] a base n (fun i=>!κ.blt (KK κ b j) (KK κ a (base+i))) where
 far:=fun i st Q hi hk h=>by
  unfold far;refine wpS_bind (ze2 (by omega) ?_);show wpS _ _ _ _ (lt' b[j] a[base+i] >>= fun x=>pure (x.map (!·))) Q st;exact wpS_bind (yi5 C hk kb ka hj (by omega) (wpS_pure h))
 mono:=fun i k h1 h2 h=>by
  have h:κ.blt (KK κ b j) (KK κ a (base+k))=false:=by simpa using h
  have:=KeyOrd.kle_trans (ua (base+i) (base+k) (Ak0 _) (by omega) (by omega)) h;have:κ.blt (KK κ b j) (KK κ a (base+i))=false:=this;simp[this]
theorem vk5 (C:Cmp prog w A E s κ knd) (ka:KeysOf κ a) (kb:KeysOf κ b) (ub:Up κ b 0 b.size) {base n i:Nat} (hn:base+n<=b.size) (hi:i<a.size):Cut prog w A E s knd true a[i] b base n (fun k=>κ.blt (KK κ b (base+k)) (KK κ a i)) where
 far:=fun k st Q hk2 hk h=>by
  unfold far;refine wpS_bind (ze2 (by omega) ?_);show wpS _ _ _ _ (lt' b[base+k] a[i]) Q st;exact yi5 C hk kb ka (by omega) hi h
 mono:=fun p q h1 h2 h=>KeyOrd.klt_of_kle_of_klt (ub (base+p) (base+q) (Ak0 _) (by omega) (by omega)) h
theorem zh9 {xs:Array Keyed} {i j:Nat} (h:j<=xs.size):(xs.extract i j).toList=(xs.toList.drop i).take (j-i):=by
 simp[Array.toList_extract,List.extract_eq_drop_take]
structure Mid (κ:KeyKind) (a b:Array Keyed) (st:SortSt) (out:Array Keyed) (ia ib:Nat) (st':SortSt) (lo:Nat):Prop where
 m:Mg κ a b out.toList ia ib
 ha:ia+1<a.size
 hb:ib<b.size
 like:zz9 st st'
 far:lo<=ia+ib
theorem Mid.le {st:SortSt} {out:Array Keyed} {ia ib lo lo2:Nat} {st':SortSt} (M:Mid κ a b st out ia ib st' lo) (h:lo2<=lo):Mid κ a b st out ia ib st' lo2:=⟨M.m,M.ha,M.hb,M.like,Be0 h M.far⟩
structure Two (prog:Program) (w:World) (A:Around) (E:Value->Shared->Prop) (s:Shared) (κ:KeyKind) (knd:SortKind) (a b:Array Keyed) (st:SortSt):Prop where
 C:Cmp prog w A E s κ knd
 ka:KeysOf κ a
 kb:KeysOf κ b
 ua:Up κ a 0 a.size
 ub:Up κ b 0 b.size
 hl:∀j,j<b.size->κ.kle (KK κ b j) (KK κ a (a.size-1))
 hk:kindOf st=knd
noncomputable abbrev xf5 (κ:KeyKind) (a b:Array Keyed) (st:SortSt) (r:Array Keyed) (st':SortSt):Prop:=zz9 st st'/\yh4 κ a b r.toList
theorem yu0 (out:Array Keyed) (ia ib:Nat):(zp5 a b out ia ib).toList=out.toList++a.toList.drop ia++b.toList.drop ib:=by
 unfold zp5;rw[Bf0,Bf0,zh9 (Ac0 _),zh9 (Ac0 _),Bt0 (by simp),Bt0 (by simp)]
theorem xq3 (out:Array Keyed) (ia ib:Nat):(yg2 a b out ia ib).toList=out.toList++b.toList.drop ib++a.toList.drop ia:=by
 unfold yg2;rw[Bf0,Bf0,zh9 (Ac0 _),zh9 (Ac0 _),Bt0 (by simp),Bt0 (by simp)]
section
variable {out:Array Keyed} {ia ib lo:Nat} {st':SortSt} (T:Two prog w A E s κ knd a b st)
include T
theorem Two.dB (m:Mg κ a b out.toList ia ib) (h:b.size<=ib) (l:zz9 st st'):xf5 κ a b st (zp5 a b out ia ib) st':=⟨l,by rw[yu0];exact m.doneB T.ua h⟩
theorem Two.dA (m:Mg κ a b out.toList ia ib) (h:a.size<=ia) (l:zz9 st st'):xf5 κ a b st (zp5 a b out ia ib) st':=⟨l,by rw[yu0];exact m.doneA T.ub h⟩
theorem Two.dL (m:Mg κ a b out.toList ia ib) (h:ia+1=a.size) (l:zz9 st st'):xf5 κ a b st (yg2 a b out ia ib) st':=⟨l,by rw[xq3];exact m.last T.ub h (by rw[show ia=a.size-1 by omega];exact T.hl)⟩
theorem Two.kind (l:zz9 st st'):kindOf st'=knd:=l.kind.trans T.hk
end
noncomputable abbrev S6:=Option (Array Keyed)×Array Keyed×Nat×Nat×Nat×Nat
noncomputable abbrev S7:=Option (Array Keyed)×Array Keyed×Nat×Nat×Nat×Nat×Nat
noncomputable def vb9 (a b:Array Keyed) (mg:Nat) (c:S6):SM S6:=forIn [0:a.size+b.size] c fun _ r=>do
 let y <-elem' b r.2.2.2.1
 let x <-elem' a r.2.2.1
 let z <-lt' y x
 match z with
 | some t=>
   if t=true then do
    let y <-elem' b r.2.2.2.1
    if (r.2.2.2.1+1 == b.size)=true then pure (ForInStep.done (some (zp5 a b (r.2.1.push y) r.2.2.1 (r.2.2.2.1+1)),r.2.1.push y,r.2.2.1,r.2.2.2.1+1,0,r.2.2.2.2.2+1))
    else if r.2.2.2.2.2+1>=mg then pure (ForInStep.done (none,r.2.1.push y,r.2.2.1,r.2.2.2.1+1,0,r.2.2.2.2.2+1)) else pure (ForInStep.yield (none,r.2.1.push y,r.2.2.1,r.2.2.2.1+1,0,r.2.2.2.2.2+1))
   else do
    let x <-elem' a r.2.2.1
    if (r.2.2.1+1+1 == a.size)=true then pure (ForInStep.done (some (yg2 a b (r.2.1.push x) (r.2.2.1+1) r.2.2.2.1),r.2.1.push x,r.2.2.1+1,r.2.2.2.1,r.2.2.2.2.1+1,0))
    else if r.2.2.2.2.1+1>=mg then pure (ForInStep.done (none,r.2.1.push x,r.2.2.1+1,r.2.2.2.1,r.2.2.2.2.1+1,0)) else pure (ForInStep.yield (none,r.2.1.push x,r.2.2.1+1,r.2.2.2.1,r.2.2.2.2.1+1,0))
 | _=>pure (ForInStep.done (some (zp5 a b r.2.1 r.2.2.1 r.2.2.2.1),r.2.1,r.2.2.1,r.2.2.2.1,r.2.2.2.2.1,r.2.2.2.2.2))
theorem wh5 (T:Two prog w A E s κ knd a b st) {out:Array Keyed} {ia ib lo mg ca cb:Nat} {st':SortSt} (M:Mid κ a b st out ia ib st' lo) {Q:S6->SortSt->Prop}
 (hr:∀r z st2,xf5 κ a b st r st2->Q (some r,z) st2) (hn:∀out ia ib ca cb st2,Mid κ a b st out ia ib st2 (lo+1)->Q (none,out,ia,ib,ca,cb) st2) :
 wpS (model prog w) A E s (vb9 a b mg (none,out,ia,ib,ca,cb)) Q st':=by
 unfold vb9;refine wpS_forRange (I:=fun y c st2=>∃out ia ib ca cb,c=(none,out,ia,ib,ca,cb)/\Mid κ a b st out ia ib st2 (lo+y)) (fun y c st2 hy1 hy2 hI=>?_) (fun c st2 hI=>?_) ⟨out,ia,ib,ca,cb,rfl,M⟩
 ·obtain⟨out,ia,ib,ca,cb,e,M⟩:=hI
  subst e;have i1:=M.ha;have i2:=M.hb;have i3:=M.far;refine wpS_bind (ze2 i2 (wpS_bind (ze2 (show ia<a.size by omega) (wpS_bind (yi5 T.C (T.kind M.like) T.kb T.ka i2 (by omega) ?_)))));show wpS _ _ _ _ (if κ.blt (KK κ b ib) (KK κ a ia)=true then _ else _) _ _;cases hb:κ.blt (KK κ b ib) (KK κ a ia)
  ·rw[if_neg Am0]
   refine wpS_bind (ze2 (show ia<a.size by omega) ?_);have m2:Mg κ a b (out.push a[ia]).toList (ia+1) ib:=by
    rw[Array.toList_push];exact M.m.pushA T.ua (by omega) fun j g1 g2=>KeyOrd.kle_trans hb (T.ub ib j (Ak0 _) g1 g2)
   show wpS _ _ _ _ (if (ia+1+1 == a.size)=true then _ else _) _ _;by_cases h1:ia+1+1=a.size
   ·rw[if_pos (beq_iff_eq.mpr h1)]
    exact wpS_pure (hr _ _ _ (T.dL m2 h1 M.like))
   ·rw[if_neg (fun z=>h1 (beq_iff_eq.mp z))]
    show wpS _ _ _ _ (if ca+1>=mg then _ else _) _ _;have M2:Mid κ a b st (out.push a[ia]) (ia+1) ib st2 (lo+(y+1)):=⟨m2,by omega,i2,M.like,by omega⟩;by_cases h2:ca+1>=mg
    ·rw[if_pos h2]
     exact wpS_pure (hn _ _ _ _ _ _ (M2.le (by omega)))
    ·rw[if_neg h2]
     exact wpS_pure ⟨_,_,_,_,_,rfl,M2⟩
  ·rw[if_pos rfl]
   refine wpS_bind (ze2 i2 ?_);have m2:Mg κ a b (out.push b[ib]).toList ia (ib+1):=by
    rw[Array.toList_push];exact M.m.pushB T.ub i2 fun j g1 g2=>KeyOrd.kle_trans (KeyOrd.kle_of_klt hb) (T.ua ia j (Ak0 _) g1 g2)
   show wpS _ _ _ _ (if (ib+1 == b.size)=true then _ else _) _ _;by_cases h1:ib+1=b.size
   ·rw[if_pos (beq_iff_eq.mpr h1)]
    exact wpS_pure (hr _ _ _ (T.dB m2 (show b.size<=ib+1 by omega) M.like))
   ·rw[if_neg (fun z=>h1 (beq_iff_eq.mp z))]
    show wpS _ _ _ _ (if cb+1>=mg then _ else _) _ _;have M2:Mid κ a b st (out.push b[ib]) ia (ib+1) st2 (lo+(y+1)):=⟨m2,i1,by omega,M.like,by omega⟩;by_cases h2:cb+1>=mg
    ·rw[if_pos h2]
     exact wpS_pure (hn _ _ _ _ _ _ (M2.le (by omega)))
    ·rw[if_neg h2]
     exact wpS_pure ⟨_,_,_,_,_,rfl,M2⟩
 ·obtain⟨out,ia,ib,ca,cb,e,M⟩:=hI
  have:=M.ha;have:=M.hb;have:=M.far;omega
noncomputable def Gq (κ:KeyKind) (a b:Array Keyed) (st:SortSt) (lo:Nat) (r:ForInStep S7) (st':SortSt):Prop:=
 match r with
 | .done c=>(∃q z,c=(some q,z)/\xf5 κ a b st q st')\/∃out ia ib mg ca cb,c=(none,out,ia,ib,mg,ca,cb)/\Mid κ a b st out ia ib st' lo
 | .yield c=>∃out ia ib mg ca cb,c=(none,out,ia,ib,mg,ca,cb)/\Mid κ a b st out ia ib st' lo
noncomputable def G3 (a b out:Array Keyed) (ia ib mg ca cb:Nat):SM (ForInStep S7):=do
 let x <-elem' a ia
 if (ia+1+1 == a.size)=true then pure (ForInStep.done ((some (yg2 a b (out.push x) (ia+1) ib),out.push x,ia+1,ib,mg,ca,cb):S7))
 else if (decide (ca<7)&&decide (cb<7))=true then pure (ForInStep.done ((none,out.push x,ia+1,ib,mg,ca,cb):S7)) else pure (ForInStep.yield ((none,out.push x,ia+1,ib,mg,ca,cb):S7))
theorem ws8 (T:Two prog w A E s κ knd a b st) {out:Array Keyed} {ia ib lo mg ca cb:Nat} {st':SortSt} (m:Mg κ a b out.toList ia ib) (i1:ia+1<a.size) (i2:ib<b.size) (l:zz9 st st') (hlo:lo<=ia+ib+1) (hb:κ.blt (KK κ b ib) (KK κ a ia)=false) :
 wpS (model prog w) A E s (G3 a b out ia ib mg ca cb) (Gq κ a b st lo) st':=by
 unfold G3;refine wpS_bind (ze2 (show ia<a.size by omega) ?_);have m2:Mg κ a b (out.push a[ia]).toList (ia+1) ib:=by
  rw[Array.toList_push];exact m.pushA T.ua (by omega) fun j g1 g2=>KeyOrd.kle_trans hb (T.ub ib j (Ak0 _) g1 g2)
 by_cases h1:ia+1+1=a.size
 ·rw[if_pos (beq_iff_eq.mpr h1)]
  exact wpS_pure (.inl ⟨_,_,rfl,T.dL m2 h1 l⟩)
 ·rw[if_neg (fun z=>h1 (beq_iff_eq.mp z))]
  have M2:Mid κ a b st (out.push a[ia]) (ia+1) ib st' lo:=⟨m2,by omega,i2,l,by omega⟩;split
  ·exact wpS_pure (.inr ⟨_,_,_,_,_,_,rfl,M2⟩)
  ·exact wpS_pure ⟨_,_,_,_,_,_,rfl,M2⟩
noncomputable def G2 (a b out:Array Keyed) (ia ib mg ca cb:Nat):SM (ForInStep S7):=do
 let y <-elem' b ib
 if (ib+1 == b.size)=true then pure (ForInStep.done ((some (zp5 a b (out.push y) ia (ib+1)),out.push y,ia,ib+1,mg,ca,cb):S7))
 else do
  let x <-elem' a ia
  let k <-gal true x b (ib+1) (b.size-(ib+1)) 0
  match k with
  | some k=>
    if k>0 then
     if (ib+1+k == b.size)=true then pure (ForInStep.done ((some (zp5 a b (out.push y++b.extract (ib+1) (ib+1+k)) ia (ib+1+k)),out.push y++b.extract (ib+1) (ib+1+k),ia,ib+1+k,mg,ca,k):S7))
     else G3 a b (out.push y++b.extract (ib+1) (ib+1+k)) ia (ib+1+k) mg ca k
    else G3 a b (out.push y) ia (ib+1) mg ca k
  | _=>pure (ForInStep.done ((some (zp5 a b (out.push y) ia (ib+1)),out.push y,ia,ib+1,mg,ca,cb):S7))
theorem ws9 (T:Two prog w A E s κ knd a b st) {out:Array Keyed} {ia ib lo mg ca cb:Nat} {st':SortSt} (m:Mg κ a b out.toList ia ib) (i1:ia+1<a.size) (i2:ib<b.size) (l:zz9 st st') (hlo:lo<=ia+ib+1) (hb:∀j,ia<=j->j<a.size->κ.kle (KK κ b ib) (KK κ a j)) :
 wpS (model prog w) A E s (G2 a b out ia ib mg ca cb) (Gq κ a b st lo) st':=by
 unfold G2;refine wpS_bind (ze2 i2 ?_);have m2:Mg κ a b (out.push b[ib]).toList ia (ib+1):=by
  rw[Array.toList_push];exact m.pushB T.ub i2 hb
 by_cases h1:ib+1=b.size
 ·rw[if_pos (beq_iff_eq.mpr h1)]
  exact wpS_pure (.inl ⟨_,_,rfl,T.dB m2 (by omega) l⟩)
 rw[if_neg (fun z=>h1 (beq_iff_eq.mp z))];refine wpS_bind (ze2 (show ia<a.size by omega) (wpS_bind (yi7 (vk5 T.C T.ka T.kb T.ub (by omega) (by omega)) (T.kind l) (by omega) fun k hk hlt hge=>?_)));show wpS _ _ _ _ (if k>0 then _ else _) _ _;by_cases hk0:k>0
 ·rw[if_pos hk0]
  have m3:Mg κ a b (out.push b[ib]++b.extract (ib+1) (ib+1+k)).toList ia (ib+1+k):=by
   rw[Bf0,zh9 (by omega),show ib+1+k-(ib+1)=k by omega];exact m2.takeB T.ub k (by omega) fun i hi j g1 g2=>KeyOrd.kle_trans (KeyOrd.kle_of_klt (hlt i hi)) (T.ua ia j (Ak0 _) g1 g2)
  by_cases h2:ib+1+k=b.size
  ·rw[if_pos (beq_iff_eq.mpr h2)]
   exact wpS_pure (.inl ⟨_,_,rfl,T.dB m3 (by omega) l⟩)
  ·rw[if_neg (fun z=>h2 (beq_iff_eq.mp z))]
   exact ws8 T m3 i1 (by omega) l (by omega) (hge k (Ac0 _) (by omega))
 ·rw[if_neg hk0]
  have hk00:k=0:=by omega
  subst hk00;exact ws8 T m2 i1 (by omega) l (by omega) (hge 0 (Ac0 _) (by omega))
noncomputable def G1 (a b out:Array Keyed) (ia ib mg ca cb:Nat):SM (ForInStep S7):=do
 xw0 mg
 let y <-elem' b ib
 let k <-gal false y a ia (a.size-ia) 0
 match k with
 | some k=>
   if k>0 then
    if (ia+k+1 == a.size)=true then pure (ForInStep.done ((some (yg2 a b (out++a.extract ia (ia+k)) (ia+k) ib),out++a.extract ia (ia+k),ia+k,ib,mg,k,cb):S7))
    else if (ia+k == a.size)=true then pure (ForInStep.done ((some (zp5 a b (out++a.extract ia (ia+k)) (ia+k) ib),out++a.extract ia (ia+k),ia+k,ib,mg,k,cb):S7))
    else G2 a b (out++a.extract ia (ia+k)) (ia+k) ib mg k cb
   else G2 a b out ia ib mg k cb
 | _=>pure (ForInStep.done ((some (zp5 a b out ia ib),out,ia,ib,mg,ca,cb):S7))
theorem vd3 (T:Two prog w A E s κ knd a b st) {out:Array Keyed} {ia ib lo mg ca cb:Nat} {st':SortSt} (M:Mid κ a b st out ia ib st' lo):wpS (model prog w) A E s (G1 a b out ia ib mg ca cb) (Gq κ a b st (lo+1)) st':=by
 unfold G1;have i1:=M.ha;have i2:=M.hb;have i3:=M.far;refine wpS_bind (yl2 M.like fun st2 l=>?_);refine wpS_bind (ze2 i2 (wpS_bind (yi7 (vk4 T.C T.ka T.kb T.ua (by omega) i2) (T.kind l) (by omega) fun k hk hlt hge=>?_)));show wpS _ _ _ _ (if k>0 then _ else _) _ _;have ab:∀j,ia+k<=j->j<a.size->κ.kle (KK κ b ib) (KK κ a j):=fun j g1 g2=>by
  have:=hge (j-ia) (by omega) (by omega);rw[show ia+(j-ia)=j by omega] at this;exact KeyOrd.kle_of_klt (show κ.blt (KK κ b ib) (KK κ a j)=true by simpa using this)
 by_cases hk0:k>0
 ·rw[if_pos hk0]
  have m3:Mg κ a b (out++a.extract ia (ia+k)).toList (ia+k) ib:=by
   rw[Bf0,zh9 (by omega),show ia+k-ia=k by omega];refine M.m.takeA T.ua k (by omega) fun i hi j g1 g2=>?_
   have:=hlt i hi;exact KeyOrd.kle_trans (show κ.blt (KK κ b ib) (KK κ a (ia+i))=false by simpa using this) (T.ub ib j (Ak0 _) g1 g2)
  by_cases h1:ia+k+1=a.size
  ·rw[if_pos (beq_iff_eq.mpr h1)]
   exact wpS_pure (.inl ⟨_,_,rfl,T.dL m3 h1 l⟩)
  rw[if_neg (fun z=>h1 (beq_iff_eq.mp z))];by_cases h2:ia+k=a.size
  ·rw[if_pos (beq_iff_eq.mpr h2)]
   exact wpS_pure (.inl ⟨_,_,rfl,T.dA m3 (by omega) l⟩)
  rw[if_neg (fun z=>h2 (beq_iff_eq.mp z))];exact ws9 T m3 (by omega) i2 l (by omega) ab
 ·rw[if_neg hk0]
  have hk00:k=0:=by omega
  subst hk00;exact ws9 T M.m i1 i2 l (by omega) ab
noncomputable def vc4 (a b:Array Keyed) (c:S7):SM S7:=forIn [0:a.size+b.size] c fun _ r=>
 if r.2.2.2.2.1>1 then G1 a b r.2.1 r.2.2.1 r.2.2.2.1 (r.2.2.2.2.1-1) r.2.2.2.2.2.1 r.2.2.2.2.2.2 else G1 a b r.2.1 r.2.2.1 r.2.2.2.1 r.2.2.2.2.1 r.2.2.2.2.2.1 r.2.2.2.2.2.2
noncomputable abbrev S5:=Option (Array Keyed)×Array Keyed×Nat×Nat×Nat
noncomputable def wi4 (a b:Array Keyed) (r:S5):SM (ForInStep S5):=do
 let c <-vb9 a b r.2.2.2.2 (none,r.2.1,r.2.2.1,r.2.2.2.1,0,0)
 match c.1 with
 | some q=>pure (ForInStep.done (some q,c.2.1,c.2.2.1,c.2.2.2.1,r.2.2.2.2))
 | none=>do
   rule "list.sort.gallop"
   let d <-vc4 a b (none,c.2.1,c.2.2.1,c.2.2.2.1,r.2.2.2.2+1,c.2.2.2.2.1,c.2.2.2.2.2)
   match d.1 with
   | some q=>pure (ForInStep.done (some q,d.2.1,d.2.2.1,d.2.2.2.1,d.2.2.2.2.1))
   | none=>do
     xw0 (d.2.2.2.2.1+1)
     pure (ForInStep.yield (none,d.2.1,d.2.2.1,d.2.2.2.1,d.2.2.2.2.1+1))
noncomputable def vn2 (c:S5):SM (Array Keyed):=match c.1 with
 | some q=>pure q
 | none=>unsupported "internal:list.sort.merge-bound"
set_option tactic.hygienic true in
theorem wn0 (a b:Array Keyed):mlo a b=(do
 rule "list.sort.merge-lo"
 let y <-elem' b 0
 if (1 == b.size)=true then pure (zp5 a b #[y] 0 1)
 else if (0+1 == a.size)=true then pure (yg2 a b #[y] 0 1)
 else do
  let st <-get
  let c <-forIn [0:a.size+b.size] ((none,#[y],0,1,gallopOf st):S5) fun _ r=>wi4 a b r
  vn2 c):=by
 rw[wx0];refine congrArg _ (funext fun _=>congrArg _ (funext fun y=>?_));dsimp only;refine congrArg _ (congrArg _ (congrArg _ (funext fun st=>?_)));refine congr (congrArg bind (congrArg _ (funext fun _=>funext fun r=>?_))) ?_
 ·unfold wi4
  refine congr (congrArg bind ?_) (funext fun c=>?_)
  ·unfold vb9;rfl
  ·obtain⟨c1,c2⟩:=c
   cases c1 with
   | some q=>rfl
   | none=>
     dsimp only;refine congrArg _ (funext fun _=>?_);refine congr (congrArg bind ?_) (funext fun d=>?_)
     ·unfold vc4
      refine congrArg _ (funext fun _=>funext fun r=>?_);unfold G1 G2 G3;by_cases hm:r.2.2.2.2.1>1
      ·first | rewrite [if_pos hm,if_pos hm] | rewrite [if_pos hm]
       refine congrArg _ (funext fun _=>congrArg _ (funext fun _=>congrArg _ (funext fun k=>?_)));cases k with
       | none=>rfl
       | some k=>rfl
      ·first | rewrite [if_neg hm,if_neg hm] | rewrite [if_neg hm]
       refine congrArg _ (funext fun _=>congrArg _ (funext fun _=>congrArg _ (funext fun k=>?_)));cases k with
       | none=>rfl
       | some k=>rfl
     ·obtain⟨d1,d2⟩:=d
      cases d1<;>rfl
 ·funext c
  obtain⟨c1,c2⟩:=c;cases c1<;>rfl
theorem wi1 (T:Two prog w A E s κ knd a b st) {out:Array Keyed} {ia ib lo mg ca cb:Nat} {st':SortSt} (M:Mid κ a b st out ia ib st' lo) {Q:S7->SortSt->Prop}
 (h1:∀q z st3,xf5 κ a b st q st3->Q (some q,z) st3) (h2:∀out ia ib mg ca cb st3,Mid κ a b st out ia ib st3 lo->Q (none,out,ia,ib,mg,ca,cb) st3):wpS (model prog w) A E s (vc4 a b (none,out,ia,ib,mg,ca,cb)) Q st':=by
 unfold vc4;refine wpS_forRange (I:=fun y c st3=>∃out ia ib mg ca cb,c=(none,out,ia,ib,mg,ca,cb)/\Mid κ a b st out ia ib st3 (lo+y)) (fun y c st3 hy1 hy2 hI=>?_) (fun c st3 hI=>?_) ⟨out,ia,ib,mg,ca,cb,rfl,M⟩
 ·obtain⟨out,ia,ib,mg,ca,cb,e,M⟩:=hI
  subst e;have fin:∀(mg:Nat),wpS (model prog w) A E s (G1 a b out ia ib mg ca cb) (fun r st4=>match r with | .done c'=>Q c' st4 | .yield c'=>∃out ia ib mg ca cb,c'=(none,out,ia,ib,mg,ca,cb)/\Mid κ a b st out ia ib st4 (lo+(y+1))) st3:=fun mg=>wpS_mono (vd3 T M) fun r st4 hq=>by
   cases r with
   | done c'=>
     rcases hq with⟨q,z,e,f⟩ | ⟨out,ia,ib,mg,ca,cb,e,M⟩
     ·subst e;exact h1 q z st4 f
     ·subst e;exact h2 _ _ _ _ _ _ st4 (M.le (by omega))
   | yield c'=>exact hq
  show wpS _ _ _ _ (if mg>1 then G1 a b out ia ib (mg-1) ca cb else G1 a b out ia ib mg ca cb) _ _;by_cases hm:mg>1
  ·rw[if_pos hm];exact wpS_mono (fin (mg-1)) fun r st4 hq=>by cases r<;>exact hq
  ·rw[if_neg hm];exact wpS_mono (fin mg) fun r st4 hq=>by cases r<;>exact hq
 ·obtain⟨out,ia,ib,mg,ca,cb,e,M⟩:=hI
  have:=M.ha;have:=M.hb;have:=M.far;omega
theorem ws2 (T:Two prog w A E s κ knd a b st) (ha:0<a.size) (hb:0<b.size) (hf:κ.kle (KK κ b 0) (KK κ a 0)) {Q:Array Keyed->SortSt->Prop} (h:∀r st',zz9 st st'->yh4 κ a b r.toList->Q r st'):wpS (model prog w) A E s (mlo a b) Q st:=by
 rw[wn0];refine wpS_bind (wpS_lift (wpAny_rule ⟨rfl,?_⟩));refine wpS_bind (ze2 hb ?_);have m0:Mg κ a b [b[0]] 0 1:=by
  have z:Mg κ a b [] 0 0:=⟨by simp,List.Pairwise.nil,fun x hx=>absurd hx (by simp),fun x hx=>absurd hx (by simp)⟩;exact z.pushB T.ub hb fun j _ h2=>KeyOrd.kle_trans hf (T.ua 0 j (Ac0 _) (Ak0 _) h2)
 by_cases h1:(1 == b.size)=true
 ·rw[if_pos h1]
  have f:=T.dB (out:=#[b[0]]) m0 (by have:=beq_iff_eq.mp h1;omega) zz9.refl;exact wpS_pure (h _ _ f.1 f.2)
 rw[if_neg h1];by_cases h2:(0+1 == a.size)=true
 ·rw[if_pos h2]
  have f:=T.dL (out:=#[b[0]]) m0 (by simpa using h2) zz9.refl;exact wpS_pure (h _ _ f.1 f.2)
 rw[if_neg h2];have hb1:1<b.size:=by
  have:¬1=b.size:=by simpa using h1
  omega
 have ha1:1<a.size:=by
  have:¬1=a.size:=by simpa using h2
  omega
 refine wpS_bind (wpS_get ?_);refine wpS_bind (wpS_mono (wpS_forRange (I:=fun x c st'=>∃out ia ib mg,c=(none,out,ia,ib,mg)/\Mid κ a b st out ia ib st' (1+x)) (Q:=fun c st'=>∃r z,c=(some r,z)/\xf5 κ a b st r st') (fun x c st' hx1 hx2 hI=>?_) (fun c st' hI=>?_) ⟨#[b[0]],0,1,_,rfl,m0,by omega,by omega,zz9.refl,by omega⟩) fun c st' hI=>?_)
 ·obtain⟨out,ia,ib,mg,e,M⟩:=hI
  subst e;unfold wi4;refine wpS_bind (wh5 T M (fun r z st2 f=>?_) fun out ia ib ca cb st2 M2=>?_)
  ·exact wpS_pure ⟨r,_,rfl,f⟩
  ·refine wpS_bind (wpS_lift (wpAny_rule ⟨rfl,?_⟩))
   refine wpS_bind (wi1 T M2 (fun q z st3 f=>?_) fun out ia ib mg ca cb st3 M3=>?_)
   ·exact wpS_pure ⟨q,_,rfl,f⟩
   ·exact wpS_bind (yl2 M3.like fun st4 l=>wpS_pure ⟨out,ia,ib,_,rfl,M3.m,M3.ha,M3.hb,l,M3.far⟩)
 ·obtain⟨out,ia,ib,mg,e,M⟩:=hI
  have:=M.ha;have:=M.hb;have:=M.far;omega
 ·obtain⟨r,z,e,f⟩:=hI
  subst e;exact wpS_pure (h _ _ f.1 f.2)
end
end Ts
end
section
namespace Ts
open PySem PyProof.Rows
noncomputable def mhi:Array Keyed->Array Keyed->SM (Array Keyed):=sortPriv% PySem.Builtin.mergeHi
noncomputable abbrev zp4 (a b out:Array Keyed) (na nb:Nat):Array Keyed:=a.extract 0 na++b.extract 0 nb++out.reverse
noncomputable abbrev xs3 (a b out:Array Keyed) (na nb:Nat):Array Keyed:=b.extract 0 nb++a.extract 0 na++out.reverse
theorem wx1 (a b:Array Keyed):mhi a b=(do
 rule "list.sort.merge-hi"
 let mut na:=a.size-1
 let mut nb:=b.size
 let mut out:Array Keyed:=#[<-elem' a na]
 if na == 0 then return zp4 a b out na nb
 if nb == 1 then return xs3 a b out na nb
 let mut mg:=gallopOf (<-get)
 for _ in [0:a.size+b.size] do
  let mut ca:=0
  let mut cb:=0
  for _ in [0:a.size+b.size] do
   let some y <-lt' (<-elem' b (nb-1)) (<-elem' a (na-1)) | return zp4 a b out na nb
   if y then
    na:=na-1
    out:=out.push (<-elem' a na)
    ca:=ca+1
    cb:=0
    if na == 0 then return zp4 a b out na nb
    if ca>=mg then break
   else
    nb:=nb-1
    out:=out.push (<-elem' b nb)
    cb:=cb+1
    ca:=0
    if nb == 1 then return xs3 a b out na nb
    if cb>=mg then break
  rule "list.sort.gallop"
  mg:=mg+1
  for _ in [0:a.size+b.size] do
   if mg>1 then mg:=mg-1
   xw0 mg
   let some p <-gal false (<-elem' b (nb-1)) a 0 na (na-1) | return zp4 a b out na nb
   ca:=na-p
   if na-p>0 then
    out:=out++(a.extract p na).reverse
    na:=p
    if na == 0 then return zp4 a b out na nb
   nb:=nb-1
   out:=out.push (<-elem' b nb)
   if nb == 1 then return xs3 a b out na nb
   let some p <-gal true (<-elem' a (na-1)) b 0 nb (nb-1) | return zp4 a b out na nb
   cb:=nb-p
   if nb-p>0 then
    out:=out++(b.extract p nb).reverse
    nb:=p
    if nb == 1 then return xs3 a b out na nb
    if nb == 0 then return zp4 a b out na nb
   na:=na-1
   out:=out.push (<-elem' a na)
   if na == 0 then return zp4 a b out na nb
   if ca<7&&cb<7 then break
  mg:=mg+1
  xw0 mg
 unsupported "internal:list.sort.merge-bound"):=rfl
section
variable {κ:KeyKind} {a b:Array Keyed} {t:List Keyed} {na nb:Nat}
structure Mh (κ:KeyKind) (a b:Array Keyed) (t:List Keyed) (na nb:Nat):Prop where
 perm:((a.toList.take na++b.toList.take nb)++t).Perm (a.toList++b.toList)
 up:t.Pairwise (le κ)
 la:∀x∈t,∀i,i<na->κ.kle (KK κ a i) (ky κ x)
 lb:∀x∈t,∀i,i<nb->κ.kle (KK κ b i) (ky κ x)
theorem yd8 {xs:Array Keyed} {i:Nat} (h:i<xs.size):xs.toList.take (i+1)=xs.toList.take i++[xs[i]]:=by
 rw[Bm0];simp[Bd0 h]
theorem Mh.pushA (m:Mh κ a b t (na+1) nb) (ua:Up κ a 0 a.size) (hi:na<a.size) (h:∀j,j<nb->κ.kle (KK κ b j) (KK κ a na)):Mh κ a b (a[na]::t) na nb:=by
 refine⟨?_,Bv0.mpr ⟨fun z hz=>?_,m.up⟩,fun x hx i h1=>?_,fun x hx i h1=>?_⟩
 ·have:=m.perm
  rw[yd8 hi] at this;refine List.Perm.trans ?_ this;rw[Aq0,Aq0,Aq0];exact List.Perm.append_left _ (List.perm_middle (l₁:=b.toList.take nb))
 ·have:=m.la z hz na (by omega)
  rwa [zk8 hi] at this
 ·rcases Ah0.mp hx with hx | hx
  ·rw[hx,<-zk8 hi]
   exact ua i na (Ak0 _) (by omega) hi
  ·exact m.la x hx i (by omega)
 ·rcases Ah0.mp hx with hx | hx
  ·rw[hx,<-zk8 hi]
   exact h i h1
  ·exact m.lb x hx i h1
theorem Mh.pushB (m:Mh κ a b t na (nb+1)) (ub:Up κ b 0 b.size) (hi:nb<b.size) (h:∀j,j<na->κ.kle (KK κ a j) (KK κ b nb)):Mh κ a b (b[nb]::t) na nb:=by
 refine⟨?_,Bv0.mpr ⟨fun z hz=>?_,m.up⟩,fun x hx i h1=>?_,fun x hx i h1=>?_⟩
 ·have:=m.perm
  rw[yd8 hi] at this;simpa [Aq0] using this
 ·have:=m.lb z hz nb (by omega)
  rwa [zk8 hi] at this
 ·rcases Ah0.mp hx with hx | hx
  ·rw[hx,<-zk8 hi]
   exact h i h1
  ·exact m.la x hx i h1
 ·rcases Ah0.mp hx with hx | hx
  ·rw[hx,<-zk8 hi]
   exact ub i nb (Ak0 _) (by omega) hi
  ·exact m.lb x hx i (by omega)
theorem xo1 {xs:Array Keyed} {i k:Nat} (h:i<xs.size):(xs.toList.drop i).take (k+1)=xs[i]::(xs.toList.drop (i+1)).take k:=by
 rw[yn7 h,List.take_succ_cons]
theorem Mh.takeA (ua:Up κ a 0 a.size):∀(k p:Nat) (t:List Keyed),Mh κ a b t (p+k) nb->p+k<=a.size->(∀i,p<=i->i<p+k->∀j,j<nb->κ.kle (KK κ b j) (KK κ a i))->Mh κ a b ((a.toList.drop p).take k++t) p nb
 | 0,p,t,m,_,_=>by simpa using m
 | k+1,p,t,m,hk,h=>by
   have ih:=Mh.takeA ua k (p+1) t (by rw[show p+1+k=p+(k+1) by omega];exact m) (by omega) fun i h1 h2=>h i (by omega) (by omega)
   have:=ih.pushA ua (by omega) (h p (Ac0 _) (by omega));rw[xo1 (by omega)];exact this
theorem Mh.takeB (ub:Up κ b 0 b.size):∀(k p:Nat) (t:List Keyed),Mh κ a b t na (p+k)->p+k<=b.size->(∀i,p<=i->i<p+k->∀j,j<na->κ.kle (KK κ a j) (KK κ b i))->Mh κ a b ((b.toList.drop p).take k++t) na p
 | 0,p,t,m,_,_=>by simpa using m
 | k+1,p,t,m,hk,h=>by
   have ih:=Mh.takeB ub k (p+1) t (by rw[show p+1+k=p+(k+1) by omega];exact m) (by omega) fun i h1 h2=>h i (by omega) (by omega)
   have:=ih.pushB ub (by omega) (h p (Ac0 _) (by omega));rw[xo1 (by omega)];exact this
theorem yv8 {xs:Array Keyed} {i:Nat} (u:Up κ xs 0 xs.size):(xs.toList.take i).Pairwise (le κ):=(yl5 (i:=0) u).sublist (List.take_sublist _ _)
theorem zy4 {xs:Array Keyed} {i:Nat} {x:Keyed} (h:x∈xs.toList.take i):∃j,j<i/\j<xs.size/\ky κ x=KK κ xs j:=by
 obtain⟨j,hj,e⟩:=List.getElem_of_mem h;rw[Bc0,Bi0] at hj;refine⟨j,by omega,by omega,?_⟩;rw[zk8 (by omega),<-e];simp[List.getElem_take]
theorem Mh.doneB (m:Mh κ a b t na 0) (ua:Up κ a 0 a.size):yh4 κ a b (a.toList.take na++b.toList.take 0++t):=by
 refine⟨m.perm,?_⟩;rw[List.take_zero,Bj0];refine Bg0.mpr ⟨yv8 ua,m.up,fun x hx y hy=>?_⟩;obtain⟨j,h1,h2,e⟩:=zy4 (κ:=κ) hx;show κ.kle (ky κ x) (ky κ y);rw[e];exact m.la y hy j h1
theorem Mh.doneA (m:Mh κ a b t 0 nb) (ub:Up κ b 0 b.size):yh4 κ a b (a.toList.take 0++b.toList.take nb++t):=by
 refine⟨m.perm,?_⟩;rw[List.take_zero,List.nil_append];refine Bg0.mpr ⟨yv8 ub,m.up,fun x hx y hy=>?_⟩;obtain⟨j,h1,h2,e⟩:=zy4 (κ:=κ) hx;show κ.kle (ky κ x) (ky κ y);rw[e];exact m.lb y hy j h1
theorem Mh.first (m:Mh κ a b t na 1) (ua:Up κ a 0 a.size) (hb:0<b.size) (hf:∀j,j<a.size->κ.kle (KK κ b 0) (KK κ a j)):yh4 κ a b (b.toList.take 1++a.toList.take na++t):=by
 have e:b.toList.take 1=[b[0]]:=by rw[yd8 hb];simp
 refine⟨?_,?_⟩
 ·refine List.Perm.trans (List.Perm.append_right _ List.perm_append_comm) m.perm
 ·rw[e,Aq0,List.singleton_append]
  refine Bv0.mpr ⟨fun y hy=>?_,Bg0.mpr ⟨yv8 ua,m.up,fun x hx y hy=>?_⟩⟩
  ·show κ.kle (ky κ b[0]) (ky κ y)
   rw[<-zk8 hb];rcases As0.mp hy with hy | hy
   ·obtain⟨j,h1,h2,e⟩:=zy4 (κ:=κ) hy
    rw[e];exact hf j h2
   ·exact m.lb y hy 0 (by omega)
  ·obtain⟨j,h1,h2,e⟩:=zy4 (κ:=κ) hx
   show κ.kle (ky κ x) (ky κ y);rw[e];exact m.la y hy j h1
end
end Ts
end
section
namespace Ts
open PySem PyProof.Rows
section
variable {prog:Program} {w:World} {A:Around} {E:Value->Shared->Prop} {s:Shared} {κ:KeyKind} {knd:SortKind} {st:SortSt} {a b:Array Keyed}
structure Hid (κ:KeyKind) (a b:Array Keyed) (st:SortSt) (na nb:Nat) (out:Array Keyed) (st':SortSt) (lo:Nat):Prop where
 m:Mh κ a b out.toList.reverse na nb
 ha:0<na
 hb:1<nb
 la:na<=a.size
 lb:nb<=b.size
 like:zz9 st st'
 far:na+nb+lo<=a.size+b.size
theorem Hid.le {st:SortSt} {out:Array Keyed} {na nb lo lo2:Nat} {st':SortSt} (M:Hid κ a b st na nb out st' lo) (h:lo2<=lo):Hid κ a b st na nb out st' lo2:=⟨M.m,M.ha,M.hb,M.la,M.lb,M.like,by have:=M.far;omega⟩
theorem yk2 (out:Array Keyed) {na nb:Nat} (ha:na<=a.size) (hb:nb<=b.size):(zp4 a b out na nb).toList=a.toList.take na++b.toList.take nb++out.toList.reverse:=by
 unfold zp4;rw[Bf0,Bf0,zh9 ha,zh9 hb,Array.toList_reverse];simp
theorem xs2 (out:Array Keyed) {na nb:Nat} (ha:na<=a.size) (hb:nb<=b.size):(xs3 a b out na nb).toList=b.toList.take nb++a.toList.take na++out.toList.reverse:=by
 unfold xs3;rw[Bf0,Bf0,zh9 ha,zh9 hb,Array.toList_reverse];simp
structure Tw (prog:Program) (w:World) (A:Around) (E:Value->Shared->Prop) (s:Shared) (κ:KeyKind) (knd:SortKind) (a b:Array Keyed) (st:SortSt):Prop extends Two prog w A E s κ knd a b st where
 hf:∀j,j<a.size->κ.kle (KK κ b 0) (KK κ a j)
section
variable {out:Array Keyed} {na nb lo:Nat} {st':SortSt} (T:Tw prog w A E s κ knd a b st)
include T
theorem Tw.dB (m:Mh κ a b out.toList.reverse na nb) (ha:na<=a.size) (h:nb=0) (l:zz9 st st'):xf5 κ a b st (zp4 a b out na nb) st':=⟨l,by subst h;rw[yk2 _ ha (Ak0 _)];exact m.doneB T.ua⟩
theorem Tw.dA (m:Mh κ a b out.toList.reverse na nb) (hb:nb<=b.size) (h:na=0) (l:zz9 st st'):xf5 κ a b st (zp4 a b out na nb) st':=⟨l,by subst h;rw[yk2 _ (Ak0 _) hb];exact m.doneA T.ub⟩
theorem Tw.dF (m:Mh κ a b out.toList.reverse na nb) (ha:na<=a.size) (hb:nb<=b.size) (h:nb=1) (l:zz9 st st'):xf5 κ a b st (xs3 a b out na nb) st':=⟨l,by subst h;rw[xs2 _ ha hb];exact m.first T.ua hb T.hf⟩
end
theorem xb3 (out:Array Keyed) (x:Keyed):(out.push x).toList.reverse=x::out.toList.reverse:=by simp
theorem xm8 (out:Array Keyed) {xs:Array Keyed} {p q:Nat} (h:q<=xs.size):(out++(xs.extract p q).reverse).toList.reverse=(xs.toList.drop p).take (q-p)++out.toList.reverse:=by
 rw[Bf0,Array.toList_reverse,zh9 h,List.reverse_append,List.reverse_reverse]
section
variable {out:Array Keyed} {na nb lo:Nat} {st':SortSt} (T:Tw prog w A E s κ knd a b st)
include T
theorem Tw.putA (m:Mh κ a b out.toList.reverse na nb) (h0:0<na) (ha:na<=a.size) (h:∀j,j<nb->κ.kle (KK κ b j) (KK κ a (na-1))):Mh κ a b (out.push (a[na-1]'(by omega))).toList.reverse (na-1) nb:=by
 obtain⟨n,rfl⟩:∃n,na=n+1:=⟨na-1,by omega⟩;rw[xb3];exact m.pushA T.ua (show n<a.size by omega) h
theorem Tw.putB (m:Mh κ a b out.toList.reverse na nb) (h0:0<nb) (hb:nb<=b.size) (h:∀j,j<na->κ.kle (KK κ a j) (KK κ b (nb-1))):Mh κ a b (out.push (b[nb-1]'(by omega))).toList.reverse na (nb-1):=by
 obtain⟨n,rfl⟩:∃n,nb=n+1:=⟨nb-1,by omega⟩;rw[xb3];exact m.pushB T.ub (show n<b.size by omega) h
theorem Tw.manyA (m:Mh κ a b out.toList.reverse na nb) {p:Nat} (hp:p<=na) (ha:na<=a.size) (h:∀i,p<=i->i<na->∀j,j<nb->κ.kle (KK κ b j) (KK κ a i)):Mh κ a b (out++(a.extract p na).reverse).toList.reverse p nb:=by
 rw[xm8 out ha];exact Mh.takeA T.ua (na-p) p _ (by rw[show p+(na-p)=na by omega];exact m) (by omega) fun i h1 h2=>h i h1 (by omega)
theorem Tw.manyB (m:Mh κ a b out.toList.reverse na nb) {p:Nat} (hp:p<=nb) (hb:nb<=b.size) (h:∀i,p<=i->i<nb->∀j,j<na->κ.kle (KK κ a j) (KK κ b i)):Mh κ a b (out++(b.extract p nb).reverse).toList.reverse na p:=by
 rw[xm8 out hb];exact Mh.takeB T.ub (nb-p) p _ (by rw[show p+(nb-p)=nb by omega];exact m) (by omega) fun i h1 h2=>h i h1 (by omega)
end
noncomputable abbrev H6:=Option (Array Keyed)×Nat×Nat×Array Keyed×Nat×Nat
noncomputable abbrev H7:=Option (Array Keyed)×Nat×Nat×Array Keyed×Nat×Nat×Nat
noncomputable def wa8 (a b:Array Keyed) (mg:Nat) (c:H6):SM H6:=forIn [0:a.size+b.size] c fun _ r=>do
 let y <-elem' b (r.2.2.1-1)
 let x <-elem' a (r.2.1-1)
 let z <-lt' y x
 match z with
 | some t=>
   if t=true then do
    let x <-elem' a (r.2.1-1)
    if (r.2.1-1 == 0)=true then pure (ForInStep.done (some (zp4 a b (r.2.2.2.1.push x) (r.2.1-1) r.2.2.1),r.2.1-1,r.2.2.1,r.2.2.2.1.push x,r.2.2.2.2.1+1,0))
    else if r.2.2.2.2.1+1>=mg then pure (ForInStep.done (none,r.2.1-1,r.2.2.1,r.2.2.2.1.push x,r.2.2.2.2.1+1,0)) else pure (ForInStep.yield (none,r.2.1-1,r.2.2.1,r.2.2.2.1.push x,r.2.2.2.2.1+1,0))
   else do
    let y <-elem' b (r.2.2.1-1)
    if (r.2.2.1-1 == 1)=true then pure (ForInStep.done (some (xs3 a b (r.2.2.2.1.push y) r.2.1 (r.2.2.1-1)),r.2.1,r.2.2.1-1,r.2.2.2.1.push y,0,r.2.2.2.2.2+1))
    else if r.2.2.2.2.2+1>=mg then pure (ForInStep.done (none,r.2.1,r.2.2.1-1,r.2.2.2.1.push y,0,r.2.2.2.2.2+1)) else pure (ForInStep.yield (none,r.2.1,r.2.2.1-1,r.2.2.2.1.push y,0,r.2.2.2.2.2+1))
 | _=>pure (ForInStep.done (some (zp4 a b r.2.2.2.1 r.2.1 r.2.2.1),r.2.1,r.2.2.1,r.2.2.2.1,r.2.2.2.2.1,r.2.2.2.2.2))
theorem xx0 (T:Tw prog w A E s κ knd a b st) {out:Array Keyed} {na nb lo mg ca cb:Nat} {st':SortSt} (M:Hid κ a b st na nb out st' lo) {Q:H6->SortSt->Prop}
 (hr:∀r z st2,xf5 κ a b st r st2->Q (some r,z) st2) (hn:∀out na nb ca cb st2,Hid κ a b st na nb out st2 (lo+1)->Q (none,na,nb,out,ca,cb) st2) :
 wpS (model prog w) A E s (wa8 a b mg (none,na,nb,out,ca,cb)) Q st':=by
 unfold wa8;refine wpS_forRange (I:=fun y c st2=>∃out na nb ca cb,c=(none,na,nb,out,ca,cb)/\Hid κ a b st na nb out st2 (lo+y)) (fun y c st2 hy1 hy2 hI=>?_) (fun c st2 hI=>?_) ⟨out,na,nb,ca,cb,rfl,M⟩
 ·obtain⟨out,na,nb,ca,cb,e,M⟩:=hI
  subst e;have i1:=M.ha;have i2:=M.hb;have i3:=M.far;have i4:=M.la;have i5:=M.lb;refine wpS_bind (ze2 (show nb-1<b.size by omega) (wpS_bind (ze2 (show na-1<a.size by omega) (wpS_bind (yi5 T.C (T.kind M.like) T.kb T.ka (by omega) (by omega) ?_)))));show wpS _ _ _ _ (if κ.blt (KK κ b (nb-1)) (KK κ a (na-1))=true then _ else _) _ _;cases hb:κ.blt (KK κ b (nb-1)) (KK κ a (na-1))
  ·rw[if_neg Am0]
   refine wpS_bind (ze2 (show nb-1<b.size by omega) ?_);have m2:=T.putB M.m (by omega) i5 fun j g1=>KeyOrd.kle_trans (T.ua j (na-1) (Ak0 _) (by omega) (by omega)) hb
   show wpS _ _ _ _ (if (nb-1 == 1)=true then _ else _) _ _;by_cases h1:nb-1=1
   ·rw[if_pos (beq_iff_eq.mpr h1)]
    exact wpS_pure (hr _ _ _ (T.dF m2 i4 (show nb-1<=b.size by omega) h1 M.like))
   ·rw[if_neg (fun z=>h1 (beq_iff_eq.mp z))]
    show wpS _ _ _ _ (if cb+1>=mg then _ else _) _ _;have M2:Hid κ a b st na (nb-1) (out.push b[nb-1]) st2 (lo+(y+1)):=⟨m2,i1,by omega,i4,by omega,M.like,by omega⟩;by_cases h2:cb+1>=mg
    ·rw[if_pos h2]
     exact wpS_pure (hn _ _ _ _ _ _ (M2.le (by omega)))
    ·rw[if_neg h2]
     exact wpS_pure ⟨_,_,_,_,_,rfl,M2⟩
  ·rw[if_pos rfl]
   refine wpS_bind (ze2 (show na-1<a.size by omega) ?_);have m2:=T.putA M.m i1 i4 fun j g1=>KeyOrd.kle_trans (T.ub j (nb-1) (Ak0 _) (by omega) (by omega)) (KeyOrd.kle_of_klt hb)
   show wpS _ _ _ _ (if (na-1 == 0)=true then _ else _) _ _;by_cases h1:na-1=0
   ·rw[if_pos (beq_iff_eq.mpr h1)]
    exact wpS_pure (hr _ _ _ (T.dA m2 i5 h1 M.like))
   ·rw[if_neg (fun z=>h1 (beq_iff_eq.mp z))]
    show wpS _ _ _ _ (if ca+1>=mg then _ else _) _ _;have M2:Hid κ a b st (na-1) nb (out.push a[na-1]) st2 (lo+(y+1)):=⟨m2,by omega,i2,by omega,i5,M.like,by omega⟩;by_cases h2:ca+1>=mg
    ·rw[if_pos h2]
     exact wpS_pure (hn _ _ _ _ _ _ (M2.le (by omega)))
    ·rw[if_neg h2]
     exact wpS_pure ⟨_,_,_,_,_,rfl,M2⟩
 ·obtain⟨out,na,nb,ca,cb,e,M⟩:=hI
  have:=M.ha;have:=M.hb;have:=M.far;omega
noncomputable def Hq (κ:KeyKind) (a b:Array Keyed) (st:SortSt) (lo:Nat) (r:ForInStep H7) (st':SortSt):Prop:=
 match r with
 | .done c=>(∃q z,c=(some q,z)/\xf5 κ a b st q st')\/∃na nb out mg ca cb,c=(none,na,nb,out,mg,ca,cb)/\Hid κ a b st na nb out st' lo
 | .yield c=>∃na nb out mg ca cb,c=(none,na,nb,out,mg,ca,cb)/\Hid κ a b st na nb out st' lo
noncomputable def H3 (a b:Array Keyed) (na nb:Nat) (out:Array Keyed) (mg ca cb:Nat):SM (ForInStep H7):=do
 let x <-elem' a (na-1)
 if (na-1 == 0)=true then pure (ForInStep.done ((some (zp4 a b (out.push x) (na-1) nb),na-1,nb,out.push x,mg,ca,cb):H7))
 else if (decide (ca<7)&&decide (cb<7))=true then pure (ForInStep.done ((none,na-1,nb,out.push x,mg,ca,cb):H7)) else pure (ForInStep.yield ((none,na-1,nb,out.push x,mg,ca,cb):H7))
theorem ws6 (T:Tw prog w A E s κ knd a b st) {out:Array Keyed} {na nb lo mg ca cb:Nat} {st':SortSt} (m:Mh κ a b out.toList.reverse na nb) (i1:0<na) (i2:1<nb) (i4:na<=a.size) (i5:nb<=b.size) (l:zz9 st st') (hlo:na+nb+lo<=a.size+b.size+1) (hb:∀j,j<nb->κ.kle (KK κ b j) (KK κ a (na-1))) :
 wpS (model prog w) A E s (H3 a b na nb out mg ca cb) (Hq κ a b st lo) st':=by
 unfold H3;refine wpS_bind (ze2 (show na-1<a.size by omega) ?_);have m2:=T.putA m i1 i4 hb;by_cases h1:na-1=0
 ·rw[if_pos (beq_iff_eq.mpr h1)]
  exact wpS_pure (.inl ⟨_,_,rfl,T.dA m2 i5 h1 l⟩)
 ·rw[if_neg (fun z=>h1 (beq_iff_eq.mp z))]
  have M2:Hid κ a b st (na-1) nb (out.push a[na-1]) st' lo:=⟨m2,by omega,i2,by omega,i5,l,by omega⟩;split
  ·exact wpS_pure (.inr ⟨_,_,_,_,_,_,rfl,M2⟩)
  ·exact wpS_pure ⟨_,_,_,_,_,_,rfl,M2⟩
noncomputable def H2 (a b:Array Keyed) (na nb:Nat) (out:Array Keyed) (mg ca cb:Nat):SM (ForInStep H7):=do
 let y <-elem' b (nb-1)
 if (nb-1 == 1)=true then pure (ForInStep.done ((some (xs3 a b (out.push y) na (nb-1)),na,nb-1,out.push y,mg,ca,cb):H7))
 else do
  let x <-elem' a (na-1)
  let p <-gal true x b 0 (nb-1) (nb-1-1)
  match p with
  | some p=>
    if nb-1-p>0 then
     if (p == 1)=true then pure (ForInStep.done ((some (xs3 a b (out.push y++(b.extract p (nb-1)).reverse) na p),na,p,out.push y++(b.extract p (nb-1)).reverse,mg,ca,nb-1-p):H7))
     else if (p == 0)=true then pure (ForInStep.done ((some (zp4 a b (out.push y++(b.extract p (nb-1)).reverse) na p),na,p,out.push y++(b.extract p (nb-1)).reverse,mg,ca,nb-1-p):H7))
     else H3 a b na p (out.push y++(b.extract p (nb-1)).reverse) mg ca (nb-1-p)
    else H3 a b na (nb-1) (out.push y) mg ca (nb-1-p)
  | _=>pure (ForInStep.done ((some (zp4 a b (out.push y) na (nb-1)),na,nb-1,out.push y,mg,ca,cb):H7))
theorem ws7 (T:Tw prog w A E s κ knd a b st) {out:Array Keyed} {na nb lo mg ca cb:Nat} {st':SortSt} (m:Mh κ a b out.toList.reverse na nb) (i1:0<na) (i2:1<nb) (i4:na<=a.size) (i5:nb<=b.size) (l:zz9 st st') (hlo:na+nb+lo<=a.size+b.size+1) (hb:∀j,j<na->κ.kle (KK κ a j) (KK κ b (nb-1))) :
 wpS (model prog w) A E s (H2 a b na nb out mg ca cb) (Hq κ a b st lo) st':=by
 unfold H2;refine wpS_bind (ze2 (show nb-1<b.size by omega) ?_);have m2:=T.putB m (by omega) i5 hb;by_cases h1:nb-1=1
 ·rw[if_pos (beq_iff_eq.mpr h1)]
  exact wpS_pure (.inl ⟨_,_,rfl,T.dF m2 i4 (by omega) h1 l⟩)
 rw[if_neg (fun z=>h1 (beq_iff_eq.mp z))];refine wpS_bind (ze2 (show na-1<a.size by omega) (wpS_bind (yi7 (vk5 T.C T.ka T.kb T.ub (by omega) (by omega)) (T.kind l) (by omega) fun p hp hlt hge=>?_)));show wpS _ _ _ _ (if nb-1-p>0 then _ else _) _ _;simp only[Aj0] at hlt hge;have bel:∀j,j<p->κ.kle (KK κ b j) (KK κ a (na-1)):=fun j hj=>KeyOrd.kle_of_klt (hlt j hj)
 by_cases hk0:nb-1-p>0
 ·rw[if_pos hk0]
  have m3:=T.manyB m2 hp (by omega) fun i h1 h2 j h3=>KeyOrd.kle_trans (T.ua j (na-1) (Ak0 _) (by omega) (by omega)) (hge i h1 (by omega))
  by_cases h2:p=1
  ·rw[if_pos (beq_iff_eq.mpr h2)]
   exact wpS_pure (.inl ⟨_,_,rfl,T.dF m3 i4 (by omega) h2 l⟩)
  rw[if_neg (fun z=>h2 (beq_iff_eq.mp z))];by_cases h3:p=0
  ·rw[if_pos (beq_iff_eq.mpr h3)]
   exact wpS_pure (.inl ⟨_,_,rfl,T.dB m3 i4 h3 l⟩)
  rw[if_neg (fun z=>h3 (beq_iff_eq.mp z))];exact ws6 T m3 i1 (by omega) i4 (by omega) l (by omega) bel
 ·rw[if_neg hk0]
  exact ws6 T m2 i1 (by omega) i4 (by omega) l (by omega) (fun j hj=>bel j (by omega))
noncomputable def H1 (a b:Array Keyed) (na nb:Nat) (out:Array Keyed) (mg ca cb:Nat):SM (ForInStep H7):=do
 xw0 mg
 let y <-elem' b (nb-1)
 let p <-gal false y a 0 na (na-1)
 match p with
 | some p=>
   if na-p>0 then
    if (p == 0)=true then pure (ForInStep.done ((some (zp4 a b (out++(a.extract p na).reverse) p nb),p,nb,out++(a.extract p na).reverse,mg,na-p,cb):H7))
    else H2 a b p nb (out++(a.extract p na).reverse) mg (na-p) cb
   else H2 a b na nb out mg (na-p) cb
 | _=>pure (ForInStep.done ((some (zp4 a b out na nb),na,nb,out,mg,ca,cb):H7))
theorem vd2 (T:Tw prog w A E s κ knd a b st) {out:Array Keyed} {na nb lo mg ca cb:Nat} {st':SortSt} (M:Hid κ a b st na nb out st' lo):wpS (model prog w) A E s (H1 a b na nb out mg ca cb) (Hq κ a b st (lo+1)) st':=by
 unfold H1;have i1:=M.ha;have i2:=M.hb;have i3:=M.far;have i4:=M.la;have i5:=M.lb;refine wpS_bind (yl2 M.like fun st2 l=>?_);refine wpS_bind (ze2 (show nb-1<b.size by omega) (wpS_bind (yi7 (vk4 T.C T.ka T.kb T.ua (by omega) (by omega)) (T.kind l) (by omega) fun p hp hlt hge=>?_)));show wpS _ _ _ _ (if na-p>0 then _ else _) _ _;simp only[Aj0] at hlt hge;have ab:∀j,j<p->κ.kle (KK κ a j) (KK κ b (nb-1)):=fun j g1=>by
  have:=hlt j g1;exact(show κ.blt (KK κ b (nb-1)) (KK κ a j)=false by simpa using this)
 by_cases hk0:na-p>0
 ·rw[if_pos hk0]
  have m3:=T.manyA M.m hp i4 fun i h1 h2 j h3=>by
   have:=hge i h1 h2;exact KeyOrd.kle_trans (T.ub j (nb-1) (Ak0 _) (by omega) (by omega)) (KeyOrd.kle_of_klt (show κ.blt (KK κ b (nb-1)) (KK κ a i)=true by simpa using this))
  by_cases h1:p=0
  ·rw[if_pos (beq_iff_eq.mpr h1)]
   exact wpS_pure (.inl ⟨_,_,rfl,T.dA m3 i5 h1 l⟩)
  rw[if_neg (fun z=>h1 (beq_iff_eq.mp z))];exact ws7 T m3 (by omega) i2 (by omega) i5 l (by omega) ab
 ·rw[if_neg hk0]
  exact ws7 T M.m i1 i2 i4 i5 l (by omega) (fun j hj=>ab j (by omega))
noncomputable def vc3 (a b:Array Keyed) (c:H7):SM H7:=forIn [0:a.size+b.size] c fun _ r=>
 if r.2.2.2.2.1>1 then H1 a b r.2.1 r.2.2.1 r.2.2.2.1 (r.2.2.2.2.1-1) r.2.2.2.2.2.1 r.2.2.2.2.2.2 else H1 a b r.2.1 r.2.2.1 r.2.2.2.1 r.2.2.2.2.1 r.2.2.2.2.2.1 r.2.2.2.2.2.2
noncomputable abbrev H5:=Option (Array Keyed)×Nat×Nat×Array Keyed×Nat
noncomputable def wi5 (a b:Array Keyed) (r:H5):SM (ForInStep H5):=do
 let c <-wa8 a b r.2.2.2.2 (none,r.2.1,r.2.2.1,r.2.2.2.1,0,0)
 match c.1 with
 | some q=>pure (ForInStep.done (some q,c.2.1,c.2.2.1,c.2.2.2.1,r.2.2.2.2))
 | none=>do
   rule "list.sort.gallop"
   let d <-vc3 a b (none,c.2.1,c.2.2.1,c.2.2.2.1,r.2.2.2.2+1,c.2.2.2.2.1,c.2.2.2.2.2)
   match d.1 with
   | some q=>pure (ForInStep.done (some q,d.2.1,d.2.2.1,d.2.2.2.1,d.2.2.2.2.1))
   | none=>do
     xw0 (d.2.2.2.2.1+1)
     pure (ForInStep.yield (none,d.2.1,d.2.2.1,d.2.2.2.1,d.2.2.2.2.1+1))
noncomputable def vn3 (c:H5):SM (Array Keyed):=match c.1 with
 | some q=>pure q
 | none=>unsupported "internal:list.sort.merge-bound"
set_option tactic.hygienic true in
theorem wn1 (a b:Array Keyed):mhi a b=(do
 rule "list.sort.merge-hi"
 let x <-elem' a (a.size-1)
 if (a.size-1 == 0)=true then pure (zp4 a b #[x] (a.size-1) b.size)
 else if (b.size == 1)=true then pure (xs3 a b #[x] (a.size-1) b.size)
 else do
  let st <-get
  let c <-forIn [0:a.size+b.size] ((none,a.size-1,b.size,#[x],gallopOf st):H5) fun _ r=>wi5 a b r
  vn3 c):=by
 rw[wx1];refine congrArg _ (funext fun _=>?_);dsimp only;refine congrArg _ (funext fun y=>?_);refine congrArg _ (congrArg _ (congrArg _ (funext fun st=>?_)));refine congr (congrArg bind (congrArg _ (funext fun _=>funext fun r=>?_))) ?_
 ·unfold wi5
  refine congr (congrArg bind ?_) (funext fun c=>?_)
  ·unfold wa8;rfl
  ·obtain⟨c1,c2⟩:=c
   cases c1 with
   | some q=>rfl
   | none=>
     dsimp only;refine congrArg _ (funext fun _=>?_);refine congr (congrArg bind ?_) (funext fun d=>?_)
     ·unfold vc3
      refine congrArg _ (funext fun _=>funext fun r=>?_);unfold H1 H2 H3;by_cases hm:r.2.2.2.2.1>1
      ·first | rewrite [if_pos hm,if_pos hm] | rewrite [if_pos hm]
       refine congrArg _ (funext fun _=>congrArg _ (funext fun _=>congrArg _ (funext fun k=>?_)));cases k with
       | none=>rfl
       | some k=>rfl
      ·first | rewrite [if_neg hm,if_neg hm] | rewrite [if_neg hm]
       refine congrArg _ (funext fun _=>congrArg _ (funext fun _=>congrArg _ (funext fun k=>?_)));cases k with
       | none=>rfl
       | some k=>rfl
     ·obtain⟨d1,d2⟩:=d
      cases d1<;>rfl
 ·funext c
  obtain⟨c1,c2⟩:=c;cases c1<;>rfl
theorem wh8 (T:Tw prog w A E s κ knd a b st) {out:Array Keyed} {na nb lo mg ca cb:Nat} {st':SortSt} (M:Hid κ a b st na nb out st' lo) {Q:H7->SortSt->Prop}
 (h1:∀q z st3,xf5 κ a b st q st3->Q (some q,z) st3) (h2:∀na nb out mg ca cb st3,Hid κ a b st na nb out st3 lo->Q (none,na,nb,out,mg,ca,cb) st3):wpS (model prog w) A E s (vc3 a b (none,na,nb,out,mg,ca,cb)) Q st':=by
 unfold vc3;refine wpS_forRange (I:=fun y c st3=>∃na nb out mg ca cb,c=(none,na,nb,out,mg,ca,cb)/\Hid κ a b st na nb out st3 (lo+y)) (fun y c st3 hy1 hy2 hI=>?_) (fun c st3 hI=>?_) ⟨na,nb,out,mg,ca,cb,rfl,M⟩
 ·obtain⟨na,nb,out,mg,ca,cb,e,M⟩:=hI
  subst e;have fin:∀(mg:Nat),wpS (model prog w) A E s (H1 a b na nb out mg ca cb) (fun r st4=>match r with | .done c'=>Q c' st4 | .yield c'=>∃na nb out mg ca cb,c'=(none,na,nb,out,mg,ca,cb)/\Hid κ a b st na nb out st4 (lo+(y+1))) st3:=fun mg=>wpS_mono (vd2 T M) fun r st4 hq=>by
   cases r with
   | done c'=>
     rcases hq with⟨q,z,e,f⟩ | ⟨na,nb,out,mg,ca,cb,e,M⟩
     ·subst e;exact h1 q z st4 f
     ·subst e;exact h2 _ _ _ _ _ _ st4 (M.le (by omega))
   | yield c'=>exact hq
  show wpS _ _ _ _ (if mg>1 then H1 a b na nb out (mg-1) ca cb else H1 a b na nb out mg ca cb) _ _;by_cases hm:mg>1
  ·rw[if_pos hm];exact wpS_mono (fin (mg-1)) fun r st4 hq=>by cases r<;>exact hq
  ·rw[if_neg hm];exact wpS_mono (fin mg) fun r st4 hq=>by cases r<;>exact hq
 ·obtain⟨na,nb,out,mg,ca,cb,e,M⟩:=hI
  have:=M.ha;have:=M.hb;have:=M.far;omega
theorem ws3 (T:Tw prog w A E s κ knd a b st) (ha:0<a.size) (hb:0<b.size) {Q:Array Keyed->SortSt->Prop} (h:∀r st',zz9 st st'->yh4 κ a b r.toList->Q r st'):wpS (model prog w) A E s (mhi a b) Q st:=by
 rw[wn1];refine wpS_bind (wpS_lift (wpAny_rule ⟨rfl,?_⟩));refine wpS_bind (ze2 (show a.size-1<a.size by omega) ?_);have m0:Mh κ a b (#[a[a.size-1]]:Array Keyed).toList.reverse (a.size-1) b.size:=by
  have z:Mh κ a b [] a.size b.size:=⟨by rw[Bt0 (by simp),Bt0 (by simp),Bj0],List.Pairwise.nil,fun x hx=>absurd hx (by simp),fun x hx=>absurd hx (by simp)⟩;exact T.putA (out:=#[]) z ha (Ac0 _) T.hl
 by_cases h1:(a.size-1 == 0)=true
 ·rw[if_pos h1]
  have f:=T.dA (out:=#[a[a.size-1]]) m0 (Ac0 _) (beq_iff_eq.mp h1) zz9.refl;exact wpS_pure (h _ _ f.1 f.2)
 rw[if_neg h1];by_cases h2:(b.size == 1)=true
 ·rw[if_pos h2]
  have f:=T.dF (out:=#[a[a.size-1]]) m0 (by omega) (Ac0 _) (beq_iff_eq.mp h2) zz9.refl;exact wpS_pure (h _ _ f.1 f.2)
 rw[if_neg h2];have hb1:1<b.size:=by
  have:¬b.size=1:=by simpa using h2
  omega
 have ha1:1<a.size:=by
  have:¬a.size-1=0:=fun z=>h1 (beq_iff_eq.mpr z)
  omega
 refine wpS_bind (wpS_get ?_);refine wpS_bind (wpS_mono (wpS_forRange (I:=fun x c st'=>∃na nb out mg,c=(none,na,nb,out,mg)/\Hid κ a b st na nb out st' (1+x)) (Q:=fun c st'=>∃r z,c=(some r,z)/\xf5 κ a b st r st') (fun x c st' hx1 hx2 hI=>?_) (fun c st' hI=>?_) ⟨a.size-1,b.size,#[a[a.size-1]],_,rfl,m0,by omega,by omega,by omega,by omega,zz9.refl,by omega⟩) fun c st' hI=>?_)
 ·obtain⟨na,nb,out,mg,e,M⟩:=hI
  subst e;unfold wi5;refine wpS_bind (xx0 T M (fun r z st2 f=>?_) fun out na nb ca cb st2 M2=>?_)
  ·exact wpS_pure ⟨r,_,rfl,f⟩
  ·refine wpS_bind (wpS_lift (wpAny_rule ⟨rfl,?_⟩))
   refine wpS_bind (wh8 T M2 (fun q z st3 f=>?_) fun na nb out mg ca cb st3 M3=>?_)
   ·exact wpS_pure ⟨q,_,rfl,f⟩
   ·exact wpS_bind (yl2 M3.like fun st4 l=>wpS_pure ⟨na,nb,out,_,rfl,M3.m,M3.ha,M3.hb,M3.la,M3.lb,l,M3.far⟩)
 ·obtain⟨na,nb,out,mg,e,M⟩:=hI
  have:=M.ha;have:=M.hb;have:=M.far;omega
 ·obtain⟨r,z,e,f⟩:=hI
  subst e;exact wpS_pure (h _ _ f.1 f.2)
end
end Ts
end
section
namespace Ts
open PySem PyProof.Rows
noncomputable def back (sa:Nat) (l:List Keyed) (xs:Array Keyed):Array Keyed:=l.zipIdx.foldl (fun u (p,j)=>u.setIfInBounds (sa+j) p) xs
theorem wx3 (i:Nat):mergeAt' i=(do
 let z <-get
 let (some (sa,na,pw),some (sb,nb,_)):=((pendingOf z)[i]?,(pendingOf z)[i+1]?) | unsupported "internal:list.sort.pending"
 set (setPending z (((pendingOf z).setIfInBounds i (sa,na+nb,pw)).eraseIdxIfInBounds (i+1)))
 let some k <-gal false (<-elem' (arrOf z) sb) (arrOf z) sa na 0 | return false
 let (sa,na):=(sa+k,na-k)
 if na == 0 then return true
 let some nb <-gal true (<-elem' (arrOf z) (sa+na-1)) (arrOf z) sb nb (nb-1) | return false
 if nb == 0 then return true
 let x:=(arrOf z).extract sa sb
 let y:=(arrOf z).extract sb (sb+nb)
 let out <-if na<=nb then mlo x y else mhi x y
 modify fun v=>setArr v (back sa out.toList (arrOf v))
 return (failedOf (<-get)).isNone):=rfl
theorem xv3 (sa:Nat) (l:List Keyed) (xs:Array Keyed):(back sa l xs).size=xs.size:=by
 unfold back
 suffices h:∀(l:List (Keyed×Nat)) (xs:Array Keyed),(l.foldl (fun u (p,j)=>u.setIfInBounds (sa+j) p) xs).size=xs.size from h _ _
 intro l;induction l with
 | nil=>intro xs;rfl
 | cons q l ih=>intro xs;rw[List.foldl_cons,ih];simp
theorem wq7 (sa:Nat) (l:List Keyed) (xs:Array Keyed) (h:sa+l.length<=xs.size) (i:Nat):(back sa l xs)[i]?=if sa<=i/\i<sa+l.length then l[i-sa]? else xs[i]?:=by
 unfold back
 suffices g:∀(l:List Keyed) (n:Nat) (xs:Array Keyed),sa+n+l.length<=xs.size->((l.zipIdx n).foldl (fun u (p,j)=>u.setIfInBounds (sa+j) p) xs)[i]?=if sa+n<=i/\i<sa+n+l.length then l[i-(sa+n)]? else xs[i]? by
  have:=g l 0 xs (by simpa using h);simpa using this
 intro l;induction l with
 | nil=>intro n xs _;simp;omega
 | cons q l ih=>
   intro n xs h;simp only[An0] at h;rw[List.zipIdx_cons,List.foldl_cons,ih (n+1) _ (by simp;omega)];rw[Array.getElem?_setIfInBounds];by_cases h1:sa+n=i
   ·subst h1
    rw[if_neg (by omega),if_pos rfl,if_pos (by omega),if_pos (by simp)];simp
   ·rw[if_neg (show ¬sa+n=i from h1)]
    by_cases h2:sa+n<=i/\i<sa+n+(l.length+1)
    ·rw[if_pos (by omega),if_pos (by simpa using h2)]
     rw[show i-(sa+n)=(i-(sa+(n+1)))+1 by omega];simp
    ·rw[if_neg (by omega),if_neg (by simpa using h2)]
theorem xv4 (sa:Nat) (l:List Keyed) (xs:Array Keyed) (h:sa+l.length<=xs.size):(back sa l xs).toList=xs.toList.take sa++(l++xs.toList.drop (sa+l.length)):=by
 refine List.ext_getElem? fun i=>?_
 have:=wq7 sa l xs h i;rw[<-Array.getElem?_toList] at this;have lt:xs.toList.length=xs.size:=by simp
 rw[this,List.getElem?_append,Bc0,Nat.min_eq_left (by omega)];by_cases h1:i<sa
 ·rw[if_neg (by omega),if_pos h1,List.getElem?_take,if_pos h1]
  simp
 ·rw[if_neg h1,List.getElem?_append]
  by_cases h2:i<sa+l.length
  ·rw[if_pos (by omega),if_pos (by omega)]
  ·rw[if_neg (by omega),if_neg (by omega),List.getElem?_drop]
   simp;congr 1;omega
section
variable {prog:Program} {w:World} {A:Around} {E:Value->Shared->Prop} {s:Shared} {κ:KeyKind} {knd:SortKind} {a₀:Array Keyed} {st:SortSt}
theorem ws1 {z:SortSt} {Q:PUnit->SortSt->Prop} (h:Q ⟨⟩ z):wpS (model prog w) A E s (set z:SM PUnit) Q st:=by
 unfold wpS;rw[StateT.run_set];exact wpAny_pure ⟨rfl,h⟩
theorem xg4 {xs:Array Keyed} (h:xs.toList.Pairwise (le κ)):Up κ xs 0 xs.size:=fun i j _ g2 g3=>by
 by_cases e:i=j
 ·subst e;exact KeyOrd.kle_refl _
 ·have:=List.pairwise_iff_getElem.mp h i j (by simp;omega) (by simp;omega) (by omega)
  rw[zk8 (by omega),zk8 g3];simpa using this
theorem xz9 {xs:Array Keyed} {i k:Nat} {x:Keyed} (h:x∈(xs.toList.drop i).take k):∃j,i<=j/\j<i+k/\j<xs.size/\ky κ x=KK κ xs j:=by
 obtain⟨j,hj,e⟩:=List.getElem_of_mem h;rw[Bc0,List.length_drop,Bi0] at hj;refine⟨i+j,by omega,by omega,by omega,?_⟩;rw[zk8 (by omega),<-e];simp[List.getElem_take,List.getElem_drop]
theorem xl3 {xs:Array Keyed} {p q:Nat} (hq:q<=xs.size) (u:Up κ xs p q) {lo hi:Nat} (h1:p<=lo) (h2:hi<=q) (h3:lo<=hi):Up κ (xs.extract lo hi) 0 (xs.extract lo hi).size:=fun i j _ g2 g3=>by
 have sz:(xs.extract lo hi).size=hi-lo:=by simp;omega
 rw[sz] at g3;have e:∀t,t<hi-lo->KK κ (xs.extract lo hi) t=KK κ xs (lo+t):=fun t ht=>KK_congr (by rw[Array.getElem?_extract];simp;omega)
 rw[e i (by omega),e j g3];exact u _ _ (by omega) (by omega) (by omega)
theorem xf3 {xs:Array Keyed} {lo hi t:Nat} (hq:hi<=xs.size) (ht:lo+t<hi):KK κ (xs.extract lo hi) t=KK κ xs (lo+t):=KK_congr (by rw[Array.getElem?_extract];simp;omega)
theorem ys5 {xs:Array Keyed} (h:KeysOf κ xs) {lo hi:Nat}:KeysOf κ (xs.extract lo hi):=fun p hp=>h p (by
 rw[Array.toList_extract,List.extract_eq_drop_take] at hp;exact List.mem_of_mem_drop (List.mem_of_mem_take hp))
theorem wy4 {xs:Array Keyed} {k n m:Nat} {l:List Keyed} (hk:k<=n) (hnm:n<=m) (hm:m<=xs.size) (W:yh4 κ (xs.extract k n) (xs.extract n m) l)
 (u1:Up κ xs 0 n) (u2:Up κ xs n xs.size) (c1:∀i,i<k->∀j,n<=j->j<xs.size->κ.kle (KK κ xs i) (KK κ xs j)) (c2:∀i,i<n->∀j,m<=j->j<xs.size->κ.kle (KK κ xs i) (KK κ xs j)) :
 (back k l xs).Perm xs/\Up κ (back k l xs) 0 (back k l xs).size:=by
 have ll:l.length=m-k:=by
  have:=W.1.length_eq;rw[Al0,Bi0,Bi0] at this;simp at this;omega
 have bl:=xv4 k l xs (by omega);rw[ll,show k+(m-k)=m by omega] at bl;have e1:(xs.extract k n).toList++(xs.extract n m).toList=(xs.toList.drop k).take (m-k):=by
  rw[zh9 (by omega),zh9 hm,show m-k=(n-k)+(m-n) by omega,List.take_add,List.drop_drop,show k+(n-k)=n by omega]
 have W1:=W.1;rw[e1] at W1;refine⟨?_,xg4 ?_⟩
 ·rw[Array.perm_iff_toList_perm,bl]
  have:xs.toList=xs.toList.take k++((xs.toList.drop k).take (m-k)++xs.toList.drop m):=by
   rw[show m=k+(m-k) by omega,<-List.drop_drop,show k+(m-k)-k=m-k by omega,List.take_append_drop,List.take_append_drop]
  refine List.Perm.trans (List.Perm.append_left _ (List.Perm.append_right _ W1)) ?_;rw[<-this]
 ·rw[bl]
  have up1:∀{p q:Nat},q<=xs.size->Up κ xs p q->((xs.toList.drop p).take (q-p)).Pairwise (le κ):=fun {p q} hq u=>by
   rw[List.pairwise_iff_getElem];intro i j hi hj hij;rw[Bc0,List.length_drop,Bi0] at hi hj;have:=u (p+i) (p+j) (by omega) (by omega) (by omega);rw[zk8 (by omega),zk8 (by omega)] at this;simpa [List.getElem_drop,List.getElem_take] using this
  have lm:∀x∈l,∃j,k<=j/\j<m/\ky κ x=KK κ xs j:=fun x hx=>by
   obtain⟨j,h1,h2,_,e⟩:=xz9 (κ:=κ) (W1.mem_iff.mp hx);exact⟨j,h1,by omega,e⟩
  refine Bg0.mpr ⟨?_,Bg0.mpr ⟨W.2,?_,fun x hx y hy=>?_⟩,fun x hx y hy=>?_⟩
  ·have:=up1 (p:=0) (q:=k) (by omega) (fun i j g1 g2 g3=>u1 i j g1 g2 (by omega))
   simpa using this
  ·have:=up1 (p:=m) (q:=xs.size) (Ac0 _) (fun i j g1 g2 g3=>u2 i j (by omega) g2 g3)
   rwa [Bt0 (by simp)] at this
  ·obtain⟨i,h1,h2,e⟩:=lm x hx
   obtain⟨j,h3,h4,e2⟩:=zt8 (κ:=κ) hy;show κ.kle (ky κ x) (ky κ y);rw[e,e2];by_cases hi:i<n
   ·exact c2 i hi j h3 h4
   ·exact u2 i j (by omega) (by omega) h4
  ·obtain⟨i,h1,h2,e⟩:=zy4 (κ:=κ) hx
   show κ.kle (ky κ x) (ky κ y);rw[e];rcases As0.mp hy with hy | hy
   ·obtain⟨j,h3,h4,e2⟩:=lm y hy
    rw[e2];by_cases hj:j<n
    ·exact u1 i j (Ak0 _) (by omega) hj
    ·exact c1 i h1 j (by omega) (by omega)
   ·obtain⟨j,h3,h4,e2⟩:=zt8 (κ:=κ) hy
    rw[e2];exact c1 i h1 j (by omega) h4
theorem wd2 {xs:Array Keyed} {n:Nat} (h0:0<n) (hn:n<xs.size) (u1:Up κ xs 0 n) (u2:Up κ xs n xs.size) (h:κ.kle (KK κ xs (n-1)) (KK κ xs n)):Up κ xs 0 xs.size:=fun i j g1 g2 g3=>by
 by_cases hj:j<n
 ·exact u1 i j g1 g2 hj
 ·by_cases hi:n<=i
  ·exact u2 i j hi g2 g3
  ·exact KeyOrd.kle_trans (u1 i (n-1) g1 (by omega) (by omega)) (KeyOrd.kle_trans h (u2 n j (Ac0 _) (by omega) g3))
theorem vh3 (C:Cmp prog w A E s κ knd) (ka:KeysOf κ a₀) {base n j:Nat} (ua:Up κ a₀ base (base+n)) (hn:base+n<=a₀.size) (hj:j<a₀.size):Cut prog w A E s knd false a₀[j] a₀ base n (fun i=>!κ.blt (KK κ a₀ j) (KK κ a₀ (base+i))) where
 far:=fun i st Q hi hk h=>by
  unfold far;refine wpS_bind (ze2 (by omega) ?_);show wpS _ _ _ _ (lt' a₀[j] a₀[base+i] >>= fun x=>pure (x.map (!·))) Q st;exact wpS_bind (yi5 C hk ka ka hj (by omega) (wpS_pure h))
 mono:=fun i k h1 h2 h=>by
  have h:κ.blt (KK κ a₀ j) (KK κ a₀ (base+k))=false:=by simpa using h
  have:=KeyOrd.kle_trans (ua (base+i) (base+k) (by omega) (by omega) (by omega)) h;have:κ.blt (KK κ a₀ j) (KK κ a₀ (base+i))=false:=this;simp[this]
theorem vh4 (C:Cmp prog w A E s κ knd) (ka:KeysOf κ a₀) {base n i:Nat} (ub:Up κ a₀ base (base+n)) (hn:base+n<=a₀.size) (hi:i<a₀.size):Cut prog w A E s knd true a₀[i] a₀ base n (fun k=>κ.blt (KK κ a₀ (base+k)) (KK κ a₀ i)) where
 far:=fun k st Q hk2 hk h=>by
  unfold far;refine wpS_bind (ze2 (by omega) ?_);show wpS _ _ _ _ (lt' a₀[base+k] a₀[i]) Q st;exact yi5 C hk ka ka (by omega) hi h
 mono:=fun p q h1 h2 h=>KeyOrd.klt_of_kle_of_klt (ub (base+p) (base+q) (by omega) (by omega) (by omega)) h
theorem xq6 {xs:Array Keyed} (h:KeysOf κ a₀) (p:xs.Perm a₀):KeysOf κ xs:=fun q hq=>h q ((Array.perm_iff_toList_perm.mp p).mem_iff.mp hq)
theorem ws4 (C:Cmp prog w A E s κ knd) (h0:KeysOf κ a₀) {n1 n2 pw:Nat} (B:Bs a₀ knd #[(0,n1,pw),(n1,n2,0)] st) (hn1:0<n1) (hn2:0<n2) (hs:n1+n2=a₀.size)
 (u1:Up κ (arrOf st) 0 n1) (u2:Up κ (arrOf st) n1 a₀.size) {Q:Bool->SortSt->Prop}
 (h:∀st',Bs a₀ knd #[(0,n1+n2,pw)] st'->Up κ (arrOf st') 0 a₀.size->Q true st'):wpS (model prog w) A E s (mergeAt' 0) Q st:=by
 rw[wx3];refine wpS_bind (wpS_get ?_);have e0:(pendingOf st)[0]?=some (0,n1,pw):=by rw[B.pend];rfl
 have e1:(pendingOf st)[0+1]?=some (n1,n2,0):=by rw[B.pend];rfl
 have e2:∀z:Nat×Nat×Nat,((pendingOf st).setIfInBounds 0 z).eraseIdxIfInBounds (0+1)=#[z]:=fun z=>by rw[B.pend];simp[Array.eraseIdxIfInBounds]
 rw[e0,e1];dsimp only;rw[e2];refine wpS_bind (ws1 ?_);have sz:=B.size;have ks:=xq6 h0 B.perm;have u2':Up κ (arrOf st) n1 (arrOf st).size:=by rw[sz];exact u2
 have B1:Bs a₀ knd #[(0,n1+n2,pw)] (setPending st #[(0,n1+n2,pw)]):=⟨B.perm,B.kind,B.fail,rfl⟩;generalize hst1:setPending st #[(0,n1+n2,pw)]=st1 at B1;have ea:arrOf st1=arrOf st:=by rw[<-hst1]
 rw[<-ea] at sz ks u1 u2' ⊢;have fin:Up κ (arrOf st1) 0 (arrOf st1).size->Q true st1:=fun u=>h st1 B1 (by rw[<-sz];exact u)
 generalize hxs:arrOf st1=xs at *;refine wpS_bind (ze2 (show n1<xs.size by omega) (wpS_bind (yi7 (vh3 C ks (base:=0) (n:=n1) (by simpa using u1) (by omega) (by omega)) B1.kind (by omega) fun k hk hlt hge=>?_)));dsimp only;simp only[Aj0] at hlt hge ⊢;have hlt:∀i,i<k->κ.kle (KK κ xs i) (KK κ xs n1):=fun i hi=>(show κ.blt (KK κ xs n1) (KK κ xs i)=false by simpa using hlt i hi)
 have hge:∀i,k<=i->i<n1->κ.blt (KK κ xs n1) (KK κ xs i)=true:=fun i h1 h2=>by simpa using hge i h1 h2
 by_cases hz:n1-k=0
 ·rw[if_pos (beq_iff_eq.mpr hz)]
  exact wpS_pure (fin (wd2 hn1 (by omega) u1 u2' (hlt _ (by omega))))
 rw[if_neg (fun z=>hz (beq_iff_eq.mp z))];have ei:k+(n1-k)-1=n1-1:=by omega
 rw[ei];refine wpS_bind (ze2 (show n1-1<xs.size by omega) (wpS_bind (yi7 (vh4 C ks (base:=n1) (n:=n2) (by rw[show n1+n2=xs.size by omega];exact u2') (by omega) (by omega)) B1.kind (by omega) fun m hm hlt2 hge2=>?_)));dsimp only;by_cases hz2:m=0
 ·rw[if_pos (beq_iff_eq.mpr hz2)]
  have:=hge2 0 (by omega) (by omega);exact wpS_pure (fin (wd2 hn1 (by omega) u1 u2' this))
 rw[if_neg (fun z=>hz2 (beq_iff_eq.mp z))];have hge2:∀j,n1+m<=j->j<xs.size->κ.kle (KK κ xs (n1-1)) (KK κ xs j):=fun j g1 g2=>by
  have:=hge2 (j-n1) (by omega) (by omega);rw[show n1+(j-n1)=j by omega] at this;exact this
 have s1:(xs.extract k n1).size=n1-k:=by simp;omega
 have s2:(xs.extract n1 (n1+m)).size=m:=by simp;omega
 have ff:∀j,j<n1-k->κ.kle (KK κ xs n1) (KK κ xs (k+j)):=fun j hj=>KeyOrd.kle_of_klt (hge _ (by omega) (by omega))
 have T:Tw prog w A E s κ knd (xs.extract k n1) (xs.extract n1 (n1+m)) st1:=by
  refine⟨⟨C,ys5 ks,ys5 ks,xl3 (by omega) u1 (Ak0 _) (Ac0 _) (by omega),xl3 (Ac0 _) u2' (Ac0 _) (by omega) (by omega),fun j hj=>?_,B1.kind⟩,fun j hj=>?_⟩
  ·rw[s2] at hj
   rw[s1,xf3 (by omega) (by omega),xf3 (by omega) (by omega),show k+(n1-k-1)=n1-1 by omega];exact KeyOrd.kle_of_klt (hlt2 j hj)
  ·rw[s1] at hj
   rw[xf3 (by omega) (by omega),xf3 (by omega) (by omega)];exact ff j hj
 have aft:∀(r:Array Keyed) (st':SortSt),zz9 st1 st'->yh4 κ (xs.extract k n1) (xs.extract n1 (n1+m)) r.toList->wpS (model prog w) A E s (do
  modify fun v=>setArr v (back k r.toList (arrOf v))
  return (failedOf (<-get)).isNone) Q st':=fun r st' l W=>by
  have J:=wy4 (by omega) (by omega) (by omega) W u1 u2' (fun i hi j g1 g2=>KeyOrd.kle_trans (hlt i hi) (u2' n1 j (Ac0 _) g1 g2)) (fun i hi j g1 g2=>KeyOrd.kle_trans (u1 i (n1-1) (Ak0 _) (by omega) (by omega)) (hge2 j g1 g2));refine wpS_bind (wpS_modify (wpS_bind (wpS_get ?_)));have ef:failedOf st'=none:=l.fail.trans B1.fail;have ea2:arrOf st'=xs:=l.arr.trans hxs;have e3:(failedOf (setArr st' (back k r.toList (arrOf st')))).isNone=true:=by show (failedOf st').isNone=true;rw[ef];rfl
  rw[e3];refine wpS_pure (h _ ⟨?_,l.kind.trans B1.kind,ef,l.pend.trans B1.pend⟩ ?_)
  ·show (back k r.toList (arrOf st')).Perm a₀
   rw[ea2];have:=B1.perm;rw[hxs] at this;exact J.1.trans this
  ·show Up κ (back k r.toList (arrOf st')) 0 a₀.size
   rw[ea2];have:=J.2;rwa [xv3,sz] at this
 by_cases hw:n1-k<=m
 ·rw[if_pos hw]
  refine wpS_bind (ws2 T.toTwo (by omega) (by omega) (T.hf 0 (by omega)) aft)
 ·rw[if_neg hw]
  refine wpS_bind (ws3 T (by omega) (by omega) aft)
end
end Ts
end
section
namespace Ts
open PySem PyProof.Rows
section
variable {prog:Program} {w:World} {A:Around} {E:Value->Shared->Prop} {s:Shared} {κ:KeyKind} {knd:SortKind} {a₀:Array Keyed} {st:SortSt}
theorem wo4 {n:Nat} (h2:2<=n) (h:n<128):∃m,minRun' n n 0=m/\1<=m/\m<=n/\n<=2*m:=by
 obtain⟨f,rfl⟩:∃f,n=f+1+1:=⟨n-2,by omega⟩;rw[minRun'_succ];by_cases h64:f+1+1<64
 ·rw[if_pos h64]
  exact⟨_,rfl,by omega,by omega,by omega⟩
 ·rw[if_neg h64,minRun'_succ,if_pos (by omega)]
  exact⟨_,rfl,by omega,by omega,by omega⟩
theorem wg7 {xs ys:Array Keyed} {lo hi i:Nat} (o:Out xs ys lo hi) (h:i<lo\/hi<=i):KK κ ys i=KK κ xs i:=KK_congr (o i h)
theorem Up.out {xs ys:Array Keyed} {lo hi n:Nat} (u:Up κ xs 0 n) (o:Out xs ys lo hi) (h:n<=lo):Up κ ys 0 n:=fun i j g1 g2 g3=>by
 rw[wg7 o (.inl (by omega)),wg7 o (.inl (by omega))];exact u i j g1 g2 g3
noncomputable def vh9 (κ:KeyKind) (a₀:Array Keyed) (knd:SortKind) (m x lo:Nat) (st:SortSt):Prop:=
 (x=0/\lo=0/\Bs a₀ knd #[] st)\/
 (x=1/\lo<a₀.size/\m<=lo/\Bs a₀ knd #[(0,lo,0)] st/\Up κ (arrOf st) 0 lo)\/
 (1<=x/\lo=a₀.size/\∃pw,Bs a₀ knd #[(0,a₀.size,pw)] st/\Up κ (arrOf st) 0 a₀.size)\/
 (2<=x/\lo=a₀.size/\∃n1 n2 pw,0<n1/\0<n2/\n1+n2=a₀.size/\Bs a₀ knd #[(0,n1,pw),(n1,n2,0)] st/\Up κ (arrOf st) 0 n1/\Up κ (arrOf st) n1 a₀.size)
noncomputable def xf7 (κ:KeyKind) (a₀:Array Keyed) (knd:SortKind) (st:SortSt):Prop:=
 (∃pw,Bs a₀ knd #[(0,a₀.size,pw)] st/\Up κ (arrOf st) 0 a₀.size)\/
 ∃n1 n2 pw,0<n1/\0<n2/\n1+n2=a₀.size/\Bs a₀ knd #[(0,n1,pw),(n1,n2,0)] st/\Up κ (arrOf st) 0 n1/\Up κ (arrOf st) n1 a₀.size
theorem Bs.push {P:Array (Nat×Nat×Nat)} (B:Bs a₀ knd P st) (z:Nat×Nat×Nat):Bs a₀ knd (P.push z) (setPending st ((pendingOf st).push z)):=⟨B.perm,B.kind,B.fail,by show (pendingOf st).push z=_;rw[B.pend]⟩
theorem wt3 {m n:Nat} (B:Bs a₀ knd #[] st) (h1:m<=n) (hm:1<=m) (h2:n<=a₀.size) (u:Up κ (arrOf st) 0 (0+n)):vh9 κ a₀ knd m (0+1) (0+n) (setPending st ((pendingOf st).push (0,n,0))):=by
 have B2:=B.push (0,n,0);simp only[Aj0] at u ⊢;by_cases hn:n=a₀.size
 ·subst hn
  exact .inr (.inr (.inl ⟨by omega,rfl,0,B2,u⟩))
 ·exact .inr (.inl ⟨rfl,by omega,h1,B2,u⟩)
theorem wh3 (C:Cmp prog w A E s κ knd) (h0:KeysOf κ a₀) (B:Bs a₀ knd #[] st) (h2:2<=a₀.size) (h128:a₀.size<128) {Q:Unit->SortSt->Prop}
 (h:∀st',(arrOf st').Perm a₀->failedOf st'=none->Up κ (arrOf st') 0 a₀.size->Q () st'):wpS (model prog w) A E s sortRuns' Q st:=by
 rw[sortRuns'_eq];refine wpS_bind (wpS_get ?_);dsimp only;obtain⟨m,em,hm1,hm2,hm3⟩:=wo4 h2 h128;simp only[B.size,em];refine wpS_bind (wpS_mono (wpS_forRange (I:=fun x c st'=>∃lo,c=(none,lo)/\vh9 κ a₀ knd m x lo st') (Q:=fun c st'=>∃lo,c=(none,lo)/\xf7 κ a₀ knd st') ?step ?fin ⟨0,rfl,.inl ⟨rfl,rfl,B⟩⟩) ?post);case fin=>
  rintro c st' ⟨lo,rfl,R⟩;rcases R with⟨hx,_,_⟩ | ⟨hx,_,_⟩ | ⟨_,_,R⟩ | ⟨_,_,R⟩
  ·omega
  ·omega
  ·exact⟨lo,rfl,.inl R⟩
  ·exact⟨lo,rfl,.inr R⟩
 case step=>
  rintro x c st' _ hx ⟨lo,rfl,R⟩;dsimp only;rcases R with⟨rfl,rfl,B1⟩ | ⟨rfl,hlo,hml,B1,u1⟩ | ⟨_,rfl,R⟩ | ⟨_,rfl,R⟩
  ·rw[if_neg (by omega)]
   refine wpS_bind (yd7 C h0 B1 (by omega) (by omega) fun n st2 B2 hn1 hn2 un o=>?_);dsimp only;by_cases hlt:n<m
   ·rw[if_pos hlt]
    refine wpS_bind (wpS_lift (wpAny_rule ⟨rfl,?_⟩));rw[Nat.sub_zero,Nat.min_eq_right hm2];refine wpS_bind (yp0 C h0 B2 (by omega) (by omega) un fun st3 B3 u3 o3=>?_);simp only[Bool.not_true,By0,if_false];refine wpS_bind (wpS_get ?_);have hb:(pendingOf st3).back?=none:=by rw[B3.pend];rfl
    rw[hb];dsimp only;exact wpS_bind (wpS_modify (wpS_pure ⟨_,rfl,wt3 B3 (Ac0 _) hm1 hm2 u3⟩))
   ·rw[if_neg hlt]
    refine wpS_bind (wpS_get ?_);have hb:(pendingOf st2).back?=none:=by rw[B2.pend];rfl
    rw[hb];dsimp only;exact wpS_bind (wpS_modify (wpS_pure ⟨_,rfl,wt3 B2 (by omega) hm1 (by omega) un⟩))
  ·rw[if_neg (by omega)]
   have aft:∀(st2:SortSt) (n:Nat),n=a₀.size-lo->Bs a₀ knd #[(0,lo,0)] st2->Up κ (arrOf st2) lo (lo+n)->Up κ (arrOf st2) 0 lo->∀pw,vh9 κ a₀ knd m (1+1) (lo+n) (setPending (setPending st2 ((pendingOf st2).modify ((pendingOf st2).size-1) fun (st,len,_)=>(st,len,pw))) ((pendingOf (setPending st2 ((pendingOf st2).modify ((pendingOf st2).size-1) fun (st,len,_)=>(st,len,pw)))).push (lo,n,0))):=fun st2 n hn B2 u2 u1 pw=>by
    subst hn;rw[show lo+(a₀.size-lo)=a₀.size by omega] at u2 ⊢;refine .inr (.inr (.inr ⟨by omega,rfl,lo,a₀.size-lo,pw,by omega,by omega,by omega,⟨B2.perm,B2.kind,B2.fail,?_⟩,u1,u2⟩));show ((pendingOf st2).modify ((pendingOf st2).size-1) _).push _=_;rw[B2.pend];rfl
   have brk:∀(st2:SortSt) (n pw:Nat) (Q':ForInStep (Option Unit×Nat)->SortSt->Prop),Bs a₀ knd #[(0,lo,0)] st2->True:=fun _ _ _ _ _=>trivial
   refine wpS_bind (yd7 C h0 B1 (by omega) (by omega) fun n st2 B2 hn1 hn2 un o=>?_);have u1':=u1.out o (Ac0 _);dsimp only;by_cases hlt:n<m
   ·rw[if_pos hlt]
    refine wpS_bind (wpS_lift (wpAny_rule ⟨rfl,?_⟩));rw[Nat.min_eq_left (show a₀.size-lo<=m by omega)];refine wpS_bind (yp0 C h0 B2 (by omega) (by omega) un fun st3 B3 u3 o3=>?_);have u1'':=u1'.out o3 (Ac0 _);simp only[Bool.not_true,By0,if_false];refine wpS_bind (wpS_get ?_);have hb:(pendingOf st3).back?=some (0,lo,0):=by rw[B3.pend];rfl
    rw[hb];dsimp only;refine wpS_bind (wpS_mono (wpS_forRange (I:=fun _ c st4=>c=(none,())/\st4=st3) (Q:=fun c st4=>c=(none,())/\st4=st3) (fun y c st4 hy1 hy2 hI=>?_) (fun c st4 hI=>hI) ⟨rfl,rfl⟩) fun c st4 hI=>?_)
    ·obtain⟨e1,e2⟩:=hI
     subst e1;rw[e2];refine wpS_bind (wpS_get ?_);have e3:(pendingOf st3).size=1:=by rw[B3.pend];rfl
     rw[if_neg (show ¬(pendingOf st3).size>1 by omega)];exact wpS_pure ⟨rfl,rfl⟩
    ·obtain⟨e1,e2⟩:=hI
     subst e1 e2;dsimp only;exact wpS_bind (wpS_modify (wpS_bind (wpS_modify (wpS_pure ⟨_,rfl,aft _ _ rfl B3 u3 u1'' _⟩))))
   ·rw[if_neg hlt]
    refine wpS_bind (wpS_get ?_);have hb:(pendingOf st2).back?=some (0,lo,0):=by rw[B2.pend];rfl
    rw[hb];dsimp only;refine wpS_bind (wpS_mono (wpS_forRange (I:=fun _ c st4=>c=(none,())/\st4=st2) (Q:=fun c st4=>c=(none,())/\st4=st2) (fun y c st4 hy1 hy2 hI=>?_) (fun c st4 hI=>hI) ⟨rfl,rfl⟩) fun c st4 hI=>?_)
    ·obtain⟨e1,e2⟩:=hI
     subst e1;rw[e2];refine wpS_bind (wpS_get ?_);have e3:(pendingOf st2).size=1:=by rw[B2.pend];rfl
     rw[if_neg (show ¬(pendingOf st2).size>1 by omega)];exact wpS_pure ⟨rfl,rfl⟩
    ·obtain⟨e1,e2⟩:=hI
     subst e1 e2;dsimp only;exact wpS_bind (wpS_modify (wpS_bind (wpS_modify (wpS_pure ⟨_,rfl,aft _ _ (by omega) B2 un u1' _⟩))))
  ·rw[if_pos (Ac0 _)]
   exact wpS_pure ⟨_,rfl,.inl R⟩
  ·rw[if_pos (Ac0 _)]
   exact wpS_pure ⟨_,rfl,.inr R⟩
 case post=>
  rintro c st' ⟨lo,rfl,R⟩;dsimp only;refine wpS_bind (wpS_mono (wpS_forRange (I:=fun x c st''=>c=(none,())/\((x=0/\xf7 κ a₀ knd st'')\/∃pw,Bs a₀ knd #[(0,a₀.size,pw)] st''/\Up κ (arrOf st'') 0 a₀.size)) (Q:=fun c st''=>c=(none,())/\∃pw,Bs a₀ knd #[(0,a₀.size,pw)] st''/\Up κ (arrOf st'') 0 a₀.size) ?_ ?_ ⟨rfl,.inl ⟨rfl,R⟩⟩) ?_)
  ·rintro x c st'' _ _ ⟨rfl,R⟩
   refine wpS_bind (wpS_get ?_);have one:(∃pw,Bs a₀ knd #[(0,a₀.size,pw)] st''/\Up κ (arrOf st'') 0 a₀.size)->(pendingOf st'').size=1:=fun ⟨pw,B,_⟩=>by rw[B.pend];rfl
   rcases R with⟨_,R | ⟨n1,n2,pw,g1,g2,g3,B3,u1,u2⟩⟩ | R
   ·rw[if_pos (by rw[one R];exact Ac0 1)]
    exact wpS_pure ⟨rfl,R⟩
   ·have e3:(pendingOf st'').size=2:=by rw[B3.pend];rfl
    rw[if_neg (by omega),e3];show wpS _ _ _ _ (mergeAt' 0 >>= _) _ _;refine wpS_bind (ws4 C h0 B3 g1 g2 g3 u1 u2 fun st4 B4 u4=>?_);rw[g3] at B4;exact wpS_pure ⟨rfl,.inr ⟨pw,B4,u4⟩⟩
   ·rw[if_pos (by rw[one R];exact Ac0 1)]
    exact wpS_pure ⟨rfl,R⟩
  ·rintro c st'' ⟨rfl,R⟩
   rcases R with⟨hx,_⟩ | R
   ·omega
   ·exact⟨rfl,R⟩
  ·rintro c st'' ⟨rfl,pw,B,u⟩
   exact wpS_pure (h _ B.perm B.fail u)
end
end Ts
end
section
namespace Ts
open PySem PyProof PyProof.Rows
noncomputable def yn0 (h:Heap):Value->Option (Int×Int)
 | .ref a=>match h.get? a with
   | some o=>match o.data with
     | .seq xs _=>match xs.toList with
       | [.int x _,.int y _]=>some (x,y)
       | _=>none
     | _=>none
   | none=>none
 | _=>none
noncomputable def zi1 (h:Heap) (v:Value) (p:Int×Int):Prop:=∃a o n t u,v=.ref a/\h.get? a=some o/\o.cls=.type "tuple"/\o.data=.seq #[.int p.1 t,.int p.2 u] n
theorem zi1.key {h:Heap} {v:Value} {p:Int×Int} (z:zi1 h v p):yn0 h v=some p:=by
 obtain⟨a,o,n,t,u,rfl,g,_,d⟩:=z;simp[yn0,g,d]
set_option tactic.hygienic true in
theorem yk1 {h:Heap} {v:Value} {p:Int×Int} (z:yn0 h v=some p):∃a o n t u,v=.ref a/\h.get? a=some o/\o.data=.seq #[.int p.1 t,.int p.2 u] n:=by
 unfold yn0 at z;split at z
 ·rename_i a
  split at z
  ·rename_i o g
   split at z
   ·rename_i xs n d
    split at z
    ·rename_i x t y u e
     cases z;refine⟨a,o,n,t,u,rfl,g,?_⟩;rw[d];congr 1;exact Array.toList_inj.mp e
    ·cases z
   ·cases z
  ·cases z
 ·cases z
noncomputable def lx (a b:Int×Int):Bool:=decide (a.1<b.1\/a.1=b.1/\a.2<b.2)
theorem ys0 {a b:Int×Int}:lx a b=true↔(a.1<b.1\/a.1=b.1/\a.2<b.2):=decide_eq_true_iff
theorem yr9 {a b:Int×Int}:lx a b=false↔¬(a.1<b.1\/a.1=b.1/\a.2<b.2):=decide_eq_false_iff_not
noncomputable def wi3 (h:Heap):KeyKind where
 α:=Int×Int
 blt:=lx
 irrefl:=fun a=>yr9.mpr (by omega)
 trans:=fun a b c h1 h2=>by rw[ys0] at *;omega
 negTrans:=fun a b c h1=>by rw[ys0,ys0];rw[ys0] at h1;omega
 total:=fun a b h1 h2=>by rw[yr9] at *;exact Prod.ext (by omega) (by omega)
 keyOf:=yn0 h
 dflt:=(0,0)
section
variable {prog:Program} {w:World} {A:Around} {E:Value->Shared->Prop} {s:Shared}
theorem ys9 (f:Bool) (x y:Value):keyLt' (tuples' f) x y=(do
 let us <-Builtin.List.listItems x
 let vs <-Builtin.List.listItems y
 for ((p,q),i) in (us.toList.zip vs.toList).zipIdx do
  if !(<-eqBool p q) then return <-oneLt' (f&&i == 0) p q
 return decide (us.size<vs.size)):=rfl
theorem wx5 {x y:Int} {t u:Tok} {Q:Bool->Shared->Prop} (h:Q (decide (x<y)) s):wpAny (model prog w) A (oneLt' false (.int x t) (.int y u)) Q E s:=by
 rw[oneLt'_eq];simp only[By0,if_false];refine wpAny_bind (wpAny_richCompare_same (id:="int.__lt__") (typeIs_int s x t) (typeIs_int s y u) slot_int_lt (call_int_lt ⟨by simp,?_⟩));exact wpAny_truthy_bool h
theorem wc4:Cmp prog w A E s (wi3 s.heap) (tuples' true):=by
 intro st x y a b Q hk hx hy h;obtain⟨i,o,n,t,u,e1,g1,d1⟩:=yk1 hx;obtain⟨j,o2,n2,t2,u2,e2,g2,d2⟩:=yk1 hy;rw[lt'_eq];refine wpS_bind (wpS_get ?_);rw[hk,ys9,e1,e2];refine wpS_bind (wpS_lift (wpAny_attempt (wpAny_bind (listItems_at g1 d1 (wpAny_bind (listItems_at g2 d2 ?_))))));simp only[List.zip_cons_cons,List.zipIdx_cons,List.forIn_cons,List.zip_nil_left,List.zipIdx_nil,List.forIn_nil];refine wpAny_bind (wpAny_bind (wpAny_bind (wpAny_eqBool_int ?_)));by_cases c1:a.1=b.1
 ·rw[if_neg (by simp[c1])]
  refine wpAny_pure (wpAny_bind (wpAny_bind (wpAny_eqBool_int ?_)));by_cases c2:a.2=b.2
  ·rw[if_neg (by simp[c2])]
   refine wpAny_pure (wpAny_pure (wpAny_pure ⟨rfl,wpS_pure ?_⟩));rw[show (wi3 s.heap).blt a b=false from yr9.mpr (by omega)] at h;exact h
  ·rw[if_pos (by simp[c2])]
   refine wpAny_bind (wx5 (wpAny_pure (wpAny_pure (wpAny_pure ⟨rfl,wpS_pure ?_⟩))));rw[show (wi3 s.heap).blt a b=decide (a.2<b.2) from decide_eq_decide.mpr (by omega)] at h;exact h
 ·rw[if_pos (by simp[c1])]
  refine wpAny_bind (oneLt_int (wpAny_pure (wpAny_pure (wpAny_pure ⟨rfl,wpS_pure ?_⟩))));rw[show (wi3 s.heap).blt a b=decide (a.1<b.1) from decide_eq_decide.mpr (by omega)] at h;exact h
theorem xk8 {α β:Type} {f:α->Sem β} {g:α->β}:∀(l:List α) (Q:List β->Shared->Prop),(∀x∈l,∀R:β->Shared->Prop,R (g x) s->wpAny (model prog w) A (f x) R E s)->Q (l.map g) s->wpAny (model prog w) A (l.mapM f) Q E s
 | [],Q,_,h=>by rw[List.mapM_nil];exact wpAny_pure h
 | x::l,Q,k,h=>by
   rw[List.mapM_cons];exact wpAny_bind (k x (Cc0 ..) _ (wpAny_bind (xk8 l _ (fun y hy=>k y (Bp0 _ hy)) (wpAny_pure h))))
noncomputable def fst? (h:Heap) (v:Value):Option Value:=match v with
 | .ref a=>match h.get? a with
   | some o=>match o.data with
     | .seq xs _=>xs[0]?
     | _=>none
   | none=>none
 | _=>none
theorem wb7 (v:Value):firstOfTuple' v=(do
 if (<-typeOf v) != .type "tuple" then return none
 return (<-Builtin.List.listItems v)[0]?):=rfl
theorem zi1.fst {h:Heap} {v:Value} {p:Int×Int} (z:zi1 h v p):∃t,fst? h v=some (.int p.1 t):=by
 obtain⟨a,o,n,t,u,rfl,g,_,d⟩:=z;exact⟨t,by simp[fst?,g,d]⟩
theorem xq5 {vs:List Value} (hv:∀v∈vs,∃p,zi1 s.heap v p) (h0:vs≠[]) {Q:SortKind->Shared->Prop} (h:Q (tuples' true) s):wpAny (model prog w) A (keyKind' vs.toArray) Q E s:=by
 rw[keyKind'_eq,List.mapM_toArray];refine wpAny_bind ?_;rw[map_eq_pure_bind];refine wpAny_bind (xk8 (g:=fst? s.heap) vs _ (fun v m R hR=>?_) (wpAny_pure ?_))
 ·obtain⟨p,z⟩:=hv v m
  obtain⟨a,o,n,t,u,rfl,g,c,d⟩:=z;rw[wb7];refine wpAny_bind (wpAny_typeOf (T:="tuple") ⟨o,g,c⟩ ?_);rw[if_neg (by simp)];refine wpAny_bind (listItems_at g d (wpAny_pure ?_));have:fst? s.heap (.ref a)=some (.int p.1 t):=by simp[fst?,g,d]
  rw[this] at hR;exact hR
 ·have all:((vs.map (fst? s.heap)).toArray.all (·.isSome))=true:=by
   simp only[List.all_toArray,List.all_map,List.all_eq_true];intro v m;obtain⟨p,z⟩:=hv v m;obtain⟨t,e⟩:=z.fst;simp[e]
  rw[if_pos all];refine wpAny_bind (wpAny_rule ?_);have ex:∀us:List Value,(∀v∈us,∃p,zi1 s.heap v p)->∃ns:List Int,IntsAre ((us.map (fst? s.heap)).filterMap id) ns/\ns.length=us.length:=by
   intro us;induction us with
   | nil=>intro _;exact⟨[],.nil,rfl⟩
   | cons v us ih=>
     intro k;obtain⟨ns,i,l⟩:=ih fun x hx=>k x (Bp0 _ hx)
     obtain⟨p,z⟩:=k v (Cc0 ..);obtain⟨t,e⟩:=z.fst;refine⟨p.1::ns,?_,by simp[l]⟩;rw[Ao0,e];show IntsAre (Value.int p.1 t::(us.map (fst? s.heap)).filterMap id) _;exact .cons _ _ i
  obtain⟨ns,hi,hl⟩:=ex vs hv;have et:(vs.map (fst? s.heap)).toArray.filterMap id=((vs.map (fst? s.heap)).filterMap id).toArray:=by simp
  rw[et];cases hc:(vs.map (fst? s.heap)).filterMap id with
  | nil=>
    rw[hc] at hi;cases hi;cases vs with
    | nil=>exact absurd rfl h0
    | cons _ _=>simp at hl
  | cons v1 zx5=>
    rw[hc] at hi;rw[oneTypeOnly'_eq,List.mapM_toArray,mapM_typeOf_ints hi];simp only[map_pure,pure_bind];have hall:((List.map (fun _=>Value.type "int") (v1::zx5)).toArray.all fun x=>x == Value.type "int")=true:=by
     simp only[List.all_toArray,List.all_map,List.all_eq_true];intro _ _;rfl
    have h1:(List.map (fun _=>Value.type "int") (v1::zx5)).toArray[0]?=some (Value.type "int"):=by simp
    rw[h1];simp only[hall,if_true,pure_bind];exact wpAny_pure h
end
end Ts
end
section
namespace Ts
open PySem PyProof PyProof.Rows
noncomputable abbrev yh6 (h:Heap) (v:Value):Int×Int:=(yn0 h v).getD (0,0)
noncomputable def lxle (a b:Int×Int):Prop:=a.1<b.1\/a.1=b.1/\a.2<=b.2
theorem wn3 {a b:Int×Int} (h:lx b a=false):lxle a b:=by rw[yr9] at h;unfold lxle;omega
section
variable {prog:Program} {w:World} {A:Around} {E:Value->Shared->Prop} {s:Shared}
noncomputable abbrev Up1 (h:Heap) (a:Addr) (vs:List Value):Heap:=((h.update a (Obj.mapSeq fun _=>#[])).push (seqObj "tuple" vs.toArray 0)).push (seqObj "list" #[] 0)
theorem wt1 {h:Heap} {a b:Addr} {o:Obj} {vs:List Value} (g:h.get? b=some o) (ne:b≠a):(Up1 h a vs).get? b=some o:=by
 have hb:=Heap.lt_size g;unfold Up1;rw[Heap.get?_push_ne _ _ _ (by rw[size_push',Heap.size_update];exact Ar0 (Nat.lt_succ_of_lt hb)),Heap.get?_push_ne _ _ _ (by rw[Heap.size_update];exact Ar0 hb),Heap.get?_update_ne _ _ _ _ ne];exact g
theorem zi1.up1 {h:Heap} {a:Addr} {n:Nat} {vs us:List Value} (o1:h.get? a=some (seqObj "list" vs.toArray n)) {v:Value} {p:Int×Int} (z:zi1 h v p):zi1 (Up1 h a us) v p:=by
 obtain⟨b,o,m,t,u,rfl,g,c,d⟩:=z;refine⟨b,o,m,t,u,rfl,wt1 g fun e=>?_,c,d⟩;subst e;rw[o1] at g;cases g;exact absurd (Value.type.inj c) (by decide)
theorem wo0 {h:Heap} {a:Addr} {n:Nat} {vs us:List Value} (o1:h.get? a=some (seqObj "list" vs.toArray n)) {v:Value} (z:∃p,zi1 h v p):yn0 (Up1 h a us) v=yn0 h v:=by
 obtain⟨p,z⟩:=z;rw[z.key,(z.up1 o1).key]
theorem xm2 {a:Addr} {vs:List Value} {n:Nat} {P:Fin->Shared->Prop} (o1:s.heap.get? a=some (seqObj "list" vs.toArray n)) (hv:∀v∈vs,∃p,zi1 s.heap v p) (h128:vs.length<128)
 (h:∀out:Array Value,out.toList.Perm vs->out.toList.Pairwise (fun x y=>lxle (yh6 s.heap x) (yh6 s.heap y))->P (.done (.ret .none)) { s with heap:=sortedHeap s.heap a vs out }) :
 wpAny (model prog w) A (Builtin.«list.sort» ⟨[.ref a],[]⟩) P E s:=by
 rw[list_sort_plain];have la:a<s.heap.objs.size:=Heap.lt_size o1;refine wpAny_bind (listItems_at o1 rfl ?_);refine wpAny_bind (listUpdate_at o1 rfl ?_);obtain⟨e1,o2⟩:∃e1,(s.heap.update a (Obj.mapSeq fun _=>#[])).get? a=some (seqObj "list" #[] e1):=⟨_,get?_update_seq o1 (fun _=>#[])⟩;refine wpAny_bind (seqEpoch_at o2 rfl ?_);refine wpAny_bind (wpAny_newTuple (wpAny_bind (wpAny_newList (wpAny_holding ?_))));have o3:(Up1 s.heap a vs).get? a=some (seqObj "list" #[] e1):=by
  unfold Up1;rw[Heap.get?_push_ne _ _ _ (by rw[size_push',Heap.size_update];exact Ar0 (Nat.lt_succ_of_lt la)),Heap.get?_push_ne _ _ _ (by rw[Heap.size_update];exact Ar0 la)];exact o2
 show wpAny (model prog w) A _ P E { s with heap:=Up1 s.heap a vs };dsimp only;have sz:vs.toArray.size=vs.length:=by simp
 have fin:∀st':SortSt,(arrOf st').Perm (pairsOf vs)->Up (wi3 (Up1 s.heap a vs)) (arrOf st') 0 (pairsOf vs).size->P (.done (.ret .none)) { s with heap:=sortedHeap s.heap a vs ((arrOf st').map (·.2)) }:=by
  intro st' hp hs;have hl:(arrOf st').toList.Perm (vs.zip vs):=by rw[<-pairsOf_toList];exact Array.perm_iff_toList_perm.mp hp
  have hm:∀p,p∈(arrOf st').toList->p.1=p.2/\p.1∈vs:=fun p hp'=>mem_zip_self (hl.mem_iff.mp hp')
  refine h _ ?_ ?_
  ·rw[Array.toList_map]
   have:=hl.map (·.2);rwa [List.map_snd_zip (Ac0 _)] at this
  ·rw[Array.toList_map,List.pairwise_map,List.pairwise_iff_getElem]
   intro i j hi hj hij;have hi':i<(arrOf st').size:=by simpa using hi
   have hj':j<(arrOf st').size:=by simpa using hj
   have h1:=hs i j (Ak0 _) (Nat.le_of_lt hij) (by rw[<-hp.size_eq];exact hj');rw[zk8 hi',zk8 hj'] at h1;have k:∀t (ht:t<(arrOf st').size),ky (wi3 (Up1 s.heap a vs)) (arrOf st')[t]=yh6 s.heap (arrOf st')[t].2:=fun t ht=>by
    have m:=hm _ (Array.getElem_mem_toList ht);show (yn0 (Up1 s.heap a vs) (arrOf st')[t].1).getD (0,0)=_;rw[wo0 o1 (hv _ m.2),m.1]
   rw[k i hi',k j hj'] at h1;have:=wn3 h1;simpa using this
 by_cases h2:vs.toArray.size<2
 ·rw[if_pos h2,if_pos h2]
  refine wpAny_bind (wpAny_pure ?_);rw[StateT.run_pure];refine wpAny_bind (wpAny_pure ?_);dsimp only;refine wpAny_bind (seqEpoch_at o3 rfl ?_);refine wpAny_bind (listUpdate_at o3 rfl ?_ (hsz2:=Be0 (Nat.le_of_eq ((Array.size_map ..).trans (pairsOf_size _))) (by rw[sizeLine_eq];omega)));simp only[bne_self_eq_false,By0,if_false];exact wpAny_pure (fin (SortSt.mk' general' (vs.toArray.zip vs.toArray) #[] 7 none) (Array.Perm.refl _) (Up.one (by rw[pairsOf_size];omega)))
 ·rw[if_neg h2,if_neg h2]
  refine wpAny_bind (xq5 (s:={ s with heap:=Up1 s.heap a vs }) (fun v m=>(hv v m).imp fun p z=>z.up1 o1) (fun e=>by subst e;simp at h2) ?_);refine wpAny_bind (wpAny_mono (wh3 (s:={ s with heap:=Up1 s.heap a vs }) (a₀:=pairsOf vs) (st:=SortSt.mk' (tuples' true) (vs.toArray.zip vs.toArray) #[] 7 none) (Q:=fun _ st'=>(arrOf st').Perm (pairsOf vs)/\failedOf st'=none/\Up (wi3 (Up1 s.heap a vs)) (arrOf st') 0 (pairsOf vs).size) wc4 (fun p hp=>?_) ⟨Array.Perm.refl _,rfl,rfl,rfl⟩ (by rw[pairsOf_size];omega) (by rw[pairsOf_size];exact h128) fun st' a1 a2 a3=>⟨a1,a2,a3⟩) ?_ fun _ _ e=>e)
  ·rw[pairsOf_toList] at hp
   obtain⟨q,z⟩:=hv _ (mem_zip_self hp).2;exact⟨q,(z.up1 o1).key⟩
  ·rintro ⟨⟨⟩,st'⟩ s' ⟨rfl,hp,hf,hs⟩
   dsimp only;refine wpAny_bind (seqEpoch_at o3 rfl ?_);refine wpAny_bind (listUpdate_at o3 rfl ?_ (hsz2:=Be0 (Nat.le_of_eq ((Array.size_map ..).trans (hp.size_eq.trans (pairsOf_size _)))) (by rw[sizeLine_eq];omega)));rw[hf];simp only[bne_self_eq_false,By0,if_false];exact wpAny_pure (fin st' hp hs)
end
end Ts
end
section
namespace L2
open PySem PySem.Spec PyProof PyProof.Rows Ts
theorem yw9 {α β:Type} {F:α->β->Prop} {bs bs':List β} (p:bs'.Perm bs):∀{as:List α},Paired F as bs->∃as',as'.Perm as/\Paired F as' bs':=by
 induction p with
 | nil=>intro as h;exact⟨as,.refl _,h⟩
 | cons x _ ih=>
   intro as h;cases h with
   | cons h1 h2=>
     obtain⟨as',p',h'⟩:=ih h2;exact⟨_,p'.cons _,.cons h1 h'⟩
 | swap x y l=>
   intro as h;cases h with
   | cons h1 h2=>cases h2 with
     | cons h3 h4=>exact⟨_,List.Perm.swap ..,.cons h3 (.cons h1 h4)⟩
 | trans _ _ ih1 ih2=>
   intro as h;obtain⟨as1,p1,h1⟩:=ih2 h;obtain⟨as2,p2,h2⟩:=ih1 h1;exact⟨as2,p2.trans p1,h2⟩
noncomputable abbrev P2:=Int×Int
noncomputable def lxB (a b:P2):Bool:=decide (a.1<b.1\/a.1=b.1/\a.2<=b.2)
noncomputable def wr5 (a:P2):List P2->List P2
 | []=>[a]
 | b::l=>if lxB a b then a::b::l else b::wr5 a l
noncomputable def zl2 (l:List P2):List P2:=l.foldr wr5 []
theorem yf7 (a:P2):∀l,(wr5 a l).Perm (a::l)
 | []=>.refl _
 | b::l=>by
   unfold wr5;split
   ·exact .refl _
   ·exact((yf7 a l).cons b).trans (List.Perm.swap ..)
theorem zm1:∀l,(zl2 l).Perm l
 | []=>.refl _
 | a::l=>(yf7 a (zl2 l)).trans ((zm1 l).cons a)
theorem xh8 {a b c:P2} (h1:lxle a b) (h2:lxle b c):lxle a c:=by unfold lxle at *;omega
theorem yf3 {a b:P2} (h1:lxle a b) (h2:lxle b a):a=b:=by unfold lxle at *;exact Prod.ext (by omega) (by omega)
set_option tactic.hygienic true in
theorem xr7 (a:P2):∀l,l.Pairwise lxle->(wr5 a l).Pairwise lxle
 | [],_=>List.pairwise_singleton _ _
 | b::l,h=>by
   have h':=Bv0.mp h;unfold wr5;split
   ·rename_i q
    have q:lxle a b:=(of_decide_eq_true q:a.1<b.1\/a.1=b.1/\a.2<=b.2);refine Bv0.mpr ⟨fun x hx=>?_,h⟩;rcases Ah0.mp hx with rfl | hx
    ·exact q
    ·exact xh8 q (h'.1 x hx)
   ·rename_i q
    have q:lxle b a:=by
     have:¬(a.1<b.1\/a.1=b.1/\a.2<=b.2):=fun z=>q (decide_eq_true z)
     unfold lxle;omega
    refine Bv0.mpr ⟨fun x hx=>?_,xr7 a l h'.2⟩;rcases Ah0.mp ((yf7 a l).mem_iff.mp hx) with rfl | hx
    ·exact q
    ·exact h'.1 x hx
theorem yb9:∀l,(zl2 l).Pairwise lxle
 | []=>List.Pairwise.nil
 | a::l=>xr7 a _ (yb9 l)
theorem wb8 {l m:List P2} (p:m.Perm l) (u:m.Pairwise lxle):m=zl2 l:=
 (p.trans (zm1 l).symm).eq_of_pairwise (fun a b _ _ h1 h2=>yf3 h1 h2) u (yb9 l)
noncomputable abbrev PrV (H:Hp):List V->List P2->Prop:=Paired fun v p=>∃b,v=.ref b/\H b=some (.tup [.int p.1,.int p.2])
section
variable {X:Cx} {S:Type} {W:Wd S} {c:Dx W} {g ga gb gc:Gr} {a b:Expr} {fa fb fc:Fn S} {pos p2:Pos}
noncomputable abbrev prD (p:P2):D:=.tup [.int p.1,.int p.2]
noncomputable def zv8:List D->Option (List P2)
 | []=>some []
 | .tup [.int x,.int y]::l=>(zv8 l).map fun r=>(x,y)::r
 | _=>none
theorem ye2:∀ps:List P2,zv8 (ps.map prD)=some ps
 | []=>rfl
 | p::ps=>by rw[Ao0];unfold zv8;rw[ye2 ps];rfl
set_option tactic.hygienic true in
theorem xb5 {K:PySem.W.Frag} {A:Addr->Prop} {H:Hp}:∀{l:List D} {vs:List V} {ps:List P2},zv8 l=some ps->IsL K A H l vs->PrV H vs ps
 | [],vs,ps,e,h=>by cases e;rw[IsL.nil.mp h];exact .nil
 | d::l,vs,ps,e,h=>by
   obtain⟨v,r,e1,i1,i2⟩:=IsL.cons.mp h;unfold zv8 at e;split at e
   ·rename_i he;cases he
   ·rename_i x y m he
    cases he;cases q:zv8 l with
    | none=>rw[q] at e;cases e
    | some rs=>
      rw[q] at e;cases e;obtain⟨b,ws,e2,hb,i3⟩:=Is.tup_iff.mp i1;obtain⟨v1,r1,e3,j1,j2⟩:=IsL.cons.mp i3;obtain⟨v2,r2,e4,j3,j4⟩:=IsL.cons.mp j2;rw[Is.int_iff.mp j1] at e3;rw[Is.int_iff.mp j3,IsL.nil.mp j4] at e4;rw[e1];refine .cons ⟨b,e2,?_⟩ (xb5 q i2);rw[hb,e3,e4]
   ·cases e
theorem wd9 {K:PySem.W.Frag} {A:Addr->Prop} {H:Hp}:∀{ps:List P2} {vs:List V},PrV H vs ps->IsL K A H (ps.map prD) vs
 | _,_,.nil=>IsL.nil.mpr rfl
 | _,_,.cons h t=>IsL.cons.mpr ⟨_,_,rfl,by
   obtain⟨b,e,hb⟩:=h;rw[e];exact Is.tup hb (IsL.cons.mpr ⟨_,_,rfl,Is.int_iff.mpr rfl,IsL.cons.mpr ⟨_,_,rfl,Is.int_iff.mpr rfl,IsL.nil.mpr rfl⟩⟩),wd9 t⟩
theorem yn1:∀ps:List P2,D.immL (ps.map prD)=true
 | []=>rfl
 | n::ns=>by simp[D.immL,D.imm,yn1 ns]
end
end L2
end
section
namespace HT
open PySem PyProof PyProof.Rows
section
variable {prog:Program} {w:World} {A:Around} {E:Value->Shared->Prop} {s:Shared}
end
end HT
namespace L2
open PySem PySem.Spec PyProof PyProof.Rows
section
variable {X:Cx} {S:Type} {W:Wd S} {c:Dx W} {g ga gb gc:Gr} {a b:Expr} {fa fb fc:Fn S} {pos p2:Pos}
end
end L2
end
section
namespace HT
open PySem PyProof PyProof.Rows Ts
section
variable {prog:Program} {w:World} {A:Around} {R:Result->Shared->Prop} {I:Addr} {fp wr:List Addr} {n:Nat} {P:Nat->Value->Prop} {St:Nat->Heap->Prop} {base:Heap}
noncomputable abbrev wr1 (base h:Heap):Prop:=∀b o,base.get? b=some o->h.get? b=some o
noncomputable def vc9 (prog:Program) (w:World) (A:Around) (base:Heap) (P:Nat->Value->Prop) (bt:Nat->Nat->Bool):Prop:=
 ∀i j u v (s:Shared) (Q:Value->Shared->Prop) (E:Value->Shared->Prop),wr1 base s.heap->P i u->P j v->Q (.bool (bt i j)) s->wpAny (model prog w) A (richCompare .Lt u v) Q E s
theorem wa0 (W:Walks prog w A.in1 I fp wr n P St) (bt:Nat->Nat->Bool) (cmp:vc9 prog w A.in1 base P bt) (B:Addr) (nf:B∉fp) (nb:base.get? B=none) (nw:∀b∈wr,base.get? b=none) :
 ∀(k j:Nat) (s:Shared) (x:Value) (c:Nat),n-(j+1)=k->j+1<=n->St (j+1) s.heap->wr1 base s.heap->P (argBest bt j) x->
 s.heap.get? B=some { cls:=.type "list",dict:=none,data:=.seq #[x,x] c,slots:=#[] }->
 (∀v h' tk,P (argBest bt (n-1)) v->(∀b o,b∉wr->b≠B->s.heap.get? b=some o->h'.get? b=some o)->R (.ok (.ret v)) { s with heap:=h',toks:=tk })->
 codeAny (model prog w) A (.builtin "min.loop" ⟨[.ref I,.none,.ref B],[]⟩) R s:=by
 have bw:B∉wr:=fun h=>nf (W.sub _ h)
 have nm:(toString "min"++toString ".loop" : String) = "min.loop":=by decide
 have keep:∀{h h':Heap},wr1 base h->(∀b o,b∉wr->h.get? b=some o->h'.get? b=some o)->wr1 base h':=fun ov kk b o e=>kk b o (fun m=>by rw[nw b m] at e;cases e) (ov b o e)
 intro k;induction k with
 | zero=>
   intro j s x c hk hj st ov px hB hR;have last:j+1=n:=by omega
   refine codeAny_builtin F.entry_min_loop ?_;rw[Around.under_plainId F.plain_min_loop _];show wpAny _ A.in1 (seqItems? (.ref B) >>= _) _ _ s;refine wpAny_bind (wpAny_seqItems hB rfl ?_);show wpAny _ A.in1 (tryCatch (pyNext (.ref I)) _ >>= _) _ _ s;refine wpAny_bind (wpAny_tryCatch (W.done s _ _ (last▸st) fun h' tk kk=>?_));have hB':=kk B _ bw hB;show wpAny _ A.in1 (updateSeq B (fun _=>#[]) >>= _) _ _ _;refine wpAny_bind (wpAny_updateSeq hB' rfl (wpAny_bind (wpAny_letGo (wpAny_pure ?_))));exact hR x _ tk (by rw[<-last];exact px) fun b o b1 b2 e=>(Ay0 _ _ (Ne.symm b2)).trans (kk b o b1 e)
 | succ k ih=>
   intro j s x c hk hj st ov px hB hR;have more:j+1<n:=by omega
   refine codeAny_builtin F.entry_min_loop ?_;rw[Around.under_plainId F.plain_min_loop _];show wpAny _ A.in1 (seqItems? (.ref B) >>= _) _ _ s;refine wpAny_bind (wpAny_seqItems hB rfl ?_);show wpAny _ A.in1 (tryCatch (pyNext (.ref I)) _ >>= _) _ _ s;refine wpAny_bind (wpAny_tryCatch (W.item (j+1) s _ _ more st fun v h' tk pv st' kk=>?_));have hB':=kk B _ bw hB;have ov':=keep ov kk;show wpAny _ A.in1 (tryCatch (holding [v,v] (richCompare .Lt v x >>= _)) _ >>= _) _ _ _;refine wpAny_bind (wpAny_tryCatch (wpAny_holding (wpAny_bind (cmp (j+1) (argBest bt j) v x _ _ _ ov' pv px ?_))));refine wpAny_bind (wpAny_holding (wpAny_truthy_bool (wpAny_bind (wpAny_letGo (wpAny_pure ?_)))));cases hb:bt (j+1) (argBest bt j) with
   | true=>
     simp only[if_true];refine wpAny_bind (wpAny_updateSeq hB' rfl (wpAny_bind (wpAny_letGo ?_)));rw[nm];refine wpAny_pure ⟨plainId_quiet F.plain_min_loop _,ih (j+1) _ v _ (by omega) more (W.frame _ _ _ st' fun b bf o e=>?_) (fun b o e=>?_) (by simp only[argBest,hb,if_true];exact pv) (Cf0 _ hB' rfl) fun v' h2 tk2 pv' k2=>?_⟩
     ·exact(Ay0 _ _ (fun h:B=b=>nf (by rw[h];exact bf))).trans e
     ·exact(Ay0 _ _ (fun h:B=b=>by rw[<-h,nb] at e;cases e)).trans (ov' b o e)
     ·exact hR v' h2 tk2 pv' fun b o b1 b2 e=>k2 b o b1 b2 ((Ay0 _ _ (Ne.symm b2)).trans (kk b o b1 e))
   | false=>
     simp only[By0,if_false];refine wpAny_bind (wpAny_letGo ?_);rw[nm];refine wpAny_pure ⟨plainId_quiet F.plain_min_loop _,ih (j+1) _ x c (by omega) more st' ov' (by simp only[argBest,hb,By0,if_false];exact px) hB' fun v' h2 tk2 pv' k2=>?_⟩;exact hR v' h2 tk2 pv' fun b o b1 b2 e=>k2 b o b1 b2 (kk b o b1 e)
theorem yy1 (W:Walks prog w A.in1 I fp wr n P St) (bt:Nat->Nat->Bool) (cmp:vc9 prog w A.in1 base P bt) (B:Addr) (nf:B∉fp) (nb:base.get? B=none) (nw:∀b∈wr,base.get? b=none) (hn:0<n) {s:Shared} {c:Nat} (st:St 0 s.heap) (ov:wr1 base s.heap)
 (hB:s.heap.get? B=some { cls:=.type "list",dict:=none,data:=.seq #[] c,slots:=#[] })
 (hR:∀v h' tk,P (argBest bt (n-1)) v->(∀b o,b∉wr->b≠B->s.heap.get? b=some o->h'.get? b=some o)->R (.ok (.ret v)) { s with heap:=h',toks:=tk }) :
 codeAny (model prog w) A (.builtin "min.loop" ⟨[.ref I,.none,.ref B],[]⟩) R s:=by
 have bw:B∉wr:=fun h=>nf (W.sub _ h)
 have nm:(toString "min"++toString ".loop" : String) = "min.loop":=by decide
 refine codeAny_builtin F.entry_min_loop ?_;rw[Around.under_plainId F.plain_min_loop _];show wpAny _ A.in1 (seqItems? (.ref B) >>= _) _ _ s;refine wpAny_bind (wpAny_seqItems hB rfl ?_);show wpAny _ A.in1 (tryCatch (pyNext (.ref I)) _ >>= _) _ _ s;refine wpAny_bind (wpAny_tryCatch (W.item 0 s _ _ hn st fun v h' tk pv st' kk=>?_));have hB':=kk B _ bw hB;show wpAny _ A.in1 (updateSeq B (fun _=>#[v,v]) >>= _) _ _ _;refine wpAny_bind (wpAny_updateSeq hB' rfl ?_);rw[nm];have ov':wr1 base h':=fun b o e=>kk b o (fun m=>by rw[nw b m] at e;cases e) (ov b o e)
 refine wpAny_pure ⟨plainId_quiet F.plain_min_loop _,wa0 W bt cmp B nf nb nw _ 0 _ v _ rfl hn (W.frame _ _ _ st' fun b bf o e=>?_) (fun b o e=>?_) pv (Cf0 _ hB' rfl) fun v' h2 tk2 pv' k2=>?_⟩
 ·exact(Ay0 _ _ (fun h:B=b=>nf (by rw[h];exact bf))).trans e
 ·exact(Ay0 _ _ (fun h:B=b=>by rw[<-h,nb] at e;cases e)).trans (ov' b o e)
 ·exact hR v' h2 tk2 pv' fun b o b1 b2 e=>k2 b o b1 b2 ((Ay0 _ _ (Ne.symm b2)).trans (kk b o b1 e))
end
section
variable {prog:Program} {w:World} {A:Around} {E:Value->Shared->Prop} {s:Shared}
theorem xc1 {h:Heap} {a:Addr} (q:h.objs.size<=a):h.get? a=none:=by
 cases e:h.get? a with
 | none=>rfl
 | some o=>exact absurd (Heap.lt_size e) (Nat.not_lt.mpr q)
theorem xi1 {l:Addr} {items:Array Value} {bt:Nat->Nat->Bool} {Q:Value->Shared->Prop} (hh:A.handled=none) (hl:s.heap.IsList l items) (hn:0<items.size)
 (cmp:vc9 prog w A.in1 s.heap (fun i v=>items[i]?=some v) bt)
 (h:∀v h' tk,items[argBest bt (items.size-1)]?=some v->(∀b o,s.heap.get? b=some o->h'.get? b=some o)->Q v { s with heap:=h',toks:=tk }):wpAny (model prog w) A (call (.builtin "min") [.ref l]) Q E s:=by
 have nm:(toString "min"++toString ".loop" : String) = "min.loop":=by decide
 have ll:l<s.heap.objs.size:=by obtain⟨_,e,_⟩:=hl;exact Heap.lt_size e
 refine call_function_tree F.kind_min F.plain_min F.entry_min (F.args_min1 _) ?_;show wpAny _ A.in1 (Builtin.Builtins.bindParams "min" ["key","default"] 0 ⟨[],[]⟩ >>= _) _ _ s;refine wpAny_bind (wpAny_of_eq (show Builtin.Builtins.bindParams "min" ["key","default"] 0 ⟨[],[]⟩=pure [none,none] from rfl) (wpAny_bind (wpAny_pure ?_)));refine wpAny_bind (wpAny_pyIter_list hl ?_);refine wpAny_bind (wpAny_newObj_type ?_);rw[nm];have e2:(s.heap.push { cls:=.type "list_iterator",data:=.fields #[.ref l,.int 0 0] }).objs.size=s.heap.objs.size+1:=by rw[Au0]
 have st0:(s.heap.push { cls:=.type "list_iterator",data:=.fields #[.ref l,.int 0 0] }).IsListIter s.heap.objs.size l 0/\(s.heap.push { cls:=.type "list_iterator",data:=.fields #[.ref l,.int 0 0] }).IsList l items:=⟨⟨_,Ad0 _ rfl,rfl,rfl⟩,hl.push _⟩;have W:=Walks.list (prog:=prog) (w:=w) (A:=A.in1) hh s.heap.objs.size l (Ar0 ll) items;refine wpAny_pure ⟨plainId_quiet F.plain_min_loop _,yy1 W bt cmp (s.heap.push { cls:=.type "list_iterator",data:=.fields #[.ref l,.int 0 0] }).objs.size ?_ (xc1 (by rw[e2];exact Nat.le_succ _)) ?_ hn (W.frame _ _ _ st0 fun b _ o e=>Aa0 _ e) (fun b o e=>Aa0 _ (Aa0 _ e)) (Ad0 _ rfl) fun v h' tk hP hk=>?_⟩
 ·intro m
  rw[e2] at m;rcases Ah0.mp m with m | m
  ·exact absurd m (by show ¬s.heap.objs.size+1=s.heap.objs.size;omega)
  ·rcases Ah0.mp m with m | m
   ·rw[<-m] at ll
    exact absurd ll (by show ¬s.heap.objs.size+1<s.heap.objs.size;omega)
   ·cases m
 ·intro b m
  rcases Ah0.mp m with m | m
  ·rw[m];exact xc1 (Ac0 _)
  ·cases m
 ·refine h v h' tk hP fun b o e=>?_
  have lb:=Heap.lt_size e;refine hk b o (fun m=>?_) (fun m=>?_) (Aa0 _ (Aa0 _ e))
  ·rcases Ah0.mp m with m | m
   ·rw[m] at lb;exact absurd lb (Bn0 _)
   ·cases m
  ·rw[m,e2] at lb
   exact absurd lb (by show ¬s.heap.objs.size+1<s.heap.objs.size;omega)
end
end HT
end
section
namespace HT
open PySem PyProof PyProof.Rows Ts
section
variable {prog:Program} {w:World} {A:Around} {E:Value->Shared->Prop} {s:Shared}
theorem wx7 (a b:Int×Int):zu5 [a.1,a.2] [b.1,b.2]=lx a b:=by
 unfold lx;by_cases h1:a.1<b.1
 ·simp[zu5,h1];omega
 ·by_cases h2:a.1=b.1
  ·simp[zu5,h2];omega
  ·simp[zu5,h1,h2]
theorem zi1.tup {h:Heap} {v:Value} {p:Int×Int} (z:zi1 h v p):∃a items,v=.ref a/\IsTup h a items/\IntsAre items.toList [p.1,p.2]:=by
 obtain⟨a,o,n,t,u,rfl,g,c,d⟩:=z;exact⟨a,_,rfl,⟨o,g,c,n,d⟩,.cons _ _ (.cons _ _ .nil)⟩
theorem zi1.over {h h':Heap} (ov:wr1 h h') {v:Value} {p:Int×Int} (z:zi1 h v p):zi1 h' v p:=by
 obtain⟨a,o,n,t,u,e,g,c,d⟩:=z;exact⟨a,o,n,t,u,e,ov _ _ g,c,d⟩
theorem wx4 {u v:Value} {p q:Int×Int} {Q:Value->Shared->Prop} (hu:A.units<cLine) (x:zi1 s.heap u p) (y:zi1 s.heap v q) (h:Q (.bool (lx p q)) s):wpAny (model prog w) A (richCompare .Lt u v) Q E s:=by
 obtain⟨a,is,rfl,ta,ia⟩:=zi1.tup x;obtain⟨b,js,rfl,tb,ib⟩:=zi1.tup y;rw[<-wx7] at h;exact xh9 ta tb ia ib hu h
noncomputable def wk1 (h:Heap) (items:Array Value) (i:Nat):Int×Int:=yh6 h (items.getD i .none)
theorem xu1 {base:Heap} {items:Array Value} (hu:A.units<cLine) (tw:∀v∈items.toList,∃p,zi1 base v p):vc9 prog w A base (fun i v=>items[i]?=some v) (fun i j=>lx (wk1 base items i) (wk1 base items j)):=by
 intro i j u v s Q E ov hi hj h;have key:∀{i:Nat} {u:Value},items[i]?=some u->zi1 base u (wk1 base items i):=fun {i u} e=>by
  obtain⟨p,z⟩:=tw u (Array.mem_toList_iff.mpr (Array.mem_of_getElem? e));have e2:items.getD i .none=u:=by rw[Array.getD_eq_getD_getElem?,e];rfl
  unfold wk1 yh6;rw[e2,z.key];exact z
 exact wx4 hu (zi1.over ov (key hi)) (zi1.over ov (key hj)) h
set_option tactic.hygienic true in
theorem xv1 (f:Nat->Int×Int):∀n,argBest (fun i j=>lx (f i) (f j)) n<=n/\∀j,j<=n->lxle (f (argBest (fun i j=>lx (f i) (f j)) n)) (f j)
 | 0=>⟨Ac0 _,fun j hj=>by rw[show j=0 by omega];exact .inr ⟨rfl,Int.le_refl _⟩⟩
 | n+1=>by
   obtain⟨h1,h2⟩:=xv1 f n;unfold argBest;split
   ·rename_i hb
    have hb:=ys0.mp hb;refine⟨Ac0 _,fun j hj=>?_⟩;by_cases e:j=n+1
    ·subst e;exact .inr ⟨rfl,Int.le_refl _⟩
    ·have:=h2 j (by omega)
     unfold lxle at *;omega
   ·rename_i hb
    have hb:=yr9.mp (by simpa using hb);refine⟨by omega,fun j hj=>?_⟩;by_cases e:j=n+1
    ·subst e;unfold lxle;omega
    ·exact h2 j (by omega)
theorem min_twos {l:Addr} {vs:List Value} {Q:Value->Shared->Prop} (hh:A.handled=none) (hu:A.in1.units<cLine) (hl:s.heap.IsList l vs.toArray) (tw:∀v∈vs,∃p,zi1 s.heap v p) (hn:vs≠[])
 (h:∀v h' tk,v∈vs->(∀u∈vs,lxle (yh6 s.heap v) (yh6 s.heap u))->(∀b o,s.heap.get? b=some o->h'.get? b=some o)->Q v { s with heap:=h',toks:=tk }):wpAny (model prog w) A (call (.builtin "min") [.ref l]) Q E s:=by
 have hp:0<vs.length:=List.length_pos_iff.mpr hn;refine xi1 hh hl (by simpa using hp) (xu1 hu (by simpa using tw)) fun v h' tk e k=>?_
 rw[Af0] at e;obtain⟨b1,b2⟩:=xv1 (wk1 s.heap vs.toArray) (vs.length-1);have at':∀{i:Nat} {u:Value},vs.toArray[i]?=some u->wk1 s.heap vs.toArray i=yh6 s.heap u:=fun {i u} e=>by
  unfold wk1;rw[Array.getD_eq_getD_getElem?,e];rfl
 refine h v h' tk (Aw0 (by simpa using e)) (fun u hu=>?_) k;obtain⟨j,hj,ej⟩:=List.getElem_of_mem hu;have:=b2 j (by omega);rw[at' e,at' (u:=u) (by simp[hj,ej])] at this;exact this
end
end HT
end
section
namespace L2
open PySem PySem.Spec PyProof PyProof.Rows Ts
section
variable {X:Cx} {S:Type} {W:Wd S} {c:Dx W} {g ga gb gc:Gr} {a b:Expr} {fa fb fc:Fn S} {pos p2:Pos}
theorem Inv.two {pins:List (Addr×Obj)} {σ:List (Option V)} {H:Hp} {s:Shared} (I:Inv X pins σ H s) {v:V} {u:Value} {p:P2} (r:zf0 v u) (h:∃b,v=.ref b/\H b=some (.tup [.int p.1,.int p.2])):zi1 s.heap u p:=by
 obtain⟨b,e,hb⟩:=h;subst e;cases r;obtain⟨js,rj,⟨o,g,cl,n,d⟩,_⟩:=I.tuple (SqT.of hb);cases rj with
 | cons x1 rj=>cases rj with
   | cons x2 rj=>
     cases rj;obtain⟨t1,rfl⟩:=x1;obtain⟨t2,rfl⟩:=x2;exact⟨b,o,n,t1,t2,rfl,g,cl,d⟩
theorem xv0 (hc:X.calm=true) {k:Nat} (hr:zl9 k X.A):zw9 X (.builtin "min") (fun xs H Q=>∃(a:Addr) (vs:List V) (ps:List P2),xs=[.ref a]/\SqL X.K H a vs/\PrV H vs ps/\ps≠[]/\∀v,PrV H [v] ((zl2 ps).take 1)->Q v H):=by
 intro pins s σ H xs us Q I r h;obtain⟨a,vs,ps,rfl,hq,hp,hne,q⟩:=h;obtain⟨u,rfl,r1⟩:=yh8 r;cases r1;obtain⟨its,rv,pl,hz⟩:=I.list hq;have three:∀{vs:List V} {its:List Value} {ps:List P2},zf8 vs its->PrV H vs ps->(∀u∈its,∃(v:V) (p:P2),zf0 v u/\(∃b,v=.ref b/\H b=some (.tup [.int p.1,.int p.2])))/\its.map (yh6 s.heap)=ps:=by
  intro vs its ps rv;induction rv generalizing ps with
  | nil=>intro hp;cases hp;exact⟨fun u m=>absurd m (by simp),rfl⟩
  | cons r1 _ ih=>
    intro hp;cases hp with
    | cons z hp=>
      obtain⟨i1,i2⟩:=ih hp;have tw:=I.two r1 z;refine⟨fun u m=>?_,?_⟩
      ·rcases Ah0.mp m with rfl | m
       ·exact⟨_,_,r1,z⟩
       ·exact i1 u m
      ·rw[Ao0,i2]
       unfold yh6;rw[tw.key];rfl
 obtain⟨al,ek⟩:=three rv hp;refine HT.min_twos (I.ok.hd hc) (by have:=hr.units;show X.A.in1.units<cLine;exact Nat.lt_of_le_of_lt (by first | exact Ac0 _ | exact Nat.le_succ _ | (show X.A.units+1<=X.A.units+64;omega) | (show X.A.units<=X.A.units+64;omega)) this) pl.isList (fun u m=>by obtain⟨v,p,r,z⟩:=al u m;exact⟨p,I.two r z⟩) (fun e=>hne (by rw[<-ek,e];rfl)) fun v h' tk mv le k=>?_
 obtain⟨w,p,rw',z⟩:=al v mv;have tw:=I.two rw' z;have kp:yh6 s.heap v=p:=by unfold yh6;rw[tw.key];rfl
 have mem:p∈ps:=by rw[<-ek];exact Bl0.mpr ⟨v,mv,kp⟩
 have least:∀q∈ps,lxle p q:=fun q hq=>by
  rw[<-ek] at hq;obtain⟨u,hu,rfl⟩:=Bl0.mp hq;have:=le u hu;rwa [kp] at this
 have hd:(zl2 ps).take 1=[p]:=by
  have mp:p∈zl2 ps:=(zm1 ps).mem_iff.mpr mem;cases hs:zl2 ps with
  | nil=>rw[hs] at mp;cases mp
  | cons q l=>
    rw[hs] at mp;have up:=yb9 ps;rw[hs] at up;have hq:q∈ps:=(zm1 ps).mem_iff.mp (by rw[hs];simp);rcases Ah0.mp mp with e | e
    ·rw[e];rfl
    ·have e1:=(Bv0.mp up).1 p e
     rw[yf3 e1 (least q hq)];rfl
 refine⟨w,H,I.kept k,rw',q w ?_⟩;rw[hd];exact .cons z .nil
noncomputable def wm6:List D->Option D
 | [.lst l]=>(zv8 l).bind fun ps=>(zl2 ps).head?.map prD
 | _=>none
set_option tactic.hygienic true in
theorem wq6 {K:PySem.W.Frag} (hK:c.K=K):zx0 c (fun xs H Q=>∃(a:Addr) (vs:List V) (ps:List P2),xs=[.ref a]/\SqL K H a vs/\PrV H vs ps/\ps≠[]/\∀v,PrV H [v] ((zl2 ps).take 1)->Q v H) wm6:=by
 subst hK;intro l vs H st d Q ok z e q;unfold wm6 at e;split at e
 ·rename_i m
  cases qq:zv8 m with
  | none=>rw[qq] at e;cases e
  | some ps=>
    rw[qq] at e;have e:(zl2 ps).head?.map prD=some d:=e;cases hs:zl2 ps with
    | nil=>rw[hs] at e;cases e
    | cons p r=>
      rw[hs] at e;cases e;obtain⟨v,r',e1,i1,i2⟩:=IsL.cons.mp z;obtain⟨a,us,ea,_,s1,i3⟩:=Is.lst_iff.mp i1;rw[IsL.nil.mp i2,ea] at e1;refine⟨a,us,ps,e1,.of s1,xb5 qq i3,(fun h=>by rw[h] at hs;cases hs),fun v w=>?_⟩;rw[hs] at w;cases w with
      | cons w _=>
        obtain⟨b,eb,hb⟩:=w;rw[eb];have im:(prD p).imm=true:=rfl;exact q _ _ Ext.refl ok (show New c H H (prD p) _ from Is.tup hb (IsL.cons.mpr ⟨_,_,rfl,Is.int_iff.mpr rfl,IsL.cons.mpr ⟨_,_,rfl,Is.int_iff.mpr rfl,IsL.nil.mpr rfl⟩⟩))
 ·cases e
end
end L2
end
section
namespace L2
open PySem PySem.Spec PyProof PyProof.Rows Ts
section
variable {X:Cx} {S:Type} {W:Wd S} {c:Dx W} {g ga gb gc:Gr} {a b:Expr} {fa fb fc:Fn S} {pos p2:Pos}
end
end L2
end
section
namespace L2
open PySem PySem.Spec PyProof.Rows
theorem g0 {α:Type} {a:α} {l:List α}:(a::l)[0]?=some a:=rfl
theorem gS {α:Type} {a:α} {l:List α} {i:Nat}:(a::l)[i+1]?=l[i]?:=rfl
theorem s0 {α:Type} {a b:α} {l:List α}:(a::l).set 0 b=b::l:=rfl
theorem sS {α:Type} {a b:α} {l:List α} {i:Nat}:(a::l).set (i+1) b=a::l.set i b:=rfl
theorem lC {α:Type} {a:α} {l:List α}:(a::l).length=l.length+1:=rfl
theorem lN {α:Type}:([]:List α).length=0:=rfl
theorem rl1_ {α:Type} {i:Nat}:([]:List α)[i]?=none:=rfl
theorem rl2_ {α β:Type} {f:α->β} {a:α} {l:List α}:(a::l).map f=f a::l.map f:=rfl
theorem rl3_ {α β:Type} {f:α->β}:([]:List α).map f=[]:=rfl
theorem rl4_ {α β:Type} {a:α} {f:α->Option β}:(some a).bind f=f a:=rfl
theorem rl5_ {α:Type} {a:α} {o:Option α}:(some a).or o=some a:=rfl
theorem rl6_ {α:Type} {o:Option α}:(none:Option α).or o=o:=rfl
theorem rl7_ {α:Type} {a:α}:List.replicate 0 a=[]:=rfl
theorem rl8_ {α:Type} {a:α} {n:Nat}:List.replicate (n+1) a=a::List.replicate n a:=rfl
theorem rl9_ {α:Type} {a:α} {l m:List α}:(a::l)++m=a::(l++m):=rfl
theorem rl0_ {α:Type} {l:List α}:[]++l=l:=rfl
theorem EV_:(type_of% @D.bl.injEq)/\(type_of% @D.int.injEq)/\(type_of% @D.str.injEq)/\(type_of% @Nat.zero_add)/\(type_of% @if_true.{1})/\(type_of% @if_false.{1})/\(type_of% @Bool.and_true)/\(type_of% @Bool.true_and)/\(type_of% @Bool.and_self)/\(type_of% @Bool.false_eq_true)/\(type_of% @Option.some.injEq.{0})/\(type_of% @exists_eq_left'.{1})/\(type_of% @exists_eq_left.{1})/\(type_of% @exists_eq_right.{1})/\(type_of% @true_or)/\(type_of% @or_true)/\(type_of% @true_and)/\(type_of% @and_true)/\(type_of% @Bool.not_true)/\(type_of% @Bool.not_false):=
 ⟨@D.bl.injEq,@D.int.injEq,@D.str.injEq,@Nat.zero_add,@if_true.{1},@if_false.{1},@Bool.and_true,@Bool.true_and,@Bool.and_self,@Bool.false_eq_true,@Option.some.injEq.{0},@exists_eq_left'.{1},@exists_eq_left.{1},@exists_eq_right.{1},@true_or,@or_true,@true_and,@and_true,@Bool.not_true,@Bool.not_false⟩
end L2
end
section
namespace L2
open PySem PySem.Spec PyProof.Rows
section
variable {S:Type}
noncomputable def fP (S:Type) (p:Rho->Option D):Fn S:=fun ρ st=>zk3 (p ρ) st
noncomputable def aP (S:Type) (q:Rho->Option (List D)):FnA S:=fun ρ st=>zk3 (q ρ) st
noncomputable def tP (S:Type) (q:Rho->Option Bool):FnT S:=fun ρ st=>zk3 (q ρ) st
noncomputable def vr (i:Nat):Rho->Option D:=fun ρ=>rd ρ i
noncomputable def cn (d:D):Rho->Option D:=fun _=>some d
noncomputable def o2 (o:D->D->Option D) (p q:Rho->Option D):Rho->Option D:=fun ρ=>(p ρ).bind fun a=>(q ρ).bind fun b=>o a b
noncomputable def nl:Rho->Option (List D):=fun _=>some []
noncomputable def cs (p:Rho->Option D) (q:Rho->Option (List D)):Rho->Option (List D):=fun ρ=>(p ρ).bind fun a=>(q ρ).bind fun l=>some (a::l)
noncomputable def o1 (o:List D->Option D) (q:Rho->Option (List D)):Rho->Option D:=fun ρ=>(q ρ).bind o
noncomputable def ti (T:Bt) (p:Rho->Option D):Rho->Option D:=fun ρ=>(p ρ).bind fun d=>some (.bl (isI T d))
noncomputable def tb (p:Rho->Option D):Rho->Option Bool:=fun ρ=>(p ρ).bind D.bool?
set_option tactic.hygienic true in
theorem vk1 {o:D->D->Option D} {p q:Rho->Option D}:f2 S o (fP S p) (fP S q)=fP S (o2 o p q):=by
 funext ρ st;unfold f2 fP o2;cases p ρ with
 | none=>rfl
 | some a=>cases q ρ<;>rfl
set_option tactic.hygienic true in
theorem wq9 {p:Rho->Option D} {q:Rho->Option (List D)}:zu8 S (fP S p) (aP S q)=aP S (cs p q):=by
 funext ρ st;unfold zu8 fP aP cs;cases p ρ with
 | none=>rfl
 | some a=>cases q ρ<;>rfl
set_option tactic.hygienic true in
theorem vn1 {o:List D->Option D} {q:Rho->Option (List D)}:fA S o (aP S q)=fP S (o1 o q):=by
 funext ρ st;unfold fA fP aP o1;cases q ρ<;>rfl
set_option tactic.hygienic true in
theorem vg8 {T:Bt} {p:Rho->Option D}:fIs S T (fP S p)=fP S (ti T p):=by
 funext ρ st;unfold fIs fP ti;cases p ρ<;>rfl
set_option tactic.hygienic true in
theorem vn0 {p:Rho->Option D}:fB S (fP S p)=tP S (tb p):=by
 funext ρ st;unfold fB fP tP tb;cases p ρ<;>rfl
theorem wp_fP {p:Rho->Option D} {ρ:Rho} {st:S} {Q:D->S->Prop} {E:Exn->S->Prop}:wpR (fP S p ρ st) Q E↔wpR (zk3 (p ρ) st) Q E:=Iff.rfl
theorem wp_aP {p:Rho->Option (List D)} {ρ:Rho} {st:S} {Q:List D->S->Prop} {E:Exn->S->Prop}:wpR (aP S p ρ st) Q E↔wpR (zk3 (p ρ) st) Q E:=Iff.rfl
theorem wp_tP {p:Rho->Option Bool} {ρ:Rho} {st:S} {Q:Bool->S->Prop} {E:Exn->S->Prop}:wpR (tP S p ρ st) Q E↔wpR (zk3 (p ρ) st) Q E:=Iff.rfl
theorem boS {α β:Type} {a:α} {f:α->Option β}:(some a).bind f=f a:=rfl
theorem dbb {b:Bool}:D.bool? (.bl b)=some b:=rfl
end
end L2
end
section
namespace L2
open PySem PySem.Spec PyProof.Rows
section
variable {X:Cx} {S:Type} {W:Wd S} {c:Dx W} {g:Gr} {e:Expr} {es:List Expr} {o:D->D->Option D} {p q:Rho->Option D} {oA:List D->Option D} {qa:Rho->Option (List D)} {T:Bt}
theorem za4 {i j pos}:DE X c g (.Constant (.int i) j pos) (fP S (cn (.int i))):=va6
theorem ze3 {x j pos}:DE X c g (.Constant (.str x) j pos) (fP S (cn (.str x))):=va2
theorem zm8 {i j pos}:DE X c g (.Constant (.bool i) j pos) (fP S (cn (.bl i))):=vh2
theorem yg8 {j pos}:DE X c g (.Constant .none j pos) (fP S (cn .non)):=va4
theorem za0 {i:Nat} {x:Str} {pos:Pos} (h:PE X (.Name x pos) (yh9 i)):DE X c .R (.Name x pos) (fP S (vr i)):=va1 h
theorem xe3 {x:Str} {i:Int} {pos:Pos} (hc:∃t,X.mg x=some (.int i t)) (hg:Gl X x) (hd:(x == ("__debug__" : Str))=false:=by decide):DE X c g (.Name x pos) (fP S (cn (.int i))):=wc2 hc hg hd
theorem za2:DA X c [] (aP S nl):=va9
theorem g2_ (h:DE X c g e (f2 S o (fP S p) (fP S q))):DE X c g e (fP S (o2 o p q)):=vk1▸h
theorem gA_ (h:DE X c g e (fA S oA (aP S qa))):DE X c g e (fP S (o1 oA qa)):=vn1▸h
theorem gI_ (h:DE X c g e (fIs S T (fP S p))):DE X c g e (fP S (ti T p)):=vg8▸h
theorem gC_ (h:DA X c es (zu8 S (fP S p) (aP S qa))):DA X c es (aP S (cs p qa)):=wq9▸h
theorem gB_ {e:Expr} (h:DT X c e (fB S (fP S p))):DT X c e (tP S (tb p)):=vn0▸h
theorem gT_ {e:Expr} (h:DT X c e (fB S (f2 S o (fP S p) (fP S q)))):DT X c e (tP S (tb (o2 o p q))):=gB_ (vk1▸h)
end
theorem wh0 {S:Type} {F G:FnS S} {ρ:Rho} {st:S} {Q:Fl->S->Prop} {E:Exn->S->Prop} (h:∀P:Fl->S->Prop,(∀ρ1 st1,wpR (G ρ1 st1) Q E->P (.nx ρ1) st1)->(∀d st1,Q (.rt d) st1->P (.rt d) st1)->(∀r st1,Q (.bk r) st1->P (.bk r) st1)->(∀r st1,Q (.ct r) st1->P (.ct r) st1)->wpR (F ρ st) P E):wpR (wr2 S F G ρ st) Q E:=
 zb1.mpr (h _ (fun _ _ z=>z) (fun _ _ z=>z) (fun _ _ z=>z) (fun _ _ z=>z))
section
variable {X:Cx} {S:Type} {W:Wd S} {c:Dx W} {g:Gr} {e a b:Expr} {es:List Expr} {o:D->D->Option D} {p q:Rho->Option D} {qa:Rho->Option (List D)} {pos:Pos} {f fa fb:Fn S} {rr:FnA S}
theorem zh2 {x:Str} (h:DE X c .R (.Name x pos) (fP S p)) (hr:DA X c es (aP S qa)):DA X c (.Name x pos::es) (aP S (cs p qa)):=gC_ (zj9 h hr)
theorem wr6 {x:Str} (h:DE X c .R (.Name x pos) f) (hr:DA X c es rr):DA X c (.Name x pos::es) (zu8 S f rr):=zj9 h hr
theorem zj2 {k:Const} {j} (h:DE X c .R (.Constant k j pos) (fP S p)) (hr:DA X c es (aP S qa)):DA X c (.Constant k j pos::es) (aP S (cs p qa)):=gC_ (zj9 h hr)
theorem xw1 {k:Const} {j} (h:DE X c .R (.Constant k j pos) f) (hr:DA X c es rr):DA X c (.Constant k j pos::es) (zu8 S f rr):=zj9 h hr
theorem zy9 {a b:Expr} (h:DE X c .R (.Subscript a b pos) (fP S p)) (hr:DA X c es (aP S qa)):DA X c (.Subscript a b pos::es) (aP S (cs p qa)):=gC_ (zj9 h hr)
theorem vc5 {a b:Expr} (h:DE X c .R (.Subscript a b pos) f) (hr:DA X c es rr):DA X c (.Subscript a b pos::es) (zu8 S f rr):=zj9 h hr
theorem wo7 {as:List Expr} {x1} (h:DE X c .R (.Tuple as x1 pos) (fP S p)) (hr:DA X c es (aP S qa)):DA X c (.Tuple as x1 pos::es) (aP S (cs p qa)):=gC_ (zj9 h hr)
theorem wo8 {a:Expr} {as:List Expr} {ks} (h:DE X c .R (.Call a as ks pos) (fP S p)) (hr:DA X c es (aP S qa)):DA X c (.Call a as ks pos::es) (aP S (cs p qa)):=gC_ (zj9 h hr)
theorem wf7 {a:Expr} {as:List Expr} {ks} (h:DE X c .R (.Call a as ks pos) f) (hr:DA X c es rr):DA X c (.Call a as ks pos::es) (zu8 S f rr):=zj9 h hr
theorem wb6 {a b:Expr} {op} (h:DE X c .R (.BinOp a op b pos) (fP S p)) (hr:DA X c es (aP S qa)):DA X c (.BinOp a op b pos::es) (aP S (cs p qa)):=gC_ (zj9 h hr)
theorem xi7 {a b:Expr} {op} (h:DE X c .R (.BinOp a op b pos) f) (hr:DA X c es rr):DA X c (.BinOp a op b pos::es) (zu8 S f rr):=zj9 h hr
theorem vg5 {a:Expr} {op} (h:DE X c .R (.UnaryOp op a pos) f) (hr:DA X c es rr):DA X c (.UnaryOp op a pos::es) (zu8 S f rr):=zj9 h hr
theorem wf6 {a:Expr} {gs scope} (h:DE X c .R (.ListComp a gs scope pos) f) (hr:DA X c es rr):DA X c (.ListComp a gs scope pos::es) (zu8 S f rr):=zj9 h hr
theorem vm9 {a:Expr} {ops bs} (h:DE X c .R (.Compare a ops bs pos) f) (hr:DA X c es rr):DA X c (.Compare a ops bs pos::es) (zu8 S f rr):=zj9 h hr
theorem gU_ {x1} (h:DA X c es (aP S qa)):DE X c g (.Tuple es x1 pos) (fP S (o1 xc3 qa)):=gA_ (zy8 h)
theorem gL_ (h:DA X c es (aP S qa)):DE X c g (.List es pos) (fP S (o1 xp0 qa)):=gA_ (yu2 h)
theorem gX_ (h:c.K=X.K) (ha:DE X c .R a (fP S p)) (hb:DE X c .R b (fP S q)) (hs:yh5 b):DE X c g (.Subscript a b pos) (fP S (o2 oIx p q)):=g2_ (va5 wf2 (ww5 h) ha hb hs)
theorem gY_ (h:c.K=X.K) (ha:DE X c .R a fa) (hb:DE X c .R b fb) (hs:yh5 b):DE X c g (.Subscript a b pos) (f2 S oIx fa fb):=va5 wf2 (ww5 h) ha hb hs
theorem gP_ (h:c.K=X.K) (ha:DE X c .R a (fP S p)) (hb:DE X c .R b (fP S q)):DE X c g (.BinOp a .Add b pos) (fP S (o2 zo2 p q)):=g2_ (zs9 xo5 (xo8 h) ha hb)
theorem gp_ (h:c.K=X.K) (ha:DE X c .R a fa) (hb:DE X c .R b fb):DE X c g (.BinOp a .Add b pos) (f2 S zo2 fa fb):=zs9 xo5 (xo8 h) ha hb
end
end L2
end
section
namespace L2
open PySem PySem.Spec PyProof.Rows
section
variable {X:Cx} {S:Type} {W:Wd S} {c:Dx W} {g ga gb gc:Gr} {a b:Expr} {fa fb fc:Fn S} {pos p2:Pos}
end
section
variable {S:Type} {fk:Fn S} {ρ:Rho} {st:S} {Q:D->S->Prop} {E:Exn->S->Prop}
end
end L2
end
section
namespace L2
open PySem PySem.Spec PyProof.Rows
section
variable {X:Cx} {S:Type} {W:Wd S} {c:Dx W} {g ga gb:Gr} {a b:Expr} {fa fb:Fn S} {pos:Pos}
end
end L2
end
section
namespace L2
open PySem PySem.Spec PyProof.Rows
section
variable {X:Cx}
end
section
variable {X:Cx} {S:Type} {W:Wd S} {c:Dx W} {g ga:Gr}
end
end L2
end
section
namespace L2
open PySem PySem.Spec PyProof.Rows
section
variable {X:Cx} {tg:Expr}
end
section
variable {X:Cx} {S:Type} {W:Wd S} {c:Dx W} {g:Gr} {tg:Expr}
end
end L2
end
section
namespace L2
open PySem PySem.Spec PyProof.Rows
section
variable {X:Cx}
end
section
variable {X:Cx} {S:Type} {W:Wd S} {c:Dx W} {g:Gr}
end
section
variable {prog:Program} {w:World} {A:Around} {E:Value->Shared->Prop} {s:Shared}
end
section
variable {X:Cx} {tg:Expr}
end
section
variable {X:Cx} {S:Type} {W:Wd S} {c:Dx W} {g:Gr} {tg:Expr}
end
section
variable {S:Type} {ρ:Rho} {st:S} {Q:D->S->Prop} {E:Exn->S->Prop} {out:Str} {f:Fn S} {fs:List (Fn S)}
end
end L2
end
section
namespace L2
open PySem PySem.Spec PyProof PyProof.Rows
section
variable {X:Cx} {S:Type} {W:Wd S} {c:Dx W} {i j:Nat}
noncomputable def vb6 (S:Type) (i j:Nat):FnS S:=fun ρ st=>match zj1 ρ j with
 | some l=>match l.getLast? with
   | some d=>(zk3 (put (ρ.set j (.own (.lst l.dropLast))) i d) st).bind fun ρ' st2=>.ok (.nx ρ') st2
   | none=>.bad
 | none=>.bad
theorem IsL.dropLast {K:PySem.W.Frag} {A:Addr->Prop} {H:Hp} {l:List D} {vs:List V} (h:IsL K A H l vs):IsL K A H l.dropLast vs.dropLast:=by
 rw[List.dropLast_eq_take,List.dropLast_eq_take,h.length];exact h.take _
theorem xd5:∀{l:List D} {d:D},D.immL l=true->d∈l->d.imm=true
 | [],_,_,h=>nomatch h
 | a::l,d,m,h=>by
   have m':a.imm=true/\D.immL l=true:=by simpa [D.immL] using m
   rcases Ah0.mp h with e | h
   ·rw[e];exact m'.1
   ·exact xd5 m'.2 h
theorem wz7 {x y:Str} {p1 p2 p3 p4 pos:Pos} (hN:X.N.Nodup) (hi:X.N[i]?=some y) (hy:Loc X.env.scope y) (hx:PE X (.Name x p1) (yh9 j))
 (hbase:attributeBase (.Name x p1) "pop" X.env (eval (.Name x p1) X.env)=eval (.Name x p1) X.env:=by rfl) (hline:(p2.endLine == p3.line)=true:=by rfl)
 (hs:swapsWith (.Call (.Attribute (.Name x p1) "pop" p2) [] [] p3) (some (.Name y p4)) pos.line X.env=pure false:=by rfl) (hf:X.fn y=true\/X.env.scope.names.lookup y=some .local:=by first | exact .inl rfl | exact .inr rfl | assumption) :
 DS X c (.Assign [.Name y p4] (.Call (.Attribute (.Name x p1) "pop" p2) [] [] p3) pos) (vb6 S i j):=
 (zs3 hN hi hy (wv7 PySem.F.plainAttrs_list PySem.F.slot_list_pop PySem.F.type_list_pop ww9 hx hbase hline) hs hf).imp fun D σ H hI46=>by
  obtain⟨ρ,st,R,ok,w⟩:=hI46;unfold vb6 at w;cases q:zj1 ρ j with
  | none=>rw[q] at w;exact w.elim
  | some l=>
    rw[q] at w;cases ql:l.getLast? with
    | none=>simp only[ql] at w;exact w.elim
    | some d=>
      simp only[ql] at w;obtain⟨ρ',ep,w⟩:=zb8.mp (za3.mp w);obtain⟨a,vs,ea,eH,z,nm⟩:=R.lstAt q;obtain⟨es,im⟩:=yf4 q;have hl:l[l.length-1]?=some d:=by rw[<-List.getLast?_eq_getElem?];exact ql
      obtain⟨v,hv,zv⟩:=z.get hl;rw[z.length] at hv;obtain⟨R1,F1⟩:=R.wr (d':=.lst l.dropLast) (o:=.lst vs.dropLast) es ea ⟨(fun u z=>by cases z),(fun ob u z=>by cases z)⟩ fun k=>⟨vs.dropLast,zb0,IsL.mono k z.dropLast⟩
      have di:d.imm=true:=xd5 im (List.mem_of_getLast? ql);have ks:∀b o,H b=some o->vh8 o->upd H a (.lst vs.dropLast) b=some o:=fun b o h s=>by
       by_cases e:b=a
       ·subst e;rw[eH] at h;cases h;rcases s with⟨u,e⟩ | ⟨ob,u,e⟩<;>cases e
       ·rw[za9 e];exact h
      have kt:zi6 (fun _=>False) (fun _=>False) H (upd H a (.lst vs.dropLast)):=⟨ks,fun _ _ f=>False.elim f⟩;have zv':Is c.K (fun _=>False) (upd H a (.lst vs.dropLast)) d v:=Is.mono kt (Is.ofImm di zv);obtain⟨l1,rfl⟩:=zn2 ep;have R2:=R1.setB l1 (show Is c.K (Av c σ (ρ.set j (.own (.lst l.dropLast)))) (upd H a (.lst vs.dropLast)) d v from Is.ofImm di zv');exact⟨.ref a,ea,.inl ⟨rfl,vs,.of eH⟩,a,vs,v,rfl,rfl,eH,hv,w _ _ (F1.trans zh4) (ya4 ok nm) R2⟩
end
section
variable {S:Type} {ρ:Rho} {st:S} {Q:Fl->S->Prop} {E:Exn->S->Prop} {i j:Nat}
theorem wh2:wpR (vb6 S i j ρ st) Q E↔∃l d ρ',zj1 ρ j=some l/\l.getLast?=some d/\put (ρ.set j (.own (.lst l.dropLast))) i d=some ρ'/\Q (.nx ρ') st:=by
 unfold vb6;cases q:zj1 ρ j with
 | none=>exact⟨fun h=>h.elim,fun ⟨l,d,ρ',e,_⟩=>by cases e⟩
 | some l=>
   cases ql:l.getLast? with
   | none=>simp only[ql];exact⟨fun h=>h.elim,fun ⟨l',d,ρ',e,e2,_⟩=>by cases e;rw[ql] at e2;cases e2⟩
   | some d=>
     simp only[ql];rw[za3,zb8];constructor
     ·rintro ⟨ρ',e,h⟩;exact⟨l,d,ρ',rfl,ql,e,h⟩
     ·rintro ⟨l',d',ρ',e,e2,e3,h⟩
      cases e;rw[ql] at e2;cases e2;exact⟨ρ',e3,h⟩
end
section
variable {X:Cx}
noncomputable def wt6 (tk tv:TE):TE:=fun σ H Q=>∀p,H p=none->yp3 [(tk,tv)] σ (upd H p (.dT [])) fun ps H2=>∃ks b y,ps=[(.ref b,y)]/\H2 b=some (.tup (ks.map kV))/\H2 p=some (.dT [])/\Q (.ref p) (upd H2 p (.dT [(ks,y)]))
theorem xy9 {k v:Expr} {tk tv:TE} {pos:Pos} (hu:X.A.units+1<cLine) (hk:PE X k tk) (hv:PE X v tv):PE X (.Dict [some k] [v] pos) (wt6 tk tv):=by
 intro pins s σ H Q I q;have hn:=I.hok.fresh (Ac0 s.heap.objs.size);have I1:=I.laid (a:=s.heap.objs.size) (o:=.dT []) (h':=s.heap.push { cls:=.type "dict",data:=.dict #[] }) (t':=s.toks) (fun _ _ q=>Aa0 _ q) (Ac0 _) (yn6 s.heap I.big);refine wpAny_Dict_any rfl rfl (by simp) (show (1:Nat)<=15 by decide) (thn (yc3 hk hv yw7 pins _ σ _ _ I1 (q _ hn)) fun ws s2 hI120=>?_);obtain⟨ps,H2,I2,rel,ks,b,y,ep,hb,hp,q2⟩:=hI120;subst ep;cases rel with
 | @cons a0 w0 as bs h0 t0=>
   cases t0;obtain⟨u,r⟩:=w0;obtain⟨ru,rr⟩:=h0;cases (show u=Value.ref b from ru);obtain⟨z,hd,xs,rel,dd⟩:=wp5 I2.hok hp;cases rel;have one:storeAll s.heap.objs.size [(Value.ref b,r)]=(do dictSet s.heap.objs.size (.ref b) r;pure PUnit.unit):=by
    unfold storeAll;simp only[List.forIn_cons,List.forIn_nil,bind_assoc,pure_bind]
   rw[one];refine wpAny_bind (wpAny_dictSet_heap (knd:=tupleKind (zg0 X.prog X.w)) (show X.A.units<cLine by omega) (ya8 I2.hok hb) dd fun h' dd' hs=>wpAny_pure ⟨.ref s.heap.objs.size,_,?_,rfl,q2⟩);obtain⟨qo,es,epc,hq,h2,h3,h4,_,h5⟩:=dd';refine yh0 I2 (by rw[hp];exact True.intro) hs ⟨qo,hq⟩ ⟨by show 1<=sizeLine;decide,hd,[(ks,b,r)],.cons ⟨rfl,?_,rr⟩ .nil,qo,es,epc,hq,h2,h3,h4,h5⟩;rw[za9 (xp8 hb hp (fun z=>nomatch z))];exact hb
end
section
variable {X:Cx} {S:Type} {W:Wd S} {c:Dx W} {g:Gr}
noncomputable def wf9 (S:Type) (fk fv:Fn S):Fn S:=fun ρ st=>(fk ρ st).bind fun dk st1=>(fv ρ st1).bind fun dv st2=>match zc8 dk with
 | some kk=>if dv.imm=true then .ok (.dct [.non,ze8 kk] [dv]) st2 else .bad
 | none=>.bad
theorem xe5 {k v:Expr} {fk fv:Fn S} {pos:Pos} (hu:X.A.units+1<cLine) (hk:DE X c .R k fk) (hv:DE X c .R v fv):DE X c g (.Dict [some k] [v] pos) (wf9 S fk fv):=
 (xy9 hu hk hv).imp fun σ H Q hI47=>by
  obtain⟨ρ,st,R,ok,w⟩:=hI47;intro p hp;have np:¬W.mv p:=zo4 ok hp;refine⟨ρ,st,R.ext ok (Ext.laid hp),zi3 ok hp,za7 (za3.mp w) (fun dk st1 q x H1 e1 ok1 z1=>?_) fun x st1 q H1 e1 ok1=>q H1 ((Ext.laid hp).trans e1) ok1⟩;refine⟨ρ,st1,(R.ext ok (Ext.laid hp)).ext (zi3 ok hp) e1,ok1,za7 (za3.mp q) (fun dv st2 q y H2 e2 ok2 z2=>?_) fun x st2 q H2 e2 ok2=>q H2 (((Ext.laid hp).trans e1).trans e2) ok2⟩;cases qk:zc8 dk with
  | none=>simp only[qk] at q;exact q.elim
  | some kk=>
    simp only[qk] at q;by_cases im:dv.imm=true
    ·rw[if_pos im] at q
     have zk:Is c.K (fun b=>¬W.mv b) H2 dk x:=(show Val c .R σ ρ _ H1 dk x from z1).ext e2 ok1;obtain⟨b,eb,hb,_⟩:=zy6 qk zk;have hp1:=e1 p _ (zb0 (H:=H) (o:=.dT [])) np;have hp2:H2 p=some (.dT []):=e2 p _ hp1 np;have ex:Ext W H (upd H2 p (.dT [(kk,y)])):=fun b o hb nm=>by
      have b1:b≠p:=zb7 hb hp;rw[za9 b1];exact e2 b o (e1 b o (by rw[za9 b1];exact hb) nm) nm
     have ks:∀b o,H2 b=some o->vh8 o->upd H2 p (.dT [(kk,y)]) b=some o:=fun b o h s=>by
      by_cases e:b=p
      ·subst e;rw[hp2] at h;cases h;rcases s with⟨u,e⟩ | ⟨ob,u,e⟩<;>cases e
      ·rw[za9 e];exact h
     have kt:zi6 (fun _=>False) (fun _=>False) H2 (upd H2 p (.dT [(kk,y)])):=⟨ks,fun _ _ f=>False.elim f⟩;have zy:Is c.K (fun _=>False) (upd H2 p (.dT [(kk,y)])) dv y:=Is.mono kt (Is.ofImm im (show Is c.K (fun b=>¬W.mv b) H2 dv y from z2));refine⟨kk,b,y,by rw[eb],hb,hp2,q _ _ ex (ya4 ok2 np) (New.val R (Is.dct_iff.mpr ⟨p,[y],rfl,⟨np,hp⟩,IsL.one (Is.ofImm im zy),.inr ⟨[kk],rfl,rfl,zb0⟩⟩) g)⟩
    ·rw[if_neg im] at q;exact q.elim
theorem yo9 {fk fv:Fn S} {ρ:Rho} {st:S} {Q:D->S->Prop} {E:Exn->S->Prop}:wpR (wf9 S fk fv ρ st) Q E↔wpR (fk ρ st) (fun dk st1=>wpR (fv ρ st1) (fun dv st2=>∃kk,zc8 dk=some kk/\dv.imm=true/\Q (.dct [.non,ze8 kk] [dv]) st2) E) E:=wpB fun dk st1=>wpB fun dv st2=>by
 cases qk:zc8 dk with
 | none=>exact⟨fun h=>h.elim,fun ⟨kk,e,_⟩=>by cases e⟩
 | some kk=>
   show wpR (if dv.imm=true then Res.ok (D.dct [.non,ze8 kk] [dv]) st2 else .bad) Q E↔_;by_cases im:dv.imm=true
   ·rw[if_pos im];exact⟨fun h=>⟨kk,rfl,im,h⟩,fun ⟨k',e,_,h⟩=>by cases e;exact h⟩
   ·rw[if_neg im];exact⟨fun h=>h.elim,fun ⟨k',e,h,_⟩=>absurd h im⟩
end
section
variable {prog:Program} {w:World} {A:Around} {E:Value->Shared->Prop} {s:Shared}
noncomputable abbrev xw2 (es:Array DictEntry) (ep:Nat):Obj:={ cls:=.type "dict",dict:=none,data:=.dict es ep,slots:=#[] }
noncomputable abbrev ys4 (d:Addr) (i n ep:Nat):Obj:={ cls:=.type "dict_keyiterator",dict:=none,data:=.fields #[.ref d,.int i 0,.int n 0,.int ep 0],slots:=#[] }
theorem wn8 (it d:Addr) (i n ep:Nat) (es:Array DictEntry) (e:DictEntry) (hn:es.size=n) (he:es[i]?=some e) :
 Meets (Builtin.«dict_keyiterator.__next__» ⟨[.ref it],[]⟩) (fun _ R s=>s.heap.get? it=some (ys4 d i n ep)/\s.heap.get? d=some (xw2 es ep)/\R (.ok (.ret e.key)) { s with heap:=s.heap.update it (Obj.mapFields fun x=>x.setIfInBounds 1 (rawInt ((i:Int)+1))),toks:=s.toks }):=
 .of_wp fun prog w A R s h=>by
  obtain⟨hp,g,dd,tk,os⟩:=s;obtain⟨hl,hd,h⟩:=h;wp_walk;have e1:(if ((i:Nat):Int)<0 then none else es[((i:Nat):Int).toNat]?)=some e:=by rw[if_neg (by omega),Bq0,he]
  simp only[e1]
  wp_walk
  exact⟨_,rfl,h⟩
theorem wx8 (it d:Addr) (n ep:Nat) (es:Array DictEntry) (hn:es.size=n) {R:Fin->Shared->Prop} (hh:A.handled=none) (h1:s.heap.get? it=some (ys4 d n n ep)) (h2:s.heap.get? d=some (xw2 es ep))
 (h:∀a h' tk,(∀b o,b≠it->s.heap.get? b=some o->h'.get? b=some o)->(∃o,h'.get? a=some o/\o.cls=.type "StopIteration")->E (.ref a) { s with heap:=h',toks:=tk }) :
 wpAny (model prog w) A (Builtin.«dict_keyiterator.__next__» ⟨[.ref it],[]⟩) R E s:=by
 obtain⟨hp,g,dd,tk,os⟩:=s;wp_walk;have e1:(if ((n:Nat):Int)<0 then none else es[((n:Nat):Int).toNat]?)=none:=by rw[if_neg (by omega),Bq0,Array.getElem?_eq_none (by omega)]
 simp only[e1]
 wp_walk
 unfold raiseNew;refine wpAny_bind (wpAny_handled ?_);rw[hh];refine wpAny_bind (wpAny_pure (wpAny_throw (h _ _ _ (fun b o hb e=>?_) ⟨_,Ad0 _ rfl,rfl⟩)));exact Aa0 _ (Aa0 _ ((Ay0 _ _ (Ne.symm hb)).trans e))
theorem wn7 (d:Addr) (es:Array DictEntry) (ep:Nat) (hd:(d == sysModules)=false) :
 Meets (Builtin.«dict.__iter__» ⟨[.ref d],[]⟩) (fun _ R s=>s.heap.get? d=some (xw2 es ep)/\R (.ok (.ret (.ref s.heap.objs.size))) { s with heap:=s.heap.push (ys4 d 0 es.size ep),toks:=s.toks }):=
 .of_wp fun prog w A R s h=>by
  obtain⟨hp,g,dd,tk,os⟩:=s;obtain⟨hl,h⟩:=h;wp_walk;exact⟨_,rfl,h⟩
end
end L2
end
section
namespace L2
open PySem PySem.Spec PyProof PyProof.Rows Ts
section
variable {prog:Program} {w:World} {A:Around} {E:Value->Shared->Prop} {s:Shared}
set_option tactic.hygienic true in
theorem xp7 {it d:Addr} {i n ep:Nat} {es:Array DictEntry} {e:DictEntry} {Q:Option Value->Shared->Prop} (hn:es.size=n) (he:es[i]?=some e) (h1:s.heap.get? it=some (ys4 d i n ep)) (h2:s.heap.get? d=some (xw2 es ep))
 (h:∀h' tk,h'.get? it=some (ys4 d (i+1) n ep)->(∀b o,b≠it->s.heap.get? b=some o->h'.get? b=some o)->Q (some e.key) { s with heap:=h',toks:=tk }):wpAny (model prog w) A (pyNext (.ref it)) Q E s:=by
 have ty:s.TypeIs (.ref it) "dict_keyiterator":=⟨_,h1,rfl⟩;have new:=Cf0 (Obj.mapFields fun x=>x.setIfInBounds 1 (rawInt ((i:Int)+1))) h1 rfl;unfold pyNext;exact wpAny_bind (wpAny_attempt (wpAny_callSpecial?_slot (name:=Str.ofString "__next__") ty F.slot_dict_keyiterator_next (call_meets F.slot_dict_keyiterator_next ty F.entry_dict_keyiterator_next (F.args_dict_keyiterator_next_1 _) (wn8 it d i n ep es e hn he)
  ⟨h1,h2,wpAny_pure (h _ _ new fun b o hb g=>(Ay0 _ _ (Ne.symm hb)).trans g)⟩)))
set_option tactic.hygienic true in
theorem xz8 {it d:Addr} {n ep:Nat} {es:Array DictEntry} {Q:Option Value->Shared->Prop} (hh:A.handled=none) (hn:es.size=n) (h1:s.heap.get? it=some (ys4 d n n ep)) (h2:s.heap.get? d=some (xw2 es ep))
 (h:∀h' tk,(∀b o,b≠it->s.heap.get? b=some o->h'.get? b=some o)->Q none { s with heap:=h',toks:=tk }):wpAny (model prog w) A (pyNext (.ref it)) Q E s:=by
 have ty:s.TypeIs (.ref it) "dict_keyiterator":=⟨_,h1,rfl⟩;unfold pyNext;refine wpAny_bind (wpAny_attempt (wpAny_callSpecial?_slot (name:=Str.ofString "__next__") ty F.slot_dict_keyiterator_next (wpAny_call_entry F.slot_dict_keyiterator_next ty F.entry_dict_keyiterator_next (wx8 it d n ep es hn (A:=A.in1) hh h1 h2 fun a h' tk hk hc=>?_) (F.args_dict_keyiterator_next_1 _))));exact wpAny_bind (wpAny_isInstance (T:="StopIteration") (b:=true) hc isSubtype_stop (wpAny_pure (h _ _ hk)))
theorem xr4 {d:Addr} {es:Array DictEntry} {ep:Nat} {Q:Value->Shared->Prop} (hd:(d == sysModules)=false) (h2:s.heap.get? d=some (xw2 es ep)) (h:Q (.ref s.heap.objs.size) { s with heap:=s.heap.push (ys4 d 0 es.size ep) }):wpAny (model prog w) A (pyIter (.ref d)) Q E s:=by
 have ty:s.TypeIs (.ref d) "dict":=⟨_,h2,rfl⟩;exact wpAny_pyIter_slot ty F.slot_dict_iter (call_meets F.slot_dict_iter ty F.entry_dict_iter (F.args_dict_iter_1 _) (wn7 d es ep hd) ⟨h2,"dict_keyiterator",_,⟨_,Ad0 _ rfl,rfl⟩,F.slot_dict_keyiterator_next.lookup,h⟩)
theorem xg3 (hh:A.handled=none) (it d:Addr) (hne:d≠it) (es:Array DictEntry) (ep:Nat) :
 Walks prog w A it [it,d] [it] es.size (fun i v=>∃e,es[i]?=some e/\v=e.key) (fun i h=>h.get? it=some (ys4 d i es.size ep)/\h.get? d=some (xw2 es ep)) where
 sub:=fun b hb=>by simp at hb;simp[hb]
 frame:=fun _ _ _ st hk=>⟨hk it (by simp) _ st.1,hk d (by simp) _ st.2⟩
 item:=fun i s Q E hi st hQ=>xp7 rfl (Bd0 hi) st.1 st.2 fun h' tk a b=>hQ _ h' tk ⟨_,Bd0 hi,rfl⟩ ⟨a,b d _ hne st.2⟩ fun c o hc e=>b c o (fun z=>hc (by simp[z])) e
 done:=fun s Q E st hQ=>xz8 hh rfl st.1 st.2 fun h' tk b=>hQ h' tk fun c o hc e=>b c o (fun z=>hc (by simp[z])) e
 self:=fun i s Q E st hQ=>wpAny_pyIter_keyiter ⟨_,st.1,rfl,rfl⟩ hQ
theorem xx6 {d:Addr} (hd:(d == sysModules)=false) (es:Array DictEntry) (ep:Nat):PySem.W.KdlSrc prog w "dict" d d es.size (fun i v=>∃e,es[i]?=some e/\v=e.key) (fun h=>h.get? d=some (xw2 es ep)) where
 type:=fun _ hm=>⟨_,hm,rfl⟩
 there:=fun _ hm=>⟨Heap.lt_size hm,Heap.lt_size hm⟩
 keep:=fun _ _ hm hk=>hk d (.inl rfl) _ hm
 notList:=by decide
 notTuple:=by decide
 hint:=fun _ _ _ _ hm hq=>PySem.W.kdl_hint_dict ⟨_,hm,rfl⟩ hq
 iter:=fun _ _ hh hm=>⟨_,_,(fun _ _ hq=>xr4 hd hm hq),xg3 hh _ d (Ar0 (Heap.lt_size hm)) es ep,⟨Ad0 _ rfl,Aa0 _ hm⟩⟩
theorem xm1 {h:Heap} {a:Addr} {n:Nat} {vs:List Value} {out:Array Value} (o1:h.get? a=some (seqObj "list" vs.toArray n)):∃m,(sortedHeap h a vs out).get? a=some (seqObj "list" out m):=by
 have la:a<h.objs.size:=Heap.lt_size o1;have o2:=get?_update_seq o1 (fun _=>(#[]:Array Value));unfold sortedHeap;have o3:(((h.update a (Obj.mapSeq fun _=>#[])).push (seqObj "tuple" vs.toArray 0)).push (seqObj "list" #[] 0)).get? a=_:=Aa0 _ (Aa0 _ o2);exact⟨_,get?_update_seq o3 (fun _=>out)⟩
theorem xg8 {h:Heap} {a b:Addr} {o:Obj} {vs:List Value} {out:Array Value} (hb:b≠a) (g:h.get? b=some o):(sortedHeap h a vs out).get? b=some o:=by
 unfold sortedHeap;rw[Heap.get?_update_ne _ _ _ _ hb];exact Aa0 _ (Aa0 _ (by rw[Heap.get?_update_ne _ _ _ _ hb];exact g))
theorem yw1 {d:Addr} {es:Array DictEntry} {ep:Nat} {Q:Value->Shared->Prop} (hh:A.handled=none) (hd:(d == sysModules)=false) (h2:s.heap.get? d=some (xw2 es ep)) (hv:∀e∈es.toList,∃p,zi1 s.heap e.key p) (h128:es.size<128)
 (h:∀(p:Addr) (h1 h':Heap) (tk n:Nat) (out:Array Value),(∀b o,s.heap.get? b=some o->h1.get? b=some o)->h1.objs.size<=p->(∀b o,h1.get? b=some o->h'.get? b=some o)->h'.get? p=some (seqObj "list" out n)->out.toList.Perm (es.toList.map (·.key))->out.toList.Pairwise (fun x y=>lxle (yh6 s.heap x) (yh6 s.heap y))->Q (.ref p) { s with heap:=h',toks:=tk }) :
 wpAny (model prog w) A (call (.builtin "sorted") [.ref d]) Q E s:=by
 refine Calls.call_function_entry kind_sorted plain_sorted entry_sorted (args_sorted1 _) ?_;unfold Builtin.«sorted»;refine wpAny_bind (m:=checkCount "sorted" 1 1 _) (wpAny_pure (wpAny_bind (PySem.W.kdu_collect (A:=A.in1) (xx6 hd es ep) hh h2 (by rw[sizeLine_eq];omega) fun h' tk acc hk hacc=>?_)));have ha:acc.toList=es.toList.map (·.key):=by
  apply List.ext_getElem?;intro j;rw[Ai0,Array.getElem?_toList,Array.getElem?_toList];by_cases hj:j<es.size
  ·obtain⟨e,he,hv⟩:=hacc.2 j _ (Bd0 (by rw[hacc.1];exact hj))
   rw[Bd0 (by rw[hacc.1];exact hj),hv,he];rfl
  ·rw[Array.getElem?_eq_none (by rw[hacc.1];omega),Array.getElem?_eq_none (by omega)];rfl
 rw[ha];have hlen:(es.toList.map (·.key)).length=es.size:=by simp
 refine wpAny_bind (wpAny_newList ?_ (by rw[hlen,sizeLine_eq];omega));show wpAny _ _ _ _ _ { s with heap:=h'.push (seqObj "list" (es.toList.map (·.key)).toArray 0),toks:=tk };have o1:(h'.push (seqObj "list" (es.toList.map (·.key)).toArray 0)).get? h'.objs.size=some (seqObj "list" (es.toList.map (·.key)).toArray 0):=Ad0 _ rfl;have old:∀b o,h'.get? b=some o->(h'.push (seqObj "list" (es.toList.map (·.key)).toArray 0)).get? b=some o:=fun b o g=>Aa0 _ g
 generalize hH:h'.push (seqObj "list" (es.toList.map (·.key)).toArray 0)=H1 at o1 old ⊢;have keep:∀v p,zi1 s.heap v p->zi1 H1 v p:=fun v p z=>by
  obtain⟨b,o,m,t,u,rfl,g,c,d⟩:=z;exact⟨b,o,m,t,u,rfl,old _ _ (hk _ _ g),c,d⟩
 have two:∀v∈es.toList.map (·.key),∃p,zi1 s.heap v p:=fun v m=>by
  obtain⟨e,he,rfl⟩:=Bl0.mp m;exact hv e he
 have ke:∀v∈es.toList.map (·.key),yh6 H1 v=yh6 s.heap v:=fun v m=>by
  obtain⟨p,z⟩:=two v m;unfold yh6;rw[z.key,(keep _ _ z).key]
 refine wpAny_bind (wpAny_holding (wpAny_call_entry slot_list_sort ⟨_,o1,rfl⟩ entry_list_sort (xm2 (s:={ s with heap:=H1,toks:=tk }) o1 (fun v m=>(two v m).imp fun p z=>keep v p z) (by rw[hlen];exact h128) fun out a1 a2=>⟨_,rfl,wpAny_pure ⟨_,rfl,?_⟩⟩) (args_list_sort _)));obtain⟨m,om⟩:=xm1 (out:=out) o1;refine h _ h' _ _ m out hk (Ac0 _) (fun b o g=>xg8 (fun e=>?_) (old b o g)) om a1 (a2.imp_of_mem fun {x y} hx hy q=>by
  rw[<-ke x (a1.mem_iff.mp hx),<-ke y (a1.mem_iff.mp hy)];exact q)
 exact absurd (Heap.lt_size g) (by rw[e];exact Bn0 _)
end
section
variable {X:Cx} {S:Type} {W:Wd S} {c:Dx W}
noncomputable def PrK:List (List Key×V)->List P2->Prop:=Paired fun kv p=>kv.1=[.inl p.1,.inl p.2]
theorem yu7 (hc:X.calm=true):zw9 X (.builtin "sorted") (fun xs H Q=>∃(a:Addr) (kvs:List (List Key×V)) (ps:List P2),xs=[.ref a]/\H a=some (.dT kvs)/\PrK kvs ps/\ps.length<128/\∀p vs',H p=none->PrV H vs' (zl2 ps)->Q (.ref p) (upd H p (.lst vs'))):=by
 intro pins s σ H xs us Q I r h;obtain⟨a,kvs,ps,rfl,hq,hp,h128,q⟩:=h;obtain⟨u,rfl,r1⟩:=yh8 r;cases r1;obtain⟨z,hd,xs,rel,o,es,ep,g,ex,dat,et,nd⟩:=(show zk1 X.prog X.w H s.heap a (.dT kvs) from I.hok a _ hq);have eo:o=xw2 es ep:=by
  obtain⟨cl,di,da,sl⟩:=o;obtain⟨e1,e2,e3⟩:=ex;simp only at e1 e2 e3 dat;subst e1 e2 e3 dat;rfl
 subst eo;have three:∀{kvs:List (List Key×V)} {xs:List (List Key×Addr×Value)} {ps:List P2},Paired (fun (p:List Key×V) (q:List Key×Addr×Value)=>p.1=q.1/\H q.2.1=some (.tup (p.1.map kV))/\zf0 p.2 q.2.2) kvs xs->PrK kvs ps->
  Paired (fun v u=>zf0 v u/\∃p,(∃b,v=.ref b/\H b=some (.tup [.int p.1,.int p.2]))/\zi1 s.heap u p) (xs.map fun x=>V.ref x.2.1) (xs.map fun x=>Value.ref x.2.1)/\(xs.map fun x=>Value.ref x.2.1).map (yh6 s.heap)=ps:=by
  intro kvs xs ps rel;induction rel generalizing ps with
  | nil=>intro hp;cases hp;exact⟨.nil,rfl⟩
  | @cons p x _ _ h1 _ ih=>
    intro hp;cases hp with
    | @cons _ pp _ _ y hp=>
      obtain⟨i1,i2⟩:=ih hp;obtain⟨e1,hb,_⟩:=h1;rw[show p.1=_ from y] at hb;obtain⟨js,rj,⟨o,g,cl,n,d⟩,_⟩:=I.tuple (SqT.of (show H x.2.1=some (.tup [.int pp.1,.int pp.2]) from hb));cases rj with
      | cons x1 rj=>cases rj with
        | cons x2 rj=>
          cases rj;obtain⟨t1,rfl⟩:=x1;obtain⟨t2,rfl⟩:=x2;have tw:zi1 s.heap (.ref x.2.1) pp:=⟨x.2.1,o,n,t1,t2,rfl,g,cl,d⟩;refine⟨.cons ⟨rfl,pp,⟨x.2.1,rfl,hb⟩,tw⟩ i1,?_⟩;rw[Ao0,Ao0,i2];unfold yh6;rw[tw.key];rfl
 obtain⟨t3,ek⟩:=three rel hp;have hm:∀{vs:List V} {its:List Value},Paired (fun v u=>zf0 v u/\∃p,(∃b,v=.ref b/\H b=some (.tup [.int p.1,.int p.2]))/\zi1 s.heap u p) vs its->(∀v∈its,∃p,zi1 s.heap v p)/\zf8 vs its/\PrV H vs (its.map (yh6 s.heap)):=by
  intro vs its z;induction z with
  | nil=>exact⟨fun v m=>absurd m (by simp),.nil,.nil⟩
  | cons y _ ih=>
    obtain⟨r1,p,z,tw⟩:=y;refine⟨fun v m=>?_,.cons r1 ih.2.1,.cons ?_ ih.2.2⟩
    ·rcases Ah0.mp m with rfl | m
     ·exact⟨p,tw⟩
     ·exact ih.1 v m
    ·unfold yh6;rw[tw.key];exact z
 have ekey:es.toList.map (·.key)=xs.map fun x=>Value.ref x.2.1:=by rw[et,Bz0];rfl
 have hsz:es.size=ps.length:=by
  have h1:=congrArg List.length ekey;rw[Ab0,Ab0,Bi0] at h1;rw[h1,<-Paired.length rel,Paired.length hp]
 refine yw1 (I.ok.hd hc) hd g (fun e he=>?_) (by omega) fun p h1 h' tk n out k1 lp k2 go p1 u1=>?_
 ·exact(hm t3).1 _ (by rw[<-ekey];exact Bl0.mpr ⟨e,he,rfl⟩)
 ·rw[ekey] at p1
  obtain⟨vs',pv,t3'⟩:=yw9 p1 t3;have es':out.toList.map (yh6 s.heap)=zl2 ps:=wb8 (by rw[<-ek];exact p1.map _) (by rw[List.pairwise_map];exact u1);obtain⟨_,r2,w2⟩:=hm t3';rw[es'] at w2;have I1:Inv X pins σ H { s with heap:=h1,toks:=tk }:=I.kept k1;have hlen:vs'.length<=127:=by
   have h1:=pv.length_eq;rw[Ab0,<-Paired.length rel,Paired.length hp] at h1;omega
  exact⟨.ref p,_,I1.laid (t':=tk) (a:=p) (o:=.lst vs') k2 lp ⟨Nat.le_of_lt (ye0 (by omega)),out.toList,n,r2,go⟩,rfl,q _ _ (I1.hok.fresh lp) w2⟩
noncomputable def xo9:List D->Option D
 | [.dct (.non::ks) _]=>(zv8 ks).bind fun ps=>if ps.length<128 then some (.lst ((zl2 ps).map prD)) else none
 | _=>none
set_option tactic.hygienic true in
theorem we0:∀{kk:List (List Key)} {ps:List P2} {vs:List V},zv8 (kk.map ze8)=some ps->kk.length=vs.length->PrK (kk.zip vs) ps
 | [],ps,vs,e,_=>by cases e;exact .nil
 | k::kk,ps,[],_,h=>by cases h
 | k::kk,ps,v::vs,e,h=>by
   rw[Ao0] at e;unfold zv8 at e;split at e
   ·rename_i he;cases he
   ·rename_i x y m he
    injection he with he1 he2
    subst he2;cases q:zv8 (kk.map ze8) with
    | none=>rw[q] at e;cases e
    | some rs=>
      rw[q] at e;cases e;refine .cons ?_ (we0 q (by simpa using h));unfold ze8 at he1;injection he1 with he1
      cases k with
      | nil=>cases he1
      | cons a k=>cases k with
        | nil=>simp at he1
        | cons b k=>cases k with
          | nil=>
            simp only[Ao0,Ce0,List.cons.injEq,and_true] at he1;obtain⟨e1,e2⟩:=he1;cases a<;>cases b<;>simp[xj2] at e1 e2;subst e1 e2;rfl
          | cons d k=>simp at he1
   ·cases e
set_option tactic.hygienic true in
theorem wc5:zx0 c (fun xs H Q=>∃(a:Addr) (kvs:List (List Key×V)) (ps:List P2),xs=[.ref a]/\H a=some (.dT kvs)/\PrK kvs ps/\ps.length<128/\∀p vs',H p=none->PrV H vs' (zl2 ps)->Q (.ref p) (upd H p (.lst vs'))) xo9:=by
 intro l vs H st d Q ok z e q;unfold xo9 at e;split at e
 ·rename_i ks ws
  cases qq:zv8 ks with
  | none=>rw[qq] at e;cases e
  | some ps=>
    rw[qq] at e;have e:(if ps.length<128 then some (D.lst ((zl2 ps).map prD)) else none)=some d:=e;split at e
    ·rename_i h128
     cases e;obtain⟨v,r,e1,i1,i2⟩:=IsL.cons.mp z;obtain⟨a,us,ea,_,i3,hk⟩:=Is.dct_iff.mp i1;rw[IsL.nil.mp i2,ea] at e1;rcases hk with⟨kk,ek,_,_⟩ | ⟨kk,ek,el,hh⟩
     ·cases kk with
      | nil=>cases ek
      | cons k kk=>cases k<;>cases ek
     ·injection ek with _ ek
      subst ek;exact⟨a,_,ps,e1,hh,we0 qq el,h128,fun p vs' hp w=>q _ _ (Ext.laid hp) (zi3 ok hp) (New.lst ok hp (fun _ n=>n) (yn1 _) (wd9 (A:=fun b=>¬W.mv b) w))⟩
    ·cases e
 ·cases e
end
end L2
end
section
open L2
local macro_rules
 | `(tactic| simp?! [$ls,*])=>do
   let x:=("wp_ok wp_bad wp_some wp_none wp_sNil wp_sSet wp_sSetB wp_sAsg wp_sPar wp_sIf wp_sRet wp_sRetV wp_sMt wp_sBad wp_fC wp_fVk wp_f2 wp_fA wp_aNil wp_aCons wp_fCall wp_fCallS wp_fAndV wp_fOrV wp_fNotV wp_fIfE wp_fNeg wp_pNo wp_pSo wp_iSeq wp_iArgs wp_fComp wp_fB wp_fAnd wp_fOr wp_fNot wp_fTrue wp_sPar3 wp_sItem wp_sDPut wp_fChain wp_fDisp wp_sTab2 wp_fGet wp_sFor wp_fP wp_aP wp_tP own? frz frz1 pickR gN gT gsCons gsNil D.seq? D.immL flat_lst flat_dct flat_int flat_str flat_bl flat_non flat_tup imm_int imm_str imm_bl imm_non imm_tup rho0 rhoS rhoL g0 gS s0 sS lC lN rd putN put im kp vr cn o2 cs nl o1 ti tb boS dbb rl0_ rl1_ rl2_ rl3_ rl4_ rl5_ rl6_ rl7_ rl8_ rl9_".splitOn " ").toArray.map fun n=>Lean.mkIdent n.toName
   `(tactic| try simp only[$[$x:term],*,EV_,Nat.reduceAdd,Nat.reduceLT,Nat.reduceLeDiff,Nat.reduceSub,reduceIte,$ls,*])
local macro_rules
 | `(tactic| simp_all!)=>do
   let a:=Lean.mkIdent `hN_
   `(tactic| ((try with_reducible refine $a _ _ ?_);with_reducible refine wh0 fun $(Lean.mkIdent `P_) $a $(Lean.mkIdent `hR_) $(Lean.mkIdent `hB_) $(Lean.mkIdent `hC_)=>?_))
 | `(tactic| simp!)=>`(tactic| simp! [wp_ok])
 | `(tactic| simp! [$ls,*])=>do
   let a:=Lean.mkIdent `hN_
   `(tactic| ((try with_reducible refine $a _ _ ?_);simp?! [$ls,*];(repeat (first | with_reducible refine $a _ _ ?_ | with_reducible refine $(Lean.mkIdent `hR_) _ _ ?_ | with_reducible refine $(Lean.mkIdent `hB_) _ _ ?_ | with_reducible refine $(Lean.mkIdent `hC_) _ _ ?_));simp?! [$ls,*]))
section
namespace K30
open PySem PySem.Spec PyProof.Rows L2
noncomputable def top (i:Nat):Stmt:=PySem.Challenge.pw_slidehall_k30_sides.main.body.getD i (.Pass ⟨0,0,0,0⟩)
structure Cst (K:PySem.W.Frag) (mg:Str->Option Value):Prop where
 ok:True
 WALL:∃t,mg "WALL" = some (.int (-1) t)
 STEPS:∃a0,mg "STEPS" = some (.ref a0)/\vh7 K a0 [(1,0),(0,1),(-1,0),(0,-1)]
noncomputable abbrev zi9:Stmt:=top 15
noncomputable abbrev yr5:List Str:=["_law_script","_law_cells"]
theorem zq4:zd1 yr5 ["_law_script"] (za1 zi9):=⟨rfl,rfl,rfl,by decide +kernel,rfl,by decide +kernel,by decide +kernel⟩
noncomputable abbrev zk6:Stmt:=top 16
noncomputable abbrev yx7:List Str:=["_law_state","_law_many","_law_turn","_law_place","_law_cell","_law_digit","_law_mixed"]
theorem zh5:zd1 yx7 ["_law_state","_law_many"] (za1 zk6):=⟨rfl,rfl,rfl,by decide +kernel,rfl,by decide +kernel,by decide +kernel⟩
section
variable {P:Program} {w:World} {K:PySem.W.Frag} {mg:Str->Option Value} {base:Heap}
theorem xz3 {f:Addr} {fd:FuncData} (F:Fun K "_law_begin" "_law_begin" zi9 f fd) (hm:Bn mg):zp9 P w K mg base CX0 1 f fd ["_law_script"] (xm0 K):=by
 refine F.ok zq4 (fun vs H Q E h=>?_) (fun cdv A outer s H vs Q E hr h=>?_)
 ·obtain⟨a,ns,rfl,_⟩:=h;rfl
 ·obtain⟨a,ns,rfl,hS,h63,q⟩:=h
  have hcut:wq4 (ns.map V.int) none (some 63)=ns.map V.int:=vh5 h63;refine⟨_,zi7 (zs3 (i:=1) zq4.nd rfl (Or.inl rfl) (yq7 zt1 (by rfl) hm.list boot_list (zk7 (xy7 wj6 (pv 0) wk7 (wk6 zl4)) zs5))) (zi7 (wk5 (yw5 (zi4 hr) (pv 1) (xn8 zs5) (we8 _)) (ye1 (zs3 (i:=1) zq4.nd rfl (Or.inl rfl) (xn8 (zk7 zl4 zs5)))) yw6) (ye1 (yq3 (xo0 (yc3 zx7 (pv 1) (yc3 zx7 zl4 yw7)) rfl rfl (by simp) (by show 2<=15;decide))))),?_⟩;refine⟨.ref a,rfl,63,rfl,a,_,rfl,hS,fun p1 hp1=>?_⟩;rw[hcut];refine⟨p1,_,rfl,.inl (.of zb0),fun p2 hp2=>?_⟩;have n12:p1≠p2:=zb7 zb0 hp2;have s2:yv3 H (upd (upd H p1 (.lst (ns.map V.int))) p2 (.lst (ns.map V.int))):=fun b o e=>by
   have b1:b≠p1:=zb7 e hp1;have b2:b≠p2:=fun z=>by subst z;rw[za9 b1,e] at hp2;cases hp2
   rw[za9 b2,za9 b1];exact e
  refine⟨_,rfl,(by show 0<=sizeLine;decide),fun p3 hp3=>?_⟩;have n23:p2≠p3:=zb7 zb0 hp3;refine⟨fun _=>True,.lst (ns.map D.int),.lst [],ns.isEmpty,?_,?_,?_,?_,?_⟩
  ·exact Is.lst trivial (by rw[za9 n23];exact zb0) (xr6 ns)
  ·exact Is.lst trivial zb0 (IsL.nil.mpr rfl)
  ·exact wa4 ns
  ·cases ns<;>rfl
  have fin:∀(H3:Hp) (q2:Addr) (xs:List Int),yv3 H H3->H q2=none->H3 q2=some (.lst (xs.map V.int))->xs=zr0 ns->
   wt7 [(fun _ H Q=>Q (.str "cells") H,yh9 1),(fun _ H Q=>Q (.str "turn") H,fun _ H Q=>Q (.int 0) H)] [some (.ref a),some (.ref q2)] H3 Q:=fun H3 q2 xs sm hn hl ex=>by
   intro r hr';have nr:q2≠r:=zb7 hl hr';refine⟨_,rfl,zb0,[(Sum.inr "cells",.ref q2),(Sum.inr "turn",.int 0)],rfl,(by show 2<=15;decide),?_⟩;refine q r q2 _ (fun b o e=>?_) ?_ ?_ ?_ ?_
   ·have br:b≠r:=zb7 (sm b o e) hr'
    rw[za9 br,za9 br];exact sm b o e
   ·cases z:H r with
    | none=>rfl
    | some o=>rw[sm r o z] at hr';cases hr'
   ·exact hn
   ·rw[zb0];exact congrArg (fun z=>some (HO.dK z)) wx2
   ·rw[za9 nr,za9 nr,hl,ex]
  have g2:H p2=none:=by
   cases z:H p2 with
   | none=>rfl
   | some o=>
     have b1:p2≠p1:=n12.symm;rw[za9 b1,z] at hp2;cases hp2
  cases ns with
  | nil=>
    refine⟨_,rfl,wr4 ?_⟩;refine⟨(by show 1<=sizeLine;decide),fun p4 hp4=>?_⟩;have s3:yv3 H (upd (upd (upd (upd H p1 (.lst [])) p2 (.lst [])) p3 (.lst [])) p4 (.lst [.int 7])):=fun b o e=>by
     have z2:=s2 b o e;have b3:b≠p3:=zb7 z2 hp3;have b4:b≠p4:=fun z=>by subst z;rw[za9 b3,z2] at hp4;cases hp4
     rw[za9 b4,za9 b3];exact z2
    refine fin _ p4 [7] s3 ?_ zb0 rfl;cases z:H p4 with
    | none=>rfl
    | some o=>
      have z2:=s2 p4 o z;have b3:p4≠p3:=zb7 z2 hp3;rw[za9 b3,z2] at hp4;cases hp4
  | cons n0 ns=>
    refine⟨_,rfl,wy6 ?_⟩;have s3:yv3 H (upd (upd (upd H p1 (.lst ((n0::ns).map V.int))) p2 (.lst ((n0::ns).map V.int))) p3 (.lst [])):=fun b o e=>by
     have z2:=s2 b o e;have b3:b≠p3:=zb7 z2 hp3;rw[za9 b3];exact z2
    exact fin _ p2 (n0::ns) s3 g2 (by rw[za9 n23];exact zb0) rfl
set_option tactic.hygienic true in
theorem wl8 {f p l:Addr} {fd:FuncData} (F:Fun K "_law_take" "_law_take" zk6 f fd) (hlen:mg "len" = none) (hdm:mg "divmod" = none):zp9 P w K mg base CX0 1 f fd ["_law_state","_law_many"] (spS (WdS p l) K zu3):=by
 refine F.ok zh5 (fun vs H Q E h=>?_) (fun cdv A outer s H vs Q E hr h=>?_)
 ·obtain⟨ds,us,st,rfl,i,ok,w⟩:=h
  unfold zu3 at w;split at w
  ·rw[An0,<-i.length];rfl
  ·exact w.elim
 ·obtain⟨ds,us,st,rfl,i,ok,w⟩:=h
  unfold zu3 at w;split at w
  ·rename_i many
   split at w
   ·rename_i hb
    obtain⟨v,r,ev,i1,i2⟩:=IsL.cons.mp i;rw[IsL.nil.mp i2,Is.int_iff.mp i1] at ev;subst ev;have hu:=zu6 hr;obtain⟨hp,hl,hne,h63,h0⟩:=id ok;have npl:p≠l:=xp8 hp hl (by intro z;cases z);refine⟨_,zi7 (zs3 (i:=2) zh5.nd rfl (Or.inl rfl) (zq7 yr1 (ye3 hu (pv 0) zx7 (fun _ _=>rfl)) zl4)) (zi7 (xn5 hu (pv 0) zx7 (pv 2) rfl) (zi7 (zs3 (i:=3) zh5.nd rfl (Or.inl rfl) (zq7 zx9 (pv 2) (yc5 zf6 (by rfl) hlen PySem.boot_len (zk7 (ye3 hu (pv 0) zx7 (fun _ _=>rfl)) zs5)))) (zi7 (zs3 (i:=4) zh5.nd rfl (Or.inl rfl) (wl0 xr2 (ye3 hu (pv 0) zx7 (fun _ _=>rfl)) (pv 3) (fun _ _=>rfl))) (zi7 (wk5 (yw5 vf6 (pv 4) (zq7 we4 zl4 zl4) (we8 _)) (zi7 (yq4 (yc5 yz8 (by rfl) hdm boot_divmod (zk7 (pv 4) (zk7 (pv 1) zs5))) (xb9 (n:=2) rfl (zq6 (xc0 (ye3 hu (pv 0) zx7 (fun _ _=>rfl)) (pv 3) yc1) (zq6 (ym1 (i:=5) zh5.nd rfl (Or.inl rfl)) ym0)))) (ye1 (yq3 (pv 5)))) yw6) (zi7 (zs3 (i:=6) zh5.nd rfl (Or.inl rfl) (zq7 zx9 (zq7 ye6 (zq7 yr1 (zq7 yr1 (zq7 zx9 (pv 4) zl4) (zq7 ye6 (zq7 ye6 (pv 2) (pv 2)) zl4)) zl4) zl4) zl4)) (zi7 (zs3 (i:=6) zh5.nd rfl (Or.inl rfl) (zq7 zx9 (zq7 ye6 (pv 6) (pv 6)) zl4)) (ye1 (yq3 (zq7 zx9 (zq7 wl6 (zq7 zx9 (zq7 ye6 (zq7 yr1 (pv 6) (zq7 ye6 (pv 2) zl4)) zl4) zl4) zl4) (pv 1)))))))))),?_⟩;have n0:(0:Int)<(st.1.length:Int):=by
     have:st.1.length≠0:=fun z=>hne (List.length_eq_zero_iff.mp z)
     omega
    have pl0:0<=(st.2+1) % (st.1.length:Int):=Int.emod_nonneg _ (by omega);have pl1:(st.2+1) % (st.1.length:Int)<(st.1.length:Int):=Int.emod_lt_of_pos _ n0;have ple:((plc st:Nat):Int)=(st.2+1) % (st.1.length:Int):=Int.toNat_of_nonneg pl0;have plt:plc st<st.1.length:=by omega
    have cel:(st.1.map V.int)[plc st]?=some (.int (st.1.getD (plc st) 0)):=by
     rw[Ai0,Ag0 plt,Bu0,Ag0 plt];rfl
    have H1p:∀o,(upd H p o) l=some (.lst (st.1.map V.int)):=fun o=>by rw[za9 npl.symm];exact hl
    have g0:yh7 H p (.str "turn") (some (.int st.2)):=by
     have q:=yh7.k (k:=(Sum.inr "turn" : Key)) hp;rw[xl9] at q;exact q
    have p0:wd0 H p (.str "turn") (.int (st.2+1)) (upd H p (.dK (stD l (st.2+1)))):=by
     have q:=wd0.k (k:=(Sum.inr "turn" : Key)) (v:=.int (st.2+1)) hp (by show 2<sizeLine;decide);rw[wu0] at q;exact q
    have gc:∀{H2:Hp},H2 p=some (.dK (stD l (st.2+1)))->yh7 H2 p (.str "cells") (some (.ref l)):=fun {H2} e=>by
     have q:=yh7.k (k:=(Sum.inr "cells" : Key)) e;rw[xx5] at q;exact q
    have lenI:(((st.1.map V.int).length:Nat):Int)=(st.1.length:Int):=by rw[Ab0]
    -- turn,its store,the place
    refine⟨_,rfl,p,.int st.2,rfl,g0,st.2,1,rfl,rfl,_,rfl,_,rfl,p,_,rfl,p0,?_⟩;refine⟨_,rfl,_,rfl,p,.ref l,rfl,gc zb0,l,_,rfl,.inl (SqL.of (H1p _)),st.2+1,_,rfl,rfl,by rw[lenI];exact n0,?_⟩
    -- the cell
    refine⟨_,rfl,p,.ref l,rfl,gc zb0,_,rfl,l,_,_,.int (st.1.getD (plc st) 0),rfl,rfl,SqL.of (H1p _),by rw[lenI,<-ple];exact yz9 cel,?_⟩;refine⟨_,rfl,10,18,rfl,rfl,⟨by decide,by decide,by decide⟩,st.1.getD (plc st) 0,_,rfl,rfl,_,rfl,?_⟩;have e18:((10:Int) ^ (18:Int).toNat)=1000000000000000000:=by decide
    by_cases hc:1000000000000000000<=st.1.getD (plc st) 0
    ·rw[if_pos hc] at w
     rw[e18,decide_eq_true hc];refine wr4 ?_;refine⟨_,rfl,_,rfl,st.1.getD (plc st) 0,many,rfl,⟨hb.1,hb.2.1⟩,fun q hq=>?_⟩;have qp:p≠q:=zb7 zb0 hq;have ql:l≠q:=zb7 (H1p _) hq;refine⟨q,_,rfl,SqT.of zb0,rfl,_,_,rfl,_,rfl,p,.ref l,rfl,gc (by rw[za9 qp];exact zb0),_,rfl,l,_,_,plc st,rfl,rfl,by rw[za9 ql];exact H1p _,?_,_,_,rfl,rfl,?_⟩
     ·rw[lenI,<-ple]
      unfold ixN;rw[if_pos (by omega),if_pos (by rw[Ab0];omega)];simp
     ·refine⟨_,rfl,w _ _ (fun b o hb' nm=>?_) ⟨?_,?_,?_,?_,?_⟩ (Is.int_iff.mpr rfl)⟩
      ·have b1:b≠p:=fun z=>nm (.inl z)
       have b2:b≠l:=fun z=>nm (.inr z)
       have b3:b≠q:=fun z=>by
        subst z;rw[za9 b1,hb'] at hq;cases hq
       rw[za9 b2,za9 b3,za9 b1];exact hb'
      ·rw[za9 npl,za9 qp];exact zb0
      ·rw[zb0]
       congr 2;rw[List.map_set]
      ·intro z
       have:=congrArg List.length z;rw[Bh0] at this;exact hne (List.length_eq_zero_iff.mp this)
      ·show (st.1.set _ _).length<=63
       rw[Bh0];exact h63
      ·show 0<=st.2+1
       omega
    ·rw[if_neg hc] at w
     rw[e18,decide_eq_false hc];refine wy6 ?_;have tb:-(2 ^ 64)<st.2+1/\st.2+1<2 ^ 64:=⟨by omega,by omega⟩;have big:∀(j:Int),-(2 ^ 64)<j/\j<2 ^ 64->∀i:Int,xj8 i j:=fun j h i=>.inr h
     refine⟨_,rfl,st.1.getD (plc st) 0,2147483629,rfl,rfl,(by show (0:Int)<2147483629;decide),_,rfl,_,rfl,_,_,rfl,rfl,.inl tb,_,_,rfl,rfl,big _ ⟨by decide,by decide⟩ _,_,_,rfl,rfl,_,_,rfl,rfl,_,_,rfl,rfl,big _ ⟨by decide,by decide⟩ _,_,_,rfl,rfl,(by show (0:Int)<2147483647;decide),?_⟩;have m0:0<=wr3 (st.1.getD (plc st) 0) (st.2+1):=Int.emod_nonneg _ (by decide);have m1:wr3 (st.1.getD (plc st) 0) (st.2+1)<2147483647:=Int.emod_lt_of_pos _ (by decide);refine⟨_,rfl,_,rfl,wr3 (st.1.getD (plc st) 0) (st.2+1),wr3 (st.1.getD (plc st) 0) (st.2+1),rfl,rfl,.inl ⟨by omega,by omega⟩,_,_,rfl,rfl,(by show (0:Int)<2147483587;decide),?_⟩;refine⟨_,rfl,_,rfl,st.2+1,104729,rfl,rfl,big _ ⟨by decide,by decide⟩ _,vj2 (st.1.getD (plc st) 0) (st.2+1),_,rfl,rfl,_,39373,rfl,rfl,big _ ⟨by decide,by decide⟩ _,_,2147483629,rfl,rfl,(by show (0:Int)<2147483629;decide),_,64,rfl,rfl,⟨by decide,by decide⟩,_,rfl,vj1 (st.1.getD (plc st) 0) (st.2+1),many,rfl,rfl,hb.1,?_⟩;refine w _ _ (fun b o hb' nm=>?_) ⟨zb0,H1p _,hne,h63,by show 0<=st.2+1;omega⟩ (Is.int_iff.mpr rfl);rw[za9 (fun z=>nm (.inl z))];exact hb'
   ·exact w.elim
  ·exact w.elim
end
section
noncomputable abbrev zn0:Stmt:=top 2
noncomputable abbrev xc6:List Str:=["wide","high","cell"]
theorem xm4:zd1 xc6 ["wide","high","cell"] (za1 zn0):=⟨rfl,rfl,rfl,by decide +kernel,rfl,by decide +kernel,by decide +kernel⟩
set_option maxHeartbeats 0 in
noncomputable def yl4:{ B:FnS Unit // ∀(P:Program) (w:World) (K:PySem.W.Frag) (mg:Str->Option Value) (base:Heap) (hm:Bn mg) (cs:Cst K mg) (k:Nat) (f:Addr) (cdv:Value) (A:Around) (outer:List Env) (s:Shared) (H:Hp) (E:XK),zl9 k (A.deeper (envOfC "within" (za1 zn0) s.heap.objs.size f cdv))->
 DSs (zw3 CX0 P w K mg base xc6 "within" (za1 zn0) f cdv A outer s H E).nox (cx0 K H) (zb2 zn0) B }:=by
 refine⟨?B,fun P w K mg base hm cs k f cdv A outer s H E hr=>?h⟩;case h=>
  refine' za8 ?q1;case q1=>
   exact ze1 (yg9 (ga:=.R) (yd0 (ga:=.R) (gb:=.R) (gc:=.R) yx1 yr0 zv9 zv9 za4 (gX_ rfl (za0 (pv 2)) za4 (fun _ _=>rfl)) (za0 (pv 0))) (yk5 (yd0 (ga:=.R) (gb:=.R) (gc:=.R) yx1 yr0 zv9 zv9 za4 (gX_ rfl (za0 (pv 2)) za4 (fun _ _=>rfl)) (za0 (pv 1)))))
noncomputable abbrev zj5:Stmt:=top 3
noncomputable abbrev ye9:List Str:=["kind","place","x","y","cells","i"]
theorem zp1:zd1 ye9 ["kind","place"] (za1 zj5):=⟨rfl,rfl,rfl,by decide +kernel,rfl,by decide +kernel,by decide +kernel⟩
set_option maxHeartbeats 0 in
noncomputable def yh2:{ B:FnS Unit // ∀(P:Program) (w:World) (K:PySem.W.Frag) (mg:Str->Option Value) (base:Heap) (hm:Bn mg) (cs:Cst K mg) (k:Nat) (f:Addr) (cdv:Value) (A:Around) (outer:List Env) (s:Shared) (H:Hp) (E:XK),zl9 k (A.deeper (envOfC "covered" (za1 zj5) s.heap.objs.size f cdv))->
 DSs (zw3 CX0 P w K mg base ye9 "covered" (za1 zj5) f cdv A outer s H E).nox (cx0 K H) (zb2 zj5) B }:=by
 refine⟨?B,fun P w K mg base hm cs k f cdv A outer s H E hr=>?h⟩;case h=>
  refine' za5 ?q1 ?r1;case q1=>
   exact yt9 (zg5 (pv 1)) (zr6 (n:=2) rfl rfl (zc3 (zb6 (i:=2) zp1.nd rfl (Or.inr rfl)) (zc3 (zb6 (i:=3) zp1.nd rfl (Or.inr rfl)) zl8)))
  case r1=>
  refine' za5 ?q2 ?r2;case q2=>
   exact zd2 (i:=4) zp1.nd rfl (Or.inl rfl) (gL_ za2)
  case r2=>
  refine' za5 ?q3 ?r3;case q3=>
   refine' zl7 [] PassesOwn.never rfl ?i4 ?g4 ?b4;case i4=>exact(zi5 rfl hm.range (zy9 (gX_ rfl (za0 (pv 0)) za4 (fun _ _=>rfl)) za2))
   case g4=>exact(zb6 (i:=5) zp1.nd rfl (Or.inr rfl))
   case b4=>
    refine' za8 ?q5;case q5=>
     exact yz2 (i:=4) yr6 yr8 PySem.F.slot_list_extend PySem.F.type_list_extend (pv 4) (zo7 (N':=["j","x","i","y"]) (ixs:=[none,some 2,some 5,some 3]) [] (zo0.scope (N:=ye9) (osc:=za1 zj5) (by decide +kernel)) rfl (zi5 rfl hm.range (zy9 (gX_ rfl (za0 (pv 0)) za4 (fun _ _=>rfl)) za2)) (fun av cl C s H fp=>⟨(zb6 (i:=0) (show (["j","x","i","y"]:List Str).Nodup by decide +kernel) rfl (Or.inl rfl)),zo6,(gU_ (wb6 (gP_ rfl (za0 (pv 1)) (za0 (pv 2))) (wb6 (gP_ rfl (za0 (pv 3)) (za0 (pv 0))) za2)))⟩)) rfl
  case r3=>
  refine' za8 ?q6;case q6=>
   exact yg7 (pv 4)
noncomputable abbrev zl3:Stmt:=top 4
noncomputable abbrev yr4:List Str:=["hall","stand","held","wall","n","kind","cell"]
theorem zm2:zd1 yr4 ["hall","stand"] (za1 zl3):=⟨rfl,rfl,rfl,by decide +kernel,rfl,by decide +kernel,by decide +kernel⟩
set_option maxHeartbeats 0 in
noncomputable def yg0 (G_covered:List D->Res Unit D):{ B:FnS Unit // ∀(P:Program) (w:World) (K:PySem.W.Frag) (mg:Str->Option Value) (base:Heap) (hm:Bn mg) (cs:Cst K mg) (k:Nat) (C_covered:ze0 P w K mg base k "covered" ["kind","place"] (sp0 K G_covered)) (f:Addr) (cdv:Value) (A:Around) (outer:List Env) (s:Shared) (H:Hp) (E:XK),zl9 k (A.deeper (envOfC "holders" (za1 zl3) s.heap.objs.size f cdv))->
 DSs (zw3 CX0 P w K mg base yr4 "holders" (za1 zl3) f cdv A outer s H E).nox (cx0 K H) (zb2 zl3) B }:=by
 refine⟨?B,fun P w K mg base hm cs k C_covered f cdv A outer s H E hr=>?h⟩;case h=>
  refine' za5 ?q1 ?r1;case q1=>
   exact zd2 (i:=2) zm2.nd rfl (Or.inl rfl) xe4
  case r1=>
  refine' za5 ?q2 ?r2;case q2=>
   refine' zl7 [] PassesOwn.never rfl ?i3 ?g3 ?b3;case i3=>exact(zp6 rfl (gX_ rfl (za0 (pv 0)) za4 (fun _ _=>rfl)))
   case g3=>exact(zb6 (i:=3) zm2.nd rfl (Or.inl rfl))
   case b3=>
    refine' za8 ?q4;case q4=>
     exact zz7 (zu6 hr) (pv 2) (ga:=.R) (gb:=.R) (za0 (pv 3)) (xe3 cs.WALL rfl)
  case r2=>
  refine' za5 ?q5 ?r5;case q5=>
   refine' zl7 [] PassesOwn.never rfl ?i6 ?g6 ?b6;case i6=>exact(yz5 rfl rfl hm.enumerate (zy9 (gX_ rfl (za0 (pv 0)) za4 (fun _ _=>rfl)) za2))
   case g6=>exact(zr6 (n:=2) rfl rfl (zc3 (zb6 (i:=4) zm2.nd rfl (Or.inl rfl)) (zc3 (zb6 (i:=5) zm2.nd rfl (Or.inl rfl)) zl8)))
   case b6=>
    refine' za8 ?q7;case q7=>
     refine' zl7 [] PassesOwn.never rfl ?i8 ?g8 ?b8;case i8=>exact(zp6 rfl (ze4 C_covered hr rfl (zh2 (za0 (pv 5)) (zy9 (gX_ rfl (za0 (pv 1)) (za0 (pv 4)) (fun _ _=>rfl)) za2))))
     case g8=>exact(zb6 (i:=6) zm2.nd rfl (Or.inl rfl))
     case b8=>
      refine' za8 ?q9;case q9=>
       exact zz7 (zu6 hr) (pv 2) (ga:=.R) (gb:=.R) (za0 (pv 6)) (za0 (pv 4))
  case r5=>
  refine' za8 ?q10;case q10=>
   exact yg7 (pv 2)
noncomputable abbrev ya1:Stmt:=top 7
noncomputable abbrev we9:List Str:=["ways","direction"]
theorem wj7:zd1 we9 ["ways","direction"] (za1 ya1):=⟨rfl,rfl,rfl,by decide +kernel,rfl,by decide +kernel,by decide +kernel⟩
set_option maxHeartbeats 0 in
noncomputable def xs5:{ B:FnS Unit // ∀(P:Program) (w:World) (K:PySem.W.Frag) (mg:Str->Option Value) (base:Heap) (hm:Bn mg) (cs:Cst K mg) (k:Nat) (f:Addr) (cdv:Value) (A:Around) (outer:List Env) (s:Shared) (H:Hp) (E:XK),zl9 k (A.deeper (envOfC "goes" (za1 ya1) s.heap.objs.size f cdv))->
 DSs (zw3 CX0 P w K mg base we9 "goes" (za1 ya1) f cdv A outer s H E).nox (cx0 K H) (zb2 ya1) B }:=by
 refine⟨?B,fun P w K mg base hm cs k f cdv A outer s H E hr=>?h⟩;case h=>
  refine' za5 ?q1 ?r1;case q1=>
   refine' zj8 ?t2 ?a2 ?b2;case t2=>exact(gT_ (zg2 (ga:=.R) (gb:=.R) (zi4 hr) (zf9 rfl) (za0 (pv 0)) ze3 rfl))
   case a2=>
    refine' za8 ?q3;case q3=>
     exact ze1 (g2_ (zv3 (ga:=.R) (gb:=.R) (zi4 hr) (zf9 rfl) (g2_ (zs9 (ga:=.R) (gb:=.R) zx9 ww7 (za0 (pv 1)) za4)) za4 rfl))
   case b2=>
    exact zd3
  case r1=>
  refine' za5 ?q4 ?r4;case q4=>
   refine' zj8 ?t5 ?a5 ?b5;case t5=>exact(gT_ (zg2 (ga:=.R) (gb:=.R) (zi4 hr) (zf9 rfl) (za0 (pv 0)) ze3 rfl))
   case a5=>
    refine' za8 ?q6;case q6=>
     exact ze1 (g2_ (zv3 (ga:=.R) (gb:=.R) (zi4 hr) (zf9 rfl) (g2_ (zs9 (ga:=.R) (gb:=.R) zx9 ww7 (za0 (pv 1)) za4)) za4 rfl))
   case b5=>
    exact zd3
  case r4=>
  refine' za8 ?q7;case q7=>
   exact ze1 (g2_ (zv3 (ga:=.R) (gb:=.R) (zi4 hr) (zf9 rfl) (za0 (pv 0)) ze3 rfl))
noncomputable abbrev zf1:Stmt:=top 8
noncomputable abbrev zy0:List Str:=["place","direction","east","north"]
theorem zu9:zd1 zy0 ["place","direction"] (za1 zf1):=⟨rfl,rfl,rfl,by decide +kernel,rfl,by decide +kernel,by decide +kernel⟩
set_option maxHeartbeats 0 in
noncomputable def zq8:{ B:FnS Unit // ∀(P:Program) (w:World) (K:PySem.W.Frag) (mg:Str->Option Value) (base:Heap) (hm:Bn mg) (cs:Cst K mg) (k:Nat) (f:Addr) (cdv:Value) (A:Around) (outer:List Env) (s:Shared) (H:Hp) (E:XK),zl9 k (A.deeper (envOfC "one_further" (za1 zf1) s.heap.objs.size f cdv))->
 DSs (zw3 CX0 P w K mg base zy0 "one_further" (za1 zf1) f cdv A outer s H E).nox (cx0 K H) (zb2 zf1) B }:=by
 refine⟨?B,fun P w K mg base hm cs k f cdv A outer s H E hr=>?h⟩;case h=>
  refine' za5 ?q1 ?r1;case q1=>
   exact wp6 (tbl:=[(1,0),(0,1),(-1,0),(0,-1)]) (i:=2) (j:=3) (a0:=0) rfl rfl cs.STEPS rfl zu9.nd rfl rfl (Or.inl rfl) (Or.inl rfl) (za0 (pv 1)) (fun _ _=>rfl)
  case r1=>
  refine' za8 ?q2;case q2=>
   exact ze1 (gU_ (wb6 (gP_ rfl (gX_ rfl (za0 (pv 0)) za4 (fun _ _=>rfl)) (za0 (pv 2))) (wb6 (gP_ rfl (gX_ rfl (za0 (pv 0)) za4 (fun _ _=>rfl)) (za0 (pv 3))) za2)))
noncomputable abbrev zn1:Stmt:=top 9
noncomputable abbrev xc7:List Str:=["hall","stand","held","n","direction","kind","met","cell","holder"]
theorem zr8:zd1 xc7 ["hall","stand","held","n","direction"] (za1 zn1):=⟨rfl,rfl,rfl,by decide +kernel,rfl,by decide +kernel,by decide +kernel⟩
set_option maxHeartbeats 0 in
noncomputable def ym6 (G_goes:List D->Res Unit D) (G_covered:List D->Res Unit D) (G_one_further:List D->Res Unit D) (G_within:List D->Res Unit D):{ B:FnS Unit // ∀(P:Program) (w:World) (K:PySem.W.Frag) (mg:Str->Option Value) (base:Heap) (hm:Bn mg) (cs:Cst K mg) (k:Nat) (C_goes:ze0 P w K mg base k "goes" ["ways","direction"] (sp0 K G_goes)) (C_covered:ze0 P w K mg base k "covered" ["kind","place"] (sp0 K G_covered)) (C_one_further:ze0 P w K mg base k "one_further" ["place","direction"] (sp0 K G_one_further)) (C_within:ze0 P w K mg base k "within" ["wide","high","cell"] (sp0 K G_within)) (f:Addr) (cdv:Value) (A:Around) (outer:List Env) (s:Shared) (H:Hp) (E:XK),zl9 k (A.deeper (envOfC "met_by" (za1 zn1) s.heap.objs.size f cdv))->
 DSs (zw3 CX0 P w K mg base xc7 "met_by" (za1 zn1) f cdv A outer s H E).nox (cx0 K H) (zb2 zn1) B }:=by
 refine⟨?B,fun P w K mg base hm cs k C_goes C_covered C_one_further C_within f cdv A outer s H E hr=>?h⟩;case h=>
  refine' za5 ?q1 ?r1;case q1=>
   exact zd2 (i:=5) zr8.nd rfl (Or.inl rfl) (gX_ rfl (gX_ rfl (za0 (pv 0)) za4 (fun _ _=>rfl)) (za0 (pv 3)) (fun _ _=>rfl))
  case r1=>
  refine' za5 ?q2 ?r2;case q2=>
   refine' zj8 ?t3 ?a3 ?b3;case t3=>exact(yg6 (zn8 (g:=.R) (ze4 C_goes hr rfl (zy9 (gX_ rfl (za0 (pv 5)) za4 (fun _ _=>rfl)) (zh2 (za0 (pv 4)) za2)))))
   case a3=>
    refine' za8 ?q4;case q4=>
     exact ze1 yg8
   case b3=>
    exact zd3
  case r2=>
  refine' za5 ?q5 ?r5;case q5=>
   exact zd2 (i:=6) zr8.nd rfl (Or.inl rfl) (gL_ za2)
  case r5=>
  refine' za5 ?q6 ?r6;case q6=>
   refine' zl7 [] PassesOwn.never rfl ?i7 ?g7 ?b7;case i7=>exact(zp6 rfl (ze4 C_covered hr rfl (wr6 (za0 (pv 5)) (wf7 (ze4 C_one_further hr rfl (zy9 (gX_ rfl (za0 (pv 1)) (za0 (pv 3)) (fun _ _=>rfl)) (zh2 (za0 (pv 4)) za2))) za2))))
   case g7=>exact(zb6 (i:=7) zr8.nd rfl (Or.inl rfl))
   case b7=>
    refine' za5 ?q8 ?r8;case q8=>
     exact zd2 (i:=8) zr8.nd rfl (Or.inl rfl) (va7 (ga:=.R) (gb:=.R) (gc:=.R) (zu6 hr) (za0 (pv 2)) (za0 (pv 7)) (za0 (pv 3)) ⟨rfl,rfl,rfl,rfl⟩)
    case r8=>
    refine' za5 ?q9 ?r9;case q9=>
     refine' zj8 ?t10 ?a10 ?b10;case t10=>exact(DW.dt (yy8 (gT_ (zg2 (ga:=.R) (gb:=.R) (zi4 hr) (zf9 rfl) (za0 (pv 8)) (xe3 cs.WALL rfl) rfl)) (yt6 (yg6 (zn8 (g:=.R) (ze4 C_within hr rfl (zy9 (gX_ rfl (za0 (pv 0)) za4 (fun _ _=>rfl)) (zy9 (gX_ rfl (za0 (pv 0)) za4 (fun _ _=>rfl)) (zh2 (za0 (pv 7)) za2)))))))))
     case a10=>
      refine' za8 ?q11;case q11=>
       exact ze1 yg8
     case b10=>
      exact zd3
    case r9=>
    refine' za8 ?q12;case q12=>
     refine' zj8 ?t13 ?a13 ?b13;case t13=>exact(DW.dt (yk4 (gT_ (zg2 (ga:=.R) (gb:=.R) (ye5 hr) (zf9 rfl) (za0 (pv 8)) (za0 (pv 3)) rfl)) (yn5 (gT_ (zg2 (ga:=.R) (gb:=.R) (xo4 hr) (xo7 rfl) (za0 (pv 8)) (za0 (pv 6)) rfl)))))
     case a13=>
      refine' za8 ?q14;case q14=>
       exact yz2 (i:=6) zm6 zs8 PySem.F.slot_list_append PySem.F.type_list_append (pv 6) (za0 (pv 8)) rfl
     case b13=>
      exact zd3
  case r6=>
  refine' za8 ?q15;case q15=>
   exact yg7 (pv 6)
noncomputable abbrev zc4:Stmt:=top 11
noncomputable abbrev zn4:List Str:=["hall"]
theorem zv6:zd1 zn4 ["hall"] (za1 zc4):=⟨rfl,rfl,rfl,by decide +kernel,rfl,by decide +kernel,by decide +kernel⟩
set_option maxHeartbeats 0 in
noncomputable def zj4:{ B:FnS Unit // ∀(P:Program) (w:World) (K:PySem.W.Frag) (mg:Str->Option Value) (base:Heap) (hm:Bn mg) (cs:Cst K mg) (k:Nat) (f:Addr) (cdv:Value) (A:Around) (outer:List Env) (s:Shared) (H:Hp) (E:XK),zl9 k (A.deeper (envOfC "without_trolleys" (za1 zc4) s.heap.objs.size f cdv))->
 DSs (zw3 CX0 P w K mg base zn4 "without_trolleys" (za1 zc4) f cdv A outer s H E).nox (cx0 K H) (zb2 zc4) B }:=by
 refine⟨?B,fun P w K mg base hm cs k f cdv A outer s H E hr=>?h⟩;case h=>
  refine' za8 ?q1;case q1=>
   exact ze1 (gU_ (zy9 (gX_ rfl (za0 (pv 0)) za4 (fun _ _=>rfl)) (zy9 (gX_ rfl (za0 (pv 0)) za4 (fun _ _=>rfl)) (zy9 (gX_ rfl (za0 (pv 0)) za4 (fun _ _=>rfl)) (wo7 (gU_ za2) za2)))))
noncomputable abbrev ze5:Stmt:=top 12
noncomputable abbrev zv1:List Str:=["hall","kind","place","alone","walls","known","waiting","at","direction","further"]
theorem zd8:zd1 zv1 ["hall","kind","place"] (za1 ze5):=⟨rfl,rfl,rfl,by decide +kernel,rfl,by decide +kernel,by decide +kernel⟩
set_option maxHeartbeats 0 in
noncomputable def zo1 (G_holders:List D->Res Unit D) (G_without_trolleys:List D->Res Unit D) (G_one_further:List D->Res Unit D) (G_met_by:List D->Res Unit D):{ B:FnS Unit // ∀(P:Program) (w:World) (K:PySem.W.Frag) (mg:Str->Option Value) (base:Heap) (hm:Bn mg) (cs:Cst K mg) (k:Nat) (C_holders:ze0 P w K mg base k "holders" ["hall","stand"] (sp0 K G_holders)) (C_without_trolleys:ze0 P w K mg base k "without_trolleys" ["hall"] (sp0 K G_without_trolleys)) (C_one_further:ze0 P w K mg base k "one_further" ["place","direction"] (sp0 K G_one_further)) (C_met_by:ze0 P w K mg base k "met_by" ["hall","stand","held","n","direction"] (sp0 K G_met_by)) (f:Addr) (cdv:Value) (A:Around) (outer:List Env) (s:Shared) (H:Hp) (E:XK),zl9 k (A.deeper (envOfC "places_alone" (za1 ze5) s.heap.objs.size f cdv))->
 DSs (zw3 CX0 P w K mg base zv1 "places_alone" (za1 ze5) f cdv A outer s H E).nox (cx0 K H) (zb2 ze5) B }:=by
 refine⟨?B,fun P w K mg base hm cs k C_holders C_without_trolleys C_one_further C_met_by f cdv A outer s H E hr=>?h⟩;case h=>
  refine' za5 ?q1 ?r1;case q1=>
   exact zd2 (i:=3) zd8.nd rfl (Or.inl rfl) (gU_ (zy9 (gX_ rfl (za0 (pv 0)) za4 (fun _ _=>rfl)) (zy9 (gX_ rfl (za0 (pv 0)) za4 (fun _ _=>rfl)) (zy9 (gX_ rfl (za0 (pv 0)) za4 (fun _ _=>rfl)) (wo7 (gU_ (zh2 (za0 (pv 1)) za2)) za2)))))
  case r1=>
  refine' za5 ?q2 ?r2;case q2=>
   exact zd2 (i:=4) zd8.nd rfl (Or.inl rfl) (ze4 C_holders hr rfl (wf7 (ze4 C_without_trolleys hr rfl (zh2 (za0 (pv 0)) za2)) (wo7 (gU_ za2) za2)))
  case r2=>
  refine' za5 ?q3 ?r3;case q3=>
   exact zd2 (i:=5) zd8.nd rfl (Or.inl rfl) (xe5 (zu6 hr) (za0 (pv 2)) zm8)
  case r3=>
  refine' za5 ?q4 ?r4;case q4=>
   exact zd2 (i:=6) zd8.nd rfl (Or.inl rfl) (gL_ (zh2 (za0 (pv 2)) za2))
  case r4=>
  refine' za5 ?q5 ?r5;case q5=>
   refine' xe2 PassesOwn.never ?t6 ?b6;case t6=>exact(gT_ (zg2 (ga:=.R) (gb:=.R) (ye5 hr) (zf9 rfl) (za0 (pv 6)) (gL_ za2) rfl))
   case b6=>
    refine' za5 ?q7 ?r7;case q7=>
     exact wz7 (i:=7) (j:=6) zd8.nd rfl (Or.inl rfl) (pv 6)
    case r7=>
    refine' za8 ?q8;case q8=>
     refine' zl7 [] PassesOwn.never rfl ?i9 ?g9 ?b9;case i9=>exact(zi5 rfl hm.range (zj2 za4 za2))
     case g9=>exact(zb6 (i:=8) zd8.nd rfl (Or.inl rfl))
     case b9=>
      refine' za5 ?q10 ?r10;case q10=>
       exact zd2 (i:=9) zd8.nd rfl (Or.inl rfl) (ze4 C_one_further hr rfl (zh2 (za0 (pv 7)) (zh2 (za0 (pv 8)) za2)))
      case r10=>
      refine' za8 ?q11;case q11=>
       refine' zj8 ?t12 ?a12 ?b12;case t12=>exact(DW.dt (yk4 (gT_ (yt7 (ga:=.R) (gb:=.R) (zu6 hr) (za0 (pv 9)) (za0 (pv 5)))) (yn5 (zg2 (ga:=.R) (gb:=.R) wl5 wm1 (ze4 C_met_by hr rfl (zh2 (za0 (pv 3)) (wo7 (gU_ (zh2 (za0 (pv 7)) za2)) (zh2 (za0 (pv 4)) (zj2 za4 (zh2 (za0 (pv 8)) za2)))))) yg8 rfl))))
       case a12=>
        refine' za5 ?q13 ?r13;case q13=>
         exact zz7 (zu6 hr) (pv 5) (ga:=.R) (gb:=.R) (za0 (pv 9)) zm8
        case r13=>
        refine' za8 ?q14;case q14=>
         exact yz2 (i:=6) zm6 zs8 PySem.F.slot_list_append PySem.F.type_list_append (pv 6) (za0 (pv 9)) rfl
       case b12=>
        exact zd3
  case r5=>
  refine' za8 ?q15;case q15=>
   exact ze1 (gA_ (zp7 (zh2 (za0 (pv 5)) za2) (yu7 rfl) wc5 rfl hm.sorted boot_sorted))
noncomputable abbrev zq5:Stmt:=top 13
noncomputable abbrev yx6:List Str:=["hall","stand"]
theorem xx8:zd1 yx6 ["hall","stand"] (za1 zq5):=⟨rfl,rfl,rfl,by decide +kernel,rfl,by decide +kernel,by decide +kernel⟩
set_option maxHeartbeats 0 in
noncomputable def yw3 (G_places_alone:List D->Res Unit D):{ B:FnS Unit // ∀(P:Program) (w:World) (K:PySem.W.Frag) (mg:Str->Option Value) (base:Heap) (hm:Bn mg) (cs:Cst K mg) (k:Nat) (C_places_alone:ze0 P w K mg base k "places_alone" ["hall","kind","place"] (sp0 K G_places_alone)) (f:Addr) (cdv:Value) (A:Around) (outer:List Env) (s:Shared) (H:Hp) (E:XK),zl9 k (A.deeper (envOfC "sides" (za1 zq5) s.heap.objs.size f cdv))->
 DSs (zw3 CX0 P w K mg base yx6 "sides" (za1 zq5) f cdv A outer s H E).nox (cx0 K H) (zb2 zq5) B }:=by
 refine⟨?B,fun P w K mg base hm cs k C_places_alone f cdv A outer s H E hr=>?h⟩;case h=>
  refine' za8 ?q1;case q1=>
   exact ze1 (yb5 (wf6 (zo7 (N':=["n","kind","hall","stand"]) (ixs:=[none,none,some 0,some 1]) [] (zo0.scope (N:=yx6) (osc:=za1 zq5) (by decide +kernel)) rfl (yz5 rfl rfl hm.enumerate (zy9 (gX_ rfl (za0 (pv 0)) za4 (fun _ _=>rfl)) za2)) (fun av cl C s H fp=>⟨(zr6 (n:=2) rfl rfl (zc3 (zb6 (i:=0) (show (["n","kind","hall","stand"]:List Str).Nodup by decide +kernel) rfl (Or.inl rfl)) (zc3 (zb6 (i:=1) (show (["n","kind","hall","stand"]:List Str).Nodup by decide +kernel) rfl (Or.inl rfl)) zl8))),zo6,(gY_ rfl (ze4 C_places_alone hr rfl (zh2 (za0 (pv 2)) (zh2 (za0 (pv 1)) (zy9 (gX_ rfl (za0 (pv 3)) (za0 (pv 0)) (fun _ _=>rfl)) za2)))) za4 (fun _ _=>rfl))⟩)) za2) zi0 (zu1 rfl) rfl hm.tuple boot_tuple)
noncomputable abbrev zd7:Stmt:=top 17
noncomputable abbrev zo3:List Str:=["_law_kind_here","_law_place","_law_found","_law_i"]
theorem zm4:zd1 zo3 ["_law_kind_here","_law_place"] (za1 zd7):=⟨rfl,rfl,rfl,by decide +kernel,rfl,by decide +kernel,by decide +kernel⟩
set_option maxHeartbeats 0 in
noncomputable def zo9:{ B:FnS Unit // ∀(P:Program) (w:World) (K:PySem.W.Frag) (mg:Str->Option Value) (base:Heap) (hm:Bn mg) (cs:Cst K mg) (k:Nat) (f:Addr) (cdv:Value) (A:Around) (outer:List Env) (s:Shared) (H:Hp) (E:XK),zl9 k (A.deeper (envOfC "_law_covered" (za1 zd7) s.heap.objs.size f cdv))->
 DSs (zw3 CX0 P w K mg base zo3 "_law_covered" (za1 zd7) f cdv A outer s H E).nox (cx0 K H) (zb2 zd7) B }:=by
 refine⟨?B,fun P w K mg base hm cs k f cdv A outer s H E hr=>?h⟩;case h=>
  refine' za5 ?q1 ?r1;case q1=>
   exact zd2 (i:=2) zm4.nd rfl (Or.inl rfl) (gL_ za2)
  case r1=>
  refine' za5 ?q2 ?r2;case q2=>
   refine' zl7 [] PassesOwn.never rfl ?i3 ?g3 ?b3;case i3=>exact(zi5 rfl hm.range (zy9 (gX_ rfl (za0 (pv 0)) za4 (fun _ _=>rfl)) za2))
   case g3=>exact(zb6 (i:=3) zm4.nd rfl (Or.inr rfl))
   case b3=>
    refine' za8 ?q4;case q4=>
     exact yz2 (i:=2) yr6 yr8 PySem.F.slot_list_extend PySem.F.type_list_extend (pv 2) (zo7 (N':=["_law_j","_law_i","_law_place"]) (ixs:=[none,some 3,some 1]) [] (zo0.scope (N:=zo3) (osc:=za1 zd7) (by decide +kernel)) rfl (zi5 rfl hm.range (zy9 (gX_ rfl (za0 (pv 0)) za4 (fun _ _=>rfl)) za2)) (fun av cl C s H fp=>⟨(zb6 (i:=0) (show (["_law_j","_law_i","_law_place"]:List Str).Nodup by decide +kernel) rfl (Or.inl rfl)),zo6,(gU_ (wb6 (gP_ rfl (gX_ rfl (za0 (pv 2)) za4 (fun _ _=>rfl)) (za0 (pv 1))) (wb6 (gP_ rfl (gX_ rfl (za0 (pv 2)) za4 (fun _ _=>rfl)) (za0 (pv 0))) za2)))⟩)) rfl
  case r2=>
  refine' za8 ?q5;case q5=>
   exact yg7 (pv 2)
noncomputable abbrev ze6:Stmt:=top 18
noncomputable abbrev zv2:List Str:=["_law_wide","_law_high","_law_kind_here","_law_across","_law_up"]
theorem zs0:zd1 zv2 ["_law_wide","_law_high","_law_kind_here"] (za1 ze6):=⟨rfl,rfl,rfl,by decide +kernel,rfl,by decide +kernel,by decide +kernel⟩
set_option maxHeartbeats 0 in
noncomputable def zo8:{ B:FnS Unit // ∀(P:Program) (w:World) (K:PySem.W.Frag) (mg:Str->Option Value) (base:Heap) (hm:Bn mg) (cs:Cst K mg) (k:Nat) (f:Addr) (cdv:Value) (A:Around) (outer:List Env) (s:Shared) (H:Hp) (E:XK),zl9 k (A.deeper (envOfC "_law_room_of" (za1 ze6) s.heap.objs.size f cdv))->
 DSs (zw3 CX0 P w K mg base zv2 "_law_room_of" (za1 ze6) f cdv A outer s H E).nox (cx0 K H) (zb2 ze6) B }:=by
 refine⟨?B,fun P w K mg base hm cs k f cdv A outer s H E hr=>?h⟩;case h=>
  refine' za5 ?q1 ?r1;case q1=>
   exact yt8 (i:=3) (j:=4) rfl zs0.nd rfl rfl (by decide) rfl rfl (zd4 (gP_ rfl (g2_ (zs9 (ga:=.R) (gb:=.R) ya3 ym3 (za0 (pv 0)) (gX_ rfl (za0 (pv 2)) za4 (fun _ _=>rfl)))) za4) (zd4 (gP_ rfl (g2_ (zs9 (ga:=.R) (gb:=.R) ya3 ym3 (za0 (pv 1)) (gX_ rfl (za0 (pv 2)) za4 (fun _ _=>rfl)))) za4) zr7)) rfl
  case r1=>
  refine' za8 ?q2;case q2=>
   exact ze1 (wq2 (ga:=.R) (zu6 hr) (yc9 (g2_ (zs9 (ga:=.R) (gb:=.R) yx0 yx2 (za0 (pv 3)) (za0 (pv 4)))) (yc9 (za0 (pv 3)) (yc9 (za0 (pv 4)) (yc9 za4 wq0)))) rfl rfl (by simp) (by decide) (by decide) (by decide +kernel) (gX_ rfl (za0 (pv 2)) za4 (fun _ _=>rfl)) (fun _ _=>rfl))
noncomputable abbrev zg1:Stmt:=top 19
noncomputable abbrev ya5:List Str:=["_law_state","_law_broad","_law_way"]
theorem zx4:zd1 ya5 ["_law_state","_law_broad"] (za1 zg1):=⟨rfl,rfl,rfl,by decide +kernel,rfl,by decide +kernel,by decide +kernel⟩
set_option maxHeartbeats 0 in
noncomputable def zt3 (G__law_take:List D->Dr->Res Dr D):{ B:FnS Dr // ∀(P:Program) (w:World) (K:PySem.W.Frag) (mg:Str->Option Value) (base:Heap) (p l:Addr) (hm:Bn mg) (cs:Cst K mg) (k:Nat) (C__law_take:ze0 P w K mg base k "_law_take" ["_law_state","_law_many"] (spS (WdS p l) K G__law_take)) (f:Addr) (cdv:Value) (A:Around) (outer:List Env) (s:Shared) (H:Hp) (E:XK),zl9 k (A.deeper (envOfC "_law_sized" (za1 zg1) s.heap.objs.size f cdv))->
 DSs (zw3 CX0 P w K mg base ya5 "_law_sized" (za1 zg1) f cdv A outer s H E).nox (cxS (WdS p l) K H) (zb2 zg1) B }:=by
 refine⟨?B,fun P w K mg base p l hm cs k C__law_take f cdv A outer s H E hr=>?h⟩;case h=>
  refine' za5 ?q1 ?r1;case q1=>
   refine' zj8 ?t2 ?a2 ?b2;case t2=>exact(gB_ (zn8 (g:=.R) (za0 (pv 1))))
   case a2=>
    refine' za8 ?q3;case q3=>
     exact ze1 (zy8 (xi7 (gp_ rfl za4 (zb9 C__law_take hr rfl (pv 0) (zj2 za4 za2))) (xi7 (gp_ rfl za4 (zb9 C__law_take hr rfl (pv 0) (zj2 za4 za2))) za2)))
   case b2=>
    exact zd3
  case r1=>
  refine' za5 ?q4 ?r4;case q4=>
   exact zd2 (i:=2) zx4.nd rfl (Or.inl rfl) (zb9 C__law_take hr rfl (pv 0) (zj2 za4 za2))
  case r4=>
  refine' za5 ?q5 ?r5;case q5=>
   refine' zj8 ?t6 ?a6 ?b6;case t6=>exact(gT_ (zg2 (ga:=.R) (gb:=.R) (zi4 hr) (zf9 rfl) (za0 (pv 2)) za4 rfl))
   case a6=>
    refine' za8 ?q7;case q7=>
     exact ze1 (zy8 (xi7 (gp_ rfl za4 (zb9 C__law_take hr rfl (pv 0) (zj2 za4 za2))) (xi7 (gp_ rfl za4 (zb9 C__law_take hr rfl (pv 0) (zj2 za4 za2))) za2)))
   case b6=>
    exact zd3
  case r5=>
  refine' za5 ?q8 ?r8;case q8=>
   refine' zj8 ?t9 ?a9 ?b9;case t9=>exact(gT_ (zg2 (ga:=.R) (gb:=.R) (zi4 hr) (zf9 rfl) (za0 (pv 2)) za4 rfl))
   case a9=>
    refine' za8 ?q10;case q10=>
     exact ze1 (zy8 (xi7 (gp_ rfl za4 (zb9 C__law_take hr rfl (pv 0) (zj2 za4 za2))) (xi7 (gp_ rfl za4 (zb9 C__law_take hr rfl (pv 0) (zj2 za4 za2))) za2)))
   case b9=>
    exact zd3
  case r8=>
  refine' za8 ?q11;case q11=>
   exact ze1 (zy8 (xi7 (gp_ rfl za4 (zb9 C__law_take hr rfl (pv 0) (zj2 za4 za2))) (xi7 (gp_ rfl za4 (zb9 C__law_take hr rfl (pv 0) (zj2 za4 za2))) za2)))
noncomputable abbrev zh6:Stmt:=top 20
noncomputable abbrev yf0:List Str:=["_law_state","_law_wide","_law_high","_law_broad","_law_sizes","_law_across","_law_up","_law_ways","_law_great"]
theorem zd9:zd1 yf0 ["_law_state","_law_wide","_law_high","_law_broad"] (za1 zh6):=⟨rfl,rfl,rfl,by decide +kernel,rfl,by decide +kernel,by decide +kernel⟩
set_option maxHeartbeats 0 in
noncomputable def zw5 (G__law_take:List D->Dr->Res Dr D):{ B:FnS Dr // ∀(P:Program) (w:World) (K:PySem.W.Frag) (mg:Str->Option Value) (base:Heap) (p l:Addr) (hm:Bn mg) (cs:Cst K mg) (k:Nat) (C__law_take:ze0 P w K mg base k "_law_take" ["_law_state","_law_many"] (spS (WdS p l) K G__law_take)) (f:Addr) (cdv:Value) (A:Around) (outer:List Env) (s:Shared) (H:Hp) (E:XK),zl9 k (A.deeper (envOfC "_law_kind" (za1 zh6) s.heap.objs.size f cdv))->
 DSs (zw3 CX0 P w K mg base yf0 "_law_kind" (za1 zh6) f cdv A outer s H E).nox (cxS (WdS p l) K H) (zb2 zh6) B }:=by
 refine⟨?B,fun P w K mg base p l hm cs k C__law_take f cdv A outer s H E hr=>?h⟩;case h=>
  refine' za5 ?q1 ?r1;case q1=>
   exact zd2 (i:=4) zd9.nd rfl (Or.inl rfl) (gL_ (zj2 za4 (zj2 za4 (zj2 za4 (zj2 za4 (zj2 za4 (zj2 za4 za2)))))))
  case r1=>
  refine' za5 ?q2 ?r2;case q2=>
   exact yt8 (i:=5) (j:=6) rfl zd9.nd rfl rfl (by decide) rfl rfl (zd4 (zp7 (wr6 (za0 (pv 1)) (vc5 (gY_ rfl (za0 (pv 4)) (zb9 C__law_take hr rfl (pv 0) (zj2 za4 za2)) (fun _ _=>rfl)) za2)) (zp8 rfl) (zu2 _) rfl hm.min boot_min) (zd4 (zp7 (wr6 (za0 (pv 2)) (vc5 (gY_ rfl (za0 (pv 4)) (zb9 C__law_take hr rfl (pv 0) (zj2 za4 za2)) (fun _ _=>rfl)) za2)) (zp8 rfl) (zu2 _) rfl hm.min boot_min) zr7)) rfl
  case r2=>
  refine' za5 ?q3 ?r3;case q3=>
   exact zd2 (i:=7) zd9.nd rfl (Or.inl rfl) (gY_ rfl (gL_ (zj2 ze3 (zj2 ze3 (zj2 ze3 (zj2 ze3 (zj2 ze3 (zj2 ze3 za2))))))) (zb9 C__law_take hr rfl (pv 0) (zj2 za4 za2)) (fun _ _=>rfl))
  case r3=>
  refine' za5 ?q4 ?r4;case q4=>
   refine' zj8 ?t5 ?a5 ?b5;case t5=>exact(gB_ (zn8 (g:=.R) (za0 (pv 3))))
   case a5=>
    refine' za5 ?q6 ?r6;case q6=>
     exact zd2 (i:=7) zd9.nd rfl (Or.inl rfl) (gY_ rfl (gL_ (zj2 ze3 (zj2 ze3 (zj2 ze3 (zj2 ze3 (zj2 ze3 (zj2 ze3 za2))))))) (zb9 C__law_take hr rfl (pv 0) (zj2 za4 za2)) (fun _ _=>rfl))
    case r6=>
    refine' za5 ?q7 ?r7;case q7=>
     refine' zj8 ?t8 ?a8 ?b8;case t8=>exact(gT_ (zg2 (ga:=.R) (gb:=.R) (zi4 hr) (zf9 rfl) (za0 (pv 7)) ze3 rfl))
     case a8=>
      refine' za8 ?q9;case q9=>
       exact yt8 (i:=5) (j:=6) rfl zd9.nd rfl rfl (by decide) rfl rfl (zd4 (zs9 (ga:=.R) (gb:=.R) ya3 ym3 (za0 (pv 1)) (zb9 C__law_take hr rfl (pv 0) (zj2 za4 za2))) (zd4 za4 zr7)) rfl
     case b8=>
      exact zd3
    case r7=>
    refine' za8 ?q10;case q10=>
     refine' zj8 ?t11 ?a11 ?b11;case t11=>exact(gT_ (zg2 (ga:=.R) (gb:=.R) (zi4 hr) (zf9 rfl) (za0 (pv 7)) ze3 rfl))
     case a11=>
      refine' za8 ?q12;case q12=>
       exact yt8 (i:=5) (j:=6) rfl zd9.nd rfl rfl (by decide) rfl rfl (zd4 za4 (zd4 (zs9 (ga:=.R) (gb:=.R) ya3 ym3 (za0 (pv 2)) (zb9 C__law_take hr rfl (pv 0) (zj2 za4 za2))) zr7)) rfl
     case b11=>
      exact zd3
   case b5=>
    exact zd3
  case r4=>
  refine' za5 ?q13 ?r13;case q13=>
   exact zd2 (i:=8) zd9.nd rfl (Or.inl rfl) (zb9 C__law_take hr rfl (pv 0) (zj2 za4 za2))
  case r13=>
  refine' za5 ?q14 ?r14;case q14=>
   refine' zj8 ?t15 ?a15 ?b15;case t15=>exact(gT_ (zg2 (ga:=.R) (gb:=.R) (zi4 hr) (zf9 rfl) (za0 (pv 8)) za4 rfl))
   case a15=>
    refine' za8 ?q16;case q16=>
     exact yz1 (i:=5) (j:=6) (k:=7) rfl zd9.nd rfl rfl rfl (by decide) (by decide) (by decide) rfl rfl rfl (zd4 za4 (zd4 (zs9 (ga:=.R) (gb:=.R) ya3 ym3 (za0 (pv 2)) (zb9 C__law_take hr rfl (pv 0) (wo8 (gA_ (zp7 (zh2 (za0 (pv 2)) (zj2 za4 za2)) (zp8 rfl) (zu2 _) rfl hm.min boot_min)) za2))) (zd4 ze3 zr7))) rfl
   case b15=>
    exact zd3
  case r14=>
  refine' za5 ?q17 ?r17;case q17=>
   refine' zj8 ?t18 ?a18 ?b18;case t18=>exact(gT_ (zg2 (ga:=.R) (gb:=.R) (zi4 hr) (zf9 rfl) (za0 (pv 8)) za4 rfl))
   case a18=>
    refine' za8 ?q19;case q19=>
     exact yz1 (i:=5) (j:=6) (k:=7) rfl zd9.nd rfl rfl rfl (by decide) (by decide) (by decide) rfl rfl rfl (zd4 (zs9 (ga:=.R) (gb:=.R) ya3 ym3 (za0 (pv 1)) (zb9 C__law_take hr rfl (pv 0) (wo8 (gA_ (zp7 (zh2 (za0 (pv 1)) (zj2 za4 za2)) (zp8 rfl) (zu2 _) rfl hm.min boot_min)) za2))) (zd4 za4 (zd4 ze3 zr7))) rfl
   case b18=>
    exact zd3
  case r17=>
  refine' za5 ?q20 ?r20;case q20=>
   refine' zj8 ?t21 ?a21 ?b21;case t21=>exact(gT_ (zg2 (ga:=.R) (gb:=.R) (zi4 hr) (zf9 rfl) (za0 (pv 8)) za4 rfl))
   case a21=>
    refine' za8 ?q22;case q22=>
     exact yz1 (i:=5) (j:=6) (k:=7) rfl zd9.nd rfl rfl rfl (by decide) (by decide) (by decide) rfl rfl rfl (zd4 (gA_ (zp7 (zh2 (za0 (pv 1)) (zj2 za4 za2)) (zp8 rfl) (zu2 _) rfl hm.min boot_min)) (zd4 (gA_ (zp7 (zh2 (za0 (pv 2)) (zj2 za4 za2)) (zp8 rfl) (zu2 _) rfl hm.min boot_min)) (zd4 ze3 zr7))) rfl
   case b21=>
    exact zd3
  case r20=>
  refine' za8 ?q23;case q23=>
   refine' ze1 ?x1;case x1=>
    refine' zy8 ?x2;case x2=>
     refine' wr6 ?x3 ?x4;case x3=>exact za0 (pv 5)
     case x4=>
      refine' wr6 ?x5 ?x6;case x5=>exact za0 (pv 6)
      case x6=>exact wr6 (za0 (pv 7)) (vc5 (gY_ rfl (yu2 (xw1 za4 (xw1 za4 (xw1 za4 (xw1 za4 (xw1 za4 (vg5 (xt5 (ga:=.R) za4) za2))))))) (zb9 C__law_take hr rfl (pv 0) (zj2 za4 za2)) (fun _ _=>rfl)) za2)
noncomputable abbrev ze9:Stmt:=top 21
noncomputable abbrev zm5:List Str:=["_law_state","_law_broad","_law_much","_law_wide","_law_high","_law_cells","_law_shuts","_law_taken","_law_kinds","_law_places","_law_rooms","_law_turn","_law_kind_here","_law_place","_law_own","_law_room","_law_cell"]
theorem zc1:zd1 zm5 ["_law_state","_law_broad","_law_much"] (za1 ze9):=⟨rfl,rfl,rfl,by decide +kernel,rfl,by decide +kernel,by decide +kernel⟩
set_option maxHeartbeats 0 in
noncomputable def zw6 (G__law_sized:List D->Dr->Res Dr D) (G__law_covered:List D->Res Unit D) (G__law_take:List D->Dr->Res Dr D) (G__law_kind:List D->Dr->Res Dr D) (G__law_room_of:List D->Res Unit D):{ B:FnS Dr // ∀(P:Program) (w:World) (K:PySem.W.Frag) (mg:Str->Option Value) (base:Heap) (p l:Addr) (hm:Bn mg) (cs:Cst K mg) (k:Nat) (C__law_sized:ze0 P w K mg base k "_law_sized" ["_law_state","_law_broad"] (spS (WdS p l) K G__law_sized)) (C__law_covered:ze0 P w K mg base k "_law_covered" ["_law_kind_here","_law_place"] (sp0 K G__law_covered)) (C__law_take:ze0 P w K mg base k "_law_take" ["_law_state","_law_many"] (spS (WdS p l) K G__law_take)) (C__law_kind:ze0 P w K mg base k "_law_kind" ["_law_state","_law_wide","_law_high","_law_broad"] (spS (WdS p l) K G__law_kind)) (C__law_room_of:ze0 P w K mg base k "_law_room_of" ["_law_wide","_law_high","_law_kind_here"] (sp0 K G__law_room_of)) (f:Addr) (cdv:Value) (A:Around) (outer:List Env) (s:Shared) (H:Hp) (E:XK),zl9 k (A.deeper (envOfC "_law_hall" (za1 ze9) s.heap.objs.size f cdv))->
 DSs (zw3 CX0 P w K mg base zm5 "_law_hall" (za1 ze9) f cdv A outer s H E).nox (cxS (WdS p l) K H) (zb2 ze9) B }:=by
 refine⟨?B,fun P w K mg base p l hm cs k C__law_sized C__law_covered C__law_take C__law_kind C__law_room_of f cdv A outer s H E hr=>?h⟩;case h=>
  refine' za5 ?q1 ?r1;case q1=>
   exact yt9 (zb9 C__law_sized hr rfl (pv 0) (zh2 (za0 (pv 1)) za2)) (zr6 (n:=2) rfl rfl (zc3 (zb6 (i:=3) zc1.nd rfl (Or.inl rfl)) (zc3 (zb6 (i:=4) zc1.nd rfl (Or.inl rfl)) zl8)))
  case r1=>
  refine' za5 ?q2 ?r2;case q2=>
   exact zd2 (i:=5) zc1.nd rfl (Or.inl rfl) (ze4 C__law_covered hr rfl (wo7 (gU_ (zh2 (za0 (pv 3)) (zh2 (za0 (pv 4)) (zj2 ze3 (zj2 za4 za2))))) (wo7 (gU_ (zj2 za4 (zj2 za4 za2))) za2)))
  case r2=>
  refine' za5 ?q3 ?r3;case q3=>
   exact wp7 (i:=6) (N':=["_law_cell","_law_state","_law_broad"]) (ixs:=[none,some 0,some 1]) [5] (zo0.scope (N:=zm5) (osc:=za1 ze9) (by decide +kernel)) rfl zc1.nd rfl rfl (zp6 rfl (zg5 (pv 5))) (fun av cl C s H fp=>⟨(zb6 (i:=0) (show (["_law_cell","_law_state","_law_broad"]:List Str).Nodup by decide +kernel) rfl (Or.inl rfl)),(wp4 (zg2 (ga:=.R) (gb:=.R) (zi4 hr) (zf9 rfl) (zb9 C__law_take hr rfl (pv 1) (zy9 (gX_ rfl (gL_ (zj2 za4 (zj2 za4 za2))) (gA_ (yb5 (zh2 (za0 (pv 2)) za2) yu8 wg4 rfl hm.int boot_int)) (fun _ _=>rfl)) za2)) za4 rfl)),(za0 (pv 0))⟩) rfl
  case r3=>
  refine' za5 ?q4 ?r4;case q4=>
   exact zd2 (i:=7) zc1.nd rfl (Or.inr rfl) (yb5 (wf6 (zo7 (N':=["_law_cell"]) (ixs:=[none]) [6] (zo0.scope (N:=zm5) (osc:=za1 ze9) (by decide +kernel)) rfl (zp6 rfl (zg5 (pv 6))) (fun av cl C s H fp=>⟨(zb6 (i:=0) (show (["_law_cell"]:List Str).Nodup by decide +kernel) rfl (Or.inl rfl)),zo6,(gU_ (zh2 (za0 (pv 0)) (zj2 zm8 za2)))⟩)) za2) (zt2 rfl (wf4 hr)) xu6 rfl hm.dict boot_dict)
  case r4=>
  refine' za5 ?q5 ?r5;case q5=>
   exact zd2 (i:=8) zc1.nd rfl (Or.inl rfl) (gL_ za2)
  case r5=>
  refine' za5 ?q6 ?r6;case q6=>
   exact zd2 (i:=9) zc1.nd rfl (Or.inl rfl) (gL_ za2)
  case r6=>
  refine' za5 ?q7 ?r7;case q7=>
   exact zd2 (i:=10) zc1.nd rfl (Or.inl rfl) za4
  case r7=>
  refine' za5 ?q8 ?r8;case q8=>
   refine' zl7 [] PassesOwn.never rfl ?i9 ?g9 ?b9;case i9=>exact(zi5 rfl hm.range (vc5 (gY_ rfl (yu2 (xi7 (gp_ rfl za4 (zb9 C__law_take hr rfl (pv 0) (zj2 za4 za2))) (zj2 za4 za2))) (gA_ (yb5 (zh2 (za0 (pv 1)) za2) yu8 wg4 rfl hm.int boot_int)) (fun _ _=>rfl)) za2))
   case g9=>exact(zb6 (i:=11) zc1.nd rfl (Or.inl rfl))
   case b9=>
    refine' za5 ?q10 ?r10;case q10=>
     exact zd2 (i:=12) zc1.nd rfl (Or.inl rfl) (zb9 C__law_kind hr rfl (pv 0) (zh2 (za0 (pv 3)) (zh2 (za0 (pv 4)) (zh2 (za0 (pv 1)) za2))))
    case r10=>
    refine' za5 ?q11 ?r11;case q11=>
     exact zd2 (i:=13) zc1.nd rfl (Or.inl rfl) (zy8 (wf7 (zb9 C__law_take hr rfl (pv 0) (wb6 (gP_ rfl (g2_ (zs9 (ga:=.R) (gb:=.R) ya3 ym3 (za0 (pv 3)) (gX_ rfl (za0 (pv 12)) za4 (fun _ _=>rfl)))) za4) za2)) (wf7 (zb9 C__law_take hr rfl (pv 0) (wb6 (gP_ rfl (g2_ (zs9 (ga:=.R) (gb:=.R) ya3 ym3 (za0 (pv 4)) (gX_ rfl (za0 (pv 12)) za4 (fun _ _=>rfl)))) za4) za2)) za2)))
    case r11=>
    refine' za5 ?q12 ?r12;case q12=>
     exact zd2 (i:=14) zc1.nd rfl (Or.inl rfl) (ze4 C__law_covered hr rfl (zh2 (za0 (pv 12)) (zh2 (za0 (pv 13)) za2)))
    case r12=>
    refine' za5 ?q13 ?r13;case q13=>
     exact zd2 (i:=15) zc1.nd rfl (Or.inl rfl) (ze4 C__law_room_of hr rfl (zh2 (za0 (pv 3)) (zh2 (za0 (pv 4)) (zh2 (za0 (pv 12)) za2))))
    case r13=>
    refine' za8 ?q14;case q14=>
     refine' zj8 ?t15 ?a15 ?b15;case t15=>exact(DW.dt (yk4 (gT_ (zg2 (ga:=.R) (gb:=.R) yr0 zv9 (gA_ (zp7 (zh2 (za0 (pv 8)) za2) zf6 (yb0 rfl) rfl hm.len PySem.boot_len)) za4 rfl)) (yk4 (gT_ (zg2 (ga:=.R) (gb:=.R) yx1 zv9 (g2_ (zs9 (ga:=.R) (gb:=.R) yx0 yx2 (za0 (pv 10)) (za0 (pv 15)))) (za0 (pv 2)) rfl)) (yn5 (yg6 (zn8 (g:=.R) (zp7 (wf6 (zo7 (N':=["_law_cell","_law_taken"]) (ixs:=[none,some 7]) [14] (zo0.scope (N:=zm5) (osc:=za1 ze9) (by decide +kernel)) rfl (zp6 rfl (zg5 (pv 14))) (fun av cl C s H fp=>⟨(zb6 (i:=0) (show (["_law_cell","_law_taken"]:List Str).Nodup by decide +kernel) rfl (Or.inl rfl)),zo6,(g2_ (va8 (ga:=.R) (gb:=.R) (zu6 hr) (za0 (pv 0)) (za0 (pv 1))))⟩)) za2) (wc6 rfl) (yd3 _) rfl hm.any boot_any)))))))
     case a15=>
      refine' za5 ?q16 ?r16;case q16=>
       exact zd2 (i:=10) zc1.nd rfl (Or.inl rfl) (g2_ (zs9 (ga:=.R) (gb:=.R) yx0 yx2 (za0 (pv 10)) (za0 (pv 15))))
      case r16=>
      refine' za5 ?q17 ?r17;case q17=>
       exact yz2 (i:=8) zm6 zs8 PySem.F.slot_list_append PySem.F.type_list_append (pv 8) (za0 (pv 12)) rfl
      case r17=>
      refine' za5 ?q18 ?r18;case q18=>
       exact yz2 (i:=9) zm6 zs8 PySem.F.slot_list_append PySem.F.type_list_append (pv 9) (za0 (pv 13)) rfl
      case r18=>
      refine' za8 ?q19;case q19=>
       refine' zl7 [14] PassesOwn.never rfl ?i20 ?g20 ?b20;case i20=>exact(zp6 rfl (zg5 (pv 14)))
       case g20=>exact(zb6 (i:=16) zc1.nd rfl (Or.inl rfl))
       case b20=>
        refine' za8 ?q21;case q21=>
         exact zz7 (zu6 hr) (pv 7) (ga:=.R) (gb:=.R) (za0 (pv 16)) zm8
     case b15=>
      exact zd3
  case r8=>
  refine' za8 ?q22;case q22=>
   exact ze1 (gU_ (wo7 (gU_ (zh2 (za0 (pv 3)) (zh2 (za0 (pv 4)) (wo8 (gA_ (yb5 (zh2 (za0 (pv 6)) za2) zi0 (zu1 rfl) rfl hm.tuple boot_tuple)) (wo8 (gA_ (yb5 (zh2 (za0 (pv 8)) za2) zi0 (zu1 rfl) rfl hm.tuple boot_tuple)) za2))))) (wo8 (gA_ (yb5 (zh2 (za0 (pv 9)) za2) zi0 (zu1 rfl) rfl hm.tuple boot_tuple)) za2)))
noncomputable abbrev zf4:Stmt:=top 22
noncomputable abbrev zy2:List Str:=["_law_place","_law_direction"]
theorem yi0:zd1 zy2 ["_law_place","_law_direction"] (za1 zf4):=⟨rfl,rfl,rfl,by decide +kernel,rfl,by decide +kernel,by decide +kernel⟩
set_option maxHeartbeats 0 in
noncomputable def zr3:{ B:FnS Unit // ∀(P:Program) (w:World) (K:PySem.W.Frag) (mg:Str->Option Value) (base:Heap) (hm:Bn mg) (cs:Cst K mg) (k:Nat) (f:Addr) (cdv:Value) (A:Around) (outer:List Env) (s:Shared) (H:Hp) (E:XK),zl9 k (A.deeper (envOfC "_law_behind" (za1 zf4) s.heap.objs.size f cdv))->
 DSs (zw3 CX0 P w K mg base zy2 "_law_behind" (za1 zf4) f cdv A outer s H E).nox (cx0 K H) (zb2 zf4) B }:=by
 refine⟨?B,fun P w K mg base hm cs k f cdv A outer s H E hr=>?h⟩;case h=>
  refine' za8 ?q1;case q1=>
   refine' ze1 ?x7;case x7=>
    refine' zy8 ?x8;case x8=>
     refine' xi7 ?x9 ?x10;case x9=>exact gp_ rfl (gX_ rfl (za0 (pv 0)) za4 (fun _ _=>rfl)) (gY_ rfl (yu2 (xw1 za4 (xw1 za4 (vg5 (xt5 (ga:=.R) za4) (zj2 za4 za2))))) (za0 (pv 1)) (fun _ _=>rfl))
     case x10=>exact xi7 (gp_ rfl (gX_ rfl (za0 (pv 0)) za4 (fun _ _=>rfl)) (gY_ rfl (yu2 (xw1 za4 (xw1 za4 (xw1 za4 (vg5 (xt5 (ga:=.R) za4) za2))))) (za0 (pv 1)) (fun _ _=>rfl))) za2
noncomputable abbrev zh7:Stmt:=top 23
noncomputable abbrev yf1:List Str:=["_law_kind_here","_law_direction"]
theorem yp9:zd1 yf1 ["_law_kind_here","_law_direction"] (za1 zh7):=⟨rfl,rfl,rfl,by decide +kernel,rfl,by decide +kernel,by decide +kernel⟩
set_option maxHeartbeats 0 in
noncomputable def zw7:{ B:FnS Unit // ∀(P:Program) (w:World) (K:PySem.W.Frag) (mg:Str->Option Value) (base:Heap) (hm:Bn mg) (cs:Cst K mg) (k:Nat) (f:Addr) (cdv:Value) (A:Around) (outer:List Env) (s:Shared) (H:Hp) (E:XK),zl9 k (A.deeper (envOfC "_law_goes" (za1 zh7) s.heap.objs.size f cdv))->
 DSs (zw3 CX0 P w K mg base yf1 "_law_goes" (za1 zh7) f cdv A outer s H E).nox (cx0 K H) (zb2 zh7) B }:=by
 refine⟨?B,fun P w K mg base hm cs k f cdv A outer s H E hr=>?h⟩;case h=>
  refine' za8 ?q1;case q1=>
   exact ze1 (vh1 (ga:=.R) (g2_ (zv3 (ga:=.R) (gb:=.R) (zi4 hr) (zf9 rfl) (gX_ rfl (za0 (pv 0)) za4 (fun _ _=>rfl)) ze3 rfl)) (yk5 (g2_ (zv3 (ga:=.R) (gb:=.R) (zi4 hr) (zf9 rfl) (gX_ rfl (za0 (pv 0)) za4 (fun _ _=>rfl)) (gX_ rfl (gL_ (zj2 ze3 (zj2 ze3 za2))) (g2_ (zs9 (ga:=.R) (gb:=.R) zx9 ww7 (za0 (pv 1)) za4)) (fun _ _=>rfl)) rfl))))
noncomputable abbrev ze7:Stmt:=top 24
noncomputable abbrev zn6:List Str:=["_law_hall_here","_law_n","_law_place","_law_wide","_law_high","_law_shuts","_law_kinds","_law_closed","_law_found","_law_there","_law_at","_law_direction","_law_further","_law_cells","_law_inside"]
theorem zc2:zd1 zn6 ["_law_hall_here","_law_n","_law_place"] (za1 ze7):=⟨rfl,rfl,rfl,by decide +kernel,rfl,by decide +kernel,by decide +kernel⟩
set_option maxHeartbeats 0 in
noncomputable def zt5 (G__law_behind:List D->Res Unit D) (G__law_covered:List D->Res Unit D) (G__law_goes:List D->Res Unit D):{ B:FnS Unit // ∀(P:Program) (w:World) (K:PySem.W.Frag) (mg:Str->Option Value) (base:Heap) (hm:Bn mg) (cs:Cst K mg) (k:Nat) (C__law_behind:ze0 P w K mg base k "_law_behind" ["_law_place","_law_direction"] (sp0 K G__law_behind)) (C__law_covered:ze0 P w K mg base k "_law_covered" ["_law_kind_here","_law_place"] (sp0 K G__law_covered)) (C__law_goes:ze0 P w K mg base k "_law_goes" ["_law_kind_here","_law_direction"] (sp0 K G__law_goes)) (f:Addr) (cdv:Value) (A:Around) (outer:List Env) (s:Shared) (H:Hp) (E:XK),zl9 k (A.deeper (envOfC "_law_alone" (za1 ze7) s.heap.objs.size f cdv))->
 DSs (zw3 CX0 P w K mg base zn6 "_law_alone" (za1 ze7) f cdv A outer s H E).nox (cx0 K H) (zb2 ze7) B }:=by
 refine⟨?B,fun P w K mg base hm cs k C__law_behind C__law_covered C__law_goes f cdv A outer s H E hr=>?h⟩;case h=>
  refine' za5 ?q1 ?r1;case q1=>
   exact yt9 (zg5 (pv 0)) (zr6 (n:=4) rfl rfl (zc3 (zb6 (i:=3) zc2.nd rfl (Or.inr rfl)) (zc3 (zb6 (i:=4) zc2.nd rfl (Or.inr rfl)) (zc3 (zb6 (i:=5) zc2.nd rfl (Or.inl rfl)) (zc3 (zb6 (i:=6) zc2.nd rfl (Or.inl rfl)) zl8)))))
  case r1=>
  refine' za5 ?q2 ?r2;case q2=>
   exact zd2 (i:=7) zc2.nd rfl (Or.inr rfl) (yb5 (wf6 (zo7 (N':=["_law_cell"]) (ixs:=[none]) [5] (zo0.scope (N:=zn6) (osc:=za1 ze7) (by decide +kernel)) rfl (zp6 rfl (zg5 (pv 5))) (fun av cl C s H fp=>⟨(zb6 (i:=0) (show (["_law_cell"]:List Str).Nodup by decide +kernel) rfl (Or.inl rfl)),zo6,(gU_ (zh2 (za0 (pv 0)) (zj2 zm8 za2)))⟩)) za2) (zt2 rfl (wf4 hr)) xu6 rfl hm.dict boot_dict)
  case r2=>
  refine' za5 ?q3 ?r3;case q3=>
   exact zd2 (i:=8) zc2.nd rfl (Or.inl rfl) (gL_ (zh2 (za0 (pv 2)) za2))
  case r3=>
  refine' za5 ?q4 ?r4;case q4=>
   exact zd2 (i:=9) zc2.nd rfl (Or.inl rfl) (xe5 (zu6 hr) (za0 (pv 2)) zm8)
  case r4=>
  refine' za5 ?q5 ?r5;case q5=>
   exact zd2 (i:=10) zc2.nd rfl (Or.inl rfl) za4
  case r5=>
  refine' za5 ?q6 ?r6;case q6=>
   refine' xe2 PassesOwn.never ?t7 ?b7;case t7=>exact(gT_ (zg2 (ga:=.R) (gb:=.R) yr0 zv9 (za0 (pv 10)) (gA_ (zp7 (zh2 (za0 (pv 8)) za2) zf6 (yb0 rfl) rfl hm.len PySem.boot_len)) rfl))
   case b7=>
    refine' za5 ?q8 ?r8;case q8=>
     refine' zl7 [] PassesOwn.never rfl ?i9 ?g9 ?b9;case i9=>exact(zi5 rfl hm.range (zj2 za4 za2))
     case g9=>exact(zb6 (i:=11) zc2.nd rfl (Or.inl rfl))
     case b9=>
      refine' za5 ?q10 ?r10;case q10=>
       exact zd2 (i:=12) zc2.nd rfl (Or.inl rfl) (ze4 C__law_behind hr rfl (zy9 (gX_ rfl (za0 (pv 8)) (za0 (pv 10)) (fun _ _=>rfl)) (zh2 (za0 (pv 11)) za2)))
      case r10=>
      refine' za5 ?q11 ?r11;case q11=>
       exact zd2 (i:=13) zc2.nd rfl (Or.inl rfl) (ze4 C__law_covered hr rfl (zy9 (gX_ rfl (za0 (pv 6)) (za0 (pv 1)) (fun _ _=>rfl)) (zh2 (za0 (pv 12)) za2)))
      case r11=>
      refine' za5 ?q12 ?r12;case q12=>
       exact zd2 (i:=14) zc2.nd rfl (Or.inl rfl) (zp7 (wf6 (zo7 (N':=["_law_x","_law_y","_law_wide","_law_high","_law_closed"]) (ixs:=[none,none,some 3,some 4,some 7]) [13] (zo0.scope (N:=zn6) (osc:=za1 ze7) (by decide +kernel)) rfl (zp6 rfl (zg5 (pv 13))) (fun av cl C s H fp=>⟨(zr6 (n:=2) rfl rfl (zc3 (zb6 (i:=0) (show (["_law_x","_law_y","_law_wide","_law_high","_law_closed"]:List Str).Nodup by decide +kernel) rfl (Or.inl rfl)) (zc3 (zb6 (i:=1) (show (["_law_x","_law_y","_law_wide","_law_high","_law_closed"]:List Str).Nodup by decide +kernel) rfl (Or.inl rfl)) zl8))),zo6,(yg9 (ga:=.R) (yd0 (ga:=.R) (gb:=.R) (gc:=.R) yx1 yr0 zv9 zv9 za4 (za0 (pv 0)) (za0 (pv 2))) (yg9 (ga:=.R) (yd0 (ga:=.R) (gb:=.R) (gc:=.R) yx1 yr0 zv9 zv9 za4 (za0 (pv 1)) (za0 (pv 3))) (yk5 (g2_ (xt6 (ga:=.R) (gb:=.R) (zu6 hr) (gU_ (zh2 (za0 (pv 0)) (zh2 (za0 (pv 1)) za2))) (za0 (pv 4)))))))⟩)) za2) (yo2 rfl) (yd3 _) rfl hm.all boot_all)
      case r12=>
      refine' za8 ?q13;case q13=>
       refine' zj8 ?t14 ?a14 ?b14;case t14=>exact(DW.dt (yk4 (gB_ (zn8 (g:=.R) (za0 (pv 14)))) (yk4 (zn8 (g:=.R) (ze4 C__law_goes hr rfl (zy9 (gX_ rfl (za0 (pv 6)) (za0 (pv 1)) (fun _ _=>rfl)) (zh2 (za0 (pv 11)) za2)))) (yn5 (gT_ (yt7 (ga:=.R) (gb:=.R) (zu6 hr) (za0 (pv 12)) (za0 (pv 9))))))))
       case a14=>
        refine' za5 ?q15 ?r15;case q15=>
         exact zz7 (zu6 hr) (pv 9) (ga:=.R) (gb:=.R) (za0 (pv 12)) zm8
        case r15=>
        refine' za8 ?q16;case q16=>
         exact yz2 (i:=8) zm6 zs8 PySem.F.slot_list_append PySem.F.type_list_append (pv 8) (za0 (pv 12)) rfl
       case b14=>
        exact zd3
    case r8=>
    refine' za8 ?q17;case q17=>
     exact zd2 (i:=10) zc2.nd rfl (Or.inl rfl) (gP_ rfl (za0 (pv 10)) za4)
  case r6=>
  refine' za8 ?q18;case q18=>
   exact yg7 (pv 8)
noncomputable abbrev zf2:Stmt:=top 25
noncomputable abbrev zy1:List Str:=["_law_hall_here","_law_places","_law_wide","_law_high","_law_shuts","_law_kinds","_law_met","_law_kind_here","_law_place","_law_cell"]
theorem zd6:zd1 zy1 ["_law_hall_here","_law_places"] (za1 zf2):=⟨rfl,rfl,rfl,by decide +kernel,rfl,by decide +kernel,by decide +kernel⟩
set_option maxHeartbeats 0 in
noncomputable def zr2 (G__law_covered:List D->Res Unit D):{ B:FnS Unit // ∀(P:Program) (w:World) (K:PySem.W.Frag) (mg:Str->Option Value) (base:Heap) (hm:Bn mg) (cs:Cst K mg) (k:Nat) (C__law_covered:ze0 P w K mg base k "_law_covered" ["_law_kind_here","_law_place"] (sp0 K G__law_covered)) (f:Addr) (cdv:Value) (A:Around) (outer:List Env) (s:Shared) (H:Hp) (E:XK),zl9 k (A.deeper (envOfC "_law_stands" (za1 zf2) s.heap.objs.size f cdv))->
 DSs (zw3 CX0 P w K mg base zy1 "_law_stands" (za1 zf2) f cdv A outer s H E).nox (cx0 K H) (zb2 zf2) B }:=by
 refine⟨?B,fun P w K mg base hm cs k C__law_covered f cdv A outer s H E hr=>?h⟩;case h=>
  refine' za5 ?q1 ?r1;case q1=>
   exact yt9 (zg5 (pv 0)) (zr6 (n:=4) rfl rfl (zc3 (zb6 (i:=2) zd6.nd rfl (Or.inl rfl)) (zc3 (zb6 (i:=3) zd6.nd rfl (Or.inl rfl)) (zc3 (zb6 (i:=4) zd6.nd rfl (Or.inl rfl)) (zc3 (zb6 (i:=5) zd6.nd rfl (Or.inl rfl)) zl8)))))
  case r1=>
  refine' za5 ?q2 ?r2;case q2=>
   exact zd2 (i:=6) zd6.nd rfl (Or.inl rfl) xe4
  case r2=>
  refine' za5 ?q3 ?r3;case q3=>
   refine' zl7 [5,1] PassesOwn.never rfl ?i4 ?g4 ?b4;case i4=>exact(wq1 rfl hm.zip (zd4 (zg5 (pv 5)) (zd4 (zg5 (pv 1)) zr7)))
   case g4=>exact(zr6 (n:=2) rfl rfl (zc3 (zb6 (i:=7) zd6.nd rfl (Or.inl rfl)) (zc3 (zb6 (i:=8) zd6.nd rfl (Or.inl rfl)) zl8)))
   case b4=>
    refine' za8 ?q5;case q5=>
     refine' zl7 [] PassesOwn.never rfl ?i6 ?g6 ?b6;case i6=>exact(zp6 rfl (ze4 C__law_covered hr rfl (zh2 (za0 (pv 7)) (zh2 (za0 (pv 8)) za2))))
     case g6=>exact(zb6 (i:=9) zd6.nd rfl (Or.inl rfl))
     case b6=>
      refine' za5 ?q7 ?r7;case q7=>
       refine' zj8 ?t8 ?a8 ?b8;case t8=>exact(DW.dt (yy8 (gT_ (wz5 (ga:=.R) (gb:=.R) (zu6 hr) (za0 (pv 9)) (za0 (pv 6)))) (yy8 (gT_ (zg2 (ga:=.R) (gb:=.R) (we6 hr) (xo7 rfl) (za0 (pv 9)) (za0 (pv 4)) rfl)) (yy8 (yg6 (xe1 (ga:=.R) (gb:=.R) (gc:=.R) yx1 yr0 zv9 zv9 za4 (gX_ rfl (za0 (pv 9)) za4 (fun _ _=>rfl)) (za0 (pv 2)))) (yt6 (yg6 (xe1 (ga:=.R) (gb:=.R) (gc:=.R) yx1 yr0 zv9 zv9 za4 (gX_ rfl (za0 (pv 9)) za4 (fun _ _=>rfl)) (za0 (pv 3)))))))))
       case a8=>
        refine' za8 ?q9;case q9=>
         exact ze1 zm8
       case b8=>
        exact zd3
      case r7=>
      refine' za8 ?q10;case q10=>
       exact zz7 (zu6 hr) (pv 6) (ga:=.R) (gb:=.R) (za0 (pv 9)) zm8
  case r3=>
  refine' za8 ?q11;case q11=>
   exact ze1 zm8
noncomputable abbrev zc5:Stmt:=top 26
noncomputable abbrev zn5:List Str:=["_law_state","_law_hall_here","_law_stand","_law_places","_law_turn","_law_n","_law_other","_law_tried"]
theorem zd5:zd1 zn5 ["_law_state","_law_hall_here","_law_stand"] (za1 zc5):=⟨rfl,rfl,rfl,by decide +kernel,rfl,by decide +kernel,by decide +kernel⟩
set_option maxHeartbeats 0 in
noncomputable def zk0 (G__law_take:List D->Dr->Res Dr D) (G__law_stands:List D->Res Unit D):{ B:FnS Dr // ∀(P:Program) (w:World) (K:PySem.W.Frag) (mg:Str->Option Value) (base:Heap) (p l:Addr) (hm:Bn mg) (cs:Cst K mg) (k:Nat) (C__law_take:ze0 P w K mg base k "_law_take" ["_law_state","_law_many"] (spS (WdS p l) K G__law_take)) (C__law_stands:ze0 P w K mg base k "_law_stands" ["_law_hall_here","_law_places"] (sp0 K G__law_stands)) (f:Addr) (cdv:Value) (A:Around) (outer:List Env) (s:Shared) (H:Hp) (E:XK),zl9 k (A.deeper (envOfC "_law_other_stand" (za1 zc5) s.heap.objs.size f cdv))->
 DSs (zw3 CX0 P w K mg base zn5 "_law_other_stand" (za1 zc5) f cdv A outer s H E).nox (cxS (WdS p l) K H) (zb2 zc5) B }:=by
 refine⟨?B,fun P w K mg base p l hm cs k C__law_take C__law_stands f cdv A outer s H E hr=>?h⟩;case h=>
  refine' za5 ?q1 ?r1;case q1=>
   exact zd2 (i:=3) zd5.nd rfl (Or.inl rfl) (gA_ (yb5 (zh2 (za0 (pv 2)) za2) zt1 (xu5 rfl) rfl hm.list boot_list))
  case r1=>
  refine' za5 ?q2 ?r2;case q2=>
   refine' zl7 [] PassesOwn.never rfl ?i3 ?g3 ?b3;case i3=>exact(zi5 rfl hm.range (xi7 (gp_ rfl za4 (zb9 C__law_take hr rfl (pv 0) (zj2 za4 za2))) za2))
   case g3=>exact(zb6 (i:=4) zd5.nd rfl (Or.inl rfl))
   case b3=>
    refine' za8 ?q4;case q4=>
     refine' zj8 ?t5 ?a5 ?b5;case t5=>exact(gT_ (zg2 (ga:=.R) (gb:=.R) (ye5 hr) (zf9 rfl) (za0 (pv 3)) (gL_ za2) rfl))
     case a5=>
      refine' za5 ?q6 ?r6;case q6=>
       exact yt8 (i:=5) (j:=6) rfl zd5.nd rfl rfl (by decide) rfl rfl (zd4 (zb9 C__law_take hr rfl (pv 0) (wo8 (gA_ (zp7 (zh2 (za0 (pv 3)) za2) zf6 (yb0 rfl) rfl hm.len PySem.boot_len)) za2)) (zd4 (zb9 C__law_take hr rfl (pv 0) (wo8 (gA_ (zp7 (zh2 (za0 (pv 3)) za2) zf6 (yb0 rfl) rfl hm.len PySem.boot_len)) za2)) zr7)) rfl
      case r6=>
      refine' za5 ?q7 ?r7;case q7=>
       exact zd2 (i:=7) zd5.nd rfl (Or.inl rfl) (gA_ (yb5 (zh2 (za0 (pv 3)) za2) zt1 (xu5 rfl) rfl hm.list boot_list))
      case r7=>
      refine' za5 ?q8 ?r8;case q8=>
       refine' zj8 ?t9 ?a9 ?b9;case t9=>exact(zg2 (ga:=.R) (gb:=.R) (zi4 hr) (zf9 rfl) (zb9 C__law_take hr rfl (pv 0) (zj2 za4 za2)) za4 rfl)
       case a9=>
        refine' za8 ?q10;case q10=>
         exact yz0 rfl (pv 7) (pv 7) (ga:=.R) (gb:=.R) (za0 (pv 5)) (za0 (pv 6)) (gU_ (zy9 (gX_ rfl (za0 (pv 7)) (za0 (pv 6)) (fun _ _=>rfl)) (zy9 (gX_ rfl (za0 (pv 7)) (za0 (pv 5)) (fun _ _=>rfl)) za2))) rfl (fun hk hl hv=>yq4 hv (xb9 rfl (zq6 (xc0 (pv 7) hk yc1) (zq6 (xc0 (pv 7) hl yc1) ym0))))
       case b9=>
        refine' za8 ?q11;case q11=>
         exact xj0 (pv 7) (ga:=.R) (gb:=.R) (za0 (pv 5)) (zy8 (wf7 (zb9 C__law_take hr rfl (pv 0) (zy9 (gX_ rfl (za0 (pv 1)) za4 (fun _ _=>rfl)) za2)) (wf7 (zb9 C__law_take hr rfl (pv 0) (zy9 (gX_ rfl (za0 (pv 1)) za4 (fun _ _=>rfl)) za2)) za2))) (fun hk hv=>yq4 hv (xc0 (pv 7) hk yc1))
      case r8=>
      refine' za8 ?q12;case q12=>
       refine' zj8 ?t13 ?a13 ?b13;case t13=>exact(zn8 (g:=.R) (ze4 C__law_stands hr rfl (zh2 (za0 (pv 1)) (zh2 (za0 (pv 7)) za2))))
       case a13=>
        refine' za8 ?q14;case q14=>
         exact wz6 [7] (wp8 (i:=3) zd5.nd rfl (Or.inl rfl) (zg5 (pv 7)))
       case b13=>
        exact zd3
     case b5=>
      exact zd3
  case r2=>
  refine' za8 ?q15;case q15=>
   exact ze1 (gA_ (yb5 (zh2 (za0 (pv 3)) za2) zi0 (zu1 rfl) rfl hm.tuple boot_tuple))
noncomputable abbrev zf7:Stmt:=top 27
noncomputable abbrev zq9:List Str:=["_law_found","_law_due"]
theorem yp8:zd1 zq9 ["_law_found","_law_due"] (za1 zf7):=⟨rfl,rfl,rfl,by decide +kernel,rfl,by decide +kernel,by decide +kernel⟩
set_option maxHeartbeats 0 in
noncomputable def zw4 (G__law_same:List D->Res Unit D):{ B:FnS Unit // ∀(P:Program) (w:World) (K:PySem.W.Frag) (mg:Str->Option Value) (base:Heap) (hm:Bn mg) (cs:Cst K mg) (k:Nat) (C__law_same:ze0 P w K mg base k "_law_same" ["_law_found","_law_due"] (sp0 K G__law_same)) (f:Addr) (cdv:Value) (A:Around) (outer:List Env) (s:Shared) (H:Hp) (E:XK),zl9 k (A.deeper (envOfC "_law_same" (za1 zf7) s.heap.objs.size f cdv))->
 DSs (zw3 CX0 P w K mg base zq9 "_law_same" (za1 zf7) f cdv A outer s H E).nox (cx0 K H) (zb2 zf7) B }:=by
 refine⟨?B,fun P w K mg base hm cs k C__law_same f cdv A outer s H E hr=>?h⟩;case h=>
  refine' za5 ?q1 ?r1;case q1=>
   refine' zj8 ?t2 ?a2 ?b2;case t2=>exact(gT_ (zg2 (ga:=.R) (gb:=.R) we5 we7 (za0 (pv 1)) yg8 rfl))
   case a2=>
    refine' za8 ?q3;case q3=>
     exact ze1 (g2_ (zv3 (ga:=.R) (gb:=.R) we5 we7 (za0 (pv 0)) yg8 rfl))
   case b2=>
    exact zd3
  case r1=>
  refine' za5 ?q4 ?r4;case q4=>
   refine' zj8 ?t5 ?a5 ?b5;case t5=>exact(gB_ (zn8 (g:=.R) (gI_ (zg6 .dict rfl rfl hm.isinstance rfl hm.dict boot_dict (ga:=.R) (za0 (pv 1))))))
   case a5=>
    refine' za5 ?q6 ?r6;case q6=>
     refine' zj8 ?t7 ?a7 ?b7;case t7=>exact(DW.dt (yy8 (yg6 (gB_ (zn8 (g:=.R) (gI_ (zg6 .dict rfl rfl hm.isinstance rfl hm.dict boot_dict (ga:=.R) (za0 (pv 0))))))) (yt6 (gT_ (zg2 (ga:=.R) (gb:=.R) (ye5 hr) (zf9 rfl) (gA_ (zp7 (zh2 (za0 (pv 0)) za2) zf6 (yb0 rfl) rfl hm.len PySem.boot_len)) (gA_ (zp7 (zh2 (za0 (pv 1)) za2) zf6 (yb0 rfl) rfl hm.len PySem.boot_len)) rfl)))))
     case a7=>
      refine' za8 ?q8;case q8=>
       exact ze1 zm8
     case b7=>
      exact zd3
    case r6=>
    refine' za8 ?q9;case q9=>
     exact ze1 (zp7 (wf6 (zo7 (N':=["_law_name","_law_found","_law_due"]) (ixs:=[none,some 0,some 1]) [1] (zo0.scope (N:=zq9) (osc:=za1 zf7) (by decide +kernel)) rfl (zp6 rfl (zg5 (pv 1))) (fun av cl C s H fp=>⟨(zb6 (i:=0) (show (["_law_name","_law_found","_law_due"]:List Str).Nodup by decide +kernel) rfl (Or.inl rfl)),zo6,(yg9 (ga:=.R) (g2_ (zv3 (ga:=.R) (gb:=.R) (we6 hr) (xo7 rfl) (za0 (pv 0)) (za0 (pv 1)) rfl)) (yk5 (ze4 C__law_same hr rfl (zy9 (gX_ rfl (za0 (pv 1)) (za0 (pv 0)) (fun _ _=>rfl)) (zy9 (gX_ rfl (za0 (pv 2)) (za0 (pv 0)) (fun _ _=>rfl)) za2)))))⟩)) za2) (yo2 rfl) (yd3 _) rfl hm.all boot_all)
   case b5=>
    exact zd3
  case r4=>
  refine' za5 ?q10 ?r10;case q10=>
   refine' zj8 ?t11 ?a11 ?b11;case t11=>exact(DW.dt (yy8 (gB_ (zn8 (g:=.R) (gI_ (zg6 .list rfl rfl hm.isinstance rfl hm.list boot_list (ga:=.R) (za0 (pv 1)))))) (yt6 (gB_ (zn8 (g:=.R) (gI_ (zg6 .tuple rfl rfl hm.isinstance rfl hm.tuple boot_tuple (ga:=.R) (za0 (pv 1)))))))))
   case a11=>
    refine' za5 ?q12 ?r12;case q12=>
     refine' zj8 ?t13 ?a13 ?b13;case t13=>exact(gT_ (zg2 (ga:=.R) (gb:=.R) (ye5 hr) (zf9 rfl) (gI_ (zg6 .list rfl rfl hm.isinstance rfl hm.list boot_list (ga:=.R) (za0 (pv 0)))) (gI_ (zg6 .list rfl rfl hm.isinstance rfl hm.list boot_list (ga:=.R) (za0 (pv 1)))) rfl))
     case a13=>
      refine' za8 ?q14;case q14=>
       exact ze1 zm8
     case b13=>
      exact zd3
    case r12=>
    refine' za5 ?q15 ?r15;case q15=>
     refine' zj8 ?t16 ?a16 ?b16;case t16=>exact(DW.dt (yy8 (gT_ (zg2 (ga:=.R) (gb:=.R) (ye5 hr) (zf9 rfl) (gI_ (zg6 .tuple rfl rfl hm.isinstance rfl hm.tuple boot_tuple (ga:=.R) (za0 (pv 0)))) (gI_ (zg6 .tuple rfl rfl hm.isinstance rfl hm.tuple boot_tuple (ga:=.R) (za0 (pv 1)))) rfl)) (yt6 (gT_ (zg2 (ga:=.R) (gb:=.R) (ye5 hr) (zf9 rfl) (gA_ (zp7 (zh2 (za0 (pv 0)) za2) zf6 (yb0 rfl) rfl hm.len PySem.boot_len)) (gA_ (zp7 (zh2 (za0 (pv 1)) za2) zf6 (yb0 rfl) rfl hm.len PySem.boot_len)) rfl)))))
     case a16=>
      refine' za8 ?q17;case q17=>
       exact ze1 zm8
     case b16=>
      exact zd3
    case r15=>
    refine' za8 ?q18;case q18=>
     exact ze1 (zp7 (wf6 (zo7 (N':=["_law_one","_law_other"]) (ixs:=[none,none]) [0,1] (zo0.scope (N:=zq9) (osc:=za1 zf7) (by decide +kernel)) rfl (wz9 rfl hm.zip (zd4 (zg5 (pv 0)) (zd4 (zg5 (pv 1)) zr7))) (fun av cl C s H fp=>⟨(zr6 (n:=2) rfl rfl (zc3 (zb6 (i:=0) (show (["_law_one","_law_other"]:List Str).Nodup by decide +kernel) rfl (Or.inl rfl)) (zc3 (zb6 (i:=1) (show (["_law_one","_law_other"]:List Str).Nodup by decide +kernel) rfl (Or.inl rfl)) zl8))),zo6,(ze4 C__law_same hr rfl (zh2 (za0 (pv 0)) (zh2 (za0 (pv 1)) za2)))⟩)) za2) (yo2 rfl) (yd3 _) rfl hm.all boot_all)
   case b11=>
    exact zd3
  case r10=>
  refine' za5 ?q19 ?r19;case q19=>
   refine' zj8 ?t20 ?a20 ?b20;case t20=>exact(gB_ (zn8 (g:=.R) (gI_ (zg6 .str rfl rfl hm.isinstance rfl hm.str boot_str (ga:=.R) (za0 (pv 1))))))
   case a20=>
    refine' za8 ?q21;case q21=>
     exact ze1 (yg9 (ga:=.R) (gI_ (zg6 .str rfl rfl hm.isinstance rfl hm.str boot_str (ga:=.R) (za0 (pv 0)))) (yk5 (g2_ (zv3 (ga:=.R) (gb:=.R) (zi4 hr) (zf9 rfl) (za0 (pv 0)) (za0 (pv 1)) rfl))))
   case b20=>
    exact zd3
  case r19=>
  refine' za8 ?q22;case q22=>
   exact ze1 (yg9 (ga:=.R) (gI_ (zg6 .int rfl rfl hm.isinstance rfl hm.int boot_int (ga:=.R) (za0 (pv 0)))) (yg9 (ga:=.R) (va3 (ga:=.R) (gI_ (zg6 .bool rfl rfl hm.isinstance rfl hm.bool boot_bool (ga:=.R) (za0 (pv 0))))) (yk5 (g2_ (zv3 (ga:=.R) (gb:=.R) (zi4 hr) (zf9 rfl) (za0 (pv 0)) (za0 (pv 1)) rfl)))))
noncomputable abbrev zf3:Stmt:=top 28
noncomputable abbrev zs7:List Str:=["_law_hall_here","_law_stand"]
theorem yl9:zd1 zs7 ["_law_hall_here","_law_stand"] (za1 zf3):=⟨rfl,rfl,rfl,by decide +kernel,rfl,by decide +kernel,by decide +kernel⟩
set_option maxHeartbeats 0 in
noncomputable def zt4 (G__law_alone:List D->Res Unit D):{ B:FnS Unit // ∀(P:Program) (w:World) (K:PySem.W.Frag) (mg:Str->Option Value) (base:Heap) (hm:Bn mg) (cs:Cst K mg) (k:Nat) (C__law_alone:ze0 P w K mg base k "_law_alone" ["_law_hall_here","_law_n","_law_place"] (sp0 K G__law_alone)) (f:Addr) (cdv:Value) (A:Around) (outer:List Env) (s:Shared) (H:Hp) (E:XK),zl9 k (A.deeper (envOfC "_law_sides" (za1 zf3) s.heap.objs.size f cdv))->
 DSs (zw3 CX0 P w K mg base zs7 "_law_sides" (za1 zf3) f cdv A outer s H E).nox (cx0 K H) (zb2 zf3) B }:=by
 refine⟨?B,fun P w K mg base hm cs k C__law_alone f cdv A outer s H E hr=>?h⟩;case h=>
  refine' za8 ?q1;case q1=>
   exact ze1 (yb5 (wf6 (zo7 (N':=["_law_n","_law_place","_law_hall_here"]) (ixs:=[none,none,some 0]) [] (zo0.scope (N:=zs7) (osc:=za1 zf3) (by decide +kernel)) rfl (yz5 rfl rfl hm.enumerate (zh2 (za0 (pv 1)) za2)) (fun av cl C s H fp=>⟨(zr6 (n:=2) rfl rfl (zc3 (zb6 (i:=0) (show (["_law_n","_law_place","_law_hall_here"]:List Str).Nodup by decide +kernel) rfl (Or.inl rfl)) (zc3 (zb6 (i:=1) (show (["_law_n","_law_place","_law_hall_here"]:List Str).Nodup by decide +kernel) rfl (Or.inl rfl)) zl8))),zo6,(zp7 (wf7 (ze4 C__law_alone hr rfl (zh2 (za0 (pv 2)) (zh2 (za0 (pv 0)) (zh2 (za0 (pv 1)) za2)))) za2) (xv0 rfl hr) (wq6 rfl) rfl hm.min boot_min)⟩)) za2) zi0 (zu1 rfl) rfl hm.tuple boot_tuple)
noncomputable abbrev zv7:Stmt:=top 29
noncomputable abbrev yr3:List Str:=["_law_script","_law_state","_law_cases","_law_turn","_law_hall_here","_law_stand","_law_one","_law_due"]
theorem zr9:zd1 yr3 ["_law_script"] (za1 zv7):=⟨rfl,rfl,rfl,by decide +kernel,rfl,by decide +kernel,by decide +kernel⟩
set_option maxHeartbeats 0 in
noncomputable def wn5 (G__law_take:List D->Dr->Res Dr D) (G__law_hall:List D->Dr->Res Dr D) (G__law_other_stand:List D->Dr->Res Dr D) (G__law_sides:List D->Res Unit D) (G__law_same:List D->Res Unit D) (G_sides:List D->Res Unit D):{ B:FnS Dr // ∀(P:Program) (w:World) (K:PySem.W.Frag) (mg:Str->Option Value) (base:Heap) (p l:Addr) (hm:Bn mg) (cs:Cst K mg) (k:Nat) (C__law_take:ze0 P w K mg base k "_law_take" ["_law_state","_law_many"] (spS (WdS p l) K G__law_take)) (C__law_hall:ze0 P w K mg base k "_law_hall" ["_law_state","_law_broad","_law_much"] (spS (WdS p l) K G__law_hall)) (C__law_other_stand:ze0 P w K mg base k "_law_other_stand" ["_law_state","_law_hall_here","_law_stand"] (spS (WdS p l) K G__law_other_stand)) (C__law_sides:ze0 P w K mg base k "_law_sides" ["_law_hall_here","_law_stand"] (sp0 K G__law_sides)) (C__law_same:ze0 P w K mg base k "_law_same" ["_law_found","_law_due"] (sp0 K G__law_same)) (C_sides:ze0 P w K mg base k "sides" ["hall","stand"] (sp0 K G_sides)) (f:Addr) (cdv:Value) (A:Around) (outer:List Env) (s:Shared) (H:Hp) (E:XK),zl9 k (A.deeper (envOfC "law" (za1 zv7) s.heap.objs.size f cdv))->
 DSs (zw3 CX0 P w K mg base yr3 "law" (za1 zv7) f cdv A outer s H E).nox (cxS (WdS p l) K (fun _=>none)) ((zb2 zv7).drop 1) B }:=by
 refine⟨?B,fun P w K mg base p l hm cs k C__law_take C__law_hall C__law_other_stand C__law_sides C__law_same C_sides f cdv A outer s H E hr=>?h⟩;case h=>
  refine' za5 ?q1 ?r1;case q1=>
   exact zd2 (i:=2) zr9.nd rfl (Or.inl rfl) (gL_ za2)
  case r1=>
  refine' za5 ?q2 ?r2;case q2=>
   refine' zl7 [] PassesOwn.never rfl ?i3 ?g3 ?b3;case i3=>exact(zi5 rfl hm.range (xi7 (gp_ rfl za4 (zb9 C__law_take hr rfl (pv 1) (zj2 za4 za2))) za2))
   case g3=>exact(zb6 (i:=3) zr9.nd rfl (Or.inl rfl))
   case b3=>
    refine' za5 ?q4 ?r4;case q4=>
     exact yt9 (zb9 C__law_hall hr rfl (pv 1) (vm9 (zv3 (ga:=.R) (gb:=.R) (zi4 hr) (zf9 rfl) (zb9 C__law_take hr rfl (pv 1) (zj2 za4 za2)) za4 rfl) (wb6 (g2_ (zs9 (ga:=.R) (gb:=.R) we4 ww7 za4 za4)) za2))) (zr6 (n:=2) rfl rfl (zc3 (zb6 (i:=4) zr9.nd rfl (Or.inl rfl)) (zc3 (zb6 (i:=5) zr9.nd rfl (Or.inl rfl)) zl8)))
    case r4=>
    refine' za8 ?q5;case q5=>
     refine' zl7 [5] PassesOwn.never rfl ?i6 ?g6 ?b6;case i6=>exact(zp6 rfl (xt4 (zd4 (zg5 (pv 5)) (zd4 (zb9 C__law_other_stand hr rfl (pv 1) (zh2 (za0 (pv 4)) (zh2 (za0 (pv 5)) za2))) zr7))))
     case g6=>exact(zb6 (i:=6) zr9.nd rfl (Or.inl rfl))
     case b6=>
      refine' za8 ?q7;case q7=>
       exact wp9 (i:=2) (pv 2) (xt4 (zd4 (zg5 (pv 4)) (zd4 (zg5 (pv 6)) (zd4 (ze4 C__law_sides hr rfl (zh2 (za0 (pv 4)) (zh2 (za0 (pv 6)) za2))) zr7)))) rfl
  case r2=>
  refine' za5 ?q8 ?r8;case q8=>
   refine' zl7 [] PassesOwn.never rfl ?i9 ?g9 ?b9;case i9=>exact(zi5 rfl hm.range (zj2 za4 za2))
   case g9=>exact(zb6 (i:=3) zr9.nd rfl (Or.inl rfl))
   case b9=>
    refine' za8 ?q10;case q10=>
     refine' zl7 [2] PassesOwn.never rfl ?i11 ?g11 ?b11;case i11=>exact(zp6 rfl (zg5 (pv 2)))
     case g11=>exact(zr6 (n:=3) rfl rfl (zc3 (zb6 (i:=4) zr9.nd rfl (Or.inl rfl)) (zc3 (zb6 (i:=5) zr9.nd rfl (Or.inl rfl)) (zc3 (zb6 (i:=7) zr9.nd rfl (Or.inl rfl)) zl8))))
     case b11=>
      refine' za8 ?q12;case q12=>
       refine' zj8 ?t13 ?a13 ?b13;case t13=>exact(yg6 (zn8 (g:=.R) (ze4 C__law_same hr rfl (wf7 (ze4 C_sides hr rfl (zh2 (za0 (pv 4)) (zh2 (za0 (pv 5)) za2))) (zh2 (za0 (pv 7)) za2)))))
       case a13=>
        refine' za8 ?q14;case q14=>
         exact ze1 zm8
       case b13=>
        exact zd3
  case r8=>
  refine' za8 ?q15;case q15=>
   exact ze1 zm8
end
section
variable {P:Program} {w:World} {K:PySem.W.Frag} {mg:Str->Option Value} {base:Heap}
set_option tactic.hygienic true in
theorem ww2 {f:Addr} {fd:FuncData} (F:Fun K "law" "law" zv7 f fd) {k:Nat} (CB:ze0 P w K mg base k "_law_begin" ["_law_script"] (xm0 K)) {B:FnS Dr}
 (hb:∀(p l:Addr) (cdv:Value) (A:Around) (outer:List Env) (s:Shared) (H:Hp) (E:XK),zl9 k (A.deeper (envOfC "law" (za1 zv7) s.heap.objs.size f cdv))->DSs (zw3 CX0 P w K mg base yr3 "law" (za1 zv7) f cdv A outer s H E).nox (cxS (WdS p l) K (fun _=>none)) ((zb2 zv7).drop 1) B)
 (hB:∀ns:List Int,ns.length<=63->wpR (B (rhoL yr3.length) (zr0 ns,0)) (fun fl _=>fl=.rt (.bl true)) fun _ _=>False):zp9 P w K mg base CX0 (k+1) f fd ["_law_script"] (xx7 K):=by
 refine F.ok zr9 (fun vs H Q E h=>?_) (fun cdv A outer s H vs Q E hr h=>?_)
 ·obtain⟨a,ns,rfl,_⟩:=h;rfl
 ·obtain⟨a,ns,rfl,hS,h63,q⟩:=h
  obtain⟨fa,fd',m1,m2,m3,m4⟩:=CB.ex;refine⟨_,zi7 (zs3 (i:=1) zr9.nd rfl (Or.inl rfl) (yw8 (E:=E0) m4 hr (by rfl) m1 m2 m3 .nil wl4 (zk7 (pv 0) zs5))) (wk2 (K:=K) fun p l=>hb p l cdv A outer s H E hr),?_⟩;refine⟨.ref a,rfl,a,ns,rfl,hS,h63,fun p l H' sm hp hl h1 h2=>?_⟩;have cl:(zr0 ns).length<=63/\zr0 ns≠[]:=by
   unfold zr0;split
   ·exact⟨by decide,by simp⟩
   ·rename_i hne;exact⟨h63,hne⟩
  refine⟨p,l,rhoL yr3.length,(zr0 ns,0),vf0 (m:=yr3.length-2),⟨h1,h2,cl.2,cl.1,Int.le_refl 0⟩,?_⟩;refine za7 (hB ns h63) (fun fl st' e=>?_) fun x st' e=>e.elim
  subst e;intro v H2 _ _ z;rw[Is.bl_iff.mp z];exact q H2
end
end K30
end
section
namespace K30
open PySem PySem.Spec PyProof.Rows L2
section
variable {S:Type} {E:Exn->S->Prop} {Q:Fl->S->Prop} {B:FnS S}
theorem yv6 {g:FnG} (I:Nat->Rho->S->Prop) {l:List D} {ρ:Rho} {st:S} (n:Nat) (h0:I n ρ st)
 (hs:∀i d ρ st,l[i]?=some d->I (n+i) ρ st->∀P:Fl->S->Prop,(∀ρ2 st',I (n+i+1) ρ2 st'->P (.nx ρ2) st')->(∀d st',Q (.rt d) st'->P (.rt d) st')->∃ρ1,g d ρ=some ρ1/\wpR (B ρ1 st) P E)
 (he:∀ρ st,I (n+l.length) ρ st->Q (.nx ρ) st):wpR (xi8 S g B l ρ st) Q E:=
 yv7 I n h0 (fun i d ρ st h h'=>hs i d ρ st h h' _ (fun _ _ z=>z) fun _ _ z=>z) he
theorem zj3 {g:FnG} (I:Nat->Rho->S->Prop) {l:List D} {ρ:Rho} {st:S} (n:Nat) (h0:I n ρ st)
 (hs:∀i d ρ st,l[i]?=some d->I (n+i) ρ st->∀P:Fl->S->Prop,(∀ρ2 st',I (n+i+1) ρ2 st'->P (.nx ρ2) st')->∃ρ1,g d ρ=some ρ1/\wpR (B ρ1 st) P E)
 (he:∀ρ st,I (n+l.length) ρ st->Q (.nx ρ) st):wpR (xi8 S g B l ρ st) Q E:=
 yv7 I n h0 (fun i d ρ st h h'=>hs i d ρ st h h' _ fun _ _ z=>z) he
theorem zz1 {F G:FnS S} {ρ:Rho} {st:S} (I:Rho->S->Prop) (h1:∀P:Fl->S->Prop,(∀ρ1 st1,I ρ1 st1->P (.nx ρ1) st1)->wpR (F ρ st) P E) (h2:∀ρ1 st1,I ρ1 st1->wpR (G ρ1 st1) Q E):wpR (wr2 S F G ρ st) Q E:=
 wt0 I (h1 _ fun ρ1 st1 h=>⟨ρ1,rfl,h⟩) h2
theorem yo8 {t:FnT S} {ρ:Rho} {st:S} (I:Rho->S->Prop) (μ:Rho->S->Nat) (h0:I ρ st)
 (hs:∀ρ st,I ρ st->∀(P:Fl->S->Prop) (Z:S->Prop),(∀ρ2 st2,I ρ2 st2->μ ρ2 st2<μ ρ st->P (.nx ρ2) st2)->(∀d st',Q (.rt d) st'->P (.rt d) st')->(∀st1,Q (.nx ρ) st1->Z st1)->wpR (t ρ st) (fun b st1=>if b=true then wpR (B ρ st1) P E else Z st1) E):wpR (yj1 S t B ρ st) Q E:=
 xk4 I μ h0 fun ρ st h=>hs ρ st h _ (fun st1=>Q (.nx ρ) st1) (fun _ _ a b=>⟨a,b⟩) (fun _ _ z=>z) fun _ z=>z
end
theorem ye7 {i j:Int} (h:xj8 i j):wm5 (.int i) (.int j)=some (.int (i*j)):=by
 unfold wm5;rw[xs0 h];rfl
noncomputable abbrev zc0:=Int×Int
noncomputable def za6 (p:zc0):D:=.tup [.int p.1,.int p.2]
theorem zb4 (p:zc0):(za6 p).imm=true:=by simp[za6,D.imm,D.immL]
theorem wq5 (p:zc0):(za6 p).lw=true:=wf0 (by simp[D.lwL,D.lw]) (by simp)
theorem yd2 (p:zc0):(za6 p).dep<=1:=by simp[za6,D.dep,D.depL]
noncomputable def yz7 (h:Int) (p:zc0) (i:Nat):List zc0:=(List.range h.toNat).map fun (j:Nat)=>(p.1+(i:Int),p.2+(j:Int))
noncomputable def cov (w h:Int) (p:zc0):List zc0:=(List.range w.toNat).flatMap (yz7 h p)
theorem xq0 {w h:Int} {p q:zc0}:q∈cov w h p↔p.1<=q.1/\q.1<p.1+w/\p.2<=q.2/\q.2<p.2+h:=by
 unfold cov yz7;simp only[List.mem_flatMap,List.mem_range,Bl0];constructor
 ·rintro ⟨i,hi,j,hj,rfl⟩
  refine⟨?_,?_,?_,?_⟩<;>simp<;>omega
 ·rintro ⟨h1,h2,h3,h4⟩
  refine⟨(q.1-p.1).toNat,by omega,(q.2-p.2).toNat,by omega,?_⟩;refine Prod.ext ?_ ?_<;>simp<;>omega
theorem xj3 {w h:Int} {p:zc0}:(cov w h p).length=w.toNat*h.toNat:=by
 unfold cov yz7;rw[List.length_flatMap];simp only[Ab0,List.length_range,List.map_const',List.sum_replicate_nat]
noncomputable def kd (w h:Int) (ways:Str) (s:Int):D:=.tup [.int w,.int h,.str ways,.int s]
theorem wy3 {w h:Int} {ways:Str} {s:Int}:(kd w h ways s).imm=true:=by simp[kd,D.imm,D.immL]
theorem at0 {a b c d:D}:atI [a,b,c,d] 0=some a:=rfl
theorem at1 {a b c d:D}:atI [a,b,c,d] 1=some b:=rfl
theorem at2 {a b c d:D}:atI [a,b,c,d] 2=some c:=rfl
theorem at3 {a b c d:D}:atI [a,b,c,d] 3=some d:=rfl
theorem pt0 {a b:D}:atI [a,b] 0=some a:=rfl
theorem pt1 {a b:D}:atI [a,b] 1=some b:=rfl
noncomputable def zn9:List D->Res Unit D:=dfn 4 2 zo9.1
theorem xp3 {l m:List D} (h1:D.immL m=true) (h2:l.length+m.length<=1000):vf9 l (.lst m)=some (l++m):=by
 show (if D.immL m=true/\l.length+m.length<=sizeLine then some (l++m) else none)=_;rw[if_pos ⟨h1,zo5 h2⟩]
theorem zz3 {a b c d:Nat} (h1:a<=c) (h2:b<=d):a*b<=c*d:=Nat.mul_le_mul h1 h2
theorem zt6 {w h:Int} {ways:Str} {s:Int} {p:zc0} {Q:D->Unit->Prop} {E:Exn->Unit->Prop} (hw:w<=30) (hh:h<=30) (h0:0<=w) (h1:0<=h) (hq:Q (.lst ((cov w h p).map za6)) ()):wpR (zn9 [kd w h ways s,za6 p]) Q E:=by
 refine zl1 rfl (by decide) ?_;unfold zo9;dsimp only;simp?! [zb1,yx4,kd,oIx,at0,at1];rw[zg8 (by omega) h0];refine zj3 (fun i ρ st'=>∃x,ρ=[.bor (kd w h ways s),.bor (za6 p),.own (.lst (((List.range i).flatMap (yz7 h p)).map za6)),x]) 0 ⟨_,rfl⟩ (fun i d ρ st' hd hI P pn=>?_) fun ρ st' hI=>?_
 ·obtain⟨x,e⟩:=hI
  obtain⟨rfl,hi⟩:=zg7 hd;subst e;have him:∀i:Nat,D.immL (((List.range i).flatMap (yz7 h p)).map za6)=true:=fun i=>zb5 zb4 _
  refine⟨_,rfl,?_⟩;simp?! [zb1,zj1,him,kd,oIx,at0,at1];rw[zg8 (by omega) h1];refine zk5 (fun d=>match d with | .int j=>za6 (p.1+(i:Int),p.2+j) | _=>.non) (fun ρ=>∃x,ρ=[x,.bor (.int (0+(i:Int))),.bor (za6 p)]) ⟨_,rfl⟩ (fun d hd ρ hI121=>?_) (zo5 (by rw[zg3];omega)) ?_
  ·obtain⟨x,e⟩:=hI121
   subst e;obtain⟨j,hj⟩:=List.getElem?_of_mem hd;obtain⟨rfl,hj'⟩:=zg7 hj;refine⟨_,rfl,⟨_,rfl⟩,⟨rfl,rfl⟩,?_⟩;simp?! [zb1,za6,oIx,pt0,pt1,zo2,zw2,zw0];simp
  ·have e:(zp0 0 h.toNat).map (fun d=>match d with | .int j=>za6 (p.1+(i:Int),p.2+j) | _=>D.non)=(yz7 h p i).map za6:=by
    unfold zp0 yz7;rw[Bz0,Bz0];refine List.map_congr_left fun j _=>?_
    simp[za6]
   rw[e];refine⟨_,xp3 (zb5 zb4 _) ?_,pn _ _ ⟨.bor (.int (0+(i:Int))),?_⟩⟩
   ·rw[Ab0,Ab0,List.length_flatMap]
    unfold yz7;simp only[Ab0,List.length_range,List.map_const',List.sum_replicate_nat];have:i*h.toNat<=29*30:=zz3 (by omega) (by omega);omega
   ·rw[List.range_succ,List.flatMap_append,Ba0]
    simp[kd]
 ·obtain⟨x,e⟩:=hI
  subst e;rw[zg3,Aj0];have him:∀i:Nat,D.immL (((List.range i).flatMap (yz7 h p)).map za6)=true:=fun i=>zb5 zb4 _
  simp?! [zb1,him];exact hq
noncomputable def xy0:List D->Res Unit D:=dfn 5 3 zo8.1
noncomputable def yj2 (wide high w h:Int) (ways:Str):Int:=if ways = "any" then (wide-w+1)*(high-h+1) else if ways = "row" then wide-w+1 else if ways = "column" then high-h+1 else 1
noncomputable def yo6 (x:Str):Prop:=x = "any"\/x = "row"\/x = "column"\/x = "none"
theorem wh4 {wide high w h:Int} {ways:Str} {s:Int} {Q:D->Unit->Prop} {E:Exn->Unit->Prop} (h1:0<=wide-w) (h2:wide-w<=100) (h3:0<=high-h) (h4:high-h<=100) (hw:yo6 ways) (hq:Q (.int (yj2 wide high w h ways)) ()):wpR (xy0 [.int wide,.int high,kd w h ways s]) Q E:=by
 refine zl1 rfl (by decide) ?_;unfold zo8;dsimp only;have cm:xj8 (wide-w+1) (high-h+1):=.inl ⟨by omega,by omega⟩;simp?! [zb1,kd,oIx,at0,at1,at2,zw2,zo2,vb3,ye7 cm];have pk:xh1 ways ["any","row","column","none"] [D.int ((wide-w+1)*(high-h+1)),D.int (wide-w+1),D.int (high-h+1),D.int 1]=some (.int (yj2 wide high w h ways)):=by
  rcases hw with e | e | e | e<;>subst e<;>rfl
 rw[pk];exact⟨.inl imm_int,hq⟩
noncomputable def xb1:List D->Dr->Res Dr D:=wc1 3 2 (zt3 zu3).1
theorem xw5 {broad:Bool} {st:Dr} {Q:D->Dr->Prop} {E:Exn->Dr->Prop} (hs:st.2<2 ^ 39) (h:∀(w h:Int) st',1<=w->w<=9->1<=h->h<=9->(broad=true->5<=w/\4<=h)->st'.2<=st.2+3->Q (.tup [.int w,.int h]) st'):wpR (xb1 [.bl broad] st) Q E:=by
 refine yl3 rfl (by decide) ?_;unfold zt3;dsimp only;simp?! [zb1];cases broad with
 | true=>
   simp?! [zb1];refine zc6 (by decide) (by decide) (by omega) fun v1 st1 a1 b1 c1=>?_
   simp?! [zo2,zw2,zb1];refine zc6 (by decide) (by decide) (by omega) fun v2 st2 a2 b2 c2=>?_
   simp?! [zo2,zw2,zb1,zw0];exact h _ _ _ (by omega) (by omega) (by omega) (by omega) (fun _=>⟨by omega,by omega⟩) (by omega)
 | false=>
   simp?! [zb1];refine zc6 (by decide) (by decide) (by omega) fun v1 st1 a1 b1 c1=>?_
   simp?! [oEq,D.dep,D.eqq,Ak0,Av0,zb1];split
   ·refine zc6 (by decide) (by decide) (by omega) fun v2 st2 a2 b2 c2=>?_
    simp?! [zo2,zw2,zb1];refine zc6 (by decide) (by decide) (by omega) fun v3 st3 a3 b3 c3=>?_
    simp?! [zo2,zw2,zb1,zw0];exact h _ _ _ (by omega) (by omega) (by omega) (by omega) (fun e=>by cases e) (by omega)
   ·split
    ·refine zc6 (by decide) (by decide) (by omega) fun v2 st2 a2 b2 c2=>?_
     simp?! [zo2,zw2,zb1];refine zc6 (by decide) (by decide) (by omega) fun v3 st3 a3 b3 c3=>?_
     simp?! [zo2,zw2,zb1,zw0];exact h _ _ _ (by omega) (by omega) (by omega) (by omega) (fun e=>by cases e) (by omega)
    ·refine zc6 (by decide) (by decide) (by omega) fun v2 st2 a2 b2 c2=>?_
     simp?! [zo2,zw2,zb1];refine zc6 (by decide) (by decide) (by omega) fun v3 st3 a3 b3 c3=>?_
     simp?! [zo2,zw2,zb1,zw0];exact h _ _ _ (by omega) (by omega) (by omega) (by omega) (fun e=>by cases e) (by omega)
theorem yj0 {v:Int} (h0:0<=v) (h1:v<6):∃s:Int,oIx (.lst [.int 1,.int 1,.int 1,.int 2,.int 2,.int 3]) (.int v)=some (.int s)/\1<=s/\s<=3:=by
 obtain⟨d,hd,e⟩:=xd1 (l:=[.int 1,.int 1,.int 1,.int 2,.int 2,.int 3]) (by simp[D.immL,D.imm]) h0 (by simpa using h1);rw[e];simp only[Ah0,Bb0,or_false] at hd;rcases hd with r | r | r | r | r | r<;>subst r<;>exact⟨_,rfl,by decide,by decide⟩
theorem xg2 {v:Int} (h0:0<=v) (h1:v<6):∃s:Str,oIx (.lst [.str "any",.str "any",.str "row",.str "column",.str "row",.str "none"]) (.int v)=some (.str s)/\yo6 s:=by
 obtain⟨d,hd,e⟩:=xd1 (l:=[.str "any",.str "any",.str "row",.str "column",.str "row",.str "none"]) (by simp[D.immL,D.imm]) h0 (by simpa using h1);rw[e];simp only[Ah0,Bb0,or_false] at hd;rcases hd with r | r | r | r | r | r<;>subst r<;>exact⟨_,rfl,by simp[yo6]⟩
theorem xg1 {v:Int} (h0:0<=v) (h1:v<6):∃s:Str,oIx (.lst [.str "row",.str "column",.str "row",.str "column",.str "any",.str "none"]) (.int v)=some (.str s)/\yo6 s:=by
 obtain⟨d,hd,e⟩:=xd1 (l:=[.str "row",.str "column",.str "row",.str "column",.str "any",.str "none"]) (by simp[D.immL,D.imm]) h0 (by simpa using h1);rw[e];simp only[Ah0,Bb0,or_false] at hd;rcases hd with r | r | r | r | r | r<;>subst r<;>exact⟨_,rfl,by simp[yo6]⟩
theorem yw0 {v:Int} (h0:0<=v) (h1:v<6):∃s:Int,oIx (.lst [.int 0,.int 0,.int 1,.int 1,.int 1,.int (-1)]) (.int v)=some (.int s)/\(s=0\/s=1\/s=-1):=by
 obtain⟨d,hd,e⟩:=xd1 (l:=[.int 0,.int 0,.int 1,.int 1,.int 1,.int (-1)]) (by simp[D.immL,D.imm]) h0 (by simpa using h1);rw[e];simp only[Ah0,Bb0,or_false] at hd;rcases hd with r | r | r | r | r | r<;>subst r<;>exact⟨_,rfl,by decide⟩
theorem wm4 {a b c d:D} (h1:a.imm=true) (h2:b.imm=true) (h3:c.imm=true) (h4:d.imm=true):xc3 [a,b,c,d]=some (.tup [a,b,c,d]):=ym4 (by simp[D.immL,h1,h2,h3,h4]) (by simp)
noncomputable def wa3:List D->Dr->Res Dr D:=wc1 9 4 (zw5 zu3).1
noncomputable def xj6 (a b:Int):Int:=if b<a then b else a
theorem yr7 {a b:Int}:xp1 (fun i j=>if j<i then j else i) [.int a,.int b]=some (.int (xj6 a b)):=rfl
theorem zz4 {a b:Int}:xj6 a b<=a/\xj6 a b<=b/\(xj6 a b=a\/xj6 a b=b):=by unfold xj6;split<;>omega
theorem wh7 {wide high:Int} {broad:Bool} {st:Dr} {Q:D->Dr->Prop} {E:Exn->Dr->Prop} (hs:st.2<2 ^ 39) (h1:1<=wide) (h2:wide<=9) (h3:1<=high) (h4:high<=9) (hb:broad=true->5<=wide/\4<=high)
 (h:∀(a u:Int) (ways:Str) (s:Int) st',1<=a->a<=wide->1<=u->u<=high->yo6 ways->(s=0\/s=1\/s=-1)->st'.2<=st.2+11->Q (kd a u ways s) st'):wpR (wa3 [.int wide,.int high,.bl broad] st) Q E:=by
 refine yl3 rfl (by decide) ?_;unfold zw5;dsimp only;simp_all!;simp! [zw1];simp_all!;simp!;refine zc6 (by decide) (by decide) (by omega) fun v1 st1 a1 b1 c1=>?_
 obtain⟨s1,e1,l1,u1⟩:=yj0 a1 b1;simp! [e1,yr7];refine zc6 (by decide) (by decide) (by omega) fun v2 st2 a2 b2 c2=>?_
 obtain⟨s2,e2,l2,u2⟩:=yj0 a2 b2;simp! [e2,yr7];simp_all!;simp! [zw1];refine zc6 (by decide) (by decide) (by omega) fun v3 st3 a3 b3 c3=>?_
 obtain⟨x1,e3,w1⟩:=xg2 a3 b3;simp! [e3];have m1:=zz4 (a:=wide) (b:=s1);have m2:=zz4 (a:=high) (b:=s2);generalize xj6 wide s1=A1 at m1;generalize xj6 high s2=A2 at m2;refine zz1 (fun ρ st'=>∃(a u:Int) (x:Str) (y:Sl),ρ=[Sl.hnd,.bor (.int wide),.bor (.int high),.bor (.bl broad),.own (.lst [.int 1,.int 1,.int 1,.int 2,.int 2,.int 3]),.bor (.int a),.bor (.int u),.bor (.str x),y]/\1<=a/\a<=wide/\1<=u/\u<=high/\yo6 x/\st'.2<=st.2+6) ?_ ?_
 ·intro P1 pn1
  simp!;cases broad with
  | false=>
    simp!;exact pn1 _ _ ⟨A1,A2,x1,_,rfl,by omega,by omega,by omega,by omega,w1,by omega⟩
  | true=>
    obtain⟨k1,k2⟩:=hb rfl;rw[if_pos rfl,zb1];simp! [zw1];refine zc6 (by decide) (by decide) (by omega) fun v4 st4 a4 b4 c4=>?_
    obtain⟨x2,e4,w2⟩:=xg1 a4 b4;simp! [e4];refine zz1 (fun ρ st'=>∃(a u:Int) (y:Sl),ρ=[Sl.hnd,.bor (.int wide),.bor (.int high),.bor (.bl true),.own (.lst [.int 1,.int 1,.int 1,.int 2,.int 2,.int 3]),.bor (.int a),.bor (.int u),.bor (.str x2),y]/\1<=a/\a<=wide/\1<=u/\u<=high/\st'.2<=st4.2+1) ?_ ?_
    ·intro P2 pn2
     simp! [oEq,D.dep,D.eqq,Ak0,Av0];split
     ·refine zc6 (by decide) (by decide) (by omega) fun v5 st5 a5 b5 c5=>?_
      simp! [zw2];exact pn2 _ _ ⟨_,_,_,rfl,by omega,by omega,by omega,by omega,by omega⟩
     ·exact pn2 _ _ ⟨A1,A2,_,rfl,by omega,by omega,by omega,by omega,by omega⟩
    ·rintro ρ1 st5 ⟨a,u,y,rfl,g1,g2,g3,g4,g5⟩
     simp! [oEq,D.dep,D.eqq,Ak0,Av0];split
     ·refine zc6 (by decide) (by decide) (by omega) fun v5 st6 a5 b5 c5=>?_
      simp! [zw2];exact pn1 _ _ ⟨_,_,_,_,rfl,by omega,by omega,by omega,by omega,w2,by omega⟩
     ·exact pn1 _ _ ⟨a,u,_,_,rfl,by omega,by omega,by omega,by omega,w2,by omega⟩
 ·rintro ρ1 st4 ⟨a,u,x,y,rfl,g1,g2,g3,g4,g5,g6⟩
  simp_all!;simp!;refine zc6 (by decide) (by decide) (by omega) fun v4 st5 a4 b4 c4=>?_
  simp!;refine zz1 (fun ρ st'=>∃(a u:Int) (x:Str),ρ=[Sl.hnd,.bor (.int wide),.bor (.int high),.bor (.bl broad),.own (.lst [.int 1,.int 1,.int 1,.int 2,.int 2,.int 3]),.bor (.int a),.bor (.int u),.bor (.str x),.bor (.int v4)]/\1<=a/\a<=wide/\1<=u/\u<=high/\yo6 x/\st'.2<=st5.2+1) ?_ ?_
  ·intro P3 pn3
   simp! [oEq,D.dep,D.eqq,Ak0,Av0];split
   ·have m3:=zz4 (a:=high) (b:=3)
    simp! [yr7];generalize xj6 high 3=B at m3;refine zc6 (by omega) (by omega) (by omega) fun v5 st6 a5 b5 c5=>?_
    simp! [zw2];exact pn3 _ _ ⟨_,_,_,rfl,by omega,by omega,by omega,by omega,by simp[yo6],by omega⟩
   ·exact pn3 _ _ ⟨a,u,x,rfl,by omega,by omega,by omega,by omega,g5,by omega⟩
  ·rintro ρ1 st6 ⟨a,u,x,rfl,g1,g2,g3,g4,g5,g7⟩
   refine zz1 (fun ρ st'=>∃(a u:Int) (x:Str),ρ=[Sl.hnd,.bor (.int wide),.bor (.int high),.bor (.bl broad),.own (.lst [.int 1,.int 1,.int 1,.int 2,.int 2,.int 3]),.bor (.int a),.bor (.int u),.bor (.str x),.bor (.int v4)]/\1<=a/\a<=wide/\1<=u/\u<=high/\yo6 x/\st'.2<=st6.2+1) ?_ ?_
   ·intro P4 pn4
    simp! [oEq,D.dep,D.eqq,Ak0,Av0];split
    ·have m3:=zz4 (a:=wide) (b:=3)
     simp! [yr7];generalize xj6 wide 3=B at m3;refine zc6 (by omega) (by omega) (by omega) fun v5 st7 a5 b5 c5=>?_
     simp! [zw2];exact pn4 _ _ ⟨_,_,_,rfl,by omega,by omega,by omega,by omega,by simp[yo6],by omega⟩
    ·exact pn4 _ _ ⟨a,u,x,rfl,by omega,by omega,by omega,by omega,g5,by omega⟩
   ·rintro ρ1 st7 ⟨a,u,x,rfl,g1,g2,g3,g4,g5,g8⟩
    refine zz1 (fun ρ st'=>∃(a u:Int) (x:Str),ρ=[Sl.hnd,.bor (.int wide),.bor (.int high),.bor (.bl broad),.own (.lst [.int 1,.int 1,.int 1,.int 2,.int 2,.int 3]),.bor (.int a),.bor (.int u),.bor (.str x),.bor (.int v4)]/\1<=a/\a<=wide/\1<=u/\u<=high/\yo6 x/\st'.2<=st7.2) ?_ ?_
    ·intro P5 pn5
     simp! [oEq,D.dep,D.eqq,Ak0,Av0];split
     ·have m3:=zz4 (a:=wide) (b:=4)
      have m4:=zz4 (a:=high) (b:=4);simp! [yr7];generalize xj6 wide 4=B at m3;generalize xj6 high 4=B' at m4;exact pn5 _ _ ⟨_,_,_,rfl,by omega,by omega,by omega,by omega,by simp[yo6],by omega⟩
     ·exact pn5 _ _ ⟨a,u,x,rfl,by omega,by omega,by omega,by omega,g5,by omega⟩
    ·rintro ρ1 st8 ⟨a,u,x,rfl,g1,g2,g3,g4,g5,g9⟩
     simp! [zw1];refine zc6 (by decide) (by decide) (by omega) fun v5 st9 a5 b5 c5=>?_
     obtain⟨s5,e5,w5⟩:=yw0 a5 b5;simp! [e5,wm4];exact h a u x s5 st9 g1 g2 g3 g4 g5 w5 (by omega)
end K30
end
section
namespace K30
open PySem PySem.Spec PyProof.Rows L2
structure Tr where
 w:Int
 h:Int
 ways:Str
 s:Int
 x:Int
 y:Int
noncomputable def Tr.kind (t:Tr):D:=kd t.w t.h t.ways t.s
noncomputable def Tr.place (t:Tr):D:=za6 (t.x,t.y)
noncomputable def Tr.cells (t:Tr):List zc0:=cov t.w t.h (t.x,t.y)
structure vk7 (wide high:Int) (sh:List zc0) (t:Tr):Prop where
 w1:1<=t.w
 h1:1<=t.h
 x0:0<=t.x
 xw:t.x+t.w<=wide
 y0:0<=t.y
 yh:t.y+t.h<=high
 ways:yo6 t.ways
 st:t.s=0\/t.s=1\/t.s=-1
 free:∀c∈t.cells,c∉sh
structure xf4 (wide high:Int) (sh:List zc0) (ts:List Tr):Prop where
 w1:1<=wide
 w9:wide<=9
 h1:1<=high
 h9:high<=9
 sub:sh.Sublist (cov wide high (0,0))
 few:ts.length<=12
 tr:∀t∈ts,vk7 wide high sh t
 apart:ts.Pairwise fun a b=>∀c∈a.cells,c∉b.cells
noncomputable def zc7 (wide high:Int) (sh:List zc0) (ts:List Tr):D:=.tup [.int wide,.int high,.tup (sh.map za6),.tup (ts.map Tr.kind)]
noncomputable def zh0 (ts:List Tr):D:=.tup (ts.map Tr.place)
theorem zn7 (t:Tr):t.kind.imm=true:=wy3
theorem zx6 (t:Tr):t.place.imm=true:=zb4 _
noncomputable def ck (c:zc0):List Key:=[.inl c.1,.inl c.2]
theorem zf5 (c:zc0):zc8 (za6 c)=some (ck c):=rfl
theorem xu2 {a b:zc0} (h:ck a=ck b):a=b:=by
 unfold ck at h;have h1:a.1=b.1/\a.2=b.2:=by simpa using h
 exact Prod.ext h1.1 h1.2
noncomputable def inT (T:List zc0) (k:List Key):Prop:=∃c∈T,ck c=k
theorem xr8 {T:List zc0} {c:zc0}:inT T (ck c)↔c∈T:=⟨fun ⟨d,hd,e⟩=>by rw[<-xu2 e];exact hd,fun h=>⟨c,h,rfl⟩⟩
theorem yh3 {w h:Int} {p:zc0} (hw:w<=9) (hh:h<=9):(cov w h p).length<=81:=by
 rw[xj3];exact zz3 (c:=9) (d:=9) (by omega) (by omega)
noncomputable def vj5 (T:List zc0):D->D
 | .tup [.int x,.int y]=>.bl (decide ((x,y)∈T))
 | _=>.non
theorem wb1 (T:List zc0) (l:List zc0):(l.map za6).map (vj5 T)=l.map fun c=>.bl (decide (c∈T)):=by rw[Bz0];rfl
noncomputable def wb3:List D->Dr->Res Dr D:=wc1 17 3 (zw6 xb1 zn9 zu3 wa3 xy0).1
noncomputable def yb1 (d:D):D:=.tup [d,.bl true]
theorem yj3 (l:List zc0):zs4 ((l.map za6).map yb1)=some (l.map fun c=>(ck c,.bl true)):=by
 induction l with
 | nil=>rfl
 | cons c l ih=>
   show zs4 (.tup [za6 c,.bl true]::(l.map za6).map yb1)=_;unfold zs4;rw[if_pos (by simp[D.imm]),zf5,ih];rfl
set_option tactic.hygienic true in
theorem wh9 {broad:Bool} {much:Int} {st:Dr} {Q:D->Dr->Prop} {E:Exn->Dr->Prop} (hs:st.2<2 ^ 38) (hm1:1<=much) (hm2:much<=1000000000000)
 (hq:∀wide high sh ts st',xf4 wide high sh ts->st'.2<=st.2+500->Q (.tup [zc7 wide high sh ts,zh0 ts]) st'):wpR (wb3 [.bl broad,.int much] st) Q E:=by
 refine yl3 rfl (by decide) ?_;unfold zw6;dsimp only;simp_all!;simp!;refine xw5 (by omega) fun wide high st1 w1 w9 h1 h9 hb t1=>?_
 simp!;simp_all!;simp! [wm4,zw0];refine zt6 (ways:="none") (s:=0) (p:=(0,0)) (by omega) (by omega) (by omega) (by omega) ?_;simp! [zb5 zb4];simp_all!;simp!;have hc81:(cov wide high (0,0)).length<=81:=yh3 w9 h9;refine zx1 (fun n acc ρ st'=>∃sh x,acc=sh.map za6/\sh.Sublist ((cov wide high (0,0)).take n)/\ρ=[x,Sl.hnd,.bor (.bl broad)]/\st'.2<=st1.2+n) 0 ⟨[],_,rfl,by simp,rfl,by simp⟩ (fun i d acc ρ st' hd hI=>?_) fun acc ρ st' hI=>?_
 ·obtain⟨sh,x,e1,e2,e3,e4⟩:=hI
  rw[Ai0] at hd;cases q:(cov wide high (0,0))[i]? with
  | none=>rw[q] at hd;cases hd
  | some c=>
    rw[q] at hd;cases hd;subst e1 e3;have hi:i<(cov wide high (0,0)).length:=(Ae0.mp q).1;have hsl:=e2.length_le;rw[Bc0] at hsl;have tk:(cov wide high (0,0)).take (i+1)=(cov wide high (0,0)).take i++[c]:=by rw[Bm0,q];rfl
    rw[Aj0] at e2 e4;refine⟨_,rfl,?_⟩;simp! [vc1,wm7,xr1];have tk2:∃m:Int,(if broad=true then D.int 20 else D.int 9)=.int m/\0<m/\m<1073741824:=by
     split
     ·exact⟨_,rfl,by decide,by decide⟩
     ·exact⟨_,rfl,by decide,by decide⟩
    obtain⟨m,em,m0,m1⟩:=tk2;rw[em];refine zc6 m0 m1 (by omega) fun v st2 a2 b2 c2=>?_
    simp! [oEq,D.dep,D.eqq,Ak0,Av0];split
    ·refine⟨zb4 c,lt_size (by rw[Ab0];omega),sh++[c],_,by rw[Ba0];rfl,?_,rfl,by omega⟩
     rw[tk];exact e2.append (List.Sublist.refl _)
    ·refine⟨sh,_,rfl,?_,rfl,by omega⟩
     rw[tk];exact e2.trans (List.sublist_append_left _ _)
 ·obtain⟨sh,x,e1,e2,e3,e4⟩:=hI
  subst e1;rw[Aj0,Ab0,Bo0] at e2;rw[Aj0,Ab0] at e4;have hsh:sh.length<=81:=Be0 e2.length_le hc81;simp! [zb5 zb4];simp_all!;simp!;refine zk5 yb1 (fun ρ=>∃x,ρ=[x]) ⟨_,rfl⟩ (fun d hd ρ hI122=>?_) (zo5 (by rw[Ab0];omega)) ?_
  ·obtain⟨x,e⟩:=hI122
   subst e;obtain⟨c,hc,rfl⟩:=Bl0.mp hd;refine⟨_,rfl,⟨_,rfl⟩,⟨rfl,rfl⟩,?_⟩;simp! [zw0,zb4,yb1]
  ·have od:xz7 [.lst ((sh.map za6).map yb1)]=some (.dct (.non::(zh1 (sh.map fun c=>(ck c,.bl true)) ([],[])).1) (zh1 (sh.map fun c=>(ck c,.bl true)) ([],[])).2):=by
    show (if ((sh.map za6).map yb1).length<sizeLine then (zs4 ((sh.map za6).map yb1)).map _ else none)=_;rw[if_pos (lt_size (by simp;omega)),yj3];rfl
   have hh:=Holds.all (ps:=sh.map fun c=>(ck c,D.bl true)) (Holds.nil (n:=0)) (fun p hp=>by obtain⟨c,_,rfl⟩:=Bl0.mp hp;exact imm_bl);have hT:Holds (.dct (.non::(zh1 (sh.map fun c=>(ck c,.bl true)) ([],[])).1) (zh1 (sh.map fun c=>(ck c,.bl true)) ([],[])).2) sh.length (inT sh):=hh.imp (by simp) fun k=>by
    simp only[false_or,Bl0,inT];constructor
    ·rintro ⟨p,⟨c,hc,rfl⟩,e⟩;exact⟨c,hc,e⟩
    ·rintro ⟨c,hc,e⟩;exact⟨_,⟨c,hc,rfl⟩,e⟩
   rw[od];generalize D.dct (.non::(zh1 (sh.map fun c=>(ck c,.bl true)) ([],[])).1) (zh1 (sh.map fun c=>(ck c,.bl true)) ([],[])).2=tk at hT;have fl:=hT.flat;simp! [fl];simp_all!;simp! [yx4];simp_all!;simp! [yx4];simp_all!;simp!;simp_all!;simp!;refine zc6 (by decide) (by decide) (by omega) fun v2 st2 a2 b2 c2=>?_
   have hmany:∃many:Int,(if broad=true then D.int 30 else D.int (2+v2))=.int many/\0<=many/\many<=30:=by
    split
    ·exact⟨_,rfl,by omega,by omega⟩
    ·exact⟨_,rfl,by omega,by omega⟩
   obtain⟨many,em,hm0,hm3⟩:=hmany;simp! [zo2,zw2,vc1,wm7,xr1,em];rw[zg8 (by omega) hm0];refine zj3 (fun i ρ st''=>∃(ts:List Tr) (T:List zc0) (tk:D) (rooms:Int) (y11 y12 y13 y14 y15 y16:Sl),ρ=[Sl.hnd,.bor (.bl broad),.bor (.int much),.bor (.int wide),.bor (.int high),.own (.lst ((cov wide high (0,0)).map za6)),.own (.lst (sh.map za6)),.own tk,.own (.lst (ts.map Tr.kind)),.own (.lst (ts.map Tr.place)),.bor (.int rooms),y11,y12,y13,y14,y15,y16]/\xf4 wide high sh ts/\Holds tk (81+81*i) (inT T)/\(∀c,c∈T↔c∈sh\/∃t∈ts,c∈t.cells)/\1<=rooms/\rooms<=much/\st''.2<=st2.2+13*i) 0 ⟨[],sh,tk,1,_,_,_,_,_,_,rfl,⟨w1,w9,h1,h9,e2,by simp,fun t ht=>(by cases ht),List.Pairwise.nil⟩,hT.imp (by omega) fun _=>Iff.rfl,by simp,by omega,by omega,by simp⟩ (fun i d ρ st'' hd hI P pn=>?_) fun ρ st'' hI=>?_
   ·obtain⟨ts,T,tk,rooms,y11,y12,y13,y14,y15,y16,er,ho,hT,hc,hr1,hr2,hst⟩:=hI
    obtain⟨rfl,hi⟩:=zg7 hd;subst er;rw[Aj0] at hT hst;have hb2:st''.2<2 ^ 38+1000:=by omega
    have hi30:i<30:=by omega
    clear hs t1 e4 c2 a2 b2 hm0 hm3 hi em;refine⟨_,rfl,?_⟩;simp_all!;simp!;refine wh7 (by omega) w1 w9 h1 h9 hb fun a u ways s st3 g1 g2 g3 g4 g5 g6 t3=>?_
    have kf:(kd a u ways s).flat=false:=rfl;simp! [kf];simp_all!;simp! [kd,oIx,at0,at1,zw2,zo2];refine zc6 (by omega) (by omega) (by omega) fun x st4 a4 b4 c4=>?_
    refine zc6 (by omega) (by omega) (by omega) fun y st5 a5 b5 c5=>?_
    simp! [zw0];simp_all!;simp!;refine zt6 (p:=(x,y)) (by omega) (by omega) (by omega) (by omega) ?_;simp! [zb5 zb4];simp_all!;simp!;refine wh4 (by omega) (by omega) (by omega) (by omega) g5 ?_;have hroom:1<=yj2 wide high a u ways/\yj2 wide high a u ways<=81:=by
     have z1:1<=wide-a+1/\wide-a+1<=9:=by omega
     have z2:1<=high-u+1/\high-u+1<=9:=by omega
     unfold yj2;split
     ·constructor
      ·have:=Int.mul_le_mul z1.1 z2.1 (by omega) (by omega);omega
      ·have:=Int.mul_le_mul z1.2 z2.2 (by omega) (by omega);omega
     ·split
      ·omega
      ·split<;>omega
    generalize yj2 wide high a u ways=room at hroom;have hown:(cov a u (x,y)).length<=81:=yh3 (by omega) (by omega);have cm:xj8 rooms room:=.inr ⟨by omega,by omega⟩;simp! [xv9,Ab0,zw2,ye7 cm];split
    ·rename_i hlen
     have hlen:ts.length<12:=by have:=of_decide_eq_true hlen;omega
     split
     ·rename_i hle
      have hle:rooms*room<=much:=of_decide_eq_true hle;refine zk5 (vj5 T) (fun ρ=>∃x,ρ=[x,.bor tk]) ⟨_,rfl⟩ (fun d hd ρ hI123=>?_) (zo5 (by rw[Ab0];omega)) ?_
      ·obtain⟨x',e⟩:=hI123
       subst e;obtain⟨c,hc',rfl⟩:=Bl0.mp hd;refine⟨_,rfl,⟨_,rfl⟩,⟨rfl,rfl⟩,?_⟩;simp! [(hT.in_ (zf5 c) (b:=decide (c∈T)) (by rw[decide_eq_true_eq,xr8])).1];rfl
      ·rw[wb1]
       simp! [yj7,zr1,Av0];split
       ·rename_i hany
        have hfree:∀c∈cov a u (x,y),c∉T:=fun c hc' hcT=>by
         have:(List.map (fun c=>decide (c∈T)) (cov a u (x,y))).any id=true:=by
          rw[List.any_map,List.any_eq_true];exact⟨c,hc',by simpa using hcT⟩
         rw[this] at hany;cases hany
        have hpos:1<=rooms*room:=by have:=Int.mul_le_mul hr1 hroom.1 (by omega) (by omega);omega
        simp_all!;simp! [ye7 cm];simp_all!;simp! [zj1,zb5 zn7];refine⟨_,ym5 (by simp[D.imm,D.immL]) (by rw[Ab0];omega),?_⟩;simp_all!;simp! [zj1,zb5 zx6];refine⟨_,ym5 (by simp[D.imm,D.immL]) (by rw[Ab0];omega),?_⟩;simp!;refine zj3 (fun j ρ st''=>∃(tk':D) (y16:Sl),ρ=[Sl.hnd,.bor (.bl broad),.bor (.int much),.bor (.int wide),.bor (.int high),.own (.lst ((cov wide high (0,0)).map za6)),.own (.lst (sh.map za6)),.own tk',.own (.lst (ts.map Tr.kind++[D.tup [.int a,.int u,.str ways,.int s]])),.own (.lst (ts.map Tr.place++[D.tup [.int x,.int y]])),.bor (.int (rooms*room)),.bor (.int (0+(i:Int))),.bor (D.tup [.int a,.int u,.str ways,.int s]),.bor (D.tup [.int x,.int y]),.bor (.lst ((cov a u (x,y)).map za6)),.bor (.int room),y16]/\Holds tk' (81+81*i+j) (inT (T++(cov a u (x,y)).take j))/\st''=st5) 0 ⟨tk,_,rfl,by simpa using hT,rfl⟩ (fun j d ρ st'' hd hI P2 pn2=>?_) fun ρ st'' hI=>?_
        ·obtain⟨tk',y16,er,hT',es⟩:=hI
         rw[Ai0] at hd;cases q:(cov a u (x,y))[j]? with
         | none=>rw[q] at hd;cases hd
         | some c=>
           rw[q] at hd;cases hd;subst er es;have hj:j<(cov a u (x,y)).length:=(Ae0.mp q).1;obtain⟨ks,vs,rfl,k1,k2,k3,k4⟩:=id hT';refine⟨_,rfl,?_⟩;simp! [zz8,k1,zf5];refine⟨ks,vs,rfl,yj8 (by omega),pn2 _ _ ⟨_,_,rfl,?_,rfl⟩⟩;refine(hT'.put (k:=ck c) (v:=.bl true) imm_bl).imp (by omega) fun k=>?_
           rw[Aj0,Bm0,q];simp only[inT,As0,Option.toList,Ap0];constructor
           ·rintro (⟨c',h1,h2⟩ | h)
            ·exact⟨c',by rcases h1 with h1 | h1<;>simp[h1],h2⟩
            ·exact⟨c,by simp,h⟩
           ·rintro ⟨c',h1,h2⟩
            rcases h1 with h1 | h1 | h1
            ·exact .inl ⟨c',.inl h1,h2⟩
            ·exact .inl ⟨c',.inr h1,h2⟩
            ·subst h1;exact .inr h2
        ·obtain⟨tk',y16,er,hT',es⟩:=hI
         subst er es;rw[Aj0,Ab0,Bo0] at hT';have hnew:vk7 wide high sh ⟨a,u,ways,s,x,y⟩:=⟨g1,g3,a4,by show x+a<=wide;omega,a5,by show y+u<=high;omega,g5,g6,fun c hc' hcs=>hfree c hc' ((hc c).mpr (.inl hcs))⟩;refine pn _ _ ⟨ts++[⟨a,u,ways,s,x,y⟩],T++cov a u (x,y),tk',rooms*room,.bor (.int (0+(i:Int))),.bor (D.tup [.int a,.int u,.str ways,.int s]),.bor (D.tup [.int x,.int y]),.bor (.lst ((cov a u (x,y)).map za6)),.bor (.int room),y16,?_,⟨w1,w9,h1,h9,ho.sub,by rw[Al0];simp;omega,fun t ht=>?_,?_⟩,hT'.imp (by omega) fun _=>Iff.rfl,fun c=>?_,hpos,hle,by omega⟩
         ·rw[Ba0,Ba0];rfl
         ·rcases As0.mp ht with ht | ht
          ·exact ho.tr t ht
          ·rw[Ap0.mp ht];exact hnew
         ·refine Bg0.mpr ⟨ho.apart,List.pairwise_singleton _ _,fun t ht t' ht' c hc1 hc2=>?_⟩
          rw[Ap0.mp ht'] at hc2;exact hfree c hc2 ((hc c).mpr (.inr ⟨t,ht,hc1⟩))
         ·rw[As0,hc c]
          constructor
          ·rintro ((h | ⟨t,ht,h⟩) | h)
           ·exact .inl h
           ·exact .inr ⟨t,by simp[ht],h⟩
           ·exact .inr ⟨⟨a,u,ways,s,x,y⟩,by simp,h⟩
          ·rintro (h | ⟨t,ht,h⟩)
           ·exact .inl (.inl h)
           ·rcases As0.mp ht with ht | ht
            ·exact .inl (.inr ⟨t,ht,h⟩)
            ·rw[Ap0.mp ht] at h;exact .inr h
       ·exact pn _ _ ⟨ts,T,tk,rooms,_,_,_,_,_,_,rfl,ho,hT.imp (by omega) fun _=>Iff.rfl,hc,hr1,hr2,by omega⟩
     ·exact pn _ _ ⟨ts,T,tk,rooms,_,_,_,_,_,_,rfl,ho,hT.imp (by omega) fun _=>Iff.rfl,hc,hr1,hr2,by omega⟩
    ·exact pn _ _ ⟨ts,T,tk,rooms,_,_,_,_,_,_,rfl,ho,hT.imp (by omega) fun _=>Iff.rfl,hc,hr1,hr2,by omega⟩
   ·obtain⟨ts,T,tk,rooms,y11,y12,y13,y14,y15,y16,er,ho,hT,hc,hr1,hr2,hst⟩:=hI
    subst er;rw[zg3,Aj0] at hst;simp! [yj6,zb5 zb4,zb5 zn7,zb5 zx6,wm4,zw0];exact hq wide high sh ts st'' ho (by omega)
end K30
end
section
namespace K30
open PySem PySem.Spec PyProof.Rows L2
noncomputable def dx (d:Int):Int:=if d=0 then 1 else if d=2 then -1 else 0
noncomputable def dy (d:Int):Int:=if d=1 then 1 else if d=3 then -1 else 0
noncomputable def Dir (d:Int):Prop:=0<=d/\d<4
theorem Dir.cases {d:Int} (h:Dir d):d=0\/d=1\/d=2\/d=3:=by obtain⟨h1,h2⟩:=h;omega
noncomputable def yo3:List D->Res Unit D:=dfn 2 2 zr3.1
theorem xl2 {p:zc0} {d:Int} {Q:D->Unit->Prop} {E:Exn->Unit->Prop} (hd:Dir d) (hq:Q (za6 (p.1+dx d,p.2+dy d)) ()):wpR (yo3 [za6 p,.int d]) Q E:=by
 refine zl1 rfl (by decide) ?_;unfold zr3;dsimp only;have l4:∀a b c e:Int,xp0 [.int a,.int b,.int c,.int e]=some (.lst [.int a,.int b,.int c,.int e]):=fun a b c e=>zw1 (by simp[D.immL,D.imm]) (by simp)
 rcases hd.cases with r | r | r | r<;>subst r<;>simp?! [zb1,za6,oIx,pt0,pt1,l4,at0,at1,at2,at3,zo2,zw2,zw0]<;>exact hq
noncomputable def wb4:List D->Res Unit D:=dfn 2 2 zw7.1
noncomputable def yb4 (ways:Str) (d:Int):Bool:=ways == "any"||ways == (if d % 2=0 then "row" else "column")
theorem wi0 {w h s d:Int} {ways:Str} {Q:D->Unit->Prop} {E:Exn->Unit->Prop} (hd:Dir d) (hq:Q (.bl (yb4 ways d)) ()):wpR (wb4 [kd w h ways s,.int d]) Q E:=by
 refine zl1 rfl (by decide) ?_;unfold zw7;dsimp only;have cm:(0:Int)<2:=by decide
 have i2:∀{d:Int},iOp (fun _ j=>0<j) (fun i j=>D.int (i % j)) (.int d) (.int 2)=some (.int (d % 2)):=fun {d}=>xs0 (C:=fun _ j=>0<j) cm
 simp?! [zb1,kd,oIx,at2,ye8,wm7,i2];by_cases hw:ways == ("any" : Str)
 ·simp?! [hw,zb1]
  have:yb4 ways d=true:=by simp[yb4,hw]
  rw[this] at hq;exact hq
 ·have hw':(ways == ("any" : Str))=false:=by simpa using hw
  simp?! [hw',zb1];have e:yb4 ways d=(ways == (if d % 2=0 then "row" else "column")):=by simp[yb4,hw']
  rw[e] at hq;rcases hd.cases with r | r | r | r<;>subst r<;>exact⟨.inl imm_bl,hq⟩
noncomputable def Tr.ahead (t:Tr) (d:Int):List zc0:=cov t.w t.h (t.x+dx d,t.y+dy d)
noncomputable def Tr.to (t:Tr) (d:Int):Tr:={ t with x:=t.x+dx d,y:=t.y+dy d }
noncomputable def okT (wide high:Int) (sh:List zc0) (t:Tr) (d:Int):Prop:=yb4 t.ways d=true/\∀c∈t.ahead d,c∉sh/\0<=c.1/\c.1<wide/\0<=c.2/\c.2<high
theorem yf8 (c:zc0):∀l:List zc0,inD (za6 c) (l.map za6)=some (decide (c∈l))
 | []=>by simp[inD]
 | a::l=>by
   show ((D.eqq (za6 a) (za6 c)).bind fun b=>(inD (za6 c) (l.map za6)).map fun x=>b||x)=_;rw[yf8 c l];have e:D.eqq (za6 a) (za6 c)=some (decide (a=c)):=by
    show (D.eqq (.int a.1) (.int c.1)).bind (fun x=>(D.eqL [.int a.2] [.int c.2]).map fun y=>x&&y)=_;rw[yy7];show (D.eqL [.int a.2] [.int c.2]).map (fun y=>(a.1 == c.1)&&y)=_;show ((D.eqq (.int a.2) (.int c.2)).bind (fun x=>(D.eqL [] []).map fun y=>x&&y)).map (fun y=>(a.1 == c.1)&&y)=_;rw[yy7];show some ((a.1 == c.1)&&((a.2 == c.2)&&true))=_;rw[Option.some.injEq,Bool.eq_iff_iff];simp[Prod.ext_iff]
   rw[e];simp only[Option.bind_some,Av0,Option.some.injEq];by_cases h:a=c
   ·subst h;simp
   ·have h':c≠a:=fun z=>h z.symm
    simp[h,h',Ah0]
theorem xp2 {neg:Bool} {c:zc0} {l:List zc0}:oIn neg (za6 c) (.tup (l.map za6))=some (.bl (if neg then !decide (c∈l) else decide (c∈l)))/\oIn neg (za6 c) (.lst (l.map za6))=some (.bl (if neg then !decide (c∈l) else decide (c∈l))):=by
 have hd:D.depL (l.map za6)<=30:=Be0 (zy7 yd2 l) (by decide);constructor
 ·show (if D.depL (l.map za6)<=30 then (inD (za6 c) (l.map za6)).map fun x=>D.bl (if neg then !x else x) else none)=_
  rw[if_pos hd,yf8];rfl
 ·show (if D.depL (l.map za6)<=30 then (inD (za6 c) (l.map za6)).map fun x=>D.bl (if neg then !x else x) else none)=_
  rw[if_pos hd,yf8];rfl
theorem xd7 {ts:List Tr} {m:Nat} {t:Tr} (h:ts[m]?=some t):oIx (.tup (ts.map Tr.kind)) (.int m)=some t.kind:=(xd2 (zn7 t) (by omega) (by rw[Bq0,Ai0,h];rfl)).2
theorem yg1 {ts:List Tr} {m:Nat} {t:Tr} (h:ts[m]?=some t):oIx (.tup (ts.map Tr.place)) (.int m)=some t.place:=(xd2 (zx6 t) (by omega) (by rw[Bq0,Ai0,h];rfl)).2
structure Cfg (wide high:Int) (sh:List zc0) (ts:List Tr):Prop where
 few:ts.length<=12
 sh:sh.length<=81
 wh:∀t∈ts,0<=t.w/\t.w<=9/\0<=t.h/\t.h<=9
end K30
end
section
namespace K30
open PySem PySem.Spec PyProof.Rows L2
noncomputable def xh2:List D->Res Unit D:=dfn 6 2 yh2.1
theorem xk6 {w h:Int} {ways:Str} {s:Int} {p:zc0} {Q:D->Unit->Prop} {E:Exn->Unit->Prop} (hw:w<=30) (hh:h<=30) (h0:0<=w) (h1:0<=h) (hq:Q (.lst ((cov w h p).map za6)) ()):wpR (xh2 [kd w h ways s,za6 p]) Q E:=by
 refine zl1 rfl (by decide) ?_;unfold yh2;dsimp only;simp_all!;simp! [za6];simp_all!;simp! [yx4];simp_all!;simp! [kd,oIx,at0,at1];rw[zg8 (by omega) h0];refine zj3 (fun i ρ st'=>∃x,ρ=[.bor (kd w h ways s),.bor (za6 p),.bor (.int p.1),.bor (.int p.2),.own (.lst (((List.range i).flatMap (yz7 h p)).map za6)),x]) 0 ⟨_,rfl⟩ (fun i d ρ st' hd hI P pn=>?_) fun ρ st' hI=>?_
 ·obtain⟨x,e⟩:=hI
  obtain⟨rfl,hi⟩:=zg7 hd;subst e;have him:∀i:Nat,D.immL (((List.range i).flatMap (yz7 h p)).map za6)=true:=fun i=>zb5 zb4 _
  refine⟨_,rfl,?_⟩;simp! [zj1,him,kd,oIx,at0,at1];rw[zg8 (by omega) h1];refine zk5 (fun d=>match d with | .int j=>za6 (p.1+(i:Int),p.2+j) | _=>.non) (fun ρ=>∃x,ρ=[x,.bor (.int p.1),.bor (.int (0+(i:Int))),.bor (.int p.2)]) ⟨_,rfl⟩ (fun d hd ρ hI124=>?_) (zo5 (by rw[zg3];omega)) ?_
  ·obtain⟨x,e⟩:=hI124
   subst e;obtain⟨j,hj⟩:=List.getElem?_of_mem hd;obtain⟨rfl,hj'⟩:=zg7 hj;refine⟨_,rfl,⟨_,rfl⟩,⟨rfl,rfl⟩,?_⟩;simp! [za6,zo2,zw2,zw0];simp
  ·have e:(zp0 0 h.toNat).map (fun d=>match d with | .int j=>za6 (p.1+(i:Int),p.2+j) | _=>D.non)=(yz7 h p i).map za6:=by
    unfold zp0 yz7;rw[Bz0,Bz0];refine List.map_congr_left fun j _=>?_
    simp[za6]
   rw[e];refine⟨_,xp3 (zb5 zb4 _) ?_,pn _ _ ⟨.bor (.int (0+(i:Int))),?_⟩⟩
   ·rw[Ab0,Ab0,List.length_flatMap]
    unfold yz7;simp only[Ab0,List.length_range,List.map_const',List.sum_replicate_nat];have:i*h.toNat<=29*30:=zz3 (by omega) (by omega);omega
   ·rw[List.range_succ,List.flatMap_append,Ba0]
    simp[za6,kd]
 ·obtain⟨x,e⟩:=hI
  subst e;rw[zg3,Aj0];have him:∀i:Nat,D.immL (((List.range i).flatMap (yz7 h p)).map za6)=true:=fun i=>zb5 zb4 _
  simp! [him];exact hq
theorem xm7 {α:Type} {P:List α->Prop} (nil:P []) (append_singleton:∀l a,P l->P (l++[a])) (l:List α):P l:=by
 have h:∀l:List α,P l.reverse:=fun l=>by
  induction l with
  | nil=>exact nil
  | cons a l ih=>rw[List.reverse_cons];exact append_singleton _ _ ih
 have:=h l.reverse;rwa [List.reverse_reverse] at this
noncomputable def yb2 (W:List (zc0×Int)) (c:zc0):Option Int:=(W.reverse.find? fun p=>decide (p.1=c)).map (·.2)
theorem xq4 {c:zc0}:yb2 [] c=none:=rfl
theorem yk0 {W:List (zc0×Int)} {c0 c:zc0} {v:Int}:yb2 (W++[(c0,v)]) c=if c0=c then some v else yb2 W c:=by
 unfold yb2;rw[List.reverse_append];show ((((c0,v)::W.reverse).find? fun p=>decide (p.1=c))).map (·.2)=_;rw[Cb0];by_cases h:c0=c
 ·simp[h]
 ·simp[h]
theorem yy2 {l:List zc0} {c:zc0} {v:Int}:yb2 (l.map fun q=>(q,v)) c=if c∈l then some v else none:=by
 induction l using xm7 with
 | nil=>rfl
 | append_singleton l a ih=>
   rw[Ba0];show yb2 ((l.map fun q=>(q,v))++[(a,v)]) c=_;rw[yk0,ih];by_cases h:a=c
   ·subst h;simp
   ·have h':c≠a:=fun z=>h z.symm
    simp[h,h']
theorem yu4 {k k':List Key} {v:D}:∀{ks vs:List D},ks.length=vs.length->zc9 k ks (List.zipWith (fun d u=>if zc8 d=some k' then v else u) ks vs)=if k=k' then (zc9 k ks vs).map fun _=>v else zc9 k ks vs
 | [],[],_=>by simp[zc9]
 | a::ks,b::vs,h=>by
   show zc9 k (a::ks) ((if zc8 a=some k' then v else b)::List.zipWith _ ks vs)=_;unfold zc9;by_cases e:zc8 a=some k
   ·rw[if_pos e,if_pos e,e]
    by_cases z:k=k'
    ·subst z;simp
    ·simp[z]
   ·rw[if_neg e,if_neg e];exact yu4 (by simpa using h)
 | [],_::_,h=>by cases h
 | _::_,[],h=>by cases h
theorem yk6 {k k':List Key} {v:D}:∀{ks vs:List D},ks.length=vs.length->zc9 k (ks++[ze8 k']) (vs++[v])=(zc9 k ks vs).or (if k'=k then some v else none)
 | [],[],_=>by
   show zc9 k [ze8 k'] [v]=_;unfold zc9;rw[zj0];by_cases e:k'=k
   ·simp[e,zc9]
   ·simp[e,zc9]
 | a::ks,b::vs,h=>by
   show zc9 k (a::(ks++[ze8 k'])) (b::(vs++[v]))=_;unfold zc9;by_cases e:zc8 a=some k
   ·rw[if_pos e,if_pos e];rfl
   ·rw[if_neg e,if_neg e];exact yk6 (by simpa using h)
 | [],_::_,h=>by cases h
 | _::_,[],h=>by cases h
set_option tactic.hygienic true in
theorem wc3 {k k':List Key} {v:D} {ks vs:List D} (h:ks.length=vs.length):zc9 k (zu7 k' v ks vs).1 (zu7 k' v ks vs).2=if k'=k then some v else zc9 k ks vs:=by
 unfold zu7;split
 ·rename_i hs
  rw[yu4 h];by_cases e:k'=k
  ·subst e
   obtain⟨d,hd⟩:=Option.isSome_iff_exists.mp hs;rw[hd];simp
  ·have e':k≠k':=fun z=>e z.symm
   simp[e,e']
 ·rename_i hs
  rw[yk6 h];by_cases e:k'=k
  ·subst e
   have hn:zc9 k' ks vs=none:=by simpa using hs
   rw[hn];simp
  ·simp[e]
noncomputable def ya0 (d:D) (W:List (zc0×Int)):Prop:=∃ks vs,d=.dct (.non::ks) vs/\D.immL vs=true/\ks.length=vs.length/\ks.length<=W.length/\∀c,zc9 (ck c) ks vs=(yb2 W c).map D.int
theorem ya0.nil:ya0 (.dct [.non] []) []:=⟨[],[],rfl,rfl,rfl,Ac0 _,fun c=>by simp[zc9,xq4]⟩
theorem ya0.put {ks vs:List D} {W:List (zc0×Int)} {c0:zc0} {v:Int} (h:ya0 (.dct (.non::ks) vs) W):ya0 (.dct (.non::(zu7 (ck c0) (.int v) ks vs).1) (zu7 (ck c0) (.int v) ks vs).2) (W++[(c0,v)]):=by
 obtain⟨ks',vs',e,h1,h2,h3,h4⟩:=h;cases e;refine⟨_,_,rfl,yf9 imm_int h1,(yd1 h2).1,by have:=(yd1 (k:=ck c0) (v:=.int v) h2).2;simp;omega,fun c=>?_⟩;rw[wc3 h2,yk0,h4 c];by_cases e:c0=c
 ·subst e;simp
 ·have e':ck c0≠ck c:=fun z=>e (xu2 z)
  simp[e,e']
theorem ya0.flat {d:D} {W:List (zc0×Int)} (h:ya0 d W):d.flat=true:=by
 obtain⟨ks,vs,rfl,h1,_⟩:=h;exact h1
end K30
end
section
namespace K30
open PySem PySem.Spec PyProof.Rows L2
noncomputable def wr (ts:List Tr):List (zc0×Int):=ts.zipIdx.flatMap fun p=>p.1.cells.map fun c=>(c,(p.2:Int))
theorem xk1 {ts:List Tr} {u:Tr}:wr (ts++[u])=wr ts++u.cells.map fun c=>(c,(ts.length:Int)):=by
 unfold wr;rw[List.zipIdx_append,List.flatMap_append];simp
noncomputable def xf2 (sh:List zc0) (ts:List Tr):List (zc0×Int):=(sh.map fun c=>(c,-1))++wr ts
noncomputable def yc8:List D->Res Unit D:=dfn 7 2 (yg0 xh2).1
theorem wo3 {wide high:Int} {sh:List zc0} {ts:List Tr}:oIx (zc7 wide high sh ts) (.int 2)=some (.tup (sh.map za6)):=by
 show im (some (D.tup (sh.map za6)))=_;simp[im,imm_tup,zb5 zb4 sh]
theorem hall3' {wide high:Int} {sh:List zc0} {ts:List Tr}:oIx (zc7 wide high sh ts) (.int 3)=some (.tup (ts.map Tr.kind)):=by
 show im (some (D.tup (ts.map Tr.kind)))=_;simp[im,imm_tup,zb5 zn7 ts]
theorem ws0 {ts:List Tr} (h:∀t∈ts,t.cells.length<=81):(wr ts).length<=81*ts.length:=by
 induction ts using xm7 with
 | nil=>simp[wr]
 | append_singleton ts u ih=>
   rw[xk1,Al0,Ab0,Al0];have h1:=ih fun t ht=>h t (by simp[ht])
   have h2:=h u (by simp);simp only[An0,Br0];omega
theorem xg0 {wide high:Int} {sh:List zc0} {ts:List Tr} {Q:D->Unit->Prop} {E:Exn->Unit->Prop} (hc:Cfg wide high sh ts) (hq:∀d,ya0 d (xf2 sh ts)->Q d ()):wpR (yc8 [zc7 wide high sh ts,zh0 ts]) Q E:=by
 refine zl1 rfl (by decide) ?_;unfold yg0;dsimp only;have h81:∀t∈ts,t.cells.length<=81:=fun t ht=>yh3 (hc.wh t ht).2.1 (hc.wh t ht).2.2.2
 have few:=hc.few;have shl:=hc.sh;simp_all!;simp!;simp_all!;simp! [wo3];refine zj3 (fun i ρ st'=>∃(d:D) (x3 x4 x5 x6:Sl),ρ=[Sl.bor (zc7 wide high sh ts),.bor (zh0 ts),.own d,x3,x4,x5,x6]/\ya0 d ((sh.take i).map fun c=>(c,-1))) 0 ⟨_,_,_,_,_,rfl,ya0.nil⟩ (fun i e ρ st' he hI P pn=>?_) fun ρ st' hI=>?_
 ·obtain⟨d,x3,x4,x5,x6,er,hd⟩:=hI
  rw[Ai0] at he;cases q:sh[i]? with
  | none=>rw[q] at he;cases he
  | some c=>
    rw[q] at he;cases he;subst er;rw[Aj0] at hd;obtain⟨ks,vs,rfl,k1,k2,k3,k4⟩:=id hd;rw[Ab0,Bc0] at k3;refine⟨_,rfl,?_⟩;simp! [zz8,k1,zf5];refine⟨ks,vs,rfl,yj8 (by omega),pn _ _ ⟨_,_,_,_,_,rfl,?_⟩⟩;rw[Aj0];have:=hd.put (c0:=c) (v:=-1);rwa [show (sh.take i).map (fun c=>(c,(-1:Int)))++[(c,-1)]=(sh.take (i+1)).map fun c=>(c,(-1:Int)) by rw[Bm0,q,Ba0];rfl] at this
 ·obtain⟨d,x3,x4,x5,x6,er,hd⟩:=hI
  subst er;rw[Aj0,Ab0,Bo0] at hd;simp!;simp_all!;have en:xp5 [.tup (ts.map Tr.kind)]=some (zk9 (ts.map Tr.kind)):=if_pos (zb5 zn7 ts);simp! [hall3',en];refine zj3 (fun i ρ st'=>∃(d:D) (x3 x4 x5 x6:Sl),ρ=[Sl.bor (zc7 wide high sh ts),.bor (zh0 ts),.own d,x3,x4,x5,x6]/\ya0 d (xf2 sh (ts.take i))) 0 ⟨_,_,_,_,_,rfl,by unfold xf2 wr;simpa using hd⟩ (fun i e ρ st' he hI P pn=>?_) fun ρ st' hI=>?_
  ·obtain⟨d,x3,x4,x5,x6,er,hd⟩:=hI
   obtain⟨kk,hk,rfl⟩:=zn3 he;rw[Ai0] at hk;cases q:ts[i]? with
   | none=>rw[q] at hk;cases hk
   | some t=>
     rw[q] at hk;cases hk;subst er;rw[Aj0] at hd;obtain⟨q1,q2,q3,q4⟩:=hc.wh t (Aw0 q);have hil:i<ts.length:=(Ae0.mp q).1;refine⟨_,rfl,?_⟩;simp! [zh0,yg1 q];refine xk6 (p:=(t.x,t.y)) (by omega) (by omega) q1 q3 ?_;have hcu:cov t.w t.h (t.x,t.y)=t.cells:=rfl;rw[hcu];simp!;refine zj3 (fun j ρ st'=>∃(d:D) (x3 x6:Sl),ρ=[Sl.bor (zc7 wide high sh ts),.bor (zh0 ts),.own d,x3,.bor (.int i),.bor t.kind,x6]/\ya0 d (xf2 sh (ts.take i)++(t.cells.take j).map fun c=>(c,(i:Int)))) 0 ⟨_,_,_,rfl,by simpa using hd⟩ (fun j e ρ st' he hI P2 pn2=>?_) fun ρ st' hI=>?_
     ·obtain⟨d,x3,x6,er,hd⟩:=hI
      rw[Ai0] at he;cases q5:t.cells[j]? with
      | none=>rw[q5] at he;cases he
      | some c=>
        rw[q5] at he;cases he;subst er;rw[Aj0] at hd;obtain⟨ks,vs,rfl,k1,k2,k3,k4⟩:=id hd;have w1:=ws0 (ts:=ts.take i) fun t ht=>h81 t (List.mem_of_mem_take ht)
        have w2:=h81 t (Aw0 q);have kl:ks.length<=3000:=by
         unfold xf2 at k3;rw[Al0,Al0,Ab0,Ab0,Bc0] at k3;rw[Bc0] at w1;omega
        refine⟨_,rfl,?_⟩;simp! [zz8,k1,zf5];refine⟨ks,vs,rfl,yj8 (by omega),pn2 _ _ ⟨_,_,_,rfl,?_⟩⟩;rw[Aj0];have:=hd.put (c0:=c) (v:=i);rwa [show xf2 sh (ts.take i)++(t.cells.take j).map (fun c=>(c,(i:Int)))++[(c,(i:Int))]=xf2 sh (ts.take i)++(t.cells.take (j+1)).map fun c=>(c,(i:Int)) by rw[Bm0,q5,Ba0,Aq0];rfl] at this
     ·obtain⟨d,x3,x6,er,hd⟩:=hI
      subst er;rw[Aj0,Ab0,Bo0] at hd;refine pn _ _ ⟨d,_,_,_,_,rfl,?_⟩;rw[Aj0];have e1:xf2 sh (ts.take (i+1))=xf2 sh (ts.take i)++t.cells.map fun c=>(c,(i:Int)):=by
       unfold xf2;rw[Bm0,q];show _++wr (ts.take i++[t])=_;rw[xk1,Bc0,Nat.min_eq_left (by omega),Aq0]
      rw[e1];exact hd
  ·obtain⟨d,x3,x4,x5,x6,er,hd⟩:=hI
   subst er;rw[Aj0,zj6,Ab0,Bo0] at hd;simp! [hd.flat];exact hq d hd
noncomputable def xb8:List D->Res Unit D:=dfn 2 2 xs5.1
theorem xw8 {ways:Str} {d:Int} {Q:D->Unit->Prop} {E:Exn->Unit->Prop} (hw:yo6 ways) (hd:Dir d) (hq:Q (.bl (yb4 ways d)) ()):wpR (xb8 [.str ways,.int d]) Q E:=by
 refine zl1 rfl (by decide) ?_;unfold xs5;dsimp only;have i2:∀{d:Int},iOp (fun _ j=>0<j) (fun i j=>D.int (i % j)) (.int d) (.int 2)=some (.int (d % 2)):=fun {d}=>xs0 (C:=fun _ j=>0<j) (by decide)
 rw  [zb1];simp! [ye8,zz2,i2];rcases hw with r | r | r | r<;>subst r
 ·rw  [zb1]
  simp! [ye8];exact hq
 ·rcases hd.cases with r | r | r | r<;>subst r<;>exact hq
 ·rw  [zb1]
  simp! [ye8,zz2,i2];rcases hd.cases with r | r | r | r<;>subst r<;>exact hq
 ·rw  [zb1]
  simp! [ye8];rcases hd.cases with r | r | r | r<;>subst r<;>exact hq
noncomputable def zu0:List D->Res Unit D:=dfn 4 2 zq8.1
theorem yi8 {p:zc0} {d:Int} {Q:D->Unit->Prop} {E:Exn->Unit->Prop} (hd:Dir d) (hq:Q (za6 (p.1+dx d,p.2+dy d)) ()):wpR (zu0 [za6 p,.int d]) Q E:=by
 refine zl1 rfl (by decide) ?_;unfold zq8;dsimp only;rw  [zb1];simp!;rcases hd.cases with r | r | r | r<;>subst r<;>refine⟨_,_,rfl,by decide,rfl,?_⟩<;>simp?! [za6,oIx,pt0,pt1,zo2,zw2,zw0]<;>exact hq
end K30
end
section
namespace K30
open PySem PySem.Spec PyProof.Rows L2
noncomputable def ya9 (wide high:Int) (c:zc0):Bool:=(decide (0<=c.1)&&decide (c.1<wide))&&(decide (0<=c.2)&&decide (c.2<high))
noncomputable def yc2:List D->Res Unit D:=dfn 3 3 yl4.1
theorem xf9 {w h:Int} {c:zc0} {Q:D->Unit->Prop} {E:Exn->Unit->Prop} (hq:Q (.bl (ya9 w h c)) ()):wpR (yc2 [.int w,.int h,za6 c]) Q E:=by
 refine zl1 rfl (by decide) ?_;unfold yl4;dsimp only;simp! [za6,oIx,pt0,pt1,zw2];unfold ya9 at hq;by_cases h1:0<=c.1<;>by_cases h2:c.1<w<;>by_cases h3:0<=c.2<;>by_cases h4:c.2<h<;>simp[h1,h2,h3,h4,D.imm] at hq ⊢<;>exact hq
theorem zz6 {w h:Int} {c:zc0}:ya9 w h c=true↔0<=c.1/\c.1<w/\0<=c.2/\c.2<h:=by
 simp[ya9];omega
theorem wb5 {ks vs:List D} {W:List (zc0×Int)} {c:zc0} {n:Int} (h4:∀c,zc9 (ck c) ks vs=(yb2 W c).map D.int):yx5 (.dct (.non::ks) vs) (za6 c) (.int n)=some (.int ((yb2 W c).getD n)):=by
 show im (some ((zc9 (ck c) ks vs).getD (.int n)))=_;rw[h4 c];cases yb2 W c<;>rfl
theorem wn6 {sh:List zc0} {c:zc0}:yb2 (xf2 sh []) c=if c∈sh then some (-1) else none:=by
 unfold xf2 wr;simp only[List.zipIdx_nil,List.flatMap_nil,Bj0];exact yy2
noncomputable def vc2:List D->Res Unit D:=dfn 9 5 (ym6 xb8 xh2 zu0 yc2).1
theorem wh6 {wide high:Int} {sh:List zc0} {d:Int} {t:Tr} {dd:D} {Q:D->Unit->Prop} {E:Exn->Unit->Prop} (wh:0<=t.w/\t.w<=9/\0<=t.h/\t.h<=9) (wy:yo6 t.ways) (hd:Dir d) (hh:ya0 dd (xf2 sh []))
 (hN:¬okT wide high sh t d->Q .non ()) (hL:okT wide high sh t d->Q (.lst []) ()):wpR (vc2 [zc7 wide high sh [t],zh0 [t],dd,.int 0,.int d]) Q E:=by
 refine zl1 rfl (by decide) ?_;unfold ym6;dsimp only;obtain⟨ks,vs,rfl,k1,k2,k3,k4⟩:=hh;obtain⟨q1,q2,q3,q4⟩:=wh;have kw:∀t:Tr,oIx t.kind (.int 2)=some (.str t.ways):=fun t=>rfl
 have h0:oIx (zc7 wide high sh [t]) (.int 0)=some (.int wide):=rfl;have h1:oIx (zc7 wide high sh [t]) (.int 1)=some (.int high):=rfl;have gk:oIx (.tup [t.kind]) (.int 0)=some t.kind:=xd7 (ts:=[t]) (m:=0) rfl;have gp:oIx (.tup [t.place]) (.int 0)=some t.place:=yg1 (ts:=[t]) (m:=0) rfl;have h3:oIx (zc7 wide high sh [t]) (.int 3)=some (.tup [t.kind]):=hall3';simp_all!;simp! [h3,gk];simp_all!;simp! [kw];refine xw8 wy hd ?_;by_cases hgo:yb4 t.ways d=true
 ·rw[hgo]
  simp!;simp_all!;simp! [yx4];rw  [zb1];have es:zh0 [t]=.tup [t.place]:=rfl;simp! [es,gp];refine yi8 (p:=(t.x,t.y)) hd ?_;refine xk6 (p:=((t.x,t.y).1+dx d,(t.x,t.y).2+dy d)) (by omega) (by omega) q1 q3 ?_;have ha:cov t.w t.h ((t.x,t.y).1+dx d,(t.x,t.y).2+dy d)=t.ahead d:=rfl;rw[ha];simp!;refine yv6 (fun i ρ st'=>∃(x7 x8:Sl),ρ=[Sl.bor (zc7 wide high sh [t]),.bor (.tup [t.place]),.bor (.dct (.non::ks) vs),.bor (.int 0),.bor (.int d),.bor t.kind,.own (.lst []),x7,x8]/\∀c∈(t.ahead d).take i,c∉sh/\0<=c.1/\c.1<wide/\0<=c.2/\c.2<high) 0 ⟨_,_,rfl,fun c hc=>absurd hc (by simp)⟩ (fun i e ρ st' he hI P pn pr=>?_) fun ρ st' hI=>?_
  ·obtain⟨x7,x8,er,hdone⟩:=hI
   rw[Ai0] at he;cases q:(t.ahead d)[i]? with
   | none=>rw[q] at he;cases he
   | some c=>
     rw[q] at he;cases he;subst er;rw[Aj0] at hdone pn;have hca:=Aw0 q;refine⟨_,rfl,?_⟩;have gh:yx5 (.dct (.non::ks) vs) (za6 c) (.int 0)=some (.int ((yb2 (xf2 sh []) c).getD 0)):=wb5 k4;rw[wn6] at gh;simp_all!;simp!;refine⟨ks,vs,rfl,?_⟩;simp! [gh];simp_all!;simp! [zz2];by_cases hsh:c∈sh
     ·rw[if_pos hsh]
      simp! [Option.getD_some,beq_self_eq_true];exact pr _ _ (hN fun ok=>(ok.2 c hca).1 hsh)
     ·rw[if_neg hsh]
      have v1:((Option.none:Option Int).getD 0 == -1)=false:=by decide
      rw[v1];simp! [h0,h1];refine xf9 ?_;by_cases hin:ya9 wide high c=true
      ·rw[hin]
       have hin':=zz6.mp hin;have v2:((Option.none:Option Int).getD 0 == 0)=true:=by decide
       simp! [zz2,v2];refine pn _ _ ⟨_,_,rfl,fun c' hc'=>?_⟩;rw[Bm0,q] at hc';rcases As0.mp hc' with h | h
       ·exact hdone c' h
       ·have h:c'=c:=by simpa using h
        subst h;exact⟨hsh,hin'⟩
      ·have hin2:ya9 wide high c=false:=by simpa using hin
       rw[hin2];simp!;exact pr _ _ (hN fun ok=>hin (zz6.mpr (ok.2 c hca).2))
  ·obtain⟨x7,x8,er,hdone⟩:=hI
   subst er;rw[Aj0,Ab0,Bo0] at hdone;simp!;exact hL ⟨hgo,hdone⟩
 ·have hgo2:yb4 t.ways d=false:=by simpa using hgo
  rw[hgo2];simp!;exact hN fun ok=>hgo ok.1
end K30
end
section
namespace K30
open PySem PySem.Spec PyProof.Rows L2
noncomputable def Tr.put (t:Tr) (c:zc0):Tr:={ t with x:=c.1,y:=c.2 }
noncomputable def nxt (c:zc0) (d:Int):zc0:=(c.1+dx d,c.2+dy d)
inductive Rch (wide high:Int) (sh:List zc0) (t:Tr) (p:zc0):zc0->Prop where
 | self:Rch wide high sh t p p
 | more {c:zc0} {d:Int}:Rch wide high sh t p c->Dir d->okT wide high sh (t.put c) d->Rch wide high sh t p (nxt c d)
theorem ww3 {wide high:Int} {sh:List zc0} {t:Tr} {c:zc0} {d:Int} (w1:1<=t.w) (h1:1<=t.h) (h:okT wide high sh (t.put c) d):nxt c d∈cov wide high (0,0):=by
 have hm:nxt c d∈(t.put c).ahead d:=xq0.mpr ⟨Int.le_refl _,by show c.1+dx d<c.1+dx d+t.w;omega,Int.le_refl _,by show c.2+dy d<c.2+dy d+t.h;omega⟩;obtain⟨_,a,b,e,f⟩:=h.2 _ hm;exact xq0.mpr ⟨a,by show (nxt c d).1<0+wide;omega,e,by show (nxt c d).2<0+high;omega⟩
theorem Rch.box {wide high:Int} {sh:List zc0} {t:Tr} {p q:zc0} (w1:1<=t.w) (h1:1<=t.h) (h:Rch wide high sh t p q):q∈p::cov wide high (0,0):=by
 cases h with
 | self=>simp
 | more _ _ ok=>exact Bp0 _ (ww3 w1 h1 ok)
theorem yr2 {α:Type} [DecidableEq α]:∀{l m:List α},l.Nodup->(∀x∈l,x∈m)->l.length<=m.length
 | [],_,_,_=>Ak0 _
 | a::l,m,nd,h=>by
   obtain⟨n1,n2⟩:=Bx0.mp nd;have ha:a∈m:=h a (by simp);have:=yr2 (l:=l) (m:=m.erase a) n2 fun x hx=>(List.mem_erase_of_ne (fun (e:x=a)=>n1 (by rw[<-e];exact hx))).mpr (h x (by simp[hx]))
   rw[List.length_erase_of_mem ha] at this;have hp:0<m.length:=List.length_pos_of_mem ha;rw[An0];omega
theorem zx3 {wide high:Int} {sh:List zc0} {t:Tr} {p:zc0} {L:List zc0} (w1:1<=t.w) (h1:1<=t.h) (hw:wide<=9) (hh:high<=9) (nd:L.Nodup) (hr:∀c∈L,Rch wide high sh t p c):L.length<=82:=by
 have h:=yr2 nd fun c hc=>(hr c hc).box w1 h1
 rw[An0] at h;have:=yh3 (p:=(0,0)) hw hh;omega
noncomputable def vb4 (wide high:Int) (sh:List zc0) (t:Tr) (p:zc0) (L:List zc0):Prop:=L.Nodup/\L.length<=82/\∀c,c∈L↔Rch wide high sh t p c
noncomputable def Cl (wide high:Int) (sh:List zc0) (t:Tr) (L:List zc0) (c:zc0):Prop:=∀d,Dir d->okT wide high sh (t.put c) d->nxt c d∈L
theorem Cl.mono {wide high:Int} {sh:List zc0} {t:Tr} {L M:List zc0} {c:zc0} (h:Cl wide high sh t L c) (s:∀x∈L,x∈M):Cl wide high sh t M c:=fun d hd ok=>s _ (h d hd ok)
theorem xs6 {wide high:Int} {sh:List zc0} {t:Tr} {p:zc0} {L:List zc0} (nd:L.Nodup) (hl:L.length<=82) (hp:p∈L) (hr:∀c∈L,Rch wide high sh t p c) (cl:∀c∈L,Cl wide high sh t L c):vb4 wide high sh t p L:=
 ⟨nd,hl,fun c=>⟨hr c,fun h=>by
  induction h with
  | self=>exact hp
  | more _ hd ok ih=>exact cl _ ih _ hd ok⟩⟩
noncomputable def tt (L:List zc0):List D:=L.map fun _=>D.bl true
noncomputable abbrev zm0 (L:List zc0):D:=.dct (.non::L.map za6) (tt L)
theorem xa8 (L:List zc0):D.immL (tt L)=true:=zb5 (fun _=>imm_bl) L
theorem zz5 {c:zc0}:∀L:List zc0,zc9 (ck c) (L.map za6) (tt L)=if c∈L then some (.bl true) else none
 | []=>rfl
 | a::L=>by
   show zc9 (ck c) (za6 a::L.map za6) (.bl true::tt L)=_;unfold zc9;rw[zf5,zz5 L];by_cases h:a=c
   ·subst h;simp
   ·have h1:¬some (ck a)=some (ck c):=fun z=>h (xu2 (Option.some.inj z))
    have h2:c≠a:=fun z=>h z.symm
    rw[if_neg h1];simp[h2]
theorem xc9 {neg:Bool} {c:zc0} {L:List zc0}:xh4 neg (za6 c) (zm0 L)=some (.bl (if neg then !decide (c∈L) else decide (c∈L))):=by
 show (zc8 (za6 c)).map (fun kk=>D.bl (if neg then !(zc9 kk (L.map za6) (tt L)).isSome else (zc9 kk (L.map za6) (tt L)).isSome))=_;rw[zf5];show some (D.bl (if neg then !(zc9 (ck c) (L.map za6) (tt L)).isSome else (zc9 (ck c) (L.map za6) (tt L)).isSome))=_;rw[zz5];by_cases h:c∈L<;>simp[h]
theorem ys3 {c:zc0} {L:List zc0} (h:c∉L):zu7 (ck c) (.bl true) (L.map za6) (tt L)=((L++[c]).map za6,tt (L++[c])):=by
 unfold zu7;rw[zz5,if_neg h];unfold tt;rw[Ba0,Ba0];rfl
theorem xi2 {W:List zc0} (h:W≠[]):∃(V:List zc0) (c:zc0),W=V++[c]:=⟨W.dropLast,W.getLast h,(List.dropLast_concat_getLast h).symm⟩
theorem xb6 {V:List zc0} {c:zc0}:((V++[c]).map za6).getLast?=some (za6 c)/\((V++[c]).map za6).dropLast=V.map za6:=by
 rw[Ba0];constructor
 ·exact List.getLast?_concat
 ·exact List.dropLast_concat
theorem xp4 {neg:Bool} {l:List D} (h:D.depL l<=29):oEq neg (.lst l) (.lst [])=some (.bl (if neg then !decide (l=[]) else decide (l=[]))):=by
 unfold oEq;rw[if_pos (by unfold D.dep;omega)];cases l<;>simp[D.eqq,D.eqL]
theorem xu4 (l:List zc0):D.depL (l.map za6)<=29:=Be0 (zy7 yd2 l) (by decide)
noncomputable def yb8:List D->Res Unit D:=dfn 1 1 zj4.1
theorem xf8 {wide high:Int} {sh:List zc0} {ts:List Tr} {Q:D->Unit->Prop} {E:Exn->Unit->Prop} (hq:Q (zc7 wide high sh []) ()):wpR (yb8 [zc7 wide high sh ts]) Q E:=by
 refine zl1 rfl (by decide) ?_;unfold zj4;dsimp only;have h0:oIx (zc7 wide high sh ts) (.int 0)=some (.int wide):=rfl;have h1:oIx (zc7 wide high sh ts) (.int 1)=some (.int high):=rfl;have t0:xc3 []=some (.tup []):=rfl;have tp:xc3 [.int wide,.int high,.tup (sh.map za6),.tup []]=some (zc7 wide high sh []):=ym4 (by simp only[D.immL,D.imm,zb5 zb4,Bool.and_self]) (by simp);simp! [h0,h1,wo3,t0,tp];exact⟨.inl (by simp only[zc7,D.imm,D.immL,zb5 zb4,Ce0,Bool.and_self]),hq⟩
noncomputable def muA (ρ:Rho):Nat:=match ρ[5]? with
 | some (Sl.own (D.dct ks _))=>(match ρ[6]? with
   | some (Sl.own (D.lst w))=>2*(90-ks.length)+w.length
   | _=>0)
 | _=>0
noncomputable def ym2:List D->Res Unit D:=dfn 10 3 (zo1 yc8 yb8 zu0 vc2).1
theorem xk7 {wide high:Int} {sh:List zc0} {ts:List Tr} {t:Tr} {p:zc0} {Q:D->Unit->Prop} {E:Exn->Unit->Prop} (wh:1<=t.w/\t.w<=9/\1<=t.h/\t.h<=9) (wy:yo6 t.ways) (hw:wide<=9) (hh:high<=9) (shl:sh.length<=81)
 (hq:∀L,vb4 wide high sh t p L->Q (.lst ((zl2 L).map prD)) ()):wpR (ym2 [zc7 wide high sh ts,t.kind,za6 p]) Q E:=by
 refine zl1 rfl (by decide) ?_;unfold zo1;dsimp only;obtain⟨w1,w9,h1,h9⟩:=wh;have g0':oIx (zc7 wide high sh ts) (.int 0)=some (.int wide):=rfl;have g1':oIx (zc7 wide high sh ts) (.int 1)=some (.int high):=rfl;have t0:xc3 []=some (.tup []):=rfl;have tk:xc3 [t.kind]=some (.tup [t.kind]):=rfl;have ci:D.immL (sh.map za6)=true:=zb5 zb4 sh;have tp:xc3 [.int wide,.int high,.tup (sh.map za6),.tup [t.kind]]=some (zc7 wide high sh [t]):=ym4 (by simp only[D.immL,D.imm,ci,zn7,Bool.and_self]) (by simp);have es:D.tup []=zh0 []:=rfl;have hf:(zc7 wide high sh [t]).flat=false:=rfl;have cb:Cfg wide high sh []:=⟨by simp,shl,fun t ht=>nomatch ht⟩;simp_all!;simp! [g0',g1',wo3,tk,tp,hf];simp_all!;simp!;with_reducible refine xf8 ?_
 simp! [t0];rewrite [es];refine xg0 cb fun dd hdd=>?_
 have fl:=hdd.flat;simp! [fl];simp_all!;simp! [yo9];refine⟨ck p,zf5 p,?_⟩;have kd1:D.dct [.non,ze8 (ck p)] [.bl true]=zm0 [p]:=rfl;have kf:∀L,(zm0 L).flat=true:=fun L=>xa8 L
 have ol:xp0 [za6 p]=some (.lst ([p].map za6)):=rfl;have lf:∀l:List zc0,(D.lst (l.map za6)).flat=true:=fun l=>zb5 zb4 l
 rewrite [kd1];simp! [kf];simp_all!;simp! [ol,lf];simp_all!;refine yo8 (fun ρ st=>∃(L W:List zc0) (x7 x8 x9:Sl),ρ=[Sl.bor (zc7 wide high sh ts),.bor t.kind,.bor (za6 p),.bor (zc7 wide high sh [t]),.own dd,.own (zm0 L),.own (.lst (W.map za6)),x7,x8,x9]/\L.Nodup/\p∈L/\(∀c∈L,Rch wide high sh t p c)/\(∀c∈W,c∈L)/\(∀c∈L,c∈W\/Cl wide high sh t L c)/\W.length<=L.length) (fun ρ _=>muA ρ)
  ⟨[p],[p],_,_,_,rfl,by simp,by simp,fun c hc=>by rw[Ap0.mp hc];exact .self,fun c hc=>hc,fun c hc=>.inl hc,Ac0 _⟩ ?_
 rintro ρ st ⟨L,W,x7,x8,x9,rfl,nd,hp,hr,hs,hcl,hWl⟩ P Z pn pr pz;have hl:=zx3 w1 h1 hw hh nd hr;have l0:xp0 []=some (.lst []):=rfl;simp! [l0,xp4 (xu4 W)];by_cases hW:W=[]
 ·have e0:decide (W.map za6=[])=true:=by simp[hW]
  rw[e0];simp!;refine pz _ ?_;subst hW;have fu:vb4 wide high sh t p L:=xs6 nd hl hp hr fun c hc=>(hcl c hc).resolve_left (by simp)
  have so:xo9 [zm0 L]=some (.lst ((zl2 L).map prD)):=by
   show ((zv8 (L.map prD)).bind fun ps=>if ps.length<128 then some (D.lst ((zl2 ps).map prD)) else none)=_;rw[ye2,Option.bind_some,if_pos (by omega)]
  simp! [so];exact⟨.inr (yn1 _),hq L fu⟩
 ·have e0:decide (W.map za6=[])=false:=by simp[hW]
  rw[e0];simp!;obtain⟨V,c,rfl⟩:=xi2 hW;have hcL:c∈L:=hs c (by simp);simp_all!;simp only[wh2];have ll:zj1 [Sl.bor (zc7 wide high sh ts),.bor t.kind,.bor (za6 p),.bor (zc7 wide high sh [t]),.own dd,.own (zm0 L),.own (.lst ((V++[c]).map za6)),x7,x8,x9] 6=some ((V++[c]).map za6):=by
   show (if D.immL ((V++[c]).map za6)=true then some ((V++[c]).map za6) else none)=_;rw[if_pos (zb5 zb4 _)]
  refine⟨_,_,_,ll,xb6.1,rfl,?_⟩;simp! [xb6.2];rw[zg8 (by decide) (by decide)];refine zj3 (fun j ρ st=>∃(M U:List zc0) (x8 x9:Sl),ρ=[Sl.bor (zc7 wide high sh ts),.bor t.kind,.bor (za6 p),.bor (zc7 wide high sh [t]),.own dd,.own (zm0 M),.own (.lst (U.map za6)),.bor (za6 c),x8,x9]/\M.Nodup/\p∈M/\(∀c∈M,Rch wide high sh t p c)/\(∀c∈U,c∈M)/\c∈M/\(∀q∈M,q=c\/q∈U\/Cl wide high sh t M q)/\(∀k:Nat,k<j->okT wide high sh (t.put c) (k:Int)->nxt c (k:Int)∈M)/\2*(90-M.length)+U.length<=2*(90-L.length)+V.length/\U.length<=M.length) 0
   ⟨L,V,_,_,rfl,nd,hp,hr,fun q hq=>hs q (by simp[hq]),hcL,fun q hq=>by
    rcases hcl q hq with h | h
    ·rcases As0.mp h with h | h
     ·exact .inr (.inl h)
     ·exact .inl (Ap0.mp h)
    ·exact .inr (.inr h),fun k hk=>absurd hk (Nat.not_lt_zero _),Ac0 _,by rw[Al0] at hWl;simp only[An0,Br0] at hWl;omega⟩ (fun j e ρ st he hI P2 pn2=>?_) fun ρ st hI=>?_
  ·obtain⟨M,U,x8,x9,er,nd2,hp2,hr2,hs2,hc2,hcl2,hk2,hm2,hul⟩:=hI
   obtain⟨rfl,hj⟩:=zg7 he;have hj4:j<4:=hj;subst er;rw[Aj0] at pn2 hk2;rw[Int.zero_add];have hd:Dir (j:Int):=⟨by omega,by omega⟩;have hl2:=zx3 w1 h1 hw hh nd2 hr2;refine⟨_,rfl,?_⟩;simp_all!;simp!;with_reducible refine yi8 (p:=c) hd ?_
   have ne:(c.1+dx (j:Int),c.2+dy (j:Int))=nxt c (j:Int):=rfl;rewrite [ne];have pf:∀q:zc0,(za6 q).flat=false:=fun _=>rfl
   simp! [pf,xc9];have keep:(nxt c (j:Int)∈M\/¬okT wide high sh (t.put c) (j:Int))->∀x8 x9,P2 (.nx [Sl.bor (zc7 wide high sh ts),.bor t.kind,.bor (za6 p),.bor (zc7 wide high sh [t]),.own dd,.own (zm0 M),.own (.lst (U.map za6)),.bor (za6 c),x8,x9]) st:=fun h x8 x9=>pn2 _ _ ⟨M,U,x8,x9,rfl,nd2,hp2,hr2,hs2,hc2,hcl2,fun k hk ok=>by
    by_cases e:k=j
    ·subst e
     rcases h with h | h
     ·exact h
     ·exact absurd ok h
    ·exact hk2 k (by omega) ok,hm2,hul⟩
   by_cases hin:nxt c (j:Int)∈M
   ·simp! [decide_eq_true hin]
    exact keep (.inl hin) _ _
   ·have st1:xc3 [za6 c]=some (zh0 [t.put c]):=rfl
    have ha:zc7 wide high sh [t]=zc7 wide high sh [t.put c]:=rfl;simp! [decide_eq_false hin,st1];rewrite [ha];refine wh6 (t:=t.put c) ⟨by show 0<=t.w;omega,w9,by show 0<=t.h;omega,h9⟩ wy hd hdd (fun nok=>?_) fun ok=>?_
    ·have i1:yo5 true .non .non=some (.bl false):=rfl
     simp! [i1];exact keep (.inr nok) _ _
    ·have i2:yo5 true (.lst []) .non=some (.bl true):=rfl
     simp! [i2];simp_all!;simp! [zz8,xa8];refine⟨_,_,rfl,ck (nxt c (j:Int)),zf5 _,yj8 (by rw[Ab0];omega),?_⟩;rewrite [ys3 hin];simp! [zj1,zb5 zb4];refine⟨_,ym5 (zb4 _) ?_,pn2 _ _ ⟨M++[nxt c (j:Int)],U++[nxt c (j:Int)],.bor (.int (j:Int)),.bor (za6 (nxt c (j:Int))),?_,?_,by simp[hp2],fun q hq=>?_,fun q hq=>?_,by simp[hc2],fun q hq=>?_,fun k hk ok'=>?_,?_,?_⟩⟩
     ·rw[Ab0];omega
     ·rw[<-ha];simp only[zm0,Ba0,Ao0,Ce0]
     ·exact List.nodup_append.mpr ⟨nd2,by simp,fun a ha b hb=>by rw[Ap0.mp hb];intro e;exact hin (e▸ha)⟩
     ·rcases As0.mp hq with h | h
      ·exact hr2 q h
      ·rw[Ap0.mp h];exact(hr2 c hc2).more hd ok
     ·rcases As0.mp hq with h | h
      ·exact Bk0 _ (hs2 q h)
      ·exact Ax0 _ h
     ·rcases As0.mp hq with h | h
      ·rcases hcl2 q h with e | e | e
       ·exact .inl e
       ·exact .inr (.inl (Bk0 _ e))
       ·exact .inr (.inr (e.mono fun x hx=>Bk0 _ hx))
      ·exact .inr (.inl (Ax0 _ h))
     ·by_cases e:k=j
      ·subst e;simp
      ·exact Bk0 _ (hk2 k (by omega) ok')
     ·rw[Al0,Al0]
      simp only[An0,Br0];omega
     ·rw[Al0,Al0];omega
  ·obtain⟨M,U,x8,x9,er,nd2,hp2,hr2,hs2,hc2,hcl2,hk2,hm2,hul⟩:=hI
   subst er;refine pn _ _ ⟨M,U,_,_,_,rfl,nd2,hp2,hr2,hs2,fun q hq=>?_,hul⟩ ?_
   ·rcases hcl2 q hq with e | e | e
    ·subst e
     refine .inr fun d hd ok=>?_
     have e:d=((d.toNat:Nat):Int):=by obtain⟨a,b⟩:=hd;omega
     rw[e] at ok ⊢;exact hk2 d.toNat (by obtain⟨a,b⟩:=hd;show d.toNat<0+4;omega) ok
    ·exact .inl e
    ·exact .inr e
   ·show 2*(90-(D.non::M.map za6).length)+(U.map za6).length<2*(90-(D.non::L.map za6).length)+((V++[c]).map za6).length
    have hl2:=zx3 w1 h1 hw hh nd2 hr2;rw[An0,An0,Ab0,Ab0,Ab0,Ab0,Al0];simp only[An0,Br0];omega
end K30
end
section
namespace K30
open PySem PySem.Spec PyProof.Rows L2
noncomputable def yo4 (wide high:Int) (sh:List zc0) (t:Tr) (p m:zc0):Prop:=Rch wide high sh t p m/\∀c,Rch wide high sh t p c->Ts.lxle m c
open Classical in
noncomputable def yj9 (wide high:Int) (sh:List zc0) (t:Tr):zc0:=if h:∃m,yo4 wide high sh t (t.x,t.y) m then choose h else (0,0)
theorem wa1 {wide high:Int} {sh:List zc0} {t:Tr} {m:zc0} (h:yo4 wide high sh t (t.x,t.y) m):yj9 wide high sh t=m:=by
 have he:∃m,yo4 wide high sh t (t.x,t.y) m:=⟨m,h⟩;have hs:=Classical.choose_spec he;unfold yj9;rw[dif_pos he];exact yf3 (hs.2 m h.1) (h.2 _ hs.1)
theorem yt2 {wide high:Int} {sh:List zc0} {t:Tr} {L:List zc0} (h:vb4 wide high sh t (t.x,t.y) L):(zl2 L).head?=some (yj9 wide high sh t):=by
 obtain⟨nd,_,hm⟩:=h;have hp:(t.x,t.y)∈L:=(hm _).mpr .self;cases q:zl2 L with
 | nil=>
   have:=(zm1 L).length_eq;rw[q] at this;exact absurd (List.length_pos_of_mem hp) (by rw[<-this];simp)
 | cons a l=>
   have up:=yb9 L;rw[q] at up;obtain⟨u1,_⟩:=Bv0.mp up;have me:∀c,c∈a::l↔Rch wide high sh t (t.x,t.y) c:=fun c=>by rw[<-q,(zm1 L).mem_iff];exact hm c
   have il:yo4 wide high sh t (t.x,t.y) a:=⟨(me a).mp (by simp),fun c hc=>by
    rcases Ah0.mp ((me c).mpr hc) with e | e
    ·subst e;unfold Ts.lxle;omega
    ·exact u1 c e⟩
   rw[wa1 il];rfl
structure wc9 (wide high:Int) (sh:List zc0) (ts:List Tr):Prop where
 few:ts.length<=12
 w:wide<=9
 h:high<=9
 sh:sh.length<=81
 wh:∀t∈ts,1<=t.w/\t.w<=9/\1<=t.h/\t.h<=9
 ways:∀t∈ts,yo6 t.ways
noncomputable def zv5 (wide high:Int) (sh:List zc0) (ts:List Tr):List D:=ts.map fun t=>za6 (yj9 wide high sh t)
theorem yc0 {wide high:Int} {sh:List zc0} {ts:List Tr}:D.immL (zv5 wide high sh ts)=true:=zb5 (fun _=>zb4 _) ts
theorem yp7 {wide high:Int} {sh:List zc0} {ts:List Tr} {i:Nat} {t:Tr} (h:ts[i]?=some t):zv5 wide high sh (ts.take (i+1))=zv5 wide high sh (ts.take i)++[za6 (yj9 wide high sh t)]:=by
 unfold zv5;rw[Bm0,h,Ba0];rfl
theorem xa7 {l:List D} (h:D.immL l=true):yj6 [.lst l]=some (.tup l):=if_pos h
noncomputable def xb2:List D->Res Unit D:=dfn 2 2 (yw3 ym2).1
theorem xw6 {wide high:Int} {sh:List zc0} {ts:List Tr} {Q:D->Unit->Prop} {E:Exn->Unit->Prop} (hc:wc9 wide high sh ts) (hq:Q (.tup (zv5 wide high sh ts)) ()):wpR (xb2 [zc7 wide high sh ts,zh0 ts]) Q E:=by
 refine zl1 rfl (by decide) ?_;unfold yw3;dsimp only;have few:=hc.few;have en:xp5 [.tup (ts.map Tr.kind)]=some (zk9 (ts.map Tr.kind)):=if_pos (zb5 zn7 ts);simp! [hall3',en];refine zx1 (fun n acc ρ st'=>acc=zv5 wide high sh (ts.take n)/\∃x y,ρ=[x,y,Sl.bor (zc7 wide high sh ts),.bor (zh0 ts)]) 0 ⟨rfl,_,_,rfl⟩ (fun i d acc ρ st' hd hI=>?_) fun acc ρ st' hI=>?_
 ·obtain⟨ea,x,y,er⟩:=hI
  obtain⟨kk,hk,rfl⟩:=zn3 hd;rw[Ai0] at hk;cases q:ts[i]? with
  | none=>rw[q] at hk;cases hk
  | some t=>
    rw[q] at hk;cases hk;subst er;rw[Aj0] at ea ⊢;have hil:i<ts.length:=(Ae0.mp q).1;refine⟨_,rfl,?_⟩;have gp:oIx (zh0 ts) (.int (i:Int))=some t.place:=yg1 q;simp! [gp];refine xk7 (p:=(t.x,t.y)) (hc.wh t (Aw0 q)) (hc.ways t (Aw0 q)) hc.w hc.h hc.sh fun L hL=>?_
    have hh:=yt2 hL;have ix:oIx (.lst ((zl2 L).map prD)) (.int 0)=some (za6 (yj9 wide high sh t)):=(xd2 (zb4 _) (by decide) (by
     show ((zl2 L).map prD)[0]?=_;rw[Ai0,<-List.head?_eq_getElem?,hh];rfl)).1
    simp! [ix];refine⟨zb4 _,?_,?_,_,_,rfl⟩
    ·rw[ea];unfold zv5;rw[Ab0,Bc0];exact lt_size (by omega)
    ·rw[ea,yp7 q]
 ·obtain⟨ea,_⟩:=hI
  have ln:(zk9 (ts.map Tr.kind)).length=ts.length:=by rw[zj6,Ab0]
  rw[ln,Aj0,Bo0] at ea;subst ea;simp! [xa7 yc0];exact⟨.inl yc0,hq⟩
end K30
end
section
namespace K30
open PySem PySem.Spec PyProof.Rows L2
noncomputable def ym9:List D->Res Unit D:=dfn 15 3 (zt5 yo3 zn9 wb4).1
noncomputable def muL (ρ:Rho):Nat:=match ρ[10]? with
 | some (Sl.bor (D.int a))=>200-a.toNat
 | _=>0
theorem yn2 {ps:List zc0} {n:Nat} {c:zc0} (h:ps[n]?=some c):oIx (.lst (ps.map za6)) (.int n)=some (za6 c):=(xd2 (zb4 c) (by omega) (by rw[Bq0,Ai0,h];rfl)).1
noncomputable def yi4 (wide high:Int) (sh:List zc0) (c:zc0):Bool:=ya9 wide high c&&!decide (c∈sh)
noncomputable def frD (wide high:Int) (sh:List zc0):D->D
 | .tup [.int x,.int y]=>.bl (yi4 wide high sh (x,y))
 | _=>.non
theorem wp0 (wide high:Int) (sh l:List zc0):(l.map za6).map (frD wide high sh)=l.map fun c=>.bl (yi4 wide high sh c):=by rw[Bz0];rfl
theorem wl9 {wide high:Int} {sh:List zc0} {t:Tr} {c:zc0} {d:Int}:okT wide high sh (t.put c) d↔yb4 t.ways d=true/\(cov t.w t.h (nxt c d)).all (yi4 wide high sh)=true:=by
 unfold okT;refine and_congr Iff.rfl ?_;rw[List.all_eq_true];refine forall_congr' fun q=>forall_congr' fun _=>?_
 unfold yi4;rw[Bool.and_eq_true,zz6,Bool.not_eq_true',decide_eq_false_iff_not];exact and_comm
theorem xl0 {wide high:Int} {sh:List zc0} {ts:List Tr} {n:Nat} {t:Tr} {p:zc0} {Q:D->Unit->Prop} {E:Exn->Unit->Prop} (hn:ts[n]?=some t) (wh:1<=t.w/\t.w<=9/\1<=t.h/\t.h<=9) (hw:wide<=9) (hh:high<=9) (shl:sh.length<=81)
 (hq:∀L,vb4 wide high sh t p L->Q (.lst (L.map za6)) ()):wpR (ym9 [zc7 wide high sh ts,.int n,za6 p]) Q E:=by
 refine zl1 rfl (by decide) ?_;unfold zt5;dsimp only;obtain⟨w1,w9,h1,h9⟩:=wh;have ki:D.immL (ts.map Tr.kind)=true:=zb5 zn7 ts;have ci:D.immL (sh.map za6)=true:=zb5 zb4 sh;simp_all!;simp! [zc7];simp_all!;simp!;refine zk5 yb1 (fun ρ=>∃x,ρ=[x]) ⟨_,rfl⟩ (fun d hd ρ hI125=>?_) (zo5 (by rw[Ab0];omega)) ?_
 ·obtain⟨x,e⟩:=hI125
  subst e;obtain⟨c,hc,rfl⟩:=Bl0.mp hd;refine⟨_,rfl,⟨_,rfl⟩,⟨rfl,rfl⟩,?_⟩;simp! [zw0,zb4,yb1]
 have od:xz7 [.lst ((sh.map za6).map yb1)]=some (.dct (.non::(zh1 (sh.map fun c=>(ck c,.bl true)) ([],[])).1) (zh1 (sh.map fun c=>(ck c,.bl true)) ([],[])).2):=by
  show (if ((sh.map za6).map yb1).length<sizeLine then (zs4 ((sh.map za6).map yb1)).map _ else none)=_;rw[if_pos (lt_size (by simp;omega)),yj3];rfl
 have hcd:=Holds.all (ps:=sh.map fun c=>(ck c,D.bl true)) (Holds.nil (n:=0)) (fun p hp=>by obtain⟨c,_,rfl⟩:=Bl0.mp hp;exact imm_bl);have hT:Holds (.dct (.non::(zh1 (sh.map fun c=>(ck c,.bl true)) ([],[])).1) (zh1 (sh.map fun c=>(ck c,.bl true)) ([],[])).2) sh.length (inT sh):=hcd.imp (by simp) fun k=>by
  simp only[false_or,Bl0,inT];constructor
  ·rintro ⟨p,⟨c,hc,rfl⟩,e⟩;exact⟨c,hc,e⟩
  ·rintro ⟨c,hc,e⟩;exact⟨_,⟨c,hc,rfl⟩,e⟩
 rw[od];generalize D.dct (.non::(zh1 (sh.map fun c=>(ck c,.bl true)) ([],[])).1) (zh1 (sh.map fun c=>(ck c,.bl true)) ([],[])).2=cd at hT;have fl:=hT.flat;have nin:∀c:zc0,xh4 true (za6 c) cd=some (.bl (!decide (c∈sh))):=fun c=>(hT.in_ (zf5 c) (b:=decide (c∈sh)) (by rw[decide_eq_true_eq,xr8])).2
 simp! [fl];have ol:xp0 [za6 p]=some (.lst ([p].map za6)):=rfl;have lf:∀l:List zc0,(D.lst (l.map za6)).flat=true:=fun l=>zb5 zb4 l
 have kf:∀L,(zm0 L).flat=true:=fun L=>xa8 L
 simp_all!;simp! [ol,lf];simp_all!;simp! [yo9];refine⟨ck p,zf5 p,?_⟩;have kd1:D.dct [.non,ze8 (ck p)] [.bl true]=zm0 [p]:=rfl;rewrite [kd1];simp! [kf];simp_all!;simp!;simp_all!;refine yo8 (fun ρ st=>∃(L:List zc0) (a:Nat) (x11 x12 x13 x14:Sl),ρ=[Sl.bor (zc7 wide high sh ts),.bor (.int n),.bor (za6 p),.bor (.int wide),.bor (.int high),.bor (.tup (sh.map za6)),.bor (.tup (ts.map Tr.kind)),.own cd,.own (.lst (L.map za6)),.own (zm0 L),.bor (.int a),x11,x12,x13,x14]/\L.Nodup/\p∈L/\(∀c∈L,Rch wide high sh t p c)/\a<=L.length/\∀i c,i<a->L[i]?=some c->Cl wide high sh t L c) (fun ρ _=>muL ρ)
  ⟨[p],0,_,_,_,_,rfl,by simp,by simp,fun c hc=>by rw[Ap0.mp hc];exact .self,by simp,fun i c hi=>absurd hi (Nat.not_lt_zero _)⟩ ?_
 rintro ρ st ⟨L,a,x11,x12,x13,x14,rfl,nd,hp,hr,hal,hcl⟩ P Z pn pr pz;have hl:=zx3 w1 h1 hw hh nd hr;have ln:xv9 [.lst (L.map za6)]=some (.int L.length):=by unfold xv9;simp
 simp! [ln,zw2];by_cases ha:(a:Int)<(L.length:Int)
 ·have haL:a<L.length:=by omega
  obtain⟨c,hca⟩:∃c,L[a]?=some c:=⟨_,Ag0 haL⟩;rw[decide_eq_true ha];simp!;refine zz1 (fun ρ st=>∃(N:List zc0) (x11 x12 x13 x14:Sl),ρ=[Sl.bor (zc7 wide high sh ts),.bor (.int n),.bor (za6 p),.bor (.int wide),.bor (.int high),.bor (.tup (sh.map za6)),.bor (.tup (ts.map Tr.kind)),.own cd,.own (.lst ((L++N).map za6)),.own (zm0 (L++N)),.bor (.int a),x11,x12,x13,x14]/\(L++N).Nodup/\(∀c∈L++N,Rch wide high sh t p c)/\Cl wide high sh t (L++N) c) (fun P1 pn1=>?_) fun ρ st hI=>?_
  ·simp!
   rw[zg8 (by decide) (by decide)];refine zj3 (fun j ρ st=>∃(N:List zc0) (x11 x12 x13 x14:Sl),ρ=[Sl.bor (zc7 wide high sh ts),.bor (.int n),.bor (za6 p),.bor (.int wide),.bor (.int high),.bor (.tup (sh.map za6)),.bor (.tup (ts.map Tr.kind)),.own cd,.own (.lst ((L++N).map za6)),.own (zm0 (L++N)),.bor (.int a),x11,x12,x13,x14]/\(L++N).Nodup/\(∀c∈L++N,Rch wide high sh t p c)/\∀k:Nat,k<j->okT wide high sh (t.put c) (k:Int)->nxt c (k:Int)∈L++N) 0 ⟨[],x11,x12,x13,x14,by rw[Bj0],by rw[Bj0];exact nd,by rw[Bj0];exact hr,fun k hk=>absurd hk (Nat.not_lt_zero _)⟩ (fun j e ρ st he hI P2 pn2=>?_) fun ρ st hI=>?_
   ·obtain⟨N,x11,x12,x13,x14,er,nd2,hr2,hk2⟩:=hI
    obtain⟨rfl,hj⟩:=zg7 he;have hj4:j<4:=hj;subst er;rw[Aj0] at pn2 hk2;rw[Int.zero_add];have hd:Dir (j:Int):=⟨by omega,by omega⟩;have hl2:=zx3 w1 h1 hw hh nd2 hr2;have gc:oIx (.lst ((L++N).map za6)) (.int (a:Int))=some (za6 c):=yn2 (by rw[Bw0 haL];exact hca);have gk:=xd7 hn;have pf:∀q:zc0,(za6 q).flat=false:=fun _=>rfl
    refine⟨_,rfl,?_⟩;simp_all!;simp! [gc];with_reducible refine xl2 (p:=c) hd ?_
    have ne:(c.1+dx (j:Int),c.2+dy (j:Int))=nxt c (j:Int):=rfl;rewrite [ne];simp! [pf];simp_all!;simp! [gk];refine zt6 (p:=nxt c (j:Int)) (by omega) (by omega) (by omega) (by omega) ?_;simp! [lf];have h81:(cov t.w t.h (nxt c (j:Int))).length<=81:=yh3 w9 h9;have okf:=wl9 (wide:=wide) (high:=high) (sh:=sh) (t:=t) (c:=c) (d:=(j:Int));generalize hcv:cov t.w t.h (nxt c (j:Int))=cv at h81 okf;simp_all!;simp!;refine zk5 (frD wide high sh) (fun ρ=>∃x y,ρ=[x,y,Sl.bor (.int wide),.bor (.int high),.bor cd]) ⟨_,_,rfl⟩ (fun e he ρ hI126=>?_) (zo5 (by rw[Ab0];omega)) ?_
    ·obtain⟨x',y',er⟩:=hI126
     subst er;obtain⟨q,hq',rfl⟩:=Bl0.mp he;refine⟨_,rfl,⟨_,_,rfl⟩,⟨rfl,rfl⟩,?_⟩;have oc:xc3 [.int q.1,.int q.2]=some (za6 q):=rfl;have e:frD wide high sh (za6 q)=.bl (yi4 wide high sh q):=rfl;simp! [zw2,oc,nin];rw[e];unfold yi4 ya9;by_cases g1:0<=q.1<;>by_cases g2:q.1<wide<;>by_cases g3:0<=q.2<;>by_cases g4:q.2<high<;>simp[g1,g2,g3,g4,D.imm,oc,nin]
    ·rw[wp0]
     have ea:(cv.map fun q=>yi4 wide high sh q).all id=cv.all (yi4 wide high sh):=by rw[List.all_map];rfl
     simp! [yj7,zr1,Av0,ea];have keep:(nxt c (j:Int)∈L++N\/¬okT wide high sh (t.put c) (j:Int))->∀x11 x12 x13 x14,P2 (.nx [Sl.bor (zc7 wide high sh ts),.bor (.int n),.bor (za6 p),.bor (.int wide),.bor (.int high),.bor (.tup (sh.map za6)),.bor (.tup (ts.map Tr.kind)),.own cd,.own (.lst ((L++N).map za6)),.own (zm0 (L++N)),.bor (.int a),x11,x12,x13,x14]) st:=fun h x11 x12 x13 x14=>pn2 _ _ ⟨N,x11,x12,x13,x14,rfl,nd2,hr2,fun k hk ok=>by
      by_cases e:k=j
      ·subst e
       rcases h with h | h
       ·exact h
       ·exact absurd ok h
      ·exact hk2 k (by omega) ok⟩
     by_cases hfr:cv.all (yi4 wide high sh)=true
     ·simp! [hfr,gk]
      refine wi0 (w:=t.w) (h:=t.h) (ways:=t.ways) (s:=t.s) hd ?_;by_cases hgo:yb4 t.ways (j:Int)=true
      ·have ok:okT wide high sh (t.put c) (j:Int):=okf.mpr ⟨hgo,hfr⟩
       simp! [hgo,xc9];by_cases hin:nxt c (j:Int)∈L++N
       ·simp! [decide_eq_true hin]
        exact keep (.inl hin) _ _ _ _
       ·simp! [decide_eq_false hin]
        simp_all!;simp! [zz8,xa8];refine⟨_,_,rfl,ck (nxt c (j:Int)),zf5 _,yj8 (by rw[Ab0];omega),?_⟩;rewrite [ys3 hin];simp! [zj1,zb5 zb4];refine⟨_,ym5 (zb4 _) (by rw[Ab0];omega),pn2 _ _ ⟨N++[nxt c (j:Int)],.bor (.int (j:Int)),.bor (za6 (nxt c (j:Int))),.own (.lst (cv.map za6)),.bor (.bl true),?_,?_,fun q hq=>?_,fun k hk ok'=>?_⟩⟩
        ·simp only[zm0,<-Aq0,Ba0,Ao0,Ce0]
        ·rw[<-Aq0]
         exact List.nodup_append.mpr ⟨nd2,by simp,fun a ha b hb=>by rw[Ap0.mp hb];intro e;exact hin (e▸ha)⟩
        ·rw[<-Aq0] at hq
         rcases As0.mp hq with h | h
         ·exact hr2 q h
         ·rw[Ap0.mp h];exact(hr c (Aw0 hca)).more hd ok
        ·rw[<-Aq0]
         by_cases e:k=j
         ·subst e;simp
         ·exact Bk0 _ (hk2 k (by omega) ok')
      ·have hgo2:yb4 t.ways (j:Int)=false:=by simpa using hgo
       simp! [hgo2];exact keep (.inr fun ok=>hgo (okf.mp ok).1) _ _ _ _
     ·have hfr2:cv.all (yi4 wide high sh)=false:=by simpa using hfr
      simp! [hfr2];exact keep (.inr fun ok=>hfr (okf.mp ok).2) _ _ _ _
   ·obtain⟨N,x11,x12,x13,x14,er,nd2,hr2,hk2⟩:=hI
    subst er;refine pn1 _ _ ⟨N,_,_,_,_,rfl,nd2,hr2,fun d hd ok=>?_⟩;have e:d=((d.toNat:Nat):Int):=by obtain⟨a,b⟩:=hd;omega
    rw[e] at ok ⊢;exact hk2 d.toNat (by obtain⟨a,b⟩:=hd;show d.toNat<0+4;omega) ok
  ·obtain⟨N,x11,x12,x13,x14,er,nd2,hr2,hc2⟩:=hI
   subst er;have ad:zo2 (.int (a:Int)) (.int 1)=some (.int (((a+1:Nat):Nat):Int)):=rfl;simp! [ad];refine pn _ _ ⟨L++N,a+1,_,_,_,_,rfl,nd2,Bk0 _ hp,hr2,by rw[Al0];omega,fun i q hi hq=>?_⟩ ?_
   ·by_cases e:i=a
    ·subst e
     rw[Bw0 haL,hca] at hq;cases hq;exact hc2
    ·rw[Bw0 (by omega)] at hq
     exact(hcl i q (by omega) hq).mono fun x hx=>Bk0 _ hx
   ·show 200-((a+1:Nat):Int).toNat<200-(a:Int).toNat
    omega
 ·rw[decide_eq_false ha]
  simp!;refine pz _ ?_;simp! [zb5 zb4];refine hq L (xs6 nd hl hp hr fun c hc=>?_);obtain⟨i,hi⟩:=List.getElem?_of_mem hc;exact hcl i c (by have:=(Ae0.mp hi).1;omega) hi
end K30
end
section
namespace K30
open PySem PySem.Spec PyProof.Rows L2
noncomputable def ym7:List D->Res Unit D:=dfn 2 2 (zt4 ym9).1
theorem xp9 {l:List zc0} {p:zc0} (h:(zl2 l).head?=some p):wm6 [.lst (l.map za6)]=some (za6 p):=by
 show (zv8 (l.map prD)).bind (fun ps=>((zl2 ps).head?).map prD)=_;rw[ye2,Option.bind_some,h];rfl
theorem xk9 {wide high:Int} {sh:List zc0} {ts:List Tr} {Q:D->Unit->Prop} {E:Exn->Unit->Prop} (hc:wc9 wide high sh ts) (hq:Q (.tup (zv5 wide high sh ts)) ()):wpR (ym7 [zc7 wide high sh ts,zh0 ts]) Q E:=by
 refine zl1 rfl (by decide) ?_;unfold zt4;dsimp only;have few:=hc.few;have en:xp5 [zh0 ts]=some (zk9 (ts.map Tr.place)):=if_pos (zb5 zx6 ts);simp! [en];refine zx1 (fun n acc ρ st'=>acc=zv5 wide high sh (ts.take n)/\∃x y,ρ=[x,y,Sl.bor (zc7 wide high sh ts)]) 0 ⟨rfl,_,_,rfl⟩ (fun i d acc ρ st' hd hI=>?_) fun acc ρ st' hI=>?_
 ·obtain⟨ea,x,y,er⟩:=hI
  obtain⟨kk,hk,rfl⟩:=zn3 hd;rw[Ai0] at hk;cases q:ts[i]? with
  | none=>rw[q] at hk;cases hk
  | some t=>
    rw[q] at hk;cases hk;subst er;rw[Aj0] at ea ⊢;have hil:i<ts.length:=(Ae0.mp q).1;refine⟨_,rfl,?_⟩;simp!;refine xl0 (p:=(t.x,t.y)) q (hc.wh t (Aw0 q)) hc.w hc.h hc.sh fun L hL=>?_
    simp! [xp9 (yt2 hL)];refine⟨zb4 _,?_,?_,_,_,rfl⟩
    ·rw[ea];unfold zv5;rw[Ab0,Bc0];exact lt_size (by omega)
    ·rw[ea,yp7 q]
 ·obtain⟨ea,_⟩:=hI
  have ln:(zk9 (ts.map Tr.place)).length=ts.length:=by rw[zj6,Ab0]
  rw[ln,Aj0,Bo0] at ea;subst ea;simp! [xa7 yc0];exact⟨.inl yc0,hq⟩
end K30
end
section
namespace K30
open PySem PySem.Spec PyProof.Rows L2
structure vi3 (ts:List Tr):Prop where
 few:ts.length<=12
 wh:∀t∈ts,1<=t.w/\t.w<=9/\1<=t.h/\t.h<=9
theorem wa5 {T:List zc0} {c:zc0} {k:List Key}:(inT T k\/ck c=k)↔inT (T++[c]) k:=by
 simp only[inT,As0,Ap0];constructor
 ·rintro (⟨c',h1,h2⟩ | h)
  ·exact⟨c',.inl h1,h2⟩
  ·exact⟨c,.inr rfl,h⟩
 ·rintro ⟨c',h1 | h1,h2⟩
  ·exact .inl ⟨c',h1,h2⟩
  ·subst h1;exact .inr h2
noncomputable def yc6:List D->Res Unit D:=dfn 10 2 (zr2 zn9).1
theorem yi6 {wide high:Int} {sh:List zc0} {ts:List Tr} {ps:List zc0} {Q:D->Unit->Prop} {E:Exn->Unit->Prop} (hc:vi3 ts) (hq:∀b,Q (.bl b) ()):wpR (yc6 [zc7 wide high sh ts,.lst (ps.map za6)]) Q E:=by
 refine zl1 rfl (by decide) ?_;unfold zr2;dsimp only;have few:=hc.few;simp_all!;simp! [zc7];simp_all!;simp!;rw  [zb1];simp! [wm3];refine yv6 (fun i ρ st'=>∃(d:D) (T:List zc0) (x7 x8 x9:Sl),ρ=[Sl.bor (zc7 wide high sh ts),.bor (.lst (ps.map za6)),.bor (.int wide),.bor (.int high),.bor (.tup (sh.map za6)),.bor (.tup (ts.map Tr.kind)),.own d,x7,x8,x9]/\Holds d (81*i) (inT T)) 0 ⟨_,[],_,_,_,rfl,Holds.nil.imp (Ac0 _) fun k=>by simp[inT]⟩ (fun i e ρ st' he hI P pn pr=>?_) fun ρ st' hI=>?_
 ·obtain⟨d,T,x7,x8,x9,er,hd⟩:=hI
  obtain⟨k,pl,hk,hp,rfl⟩:=ye4 he;rw[Ai0] at hk hp;cases q:ts[i]? with
  | none=>rw[q] at hk;cases hk
  | some t=>
    cases q2:ps[i]? with
    | none=>rw[q2] at hp;cases hp
    | some p=>
      rw[q] at hk;rw[q2] at hp;cases hk;cases hp;subst er;rw[Aj0] at hd;have hil:i<ts.length:=(Ae0.mp q).1;obtain⟨q1,q3,q4,q5⟩:=hc.wh t (Aw0 q);have h8:(cov t.w t.h p).length<=81:=yh3 q3 q5;refine⟨_,rfl,?_⟩;simp!;refine zt6 (p:=p) (by omega) (by omega) (by omega) (by omega) ?_;simp!;refine yv6 (fun j ρ st'=>∃(d:D) (T:List zc0) (x9:Sl),ρ=[Sl.bor (zc7 wide high sh ts),.bor (.lst (ps.map za6)),.bor (.int wide),.bor (.int high),.bor (.tup (sh.map za6)),.bor (.tup (ts.map Tr.kind)),.own d,.bor t.kind,.bor (za6 p),x9]/\Holds d (81*i+j) (inT T)) 0 ⟨_,_,_,rfl,hd⟩ (fun j e ρ st' he hI P2 pn2 pr2=>?_) fun ρ st' hI=>?_
      ·obtain⟨d,T,x9,er,hd⟩:=hI
       rw[Ai0] at he;cases q6:(cov t.w t.h p)[j]? with
       | none=>rw[q6] at he;cases he
       | some c=>
         rw[q6] at he;cases he;subst er;rw[Aj0] at hd;have hj:j<(cov t.w t.h p).length:=(Ae0.mp q6).1;have c0:oIx (za6 c) (.int 0)=some (.int c.1):=rfl;have c1:oIx (za6 c) (.int 1)=some (.int c.2):=rfl;have no:P2 (.rt (.bl false)) st':=pr2 _ _ (pr _ _ (hq false));have ic:oIn false (za6 c) (.tup (sh.map za6))=some (.bl (decide (c∈sh))):=(xp2 (neg:=false)).1;have hin:=(hd.in_ (zf5 c) (b:=decide (c∈T)) (by rw[decide_eq_true_eq,xr8])).1;refine⟨_,rfl,?_⟩;rw  [zb1];simp! [hin];by_cases hT:c∈T
         ·rw[decide_eq_true hT]
          simp!;exact no
         ·rw[decide_eq_false hT]
          simp! [ic];by_cases hsh:c∈sh
          ·rw[decide_eq_true hsh]
           simp!;exact no
          ·rw[decide_eq_false hsh]
           simp! [c0,c1,zw2];by_cases h1:0<=c.1<;>by_cases h2:c.1<wide<;>by_cases h3:0<=c.2<;>by_cases h4:c.2<high<;>simp[h1,h2,h3,h4,D.imm]<;>first | exact no | (obtain⟨ks,vs,rfl,k1,k2,k3,k4⟩:=id hd;exact⟨ks,vs,by simp?! [zz8,k1],ck c,zf5 c,yj8 (by omega),pn2 _ _ ⟨_,T++[c],_,rfl,(hd.put (k:=ck c) (v:=.bl true) imm_bl).imp (by omega) fun k=>wa5⟩⟩)
      ·obtain⟨d,T,x9,er,hd⟩:=hI
       subst er;rw[Aj0,Ab0] at hd;exact pn _ _ ⟨_,T,_,_,_,rfl,hd.imp (by omega) fun _=>Iff.rfl⟩
 ·obtain⟨d,T,x7,x8,x9,er,hd⟩:=hI
  subst er;simp!;exact hq true
end K30
end
section
namespace K30
open PySem PySem.Spec PyProof.Rows L2
theorem yq6 {ps:List zc0} {v:Int} (h0:0<=v) (h1:v<(ps.length:Nat)):∃(n:Nat) (c:zc0),v=(n:Int)/\ps[n]?=some c:=by
 have:v.toNat<ps.length:=by omega
 exact⟨v.toNat,ps[v.toNat],by omega,Ag0 this⟩
section
variable {S:Type} {Q:Fl->S->Prop} {E:Exn->S->Prop} {ρ:Rho} {st:S}
theorem xa4 {i:Nat} {fk:Fn S} {v:D} {l:List D} (h1:zj1 ρ i=some l) (h2:wpR (fk ρ st) (fun d st2=>∃j n,d=.int j/\ixN l.length j=some n/\v.imm=true/\Q (.nx (ρ.set i (.own (.lst (l.set n v))))) st2) E):wpR (yb3 S i fk v ρ st) Q E:=by
 unfold yb3;rw[h1];refine za3.mpr (za7 h2 (fun d st2 hI127=>?_) fun _ _ z=>z);obtain⟨j,n,e,e2,e3,q⟩:=hI127;subst e;show wpR (match ixN l.length j with | some n=>if v.imm=true then .ok (.nx (ρ.set i (.own (.lst (l.set n v))))) st2 else .bad | none=>.bad) Q E;rw[e2];show wpR (if v.imm=true then .ok (.nx (ρ.set i (.own (.lst (l.set n v))))) st2 else .bad) Q E;rw[if_pos e3];exact q
theorem xk5 {i:Nat} {fk fl fv:Fn S} (h:wpR (fv ρ st) (fun t st1=>∃a b,t=.tup [a,b]/\b.imm=true/\wpR (yb3 S i fk a ρ st1) (fun r st2=>∃ρ1,r=.nx ρ1/\wpR (yb3 S i fl b ρ1 st2) Q E) E) E):wpR (xm6 S i fk fl fv ρ st) Q E:=by
 unfold xm6;refine za3.mpr (za7 h (fun t st1 hI128=>?_) fun _ _ z=>z);obtain⟨a,b,e,e1,q⟩:=hI128;subst e;show wpR (if b.imm=true then _ else _) Q E;rw[if_pos e1];refine za3.mpr (za7 q (fun r st2 hI129=>?_) fun _ _ z=>z);obtain⟨ρ1,e,q⟩:=hI129;subst e;exact q
end
noncomputable def xc2:List D->Dr->Res Dr D:=wc1 8 3 (zk0 zu3 yc6).1
theorem xw9 {wide high:Int} {sh:List zc0} {ts:List Tr} {p0:List zc0} {st:Dr} {Q:D->Dr->Prop} {E:Exn->Dr->Prop} (hc:vi3 ts) (w1:1<=wide) (w9:wide<=9) (h1:1<=high) (h9:high<=9) (hl0:p0.length=ts.length) (hs:st.2<2 ^ 39)
 (hq:∀(ps:List zc0) st',ps.length=ts.length->st'.2<=st.2+30->Q (.tup (ps.map za6)) st'):wpR (xc2 [zc7 wide high sh ts,.tup (p0.map za6)] st) Q E:=by
 refine yl3 rfl (by decide) ?_;unfold zk0;dsimp only;have few:=hc.few;have h0:oIx (zc7 wide high sh ts) (.int 0)=some (.int wide):=rfl;have h1':oIx (zc7 wide high sh ts) (.int 1)=some (.int high):=rfl;have cd:∀ps:List zc0,D.depL (ps.map za6)<=29:=fun ps=>Be0 (zy7 yd2 ps) (by decide)
 simp_all!;simp! [xz6,zb5 zb4];simp_all!;simp!;refine zc6 (by decide) (by decide) (by omega) fun v1 st1 a1 b1 c1=>?_
 simp! [zo2,zw2];rw[zg8 (by omega) (by omega)];refine zj3 (fun i ρ st'=>∃(ps:List zc0) (s3 x4 x5 x6 x7:Sl),ρ=[Sl.hnd,.bor (zc7 wide high sh ts),.bor (.tup (p0.map za6)),s3,x4,x5,x6,x7]/\(s3=.own (.lst (ps.map za6))\/s3=.bor (.lst (ps.map za6)))/\ps.length=ts.length/\st'.2<=st1.2+6*i) 0 ⟨_,_,_,_,_,_,rfl,.inl rfl,hl0,by omega⟩ (fun i e ρ st' he hI P pn=>?_) fun ρ st' hI=>?_
 ·obtain⟨ps,s3,x4,x5,x6,x7,er,hs3,hl,ht⟩:=hI
  obtain⟨rfl,hi⟩:=zg7 he;subst er;rw[Aj0] at ht;refine⟨_,rfl,?_⟩;have keep:∀(st'':Dr) (x4 x5 x6 x7:Sl),st''.2<=st'.2+6->P (.nx [Sl.hnd,.bor (zc7 wide high sh ts),.bor (.tup (p0.map za6)),s3,x4,x5,x6,x7]) st'':=fun st'' x4 x5 x6 x7 g=>pn _ _ ⟨ps,s3,x4,x5,x6,x7,rfl,hs3,hl,by omega⟩
  have ix:∀{l:List zc0} {m:Nat},m<l.length->ixN (l.map za6).length (m:Int)=some m:=fun h=>by rw[Ab0];unfold ixN;rw[if_pos (by omega),if_pos (by omega),Bq0]
  have last:∀(ps':List zc0) (st'':Dr) (n m:Nat) (x4:Sl) (b:Bool),ps'.length=ps.length->st''.2<=st'.2+6->∃b',D.bl b=D.bl b'/\if b'=true then wpR (ve6 Dr [7] (xm5 Dr 3 (fVk Dr 7)) [Sl.hnd,.bor (zc7 wide high sh ts),.bor (.tup (p0.map za6)),s3,x4,.bor (.int (n:Int)),.bor (.int (m:Int)),.own (.lst (ps'.map za6))] st'') P E else P (.nx [Sl.hnd,.bor (zc7 wide high sh ts),.bor (.tup (p0.map za6)),s3,x4,.bor (.int (n:Int)),.bor (.int (m:Int)),.own (.lst (ps'.map za6))]) st'':=fun ps' st'' n m x4 b g1 g2=>by
   refine⟨b,rfl,?_⟩;cases b
   ·rw[if_neg Am0]
    exact keep st'' _ _ _ _ g2
   ·rw[if_pos rfl]
    simp! [wh1];exact pn _ _ ⟨ps',_,_,_,_,_,rfl,.inr rfl,by omega,by omega⟩
  rcases hs3 with rfl | rfl
  all_goals
   simp! [yx4,xp4 (cd ps)];by_cases hp0:ps=[]
   ·have e0:decide (ps.map za6=[])=true:=by simp[hp0]
    rw[e0];simp!;exact keep st' _ _ _ _ (by omega)
   ·have e0:decide (ps.map za6=[])=false:=by simp[hp0]
    have pos:0<ps.length:=List.length_pos_iff.mpr hp0;rw[e0];simp!;simp_all!;simp! [xv9,Ab0];refine zc6 (by omega) (by omega) (by omega) fun v2 st2 a2 b2 c2=>?_
    refine zc6 (by omega) (by omega) (by omega) fun v3 st3 a3 b3 c3=>?_
    obtain⟨n,c,rfl,hn⟩:=yq6 a2 b2;obtain⟨m,c',rfl,hm⟩:=yq6 a3 b3;have hnl:n<ps.length:=(Ae0.mp hn).1;have hml:m<ps.length:=(Ae0.mp hm).1;try simp?! [wp_ok]
    simp_all!;simp! [xz6,zb5 zb4];simp_all!;simp!;refine zc6 (by decide) (by decide) (by omega) fun v4 st4 a4 b4 c4=>?_
    simp! [zz2];by_cases hv:v4=0
    ·have e1:(v4 == 0)=true:=by rw[hv];rfl
     rw[e1];simp!;refine xk5 ?_;simp! [yn2 hm,yn2 hn,zw0,zb4];refine⟨_,_,rfl,zb4 _,xa4 (l:=ps.map za6) (by simp?! [zj1,zb5 zb4]) ?_⟩;simp! [zb4];refine⟨_,_,rfl,ix hnl,_,rfl,xa4 (l:=(ps.set n c').map za6) (by rw[<-List.map_set];simp?! [zj1,zb5 zb4]) ?_⟩;simp! [zb4];refine⟨_,_,rfl,ix (by rw[Bh0];exact hml),?_⟩;rw[<-List.map_set];simp!;with_reducible refine yi6 hc fun b=>?_
     exact last ((ps.set n c').set m c) st4 n m _ b (by rw[Bh0,Bh0]) (by omega)
    ·have e1:(v4 == 0)=false:=beq_eq_false_iff_ne.mpr hv
     rw[e1];simp! [h0];refine zc6 (by omega) (by omega) (by omega) fun u1 st5 a5 b5 c5=>?_
     simp! [h1'];refine zc6 (by omega) (by omega) (by omega) fun u2 st6 a6 b6 c6=>?_
     simp! [zw0,zj1,zb5 zb4];refine⟨_,_,rfl,ix hnl,?_⟩;have e5:(ps.map za6).set n (D.tup [.int u1,.int u2])=(ps.set n (u1,u2)).map za6:=(List.map_set (f:=za6) (l:=ps) (i:=n) (a:=(u1,u2))).symm;rw[e5];simp!;with_reducible refine yi6 hc fun b=>?_
     exact last (ps.set n (u1,u2)) st6 n m _ b (by rw[Bh0]) (by omega)
 ·obtain⟨ps,s3,x4,x5,x6,x7,er,hs3,hl,ht⟩:=hI
  subst er;rw[zg3,Aj0] at ht;rcases hs3 with r | r
  ·subst r
   simp! [yj6,zb5 zb4];exact hq ps st' hl (by omega)
  ·subst r
   simp! [yj6,zb5 zb4];exact hq ps st' hl (by omega)
end K30
end
section
namespace K30
open PySem PySem.Spec PyProof.Rows L2
noncomputable def yw4:Nat->List D->Res Unit D
 | 0=>vk3
 | n+1=>dfn 2 2 (zw4 (yw4 n)).1
theorem xk3:∀(n:Nat) {d:D} {Q:D->Unit->Prop} {E:Exn->Unit->Prop},d.dep<n->d.lw=true->Q (.bl true) ()->wpR (yw4 n [d,d]) Q E
 | 0,d,Q,E,h,_,_=>absurd h (Nat.not_lt_zero _)
 | n+1,d,Q,E,hd,hp,h=>by
   refine zl1 rfl (by decide) ?_;unfold zw4;dsimp only;have lall:∀{l:List D},(∀x∈l,x.dep<n/\x.lw=true)->l.length<=sizeLine->∀{Q:List D->Unit->Prop} {E:Exn->Unit->Prop},Q ((zx8 l l).map fun _=>.bl true) ()->
    wpR (yb6 Unit (gT 2 (gsCons (gN 0) (gsCons (gN 1) gsNil))) (wp1 Unit) (xs8 Unit (yw4 n) (aP Unit (cs (vr 0) (cs (vr 1) nl)))) (zx8 l l) [] [Sl.no,Sl.no] ()) Q E:=fun {l} hx hz {Q E} hQ=>by
    refine zk5 (fun _=>.bl true) (fun ρ=>∃x y,ρ=[x,y]) ⟨_,_,rfl⟩ (fun d hd ρ hI130=>?_) (by unfold zx8;rw[List.length_zipWith];omega) hQ;obtain⟨x,y,e⟩:=hI130;subst e;obtain⟨x,hx',rfl⟩:=xo2 hd;refine⟨_,rfl,⟨_,_,rfl⟩,⟨rfl,rfl⟩,?_⟩;simp?! [zb1];exact xk3 n (hx x hx').1 (hx x hx').2 (by first | exact rfl | exact⟨rfl,rfl⟩ | exact⟨rfl,rfl,rfl⟩)
   cases d with
   | bl b=>simp[D.lw] at hp
   | dct k v=>simp[D.lw] at hp
   | fl l=>simp[D.lw] at hp
   | non=>
     rw  [zb1];simp! [yo5,D.isNon];exact h
   | int i=>
     rw  [zb1];simp! [yo5,D.isNon,isI];rw  [zb1];simp! [yo5,D.isNon,isI];rw  [zb1];simp! [yo5,D.isNon,isI];rw  [zb1];simp! [yo5,D.isNon,isI];simp! [isI,oEq,D.dep,D.eqq,beq_self_eq_true,Av0,Ak0];exact h
   | str i=>
     rw  [zb1];simp! [yo5,D.isNon,isI];rw  [zb1];simp! [yo5,D.isNon,isI];rw  [zb1];simp! [yo5,D.isNon,isI];rw  [zb1];simp! [isI,oEq,D.dep,D.eqq,beq_self_eq_true,Av0,Ak0];exact h
   | tup l=>
     have hp':D.lwL l=true/\l.length<=sizeLine:=by simpa [D.lw] using hp
     have hx:∀x∈l,x.dep<n/\x.lw=true:=fun x hx=>⟨by have:=xt3 hx;unfold D.dep at hd;omega,yy0.mp hp'.1 x hx⟩
     rw  [zb1];simp! [yo5,D.isNon,isI];rw  [zb1];simp! [yo5,D.isNon,isI];rw  [zb1];simp! [yo5,D.isNon,isI];rw  [zb1];simp! [isI,oEq,D.dep,D.eqq,xv9,Ak0,Av0,beq_self_eq_true];rw  [zb1];simp! [isI,oEq,D.dep,D.eqq,xv9,Ak0,Av0,beq_self_eq_true];simp! [vc0];refine lall hx hp'.2 ?_;simp?! [yj7,xf1,Av0,zb1];rw[show ((zx8 l l).map fun _=>true).all id=true by simp];exact h
   | lst l=>
     have hp':D.lwL l=true/\l.length<=sizeLine:=by simpa [D.lw] using hp
     have hx:∀x∈l,x.dep<n/\x.lw=true:=fun x hx=>⟨by have:=xt3 hx;unfold D.dep at hd;omega,yy0.mp hp'.1 x hx⟩
     rw  [zb1];simp! [yo5,D.isNon,isI];rw  [zb1];simp! [yo5,D.isNon,isI];rw  [zb1];simp! [yo5,D.isNon,isI];rw  [zb1];simp! [isI,oEq,D.dep,D.eqq,xv9,Ak0,Av0,beq_self_eq_true];rw  [zb1];simp! [isI,oEq,D.dep,D.eqq,xv9,Ak0,Av0,beq_self_eq_true];simp! [vc0];refine lall hx hp'.2 ?_;simp?! [yj7,xf1,Av0,zb1];rw[show ((zx8 l l).map fun _=>true).all id=true by simp];exact h
end K30
end
section
namespace K30
open PySem PySem.Spec PyProof.Rows L2
theorem vj4 {wide high:Int} {sh:List zc0} {ts:List Tr} (ho:xf4 wide high sh ts):vi3 ts:=⟨ho.few,fun t ht=>by
 have to:=ho.tr t ht;have:=to.w1;have:=to.h1;have:=to.xw;have:=to.yh;have:=to.x0;have:=to.y0;have:=ho.w9;have:=ho.h9;exact⟨by omega,by omega,by omega,by omega⟩⟩
theorem vm1 {wide high:Int} {sh:List zc0} {ts:List Tr} (ho:xf4 wide high sh ts):wc9 wide high sh ts:=⟨ho.few,ho.w9,ho.h9,Be0 ho.sub.length_le (yh3 ho.w9 ho.h9),(vj4 ho).wh,fun t ht=>(ho.tr t ht).ways⟩
theorem xv2:∀{ts:List Tr} {ps:List zc0},ps.length=ts.length->∃ts':List Tr,ts'.length=ts.length/\ts'.map Tr.kind=ts.map Tr.kind/\ts'.map Tr.place=ps.map za6/\∀t'∈ts',∃t∈ts,t'.w=t.w/\t'.h=t.h/\t'.ways=t.ways
 | [],[],_=>⟨[],rfl,rfl,rfl,fun t' h=>absurd h (by simp)⟩
 | t::ts,c::ps,h=>by
   obtain⟨ts',h1,h2,h3,h4⟩:=xv2 (ts:=ts) (ps:=ps) (by simpa using h);refine⟨{ t with x:=c.1,y:=c.2 }::ts',by simp[h1],by rw[Ao0,Ao0,h2];rfl,by rw[Ao0,Ao0,h3];rfl,fun t' ht=>?_⟩;rcases Ah0.mp ht with e | e
   ·exact⟨t,by simp,by rw[e],by rw[e],by rw[e]⟩
   ·obtain⟨u,hu,z⟩:=h4 t' e
    exact⟨u,by simp[hu],z⟩
 | [],_::_,h=>by cases h
 | _::_,[],h=>by cases h
theorem wc9.like {wide high:Int} {sh:List zc0} {ts ts':List Tr} (h:wc9 wide high sh ts) (hl:ts'.length=ts.length) (hw:∀t'∈ts',∃t∈ts,t'.w=t.w/\t'.h=t.h/\t'.ways=t.ways):wc9 wide high sh ts':=⟨by rw[hl];exact h.few,h.w,h.h,h.sh,fun t ht=>by
 obtain⟨u,hu,e1,e2,_⟩:=hw t ht;rw[e1,e2];exact h.wh u hu,fun t ht=>by
 obtain⟨u,hu,_,_,e3⟩:=hw t ht;rw[e3];exact h.ways u hu⟩
structure Cs where
 wide:Int
 high:Int
 sh:List zc0
 ts:List Tr
noncomputable def Cs.data (c:Cs):D:=.tup [zc7 c.wide c.high c.sh c.ts,zh0 c.ts,.tup (zv5 c.wide c.high c.sh c.ts)]
theorem xg9 {wide high:Int} {sh:List zc0} {ts:List Tr} (h:ts.length<=12):(D.tup (zv5 wide high sh ts)).dep<3/\(D.tup (zv5 wide high sh ts)).lw=true:=by
 constructor
 ·have:D.depL (zv5 wide high sh ts)<=1:=zy7 (n:=1) (fun a=>yd2 _) ts
  unfold D.dep;omega
 ·refine wf0 (yy0.mpr fun d hd=>?_) ?_
  ·obtain⟨j,_,rfl⟩:=Bl0.mp hd
   exact wq5 _
  ·unfold zv5;rw[Ab0];omega
theorem ws5 (ns:List Int) (hn:ns.length<=63):wpR ((wn5 zu3 wb3 xc2 ym7 (yw4 3) xb2).1 (rhoL yr3.length) (zr0 ns,0)) (fun fl _=>fl=.rt (.bl true)) fun _ _=>False:=by
 unfold wn5;dsimp only;have rh:rhoL yr3.length=[Sl.no,.hnd,.no,.no,.no,.no,.no,.no]:=rfl;rw[rh,zb1];obtain⟨st0,hst0,h00⟩:∃st0:Dr,(zr0 ns,(0:Int))=st0/\st0.2=0:=⟨_,rfl,rfl⟩;rw[hst0];have pw:iOp vd0 (fun i j=>D.int (i ^ j.toNat)) (.int 10) (.int 9)=some (.int 1000000000):=rfl;simp! [yx4];simp_all!;simp!;refine zc6 (by decide) (by decide) (by omega) fun v1 st1 a1 b1 c1=>?_
 simp! [zo2,zw2];rw[zg8 (by omega) (by omega)];refine zj3 (fun i ρ st'=>∃(css:List Cs) (x3 x4 x5 x6 x7:Sl),ρ=[Sl.no,.hnd,.own (.lst (css.map Cs.data)),x3,x4,x5,x6,x7]/\(∀c∈css,wc9 c.wide c.high c.sh c.ts)/\css.length=2*i/\st'.2<=st1.2+700*i) 0 ⟨[],_,_,_,_,_,rfl,fun c h=>absurd h (by simp),rfl,by omega⟩ (fun i e ρ st' he hI P pn=>?_) fun ρ st' hI=>?_
 ·obtain⟨css,x3,x4,x5,x6,x7,er,hcs,hcl,hst⟩:=hI
  obtain⟨rfl,hi⟩:=zg7 he;subst er;rw[Aj0] at hst hcl;refine⟨_,rfl,?_⟩;simp_all!;simp! [pw];refine zc6 (by decide) (by decide) (by omega) fun v2 st2 a2 b2 c2=>?_
  simp! [zz2];refine wh9 (by omega) (by decide) (by decide) fun wide high sh ts st3 ho t3=>?_
  have hct:=vj4 ho;have hsc:=vm1 ho;have w1:=ho.w1;have w9:=ho.w9;have h1:=ho.h1;have h9:=ho.h9;have hp0:zh0 ts=.tup ((ts.map fun t=>(t.x,t.y)).map za6):=by unfold zh0;rw[Bz0];rfl
  simp!;rw[hp0];refine xw9 (ts:=ts) hct w1 w9 h1 h9 (by rw[Ab0]) (by omega) fun ps st5 hps t5=>?_
  rw[<-hp0];simp! [xz5];rw[if_pos (show 2<=sizeLine by decide)];simp!;obtain⟨ts2,l1,l2,l3,l4⟩:=xv2 (ts:=ts) hps;have es2:D.tup (ps.map za6)=zh0 ts2:=by unfold zh0;rw[l3]
  have eh2:zc7 wide high sh ts2=zc7 wide high sh ts:=by unfold zc7;rw[l2]
  refine zj3 (fun j ρ st'=>∃(cz:List Cs) (x6:Sl),ρ=[Sl.no,.hnd,.own (.lst (cz.map Cs.data)),.bor (.int (0+(i:Int))),.bor (zc7 wide high sh ts),.bor (zh0 ts),x6,x7]/\(∀c∈cz,wc9 c.wide c.high c.sh c.ts)/\cz.length=2*i+j/\st'=st5) 0 ⟨css,_,rfl,hcs,by omega,rfl⟩ (fun j d ρ st' hd hI P3 pn3=>?_) fun ρ st' hI=>?_
  ·obtain⟨cz,x6,er,hcz,hzl,rfl⟩:=hI
   obtain⟨tz,rfl,ehz,hcz2,hj⟩:∃tz,d=zh0 tz/\zc7 wide high sh tz=zc7 wide high sh ts/\wc9 wide high sh tz/\j<2:=by
    match j,hd with
    | 0,hd=>cases hd;exact⟨ts,rfl,rfl,hsc,by decide⟩
    | 1,hd=>cases hd;exact⟨ts2,es2,eh2,hsc.like l1 l4,by decide⟩
    | n+2,hd=>simp at hd
   subst er;rw[Aj0] at hzl;refine⟨_,rfl,xw7 (l:=cz.map Cs.data) rfl ?_⟩;simp!;rw[<-ehz];refine xk9 hcz2 ?_;simp! [xz5];rw[if_pos (show 3<=sizeLine by decide)];simp!;refine⟨lt_size (by rw[Ab0];omega),?_⟩;rw[ehz];refine pn3 _ _ ⟨cz++[⟨wide,high,sh,tz⟩],.bor (zh0 tz),?_,fun c hc=>?_,by rw[Al0];simp;omega,rfl⟩
   ·rw[Ba0,<-ehz]
    rfl
   ·rcases As0.mp hc with h | h
    ·exact hcz c h
    ·rw[Ap0.mp h];exact hcz2
  ·obtain⟨cz,x6,er,hcz,hzl,rfl⟩:=hI
   subst er;have e2:[zh0 ts,D.tup (ps.map za6)].length=2:=rfl;rw[e2] at hzl;exact pn _ _ ⟨cz,_,_,_,_,_,rfl,hcz,by omega,by omega⟩
 ·obtain⟨css,x3,x4,x5,x6,x7,er,hcs,hcl,hst⟩:=hI
  subst er;rw[zg3,Aj0] at hcl;simp!;simp_all!;simp!;rw[zg8 (by decide) (by decide)];simp!;refine zj3 (fun i ρ st'=>∃(s2 x3 x4 x5 x6 x7:Sl),ρ=[Sl.no,.hnd,s2,x3,x4,x5,x6,x7]/\(s2=.own (.lst (css.map Cs.data))\/s2=.bor (.lst (css.map Cs.data)))) 0 ⟨_,_,_,_,_,_,rfl,.inl rfl⟩ (fun i e ρ st' he hI P pn=>?_) fun ρ st' hI=>?_
  ·obtain⟨s2,x3,x4,x5,x6,x7,er,hs2⟩:=hI
   obtain⟨rfl,hi⟩:=zg7 he;subst er;refine⟨_,rfl,?_⟩;have fz:∀x3 x4 x5 x6 x7:Sl,frz [2] [Sl.no,.hnd,s2,x3,x4,x5,x6,x7]=[Sl.no,.hnd,.bor (.lst (css.map Cs.data)),x3,x4,x5,x6,x7]:=fun x3 x4 x5 x6 x7=>by rcases hs2 with r | r<;>rw[r]<;>rfl
   rw[wp_sFor];simp only[List.set];rw[fz];simp!;refine zj3 (fun j ρ st'=>∃(x4 x5 x7:Sl),ρ=[Sl.no,.hnd,.bor (.lst (css.map Cs.data)),.bor (.int (0+(i:Int))),x4,x5,x6,x7]) 0 ⟨_,_,_,rfl⟩ (fun j d ρ st' hd hI P2 pn2=>?_) fun ρ st' hI=>?_
   ·obtain⟨x4,x5,x7,er⟩:=hI
    rw[Ai0] at hd;cases q:css[j]? with
    | none=>rw[q] at hd;cases hd
    | some c=>
      rw[q] at hd;cases hd;subst er;have hcc:=hcs c (Aw0 q);obtain⟨sm1,sm2⟩:=xg9 (wide:=c.wide) (high:=c.high) (sh:=c.sh) hcc.few;refine⟨_,rfl,?_⟩;simp!;with_reducible refine xw6 hcc ?_
      simp!;with_reducible refine xk3 3 sm1 sm2 ?_
      simp!;exact pn2 _ _ ⟨_,_,_,rfl⟩
   ·obtain⟨x4,x5,x7,er⟩:=hI
    subst er;exact pn _ _ ⟨_,_,_,_,_,_,rfl,.inr rfl⟩
  ·obtain⟨s2,x3,x4,x5,x6,x7,er,hs2⟩:=hI
   subst er;simp!
end K30
end
section
set_option maxHeartbeats 0
namespace K30
open PySem PySem.Spec PyProof.Rows L2
theorem ln1 {α:Type} {us:List α} (h:us.length=1):∃a,us=[a]:=by
 match us,h with
 | [a],_=>exact⟨a,rfl⟩
theorem ln2 {α:Type} {us:List α} (h:us.length=2):∃a b,us=[a,b]:=by
 match us,h with
 | [a,b],_=>exact⟨a,b,rfl⟩
theorem ln3 {α:Type} {us:List α} (h:us.length=3):∃a b c,us=[a,b,c]:=by
 match us,h with
 | [a,b,c],_=>exact⟨a,b,c,rfl⟩
theorem ln4 {α:Type} {us:List α} (h:us.length=4):∃a b c d,us=[a,b,c,d]:=by
 match us,h with
 | [a,b,c,d],_=>exact⟨a,b,c,d,rfl⟩
theorem ln5 {α:Type} {us:List α} (h:us.length=5):∃a b c d e,us=[a,b,c,d,e]:=by
 match us,h with
 | [a,b,c,d,e],_=>exact⟨a,b,c,d,e,rfl⟩
theorem all_mk {l:PySem.W.OpenLaw} {w:World} {K:PySem.W.Frag} {h:Heap} {mg:Str->Option Value} {fa f_0 f_1 f_2 f_3 f_4 f_5 f_6 f_7 f_8 f_9 f_10 f_11 f_12 f_13 f_14 f_15 f_16 f_17 f_18 f_19 f_20 f_21 f_22 f_23:Addr} (X:K.In h) (G:h.Ns mainGlobals mg) (hfa:mg "law" = some (.ref fa))
 {od_0 an_0:Option Addr} {sl_0:Array (Option Value)} {oc_0 kV_0 dc_0 pm_0 cd_0 ct_0:Value}
 (a_0:PySem.W.nsIn K mainGlobals "_law_begin" = some (some (.ref f_0))) (l_0:K.lookup f_0=some ⟨oc_0,od_0,.func (PySem.W.fnOf "_law_begin" "_law_begin" (zd0 zi9) (zb2 zi9) (za1 zi9) .none kV_0 dc_0 pm_0 an_0 cd_0 ct_0),sl_0⟩) (c_0:PySem.W.codeIn K cd_0 "_law_begin" = true) (k_0:PySem.W.keepIn K (.ref f_0)=true)
 {od_1 an_1:Option Addr} {sl_1:Array (Option Value)} {oc_1 kV_1 dc_1 pm_1 cd_1 ct_1:Value}
 (a_1:PySem.W.nsIn K mainGlobals "_law_take" = some (some (.ref f_1))) (l_1:K.lookup f_1=some ⟨oc_1,od_1,.func (PySem.W.fnOf "_law_take" "_law_take" (zd0 zk6) (zb2 zk6) (za1 zk6) .none kV_1 dc_1 pm_1 an_1 cd_1 ct_1),sl_1⟩) (c_1:PySem.W.codeIn K cd_1 "_law_take" = true) (k_1:PySem.W.keepIn K (.ref f_1)=true)
 {od_2 an_2:Option Addr} {sl_2:Array (Option Value)} {oc_2 kV_2 dc_2 pm_2 cd_2 ct_2:Value}
 (a_2:PySem.W.nsIn K mainGlobals "within" = some (some (.ref f_2))) (l_2:K.lookup f_2=some ⟨oc_2,od_2,.func (PySem.W.fnOf "within" "within" (zd0 zn0) (zb2 zn0) (za1 zn0) .none kV_2 dc_2 pm_2 an_2 cd_2 ct_2),sl_2⟩) (c_2:PySem.W.codeIn K cd_2 "within" = true) (k_2:PySem.W.keepIn K (.ref f_2)=true)
 {od_3 an_3:Option Addr} {sl_3:Array (Option Value)} {oc_3 kV_3 dc_3 pm_3 cd_3 ct_3:Value}
 (a_3:PySem.W.nsIn K mainGlobals "covered" = some (some (.ref f_3))) (l_3:K.lookup f_3=some ⟨oc_3,od_3,.func (PySem.W.fnOf "covered" "covered" (zd0 zj5) (zb2 zj5) (za1 zj5) .none kV_3 dc_3 pm_3 an_3 cd_3 ct_3),sl_3⟩) (c_3:PySem.W.codeIn K cd_3 "covered" = true) (k_3:PySem.W.keepIn K (.ref f_3)=true)
 {od_4 an_4:Option Addr} {sl_4:Array (Option Value)} {oc_4 kV_4 dc_4 pm_4 cd_4 ct_4:Value}
 (a_4:PySem.W.nsIn K mainGlobals "holders" = some (some (.ref f_4))) (l_4:K.lookup f_4=some ⟨oc_4,od_4,.func (PySem.W.fnOf "holders" "holders" (zd0 zl3) (zb2 zl3) (za1 zl3) .none kV_4 dc_4 pm_4 an_4 cd_4 ct_4),sl_4⟩) (c_4:PySem.W.codeIn K cd_4 "holders" = true) (k_4:PySem.W.keepIn K (.ref f_4)=true)
 {od_5 an_5:Option Addr} {sl_5:Array (Option Value)} {oc_5 kV_5 dc_5 pm_5 cd_5 ct_5:Value}
 (a_5:PySem.W.nsIn K mainGlobals "goes" = some (some (.ref f_5))) (l_5:K.lookup f_5=some ⟨oc_5,od_5,.func (PySem.W.fnOf "goes" "goes" (zd0 ya1) (zb2 ya1) (za1 ya1) .none kV_5 dc_5 pm_5 an_5 cd_5 ct_5),sl_5⟩) (c_5:PySem.W.codeIn K cd_5 "goes" = true) (k_5:PySem.W.keepIn K (.ref f_5)=true)
 {od_6 an_6:Option Addr} {sl_6:Array (Option Value)} {oc_6 kV_6 dc_6 pm_6 cd_6 ct_6:Value}
 (a_6:PySem.W.nsIn K mainGlobals "one_further" = some (some (.ref f_6))) (l_6:K.lookup f_6=some ⟨oc_6,od_6,.func (PySem.W.fnOf "one_further" "one_further" (zd0 zf1) (zb2 zf1) (za1 zf1) .none kV_6 dc_6 pm_6 an_6 cd_6 ct_6),sl_6⟩) (c_6:PySem.W.codeIn K cd_6 "one_further" = true) (k_6:PySem.W.keepIn K (.ref f_6)=true)
 {od_7 an_7:Option Addr} {sl_7:Array (Option Value)} {oc_7 kV_7 dc_7 pm_7 cd_7 ct_7:Value}
 (a_7:PySem.W.nsIn K mainGlobals "met_by" = some (some (.ref f_7))) (l_7:K.lookup f_7=some ⟨oc_7,od_7,.func (PySem.W.fnOf "met_by" "met_by" (zd0 zn1) (zb2 zn1) (za1 zn1) .none kV_7 dc_7 pm_7 an_7 cd_7 ct_7),sl_7⟩) (c_7:PySem.W.codeIn K cd_7 "met_by" = true) (k_7:PySem.W.keepIn K (.ref f_7)=true)
 {od_8 an_8:Option Addr} {sl_8:Array (Option Value)} {oc_8 kV_8 dc_8 pm_8 cd_8 ct_8:Value}
 (a_8:PySem.W.nsIn K mainGlobals "without_trolleys" = some (some (.ref f_8))) (l_8:K.lookup f_8=some ⟨oc_8,od_8,.func (PySem.W.fnOf "without_trolleys" "without_trolleys" (zd0 zc4) (zb2 zc4) (za1 zc4) .none kV_8 dc_8 pm_8 an_8 cd_8 ct_8),sl_8⟩) (c_8:PySem.W.codeIn K cd_8 "without_trolleys" = true) (k_8:PySem.W.keepIn K (.ref f_8)=true)
 {od_9 an_9:Option Addr} {sl_9:Array (Option Value)} {oc_9 kV_9 dc_9 pm_9 cd_9 ct_9:Value}
 (a_9:PySem.W.nsIn K mainGlobals "places_alone" = some (some (.ref f_9))) (l_9:K.lookup f_9=some ⟨oc_9,od_9,.func (PySem.W.fnOf "places_alone" "places_alone" (zd0 ze5) (zb2 ze5) (za1 ze5) .none kV_9 dc_9 pm_9 an_9 cd_9 ct_9),sl_9⟩) (c_9:PySem.W.codeIn K cd_9 "places_alone" = true) (k_9:PySem.W.keepIn K (.ref f_9)=true)
 {od_10 an_10:Option Addr} {sl_10:Array (Option Value)} {oc_10 kV_10 dc_10 pm_10 cd_10 ct_10:Value}
 (a_10:PySem.W.nsIn K mainGlobals "sides" = some (some (.ref f_10))) (l_10:K.lookup f_10=some ⟨oc_10,od_10,.func (PySem.W.fnOf "sides" "sides" (zd0 zq5) (zb2 zq5) (za1 zq5) .none kV_10 dc_10 pm_10 an_10 cd_10 ct_10),sl_10⟩) (c_10:PySem.W.codeIn K cd_10 "sides" = true) (k_10:PySem.W.keepIn K (.ref f_10)=true)
 {od_11 an_11:Option Addr} {sl_11:Array (Option Value)} {oc_11 kV_11 dc_11 pm_11 cd_11 ct_11:Value}
 (a_11:PySem.W.nsIn K mainGlobals "_law_covered" = some (some (.ref f_11))) (l_11:K.lookup f_11=some ⟨oc_11,od_11,.func (PySem.W.fnOf "_law_covered" "_law_covered" (zd0 zd7) (zb2 zd7) (za1 zd7) .none kV_11 dc_11 pm_11 an_11 cd_11 ct_11),sl_11⟩) (c_11:PySem.W.codeIn K cd_11 "_law_covered" = true) (k_11:PySem.W.keepIn K (.ref f_11)=true)
 {od_12 an_12:Option Addr} {sl_12:Array (Option Value)} {oc_12 kV_12 dc_12 pm_12 cd_12 ct_12:Value}
 (a_12:PySem.W.nsIn K mainGlobals "_law_room_of" = some (some (.ref f_12))) (l_12:K.lookup f_12=some ⟨oc_12,od_12,.func (PySem.W.fnOf "_law_room_of" "_law_room_of" (zd0 ze6) (zb2 ze6) (za1 ze6) .none kV_12 dc_12 pm_12 an_12 cd_12 ct_12),sl_12⟩) (c_12:PySem.W.codeIn K cd_12 "_law_room_of" = true) (k_12:PySem.W.keepIn K (.ref f_12)=true)
 {od_13 an_13:Option Addr} {sl_13:Array (Option Value)} {oc_13 kV_13 dc_13 pm_13 cd_13 ct_13:Value}
 (a_13:PySem.W.nsIn K mainGlobals "_law_sized" = some (some (.ref f_13))) (l_13:K.lookup f_13=some ⟨oc_13,od_13,.func (PySem.W.fnOf "_law_sized" "_law_sized" (zd0 zg1) (zb2 zg1) (za1 zg1) .none kV_13 dc_13 pm_13 an_13 cd_13 ct_13),sl_13⟩) (c_13:PySem.W.codeIn K cd_13 "_law_sized" = true) (k_13:PySem.W.keepIn K (.ref f_13)=true)
 {od_14 an_14:Option Addr} {sl_14:Array (Option Value)} {oc_14 kV_14 dc_14 pm_14 cd_14 ct_14:Value}
 (a_14:PySem.W.nsIn K mainGlobals "_law_kind" = some (some (.ref f_14))) (l_14:K.lookup f_14=some ⟨oc_14,od_14,.func (PySem.W.fnOf "_law_kind" "_law_kind" (zd0 zh6) (zb2 zh6) (za1 zh6) .none kV_14 dc_14 pm_14 an_14 cd_14 ct_14),sl_14⟩) (c_14:PySem.W.codeIn K cd_14 "_law_kind" = true) (k_14:PySem.W.keepIn K (.ref f_14)=true)
 {od_15 an_15:Option Addr} {sl_15:Array (Option Value)} {oc_15 kV_15 dc_15 pm_15 cd_15 ct_15:Value}
 (a_15:PySem.W.nsIn K mainGlobals "_law_hall" = some (some (.ref f_15))) (l_15:K.lookup f_15=some ⟨oc_15,od_15,.func (PySem.W.fnOf "_law_hall" "_law_hall" (zd0 ze9) (zb2 ze9) (za1 ze9) .none kV_15 dc_15 pm_15 an_15 cd_15 ct_15),sl_15⟩) (c_15:PySem.W.codeIn K cd_15 "_law_hall" = true) (k_15:PySem.W.keepIn K (.ref f_15)=true)
 {od_16 an_16:Option Addr} {sl_16:Array (Option Value)} {oc_16 kV_16 dc_16 pm_16 cd_16 ct_16:Value}
 (a_16:PySem.W.nsIn K mainGlobals "_law_behind" = some (some (.ref f_16))) (l_16:K.lookup f_16=some ⟨oc_16,od_16,.func (PySem.W.fnOf "_law_behind" "_law_behind" (zd0 zf4) (zb2 zf4) (za1 zf4) .none kV_16 dc_16 pm_16 an_16 cd_16 ct_16),sl_16⟩) (c_16:PySem.W.codeIn K cd_16 "_law_behind" = true) (k_16:PySem.W.keepIn K (.ref f_16)=true)
 {od_17 an_17:Option Addr} {sl_17:Array (Option Value)} {oc_17 kV_17 dc_17 pm_17 cd_17 ct_17:Value}
 (a_17:PySem.W.nsIn K mainGlobals "_law_goes" = some (some (.ref f_17))) (l_17:K.lookup f_17=some ⟨oc_17,od_17,.func (PySem.W.fnOf "_law_goes" "_law_goes" (zd0 zh7) (zb2 zh7) (za1 zh7) .none kV_17 dc_17 pm_17 an_17 cd_17 ct_17),sl_17⟩) (c_17:PySem.W.codeIn K cd_17 "_law_goes" = true) (k_17:PySem.W.keepIn K (.ref f_17)=true)
 {od_18 an_18:Option Addr} {sl_18:Array (Option Value)} {oc_18 kV_18 dc_18 pm_18 cd_18 ct_18:Value}
 (a_18:PySem.W.nsIn K mainGlobals "_law_alone" = some (some (.ref f_18))) (l_18:K.lookup f_18=some ⟨oc_18,od_18,.func (PySem.W.fnOf "_law_alone" "_law_alone" (zd0 ze7) (zb2 ze7) (za1 ze7) .none kV_18 dc_18 pm_18 an_18 cd_18 ct_18),sl_18⟩) (c_18:PySem.W.codeIn K cd_18 "_law_alone" = true) (k_18:PySem.W.keepIn K (.ref f_18)=true)
 {od_19 an_19:Option Addr} {sl_19:Array (Option Value)} {oc_19 kV_19 dc_19 pm_19 cd_19 ct_19:Value}
 (a_19:PySem.W.nsIn K mainGlobals "_law_stands" = some (some (.ref f_19))) (l_19:K.lookup f_19=some ⟨oc_19,od_19,.func (PySem.W.fnOf "_law_stands" "_law_stands" (zd0 zf2) (zb2 zf2) (za1 zf2) .none kV_19 dc_19 pm_19 an_19 cd_19 ct_19),sl_19⟩) (c_19:PySem.W.codeIn K cd_19 "_law_stands" = true) (k_19:PySem.W.keepIn K (.ref f_19)=true)
 {od_20 an_20:Option Addr} {sl_20:Array (Option Value)} {oc_20 kV_20 dc_20 pm_20 cd_20 ct_20:Value}
 (a_20:PySem.W.nsIn K mainGlobals "_law_other_stand" = some (some (.ref f_20))) (l_20:K.lookup f_20=some ⟨oc_20,od_20,.func (PySem.W.fnOf "_law_other_stand" "_law_other_stand" (zd0 zc5) (zb2 zc5) (za1 zc5) .none kV_20 dc_20 pm_20 an_20 cd_20 ct_20),sl_20⟩) (c_20:PySem.W.codeIn K cd_20 "_law_other_stand" = true) (k_20:PySem.W.keepIn K (.ref f_20)=true)
 {od_21 an_21:Option Addr} {sl_21:Array (Option Value)} {oc_21 kV_21 dc_21 pm_21 cd_21 ct_21:Value}
 (a_21:PySem.W.nsIn K mainGlobals "_law_same" = some (some (.ref f_21))) (l_21:K.lookup f_21=some ⟨oc_21,od_21,.func (PySem.W.fnOf "_law_same" "_law_same" (zd0 zf7) (zb2 zf7) (za1 zf7) .none kV_21 dc_21 pm_21 an_21 cd_21 ct_21),sl_21⟩) (c_21:PySem.W.codeIn K cd_21 "_law_same" = true) (k_21:PySem.W.keepIn K (.ref f_21)=true)
 {od_22 an_22:Option Addr} {sl_22:Array (Option Value)} {oc_22 kV_22 dc_22 pm_22 cd_22 ct_22:Value}
 (a_22:PySem.W.nsIn K mainGlobals "_law_sides" = some (some (.ref f_22))) (l_22:K.lookup f_22=some ⟨oc_22,od_22,.func (PySem.W.fnOf "_law_sides" "_law_sides" (zd0 zf3) (zb2 zf3) (za1 zf3) .none kV_22 dc_22 pm_22 an_22 cd_22 ct_22),sl_22⟩) (c_22:PySem.W.codeIn K cd_22 "_law_sides" = true) (k_22:PySem.W.keepIn K (.ref f_22)=true)
 {od_23 an_23:Option Addr} {sl_23:Array (Option Value)} {oc_23 kV_23 dc_23 pm_23 cd_23 ct_23:Value}
 (a_23:PySem.W.nsIn K mainGlobals "law" = some (some (.ref f_23))) (l_23:K.lookup f_23=some ⟨oc_23,od_23,.func (PySem.W.fnOf "law" "law" (zd0 zv7) (zb2 zv7) (za1 zv7) .none kV_23 dc_23 pm_23 an_23 cd_23 ct_23),sl_23⟩) (c_23:PySem.W.codeIn K cd_23 "law" = true) (k_23:PySem.W.keepIn K (.ref f_23)=true)
 (z_len:PySem.W.nsIn K mainGlobals "len" = some none)
 (z_divmod:PySem.W.nsIn K mainGlobals "divmod" = some none)
 (z_list:PySem.W.nsIn K mainGlobals "list" = some none)
 (z_tuple:PySem.W.nsIn K mainGlobals "tuple" = some none)
 (z_int:PySem.W.nsIn K mainGlobals "int" = some none)
 (z_bool:PySem.W.nsIn K mainGlobals "bool" = some none)
 (z_str:PySem.W.nsIn K mainGlobals "str" = some none)
 (z_dict:PySem.W.nsIn K mainGlobals "dict" = some none)
 (z_isinstance:PySem.W.nsIn K mainGlobals "isinstance" = some none)
 (z_all:PySem.W.nsIn K mainGlobals "all" = some none)
 (z_any:PySem.W.nsIn K mainGlobals "any" = some none)
 (z_sum:PySem.W.nsIn K mainGlobals "sum" = some none)
 (z_zip:PySem.W.nsIn K mainGlobals "zip" = some none)
 (z_enumerate:PySem.W.nsIn K mainGlobals "enumerate" = some none)
 (z_range:PySem.W.nsIn K mainGlobals "range" = some none)
 (z_sorted:PySem.W.nsIn K mainGlobals "sorted" = some none)
 (z_min:PySem.W.nsIn K mainGlobals "min" = some none)
 (z_max:PySem.W.nsIn K mainGlobals "max" = some none)
 (z_abs:PySem.W.nsIn K mainGlobals "abs" = some none)
 (z_reversed:PySem.W.nsIn K mainGlobals "reversed" = some none)
 {t_WALL:Tok} (y_WALL:PySem.W.nsIn K mainGlobals "WALL" = some (some (.int (-1) t_WALL)))
 {a_STEPS b0_STEPS b1_STEPS b2_STEPS b3_STEPS:Addr} {od_STEPS od0_STEPS od1_STEPS od2_STEPS od3_STEPS:Option Addr} {sl_STEPS sl0_STEPS sl1_STEPS sl2_STEPS sl3_STEPS:Array (Option Value)} {n_STEPS n0_STEPS n1_STEPS n2_STEPS n3_STEPS:Nat} {t0_STEPS u0_STEPS t1_STEPS u1_STEPS t2_STEPS u2_STEPS t3_STEPS u3_STEPS:Tok}
 (y_STEPS:PySem.W.nsIn K mainGlobals "STEPS" = some (some (.ref a_STEPS))) (ya_STEPS:K.lookup a_STEPS=some ⟨.type "tuple",od_STEPS,.seq #[.ref b0_STEPS,.ref b1_STEPS,.ref b2_STEPS,.ref b3_STEPS] n_STEPS,sl_STEPS⟩)
 (y0_STEPS:K.lookup b0_STEPS=some ⟨.type "tuple",od0_STEPS,.seq #[.int (1) t0_STEPS,.int (0) u0_STEPS] n0_STEPS,sl0_STEPS⟩)
 (y1_STEPS:K.lookup b1_STEPS=some ⟨.type "tuple",od1_STEPS,.seq #[.int (0) t1_STEPS,.int (1) u1_STEPS] n1_STEPS,sl1_STEPS⟩)
 (y2_STEPS:K.lookup b2_STEPS=some ⟨.type "tuple",od2_STEPS,.seq #[.int (-1) t2_STEPS,.int (0) u2_STEPS] n2_STEPS,sl2_STEPS⟩)
 (y3_STEPS:K.lookup b3_STEPS=some ⟨.type "tuple",od3_STEPS,.seq #[.int (0) t3_STEPS,.int (-1) u3_STEPS] n3_STEPS,sl3_STEPS⟩)
 : ∃fd:FuncData,(∀(s:Shared) (v:Value),BindsTo s fd ⟨[v],[]⟩ [("_law_script",v)])/\∀base:Heap,K.In base->base.Ns mainGlobals mg->zp9 l.prog w K mg base CX0 5 fa fd ["_law_script"] (xx7 K):=by
 have e:=hfa.symm.trans (PySem.W.mg_of X G a_23);cases e;have hm:Bn mg:=⟨PySem.W.mg_none_of X G z_len,PySem.W.mg_none_of X G z_divmod,PySem.W.mg_none_of X G z_list,PySem.W.mg_none_of X G z_tuple,PySem.W.mg_none_of X G z_int,PySem.W.mg_none_of X G z_bool,PySem.W.mg_none_of X G z_str,PySem.W.mg_none_of X G z_dict,PySem.W.mg_none_of X G z_isinstance,PySem.W.mg_none_of X G z_all,PySem.W.mg_none_of X G z_any,PySem.W.mg_none_of X G z_sum,PySem.W.mg_none_of X G z_zip,PySem.W.mg_none_of X G z_enumerate,PySem.W.mg_none_of X G z_range,PySem.W.mg_none_of X G z_sorted,PySem.W.mg_none_of X G z_min,PySem.W.mg_none_of X G z_max,PySem.W.mg_none_of X G z_abs,PySem.W.mg_none_of X G z_reversed⟩;have cs:Cst K mg:=⟨trivial,⟨_,PySem.W.mg_of X G y_WALL⟩,⟨_,PySem.W.mg_of X G y_STEPS,xx1 (p0:=(1,0)) (p1:=(0,1)) (p2:=(-1,0)) (p3:=(0,-1)) ya_STEPS y0_STEPS y1_STEPS y2_STEPS y3_STEPS⟩⟩;have F_0:=zh3 (st:=zi9) l_0 c_0 k_0;have b_0:=F_0.binds (ps:=["_law_script"]) fun _ _ _ _ _ _ us hl=>by obtain⟨_,rfl⟩:=ln1 hl;rfl
 have m_0:=PySem.W.mg_of X G a_0;have F_1:=zh3 (st:=zk6) l_1 c_1 k_1;have b_1:=F_1.binds (ps:=["_law_state","_law_many"]) fun _ _ _ _ _ _ us hl=>by obtain⟨_,_,rfl⟩:=ln2 hl;rfl
 have m_1:=PySem.W.mg_of X G a_1;have F_2:=zh3 (st:=zn0) l_2 c_2 k_2;have b_2:=F_2.binds (ps:=["wide","high","cell"]) fun _ _ _ _ _ _ us hl=>by obtain⟨_,_,_,rfl⟩:=ln3 hl;rfl
 have m_2:=PySem.W.mg_of X G a_2;have F_3:=zh3 (st:=zj5) l_3 c_3 k_3;have b_3:=F_3.binds (ps:=["kind","place"]) fun _ _ _ _ _ _ us hl=>by obtain⟨_,_,rfl⟩:=ln2 hl;rfl
 have m_3:=PySem.W.mg_of X G a_3;have F_4:=zh3 (st:=zl3) l_4 c_4 k_4;have b_4:=F_4.binds (ps:=["hall","stand"]) fun _ _ _ _ _ _ us hl=>by obtain⟨_,_,rfl⟩:=ln2 hl;rfl
 have m_4:=PySem.W.mg_of X G a_4;have F_5:=zh3 (st:=ya1) l_5 c_5 k_5;have b_5:=F_5.binds (ps:=["ways","direction"]) fun _ _ _ _ _ _ us hl=>by obtain⟨_,_,rfl⟩:=ln2 hl;rfl
 have m_5:=PySem.W.mg_of X G a_5;have F_6:=zh3 (st:=zf1) l_6 c_6 k_6;have b_6:=F_6.binds (ps:=["place","direction"]) fun _ _ _ _ _ _ us hl=>by obtain⟨_,_,rfl⟩:=ln2 hl;rfl
 have m_6:=PySem.W.mg_of X G a_6;have F_7:=zh3 (st:=zn1) l_7 c_7 k_7;have b_7:=F_7.binds (ps:=["hall","stand","held","n","direction"]) fun _ _ _ _ _ _ us hl=>by obtain⟨_,_,_,_,_,rfl⟩:=ln5 hl;rfl
 have m_7:=PySem.W.mg_of X G a_7;have F_8:=zh3 (st:=zc4) l_8 c_8 k_8;have b_8:=F_8.binds (ps:=["hall"]) fun _ _ _ _ _ _ us hl=>by obtain⟨_,rfl⟩:=ln1 hl;rfl
 have m_8:=PySem.W.mg_of X G a_8;have F_9:=zh3 (st:=ze5) l_9 c_9 k_9;have b_9:=F_9.binds (ps:=["hall","kind","place"]) fun _ _ _ _ _ _ us hl=>by obtain⟨_,_,_,rfl⟩:=ln3 hl;rfl
 have m_9:=PySem.W.mg_of X G a_9;have F_10:=zh3 (st:=zq5) l_10 c_10 k_10;have b_10:=F_10.binds (ps:=["hall","stand"]) fun _ _ _ _ _ _ us hl=>by obtain⟨_,_,rfl⟩:=ln2 hl;rfl
 have m_10:=PySem.W.mg_of X G a_10;have F_11:=zh3 (st:=zd7) l_11 c_11 k_11;have b_11:=F_11.binds (ps:=["_law_kind_here","_law_place"]) fun _ _ _ _ _ _ us hl=>by obtain⟨_,_,rfl⟩:=ln2 hl;rfl
 have m_11:=PySem.W.mg_of X G a_11;have F_12:=zh3 (st:=ze6) l_12 c_12 k_12;have b_12:=F_12.binds (ps:=["_law_wide","_law_high","_law_kind_here"]) fun _ _ _ _ _ _ us hl=>by obtain⟨_,_,_,rfl⟩:=ln3 hl;rfl
 have m_12:=PySem.W.mg_of X G a_12;have F_13:=zh3 (st:=zg1) l_13 c_13 k_13;have b_13:=F_13.binds (ps:=["_law_state","_law_broad"]) fun _ _ _ _ _ _ us hl=>by obtain⟨_,_,rfl⟩:=ln2 hl;rfl
 have m_13:=PySem.W.mg_of X G a_13;have F_14:=zh3 (st:=zh6) l_14 c_14 k_14;have b_14:=F_14.binds (ps:=["_law_state","_law_wide","_law_high","_law_broad"]) fun _ _ _ _ _ _ us hl=>by obtain⟨_,_,_,_,rfl⟩:=ln4 hl;rfl
 have m_14:=PySem.W.mg_of X G a_14;have F_15:=zh3 (st:=ze9) l_15 c_15 k_15;have b_15:=F_15.binds (ps:=["_law_state","_law_broad","_law_much"]) fun _ _ _ _ _ _ us hl=>by obtain⟨_,_,_,rfl⟩:=ln3 hl;rfl
 have m_15:=PySem.W.mg_of X G a_15;have F_16:=zh3 (st:=zf4) l_16 c_16 k_16;have b_16:=F_16.binds (ps:=["_law_place","_law_direction"]) fun _ _ _ _ _ _ us hl=>by obtain⟨_,_,rfl⟩:=ln2 hl;rfl
 have m_16:=PySem.W.mg_of X G a_16;have F_17:=zh3 (st:=zh7) l_17 c_17 k_17;have b_17:=F_17.binds (ps:=["_law_kind_here","_law_direction"]) fun _ _ _ _ _ _ us hl=>by obtain⟨_,_,rfl⟩:=ln2 hl;rfl
 have m_17:=PySem.W.mg_of X G a_17;have F_18:=zh3 (st:=ze7) l_18 c_18 k_18;have b_18:=F_18.binds (ps:=["_law_hall_here","_law_n","_law_place"]) fun _ _ _ _ _ _ us hl=>by obtain⟨_,_,_,rfl⟩:=ln3 hl;rfl
 have m_18:=PySem.W.mg_of X G a_18;have F_19:=zh3 (st:=zf2) l_19 c_19 k_19;have b_19:=F_19.binds (ps:=["_law_hall_here","_law_places"]) fun _ _ _ _ _ _ us hl=>by obtain⟨_,_,rfl⟩:=ln2 hl;rfl
 have m_19:=PySem.W.mg_of X G a_19;have F_20:=zh3 (st:=zc5) l_20 c_20 k_20;have b_20:=F_20.binds (ps:=["_law_state","_law_hall_here","_law_stand"]) fun _ _ _ _ _ _ us hl=>by obtain⟨_,_,_,rfl⟩:=ln3 hl;rfl
 have m_20:=PySem.W.mg_of X G a_20;have F_21:=zh3 (st:=zf7) l_21 c_21 k_21;have b_21:=F_21.binds (ps:=["_law_found","_law_due"]) fun _ _ _ _ _ _ us hl=>by obtain⟨_,_,rfl⟩:=ln2 hl;rfl
 have m_21:=PySem.W.mg_of X G a_21;have F_22:=zh3 (st:=zf3) l_22 c_22 k_22;have b_22:=F_22.binds (ps:=["_law_hall_here","_law_stand"]) fun _ _ _ _ _ _ us hl=>by obtain⟨_,_,rfl⟩:=ln2 hl;rfl
 have m_22:=PySem.W.mg_of X G a_22;have F_23:=zh3 (st:=zv7) l_23 c_23 k_23;have b_23:=F_23.binds (ps:=["_law_script"]) fun _ _ _ _ _ _ us hl=>by obtain⟨_,rfl⟩:=ln1 hl;rfl
 have m_23:=PySem.W.mg_of X G a_23;refine⟨PySem.W.fnOf "law" "law" (zd0 zv7) (zb2 zv7) (za1 zv7) .none kV_23 dc_23 pm_23 an_23 cd_23 ct_23,fun s v=>.of_eq rfl,fun base _ _=>?_⟩;have okB:=xz3 (P:=l.prog) (w:=w) (base:=base) F_0 hm;have ok_1:∀p q:Addr,zp9 l.prog w K mg base CX0 1 f_1 _ ["_law_state","_law_many"] (spS (WdS p q) K zu3):=fun p q=>wl8 F_1 hm.len hm.divmod
 have ok_2:zp9 l.prog w K mg base CX0 1 f_2 _ ["wide","high","cell"] (sp0 K yc2):=Fun.d0 F_2 xm4 fun cdv A outer s H E hr=>yl4.2 _ _ _ _ _ hm cs 0  _ cdv A outer s H E hr
 have ok_3:zp9 l.prog w K mg base CX0 1 f_3 _ ["kind","place"] (sp0 K xh2):=Fun.d0 F_3 zp1 fun cdv A outer s H E hr=>yh2.2 _ _ _ _ _ hm cs 0  _ cdv A outer s H E hr
 have ok_4:zp9 l.prog w K mg base CX0 2 f_4 _ ["hall","stand"] (sp0 K yc8):=Fun.d0 F_4 zm2 fun cdv A outer s H E hr=>(yg0 xh2).2 _ _ _ _ _ hm cs 1 ⟨_,_,m_3,k_3,b_3,ok_3.mono (by decide)⟩ _ cdv A outer s H E hr
 have ok_5:zp9 l.prog w K mg base CX0 1 f_5 _ ["ways","direction"] (sp0 K xb8):=Fun.d0 F_5 wj7 fun cdv A outer s H E hr=>xs5.2 _ _ _ _ _ hm cs 0  _ cdv A outer s H E hr
 have ok_6:zp9 l.prog w K mg base CX0 1 f_6 _ ["place","direction"] (sp0 K zu0):=Fun.d0 F_6 zu9 fun cdv A outer s H E hr=>zq8.2 _ _ _ _ _ hm cs 0  _ cdv A outer s H E hr
 have ok_7:zp9 l.prog w K mg base CX0 2 f_7 _ ["hall","stand","held","n","direction"] (sp0 K vc2):=Fun.d0 F_7 zr8 fun cdv A outer s H E hr=>(ym6 xb8 xh2 zu0 yc2).2 _ _ _ _ _ hm cs 1 ⟨_,_,m_5,k_5,b_5,ok_5.mono (by decide)⟩ ⟨_,_,m_3,k_3,b_3,ok_3.mono (by decide)⟩ ⟨_,_,m_6,k_6,b_6,ok_6.mono (by decide)⟩ ⟨_,_,m_2,k_2,b_2,ok_2.mono (by decide)⟩ _ cdv A outer s H E hr
 have ok_8:zp9 l.prog w K mg base CX0 1 f_8 _ ["hall"] (sp0 K yb8):=Fun.d0 F_8 zv6 fun cdv A outer s H E hr=>zj4.2 _ _ _ _ _ hm cs 0  _ cdv A outer s H E hr
 have ok_9:zp9 l.prog w K mg base CX0 3 f_9 _ ["hall","kind","place"] (sp0 K ym2):=Fun.d0 F_9 zd8 fun cdv A outer s H E hr=>(zo1 yc8 yb8 zu0 vc2).2 _ _ _ _ _ hm cs 2 ⟨_,_,m_4,k_4,b_4,ok_4.mono (by decide)⟩ ⟨_,_,m_8,k_8,b_8,ok_8.mono (by decide)⟩ ⟨_,_,m_6,k_6,b_6,ok_6.mono (by decide)⟩ ⟨_,_,m_7,k_7,b_7,ok_7.mono (by decide)⟩ _ cdv A outer s H E hr
 have ok_10:zp9 l.prog w K mg base CX0 4 f_10 _ ["hall","stand"] (sp0 K xb2):=Fun.d0 F_10 xx8 fun cdv A outer s H E hr=>(yw3 ym2).2 _ _ _ _ _ hm cs 3 ⟨_,_,m_9,k_9,b_9,ok_9.mono (by decide)⟩ _ cdv A outer s H E hr
 have ok_11:zp9 l.prog w K mg base CX0 1 f_11 _ ["_law_kind_here","_law_place"] (sp0 K zn9):=Fun.d0 F_11 zm4 fun cdv A outer s H E hr=>zo9.2 _ _ _ _ _ hm cs 0  _ cdv A outer s H E hr
 have ok_12:zp9 l.prog w K mg base CX0 1 f_12 _ ["_law_wide","_law_high","_law_kind_here"] (sp0 K xy0):=Fun.d0 F_12 zs0 fun cdv A outer s H E hr=>zo8.2 _ _ _ _ _ hm cs 0  _ cdv A outer s H E hr
 have ok_13:∀p q:Addr,zp9 l.prog w K mg base CX0 2 f_13 _ ["_law_state","_law_broad"] (spS (WdS p q) K xb1):=fun p q=>Fun.dS F_13 zx4 fun cdv A outer s H E hr=>(zt3 zu3).2 _ _ _ _ _ p q hm cs 1 ⟨_,_,m_1,k_1,b_1,(ok_1 p q).mono (by decide)⟩ _ cdv A outer s H E hr
 have ok_14:∀p q:Addr,zp9 l.prog w K mg base CX0 2 f_14 _ ["_law_state","_law_wide","_law_high","_law_broad"] (spS (WdS p q) K wa3):=fun p q=>Fun.dS F_14 zd9 fun cdv A outer s H E hr=>(zw5 zu3).2 _ _ _ _ _ p q hm cs 1 ⟨_,_,m_1,k_1,b_1,(ok_1 p q).mono (by decide)⟩ _ cdv A outer s H E hr
 have ok_15:∀p q:Addr,zp9 l.prog w K mg base CX0 3 f_15 _ ["_law_state","_law_broad","_law_much"] (spS (WdS p q) K wb3):=fun p q=>Fun.dS F_15 zc1 fun cdv A outer s H E hr=>(zw6 xb1 zn9 zu3 wa3 xy0).2 _ _ _ _ _ p q hm cs 2 ⟨_,_,m_13,k_13,b_13,(ok_13 p q).mono (by decide)⟩ ⟨_,_,m_11,k_11,b_11,ok_11.mono (by decide)⟩ ⟨_,_,m_1,k_1,b_1,(ok_1 p q).mono (by decide)⟩ ⟨_,_,m_14,k_14,b_14,(ok_14 p q).mono (by decide)⟩ ⟨_,_,m_12,k_12,b_12,ok_12.mono (by decide)⟩ _ cdv A outer s H E hr
 have ok_16:zp9 l.prog w K mg base CX0 1 f_16 _ ["_law_place","_law_direction"] (sp0 K yo3):=Fun.d0 F_16 yi0 fun cdv A outer s H E hr=>zr3.2 _ _ _ _ _ hm cs 0  _ cdv A outer s H E hr
 have ok_17:zp9 l.prog w K mg base CX0 1 f_17 _ ["_law_kind_here","_law_direction"] (sp0 K wb4):=Fun.d0 F_17 yp9 fun cdv A outer s H E hr=>zw7.2 _ _ _ _ _ hm cs 0  _ cdv A outer s H E hr
 have ok_18:zp9 l.prog w K mg base CX0 2 f_18 _ ["_law_hall_here","_law_n","_law_place"] (sp0 K ym9):=Fun.d0 F_18 zc2 fun cdv A outer s H E hr=>(zt5 yo3 zn9 wb4).2 _ _ _ _ _ hm cs 1 ⟨_,_,m_16,k_16,b_16,ok_16.mono (by decide)⟩ ⟨_,_,m_11,k_11,b_11,ok_11.mono (by decide)⟩ ⟨_,_,m_17,k_17,b_17,ok_17.mono (by decide)⟩ _ cdv A outer s H E hr
 have ok_19:zp9 l.prog w K mg base CX0 2 f_19 _ ["_law_hall_here","_law_places"] (sp0 K yc6):=Fun.d0 F_19 zd6 fun cdv A outer s H E hr=>(zr2 zn9).2 _ _ _ _ _ hm cs 1 ⟨_,_,m_11,k_11,b_11,ok_11.mono (by decide)⟩ _ cdv A outer s H E hr
 have ok_20:∀p q:Addr,zp9 l.prog w K mg base CX0 3 f_20 _ ["_law_state","_law_hall_here","_law_stand"] (spS (WdS p q) K xc2):=fun p q=>Fun.dS F_20 zd5 fun cdv A outer s H E hr=>(zk0 zu3 yc6).2 _ _ _ _ _ p q hm cs 2 ⟨_,_,m_1,k_1,b_1,(ok_1 p q).mono (by decide)⟩ ⟨_,_,m_19,k_19,b_19,ok_19.mono (by decide)⟩ _ cdv A outer s H E hr
 have okS:∀n:Nat,zp9 l.prog w K mg base CX0 n f_21 _ ["_law_found","_law_due"] (sp0 K (yw4 n)):=fun n=>by
  induction n with
  | zero=>exact wy9
  | succ n ih=>exact Fun.d0 F_21 yp8 fun cdv A outer s H E hr=>(zw4 (yw4 n)).2 _ _ _ _ _ hm cs n ⟨_,_,m_21,k_21,b_21,ih⟩ _ cdv A outer s H E hr
 have ok_21:=okS 3;have ok_22:zp9 l.prog w K mg base CX0 3 f_22 _ ["_law_hall_here","_law_stand"] (sp0 K ym7):=Fun.d0 F_22 yl9 fun cdv A outer s H E hr=>(zt4 ym9).2 _ _ _ _ _ hm cs 2 ⟨_,_,m_18,k_18,b_18,ok_18.mono (by decide)⟩ _ cdv A outer s H E hr
 exact ww2 F_23 (k:=4) ⟨_,_,m_0,k_0,b_0,okB.mono (by decide)⟩ (fun p q cdv A outer s H E hr=>(wn5 zu3 wb3 xc2 ym7 (yw4 3) xb2).2 _ _ _ _ _ p q hm cs 4 ⟨_,_,m_1,k_1,b_1,(ok_1 p q).mono (by decide)⟩ ⟨_,_,m_15,k_15,b_15,(ok_15 p q).mono (by decide)⟩ ⟨_,_,m_20,k_20,b_20,(ok_20 p q).mono (by decide)⟩ ⟨_,_,m_22,k_22,b_22,ok_22.mono (by decide)⟩ ⟨_,_,m_21,k_21,b_21,ok_21.mono (by decide)⟩ ⟨_,_,m_10,k_10,b_10,ok_10.mono (by decide)⟩ _ cdv A outer s H E hr) ws5
theorem walk {l:PySem.W.OpenLaw} {q:Program} {loose:List Str} {XP:(Str->Option Value)->Heap->Prop} {YP:World->Heap->Prop} {d:DefRec} {K:Params->PySem.W.Frag} (hn:l.most=some 63) (hdf:d.params.defaults=[])
 (hY:∀(w:World) (h:Heap),YP w h->(K w.params).In h) (F:∀(w:World) (mg:Str->Option Value) (fa:Addr) (h:Heap),(K w.params).In h->h.Ns mainGlobals mg->mg d.name=some (.ref fa)->
  ∃fd:FuncData,(∀(s:Shared) (u:Value),BindsTo s fd ⟨[u],[]⟩ [("_law_script",u)])/\∀base:Heap,(K w.params).In base->base.Ns mainGlobals mg->zp9 l.prog w (K w.params) mg base CX0 5 fa fd ["_law_script"] (xx7 (K w.params))) :
 PySem.W.WalkO q loose XP YP l.row.toRowW d [] (fun f vs=>PySem.call f vs):=
 L2.walk_of (n:=63) (k:=5) (x:="_law_script") (CX:=fun _=>CX0) (sp:=fun w=>xx7 (K w.params)) hn (by decide) hdf ⟨rfl,by decide,by decide,rfl⟩ hY F (fun _ _ a ns hl _ hS=>⟨a,ns,rfl,hS,hl,fun _=>rfl⟩) fun _ _ _ _ _ z=>z
end K30
open PySem PySem.W PyProof.Rows
noncomputable def PySem.Challenge.vw:PySem.Program:=PySem.W.view PySem.Challenge.rw_slidehall_k30_sides.row.toRowW.prog [1,2,3,4,6,7,8,9,11,12,13,15,16,17,18,19,20,21,22,23,24,25,26,27,28,29]
local macro_rules
 |`(tactic|o_head $H)=>`(tactic|(
  refine holds_open (q:=PySem.Challenge.vw) (loose:=[]) (N:=1798)
   (Xt:=fun s=>xlAt PySem.Challenge.vw [] s&&recOk PySem.Challenge.rw_slidehall_k30_sides.row.toRowW.records s)
   (XP:=XL PySem.Challenge.vw [])
   (Yf:=($H).obs) (Ya:=($H).val) (YP:=($H).says) ?hl
   (($H).of) (($H).keeps)
   (fun s e=>xl_of s (Bool.and_eq_true_iff.mp e).1)
   XL.keeps (by rfl) (by rfl) (by rfl)
   (fun s e=>recFacts_of (Bool.and_eq_true_iff.mp e).2)
   (by rfl) (by first|assumption|decide +kernel)
   (by decide +kernel)
   ⟨rfl,rfl,rfl,rfl,rfl,by decide +kernel⟩ ?hw ?hc
  (case hl=>intro w;kernel_rfl)
  (case hw=>w_witness2)))
set_option maxRecDepth 100000 in
set_option maxHeartbeats 0 in
theorem PySem.Challenge.cw_slidehall_k30_sides_holds : PySem.Challenge.rw_slidehall_k30_sides.Holds := by
 w_on;o_law;k_head
 k_fill
 refine K30.walk (l:=PySem.Challenge.rw_slidehall_k30_sides) rfl rfl (fun w h Y=>PySem.W.kIn_of Y) ?F;case F=>
  intro w mg fa h KX G hmg;refine' K30.all_mk KX G hmg ?a_0 ?l_0 ?c_0 ?k_0 ?a_1 ?l_1 ?c_1 ?k_1 ?a_2 ?l_2 ?c_2 ?k_2 ?a_3 ?l_3 ?c_3 ?k_3 ?a_4 ?l_4 ?c_4 ?k_4 ?a_5 ?l_5 ?c_5 ?k_5 ?a_6 ?l_6 ?c_6 ?k_6 ?a_7 ?l_7 ?c_7 ?k_7 ?a_8 ?l_8 ?c_8 ?k_8 ?a_9 ?l_9 ?c_9 ?k_9 ?a_10 ?l_10 ?c_10 ?k_10 ?a_11 ?l_11 ?c_11 ?k_11 ?a_12 ?l_12 ?c_12 ?k_12 ?a_13 ?l_13 ?c_13 ?k_13 ?a_14 ?l_14 ?c_14 ?k_14 ?a_15 ?l_15 ?c_15 ?k_15 ?a_16 ?l_16 ?c_16 ?k_16 ?a_17 ?l_17 ?c_17 ?k_17 ?a_18 ?l_18 ?c_18 ?k_18 ?a_19 ?l_19 ?c_19 ?k_19 ?a_20 ?l_20 ?c_20 ?k_20 ?a_21 ?l_21 ?c_21 ?k_21 ?a_22 ?l_22 ?c_22 ?k_22 ?a_23 ?l_23 ?c_23 ?k_23 ?z_len ?z_divmod ?z_list ?z_tuple ?z_int ?z_bool ?z_str ?z_dict ?z_isinstance ?z_all ?z_any ?z_sum ?z_zip ?z_enumerate ?z_range ?z_sorted ?z_min ?z_max ?z_abs ?z_reversed ?y_WALL ?y_STEPS ?ya_STEPS ?y0_STEPS ?y1_STEPS ?y2_STEPS ?y3_STEPS
  (case a_0=>k_is)
  (case l_0=>k_is)
  (case c_0=>k_is)
  (case k_0=>k_is)
  (case a_1=>k_is)
  (case l_1=>k_is)
  (case c_1=>k_is)
  (case k_1=>k_is)
  (case a_2=>k_is)
  (case l_2=>k_is)
  (case c_2=>k_is)
  (case k_2=>k_is)
  (case a_3=>k_is)
  (case l_3=>k_is)
  (case c_3=>k_is)
  (case k_3=>k_is)
  (case a_4=>k_is)
  (case l_4=>k_is)
  (case c_4=>k_is)
  (case k_4=>k_is)
  (case a_5=>k_is)
  (case l_5=>k_is)
  (case c_5=>k_is)
  (case k_5=>k_is)
  (case a_6=>k_is)
  (case l_6=>k_is)
  (case c_6=>k_is)
  (case k_6=>k_is)
  (case a_7=>k_is)
  (case l_7=>k_is)
  (case c_7=>k_is)
  (case k_7=>k_is)
  (case a_8=>k_is)
  (case l_8=>k_is)
  (case c_8=>k_is)
  (case k_8=>k_is)
  (case a_9=>k_is)
  (case l_9=>k_is)
  (case c_9=>k_is)
  (case k_9=>k_is)
  (case a_10=>k_is)
  (case l_10=>k_is)
  (case c_10=>k_is)
  (case k_10=>k_is)
  (case a_11=>k_is)
  (case l_11=>k_is)
  (case c_11=>k_is)
  (case k_11=>k_is)
  (case a_12=>k_is)
  (case l_12=>k_is)
  (case c_12=>k_is)
  (case k_12=>k_is)
  (case a_13=>k_is)
  (case l_13=>k_is)
  (case c_13=>k_is)
  (case k_13=>k_is)
  (case a_14=>k_is)
  (case l_14=>k_is)
  (case c_14=>k_is)
  (case k_14=>k_is)
  (case a_15=>k_is)
  (case l_15=>k_is)
  (case c_15=>k_is)
  (case k_15=>k_is)
  (case a_16=>k_is)
  (case l_16=>k_is)
  (case c_16=>k_is)
  (case k_16=>k_is)
  (case a_17=>k_is)
  (case l_17=>k_is)
  (case c_17=>k_is)
  (case k_17=>k_is)
  (case a_18=>k_is)
  (case l_18=>k_is)
  (case c_18=>k_is)
  (case k_18=>k_is)
  (case a_19=>k_is)
  (case l_19=>k_is)
  (case c_19=>k_is)
  (case k_19=>k_is)
  (case a_20=>k_is)
  (case l_20=>k_is)
  (case c_20=>k_is)
  (case k_20=>k_is)
  (case a_21=>k_is)
  (case l_21=>k_is)
  (case c_21=>k_is)
  (case k_21=>k_is)
  (case a_22=>k_is)
  (case l_22=>k_is)
  (case c_22=>k_is)
  (case k_22=>k_is)
  (case a_23=>k_is)
  (case l_23=>k_is)
  (case c_23=>k_is)
  (case k_23=>k_is)
  (case z_len=>k_is)
  (case z_divmod=>k_is)
  (case z_list=>k_is)
  (case z_tuple=>k_is)
  (case z_int=>k_is)
  (case z_bool=>k_is)
  (case z_str=>k_is)
  (case z_dict=>k_is)
  (case z_isinstance=>k_is)
  (case z_all=>k_is)
  (case z_any=>k_is)
  (case z_sum=>k_is)
  (case z_zip=>k_is)
  (case z_enumerate=>k_is)
  (case z_range=>k_is)
  (case z_sorted=>k_is)
  (case z_min=>k_is)
  (case z_max=>k_is)
  (case z_abs=>k_is)
  (case z_reversed=>k_is)
  (case y_WALL=>k_is)
  (case y_STEPS=>k_is)
  (case ya_STEPS=>k_is)
  (case y0_STEPS=>k_is)
  (case y1_STEPS=>k_is)
  (case y2_STEPS=>k_is)
  (case y3_STEPS=>k_is)
end
