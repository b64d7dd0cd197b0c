import PyProof.Rows.All
import Wide.All
import OpenK.AllK
import Wide.FinOn
import Lean
import PyProof.EqAt
import PyProof.EqKinds
import PyProof.TupleCall
import PyProof.EnumMake
import PyProof.ZipIter
import PyProof.ExcClass2
import PyProof.ExcInit
import PyProof.ExcBaseAll.ValueError
import PyProof.FString2
import PyProof.ExcArgsOwn
import PyProof.InstStoreFacts
import ObjForm.Fk.InstStore
import ObjForm.Fk.InstLoad
import PyProof.StationsW
import PyProof.RulesAs
import PyProof.NsDelKeeps
import OpenK.KMore
import PyProof.IsiBase
import OpenK.KNot
import PyProof.Rows.RuleN_isinstance
import PyProof.NeData
import PyProof.P3In
import PyProof.StrWalks
import PyProof.ConsumeWalk
import PyProof.SliceStr2
import PyProof.MeetsStr
import KE.KItem
import KE.KUnpack
import KE.KRevSl
import PyProof.Rows.SetFrom
import PyProof.SetRoads
import PyProof.Rows.Range3
import PyProof.CallType
import PyProof.Rows.CallKwBuiltin
import PyProof.Rows.MinMaxN
import PyProof.SumWalkG
import PyProof.Rows.SeqMore
import PyProof.Rows.SortWalk
import PyProof.Rows.SumAny
import PyProof.Rows.SeqMore2
import KE.KSortTup
import PyProof.Rows.SortShellK
import PyProof.ReprRoads
import PyProof.ReprBulk
import PyProof.CallFns
import PyProof.NeKinds
import PyProof.Rows.StrJoinMade
import PyProof.StrCalls
import KE.KIntText
import PyProof.ReprDict
import PySem.Challenge.RW_wishdeal_k07_no_wishes
set_option Elab.async false
set_option linter.all false
set_option maxRecDepth 100000
set_option maxHeartbeats 4000000
namespace DL
open PySem PySem.Spec PySem.W PyProof.Rows
def topRunT (tb : String -> Option Builtin) (p : Program) (w : World) (m : Nat) (ann : Option Value) : Nat -> SharedT -> Thread -> Option SharedT
 | 0, _, _ => none
 | n + 1, s, t => match through t, stepOk m ann t with
  | true, _ => some s
  | false, false => none
  | false, true => match stepT (denote tb) p w s t with
   | some x => topRunT tb p w m ann n x.1 x.2
   | none => none
theorem zdR {tb : String -> Option Builtin} {p : Program} {w : World} {m : Nat} {ann : Option Value} : ∀ {n : Nat} {s s' : SharedT} {t : Thread}, topRunT tb p w m ann n s t = some s' -> topRun tb p w m ann n s.abs t = some s'.abs
 | 0, _, _, _, h => by cases h
 | n + 1, s, s', t, h => by
  rw [topRunT] at h
  rw [topRun]
  cases ht : through t with
  | true => rw [ht] at h; cases h; rfl
  | false =>
   rw [ht] at h
   cases hk : stepOk m ann t with
   | false => rw [hk] at h; cases h
   | true =>
    rw [hk] at h
    dsimp only at h ⊢
    cases hs : stepT (denote tb) p w s t with
    | none => rw [hs] at h; cases h
    | some x => rw [hs] at h; rw [stepT_spec hs]; exact zdR h
def btOf (l : List Obj) : BT := (l.foldl (fun (x : BT × Nat) o => (x.1.ins x.2 o, x.2 + 1)) (.nil, 0)).1
noncomputable def T0 (w : World) (os : OsState) : SharedT := ⟨btOf (boot_heap w.params).objs.toList, 11, (boot_heap w.params).life, #[], boot_drawn, boot_toks, os⟩
theorem ziN (w : World) (os : OsState) : (T0 w os).abs = ⟨boot_heap w.params, #[], boot_drawn, boot_toks, os⟩ := by kernel_rfl
theorem zhj (w : World) : ((boot_heap w.params).isNs mainGlobals && (#[] : Array GenState).size == 0, (boot_heap w.params).objs.size, (boot_heap w.params).nsMap mainGlobals "__annotations__") = (true, 11, some (.ref 6)) := by kernel_rfl
noncomputable abbrev zmS (p q : Program) (loose : List Str) (Xt : Shared -> Bool) (w : World) (t : SharedT) :=
 ((staticsOk (importedModules p.main.body) (boot_heap w.params) t.abs.heap && namesBound p t.abs.heap && gensDone t.abs && laidKept (boot_heap w.params) t.abs.heap), openSeen q loose (importedModules p.main.body) Xt true t.abs)
end DL
namespace DL
open PySem PySem.Spec PySem.W PyProof.Rows
abbrev VB0 : List Value := [.type "ValueError", .type "Exception", .type "BaseException", .type "object"]
def zhk : List Str := ["__setattr__", "__getattribute__", "__getattr__", "__class__", "part", "number", "row"]
def zfe (nm : Str) : Str := nm ++ "." ++ "__init__"
def xB (h : Heap) (nm : Str) (own : Bool) : Bool := match h.nsMap mainGlobals nm with
 | some (.ref C) => (match h.get? C with
  | some ⟨.type t, _, .cls cd, sl⟩ => (t == "type") && (cd.name == nm) && cd.hasDict && !cd.hasDel && (match sl.toList with | [_, _, _, _, k4, _] => decide (k4 = some (.builtin "ValueError.__new__")) | _ => false) && h.isNs cd.ns && (zhk.all fun x => (h.nsMap cd.ns x).isNone) && (own || (h.nsMap cd.ns "__init__").isNone) &&
   (if nm = "DealError" then decide (cd.mro = .ref C :: VB0) else match h.nsMap mainGlobals "DealError" with | some (.ref D) => decide (cd.mro = .ref C :: .ref D :: VB0) | _ => false)
  | _ => false)
 | _ => false
def xSh (h : Heap) (nm : Str) : Option (Bool × FnShape) := match h.nsMap mainGlobals nm with
 | some (.ref C) => (match h.get? C with
  | some ⟨_, _, .cls cd, _⟩ => (match h.fnAt cd.ns "__init__", h.shapeAt cd.ns "__init__" with | some (_, o, _), some sh => some (decide (o.cls = .type "function"), sh) | _, _ => none)
  | _ => none)
 | _ => none
def zck (st : Stmt) : Stmt := match st with
 | .ClassDef _ _ _ (m :: _) _ _ _ _ _ _ _ => m
 | _ => .Pass ⟨0, 0, 0, 0⟩
def zlq (s : Stmt) : Arguments := match s with
 | .FunctionDef _ a _ _ _ _ _ _ _ _ => a
 | _ => default
def zlr (s : Stmt) : List Stmt := match s with
 | .FunctionDef _ _ b _ _ _ _ _ _ _ => b
 | _ => []
def zjH (s : Stmt) : Scope := match s with
 | .FunctionDef _ _ _ _ _ _ sc _ _ _ => sc
 | _ => { kind := .function, names := [], isGenerator := false, isCoroutine := false }
def shOf (nm : Str) (st : Stmt) : FnShape := ⟨"__init__", zfe nm, zlq st, .stmts (zlr st), zjH st, mainGlobals, [], .none, .none, none, .none, builtinsNs, true⟩
abbrev XL0 := List (Str × Option Nat)
def xSeen (l : XL0) (s : Shared) : Bool × List (Bool × Option (Bool × FnShape)) := (s.heap.isNs cStatics && (s.heap.nsMap cStatics "thirdparty.any").isNone, l.map fun c => (xB s.heap c.1 c.2.isSome, if c.2.isSome then xSh s.heap c.1 else none))
def xGood (p : Program) (l : XL0) : Bool × List (Bool × Option (Bool × FnShape)) := (true, l.map fun c => (true, c.2.map fun i => (true, shOf c.1 (zck (p.main.body.getD i (.Pass ⟨0, 0, 0, 0⟩))))))
theorem ziO {α : Type} {Yf : Shared -> α} {Ya : World -> α} {p q : Program} {loose : List Str} {Xt : Shared -> Bool} {N M : Nat} (e : opening p = plainProg p.main.scope.names) (hN : Nat.ble 600 N = true) (f : ∀ s, fenceModules? p s = some s) (le : Nat.ble M N = true)
  (run : ∀ (w : World) (os : OsState), (topRunT treeTable p w 11 (some (.ref 6)) M (T0 w os) (topStub p)).map (fun t => (zmS p q loose Xt w t, Yf t.abs)) = some ((true, openGood q loose), Ya w)) : LeftO p q loose Xt Yf Ya N := fun w => by
 obtain ⟨⟨h, gs, d, k, os⟩, e0, e'⟩ := Option.map_eq_some_iff.mp (boot_open e hN f w)
 have e' : (h, gs, d, k) = (boot_heap w.params, #[], boot_drawn, boot_toks) := e'
 obtain ⟨rfl, rfl, rfl, rfl⟩ : h = boot_heap w.params /\ gs = #[] /\ d = boot_drawn /\ k = boot_toks := by simpa only [Prod.mk.injEq] using e'
 obtain ⟨t, ht, l⟩ := Option.map_eq_some_iff.mp (run w os)
 have hr := zdR ht
 rw [ziN] at hr
 have r := topRun_mono (N - M) _ _ _ _ hr
 rw [show M + (N - M) = N by have := Nat.le_of_ble_eq_true le; omega] at r
 obtain ⟨l0, l3⟩ := Prod.mk.inj l
 obtain ⟨l1, l2⟩ := Prod.mk.inj l0
 have z := zhj w
 obtain ⟨z1, z2, z3⟩ : _ /\ _ /\ _ := by simpa only [Prod.mk.injEq] using z
 have tf : topFrom treeTable p w N ⟨boot_heap w.params, #[], boot_drawn, boot_toks, os⟩ = some t.abs := by
  unfold topFrom
  dsimp only
  rw [z1, z2, z3, r]
  show (match staticsOk (importedModules p.main.body) (boot_heap w.params) t.abs.heap && namesBound p t.abs.heap && gensDone t.abs && laidKept (boot_heap w.params) t.abs.heap with | true => some t.abs | false => none) = _
  rw [l1]
 unfold openEnds
 rw [e0]
 show (topFrom treeTable p w N _).map _ = _
 rw [tf]
 exact congrArg some (Prod.ext l2 l3)
end DL
open PySem in
lay_quick PySem.Challenge.pw_wishdeal_k07_no_wishes DL.topRunT PySem.W.openGood PySem.W.staticsOk PySem.W.namesBound PySem.W.laidKept PySem.W.xlAt DL.xSeen DL.xGood
namespace W
open PySem PySem.Spec DL
abbrev p0 : Program := PySem.Challenge.pw_wishdeal_k07_no_wishes
def zd2 : List Nat := [1, 2, 3, 4, 5, 6, 7, 8, 9, 10, 11, 12, 13, 14, 16, 17, 19, 20, 21, 22, 23, 24, 25, 26, 27, 29, 30, 31, 32, 33, 34, 35, 36, 37, 38, 39, 40, 41]
def ixL : List Nat := [16, 17, 23, 24, 25, 26, 27, 29, 30, 31, 32, 33, 34, 35, 36, 37, 38, 39, 40, 41]
abbrev q0 : Program := PySem.W.view p0 zd2
def clsL : XL0 := [("DealError", some 1), ("NoWishes", some 2), ("NoAim", some 3), ("NoText", some 4), ("NoWay", none), ("NoPlace", none), ("NoChange", none), ("NoNumbering", none), ("NoJoin", none), ("NoBook", none), ("NoDeed", none), ("NoRow", none), ("NoName", none), ("TooMany", none)]
theorem zmT : ∀ (w : World) (os : OsState), (PySem.W.Fast.tw10708255244068714335 PySem.W.Fast.tw14364793385576792824 PySem.W.Fast.tw16835232740586382669 w 11 (some (.ref 6)) 3888 (T0 w os) (PySem.W.topStub PySem.W.Fast.tw16835232740586382669)).map (fun t => (((PySem.W.Fast.tw13471830651028734593 (PySem.W.Fast.tw5923862056798008813 (Program.main PySem.W.Fast.tw16835232740586382669).body) (PySem.W.boot_heap w.params) t.abs.heap && PySem.W.Fast.tw4683006035507612052 PySem.W.Fast.tw16835232740586382669 t.abs.heap && PySem.W.gensDone t.abs && PySem.W.Fast.tw16898566250750103049 (PySem.W.boot_heap w.params) t.abs.heap), PySem.W.Fast.tw4187177175401517315 (PySem.W.view PySem.W.Fast.tw16835232740586382669 zd2) [] (PySem.W.Fast.tw5923862056798008813 (Program.main PySem.W.Fast.tw16835232740586382669).body) (fun s => PySem.W.Fast.tw4757257242682413121 (PySem.W.view PySem.W.Fast.tw16835232740586382669 zd2) [] s && PySem.W.recOk [] s) true t.abs), PySem.W.Fast.tw11121216462471823999 clsL t.abs)) = some ((true, PySem.W.Fast.tw3486900944545009338 (PySem.W.view PySem.W.Fast.tw16835232740586382669 zd2) []), PySem.W.Fast.tw18030470931243306169 PySem.W.Fast.tw16835232740586382669 clsL) := by
 intro w os
 kernel_rfl
theorem zmU : PySem.W.LeftO p0 q0 [] (fun s => PySem.W.xlAt q0 [] s && PySem.W.recOk [] s) (xSeen clsL) (fun _ => xGood p0 clsL) 7676 := by
 refine ziO (M := 3888) (by kernel_rfl) rfl (fun s => by kernel_rfl) rfl fun w os => ?_
 have h := zmT w os
 rw [← PySem.W.Fast.te10708255244068714335, ← PySem.W.Fast.te14364793385576792824, ← PySem.W.Fast.te4187177175401517315, ← PySem.W.Fast.te5923862056798008813, ← PySem.W.Fast.te13471830651028734593, ← PySem.W.Fast.te4683006035507612052, ← PySem.W.Fast.te16898566250750103049, ← PySem.W.Fast.te4757257242682413121, ← PySem.W.Fast.te3486900944545009338, ← PySem.W.Fast.te11121216462471823999, ← PySem.W.Fast.te18030470931243306169, ← PySem.W.Fast.te16835232740586382669] at h
 exact h
end W
namespace L2
open PySem PySem.Spec PyProof.Rows
abbrev Key := Sum Int Str
def zls : Key -> Value -> Bool
 | .inl k, v => Value.isInt k v
 | .inr x, v => Value.isStrOf x v
def keyH (w : World) : Key -> Int
 | .inl k => hashInt k
 | .inr x => hashStr w x
theorem zbp : ∀ {k : Key} {v : Value}, zls k v = true -> (∃ i t, k = Sum.inl i /\ v = Value.int i t) ∨ (∃ x t, k = Sum.inr x /\ v = Value.str x t)
 | .inl i, v, h => by
  obtain ⟨t, e⟩ := Value.isInt_shape (k := i) (v := v) h
  exact .inl ⟨i, t, rfl, e⟩
 | .inr x, v, h => by
  obtain ⟨t, e⟩ := Value.isStrOf_shape (x := x) (v := v) h
  exact .inr ⟨x, t, rfl, e⟩
theorem zlt (a b : Int) : decide ((Sum.inl a : Key) = Sum.inl b) = (a == b) := by
 by_cases e : a = b
 ·subst e; simp
 ·have h : ¬ (Sum.inl a : Key) = Sum.inl b := fun q => e (Sum.inl.inj q)
  rw [decide_eq_false h]
  exact (beq_eq_false_iff_ne.mpr e).symm
theorem zlu (a b : Str) : decide ((Sum.inr a : Key) = Sum.inr b) = decide (a = b) := by
 by_cases e : a = b
 ·subst e; simp
 ·have h : ¬ (Sum.inr a : Key) = Sum.inr b := fun q => e (Sum.inr.inj q)
  rw [decide_eq_false h, decide_eq_false e]
theorem zlv (a : Int) (b : Str) : decide ((Sum.inl a : Key) = Sum.inr b) = false := decide_eq_false (fun q => nomatch q)
theorem zlw (a : Str) (b : Int) : decide ((Sum.inr a : Key) = Sum.inl b) = false := decide_eq_false (fun q => nomatch q)
def zeP (prog : Program) (w : World) : PySem.KeyKind prog w Key where
 is := zls
 hash := keyH w
 inj := fun v a b ha hb => by
  rcases zbp ha with ⟨i, t, rfl, rfl⟩ | ⟨x, t, rfl, rfl⟩
  ·rcases zbp hb with ⟨j, u, rfl, e⟩ | ⟨y, u, rfl, e⟩
   ·injection e with e1 _; rw [e1]
   ·exact nomatch e
  ·rcases zbp hb with ⟨j, u, rfl, e⟩ | ⟨y, u, rfl, e⟩
   ·exact nomatch e
   ·injection e with e1 _; rw [e1]
 byValue := fun k v h => by
  rcases zbp h with ⟨i, t, rfl, rfl⟩ | ⟨x, t, rfl, rfl⟩ <;> rfl
 pyHash := fun hv h => by
  rcases zbp hv with ⟨i, t, rfl, rfl⟩ | ⟨x, t, rfl, rfl⟩
  ·exact wpAny_pyHash_int h
  ·exact wpAny_pyHash_str h
 eqBool := fun hu hv h => by
  rcases zbp hu with ⟨i, t, rfl, rfl⟩ | ⟨x, t, rfl, rfl⟩
  ·rcases zbp hv with ⟨j, u, rfl, rfl⟩ | ⟨y, u, rfl, rfl⟩
   ·rw [zlt] at h; exact wpAny_eqBool_int h
   ·rw [zlv] at h; exact SeqAt.EqAt.int_str i t y u _ _ _ _ h
  ·rcases zbp hv with ⟨j, u, rfl, rfl⟩ | ⟨y, u, rfl, rfl⟩
   ·rw [zlw] at h; exact SeqAt.EqAt.str_int x t j u _ _ _ _ h
   ·rw [zlu] at h; exact wpAny_eqBool_str h
 «strs» := fun k x t v h => by
  rcases zbp h with ⟨i, u, rfl, e⟩ | ⟨y, u, rfl, e⟩
  ·exact nomatch e
  ·injection e with e1 _
   subst e1
   cases v <;> rfl
end L2
namespace L2
open PySem PySem.Spec PyProof.Rows
inductive V where
 | non | bl (b : Bool) | int (i : Int) | str (x : Str) | byt (b : Array UInt8) | flt (b : UInt64) | ref (a : Addr) | ty (n : String)
 deriving DecidableEq
def RelV : V -> Value -> Prop
 | .non, u => u = Value.none
 | .bl b, u => u = Value.bool b
 | .int i, u => ∃ t, u = Value.int i t
 | .str x, u => ∃ t, u = Value.str x t
 | .byt b, u => ∃ t, u = Value.bytes b t
 | .flt b, u => ∃ t, u = Value.float b t
 | .ref a, u => u = Value.ref a
 | .ty n, u => u = Value.type n
abbrev Vals : List V -> List Value -> Prop := Paired RelV
theorem Vals.length {xs : List V} {us : List Value} (r : Vals xs us) : xs.length = us.length := Paired.length r
theorem Vals.get : ∀ {xs : List V} {us : List Value} {i : Nat} {x : V}, Vals xs us -> xs[i]? = some x -> ∃ u, us[i]? = some u /\ RelV x u
 | _, _, _, _, .nil, e => by simp at e
 | _, _, 0, _, .cons r _, e => by simp at e; subst e; exact ⟨_, rfl, r⟩
 | _, _, i + 1, x, .cons _ t, e => by
  obtain ⟨u, h1, h2⟩ := Vals.get (i := i) (x := x) t (by simpa using e)
  exact ⟨u, by simpa using h1, h2⟩
theorem Vals.append : ∀ {xs ys : List V} {us ws : List Value}, Vals xs us -> Vals ys ws -> Vals (xs ++ ys) (us ++ ws)
 | _, _, _, _, .nil, s => s
 | _, _, _, _, .cons r t, s => .cons r (Vals.append t s)
theorem Vals.take : ∀ {xs : List V} {us : List Value} (n : Nat), Vals xs us -> Vals (xs.take n) (us.take n)
 | _, _, 0, _ => .nil
 | _, _, _ + 1, .nil => .nil
 | _, _, n + 1, .cons r t => .cons r (Vals.take n t)
theorem Vals.drop : ∀ {xs : List V} {us : List Value} (n : Nat), Vals xs us -> Vals (xs.drop n) (us.drop n)
 | _, _, 0, r => r
 | _, _, _ + 1, .nil => .nil
 | _, _, n + 1, .cons _ t => Vals.drop n t
def RelO : Option V -> Option Value -> Prop
 | some v, some u => RelV v u
 | none, none => True
 | _, _ => False
def KV {κ : Type} : List (κ × V) -> List (κ × Value) -> Prop := Paired fun (p : κ × V) (q : κ × Value) => p.1 = q.1 /\ RelV p.2 q.2
def kV : Key -> V
 | .inl i => .int i
 | .inr x => .str x
inductive HO where
  | lst (xs : List V)
  | tup (xs : List V)
  | dK (kvs : List (Key × V)) | dT (kvs : List (List Key × V))
  | set (S : Int -> Bool) (n : Nat)
  | ins (C dx : Addr) (fs : List (Str × V))
  | own (x : Addr)
  | xd (fs : List (Str × V))
  | met (f x : Addr)
  | rng (lo hi : Int)
  | frz (o : Obj) (u : HO)
  | tbl (ps : Array Value)
  | ext (φ : Heap -> Prop)
abbrev Hp := Addr -> Option HO
def upd (H : Hp) (a : Addr) (o : HO) : Hp := fun b => if b = a then some o else H b
theorem zaz {H : Hp} {a : Addr} {o : HO} : upd H a o a = some o := by unfold upd; rw [if_pos rfl]
theorem zaG {H : Hp} {a b : Addr} {o : HO} (h : b ≠ a) : upd H a o b = H b := by unfold upd; rw [if_neg h]
theorem zhl {H : Hp} {a : Addr} {o u : HO} : upd (upd H a o) a u = upd H a u := by
 funext b; unfold upd; split <;> rfl
theorem za4 {H : Hp} {a b : Addr} {o : HO} (h : H a = some o) (h' : H b = none) : a ≠ b := by
 intro e; subst e; rw [h] at h'; cases h'
section
variable (P : Program) (w : World)
def zcw (H : Hp) (h : Heap) (a : Addr) : HO -> Prop
 | .lst xs => xs.length <= sizeLine /\ ∃ (its : List Value) (n : Nat), Vals xs its /\ h.get? a = some { cls := .type "list", data := .seq its.toArray n }
 | .tup xs => xs.length <= sizeLine /\ ∃ its : List Value, Vals xs its /\ IsTup h a its.toArray
 | .dK kvs => kvs.length <= sizeLine /\ (a == sysModules) = false /\ ∃ vs, KV kvs vs /\ h.DictOf (zeP P w) a vs
 | .dT kvs => kvs.length <= sizeLine /\ (a == sysModules) = false /\ ∃ xs : List (List Key × Addr × Value),
   Paired (fun (p : List Key × V) (q : List Key × Addr × Value) => p.1 = q.1 /\ H q.2.1 = some (.tup (p.1.map kV)) /\ RelV p.2 q.2.2) kvs xs /\
   ∃ o es ep, h.get? a = some o /\ o.ExactDict /\ o.data = .dict es ep /\ es.toList = xs.map (entryOfKey (tupleKind (zeP P w))) /\ (xs.map (·.1)).Nodup
 | .set S n => h.SetOf (intKind P w) a S n
 | .ins C dx fs => H dx = some (.own a) /\ fs.length <= 1000 /\ dx ≠ a /\ h.get? a = some (PySem.W.instObj C dx) /\
   ∃ mA, h.Ns1 dx mA /\ (∀ f, RelO (fs.lookup f) (mA f)) /\ PySem.Within mA (fs.map (·.1))
 | .own _ => ∃ o, h.get? a = some o
 | .xd fs => ∃ mA, h.Ns1 a mA /\ ∀ f, RelO (fs.lookup f) (mA f)
 | .rng lo hi => ∃ t u v, h.get? a = some { cls := .type "range", data := .fields #[.int lo t, .int hi u, .int 1 v] }
 | .frz o u => h.get? a = some o /\ zcw H h a u
 | .tbl ps => h.get? a = some { cls := .none, data := .fields ps }
 | .met f x => h.get? a = some (PySem.W.methodObj (.ref f) (.ref x))
 | .ext φ => φ h /\ (∃ o, h.get? a = some o) /\ ∀ h1 h2 : Heap, φ h1 -> (∀ o, h1.get? a = some o -> h2.get? a = some o) -> φ h2
def HOk (H : Hp) (h : Heap) : Prop := ∀ a o, H a = some o -> zcw P w H h a o
end
section
variable {P : Program} {w : World} {H H' : Hp} {h h' : Heap} {a : Addr} {o : HO}
theorem zcw.lt (x : zcw P w H h a o) : a < h.objs.size := by
 cases o with
 | lst xs => obtain ⟨_, _, _, _, e⟩ := x; exact Heap.lt_size e
 | tup xs => obtain ⟨_, _, _, p⟩ := x; exact p.lt
 | dK kvs => obtain ⟨_, _, _, _, o, _, _, e, _⟩ := x; exact Heap.lt_size e
 | dT kvs => obtain ⟨_, _, _, _, o, _, _, e, _⟩ := x; exact Heap.lt_size e
 | set S n => obtain ⟨o, _, _, _, e, _⟩ := x; exact Heap.lt_size e
 | ins C dx fs => obtain ⟨_, _, _, e, _⟩ := x; exact Heap.lt_size e
 | own y => obtain ⟨_, e⟩ := x; exact Heap.lt_size e
 | xd fs => obtain ⟨_, ⟨_, _, _, e, _⟩, _⟩ := x; exact Heap.lt_size e
 | rng lo hi => obtain ⟨_, _, _, e⟩ := x; exact Heap.lt_size e
 | frz ob u => obtain ⟨e, _⟩ := x; exact Heap.lt_size e
 | tbl ps => exact Heap.lt_size (show h.get? a = some _ from x)
 | met f y => exact Heap.lt_size (show h.get? a = some _ from x)
 | ext φ => obtain ⟨_, ⟨_, e⟩, _⟩ := x; exact Heap.lt_size e
theorem Paired.mapP {α β : Type} {F G : α -> β -> Prop} : ∀ {l₁ : List α} {l₂ : List β}, Paired F l₁ l₂ -> (∀ a b, F a b -> G a b) -> Paired G l₁ l₂
 | _, _, .nil, _ => .nil
 | _, _, .cons r t, f => .cons (f _ _ r) (Paired.mapP t f)
theorem zcw.stay (x : zcw P w H h a o) (k : ∀ b u, (b = a ∨ H b = some (.own a)) -> h.get? b = some u -> h'.get? b = some u)
  (ho : ∀ b, H b = some (.own a) -> H' b = some (.own a)) (ht : ∀ b xs, H b = some (.tup xs) -> H' b = some (.tup xs)) : zcw P w H' h' a o := by
 induction o with
 | lst xs => obtain ⟨z, its, n, r, e⟩ := x; exact ⟨z, its, n, r, k _ _ (.inl rfl) e⟩
 | tup xs => obtain ⟨z, its, r, ob, e, c⟩ := x; exact ⟨z, its, r, ob, k _ _ (.inl rfl) e, c⟩
 | dK kvs => obtain ⟨z, y, vs, r, ob, es, ep, e, c⟩ := x; exact ⟨z, y, vs, r, ob, es, ep, k _ _ (.inl rfl) e, c⟩
 | dT kvs =>
  obtain ⟨z, y, xs, r, ob, es, ep, e, c⟩ := x
  exact ⟨z, y, xs, Paired.mapP r fun p q z => ⟨z.1, ht _ _ z.2.1, z.2.2⟩, ob, es, ep, k _ _ (.inl rfl) e, c⟩
 | set S n => obtain ⟨ob, es, ep, t, e, c⟩ := x; exact ⟨ob, es, ep, t, k _ _ (.inl rfl) e, c⟩
 | ins C dx fs =>
  obtain ⟨d, z, ne, e, mA, ⟨od, es, ep, e2, c⟩, r⟩ := x
  exact ⟨ho _ d, z, ne, k _ _ (.inl rfl) e, mA, ⟨od, es, ep, k _ _ (.inr d) e2, c⟩, r⟩
 | own y => obtain ⟨ob, e⟩ := x; exact ⟨ob, k _ _ (.inl rfl) e⟩
 | xd fs => obtain ⟨mA, ⟨od, es, ep, e, c⟩, r⟩ := x; exact ⟨mA, ⟨od, es, ep, k _ _ (.inl rfl) e, c⟩, r⟩
 | rng lo hi => obtain ⟨t, u, v, e⟩ := x; exact ⟨t, u, v, k _ _ (.inl rfl) e⟩
 | frz ob u ih => obtain ⟨e, q⟩ := x; exact ⟨k _ _ (.inl rfl) e, ih q⟩
 | tbl ps =>
  have e : h.get? a = some { cls := .none, data := .fields ps } := x
  show h'.get? a = some { cls := .none, data := .fields ps }
  exact k a _ (.inl rfl) e
 | met f y =>
  have e : h.get? a = some (PySem.W.methodObj (.ref f) (.ref y)) := x
  show h'.get? a = some (PySem.W.methodObj (.ref f) (.ref y))
  exact k a _ (.inl rfl) e
 | ext φ => obtain ⟨p, ⟨o, e⟩, st⟩ := x; exact ⟨st _ _ p fun o q => k _ _ (.inl rfl) q, ⟨o, k _ _ (.inl rfl) e⟩, st⟩
theorem HOk.lt (x : HOk P w H h) (e : H a = some o) : a < h.objs.size := (x a o e).lt
theorem HOk.fresh (x : HOk P w H h) (e : h.objs.size <= a) : H a = none := by
 cases q : H a with
 | none => rfl
 | some u => exact absurd (Nat.lt_of_lt_of_le (x.lt q) e) (Nat.lt_irrefl _)
theorem HOk.kept (x : HOk P w H h) (k : ∀ b u, h.get? b = some u -> h'.get? b = some u) : HOk P w H h' := fun a o e =>
 (x a o e).stay (fun b u _ q => k b u q) (fun _ q => q) fun _ _ q => q
theorem HOk.laid (x : HOk P w H h) (k : ∀ b u, h.get? b = some u -> h'.get? b = some u) (hp : h.objs.size <= a) (new : zcw P w (upd H a o) h' a o) : HOk P w (upd H a o) h' := fun b u e => by
 have hn := x.fresh hp
 by_cases hb : b = a
 ·subst hb; rw [zaz] at e; cases e; exact new
 ·rw [zaG hb] at e
  exact (x b u e).stay (fun c v _ q => k c v q) (fun c q => by rw [zaG (za4 q hn)]; exact q) fun c xs q => by rw [zaG (za4 q hn)]; exact q
end
def Rd (H : Hp) (a : Addr) (u : HO) : Prop := H a = some u ∨ ∃ o, H a = some (.frz o u)
theorem Rd.ok {P : Program} {w : World} {H : Hp} {h : Heap} {a : Addr} {u : HO} (r : Rd H a u) (x : HOk P w H h) : zcw P w H h a u := by
 rcases r with r | ⟨o, r⟩
 ·exact x a u r
 ·obtain ⟨_, q⟩ := x a _ r
  exact q
def Mut : Option HO -> Prop
 | some (.lst _) => True
 | some (.dK _) => True
 | some (.dT _) => True
 | some (.set _ _) => True
 | some (.ins _ _ _) => True
 | some (.ext _) => True
 | _ => False
section
variable {P : Program} {w : World} {H : Hp} {h h' : Heap} {x e : Addr} {o' : HO}
theorem HOk.write (ok : HOk P w H h) (mu : Mut (H x)) (he : e = x ∨ H e = some (.own x)) (k : ∀ b u, b ≠ e -> h.get? b = some u -> h'.get? b = some u) (heo : ∃ u, h'.get? e = some u)
  (new : zcw P w (upd H x o') h' x o') : HOk P w (upd H x o') h' := fun b u q => by
 have nown : ∀ c y, H c = some (.own y) -> c ≠ x := fun c y r z => by subst z; rw [r] at mu; exact mu
 have ntup : ∀ c xs, H c = some (.tup xs) -> c ≠ x := fun c xs r z => by subst z; rw [r] at mu; exact mu
 by_cases hb : b = x
 ·subst hb; rw [zaz] at q; cases q; exact new
 ·rw [zaG hb] at q
  by_cases hbe : b = e
  ·have q' : H b = some (.own x) := by
    rcases he with z | z
    ·exact absurd (hbe.trans z) hb
    ·rw [hbe]; exact z
   rw [q] at q'; cases q'
   obtain ⟨v, hv⟩ := heo
   exact ⟨v, by rw [hbe]; exact hv⟩
  ·refine (ok b u q).stay (fun c v hc r => k c v ?_ r) (fun c r => by rw [zaG (nown c b r)]; exact r) fun c xs r => by rw [zaG (ntup c xs r)]; exact r
   rcases hc with rfl | hc
   ·exact hbe
   ·rintro rfl
    rcases he with z | z
    ·exact nown c b hc z
    ·rw [hc] at z; cases z; exact hb rfl
end
structure Un (fs ex : List Addr) (H H' : Hp) (h h' : Heap) : Prop where
 keep : ∀ b o, h.get? b = some o -> H b = none -> b ∉ fs -> b ∉ ex -> h'.get? b = some o
 slot : ∀ b o, h.get? b = some o -> H b = none -> b ∈ fs -> b ∉ ex -> ∃ sl, h'.get? b = some { o with slots := sl }
 free : ∀ b o, h.get? b = some o -> H b = none -> b ∉ ex -> H' b = none
 there : ∀ b o, h.get? b = some o -> b ∉ ex -> ∃ o', h'.get? b = some o'
 tups : ∀ b xs, H b = some (.tup xs) -> H' b = some (.tup xs)
 frzs : ∀ b o u, H b = some (.frz o u) -> H' b = some (.frz o u)
 tbls : ∀ b ps, H b = some (.tbl ps) -> ∃ more, H' b = some (.tbl (ps ++ more))
section
variable {fs fs' ex ex' : List Addr} {H H1 H2 : Hp} {h h1 h2 h' : Heap} {a x e : Addr} {o : HO}
theorem Un.any (u : Un fs ex H H1 h h1) {b : Addr} {ob : Obj} (q : h.get? b = some ob) (n : H b = none) (hx : b ∉ ex) : ∃ sl, h1.get? b = some { ob with slots := sl } := by
 by_cases hb : b ∈ fs
 ·exact u.slot b ob q n hb hx
 ·exact ⟨ob.slots, u.keep b ob q n hb hx⟩
theorem Un.kept (k : ∀ b u, h.get? b = some u -> h'.get? b = some u) : Un fs ex H H h h' :=
 ⟨fun b ob q _ _ _ => k b ob q, fun b ob q _ _ _ => ⟨ob.slots, k b ob q⟩, fun _ _ _ n _ => n, fun b ob q _ => ⟨ob, k b ob q⟩, fun _ _ q => q, fun _ _ _ q => q, fun _ ps q => ⟨#[], by rw [q]; simp⟩⟩
theorem Un.refl : Un fs ex H H h h := Un.kept fun _ _ q => q
theorem Un.laid (k : ∀ b u, h.get? b = some u -> h'.get? b = some u) (hp : h.objs.size <= a) (hn : H a = none) : Un fs ex H (upd H a o) h h' where
 keep := fun b u q _ _ _ => k b u q
 slot := fun b u q _ _ _ => ⟨u.slots, k b u q⟩
 free := fun b u q n _ => by rw [zaG (Nat.ne_of_lt (Nat.lt_of_lt_of_le (Heap.lt_size q) hp))]; exact n
 there := fun b u q _ => ⟨u, k b u q⟩
 tups := fun b xs q => by rw [zaG (za4 q hn)]; exact q
 frzs := fun b u xs q => by rw [zaG (za4 q hn)]; exact q
 tbls := fun b ps q => ⟨#[], by rw [zaG (za4 q hn), q]; simp⟩
theorem Un.write (mu : Mut (H x)) (he : e = x ∨ H e = some (.own x)) (k : ∀ b u, b ≠ e -> h.get? b = some u -> h'.get? b = some u) (heo : ∃ u, h'.get? e = some u) : Un fs ex H (upd H x o) h h' := by
 have hx : ∀ b, H b = none -> b ≠ x := fun b n z => by subst z; rw [n] at mu; exact mu
 have hb : ∀ b, H b = none -> b ≠ e := fun b n z => by
  subst z
  rcases he with r | r
  ·exact hx b n r
  ·rw [n] at r; cases r
 have hm : ∀ b u, H b = some u -> ¬ Mut (some u) -> b ≠ x := fun b u q nm z => by subst z; rw [q] at mu; exact nm mu
 refine ⟨fun b u q n _ _ => k b u (hb b n) q, fun b u q n _ _ => ⟨u.slots, k b u (hb b n) q⟩, fun b u q n _ => by rw [zaG (hx b n)]; exact n, fun b u q _ => ?_,
  fun b xs q => by rw [zaG (hm b _ q fun z => z)]; exact q, fun b u xs q => by rw [zaG (hm b _ q fun z => z)]; exact q, fun b ps q => ⟨#[], by rw [zaG (hm b _ q fun z => z), q]; simp⟩⟩
 by_cases hbe : b = e
 ·subst hbe; exact heo
 ·exact ⟨u, k b u hbe q⟩
end
def trk (h : Heap) (H : Hp) : List Addr := (List.range h.objs.size).filter fun a => (H a).isSome
def hidT (h : Heap) (H : Hp) : Heap := PySem.W.hideAll h (trk h H)
theorem zhm (h : Heap) (H : Hp) : (hidT h H).objs.size = h.objs.size := PySem.W.hideAll_size _ _
theorem ziP {h : Heap} {H : Hp} {b : Addr} {o : Obj} (e : h.get? b = some o) (n : H b = none) : (hidT h H).get? b = some o :=
 PySem.W.hideAll_get _ e fun hm => by
  have q : (H b).isSome = true := (List.mem_filter.mp hm).2
  rw [n] at q; simp at q
theorem zj0 {h : Heap} {H : Hp} {b : Addr} {o : Obj} (e : (hidT h H).get? b = some o) : h.get? b = some o /\ H b = none := by
 have e' : h.get? b = some o := PySem.W.of_hideAll (trk h H) e
 refine ⟨e', ?_⟩
 cases q : H b with
 | none => rfl
 | some x =>
  have hm : b ∈ trk h H := List.mem_filter.mpr ⟨List.mem_range.mpr (Heap.lt_size e'), by simp [q]⟩
  have z : (hidT h H).get? b = none := PySem.W.hideAll_none (trk h H) hm
  rw [z] at e; cases e
end L2
namespace L2
open PySem PySem.Spec PyProof.Rows
structure Mod (K : PySem.W.Frag) (mg : Str -> Option Value) (base : Heap) : Prop where
 kin : K.In base
 glob : base.Ns mainGlobals mg
 blt : ∃ mb, base.Ns builtinsNs mb /\ ∀ x : Str, x ≠ "__name__" -> mb x = bootBuiltins x
 nolimit : base.NoLimit
structure Cx where
 prog : Program
 w : World
 K : PySem.W.Frag
 mg : Str -> Option Value
 base : Heap
 A : Around
 N : List Str
 s₀ : Shared
 H₀ : Hp
 env : Env
 outer : List Env
 stack : List Env
 ex : List Addr
 fn : Str -> Bool
 calm : Bool
 pn : List (Addr × Obj)
 xe : Value -> Shared -> Prop
def frs (l : List Env) : List Addr := l.filterMap (·.frame)
abbrev Cx.fs (X : Cx) : List Addr := frs X.outer
def Vis (sc : Scope) (x : Str) : Prop := sc.names.lookup x = some .local ∨ sc.names.lookup x = some .cell ∨ sc.names.lookup x = some .free
def Loc (sc : Scope) (x : Str) : Prop := sc.names.lookup x = some .local ∨ sc.names.lookup x = some .cell
def Look (env : Env) (h : Heap) (m : Str -> Option Value) (x : Str) (u : Value) : Prop :=
 (env.kindOf x = some .local /\ m x = some u) ∨ ((env.kindOf x = some .cell ∨ env.kindOf x = some .free) /\ ∃ c, env.cells.lookup x = some c /\ h.IsCell c (some u))
structure Cx.Ok (X : Cx) : Prop where
 mod : Mod X.K X.mg X.base
 kind : X.env.scope.kind = .function
 glob : X.env.globals = mainGlobals
 blt : X.env.builtins = builtinsNs
 above : X.s₀.heap.objs.size <= X.env.locals
 inj : ∀ x y c, X.env.cells.lookup x = some c -> X.env.cells.lookup y = some c -> x = y
 has : ∀ x, (X.env.kindOf x = some .cell ∨ X.env.kindOf x = some .free) -> ∃ c, X.env.cells.lookup x = some c
 cab : ∀ x c, X.fn x = true -> X.env.cells.lookup x = some c -> X.s₀.heap.objs.size <= c
 hd : X.calm = true -> X.A.handled = none
 frames : X.A.frames = some X.stack
 stk : X.stack = X.outer ∨ (X.stack = X.env :: X.outer /\ X.env.frame = some X.env.locals)
 exf : ∀ b ∈ X.ex, b ≠ X.env.locals /\ ∀ x c, X.env.cells.lookup x = some c -> c ≠ b
 bs : ∀ b o, X.base.get? b = some o -> X.s₀.heap.get? b = some o /\ X.H₀ b = none
 bsz : X.base.objs.size <= X.s₀.heap.objs.size
 noex : ∀ b o, X.base.get? b = some o -> b ∉ X.ex
 exfs : ∀ b ∈ X.ex, b ∉ X.fs
 funs : X.s₀.heap.FunFrames X.base X.outer
 frf : ∀ b ∈ X.fs, X.H₀ b = none
structure Inv (X : Cx) (pins : List (Addr × Obj)) (σ : List (Option V)) (H : Hp) (s : Shared) : Prop where
 ok : X.Ok
 os : s.os = X.s₀.os
 bare : AllBare s.gens
 base : Un X.fs X.ex X.H₀ H X.s₀.heap s.heap
 loc : ∃ m, s.heap.Ns X.env.locals m /\ ∀ (i : Nat) (x : Str) (v : V), X.N[i]? = some x -> σ[i]? = some (some v) -> Vis X.env.scope x -> ∃ u, RelV v u /\ Look X.env s.heap m x u
 cell : ∀ x c, X.env.cells.lookup x = some c -> ∃ v, s.heap.IsCell c v
 free : H X.env.locals = none
 freeC : ∀ x c, X.env.cells.lookup x = some c -> H c = none
 pin : ∀ p ∈ X.pn ++ pins, s.heap.get? p.1 = some p.2 /\ H p.1 = none /\ p.1 ≠ X.env.locals /\ p.1 ∉ X.fs /\ ∀ v, p.2.data ≠ .cell v
 hok : HOk X.prog X.w H s.heap
 len : σ.length = X.N.length
section
variable {X : Cx} {pins : List (Addr × Obj)} {σ : List (Option V)} {H H' : Hp} {s : Shared} {h' : Heap}
theorem Cx.Ok.nofr (ok : X.Ok) {b : Addr} {o : Obj} (e : X.base.get? b = some o) : b ∉ X.fs := fun hb => by
 have := (ok.funs.mem hb).1
 rw [e] at this; cases this
theorem Inv.bs (I : Inv X pins σ H s) : ∀ b o, X.base.get? b = some o -> s.heap.get? b = some o /\ H b = none := fun b o e =>
 ⟨I.base.keep b o (I.ok.bs b o e).1 (I.ok.bs b o e).2 (I.ok.nofr e) (I.ok.noex b o e), I.base.free b o (I.ok.bs b o e).1 (I.ok.bs b o e).2 (I.ok.noex b o e)⟩
theorem Inv.bk (I : Inv X pins σ H s) : ∀ b o, X.base.get? b = some o -> s.heap.get? b = some o := fun b o e => (I.bs b o e).1
theorem Inv.mod (I : Inv X pins σ H s) : Mod X.K X.mg X.base := I.ok.mod
theorem Inv.kIn (I : Inv X pins σ H s) : X.K.In s.heap := I.ok.mod.kin.keeps I.bk
theorem Inv.fr (I : Inv X pins σ H s) : ∃ m, Fr X.base X.env.locals s.heap m :=
 let ⟨m, hn, _⟩ := I.loc
 ⟨m, hn, I.bk, Nat.le_trans I.ok.bsz I.ok.above⟩
theorem Inv.lt (I : Inv X pins σ H s) : X.env.locals < s.heap.objs.size := let ⟨_, hn, _⟩ := I.loc; hn.lt
theorem Inv.sz (I : Inv X pins σ H s) : X.s₀.heap.objs.size <= s.heap.objs.size := Nat.le_trans I.ok.above (Nat.le_of_lt I.lt)
theorem Inv.nofs (I : Inv X pins σ H s) {a : Addr} (h : s.heap.objs.size <= a) : a ∉ X.fs := fun hb => by
 obtain ⟨_, o, ho, _⟩ := I.ok.funs.mem hb
 exact absurd (Nat.lt_of_lt_of_le (Heap.lt_size ho) (Nat.le_trans I.sz h)) (Nat.lt_irrefl _)
theorem Inv.cne (I : Inv X pins σ H s) : ∀ x c, X.env.cells.lookup x = some c -> c ≠ X.env.locals := fun x c e z => by
 obtain ⟨v, o, ho, hd⟩ := I.cell x c e
 obtain ⟨m, ⟨o', es, ep, ho', hd', _⟩, _⟩ := I.loc
 rw [z, ho'] at ho; cases ho; rw [hd'] at hd; cases hd
theorem Inv.funs (I : Inv X pins σ H s) : s.heap.FunFrames X.base X.outer := by
 have all : ∀ (l : List Env), (∀ b ∈ frs l, b ∈ X.fs) -> X.s₀.heap.FunFrames X.base l -> s.heap.FunFrames X.base l := by
  intro l
  induction l with
  | nil => intro _ _; trivial
  | cons env r ih =>
   intro hs hl
   obtain ⟨hk, ⟨L, o, hf, hn, ho, hd⟩, hr⟩ := hl
   have hL : L ∈ X.fs := hs L (by unfold frs; rw [List.filterMap_cons, hf]; exact List.mem_cons_self)
   obtain ⟨sl, e⟩ := I.base.slot L o ho (I.ok.frf L hL) hL fun z => I.ok.exfs L z hL
   exact ⟨hk, ⟨L, _, hf, hn, e, hd⟩, ih (fun b hb => hs b (by unfold frs; rw [List.filterMap_cons, hf]; exact List.mem_cons_of_mem _ hb)) hr⟩
 exact all X.outer (fun _ hb => hb) I.ok.funs
theorem Inv.stack (I : Inv X pins σ H s) : s.heap.FunFrames X.base X.stack := by
 rcases I.ok.stk with e | ⟨e, hf⟩
 ·rw [e]; exact I.funs
 ·rw [e]
  obtain ⟨m, hn, _⟩ := I.loc
  refine .cons (by rw [I.ok.kind]; decide) hf hn ?_ I.funs
  exact Heap.get?_none_of_le (Nat.le_trans I.ok.bsz I.ok.above)
theorem Inv.stkSub (I : Inv X pins σ H s) : ∀ b ∈ frs X.stack, b ∈ X.env.locals :: X.fs := fun b hb => by
 rcases I.ok.stk with e | ⟨e, hf⟩
 ·rw [e] at hb; exact List.mem_cons_of_mem _ hb
 ·rw [e] at hb
  unfold frs at hb
  rw [List.filterMap_cons, hf] at hb
  exact hb
theorem Inv.stkFree (I : Inv X pins σ H s) : ∀ b ∈ frs X.stack, H b = none := fun b hb => by
 rcases List.mem_cons.mp (I.stkSub b hb) with e | hb
 ·rw [e]; exact I.free
 ·obtain ⟨_, o, ho, _⟩ := I.ok.funs.mem hb
  exact I.base.free b o ho (I.ok.frf b hb) fun z => I.ok.exfs b z hb
theorem Inv.step {g' : Array GenState} {t' : Nat} {d' : Drawn} {ch : List Addr} (I : Inv X pins σ H s)
  (hch : ∀ b ∈ ch, (b ∈ X.ex ∨ X.s₀.heap.objs.size <= b) /\ b ≠ X.env.locals /\ (∀ x c, X.env.cells.lookup x = some c -> c ≠ b) /\ ∀ p ∈ X.pn ++ pins, p.1 ≠ b)
  (keep : ∀ b o, b ≠ X.env.locals -> b ∉ X.fs -> b ∉ ch -> s.heap.get? b = some o -> H b = none -> h'.get? b = some o)
  (slot : ∀ b o, b ≠ X.env.locals -> b ∈ X.fs -> b ∉ ch -> s.heap.get? b = some o -> H b = none -> ∃ sl, h'.get? b = some { o with slots := sl }) (free : ∀ b o, b ∉ ch -> s.heap.get? b = some o -> H b = none -> H' b = none)
  (there : ∀ b o, b ∉ ch -> s.heap.get? b = some o -> ∃ o', h'.get? b = some o')
  (tups : ∀ b xs, H b = some (.tup xs) -> H' b = some (.tup xs)) (frzs : ∀ b o u, H b = some (.frz o u) -> H' b = some (.frz o u)) (tbls : ∀ b ps, H b = some (.tbl ps) -> ∃ more, H' b = some (.tbl (ps ++ more)))
  (ns : ∀ m, s.heap.Ns X.env.locals m -> h'.Ns X.env.locals m) (hok : HOk X.prog X.w H' h') (hg : AllBare g') :
  Inv X pins σ H' { s with heap := h', gens := g', drawn := d', toks := t' } := by
 have neL : ∀ b o, X.s₀.heap.get? b = some o -> b ≠ X.env.locals := fun b o e => Nat.ne_of_lt (Nat.lt_of_lt_of_le (Heap.lt_size e) I.ok.above)
 have neC : ∀ b o, X.s₀.heap.get? b = some o -> b ∉ X.ex -> b ∉ ch := fun b o e hx hb => by
  rcases (hch b hb).1 with z | z
  ·exact hx z
  ·exact absurd (Nat.lt_of_lt_of_le (Heap.lt_size e) z) (Nat.lt_irrefl _)
 have cellK : ∀ x c, X.env.cells.lookup x = some c -> ∀ v, s.heap.IsCell c v -> h'.IsCell c v := fun x c e v ⟨o, ho, hd⟩ => by
  have nch : c ∉ ch := fun z => (hch c z).2.2.1 x c e rfl
  by_cases hc : c ∈ X.fs
  ·obtain ⟨sl, q⟩ := slot c o (I.cne x c e) hc nch ho (I.freeC x c e)
   exact ⟨_, q, hd⟩
  ·exact ⟨o, keep c o (I.cne x c e) hc nch ho (I.freeC x c e), hd⟩
 refine ⟨I.ok, I.os, hg, ⟨fun b o e n hb hx => ?_, fun b o e n hb hx => ?_, fun b o e n hx => ?_, fun b o e hx => ?_, fun b xs e => tups b xs (I.base.tups b xs e), fun b o xs e => frzs b o xs (I.base.frzs b o xs e), fun b ps e => ?_⟩, ?_, fun x c e => ?_, ?_, fun x c e => ?_, fun p hp => ?_, hok, I.len⟩
 ·exact keep b o (neL b o e) hb (neC b o e hx) (I.base.keep b o e n hb hx) (I.base.free b o e n hx)
 ·obtain ⟨sl, e1⟩ := I.base.slot b o e n hb hx
  obtain ⟨sl', e2⟩ := slot b _ (neL b o e) hb (neC b o e hx) e1 (I.base.free b o e n hx)
  exact ⟨sl', e2⟩
 ·obtain ⟨o', e1⟩ := I.base.there b o e hx
  exact free b o' (neC b o e hx) e1 (I.base.free b o e n hx)
 ·obtain ⟨o', e1⟩ := I.base.there b o e hx
  exact there b o' (neC b o e hx) e1
 ·obtain ⟨m1, e1⟩ := I.base.tbls b ps e
  obtain ⟨m2, e2⟩ := tbls b _ e1
  exact ⟨m1 ++ m2, by rw [e2, Array.append_assoc]⟩
 ·obtain ⟨m, hn, hl⟩ := I.loc
  refine ⟨m, ns m hn, fun i x v e1 e2 e3 => ?_⟩
  obtain ⟨u, r, l⟩ := hl i x v e1 e2 e3
  refine ⟨u, r, ?_⟩
  rcases l with l | ⟨k, c, e, z⟩
  ·exact .inl l
  ·exact .inr ⟨k, c, e, cellK x c e _ z⟩
 ·obtain ⟨v, z⟩ := I.cell x c e
  exact ⟨v, cellK x c e v z⟩
 ·obtain ⟨m, ⟨o, _, _, ho, _⟩, _⟩ := I.loc
  exact free _ o (fun z => (hch _ z).2.1 rfl) ho I.free
 ·obtain ⟨v, o, ho, hd⟩ := I.cell x c e
  exact free c o (fun z => (hch c z).2.2.1 x c e rfl) ho (I.freeC x c e)
 ·obtain ⟨e, n, ne, nf, d⟩ := I.pin p hp
  have nch : p.1 ∉ ch := fun z => (hch p.1 z).2.2.2 p hp rfl
  exact ⟨keep p.1 p.2 ne nf nch e n, free p.1 p.2 nch e n, ne, nf, d⟩
theorem Inv.un {t' : Nat} (I : Inv X pins σ H s) (u : Un X.fs [] H H' s.heap h') (hok : HOk X.prog X.w H' h') : Inv X pins σ H' { s with heap := h', toks := t' } := by
 obtain ⟨m, ⟨o, es, ep, ho, r⟩, _⟩ := id I.loc
 obtain ⟨sl, hL⟩ := u.any ho I.free (by simp)
 exact I.step (g' := s.gens) (d' := s.drawn) (ch := []) (fun _ z => nomatch z) (fun b o _ hb _ e n => u.keep b o e n hb (by simp)) (fun b o _ hb _ e n => u.slot b o e n hb (by simp)) (fun b o _ e n => u.free b o e n (by simp)) (fun b o _ e => u.there b o e (by simp)) u.tups u.frzs u.tbls (fun m' hm => by
  obtain ⟨o', es', ep', ho', r'⟩ := hm
  rw [ho] at ho'; cases ho'
  exact ⟨_, es', ep', hL, r'⟩) hok I.bare
theorem Inv.call {g' : Array GenState} {t' : Nat} {d' : Drawn} {ch : List Addr} (I : Inv X pins σ H s) (u : Un (frs X.stack) ch H H' s.heap h') (hok : HOk X.prog X.w H' h') (hg : AllBare g')
  (hch : ∀ b ∈ ch, (b ∈ X.ex ∨ X.s₀.heap.objs.size <= b) /\ b ≠ X.env.locals /\ (∀ x c, X.env.cells.lookup x = some c -> c ≠ b) /\ ∀ p ∈ X.pn ++ pins, p.1 ≠ b) :
  Inv X pins σ H' { s with heap := h', gens := g', drawn := d', toks := t' } := by
 obtain ⟨m, ⟨o, es, ep, ho, r⟩, _⟩ := id I.loc
 obtain ⟨sl, hL⟩ := u.any ho I.free fun z => (hch _ z).2.1 rfl
 exact I.step (ch := ch) hch (fun b o hL hb hc e n => u.keep b o e n (fun z => (List.mem_cons.mp (I.stkSub b z)).elim hL hb) hc) (fun b o _ _ hc e n => u.any e n hc) (fun b o hc e n => u.free b o e n hc) (fun b o hc e => u.there b o e hc) u.tups u.frzs u.tbls (fun m' hm => by
  obtain ⟨o', es', ep', ho', r'⟩ := hm
  rw [ho] at ho'; cases ho'
  exact ⟨_, es', ep', hL, r'⟩) hok hg
theorem Inv.turned {t' : Nat} {it : Addr} (I : Inv X pins σ H s) (k : ∀ b o, b ≠ it -> s.heap.get? b = some o -> h'.get? b = some o) (hn : H it = none) (hL : it ≠ X.env.locals)
  (h1 : it ∈ X.ex ∨ X.s₀.heap.objs.size <= it) (h2 : ∀ x c, X.env.cells.lookup x = some c -> c ≠ it) (h3 : ∀ p ∈ X.pn ++ pins, p.1 ≠ it) : Inv X pins σ H { s with heap := h', toks := t' } := by
 have nit : ∀ b u, H b = some u -> b ≠ it := fun b u e z => by rw [z, hn] at e; cases e
 refine I.step (g' := s.gens) (d' := s.drawn) (ch := [it]) (fun b hb => ?_) (fun b o _ _ hc e _ => k b o (fun z => hc (by simp [z])) e) (fun b o _ _ hc e _ => ⟨o.slots, k b o (fun z => hc (by simp [z])) e⟩) (fun _ _ _ _ n => n)
  (fun b o hc e => ⟨o, k b o (fun z => hc (by simp [z])) e⟩) (fun _ _ e => e) (fun _ _ _ e => e) (fun b ps e => ⟨#[], by rw [e]; simp⟩) (fun m hm => ?_) (fun b u e => ?_) I.bare
 ·have e : b = it := by simpa using hb
  subst e
  exact ⟨h1, hL, h2, h3⟩
 ·obtain ⟨o, es, ep, ho, r⟩ := hm
  exact ⟨o, es, ep, k _ o (Ne.symm hL) ho, r⟩
 ·refine (I.hok b u e).stay (fun c v hc q => k c v ?_ q) (fun _ q => q) fun _ _ q => q
  rcases hc with z | z
  ·rw [z]; exact nit b u e
  ·exact nit c _ z
theorem Inv.tok (I : Inv X pins σ H s) (t : Nat) : Inv X pins σ H { s with toks := t } := I.un (h' := s.heap) (t' := t) Un.refl I.hok
theorem Inv.kept {t' : Nat} (I : Inv X pins σ H s) (k : ∀ b u, s.heap.get? b = some u -> h'.get? b = some u) : Inv X pins σ H { s with heap := h', toks := t' } := I.un (Un.kept k) (I.hok.kept k)
theorem Inv.laid {a : Addr} {o : HO} {t' : Nat} (I : Inv X pins σ H s) (k : ∀ b u, s.heap.get? b = some u -> h'.get? b = some u) (hp : s.heap.objs.size <= a) (new : zcw X.prog X.w (upd H a o) h' a o) :
  Inv X pins σ (upd H a o) { s with heap := h', toks := t' } := I.un (Un.laid k hp (I.hok.fresh hp)) (I.hok.laid k hp new)
theorem Inv.write {x e : Addr} {o : HO} {t' : Nat} (I : Inv X pins σ H s) (mu : Mut (H x)) (he : e = x ∨ H e = some (.own x)) (k : ∀ b u, b ≠ e -> s.heap.get? b = some u -> h'.get? b = some u) (heo : ∃ u, h'.get? e = some u)
  (new : zcw X.prog X.w (upd H x o) h' x o) : Inv X pins σ (upd H x o) { s with heap := h', toks := t' } := I.un (Un.write mu he k heo) (I.hok.write mu he k heo new)
theorem Inv.pins_of {pins' : List (Addr × Obj)} (I : Inv X pins σ H s) (h : ∀ p ∈ pins', s.heap.get? p.1 = some p.2 /\ H p.1 = none /\ p.1 ≠ X.env.locals /\ p.1 ∉ X.fs /\ ∀ v, p.2.data ≠ .cell v) : Inv X pins' σ H s :=
 ⟨I.ok, I.os, I.bare, I.base, I.loc, I.cell, I.free, I.freeC, fun p hp => (List.mem_append.mp hp).elim (fun z => I.pin p (List.mem_append_left _ z)) (h p), I.hok, I.len⟩
theorem zgq {N : List Str} (hN : N.Nodup) {i j : Nat} {x : Str} (a : N[i]? = some x) (b : N[j]? = some x) : i = j := by
 obtain ⟨h1, e1⟩ := List.getElem?_eq_some_iff.mp a
 obtain ⟨h2, e2⟩ := List.getElem?_eq_some_iff.mp b
 exact (List.getElem_inj hN).mp (e1.trans e2.symm)
theorem zff {M : Model} {A : Around} {E : Value -> Shared -> Prop} {i : Nat} {x : Str} {v : V} {u : Value} {Q : Unit -> Shared -> Prop} (I : Inv X pins σ H s) (hN : X.N.Nodup) (hi : X.N[i]? = some x) (hx : Loc X.env.scope x) (r : RelV v u)
  (h : ∀ s', Inv X pins (σ.set i (some v)) H s' -> (∃ a, Heap.SameBut a s.heap s'.heap /\ (a = X.env.locals ∨ X.env.cells.lookup x = some a)) -> Q () s') (hf : X.fn x = true ∨ X.env.scope.names.lookup x = some .local := by first | exact .inl rfl | exact .inr rfl | assumption) : wpAny M A (storeName X.env x u) Q E s := by
 obtain ⟨m, hn, hl⟩ := id I.loc
 have hcls : (X.env.scope.kind == .class || (X.env.scope.kind == .module && X.env.locals != X.env.globals)) = false := by rw [I.ok.kind]; rfl
 have hiσ : i < σ.length := by rw [I.len]; exact (List.getElem?_eq_some_iff.mp hi).1
 have cne := I.cne
 have tracked : ∀ {a : Addr} {h' : Heap}, (∃ o, s.heap.get? a = some o /\ H a = none) -> Heap.SameBut a s.heap h' -> HOk X.prog X.w H h' := fun {a h'} ha hs b ob e => by
  obtain ⟨_, _, hfree⟩ := ha
  refine (I.hok b ob e).stay (fun c w' hc q => (hs.2 c ?_).trans q) (fun _ q => q) fun _ _ q => q
  rintro rfl
  rcases hc with rfl | hc
  ·rw [hfree] at e; cases e
  ·rw [hfree] at hc; cases hc
 rcases hx with hk | hk
 ·refine wpAny_storeName_local hk hn (fun h' hn' hs => ?_) hcls
  obtain ⟨oL, _, _, hoL, _⟩ := id hn
  refine h _ ⟨I.ok, I.os, I.bare, ⟨fun b o e n hb hx => ?_, fun b o e n hb hx => ?_, I.base.free, fun b o e hx => ?_, I.base.tups, I.base.frzs, I.base.tbls⟩, ⟨_, hn', fun j y v' e1 e2 e3 => ?_⟩, fun y c e => ?_, I.free, I.freeC, fun p hp => ?_, tracked ⟨oL, hoL, I.free⟩ hs, by simpa using I.len⟩ ⟨_, hs, .inl rfl⟩
  ·exact (hs.2 b (Nat.ne_of_lt (Nat.lt_of_lt_of_le (Heap.lt_size e) I.ok.above))).trans (I.base.keep b o e n hb hx)
  ·obtain ⟨sl, e1⟩ := I.base.slot b o e n hb hx
   exact ⟨sl, (hs.2 b (Nat.ne_of_lt (Nat.lt_of_lt_of_le (Heap.lt_size e) I.ok.above))).trans e1⟩
  ·obtain ⟨o', e1⟩ := I.base.there b o e hx
   exact ⟨o', (hs.2 b (Nat.ne_of_lt (Nat.lt_of_lt_of_le (Heap.lt_size e) I.ok.above))).trans e1⟩
  ·by_cases hj : j = i
   ·subst hj
    rw [hi] at e1; cases e1
    rw [List.getElem?_set_self hiσ] at e2
    cases e2
    exact ⟨u, r, .inl ⟨hk, by simp⟩⟩
   ·rw [List.getElem?_set_ne (Ne.symm hj)] at e2
    obtain ⟨u', r', q⟩ := hl j y v' e1 e2 e3
    refine ⟨u', r', ?_⟩
    rcases q with ⟨k, e⟩ | ⟨k, c, e, z⟩
    ·refine .inl ⟨k, ?_⟩
     have : y ≠ x := fun e => hj (zgq hN e1 (e ▸ hi))
     simp [this, e]
    ·exact .inr ⟨k, c, e, z.sameBut hs (cne y c e)⟩
  ·obtain ⟨w', z⟩ := I.cell y c e
   exact ⟨w', z.sameBut hs (cne y c e)⟩
  ·obtain ⟨e, n, ne, nf, d⟩ := I.pin p hp
   exact ⟨(hs.2 p.1 ne).trans e, n, ne, nf, d⟩
 ·have hfn : X.fn x = true := by
   rcases hf with z | z
   ·exact z
   ·rw [z] at hk; cases hk
  obtain ⟨c, hc⟩ := I.ok.has x (.inl hk)
  obtain ⟨w', z⟩ := I.cell x c hc
  refine wpAny_storeName_cell I.ok.kind hk hc z (fun h' hc' hs => ?_)
  obtain ⟨oc, hoc, hocd⟩ := id z
  refine h { s with heap := h' } ⟨I.ok, I.os, I.bare, ⟨fun b o e n hb hx => ?_, fun b o e n hb hx => ?_, I.base.free, fun b o e hx => ?_, I.base.tups, I.base.frzs, I.base.tbls⟩, ⟨m, hn.sameBut hs (Ne.symm (cne x c hc)), fun j y v' e1 e2 e3 => ?_⟩, fun y c' e => ?_, I.free, I.freeC, fun p hp => ?_, tracked ⟨oc, hoc, I.freeC x c hc⟩ hs, by simpa using I.len⟩ ⟨c, hs, .inr hc⟩
  ·exact (hs.2 b (Nat.ne_of_lt (Nat.lt_of_lt_of_le (Heap.lt_size e) (I.ok.cab x c hfn hc)))).trans (I.base.keep b o e n hb hx)
  ·obtain ⟨sl, e1⟩ := I.base.slot b o e n hb hx
   exact ⟨sl, (hs.2 b (Nat.ne_of_lt (Nat.lt_of_lt_of_le (Heap.lt_size e) (I.ok.cab x c hfn hc)))).trans e1⟩
  ·obtain ⟨o', e1⟩ := I.base.there b o e hx
   exact ⟨o', (hs.2 b (Nat.ne_of_lt (Nat.lt_of_lt_of_le (Heap.lt_size e) (I.ok.cab x c hfn hc)))).trans e1⟩
  ·by_cases hj : j = i
   ·subst hj
    rw [hi] at e1; cases e1
    rw [List.getElem?_set_self hiσ] at e2
    cases e2
    exact ⟨u, r, .inr ⟨.inl hk, c, hc, hc'⟩⟩
   ·rw [List.getElem?_set_ne (Ne.symm hj)] at e2
    obtain ⟨u', r', q⟩ := hl j y v' e1 e2 e3
    refine ⟨u', r', ?_⟩
    rcases q with q | ⟨k, c', e, z'⟩
    ·exact .inl q
    ·refine .inr ⟨k, c', e, z'.sameBut hs ?_⟩
     rintro rfl
     exact hj (zgq hN e1 (I.ok.inj _ _ _ e hc ▸ hi))
  ·by_cases hcc : c' = c
   ·subst hcc; exact ⟨_, hc'⟩
   ·obtain ⟨w2, z2⟩ := I.cell y c' e
    exact ⟨w2, z2.sameBut hs hcc⟩
  ·obtain ⟨e, n, ne, nf, d⟩ := I.pin p hp
   refine ⟨(hs.2 p.1 ?_).trans e, n, ne, nf, d⟩
   intro q
   rw [q, hoc] at e
   have q' : oc = p.2 := Option.some.inj e
   exact d w' (by rw [← q']; exact hocd)
theorem zdZ {M : Model} {A : Around} {E : Value -> Shared -> Prop} {i : Nat} {x : Str} {v : V} {u : Value} {Q : Unit -> Shared -> Prop} (I : Inv X pins σ H s) (hN : X.N.Nodup) (hi : X.N[i]? = some x) (hx : Loc X.env.scope x) (r : RelV v u)
  (h : ∀ s', Inv X pins (σ.set i (some v)) H s' -> Q () s') (hf : X.fn x = true ∨ X.env.scope.names.lookup x = some .local := by first | exact .inl rfl | exact .inr rfl | assumption) : wpAny M A (storeName X.env x u) Q E s :=
 zff I hN hi hx r (fun s' I' _ => h s' I') hf
theorem Inv.call' {s' : Shared} {ch : List Addr} (I : Inv X pins σ H s) (ho : s'.os = s.os) (u : Un (frs X.stack) ch H H' s.heap s'.heap) (hok : HOk X.prog X.w H' s'.heap) (hg : AllBare s'.gens)
  (hch : ∀ b ∈ ch, (b ∈ X.ex ∨ X.s₀.heap.objs.size <= b) /\ b ≠ X.env.locals /\ (∀ x c, X.env.cells.lookup x = some c -> c ≠ b) /\ ∀ p ∈ X.pn ++ pins, p.1 ≠ b) : Inv X pins σ H' s' := by
 obtain ⟨h', g', d', t', o'⟩ := s'
 have e : o' = s.os := ho
 subst e
 exact I.call (g' := g') (t' := t') (d' := d') u hok hg hch
end
abbrev XK := Value -> Option Addr -> Hp -> Prop
abbrev St := List (Option V)
abbrev VK := V -> Hp -> Prop
abbrev TE := St -> Hp -> VK -> Prop
abbrev TT := St -> Hp -> (Bool -> Hp -> Prop) -> Prop
abbrev TA := St -> Hp -> (List V -> Hp -> Prop) -> Prop
structure Ends where
 nx : St -> Hp -> Prop
 rt : VK
 bk : St -> Hp -> Prop := fun _ _ => False
 ct : St -> Hp -> Prop := fun _ _ => False
abbrev TS := Ends -> St -> Hp -> Prop
def EP (X : Cx) (pins : List (Addr × Obj)) (σ : St) (Q : VK) (u : Value) (s' : Shared) : Prop := ∃ v H', Inv X pins σ H' s' /\ RelV v u /\ Q v H'
def TP (X : Cx) (pins : List (Addr × Obj)) (σ : St) (Q : Bool -> Hp -> Prop) (b : Bool) (s' : Shared) : Prop := ∃ H', Inv X pins σ H' s' /\ Q b H'
def AP (X : Cx) (pins : List (Addr × Obj)) (σ : St) (Q : List V -> Hp -> Prop) (us : List Value) (s' : Shared) : Prop := ∃ vs H', Inv X pins σ H' s' /\ Vals vs us /\ Q vs H'
def SP (X : Cx) (pins : List (Addr × Obj)) (D : Ends) (f : Flow) (s' : Shared) : Prop :=
 match f with
 | .next => ∃ σ' H', Inv X pins σ' H' s' /\ D.nx σ' H'
 | .brk => ∃ σ' H', Inv X pins σ' H' s' /\ D.bk σ' H'
 | .cont => ∃ σ' H', Inv X pins σ' H' s' /\ D.ct σ' H'
 | .ret u => ∃ v σ' H', Inv X pins σ' H' s' /\ RelV v u /\ D.rt v H'
def PE (X : Cx) (e : Expr) (t : TE) : Prop :=
 ∀ (pins : List (Addr × Obj)) (s : Shared) (σ : St) (H : Hp) (Q : VK), Inv X pins σ H s -> t σ H Q -> wpAny (model X.prog X.w) X.A (eval e X.env) (EP X pins σ Q) X.xe s
def PT (X : Cx) (e : Expr) (t : TT) : Prop :=
 ∀ (pins : List (Addr × Obj)) (s : Shared) (σ : St) (H : Hp) (Q : Bool -> Hp -> Prop), Inv X pins σ H s -> t σ H Q -> wpAny (model X.prog X.w) X.A (isTrue e X.env (eval e X.env)) (TP X pins σ Q) X.xe s
def PW (X : Cx) (e : Expr) (t : TT) : Prop :=
 ∀ (whole : Sem Value) (pins : List (Addr × Obj)) (s : Shared) (σ : St) (H : Hp) (Q : Bool -> Hp -> Prop), Inv X pins σ H s -> t σ H Q -> wpAny (model X.prog X.w) X.A (isTrue e X.env whole) (TP X pins σ Q) X.xe s
theorem PW.pt {X : Cx} {e : Expr} {t : TT} (h : PW X e t) : PT X e t := h _
def PA (X : Cx) (es : List Expr) (t : TA) : Prop :=
 ∀ (pos : Pos) (pins : List (Addr × Obj)) (s : Shared) (σ : St) (H : Hp) (Q : List V -> Hp -> Prop), Inv X pins σ H s -> t σ H Q -> wpAny (model X.prog X.w) X.A (spliced (backTo pos (starEach es X.env))) (AP X pins σ Q) X.xe s
def PS (X : Cx) (st : Stmt) (t : TS) : Prop :=
 ∀ (pins : List (Addr × Obj)) (s : Shared) (σ : St) (H : Hp) (D : Ends), Inv X pins σ H s -> t D σ H -> wpAny (model X.prog X.w) X.A (exec st X.env) (SP X pins D) X.xe s
def PSs (X : Cx) (st : List Stmt) (t : TS) : Prop :=
 ∀ (pins : List (Addr × Obj)) (s : Shared) (σ : St) (H : Hp) (D : Ends), Inv X pins σ H s -> t D σ H -> wpAny (model X.prog X.w) X.A (execs st X.env) (SP X pins D) X.xe s
theorem thn {α : Type} {t : Sem α} {Q Q' : α -> Shared -> Prop} {M : Model} {A : Around} {E : Value -> Shared -> Prop} {s : Shared} (h : wpAny M A t Q E s) (hQ : ∀ a s, Q a s -> Q' a s) : wpAny M A t Q' E s := wpAny_mono h hQ fun _ _ x => x
end L2
namespace L2
open PySem PySem.Spec PyProof.Rows
section
variable {X : Cx}
def tVar (i : Nat) : TE := fun σ H Q => ∃ v, σ[i]? = some (some v) /\ Q v H
def tC (v : V) : TE := fun _ H Q => Q v H
theorem zjI {i : Nat} {x : Str} {pos : Pos} (hN : X.N[i]? = some x) (hv : Vis X.env.scope x) (hd : (x == ("__debug__" : Str)) = false := by decide) (hcd : (x == ("__classdict__" : Str)) = false := by decide) : PE X (.Name x pos) (tVar i) := by
 intro pins s σ H Q I h
 obtain ⟨v, e, h⟩ := h
 obtain ⟨m, hn, hl⟩ := I.loc
 obtain ⟨u, r, l⟩ := hl i x v hN e hv
 have fin : EP X pins σ Q u s := ⟨v, H, I, r, h⟩
 rcases l with ⟨hk, hm⟩ | ⟨hk, c, hc, hcell⟩
 ·exact wpAny_Name (wpAny_loadName_local I.ok.kind hk hn hm fin) hd
 ·rcases hk with hk | hk
  ·exact wpAny_Name (wpAny_loadName_cell I.ok.kind hk hc hcell fin) hd
  ·exact wpAny_Name (wpAny_loadName_free I.ok.kind hk hc hcell fin hcd) hd
theorem zlx {i j pos} : PE X (.Constant (.int i) j pos) (tC (.int i)) := fun _ _ _ H _ I h => wpAny_Constant_int ⟨.int i, H, I.tok _, ⟨_, rfl⟩, h⟩
theorem zmV {b j pos} : PE X (.Constant (.bool b) j pos) (tC (.bl b)) := fun _ _ _ H _ I h => Constant_bool ⟨.bl b, H, I, rfl, h⟩
theorem zly {j pos} : PE X (.Constant .none j pos) (tC .non) := fun _ _ _ H _ I h => Constant_none ⟨.non, H, I, rfl, h⟩
theorem zhn {x j pos} : PE X (.Constant (.str x) j pos) (tC (.str x)) := fun _ _ _ H _ I h => Calls.Constant_str ⟨.str x, H, I.tok _, ⟨_, rfl⟩, h⟩
def Gl (X : Cx) (x : Str) : Prop := X.env.kindOf x = some .globalImplicit
theorem zdD {E : Value -> Shared -> Prop} {pins : List (Addr × Obj)} {s : Shared} {σ : St} {H : Hp} {x : Str} {u : Value} {pos : Pos} {Q : Value -> Shared -> Prop} (I : Inv X pins σ H s) (hg : Gl X x) (hm : X.mg x = some u) (h : Q u s)
  (hd : (x == ("__debug__" : Str)) = false := by decide) : wpAny (model X.prog X.w) X.A (eval (.Name x pos) X.env) Q E s :=
 Calls.Name_function_global I.ok.kind hg (Calls.loadGlobal_global (by rw [I.ok.glob]; exact I.mod.glob.keeps I.bk) hm h) hd
theorem zd3 {E : Value -> Shared -> Prop} {pins : List (Addr × Obj)} {s : Shared} {σ : St} {H : Hp} {x : Str} {u : Value} {pos : Pos} {Q : Value -> Shared -> Prop} (I : Inv X pins σ H s) (hg : Gl X x) (hm : X.mg x = none) (hv : bootBuiltins x = some u) (h : Q u s)
  (hn : x ≠ "__name__" := by decide) (hd : (x == ("__debug__" : Str)) = false := by decide) : wpAny (model X.prog X.w) X.A (eval (.Name x pos) X.env) Q E s := by
 obtain ⟨mb, h1, h2⟩ := I.mod.blt
 exact Calls.Name_function_global I.ok.kind hg (Calls.loadGlobal_builtin (by rw [I.ok.glob]; exact I.mod.glob.keeps I.bk) hm (by rw [I.ok.blt]; exact h1.keeps I.bk) ((h2 x hn).trans hv) h) hd
theorem zho {x : Str} {v : V} {u : Value} {pos : Pos} (hg : Gl X x) (hm : X.mg x = some u) (r : RelV v u) (hd : (x == ("__debug__" : Str)) = false := by decide) : PE X (.Name x pos) (tC v) :=
 fun _ _ _ H _ I h => zdD I hg hm ⟨v, H, I, r, h⟩ hd
theorem zhp {x : Str} {v : V} {u : Value} {pos : Pos} (hg : Gl X x) (hm : X.mg x = none) (hv : bootBuiltins x = some u) (r : RelV v u) (hn : x ≠ "__name__" := by decide) (hd : (x == ("__debug__" : Str)) = false := by decide) : PE X (.Name x pos) (tC v) :=
 fun _ _ _ H _ I h => zd3 I hg hm hv ⟨v, H, I, r, h⟩ hn hd
variable {a b : Expr} {ta tb : TE} {pos : Pos}
def PC (X : Cx) (op : CmpOp) (a b : Expr) (t : TE) : Prop :=
 ∀ (pins : List (Addr × Obj)) (s : Shared) (σ : St) (H : Hp) (Q : VK), Inv X pins σ H s -> t σ H Q ->
  wpAny (model X.prog X.w) X.A (eval a X.env) (fun v s₁ => wpAny (model X.prog X.w) X.A (eval b X.env) (fun u s₂ => wpAny (model X.prog X.w) X.A (compareOp op v u) (EP X pins σ Q) X.xe s₂) X.xe s₁) X.xe s
theorem zgr (b : Expr) {op : CmpOp} (h : op ≠ .In) (h2 : op ≠ .NotIn) : behindInMarks op b = false := by
 have e1 : (op == CmpOp.In) = false := by cases op <;> first | rfl | exact absurd rfl h
 have e2 : (op == CmpOp.NotIn) = false := by cases op <;> first | rfl | exact absurd rfl h2
 cases b <;> simp [behindInMarks, e1, e2]
def tIsN (ta : TE) : TE := fun σ H Q => ta σ H fun x H1 => Q (.bl (decide (x = .non))) H1
theorem RelV.none_iff {x : V} {v : Value} (r : RelV x v) : (v == Value.none) = decide (x = .non) := by
 cases x with
 | non => cases r; rfl
 | bl _ => cases r; rfl
 | int _ => obtain ⟨t, rfl⟩ := r; rfl
 | str _ => obtain ⟨t, rfl⟩ := r; rfl
 | byt _ => obtain ⟨t, rfl⟩ := r; rfl
 | flt _ => obtain ⟨t, rfl⟩ := r; rfl
 | ref _ => cases r; rfl
 | ty _ => cases r; rfl
theorem zjJ {j pos'} (ha : PE X a ta) : PC X .Is a (.Constant .none j pos') (tIsN ta) := by
 intro pins s σ H Q I h
 refine thn (ha pins s σ H _ I h) fun v s1 ⟨x, H1, I1, r1, q1⟩ => ?_
 exact Constant_none (is_none_gen ⟨.bl _, H1, I1, by rw [r1.none_iff]; rfl, q1⟩)
def tB (t : TE) : TT := fun σ H Q => t σ H fun x H1 => ∃ c, x = .bl c /\ Q c H1
theorem zlz {op : CmpOp} {t : TE} (h : PC X op a b t) (h1 : behindInMarks op b = false := by first | exact zgr _ (by decide) (by decide) | rfl) : PE X (.Compare a [op] [b] pos) t := fun pins s σ H Q I hw => wpAny_Compare1 (h pins s σ H Q I hw) h1
theorem zlA {op : CmpOp} {t : TE} (h : PC X op a b t) (h1 : behindInMarks op b = false := by first | exact zgr _ (by decide) (by decide) | rfl) : PT X (.Compare a [op] [b] pos) (tB t) := by
 intro pins s σ H Q I hw
 refine wpAny_isTrue_Compare1 (thn (h pins s σ H _ I hw) fun v s1 h1 => thn h1 fun u s2 h2 => thn h2 fun c s3 ⟨x, H1, I1, r1, q1⟩ => ?_) h1
 obtain ⟨d, rfl, q⟩ := q1
 cases r1
 exact wpAny_truthy_bool ⟨H1, I1, q⟩
theorem zlB {e : Expr} {t : TE} (h : PE X e t) (he : ∀ whole, isTrue e X.env whole = (do let v ← whole; standAt e.pos; holding [v] (truthy v)) := by intro _; rfl) : PT X e (tB t) := by
 intro pins s σ H Q I hw
 refine isTrue_plain (thn (h pins s σ H _ I hw) fun v s1 ⟨x, H1, I1, r1, q1⟩ => ?_) (he _)
 obtain ⟨d, rfl, q⟩ := q1
 cases r1
 exact wpAny_truthy_bool ⟨H1, I1, q⟩
variable {tA tB' : TT} {rest : List Expr}
def tAnd (t u : TT) : TT := fun σ H Q => t σ H fun c H1 => if c = true then u σ H1 Q else Q false H1
def tOr (t u : TT) : TT := fun σ H Q => t σ H fun c H1 => if c = true then Q true H1 else u σ H1 Q
def tNot (t : TT) : TT := fun σ H Q => t σ H fun c H1 => Q (!c) H1
theorem zj1 (ha : PT X a tA) : PW X (.BoolOp .And [a] pos) tA := by
 intro wh pins s σ H Q I h
 refine isTrue_and (thn (ha pins s σ H Q I h) fun c s1 e => ?_)
 cases c with
 | true => exact isTrue_and_nil e
 | false => exact e
theorem zlC (ha : PT X a tA) : PW X (.BoolOp .Or [a] pos) tA := by
 intro wh pins s σ H Q I h
 refine isTrue_or (thn (ha pins s σ H Q I h) fun c s1 e => ?_)
 cases c with
 | false => exact isTrue_or_nil e
 | true => exact e
theorem zlD (ha : PT X a tA) (hb : PW X (.BoolOp .And (b :: rest) pos) tB') : PW X (.BoolOp .And (a :: b :: rest) pos) (tAnd tA tB') := by
 intro wh pins s σ H Q I h
 refine isTrue_and (thn (ha pins s σ H _ I h) fun c s1 ⟨H1, I1, q1⟩ => ?_)
 cases c with
 | true => exact hb wh pins s1 σ H1 Q I1 q1
 | false => exact ⟨H1, I1, q1⟩
theorem zmW (ha : PT X a tA) (hb : PW X (.BoolOp .Or (b :: rest) pos) tB') : PW X (.BoolOp .Or (a :: b :: rest) pos) (tOr tA tB') := by
 intro wh pins s σ H Q I h
 refine isTrue_or (thn (ha pins s σ H _ I h) fun c s1 ⟨H1, I1, q1⟩ => ?_)
 cases c with
 | true => exact ⟨H1, I1, q1⟩
 | false => exact hb wh pins s1 σ H1 Q I1 q1
theorem zlE (ha : PT X a tA) : PT X (.UnaryOp .Not a pos) (tNot tA) := by
 intro pins s σ H Q I h
 exact isTrue_not (ha pins s σ H (fun c H1 => Q (!c) H1) I h)
def zmX (ta tb : TE) : TE := fun σ H Q => ta σ H fun x H1 => ∃ c, x = .bl c /\ if c = true then tb σ H1 Q else Q (.bl false) H1
def zmY (ta : TE) : TE := fun σ H Q => ta σ H fun x H1 => ∃ c, x = .bl c /\ Q (.bl (!c)) H1
theorem zlF {op} {t : TE} (h : PE X a t) : PE X (.BoolOp op [a] pos) t := fun pins s σ H Q I hw => BoolOp_one (h pins s σ H Q I hw)
theorem zlG (ha : PE X a ta) (hb : PE X (.BoolOp .And (b :: rest) pos) tb) : PE X (.BoolOp .And (a :: b :: rest) pos) (zmX ta tb) := by
 intro pins s σ H Q I h
 refine BoolOp_and (thn (ha pins s σ H _ I h) fun v s1 ⟨x, H1, I1, r1, q1⟩ => ?_)
 obtain ⟨c, rfl, q1⟩ := q1
 cases r1
 refine wpAny_truthy_bool ?_
 cases c with
 | true => exact hb pins s1 σ H1 Q I1 q1
 | false => exact ⟨.bl false, H1, I1, rfl, q1⟩
theorem zlH (ha : PE X a ta) : PE X (.UnaryOp .Not a pos) (zmY ta) := by
 intro pins s σ H Q I h
 refine UnaryOp_ (thn (ha pins s σ H _ I h) fun v s1 ⟨x, H1, I1, r1, q1⟩ => ?_)
 obtain ⟨c, rfl, q1⟩ := q1
 cases r1
 exact not_of (wpAny_truthy_bool ⟨.bl (!c), H1, I1, rfl, q1⟩)
end
end L2
namespace L2
open PySem PySem.Spec PyProof.Rows
def SqL (K : PySem.W.Frag) (H : Hp) (a : Addr) (xs : List V) : Prop :=
 Rd H a (.lst xs) ∨
  ∃ (o : Obj) (its : Array Value) (n : Nat), K.lookup a = some o /\ o.cls = .type "list" /\ o.dict = none /\ o.data = .seq its n /\ its.size <= sizeLine /\ Vals xs its.toList
def SqT (K : PySem.W.Frag) (H : Hp) (a : Addr) (xs : List V) : Prop :=
 Rd H a (.tup xs) ∨
  ∃ (o : Obj) (its : Array Value) (n : Nat), K.lookup a = some o /\ o.cls = .type "tuple" /\ o.data = .seq its n /\ its.size <= sizeLine /\ Vals xs its.toList
def absV : Value -> Option V
 | .none => some .non
 | .bool b => some (.bl b)
 | .int i _ => some (.int i)
 | .str x _ => some (.str x)
 | .bytes b _ => some (.byt b)
 | .float b _ => some (.flt b)
 | .ref a => some (.ref a)
 | .type n => some (.ty n)
 | _ => none
theorem RelV.abs {x : V} {u : Value} (r : RelV x u) : absV u = some x := by
 cases x with
 | non => cases r; rfl
 | bl _ => cases r; rfl
 | int _ => obtain ⟨t, rfl⟩ := r; rfl
 | str _ => obtain ⟨t, rfl⟩ := r; rfl
 | byt _ => obtain ⟨t, rfl⟩ := r; rfl
 | flt _ => obtain ⟨t, rfl⟩ := r; rfl
 | ref _ => cases r; rfl
 | ty _ => cases r; rfl
theorem RelV.inj {x y : V} {u : Value} (r : RelV x u) (q : RelV y u) : x = y := Option.some.inj (r.abs.symm.trans q.abs)
theorem Vals.inj : ∀ {xs ys : List V} {us : List Value}, Vals xs us -> Vals ys us -> xs = ys
 | _, _, _, .nil, .nil => rfl
 | _, _, _, .cons r t, .cons r' t' => by rw [r.inj r', Vals.inj t t']
section
variable {X : Cx} {pins : List (Addr × Obj)} {σ : St} {H : Hp} {s : Shared} {a : Addr} {xs ys : List V}
theorem SqL.of {K : PySem.W.Frag} (h : H a = some (.lst xs)) : SqL K H a xs := .inl (.inl h)
theorem SqT.of {K : PySem.W.Frag} (h : H a = some (.tup xs)) : SqT K H a xs := .inl (.inl h)
theorem Inv.list (I : Inv X pins σ H s) (h : SqL X.K H a xs) : ∃ its : List Value, Vals xs its /\ PlainL s.heap a its.toArray /\ xs.length <= sizeLine := by
 rcases h with h | ⟨o, its, n, hk, hc, hd, hs, hz, r⟩
 ·obtain ⟨z, its, n, r, e⟩ := h.ok I.hok
  exact ⟨its, r, ⟨_, n, e, rfl, rfl, rfl⟩, z⟩
 ·refine ⟨its.toList, r, ⟨o, n, I.kIn a o hk, hc, hd, by simpa using hs⟩, ?_⟩
  have e := r.length
  simp only [Array.length_toList] at e
  omega
theorem Inv.tuple (I : Inv X pins σ H s) (h : SqT X.K H a xs) : ∃ its : List Value, Vals xs its /\ IsTup s.heap a its.toArray /\ xs.length <= sizeLine := by
 rcases h with h | ⟨o, its, n, hk, hc, hs, hz, r⟩
 ·obtain ⟨z, its, r, p⟩ := h.ok I.hok
  exact ⟨its, r, p, z⟩
 ·refine ⟨its.toList, r, ⟨o, I.kIn a o hk, hc, n, by simpa using hs⟩, ?_⟩
  have e := r.length
  simp only [Array.length_toList] at e
  omega
theorem Inv.list_inj (I : Inv X pins σ H s) (h : SqL X.K H a xs) (h' : SqL X.K H a ys) : xs = ys := by
 obtain ⟨its, r, ⟨o, n, e, _, _, d⟩, _⟩ := I.list h
 obtain ⟨its', r', ⟨o', n', e', _, _, d'⟩, _⟩ := I.list h'
 rw [e] at e'; cases e'
 rw [d] at d'
 injection d' with d1 _
 have : its = its' := by simpa using congrArg Array.toList d1
 subst this
 exact r.inj r'
theorem Inv.tuple_inj (I : Inv X pins σ H s) (h : SqT X.K H a xs) (h' : SqT X.K H a ys) : xs = ys := by
 obtain ⟨its, r, ⟨o, e, _, n, d⟩, _⟩ := I.tuple h
 obtain ⟨its', r', ⟨o', e', _, n', d'⟩, _⟩ := I.tuple h'
 rw [e] at e'; cases e'
 rw [d] at d'
 injection d' with d1 _
 have : its = its' := by simpa using congrArg Array.toList d1
 subst this
 exact r.inj r'
end
abbrev Cx.wish (X : Cx) (E : Value -> Shared -> Prop) : Cx := { X with xe := E }
abbrev Cx.nox (X : Cx) : Cx := X.wish fun _ _ => False
theorem Cx.Ok.wish {X : Cx} (ok : X.Ok) (E : Value -> Shared -> Prop) : (X.wish E).Ok :=
 ⟨ok.mod, ok.kind, ok.glob, ok.blt, ok.above, ok.inj, ok.has, ok.cab, ok.hd, ok.frames, ok.stk, ok.exf, ok.bs, ok.bsz, ok.noex, ok.exfs, ok.funs, ok.frf⟩
theorem Cx.Ok.unwish {X : Cx} {E : Value -> Shared -> Prop} (ok : (X.wish E).Ok) : X.Ok :=
 ⟨ok.mod, ok.kind, ok.glob, ok.blt, ok.above, ok.inj, ok.has, ok.cab, ok.hd, ok.frames, ok.stk, ok.exf, ok.bs, ok.bsz, ok.noex, ok.exfs, ok.funs, ok.frf⟩
section
variable {X : Cx} {pins : List (Addr × Obj)} {σ : St} {H : Hp} {s : Shared} {E : Value -> Shared -> Prop}
theorem Inv.wish (I : Inv X pins σ H s) (E : Value -> Shared -> Prop) : Inv (X.wish E) pins σ H s := ⟨I.ok.wish E, I.os, I.bare, I.base, I.loc, I.cell, I.free, I.freeC, I.pin, I.hok, I.len⟩
theorem Inv.unwish (I : Inv (X.wish E) pins σ H s) : Inv X pins σ H s := ⟨I.ok.unwish, I.os, I.bare, I.base, I.loc, I.cell, I.free, I.freeC, I.pin, I.hok, I.len⟩
theorem SP.unwish {D : Ends} {f : Flow} {s' : Shared} (h : SP (X.wish E) pins D f s') : SP X pins D f s' := by
 cases f with
 | next => obtain ⟨σ', H', I, q⟩ := h; exact ⟨σ', H', I.unwish, q⟩
 | brk => obtain ⟨σ', H', I, q⟩ := h; exact ⟨σ', H', I.unwish, q⟩
 | cont => obtain ⟨σ', H', I, q⟩ := h; exact ⟨σ', H', I.unwish, q⟩
 | ret u => obtain ⟨v, σ', H', I, r, q⟩ := h; exact ⟨v, σ', H', I.unwish, r, q⟩
theorem PSs.nox {st : List Stmt} {t : TS} (h : PSs X.nox st t) : PSs X st t := fun pins s σ H D I hw =>
 wpAny_mono (h pins s σ H D (I.wish _) hw) (fun _ _ q => q.unwish) fun _ _ z => False.elim z
end
section
variable {X : Cx} {st : Stmt} {rest : List Stmt} {t u : TS} {e : Expr} {te : TE} {pos : Pos}
def zmZ : TS := fun D σ H => D.nx σ H
def tSeq (t u : TS) : TS := fun D σ H => t { D with nx := u D } σ H
theorem zj2 : PSs X [] zmZ := fun _ _ σ H _ I h => wpAny_execs_nil ⟨σ, H, I, h⟩
theorem zeQ (h1 : PS X st t) (h2 : PSs X rest u) : PSs X (st :: rest) (tSeq t u) := by
 intro pins s σ H D I h
 refine wpAny_execs_cons (thn (h1 pins s σ H { D with nx := u D } I h) fun f s1 q => ?_)
 cases f with
 | next =>
  obtain ⟨σ', H', I', q⟩ := q
  exact h2 pins s1 σ' H' D I' q
 | ret v => exact q
 | brk => exact q
 | cont => exact q
theorem zfX (h1 : PS X st t) : PSs X [st] t := by
 intro pins s σ H D I h
 refine wpAny_execs_cons (thn (h1 pins s σ H D I h) fun f s1 q => ?_)
 cases f with
 | next => exact wpAny_execs_nil q
 | ret v => exact q
 | brk => exact q
 | cont => exact q
theorem Inv.quiet {pins : List (Addr × Obj)} {σ : St} {H : Hp} {s : Shared} (I : Inv X pins σ H s) : interactive X.env = false := by simp [interactive, I.ok.kind]
def zj3 (te : TE) : TS := fun D σ H => te σ H fun _ H1 => D.nx σ H1
theorem zeR (he : PE X e te) (hs : swapsWith e none pos.line X.env = pure false := by rfl) : PS X (.Expr e pos) (zj3 te) := by
 intro pins s σ H D I h
 exact wpAny_Expr_any (thn (he pins s σ H _ I h) fun v s1 ⟨x, H1, I1, r1, q1⟩ => ⟨σ, H1, I1, q1⟩) I.quiet hs
def tRet (te : TE) : TS := fun D σ H => te σ H D.rt
theorem zlI (he : PE X e te) : PS X (.Return (some e) pos) (tRet te) := by
 intro pins s σ H D I h
 exact wpAny_Return_some (thn (he pins s σ H _ I h) fun v s1 ⟨x, H1, I1, r1, q1⟩ => ⟨x, σ, H1, I1, r1, q1⟩)
def tIfS (c : TT) (t u : TS) : TS := fun D σ H => c σ H fun b H1 => if b = true then t D σ H1 else u D σ H1
theorem zm0 {c : Expr} {a b : List Stmt} {tc : TT} (hc : PT X c tc) (ha : PSs X a t) (hb : PSs X b u) : PS X (.If c a b pos) (tIfS tc t u) := by
 intro pins s σ H D I h
 refine wpAny_If (thn (hc pins s σ H _ I h) fun d s1 ⟨H1, I1, q1⟩ => ?_)
 cases d with
 | true => exact ha pins s1 σ H1 D I1 q1
 | false => exact hb pins s1 σ H1 D I1 q1
end
abbrev TG := V -> St -> Hp -> (St -> Hp -> Prop) -> Prop
abbrev TGs := List V -> St -> Hp -> (St -> Hp -> Prop) -> Prop
def PG (X : Cx) (target : Expr) (t : TG) : Prop :=
 ∀ (pins : List (Addr × Obj)) (s : Shared) (σ : St) (H : Hp) (v : V) (u : Value) (Q : St -> Hp -> Prop), Inv X pins σ H s -> RelV v u -> t v σ H Q ->
  wpAny (model X.prog X.w) X.A (assign target X.env u) (fun _ s' => ∃ σ' H', Inv X pins σ' H' s' /\ Q σ' H') X.xe s
def PGs (X : Cx) (ts : List Expr) (t : TGs) : Prop :=
 ∀ (pins : List (Addr × Obj)) (s : Shared) (σ : St) (H : Hp) (vs : List V) (us : List Value) (Q : St -> Hp -> Prop), Inv X pins σ H s -> Vals vs us -> t vs σ H Q ->
  wpAny (model X.prog X.w) X.A (assignInOrder ((assignEach ts X.env).map (·.2)) us) (fun _ s' => ∃ σ' H', Inv X pins σ' H' s' /\ Q σ' H') X.xe s
section
variable {X : Cx} {pos : Pos}
def zj4 (i : Nat) : TG := fun v σ H Q => Q (σ.set i (some v)) H
theorem zaC {i : Nat} {x : Str} (hN : X.N.Nodup) (hi : X.N[i]? = some x) (hx : Loc X.env.scope x) (hf : X.fn x = true ∨ X.env.scope.names.lookup x = some .local := by first | exact .inl rfl | exact .inr rfl | assumption) : PG X (.Name x pos) (zj4 i) := by
 intro pins s σ H v u Q I r h
 exact wpAny_assign_Name (zdZ I hN hi hx r (fun s' I' => ⟨_, H, I', h⟩) hf)
def gNil : TGs := fun vs σ H Q => vs = [] /\ Q σ H
def zm1 (t : TG) (u : TGs) : TGs := fun vs σ H Q => ∃ v r, vs = v :: r /\ t v σ H fun σ' H' => u r σ' H' Q
theorem zj5 : PGs X [] gNil := by
 intro pins s σ H vs us Q I r h
 obtain ⟨e, h⟩ := h
 subst e
 cases r
 exact assignInOrder_nil ⟨σ, H, I, h⟩
theorem ziQ {e : Expr} {es : List Expr} {t : TG} {u : TGs} (h1 : PG X e t) (h2 : PGs X es u)
  (hs : (assignEach (e :: es) X.env).map (·.2) = assign e X.env :: (assignEach es X.env).map (·.2) := by rfl) : PGs X (e :: es) (zm1 t u) := by
 intro pins s σ H vs us Q I r h
 obtain ⟨v, vr, e1, h⟩ := h
 subst e1
 cases r with
 | cons r rr =>
  rw [hs]
  refine assignInOrder_cons (thn (h1 pins s σ H _ _ _ I r h) fun _ s1 ⟨σ1, H1, I1, q1⟩ => ?_)
  exact h2 pins s1 σ1 H1 _ _ Q I1 rr q1
def gTup (K : PySem.W.Frag) (n : Nat) (t : TGs) : TG := fun v σ H Q => ∃ a xs, v = .ref a /\ SqT K H a xs /\ xs.length = n /\ t xs σ H Q
theorem zlJ {es : List Expr} {k : Nat} {t : TGs} {n : Nat} (hc : X.calm = true) (h : PGs X es t)
  (hn : (assignEach es X.env).length = n := by rfl) (hst : (assignEach es X.env).findIdx? (·.1) = none := by rfl) : PG X (.Tuple es k pos) (gTup X.K n t) := by
 intro pins s σ H v u Q I r hw
 obtain ⟨a, xs, e1, hq, hl, hw⟩ := hw
 subst e1
 cases r
 obtain ⟨its, rv, ht, hz⟩ := I.tuple hq
 refine assign_Tuple_tuple (I.ok.hd hc) ht (by simp [hn, ← hl, rv.length]) hst fun h' hx => ?_
 have I1 : Inv X pins σ H { s with heap := h' } := I.kept (t' := s.toks) fun b o e => hx b o (Nat.ne_of_lt (Heap.lt_size e)) e
 exact h pins _ σ H xs _ Q I1 (by simpa using rv) hw
def tAsg (te : TE) (g : TG) : TS := fun D σ H => te σ H fun x H1 => g x σ H1 D.nx
theorem zlK {tg e : Expr} {te : TE} {g : TG} (he : PE X e te) (hg : PG X tg g) (hs : swapsWithSole [tg] e pos.line X.env = pure false := by rfl) (hw : swappedStores [tg] e X.env = pure none := by rfl)
  (h1 : (assignEach [tg] X.env).map (·.2) = [assign tg X.env] := by rfl) : PS X (.Assign [tg] e pos) (tAsg te g) := by
 intro pins s σ H D I h
 refine wpAny_Assign_stores (thn (he pins s σ H _ I h) fun v s1 ⟨x, H1, I1, r1, q1⟩ => ?_) hs hw
 rw [h1]
 exact thn (hg pins s1 σ H1 x v _ I1 r1 q1) fun _ s2 q => q
theorem zhq {i : Nat} {x : Str} {e : Expr} {te : TE} {pos' : Pos} (hN : X.N.Nodup) (hi : X.N[i]? = some x) (hx : Loc X.env.scope x) (he : PE X e te) (hs : swapsWith e (some (.Name x pos')) pos.line X.env = pure false := by rfl) (hf : X.fn x = true ∨ X.env.scope.names.lookup x = some .local := by first | exact .inl rfl | exact .inr rfl | assumption) :
  PS X (.Assign [.Name x pos'] e pos) (tAsg te (zj4 i)) := by
 intro pins s σ H D I h
 refine wpAny_Assign_Name (thn (he pins s σ H _ I h) fun v s1 ⟨y, H1, I1, r1, q1⟩ => ?_) hs
 exact zdZ I1 hN hi hx r1 (fun s2 I2 => ⟨_, H1, I2, q1⟩) hf
end
section
variable {X : Cx} {pos : Pos}
end
structure It where
 go : Nat -> Hp -> Prop
 yld : Nat -> Hp -> V -> Hp -> Prop
 stop : Nat -> Hp -> Prop
def FpOk (X : Cx) (pins : List (Addr × Obj)) (H : Hp) (b : Addr) : Prop :=
 H b = none /\ b ≠ X.env.locals /\ b ∉ X.fs /\ (b ∈ X.ex ∨ X.s₀.heap.objs.size <= b) /\ (∀ x c, X.env.cells.lookup x = some c -> c ≠ b) /\ ∀ p ∈ X.pn ++ pins, p.1 ≠ b
theorem Inv.fpOk {X : Cx} {pins : List (Addr × Obj)} {σ : St} {H H' : Hp} {s : Shared} {b : Addr} (I : Inv X pins σ H s) (hb : s.heap.objs.size <= b) (hn : H' b = none) : FpOk X pins H' b := by
 refine ⟨hn, Nat.ne_of_gt (Nat.lt_of_lt_of_le I.lt hb), I.nofs hb, .inr (Nat.le_trans I.sz hb), fun x c e z => ?_, fun p hp z => ?_⟩
 ·obtain ⟨v, q⟩ := I.cell x c e
  exact absurd (Nat.lt_of_lt_of_le q.lt (by rw [z]; exact hb)) (Nat.lt_irrefl _)
 ·exact absurd (Nat.lt_of_lt_of_le (Heap.lt_size (I.pin p hp).1) (by rw [z]; exact hb)) (Nat.lt_irrefl _)
structure Turn (P : Program) (w : World) (K : PySem.W.Frag) (tg : Expr) (J : It) (fp : List Addr) (it : Addr) (tn : Nat -> Heap -> Prop) : Prop where
 mem : it ∈ fp
 obj : ∀ i h, tn i h -> ∀ b ∈ fp, ∃ o, h.get? b = some o /\ ∀ v, o.data ≠ .cell v
 keep : ∀ i h h', tn i h -> (∀ b ∈ fp, ∀ o, h.get? b = some o -> h'.get? b = some o) -> tn i h'
 item : ∀ (X : Cx), X.prog = P -> X.w = w -> X.K = K -> X.calm = true -> ∀ (i : Nat) (pins : List (Addr × Obj)) (s : Shared) (σ : St) (H : Hp) (E : Value -> Shared -> Prop), Inv X pins σ H s -> (∀ b ∈ fp, FpOk X pins H b) -> tn i s.heap -> J.go i H ->
  wpAny (model P w) X.A (pyNext (.ref it)) (fun r s1 => ∃ u, r = some u /\
   wpAny (model P w) X.A (letOwnedTupleGo tg (.ref it) u) (fun _ s2 => ∃ x H', Inv X pins σ H' s2 /\ RelV x u /\ J.yld i H x H' /\ tn (i + 1) s2.heap /\ ∀ b ∈ fp, H' b = none) E s1) E s
 done : ∀ (X : Cx), X.prog = P -> X.w = w -> X.K = K -> X.calm = true -> ∀ (i : Nat) (pins : List (Addr × Obj)) (s : Shared) (σ : St) (H : Hp) (E : Value -> Shared -> Prop), Inv X pins σ H s -> (∀ b ∈ fp, FpOk X pins H b) -> tn i s.heap -> J.stop i H ->
  wpAny (model P w) X.A (pyNext (.ref it)) (fun r s1 => r = none /\ Inv X pins σ H s1) E s
 self : ∀ (A : Around) (i : Nat) (s : Shared) (Q : Value -> Shared -> Prop) (E : Value -> Shared -> Prop), tn i s.heap -> Q (.ref it) s -> wpAny (model P w) A (pyIter (.ref it)) Q E s
abbrev TI := St -> Hp -> (It -> Hp -> Prop) -> Prop
def PIE (X : Cx) (pins : List (Addr × Obj)) (σ : St) (tg : Expr) (R : It -> Hp -> Prop) (itv : Value) (s2 : Shared) : Prop :=
 ∃ (it : Addr) (fp : List Addr) (tn : Nat -> Heap -> Prop) (J : It) (H' : Hp), itv = .ref it /\ Inv X pins σ H' s2 /\ Turn X.prog X.w X.K tg J fp it tn /\ tn 0 s2.heap /\ (∀ b ∈ fp, FpOk X pins H' b) /\ R J H'
def PI (X : Cx) (tg iter : Expr) (wi : TI) : Prop :=
 ∀ (pins : List (Addr × Obj)) (s : Shared) (σ : St) (H : Hp) (R : It -> Hp -> Prop), Inv X pins σ H s -> wi σ H R ->
  wpAny (model X.prog X.w) X.A (eval iter X.env) (fun v s1 => wpAny (model X.prog X.w) X.A (pyIter v) (PIE X pins σ tg R) X.xe s1) X.xe s
theorem ziR {M : Model} {A : Around} {E : Value -> Shared -> Prop} {s : Shared} {tg : Expr} {it : Addr} {u : Value} {o : Obj} {n : String} {vs : Array Value} {Q : Unit -> Shared -> Prop} (ho : s.heap.get? it = some o) (hc : o.cls = .type n) (hd : o.data = .fields vs)
  (hn : ["enumerate", "zip", "dict_itemiterator", "dict_reverseitemiterator", "odict_iterator", "itertools.zip_longest", "itertools.pairwise"].contains n = false) (hQ : Q () s) : wpAny M A (letOwnedTupleGo tg (.ref it) u) Q E s := by
 unfold letOwnedTupleGo
 cases tg <;> first
  | exact wpAny_pure hQ
  | (cases u <;> first
    | exact wpAny_pure hQ
    | (
      refine wpAny_bind (wpAny_load ho ?_)
      rw [hc, hd]
      show wpAny M A (if (["enumerate", "zip", "dict_itemiterator", "dict_reverseitemiterator", "odict_iterator", "itertools.zip_longest", "itertools.pairwise"].contains n && vs[0]? == some (rawInt _)) = true then _ else _) Q E s
      rw [if_neg (by intro h; rw [hn, Bool.false_and] at h; cases h)]
      exact wpAny_pure hQ))
def Itl (K : PySem.W.Frag) (a : Addr) : It :=
 ⟨fun i H => ∃ xs x, SqL K H a xs /\ xs[i]? = some x, fun i H x H' => H' = H /\ ∀ xs, SqL K H a xs -> xs[i]? = some x, fun i H => ∃ xs, SqL K H a xs /\ xs.length <= i⟩
def Itt (K : PySem.W.Frag) (a : Addr) : It :=
 ⟨fun i H => ∃ xs x, SqT K H a xs /\ xs[i]? = some x, fun i H x H' => H' = H /\ ∀ xs, SqT K H a xs -> xs[i]? = some x, fun i H => ∃ xs, SqT K H a xs /\ xs.length <= i⟩
def Itr (lo : Int) (n : Nat) : It := ⟨fun i _ => i < n, fun i H x H' => H' = H /\ x = .int (lo + i), fun i _ => n <= i⟩
theorem zhr {P : Program} {w : World} {K : PySem.W.Frag} {tg : Expr} (a it : Addr) : Turn P w K tg (Itl K a) [it] it (fun i h => h.IsListIter it a i) where
 mem := by simp
 obj := fun i h st b hb => by
  have e : b = it := by simpa using hb
  subst e
  obtain ⟨o, e, c, d⟩ := st
  exact ⟨o, e, fun v z => by rw [d] at z; cases z⟩
 keep := fun i h h' st k => st.at fun o e => k it (by simp) o e
 item := by
  intro X hP hw hK hc i pins s σ H E I hf st hg
  subst hP hw hK
  obtain ⟨xs, x, hq, hx⟩ := hg
  obtain ⟨its, rv, p, hz⟩ := I.list hq
  obtain ⟨u, hu, ru⟩ := rv.get hx
  obtain ⟨f0, f1, f2, f3, f4, f5⟩ := hf it (by simp)
  refine wpAny_pyNext_list_item st p.isList (x := u) (by simpa using hu) fun h' st' sb => ?_
  have I1 : Inv X pins σ H { s with heap := h' } := I.turned (t' := s.toks) (fun b o hb e => (sb.2 b hb).trans e) f0 f1 f3 f4 f5
  obtain ⟨o, e, c, d⟩ := id st'
  exact ⟨u, rfl, ziR (s := { s with heap := h' }) e c d (by decide) ⟨x, H, I1, ru, ⟨rfl, fun ys hy => by rw [I.list_inj hy hq]; exact hx⟩, st', fun b hb => (hf b hb).1⟩⟩
 done := by
  intro X hP hw hK hc i pins s σ H E I hf st hg
  subst hP hw hK
  obtain ⟨xs, hq, hx⟩ := hg
  obtain ⟨its, rv, p, hz⟩ := I.list hq
  obtain ⟨f0, f1, f2, f3, f4, f5⟩ := hf it (by simp)
  have hl := rv.length
  exact wpAny_pyNext_list_end (I.ok.hd hc) st p.isList (by simp; omega) fun h' eb => ⟨rfl, I.turned (t' := s.toks) (fun b o hb e => eb b o hb e) f0 f1 f3 f4 f5⟩
 self := fun _ _ _ _ _ st h => wpAny_pyIter_listiter st h
theorem zgS {P : Program} {w : World} {K : PySem.W.Frag} {tg : Expr} (a it : Addr) : Turn P w K tg (Itt K a) [it] it (fun i h => h.IsTupleIter it a i) where
 mem := by simp
 obj := fun i h st b hb => by
  have e : b = it := by simpa using hb
  subst e
  obtain ⟨o, e, c, d⟩ := st
  exact ⟨o, e, fun v z => by rw [d] at z; cases z⟩
 keep := fun i h h' st k => st.at fun o e => k it (by simp) o e
 item := by
  intro X hP hw hK hc i pins s σ H E I hf st hg
  subst hP hw hK
  obtain ⟨xs, x, hq, hx⟩ := hg
  obtain ⟨its, rv, p, hz⟩ := I.tuple hq
  obtain ⟨u, hu, ru⟩ := rv.get hx
  obtain ⟨f0, f1, f2, f3, f4, f5⟩ := hf it (by simp)
  refine wpAny_pyNext_tuple_item st (show s.heap.IsTuple a its.toArray from p) (x := u) (by simpa using hu) fun h' st' sb => ?_
  have I1 : Inv X pins σ H { s with heap := h' } := I.turned (t' := s.toks) (fun b o hb e => (sb.2 b hb).trans e) f0 f1 f3 f4 f5
  obtain ⟨o, e, c, d⟩ := id st'
  exact ⟨u, rfl, ziR (s := { s with heap := h' }) e c d (by decide) ⟨x, H, I1, ru, ⟨rfl, fun ys hy => by rw [I.tuple_inj hy hq]; exact hx⟩, st', fun b hb => (hf b hb).1⟩⟩
 done := by
  intro X hP hw hK hc i pins s σ H E I hf st hg
  subst hP hw hK
  obtain ⟨xs, hq, hx⟩ := hg
  obtain ⟨its, rv, p, hz⟩ := I.tuple hq
  obtain ⟨f0, f1, f2, f3, f4, f5⟩ := hf it (by simp)
  have hl := rv.length
  exact wpAny_pyNext_tuple_end (I.ok.hd hc) st (show s.heap.IsTuple a its.toArray from p) (by simp; omega) fun h' eb => ⟨rfl, I.turned (t' := s.toks) (fun b o hb e => eb b o hb e) f0 f1 f3 f4 f5⟩
 self := fun _ _ _ _ _ st h => wpAny_pyIter_tupleiter st h
theorem zgT {P : Program} {w : World} {K : PySem.W.Frag} {tg : Expr} (it : Addr) (lo : Int) (n : Nat) : Turn P w K tg (Itr lo n) [it] it (fun i h => IsRangeIter h it (lo + (i : Nat) * 1) ((n : Int) - (i : Nat)) 1) where
 mem := by simp
 obj := fun i h st b hb => by
  have e : b = it := by simpa using hb
  subst e
  exact ⟨_, st, fun v z => by
   have z' : Data.fields _ = Data.cell v := z
   cases z'⟩
 keep := fun i h h' st k => k it (by simp) _ st
 item := by
  intro X hP hw hK hc i pins s σ H E I hf st hg
  subst hP hw hK
  obtain ⟨f0, f1, f2, f3, f4, f5⟩ := hf it (by simp)
  have W := Walks.range (prog := X.prog) (w := X.w) (I.ok.hd hc) it lo 1 n
  refine W.item i s _ _ hg st fun v h' tk hv st' kk => ?_
  obtain ⟨t, rfl⟩ := hv
  have I1 : Inv X pins σ H { s with heap := h', toks := tk } := I.turned (fun b o hb e => kk b o (by simpa using hb) e) f0 f1 f3 f4 f5
  refine ⟨_, rfl, ziR (s := { s with heap := h', toks := tk }) (n := "range_iterator") st' rfl rfl (by decide) ⟨.int (lo + i), H, I1, ⟨t, ?_⟩, ⟨rfl, rfl⟩, st', fun b hb => (hf b hb).1⟩⟩
  rw [Int.mul_one]
 done := by
  intro X hP hw hK hc i pins s σ H E I hf st hg
  subst hP hw hK
  obtain ⟨f0, f1, f2, f3, f4, f5⟩ := hf it (by simp)
  exact wpAny_pyNext_range_end (I.ok.hd hc) st (by have : n <= i := hg; omega) fun h' eb => ⟨rfl, I.turned (t' := s.toks) (fun b o hb e => eb b o hb e) f0 f1 f3 f4 f5⟩
 self := fun _ _ _ _ _ st h => wpAny_pyIter_rangeiter st h
end L2
namespace L2
open PySem PySem.Spec PyProof.Rows
section
variable {X : Cx} {tg : Expr}
theorem zgs {pins : List (Addr × Obj)} {σ : St} {H : Hp} {s : Shared} {R : It -> Hp -> Prop} {E : Value -> Shared -> Prop} {lo hi : Int} {t u v : Tok} {tk : Nat} (I : Inv X pins σ H s) (h1 : -(2 ^ 62) <= lo) (h2 : lo < 2 ^ 62) (h3 : -(2 ^ 62) <= hi) (h4 : hi < 2 ^ 62)
  (q : R (Itr lo (hi - lo).toNat) H) : wpAny (model X.prog X.w) X.A (pyIter (.ref s.heap.objs.size)) (PIE X pins σ tg R) E { s with heap := s.heap.push { cls := .type "range", data := .fields #[.int lo t, .int hi u, .int 1 v] }, toks := tk } := by
 refine wpAny_pyIter_range (IsRange.new ..) (small_one h1 h2 h3 h4) ?_
 have I1 : Inv X pins σ H { s with heap := s.heap.push { cls := .type "range", data := .fields #[.int lo t, .int hi u, .int 1 v] }, toks := tk } := I.kept fun b o e => Heap.get?_push_of_some _ e
 refine ⟨(s.heap.push { cls := .type "range", data := .fields #[.int lo t, .int hi u, .int 1 v] }).objs.size, [(s.heap.push { cls := .type "range", data := .fields #[.int lo t, .int hi u, .int 1 v] }).objs.size], _, _, H, rfl,
  I1.kept (t' := tk) fun b o e => Heap.get?_push_of_some _ e, zgT _ lo (hi - lo).toNat, ?_, fun b hb => ?_, q⟩
 ·have e1 : lo + ((0 : Nat) : Int) * 1 = lo := by simp
  have e2 : (((hi - lo).toNat : Nat) : Int) - ((0 : Nat) : Int) = Builtin.Range.rangeSize lo hi 1 := by rw [rangeSize_one]; split <;> omega
  show IsRangeIter _ _ (lo + ((0 : Nat) : Int) * 1) ((((hi - lo).toNat : Nat) : Int) - ((0 : Nat) : Int)) 1
  rw [e1, e2]
  exact Heap.get?_push_size _ rfl
 ·have e : b = (s.heap.push { cls := .type "range", data := .fields #[.int lo t, .int hi u, .int 1 v] }).objs.size := by simpa using hb
  subst e
  exact I1.fpOk (Nat.le_refl _) (I1.hok.fresh (Nat.le_refl _))
def zm2 (ta : TA) : TI := fun σ H R => ta σ H fun vs H1 => ∃ j : Int, vs = [.int j] /\ -(2 ^ 62) <= j /\ j < 2 ^ 62 /\ R (Itr 0 j.toNat) H1
def zm3 (ta : TA) : TI := fun σ H R => ta σ H fun vs H1 => ∃ i j : Int, vs = [.int i, .int j] /\ (-(2 ^ 62) <= i /\ i < 2 ^ 62 /\ -(2 ^ 62) <= j /\ j < 2 ^ 62) /\ R (Itr i (j - i).toNat) H1
theorem zhs {a : Expr} {ta : TA} {p pos : Pos} (hg : Gl X "range") (hm : X.mg "range" = none) (ha : PA X [a] ta) (hs : starEach [a] X.env = [(false, eval a X.env)] := by rfl) : PI X tg (.Call (.Name "range" p) [a] [] pos) (zm2 ta) := by
 intro pins s σ H R I h
 refine Call_ (zd3 I hg hm boot_range (PyProof.Rows.callWith_type1 (thn (ha pos pins s σ H _ I h) fun us s1 ⟨vs, H1, I1, r1, q1⟩ => ?_) hs rfl))
 obtain ⟨j, e, q1, q2, q⟩ := q1
 subst e
 cases r1 with
 | cons r rr =>
  cases rr
  obtain ⟨t, rfl⟩ := r
  exact call_range_1 (zgs I1 (by omega) (by omega) q1 q2 (by simpa using q))
theorem zht {a b : Expr} {ta : TA} {p pos : Pos} (hg : Gl X "range") (hm : X.mg "range" = none) (ha : PA X [a, b] ta) (hs : starEach [a, b] X.env = [(false, eval a X.env), (false, eval b X.env)] := by rfl) (hs2 : starEach [b] X.env = [(false, eval b X.env)] := by rfl) :
  PI X tg (.Call (.Name "range" p) [a, b] [] pos) (zm3 ta) := by
 intro pins s σ H R I h
 refine Call_ (zd3 I hg hm boot_range (PyProof.Rows.callWith_type1 (thn (ha pos pins s σ H _ I h) fun us s1 ⟨vs, H1, I1, r1, q1⟩ => ?_) (by rw [hs, hs2]) (by rw [hs2]; rfl)))
 obtain ⟨i, j, e, ⟨q1, q2, q3, q4⟩, q⟩ := q1
 subst e
 cases r1 with
 | cons r rr =>
  cases rr with
  | cons r' rr =>
   cases rr
   obtain ⟨t, rfl⟩ := r
   obtain ⟨t', rfl⟩ := r'
   exact call_range_2 (zgs I1 q1 q2 q3 q4 q)
def tFor (wi : TI) (g : TG) (tb : TS) : TS := fun D σ H => wi σ H fun J H1 => ∃ W : Nat -> Nat -> St -> Hp -> Prop, (∃ m, W 0 m σ H1) /\ ∀ i m σ H, W i m σ H ->
 (J.stop i H /\ D.nx σ H) ∨ (J.go i H /\ ∃ N : St -> Hp -> Prop, (∀ σ' H', N σ' H' -> ∃ m', m' < m /\ W (i + 1) m' σ' H') /\ ∀ x H', J.yld i H x H' -> g x σ H' fun σ2 H2 => tb { D with nx := N, ct := N, bk := D.nx } σ2 H2)
def zfg (fp : List Addr) (h : Heap) : List (Addr × Obj) := fp.filterMap fun b => (h.get? b).map fun o => (b, o)
theorem zc4 {fp : List Addr} {h : Heap} {b : Addr} {o : Obj} (hb : b ∈ fp) (e : h.get? b = some o) : (b, o) ∈ zfg fp h := List.mem_filterMap.mpr ⟨b, hb, by rw [e]; rfl⟩
theorem zhu {fp : List Addr} {h : Heap} {p : Addr × Obj} (hp : p ∈ zfg fp h) : p.1 ∈ fp /\ h.get? p.1 = some p.2 := by
 obtain ⟨b, hb, e⟩ := List.mem_filterMap.mp hp
 cases q : h.get? b with
 | none => rw [q] at e; cases e
 | some o =>
  rw [q] at e
  have e' : (b, o) = p := Option.some.inj e
  subst e'
  exact ⟨hb, q⟩
theorem Inv.pinned {pins : List (Addr × Obj)} {σ : St} {H : Hp} {s : Shared} {fp : List Addr} (I : Inv X pins σ H s) (hf : ∀ b ∈ fp, FpOk X pins H b) (ho : ∀ b ∈ fp, ∃ o, s.heap.get? b = some o /\ ∀ v, o.data ≠ .cell v) : Inv X (pins ++ zfg fp s.heap) σ H s :=
 I.pins_of fun p hp => (List.mem_append.mp hp).elim (fun z => I.pin p (List.mem_append_right _ z)) fun z => by
  obtain ⟨hb, e⟩ := zhu z
  obtain ⟨f0, f1, f2, _⟩ := hf p.1 hb
  obtain ⟨o, e', d⟩ := ho p.1 hb
  rw [e] at e'; cases e'
  exact ⟨e, f0, f1, f2, d⟩
theorem Inv.unpinned {pins pl : List (Addr × Obj)} {σ : St} {H : Hp} {s : Shared} (I : Inv X (pins ++ pl) σ H s) : Inv X pins σ H s := I.pins_of fun p hp => I.pin p (List.mem_append_right _ (List.mem_append_left _ hp))
theorem zlL {iter : Expr} {body : List Stmt} {wi : TI} {g : TG} {tb : TS} {pos : Pos} (hp : PassesOwn (model X.prog X.w) X.A X.env X.xe) (hc : X.calm = true) (hi : PI X tg iter wi) (hg : PG X tg g) (hb : PSs X body tb)
  (hs : ∀ x, foldedSetIterable iter X.env x = pure x := by intro _; rfl) : PS X (.For tg iter body [] pos) (tFor wi g tb) := by
 intro pins s σ H D I h
 refine wpAny_For (thn (hi pins s σ H _ I h) fun v s1 h1 => thn h1 fun itv s2 h2 => ?_) hs
 obtain ⟨it, fp, tn, J, H2, e, I2, T, st2, f2, W, ⟨m0, w0⟩, turn⟩ := h2
 subst e
 have stat : ∀ {H' : Hp}, (∀ b ∈ fp, H' b = none) -> ∀ b ∈ fp, FpOk X pins H' b := fun hn b hb => ⟨hn b hb, (f2 b hb).2⟩
 refine codeAny_forLoop_any (fun n s' => ∃ i σ' H', Inv X pins σ' H' s' /\ tn i s'.heap /\ (∀ b ∈ fp, H' b = none) /\ W i n σ' H') ?_ m0 ⟨0, σ, H2, I2, st2, fun b hb => (f2 b hb).1, w0⟩
 rintro n s3 ⟨i, σ3, H3, I3, st3, fr3, w3⟩
 rcases turn i n σ3 H3 w3 with ⟨stop, qn⟩ | ⟨go, N, hN, step⟩
 ·refine wpAny_passesOwn hp (thn (T.done X rfl rfl rfl hc i pins s3 σ3 H3 X.xe I3 (stat fr3) st3 stop) fun r s4 ⟨hr, I4⟩ => ?_)
  subst hr
  exact wpAny_execs_nil ⟨σ3, H3, I4, qn⟩
 ·refine wpAny_passesOwn hp (thn (T.item X rfl rfl rfl hc i pins s3 σ3 H3 X.xe I3 (stat fr3) st3 go) fun r s4 ⟨u, hr, h4⟩ => ?_)
  subst hr
  refine wpAny_passesOwn hp (thn h4 fun _ s5 ⟨x, H5, I5, r5, y5, st5, fr5⟩ => ?_)
  have I5' := I5.pinned (stat fr5) (T.obj _ _ st5)
  refine wpAny_passesOwn hp (thn (hg _ s5 σ3 H5 x u _ I5' r5 (step x H5 y5)) fun _ s6 ⟨σ6, H6, I6, q6⟩ => ?_)
  refine wpAny_passesOwn hp (thn (hb _ s6 σ6 H6 _ I6 q6) fun f s7 q7 => ?_)
  have again : ∀ {σ7 : St} {H7 : Hp}, Inv X (pins ++ zfg fp s5.heap) σ7 H7 s7 -> N σ7 H7 -> ∃ m, m < n /\ ∃ i σ' H', Inv X pins σ' H' s7 /\ tn i s7.heap /\ (∀ b ∈ fp, H' b = none) /\ W i m σ' H' := fun {σ7 H7} I7 n7 => by
   obtain ⟨m', hm, w7⟩ := hN σ7 H7 n7
   refine ⟨m', hm, i + 1, σ7, H7, I7.unpinned, T.keep _ _ _ st5 fun b hb o e => (I7.pin (b, o) (List.mem_append_right _ (List.mem_append_right _ (zc4 hb e)))).1, fun b hb => ?_, w7⟩
   obtain ⟨o, e, d⟩ := T.obj _ _ st5 b hb
   exact (I7.pin (b, o) (List.mem_append_right _ (List.mem_append_right _ (zc4 hb e)))).2.1
  cases f with
  | next => obtain ⟨σ7, H7, I7, n7⟩ := q7; exact again I7 n7
  | cont => obtain ⟨σ7, H7, I7, n7⟩ := q7; exact again I7 n7
  | brk => obtain ⟨σ7, H7, I7, q7⟩ := q7; exact ⟨σ7, H7, I7.unpinned, q7⟩
  | ret v => obtain ⟨x7, σ7, H7, I7, r7, q7⟩ := q7; exact ⟨x7, σ7, H7, I7.unpinned, r7, q7⟩
end
end L2
namespace L2
open PySem PySem.Spec PyProof.Rows
abbrev R2 := V -> V -> Hp -> VK -> Prop
def OpR (X : Cx) (f : Value -> Value -> Sem Value) (r : R2) : Prop :=
 ∀ (pins : List (Addr × Obj)) (s : Shared) (σ : St) (H : Hp) (x y : V) (v u : Value) (Q : VK), Inv X pins σ H s -> RelV x v -> RelV y u -> r x y H Q ->
  wpAny (model X.prog X.w) X.A (f v u) (EP X pins σ Q) X.xe s
def UnR (X : Cx) (f : Value -> Sem Value) (r : V -> Hp -> VK -> Prop) : Prop :=
 ∀ (pins : List (Addr × Obj)) (s : Shared) (σ : St) (H : Hp) (x : V) (v : Value) (Q : VK), Inv X pins σ H s -> RelV x v -> r x H Q ->
  wpAny (model X.prog X.w) X.A (f v) (EP X pins σ Q) X.xe s
def zdE (X : Cx) (f : Value) (r : List V -> Hp -> VK -> Prop) : Prop :=
 ∀ (pins : List (Addr × Obj)) (s : Shared) (σ : St) (H : Hp) (xs : List V) (us : List Value) (Q : VK), Inv X pins σ H s -> Vals xs us -> r xs H Q ->
  wpAny (model X.prog X.w) X.A (call f us) (EP X pins σ Q) X.xe s
def tOp (r : R2) (ta tb : TE) : TE := fun σ H Q => ta σ H fun x H1 => tb σ H1 fun y H2 => r x y H2 Q
def tUn (r : V -> Hp -> VK -> Prop) (ta : TE) : TE := fun σ H Q => ta σ H fun x H1 => r x H1 Q
def rI (C : Int -> Int -> Prop) (g : Int -> Int -> V) : R2 := fun x y H Q => ∃ i j, x = .int i /\ y = .int j /\ C i j /\ Q (g i j) H
def rI0 (g : Int -> Int -> V) : R2 := fun x y H Q => ∃ i j, x = .int i /\ y = .int j /\ Q (g i j) H
def rU (g : Int -> V) : V -> Hp -> VK -> Prop := fun x H Q => ∃ i, x = .int i /\ Q (g i) H
section
variable {X : Cx} {a b c : Expr} {ta tb tc : TE} {pos : Pos}
theorem binT (ha : PE X a ta) (hb : PE X b tb) {pins : List (Addr × Obj)} {s : Shared} {σ : St} {H : Hp} {R : V -> V -> Hp -> Prop} (I : Inv X pins σ H s)
  (h : ta σ H fun x H1 => tb σ H1 fun y H2 => R x y H2) {Q : Value -> Shared -> Prop} {f : Value -> Value -> Sem Value}
  (hf : ∀ v u s2 x y H2, Inv X pins σ H2 s2 -> RelV x v -> RelV y u -> R x y H2 -> wpAny (model X.prog X.w) X.A (f v u) Q X.xe s2) :
  wpAny (model X.prog X.w) X.A (eval a X.env) (fun v s₁ => wpAny (model X.prog X.w) X.A (eval b X.env) (fun u s₂ => wpAny (model X.prog X.w) X.A (f v u) Q X.xe s₂) X.xe s₁) X.xe s := by
 refine thn (ha pins s σ H _ I h) fun v s1 ⟨x, H1, I1, r1, q1⟩ => ?_
 refine thn (hb pins s1 σ H1 _ I1 q1) fun u s2 ⟨y, H2, I2, r2, q2⟩ => ?_
 exact hf v u s2 x y H2 I2 r1 r2 q2
theorem zm4 {op : Operator} {r : R2} (ho : OpR X (binaryOp op) r) (ha : PE X a ta) (hb : PE X b tb) : PE X (.BinOp a op b pos) (tOp r ta tb) := by
 intro pins s σ H Q I h
 exact wpAny_BinOp (binT ha hb I h fun v u s2 x y H2 I2 rx ry q => ho pins s2 σ H2 x y v u Q I2 rx ry q)
theorem zm5 {op : UnaryOp} {r : V -> Hp -> VK -> Prop} (ho : UnR X (unaryOp op) r) (ha : PE X a ta) : PE X (.UnaryOp op a pos) (tUn r ta) := by
 intro pins s σ H Q I h
 exact UnaryOp_ (thn (ha pins s σ H _ I h) fun v s1 ⟨x, H1, I1, r1, q1⟩ => ho pins s1 σ H1 x v Q I1 r1 q1)
theorem opI {f : Value -> Value -> Sem Value} {C : Int -> Int -> Prop} {g : Int -> Int -> Int}
  (rule : ∀ (i j : Int) (t u : Tok) (s : Shared) (Q : Value -> Shared -> Prop) (E : Value -> Shared -> Prop), C i j -> Q (.int (g i j) s.toks) { s with toks := s.toks + 1 } -> wpAny (model X.prog X.w) X.A (f (.int i t) (.int j u)) Q E s) :
  OpR X f (rI C fun i j => .int (g i j)) := by
 intro pins s σ H x y v u Q I rx ry h
 obtain ⟨i, j, rfl, rfl, hc, q⟩ := h
 obtain ⟨t, rfl⟩ := rx
 obtain ⟨t', rfl⟩ := ry
 exact rule i j t t' s _ _ hc ⟨.int (g i j), H, I.tok _, ⟨_, rfl⟩, q⟩
theorem opI0 {f : Value -> Value -> Sem Value} {g : Int -> Int -> Int}
  (rule : ∀ (i j : Int) (t u : Tok) (s : Shared) (Q : Value -> Shared -> Prop) (E : Value -> Shared -> Prop), Q (.int (g i j) s.toks) { s with toks := s.toks + 1 } -> wpAny (model X.prog X.w) X.A (f (.int i t) (.int j u)) Q E s) :
  OpR X f (rI0 fun i j => .int (g i j)) := by
 intro pins s σ H x y v u Q I rx ry h
 obtain ⟨i, j, rfl, rfl, q⟩ := h
 obtain ⟨t, rfl⟩ := rx
 obtain ⟨t', rfl⟩ := ry
 exact rule i j t t' s _ _ ⟨.int (g i j), H, I.tok _, ⟨_, rfl⟩, q⟩
theorem opB0 {f : Value -> Value -> Sem Value} {g : Int -> Int -> Bool}
  (rule : ∀ (i j : Int) (t u : Tok) (s : Shared) (Q : Value -> Shared -> Prop) (E : Value -> Shared -> Prop), Q (.bool (g i j)) s -> wpAny (model X.prog X.w) X.A (f (.int i t) (.int j u)) Q E s) :
  OpR X f (rI0 fun i j => .bl (g i j)) := by
 intro pins s σ H x y v u Q I rx ry h
 obtain ⟨i, j, rfl, rfl, q⟩ := h
 obtain ⟨t, rfl⟩ := rx
 obtain ⟨t', rfl⟩ := ry
 exact rule i j t t' s _ _ ⟨.bl (g i j), H, I, rfl, q⟩
def CPow (i j : Int) : Prop := 0 <= j /\ j <= 1000000 /\ i.natAbs < 2 ^ 64
def CMul (i j : Int) : Prop := (-(2 ^ 64) < i /\ i < 2 ^ 64) ∨ (-(2 ^ 64) < j /\ j < 2 ^ 64)
theorem CMul.ok {i j : Int} (h : CMul i j) : IntMulOk i j := by
 rcases h with ⟨h1, h2⟩ | ⟨h1, h2⟩
 ·exact .of_left (intBits_le_64 h1 h2)
 ·exact .of_right (intBits_le_64 h1 h2)
theorem zlM : OpR X (binaryOp .Add) (rI0 fun i j => .int (i + j)) := opI0 fun _ _ _ _ _ _ _ q => add_int q
theorem zlN : OpR X (binaryOp .Sub) (rI0 fun i j => .int (i - j)) := opI0 fun _ _ _ _ _ _ _ q => sub_int q
theorem zlO : OpR X (binaryOp .Mult) (rI CMul fun i j => .int (i * j)) := opI fun _ _ _ _ _ _ _ hc q => mul_int q hc.ok
theorem zlP : OpR X (binaryOp .Mod) (rI (fun _ j => 0 < j) fun i j => .int (i % j)) := opI fun i j _ _ _ _ _ hc q => by
 have h1 : (0 : Int) < j := hc
 exact mod_int' (by omega) (by rw [Int.fmod_eq_emod_of_nonneg i (by omega)]; exact q)
theorem zlQ : OpR X (binaryOp .Pow) (rI CPow fun i j => .int (i ^ j.toNat)) := opI fun _ _ _ _ _ _ _ hc q => pow_int_small hc.1 hc.2.1 hc.2.2 q
theorem unI {f : Value -> Sem Value} {g : Int -> Int}
  (rule : ∀ (i : Int) (t : Tok) (s : Shared) (Q : Value -> Shared -> Prop) (E : Value -> Shared -> Prop), Q (.int (g i) s.toks) { s with toks := s.toks + 1 } -> wpAny (model X.prog X.w) X.A (f (.int i t)) Q E s) :
  UnR X f (rU fun i => .int (g i)) := by
 intro pins s σ H x v Q I rx h
 obtain ⟨i, rfl, q⟩ := h
 obtain ⟨t, rfl⟩ := rx
 exact rule i t s _ _ ⟨.int (g i), H, I.tok _, ⟨_, rfl⟩, q⟩
theorem zlR : UnR X (unaryOp .USub) (rU fun i => .int (-i)) := unI fun _ _ _ _ _ q => neg_int q
end
section
variable {X : Cx} {a b c : Expr} {ta tb tc : TE} {pos : Pos}
theorem zlS {pins : List (Addr × Obj)} {σ : St} {H : Hp} {s : Shared} {Q : VK} {k k' : Bool} (I : Inv X pins σ H s) (q : Q (.bl k) H) (e : k = k') : EP X pins σ Q (.bool k') s := by
 subst e
 exact ⟨.bl k, H, I, rfl, q⟩
theorem zm6 : OpR X (compareOp .Lt) (rI0 fun i j => .bl (decide (i < j))) := opB0 fun _ _ _ _ _ _ _ q => lt_int q
theorem zm7 : OpR X (compareOp .LtE) (rI0 fun i j => .bl (decide (i <= j))) := opB0 fun _ _ _ _ _ _ _ q => le_int q
theorem zm8 : OpR X (compareOp .Gt) (rI0 fun i j => .bl (decide (j < i))) := opB0 fun _ _ _ _ _ _ _ q => gt_int q
theorem zm9 : OpR X (compareOp .GtE) (rI0 fun i j => .bl (decide (j <= i))) := opB0 fun _ _ _ _ _ _ _ q => ge_int q
theorem zhv : OpR X (compareOp .In) (fun x y H Q => ∃ i j, x = .str i /\ y = .str j /\ Q (.bl (!(Builtin.Str.occurrences j i 0 j.length 1).isEmpty)) H) := by
 intro pins s σ H x y v u Q I rx ry h
 obtain ⟨i, j, rfl, rfl, q⟩ := h
 obtain ⟨t, rfl⟩ := rx
 obtain ⟨t', rfl⟩ := ry
 exact in_str (zlS I q rfl)
theorem OpR.or {f : Value -> Value -> Sem Value} {r r' : R2} (h : OpR X f r) (h' : OpR X f r') : OpR X f (fun x y H Q => r x y H Q ∨ r' x y H Q) := by
 intro pins s σ H x y v u Q I rx ry q
 rcases q with q | q
 ·exact h pins s σ H x y v u Q I rx ry q
 ·exact h' pins s σ H x y v u Q I rx ry q
theorem zbb (b : Expr) {op : CmpOp} (h : op ≠ .In := by decide) (h2 : op ≠ .NotIn := by decide) : behindInMarks op b = false := by
 have e1 : (op == CmpOp.In) = false := by cases op <;> first | rfl | exact absurd rfl h
 have e2 : (op == CmpOp.NotIn) = false := by cases op <;> first | rfl | exact absurd rfl h2
 cases b <;> simp [behindInMarks, e1, e2]
theorem zj6 {op : CmpOp} {r : R2} (ho : OpR X (compareOp op) r) (ha : PE X a ta) (hb : PE X b tb) (hm : behindInMarks op b = false) : PE X (.Compare a [op] [b] pos) (tOp r ta tb) := by
 intro pins s σ H Q I h
 exact wpAny_Compare1 (binT ha hb I h fun v u s2 x y H2 I2 rx ry q => ho pins s2 σ H2 x y v u Q I2 rx ry q) hm
def zlT (t : TE) : TT := fun σ H Q => t σ H fun x H' => ∃ k, x = .bl k /\ Q k H'
theorem zfY {op : CmpOp} {r : R2} (ho : OpR X (compareOp op) r) (ha : PE X a ta) (hb : PE X b tb) (hm : behindInMarks op b = false) : PT X (.Compare a [op] [b] pos) (zlT (tOp r ta tb)) := by
 intro pins s σ H Q I h
 refine wpAny_isTrue_Compare1 (thn (ha pins s σ H _ I h) fun v s1 ⟨x, H1, I1, r1, q1⟩ => thn (hb pins s1 σ H1 _ I1 q1) fun u s2 ⟨y, H2, I2, r2, q2⟩ =>
  thn (ho pins s2 σ H2 x y v u _ I2 r1 r2 q2) fun c s3 ⟨z, H3, I3, r3, k, e, q3⟩ => ?_) hm
 subst e
 cases r3
 exact wpAny_truthy_bool ⟨H3, I3, q3⟩
def zjK (r r' : R2) (ta tb tc : TE) : TE := fun σ H Q => ta σ H fun x H1 => tb σ H1 fun y H2 => r x y H2 fun z H3 => ∃ k, z = .bl k /\
 (if k = true then tc σ H3 fun w' H4 => r' y w' H4 Q else Q (.bl false) H3)
theorem ziS {op op' : CmpOp} {r r' : R2} (ho : OpR X (compareOp op) r) (ho' : OpR X (compareOp op') r') (ha : PE X a ta) (hb : PE X b tb) (hc : PE X c tc)
  (hm : lastMarks [op, op'] [b, c] = false := by with_unfolding_all rfl) : PE X (.Compare a [op, op'] [b, c] pos) (zjK r r' ta tb tc) := by
 intro pins s σ H Q I h
 refine Compare_chain (thn (ha pins s σ H _ I h) fun v s1 ⟨x, H1, I1, r1, q1⟩ => chain_link (thn (hb pins s1 σ H1 _ I1 q1) fun u s2 ⟨y, H2, I2, r2, q2⟩ =>
  thn (ho pins s2 σ H2 x y v u _ I2 r1 r2 q2) fun d s3 ⟨z, H3, I3, r3, k, e, q3⟩ => ?_)) hm
 subst e
 cases r3
 refine wpAny_truthy_bool ?_
 cases k with
 | false => exact ite_ff ⟨.bl false, H3, I3, rfl, q3⟩
 | true => exact ite_tt (chain_last (thn (hc pins s3 σ H3 _ I3 q3) fun w' s4 ⟨z', H4, I4, r4, q4⟩ => ho' pins s4 σ H4 y z' u w' Q I4 r2 r4 q4))
theorem ziT {op op' : CmpOp} {r r' : R2} (ho : OpR X (compareOp op) r) (ho' : OpR X (compareOp op') r') (ha : PE X a ta) (hb : PE X b tb) (hc : PE X c tc)
  (hm : lastMarks [op, op'] [b, c] = false := by with_unfolding_all rfl) : PT X (.Compare a [op, op'] [b, c] pos) (zlT (zjK r r' ta tb tc)) := by
 intro pins s σ H Q I h
 refine isTrue_chain (thn (ha pins s σ H _ I h) fun v s1 ⟨x, H1, I1, r1, q1⟩ => test_link (thn (hb pins s1 σ H1 _ I1 q1) fun u s2 ⟨y, H2, I2, r2, q2⟩ =>
  thn (ho pins s2 σ H2 x y v u _ I2 r1 r2 q2) fun d s3 ⟨z, H3, I3, r3, k, e, q3⟩ => ?_)) hm
 subst e
 cases r3
 refine wpAny_truthy_bool ?_
 cases k with
 | false =>
  obtain ⟨k', e', q'⟩ := q3
  cases e'
  exact ite_ff ⟨H3, I3, q'⟩
 | true =>
  refine ite_tt (test_last (thn (hc pins s3 σ H3 _ I3 q3) fun w' s4 ⟨z', H4, I4, r4, q4⟩ => thn (ho' pins s4 σ H4 y z' u w' _ I4 r2 r4 q4) fun d' s5 ⟨z2, H5, I5, r5, k2, e2, q5⟩ => ?_))
  subst e2
  cases r5
  exact wpAny_truthy_bool ⟨H5, I5, q5⟩
theorem zgt : (sizeLine : Nat) < 2 ^ 63 := by rw [sizeLine_eq]; decide
theorem zgU : OpR X (binaryOp .Add) (fun x y H Q => ∃ i j, x = .str i /\ y = .str j /\ i.length + j.length <= sizeLine /\ Q (.str (i ++ j)) H) := by
 intro pins s σ H x y v u Q I rx ry h
 obtain ⟨i, j, rfl, rfl, hz, q⟩ := h
 obtain ⟨t, rfl⟩ := rx
 obtain ⟨t', rfl⟩ := ry
 exact add_str (fun t' tk => ⟨.str (i ++ j), H, I.tok _, ⟨_, rfl⟩, q⟩) hz
theorem zj7 {x : V} {us : List Value} (r : Vals [x] us) : ∃ u, us = [u] /\ RelV x u := by
 cases r with
 | cons r1 r2 => cases r2; exact ⟨_, rfl, r1⟩
theorem zlU {x y : V} {us : List Value} (r : Vals [x, y] us) : ∃ u w', us = [u, w'] /\ RelV x u /\ RelV y w' := by
 cases r with
 | cons r1 r2 =>
  cases r2 with
  | cons r3 r4 => cases r4; exact ⟨_, _, rfl, r1, r3⟩
theorem zhw (hc : X.calm = true) : zdE X (.builtin "max") (fun xs H Q => ∃ i j, xs = [.int i, .int j] /\ Q (.int (if j > i then j else i)) H) := by
 intro pins s σ H xs us Q I r h
 obtain ⟨i, j, rfl, q⟩ := h
 obtain ⟨u, w', rfl, ⟨t, rfl⟩, ⟨t', rfl⟩⟩ := zlU r
 refine max_two_ints (I.ok.hd hc) fun h' tk k => ⟨_, H, I.kept k, ?_, q⟩
 by_cases hj : j > i
 ·rw [if_pos hj, if_pos hj]; exact ⟨_, rfl⟩
 ·rw [if_neg hj, if_neg hj]; exact ⟨_, rfl⟩
theorem zfh : zdE X (.type "str") (fun xs H Q => ∃ i, xs = [.int i] /\ i.natAbs.log2 < 1920 /\ Q (.str (toString i)) H) := by
 intro pins s σ H xs us Q I r h
 obtain ⟨i, rfl, hz, q⟩ := h
 obtain ⟨u, rfl, t, rfl⟩ := zj7 r
 exact PySem.P.str_of_int hz ⟨.str _, H, I.tok _, ⟨_, rfl⟩, q⟩
def LenV (K : PySem.W.Frag) (x : V) (H : Hp) (n : Nat) : Prop :=
 match x with
 | .str y => y.length <= sizeLine /\ n = y.length
 | .byt y => y.size <= sizeLine /\ n = y.size
 | .ref p => (∃ xs, SqL K H p xs /\ n = xs.length) ∨ ∃ xs, SqT K H p xs /\ n = xs.length
 | _ => False
theorem zgu : zdE X (.builtin "len") (fun xs H Q => ∃ x n, xs = [x] /\ LenV X.K x H n /\ Q (.int n) H) := by
 intro pins s σ H xs us Q I r h
 obtain ⟨x, n, rfl, e, q⟩ := h
 obtain ⟨u, rfl, rx⟩ := zj7 r
 have hl := zgt
 have hs : sizeLine = 16777216 := sizeLine_eq
 cases x with
 | str y =>
  obtain ⟨t, rfl⟩ := rx
  obtain ⟨hy, e'⟩ : y.length <= sizeLine /\ n = y.length := e
  subst e'
  exact len_str (by omega) ⟨.int _, H, I.tok _, ⟨_, rfl⟩, q⟩
 | byt y =>
  obtain ⟨t, rfl⟩ := rx
  obtain ⟨hy, e'⟩ : y.size <= sizeLine /\ n = y.size := e
  subst e'
  exact PySem.W.len_bytes (by omega) ⟨.int _, H, I.tok _, ⟨_, rfl⟩, q⟩
 | ref p =>
  cases rx
  have e' : (∃ xs, SqL X.K H p xs /\ n = xs.length) ∨ ∃ xs, SqT X.K H p xs /\ n = xs.length := e
  rcases e' with ⟨xs, hx, e'⟩ | ⟨xs, hx, e'⟩
  ·subst e'
   obtain ⟨its, r', pl, hz⟩ := I.list hx
   have hlen := r'.length
   exact Calls.call_len_list pl.isList (by simp only [List.size_toArray]; omega) ⟨.int xs.length, H, I.tok _, ⟨_, by simp only [List.size_toArray]; rw [hlen]⟩, q⟩
  ·subst e'
   obtain ⟨its, r', pl, hz⟩ := I.tuple hx
   have hlen := r'.length
   exact len_tuple pl (by simp only [List.size_toArray]; omega) ⟨.int xs.length, H, I.tok _, ⟨_, by simp only [List.size_toArray]; rw [hlen]⟩, q⟩
 | _ => exact (show False from e).elim
end
end L2
namespace L2
open PySem PySem.Spec PyProof.Rows
section
variable {prog : Program} {w : World} {A : Around} {E : Value -> Shared -> Prop} {s : Shared} {K : PySem.W.Frag} {x dx C f : Addr} {mA : Str -> Option Value} {name : Str} {v : Value}
end
def putF (f : Str) (v : V) : List (Str × V) -> List (Str × V)
 | [] => [(f, v)]
 | (g, x) :: r => if g = f then (g, v) :: r else (g, x) :: putF f v r
theorem zdc (f g : Str) (v : V) : ∀ fs : List (Str × V), (putF f v fs).lookup g = if g = f then some v else fs.lookup g
 | [] => by
  show List.lookup g [(f, v)] = _
  by_cases h : g = f
  ·have hb : (g == f) = true := beq_iff_eq.mpr h
   simp only [List.lookup, hb, if_pos h]
  ·have hb : (g == f) = false := beq_eq_false_iff_ne.mpr h
   simp only [List.lookup, hb, if_neg h]
 | (k, x) :: r => by
  have ih := zdc f g v r
  rw [show putF f v ((k, x) :: r) = (if k = f then (k, v) :: r else (k, x) :: putF f v r) from rfl]
  by_cases hk : k = f
  ·rw [if_pos hk]
   by_cases h : g = k
   ·have hb : (g == k) = true := beq_iff_eq.mpr h
    simp only [List.lookup, hb, if_pos (h.trans hk)]
   ·have hb : (g == k) = false := beq_eq_false_iff_ne.mpr h
    simp only [List.lookup, hb, if_neg (fun e : g = f => h (e.trans hk.symm))]
  ·rw [if_neg hk]
   by_cases h : g = k
   ·have hb : (g == k) = true := beq_iff_eq.mpr h
    simp only [List.lookup, hb, if_neg (fun e : g = f => hk (h.symm.trans e))]
   ·have hb : (g == k) = false := beq_eq_false_iff_ne.mpr h
    simp only [List.lookup, hb]
    exact ih
theorem zd4 (f : Str) (v : V) : ∀ fs : List (Str × V), f ∈ (putF f v fs).map (·.1) /\ ∀ g, g ∈ fs.map (·.1) -> g ∈ (putF f v fs).map (·.1)
 | [] => ⟨by simp [putF], fun g h => by simp at h⟩
 | (k, x) :: r => by
  obtain ⟨i1, i2⟩ := zd4 f v r
  rw [show putF f v ((k, x) :: r) = (if k = f then (k, v) :: r else (k, x) :: putF f v r) from rfl]
  by_cases hk : k = f
  ·rw [if_pos hk]
   subst hk
   exact ⟨by simp, fun g h => by simpa using h⟩
  ·rw [if_neg hk]
   refine ⟨?_, fun g h => ?_⟩
   ·rw [List.map_cons]
    exact List.mem_cons_of_mem _ i1
   ·rw [List.map_cons] at h ⊢
    rcases List.mem_cons.mp h with e | e
    ·exact List.mem_cons.mpr (.inl e)
    ·exact List.mem_cons_of_mem _ (i2 g e)
section
variable {P : Program} {w : World} {H H' : Hp} {h h' : Heap} {a C dx : Addr} {fs fs' : List (Str × V)}
end
section
variable {X : Cx} {pins : List (Addr × Obj)} {σ : St} {H : Hp} {s : Shared} {a C dx : Addr} {fs : List (Str × V)} {f : Str} {v : V} {A : Around} {E : Value -> Shared -> Prop}
theorem zj8 {prog : Program} {w : World} {env : Env} {e : Expr} {f : Str} {pos : Pos} {s : Shared} {Q : Value -> Shared -> Prop} (hb : attributeBase e f env (eval e env) = eval e env)
  (h : wpAny (model prog w) A (eval e env) (fun o s₁ => wpAny (model prog w) A (getAttr o f true) Q E s₁) E s) : wpAny (model prog w) A (eval (.Attribute e f pos) env) Q E s :=
 Attribute_any_ h (by rw [arm_eval_Attribute, hb])
end
section
variable {X : Cx} {o e value : Expr} {f : Str} {pos pos' tpos : Pos} {ta tv : TE}
end
section
variable {X : Cx} {pins : List (Addr × Obj)} {σ : St} {H : Hp} {s : Shared} {A : Around} {E : Value -> Shared -> Prop} {Q : Value -> Shared -> Prop} {c : Value} {b : Bool}
end
end L2
namespace L2
open PySem PySem.Spec PyProof.Rows
structure Room (k : Nat) (A : Around) : Prop where
 hd : A.handled = none
 dp : A.depth + 3 * k + 5 < recursionLimit
 un : A.units + 16 * k + 200 < cLine
 gd : A.guards = some []
theorem Room.mono {j k : Nat} {A : Around} (r : Room k A) (h : j <= k) : Room j A := ⟨r.hd, by have := r.dp; omega, by have := r.un; omega, r.gd⟩
theorem Room.deeper {k : Nat} {A : Around} (r : Room (k + 1) A) (env : Env) : Room k (A.deeper env) :=
 ⟨r.hd, by have := r.dp; show A.depth + 1 + 3 * k + 5 < _; omega, by have := r.un; show A.units + 3 + 16 * k + 200 < _; omega, r.gd⟩
theorem zgV {A : Around} {C : Addr} {us : List Value} {kw : List (Str × Value)} : (A.under (.builtin "type.__call__" ⟨.ref C :: us, kw⟩)).depth = A.depth + 1 := by
 first | rfl | simp [Around.under, Code.weight, Code.isCreation, Code.isGuard, Code.isCaller, Code.frames, Code.isFrame, guardIds]
theorem zgW {A : Around} {C : Addr} {us : List Value} {kw : List (Str × Value)} : (A.under (.builtin "type.__call__" ⟨.ref C :: us, kw⟩)).units = A.units + 1 := by
 first | rfl | simp [Around.under, Code.cUnits, Code.frames, Code.isFrame]
theorem Room.make {k : Nat} {A : Around} (r : Room (k + 1) A) (C : Addr) (us : List Value) (kw : List (Str × Value)) : Room k (A.under (.builtin "type.__call__" ⟨.ref C :: us, kw⟩)) :=
 ⟨r.hd, by have := r.dp; rw [zgV]; omega, by have := r.un; rw [zgW]; omega, (by first | exact r.gd | (simp [Around.under, guardIds]; exact r.gd))⟩
theorem Room.depth {k : Nat} {A : Around} (r : Room k A) : A.depth < recursionLimit := by have := r.dp; omega
theorem Room.units {k : Nat} {A : Around} (r : Room k A) : A.units + 64 < cLine := by have := r.un; omega
def tNil : TA := fun _ H Q => Q [] H
def zhx (ta : TE) (tr : TA) : TA := fun σ H Q => ta σ H fun x H1 => tr σ H1 fun xs H2 => Q (x :: xs) H2
section
variable {X : Cx} {e : Expr} {es : List Expr} {te : TE} {t : TA} {pos : Pos}
theorem zdk : PA X [] tNil := fun _ _ _ _ H Q I h => Calls.spliced_nil ⟨[], H, I, .nil, h⟩
theorem zbS (ha : PE X e te) (hr : PA X es t) (hs : starEach (e :: es) X.env = (false, eval e X.env) :: starEach es X.env := by rfl) : PA X (e :: es) (zhx te t) := by
 intro pos pins s σ H Q I h
 rw [hs]
 show wpAny _ _ (spliced ((false, eval e X.env) :: backTo pos (starEach es X.env))) _ _ s
 refine Calls.spliced_cons (thn (ha pins s σ H _ I h) fun u s1 ⟨x, H1, I1, r1, q1⟩ => ?_)
 exact thn (hr pos pins s1 σ H1 _ I1 q1) fun us s2 ⟨xs, H2, I2, r2, q2⟩ => ⟨x :: xs, H2, I2, .cons r1 r2, q2⟩
def tTup (t : TA) : TE := fun σ H Q => t σ H fun xs H1 => xs.length <= sizeLine /\ ∀ p, H1 p = none -> Q (.ref p) (upd H1 p (.tup xs))
def tLst (t : TA) : TE := fun σ H Q => t σ H fun xs H1 => xs.length <= sizeLine /\ ∀ p, H1 p = none -> Q (.ref p) (upd H1 p (.lst xs))
theorem zlV {x1} (h : PA X es t) : PE X (.Tuple es x1 pos) (tTup t) := by
 intro pins s σ H Q I hq
 refine wpAny_Tuple_spliced (thn (h pos pins s σ H _ I hq) fun us s1 ⟨xs, H1, I1, r, z, q⟩ => ⟨by rw [← r.length]; exact z, ?_⟩)
 have hf : H1 s1.heap.objs.size = none := I1.hok.fresh (Nat.le_refl _)
 refine ⟨.ref s1.heap.objs.size, upd H1 s1.heap.objs.size (.tup xs), I1.laid (t' := s1.toks) (fun b u e => Heap.get?_push_of_some _ e) (Nat.le_refl _) ?_, rfl, q _ hf⟩
 exact ⟨z, us, r, ⟨_, Heap.get?_push_size _ rfl, rfl, _, rfl⟩⟩
theorem zjL (h : PA X es t) : PE X (.List es pos) (tLst t) := by
 intro pins s σ H Q I hq
 refine wpAny_List_spliced (thn (h pos pins s σ H _ I hq) fun us s1 ⟨xs, H1, I1, r, z, q⟩ => ⟨by rw [← r.length]; exact z, ?_⟩)
 have hf : H1 s1.heap.objs.size = none := I1.hok.fresh (Nat.le_refl _)
 refine ⟨.ref s1.heap.objs.size, upd H1 s1.heap.objs.size (.lst xs), I1.laid (t' := s1.toks) (fun b u e => Heap.get?_push_of_some _ e) (Nat.le_refl _) ?_, rfl, q _ hf⟩
 exact ⟨z, us, 0, r, Heap.get?_push_size _ rfl⟩
end
abbrev Sp := List V -> Hp -> VK -> XK -> Prop
abbrev CXT := List Env -> Hp -> Shared -> XK -> Value -> Shared -> Prop
structure Env0 (P : Program) (w : World) (K : PySem.W.Frag) (mg : Str -> Option Value) (base : Heap) (A : Around) (outer : List Env) (s : Shared) (H : Hp) : Prop where
 frames : A.frames = some outer
 mod : Mod K mg base
 bs : ∀ b o, base.get? b = some o -> s.heap.get? b = some o /\ H b = none
 bsz : base.objs.size <= s.heap.objs.size
 funs : s.heap.FunFrames base outer
 frf : ∀ b ∈ frs outer, H b = none
 hok : HOk P w H s.heap
 bare : AllBare s.gens
def CE (outer : List Env) (P : Program) (w : World) (H : Hp) (s : Shared) (Q : VK) (u : Value) (s' : Shared) : Prop :=
 ∃ v H', s'.os = s.os /\ AllBare s'.gens /\ Un (frs outer) [] H H' s.heap s'.heap /\ HOk P w H' s'.heap /\ RelV v u /\ Q v H'
def CR (CX : CXT) (outer : List Env) (P : Program) (w : World) (H : Hp) (s : Shared) (Q : VK) (E : XK) (r : Result) (s' : Shared) : Prop :=
 match r with
 | .ok (.ret u) => CE outer P w H s Q u s'
 | .ok _ => False
 | .error e => CX outer H s E e s'
structure FnOk (P : Program) (w : World) (K : PySem.W.Frag) (mg : Str -> Option Value) (base : Heap) (CX : CXT) (k : Nat) (f : Addr) (fd : FuncData) (ps : List Str) (sp : Sp) : Prop where
 len : ∀ vs H Q E, sp vs H Q E -> vs.length = ps.length
 run : ∀ (A : Around) (outer : List Env) (s : Shared) (H : Hp) (args : Args) (us : List Value) (vs : List V) (Q : VK) (E : XK), Room k A -> Env0 P w K mg base A outer s H -> BindsTo s fd args (ps.zip us) -> Vals vs us -> sp vs H Q E ->
  codeAny (model P w) A (.call (.ref f) args) (CR CX outer P w H s Q E) s
theorem Env0.make {P : Program} {w : World} {K : PySem.W.Frag} {mg : Str -> Option Value} {base : Heap} {A : Around} {outer : List Env} {s : Shared} {H : Hp} (e : Env0 P w K mg base A outer s H) (C : Addr) (us : List Value) (kw : List (Str × Value)) :
  Env0 P w K mg base (A.under (.builtin "type.__call__" ⟨.ref C :: us, kw⟩)) outer s H := ⟨by first | exact e.frames | (simpa [Around.under, Code.envs, Code.isFrame, pushEnvs] using e.frames), e.mod, e.bs, e.bsz, e.funs, e.frf, e.hok, e.bare⟩
section
variable {X : Cx} {pins : List (Addr × Obj)} {σ : St} {H : Hp} {s s' : Shared}
theorem Inv.env0 (I : Inv X pins σ H s) : Env0 X.prog X.w X.K X.mg X.base X.A X.stack s H :=
 ⟨I.ok.frames, I.ok.mod, I.bs, Nat.le_trans I.ok.bsz I.sz, I.stack, I.stkFree, I.hok, I.bare⟩
theorem Inv.after {Q : VK} {u : Value} (I : Inv X pins σ H s) (h : CE X.stack X.prog X.w H s Q u s') : EP X pins σ Q u s' := by
 obtain ⟨v, H', os, bare, un, hok, r, q⟩ := h
 obtain ⟨hh, g, d, t, os'⟩ := s'
 obtain rfl : os' = s.os := os
 exact ⟨v, H', I.call (h' := hh) (g' := g) (d' := d) (t' := t) (ch := []) un hok bare (fun b z => absurd z (by simp)), r, q⟩
end
def zj9 (sp : Sp) (dvs : List V) (E : XK) (t : TA) : TE := fun σ H Q => t σ H fun vs H1 => sp (vs ++ dvs) H1 Q E
def zc9 (K : PySem.W.Frag) (fd : FuncData) (ps : List Str) (ds : List Value) : Prop :=
 ∀ (s : Shared) (us : List Value), K.In s.heap -> (us ++ ds).length = ps.length -> BindsTo s fd ⟨us, []⟩ (ps.zip (us ++ ds))
theorem zc9.all {K : PySem.W.Frag} {fd : FuncData} {ps : List Str} (h : ∀ us : List Value, us.length = ps.length -> bindArgs fd ⟨us, []⟩ = pure (ps.zip us)) : zc9 K fd ps [] := fun s us _ hl => by
 rw [List.append_nil] at hl ⊢
 exact .of_eq (h us hl)
def zhy (CX : CXT) (X : Cx) (E : XK) : Prop := ∀ (pins : List (Addr × Obj)) (σ : St) (H : Hp) (s : Shared) (e : Value) (s' : Shared), Inv X pins σ H s -> CX X.stack H s E e s' -> X.xe e s'
section
variable {X : Cx} {CX : CXT} {k : Nat} {f C : Addr} {fd : FuncData} {ps : List Str} {sp : Sp} {dvs : List V} {ds : List Value} {E : XK} {x m : Str} {p pos apos : Pos} {e o : Expr} {es : List Expr} {ta : TE} {t : TA}
theorem zjM {pins : List (Addr × Obj)} {σ : St} {H : Hp} {s : Shared} {Q : VK} {us : List Value} {vs : List V} (F : FnOk X.prog X.w X.K X.mg X.base CX k f fd ps sp) (hr : Room k X.A) (hb : zc9 X.K fd ps ds) (hd : Vals dvs ds) (hx : zhy CX X E)
  (I : Inv X pins σ H s) (r : Vals vs us) (h : sp (vs ++ dvs) H Q E) : wpAny (model X.prog X.w) X.A (call (.ref f) us) (EP X pins σ Q) X.xe s := by
 have r2 : Vals (vs ++ dvs) (us ++ ds) := r.append hd
 have hl : (us ++ ds).length = ps.length := by rw [← r2.length]; exact F.len _ _ _ _ h
 refine wpAny_call (codeAny_mono (F.run X.A X.stack s H ⟨us, []⟩ (us ++ ds) (vs ++ dvs) Q E hr I.env0 (hb s us I.kIn hl) r2 h) fun r s' hq => ?_)
 cases r with
 | error e => exact hx pins σ H s e s' I hq
 | ok fl =>
  cases fl with
  | ret u => exact I.after hq
  | next => exact False.elim hq
  | brk => exact False.elim hq
  | cont => exact False.elim hq
theorem zka (F : FnOk X.prog X.w X.K X.mg X.base CX k f fd ps sp) (hr : Room k X.A) (hg : Gl X x) (hm : X.mg x = some (.ref f)) (hk : PySem.W.keepIn X.K (.ref f) = true) (hb : zc9 X.K fd ps ds) (hd : Vals dvs ds) (hx : zhy CX X E)
  (ha : PA X (e :: es) t) (hdb : (x == ("__debug__" : Str)) = false := by decide) (he : starEach (e :: es) X.env = (false, eval e X.env) :: starEach es X.env := by rfl) (hpl : (backTo pos (starEach es X.env)).any (·.1) = false := by rfl) :
  PE X (.Call (.Name x p) (e :: es) [] pos) (zj9 sp dvs E t) := by
 intro pins s σ H Q I h
 refine wpAny_Call_Name_kw (zdD I hg hm ?_ hdb)
 refine PySem.W.callWith_K (h₀ := X.base) I.ok.mod.kin hk (thn (ha pos pins s σ H _ I h) fun us s1 ⟨vs, H1, I1, r, q⟩ => ⟨I1.kIn, ?_⟩) he hpl
 exact zjM F hr hb hd hx I1 r q
end
section
variable {X : Cx} {CX : CXT} {k : Nat} {f C : Addr} {fd : FuncData} {ps ks : List Str} {sp : Sp} {E : XK} {x m : Str} {p pos apos kpos : Pos} {e o : Expr} {es : List Expr} {kws : List Keyword} {te ta : TE} {t tk : TA} {nm : Option Str}
variable {g : List Value -> List Value -> List Value} {gV : List V -> List V -> List V}
end
structure zdF (N P : List Str) (sc : Scope) : Prop where
 kind : sc.kind = .function
 co : sc.isCoroutine = false
 gen : sc.isGenerator = false
 nd : N.Nodup
 pre : N.take P.length = P
 par : ∀ x ∈ P, sc.names.lookup x = some .local ∨ sc.names.lookup x = some .cell
 nofree : ∀ y ∈ sc.names, y.2 ≠ .free
theorem zfi {kindOf : Str -> Option NameKind} {x : Str} : ∀ {binds : List (Str × Value)} {m : Str -> Option Value}, (∀ v, (x, v) ∉ binds) -> bindL kindOf binds m x = m x
 | [], _, _ => rfl
 | (n, v) :: r, m, h => by
  unfold bindL
  rw [zfi fun w hw => h w (List.mem_cons_of_mem _ hw)]
  split
  ·have : x ≠ n := by rintro rfl; exact h v List.mem_cons_self
   simp [this]
  ·rfl
theorem zfj {kindOf : Str -> Option NameKind} {x : Str} : ∀ {binds : List (Str × Value)} {m : Str -> Option Value}, (∀ v, (x, v) ∉ binds) -> bindC kindOf binds m x = m x
 | [], _, _ => rfl
 | (n, v) :: r, m, h => by
  unfold bindC
  rw [zfj fun w hw => h w (List.mem_cons_of_mem _ hw)]
  split
  ·rfl
  ·have : x ≠ n := by rintro rfl; exact h v List.mem_cons_self
   simp [this]
theorem zfk {kindOf : Str -> Option NameKind} {x : Str} {v : Value} : ∀ {P : List Str} {vs : List Value} {i : Nat} {m : Str -> Option Value}, P.Nodup -> P[i]? = some x -> vs[i]? = some v -> kindOf x = some .local ->
  bindL kindOf (P.zip vs) m x = some v
 | [], _, _, _, _, h, _, _ => by simp at h
 | _ :: _, [], _, _, _, _, h, _ => by simp at h
 | p :: P, w :: vs, 0, m, nd, h1, h2, hk => by
  simp at h1 h2; subst h1; subst h2
  show bindL kindOf ((p, w) :: P.zip vs) m p = _
  unfold bindL
  rw [zfi fun v hv => (List.nodup_cons.mp nd).1 (List.of_mem_zip hv).1, if_pos hk]
  simp
 | p :: P, w :: vs, i + 1, m, nd, h1, h2, hk => by
  show bindL kindOf ((p, w) :: P.zip vs) m x = _
  unfold bindL
  exact zfk (i := i) (List.nodup_cons.mp nd).2 (by simpa using h1) (by simpa using h2) hk
theorem zfl {kindOf : Str -> Option NameKind} {x : Str} {v : Value} : ∀ {P : List Str} {vs : List Value} {i : Nat} {m : Str -> Option Value}, P.Nodup -> P[i]? = some x -> vs[i]? = some v -> kindOf x ≠ some .local ->
  bindC kindOf (P.zip vs) m x = some v
 | [], _, _, _, _, h, _, _ => by simp at h
 | _ :: _, [], _, _, _, _, h, _ => by simp at h
 | p :: P, w :: vs, 0, m, nd, h1, h2, hk => by
  simp at h1 h2; subst h1; subst h2
  show bindC kindOf ((p, w) :: P.zip vs) m p = _
  unfold bindC
  rw [zfj fun v hv => (List.nodup_cons.mp nd).1 (List.of_mem_zip hv).1, if_neg hk]
  simp
 | p :: P, w :: vs, i + 1, m, nd, h1, h2, hk => by
  show bindC kindOf ((p, w) :: P.zip vs) m x = _
  unfold bindC
  exact zfl (i := i) (List.nodup_cons.mp nd).2 (by simpa using h1) (by simpa using h2) hk
def zd5 (N : List Str) (vs : List V) : St := vs.map some ++ List.replicate (N.length - vs.length) none
def cxOf (CX : CXT) (P : Program) (w : World) (K : PySem.W.Frag) (mg : Str -> Option Value) (base : Heap) (N : List Str) (qual : Str) (scope : Scope) (f : Addr) (cd : Value) (A : Around) (outer : List Env) (s : Shared) (H : Hp) (E : XK) : Cx where
 prog := P
 w := w
 K := K
 mg := mg
 base := base
 A := A.deeper (envOfC qual scope s.heap.objs.size f cd)
 N := N
 s₀ := s
 H₀ := H
 env := envOfC qual scope s.heap.objs.size f cd
 outer := outer
 stack := envOfC qual scope s.heap.objs.size f cd :: outer
 ex := []
 calm := true
 fn := fun _ => true
 pn := []
 xe := fun e s' => wpAny (model P w) (A.deeper (envOfC qual scope s.heap.objs.size f cd)) (leaving (envOfC qual scope s.heap.objs.size f cd) e) (fun _ s'' => CX outer H s E e s'') (fun e' s'' => CX outer H s E e' s'') s'
theorem zgv {sc : Scope} {n : Nat} {x : Str} (h : sc.names.lookup x = some .cell) : ∃ c, (cellsFrom n sc.names []).lookup x = some c := by
 have q := PySem.W.cellsFrom_some sc.names n [] (.inl h)
 exact Option.isSome_iff_exists.mp q
theorem zhz {CX : CXT} {P : Program} {w : World} {K : PySem.W.Frag} {mg : Str -> Option Value} {base : Heap} {N ps : List Str} {qual : Str} {scope : Scope} {f : Addr} {cd : Value} {A : Around} {outer : List Env} {s s1 : Shared} {H : Hp} {E : XK} {us : List Value} {vs : List V}
  (S : zdF N ps scope) (hd : A.handled = none) (e0 : Env0 P w K mg base A outer s H) (hl : vs.length = ps.length) (r : Vals vs us)
  (x : InCallC s s.heap.objs.size (bindL (envOfC qual scope s.heap.objs.size f cd).kindOf (ps.zip us) fun _ => none) (cellsFrom (s.heap.objs.size + 1) scope.names []) (bindC (envOfC qual scope s.heap.objs.size f cd).kindOf (ps.zip us) fun _ => none) s1) :
  Inv (cxOf CX P w K mg base N qual scope f cd A outer s H E) [] (zd5 N vs) H s1 := by
 have hpl : ps.length <= N.length := by have := congrArg List.length S.pre; rw [List.length_take] at this; omega
 obtain ⟨h1, tk, rfl, hk⟩ := x.done
 have noA : ∀ b : Addr, b ∉ (cxOf CX P w K mg base N qual scope f cd A outer s H E).ex := fun b z => absurd (show b ∈ ([] : List Addr) from z) (by simp)
 refine ⟨⟨e0.mod, S.kind, rfl, rfl, Nat.le_refl _, fun y z c h1 h2 => ?_, fun y hy => ?_, fun y c _ h => ?_, fun _ => hd, Around.frames_deeper e0.frames, .inr ⟨rfl, rfl⟩, fun b z => absurd z (noA b), e0.bs, e0.bsz, fun b _ _ => noA b, fun b z => absurd z (noA b), e0.funs, e0.frf⟩,
  rfl, e0.bare, Un.kept hk, ⟨_, x.toInCall.ns, fun i y v h1 h2 h3 => ?_⟩, fun y c h => ⟨_, x.cell y c h⟩, e0.hok.fresh (Nat.le_refl _), fun y c h => ?_, fun p hp => absurd (show p ∈ ([] : List (Addr × Obj)) from hp) (by simp), e0.hok.kept hk, ?_⟩
 ·exact name_of_addr x.apart (PySem.mem_of_lookup h1) (PySem.mem_of_lookup h2)
 ·have hy : scope.names.lookup y = some .cell ∨ scope.names.lookup y = some .free := hy
  rcases hy with hy | hy
  ·exact zgv hy
  ·exact absurd rfl (S.nofree _ (PySem.mem_of_lookup hy))
 ·exact Nat.le_of_lt (x.above y c (PySem.mem_of_lookup h))
 ·have hi : i < vs.length := by
   unfold zd5 at h2
   by_cases hi : i < vs.length
   ·exact hi
   ·rw [List.getElem?_append_right (by simpa using hi)] at h2
    rw [List.getElem?_replicate] at h2
    split at h2 <;> cases h2
  have ha : vs[i]? = some v := by
   unfold zd5 at h2
   rw [List.getElem?_append_left (by simpa using hi), List.getElem?_map] at h2
   cases e : vs[i]? with
   | none => rw [e] at h2; cases h2
   | some a => rw [e] at h2; cases h2; rfl
  obtain ⟨u, hu, rv⟩ := r.get ha
  have hp : ps[i]? = some y := by
   rw [← S.pre, List.getElem?_take_of_lt (by omega)]; exact h1
  have ndP : ps.Nodup := by rw [← S.pre]; exact S.nd.sublist (List.take_sublist _ _)
  refine ⟨u, rv, ?_⟩
  rcases S.par y (List.mem_of_getElem? hp) with k | k
  ·exact .inl ⟨k, zfk ndP hp hu k⟩
  ·obtain ⟨c, e⟩ := zgv (n := s.heap.objs.size + 1) k
   refine .inr ⟨.inl k, c, e, ?_⟩
   have q := x.cell y c e
   rw [zfl ndP hp hu (by show scope.names.lookup y ≠ _; rw [k]; decide)] at q
   exact q
 ·exact e0.hok.fresh (Nat.le_of_lt (x.above y c (PySem.mem_of_lookup h)))
 ·unfold zd5
  show _ = N.length
  rw [List.length_append, List.length_map, List.length_replicate]
  omega
theorem zlW {CX : CXT} {P : Program} {w : World} {K : PySem.W.Frag} {mg : Str -> Option Value} {base : Heap} {k : Nat} {f : Addr} {name qual : Str} {params : Arguments} {body : List Stmt} {scope : Scope} {dV kV doc pm cdv ct oc : Value} {an od : Option Addr}
  {osl : Array (Option Value)} {N ps : List Str} {sp : Sp} (lk : K.lookup f = some ⟨oc, od, .func (PySem.W.fnOf name qual params body scope dV kV doc pm an cdv ct), osl⟩) (hcd : PySem.W.codeIn K cdv qual = true) (S : zdF N ps scope)
  (len : ∀ vs H Q E, sp vs H Q E -> vs.length = ps.length)
  (hbody : ∀ (A : Around) (outer : List Env) (s : Shared) (H : Hp) (vs : List V) (Q : VK) (E : XK), Room k (A.deeper (envOfC qual scope s.heap.objs.size f cdv)) -> sp vs H Q E ->
   ∃ t, PSs (cxOf CX P w K mg base N qual scope f cdv A outer s H E) body t /\ t { nx := fun _ H' => Q .non H', rt := Q } (zd5 N vs) H) :
  FnOk P w K mg base CX (k + 1) f (PySem.W.fnOf name qual params body scope dV kV doc pm an cdv ct) ps sp := by
 refine ⟨len, fun A outer s H args us vs Q E hr e0 hb r hsp => ?_⟩
 have hl := len _ _ _ _ hsp
 have KX : K.In s.heap := e0.mod.kin.keeps fun b o e => (e0.bs b o e).1
 have lim : s.heap.NoLimit := e0.mod.nolimit.keeps fun b o e => (e0.bs b o e).1
 have hkind : ∀ y ∈ ps.zip us, scope.names.lookup y.1 = some .local ∨ (scope.names.lookup y.1 = some .cell /\ ((cellsFrom (s.heap.objs.size + 1) scope.names []).lookup y.1).isSome = true) := fun ⟨n, v⟩ hy => by
  rcases S.par n (List.of_mem_zip hy).1 with q | q
  ·exact .inl q
  ·exact .inr ⟨q, PySem.W.cellsFrom_some _ _ _ (.inl q)⟩
 refine codeAny_call_function hr.depth (KX _ _ lk) rfl S.co S.gen rfl (PySem.W.codeRec_of KX hcd) (hb _ _ _ _ ?_)
 refine wpAny_newFunctionEnv_cells S.kind hkind fun env he s1 x => ?_
 subst he
 refine ⟨lim.keeps x.toInCall.keep, codeAny_func ?_⟩
 obtain ⟨t, ht, hq⟩ := hbody A outer s H vs Q E (hr.deeper _) hsp
 have I : Inv (cxOf CX P w K mg base N qual scope f cdv A outer s H E) [] (zd5 N vs) H s1 := zhz S hr.hd e0 hl r x
 refine wpAny_mono (ht [] s1 (zd5 N vs) H _ I hq) (fun fl s' hs => ?_) fun e s' hs => hs
 have fin : ∀ {σ' : St} {H' : Hp} {v : V} {u : Value}, Inv (cxOf CX P w K mg base N qual scope f cdv A outer s H E) [] σ' H' s' -> RelV v u -> Q v H' -> CE outer P w H s Q u s' :=
  fun {σ' H' v u} J rv q => ⟨v, H', J.os, J.bare, J.base, J.hok, rv, q⟩
 cases fl with
 | ret u =>
  obtain ⟨v, σ', H', J, rv, q⟩ := hs
  exact fin J rv q
 | next =>
  obtain ⟨σ', H', J, q⟩ := hs
  exact fin (v := V.non) (u := Value.none) J rfl q
 | brk =>
  obtain ⟨_, _, _, q⟩ := hs
  exact False.elim q
 | cont =>
  obtain ⟨_, _, _, q⟩ := hs
  exact False.elim q
end L2
namespace L2
open PySem PySem.Spec PyProof.Rows
section
variable {X : Cx} {x : Str} {p pos : Pos} {e : Expr} {es : List Expr} {t : TA} {id T : String} {r : List V -> Hp -> VK -> Prop}
def tCB (r : List V -> Hp -> VK -> Prop) (t : TA) : TE := fun σ H Q => t σ H fun vs H1 => r vs H1 Q
theorem zc5 (hc : zdE X (.builtin id) r) (hg : Gl X x) (hm : X.mg x = none) (hv : bootBuiltins x = some (.builtin id)) (ha : PA X (e :: es) t) (hn : x ≠ "__name__" := by decide) (hdb : (x == ("__debug__" : Str)) = false := by decide)
  (he : starEach (e :: es) X.env = (false, eval e X.env) :: starEach es X.env := by rfl) (hpl : (backTo pos (starEach es X.env)).any (·.1) = false := by rfl) : PE X (.Call (.Name x p) (e :: es) [] pos) (tCB r t) := by
 intro pins s σ H Q I h
 refine wpAny_Call_Name_kw (zd3 I hg hm hv ?_ hn hdb)
 exact PyProof.Rows.callWith_builtin1 (thn (ha pos pins s σ H _ I h) fun us s1 ⟨vs, H1, I1, r1, q1⟩ => hc pins s1 σ H1 vs us Q I1 r1 q1) he hpl
theorem zfm (hc : zdE X (.type T) r) (hg : Gl X x) (hm : X.mg x = none) (hv : bootBuiltins x = some (.type T)) (ha : PA X (e :: es) t) (hn : x ≠ "__name__" := by decide) (hdb : (x == ("__debug__" : Str)) = false := by decide)
  (he : starEach (e :: es) X.env = (false, eval e X.env) :: starEach es X.env := by rfl) (hpl : (backTo pos (starEach es X.env)).any (·.1) = false := by rfl) : PE X (.Call (.Name x p) (e :: es) [] pos) (tCB r t) := by
 intro pins s σ H Q I h
 refine wpAny_Call_Name_kw (zd3 I hg hm hv ?_ hn hdb)
 exact PyProof.Rows.callWith_type1 (thn (ha pos pins s σ H _ I h) fun us s1 ⟨vs, H1, I1, r1, q1⟩ => hc pins s1 σ H1 vs us Q I1 r1 q1) he hpl
end
end L2
namespace HT
open PySem PyProof.Rows
section
open PySem.SeqAt
open PySem.AutoSeq1 (wpAny_loadPart')
open PySem.MeetsSeq PySem.MeetsSeq2 PySem.MeetsSeq3
end
section
variable {prog : Program} {w : World} {A : Around} {E : Value -> Shared -> Prop} {s : Shared}
def sIx (n d : Nat) : Option Int -> Nat
 | none => d
 | some v => if v < 0 then (v + (n : Int)).toNat else min v.toNat n
end
end HT
namespace L2
open PySem PySem.Spec PyProof.Rows
abbrev TO := St -> Hp -> (Option Int -> Hp -> Prop) -> Prop
def PO (X : Cx) (e : Option Expr) (t : TO) : Prop :=
 ∀ (pins : List (Addr × Obj)) (s : Shared) (σ : St) (H : Hp) (Q : Option Int -> Hp -> Prop), Inv X pins σ H s -> t σ H Q ->
  wpAny (model X.prog X.w) X.A (evalPart e X.env) (fun u s' => ∃ o H', Inv X pins σ H' s' /\ IsPart u o /\ Q o H') X.xe s
def zkb : TO := fun _ H Q => Q none H
def zna (t : TE) : TO := fun σ H Q => t σ H fun x H1 => ∃ i, x = .int i /\ Q (some i) H1
section
variable {X : Cx} {e : Expr} {te : TE} {lo hi : Option Expr} {tl th : TO} {pos p2 : Pos}
theorem zkc : PO X none zkb := by
 intro pins s σ H Q I h
 rw [evalPart_none]
 exact wpAny_pure ⟨none, H, I, .none, h⟩
theorem zkd (h : PE X e te) : PO X (some e) (zna te) := by
 intro pins s σ H Q I hw
 rw [evalPart_some]
 refine thn (h pins s σ H _ I hw) fun u s1 ⟨x, H1, I1, r1, q1⟩ => ?_
 obtain ⟨i, rfl, q⟩ := q1
 obtain ⟨t, rfl⟩ := r1
 exact ⟨some i, H1, I1, .int i t, q⟩
def SlR (X : Cx) (r : V -> Option Int -> Option Int -> Hp -> VK -> Prop) : Prop :=
 ∀ (pins : List (Addr × Obj)) (s : Shared) (σ : St) (H : Hp) (x : V) (v vl vu : Value) (lo hi : Option Int) (sl : Addr) (Q : VK), Inv X pins σ H s -> RelV x v -> s.heap.IsSliceOf sl vl vu .none -> IsPart vl lo -> IsPart vu hi -> r x lo hi H Q ->
  ∃ T id, typeLookup (.type T) "__getitem__" = pure (some (.builtin id)) /\ s.TypeIs v T /\ wpAny (model X.prog X.w) X.A (getItem v (.ref sl)) (EP X pins σ Q) X.xe s
theorem SlR.or {r r' : V -> Option Int -> Option Int -> Hp -> VK -> Prop} (h : SlR X r) (h' : SlR X r') : SlR X (fun x lo hi H Q => r x lo hi H Q ∨ r' x lo hi H Q) := by
 intro pins s σ H x v vl vu lo hi sl Q I rx hs pl pu q
 rcases q with q | q
 ·exact h pins s σ H x v vl vu lo hi sl Q I rx hs pl pu q
 ·exact h' pins s σ H x v vl vu lo hi sl Q I rx hs pl pu q
def tSl (r : V -> Option Int -> Option Int -> Hp -> VK -> Prop) (te : TE) (tl th : TO) : TE := fun σ H Q => te σ H fun x H1 => tl σ H1 fun l H2 => th σ H2 fun u H3 => r x l u H3 Q
theorem ziU {r : V -> Option Int -> Option Int -> Hp -> VK -> Prop} (hr : SlR X r) (he : PE X e te) (hl : PO X lo tl) (hu : PO X hi th) : PE X (.Subscript e (.Slice lo hi none p2) pos) (tSl r te tl th) := by
 intro pins s σ H Q I h
 refine Subscript_ (thn (he pins s σ H _ I h) fun v s1 ⟨x, H1, I1, r1, q1⟩ => ?_)
 refine wpAny_Slice (thn (hl pins s1 σ H1 _ I1 q1) fun vl s2 ⟨l, H2, I2, pl, q2⟩ => thn (hu pins s2 σ H2 _ I2 q2) fun vu s3 ⟨u, H3, I3, pu, q3⟩ => ?_)
 rw [evalPart_none]
 refine wpAny_pure ?_
 have I4 : Inv X pins σ H3 { s3 with heap := s3.heap.push { cls := .type "slice", data := .fields #[vl, vu, .none] } } := I3.kept (t' := s3.toks) fun b ob q => Heap.get?_push_of_some _ q
 obtain ⟨T, id, hT, ht, hg⟩ := hr pins { s3 with heap := s3.heap.push { cls := .type "slice", data := .fields #[vl, vu, .none] } } σ H3 x v vl vu l u s3.heap.objs.size Q I4 r1 (Heap.IsSliceOf.new ..) pl pu q3
 show wpAny (model X.prog X.w) X.A (subscriptTail e (.Slice lo hi none p2) v (.ref s3.heap.objs.size)) (EP X pins σ Q) X.xe { s3 with heap := s3.heap.push { cls := .type "slice", data := .fields #[vl, vu, .none] } }
 exact tail_any (ops := [.ref s3.heap.objs.size, v]) ht hT hg (by with_unfolding_all rfl)
def cutV (xs : List V) (lo hi : Option Int) : List V := (xs.drop (HT.sIx xs.length 0 lo)).take (HT.sIx xs.length xs.length hi - HT.sIx xs.length 0 lo)
theorem zfZ (xs : List V) (lo hi : Option Int) : (cutV xs lo hi).length <= xs.length := by
 unfold cutV
 rw [List.length_take, List.length_drop]
 omega
end
end L2
namespace L2
open PySem PySem.Spec PyProof.Rows
def ixN (n : Nat) (i : Int) : Option Nat := if 0 <= i then (if i < n then some i.toNat else none) else if -(n : Int) <= i then some (i + n).toNat else none
def atI {α : Type} (xs : List α) (i : Int) : Option α := (ixN xs.length i).bind fun j => xs[j]?
theorem zke {n : Nat} {i : Int} {j : Nat} (h : ixN n i = some j) : seqIndex? i n = some j /\ j < n /\ -(n : Int) <= i /\ i < n := by
 unfold ixN at h
 by_cases h0 : 0 <= i
 ·rw [if_pos h0] at h
  by_cases h1 : i < n
  ·rw [if_pos h1] at h
   have e : i.toNat = j := Option.some.inj h
   exact ⟨by rw [seqIndex_of h0 h1, e], by omega, by omega, h1⟩
  ·rw [if_neg h1] at h; cases h
 ·rw [if_neg h0] at h
  by_cases h1 : -(n : Int) <= i
  ·rw [if_pos h1] at h
   have e : (i + n).toNat = j := Option.some.inj h
   exact ⟨by rw [seqIndex_neg (by omega) h1, e], by omega, h1, by omega⟩
  ·rw [if_neg h1] at h; cases h
theorem zf0 {α : Type} {xs : List α} {i : Int} {v : α} (h : atI xs i = some v) : ∃ j, seqIndex? i xs.length = some j /\ xs[j]? = some v /\ j < xs.length /\ -(xs.length : Int) <= i /\ i < xs.length := by
 unfold atI at h
 cases e : ixN xs.length i with
 | none => rw [e] at h; cases h
 | some j =>
  rw [e] at h
  obtain ⟨h1, h2, h3, h4⟩ := zke e
  exact ⟨j, h1, h, h2, h3, h4⟩
theorem zeS {α : Type} {xs : List α} {j : Nat} {v : α} (h : xs[j]? = some v) : atI xs (j : Int) = some v := by
 have hj : j < xs.length := (List.getElem?_eq_some_iff.mp h).1
 have e : ixN xs.length (j : Int) = some j := by
  unfold ixN
  rw [if_pos (by omega), if_pos (by omega)]; simp
 unfold atI; rw [e]; exact h
def zf1 (b : Expr) : Prop := ∀ o i, subscripted b false o i = operate [o, i] (getItem o i)
def IxR (X : Cx) (r : R2) : Prop :=
 ∀ (value slice : Expr) (pins : List (Addr × Obj)) (s : Shared) (σ : St) (H : Hp) (x y : V) (v u : Value) (Q : VK), Inv X pins σ H s -> RelV x v -> RelV y u -> r x y H Q ->
  subscripted slice false v u = operate [v, u] (getItem v u) -> wpAny (model X.prog X.w) X.A (subscriptTail value slice v u) (EP X pins σ Q) X.xe s
def MtR (X : Cx) (id : String) (r : V -> List V -> Hp -> VK -> Prop) : Prop :=
 ∀ (pins : List (Addr × Obj)) (s : Shared) (σ : St) (H : Hp) (x : V) (xs : List V) (v : Value) (us : List Value) (Q : VK), Inv X pins σ H s -> RelV x v -> Vals xs us -> r x xs H Q ->
  wpAny (model X.prog X.w) X.A (call (.builtin id) (v :: us)) (EP X pins σ Q) X.xe s
section
variable {X : Cx} {a b : Expr} {ta tb : TE} {pos : Pos}
theorem IxR.or {r r' : R2} (h : IxR X r) (h' : IxR X r') : IxR X (fun x y H Q => r x y H Q ∨ r' x y H Q) := by
 intro value slice pins s σ H x y v u Q I rx ry q hs
 rcases q with q | q
 ·exact h value slice pins s σ H x y v u Q I rx ry q hs
 ·exact h' value slice pins s σ H x y v u Q I rx ry q hs
theorem zlX {r : R2} (hr : IxR X r) (ha : PE X a ta) (hb : PE X b tb) (hs : zf1 b) : PE X (.Subscript a b pos) (tOp r ta tb) := by
 intro pins s σ H Q I h
 exact Subscript_ (binT ha hb I h fun v u s2 x y H2 I2 rx ry q => hr a b pins s2 σ H2 x y v u Q I2 rx ry q (hs _ _))
def rIxL (K : PySem.W.Frag) : R2 := fun x y H Q => ∃ p xs i v, x = .ref p /\ y = .int i /\ SqL K H p xs /\ atI xs i = some v /\ Q v H
def rIxT (K : PySem.W.Frag) : R2 := fun x y H Q => ∃ p xs i v, x = .ref p /\ y = .int i /\ SqT K H p xs /\ atI xs i = some v /\ Q v H
def rIxS : R2 := fun x y H Q => ∃ z i c, x = .str z /\ y = .int i /\ z.length <= sizeLine /\ atI z.cps.toList i = some c /\ Q (.str ⟨#[c]⟩) H
theorem zkf : IxR X (rIxL X.K) := by
 intro value slice pins s σ H x y v u Q I rx ry h hs
 obtain ⟨p, xs, i, z, rfl, rfl, hq, he, q⟩ := h
 cases rx
 obtain ⟨t, rfl⟩ := ry
 obtain ⟨its, r, pl, hz⟩ := I.list hq
 obtain ⟨j, h1, h2, h3, h4, h5⟩ := zf0 he
 obtain ⟨w, ew, rw'⟩ := r.get h2
 have hl := r.length
 have hn := zgt
 have fin : EP X pins σ Q w s := ⟨z, H, I, rw', q⟩
 by_cases h0 : 0 <= i
 ·have hj : i.toNat = j := by
   rw [seqIndex_of h0 h5] at h1
   exact Option.some.inj h1
  exact item_listR pl.isList h0 (by omega) (by rw [hj]; simpa using ew) fin hs
 ·have hj : (i + (its.toArray.size : Int)).toNat = j := by
   rw [seqIndex_neg (by omega) h4] at h1
   rw [List.size_toArray, ← hl]
   exact Option.some.inj h1
  exact subscriptTail_builtinR (x := w) pl.isList.typeIs slot_list_getitem.lookup
   (wpAny_getItem_list_neg (Q := fun r s' => r = w /\ EP X pins σ Q r s') pl.isList (by omega) (by rw [List.size_toArray] <;> omega) (by omega) (by rw [hj]; simpa using ew) ⟨rfl, fin⟩) hs
theorem zlY : IxR X (rIxT X.K) := by
 intro value slice pins s σ H x y v u Q I rx ry h hs
 obtain ⟨p, xs, i, z, rfl, rfl, hq, he, q⟩ := h
 cases rx
 obtain ⟨t, rfl⟩ := ry
 obtain ⟨its, r, pl, hz⟩ := I.tuple hq
 obtain ⟨j, h1, h2, h3, h4, h5⟩ := zf0 he
 obtain ⟨w, ew, rw'⟩ := r.get h2
 have hl := r.length
 have hn := zgt
 have fin : EP X pins σ Q w s := ⟨z, H, I, rw', q⟩
 exact subscriptTail_builtinR (x := w) pl.typeIs slot_tuple_getitem.lookup
  (getItem_tuple (j := j) (Q := fun r s' => r = w /\ EP X pins σ Q r s') pl (by omega) (by omega) (by rw [List.size_toArray, ← hl]; exact h1) (by simpa using ew) ⟨rfl, fin⟩) hs
theorem zlZ : IxR X rIxS := by
 intro value slice pins s σ H x y v u Q I rx ry h hs
 obtain ⟨z, i, c, rfl, rfl, hz, he, q⟩ := h
 obtain ⟨t, rfl⟩ := rx
 obtain ⟨t', rfl⟩ := ry
 obtain ⟨j, h1, h2, h3, h4, h5⟩ := zf0 he
 have hl : z.cps.toList.length = z.length := by simp [Str.length]
 rw [hl] at h1 h4 h5
 have hn := zgt
 exact tail_any (typeIs_str s z t) slot_str_getitem.lookup (getItem_str (c := c) (by
  have e1 : decide (i < -(2 ^ 63 : Int)) = false := decide_eq_false (by omega)
  have e2 : decide (i ≥ 2 ^ 63) = false := decide_eq_false (by omega)
  rw [e1, e2, Bool.or_false]) (by rw [h1]; simpa using h2) ⟨.str ⟨#[c]⟩, H, I.tok _, ⟨_, rfl⟩, q⟩) hs
def rIx (K : PySem.W.Frag) : R2 := fun x y H Q => rIxL K x y H Q ∨ rIxT K x y H Q ∨ rIxS x y H Q
theorem zjN : IxR X (rIx X.K) := zkf.or (zlY.or zlZ)
theorem zfn (lo hi : Option Int) (n : Nat) : (sliceBounds lo hi none n).1 = ((HT.sIx n 0 lo : Nat) : Int) /\ (sliceBounds lo hi none n).2.1 = ((HT.sIx n n hi : Nat) : Int) /\ (sliceBounds lo hi none n).2.2 = 1 := by
 refine ⟨?_, ?_, rfl⟩
 ·cases lo with
  | none => simp [sliceBounds, HT.sIx]
  | some i =>
   simp only [sliceBounds, HT.sIx, Option.getD_none, show (1 : Int) > 0 by decide, if_true]
   by_cases h : i < 0
   ·simp only [h, if_true] <;> omega
   ·simp only [h, if_false] <;> omega
 ·cases hi with
  | none => simp [sliceBounds, HT.sIx]
  | some i =>
   simp only [sliceBounds, HT.sIx, Option.getD_none, show (1 : Int) > 0 by decide, if_true]
   by_cases h : i < 0
   ·simp only [h, if_true] <;> omega
   ·simp only [h, if_false] <;> omega
theorem zeT (its : List Value) (lo hi : Option Int) : slicePick its.toArray lo hi none = ((its.drop (HT.sIx its.length 0 lo)).take (HT.sIx its.length its.length hi - HT.sIx its.length 0 lo)).toArray := by
 obtain ⟨h1, h2, h3⟩ := zfn lo hi its.toArray.size
 unfold slicePick
 rw [h1, h2, h3]
 simp only [sliceRange_one, pick_run, List.size_toArray] <;> rfl
def rSlL (K : PySem.W.Frag) : V -> Option Int -> Option Int -> Hp -> VK -> Prop := fun x lo hi H Q => ∃ a xs, x = .ref a /\ SqL K H a xs /\ ∀ p, H p = none -> Q (.ref p) (upd H p (.lst (cutV xs lo hi)))
theorem zkg : SlR X (rSlL X.K) := by
 intro pins s σ H x v vl vu lo hi sl Q I rx hs pl pu h
 obtain ⟨a, xs, rfl, hx, q⟩ := h
 cases rx
 obtain ⟨its, r, ht, hz⟩ := I.list hx
 have hlen := r.length
 refine ⟨"list", _, slot_list_getitem.lookup, ht.isList.typeIs, ?_⟩
 refine wpAny_getItem_list_slice ht.isList hs pl pu .none (by simp) ?_ (by rw [List.size_toArray] <;> omega)
 rw [zeT, ← hlen]
 refine ⟨.ref s.heap.objs.size, _, I.laid (t' := s.toks) (o := .lst (cutV xs lo hi)) (fun b ob q => Heap.get?_push_of_some _ q) (Nat.le_refl _) ?_, rfl, q _ (I.hok.fresh (Nat.le_refl _))⟩
 exact ⟨Nat.le_trans (zfZ xs lo hi) hz, _, 0, (r.drop (HT.sIx xs.length 0 lo)).take (HT.sIx xs.length xs.length hi - HT.sIx xs.length 0 lo), Heap.get?_push_size _ rfl⟩
theorem zeU : zdE X (.type "tuple") (fun xs H Q => ∃ p ys, xs = [.ref p] /\ ((SqL X.K H p ys /\ ∀ l, H l = none -> Q (.ref l) (upd H l (.tup ys))) ∨ (SqT X.K H p ys /\ Q (.ref p) H))) := by
 intro pins s σ H xs us Q I r h
 obtain ⟨p, ys, rfl, h⟩ := h
 obtain ⟨u, rfl, rx⟩ := zj7 r
 cases rx
 rcases h with ⟨hq, q⟩ | ⟨hq, q⟩
 ·obtain ⟨its, r', pl, hz⟩ := I.list hq
  have hlen := r'.length
  refine call_tuple_list pl.isList (fun h' kp => ?_) (by simp only [List.size_toArray] <;> omega)
  have I1 : Inv X pins σ H { s with heap := h' } := I.kept (t' := s.toks) kp
  have I2 : Inv X pins σ (upd H h'.objs.size (.tup ys)) { s with heap := h'.push { cls := .type "tuple", data := .seq its.toArray } } :=
   I1.laid (t' := s.toks) (fun b o e => Heap.get?_push_of_some _ e) (Nat.le_refl _) (show zcw X.prog X.w _ _ _ (.tup ys) from ⟨hz, its, r', IsTup.new _ _⟩)
  exact ⟨.ref h'.objs.size, _, I2, rfl, q _ (I1.hok.fresh (Nat.le_refl _))⟩
 ·obtain ⟨its, r', pl, hz⟩ := I.tuple hq
  exact call_tuple_same pl ⟨.ref p, H, I, rfl, q⟩
def tyV (K : PySem.W.Frag) (T : String) (x : V) (H : Hp) : Prop := match x with
 | .str _ => T = "str"
 | .int _ => T = "int"
 | .ref p => (T = "list" /\ ∃ xs, SqL K H p xs) ∨ (T = "tuple" /\ ∃ o, K.lookup p = some o /\ o.cls = .type "tuple" /\ o.dict = none) ∨
   (T = "dict" /\ ((∃ kvs, H p = some (.dK kvs)) ∨ ∃ kvs, H p = some (.dT kvs))) ∨ (T = "set" /\ ∃ S n, H p = some (.set S n))
 | _ => False
theorem zl0 {pins : List (Addr × Obj)} {σ : St} {H : Hp} {s : Shared} {T : String} {x : V} {v : Value} (I : Inv X pins σ H s) (r : RelV x v) (ty : tyV X.K T x H) :
  s.TypeIs v T /\ ∀ a, v = .ref a -> ∃ ob, s.heap.get? a = some ob /\ ob.dict = none := by
 cases x with
 | str z =>
  obtain ⟨t, rfl⟩ := r
  cases (show T = "str" from ty)
  exact ⟨typeIs_str s z t, fun _ e => nomatch e⟩
 | int i =>
  obtain ⟨t, rfl⟩ := r
  cases (show T = "int" from ty)
  exact ⟨typeIs_int s i t, fun _ e => nomatch e⟩
 | ref p =>
  cases r
  rcases ty with ⟨rfl, xs, hq⟩ | ⟨rfl, o, hk, hc, hd⟩ | ⟨rfl, hk⟩ | ⟨rfl, S, n, hk⟩
  ·obtain ⟨its, _, pl, _⟩ := I.list hq
   refine ⟨pl.isList.typeIs, fun a e => ?_⟩
   cases e
   obtain ⟨o, n, e, c, hd, _⟩ := pl
   exact ⟨o, e, hd⟩
  ·refine ⟨⟨o, I.kIn p o hk, hc⟩, fun a e => ?_⟩
   cases e
   exact ⟨o, I.kIn _ o hk, hd⟩
  ·have z : ∃ o, s.heap.get? p = some o /\ o.ExactDict := by
    rcases hk with ⟨kvs, hk⟩ | ⟨kvs, hk⟩
    ·obtain ⟨_, _, _, _, o, _, _, e, ex, _⟩ := I.hok p _ hk
     exact ⟨o, e, ex⟩
    ·obtain ⟨_, _, _, _, o, _, _, e, ex, _⟩ := I.hok p _ hk
     exact ⟨o, e, ex⟩
   obtain ⟨o, e, ex⟩ := z
   refine ⟨⟨o, e, ex.1⟩, fun a e2 => ?_⟩
   cases e2
   exact ⟨o, e, ex.2.1⟩
  ·obtain ⟨o, _, _, _, e, ex, _⟩ := I.hok p _ hk
   refine ⟨⟨o, e, ex.1⟩, fun a e2 => ?_⟩
   cases e2
   exact ⟨o, e, ex.2.1⟩
 | _ => exact False.elim ty
def tBM (K : PySem.W.Frag) (T : String) (r : V -> List V -> Hp -> VK -> Prop) (to : TE) (t : TA) : TE := fun σ H Q => to σ H fun x H1 => tyV K T x H1 /\ t σ H1 fun xs H2 => r x xs H2 Q
variable {o e : Expr} {es : List Expr} {to : TE} {t : TA} {name : Str} {apos cpos : Pos} {T id : String} {r : V -> List V -> Hp -> VK -> Prop}
theorem znb (pa : PlainAttrs T) (slot : Slot T name id) (hty : typeOf (.builtin id) = pure (.type "method_descriptor")) (hm : MtR X id r) (ho : PE X o to) (ha : PA X (e :: es) t)
  (hbase : attributeBase o name X.env (eval o X.env) = eval o X.env := by rfl)
  (hfew : ((backTo cpos (starEach (e :: es) X.env)).all (fun x => !x.1) && (backToKw cpos (keywordEach [] X.env)).all (fun x => x.1.isSome)
   && decide ((e :: es).length + ([] : List Keyword).length + (if ([] : List Keyword).isEmpty then 0 else 1) < 30)) = true := by rfl)
  (hline : (apos.endLine == cpos.line) = true := by rfl) (hs : starEach (e :: es) X.env = (false, eval e X.env) :: starEach es X.env := by rfl) (hplain : (backTo cpos (starEach es X.env)).any (·.1) = false := by rfl) :
  PE X (.Call (.Attribute o name apos) (e :: es) [] cpos) (tBM X.K T r to t) := by
 intro pins s σ H Q I h
 refine wpAny_Call_method_late hbase hfew hline rfl (thn (ho pins s σ H _ I h) fun v s1 ⟨x, H1, I1, r1, ty, q1⟩ => ?_)
 obtain ⟨h1, h2⟩ := zl0 I1 r1 ty
 refine ⟨T, id, pa, slot, hty, h1, h2, ?_⟩
 have hA := ha cpos pins s1 σ H1 _ I1 q1
 rw [hs] at hA ⊢
 refine Calls.callWith_builtin (by show (false || (backTo cpos (starEach es X.env)).any (·.1)) = false; rw [hplain] <;> rfl) (Calls.evalArgs_plain ?_)
 exact thn hA fun us s2 ⟨vs, H2, I2, r2, q2⟩ => hm pins s2 σ H2 x vs v us Q I2 r1 r2 q2
end
end L2
namespace L2
open PySem PySem.Spec PyProof.Rows
def MtM (X : Cx) (id : String) (r : V -> List V -> Hp -> VK -> Prop) : Prop :=
 ∀ (pins : List (Addr × Obj)) (s : Shared) (σ : St) (H : Hp) (x : V) (xs : List V) (v : Value) (us : List Value) (Q : VK), Inv X pins σ H s -> RelV x v -> Vals xs us -> r x xs H Q ->
  wpAny (model X.prog X.w) X.A (call (.builtin id) (v :: us)) (EP X pins σ Q) X.xe s
theorem Vals.one : ∀ {x : V} {us : List Value}, Vals [x] us -> ∃ u, us = [u] /\ RelV x u
 | _, _, .cons r .nil => ⟨_, rfl, r⟩
theorem Vals.reverse {xs : List V} {us : List Value} (h : Vals xs us) : Vals xs.reverse us.reverse := by
 induction h with
 | nil => exact .nil
 | cons r t ih => rw [List.reverse_cons, List.reverse_cons]; exact Vals.append ih (.cons r .nil)
theorem Vals.rep {xs : List V} {us : List Value} (h : Vals xs us) : ∀ k : Nat, Vals (List.replicate k xs).flatten (List.replicate k us).flatten
 | 0 => .nil
 | k + 1 => by
  rw [List.replicate_succ, List.replicate_succ, List.flatten_cons, List.flatten_cons]
  exact Vals.append h (Vals.rep h k)
theorem zfo (its : List Value) : ∀ (k : Nat) (acc : List Value),
  List.foldl (fun x1 x2 => x1 ++ x2) acc.toArray (List.replicate k its.toArray) = (acc ++ (List.replicate k its).flatten).toArray
 | 0, acc => by simp
 | k + 1, acc => by
  have e : acc.toArray ++ its.toArray = (acc ++ its).toArray := by simp
  have e2 : (acc ++ its) ++ (List.replicate k its).flatten = acc ++ (List.replicate (k + 1) its).flatten := by
   rw [List.replicate_succ, List.flatten_cons, List.append_assoc]
  rw [← e2, ← zfo its k (acc ++ its), ← e, List.replicate_succ, List.foldl_cons]
section
variable {X : Cx} {pins : List (Addr × Obj)} {σ : St} {H : Hp} {s : Shared} {l b : Addr} {xs ys zs : List V}
theorem Inv.lset {its its' : List Value} {n : Nat} {f : Array Value -> Array Value} {t' : Nat} (I : Inv X pins σ H s) (hH : H l = some (.lst xs))
  (e : s.heap.get? l = some { cls := .type "list", data := .seq its.toArray n }) (hf : f its.toArray = its'.toArray) (hv : Vals ys its') (hz : ys.length <= sizeLine) :
  Inv X pins σ (upd H l (.lst ys)) { s with heap := s.heap.update l (Obj.mapSeq f), toks := t' } := by
 have q := PySem.IsL.update e f
 rw [hf] at q
 refine I.write (x := l) (e := l) (by rw [hH]; exact trivial) (.inl rfl) (fun b' u hb hu => (Heap.get?_update_other s.heap (Obj.mapSeq f) (Ne.symm hb)).trans hu) ⟨_, q⟩ ?_
 exact ⟨hz, its', _, hv, q⟩
theorem Inv.lnew {its : List Value} {t' : Nat} (I : Inv X pins σ H s) (hv : Vals ys its) (hz : ys.length <= sizeLine) :
  Inv X pins σ (upd H s.heap.objs.size (.lst ys)) { s with heap := s.heap.push { cls := .type "list", data := .seq its.toArray }, toks := t' } :=
 I.laid (fun _ _ q => Heap.get?_push_of_some _ q) (Nat.le_refl _) ⟨hz, its, 0, hv, Heap.get?_push_size _ rfl⟩
theorem Inv.fresh (I : Inv X pins σ H s) : H s.heap.objs.size = none := I.hok.fresh (Nat.le_refl _)
theorem Inv.lstM (I : Inv X pins σ H s) (hH : H l = some (.lst xs)) : xs.length <= sizeLine /\ ∃ (its : List Value) (n : Nat), Vals xs its /\ xs.length = its.length /\ s.heap.get? l = some { cls := .type "list", data := .seq its.toArray n } := by
 obtain ⟨z, its, n, r, e⟩ := I.hok l _ hH
 exact ⟨z, its, n, r, r.length, e⟩
theorem ziV {n : Nat} (h : n <= sizeLine) : Builtin.List.listTooLong n = false := by
 unfold Builtin.List.listTooLong
 exact decide_eq_false (by omega)
end
section
variable {X : Cx}
def zkh : V -> List V -> Hp -> VK -> Prop := fun x vs H Q => ∃ l xs y, x = .ref l /\ vs = [y] /\ H l = some (.lst xs) /\ xs.length < sizeLine /\ Q .non (upd H l (.lst (xs ++ [y])))
theorem zfp : MtM X "list.append" zkh := by
 intro pins s σ H x vs v us Q I rx rv h
 obtain ⟨l, xs, y, rfl, rfl, hH, hz, q⟩ := h
 cases rx
 obtain ⟨u, rfl, ru⟩ := rv.one
 obtain ⟨z, its, n, r, hl, e⟩ := I.lstM hH
 refine call_meets F.slot_list_append ⟨_, e, rfl⟩ F.entry_list_append (F.args_list_append_2 _ _) (PySem.list_append l its.toArray n u (by rw [List.size_toArray]; omega)) ⟨e, ?_⟩
 refine ⟨.non, _, I.lset (its' := its ++ [u]) hH e (by simp) (r.append (.cons ru .nil)) ?_, rfl, q⟩
 rw [List.length_append, List.length_singleton]
 omega
theorem zki {α : Type} (xs : List α) (k : Nat) : (List.replicate k xs).flatten.length = k * xs.length := by
 induction k with
 | zero => simp
 | succ k ih => rw [List.replicate_succ, List.flatten_cons, List.length_append, ih, Nat.succ_mul, Nat.add_comm]
end
section
variable {prog : Program} {w : World} {A : Around} {E : Value -> Shared -> Prop} {s : Shared}
set_option maxRecDepth 100000 in
end
section
variable {X : Cx}
end
end L2
namespace Att
open PySem PySem.W PySem.Calls PyProof.Rows
theorem zd6 {P : Params} {h : Heap} : ∀ (ns : List Int) (vs : List Value), WellAll P h vs (ns.map WData.int) -> IntsAre vs ns := by
 intro ns
 induction ns with
 | nil =>
  intro vs w
  rw [List.map_nil] at w
  cases w
  exact .nil
 | cons n ns ih =>
  intro vs w
  rw [List.map_cons] at w
  cases w with
  | cons a b =>
   cases a
   exact .cons _ _ (ih _ b)
theorem zhA {l : OpenLaw} {n : Nat} (hn : l.most = some n) {P : Params} {h : Heap} {args : List WData} {vals : List Value}
  (hpre : l.row.toRowW.claim.pre args = true) (hwl : WellAll P h vals args) :
  ∃ a vs ns, vals = [Value.ref a] /\ args = [WData.list (ns.map WData.int)] /\ h.get? a = some { cls := .type "list", data := .seq vs.toArray } /\ IntsAre vs ns /\ ns.length <= n := by
 have hsh : WShape.hasAll [] args [.list .int] = true := (pre_splitW hpre).1
 have hc : l.pre.holds [] { args := args } = true := (pre_splitW hpre).2
 obtain ⟨d, r, rfl, h1, h2⟩ := hasAllW_cons hsh
 obtain rfl := hasAllW_nil h2
 obtain ⟨xs, rfl, h3⟩ := hasW_list h1
 obtain ⟨ns, rfl⟩ := items_int h3
 have hlen : ns.length <= n := by
  unfold OpenLaw.pre at hc
  have h4 : (WTm.not (.lt (.lit (.int (n : Int))) (.len (.arg 0)))).holds [] { args := [.list (ns.map .int)] } = true := by
   have h4 := (holds_andW hc).1
   rw [hn] at h4
   exact h4
  have h5 := condW_of h4 (w_not (w_lt w_lit (w_len_list (w_arg rfl))))
  rw [List.length_map] at h5
  refine Nat.le_of_not_lt fun q => ?_
  have q' : (n : Int) < ((ns.length : Nat) : Int) := by omega
  first
   | (rw [decide_eq_true q'] at h5; exact absurd h5 (by decide))
   | (simp at h5; omega)
 cases hwl with
 | cons w1 w2 =>
  cases w2
  cases w1 with
  | list ho hall => exact ⟨_, _, ns, rfl, rfl, ho, zd6 ns _ hall, hlen⟩
theorem zhB (l : OpenLaw) (args : List WData) : l.row.toRowW.claim.post args (.bool true) args = true :=
 postW_of (r := l.row.toRowW) (X := (true == true))
  (show WShape.has [] (.bool true) .bool = true by first | rfl | decide | simp [WShape.has, WShape.arms, WShape.armsAll])
  (show (WTm.eq .res (.lit (.bool true))).value [] { args := args, res := some (.bool true), after := args } = some (.bool (true == true)) from w_eq_bool (w_res rfl) w_lit) rfl
theorem attach_call {l : OpenLaw} {n : Nat} {q : Program} {loose : List Str} {XP : (Str -> Option Value) -> Heap -> Prop} {YP : World -> Heap -> Prop} {d : DefRec}
  (hn : l.most = some n) (hdf : d.params.defaults = [])
  (call : ∀ (w : World) (s₀ s₁ : Shared) (mg mb : Str -> Option Value) (fa : Addr) (o : Obj) (pm cd doc : Value) (a : Addr) (vs : List Value) (ns : List Int),
   Ground q loose [] XP w s₀ mg mb s₁.heap -> YP w s₁.heap ->
   s₁.heap.get? fa = some o -> o.data = .func (docDef d.name d.params d.body d.scope pm cd doc) -> s₁.heap.CodeRec cd d.name -> mg d.name = some (.ref fa) ->
   s₁.heap.get? a = some { cls := .type "list", data := .seq vs.toArray } -> IntsAre vs ns -> ns.length <= n -> s₁.gens = #[] ->
   codeAny (model l.prog w) callerA (.call (.ref fa) ⟨[.ref a], []⟩) (fun r s' => r = .ok (.ret (.bool true)) /\ OldK s₁.heap s'.heap /\ s'.os = s₁.os /\ AllBare s'.gens) s₁) :
  WalkO q loose XP YP l.row.toRowW d [] (fun f vs => PySem.call f vs) := by
 intro w s₀ s₁ mg mb G Y fa o pm cd doc dV kV ho hd hcd hD hmg hg args vals as hpre hlay hrd hwl hlo
 obtain rfl : dV = .none := Dflts.none hD hdf
 obtain rfl : kV = .none := Dflts.noKw hD
 obtain ⟨a, vs, ns, rfl, rfl, hobj, hints, hlen⟩ := zhA hn hpre hwl
 refine enter_call (codeAny_mono (call w s₀ s₁ mg mb fa o pm cd doc a vs ns G Y ho (fd_plain hd) hcd hmg hobj hints hlen hg) fun r s' hq => ?_)
 obtain ⟨rfl, h2, h3, h4⟩ := hq
 exact ⟨.inl ⟨.bool true, .bool true, [], rfl, fun _ => rfl, .bool true, zhB l _, fun _ => ⟨List.Pairwise.nil, fun _ hm => (nomatch hm)⟩⟩, h2, h3, h4⟩
section
variable {prog : Program} {w : World} {A : Around} {E : Value -> Shared -> Prop} {s : Shared} {K : Frag}
end
end Att
namespace L2
open PySem PySem.Spec PyProof.Rows
theorem zcS : ∀ {vs : List Value} {ns : List Int}, IntsAre vs ns -> Vals (ns.map V.int) vs
 | _, _, .nil => .nil
 | _, _, .cons n t h => .cons ⟨t, rfl⟩ (zcS h)
def Only (H : Hp) : Prop := ∀ b, H b = none ∨ ∃ o xs, H b = some (.frz o (.lst xs))
theorem ziW {P : Program} {w : World} {K : PySem.W.Frag} {mg mb : Str -> Option Value} {CX : CXT} {k : Nat} {fa a : Addr} {fd : FuncData} {x : Str} {sp : Sp} {s₁ : Shared} {vs : List Value} {ns : List Int}
  (KX : K.In s₁.heap) (hns : s₁.heap.Ns mainGlobals mg) (hb : s₁.heap.Ns builtinsNs mb) (hbb : ∀ x : Str, x ≠ "__name__" -> mb x = bootBuiltins x) (hlim : s₁.heap.NoLimit) (hg : s₁.gens = #[])
  (ha : s₁.heap.get? a = some { cls := .type "list", data := .seq vs.toArray }) (hi : IntsAre vs ns) (hl : ns.length <= sizeLine) (hr : Room k callerA)
  (F : ∀ base : Heap, K.In base -> base.Ns mainGlobals mg -> FnOk P w K mg base CX k fa fd [x] sp) (hbind : ∀ (s : Shared) (u : Value), BindsTo s fd ⟨[u], []⟩ [(x, u)])
  (hsp : ∀ H : Hp, Only H -> SqL K H a (ns.map V.int) -> sp [.ref a] H (fun v _ => v = .bl true) fun _ _ _ => False)
  (hCX : ∀ H e s', CX [] H s₁ (fun _ _ _ => False) e s' -> False) :
  codeAny (model P w) callerA (.call (.ref fa) ⟨[.ref a], []⟩) (fun r s' => r = .ok (.ret (.bool true)) /\ OldK s₁.heap s'.heap /\ s'.os = s₁.os /\ AllBare s'.gens) s₁ := by
 have rv := zcS hi
 have lenV := hi.length
 have core : ∀ H : Hp, Only H -> SqL K H a (ns.map V.int) -> HOk P w H s₁.heap -> (∀ b, H b ≠ none -> b = a) -> (H a ≠ none -> K.lookup a = none) ->
   codeAny (model P w) callerA (.call (.ref fa) ⟨[.ref a], []⟩) (fun r s' => r = .ok (.ret (.bool true)) /\ OldK s₁.heap s'.heap /\ s'.os = s₁.os /\ AllBare s'.gens) s₁ := by
  intro H hO hS hok hA hK
  have base_of : ∀ {b : Addr} {o : Obj}, s₁.heap.get? b = some o -> H b = none -> (hidT s₁.heap H).get? b = some o := fun e n => ziP e n
  have noA : ∀ {b : Addr} {o : Obj} {es : Array DictEntry} {ep : Nat}, s₁.heap.get? b = some o -> o.data = .dict es ep -> H b = none := fun {b o es ep} e d => by
   cases q : H b with
   | none => rfl
   | some u =>
    have e' : b = a := hA b (by rw [q]; simp)
    subst e'
    rw [ha] at e; cases e
    have d' : Data.seq vs.toArray _ = Data.dict es ep := d
    cases d'
  have nsK : ∀ {b : Addr} {m : Str -> Option Value}, s₁.heap.Ns b m -> (hidT s₁.heap H).Ns b m := fun {b m} ⟨o, es, ep, e, d, r⟩ => ⟨o, es, ep, base_of e (noA e d), d, r⟩
  have hKb : K.In (hidT s₁.heap H) := fun b o e => base_of (KX b o e) (by
   cases q : H b with
   | none => rfl
   | some u =>
    have e' : b = a := hA b (by rw [q]; simp)
    subst e'
    rw [hK (by rw [q]; simp)] at e; cases e)
  have hM : Mod K mg (hidT s₁.heap H) := ⟨hKb, nsK hns, ⟨mb, nsK hb, hbb⟩, let ⟨mc, h1, h2⟩ := hlim; ⟨mc, nsK h1, h2⟩⟩
  have e0 : Env0 P w K mg (hidT s₁.heap H) callerA [] s₁ H := ⟨rfl, hM, fun b o e => zj0 e, Nat.le_of_eq (zhm _ _), trivial, fun b hb => absurd (show b ∈ ([] : List Addr) from hb) (by simp), hok, .of_eq hg⟩
  refine codeAny_mono ((F _ hKb (nsK hns)).run callerA [] s₁ H ⟨[.ref a], []⟩ [.ref a] [.ref a] _ _ hr e0 (hbind s₁ (.ref a)) (.cons rfl .nil) (hsp H hO hS)) fun r s' h => ?_
  cases r with
  | error e => exact (hCX H e s' h).elim
  | ok fl =>
   cases fl with
   | next => exact False.elim h
   | brk => exact False.elim h
   | cont => exact False.elim h
   | ret u =>
    obtain ⟨v, H', os, bare, un, hok', r', q⟩ := h
    have q' : v = .bl true := q
    subst q'
    obtain rfl : u = Value.bool true := r'
    refine ⟨rfl, OldK.of_keep fun b o e => ?_, os, bare⟩
    cases q : H b with
    | none => exact un.keep b o e q (by intro z; exact absurd (show b ∈ ([] : List Addr) from z) (by simp)) (by simp)
    | some u =>
     rcases hO b with z | ⟨ob, xs, z⟩
     ·rw [q] at z; cases z
     ·have z2 := un.frzs b ob _ z
      obtain ⟨e1, _⟩ := hok b _ z
      obtain ⟨e2, _⟩ := hok' b _ z2
      rw [e] at e1; cases e1
      exact e2
 cases hk : K.lookup a with
 | some o =>
  have e := KX a o hk
  rw [ha] at e
  cases e
  refine core (fun _ => none) (fun _ => .inl rfl) (.inr ⟨_, vs.toArray, _, hk, rfl, rfl, rfl, by rw [List.size_toArray, lenV]; exact hl, by simpa using rv⟩) (fun b u z => by have z' : (none : Option HO) = some u := z; cases z') (fun b z => absurd rfl z) fun z => absurd rfl z
 | none =>
  refine core (fun b => if b = a then some (.frz { cls := .type "list", data := .seq vs.toArray } (.lst (ns.map V.int))) else none) (fun b => ?_) (.inl (.inr ⟨{ cls := .type "list", data := .seq vs.toArray }, if_pos rfl⟩)) (fun b u z => ?_) (fun b z => ?_) fun _ => hk
  ·by_cases hb : b = a
   ·exact .inr ⟨_, _, if_pos hb⟩
   ·exact .inl (if_neg hb)
  ·by_cases hb : b = a
   ·have z' := (if_pos hb).symm.trans z
    cases z'
    subst hb
    exact ⟨ha, by rw [List.length_map]; exact hl, vs, _, rv, ha⟩
   ·have z' := (if_neg hb).symm.trans z
    cases z'
  ·by_cases hb : b = a
   ·exact hb
   ·exact absurd (if_neg hb) z
end L2
namespace L2
open PySem PySem.Spec PyProof.Rows
end L2
namespace L2
open PySem PySem.Spec PyProof.Rows
def zcl (s : Stmt) : Arguments := match s with
 | .FunctionDef _ a _ _ _ _ _ _ _ _ => a
 | _ => { posonlyargs := [], args := [], vararg := none, kwonlyargs := [], kw_defaults := [], kwarg := none, defaults := [] }
def zbx (s : Stmt) : List Stmt := match s with
 | .FunctionDef _ _ b _ _ _ _ _ _ _ => b
 | _ => []
def zan (s : Stmt) : Scope := match s with
 | .FunctionDef _ _ _ _ _ _ sc _ _ _ => sc
 | _ => { kind := .function, names := [], isGenerator := false, isCoroutine := false }
abbrev CX0 : CXT := fun _ _ _ _ _ _ => False
abbrev E0 : XK := fun _ _ _ => False
theorem zl1 {X : Cx} : zhy CX0 X E0 := fun _ _ _ _ _ _ _ h => h.elim
structure Fun (K : PySem.W.Frag) (x qual : Str) (st : Stmt) (f : Addr) (fd : FuncData) : Prop where
 ex : ∃ (oc : Value) (od : Option Addr) (kV doc pm : Value) (an : Option Addr) (cdv ct : Value) (osl : Array (Option Value)),
  fd = PySem.W.fnOf x qual (zcl st) (zbx st) (zan st) .none kV doc pm an cdv ct /\ K.lookup f = some ⟨oc, od, .func fd, osl⟩ /\ PySem.W.codeIn K cdv qual = true
 kp : PySem.W.keepIn K (.ref f) = true
section
variable {P : Program} {w : World} {K : PySem.W.Frag} {mg : Str -> Option Value} {base : Heap}
theorem Fun.ok {x qual : Str} {st : Stmt} {f : Addr} {fd : FuncData} {N ps : List Str} {k : Nat} {sp : Sp} (F : Fun K x qual st f fd) (S : zdF N ps (zan st)) (len : ∀ vs H Q E, sp vs H Q E -> vs.length = ps.length)
  (hbody : ∀ (cdv : Value) (A : Around) (outer : List Env) (s : Shared) (H : Hp) (vs : List V) (Q : VK) (E : XK), Room k (A.deeper (envOfC qual (zan st) s.heap.objs.size f cdv)) -> sp vs H Q E ->
   ∃ t, PSs (cxOf CX0 P w K mg base N qual (zan st) f cdv A outer s H E).nox (zbx st) t /\ t { nx := fun _ H' => Q .non H', rt := Q } (zd5 N vs) H) : FnOk P w K mg base CX0 (k + 1) f fd ps sp := by
 obtain ⟨oc, od, kV, doc, pm, an, cdv, ct, osl, rfl, lk, hcd⟩ := F.ex
 refine zlW lk hcd S len fun A outer s H vs Q E hr hsp => ?_
 obtain ⟨t, h, q⟩ := hbody cdv A outer s H vs Q E hr hsp
 exact ⟨t, h.nox, q⟩
theorem Fun.binds {x qual : Str} {st : Stmt} {f : Addr} {fd : FuncData} {ps : List Str} (F : Fun K x qual st f fd)
  (h : ∀ (kV doc pm : Value) (an : Option Addr) (cdv ct : Value) (us : List Value), us.length = ps.length -> bindArgs (PySem.W.fnOf x qual (zcl st) (zbx st) (zan st) .none kV doc pm an cdv ct) ⟨us, []⟩ = pure (ps.zip us)) : zc9 K fd ps [] := by
 obtain ⟨oc, od, kV, doc, pm, an, cdv, ct, osl, rfl, lk, hcd⟩ := F.ex
 exact .all (h kV doc pm an cdv ct)
end
section
variable {X : Cx}
end
def Same (H H' : Hp) : Prop := ∀ b o, H b = some o -> H' b = some o
theorem Same.refl (H : Hp) : Same H H := fun _ _ h => h
theorem Same.trans {H H1 H2 : Hp} (a : Same H H1) (b : Same H1 H2) : Same H H2 := fun c o h => b c o (a c o h)
theorem Same.free {H H' : Hp} (e : Same H H') {l : Addr} (h : H' l = Option.none) : H l = Option.none := by
 cases q : H l with
 | none => rfl
 | some o =>
  rw [e l o q] at h
  cases h
theorem Same.seq {K : PySem.W.Frag} {H H' : Hp} {a : Addr} {xs : List V} (e : Same H H') (h : SqL K H a xs) : SqL K H' a xs := by
 rcases h with (h | ⟨o, h⟩) | h
 ·exact .inl (.inl (e _ _ h))
 ·exact .inl (.inr ⟨o, e _ _ h⟩)
 ·exact .inr h
end L2
namespace L2
open PySem PySem.Spec PyProof.Rows
section
variable {X : Cx} {pins : List (Addr × Obj)} {σ : St} {H : Hp} {s : Shared} {h' : Heap}
theorem Inv.turnedNew {t' : Nat} {fp : List Addr} {p : Addr} {o : HO} (I : Inv X pins σ H s) (hf : ∀ b ∈ fp, FpOk X pins H b)
  (k : ∀ b o, b ∉ fp -> s.heap.get? b = some o -> h'.get? b = some o) (hp : s.heap.objs.size <= p) (new : zcw X.prog X.w (upd H p o) h' p o) :
  Inv X pins σ (upd H p o) { s with heap := h', toks := t' } := by
 have hn : H p = none := I.hok.fresh hp
 have trk : ∀ b u, H b = some u -> b ∉ fp := fun b u e z => by rw [(hf b z).1] at e; cases e
 refine I.step (g' := s.gens) (d' := s.drawn) (ch := fp) (fun b hb => ?_) (fun b o _ _ hc e _ => k b o hc e) (fun b o _ _ hc e _ => ⟨o.slots, k b o hc e⟩)
  (fun b o _ e n => by rw [zaG (Nat.ne_of_lt (Nat.lt_of_lt_of_le (Heap.lt_size e) hp))]; exact n) (fun b o hc e => ⟨o, k b o hc e⟩)
  (fun b xs e => by rw [zaG (za4 e hn)]; exact e) (fun b ob u e => by rw [zaG (za4 e hn)]; exact e) (fun b ps e => ⟨#[], by rw [zaG (za4 e hn), e]; simp⟩)
  (fun m hm => ?_) (fun b u e => ?_) I.bare
 ·obtain ⟨_, f1, _, f3, f4, f5⟩ := hf b hb
  exact ⟨f3, f1, f4, f5⟩
 ·obtain ⟨ob, es, ep, ho, r⟩ := hm
  exact ⟨ob, es, ep, k _ ob (fun z => (hf _ z).2.1 rfl) ho, r⟩
 ·by_cases hb : b = p
  ·subst hb; rw [zaz] at e; cases e; exact new
  ·rw [zaG hb] at e
   refine (I.hok b u e).stay (fun c v hc q => k c v ?_ q) (fun c q => by rw [zaG (za4 q hn)]; exact q) fun c xs q => by rw [zaG (za4 q hn)]; exact q
   rcases hc with z | z
   ·rw [z]; exact trk b u e
   ·exact trk c _ z
theorem Inv.turnedL {t' : Nat} {fp : List Addr} (I : Inv X pins σ H s) (hf : ∀ b ∈ fp, FpOk X pins H b)
  (k : ∀ b o, b ∉ fp -> s.heap.get? b = some o -> h'.get? b = some o) : Inv X pins σ H { s with heap := h', toks := t' } := by
 have trk : ∀ b u, H b = some u -> b ∉ fp := fun b u e z => by rw [(hf b z).1] at e; cases e
 refine I.step (g' := s.gens) (d' := s.drawn) (ch := fp) (fun b hb => ?_) (fun b o _ _ hc e _ => k b o hc e) (fun b o _ _ hc e _ => ⟨o.slots, k b o hc e⟩)
  (fun _ _ _ _ n => n) (fun b o hc e => ⟨o, k b o hc e⟩) (fun _ _ e => e) (fun _ _ _ e => e) (fun b ps e => ⟨#[], by rw [e]; simp⟩) (fun m hm => ?_) (fun b u e => ?_) I.bare
 ·obtain ⟨_, f1, _, f3, f4, f5⟩ := hf b hb
  exact ⟨f3, f1, f4, f5⟩
 ·obtain ⟨ob, es, ep, ho, r⟩ := hm
  exact ⟨ob, es, ep, k _ ob (fun z => (hf _ z).2.1 rfl) ho, r⟩
 ·refine (I.hok b u e).stay (fun c v hc q => k c v ?_ q) (fun c q => q) fun c xs q => q
  rcases hc with z | z
  ·rw [z]; exact trk b u e
  ·exact trk c _ z
end
def Ite (K : PySem.W.Frag) (a : Addr) : It :=
 ⟨fun i H => ∃ xs x, SqL K H a xs /\ xs[i]? = some x,
  fun i H v H' => ∃ p x, H p = none /\ v = .ref p /\ (∀ xs, SqL K H a xs -> xs[i]? = some x) /\ H' = upd H p (.tup [.int i, x]),
  fun i H => ∃ xs, SqL K H a xs /\ xs.length <= i⟩
theorem zhC {P : Program} {w : World} {K : PySem.W.Frag} {elts : List Expr} {x1} {tp : Pos} (a e it : Addr) (hne : e ≠ it) :
  Turn P w K (.Tuple elts x1 tp) (Ite K a) [e, it] e (fun i h => (∃ old, IsEnum h e it i old) /\ h.IsListIter it a i) where
 mem := by simp
 obj := fun i h st b hb => by
  obtain ⟨⟨old, he⟩, o, ho, c, d⟩ := st
  have hb' : b = e ∨ b = it := by simpa using hb
  rcases hb' with rfl | rfl
  ·exact ⟨_, he, fun v z => by
    have z' : Data.fields _ = Data.cell v := z
    cases z'⟩
  ·exact ⟨o, ho, fun v z => by rw [d] at z; cases z⟩
 keep := fun i h h' st k => by
  obtain ⟨⟨old, he⟩, hi⟩ := st
  exact ⟨⟨old, k e (by simp) _ he⟩, hi.at fun o q => k it (by simp) o q⟩
 item := by
  intro X hP hw hK hc i pins s σ H E I hf st hg
  subst hP hw hK
  obtain ⟨⟨old, he⟩, hi⟩ := st
  obtain ⟨xs, x, hq, hx⟩ := hg
  obtain ⟨its, rv, p, hz⟩ := I.list hq
  obtain ⟨u, hu, ru⟩ := rv.get hx
  refine wpAny_pyNext_enum_item he hi p.isList (x := u) (by simpa using hu) hne fun h1 out hi1 ht hsz kk => ?_
  refine ⟨_, rfl, wpAny_letOwnedTupleGo_enum out fun h2 he2 hs2 => ?_⟩
  have hel : e < s.heap.objs.size := Heap.lt_size he
  have hs2' : Heap.SameBut e h1 h2 := hs2
  have ht2 : h2.get? s.heap.objs.size = some { cls := .type "tuple", data := .seq #[.int i s.toks, u] } := (hs2'.2 _ (Nat.ne_of_gt hel)).trans ht
  have kk2 : ∀ b o, b ∉ [e, it] -> s.heap.get? b = some o -> h2.get? b = some o := fun b o hb q => by
   have hbe : b ≠ e := fun z => hb (by simp [z])
   have hbi : b ≠ it := fun z => hb (by simp [z])
   exact (hs2'.2 b hbe).trans (kk b o hbe hbi q)
  have hn : H s.heap.objs.size = none := I.hok.fresh (Nat.le_refl _)
  have I2 : Inv X pins σ (upd H s.heap.objs.size (.tup [.int i, x])) { s with heap := h2, toks := s.toks + 1 } :=
   I.turnedNew (fp := [e, it]) hf kk2 (Nat.le_refl _) ⟨by show 2 <= sizeLine; decide, [.int i s.toks, u], .cons ⟨_, rfl⟩ (.cons ru .nil), ⟨_, ht2, rfl, _, rfl⟩⟩
  refine ⟨.ref s.heap.objs.size, _, I2, rfl, ⟨_, x, hn, rfl, fun ys hy => by rw [I.list_inj hy hq]; exact hx, rfl⟩, ⟨⟨u, ?_⟩, ?_⟩, fun b hb => ?_⟩
  ·have := he2
   simpa using this
  ·have hi2 : h2.IsListIter it a (i + 1) := hi1.at fun o q => (hs2'.2 it (Ne.symm hne)).trans q
   exact hi2
  ·have fr := (hf b hb)
   have hlt : b < s.heap.objs.size := by
    have hb' : b = e ∨ b = it := by simpa using hb
    rcases hb' with rfl | rfl
    ·exact hel
    ·obtain ⟨o, ho, _⟩ := hi; exact Heap.lt_size ho
   rw [zaG (Nat.ne_of_lt hlt)]
   exact fr.1
 done := by
  intro X hP hw hK hc i pins s σ H E I hf st hg
  subst hP hw hK
  obtain ⟨⟨old, he⟩, hi⟩ := st
  obtain ⟨xs, hq, hx⟩ := hg
  obtain ⟨its, rv, p, hz⟩ := I.list hq
  have hl := rv.length
  exact wpAny_pyNext_enum_end (I.ok.hd hc) he hi p.isList (by simp; omega) fun h' eb => ⟨rfl, I.turnedL (t' := s.toks) hf fun b o hb q => eb b o (fun z => hb (by simp [z])) q⟩
 self := fun _ _ _ _ _ st h => by
  obtain ⟨⟨old, he⟩, _⟩ := st
  exact wpAny_pyIter_enum he h
section
variable {X : Cx}
def znc (K : PySem.W.Frag) (ta : TA) : TI := fun σ H R => ta σ H fun vs H1 => ∃ a xs, vs = [.ref a] /\ SqL K H1 a xs /\ R (Ite K a) H1
theorem zkj {a : Expr} {ta : TA} {p pos : Pos} {elts : List Expr} {x1} {tp : Pos} (hg : Gl X "enumerate") (hm : X.mg "enumerate" = none) (ha : PA X [a] ta)
  (hs : starEach [a] X.env = [(false, eval a X.env)] := by rfl) : PI X (.Tuple elts x1 tp) (.Call (.Name "enumerate" p) [a] [] pos) (znc X.K ta) := by
 intro pins s σ H R I h
 refine Call_ (zd3 I hg hm boot_enumerate (PyProof.Rows.callWith_type1 (thn (ha pos pins s σ H _ I h) fun us s1 ⟨vs, H1, I1, r1, q1⟩ => ?_) hs rfl))
 obtain ⟨l, xs, e, hq, q⟩ := q1
 subst e
 cases r1 with
 | cons r rr =>
  cases rr
  cases (show _ = Value.ref l from r)
  obtain ⟨its, rv, pl, hz⟩ := I1.list hq
  refine call_enumerate_list pl.isList fun h' he hi hsz kk => ?_
  have I2 : Inv X pins σ H1 { s1 with heap := h' } := I1.kept (t' := s1.toks) kk
  refine wpAny_pyIter_enum he ?_
  refine ⟨s1.heap.objs.size + 1, [s1.heap.objs.size + 1, s1.heap.objs.size], _, _, H1, rfl, I2, zhC l _ _ (Nat.succ_ne_self _), ⟨⟨_, he⟩, hi⟩, fun b hb => ?_, q⟩
  have hb' : b = s1.heap.objs.size + 1 ∨ b = s1.heap.objs.size := by simpa using hb
  rcases hb' with rfl | rfl
  ·exact I1.fpOk (Nat.le_succ _) (I1.hok.fresh (Nat.le_succ _))
  ·exact I1.fpOk (Nat.le_refl _) (I1.hok.fresh (Nat.le_refl _))
end
end L2
namespace L2
open PySem PySem.Spec PyProof.Rows
section
variable {κ : Type} [DecidableEq κ]
end
section
variable {P : Program} {w : World} {H : Hp} {h : Heap} {a : Addr}
end
section
variable {X : Cx} {pins : List (Addr × Obj)} {σ : St} {H : Hp} {s : Shared} {a : Addr} {y v : V} {u r : Value} {o : Option V} {A : Around} {E : Value -> Shared -> Prop}
end
section
variable {X : Cx} {pins : List (Addr × Obj)} {σ : St} {H : Hp} {s : Shared} {a : Addr} {kvs : List (Key × V)} {k : Key} {u : Value} {A : Around} {E : Value -> Shared -> Prop}
end
section
variable {X : Cx} {o i e value : Expr} {pos pos' tpos : Pos} {td ty tv : TE}
end
section
variable {X : Cx} {pos : Pos}
end
end L2
namespace L2
open PySem PySem.Spec
def Tail (bmB bm : List Value) : Prop := ∀ (X : String) (b : Bool), bmB.contains (.type X) = b -> bm.contains (.type X) = b
theorem Tail.base {bmB : List Value} : Tail bmB bmB := fun _ _ h => h
theorem Tail.own {bmB bm : List Value} {D : Addr} (T : Tail bmB bm) : Tail bmB (.ref D :: bm) := fun X b h => by rw [List.contains_cons, T X b h]; rfl
section
variable {prog : Program} {w : World} {A : Around} {E : Value -> Shared -> Prop} {h : Heap} {g : Array GenState} {d : Drawn} {t : Nat} {os : OsState} {R : Result -> Shared -> Prop}
variable {nm q : Str} {C N : Addr} {bs bm bmB : List Value} {hdct : Bool} {sn : List Str} {sub : List Value} {ab : Bool} {col : Option Bool} {dd : Option Addr} {k0 k1 k2 k3 k5 : Option Value} {B newId initId : String}
theorem zgX {M : Model} (F : ExcBaseFacts B newId initId bmB) (T : Tail bmB bm) {rest : List Value} {Q : Unit -> Shared -> Prop} (hC : h.get? C = some (excClassObj nm q C N bs bm hdct sn sub ab col dd k0 k1 k2 k3 k5 newId))
  (hq : Q () ⟨h, g, d, t, os⟩) : wpAny M A (checkBuiltinCall newId ⟨.ref C :: rest, []⟩) Q E ⟨h, g, d, t, os⟩ := by
 have hcont : (Value.ref C :: bm).contains (.type B) = true := by rw [List.contains_cons, T _ _ F.hasB, Bool.or_true]
 have hstar := F.noStar
 simp only [checkBuiltinCall, F.newKind, F.newSplit, F.newRow]
 repeat (first | refine wpAny_loadPart_at hC ?_ | (refine wpAny_isSubtype_exc hC ?_; rw [hcont]) | refine wpAny_staticBase_exc hC ?_ | refine wpAny_madeBy_exc hC ?_ | simp only [bne_self_eq_false, Bool.false_eq_true, if_false] | wp_step)
 exact hq
theorem ziX (F : ExcBaseFacts B newId initId bmB) (T : Tail bmB bm) {rest : List Value} (hC : h.get? C = some (excClassObj nm q C N bs bm hdct sn sub ab col dd k0 k1 k2 k3 k5 newId))
  (hq : R (.ok (.ret (.ref (h.objs.size + 1)))) ⟨(h.push { cls := .type "tuple", data := .seq rest.toArray }).push
   { cls := .ref C, data := .fields #[.ref h.objs.size, .none, .none, .none, .bool false, .none] }, g, d, t, os⟩) (hrest : rest.length <= sizeLine) :
  codeAny (model prog w) A (.builtin newId ⟨.ref C :: rest, []⟩) R ⟨h, g, d, t, os⟩ := by
 have hends := F.ends
 have hcB : (Value.ref C :: bm).contains (.type B) = true := by rw [List.contains_cons, T _ _ F.hasB, Bool.or_true]
 have hcA : (Value.ref C :: bm).contains (.type "AttributeError") = false := by rw [List.contains_cons, T _ _ F.noAttr]; rfl
 have hcN : (Value.ref C :: bm).contains (.type "NameError") = false := by rw [List.contains_cons, T _ _ F.noName]; rfl
 refine codeAny_builtinAt F.entry ?_
 unfold Builtin.«BaseException.__new__»
 refine wpAt_bind ?_
 show wpAt _ _ _ (stack >>= _) _ _ _
 refine wpAt_bind (wpAt_stack fun p below => wpAt_of_wpAny ?_)
 wp_walk
 refine wpAt_of_wpAny ?_
 rw [F.owner]
 repeat (first | with_reducible refine wpAny_madeHere_exc F.canon hC ?_ | with_reducible refine wpAny_loadPart_at hC ?_ | (with_reducible refine wpAny_isSubtype_exc hC ?_; first | rw [hcB] | rw [hcA] | rw [hcN]) | wp_step)
 show R _ _
 rw [Heap.size_push]
 exact hq
def zjO (M : Model) (C fI : Addr) (h : Heap) : Prop := ∀ (A : Around) (E : Value -> Shared -> Prop) (Q : Option Value -> Shared -> Prop) (h' : Heap) (g : Array GenState) (d : Drawn) (t : Nat) (os : OsState),
 (∀ b o, h.get? b = some o -> h'.get? b = some o) -> Q (some (.ref fI)) ⟨h', g, d, t, os⟩ -> wpAny M A (typeLookup (.ref C) "__init__") Q E ⟨h', g, d, t, os⟩
theorem zgY (F : ExcBaseFacts B newId initId bmB) (T : Tail bmB bm) {rest : List Value} {fI : Addr} {oI : Obj} {Q : Fin -> Shared -> Prop}
  (hC : h.get? C = some (excClassObj nm q C N bs bm hdct sn sub ab col dd k0 k1 k2 k3 k5 newId)) (hi : zjO (model prog w) C fI h)
  (hfI : h.get? fI = some oI) (hfc : oI.cls = .type "function")
  (hq : ∀ h' e, Heap.MadeExcOf h h' e (.ref C) rest -> h.objs.size <= e ->
   wpAny (model prog w) A (call (.ref fI) (.ref e :: rest)) (fun r s' => r = .none /\ Q (.done (.ret (.ref e))) s') E ⟨h', g, d, t, os⟩) (hrest : rest.length <= sizeLine) :
  wpAny (model prog w) A (Builtin.«type.__call__» ⟨.ref C :: rest, []⟩) Q E ⟨h, g, d, t, os⟩ := by
 repeat (first | with_reducible refine wpAny_loadPart_at hC ?_ | with_reducible refine wpAny_madeBy_exc hC ?_ | wp_step)
 refine codeAny_call_builtin_code (Code.quiet_builtin _ F.quiet) (zgX F T hC ?_)
 refine ziX F T hC ?_ hrest
 show wpAny _ _ _ _ _ _
 have hC₁ := Heap.get?_push_of_some { cls := .ref C, data := .fields #[.ref h.objs.size, .none, .none, .none, .bool false, .none] }
  (Heap.get?_push_of_some { cls := .type "tuple", data := .seq rest.toArray } hC)
 have hfI₁ := Heap.get?_push_of_some { cls := .ref C, data := .fields #[.ref h.objs.size, .none, .none, .none, .bool false, .none] }
  (Heap.get?_push_of_some { cls := .type "tuple", data := .seq rest.toArray } hfI)
 have hget : ((h.push { cls := .type "tuple", data := .seq rest.toArray }).push
   { cls := .ref C, data := .fields #[.ref h.objs.size, .none, .none, .none, .bool false, .none] }).get? (h.objs.size + 1) = some
   { cls := .ref C, data := .fields #[.ref h.objs.size, .none, .none, .none, .bool false, .none] } := by heap_get
 have hcC : (Value.ref C :: bm).contains (.ref C) = true := by simp
 unfold isInstance
 repeat (first | with_reducible refine wpAny_loadPart_at hget ?_ | (with_reducible refine wpAny_isSubtype_exc hC₁ ?_; rw [hcC]) | wp_step)
 show wpAny _ _ (typeLookup (.ref C) _) _ _ _
 refine hi _ _ _ _ _ _ _ _ (fun b o hb => Heap.get?_push_of_some _ (Heap.get?_push_of_some _ hb)) ?_
 refine wpAny_holding (wpAny_bind ?_)
 unfold bindSpecial
 refine wpAny_bind (wpAny_typeOf (T := "function") ⟨_, hfI₁, hfc⟩ ?_)
 rw [if_pos (by decide)]
 refine wpAny_pure (wpAny_bind (wpAny_mono (hq _ (h.objs.size + 1) ⟨fun b o hb => Heap.get?_push_of_some _ (Heap.get?_push_of_some _ hb), Heap.get?_none_of_le (Nat.le_succ _), h.objs.size, hget, Heap.get?_none_of_le (Nat.le_refl _), ?_⟩ (Nat.le_succ _)) (fun r s' hr => ?_) fun _ _ x => x))
 ·exact Heap.get?_push_of_some _ (Heap.get?_push_at rfl rfl)
 ·obtain ⟨rfl, hQ⟩ := hr
  wp_walk
  exact hQ
theorem zhD (F : ExcBaseFacts B newId initId bmB) (T : Tail bmB bm) {rest : List Value} {fI : Addr} {oI : Obj} {Q : Value -> Shared -> Prop}
  (hC : h.get? C = some (excClassObj nm q C N bs bm hdct sn sub ab col dd k0 k1 k2 k3 k5 newId)) (hi : zjO (model prog w) C fI h)
  (hfI : h.get? fI = some oI) (hfc : oI.cls = .type "function")
  (hq : ∀ h' e, Heap.MadeExcOf h h' e (.ref C) rest -> h.objs.size <= e ->
   wpAny (model prog w) (A.under (.builtin "type.__call__" ⟨.ref C :: rest, []⟩)) (call (.ref fI) (.ref e :: rest)) (fun r s' => r = .none /\ Q (.ref e) s') E ⟨h', g, d, t, os⟩) (hrest : rest.length <= sizeLine) :
  wpAny (model prog w) A (call (.ref C) rest) Q E ⟨h, g, d, t, os⟩ := by
 have f1 := tc_lookup
 have f2 := tc_bind (.ref C)
 have hT : (⟨h, g, d, t, os⟩ : Shared).TypeIs (.ref C) "type" := ⟨_, hC, rfl⟩
 refine wpAny_call (codeAny_of_tree ?_)
 show wpAny _ _ (callAny (.ref C) _) _ _ _
 repeat (any_goals (first | assumption | with_reducible refine wpAny_loadPart_at hC ?_ | wp_step))
 refine ⟨rfl, ?_⟩
 refine codeAny_call_builtin_at (Code.quiet_builtin _ (by decide +kernel)) entry_typeCall (wpAny_check_type_call_sub hC (zgY (hrest := hrest) F T hC hi hfI hfc fun h' e hm hz => ?_))
 exact hq h' e hm hz
end
end L2
namespace L2
open PySem PySem.Spec
def zbr (M : Model) (C : Addr) (name : Str) (r : Option Value) (h : Heap) : Prop := ∀ (A : Around) (E : Value -> Shared -> Prop) (Q : Option Value -> Shared -> Prop) (h' : Heap) (g : Array GenState) (d : Drawn) (t : Nat) (os : OsState),
 (∀ b o, h.get? b = some o -> h'.get? b = some o) -> Q r ⟨h', g, d, t, os⟩ -> wpAny M A (typeLookup (.ref C) name) Q E ⟨h', g, d, t, os⟩
theorem zbr.keeps {M : Model} {C : Addr} {name : Str} {r : Option Value} {h h' : Heap} (x : zbr M C name r h) (k : ∀ b o, h.get? b = some o -> h'.get? b = some o) : zbr M C name r h' :=
 fun A E Q h2 g d t os k2 q => x A E Q h2 g d t os (fun b o e => k2 b o (k b o e)) q
theorem zbr.at {M : Model} {A : Around} {E : Value -> Shared -> Prop} {Q : Option Value -> Shared -> Prop} {C : Addr} {name : Str} {r : Option Value} {h : Heap} {g : Array GenState} {d : Drawn} {t : Nat} {os : OsState} (x : zbr M C name r h) (q : Q r ⟨h, g, d, t, os⟩) : wpAny M A (typeLookup (.ref C) name) Q E ⟨h, g, d, t, os⟩ :=
 x A E Q h g d t os (fun _ _ e => e) q
section
variable {prog : Program} {w : World} {A : Around} {E : Value -> Shared -> Prop} {h : Heap} {g : Array GenState} {d : Drawn} {t : Nat} {os : OsState} {R : Result -> Shared -> Prop}
variable {nm q : Str} {C N x : Addr} {bs bm bmB : List Value} {hdct : Bool} {sn : List Str} {sub : List Value} {ab : Bool} {col : Option Bool} {dd : Option Addr} {k0 k1 k2 k3 k5 : Option Value} {B newId sa owner : String} {mN mA : Str -> Option Value} {name : Str} {v : Value}
def zdd (M : Model) (l : List Value) (name : Str) (r : Option Value) (h : Heap) : Prop := ∀ (A : Around) (E : Value -> Shared -> Prop) (Q : Option Value -> Shared -> Prop) (h' : Heap) (g : Array GenState) (d : Drawn) (t : Nat) (os : OsState),
 (∀ b o, h.get? b = some o -> h'.get? b = some o) -> Q r ⟨h', g, d, t, os⟩ -> wpAny M A (lookupAlong l name) Q E ⟨h', g, d, t, os⟩
theorem zdd.base {M : Model} {y : Option Value} (hm : mroOf (.type B) = pure bm) (hB : typeLookup (.type B) name = pure y) : zdd M bm name y h := fun A E Q h' g d t os k q => by
 rw [typeLookup_eq, hm] at hB
 have hrest : lookupAlong bm name = pure y := hB
 rw [hrest]
 exact wpAny_pure q
theorem zdd.hit {M : Model} {D : Addr} {c0 : Value} {dd' : Option Addr} {cd : ClassData} {sl : Array (Option Value)} (hD : h.get? D = some { cls := c0, dict := dd', data := .cls cd, slots := sl }) (hn : h.Ns cd.ns mN) (hi : mN name = some v) : zdd M (.ref D :: bm) name (some v) h := fun A E Q h' g d t os k q => by
 rw [lookupAlong_cons]
 refine wpAny_bind (wpAny_classOwn_cls (k _ _ hD) (hn.keeps k) ?_)
 rw [hi]
 exact wpAny_pure q
theorem zdd.miss {M : Model} {D : Addr} {r : Option Value} {c0 : Value} {dd' : Option Addr} {cd : ClassData} {sl : Array (Option Value)} (hD : h.get? D = some { cls := c0, dict := dd', data := .cls cd, slots := sl }) (hn : h.Ns cd.ns mN) (hi : mN name = none) (f : zdd M bm name r h) : zdd M (.ref D :: bm) name r h := fun A E Q h' g d t os k q => by
 rw [lookupAlong_cons]
 refine wpAny_bind (wpAny_classOwn_cls (k _ _ hD) (hn.keeps k) ?_)
 rw [hi]
 exact f A E Q h' g d t os k q
theorem zbr.of {M : Model} {r : Option Value} (hC : h.get? C = some (excClassObj nm q C N bs bm hdct sn sub ab col dd k0 k1 k2 k3 k5 newId)) (f : zdd M (.ref C :: bm) name r h) : zbr M C name r h := fun A E Q h' g d t os k q => by
 rw [typeLookup_eq]
 exact wpAny_bind (wpAny_mroOf_exc (k _ _ hC) (f A E Q h' g d t os k q))
theorem zhE {M : Model} {o : Obj} {nameV : Value} {Q : Unit -> Shared -> Prop} (SF : StoreFacts B bmB sa owner) (T : Tail bmB bm)
  (hC : h.get? C = some (excClassObj nm q C N bs bm hdct sn sub ab col dd k0 k1 k2 k3 k5 newId)) (hx : h.get? x = some o) (hc : o.cls = .ref C) (hq : Q () ⟨h, g, d, t, os⟩) :
  wpAny M A (checkBuiltinCall sa ⟨[.ref x, nameV, v], []⟩) Q E ⟨h, g, d, t, os⟩ := by
 have hcB : (Value.ref C :: bm).contains (.type owner) = true := by rw [List.contains_cons, T _ _ SF.hasOwner, Bool.or_true]
 have ha := SF.args (.ref x) nameV v
 simp only [checkBuiltinCall, SF.kind, SF.split]
 refine wpAny_bind ?_
 ·unfold isInstance
  repeat (first | (with_reducible refine wpAny_loadPart_at hx ?_; rw [hc]) | (with_reducible refine wpAny_isSubtype_exc hC ?_; rw [hcB]) | wp_step)
  cases hsig : Manifest.signature? sa with
  | none => exact wpAny_pure hq
  | some sig =>
   simp only [argsOk, hsig] at ha
   have h2 : Bind.checkArgs sa sig ⟨[.ref x, nameV, v], []⟩ = pure () := ha
   show wpAny M A (Bind.checkArgs sa sig ⟨[.ref x, nameV, v], []⟩) Q E _
   rw [h2]; exact wpAny_pure hq
theorem zfq {tk : Tok} {Q : PySem.Fin -> Shared -> Prop} {ns : List Str} (hpass : refuseLoop (.ref x) "__setattr__" bm = pure ())
  (hC : h.get? C = some (excClassObj nm q C N bs bm true sn sub ab col dd k0 k1 k2 k3 k5 newId)) (hf : zbr (model prog w) C name none h) (I : h.InstFk x C mA)
  (hq : ∀ h' tk', h'.InstFk x C (fun y => if y = name then some v else mA y) ->
   (∀ b o, b ≠ x -> (∀ o₀ dx, h.get? x = some o₀ -> o₀.dict = some dx -> b ≠ dx) -> h.get? b = some o -> h'.get? b = some o) ->
   (∀ o₀, h.get? x = some o₀ -> ∃ o₁, h'.get? x = some o₁ /\ o₁.cls = o₀.cls /\ o₁.data = o₀.data /\ o₁.slots = o₀.slots /\ ∀ dx, o₀.dict = some dx -> o₁.dict = some dx) -> (∀ o₀ o₁ dx, h.get? x = some o₀ -> o₀.dict = none -> h'.get? x = some o₁ -> o₁.dict = some dx -> h.objs.size <= dx) -> Q (.done (.ret .none)) ⟨h', g, d, tk', os⟩) (hw : PySem.Within mA ns) (hsz : ns.length <= 1000) :
  wpAny (model prog w) A (Builtin.«object.__setattr__» ⟨[.ref x, .str name tk, v], []⟩) Q E ⟨h, g, d, t, os⟩ := by
 obtain ⟨o, hx, hc, hnc, hd⟩ := I
 have hs2 : ns.length <= sizeLine := by rw [sizeLine_eq]; omega
 unfold Builtin.«object.__setattr__»
 repeat (first | rw [refuse_eq] | (rw [refuseLoop_ref, hpass]) | (with_reducible refine wpAny_loadPart_at hx ?_; rw [hc]) | with_reducible refine wpAny_mroOf_exc hC ?_ | with_reducible refine hf.at ?_ | wp_step)
 rcases hd with ⟨hdn, hmA⟩ | ⟨dx, hdx, hne, hns, hed⟩
 ·
  rw [hdn, if_neg (by simp [typeHasDict])]
  split
  ·rename_i hcd
   cases hcd
  split
  ·rename_i c hcd
   exact absurd hcd (hnc c)
  ·have hx₁ : (h.push { cls := .type "dict", data := .dict #[] }).get? x = some o := Heap.get?_push_of_some _ hx
   have hxs : x ≠ h.objs.size := Nat.ne_of_lt (Heap.lt_size hx)
   refine wpAny_bind (wpAny_alloc' ?_)
   refine wpAny_bind (wpAny_update' hx₁ ?_)
   refine wpAny_pure ?_
   have hgd : ((h.push { cls := .type "dict", data := .dict #[] }).update x fun o => { cls := o.cls, dict := some h.objs.size, data := o.data, slots := o.slots }).get? h.objs.size
     = some { cls := .type "dict", data := .dict #[] } :=
    (Heap.get?_update_ne _ _ _ _ hxs.symm).trans (Heap.get?_push_at rfl rfl)
   have hnd : ((h.push { cls := .type "dict", data := .dict #[] }).update x fun o => { cls := o.cls, dict := some h.objs.size, data := o.data, slots := o.slots }).Ns h.objs.size (fun _ => none) :=
    ⟨_, #[], _, hgd, rfl, fun e he => absurd he (by simp), fun _ => rfl⟩
   show wpAny _ _ (Builtin.ObjectAttr.storeInDict h.objs.size (.str name tk) name v) _ _ _
   unfold Builtin.ObjectAttr.storeInDict Builtin.ObjectAttr.newKeyGuard
   refine wpAny_bind (wpAny_pure (wpAny_bind (wpAny_nsSet1EFk (Heap.Ns1.of_empty hnd) fun h' hn' hs hkeepD => ?_)))
   obtain ⟨oD, esD, epD, hoD, hdD, hcD⟩ := hn'.count (PySem.Within.cons name v PySem.Within.nil)
   refine wpAny_bind (wpAny_lookBehind hoD (by rw [hdD]; exact pastItsLine_dict (Nat.le_trans hcD (by rw [List.length_cons, List.length_nil, sizeLine_eq]; omega))) ?_)
   wp_walk
   have hx' : h'.get? x = some { cls := o.cls, dict := some h.objs.size, data := o.data, slots := o.slots } := ?_
   refine hq h' _ ⟨{ cls := o.cls, dict := some h.objs.size, data := o.data, slots := o.slots }, hx', hc, hnc, .inr ⟨h.objs.size, rfl, hxs.symm, ?_, (let ⟨od', e', c', d'⟩ := hkeepD _ hgd; ⟨od', e', c', d'⟩)⟩⟩ (fun b ob hbx _ hb => ?_)
    (fun o₀ h₀ => by obtain rfl : o = o₀ := Option.some.inj (hx.symm.trans h₀); exact ⟨_, hx', rfl, rfl, rfl, fun dx e => by rw [hdn] at e; cases e⟩)
    (fun o₀ o₁ dx _ _ e1 e2 => by rw [hx'] at e1; cases e1; cases e2; exact Nat.le_refl _)
   ·obtain ⟨o', es, ep, e1, e2, e3, eu, e4⟩ := hn'
    exact ⟨o', es, ep, e1, e2, e3, eu, fun y => by rw [e4 y]; by_cases hy : y = name <;> simp [hy, hmA]⟩
   ·exact (hs.2 b (Nat.ne_of_lt (Heap.lt_size hb))).trans ((Heap.get?_update_ne _ _ _ _ hbx).trans (Heap.get?_push_of_some _ hb))
   ·refine (hs.2 x hxs).trans (Heap.get?_update_self _ hx₁ ?_)
    have hfr := (Heap.get?_some_iff.mp hx).2
    obtain ⟨oc, od, odt, osl⟩ := o
    cases odt <;> first | rfl | exact hfr
 ·
  rw [hdx]
  refine wpAny_pure ?_
  show wpAny _ _ (Builtin.ObjectAttr.storeInDict dx (.str name tk) name v) _ _ _
  unfold Builtin.ObjectAttr.storeInDict Builtin.ObjectAttr.newKeyGuard
  refine wpAny_bind (wpAny_pure (wpAny_bind (wpAny_nsSet1EFk hns fun h' hn' hs hkeepD => ?_)))
  obtain ⟨oD, esD, epD, hoD, hdD, hcD⟩ := hn'.count (PySem.Within.cons name v hw)
  refine wpAny_bind (wpAny_lookBehind hoD (by rw [hdD]; exact pastItsLine_dict (Nat.le_trans hcD (by rw [List.length_cons, sizeLine_eq]; omega))) ?_)
  wp_walk
  refine hq h' _ ⟨o, (hs.2 x hne.symm).trans hx, hc, hnc, .inr ⟨dx, hdx, hne, hn', (let ⟨od, e, c, dd⟩ := hed; let ⟨od', e', c', d'⟩ := hkeepD od e; ⟨od', e', c'.trans c, d'.trans dd⟩)⟩⟩ (fun b ob _ hbd hb => ?_)
   (fun o₀ h₀ => ⟨o₀, (hs.2 x hne.symm).trans h₀, rfl, rfl, rfl, fun _ e => e⟩)
   (fun o₀ o₁ dx' e0 e1 _ _ => by rw [hx] at e0; cases e0; rw [hdx] at e1; cases e1)
  exact (hs.2 b (hbd o dx hx hdx)).trans hb
theorem zd7 {Q : Unit -> Shared -> Prop} {ns : List Str} (SF : StoreFacts B bmB sa owner) (T : Tail bmB bm) (hpass : refuseLoop (.ref x) "__setattr__" bm = pure ())
  (hC : h.get? C = some (excClassObj nm q C N bs bm true sn sub ab col dd k0 k1 k2 k3 k5 newId)) (hfs : zbr (model prog w) C "__setattr__" (some (.builtin sa)) h) (hf : zbr (model prog w) C name none h) (I : h.InstFk x C mA)
  (hq : ∀ h' tk', h'.InstFk x C (fun y => if y = name then some v else mA y) ->
   (∀ b o, b ≠ x -> (∀ o₀ dx, h.get? x = some o₀ -> o₀.dict = some dx -> b ≠ dx) -> h.get? b = some o -> h'.get? b = some o) ->
   (∀ o₀, h.get? x = some o₀ -> ∃ o₁, h'.get? x = some o₁ /\ o₁.cls = o₀.cls /\ o₁.data = o₀.data /\ o₁.slots = o₀.slots /\ ∀ dx, o₀.dict = some dx -> o₁.dict = some dx) -> (∀ o₀ o₁ dx, h.get? x = some o₀ -> o₀.dict = none -> h'.get? x = some o₁ -> o₁.dict = some dx -> h.objs.size <= dx) -> Q () ⟨h', g, d, tk', os⟩) (hw : PySem.Within mA ns) (hsz : ns.length <= 1000) :
  wpAny (model prog w) A (setAttr (.ref x) name v) Q E ⟨h, g, d, t, os⟩ := by
 obtain ⟨o, hx, hc, _⟩ := id I
 have f3 := SF.slot.bind (.ref x)
 unfold setAttr callSpecial? specialOf
 repeat (any_goals (first | assumption | (with_reducible refine wpAny_loadPart_at hx ?_; rw [hc]) | with_reducible refine hfs.at ?_ | wp_step))
 refine codeAny_call_builtin SF.slot.plain SF.entry (zhE SF T hC hx hc (zfq hpass hC hf I (fun h' tk' I' hk hsame hnew => ?_) hw hsz))
 repeat (any_goals (first | assumption | wp_step))
 exact hq h' tk' I' hk hsame hnew
theorem zfr {M : Model} {o : Obj} {nameV : Value} {Q : Unit -> Shared -> Prop} (T : Tail bmB bm) (hb : bmB.contains (.type "BaseException") = true) (hC : h.get? C = some (excClassObj nm q C N bs bm hdct sn sub ab col dd k0 k1 k2 k3 k5 newId))
  (hx : h.get? x = some o) (hc : o.cls = .ref C) (hq : Q () ⟨h, g, d, t, os⟩) : wpAny M A (checkBuiltinCall "BaseException.__getattribute__" ⟨[.ref x, nameV], []⟩) Q E ⟨h, g, d, t, os⟩ := by
 have hk : builtinKind "BaseException.__getattribute__" = some .slot := by decide +kernel
 have hsplit : splitId "BaseException.__getattribute__" = some ("BaseException", "__getattribute__") := by decide +kernel
 have hcB : (Value.ref C :: bm).contains (.type "BaseException") = true := by rw [List.contains_cons, T _ _ hb]; rfl
 have ha := PySem.F.args_bexc_ga (.ref x) nameV
 simp only [checkBuiltinCall, hk, hsplit]
 refine wpAny_bind ?_
 ·unfold isInstance
  repeat (first | (with_reducible refine wpAny_loadPart_at hx ?_; rw [hc]) | (with_reducible refine wpAny_isSubtype_exc hC ?_; rw [hcB]) | wp_step)
  exact hq
theorem zf2 {tk : Tok} {Q : PySem.Fin -> Shared -> Prop} (hC : h.get? C = some (excClassObj nm q C N bs bm true sn sub ab col dd k0 k1 k2 k3 k5 newId)) (hf : zbr (model prog w) C name none h) (I : h.InstFk x C mA) (hv : mA name = some v) (hq : Q (.done (.ret v)) ⟨h, g, d, t, os⟩) :
  wpAny (model prog w) A (Builtin.«object.__getattribute__» ⟨[.ref x, .str name tk], []⟩) Q E ⟨h, g, d, t, os⟩ := by
 obtain ⟨o, hx, hc, hnc, hd⟩ := I
 rcases hd with ⟨_, hmA⟩ | ⟨dx, hdx, hne, hns, _⟩
 ·rw [hmA name] at hv; cases hv
 unfold Builtin.«object.__getattribute__»
 repeat (first | (with_reducible refine wpAny_loadPart_at hx ?_; rw [hc]) | with_reducible refine hf.at ?_ | wp_step)
 split
 ·rename_i c hcd
  exact absurd hcd (hnc c)
 unfold instanceDict
 repeat (first | (with_reducible refine wpAny_loadPart_at hx ?_; rw [hc]) | with_reducible refine wpAny_loadPart_at hC ?_ | wp_step)
 rw [hdx]
 repeat (first | (with_reducible refine wpAny_nsGet hns.ns ?_; rw [hv]) | wp_step)
 exact hq
theorem zgZ {expr : Bool} {Q : Value -> Shared -> Prop} (FB : ExcAttrFacts B) (T : Tail bmB bm) (hb : bmB.contains (.type "BaseException") = true) (hC : h.get? C = some (excClassObj nm q C N bs bm true sn sub ab col dd k0 k1 k2 k3 k5 newId))
  (fg : zbr (model prog w) C "__getattribute__" (some (.builtin "BaseException.__getattribute__")) h) (fa : zbr (model prog w) C "__getattr__" none h) (hf : zbr (model prog w) C name none h) (I : h.InstFk x C mA) (hv : mA name = some v) (hh : handedOut v = pure v) (hq : Q v ⟨h, g, d, t + 1, os⟩) :
  wpAny (model prog w) A (getAttr (.ref x) name expr) Q E ⟨h, g, d, t, os⟩ := by
 obtain ⟨o, hx, hc, _⟩ := id I
 have f3 := FB.ga.bind (.ref x)
 have hx0 : (expr && onTheHeap (Value.builtin "BaseException.__getattribute__")) = false := by cases expr <;> rfl
 have hx2 : (Value.builtin "BaseException.__getattribute__" == Value.builtin "object.__getattribute__") = false := by decide +kernel
 have hx1 : (onTheHeap (Value.ref C) && Value.builtin "BaseException.__getattribute__" == Value.builtin "object.__getattribute__") = false := by rw [hx2]; rfl
 unfold getAttr
 repeat (any_goals (first | assumption | (with_reducible refine wpAny_loadPart_at hx ?_; rw [hc]) | with_reducible refine fg.at ?_ | with_reducible refine fa.at ?_ | wp_step))
 refine codeAny_call_builtin FB.ga.plain PySem.F.entry_bexc_ga (zfr T hb hC hx hc (zf2 hC hf I hv ?_))
 repeat (any_goals (first | assumption | wp_step))
end
end L2
namespace L2
open PySem PySem.Spec
theorem mapF {o : Obj} {vs : Array Value} (f : Array Value -> Array Value) (h : o.data = .fields vs) : Obj.mapFields f o = { o with data := .fields (f vs) } := by
 obtain ⟨c, d, dt, sl⟩ := o
 cases h
 rfl
def Tb (h : Heap) (e : Addr) (vs : Array Value) (fl : Value) : Prop := ∃ T oT ts, vs[1]? = some (.ref T) /\ T ≠ e /\ h.get? T = some oT /\ oT.data = .fields ts /\ ts[3]? = some fl
def Fly (h : Heap) (e : Addr) : Prop := ∃ oe vs, h.get? e = some oe /\ oe.data = .fields vs /\ (vs[1]? = some .none ∨ Tb h e vs .none)
structure zgw (fs : List Addr) (e : Addr) (h h' : Heap) : Prop where
 keep : ∀ b o, b ≠ e -> b ∉ fs -> h.get? b = some o -> h'.get? b = some o
 slot : ∀ b o, b ≠ e -> h.get? b = some o -> ∃ sl, h'.get? b = some { o with slots := sl }
 own : ∀ oe, h.get? e = some oe -> ∃ vs, h'.get? e = some { oe with data := .fields vs }
section
variable {M : Model} {A : Around} {E : Value -> Shared -> Prop} {s : Shared} {base : Heap} {env : Env} {outer : List Env} {L e : Addr}
theorem newEntry {oe : Obj} {vs : Array Value} {head : Value} {hadNext : Bool} {Q : Unit -> Shared -> Prop} (hfr : A.frames = some (env :: outer)) (hl : s.heap.FunFrames base (env :: outer)) (hf : env.frame = some L)
  (he : s.heap.get? e = some oe) (hd : oe.data = .fields vs) (hsz : 1 < vs.size)
  (h : ∀ h', zgw (frs (env :: outer)) e s.heap h' -> Fly h' e -> Q () { s with heap := h' }) :
  wpAny M A (do let a ← frameOf env; let pl ← entryPlaceOf L hadNext; let b ← EntryCells.newEntry head a .none (rawInt L) .none pl; setField (.ref e) 1 b) (fun _ s' => wpAny M A (setFlight (.ref e) none) Q E s') E s := by
 have hene : e ∉ (env :: outer).filterMap (·.frame) := fun hm => by
  obtain ⟨_, o, ho, hnf⟩ := hl.mem hm
  rw [he] at ho; injection ho with ho; subst ho; exact hnf vs hd
 refine wpAny_bind (wpAny_frameOf_fun hfr hl hf fun h₁ hs₁ => ?_)
 refine wpAny_bind (wpAny_entryPlaceOf fun pl hpl => ?_)
 unfold EntryCells.newEntry newFields
 refine wpAny_bind (wpAny_newObj_type ?_ (hpl.sizeOk5 _ _ _ _ _))
 have he₁ : h₁.get? e = some oe := (hs₁.2.1 e hene).trans he
 have he₂ := Heap.get?_push_of_some (h := h₁) { cls := .type "traceback", dict := none, data := .fields ([head, .ref L, .none, rawInt L, .none] ++ (if pl.isEmpty then List.replicate 6 Value.none else pl)).toArray } he₁
 refine wpAny_setField he₂ hd hsz ?_
 have hTe : h₁.objs.size ≠ e := Nat.ne_of_gt (Heap.lt_size he₁)
 have hd₃ := Obj.data_mapFields hd (·.setIfInBounds 1 (Value.ref h₁.objs.size))
 have he₃ := Heap.get?_update_self (Obj.mapFields (·.setIfInBounds 1 (Value.ref h₁.objs.size))) he₂ (Obj.isFreed_of_fields hd₃)
 have hT₃ := (Heap.get?_update_other (h₁.push { cls := .type "traceback", dict := none, data := .fields ([head, .ref L, .none, rawInt L, .none] ++ (if pl.isEmpty then List.replicate 6 Value.none else pl)).toArray })
  (Obj.mapFields (·.setIfInBounds 1 (Value.ref h₁.objs.size))) (Ne.symm hTe)).trans (Heap.get?_push_size h₁ rfl)
 unfold setFlight
 refine wpAny_bind (wpAny_field he₃ hd₃ (x := .ref h₁.objs.size) (by simp [hsz]) ?_)
 rw [if_pos (show (Value.ref h₁.objs.size != Value.none) = true from by simp)]
 refine wpAny_setField hT₃ rfl (by simp only [List.size_toArray, List.length_append, List.length_cons, List.length_nil] <;> omega) (h _ ?_ ?_)
 ·have keep : ∀ b o, b ≠ e -> h₁.get? b = some o ->
    (((h₁.push { cls := .type "traceback", dict := none, data := .fields ([head, .ref L, .none, rawInt L, .none] ++ (if pl.isEmpty then List.replicate 6 Value.none else pl)).toArray }).update e (Obj.mapFields (·.setIfInBounds 1 (Value.ref h₁.objs.size)))).update h₁.objs.size
     (Obj.mapFields (·.setIfInBounds 3 ((none : Option Addr).elim Value.none fun f => rawInt f)))).get? b = some o := fun b o hbe hb => by
   have hbT : h₁.objs.size ≠ b := Nat.ne_of_gt (Heap.lt_size hb)
   rw [Heap.get?_update_other _ _ hbT, Heap.get?_update_other _ _ (Ne.symm hbe)]
   exact Heap.get?_push_of_some _ hb
  refine ⟨fun b o hb hf hg => keep b o hb ((hs₁.2.1 b hf).trans hg), fun b o hb hg => ?_, fun oe' z => ?_⟩
  ·obtain ⟨sl, hs⟩ := hs₁.2.2 b o hg
   exact ⟨sl, keep b _ hb hs⟩
  ·rw [he] at z; cases z
   exact ⟨_, by rw [Heap.get?_update_other _ _ hTe, he₃, mapF _ hd]⟩
 ·refine ⟨_, _, ?_, hd₃, .inr ⟨h₁.objs.size, _, _, by simp [hsz], hTe, Heap.get?_update_self _ hT₃ (Obj.isFreed_of_fields (Obj.data_mapFields rfl _)), Obj.data_mapFields rfl _, by first | (simp; done) | (rcases hpl with rfl | ⟨_, _, _, _, _, _, _, rfl⟩ <;> simp)⟩⟩
  rw [Heap.get?_update_other _ _ hTe]; exact he₃
theorem note {Q : Unit -> Shared -> Prop} (hfr : A.frames = some (env :: outer)) (hl : s.heap.FunFrames base (env :: outer)) (hf : env.frame = some L) (x : Fly s.heap e)
  (h : ∀ h', zgw (frs (env :: outer)) e s.heap h' -> Fly h' e -> Q () { s with heap := h' }) : wpAny M A (noteFrame (.ref e) env) (fun _ s' => wpAny M A (setFlight (.ref e) none) Q E s') E s := by
 obtain ⟨oe, vs, he, hd, h1⟩ := x
 unfold noteFrame
 simp only [hf]
 rcases h1 with h1 | ⟨T, oT, ts, h1, hTe, hT, hdT, h3⟩
 ·refine wpAny_bind (wpAny_field he hd h1 ?_)
  rw [if_neg (by decide)]
  exact newEntry hfr hl hf he hd (Array.getElem?_eq_some_iff.mp h1).1 h
 ·refine wpAny_bind (wpAny_field he hd h1 ?_)
  rw [if_pos (show (Value.ref T != Value.none) = true from by simp)]
  refine wpAny_bind (wpAny_field hT hdT h3 ?_)
  rw [if_neg (show ¬ ((Value.none == rawInt L) = true) from by simp [rawInt])]
  obtain ⟨hs3, hv3⟩ := Array.getElem?_eq_some_iff.mp h3
  refine wpAny_bind (wpAny_setField hT hdT hs3 ?_)
  have same : ∀ b o, s.heap.get? b = some o -> (s.heap.update T (Obj.mapFields (·.setIfInBounds 3 Value.none))).get? b = some o := fun b o hb => by
   by_cases hbT : b = T
   ·subst hbT
    rw [hT] at hb; cases hb
    rw [Heap.get?_update_self _ hT (Obj.isFreed_of_fields (Obj.data_mapFields hdT _)), mapF _ hdT]
    have : ts.setIfInBounds 3 Value.none = ts := by
     apply Array.ext_getElem?
     intro i
     rw [Array.getElem?_setIfInBounds]
     split
     ·rename_i z
      subst z
      exact h3.symm
     ·rfl
    rw [this, ← hdT]
   ·rw [Heap.get?_update_other _ _ (Ne.symm hbT)]; exact hb
  exact newEntry hfr (hl.of_keeps fun b o hb hnf => ⟨o, same b o hb, rfl⟩) hf (same e oe he) hd (Array.getElem?_eq_some_iff.mp h1).1
   fun h' p t => h h' ⟨fun b o a c g => p.keep b o a c (same b o g), fun b o a g => p.slot b o a (same b o g), fun oe' z => p.own oe' (same e oe' z)⟩ t
theorem zl2 {Q : Unit -> Shared -> Prop} (hfr : A.frames = some (env :: outer)) (hl : s.heap.FunFrames base (env :: outer)) (hf : env.frame = some L) (x : Fly s.heap e)
  (h : ∀ h', zgw (frs (env :: outer)) e s.heap h' -> Fly h' e -> Q () { s with heap := h' }) : wpAny M A (leaving env (.ref e)) Q E s := by
 unfold leaving
 exact wpAny_bind (note hfr hl hf x h)
end
end L2
namespace L2
open PySem PySem.Spec PyProof.Rows PySem.Calls PyProof.V
def XO (fr : Bool) (e C : Addr) (dd : Option Addr) : Heap -> Prop := fun h => ∃ vs sl, h.get? e = some { cls := .ref C, dict := dd, data := .fields vs, slots := sl } /\ (fr = true -> vs[1]? = some .none /\ ∃ t0, vs[0]? = some (.ref t0))
theorem XO.ok {P : Program} {w : World} {H : Hp} {h : Heap} {fr : Bool} {e C : Addr} {dd : Option Addr} (x : XO fr e C dd h) : zcw P w H h e (.ext (XO fr e C dd)) :=
 ⟨x, let ⟨_, _, q, _⟩ := x; ⟨_, q⟩, fun h1 h2 ⟨vs, sl, q, z⟩ k => ⟨vs, sl, k _ q, z⟩⟩
theorem XO.fly {h : Heap} {e C : Addr} {dd : Option Addr} (x : XO true e C dd h) : Fly h e := let ⟨vs, _, q, z⟩ := x; ⟨_, vs, q, rfl, .inl (z rfl).1⟩
theorem XO.old {h : Heap} {fr : Bool} {e C : Addr} {dd : Option Addr} (x : XO fr e C dd h) : XO false e C dd h := let ⟨vs, sl, q, _⟩ := x; ⟨vs, sl, q, fun z => nomatch z⟩
def CX1 (P : Program) (w : World) : CXT := fun outer H s E v s' => ∃ e C dd H', v = .ref e /\ s'.os = s.os /\ AllBare s'.gens /\ Un (frs outer) [] H H' s.heap s'.heap /\ HOk P w H' s'.heap /\ H' e = some (.ext (XO false e C dd)) /\ Fly s'.heap e /\ E (.ref e) none H'
section
variable {X : Cx} {pins : List (Addr × Obj)} {σ : St} {H : Hp} {s : Shared} {e C : Addr} {dd : Option Addr} {h' : Heap}
theorem Inv.passed (I : Inv X pins σ H s) (hx : H e = some (.ext (XO false e C dd))) (p : zgw (frs X.stack) e s.heap h') : Inv X pins σ H { s with heap := h' } := by
 have ne : ∀ b, H b = none -> b ≠ e := fun b n z => by rw [z, hx] at n; cases n
 refine I.call (g' := s.gens) (t' := s.toks) (d' := s.drawn) (ch := []) ⟨fun b o g n f _ => p.keep b o (ne b n) f g, fun b o g n _ _ => p.slot b o (ne b n) g, fun b o _ n _ => n, fun b o g _ => ?_, fun _ _ z => z, fun _ _ _ z => z, fun b ps z => ⟨#[], by rw [z]; simp⟩⟩ (fun a o q => ?_) I.bare fun b z => absurd z (by simp)
 ·by_cases hb : b = e
  ·subst hb
   obtain ⟨vs, z⟩ := p.own o g
   exact ⟨_, z⟩
  ·obtain ⟨sl, z⟩ := p.slot b o hb g
   exact ⟨_, z⟩
 ·by_cases ha : a = e
  ·subst ha
   rw [hx] at q; cases q
   obtain ⟨⟨vs, sl, g, _⟩, _, _⟩ := I.hok a _ hx
   obtain ⟨vs', z⟩ := p.own _ g
   exact XO.ok ⟨vs', sl, z, fun z => nomatch z⟩
  ·refine (I.hok a o q).stay (fun b u hb g => p.keep b u ?_ (fun z => ?_) g) (fun _ z => z) fun _ _ z => z
   ·rcases hb with rfl | hb
    ·exact ha
    ·rintro rfl; rw [hx] at hb; cases hb
   ·have n := I.stkFree b z
    rcases hb with rfl | hb
    ·rw [q] at n; cases n
    ·rw [hb] at n; cases n
def zez (X : Cx) (KX : V -> St -> Hp -> Prop) : Prop := ∀ (pins : List (Addr × Obj)) (σ : St) (H : Hp) (s : Shared) (e C : Addr) (dd : Option Addr), Inv X pins σ H s -> H e = some (.ext (XO false e C dd)) -> Fly s.heap e -> KX (.ref e) σ H -> X.xe (.ref e) s
theorem zcI {P : Program} {w : World} {K : PySem.W.Frag} {mg : Str -> Option Value} {base : Heap} {N : List Str} {qual : Str} {scope : Scope} {f : Addr} {cd : Value} {A : Around} {outer : List Env} {s₀ : Shared} {H₀ : Hp} {E : XK} :
  zez (cxOf (CX1 P w) P w K mg base N qual scope f cd A outer s₀ H₀ E) fun v _ H => ∃ e, v = .ref e /\ E (.ref e) none H := by
 intro pins σ H s e C dd I hx fl ⟨e', ee, hE⟩
 cases ee
 refine zl2 (L := s₀.heap.objs.size) I.ok.frames I.stack rfl fl fun h' p fl' => ?_
 have I' := I.passed hx p
 exact ⟨e, C, dd, H, rfl, I'.os, I'.bare, I'.base, I'.hok, hx, fl', hE⟩
theorem zez.pass {KX : V -> St -> Hp -> Prop} {E : XK} {v : Value} {s' : Shared} (hw : zez X KX) (I : Inv X pins σ H s) (h : CX1 X.prog X.w X.stack H s E v s') (hk : ∀ e H, E (.ref e) none H -> KX (.ref e) σ H) : X.xe v s' := by
 obtain ⟨e, C, dd, H', rfl, os, bare, un, hok, hx, fl, hE⟩ := h
 obtain ⟨hh, g, d, t, os'⟩ := s'
 obtain rfl : os' = s.os := os
 exact hw pins σ H' _ e C dd (I.call (h' := hh) (g' := g) (d' := d) (t' := t) (ch := []) un hok bare (fun b z => absurd z (by simp))) hx fl (hk e H' hE)
end
end L2
namespace L2
open PySem PySem.Spec PyProof.Rows PySem.Calls PyProof.V
abbrev VB : List Value := [.type "ValueError", .type "Exception", .type "BaseException", .type "object"]
structure XCls (M : Model) (base : Heap) (C : Addr) (bm : List Value) (fI : Addr) : Prop where
 obj : ∃ nm q N bs sn sub ab col dd k0 k1 k2 k3 k5, base.get? C = some (excClassObj nm q C N bs bm true sn sub ab col dd k0 k1 k2 k3 k5 "ValueError.__new__")
 tail : Tail VB bm
 init : zbr M C "__init__" (some (.ref fI)) base
 fn : ∃ o, base.get? fI = some o /\ o.cls = .type "function"
 sa : zbr M C "__setattr__" (some (.builtin "object.__setattr__")) base
 ga : zbr M C "__getattribute__" (some (.builtin "BaseException.__getattribute__")) base
 gh : zbr M C "__getattr__" none base
 cl : zbr M C "__class__" (some (.builtin "object.__class__")) base
 pass : ∀ v, refuseLoop v "__setattr__" bm = pure ()
section
variable {X : Cx} {k : Nat} {f C : Addr} {fd : FuncData} {ps : List Str} {sp : Sp} {x : Str} {p pos cpos : Pos} {e : Expr} {es : List Expr} {t : TA} {bm : List Value}
theorem zhF {pins : List (Addr × Obj)} {σ : St} {H : Hp} {s : Shared} {Q : VK} {us : List Value} {vs : List V} (M : XCls (model X.prog X.w) X.base C bm f) (F : FnOk X.prog X.w X.K X.mg X.base CX0 k f fd ps sp) (hr : Room (k + 1) X.A) (hb : zc9 X.K fd ps [])
  (I : Inv X pins σ H s) (r : Vals vs us) (hl : us.length <= sizeLine)
  (h : ∀ a, H a = none -> sp (.ref a :: vs) (upd H a (.ext (XO true a C none))) (fun v H2 => v = .non /\ Q (.ref a) H2) E0) :
  wpAny (model X.prog X.w) X.A (call (.ref C) us) (EP X pins σ Q) X.xe s := by
 obtain ⟨nm, q, N, bs, sn, sub, ab, col, dd, k0, k1, k2, k3, k5, hC⟩ := M.obj
 obtain ⟨oI, hfI, hfc⟩ := M.fn
 obtain ⟨hp, g, d, tk, os⟩ := s
 refine zhD PySem.F.excBase_ValueError M.tail (I.bk _ _ hC) (fI := f) (M.init.keeps I.bk) (I.bk _ _ hfI) hfc (fun h' a made hz => ?_) hl
 obtain ⟨t', he, htn, ht⟩ := made.there
 have I2 : Inv X pins σ (upd H a (.ext (XO true a C none))) ⟨h', g, d, tk, os⟩ := I.laid (t' := tk) made.keeps hz (XO.ok ⟨_, _, he, fun _ => ⟨rfl, _, rfl⟩⟩)
 have hq := h a (I.hok.fresh hz)
 have r2 : Vals (V.ref a :: vs) (Value.ref a :: us) := .cons rfl r
 have hl2 : (Value.ref a :: us ++ []).length = ps.length := by
  have e := r2.length
  rw [F.len _ _ _ _ hq] at e
  rw [List.append_nil]
  exact e.symm
 refine wpAny_call (codeAny_mono (F.run _ X.stack _ _ ⟨Value.ref a :: us, []⟩ (Value.ref a :: us) _ _ E0 (hr.make C us []) (I2.env0.make C us []) (by have := hb _ (Value.ref a :: us) I2.kIn hl2; rwa [List.append_nil] at this) r2 hq) fun r s' hq' => ?_)
 cases r with
 | error e => exact hq'.elim
 | ok fl =>
  cases fl with
  | ret u =>
   obtain ⟨v, H', I3, rv, ev, q3⟩ := I2.after hq'
   subst ev
   exact ⟨rv, ⟨V.ref a, H', I3, rfl, q3⟩⟩
  | next => exact False.elim hq'
  | brk => exact False.elim hq'
  | cont => exact False.elim hq'
def tMkX (C : Addr) (sp : Sp) (t : TA) : TE := fun σ H Q => t σ H fun vs H1 => vs.length <= sizeLine /\ ∀ a, H1 a = none -> sp (.ref a :: vs) (upd H1 a (.ext (XO true a C none))) (fun v H2 => v = .non /\ Q (.ref a) H2) E0
theorem ziY (M : XCls (model X.prog X.w) X.base C bm f) (F : FnOk X.prog X.w X.K X.mg X.base CX0 k f fd ps sp) (hr : Room (k + 1) X.A) (hg : Gl X x) (hm : X.mg x = some (.ref C)) (hk : PySem.W.keepIn X.K (.ref C) = true) (hb : zc9 X.K fd ps [])
  (ha : PA X (e :: es) t) (hdb : (x == ("__debug__" : Str)) = false := by decide) (he : starEach (e :: es) X.env = (false, eval e X.env) :: starEach es X.env := by rfl) (hpl : (backTo pos (starEach es X.env)).any (·.1) = false := by rfl) :
  PE X (.Call (.Name x p) (e :: es) [] pos) (tMkX C sp t) := by
 intro pins s σ H Q I h
 refine wpAny_Call_Name_kw (zdD I hg hm ?_ hdb)
 refine PySem.W.callWith_K (h₀ := X.base) I.ok.mod.kin hk (thn (ha pos pins s σ H _ I h) fun us s1 ⟨vs, H1, I1, r, hl, q⟩ => ⟨I1.kIn, ?_⟩) he hpl
 exact zhF M F hr hb I1 r (by show us.length <= sizeLine; rw [← r.length]; exact hl) q
def zl3 (KC : Addr -> Prop) (te : TE) (KX : V -> St -> Hp -> Prop) : TS := fun _ σ H => te σ H fun v H2 => ∃ a C dd, v = .ref a /\ KC C /\ H2 a = some (.ext (XO true a C dd)) /\ KX (.ref a) σ (upd H2 a (.ext (XO false a C dd)))
theorem zhG {M : Model} {A : Around} {E : Value -> Shared -> Prop} {env : Env} {s : Shared} {Q : Flow -> Shared -> Prop} {y : Sem Value}
  (hh : A.handled = none) (h : wpAny M A y (fun v s₁ => ∃ a C dd vs sl nm q N bs bm hdct sn sub ab col dd' k0 k1 k2 k3 k5 newId, v = .ref a /\ bm.contains (.type "BaseException") = true /\ s₁.heap.get? C = some (excClassObj nm q C N bs bm hdct sn sub ab col dd' k0 k1 k2 k3 k5 newId) /\
   s₁.heap.get? a = some { cls := .ref C, dict := dd, data := .fields vs, slots := sl } /\ vs[1]? = some .none /\ E (.ref a) s₁) E s) :
  wpAny M A (raiseStmt env (some y) none) Q E s := by
 unfold raiseStmt
 refine wpAny_bind (wpAny_mono h (fun v s₁ h₁ => ?_) fun _ _ x => x)
 obtain ⟨a, C, dd, vs, sl, nm, q, N, bs, bm, hdct, sn, sub, ab, col, dd', k0, k1, k2, k3, k5, newId, rfl, hbase, hC, he, h1, hE⟩ := h₁
 have hcB : (Value.ref C :: bm).contains (.type "BaseException") = true := by rw [List.contains_cons, hbase, Bool.or_true]
 obtain ⟨hp, g, d, tk, os⟩ := s₁
 repeat (first | with_reducible refine wpAny_field he rfl h1 ?_ | with_reducible refine wpAny_loadPart_at he ?_ | with_reducible refine wpAny_loadPart_at hC ?_ | (with_reducible refine wpAny_isSubtype_exc hC ?_; rw [hcB]) | wp_step)
 exact wpAny_raiseNew_none hh hE
theorem Inv.aged {pins : List (Addr × Obj)} {σ : St} {H : Hp} {s : Shared} {a C : Addr} {dd : Option Addr} (I : Inv X pins σ H s) (hx : H a = some (.ext (XO true a C dd))) : Inv X pins σ (upd H a (.ext (XO false a C dd))) s := by
 obtain ⟨x, _, _⟩ := I.hok a _ hx
 have := I.write (x := a) (e := a) (o := .ext (XO false a C dd)) (t' := s.toks) (h' := s.heap) (by rw [hx]; trivial) (.inl rfl) (fun _ _ _ q => q) (let ⟨_, _, q, _⟩ := x; ⟨_, q⟩) (XO.ok x.old)
 exact this
theorem ziZ {KC : Addr -> Prop} {te : TE} {KX : V -> St -> Hp -> Prop} {exc : Expr} (hc : X.calm = true) (hcls : ∀ C, KC C -> ∃ bm fI, XCls (model X.prog X.w) X.base C bm fI) (hw : zez X KX) (ht : PE X exc te) : PS X (.Raise (some exc) none pos) (zl3 KC te KX) := by
 intro pins s σ H D I h
 rw [arm_exec_Raise]
 refine wpAny_bind (wpAny_standAt ?_)
 show wpAny _ _ (raiseStmt X.env (some (do let v ← eval exc X.env; standAt pos; pure v)) none) _ _ _
 refine zhG (I.ok.hd hc) (wpAny_bind (thn (ht pins s σ H _ I h) fun u s1 ⟨v, H2, I2, rv, a, C, dd, ev, kc, hx, kx⟩ => wpAny_bind (wpAny_standAt (wpAny_pure ?_))))
 subst ev
 obtain rfl : u = Value.ref a := rv
 obtain ⟨bm, fI, M⟩ := hcls C kc
 obtain ⟨nm, q, N, bs, sn, sub, ab, col, dd', k0, k1, k2, k3, k5, hC⟩ := M.obj
 obtain ⟨⟨vs, sl, g, z⟩, _, _⟩ := I2.hok a _ hx
 exact ⟨a, C, dd, vs, sl, nm, q, N, bs, bm, true, sn, sub, ab, col, dd', k0, k1, k2, k3, k5, _, rfl, M.tail _ _ rfl, I2.bk _ _ hC, g, (z rfl).1, hw pins σ _ s1 a C dd (I2.aged hx) zaz (XO.fly ⟨vs, sl, g, z⟩) kx⟩
end
end L2
namespace L2
open PySem PySem.Spec PyProof.Rows PySem.Calls PyProof.V
section
variable {M : Model} {A : Around} {E : Value -> Shared -> Prop} {h : Heap} {g : Array GenState} {d : Drawn} {t : Nat} {os : OsState}
variable {nm q nm' q' : Str} {C N D N' a : Addr} {bs bm bs' bm' : List Value} {hdct hdct' : Bool} {sn sn' : List Str} {sub sub' : List Value} {ab ab' : Bool} {col col' : Option Bool} {dd dd' : Option Addr} {k0 k1 k2 k3 k5 j0 j1 j2 j3 j5 : Option Value} {newId newId' : String}
theorem zi0 {o : Obj} {b : Bool} {Q : Bool -> Shared -> Prop} (hC : h.get? C = some (excClassObj nm q C N bs bm hdct sn sub ab col dd k0 k1 k2 k3 k5 newId)) (hD : h.get? D = some (excClassObj nm' q' D N' bs' bm' hdct' sn' sub' ab' col' dd' j0 j1 j2 j3 j5 newId'))
  (hbase : bm'.contains (.type "BaseException") = true) (ha : h.get? a = some o) (hc : o.cls = .ref C) (hb : (Value.ref C :: bm).contains (.ref D) = b) (hq : Q b ⟨h, g, d, t, os⟩) : wpAny M A (excMatches (.ref a) (.ref D)) Q E ⟨h, g, d, t, os⟩ := by
 have hcB : (Value.ref D :: bm').contains (.type "BaseException") = true := by rw [List.contains_cons, hbase, Bool.or_true]
 have f1 := tc_notTuple
 have f2 := tc_sub
 have hT : (⟨h, g, d, t, os⟩ : Shared).TypeIs (.ref D) "type" := ⟨_, hD, rfl⟩
 unfold excMatches
 repeat (any_goals (first | assumption | (with_reducible refine wpAny_loadPart_at ha ?_; rw [hc]) | with_reducible refine wpAny_loadPart_at hD ?_ | with_reducible refine wpAny_loadPart_at hC ?_ | (with_reducible refine wpAny_isSubtype_exc hD ?_; rw [hcB]) | (with_reducible refine wpAny_isSubtype_exc hC ?_; rw [hb]) | wp_step))
 cases b <;> (wp_walk; exact hq)
end
end L2
namespace L2
open PySem PySem.Spec PyProof.Rows PySem.Calls PyProof.V
def zl4 (sp : Sp) (KX : V -> St -> Hp -> Prop) (t : TA) : TE := fun σ H Q => t σ H fun vs H1 => sp vs H1 Q fun v _ H' => ∀ a, v = .ref a -> KX (.ref a) σ H'
section
variable {X : Cx} {k : Nat} {f : Addr} {fd : FuncData} {ps : List Str} {sp : Sp} {x n : Str} {p pos np hpos : Pos} {e : Expr} {es : List Expr} {t : TA} {KX : V -> St -> Hp -> Prop}
theorem zi1 (F : FnOk X.prog X.w X.K X.mg X.base (CX1 X.prog X.w) k f fd ps sp) (hr : Room k X.A) (hg : Gl X x) (hm : X.mg x = some (.ref f)) (hk : PySem.W.keepIn X.K (.ref f) = true) (hb : zc9 X.K fd ps []) (hw : zez X KX)
  (ha : PA X (e :: es) t) (hdb : (x == ("__debug__" : Str)) = false := by decide) (he : starEach (e :: es) X.env = (false, eval e X.env) :: starEach es X.env := by rfl) (hpl : (backTo pos (starEach es X.env)).any (·.1) = false := by rfl) :
  PE X (.Call (.Name x p) (e :: es) [] pos) (zl4 sp KX t) := by
 intro pins s σ H Q I h
 refine wpAny_Call_Name_kw (zdD I hg hm ?_ hdb)
 refine PySem.W.callWith_K (h₀ := X.base) I.ok.mod.kin hk (thn (ha pos pins s σ H _ I h) fun us s1 ⟨vs, H1, I1, r, q⟩ => ⟨I1.kIn, ?_⟩) he hpl
 have hl : (us ++ []).length = ps.length := by rw [List.append_nil, ← r.length]; exact F.len _ _ _ _ q
 refine wpAny_call (codeAny_mono (F.run X.A X.stack s1 H1 ⟨us, []⟩ us vs Q _ hr I1.env0 (by have := hb s1 us I1.kIn hl; rwa [List.append_nil] at this) r q) fun r s' hq => ?_)
 cases r with
 | error e => exact hw.pass (E := fun v _ H' => ∀ a, v = .ref a -> KX (.ref a) σ H') I1 hq fun a H' z => z a rfl
 | ok fl =>
  cases fl with
  | ret u => exact I1.after hq
  | next => exact False.elim hq
  | brk => exact False.elim hq
  | cont => exact False.elim hq
abbrev Cx.suite (X : Cx) (a : Addr) : Cx := { X with A := X.A.mark (some (.ref a)), calm := false, xe := fun _ _ => False }
theorem Cx.Ok.suite (ok : X.Ok) (a : Addr) : (X.suite a).Ok :=
 ⟨ok.mod, ok.kind, ok.glob, ok.blt, ok.above, ok.inj, ok.has, ok.cab, fun z => (nomatch z), ok.frames, ok.stk, ok.exf, ok.bs, ok.bsz, ok.noex, ok.exfs, ok.funs, ok.frf⟩
theorem Inv.suite {pins : List (Addr × Obj)} {σ : St} {H : Hp} {s : Shared} (I : Inv X pins σ H s) (a : Addr) : Inv (X.suite a) pins σ H s := ⟨I.ok.suite a, I.os, I.bare, I.base, I.loc, I.cell, I.free, I.freeC, I.pin, I.hok, I.len⟩
theorem Inv.unsuite {pins : List (Addr × Obj)} {σ σ' : St} {H H' : Hp} {s s' : Shared} {a : Addr} (I0 : Inv X pins σ H s) (I : Inv (X.suite a) pins σ' H' s') : Inv X pins σ' H' s' := ⟨I0.ok, I.os, I.bare, I.base, I.loc, I.cell, I.free, I.freeC, I.pin, I.hok, I.len⟩
theorem zdl {pins : List (Addr × Obj)} {σ : St} {H : Hp} {s : Shared} {i : Nat} {Q : Unit -> Shared -> Prop} {E : Value -> Shared -> Prop} {A : Around} (I : Inv X pins σ H s) (hN : X.N.Nodup) (hi : X.N[i]? = some n) (hl : X.env.kindOf n = some .local)
  (h : ∀ s', Inv X pins (σ.set i none) H s' -> Q () s') : wpAny (model X.prog X.w) A (do bindName X.env n .none; unbindBehindTheSuite X.env n pos) Q E s := by
 have hcls : (X.env.scope.kind == .class || (X.env.scope.kind == .module && X.env.locals != X.env.globals)) = false := by rw [I.ok.kind]; rfl
 refine wpAny_bind (wpAny_bindName (zdZ (v := .non) (u := .none) I hN hi (.inl hl) rfl (fun s1 I1 => ?_) (.inr hl)))
 unfold unbindBehindTheSuite
 refine wpAny_onRaise ?_
 unfold unbindName
 refine wpAny_bind (wpAny_point (wpAny_bind ?_))
 unfold deleteName
 simp only [hl, hcls]
 rw [if_neg (by decide)]
 obtain ⟨m, hn, hlk⟩ := id I1.loc
 have hiσ : i < σ.length := by rw [I.len]; exact (List.getElem?_eq_some_iff.mp hi).1
 refine wpAny_bind (wpAny_nsDel_keeps hn fun h' v hn' hs => ?_)
 have hsome : (m n).isSome = true := by
  obtain ⟨u, _, l⟩ := hlk i n .non hi (by rw [List.getElem?_set_self hiσ]) (.inl hl)
  rcases l with ⟨_, l⟩ | ⟨k, _⟩
  ·rw [l]; rfl
  ·rcases k with k | k
   ·rw [hl] at k; cases k
   ·rw [hl] at k; cases k
 rw [hsome]
 simp only [if_true, Bool.not_true, Bool.false_eq_true, if_false]
 refine wpAny_pure (wpAny_point (h _ ?_))
 obtain ⟨oL, _, _, hoL, _⟩ := id hn
 have neL : ∀ b o, X.s₀.heap.get? b = some o -> b ≠ X.env.locals := fun b o e => Nat.ne_of_lt (Nat.lt_of_lt_of_le (Heap.lt_size e) I.ok.above)
 refine ⟨I1.ok, I1.os, I1.bare, ⟨fun b o e n hb hx => (hs.2 b (neL b o e)).trans (I1.base.keep b o e n hb hx), fun b o e n hb hx => ?_, I1.base.free, fun b o e hx => ?_, I1.base.tups, I1.base.frzs, I1.base.tbls⟩, ⟨_, hn', fun j y v' e1 e2 e3 => ?_⟩, fun y c e => ?_, I1.free, I1.freeC, fun p hp => ?_, fun b ob e => ?_, ?_⟩
 ·obtain ⟨sl, e1⟩ := I1.base.slot b o e n hb hx
  exact ⟨sl, (hs.2 b (neL b o e)).trans e1⟩
 ·obtain ⟨o', e1⟩ := I1.base.there b o e hx
  exact ⟨o', (hs.2 b (neL b o e)).trans e1⟩
 ·have hj : j ≠ i := by
   rintro rfl
   rw [List.getElem?_set_self hiσ] at e2
   cases e2
  rw [List.getElem?_set_ne (Ne.symm hj)] at e2
  obtain ⟨u', r', q⟩ := hlk j y v' e1 (by rw [List.getElem?_set_ne (Ne.symm hj)]; exact e2) e3
  have hy : y ≠ n := by
   rintro rfl
   obtain ⟨h1, h2⟩ := List.getElem?_eq_some_iff.mp e1
   obtain ⟨h3, h4⟩ := List.getElem?_eq_some_iff.mp hi
   exact hj ((List.getElem_inj hN).mp (h2.trans h4.symm))
  refine ⟨u', r', ?_⟩
  rcases q with ⟨q1, q2⟩ | ⟨k, c, e, z⟩
  ·exact .inl ⟨q1, (if_neg hy).trans q2⟩
  ·obtain ⟨o, ho, hd⟩ := z
   exact .inr ⟨k, c, e, o, (hs.2 c (I1.cne y c e)).trans ho, hd⟩
 ·obtain ⟨v', o, ho, hd⟩ := I1.cell y c e
  exact ⟨v', o, (hs.2 c (I1.cne y c e)).trans ho, hd⟩
 ·obtain ⟨a, b, c, d⟩ := I1.pin p hp
  exact ⟨(hs.2 _ c).trans a, b, c, d⟩
 ·refine (I1.hok b ob e).stay (fun c w' hc q => (hs.2 c ?_).trans q) (fun _ q => q) fun _ _ q => q
  rintro rfl
  rcases hc with rfl | hc
  ·rw [I1.free] at e; cases e
  ·rw [I1.free] at hc; cases hc
 ·rw [List.length_set]; exact I.len
theorem zg0 {M : Model} {A : Around} {E : Value -> Shared -> Prop} {s : Shared} {a : Addr} {Q : Unit -> Shared -> Prop} (fl : Fly s.heap a) (h : ∀ h', (∀ b o, s.heap.get? b = some o -> h'.get? b = some o) -> Q () { s with heap := h' }) : wpAny M A (setFlight (.ref a) none) Q E s := by
 obtain ⟨oe, vs, he, hd, h1⟩ := fl
 unfold setFlight
 rcases h1 with h1 | ⟨T, oT, ts, h1, hTe, hT, hdT, h3⟩
 ·refine wpAny_bind (wpAny_field he hd h1 ?_)
  rw [if_neg (by decide)]
  exact wpAny_pure (h s.heap fun _ _ q => q)
 ·obtain ⟨hs3, hv3⟩ := Array.getElem?_eq_some_iff.mp h3
  refine wpAny_bind (wpAny_field he hd h1 ?_)
  rw [if_pos (show (Value.ref T != Value.none) = true from by simp)]
  refine wpAny_setField hT hdT hs3 (h _ fun b o hb => ?_)
  by_cases hbT : b = T
  ·subst hbT
   rw [hT] at hb; cases hb
   rw [Heap.get?_update_self _ hT (Obj.isFreed_of_fields (Obj.data_mapFields hdT _)), mapF _ hdT]
   have : ts.setIfInBounds 3 Value.none = ts := Array.setIfInBounds_same _ _ _ h3
   show some { oT with data := .fields (ts.setIfInBounds 3 Value.none) } = _
   rw [this, ← hdT]
  ·rw [Heap.get?_update_other _ _ (Ne.symm hbT)]; exact hb
def tExc (KC : Addr -> List Value -> Prop) (D : Addr) (i : Nat) (ts : TS) (Dn : Ends) : V -> St -> Hp -> Prop := fun v σ H => ∃ a C dd bm, v = .ref a /\ KC C bm /\ H a = some (.ext (XO false a C dd)) /\ (Value.ref C :: bm).contains (.ref D) = true /\
 ts { nx := fun σ' H' => Dn.nx (σ'.set i none) H', rt := Dn.rt, bk := fun σ' H' => Dn.bk (σ'.set i none) H', ct := fun σ' H' => Dn.ct (σ'.set i none) H' } (σ.set i (some (.ref a))) H
def tTry (KC : Addr -> List Value -> Prop) (D : Addr) (i : Nat) (tb : (V -> St -> Hp -> Prop) -> TS) (ts : TS) : TS := fun Dn σ H => tb (tExc KC D i ts Dn) Dn σ H
abbrev Cx.tried (X : Cx) (W : Value -> Shared -> Prop) (pins : List (Addr × Obj)) : Cx := { X with xe := W, pn := X.pn ++ pins }
theorem Inv.tried {pins : List (Addr × Obj)} {σ : St} {H : Hp} {s : Shared} (I : Inv X pins σ H s) (W : Value -> Shared -> Prop) : Inv (X.tried W pins) [] σ H s :=
 ⟨⟨I.ok.mod, I.ok.kind, I.ok.glob, I.ok.blt, I.ok.above, I.ok.inj, I.ok.has, I.ok.cab, I.ok.hd, I.ok.frames, I.ok.stk, I.ok.exf, I.ok.bs, I.ok.bsz, I.ok.noex, I.ok.exfs, I.ok.funs, I.ok.frf⟩, I.os, I.bare, I.base, I.loc, I.cell, I.free, I.freeC, fun p hp => I.pin p (by simpa using hp), I.hok, I.len⟩
theorem Inv.untried {pins pins' : List (Addr × Obj)} {σ σ' : St} {H H' : Hp} {s s' : Shared} {W : Value -> Shared -> Prop} (I0 : Inv X pins σ H s) (I : Inv (X.tried W pins) pins' σ' H' s') : Inv X pins σ' H' s' :=
 ⟨I0.ok, I.os, I.bare, I.base, I.loc, I.cell, I.free, I.freeC, fun p hp => I.pin p (List.mem_append_left _ hp), I.hok, I.len⟩
theorem zl5 {KC : Addr -> List Value -> Prop} {D fD : Addr} {bmD : List Value} {i : Nat} {tb : (V -> St -> Hp -> Prop) -> TS} {ts : TS} {body suite : List Stmt} {b₀ : Stmt} {st : List Env} (hstk : X.stack = X.env :: st) (hfr : X.env.frame = some X.env.locals)
  (hcls : ∀ C bm, KC C bm -> ∃ fI, XCls (model X.prog X.w) X.base C bm fI) (hD : XCls (model X.prog X.w) X.base D bmD fD) (hg : Gl X x) (hm : X.mg x = some (.ref D)) (hN : X.N.Nodup) (hi : X.N[i]? = some n) (hl : X.env.kindOf n = some .local)
  (hb : ∀ (KX : V -> St -> Hp -> Prop) (W : Value -> Shared -> Prop) (pn : List (Addr × Obj)), zez (X.tried W pn) KX -> PSs (X.tried W pn) body (tb KX)) (hs : ∀ a, PSs (X.suite a) (b₀ :: suite) ts) (hdb : (x == ("__debug__" : Str)) = false := by decide) :
  PS X (.Try body [.ExceptHandler (some (.Name x np)) (some n) (b₀ :: suite) hpos] [] [] pos) (tTry KC D i tb ts) := by
 intro pins s σ H Dn I h
 refine wpAny_Try_except ?_
 let W : Value -> Shared -> Prop := fun v s1 => ∃ a σ1 H1, v = .ref a /\ Inv X pins σ1 H1 s1 /\ Fly s1.heap a /\ tExc KC D i ts Dn (.ref a) σ1 H1
 have hw : zez (X.tried W pins) (tExc KC D i ts Dn) := fun pins' σ1 H1 s1 a C dd I1 hx fl hk => ⟨a, σ1, H1, rfl, I.untried I1, fl, hk⟩
 refine wpAny_mono (hb _ W pins hw [] s σ H Dn (I.tried W) h) (fun f s1 h1 => ?_) fun v s1 h1 => ?_
 ·cases f with
  | next =>
   obtain ⟨σ', H', I', q⟩ := h1
   exact wpAny_execs_nil ⟨σ', H', I.untried I', q⟩
  | brk => obtain ⟨σ', H', I', q⟩ := h1; exact ⟨σ', H', I.untried I', q⟩
  | cont => obtain ⟨σ', H', I', q⟩ := h1; exact ⟨σ', H', I.untried I', q⟩
  | ret u => obtain ⟨v, σ', H', I', r, q⟩ := h1; exact ⟨v, σ', H', I.untried I', r, q⟩
 ·obtain ⟨a, σ1, H1, rfl, I1, fl, a', C, dd, bm, ea, kc, hx, hm', q⟩ := h1
  cases ea
  obtain ⟨fI, XC⟩ := hcls C bm kc
  have hk := I1.ok.frames
  rw [hstk] at hk
  have hS := I1.stack
  rw [hstk] at hS
  refine note hk hS hfr fl fun h2 p2 fl2 => ?_
  rw [← hstk] at p2
  have I2 := I1.passed hx p2
  refine wpAny_handleBy_cons (codeAny_handlers_test ?_) (by intro q; cases q)
  refine zdD (I2.suite a) hg hm ?_ hdb
  obtain ⟨nm, qn, N, bs, sn, sub, ab, col, dd1, k0, k1, k2, k3, k5, hC⟩ := XC.obj
  obtain ⟨nm', qn', N', bs', sn', sub', ab', col', dd2, j0, j1, j2, j3, j5, hD'⟩ := hD.obj
  obtain ⟨⟨vs, sl, ga, _⟩, _, _⟩ := I2.hok a _ hx
  refine zi0 (I2.bk _ _ hC) (I2.bk _ _ hD') (hD.tail _ _ rfl) ga rfl hm' ?_
  refine codeAny_handlers_suite_as (zg0 fl2 fun h3 k3 => ?_)
  have I3 := I2.kept (t' := s1.toks) k3
  refine zdZ (v := .ref a) I3 hN hi (.inl hl) rfl (fun s4 I4 => ?_) (.inr hl)
  refine wpAny_mono (hs a pins s4 _ H1 _ (I4.suite a) q) (fun f s5 h5 => ?_) fun _ _ z => z.elim
  cases f with
  | next =>
   obtain ⟨σ', H', I', q'⟩ := h5
   exact zdl (I3.unsuite I') hN hi hl fun s6 I6 => ⟨_, H', I6, q'⟩
  | brk =>
   obtain ⟨σ', H', I', q'⟩ := h5
   exact zdl (I3.unsuite I') hN hi hl fun s6 I6 => ⟨_, H', I6, q'⟩
  | cont =>
   obtain ⟨σ', H', I', q'⟩ := h5
   exact zdl (I3.unsuite I') hN hi hl fun s6 I6 => ⟨_, H', I6, q'⟩
  | ret u =>
   obtain ⟨v, σ', H', I', r, q'⟩ := h5
   exact zdl (I3.unsuite I') hN hi hl fun s6 I6 => ⟨v, _, H', I6, r, q'⟩
end
end L2
namespace L2
open PySem PySem.Spec PyProof.Rows PySem.Calls PyProof.V
section
variable {prog : Program} {w : World} {A : Around} {E : Value -> Shared -> Prop} {h : Heap} {g : Array GenState} {d : Drawn} {t : Nat} {os : OsState}
variable {nm q : Str} {C N a : Addr} {bs bm bmB : List Value} {hdct : Bool} {sn : List Str} {sub : List Value} {ab : Bool} {col : Option Bool} {dd : Option Addr} {k0 k1 k2 k3 k5 : Option Value} {B newId initId nid : String}
theorem zf3 (F : ExcBaseFacts B nid initId bmB) (T : Tail bmB bm) {M : Model} {oe : Obj} {rest : List Value} {Q : Unit -> Shared -> Prop}
  (hC : h.get? C = some (excClassObj nm q C N bs bm hdct sn sub ab col dd k0 k1 k2 k3 k5 newId)) (he : h.get? a = some oe) (hcls : oe.cls = .ref C) (hq : Q () ⟨h, g, d, t, os⟩) :
  wpAny M A (checkBuiltinCall initId ⟨.ref a :: rest, []⟩) Q E ⟨h, g, d, t, os⟩ := by
 have hcB : (Value.ref C :: bm).contains (.type B) = true := by rw [List.contains_cons, T _ _ F.hasB, Bool.or_true]
 have hshort := F.noStar
 simp only [checkBuiltinCall, F.initKind, F.initSplit, F.initRow]
 repeat (first | (with_reducible refine wpAny_loadPart_at he ?_; rw [hcls]) | with_reducible refine wpAny_loadPart_at hC ?_ | (with_reducible refine wpAny_isSubtype_exc hC ?_; rw [hcB]) | wp_step)
 refine wpAny_onRaise ?_
 rw [show ∀ (x1 x2 : String) (n : Nat), Bind.check ⟨.positional, "*", B, .self, [⟨"args", .varPos, false⟩]⟩ x1 x2 n (List.map (fun x => x.fst) ({ pos := Value.ref a :: rest } : Args).kw) = pure () from
  fun _ _ n => check_star_args _ _ _ _ _ _]
 exact wpAny_pure hq
theorem zg1 (F : ExcBaseFacts B nid initId bmB) (T : Tail bmB bm) {oe : Obj} {vs : Array Value} {u : Value} {Q : Value -> Shared -> Prop}
  (hC : h.get? C = some (excClassObj nm q C N bs bm hdct sn sub ab col dd k0 k1 k2 k3 k5 newId)) (he : h.get? a = some oe) (hcls : oe.cls = .ref C) (hd : oe.data = .fields vs) {t0 : Addr} (h0 : vs[0]? = some (.ref t0))
  (hq : ∀ h', (∀ b o, b ≠ a -> h.get? b = some o -> h'.get? b = some o) -> (∃ y, h'.get? a = some { oe with data := .fields (vs.setIfInBounds 0 (.ref y)) }) -> Q .none ⟨h', g, d, t, os⟩) :
  wpAny (model prog w) A (call (.builtin initId) [.ref a, u]) Q E ⟨h, g, d, t, os⟩ := by
 refine wpAny_call (codeAny_call_builtin F.init.plain F.initEntry (zf3 F T hC he hcls ?_))
 have he₂ : (h.push { cls := .type "tuple", data := .seq #[u] }).get? a = some oe := Heap.get?_push_of_some _ he
 have hz : 0 < vs.size := (Array.getElem?_eq_some_iff.mp h0).1
 repeat (first | with_reducible refine wpAny_field he₂ hd h0 ?_ | with_reducible refine wpAny_setField he₂ hd hz ?_ | wp_step)
 have he₃ := Heap.get?_update_self (Obj.mapFields (·.setIfInBounds 0 (Value.ref h.objs.size))) he₂ (Obj.isFreed_of_fields (Obj.data_mapFields hd _))
 refine hq _ (fun b o hb g => ?_) ⟨_, by rw [he₃, mapF _ hd]⟩
 rw [Heap.get?_update_other _ _ (Ne.symm hb)]
 exact Heap.get?_push_of_some _ g
end
theorem zkk : PySem.W.handedIn (.builtin "ValueError.__init__") = true := by decide +kernel
theorem zl6 {h : Heap} : PySem.W.Frag.In [] h := fun a o z => by cases z
theorem zhH : typeOf (.type "ValueError") = pure (.type "type") := by kernel_rfl
theorem zkl : Manifest.isStub "ValueError" = false := by decide +kernel
theorem zkm : PySem.W.findCls [] (.type "ValueError") (.type "type") "__init__" = some (.val (.builtin "ValueError.__init__")) := by kernel_rfl
section
variable {X : Cx} {k : Nat} {f D : Addr} {fd : FuncData} {ps : List Str} {sp : Sp} {x : Str} {p pos apos : Pos} {e : Expr} {es : List Expr} {t : TA}
def zjP (KC : Addr -> List Value -> Prop) (t : TA) : TE := fun σ H Q => t σ H fun vs H1 => ∃ a C dd bm u, vs = [.ref a, u] /\ KC C bm /\ H1 a = some (.ext (XO true a C dd)) /\ Q .non H1
theorem zi2 {KC : Addr -> List Value -> Prop} {pl : Sem Bool} (hcls : ∀ C bm, KC C bm -> ∃ fI, XCls (model X.prog X.w) X.base C bm fI) (hg : Gl X "ValueError") (hm : X.mg "ValueError" = none) (ha : PA X (e :: es) t)
  (hst : starEach (e :: es) X.env = (false, eval e X.env) :: starEach es X.env := by rfl) (hpl : (backTo pos (starEach es X.env)).any (·.1) = false := by rfl)
  (ht : eval (.Call (.Attribute (.Name "ValueError" p) "__init__" apos) (e :: es) [] pos) X.env = (do
   let ov ← eval (.Name "ValueError" p) X.env
   standAt apos.atName
   let (f, first) ← holding [ov] (getMethod ov "__init__" pl)
   callWith pos f first (backTo pos (starEach (e :: es) X.env)) (backToKw pos (keywordEach [] X.env))) := by rfl) :
  PE X (.Call (.Attribute (.Name "ValueError" p) "__init__" apos) (e :: es) [] pos) (zjP KC t) := by
 intro pins s σ H Q I h
 have hB : bootBuiltins "ValueError" = some (.type "ValueError") := by decide +kernel
 refine PySem.W.methodCall_KW (pl := pl) (zd3 I hg hm hB ?_) ht
 obtain ⟨m, Fm⟩ := I.fr
 refine PySem.W.method_type (K := []) (v := .builtin "ValueError.__init__") Fm zl6 zhH zkl zkm zkk ?_
 refine PyProof.Rows.callWith_builtin1 (thn (ha pos pins _ σ H _ (I.tok _) h) fun us s1 ⟨vs, H1, I1, r1, a, C, dd, bm, u, ev, kc, hx, q⟩ => ?_) hst hpl
 subst ev
 cases r1 with
 | cons ra r1 =>
 cases r1 with
 | cons ru r1 =>
 cases r1
 have ra' : _ = Value.ref a := ra
 subst ra'
 obtain ⟨fI, XC⟩ := hcls C bm kc
 obtain ⟨nm, qn, N, bs, sn, sub, ab, col, dd1, k0, k1, k2, k3, k5, hC⟩ := XC.obj
 obtain ⟨⟨vs, sl, ga, z⟩, _, _⟩ := I1.hok a _ hx
 obtain ⟨z1, t0, z0⟩ := z rfl
 obtain ⟨hp, g, d, tk, os⟩ := s1
 refine zg1 PySem.F.excBase_ValueError XC.tail (I1.bk _ _ hC) ga rfl rfl z0 fun h' k ⟨y, hy⟩ => ?_
 have hw := I1.write (x := a) (e := a) (o := .ext (XO true a C dd)) (t' := tk) (h' := h') (by rw [hx]; trivial) (.inl rfl) k ⟨_, hy⟩ (XO.ok ⟨_, sl, hy, fun _ => ⟨by rw [Array.getElem?_setIfInBounds_ne (by decide)]; exact z1, y, by simp [(Array.getElem?_eq_some_iff.mp z0).1]⟩⟩)
 have e : upd H1 a (.ext (XO true a C dd)) = H1 := by
  funext b
  by_cases hb : b = a
  ·subst hb; rw [zaz, hx]
  ·rw [zaG hb]
 rw [e] at hw
 exact ⟨.non, H1, hw, rfl, q⟩
end
end L2
namespace L2
open PySem PySem.Spec PyProof.Rows PySem.Calls PyProof.V
structure zi3 (K : PySem.W.Frag) (D : Addr) (m : Str) (f : Addr) : Prop where
 ga : PySem.W.specialIn K (.ref D) "__getattribute__" = some (some (.builtin "type.__getattribute__"))
 rd : PySem.W.readsIn K D (.type "type") = true
 fd : PySem.W.findCls K (.ref D) (.type "type") m = some (.val (.ref f))
 kp : PySem.W.keepIn K (.ref f) = true
section
variable {X : Cx} {k : Nat} {f D : Addr} {fd : FuncData} {ps : List Str} {sp : Sp} {x m : Str} {p pos apos : Pos} {e : Expr} {es : List Expr} {t : TA}
theorem zi4 {pl : Sem Bool} (M : zi3 X.K D m f) (F : FnOk X.prog X.w X.K X.mg X.base CX0 k f fd ps sp) (hr : Room k X.A) (hb : zc9 X.K fd ps []) (hg : Gl X x) (hm : X.mg x = some (.ref D)) (ha : PA X (e :: es) t)
  (hdb : (x == ("__debug__" : Str)) = false := by decide) (hst : starEach (e :: es) X.env = (false, eval e X.env) :: starEach es X.env := by rfl) (hpl : (backTo pos (starEach es X.env)).any (·.1) = false := by rfl)
  (ht : eval (.Call (.Attribute (.Name x p) m apos) (e :: es) [] pos) X.env = (do
   let ov ← eval (.Name x p) X.env
   standAt apos.atName
   let (f, first) ← holding [ov] (getMethod ov m pl)
   callWith pos f first (backTo pos (starEach (e :: es) X.env)) (backToKw pos (keywordEach [] X.env))) := by rfl) :
  PE X (.Call (.Attribute (.Name x p) m apos) (e :: es) [] pos) (zj9 sp [] E0 t) := by
 intro pins s σ H Q I h
 refine PySem.W.methodCall_KW (pl := pl) (zdD I hg hm ?_ hdb) ht
 refine PySem.W.method_cls I.kIn M.ga (PySem.W.cls_value I.kIn M.rd M.fd rfl ?_)
 refine PySem.W.callWith_K (h₀ := X.base) I.ok.mod.kin M.kp (thn (ha pos pins _ σ H _ (I.tok _) h) fun us s1 ⟨vs, H1, I1, r, q⟩ => ⟨I1.kIn, ?_⟩) hst hpl
 exact zjM F hr hb .nil zl1 I1 r q
end
def XD (dx : Addr) (fs : List (Str × V)) : Heap -> Prop := fun h => ∃ mA, h.Ns1 dx mA /\ h.ExactDictFk dx /\ (∀ f, RelO (fs.lookup f) (mA f)) /\ PySem.Within mA (fs.map (·.1))
theorem XD.ok {P : Program} {w : World} {H : Hp} {h : Heap} {dx : Addr} {fs : List (Str × V)} (x : XD dx fs h) : zcw P w H h dx (.ext (XD dx fs)) :=
 ⟨x, let ⟨_, ⟨o, _, _, q, _⟩, _⟩ := x; ⟨o, q⟩, fun h1 h2 ⟨mA, ⟨o, es, ep, q, c⟩, ⟨od, q2, c2⟩, r⟩ k => ⟨mA, ⟨o, es, ep, k _ q, c⟩, ⟨od, k _ q2, c2⟩, r⟩⟩
theorem XO.inst {h : Heap} {a C : Addr} {vs : Array Value} {sl : Array (Option Value)} (g : h.get? a = some { cls := .ref C, dict := none, data := .fields vs, slots := sl }) : h.InstFk a C fun _ => none :=
 ⟨_, g, rfl, fun _ z => (by cases z), .inl ⟨rfl, fun _ => rfl⟩⟩
section
variable {X : Cx} {pins : List (Addr × Obj)} {σ : St} {H : Hp} {s : Shared} {a C dx : Addr} {h' : Heap} {t' : Nat}
theorem Inv.xdict {fs : List (Str × V)} (I : Inv X pins σ H s) (hx : H a = some (.ext (XO true a C none))) (k : ∀ b o, b ≠ a -> s.heap.get? b = some o -> h'.get? b = some o) (hz : s.heap.objs.size <= dx) (h1 : XO true a C (some dx) h') (h2 : XD dx fs h') :
  Inv X pins σ (upd (upd H a (.ext (XO true a C (some dx)))) dx (.ext (XD dx fs))) { s with heap := h', toks := t' } := by
 have hn : H dx = none := I.hok.fresh hz
 have hne : dx ≠ a := fun z => by rw [z, hx] at hn; cases hn
 have ne : ∀ b, H b = none -> b ≠ a := fun b n z => by rw [z, hx] at n; cases n
 have nd : ∀ b o, s.heap.get? b = some o -> b ≠ dx := fun b o g z => by subst z; exact absurd (Heap.lt_size g) (Nat.not_lt.mpr hz)
 have oth : ∀ b, b ≠ a -> b ≠ dx -> upd (upd H a (.ext (XO true a C (some dx)))) dx (.ext (XD dx fs)) b = H b := fun b h1 h2 => by rw [zaG h2, zaG h1]
 have trk : ∀ b u, H b = some u -> b ≠ dx := fun b u q z => by rw [z, hn] at q; cases q
 have nota : ∀ b (u : HO), H b = some u -> (∀ φ, u ≠ .ext φ) -> b ≠ a := fun b u q n z => by rw [z, hx] at q; cases q; exact n _ rfl
 refine I.un (t' := t') ⟨fun b o g n _ _ => k b o (ne b n) g, fun b o g n _ _ => ⟨o.slots, k b o (ne b n) g⟩, fun b o g n _ => (oth b (ne b n) (nd b o g)).trans n, fun b o g _ => ?_, fun b xs q => ?_, fun b o u q => ?_, fun b ps q => ⟨#[], ?_⟩⟩ fun b u q => ?_
 ·by_cases hb : b = a
  ·subst hb; obtain ⟨_, _, z, _⟩ := h1; exact ⟨_, z⟩
  ·exact ⟨o, k b o hb g⟩
 ·exact (oth b (nota b _ q fun _ z => by cases z) (trk b _ q)).trans q
 ·exact (oth b (nota b _ q fun _ z => by cases z) (trk b _ q)).trans q
 ·rw [oth b (nota b _ q fun _ z => by cases z) (trk b _ q), q]; simp
 ·by_cases hb : b = dx
  ·subst hb; rw [zaz] at q; cases q; exact XD.ok h2
  ·rw [zaG hb] at q
   by_cases hb2 : b = a
   ·subst hb2; rw [zaz] at q; cases q; exact XO.ok h1
   ·rw [zaG hb2] at q
    refine (I.hok b u q).stay (fun c v hc g => k c v ?_ g) (fun c r => (oth c (nota c _ r fun _ z => by cases z) (trk c _ r)).trans r) fun c xs r => (oth c (nota c _ r fun _ z => by cases z) (trk c _ r)).trans r
    rcases hc with rfl | hc
    ·exact hb2
    ·exact nota c _ hc fun _ z => by cases z
end
def zkn (KC : Addr -> List Value -> Prop) (ta tv : TE) (f : Str) : TS := fun D σ H => tv σ H fun y H1 => ta σ H1 fun x H2 => ∃ a C bm, x = .ref a /\ KC C bm /\
 ((H2 a = some (.ext (XO true a C none)) /\ ∀ dx, H2 dx = none -> dx ≠ a -> D.nx σ (upd (upd H2 a (.ext (XO true a C (some dx)))) dx (.ext (XD dx [(f, y)])))) ∨
  ∃ dx fs, dx ≠ a /\ H2 a = some (.ext (XO true a C (some dx))) /\ H2 dx = some (.ext (XD dx fs)) /\ fs.length < 900 /\ D.nx σ (upd H2 dx (.ext (XD dx (putF f y fs)))))
section
variable {X : Cx} {o value : Expr} {f : Str} {pos pos' : Pos} {ta tv : TE} {KC : Addr -> List Value -> Prop}
theorem zhI (hcls : ∀ C bm, KC C bm -> ∃ fI, XCls (model X.prog X.w) X.base C bm fI) (hf : ∀ C bm, KC C bm -> zbr (model X.prog X.w) C f none X.base) (ha : PE X o ta) (hv : PE X value tv)
  (hs : swapsWith value (some (.Attribute o f pos')) pos.line X.env = pure false) : PS X (.Assign [.Attribute o f pos'] value pos) (zkn KC ta tv f) := by
 intro pins s σ H D I h
 refine plainObj_wpAny_Assign_Attribute (thn (hv pins s σ H _ I h) fun u s1 ⟨y, H1, I1, ry, q⟩ => thn (ha pins s1 σ H1 _ I1 q) fun ov s2 ⟨x, H2, I2, rx, a, C, bm, ex, kc, q2⟩ => ?_) hs
 subst ex
 obtain rfl : ov = Value.ref a := rx
 obtain ⟨fI, XC⟩ := hcls C bm kc
 obtain ⟨nm, qn, N, bs, sn, sub, ab, col, dd1, k0, k1, k2, k3, k5, hC⟩ := XC.obj
 obtain ⟨hp, g, d, tk, os⟩ := s2
 rcases q2 with ⟨hx, q2⟩ | ⟨dx, fs, hne, hx, hdx, hl, q2⟩
 ·obtain ⟨⟨vs, sl, ga, z⟩, _, _⟩ := I2.hok a _ hx
  refine zd7 (ns := []) PySem.F.store_ValueError XC.tail (XC.pass _) (I2.bk _ _ hC) (XC.sa.keeps I2.bk) ((hf C bm kc).keeps I2.bk) (XO.inst ga) (fun h' tk' i' hk hsame hnew => ?_) PySem.Within.nil (by decide)
  obtain ⟨o1, g1, c1, d1, s1', _⟩ := hsame _ ga
  obtain ⟨o2, g2, _, _, dd⟩ := i'
  rw [g1] at g2
  cases g2
  rcases dd with ⟨_, dn⟩ | ⟨dx, hdx, hne, hns, hex⟩
  ·have := dn f; simp at this
  ·have hz := hnew _ _ dx ga rfl g1 hdx
   have o1e : o1 = { cls := .ref C, dict := some dx, data := .fields vs, slots := sl } := by
    obtain ⟨oc, od, odt, osl⟩ := o1
    cases c1; cases d1; cases s1'; cases hdx; rfl
   have I3 := I2.xdict (t' := tk') (dx := dx) (fs := [(f, y)]) hx (fun b ob hb gb => hk b ob hb (fun o₀ dx' e1 e2 => by rw [ga] at e1; cases e1; cases e2) gb) hz ⟨vs, sl, by rw [g1, o1e], z⟩
    ⟨_, hns, hex, fun g => ?_, fun g hg => ?_⟩
   ·exact ⟨σ, _, I3, q2 dx (I2.hok.fresh hz) hne⟩
   ·show RelO ((putF f y []).lookup g) (if g = f then some u else none)
    rw [zdc]
    by_cases e : g = f
    ·rw [if_pos e, if_pos e]; exact ry
    ·rw [if_neg e, if_neg e]; trivial
   ·show g ∈ [f]
    by_cases e : g = f
    ·rw [e]; simp
    ·exact absurd (if_neg e) hg
 ·obtain ⟨⟨vs, sl, ga, z⟩, _, _⟩ := I2.hok a _ hx
  obtain ⟨⟨mA, hns, hex, hr, hwi⟩, _, _⟩ := I2.hok dx _ hdx
  refine zd7 (ns := fs.map (·.1)) PySem.F.store_ValueError XC.tail (XC.pass _) (I2.bk _ _ hC) (XC.sa.keeps I2.bk) ((hf C bm kc).keeps I2.bk) ⟨_, ga, rfl, fun _ z => (by cases z), .inr ⟨dx, rfl, hne, hns, hex⟩⟩ (fun h' tk' i' hk hsame hnew => ?_) hwi (by rw [List.length_map]; omega)
  obtain ⟨o1, g1, c1, d1, s1', dk⟩ := hsame _ ga
  have hd1 := dk dx rfl
  obtain ⟨o2, g2, _, _, dd⟩ := i'
  rw [g1] at g2
  cases g2
  rcases dd with ⟨dn, _⟩ | ⟨dx2, hdx2, hne2, hns2, hex2⟩
  ·rw [hd1] at dn; cases dn
  ·rw [hd1] at hdx2
   cases hdx2
   have o1e : o1 = { cls := .ref C, dict := some dx, data := .fields vs, slots := sl } := by
    obtain ⟨oc, od, odt, osl⟩ := o1
    cases c1; cases d1; cases s1'; cases hd1; rfl
   have I3 := I2.write (x := dx) (e := dx) (o := .ext (XD dx (putF f y fs))) (t' := tk') (h' := h') (by rw [hdx]; trivial) (.inl rfl) (fun b ob hb gb => by
    by_cases hba : b = a
    ·subst hba; rw [ga] at gb; cases gb; rw [g1, o1e]
    ·exact hk b ob hba (fun o₀ dx' e1 e2 => by rw [ga] at e1; cases e1; cases e2; exact hb) gb) (let ⟨o, _, _, q, _⟩ := hns2; ⟨o, q⟩) (XD.ok ⟨_, hns2, hex2, fun g => ?_, fun g hg => ?_⟩)
   ·exact ⟨σ, _, I3, q2⟩
   ·show RelO ((putF f y fs).lookup g) (if g = f then some u else mA g)
    rw [zdc]
    by_cases e : g = f
    ·rw [if_pos e, if_pos e]; exact ry
    ·rw [if_neg e, if_neg e]; exact hr g
   ·by_cases e : g = f
    ·rw [e]; exact (zd4 f y fs).1
    ·refine (zd4 f y fs).2 g (hwi g fun z => hg ?_)
     show (if g = f then some u else mA g) = none
     rw [if_neg e]; exact z
end
end L2
namespace L2
open PySem PySem.Spec PyProof.Rows PySem.Calls PyProof.V
inductive FmtV : V -> Str -> Prop
 | str (x : Str) (h : x.length <= sizeLine) : FmtV (.str x) x
 | int (i : Int) (h : i.natAbs.log2 < 1920) : FmtV (.int i) (toString i : String)
 | non : FmtV .non "None"
def tFmt (te : TE) : TE := fun σ H Q => te σ H fun v H1 => ∃ y, FmtV v y /\ Q (.str y) H1
def zi5 : List TE -> Str -> TE
 | [], acc => fun _ H Q => acc.length <= sizeLine /\ Q (.str acc) H
 | te :: r, acc => fun σ H Q => te σ H fun v H1 => ∃ y, v = .str y /\ (acc ++ y).length <= sizeLine /\ zi5 r (acc ++ y) σ H1 Q
inductive PEs (X : Cx) : List Expr -> List TE -> Prop
 | nil : PEs X [] []
 | cons {e : Expr} {es : List Expr} {t : TE} {ts : List TE} : PE X e t -> PEs X es ts -> PEs X (e :: es) (t :: ts)
section
variable {X : Cx} {value : Expr} {te : TE} {pos : Pos}
theorem zjQ (h : PE X value te) : PE X (.FormattedValue value (-1) none pos) (tFmt te) := by
 intro pins s σ H Q I hq
 refine wpAny_FormattedValue_plain (thn (h pins s σ H _ I hq) fun u s1 ⟨v, H1, I1, rv, y, hy, q⟩ => ?_)
 cases hy with
 | str x hx =>
  obtain ⟨t, rfl⟩ := (show ∃ t, u = Value.str y t from rv)
  exact wpAny_formatField_str ⟨.str y, H1, I1, ⟨_, rfl⟩, q⟩ ⟨.str y, H1, I1.tok _, ⟨_, rfl⟩, q⟩ hx
 | int i hi =>
  obtain ⟨t, rfl⟩ := (show ∃ t, u = Value.int i t from rv)
  exact wpAny_formatField_int hi ⟨.str _, H1, I1.tok _, ⟨_, rfl⟩, q⟩
 | non =>
  obtain rfl : u = Value.none := rv
  exact wpAny_formatField_none ⟨.str _, H1, I1.tok _, ⟨_, rfl⟩, q⟩
theorem zgx {E : Value -> Shared -> Prop} : ∀ {es : List Expr} {ts : List TE} {acc : Str} {pins : List (Addr × Obj)} {s : Shared} {σ : St} {H : Hp} {Q : VK}, PEs X es ts -> Inv X pins σ H s -> zi5 ts acc σ H Q ->
  Joins (model X.prog X.w) X.A X.xe (evalEach es X.env) acc (fun out s1 => out.length <= sizeLine /\ EP X pins σ Q (.str out s1.toks) { s1 with toks := s1.toks + 1 }) s
 | _, _, acc, pins, s, σ, H, Q, .nil, I, ⟨hl, q⟩ => ⟨hl, .str acc, H, I.tok _, ⟨_, rfl⟩, q⟩
 | _, _, acc, pins, s, σ, H, Q, .cons h r, I, hq => thn (h pins s σ H _ I hq) fun u s1 ⟨v, H1, I1, rv, y, ev, hl, q⟩ => by
  subst ev
  obtain ⟨t, rfl⟩ := (show ∃ t, u = Value.str y t from rv)
  exact ⟨y, t, rfl, hl, zgx (E := E) r I1 q⟩
theorem zhJ {v1 v2 : Expr} {rest : List Expr} {ts : List TE} (h : PEs X (v1 :: v2 :: rest) ts) : PE X (.JoinedStr (v1 :: v2 :: rest) pos) (zi5 ts Str.empty) := by
 intro pins s σ H Q I hq
 exact wpAny_JoinedStr (zgx (E := X.xe) h I hq)
end
end L2
namespace L2
open PySem PySem.Spec PyProof.Rows PySem.Calls PyProof.V
def znd (KC : Addr -> List Value -> Prop) (ta : TE) (f : Str) : TE := fun σ H Q => ta σ H fun x H1 => ∃ a C bm dx fs v fr, x = .ref a /\ KC C bm /\ H1 a = some (.ext (XO fr a C (some dx))) /\ H1 dx = some (.ext (XD dx fs)) /\ fs.lookup f = some v /\ Q v H1
theorem zg2 {v : V} {u : Value} (r : RelV v u) : handedOut u = pure u := by
 cases v with
 | non => obtain rfl : u = _ := r; rfl
 | bl b => obtain rfl : u = _ := r; rfl
 | int i => obtain ⟨t, rfl⟩ : ∃ t, u = _ := r; rfl
 | str x => obtain ⟨t, rfl⟩ : ∃ t, u = _ := r; rfl
 | byt b => obtain ⟨t, rfl⟩ : ∃ t, u = _ := r; rfl
 | flt b => obtain ⟨t, rfl⟩ : ∃ t, u = _ := r; rfl
 | ref a => obtain rfl : u = _ := r; rfl
 | ty n => obtain rfl : u = _ := r; rfl
section
variable {X : Cx} {e : Expr} {f : Str} {pos : Pos} {ta : TE} {KC : Addr -> List Value -> Prop}
theorem zko (hcls : ∀ C bm, KC C bm -> ∃ fI, XCls (model X.prog X.w) X.base C bm fI) (hf : ∀ C bm, KC C bm -> zbr (model X.prog X.w) C f none X.base) (he : PE X e ta) (hb : attributeBase e f X.env (eval e X.env) = eval e X.env) : PE X (.Attribute e f pos) (znd KC ta f) := by
 intro pins s σ H Q I h
 refine zj8 hb (thn (he pins s σ H _ I h) fun u s1 ⟨x, H1, I1, rx, a, C, bm, dx, fs, v, fr, ex, kc, hx, hd, hl, q⟩ => ?_)
 subst ex
 obtain rfl : u = Value.ref a := rx
 obtain ⟨fI, XC⟩ := hcls C bm kc
 obtain ⟨nm, qn, N, bs, sn, sub, ab, col, dd1, k0, k1, k2, k3, k5, hC⟩ := XC.obj
 obtain ⟨⟨vs, sl, ga, _⟩, _, _⟩ := I1.hok a _ hx
 obtain ⟨⟨mA, hns, hex, hr, hwi⟩, _, _⟩ := I1.hok dx _ hd
 have hne : dx ≠ a := by
  rintro rfl
  obtain ⟨o, es, ep, g, d, _⟩ := hns
  rw [ga] at g; cases g; cases d
 have hr' := hr f
 rw [hl] at hr'
 cases hm : mA f with
 | none => rw [hm] at hr'; exact hr'.elim
 | some u =>
  rw [hm] at hr'
  have ru : RelV v u := hr'
  obtain ⟨hp, g, d, tk, os⟩ := s1
  exact zgZ PySem.F.excAttr_ValueError XC.tail rfl (I1.bk _ _ hC) (XC.ga.keeps I1.bk) (XC.gh.keeps I1.bk) ((hf C bm kc).keeps I1.bk) ⟨_, ga, rfl, fun _ z => (by cases z), .inr ⟨dx, rfl, hne, hns, hex⟩⟩ hm (zg2 ru) ⟨v, H1, I1.tok _, ru, q⟩
end
end L2
namespace L2
open PySem PySem.Spec
section
variable {prog : Program} {w : World} {A : Around} {E : Value -> Shared -> Prop} {h : Heap} {g : Array GenState} {d : Drawn} {t : Nat} {os : OsState} {R : Result -> Shared -> Prop}
variable {nm q : Str} {C N a : Addr} {bs bm bmB : List Value} {hdct : Bool} {sn : List Str} {sub : List Value} {ab : Bool} {col : Option Bool} {dd : Option Addr} {k0 k1 k2 k3 k5 : Option Value} {newId : String} {o : Obj}
theorem zg3 (T : Tail bmB bm) (ho : bmB.contains (.type "object") = true) (hC : h.get? C = some (excClassObj nm q C N bs bm hdct sn sub ab col dd k0 k1 k2 k3 k5 newId)) (hx : h.get? a = some o) (hc : o.cls = .ref C) (hq : R (.ok (.ret (.ref C))) ⟨h, g, d, t, os⟩) :
  codeAny (model prog w) A (.call (.builtin "getset_descriptor.__get__") ⟨[.builtin "object.__class__", .ref a, .ref C], []⟩) R ⟨h, g, d, t, os⟩ := by
 have hT5 : (⟨h, g, d, t, os⟩ : Shared).TypeIs (.builtin "object.__class__") "getset_descriptor" := PySem.F.typeOf_object_class
 have hcB : (Value.ref C :: bm).contains (.type (".".intercalate ("object.__class__".cutAt '.').dropLast)) = true := by
  rw [PySem.F.owner_object_class, List.contains_cons, T _ _ ho]; rfl
 refine codeAny_call_builtin PySem.F.slot_gs_get.plain PySem.F.entry_gs_get (PySem.F.slot_gs_get.check _ _ _ _ _ _ _ _ hT5 (PySem.F.args_gs_get _ _ _) ?_)
 repeat (any_goals (first | assumption | (with_reducible refine wpAny_loadPart_at hx ?_; rw [hc]) | (with_reducible refine wpAny_isSubtype_exc hC ?_; rw [hcB]) | wp_step))
 refine ⟨Code.quiet_builtin _ (by decide +kernel), codeAny_builtin PySem.F.entry_object_class ?_⟩
 unfold Builtin.«object.__class__»
 repeat (any_goals (first | assumption | (with_reducible refine wpAny_loadPart_at hx ?_; rw [hc]) | wp_step))
theorem zfs {tk : Tok} {Q : PySem.Fin -> Shared -> Prop} (T : Tail bmB bm) (ho : bmB.contains (.type "object") = true) (hC : h.get? C = some (excClassObj nm q C N bs bm hdct sn sub ab col dd k0 k1 k2 k3 k5 newId)) (fc : zbr (model prog w) C "__class__" (some (.builtin "object.__class__")) h) (hx : h.get? a = some o) (hc : o.cls = .ref C) (hq : Q (.done (.ret (.ref C))) ⟨h, g, d, t, os⟩) :
  wpAny (model prog w) A (Builtin.«object.__getattribute__» ⟨[.ref a, .str "__class__" tk], []⟩) Q E ⟨h, g, d, t, os⟩ := by
 have hT5 : (⟨h, g, d, t, os⟩ : Shared).TypeIs (.builtin "object.__class__") "getset_descriptor" := PySem.F.typeOf_object_class
 have f5 := PySem.F.typeOf_object_class
 have f6 := PySem.F.slot_gs_get.lookup
 have f7 := PySem.F.slot_gs_set.lookup
 repeat (any_goals (first | assumption | (with_reducible refine wpAny_loadPart_at hx ?_; rw [hc]) | with_reducible refine fc.at ?_ | wp_step))
 refine zg3 T ho hC hx hc ?_
 repeat (any_goals (first | assumption | wp_step))
theorem zd8 {Q : Option Value -> Shared -> Prop} (FB : ExcAttrFacts "ValueError") (T : Tail VB bm) (hC : h.get? C = some (excClassObj nm q C N bs bm hdct sn sub ab col dd k0 k1 k2 k3 k5 newId)) (fc : zbr (model prog w) C "__class__" (some (.builtin "object.__class__")) h)
  (fg : zbr (model prog w) C "__getattribute__" (some (.builtin "BaseException.__getattribute__")) h) (fa : zbr (model prog w) C "__getattr__" none h) (hx : h.get? a = some o) (hc : o.cls = .ref C) (hq : Q (some (.ref C)) ⟨h, g, d, t + 1, os⟩) :
  wpAny (model prog w) A (getAttr? (.ref a) "__class__") Q E ⟨h, g, d, t, os⟩ := by
 have f3 := FB.ga.bind (.ref a)
 have hx0 : (false && onTheHeap (Value.builtin "BaseException.__getattribute__")) = false := rfl
 have hx2 : (Value.builtin "BaseException.__getattribute__" == Value.builtin "object.__getattribute__") = false := by decide +kernel
 have hx1 : (onTheHeap (Value.ref C) && Value.builtin "BaseException.__getattribute__" == Value.builtin "object.__getattribute__") = false := by rw [hx2]; rfl
 unfold getAttr? getAttrBy?
 refine wpAny_bind (wpAny_mkText (wpAny_bind (wpAny_attempt ?_)))
 repeat (any_goals (first | assumption | (with_reducible refine wpAny_loadPart_at hx ?_; rw [hc]) | with_reducible refine fg.at ?_ | with_reducible refine fa.at ?_ | wp_step))
 refine codeAny_call_builtin FB.ga.plain PySem.F.entry_bexc_ga (zfr T rfl hC hx hc (zfs T rfl hC fc hx hc ?_))
 repeat (any_goals (first | assumption | wp_step))
end
end L2
namespace L2
open PySem PySem.Spec PyProof.Rows
section
variable {prog : Program} {w : World} {A : Around} {E : Value -> Shared -> Prop} {h : Heap} {g : Array GenState} {d : Drawn} {t : Nat} {os : OsState}
variable {nm q nm' q' : Str} {C N D N' a : Addr} {bs bm bs' bm' : List Value} {hdct hdct' : Bool} {sn sn' : List Str} {sub sub' : List Value} {ab ab' : Bool} {col col' : Option Bool} {dd dd' : Option Addr} {k0 k1 k2 k3 k5 j0 j1 j2 j3 j5 : Option Value} {newId newId' : String} {o : Obj} {b : Bool}
theorem zkp {Q : Value -> Shared -> Prop} (T : Tail VB bm) (hC : h.get? C = some (excClassObj nm q C N bs bm hdct sn sub ab col dd k0 k1 k2 k3 k5 newId)) (hD : h.get? D = some (excClassObj nm' q' D N' bs' bm' hdct' sn' sub' ab' col' dd' j0 j1 j2 j3 j5 newId'))
  (fc : zbr (model prog w) C "__class__" (some (.builtin "object.__class__")) h) (fg : zbr (model prog w) C "__getattribute__" (some (.builtin "BaseException.__getattribute__")) h) (fa : zbr (model prog w) C "__getattr__" none h)
  (hx : h.get? a = some o) (hc : o.cls = .ref C) (hb : (Value.ref C :: bm).contains (.ref D) = b) (hq : ∀ tk, Q (.bool b) ⟨h, g, d, tk, os⟩) : wpAny (model prog w) A (call (.builtin "isinstance") [.ref a, .ref D]) Q E ⟨h, g, d, t, os⟩ := by
 have hT : (⟨h, g, d, t, os⟩ : Shared).TypeIs (.ref D) "type" := ⟨_, hD, rfl⟩
 have f2 := tc_sub
 refine call_isinstance_of ?_ (fun z => nomatch z)
 unfold Builtin.«isinstance.nested»
 refine wpAny_bind ?_
 unfold typeOf
 refine wpAny_bind (wpAny_loadPart_at hx (wpAny_pure ?_))
 rw [hc]
 by_cases e : C = D
 ·subst e
  have hb1 : b = true := by rw [← hb]; simp
  subst hb1
  rw [if_pos (by simp)]
  exact wpAny_bind (wpAny_rule (wpAny_pure (hq t)))
 ·rw [if_neg (by simp [e])]
  refine wpAny_bind (wpAny_bind (wpAny_loadPart_at hD (wpAny_pure ?_)))
  rw [if_pos (show (Value.type "type" == Value.type "type") = true by decide)]
  k_delta "plainIsInstance"
  unfold isType isInstance
  repeat (first | (with_reducible refine wpAny_loadPart_at hx ?_; rw [hc]) | with_reducible refine wpAny_loadPart_at hD ?_ | with_reducible refine wpAny_loadPart_at hC ?_ | (with_reducible refine wpAny_isSubtype_exc hC ?_; rw [hb]) | wp_step)
  cases b with
  | true => wp_walk; exact hq t
  | false =>
   rw [if_neg (by decide)]
   refine wpAny_bind (zd8 PySem.F.excAttr_ValueError T hC fc fg fa hx hc ?_)
   repeat (first | with_reducible refine wpAny_loadPart_at hC ?_ | (with_reducible refine wpAny_isSubtype_exc hC ?_; rw [hb]) | wp_step)
   exact hq _
theorem zl7 {Q : Value -> Shared -> Prop} {X : String} (T : Tail VB bm) (hC : h.get? C = some (excClassObj nm q C N bs bm hdct sn sub ab col dd k0 k1 k2 k3 k5 newId)) (hX : typeOf (.type X) = pure (.type "type"))
  (fc : zbr (model prog w) C "__class__" (some (.builtin "object.__class__")) h) (fg : zbr (model prog w) C "__getattribute__" (some (.builtin "BaseException.__getattribute__")) h) (fa : zbr (model prog w) C "__getattr__" none h)
  (hx : h.get? a = some o) (hc : o.cls = .ref C) (hb : (Value.ref C :: bm).contains (.type X) = b) (hq : ∀ tk, Q (.bool b) ⟨h, g, d, tk, os⟩) : wpAny (model prog w) A (call (.builtin "isinstance") [.ref a, .type X]) Q E ⟨h, g, d, t, os⟩ := by
 refine call_isinstance_of ?_ (fun z => nomatch z)
 unfold Builtin.«isinstance.nested»
 refine wpAny_bind ?_
 have ty : ∀ {M : Model} {A : Around} {Q : Value -> Shared -> Prop} {E : Value -> Shared -> Prop}, Q (.ref C) ⟨h, g, d, t, os⟩ -> wpAny M A (typeOf (.ref a)) Q E ⟨h, g, d, t, os⟩ := fun q => by
  unfold typeOf
  refine wpAny_bind (wpAny_loadPart_at hx (wpAny_pure ?_))
  rw [hc]; exact q
 refine ty ?_
 rw [if_neg (by simp)]
 refine wpAny_bind (wpAny_of_eq hX ?_)
 rw [if_pos (show (Value.type "type" == Value.type "type") = true by decide)]
 k_delta "plainIsInstance"
 unfold isType isInstance
 repeat (first | (with_reducible refine wpAny_loadPart_at hx ?_; rw [hc]) | with_reducible refine wpAny_loadPart_at hC ?_ | (with_reducible refine wpAny_isSubtype_exc hC ?_; rw [hb]) | wp_step)
 cases b with
 | true => wp_walk; exact hq t
 | false =>
  rw [if_neg (by decide)]
  refine wpAny_bind (zd8 PySem.F.excAttr_ValueError T hC fc fg fa hx hc ?_)
  repeat (first | with_reducible refine wpAny_loadPart_at hC ?_ | (with_reducible refine wpAny_isSubtype_exc hC ?_; rw [hb]) | wp_step)
  exact hq _
end
def rIsX (KC : Addr -> List Value -> Prop) : List V -> Hp -> VK -> Prop := fun xs H Q => ∃ a C dd bm fr c b, xs = [.ref a, c] /\ KC C bm /\ H a = some (.ext (XO fr a C dd)) /\
 ((∃ D bm', c = .ref D /\ KC D bm' /\ (Value.ref C :: bm).contains (.ref D) = b) ∨ ∃ T, c = .ty T /\ typeOf (.type T) = pure (.type "type") /\ (Value.ref C :: bm).contains (.type T) = b) /\ Q (.bl b) H
theorem zeV {X : Cx} {KC : Addr -> List Value -> Prop} (hcls : ∀ C bm, KC C bm -> ∃ fI, XCls (model X.prog X.w) X.base C bm fI) : zdE X (.builtin "isinstance") (rIsX KC) := by
 rintro pins s σ H xs us Q I r ⟨a, C, dd, bm, fr, c, b, rfl, kc, hx, hD, q⟩
 cases r with
 | cons ra r =>
 cases r with
 | cons rc r =>
 cases r
 have ra' : _ = Value.ref a := ra
 subst ra'
 obtain ⟨fI, XC⟩ := hcls C bm kc
 obtain ⟨nm, qn, N, bs, sn, sub, ab, col, dd1, k0, k1, k2, k3, k5, hC⟩ := XC.obj
 obtain ⟨⟨vs, sl, ga, _⟩, _, _⟩ := I.hok a _ hx
 obtain ⟨hp, g, d, tk, os⟩ := s
 rcases hD with ⟨D, bm', rfl, kd, hb⟩ | ⟨T, rfl, hT, hb⟩
 ·have rc' : _ = Value.ref D := rc
  subst rc'
  obtain ⟨fI', XD'⟩ := hcls D bm' kd
  obtain ⟨nm', qn', N', bs', sn', sub', ab', col', dd2, j0, j1, j2, j3, j5, hD'⟩ := XD'.obj
  exact zkp XC.tail (I.bk _ _ hC) (I.bk _ _ hD') (XC.cl.keeps I.bk) (XC.ga.keeps I.bk) (XC.gh.keeps I.bk) ga rfl hb fun tk' => ⟨.bl b, H, I.tok tk', rfl, q⟩
 ·have rc' : _ = Value.type T := rc
  subst rc'
  exact zl7 XC.tail (I.bk _ _ hC) hT (XC.cl.keeps I.bk) (XC.ga.keeps I.bk) (XC.gh.keeps I.bk) ga rfl hb fun tk' => ⟨.bl b, H, I.tok tk', rfl, q⟩
end L2
namespace L2
open PySem PySem.Spec PyProof.Rows
theorem zft {CX : CXT} {P : Program} {w : World} {K : PySem.W.Frag} {mg : Str -> Option Value} {base : Heap} {N : List Str} {qual : Str} {scope : Scope} {f : Addr} {cd : Value} {A : Around} {outer : List Env} {s : Shared} {H : Hp} {E : XK} :
  PassesOwn (model P w) (cxOf CX P w K mg base N qual scope f cd A outer s H E).A (cxOf CX P w K mg base N qual scope f cd A outer s H E).env (cxOf CX P w K mg base N qual scope f cd A outer s H E).xe :=
 PassesOwn.leaving (Q₁ := fun e s'' => CX outer H s E e s'')
def zeW (KC : Addr -> List Value -> Prop) : Sp := fun vs H Q _ => ∃ a C dd bm x, vs = [.ref a, .str x] /\ KC C bm /\ H a = some (.ext (XO true a C dd)) /\ Q .non H
def zf4 (KC : Addr -> List Value -> Prop) (fs : List Str) : Sp := fun vs H Q _ => ∃ a C bm us, vs = .ref a :: us /\ us.length = fs.length /\ KC C bm /\ H a = some (.ext (XO true a C none)) /\ (∀ u ∈ us, ∃ y, FmtV u y /\ y.length <= 4000) /\
 ∀ dx, H dx = none -> dx ≠ a -> Q .non (upd (upd H a (.ext (XO true a C (some dx)))) dx (.ext (XD dx (fs.zip us))))
end L2
namespace L2
open PySem PySem.Spec PyProof.Rows
def zcx (nm : Str) : List Str := if nm = "NoWishes" then ["part", "number"] else if nm = "NoAim" then ["part"] else if nm = "NoText" then ["row"] else []
def zi6 (K : PySem.W.Frag) (nm : Str) : Option Addr := match PySem.W.nsIn K mainGlobals nm with | some (some (.ref C)) => some C | _ => none
def NmAt (K : PySem.W.Frag) (nm : Str) (C : Addr) : Prop := ∃ o cd, K.lookup C = some o /\ o.data = .cls cd /\ cd.name = nm
structure ClsK (K : PySem.W.Frag) (nm : Str) (C : Addr) (bm : List Value) : Prop where
 ad : zi6 K nm = some C
 nmd : NmAt K nm C
 up : nm = "DealError" /\ bm = VB ∨ nm ≠ "DealError" /\ ∃ D, zi6 K "DealError" = some D /\ bm = .ref D :: VB /\ NmAt K "DealError" D
 cls : ∀ (M : Model) (h : Heap), K.In h -> ∃ fI, XCls M h C bm fI
 fld : ∀ (M : Model) (h : Heap), K.In h -> ∀ f ∈ (["part", "number", "row"] : List Str), zbr M C f none h
def KC (K : PySem.W.Frag) : Addr -> List Value -> Prop := fun C bm => ∃ nm, ClsK K nm C bm
section
variable {K : PySem.W.Frag} {nm x : Str} {C D : Addr} {bm bm' : List Value}
theorem NmAt.ne (c : NmAt K nm C) (d : NmAt K x D) (h : x ≠ nm) : C ≠ D := fun e => by
 subst e
 obtain ⟨o, cd, h1, h2, h3⟩ := c
 obtain ⟨o', cd', g1, g2, g3⟩ := d
 rw [h1] at g1; cases g1
 rw [h2] at g2; cases g2
 exact h (g3.symm.trans h3)
theorem ClsK.has (c : ClsK K nm C bm) (d : ClsK K x D bm') : (Value.ref C :: bm).contains (.ref D) = (decide (x = nm) || decide (x = "DealError")) := by
 by_cases e : x = nm
 ·subst e
  have := c.ad.symm.trans d.ad
  cases this
  simp
 ·have ne := c.nmd.ne d.nmd e
  rw [decide_eq_false e, Bool.false_or]
  have h0 : (Value.ref D == Value.ref C) = false := by simp [Ne.symm ne]
  rw [List.contains_cons, h0, Bool.false_or]
  by_cases e2 : x = "DealError"
  ·subst e2
   rcases c.up with ⟨z, _⟩ | ⟨_, D', g, rfl, _⟩
   ·exact absurd z.symm e
   ·have := g.symm.trans d.ad
    cases this
    simp
  ·rw [decide_eq_false e2]
   rcases c.up with ⟨_, rfl⟩ | ⟨_, D', g, rfl, n⟩
   ·rfl
   ·have ne2 := n.ne d.nmd e2
    have h1 : (Value.ref D == Value.ref D') = false := by simp [Ne.symm ne2]
    rw [List.contains_cons, h1, Bool.false_or]
    rfl
theorem ClsK.ty (c : ClsK K nm C bm) (T : String) : (Value.ref C :: bm).contains (.type T) = VB.contains (.type T) := by
 rcases c.up with ⟨_, rfl⟩ | ⟨_, D', g, rfl, n⟩
 ·rfl
 ·rfl
end
section
variable {X : Cx} {e : Expr} {st : Stmt} {sts : List Stmt} {t : TE} {ts : TS}
theorem PE.kin (h : X.K.In X.base -> PE X e t) : PE X e t := fun pins s σ H Q I q => h I.ok.mod.kin pins s σ H Q I q
theorem PS.kin (h : X.K.In X.base -> PS X st ts) : PS X st ts := fun pins s σ H Q I q => h I.ok.mod.kin pins s σ H Q I q
theorem PSs.kin (h : X.K.In X.base -> PSs X sts ts) : PSs X sts ts := fun pins s σ H Q I q => h I.ok.mod.kin pins s σ H Q I q
theorem zfu (k : X.K.In X.base) : ∀ C bm, KC X.K C bm -> ∃ fI, XCls (model X.prog X.w) X.base C bm fI := fun _ _ ⟨_, c⟩ => c.cls _ _ k
end
def zl8 (nm : Str) (us : List V) : Prop := (zcx nm = [] /\ ∃ x, us = [.str x]) ∨ (zcx nm ≠ [] /\ us.length = (zcx nm).length /\ ∀ u ∈ us, ∃ y, FmtV u y /\ y.length <= 4000)
def zl9 (nm : Str) (C a : Addr) (us : List V) (H : Hp) (dd : Option Addr) (H' : Hp) : Prop :=
 (zcx nm = [] /\ dd = none /\ H' = H) ∨ (zcx nm ≠ [] /\ us.length = (zcx nm).length /\ ∃ dx, dd = some dx /\ H dx = none /\ dx ≠ a /\ H' = upd (upd H a (.ext (XO true a C (some dx)))) dx (.ext (XD dx ((zcx nm).zip us))))
def zjR (K : PySem.W.Frag) (nm : Str) (C : Addr) (sp : Sp) : Prop := ∀ a us H Q, H a = some (.ext (XO true a C none)) -> zl8 nm us -> (∀ dd H', zl9 nm C a us H dd H' -> Q .non H') -> sp (.ref a :: us) H Q E0
def MkX (P : Program) (w : World) (K : PySem.W.Frag) (mg : Str -> Option Value) (base : Heap) (nm : Str) (k : Nat) : Prop :=
 ∃ C bm f fd ps sp, mg nm = some (.ref C) /\ PySem.W.keepIn K (.ref C) = true /\ ClsK K nm C bm /\ (∀ (M : Model) (h : Heap), K.In h -> XCls M h C bm f) /\ FnOk P w K mg base CX0 k f fd ps sp /\ zc9 K fd ps [] /\ zjR K nm C sp
theorem zi7 {K : PySem.W.Frag} {nm : Str} {C : Addr} {bm : List Value} (c : ClsK K nm C bm) (hf : zcx nm ≠ []) : zjR K nm C (zf4 (KC K) (zcx nm)) := fun a us H Q h ar q => by
 rcases ar with ⟨z, _⟩ | ⟨_, hl, hu⟩
 ·exact absurd z hf
 ·exact ⟨a, C, bm, us, rfl, hl, ⟨nm, c⟩, h, hu, fun dx hd hne => q (some dx) _ (.inr ⟨hf, hl, dx, rfl, hd, hne, rfl⟩)⟩
end L2
namespace DL
open PySem PySem.Spec L2
open PyProof.Rows hiding St
abbrev D := PyData
abbrev XW := V -> St -> Hp -> Prop
abbrev KX0 : XW := fun _ _ _ => False
def XFs (G : Hp) (dd : Option Addr) (fs : List Str) (vs : List V) : Prop := match dd with
 | none => fs = [] /\ vs = []
 | some dx => fs.length = vs.length /\ G dx = some (.ext (XD dx (fs.zip vs)))
theorem XFs.mono {G G1 : Hp} {dd : Option Addr} {fs : List Str} {vs : List V} (e : Same G G1) (h : XFs G dd fs vs) : XFs G1 dd fs vs := by
 cases dd with
 | none => exact h
 | some dx => exact ⟨h.1, e _ _ h.2⟩
def kD : Key -> D
 | .inl i => .int i
 | .inr x => .str x
mutual
inductive Rep (K : PySem.W.Frag) (G : Hp) : V -> D -> Prop where
 | non : Rep K G .non .none
 | bl (b : Bool) : Rep K G (.bl b) (.bool b)
 | int (i : Int) : Rep K G (.int i) (.int i)
 | str (x : Str) : Rep K G (.str x) (.str x)
 | lst {a : Addr} {vs : List V} {ds : List D} (h : SqL K G a vs) (r : Reps K G vs ds) : Rep K G (.ref a) (.list ds)
 | tup {a : Addr} {vs : List V} {ds : List D} (h : SqT K G a vs) (r : Reps K G vs ds) : Rep K G (.ref a) (.tuple ds)
 | dic {a : Addr} (h : G a = some (.dK [])) : Rep K G (.ref a) (.dict [])
 | exc {a C : Addr} {dd : Option Addr} {bm : List Value} {nm : Str} {vs : List V} {ds : List D} (c : ClsK K nm C bm) (h : G a = some (.ext (XO false a C dd))) (hd : XFs G dd (zcx nm) vs) (r : Reps K G vs ds) : Rep K G (.ref a) (.dict [(.none, .tuple [.str nm, .list ds])])
 | dct {a : Addr} {ks : List Key} {vs : List V} {ds : List D} {kvs : List (D × D)} (e : kvs = (ks.map kD).zip ds) (hne : ks ≠ []) (hl : ks.length = ds.length) (h : G a = some (.dK (ks.zip vs))) (r : Reps K G vs ds) : Rep K G (.ref a) (.dict kvs)
inductive Reps (K : PySem.W.Frag) (G : Hp) : List V -> List D -> Prop where
 | nil : Reps K G [] []
 | cons {v : V} {d : D} {vs : List V} {ds : List D} (h : Rep K G v d) (t : Reps K G vs ds) : Reps K G (v :: vs) (d :: ds)
end
variable {K : PySem.W.Frag} {B G0 G G1 G2 H H1 H2 : Hp}
theorem zdG {a : Addr} {xs : List V} (e : Same G G1) (h : SqT K G a xs) : SqT K G1 a xs := by
 rcases h with (h | ⟨o, h⟩) | h
 ·exact .inl (.inl (e _ _ h))
 ·exact .inl (.inr ⟨o, e _ _ h⟩)
 ·exact .inr h
mutual
theorem Rep.mono (e : Same G G1) : ∀ {v : V} {d : D}, Rep K G v d -> Rep K G1 v d
 | _, _, .non => .non
 | _, _, .bl b => .bl b
 | _, _, .int i => .int i
 | _, _, .str x => .str x
 | _, _, .lst h r => .lst (e.seq h) (Reps.mono e r)
 | _, _, .tup h r => .tup (zdG e h) (Reps.mono e r)
 | _, _, .dic h => .dic (e _ _ h)
 | _, _, .exc c h hd r => .exc c (e _ _ h) (hd.mono e) (Reps.mono e r)
 | _, _, .dct z n l h r => .dct z n l (e _ _ h) (Reps.mono e r)
theorem Reps.mono (e : Same G G1) : ∀ {vs : List V} {ds : List D}, Reps K G vs ds -> Reps K G1 vs ds
 | _, _, .nil => .nil
 | _, _, .cons h t => .cons (Rep.mono e h) (Reps.mono e t)
end
theorem zhK {ks : List Key} {ds : List D} {d : D} {r : List (D × D)} (e : (.none, d) :: r = (ks.map kD).zip ds) : False := by
 cases ks with
 | nil => cases e
 | cons k ks =>
  cases ds with
  | nil => cases e
  | cons d ds =>
   rw [List.map_cons, List.zip_cons_cons] at e
   injection e with e1 _
   injection e1 with e2 _
   cases k <;> cases e2
section
variable {v : V} {vs ws : List V} {ds es : List D}
theorem Rep.bl_inv {b : Bool} (h : Rep K G v (.bool b)) : v = .bl b := by cases h; rfl
theorem Rep.int_inv {i : Int} (h : Rep K G v (.int i)) : v = .int i := by cases h; rfl
theorem Rep.str_inv {x : Str} (h : Rep K G v (.str x)) : v = .str x := by cases h; rfl
theorem Rep.lst_inv (h : Rep K G v (.list ds)) : ∃ a vs, v = .ref a /\ SqL K G a vs /\ Reps K G vs ds := by
 cases h with
 | lst h r => exact ⟨_, _, rfl, h, r⟩
theorem Rep.tup_inv (h : Rep K G v (.tuple ds)) : ∃ a vs, v = .ref a /\ SqT K G a vs /\ Reps K G vs ds := by
 cases h with
 | tup h r => exact ⟨_, _, rfl, h, r⟩
theorem Rep.exc_inv {d : D} (h : Rep K G v (.dict [(.none, d)])) : ∃ a C dd bm nm vs ds, v = .ref a /\ d = .tuple [.str nm, .list ds] /\ ClsK K nm C bm /\ G a = some (.ext (XO false a C dd)) /\ XFs G dd (zcx nm) vs /\ Reps K G vs ds := by
 cases h with
 | exc c h hd r => exact ⟨_, _, _, _, _, _, _, rfl, rfl, c, h, hd, r⟩
 | dct e _ _ _ _ => exact (zhK e).elim
theorem Reps.length : ∀ {vs : List V} {ds : List D}, Reps K G vs ds -> vs.length = ds.length
 | _, _, .nil => rfl
 | _, _, .cons _ t => by rw [List.length_cons, List.length_cons, Reps.length t]
theorem Reps.get : ∀ {vs : List V} {ds : List D} {i : Nat} {d : D}, Reps K G vs ds -> ds[i]? = some d -> ∃ v, vs[i]? = some v /\ Rep K G v d
 | _, _, _, _, .nil, e => by simp at e
 | _, _, 0, _, .cons h _, e => by simp at e; subst e; exact ⟨_, rfl, h⟩
 | _, _, i + 1, d, .cons _ t, e => by
  obtain ⟨u, h1, h2⟩ := Reps.get (i := i) (d := d) t (by simpa using e)
  exact ⟨u, by simpa using h1, h2⟩
theorem Reps.append : ∀ {vs ws : List V} {ds es : List D}, Reps K G vs ds -> Reps K G ws es -> Reps K G (vs ++ ws) (ds ++ es)
 | _, _, _, _, .nil, s => s
 | _, _, _, _, .cons r t, s => .cons r (Reps.append t s)
theorem Reps.take : ∀ {vs : List V} {ds : List D} (n : Nat), Reps K G vs ds -> Reps K G (vs.take n) (ds.take n)
 | _, _, 0, _ => by rw [List.take_zero, List.take_zero]; exact .nil
 | _, _, _ + 1, .nil => .nil
 | _, _, n + 1, .cons r t => .cons r (Reps.take n t)
theorem Reps.drop : ∀ {vs : List V} {ds : List D} (n : Nat), Reps K G vs ds -> Reps K G (vs.drop n) (ds.drop n)
 | _, _, 0, r => r
 | _, _, _ + 1, .nil => .nil
 | _, _, n + 1, .cons _ t => Reps.drop n t
theorem Reps.reverse : ∀ {vs : List V} {ds : List D}, Reps K G vs ds -> Reps K G vs.reverse ds.reverse
 | _, _, .nil => .nil
 | _, _, .cons r t => by rw [List.reverse_cons, List.reverse_cons]; exact Reps.append (Reps.reverse t) (.cons r .nil)
theorem Reps.ints : ∀ (ns : List Int), Reps K G (ns.map V.int) (ns.map PyData.int)
 | [] => .nil
 | n :: ns => .cons (.int n) (Reps.ints ns)
end
inductive MO where
 | l (vs : List V) | k (kvs : List (Key × V)) | t (kvs : List (List Key × V))
def MO.ho : MO -> HO
 | .l vs => .lst vs
 | .k kvs => .dK kvs
 | .t kvs => .dT kvs
structure Ext (G H G' H' : Hp) : Prop where
 h : Same H H'
 g : Same G G'
 gh : Same G' H'
 np : ∀ a (u : MO), H a = some u.ho -> G a = none -> G' a = none
theorem Ext.refl (e : Same G H) : Ext G H G H := ⟨.refl _, .refl _, e, fun _ _ _ q => q⟩
theorem Ext.trans {G' H' G'' H'' : Hp} (a : Ext G H G' H') (b : Ext G' H' G'' H'') : Ext G H G'' H'' :=
 ⟨a.h.trans b.h, a.g.trans b.g, b.gh, fun x o e q => b.np x o (a.h x _ e) (a.np x o e q)⟩
theorem za1 {p : Addr} {o : HO} (h : H p = none) : Same H (upd H p o) := fun b u e => by rw [zaG (za4 e h)]; exact e
theorem Ext.new {p : Addr} {o : HO} (e : Same G H) (h : H p = none) : Ext G H (upd G p o) (upd H p o) := by
 have hg : G p = none := e.free h
 refine ⟨za1 h, za1 hg, fun b u q => ?_, fun a u q n => ?_⟩
 ·by_cases z : b = p
  ·subst z; rw [zaz] at q ⊢; exact q
  ·rw [zaG z] at q ⊢; exact e b u q
 ·rw [zaG (za4 q h)]; exact n
theorem Ext.hid {p : Addr} {o : HO} (e : Same G H) (h : H p = none) : Ext G H G (upd H p o) :=
 ⟨za1 h, .refl _, e.trans (za1 h), fun _ _ _ n => n⟩
inductive Sl where
 | pub (d : D) | own (ds : List D)
abbrev DEnv := List (Option Sl)
structure EOk (K : PySem.W.Frag) (B G0 G H : Hp) (σ : St) (ρ : DEnv) : Prop where
 bh : Same B H
 gh : Same G H
 g0 : Same G0 G
 np : ∀ a (u : MO), B a = some u.ho -> G0 a = none -> G a = none
 len : ρ.length = σ.length
 pub : ∀ (i : Nat) d, ρ[i]? = some (some (.pub d)) -> ∃ v, σ[i]? = some (some v) /\ Rep K G v d
 own : ∀ (i : Nat) ds, ρ[i]? = some (some (.own ds)) -> ∃ a vs, σ[i]? = some (some (.ref a)) /\ B a = none /\ G a = none /\ H a = some (.lst vs) /\ Reps K G vs ds
 sep : ∀ (i j : Nat) a ds es, ρ[i]? = some (some (.own ds)) -> ρ[j]? = some (some (.own es)) -> σ[i]? = some (some (.ref a)) -> σ[j]? = some (some (.ref a)) -> i = j
theorem EOk.ext {G' H' : Hp} {σ : St} {ρ : DEnv} (k : EOk K B G0 G H σ ρ) (e : Ext G H G' H') : EOk K B G0 G' H' σ ρ where
 bh := k.bh.trans e.h
 gh := e.gh
 g0 := k.g0.trans e.g
 np := fun a o q n => e.np a o (k.bh a _ q) (k.np a o q n)
 len := k.len
 pub := fun i d q => let ⟨v, h1, h2⟩ := k.pub i d q; ⟨v, h1, h2.mono e.g⟩
 own := fun i ds q => let ⟨a, vs, h1, h2, h3, h4, h5⟩ := k.own i ds q; ⟨a, vs, h1, h2, e.np a (.l _) h4 h3, e.h a _ h4, h5.mono e.g⟩
 sep := k.sep
theorem EOk.publish {σ : St} {ρ : DEnv} {i : Nat} {ds : List D} (k : EOk K B G0 G H σ ρ) (h : ρ[i]? = some (some (.own ds))) :
  ∃ a G', σ[i]? = some (some (.ref a)) /\ Same G G' /\ Rep K G' (.ref a) (.list ds) /\ EOk K B G0 G' H σ (ρ.set i (some (.pub (.list ds)))) := by
 obtain ⟨a, vs, h1, h2, h3, h4, h5⟩ := k.own i ds h
 have sg : Same G (upd G a (.lst vs)) := za1 h3
 have hr : Rep K (upd G a (.lst vs)) (.ref a) (.list ds) := .lst (SqL.of zaz) (h5.mono sg)
 refine ⟨a, upd G a (.lst vs), h1, sg, hr, ⟨k.bh, fun b u q => ?_, k.g0.trans sg, fun b o q n => ?_, by rw [List.length_set]; exact k.len, fun j d q => ?_, fun j es q => ?_, fun j l c es fs q1 q2 s1 s2 => ?_⟩⟩
 ·by_cases z : b = a
  ·subst z; rw [zaz] at q; cases q; exact h4
  ·rw [zaG z] at q; exact k.gh b u q
 ·have z : b ≠ a := fun z => by subst z; rw [h2] at q; cases q
  rw [zaG z]; exact k.np b o q n
 ·by_cases z : i = j
  ·subst z
   have hl : i < ρ.length := (List.getElem?_eq_some_iff.mp h).1
   rw [List.getElem?_set_self hl] at q
   cases q
   exact ⟨.ref a, h1, hr⟩
  ·rw [List.getElem?_set_ne z] at q
   obtain ⟨v, g1, g2⟩ := k.pub j d q
   exact ⟨v, g1, g2.mono sg⟩
 ·by_cases z : i = j
  ·subst z
   have hl : i < ρ.length := (List.getElem?_eq_some_iff.mp h).1
   rw [List.getElem?_set_self hl] at q
   cases q
  ·rw [List.getElem?_set_ne z] at q
   obtain ⟨b, ws, g1, g2, g3, g4, g5⟩ := k.own j es q
   have zb : b ≠ a := fun e => z (k.sep i j a ds es h q h1 (by rw [← e]; exact g1))
   exact ⟨b, ws, g1, g2, by rw [zaG zb]; exact g3, g4, g5.mono sg⟩
 ·have nz : ∀ {m : Nat} {ts : List D}, (ρ.set i (some (Sl.pub (.list ds))))[m]? = some (some (.own ts)) -> ρ[m]? = some (some (.own ts)) := fun {m ts} q => by
   by_cases z : i = m
   ·subst z
    have hl : i < ρ.length := (List.getElem?_eq_some_iff.mp h).1
    rw [List.getElem?_set_self hl] at q
    cases q
   ·rw [List.getElem?_set_ne z] at q; exact q
  exact k.sep j l c es fs (nz q1) (nz q2) s1 s2
end DL
namespace DL
open PySem PySem.Spec L2
open PyProof.Rows hiding St
inductive Res (α : Type) where
 | ok (a : α) (ρ : DEnv) | bad
abbrev M (α : Type) := DEnv -> Res α
def zaf {α : Type} (a : α) : M α := fun ρ => .ok a ρ
def mOpt {α : Type} (o : Option α) : M α := fun ρ => match o with | some a => .ok a ρ | none => .bad
def zam {α β : Type} (f : M α) (k : α -> M β) : M β := fun ρ => match f ρ with | .ok a ρ' => k a ρ' | .bad => .bad
section
variable (K : PySem.W.Frag) (B G0 : Hp)
def aft {α γ : Type} (R : Hp -> γ -> α -> Prop) (r : Res α) (G : Hp) (σ : St) (Q : γ -> Hp -> Prop) : Prop :=
 match r with
 | .ok d ρ' => ∀ v G' H', EOk K B G0 G' H' σ ρ' -> Same G G' -> R G' v d -> Q v H'
 | .bad => False
def tM {α γ : Type} (R : Hp -> γ -> α -> Prop) (f : M α) : St -> Hp -> (γ -> Hp -> Prop) -> Prop := fun σ H Q =>
 ∃ G ρ, EOk K B G0 G H σ ρ /\ aft K B G0 R (f ρ) G σ Q
abbrev tD (f : M D) : TE := tM K B G0 (Rep K) f
abbrev tDs (f : M (List D)) : TA := tM K B G0 (Reps K) f
abbrev tBo (f : M Bool) : TT := tM K B G0 (fun _ b c => b = c) f
abbrev tOi (f : M (Option Int)) : TO := tM K B G0 (fun _ b c => b = c) f
end
section
variable {K : PySem.W.Frag} {B G0 : Hp} {α β γ δ ε : Type} {R : Hp -> γ -> α -> Prop} {S : Hp -> δ -> β -> Prop} {T : Hp -> ε -> α -> Prop} {σ : St} {H : Hp}
theorem aft.mono {r : Res α} {G G' : Hp} {Q : γ -> Hp -> Prop} (e : Same G G') (h : aft K B G0 R r G σ Q) : aft K B G0 R r G' σ Q := by
 cases r with
 | ok d ρ => exact fun v G2 H2 k s q => h v G2 H2 k (e.trans s) q
 | bad => exact h
theorem aft.done {d : α} {ρ : DEnv} {G G' H H' : Hp} {v : γ} {Q : γ -> Hp -> Prop} (h : aft K B G0 R (.ok d ρ) G σ Q) (k : EOk K B G0 G H σ ρ) (e : Ext G H G' H') (r : R G' v d) : Q v H' :=
 h v G' H' (k.ext e) e.g r
theorem aft.now {d : α} {ρ : DEnv} {G H : Hp} {v : γ} {Q : γ -> Hp -> Prop} (h : aft K B G0 R (.ok d ρ) G σ Q) (k : EOk K B G0 G H σ ρ) (r : R G v d) : Q v H :=
 h v G H k (.refl _) r
theorem aft.opt {o : Option α} {ρ : DEnv} {G : Hp} {Q : γ -> Hp -> Prop} (h : aft K B G0 R (mOpt o ρ) G σ Q) : ∃ d, o = some d /\ aft K B G0 R (.ok d ρ) G σ Q := by
 cases o with
 | none => exact h.elim
 | some d => exact ⟨d, rfl, h⟩
theorem tM.bind {f : M α} {k : α -> M β} {Q : δ -> Hp -> Prop} (h : tM K B G0 S (zam f k) σ H Q) :
  tM K B G0 R f σ H (fun v H1 => ∃ G ρ d, EOk K B G0 G H1 σ ρ /\ R G v d /\ aft K B G0 S (k d ρ) G σ Q) := by
 obtain ⟨G, ρ, e, a⟩ := h
 refine ⟨G, ρ, e, ?_⟩
 unfold zam at a
 cases q : f ρ with
 | bad => rw [q] at a; exact a.elim
 | ok d ρ1 =>
  rw [q] at a
  exact fun v G' H' e' s r => ⟨G', ρ1, d, e', r, aft.mono s a⟩
theorem tM.bind2 {α' γ' : Type} {R' : Hp -> γ' -> α' -> Prop} {f : M α} {g : α -> M α'} {k : α -> α' -> M β} {Q : δ -> Hp -> Prop} (mo : ∀ G G' v d, Same G G' -> R G v d -> R G' v d)
  (h : tM K B G0 S (zam f fun x => zam (g x) fun y => k x y) σ H Q) :
  tM K B G0 R f σ H (fun v H1 => ∃ x, tM K B G0 R' (g x) σ H1 fun u H2 => ∃ G ρ y, EOk K B G0 G H2 σ ρ /\ R G v x /\ R' G u y /\ aft K B G0 S (k x y ρ) G σ Q) := by
 obtain ⟨G, ρ, e, a⟩ := tM.bind (R := R) h
 refine ⟨G, ρ, e, ?_⟩
 cases q : f ρ with
 | bad => rw [q] at a; exact a.elim
 | ok d ρ1 =>
  rw [q] at a
  intro v G' H' e' s r
  obtain ⟨G2, ρ2, d2, e2, r2, a2⟩ := a v G' H' e' s r
  refine ⟨d2, G2, ρ2, e2, ?_⟩
  unfold zam at a2
  cases q2 : g d2 ρ2 with
  | bad => rw [q2] at a2; exact a2.elim
  | ok d3 ρ3 =>
   rw [q2] at a2
   exact fun u G3 H3 e3 s3 r3 => ⟨G3, ρ3, d3, e3, mo _ _ _ _ s3 r2, r3, aft.mono s3 a2⟩
end
theorem zhL {K : PySem.W.Frag} (G G' : Hp) (v : V) (d : D) (e : Same G G') (r : Rep K G v d) : Rep K G' v d := r.mono e
theorem tM.two {K : PySem.W.Frag} {B G0 : Hp} {β δ : Type} {S : Hp -> δ -> β -> Prop} {σ : St} {H : Hp} {f g : M D} {k : D -> D -> M β} {Q : δ -> Hp -> Prop} {P : V -> V -> Hp -> Prop}
  (h : tM K B G0 S (zam f fun x => zam g fun y => k x y) σ H Q)
  (i : ∀ v u H2 G ρ x y, EOk K B G0 G H2 σ ρ -> Rep K G v x -> Rep K G u y -> aft K B G0 S (k x y ρ) G σ Q -> P v u H2) :
  tD K B G0 f σ H (fun v H1 => tD K B G0 g σ H1 fun u H2 => P v u H2) := by
 obtain ⟨G, ρ, e, a⟩ := tM.bind2 (R := Rep K) (R' := Rep K) zhL h
 refine ⟨G, ρ, e, ?_⟩
 cases q : f ρ with
 | bad => rw [q] at a; exact a.elim
 | ok d ρ1 =>
  rw [q] at a
  intro v G' H' e' s r
  obtain ⟨x, G2, ρ2, e2, a2⟩ := a v G' H' e' s r
  refine ⟨G2, ρ2, e2, ?_⟩
  cases q2 : g ρ2 with
  | bad => rw [q2] at a2; exact a2.elim
  | ok d3 ρ3 =>
   rw [q2] at a2
   intro u G3 H3 e3 s3 r3
   obtain ⟨G4, ρ4, y, e4, r4, r5, a5⟩ := a2 u G3 H3 e3 s3 r3
   exact i v u H3 G4 ρ4 x y e4 r4 r5 a5
theorem tM.one {K : PySem.W.Frag} {B G0 : Hp} {α β γ δ : Type} {R : Hp -> γ -> α -> Prop} {S : Hp -> δ -> β -> Prop} {σ : St} {H : Hp} {f : M α} {k : α -> M β} {Q : δ -> Hp -> Prop} {P : γ -> Hp -> Prop}
  (h : tM K B G0 S (zam f k) σ H Q) (i : ∀ v H2 G ρ x, EOk K B G0 G H2 σ ρ -> R G v x -> aft K B G0 S (k x ρ) G σ Q -> P v H2) : tM K B G0 R f σ H P := by
 obtain ⟨G, ρ, e, a⟩ := tM.bind (R := R) h
 refine ⟨G, ρ, e, ?_⟩
 cases q : f ρ with
 | bad => rw [q] at a; exact a.elim
 | ok d ρ1 =>
  rw [q] at a
  intro v G' H' e' s r
  obtain ⟨G2, ρ2, d2, e2, r2, a2⟩ := a v G' H' e' s r
  exact i v H' G2 ρ2 d2 e2 r2 a2
section
variable {X : Cx} {B G0 : Hp} {e a b : Expr} {pos : Pos}
theorem peof {t t' : TE} (h : PE X e t) (i : ∀ σ H Q, t' σ H Q -> t σ H Q) : PE X e t' := fun pins s σ H Q I q => h pins s σ H Q I (i σ H Q q)
theorem ptof {t t' : TT} (h : PT X e t) (i : ∀ σ H Q, t' σ H Q -> t σ H Q) : PT X e t' := fun pins s σ H Q I q => h pins s σ H Q I (i σ H Q q)
theorem paof {es : List Expr} {t t' : TA} (h : PA X es t) (i : ∀ σ H Q, t' σ H Q -> t σ H Q) : PA X es t' := fun ps pins s σ H Q I q => h ps pins s σ H Q I (i σ H Q q)
theorem poof {eo : Option Expr} {t t' : TO} (h : PO X eo t) (i : ∀ σ H Q, t' σ H Q -> t σ H Q) : PO X eo t' := fun pins s σ H Q I q => h pins s σ H Q I (i σ H Q q)
theorem psof {st : Stmt} {t t' : TS} (h : PS X st t) (i : ∀ D σ H, t' D σ H -> t D σ H) : PS X st t' := fun pins s σ H D I q => h pins s σ H D I (i D σ H q)
theorem zma {st : List Stmt} {t t' : TS} (h : PSs X st t) (i : ∀ D σ H, t' D σ H -> t D σ H) : PSs X st t' := fun pins s σ H D I q => h pins s σ H D I (i D σ H q)
def dVar (i : Nat) : M D := fun ρ => match ρ[i]? with
 | some (some (.pub d)) => .ok d ρ
 | some (some (.own ds)) => .ok (.list ds) (ρ.set i (some (.pub (.list ds))))
 | _ => .bad
theorem zag {i : Nat} (h : PE X e (tVar i)) : PE X e (tD X.K B G0 (dVar i)) := peof h fun σ H Q ⟨G, ρ, k, a⟩ => by
 unfold dVar at a
 cases q : ρ[i]? with
 | none => rw [q] at a; exact a.elim
 | some o =>
  cases o with
  | none => rw [q] at a; exact a.elim
  | some sl =>
   cases sl with
   | pub d =>
    rw [q] at a
    obtain ⟨v, h1, h2⟩ := k.pub i d q
    exact ⟨v, h1, a.now k h2⟩
   | own ds =>
    rw [q] at a
    obtain ⟨ad, G', h1, h2, h3, h4⟩ := k.publish q
    exact ⟨.ref ad, h1, a (.ref ad) G' H h4 h2 h3⟩
theorem zgy {v : V} {d : D} (h : PE X e (tC v)) (r : ∀ G, Rep X.K G v d) : PE X e (tD X.K B G0 (zaf d)) := peof h fun σ H Q ⟨G, ρ, k, a⟩ => a.now k (r G)
theorem zak {i : Int} {j} : PE X (.Constant (.int i) j pos) (tD X.K B G0 (zaf (.int i))) := zgy zlx fun _ => .int i
theorem zbT {i : Bool} {j} : PE X (.Constant (.bool i) j pos) (tD X.K B G0 (zaf (.bool i))) := zgy zmV fun _ => .bl i
theorem zby {j} : PE X (.Constant .none j pos) (tD X.K B G0 (zaf .none)) := zgy zly fun _ => .non
theorem zca {x : Str} {j} : PE X (.Constant (.str x) j pos) (tD X.K B G0 (zaf (.str x))) := zgy zhn fun _ => .str x
def dBin {β : Type} (op : D -> D -> Option β) (f g : M D) : M β := zam f fun x => zam g fun y => mOpt (op x y)
def OpD (X : Cx) (f : Value -> Value -> Sem Value) (op : D -> D -> Option D) : Prop :=
 ∃ r : R2, OpR X f r /\ ∀ v u G H x y d Q, Same G H -> Rep X.K G v x -> Rep X.K G u y -> op x y = some d -> (∀ w G' H', Ext G H G' H' -> Rep X.K G' w d -> Q w H') -> r v u H Q
theorem zaw {op : Operator} {p : D -> D -> Option D} {f g : M D} (o : OpD X (binaryOp op) p) (ha : PE X a (tD X.K B G0 f)) (hb : PE X b (tD X.K B G0 g)) : PE X (.BinOp a op b pos) (tD X.K B G0 (dBin p f g)) := by
 obtain ⟨r, h, i⟩ := o
 refine peof (zm4 h ha hb) fun σ H Q q => ?_
 refine tM.two q fun v u H2 G ρ x y k rx ry a => ?_
 obtain ⟨d, e, a⟩ := a.opt
 exact i v u G H2 x y d Q k.gh rx ry e fun w G' H' ex rw => a.done k ex rw
theorem OpD.or {f : Value -> Value -> Sem Value} {p q : D -> D -> Option D} (h : OpD X f p) (h' : OpD X f q) : OpD X f (fun x y => (p x y).orElse fun _ => q x y) := by
 obtain ⟨r, h1, i1⟩ := h
 obtain ⟨r', h2, i2⟩ := h'
 refine ⟨_, h1.or h2, fun v u G H x y d Q s rx ry e k => ?_⟩
 dsimp only at e
 cases z : p x y with
 | some d' =>
  rw [z] at e
  have e' : d' = d := Option.some.inj e
  subst e'
  exact .inl (i1 v u G H x y d' Q s rx ry z k)
 | none =>
  rw [z] at e
  exact .inr (i2 v u G H x y d Q s rx ry e k)
def oII (g : Int -> Int -> Option D) : D -> D -> Option D
 | .int i, .int j => g i j
 | _, _ => none
theorem zhM {g : Int -> Int -> Option D} {x y d : D} (e : oII g x y = some d) : ∃ i j, x = .int i /\ y = .int j /\ g i j = some d := by
 unfold oII at e
 split at e
 ·exact ⟨_, _, rfl, rfl, e⟩
 ·cases e
theorem OpD.int {f : Value -> Value -> Sem Value} {C : Int -> Int -> Prop} {g : Int -> Int -> V} {p : Int -> Int -> Option D} (h : OpR X f (rI C g)) (i : ∀ i j d, p i j = some d -> C i j /\ ∀ G, Rep X.K G (g i j) d) : OpD X f (oII p) := by
 refine ⟨_, h, fun v u G H x y d Q s rx ry e k => ?_⟩
 obtain ⟨a, b, rfl, rfl, e⟩ := zhM e
 obtain ⟨c, r⟩ := i a b d e
 exact ⟨a, b, rx.int_inv, ry.int_inv, c, k _ G H (.refl s) (r G)⟩
theorem OpD.int0 {f : Value -> Value -> Sem Value} {g : Int -> Int -> V} {p : Int -> Int -> D} (h : OpR X f (rI0 g)) (i : ∀ i j G, Rep X.K G (g i j) (p i j)) : OpD X f (oII fun i j => some (p i j)) := by
 refine ⟨_, h, fun v u G H x y d Q s rx ry e k => ?_⟩
 obtain ⟨a, b, rfl, rfl, e⟩ := zhM e
 cases e
 exact ⟨a, b, rx.int_inv, ry.int_inv, k _ G H (.refl s) (i a b G)⟩
end
end DL
namespace DL
open PySem PySem.Spec L2
open PyProof.Rows hiding St
section
variable {X : Cx} {B G0 : Hp} {e a b c : Expr} {pos : Pos}
theorem zmb : OpD X (binaryOp .Add) (oII fun i j => some (.int (i + j))) := .int0 zlM fun _ _ _ => .int _
theorem zmc : OpD X (binaryOp .Sub) (oII fun i j => some (.int (i - j))) := .int0 zlN fun _ _ _ => .int _
def gMul (i j : Int) : Option D := if (-(2 ^ 64) < i /\ i < 2 ^ 64) ∨ (-(2 ^ 64) < j /\ j < 2 ^ 64) then some (.int (i * j)) else none
theorem zkq : OpD X (binaryOp .Mult) (oII gMul) := .int zlO fun i j d h => by
 unfold gMul at h
 split at h
 ·rename_i c
  cases h
  exact ⟨c, fun _ => .int _⟩
 ·cases h
def gMod (i j : Int) : Option D := if 0 < j then some (.int (i % j)) else none
theorem zmd : OpD X (binaryOp .Mod) (oII gMod) := .int zlP fun i j d h => by
 unfold gMod at h
 split at h
 ·rename_i c
  cases h
  exact ⟨c, fun _ => .int _⟩
 ·cases h
theorem zi8 : OpR X (binaryOp .FloorDiv) (rI (fun i j => 0 < j /\ j < 2 ^ 64) fun i j => .int (i / j)) := opI fun i j _ _ _ _ _ hc q => by
 have h1 : (0 : Int) < j := hc.1
 have h2 : j < 2 ^ 64 := hc.2
 refine floordiv_int (by omega) (by rw [Int.fdiv_eq_ediv_of_nonneg i (by omega)]; exact q) (.inl (PyProof.noPylong_of_log2 ?_))
 have h0 : j.natAbs ≠ 0 := by omega
 have : j.natAbs.log2 < 64 := (Nat.log2_lt h0).mpr (by omega)
 omega
def gDiv (i j : Int) : Option D := if 0 < j /\ j < 2 ^ 64 then some (.int (i / j)) else none
theorem zme : OpD X (binaryOp .FloorDiv) (oII gDiv) := .int zi8 fun i j d h => by
 unfold gDiv at h
 split at h
 ·rename_i c
  cases h
  exact ⟨c, fun _ => .int _⟩
 ·cases h
def gPow (i j : Int) : Option D := if 0 <= j /\ j <= 1000000 /\ i.natAbs < 2 ^ 64 then some (.int (i ^ j.toNat)) else none
theorem zmf : OpD X (binaryOp .Pow) (oII gPow) := .int zlQ fun i j d h => by
 unfold gPow at h
 split at h
 ·rename_i c
  cases h
  exact ⟨c, fun _ => .int _⟩
 ·cases h
theorem lim : (1000000 : Nat) <= sizeLine := by decide
def zi9 : D -> D -> Option D
 | .str x, .str y => if x.length + y.length <= 1000000 then some (.str (x ++ y)) else none
 | _, _ => none
theorem zkr : OpD X (binaryOp .Add) zi9 := by
 refine ⟨_, zgU, fun v u G H x y d Q s rx ry e k => ?_⟩
 unfold zi9 at e
 split at e
 ·split at e
  ·rename_i c
   cases e
   exact ⟨_, _, rx.str_inv, ry.str_inv, Nat.le_trans c lim, k _ G H (.refl s) (.str _)⟩
  ·cases e
 ·cases e
def zne (K : PySem.W.Frag) : R2 := fun x y H Q => ∃ l b xs zs, x = .ref l /\ y = .ref b /\ SqL K H l xs /\ SqL K H b zs /\ xs.length + zs.length <= sizeLine /\ ∀ p, H p = none -> Q (.ref p) (upd H p (.lst (xs ++ zs)))
theorem zks : OpR X (binaryOp .Add) (zne X.K) := by
 intro pins s σ H x y v u Q I rx ry h
 obtain ⟨l, b, xs, zs, rfl, rfl, hH, hB, hz, q⟩ := h
 cases rx
 cases ry
 obtain ⟨its, r, ⟨⟨c1, d1, t1, s1⟩, n1, e1, ec1, ed1, et1⟩, z1⟩ := I.list hH
 obtain ⟨its2, r2, ⟨⟨c2, d2, t2, s2⟩, n2, e2, ec2, ed2, et2⟩, z2⟩ := I.list hB
 simp only at ec1 ed1 et1 ec2 ed2 et2
 subst ec1 ed1 et1 ec2 ed2 et2
 have hl := r.length
 have hl2 := r2.length
 refine concat_meets ⟨_, e1, rfl⟩ ⟨_, e2, rfl⟩ noFill_list_add seq_list_add PySem.F.slot_list_add PySem.F.entry_list_add (PySem.F.args_list_add_2 _ _) (list_addW l b its.toArray its2.toArray n1 n2 none none s1 s2 (by rw [List.size_toArray, List.size_toArray]; omega)) ⟨e1, e2, ?_⟩
 have ea : its.toArray ++ its2.toArray = (its ++ its2).toArray := by simp
 rw [ea]
 exact ⟨.ref _, _, I.lnew (t' := s.toks) (r.append r2) (by rw [List.length_append]; omega), rfl, q _ I.fresh⟩
theorem znf (a : Int) (t : Tok) (l : Addr) (items : Array Value) (n : Nat) (sl : Array (Option Value)) :
  Meets (Builtin.«int.__rmul__» ⟨[.int a t, .ref l], []⟩) (fun _ R s => s.heap.get? l = some { cls := .type "list", dict := none, data := .seq items n, slots := sl } /\ R (.ok (.ret Value.notImplemented)) s) :=
 .of_wp fun prog w A R s h => by obtain ⟨hp, g, d, tk, os⟩ := s; obtain ⟨hl, h⟩ := h; wp_walk; exact ⟨_, rfl, h⟩
theorem mulW (l : Addr) (items : Array Value) (n : Nat) (x : Int) (u : Tok) (sl : Array (Option Value)) (hc0 : ¬(!Builtin.List.listFitsIndex x) = true) (hc1 : ¬items.size * x.toNat > (2 ^ 63 - 1) / 8) (hc2 : ¬Builtin.List.listTooLong (items.size * x.toNat) = true) :
  Meets (Builtin.«list.__mul__» ⟨[.ref l, .int x u], []⟩) (fun _ R s => s.heap.get? l = some { cls := .type "list", dict := none, data := .seq items n, slots := sl } /\ R (.ok (.ret (Value.ref s.heap.objs.size))) { s with heap := s.heap.push { cls := Value.type "list", data := Data.seq (List.foldl (fun x1 x2 => x1 ++ x2) #[] (List.replicate (if items.isEmpty = true then 0 else x.toNat) items)) }, toks := s.toks }) :=
 .of_wp fun prog w A R s h => by
  obtain ⟨hp, g, d, tk, os⟩ := s; obtain ⟨hl, h⟩ := h
  have hsz := AutoListH.joined_fits hc2
  wp_walk; refine wpAny_ite_false (decide_eq_false (Nat.not_lt.mpr hsz)) ?_; wp_walk; exact ⟨_, rfl, h⟩
def zng (K : PySem.W.Frag) : R2 := fun x y H Q => ∃ l k xs, x = .ref l /\ y = .int k /\ SqL K H l xs /\ -(2 ^ 63) <= k /\ k < 2 ^ 63 /\ xs.length * k.toNat <= sizeLine /\
 ∀ p, H p = none -> Q (.ref p) (upd H p (.lst (List.replicate k.toNat xs).flatten))
theorem zkt : OpR X (binaryOp .Mult) (zng X.K) := by
 intro pins s σ H x y v u Q I rx ry h
 obtain ⟨l, k, xs, rfl, rfl, hH, h1, h2, hz, q⟩ := h
 cases rx
 obtain ⟨t, rfl⟩ := ry
 obtain ⟨its, r, ⟨⟨c1, d1, t1, sl⟩, n, e, ec1, ed1, et1⟩, z⟩ := I.list hH
 simp only at ec1 ed1 et1
 subst ec1 ed1 et1
 have hl := r.length
 have hlen : its.toArray.size * k.toNat <= sizeLine := by rw [List.size_toArray, ← hl]; exact hz
 have hcap : ¬ its.toArray.size * k.toNat > (2 ^ 63 - 1) / 8 := by
  have : (sizeLine : Nat) <= (2 ^ 63 - 1) / 8 := by decide
  omega
 have hfit : ¬ (!Builtin.List.listFitsIndex k) = true := by
  rw [fitsIndex_both h1 h2]
  exact Bool.false_ne_true
 have hlong : ¬ Builtin.List.listTooLong (its.toArray.size * k.toNat) = true := by
  rw [ziV hlen]
  exact Bool.false_ne_true
 have hnew : List.foldl (fun x1 x2 => x1 ++ x2) #[] (List.replicate (if its.toArray.isEmpty = true then 0 else k.toNat) its.toArray) = (List.replicate k.toNat its).flatten.toArray := by
  have f0 : ∀ m : Nat, List.foldl (fun x1 x2 => x1 ++ x2) #[] (List.replicate m its.toArray) = (List.replicate m its).flatten.toArray := fun m => by
   have := zfo its m []
   rw [List.nil_append] at this
   exact this
  rw [f0]
  cases its with
  | nil => simp
  | cons a r' => rw [if_neg (by simp)]
 refine wpAny_binaryOp_repeat_ref (T := "list") (U := "int") (by decide) ⟨_, e, rfl⟩ (fun s' => typeIs_int s' k t) noFill_list_mul F.fills_int_mul F.slot_int_rmul repeat_list F.slot_int_index.lookup
  (call_meets F.slot_int_rmul (typeIs_int s k t) F.entry_int_rmul (F.args_int_rmul_2 _ _) (znf k t l its.toArray n sl)
   ⟨e, rfl, ⟨_, e, rfl⟩, call_meets F.slot_list_mul ⟨_, e, rfl⟩ F.entry_list_mul (F.args_list_mul_2 _ _) (mulW l its.toArray n k t sl hfit hcap hlong) ⟨e, ?_⟩⟩)
 rw [hnew]
 exact ⟨.ref _, _, I.lnew (t' := s.toks) (r.rep k.toNat) (by rw [zki, Nat.mul_comm]; exact hz), rfl, q _ I.fresh⟩
def zja : D -> D -> Option D
 | .list x, .list y => if x.length + y.length <= 1000000 then some (.list (x ++ y)) else none
 | _, _ => none
theorem zku : OpD X (binaryOp .Add) zja := by
 refine ⟨_, zks, fun v u G H x y d Q s rx ry e k => ?_⟩
 unfold zja at e
 split at e
 ·split at e
  ·rename_i c
   cases e
   obtain ⟨l, vs, rfl, h1, r1⟩ := rx.lst_inv
   obtain ⟨b, ws, rfl, h2, r2⟩ := ry.lst_inv
   refine ⟨l, b, vs, ws, rfl, rfl, s.seq h1, s.seq h2, by rw [r1.length, r2.length]; exact Nat.le_trans c lim, fun p hp => k _ _ _ (Ext.new s hp) ?_⟩
   exact .lst (SqL.of zaz) ((r1.append r2).mono (za1 (s.free hp)))
  ·cases e
 ·cases e
theorem Reps.rep {K : PySem.W.Frag} {G : Hp} {vs : List V} {ds : List D} (r : Reps K G vs ds) : ∀ n : Nat, Reps K G (List.replicate n vs).flatten (List.replicate n ds).flatten
 | 0 => .nil
 | n + 1 => by rw [List.replicate_succ, List.replicate_succ, List.flatten_cons, List.flatten_cons]; exact r.append (r.rep n)
def zjb : D -> D -> Option D
 | .list x, .int k => if -1000000 <= k /\ k <= 1000000 /\ x.length * k.toNat <= 1000000 then some (.list (List.replicate k.toNat x).flatten) else none
 | _, _ => none
theorem zkv : OpD X (binaryOp .Mult) zjb := by
 refine ⟨_, zkt, fun v u G H x y d Q s rx ry e k => ?_⟩
 unfold zjb at e
 split at e
 ·split at e
  ·rename_i c
   cases e
   obtain ⟨l, vs, rfl, h1, r1⟩ := rx.lst_inv
   refine ⟨l, _, vs, rfl, ry.int_inv, s.seq h1, by omega, by omega, by rw [r1.length]; exact Nat.le_trans c.2.2 lim, fun p hp => k _ _ _ (Ext.new s hp) ?_⟩
   exact .lst (SqL.of zaz) ((r1.rep _).mono (za1 (s.free hp)))
  ·cases e
 ·cases e
def oAdd : D -> D -> Option D
 | .int i, .int j => some (.int (i + j))
 | .str x, .str y => if x.length + y.length <= 1000000 then some (.str (x ++ y)) else none
 | .list x, .list y => if x.length + y.length <= 1000000 then some (.list (x ++ y)) else none
 | _, _ => none
def oSub : D -> D -> Option D
 | .int i, .int j => some (.int (i - j))
 | _, _ => none
def oMul : D -> D -> Option D
 | .int i, .int j => gMul i j
 | .list x, .int k => if -1000000 <= k /\ k <= 1000000 /\ x.length * k.toNat <= 1000000 then some (.list (List.replicate k.toNat x).flatten) else none
 | _, _ => none
def oMod : D -> D -> Option D
 | .int i, .int j => gMod i j
 | _, _ => none
def oDiv : D -> D -> Option D
 | .int i, .int j => gDiv i j
 | _, _ => none
def oPow : D -> D -> Option D
 | .int i, .int j => gPow i j
 | _, _ => none
theorem OpD.congr {f : Value -> Value -> Sem Value} {p q : D -> D -> Option D} (h : OpD X f p) (e : ∀ x y, q x y = p x y) : OpD X f q := by
 have : q = p := by funext x y; exact e x y
 rw [this]; exact h
theorem zaU : OpD X (binaryOp .Add) oAdd := (zmb.or (zkr.or zku)).congr fun x y => by cases x <;> cases y <;> first | rfl | (simp only [oAdd, oII, zi9, zja, Option.orElse]; done) | (simp only [oAdd, oII, zi9, zja, Option.orElse]; split <;> rfl)
theorem zjc : OpD X (binaryOp .Sub) oSub := zmc.congr fun x y => by cases x <;> cases y <;> rfl
theorem zcr : OpD X (binaryOp .Mult) oMul := (zkq.or zkv).congr fun x y => by
 cases x <;> cases y <;> first | rfl | (simp only [oMul, oII, zjb, Option.orElse]; done) | (simp only [oMul, oII, zjb, Option.orElse]; split <;> first | rfl | assumption)
theorem zde : OpD X (binaryOp .Mod) oMod := zmd.congr fun x y => by cases x <;> cases y <;> rfl
theorem zkw : OpD X (binaryOp .FloorDiv) oDiv := zme.congr fun x y => by cases x <;> cases y <;> rfl
theorem zkx : OpD X (binaryOp .Pow) oPow := zmf.congr fun x y => by cases x <;> cases y <;> rfl
end
end DL
namespace DL
open PySem PySem.Spec L2
open PyProof.Rows hiding St
section
variable {X : Cx} {B G0 : Hp} {e a b c : Expr} {pos : Pos}
def OpB (X : Cx) (f : Value -> Value -> Sem Value) (op : D -> D -> Option Bool) : Prop :=
 ∃ r : R2, OpR X f r /\ ∀ v u G H x y d Q, Same G H -> Rep X.K G v x -> Rep X.K G u y -> op x y = some d -> Q (.bl d) H -> r v u H Q
theorem OpB.or {f : Value -> Value -> Sem Value} {p q : D -> D -> Option Bool} (h : OpB X f p) (h' : OpB X f q) : OpB X f (fun x y => (p x y).orElse fun _ => q x y) := by
 obtain ⟨r, h1, i1⟩ := h
 obtain ⟨r', h2, i2⟩ := h'
 refine ⟨_, h1.or h2, fun v u G H x y d Q s rx ry e k => ?_⟩
 dsimp only at e
 cases z : p x y with
 | some d' =>
  rw [z] at e
  have e' : d' = d := Option.some.inj e
  subst e'
  exact .inl (i1 v u G H x y d' Q s rx ry z k)
 | none =>
  rw [z] at e
  exact .inr (i2 v u G H x y d Q s rx ry e k)
theorem OpB.congr {f : Value -> Value -> Sem Value} {p q : D -> D -> Option Bool} (h : OpB X f p) (e : ∀ x y, q x y = p x y) : OpB X f q := by
 have : q = p := by funext x y; exact e x y
 rw [this]; exact h
theorem zbL {op : CmpOp} {p : D -> D -> Option Bool} {f g : M D} (o : OpB X (compareOp op) p) (ha : PE X a (tD X.K B G0 f)) (hb : PE X b (tD X.K B G0 g)) (hm : behindInMarks op b = false) :
  PT X (.Compare a [op] [b] pos) (tBo X.K B G0 (dBin p f g)) := by
 obtain ⟨r, h, i⟩ := o
 refine ptof (zfY h ha hb hm) fun σ H Q q => ?_
 refine tM.two q fun v u H2 G ρ x y k rx ry a => ?_
 obtain ⟨d, e, a⟩ := a.opt
 exact i v u G H2 x y d _ k.gh rx ry e ⟨d, rfl, a.now k rfl⟩
def mMap {α β : Type} (h : α -> β) (f : M α) : M β := zam f fun x => zaf (h x)
theorem tM.map {K : PySem.W.Frag} {α β γ δ : Type} {R : Hp -> γ -> α -> Prop} {S : Hp -> δ -> β -> Prop} {σ : St} {H : Hp} {h : α -> β} {f : M α} {Q : δ -> Hp -> Prop} (j : γ -> δ) (q : tM K B G0 S (mMap h f) σ H Q)
  (i : ∀ G v x, R G v x -> S G (j v) (h x)) : tM K B G0 R f σ H (fun v H' => Q (j v) H') :=
 tM.one (R := R) (f := f) q fun v H2 G ρ x k r a => aft.now (show aft K B G0 S (.ok (h x) ρ) G σ Q from a) k (i G v x r)
theorem tBo.val {K : PySem.W.Frag} {σ : St} {H : Hp} {f : M Bool} {Q : VK} (q : tD K B G0 (mMap PyData.bool f) σ H Q) : tBo K B G0 f σ H (fun b H' => Q (.bl b) H') :=
 tM.map (R := fun _ b c => b = c) V.bl q fun G v x e => by rw [e]; exact .bl x
theorem zky {op : CmpOp} {p : D -> D -> Option Bool} {f g : M D} (o : OpB X (compareOp op) p) (ha : PE X a (tD X.K B G0 f)) (hb : PE X b (tD X.K B G0 g)) (hm : behindInMarks op b = false) :
  PE X (.Compare a [op] [b] pos) (tD X.K B G0 (mMap PyData.bool (dBin p f g))) := by
 obtain ⟨r, h, i⟩ := o
 refine peof (zj6 h ha hb hm) fun σ H Q q => ?_
 refine tM.two (tBo.val q) fun v u H2 G ρ x y k rx ry a => ?_
 obtain ⟨d, e, a⟩ := a.opt
 exact i v u G H2 x y d _ k.gh rx ry e (a.now k rfl)
def zd9 (p q : D -> D -> Option Bool) (f g h : M D) : M Bool := zam f fun x => zam g fun y => zam (mOpt (p x y)) fun t => if t = true then zam h fun z => mOpt (q y z) else zaf false
theorem zfv {op op' : CmpOp} {p q : D -> D -> Option Bool} {f g h : M D} (o : OpB X (compareOp op) p) (o' : OpB X (compareOp op') q) (ha : PE X a (tD X.K B G0 f)) (hb : PE X b (tD X.K B G0 g)) (hc : PE X c (tD X.K B G0 h))
  (hm : lastMarks [op, op'] [b, c] = false := by with_unfolding_all rfl) : PT X (.Compare a [op, op'] [b, c] pos) (tBo X.K B G0 (zd9 p q f g h)) := by
 obtain ⟨r, h1, i⟩ := o
 obtain ⟨r', h2, i'⟩ := o'
 refine ptof (ziT h1 h2 ha hb hc hm) fun σ H Q w => ?_
 refine tM.two w fun v u H2 G ρ x y k rx ry a => ?_
 cases z : p x y with
 | none => rw [z] at a; exact a.elim
 | some t =>
  rw [z] at a
  refine i v u G H2 x y t _ k.gh rx ry z ⟨t, rfl, ?_⟩
  cases t with
  | false =>
   rw [if_neg Bool.false_ne_true]
   exact ⟨false, rfl, aft.now a k rfl⟩
  | true =>
   rw [if_pos rfl]
   refine ⟨G, ρ, k, ?_⟩
   have a4 : aft X.K B G0 (fun _ (b : Bool) c => b = c) ((zam h fun z => mOpt (q y z)) ρ) G σ Q := a
   unfold zam at a4
   cases z2 : h ρ with
   | bad => rw [z2] at a4; exact a4.elim
   | ok d ρ1 =>
    rw [z2] at a4
    intro w G5 H5 k5 s5 r5
    obtain ⟨t2, e2, a6⟩ := a4.opt
    exact i' u w G5 H5 y d t2 _ k5.gh (ry.mono s5) r5 e2 ⟨t2, rfl, a6 t2 G5 H5 k5 s5 rfl⟩
theorem zhN {op op' : CmpOp} {p q : D -> D -> Option Bool} {f g h : M D} (o : OpB X (compareOp op) p) (o' : OpB X (compareOp op') q) (ha : PE X a (tD X.K B G0 f)) (hb : PE X b (tD X.K B G0 g)) (hc : PE X c (tD X.K B G0 h))
  (hm : lastMarks [op, op'] [b, c] = false := by with_unfolding_all rfl) : PE X (.Compare a [op, op'] [b, c] pos) (tD X.K B G0 (mMap PyData.bool (zd9 p q f g h))) := by
 obtain ⟨r, h1, i⟩ := o
 obtain ⟨r', h2, i'⟩ := o'
 refine peof (ziS h1 h2 ha hb hc hm) fun σ H Q w => ?_
 refine tM.two (tBo.val w) fun v u H2 G ρ x y k rx ry a => ?_
 cases z : p x y with
 | none => rw [z] at a; exact a.elim
 | some t =>
  rw [z] at a
  refine i v u G H2 x y t _ k.gh rx ry z ⟨t, rfl, ?_⟩
  cases t with
  | false =>
   rw [if_neg Bool.false_ne_true]
   exact aft.now (v := false) a k rfl
  | true =>
   rw [if_pos rfl]
   refine ⟨G, ρ, k, ?_⟩
   have a4 : aft X.K B G0 (fun _ (b : Bool) c => b = c) ((zam h fun z => mOpt (q y z)) ρ) G σ (fun b H' => Q (.bl b) H') := a
   unfold zam at a4
   cases z2 : h ρ with
   | bad => rw [z2] at a4; exact a4.elim
   | ok d ρ1 =>
    rw [z2] at a4
    intro w G5 H5 k5 s5 r5
    obtain ⟨t2, e2, a6⟩ := a4.opt
    exact i' u w G5 H5 y d t2 _ k5.gh (ry.mono s5) r5 e2 (a6 t2 G5 H5 k5 s5 rfl)
def oIB (g : Int -> Int -> Bool) : D -> D -> Option Bool
 | .int i, .int j => some (g i j)
 | _, _ => none
theorem OpB.int {f : Value -> Value -> Sem Value} {g : Int -> Int -> Bool} (h : OpR X f (rI0 fun i j => .bl (g i j))) : OpB X f (oIB g) := by
 refine ⟨_, h, fun v u G H x y d Q s rx ry e k => ?_⟩
 unfold oIB at e
 split at e
 ·cases e
  exact ⟨_, _, rx.int_inv, ry.int_inv, k⟩
 ·cases e
theorem B_lt : OpB X (compareOp .Lt) (oIB fun i j => decide (i < j)) := .int zm6
theorem B_le : OpB X (compareOp .LtE) (oIB fun i j => decide (i <= j)) := .int zm7
theorem B_gt : OpB X (compareOp .Gt) (oIB fun i j => decide (j < i)) := .int zm8
theorem B_ge : OpB X (compareOp .GtE) (oIB fun i j => decide (j <= i)) := .int zm9
mutual
theorem zcg {pins : List (Addr × Obj)} {s : Shared} {σ : St} {G H : Hp} (I : Inv X pins σ H s) (sg : Same G H) : ∀ {v : V} {d : D} {u : Value}, Rep X.K G v d -> RelV v u -> d.canLay0 = true -> ∃ as, Reads s.heap u d as
 | _, _, _, .non, r, _ => by cases r; exact ⟨_, .none⟩
 | _, _, _, .bl b, r, _ => by cases r; exact ⟨_, .bool b⟩
 | _, _, _, .int i, r, _ => by obtain ⟨t, rfl⟩ := r; exact ⟨_, .int i t⟩
 | _, _, _, .str x, r, _ => by obtain ⟨t, rfl⟩ := r; exact ⟨_, .str x t⟩
 | _, _, _, .lst h q, r, c => by
  cases r
  obtain ⟨its, rv, ⟨o, n, e, hc, _, hd⟩, hz⟩ := I.list (sg.seq h)
  obtain ⟨as, ra⟩ := readsAll_of I sg q rv (show PyData.canLayAll0 _ = true by simpa [PyData.canLay0] using c)
  exact ⟨_, .list e hc hd (by simpa using ra)⟩
 | _, _, _, .tup h q, r, c => by
  cases r
  obtain ⟨its, rv, p, hz⟩ := I.tuple (zdG sg h)
  obtain ⟨o, e, hc, n, hd⟩ := p
  obtain ⟨as, ra⟩ := readsAll_of I sg q rv (show PyData.canLayAll0 _ = true by simpa [PyData.canLay0] using c)
  exact ⟨_, .tuple e hc hd (by simpa using ra)⟩
 | _, _, _, .dic h, r, c => by simp [PyData.canLay0] at c
 | _, _, _, .exc _ _ _ _, r, c => by simp [PyData.canLay0] at c
 | _, _, _, .dct _ _ _ _ _, r, c => by simp [PyData.canLay0] at c
theorem readsAll_of {pins : List (Addr × Obj)} {s : Shared} {σ : St} {G H : Hp} (I : Inv X pins σ H s) (sg : Same G H) : ∀ {vs : List V} {ds : List D} {us : List Value}, Reps X.K G vs ds -> Vals vs us -> PyData.canLayAll0 ds = true -> ∃ as, ReadsAll s.heap us ds as
 | _, _, _, .nil, r, _ => by cases r; exact ⟨_, .nil⟩
 | _, _, _, .cons h t, r, c => by
  cases r with
  | cons r1 r2 =>
   have c' := c
   rw [PyData.canLayAll0, Bool.and_eq_true] at c'
   obtain ⟨as, ra⟩ := zcg I sg h r1 c'.1
   obtain ⟨bs, rb⟩ := readsAll_of I sg t r2 c'.2
   exact ⟨_, .cons ra rb⟩
end
def oEq (x y : D) : Option Bool := if x.canLay0 = true /\ y.canLay0 = true /\ x.depth <= 60 then some (PyData.eqv x y) else none
def oNe (x y : D) : Option Bool := if x.canLay0 = true /\ y.canLay0 = true /\ x.depth <= 60 then some (!PyData.eqv x y) else none
theorem B_eq (hu : X.A.units + 64 < cLine) : OpB X (compareOp .Eq) oEq := by
 refine ⟨fun v u H Q => ∃ G x y d, Same G H /\ Rep X.K G v x /\ Rep X.K G u y /\ oEq x y = some d /\ Q (.bl d) H, ?_, fun v u G H x y d Q s rx ry e k => ⟨G, x, y, d, s, rx, ry, e, k⟩⟩
 intro pins s σ H x y v u Q I rx ry ⟨G, dx, dy, d, sg, px, py, e, q⟩
 unfold oEq at e
 split at e
 ·rename_i c
  cases e
  obtain ⟨as, ra⟩ := zcg I sg px rx c.1
  obtain ⟨bs, rb⟩ := zcg I sg py ry c.2.1
  exact SeqAt.compareEq_reads ra rb c.1 c.2.1 (by have := c.2.2; omega) ⟨.bl _, H, I, rfl, q⟩
 ·cases e
theorem B_ne (hu : X.A.units + 64 < cLine) : OpB X (compareOp .NotEq) oNe := by
 refine ⟨fun v u H Q => ∃ G x y d, Same G H /\ Rep X.K G v x /\ Rep X.K G u y /\ oNe x y = some d /\ Q (.bl d) H, ?_, fun v u G H x y d Q s rx ry e k => ⟨G, x, y, d, s, rx, ry, e, k⟩⟩
 intro pins s σ H x y v u Q I rx ry ⟨G, dx, dy, d, sg, px, py, e, q⟩
 unfold oNe at e
 split at e
 ·rename_i c
  cases e
  obtain ⟨as, ra⟩ := zcg I sg px rx c.1
  obtain ⟨bs, rb⟩ := zcg I sg py ry c.2.1
  exact SeqAt.compareNe_reads ra rb c.1 c.2.1 (by have := c.2.2; omega) ⟨.bl _, H, I, rfl, q⟩
 ·cases e
def isNon : D -> Bool
 | .none => true
 | _ => false
theorem Rep.isNon {K : PySem.W.Frag} {G : Hp} {v : V} {d : D} (r : Rep K G v d) : DL.isNon d = decide (v = .non) := by
 cases r <;> simp [DL.isNon]
end
end DL
namespace DL
open PySem PySem.Spec L2
open PyProof.Rows hiding St
section
variable {X : Cx} {B G0 : Hp} {e a b c : Expr} {pos : Pos} {es rest : List Expr}
theorem tM.nx {K : PySem.W.Frag} {α β γ δ : Type} {R : Hp -> γ -> α -> Prop} {S : Hp -> δ -> β -> Prop} {σ : St} {G H : Hp} {ρ : DEnv} {f : M α} {g : α -> M β} {Q : δ -> Hp -> Prop} {P : γ -> Hp -> Prop}
  (k : EOk K B G0 G H σ ρ) (a : aft K B G0 S (zam f g ρ) G σ Q) (i : ∀ v H' G' ρ' x, EOk K B G0 G' H' σ ρ' -> Same G G' -> R G' v x -> aft K B G0 S (g x ρ') G' σ Q -> P v H') : tM K B G0 R f σ H P := by
 refine ⟨G, ρ, k, ?_⟩
 unfold zam at a
 cases q : f ρ with
 | bad => rw [q] at a; exact a.elim
 | ok d ρ1 =>
  rw [q] at a
  exact fun v G' H' e s r => i v H' G' ρ1 d e s r (aft.mono s a)
def mAnd (f g : M Bool) : M Bool := zam f fun t => if t = true then g else zaf false
def mOr (f g : M Bool) : M Bool := zam f fun t => if t = true then zaf true else g
def mNot (f : M Bool) : M Bool := mMap (fun t => !t) f
theorem zkz {K : PySem.W.Frag} {f g : M Bool} {σ : St} {H : Hp} {Q : Bool -> Hp -> Prop} (q : tBo K B G0 (mAnd f g) σ H Q) : tAnd (tBo K B G0 f) (tBo K B G0 g) σ H Q :=
 tM.one (R := fun _ b c => b = c) q fun v H2 G ρ x k r a => by
  have r : v = x := r
  subst r
  cases v with
  | true => exact ⟨G, ρ, k, a⟩
  | false => exact aft.now (v := false) a k rfl
theorem zmg {K : PySem.W.Frag} {f g : M Bool} {σ : St} {H : Hp} {Q : Bool -> Hp -> Prop} (q : tBo K B G0 (mOr f g) σ H Q) : tOr (tBo K B G0 f) (tBo K B G0 g) σ H Q :=
 tM.one (R := fun _ b c => b = c) q fun v H2 G ρ x k r a => by
  have r : v = x := r
  subst r
  cases v with
  | false => exact ⟨G, ρ, k, a⟩
  | true => exact aft.now (v := true) a k rfl
theorem pwof {t t' : TT} (h : PW X e t) (i : ∀ σ H Q, t' σ H Q -> t σ H Q) : PW X e t' := fun wh pins s σ H Q I q => h wh pins s σ H Q I (i σ H Q q)
theorem zeX {f : M Bool} (ha : PT X a (tBo X.K B G0 f)) : PW X (.BoolOp .And [a] pos) (tBo X.K B G0 f) := zj1 ha
theorem zbU {f : M Bool} (ha : PT X a (tBo X.K B G0 f)) : PW X (.BoolOp .Or [a] pos) (tBo X.K B G0 f) := zlC ha
theorem zf5 {f g : M Bool} (ha : PT X a (tBo X.K B G0 f)) (hb : PW X (.BoolOp .And (b :: rest) pos) (tBo X.K B G0 g)) : PW X (.BoolOp .And (a :: b :: rest) pos) (tBo X.K B G0 (mAnd f g)) := pwof (zlD ha hb) fun _ _ _ q => zkz q
theorem zbV {f g : M Bool} (ha : PT X a (tBo X.K B G0 f)) (hb : PW X (.BoolOp .Or (b :: rest) pos) (tBo X.K B G0 g)) : PW X (.BoolOp .Or (a :: b :: rest) pos) (tBo X.K B G0 (mOr f g)) := pwof (zmW ha hb) fun _ _ _ q => zmg q
theorem zbd {f : M Bool} (ha : PT X a (tBo X.K B G0 f)) : PT X (.UnaryOp .Not a pos) (tBo X.K B G0 (mNot f)) := ptof (zlE ha) fun σ H Q q => tM.map (R := fun _ b c => b = c) (fun t => !t) q fun _ v x e => by rw [e]
def za2 (f : M D) : M Bool := zam f fun x => match x with | .bool t => zaf t | _ => fun _ => .bad
theorem za8 {f : M D} (h : PE X e (tD X.K B G0 f)) (he : ∀ whole, isTrue e X.env whole = (do let v ← whole; standAt e.pos; holding [v] (truthy v)) := by intro _; rfl) : PT X e (tBo X.K B G0 (za2 f)) :=
 ptof (zlB h he) fun σ H Q q => tM.one (R := Rep X.K) q fun v H2 G ρ x k r a => by
  cases x with
  | bool t => exact ⟨t, r.bl_inv, aft.now (v := t) a k rfl⟩
  | _ => exact a.elim
def zg4 (f g : M D) : M D := zam f fun x => match x with | .bool true => g | .bool false => zaf (.bool false) | _ => fun _ => .bad
def zkA (f : M D) : M D := zam f fun x => match x with | .bool t => zaf (.bool (!t)) | _ => fun _ => .bad
theorem zf6 {f g : M D} (ha : PE X a (tD X.K B G0 f)) (hb : PE X (.BoolOp .And (b :: rest) pos) (tD X.K B G0 g)) : PE X (.BoolOp .And (a :: b :: rest) pos) (tD X.K B G0 (zg4 f g)) :=
 peof (zlG ha hb) fun σ H Q q => tM.one (R := Rep X.K) q fun v H2 G ρ x k r a => by
  cases x with
  | bool t =>
   refine ⟨t, r.bl_inv, ?_⟩
   cases t with
   | true => exact ⟨G, ρ, k, a⟩
   | false => exact aft.now a k (.bl false)
  | _ => exact a.elim
theorem zf7 {op} {f : M D} (h : PE X a (tD X.K B G0 f)) : PE X (.BoolOp op [a] pos) (tD X.K B G0 f) := zlF h
theorem zhO {f : M D} (ha : PE X a (tD X.K B G0 f)) : PE X (.UnaryOp .Not a pos) (tD X.K B G0 (zkA f)) :=
 peof (zlH ha) fun σ H Q q => tM.one (R := Rep X.K) q fun v H2 G ρ x k r a => by
  cases x with
  | bool t => exact ⟨t, r.bl_inv, aft.now a k (.bl _)⟩
  | _ => exact a.elim
theorem zkB {f : M D} {j p2} (ha : PE X a (tD X.K B G0 f)) : PT X (.Compare a [.Is] [.Constant .none j p2] pos) (tBo X.K B G0 (mMap isNon f)) :=
 ptof (zlA (zjJ ha)) fun σ H Q q => tM.one (R := Rep X.K) q fun v H2 G ρ x k r a => ⟨_, rfl, aft.now a k (by rw [r.isNon])⟩
theorem zkC {f : M D} {j p2} (ha : PE X a (tD X.K B G0 f)) : PE X (.Compare a [.Is] [.Constant .none j p2] pos) (tD X.K B G0 (mMap (fun d => .bool (isNon d)) f)) :=
 peof (zlz (zjJ ha)) fun σ H Q q => tM.one (R := Rep X.K) q fun v H2 G ρ x k r a => aft.now a k (by dsimp only; rw [r.isNon]; exact .bl _)
def mNil : M (List D) := zaf []
def zae (f : M D) (g : M (List D)) : M (List D) := zam f fun x => zam g fun xs => zaf (x :: xs)
theorem zai : PA X [] (tDs X.K B G0 mNil) := paof zdk fun σ H Q ⟨G, ρ, k, a⟩ => aft.now a k .nil
theorem tM.twoA {K : PySem.W.Frag} {σ : St} {H : Hp} {f : M D} {g : M (List D)} {β δ : Type} {S : Hp -> δ -> β -> Prop} {k : D -> List D -> M β} {Q : δ -> Hp -> Prop} {P : V -> List V -> Hp -> Prop}
  (h : tM K B G0 S (zam f fun x => zam g fun y => k x y) σ H Q)
  (i : ∀ v u H2 G ρ x y, EOk K B G0 G H2 σ ρ -> Rep K G v x -> Reps K G u y -> aft K B G0 S (k x y ρ) G σ Q -> P v u H2) :
  tD K B G0 f σ H (fun v H1 => tDs K B G0 g σ H1 fun u H2 => P v u H2) := by
 obtain ⟨G, ρ, e, a⟩ := tM.bind2 (R := Rep K) (R' := Reps K) zhL h
 refine ⟨G, ρ, e, ?_⟩
 cases q : f ρ with
 | bad => rw [q] at a; exact a.elim
 | ok d ρ1 =>
  rw [q] at a
  intro v G' H' e' s r
  obtain ⟨x, G2, ρ2, e2, a2⟩ := a v G' H' e' s r
  refine ⟨G2, ρ2, e2, ?_⟩
  cases q2 : g ρ2 with
  | bad => rw [q2] at a2; exact a2.elim
  | ok d3 ρ3 =>
   rw [q2] at a2
   intro u G3 H3 e3 s3 r3
   obtain ⟨G4, ρ4, y, e4, r4, r5, a5⟩ := a2 u G3 H3 e3 s3 r3
   exact i v u H3 G4 ρ4 x y e4 r4 r5 a5
theorem zac {f : M D} {g : M (List D)} (ha : PE X e (tD X.K B G0 f)) (hr : PA X es (tDs X.K B G0 g)) (hs : starEach (e :: es) X.env = (false, eval e X.env) :: starEach es X.env := by rfl) :
  PA X (e :: es) (tDs X.K B G0 (zae f g)) := paof (zbS ha hr hs) fun σ H Q q => tM.twoA q fun v u H2 G ρ x y k r1 r2 a => aft.now a k (.cons r1 r2)
def mTup (f : M (List D)) : M D := zam f fun xs => if xs.length <= 1000000 then zaf (.tuple xs) else fun _ => .bad
def mLst (f : M (List D)) : M D := zam f fun xs => if xs.length <= 1000000 then zaf (.list xs) else fun _ => .bad
theorem zb2 {x1} {f : M (List D)} (h : PA X es (tDs X.K B G0 f)) : PE X (.Tuple es x1 pos) (tD X.K B G0 (mTup f)) :=
 peof (zlV h) fun σ H Q q => tM.one (R := Reps X.K) q fun v H2 G ρ x k r a => by
  split at a
  ·rename_i c
   refine ⟨by rw [r.length]; exact Nat.le_trans c lim, fun p hp => ?_⟩
   exact aft.done a k (Ext.new k.gh hp) (.tup (SqT.of zaz) (r.mono (za1 (k.gh.free hp))))
  ·exact a.elim
theorem zay {f : M (List D)} (h : PA X es (tDs X.K B G0 f)) : PE X (.List es pos) (tD X.K B G0 (mLst f)) :=
 peof (zjL h) fun σ H Q q => tM.one (R := Reps X.K) q fun v H2 G ρ x k r a => by
  split at a
  ·rename_i c
   refine ⟨by rw [r.length]; exact Nat.le_trans c lim, fun p hp => ?_⟩
   exact aft.done a k (Ext.new k.gh hp) (.lst (SqL.of zaz) (r.mono (za1 (k.gh.free hp))))
  ·exact a.elim
def oIx : D -> D -> Option D
 | .list xs, .int i => atI xs i
 | .tuple xs, .int i => atI xs i
 | .str z, .int i => if z.length <= 1000000 then (atI z.cps.toList i).map fun c => .str ⟨#[c]⟩ else none
 | _, _ => none
theorem Reps.atI {K : PySem.W.Frag} {G : Hp} {vs : List V} {ds : List D} {i : Int} {d : D} (r : Reps K G vs ds) (h : L2.atI ds i = some d) : ∃ v, L2.atI vs i = some v /\ Rep K G v d := by
 unfold L2.atI at h ⊢
 rw [r.length]
 cases z : ixN ds.length i with
 | none => rw [z] at h; cases h
 | some j =>
  rw [z] at h
  exact r.get (i := j) h
theorem zjS {K : PySem.W.Frag} {v u : V} {G H : Hp} {x y d : D} {Q : VK} (s : Same G H) (rx : Rep K G v x) (ry : Rep K G u y) (e : oIx x y = some d) (k : ∀ w, Rep K G w d -> Q w H) : rIx K v u H Q := by
 unfold oIx at e
 split at e
 ·obtain ⟨l, vs, rfl, h1, r1⟩ := rx.lst_inv
  obtain ⟨w, e1, r2⟩ := r1.atI e
  exact .inl ⟨l, vs, _, w, rfl, ry.int_inv, s.seq h1, e1, k w r2⟩
 ·obtain ⟨l, vs, rfl, h1, r1⟩ := rx.tup_inv
  obtain ⟨w, e1, r2⟩ := r1.atI e
  exact .inr (.inl ⟨l, vs, _, w, rfl, ry.int_inv, zdG s h1, e1, k w r2⟩)
 ·split at e
  ·rename_i z i hz
   cases q : L2.atI z.cps.toList i with
   | none => rw [q] at e; cases e
   | some ch =>
    rw [q] at e
    cases e
    exact .inr (.inr ⟨z, i, ch, rx.str_inv, ry.int_inv, Nat.le_trans hz lim, q, k _ (.str _)⟩)
  ·cases e
 ·cases e
theorem zgz {f g : M D} (ha : PE X a (tD X.K B G0 f)) (hb : PE X b (tD X.K B G0 g)) (hs : zf1 b) : PE X (.Subscript a b pos) (tD X.K B G0 (dBin oIx f g)) :=
 peof (zlX zjN ha hb hs) fun σ H Q q => tM.two q fun v u H2 G ρ x y k rx ry a => by
  obtain ⟨d, e, a⟩ := a.opt
  exact zjS k.gh rx ry e fun w r => a.now k r
def dIxN (i : Nat) (g : M D) : M D := fun ρ => match ρ[i]? with
 | some (some (.pub d)) => (zam g fun y => mOpt (oIx d y)) ρ
 | some (some (.own _)) => (zam g fun y => fun ρ' => match ρ'[i]? with | some (some (.own ds)) => mOpt (oIx (.list ds) y) ρ' | _ => .bad) ρ
 | _ => .bad
theorem zbe {i : Nat} {g : M D} (ha : PE X a (tVar i)) (hb : PE X b (tD X.K B G0 g)) (hs : zf1 b) : PE X (.Subscript a b pos) (tD X.K B G0 (dIxN i g)) :=
 peof (zlX zjN ha hb hs) fun σ H Q ⟨G, ρ, k, a⟩ => by
  unfold dIxN at a
  cases q : ρ[i]? with
  | none => rw [q] at a; exact a.elim
  | some o =>
   cases o with
   | none => rw [q] at a; exact a.elim
   | some sl =>
    cases sl with
    | pub d =>
     rw [q] at a
     obtain ⟨v, h1, h2⟩ := k.pub i d q
     refine ⟨v, h1, G, ρ, k, ?_⟩
     dsimp only [zam] at a
     cases z : g ρ with
     | bad => rw [z] at a; exact a.elim
     | ok y ρ1 =>
      rw [z] at a
      intro u G' H' k' s' r'
      obtain ⟨d', e', a'⟩ := aft.opt a
      exact zjS k'.gh (h2.mono s') r' e' fun w r => a' w G' H' k' s' r
    | own ds =>
     rw [q] at a
     obtain ⟨ad, vs, h1, h2, h3, h4, h5⟩ := k.own i ds q
     refine ⟨.ref ad, h1, G, ρ, k, ?_⟩
     dsimp only [zam] at a
     cases z : g ρ with
     | bad => rw [z] at a; exact a.elim
     | ok y ρ1 =>
      rw [z] at a
      dsimp only at a
      intro u G' H' k' s' r'
      cases z2 : ρ1[i]? with
      | none => rw [z2] at a; exact a.elim
      | some o2 =>
       cases o2 with
       | none => rw [z2] at a; exact a.elim
       | some sl2 =>
        cases sl2 with
        | pub d2 => rw [z2] at a; exact a.elim
        | own es2 =>
         rw [z2] at a
         obtain ⟨d', e', a'⟩ := aft.opt a
         obtain ⟨ad', vs', g1, g2, g3, g4, g5⟩ := k'.own i es2 z2
         rw [h1] at g1
         cases g1
         unfold oIx at e'
         cases y with
         | int j =>
          obtain ⟨w, e1, r2⟩ := g5.atI e'
          exact .inl ⟨ad, vs', j, w, rfl, r'.int_inv, SqL.of g4, e1, a' w G' H' k' s' r2⟩
         | _ => cases e'
def cutD (xs : List D) (lo hi : Option Int) : List D := (xs.drop (HT.sIx xs.length 0 lo)).take (HT.sIx xs.length xs.length hi - HT.sIx xs.length 0 lo)
theorem Reps.cut {K : PySem.W.Frag} {G : Hp} {vs : List V} {ds : List D} (r : Reps K G vs ds) (lo hi : Option Int) : Reps K G (cutV vs lo hi) (cutD ds lo hi) := by
 unfold cutV cutD
 rw [r.length]
 exact (r.drop _).take _
def za6 : D -> Option (Option Int)
 | .int i => some (some i)
 | _ => none
theorem zbh : PO X none (tOi X.K B G0 (zaf none)) := poof zkc fun σ H Q ⟨G, ρ, k, a⟩ => aft.now a k rfl
theorem zaQ {f : M D} (h : PE X e (tD X.K B G0 f)) : PO X (some e) (tOi X.K B G0 (zam f fun x => mOpt (za6 x))) := poof (zkd h) fun σ H Q q => tM.one (R := Rep X.K) q fun v H2 G ρ x k r a => by
 cases x with
 | int i => exact ⟨i, r.int_inv, aft.now (v := some i) a k rfl⟩
 | _ => exact a.elim
end
end DL
namespace DL
open PySem PySem.Spec L2
open PyProof.Rows hiding St
def excK : List (D × D) -> Bool
 | (.none, _) :: _ => true
 | _ => false
def tyOf : D -> String
 | .none => "NoneType"
 | .bool _ => "bool"
 | .int _ => "int"
 | .str _ => "str"
 | .list _ => "list"
 | .tuple _ => "tuple"
 | .dict kvs => if excK kvs = true then "" else "dict"
def isTy (d : D) (c : String) : Bool := tyOf d == c || (tyOf d == "bool" && c == "int")
def zf8 : D -> Bool
 | .dict kvs => excK kvs
 | _ => false
theorem nty {kvs : List (D × D)} {c : String} (h : (("dict" == c) || ("" == c)) = false) : isTy (.dict kvs) c = false := by
 obtain ⟨h1, h2⟩ := Bool.or_eq_false_iff.mp h
 show ((if excK kvs = true then "" else "dict") == c || ((if excK kvs = true then "" else "dict") == "bool" && c == "int")) = false
 cases excK kvs with
 | true => rw [if_pos rfl, h2]; rfl
 | false => rw [if_neg (by decide), h1]; rfl
theorem zjT {ks : List Key} {ds : List D} : tyOf (.dict ((ks.map kD).zip ds)) = "dict" /\ zf8 (.dict ((ks.map kD).zip ds)) = false := by
 cases ks with
 | nil => exact ⟨rfl, rfl⟩
 | cons k ks =>
  cases ds with
  | nil => exact ⟨rfl, rfl⟩
  | cons d ds => cases k <;> exact ⟨rfl, rfl⟩
theorem zkD (K : PySem.W.Frag) (d : D) (c : String) (nx : zf8 d = false) (hc : c = "int" ∨ c = "bool" ∨ c = "str" ∨ c = "list" ∨ c = "tuple" ∨ c = "dict") : PySem.W.kitOne K (.type (tyOf d)) (.type c) = some (isTy d c) := by
 cases d with
 | dict kvs =>
  have e : tyOf (.dict kvs) = "dict" := by
   have nx : excK kvs = false := nx
   show (if excK kvs = true then "" else "dict") = _
   rw [nx]; rfl
  unfold isTy
  rw [e]
  rcases hc with rfl | rfl | rfl | rfl | rfl | rfl <;> rfl
 | _ => rcases hc with rfl | rfl | rfl | rfl | rfl | rfl <;> rfl
section
variable {X : Cx} {B G0 : Hp} {e a b c : Expr} {pos : Pos} {es rest : List Expr}
def zfw (X : Cx) (f : Value) (p : List D -> Option D) : Prop :=
 ∃ r, zdE X f r /\ ∀ vs G H ds d Q, Same G H -> Reps X.K G vs ds -> p ds = some d -> (∀ w G' H', Ext G H G' H' -> Rep X.K G' w d -> Q w H') -> r vs H Q
def zb3 (p : List D -> Option D) (f : M (List D)) : M D := zam f fun xs => mOpt (p xs)
theorem zcy {x : Str} {p2 : Pos} {id : String} {p : List D -> Option D} {f : M (List D)} (hc : zfw X (.builtin id) p) (hg : Gl X x) (hm : X.mg x = none) (hv : bootBuiltins x = some (.builtin id)) (ha : PA X (e :: es) (tDs X.K B G0 f)) (hn : x ≠ "__name__" := by decide) (hdb : (x == ("__debug__" : Str)) = false := by decide)
  (he : starEach (e :: es) X.env = (false, eval e X.env) :: starEach es X.env := by rfl) (hpl : (backTo pos (starEach es X.env)).any (·.1) = false := by rfl) : PE X (.Call (.Name x p2) (e :: es) [] pos) (tD X.K B G0 (zb3 p f)) := by
 obtain ⟨r, h, i⟩ := hc
 refine peof (zc5 h hg hm hv ha hn hdb he hpl) fun σ H Q q => tM.one (R := Reps X.K) q fun v H2 G ρ x k rr a => ?_
 obtain ⟨d, e, a⟩ := a.opt
 exact i v G H2 x d Q k.gh rr e fun w G' H' ex rw => a.done k ex rw
theorem zcz {x : Str} {p2 : Pos} {T : String} {p : List D -> Option D} {f : M (List D)} (hc : zfw X (.type T) p) (hg : Gl X x) (hm : X.mg x = none) (hv : bootBuiltins x = some (.type T)) (ha : PA X (e :: es) (tDs X.K B G0 f)) (hn : x ≠ "__name__" := by decide) (hdb : (x == ("__debug__" : Str)) = false := by decide)
  (he : starEach (e :: es) X.env = (false, eval e X.env) :: starEach es X.env := by rfl) (hpl : (backTo pos (starEach es X.env)).any (·.1) = false := by rfl) : PE X (.Call (.Name x p2) (e :: es) [] pos) (tD X.K B G0 (zb3 p f)) := by
 obtain ⟨r, h, i⟩ := hc
 refine peof (zfm h hg hm hv ha hn hdb he hpl) fun σ H Q q => tM.one (R := Reps X.K) q fun v H2 G ρ x k rr a => ?_
 obtain ⟨d, e, a⟩ := a.opt
 exact i v G H2 x d Q k.gh rr e fun w G' H' ex rw => a.done k ex rw
theorem Reps.one_inv {K : PySem.W.Frag} {G : Hp} {vs : List V} {d : D} (r : Reps K G vs [d]) : ∃ v, vs = [v] /\ Rep K G v d := by
 cases r with
 | cons h t => cases t; exact ⟨_, rfl, h⟩
theorem Reps.two_inv {K : PySem.W.Frag} {G : Hp} {vs : List V} {d d' : D} (r : Reps K G vs [d, d']) : ∃ v v', vs = [v, v'] /\ Rep K G v d /\ Rep K G v' d' := by
 cases r with
 | cons h t =>
  obtain ⟨v', rfl, r'⟩ := t.one_inv
  exact ⟨_, v', rfl, h, r'⟩
def oLen : List D -> Option D
 | [.list xs] => some (.int xs.length)
 | [.tuple xs] => some (.int xs.length)
 | [.str z] => if z.length <= 1000000 then some (.int z.length) else none
 | _ => none
theorem zmh : zfw X (.builtin "len") oLen := by
 refine ⟨_, zgu, fun vs G H ds d Q s r e k => ?_⟩
 unfold oLen at e
 split at e
 ·cases e
  obtain ⟨v, rfl, q⟩ := r.one_inv
  obtain ⟨l, ws, rfl, h1, r1⟩ := q.lst_inv
  exact ⟨.ref l, ws.length, rfl, .inl ⟨ws, s.seq h1, rfl⟩, by rw [r1.length]; exact k _ G H (.refl s) (.int _)⟩
 ·cases e
  obtain ⟨v, rfl, q⟩ := r.one_inv
  obtain ⟨l, ws, rfl, h1, r1⟩ := q.tup_inv
  exact ⟨.ref l, ws.length, rfl, .inr ⟨ws, zdG s h1, rfl⟩, by rw [r1.length]; exact k _ G H (.refl s) (.int _)⟩
 ·split at e
  ·rename_i z hz
   cases e
   obtain ⟨v, rfl, q⟩ := r.one_inv
   exact ⟨.str z, z.length, by rw [q.str_inv], ⟨Nat.le_trans hz lim, rfl⟩, k _ G H (.refl s) (.int _)⟩
  ·cases e
 ·cases e
def zjd : List D -> Option D
 | [.int i, .int j] => some (.int (if j > i then j else i))
 | _ => none
theorem zmi (hc : X.calm = true) : zfw X (.builtin "max") zjd := by
 refine ⟨_, zhw hc, fun vs G H ds d Q s r e k => ?_⟩
 unfold zjd at e
 split at e
 ·cases e
  obtain ⟨v, v', rfl, r1, r2⟩ := r.two_inv
  exact ⟨_, _, by rw [r1.int_inv, r2.int_inv], k _ G H (.refl s) (.int _)⟩
 ·cases e
def zf9 : List D -> Option D
 | [.int i] => if i.natAbs.log2 < 1920 then some (.str (toString i)) else none
 | _ => none
theorem zmj : zfw X (.type "str") zf9 := by
 refine ⟨_, zfh, fun vs G H ds d Q s r e k => ?_⟩
 unfold zf9 at e
 split at e
 ·split at e
  ·rename_i hz
   cases e
   obtain ⟨v, rfl, q⟩ := r.one_inv
   exact ⟨_, by rw [q.int_inv], hz, k _ G H (.refl s) (.str _)⟩
  ·cases e
 ·cases e
def zbu (i : Nat) : M D := fun ρ => match ρ[i]? with
 | some (some (.pub d)) => mOpt (oLen [d]) ρ
 | some (some (.own ds)) => .ok (.int ds.length) ρ
 | _ => .bad
theorem zaW {i : Nat} {p2 : Pos} (hg : Gl X "len") (hm : X.mg "len" = none) (ha : PE X e (tVar i)) (he : starEach [e] X.env = [(false, eval e X.env)] := by rfl) : PE X (.Call (.Name "len" p2) [e] [] pos) (tD X.K B G0 (zbu i)) := by
 refine peof (zc5 zgu hg hm PySem.boot_len (zbS ha zdk (by rw [he]; rfl)) (by decide) (by decide) (by rw [he]; rfl) rfl) fun σ H Q ⟨G, ρ, k, a⟩ => ?_
 unfold zbu at a
 cases q : ρ[i]? with
 | none => rw [q] at a; exact a.elim
 | some o =>
  cases o with
  | none => rw [q] at a; exact a.elim
  | some sl =>
   cases sl with
   | pub d =>
    rw [q] at a
    obtain ⟨v, h1, h2⟩ := k.pub i d q
    refine ⟨v, h1, ?_⟩
    obtain ⟨d', e', a'⟩ := aft.opt a
    obtain ⟨r, hr, ir⟩ := @zmh X
    show ∃ x n, [v] = [x] /\ LenV X.K x H n /\ Q (.int n) H
    unfold oLen at e'
    split at e'
    ·rename_i xs he'
     injection he' with he1 he2
     subst he1
     cases e'
     obtain ⟨l, ws, rfl, g1, r1⟩ := h2.lst_inv
     exact ⟨.ref l, ws.length, rfl, .inl ⟨ws, k.gh.seq g1, rfl⟩, by rw [r1.length]; exact a'.now k (.int _)⟩
    ·rename_i xs he'
     injection he' with he1 he2
     subst he1
     cases e'
     obtain ⟨l, ws, rfl, g1, r1⟩ := h2.tup_inv
     exact ⟨.ref l, ws.length, rfl, .inr ⟨ws, zdG k.gh g1, rfl⟩, by rw [r1.length]; exact a'.now k (.int _)⟩
    ·rename_i z he'
     injection he' with he1 he2
     subst he1
     split at e'
     ·rename_i hz
      cases e'
      exact ⟨.str z, z.length, by rw [h2.str_inv], ⟨Nat.le_trans hz lim, rfl⟩, a'.now k (.int _)⟩
     ·cases e'
    ·cases e'
   | own ds =>
    rw [q] at a
    obtain ⟨ad, vs, h1, g2, g3, h4, h5⟩ := k.own i ds q
    exact ⟨.ref ad, h1, .ref ad, vs.length, rfl, .inl ⟨vs, SqL.of h4, rfl⟩, by rw [h5.length]; exact aft.now a k (.int _)⟩
theorem zkE {pins : List (Addr × Obj)} {s : Shared} {σ : St} {G H : Hp} {v : V} {u : Value} {d : D} {cv : Value} {t : Bool} {A : Around} {E : Value -> Shared -> Prop} {Q : Value -> Shared -> Prop} (I : Inv X pins σ H s) (sg : Same G H) (r : Rep X.K G v d) (rv : RelV v u) (nx : zf8 d = false)
  (ek : PySem.W.kitOne X.K (.type (tyOf d)) cv = some t) (h : ∀ tk, Q (.bool t) { s with toks := tk }) : wpAny (model X.prog X.w) A (call (.builtin "isinstance") [u, cv]) Q E s := by
 cases r with
 | non => cases rv; exact PySem.W.kia_one PySem.W.kitx_none I.kIn True.intro ek (fun z => nomatch z) h
 | bl y => cases rv; exact PySem.W.kia_one PySem.W.kitx_bool I.kIn True.intro ek (fun z => nomatch z) h
 | int i => obtain ⟨t', rfl⟩ := rv; exact PySem.W.kia_one PySem.W.kitx_int I.kIn True.intro ek (fun z => nomatch z) h
 | str y => obtain ⟨t', rfl⟩ := rv; exact PySem.W.kia_one PySem.W.kitx_str I.kIn True.intro ek (fun z => nomatch z) h
 | lst hl _ =>
  cases rv
  obtain ⟨its, r, ⟨o, n, e, hc, _, hd⟩, hz⟩ := I.list (sg.seq hl)
  exact PySem.W.kia_one PySem.W.kitx_list I.kIn ⟨o, e, hc⟩ ek (fun z => nomatch z) h
 | tup hl _ =>
  cases rv
  obtain ⟨its, r, p, hz⟩ := I.tuple (zdG sg hl)
  obtain ⟨o, e, hc, _⟩ := p
  exact PySem.W.kia_one PySem.W.kitx_tuple I.kIn ⟨o, e, hc⟩ ek (fun z => nomatch z) h
 | @dic ad hd =>
  cases rv
  obtain ⟨_, _, vs, _, p⟩ := (show zcw X.prog X.w H s.heap ad (.dK []) from I.hok ad _ (sg _ _ hd))
  obtain ⟨o, es, ep, h1, h2, _⟩ := p
  exact PySem.W.kia_one PySem.W.kitx_dict I.kIn ⟨o, h1, h2.1⟩ ek (fun z => nomatch z) h
 | exc _ _ _ _ => cases nx
 | @dct ad ks vs ds kvs e0 _ _ hd _ =>
  cases rv
  subst e0
  rw [zjT.1] at ek
  obtain ⟨_, _, vs, _, p⟩ := (show zcw X.prog X.w H s.heap ad (.dK (ks.zip _)) from I.hok ad _ (sg _ _ hd))
  obtain ⟨o, es, ep, h1, h2, _⟩ := p
  exact PySem.W.kia_one PySem.W.kitx_dict I.kIn ⟨o, h1, h2.1⟩ ek (fun z => nomatch z) h
theorem zkF (c : String) (hc : c = "int" ∨ c = "bool" ∨ c = "str" ∨ c = "list" ∨ c = "tuple" ∨ c = "dict") : typeOf (.type c) = pure (.type "type") := by
 rcases hc with rfl | rfl | rfl | rfl | rfl | rfl <;> kernel_rfl
theorem zje : zdE X (.builtin "isinstance") (fun xs H Q => ∃ v c G d, xs = [v, .ty c] /\ Same G H /\ Rep X.K G v d /\ (c = "int" ∨ c = "bool" ∨ c = "str" ∨ c = "list" ∨ c = "tuple" ∨ c = "dict") /\ Q (.bl (isTy d c)) H) := by
 intro pins s σ H xs us Q I r h
 obtain ⟨v, c, G, d, rfl, sg, rp, hc, q⟩ := h
 obtain ⟨u, w', rfl, r1, r2⟩ := zlU r
 cases (show w' = Value.type c from r2)
 by_cases nx : zf8 d = true
 ·cases rp with
  | @exc a C dd bm nm vs ds ck hx hd rr =>
   refine zeV (zfu I.ok.mod.kin) pins s σ H [.ref a, .ty c] [u, .type c] Q I r ⟨a, C, dd, bm, false, .ty c, false, rfl, ⟨nm, ck⟩, sg _ _ hx, .inr ⟨c, rfl, zkF c hc, ?_⟩, ?_⟩
   ·rw [ck.ty]; rcases hc with rfl | rfl | rfl | rfl | rfl | rfl <;> rfl
   ·have e : isTy (.dict [(.none, .tuple [.str nm, .list ds])]) c = false := by rcases hc with rfl | rfl | rfl | rfl | rfl | rfl <;> rfl
    rw [e] at q; exact q
  | dct e _ _ _ _ => subst e; rw [zjT.2] at nx; cases nx
  | _ => cases nx
 ·have nx : zf8 d = false := by simpa using nx
  exact zkE I sg rp r1 nx (zkD X.K d c nx hc) fun tk => ⟨.bl _, H, I.tok tk, rfl, q⟩
theorem zcc : bootBuiltins "isinstance" = some (.builtin "isinstance") := by decide +kernel
theorem zaL {f : M D} {p2 p3 : Pos} {c : String} (hc : c = "int" ∨ c = "bool" ∨ c = "str" ∨ c = "list" ∨ c = "tuple" ∨ c = "dict") (hg : Gl X "isinstance") (hm : X.mg "isinstance" = none) (hg2 : Gl X (Str.ofString c)) (hm2 : X.mg (Str.ofString c) = none)
  (hv2 : bootBuiltins (Str.ofString c) = some (.type c)) (ha : PE X e (tD X.K B G0 f)) (hn2 : (Str.ofString c) ≠ "__name__") (hd2 : ((Str.ofString c) == ("__debug__" : Str)) = false)
  (hs : starEach [e, .Name (Str.ofString c) p3] X.env = (false, eval e X.env) :: starEach [.Name (Str.ofString c) p3] X.env := by rfl)
  (hs2 : starEach [.Name (Str.ofString c) p3] X.env = [(false, eval (.Name (Str.ofString c) p3) X.env)] := by rfl) :
  PE X (.Call (.Name "isinstance" p2) [e, .Name (Str.ofString c) p3] [] pos) (tD X.K B G0 (mMap (fun d => .bool (isTy d c)) f)) := by
 refine peof (zc5 zje hg hm zcc (zbS ha (zbS (zhp (v := .ty c) hg2 hm2 hv2 rfl hn2 hd2) zdk (by rw [hs2]; rfl)) hs) (by decide) (by decide) hs (by rw [hs2]; rfl)) fun σ H Q q => ?_
 refine tM.one (R := Rep X.K) q fun v H2 G ρ x k r a => ?_
 exact ⟨v, c, G, x, rfl, k.gh, r, hc, aft.now a k (.bl _)⟩
end
end DL
namespace DL
open PySem PySem.Spec L2
open PyProof.Rows hiding St
def spD (K : PySem.W.Frag) (n : Nat) (F : List D -> Option D) : Sp := fun vs H Q _ => ∃ G ds d, vs.length = n /\ Same G H /\ Reps K G vs ds /\ F ds = some d /\ ∀ v G' H', Ext G H G' H' -> Rep K G' v d -> Q v H'
section
variable {K : PySem.W.Frag} {B G0 G H : Hp} {σ : St} {ρ : DEnv}
theorem EOk.exit (k : EOk K B G0 G H σ ρ) : Ext G0 B G H := ⟨k.bh, k.g0, k.gh, k.np⟩
theorem zbg {α : Type} {l : List α} {i : Nat} {x y : α} (h : (l.set i x)[i]? = some y) : y = x := by
 by_cases hl : i < l.length
 ·rw [List.getElem?_set_self hl] at h; cases h; rfl
 ·rw [List.getElem?_eq_none (by rw [List.length_set]; omega)] at h; cases h
theorem EOk.setPub {i : Nat} {v : V} {d : D} (k : EOk K B G0 G H σ ρ) (r : Rep K G v d) (hi : i < ρ.length) : EOk K B G0 G H (σ.set i (some v)) (ρ.set i (some (.pub d))) where
 bh := k.bh
 gh := k.gh
 g0 := k.g0
 np := k.np
 len := by rw [List.length_set, List.length_set]; exact k.len
 pub := fun j d' q => by
  by_cases z : i = j
  ·subst z
   have := zbg q
   cases this
   exact ⟨v, List.getElem?_set_self (by rw [← k.len]; exact hi), r⟩
  ·rw [List.getElem?_set_ne z] at q ⊢
   exact k.pub j d' q
 own := fun j ds q => by
  by_cases z : i = j
  ·subst z
   have := zbg q
   cases this
  ·rw [List.getElem?_set_ne z] at q ⊢
   exact k.own j ds q
 sep := fun j l c es fs q1 q2 s1 s2 => by
  have z1 : i ≠ j := fun z => by subst z; have := zbg q1; cases this
  have z2 : i ≠ l := fun z => by subst z; have := zbg q2; cases this
  rw [List.getElem?_set_ne z1] at q1 s1
  rw [List.getElem?_set_ne z2] at q2 s2
  exact k.sep j l c es fs q1 q2 s1 s2
structure NewL (K : PySem.W.Frag) (B G H : Hp) (σ : St) (ρ : DEnv) (a : Addr) (vs : List V) (ds : List D) : Prop where
 b : B a = none
 g : G a = none
 h : H a = some (.lst vs)
 r : Reps K G vs ds
 f : ∀ (j : Nat) es, ρ[j]? = some (some (.own es)) -> σ[j]? ≠ some (some (.ref a))
theorem EOk.setOwn {i : Nat} {a : Addr} {vs : List V} {ds : List D} (k : EOk K B G0 G H σ ρ) (n : NewL K B G H σ ρ a vs ds) (hi : i < ρ.length) : EOk K B G0 G H (σ.set i (some (.ref a))) (ρ.set i (some (.own ds))) where
 bh := k.bh
 gh := k.gh
 g0 := k.g0
 np := k.np
 len := by rw [List.length_set, List.length_set]; exact k.len
 pub := fun j d' q => by
  by_cases z : i = j
  ·subst z
   have := zbg q
   cases this
  ·rw [List.getElem?_set_ne z] at q ⊢
   exact k.pub j d' q
 own := fun j es q => by
  by_cases z : i = j
  ·subst z
   have := zbg q
   cases this
   exact ⟨a, vs, List.getElem?_set_self (by rw [← k.len]; exact hi), n.b, n.g, n.h, n.r⟩
  ·rw [List.getElem?_set_ne z] at q ⊢
   exact k.own j es q
 sep := fun j l c es fs q1 q2 s1 s2 => by
  have hs : i < σ.length := by rw [← k.len]; exact hi
  by_cases z1 : i = j
  ·subst z1
   rw [List.getElem?_set_self hs] at s1
   cases s1
   by_cases z2 : i = l
   ·exact z2
   ·rw [List.getElem?_set_ne z2] at q2 s2
    exact absurd s2 (n.f l fs q2)
  ·by_cases z2 : i = l
   ·subst z2
    rw [List.getElem?_set_self hs] at s2
    cases s2
    rw [List.getElem?_set_ne z1] at q1 s1
    exact absurd s1 (n.f j es q1)
   ·rw [List.getElem?_set_ne z1] at q1 s1
    rw [List.getElem?_set_ne z2] at q2 s2
    exact k.sep j l c es fs q1 q2 s1 s2
theorem EOk.change {i : Nat} {a : Addr} {vs : List V} {ds es : List D} (k : EOk K B G0 G H σ ρ) (q : ρ[i]? = some (some (.own ds))) (ha : σ[i]? = some (some (.ref a))) (r : Reps K G vs es) :
  EOk K B G0 G (upd H a (.lst vs)) σ (ρ.set i (some (.own es))) := by
 obtain ⟨a', ws, h1, h2, h3, h4, h5⟩ := k.own i ds q
 rw [ha] at h1
 cases h1
 have hi : i < ρ.length := (List.getElem?_eq_some_iff.mp q).1
 refine ⟨fun b o e => ?_, fun b o e => ?_, k.g0, k.np, by rw [List.length_set]; exact k.len, fun j d' e => ?_, fun j fs e => ?_, fun j l c fs gs q1 q2 s1 s2 => ?_⟩
 ·rw [zaG (za4 e h2)]; exact k.bh b o e
 ·rw [zaG (za4 e h3)]; exact k.gh b o e
 ·by_cases z : i = j
  ·subst z
   have := zbg e
   cases this
  ·rw [List.getElem?_set_ne z] at e
   exact k.pub j d' e
 ·by_cases z : i = j
  ·subst z
   have := zbg e
   cases this
   exact ⟨a, vs, ha, h2, h3, zaz, r⟩
  ·rw [List.getElem?_set_ne z] at e
   obtain ⟨c, us, g1, g2, g3, g4, g5⟩ := k.own j fs e
   have zc : c ≠ a := fun w => z (k.sep i j a ds fs q e ha (by rw [← w]; exact g1))
   exact ⟨c, us, g1, g2, g3, by rw [zaG zc]; exact g4, g5⟩
 ·have f : ∀ {m : Nat} {ts : List D}, (ρ.set i (some (Sl.own es)))[m]? = some (some (.own ts)) -> ∃ ts', ρ[m]? = some (some (.own ts')) := fun {m ts} e => by
   by_cases z : i = m
   ·subst z; exact ⟨ds, q⟩
   ·rw [List.getElem?_set_ne z] at e; exact ⟨ts, e⟩
  obtain ⟨f1, w1⟩ := f q1
  obtain ⟨f2, w2⟩ := f q2
  exact k.sep j l c f1 f2 w1 w2 s1 s2
end
inductive Out where
 | nx (ρ : DEnv) | rt (d : D) | bk (ρ : DEnv) | ct (ρ : DEnv) | ex (ρ : DEnv) (d : D) | bad
abbrev SM := DEnv -> Out
section
variable (K : PySem.W.Frag) (B G0 : Hp) (KX : XW)
def aftS (o : Out) (G1 : Hp) (Dn : Ends) : Prop :=
 match o with
 | .nx ρ => ∀ σ G H, EOk K B G0 G H σ ρ -> Same G1 G -> Dn.nx σ H
 | .bk ρ => ∀ σ G H, EOk K B G0 G H σ ρ -> Same G1 G -> Dn.bk σ H
 | .ct ρ => ∀ σ G H, EOk K B G0 G H σ ρ -> Same G1 G -> Dn.ct σ H
 | .rt d => ∀ v G H, Ext G0 B G H -> Rep K G v d -> Dn.rt v H
 | .ex ρ d => ∀ v σ G H, EOk K B G0 G H σ ρ -> Same G1 G -> Rep K G v d -> KX v σ H
 | .bad => False
def tS (g : SM) : TS := fun Dn σ H => ∃ G ρ, EOk K B G0 G H σ ρ /\ aftS K B G0 KX (g ρ) G Dn
def sB {α : Type} (f : M α) (g : α -> SM) : SM := fun ρ => match f ρ with | .ok a ρ' => g a ρ' | .bad => .bad
end
section
variable {X : Cx} {B G0 : Hp} {KX : XW} {e a b c : Expr} {pos : Pos} {es rest : List Expr} {st : Stmt} {sts sts2 : List Stmt}
theorem aftS.mono {K : PySem.W.Frag} {o : Out} {G G' : Hp} {Dn : Ends} (e : Same G G') (h : aftS K B G0 KX o G Dn) : aftS K B G0 KX o G' Dn := by
 cases o with
 | nx ρ => exact fun σ G2 H2 k s => h σ G2 H2 k (e.trans s)
 | bk ρ => exact fun σ G2 H2 k s => h σ G2 H2 k (e.trans s)
 | ct ρ => exact fun σ G2 H2 k s => h σ G2 H2 k (e.trans s)
 | rt d => exact h
 | ex ρ d => exact fun v σ G2 H2 k s r => h v σ G2 H2 k (e.trans s) r
 | bad => exact h
theorem tS.bnd {K : PySem.W.Frag} {α γ : Type} {R : Hp -> γ -> α -> Prop} {f : M α} {g : α -> SM} {Dn : Ends} {σ : St} {H : Hp} {P : γ -> Hp -> Prop} (q : tS K B G0 KX (sB f g) Dn σ H)
  (i : ∀ v H' G' ρ' x, EOk K B G0 G' H' σ ρ' -> R G' v x -> aftS K B G0 KX (g x ρ') G' Dn -> P v H') : tM K B G0 R f σ H P := by
 obtain ⟨G, ρ, k, a⟩ := q
 refine ⟨G, ρ, k, ?_⟩
 unfold sB at a
 cases z : f ρ with
 | bad => rw [z] at a; exact a.elim
 | ok d ρ1 =>
  rw [z] at a
  exact fun v G' H' e s r => i v H' G' ρ1 d e r (aftS.mono s a)
def sNx : SM := fun ρ => .nx ρ
def sSeq (g h : SM) : SM := fun ρ => match g ρ with | .nx ρ' => h ρ' | o => o
theorem za5 : PSs X [] (tS X.K B G0 KX sNx) := zma zj2 fun D σ H ⟨G, ρ, k, a⟩ => a σ G H k (.refl _)
theorem zal {g h : SM} (h1 : PS X st (tS X.K B G0 KX g)) (h2 : PSs X sts (tS X.K B G0 KX h)) : PSs X (st :: sts) (tS X.K B G0 KX (sSeq g h)) := zma (zeQ h1 h2) fun D σ H ⟨G, ρ, k, a⟩ => by
 refine ⟨G, ρ, k, ?_⟩
 unfold sSeq at a
 cases z : g ρ with
 | nx ρ1 => rw [z] at a; exact fun σ' G' H' k' s' => ⟨G', ρ1, k', aftS.mono s' a⟩
 | rt d => rw [z] at a; exact a
 | bk ρ1 => rw [z] at a; exact a
 | ct ρ1 => rw [z] at a; exact a
 | ex ρ1 d => rw [z] at a; exact a
 | bad => rw [z] at a; exact a.elim
theorem zax {g : SM} (h1 : PS X st (tS X.K B G0 KX g)) : PSs X [st] (tS X.K B G0 KX g) := zfX h1
def sRet (f : M D) : SM := sB f fun d _ => .rt d
theorem zaP {f : M D} (h : PE X e (tD X.K B G0 f)) : PS X (.Return (some e) pos) (tS X.K B G0 KX (sRet f)) := psof (zlI h) fun D σ H q => tS.bnd (R := Rep X.K) q fun v H' G' ρ' x k r a => a v G' H' k.exit r
def sIf (f : M Bool) (g h : SM) : SM := sB f fun t => if t = true then g else h
theorem zbz {f : M Bool} {g h : SM} (hc : PT X c (tBo X.K B G0 f)) (ha : PSs X sts (tS X.K B G0 KX g)) (hb : PSs X sts2 (tS X.K B G0 KX h)) : PS X (.If c sts sts2 pos) (tS X.K B G0 KX (sIf f g h)) :=
 psof (zm0 hc ha hb) fun D σ H q => tS.bnd (R := fun _ b c => b = c) q fun v H' G' ρ' x k r a => by
  have r : v = x := r
  subst r
  cases v with
  | true => exact ⟨G', ρ', k, a⟩
  | false => exact ⟨G', ρ', k, a⟩
def tG (K : PySem.W.Frag) (B G0 : Hp) (s : D -> DEnv -> Option DEnv) : TG := fun v σ H Q => ∃ G ρ d ρ', EOk K B G0 G H σ ρ /\ Rep K G v d /\ s d ρ = some ρ' /\ ∀ σ' G' H', EOk K B G0 G' H' σ' ρ' -> Same G G' -> Q σ' H'
def tGs (K : PySem.W.Frag) (B G0 : Hp) (s : List D -> DEnv -> Option DEnv) : TGs := fun v σ H Q => ∃ G ρ d ρ', EOk K B G0 G H σ ρ /\ Reps K G v d /\ s d ρ = some ρ' /\ ∀ σ' G' H', EOk K B G0 G' H' σ' ρ' -> Same G G' -> Q σ' H'
theorem pgof {t t' : TG} (h : PG X e t) (i : ∀ v σ H Q, t' v σ H Q -> t v σ H Q) : PG X e t' := fun pins s σ H v u Q I r q => h pins s σ H v u Q I r (i v σ H Q q)
theorem zmk {t t' : TGs} (h : PGs X es t) (i : ∀ v σ H Q, t' v σ H Q -> t v σ H Q) : PGs X es t' := fun pins s σ H v u Q I r q => h pins s σ H v u Q I r (i v σ H Q q)
def gN (i : Nat) : D -> DEnv -> Option DEnv := fun d ρ => if i < ρ.length then some (ρ.set i (some (.pub d))) else none
theorem zaD {i : Nat} (h : PG X e (zj4 i)) : PG X e (tG X.K B G0 (gN i)) := pgof h fun v σ H Q ⟨G, ρ, d, ρ', k, r, e, q⟩ => by
 unfold gN at e
 split at e
 ·rename_i hi
  cases e
  exact q _ G H (k.setPub r hi) (.refl _)
 ·cases e
def gN0 : List D -> DEnv -> Option DEnv := fun d ρ => match d with | [] => some ρ | _ => none
def gNC (s : D -> DEnv -> Option DEnv) (t : List D -> DEnv -> Option DEnv) : List D -> DEnv -> Option DEnv := fun ds ρ => match ds with | d :: r => (s d ρ).bind (t r) | [] => none
theorem zcT : PGs X [] (tGs X.K B G0 gN0) := zmk zj5 fun v σ H Q ⟨G, ρ, d, ρ', k, r, e, q⟩ => by
 cases r with
 | nil => cases e; exact ⟨rfl, q σ G H k (.refl _)⟩
 | cons _ _ => cases e
theorem zaT {s : D -> DEnv -> Option DEnv} {t : List D -> DEnv -> Option DEnv} (h1 : PG X e (tG X.K B G0 s)) (h2 : PGs X es (tGs X.K B G0 t))
  (hs : (assignEach (e :: es) X.env).map (·.2) = assign e X.env :: (assignEach es X.env).map (·.2) := by rfl) : PGs X (e :: es) (tGs X.K B G0 (gNC s t)) := zmk (ziQ h1 h2 hs) fun v σ H Q ⟨G, ρ, d, ρ', k, r, e, q⟩ => by
 cases r with
 | nil => cases e
 | @cons w dw ws dws rw rt =>
  unfold gNC at e
  dsimp only at e
  cases z : s dw ρ with
  | none => rw [z] at e; cases e
  | some ρ1 =>
   rw [z] at e
   refine ⟨w, ws, rfl, G, ρ, dw, ρ1, k, rw, z, fun σ' G' H' k' s' => ?_⟩
   exact ⟨G', ρ1, dws, ρ', k', rt.mono s', e, fun σ2 G2 H2 k2 s2 => q σ2 G2 H2 k2 (s'.trans s2)⟩
def gT (n : Nat) (t : List D -> DEnv -> Option DEnv) : D -> DEnv -> Option DEnv := fun d ρ => match d with | .tuple ds => if ds.length = n then t ds ρ else none | _ => none
theorem zdS {k1 : Nat} {t : List D -> DEnv -> Option DEnv} {n : Nat} (hc : X.calm = true) (h : PGs X es (tGs X.K B G0 t))
  (hn : (assignEach es X.env).length = n := by rfl) (hst : (assignEach es X.env).findIdx? (·.1) = none := by rfl) : PG X (.Tuple es k1 pos) (tG X.K B G0 (gT n t)) := pgof (zlJ hc h hn hst) fun v σ H Q ⟨G, ρ, d, ρ', k, r, e, q⟩ => by
 unfold gT at e
 split at e
 ·split at e
  ·rename_i hl
   obtain ⟨ad, vs, rfl, h1, r1⟩ := r.tup_inv
   exact ⟨ad, vs, rfl, zdG k.gh h1, by rw [r1.length]; exact hl, G, ρ, _, ρ', k, r1, e, q⟩
  ·cases e
 ·cases e
def sAsg (f : M D) (s : D -> DEnv -> Option DEnv) : SM := sB f fun d ρ => match s d ρ with | some ρ' => .nx ρ' | none => .bad
theorem zeF {tg : Expr} {f : M D} {s : D -> DEnv -> Option DEnv} (he : PE X e (tD X.K B G0 f)) (hg : PG X tg (tG X.K B G0 s)) (hs : swapsWithSole [tg] e pos.line X.env = pure false := by rfl) (hw : swappedStores [tg] e X.env = pure none := by rfl)
  (h1 : (assignEach [tg] X.env).map (·.2) = [assign tg X.env] := by rfl) : PS X (.Assign [tg] e pos) (tS X.K B G0 KX (sAsg f s)) :=
 psof (zlK he hg hs hw h1) fun D σ H q => tS.bnd (R := Rep X.K) q fun v H' G' ρ' x k r a => by
  cases z : s x ρ' with
  | none => rw [z] at a; exact a.elim
  | some ρ2 => rw [z] at a; exact ⟨G', ρ', x, ρ2, k, r, z, fun σ2 G2 H2 k2 s2 => a σ2 G2 H2 k2 s2⟩
def sSet (i : Nat) (f : M D) : SM := sAsg f (gN i)
theorem za0 {i : Nat} {x : Str} {f : M D} {p2 : Pos} (hN : X.N.Nodup) (hi : X.N[i]? = some x) (hx : Loc X.env.scope x) (he : PE X e (tD X.K B G0 f)) (hs : swapsWith e (some (.Name x p2)) pos.line X.env = pure false := by rfl)
  (hf : X.fn x = true ∨ X.env.scope.names.lookup x = some .local := by first | exact .inl rfl | exact .inr rfl | assumption) : PS X (.Assign [.Name x p2] e pos) (tS X.K B G0 KX (sSet i f)) :=
 psof (zhq hN hi hx he hs hf) fun D σ H q => tS.bnd (R := Rep X.K) q fun v H' G' ρ' x k r a => by
  unfold gN at a
  split at a
  ·rename_i ρ2 hz
   split at hz
   ·rename_i hi2
    cases hz
    exact a _ G' H' (k.setPub r hi2) (.refl _)
   ·cases hz
  ·exact a.elim
def tL (K : PySem.W.Frag) (B G0 : Hp) (f : M (List D)) : TE := fun σ H Q => ∃ G ρ, EOk K B G0 G H σ ρ /\ match f ρ with
 | .ok ds ρ' => ∀ a vs G' H', EOk K B G0 G' H' σ ρ' -> Same G G' -> NewL K B G' H' σ ρ' a vs ds -> Q (.ref a) H'
 | .bad => False
def zbG (i : Nat) (f : M (List D)) : SM := sB f fun ds ρ => if i < ρ.length then .nx (ρ.set i (some (.own ds))) else .bad
theorem zb4 {i : Nat} {x : Str} {f : M (List D)} {p2 : Pos} (hN : X.N.Nodup) (hi : X.N[i]? = some x) (hx : Loc X.env.scope x) (he : PE X e (tL X.K B G0 f)) (hs : swapsWith e (some (.Name x p2)) pos.line X.env = pure false := by rfl)
  (hf : X.fn x = true ∨ X.env.scope.names.lookup x = some .local := by first | exact .inl rfl | exact .inr rfl | assumption) : PS X (.Assign [.Name x p2] e pos) (tS X.K B G0 KX (zbG i f)) :=
 psof (zhq hN hi hx he hs hf) fun D σ H ⟨G, ρ, k, a⟩ => by
  refine ⟨G, ρ, k, ?_⟩
  unfold zbG sB at a
  cases z : f ρ with
  | bad => rw [z] at a; exact a.elim
  | ok ds ρ1 =>
   rw [z] at a
   intro ad vs G' H' k' s' n
   dsimp only at a
   split at a
   ·rename_i hl
    exact a _ G' H' (k'.setOwn n hl) s'
   ·exact a.elim
theorem NewL.of {K : PySem.W.Frag} {G H : Hp} {σ : St} {ρ : DEnv} {p : Addr} {vs : List V} {ds : List D} (k : EOk K B G0 G H σ ρ) (hp : H p = none) (r : Reps K G vs ds) : NewL K B G (upd H p (.lst vs)) σ ρ p vs ds where
 b := k.bh.free hp
 g := k.gh.free hp
 h := zaz
 r := r
 f := fun j es q z => by
  obtain ⟨a, ws, h1, h2, h3, h4, h5⟩ := k.own j es q
  rw [z] at h1
  cases h1
  rw [hp] at h4; cases h4
theorem zb5 {f : M (List D)} (h : PA X es (tDs X.K B G0 f)) : PE X (.List es pos) (tL X.K B G0 (zam f fun xs => if xs.length <= 1000000 then zaf xs else fun _ => .bad)) :=
 peof (zjL h) fun σ H Q ⟨G, ρ, k, a⟩ => by
  refine ⟨G, ρ, k, ?_⟩
  unfold zam at a
  cases z : f ρ with
  | bad => rw [z] at a; exact a.elim
  | ok ds ρ1 =>
   rw [z] at a
   dsimp only at a
   intro v G' H' k' s' r
   by_cases c : ds.length <= 1000000
   ·rw [if_pos c] at a
    refine ⟨by rw [r.length]; exact Nat.le_trans c lim, fun p hp => ?_⟩
    exact a p v G' _ (k'.ext (Ext.hid k'.gh hp)) s' (NewL.of k' hp r)
   ·rw [if_neg c] at a; exact a.elim
def sApp (i : Nat) (f : M D) : SM := fun ρ0 => match ρ0[i]? with
 | some (some (.own _)) => sB f (fun d ρ => match ρ[i]? with
  | some (some (.own ds)) => if ds.length < 1000000 then .nx (ρ.set i (some (.own (ds ++ [d])))) else .bad
  | _ => .bad) ρ0
 | _ => .bad
theorem zfx {i : Nat} {f : M D} {o : Expr} {apos cpos : Pos} (ho : PE X o (tVar i)) (he : PE X e (tD X.K B G0 f))
  (hbase : attributeBase o "append" X.env (eval o X.env) = eval o X.env := by rfl)
  (hfew : ((backTo cpos (starEach [e] X.env)).all (fun x => !x.1) && (backToKw cpos (keywordEach [] X.env)).all (fun x => x.1.isSome)
   && decide ([e].length + ([] : List Keyword).length + (if ([] : List Keyword).isEmpty then 0 else 1) < 30)) = true := by rfl)
  (hline : (apos.endLine == cpos.line) = true := by rfl) (hs : starEach [e] X.env = [(false, eval e X.env)] := by rfl)
  (hsw : swapsWith (.Call (.Attribute o "append" apos) [e] [] cpos) none pos.line X.env = pure false := by rfl) :
  PS X (.Expr (.Call (.Attribute o "append" apos) [e] [] cpos) pos) (tS X.K B G0 KX (sApp i f)) :=
 psof (zeR (znb PySem.F.plainAttrs_list PySem.F.slot_list_append PySem.F.type_list_append zfp ho (zbS he zdk (by rw [hs]; rfl)) hbase hfew hline (by rw [hs]; rfl) rfl) hsw) fun D σ H ⟨G, ρ, k, a⟩ => by
  unfold sApp at a
  cases q0 : ρ[i]? with
  | none => rw [q0] at a; exact a.elim
  | some o0 =>
   cases o0 with
   | none => rw [q0] at a; exact a.elim
   | some sl0 =>
    cases sl0 with
    | pub d => rw [q0] at a; exact a.elim
    | own ds0 =>
     rw [q0] at a
     obtain ⟨ad, vs0, h1, h2, h3, h4, h5⟩ := k.own i ds0 q0
     refine ⟨.ref ad, h1, .inl ⟨rfl, _, SqL.of h4⟩, G, ρ, k, ?_⟩
     unfold sB at a
     cases z : f ρ with
     | bad => rw [z] at a; exact a.elim
     | ok d ρ1 =>
      rw [z] at a
      dsimp only at a
      intro v G' H' k' s' r'
      cases q : ρ1[i]? with
      | none => rw [q] at a; exact a.elim
      | some o =>
       cases o with
       | none => rw [q] at a; exact a.elim
       | some sl =>
        cases sl with
        | pub d => rw [q] at a; exact a.elim
        | own ds =>
         rw [q] at a
         dsimp only at a
         split at a
         ·rename_i hl
          obtain ⟨ad', vs, g1, g2, g3, g4, g5⟩ := k'.own i ds q
          rw [h1] at g1
          cases g1
          refine ⟨ad, vs, v, rfl, rfl, g4, by rw [g5.length]; exact Nat.lt_of_lt_of_le hl lim, ?_⟩
          exact a σ G' _ (k'.change q h1 (g5.append (.cons r' .nil))) s'
         ·exact a.elim
end
end DL
namespace DL
open PySem PySem.Spec L2
open PyProof.Rows hiding St
structure zeA (K : PySem.W.Frag) (J : It) (ds : List D) (G1 : Hp) : Prop where
 go : ∀ i G H, Same G1 G -> Same G H -> i < ds.length -> J.go i H
 stop : ∀ i G H, Same G1 G -> Same G H -> ds.length <= i -> J.stop i H
 yld : ∀ i G H x H' d, Same G1 G -> Same G H -> ds[i]? = some d -> J.yld i H x H' -> ∃ G', Ext G H G' H' /\ Rep K G' x d
def iD (K : PySem.W.Frag) (B G0 : Hp) (f : M (List D)) : TI := fun σ H R => ∃ G ρ, EOk K B G0 G H σ ρ /\ match f ρ with
 | .ok ds ρ' => ∀ J G' H', EOk K B G0 G' H' σ ρ' -> Same G G' -> zeA K J ds G' -> R J H'
 | .bad => False
section
variable {X : Cx} {B G0 : Hp} {KX : XW} {e a b c tg : Expr} {pos : Pos} {es rest : List Expr} {st : Stmt} {sts sts2 : List Stmt}
theorem piof {t t' : TI} (h : PI X tg e t) (i : ∀ σ H R, t' σ H R -> t σ H R) : PI X tg e t' := fun pins s σ H R I q => h pins s σ H R I (i σ H R q)
theorem tM.toI {K : PySem.W.Frag} {α γ : Type} {R0 : Hp -> γ -> α -> Prop} {f : M α} {g : α -> M (List D)} {σ : St} {H : Hp} {R : It -> Hp -> Prop} {P : γ -> Hp -> Prop} (q : iD K B G0 (zam f g) σ H R)
  (i : ∀ v H' G' ρ' x, EOk K B G0 G' H' σ ρ' -> R0 G' v x -> (match g x ρ' with
   | .ok ds ρ2 => ∀ J G2 H2, EOk K B G0 G2 H2 σ ρ2 -> Same G' G2 -> zeA K J ds G2 -> R J H2
   | .bad => False) -> P v H') : tM K B G0 R0 f σ H P := by
 obtain ⟨G, ρ, k, a⟩ := q
 refine ⟨G, ρ, k, ?_⟩
 unfold zam at a
 cases z : f ρ with
 | bad => rw [z] at a; exact a.elim
 | ok d ρ1 =>
  rw [z] at a
  intro v G' H' e s r
  refine i v H' G' ρ1 d e r ?_
  dsimp only at a
  cases z2 : g d ρ1 with
  | bad => rw [z2] at a; exact a.elim
  | ok ds ρ2 =>
   rw [z2] at a
   exact fun J G2 H2 k2 s2 it => a J G2 H2 k2 (s.trans s2) it
theorem zg5 {K : PySem.W.Frag} {G1 : Hp} {ad : Addr} {vs : List V} {ds : List D} (h : SqL K G1 ad vs) (r : Reps K G1 vs ds) : zeA K (Itl K ad) ds G1 where
 go := fun i G H s1 s2 hi => by
  have hi' : i < vs.length := by rw [r.length]; exact hi
  exact ⟨vs, vs[i], (s1.trans s2).seq h, List.getElem?_eq_getElem hi'⟩
 stop := fun i G H s1 s2 hi => ⟨vs, (s1.trans s2).seq h, by rw [r.length]; exact hi⟩
 yld := fun i G H x H' d s1 s2 e y => by
  obtain ⟨rfl, y⟩ := y
  obtain ⟨v, e1, r1⟩ := r.get e
  have := y vs ((s1.trans s2).seq h)
  rw [e1] at this
  cases this
  exact ⟨G, .refl s2, r1.mono s1⟩
def zbi (lo hi : Int) : List D := (List.range (hi - lo).toNat).map fun (k : Nat) => .int (lo + k)
theorem za9 (lo hi : Int) : (zbi lo hi).length = (hi - lo).toNat := by unfold zbi; rw [List.length_map, List.length_range]
theorem zea {K : PySem.W.Frag} {G1 : Hp} (lo hi : Int) : zeA K (Itr lo (hi - lo).toNat) (zbi lo hi) G1 where
 go := fun i G H s1 s2 h => by rw [za9] at h; exact h
 stop := fun i G H s1 s2 h => by rw [za9] at h; exact h
 yld := fun i G H x H' d s1 s2 e y => by
  obtain ⟨rfl, rfl⟩ := y
  unfold zbi at e
  rw [List.getElem?_map] at e
  have hi : i < (List.range (hi - lo).toNat).length := by
   refine Nat.lt_of_not_le fun z => ?_
   rw [List.getElem?_eq_none z] at e
   cases e
  rw [List.getElem?_eq_getElem hi, List.getElem_range] at e
  cases e
  exact ⟨G, .refl s2, .int _⟩
def zg6 : List D -> Option (List D)
 | [.int j] => if j <= 1000000 /\ -1000000 <= j then some (zbi 0 j) else none
 | _ => none
def zg7 : List D -> Option (List D)
 | [.int i, .int j] => if j <= 1000000 /\ -1000000 <= j /\ i <= 1000000 /\ -1000000 <= i then some (zbi i j) else none
 | _ => none
def zeb (f : M (List D)) : M (List D) := zam f fun x => mOpt (zg6 x)
def zjf (f : M (List D)) : M (List D) := zam f fun x => mOpt (zg7 x)
theorem zcA {f : M (List D)} {p2 : Pos} (hg : Gl X "range") (hm : X.mg "range" = none) (ha : PA X [a] (tDs X.K B G0 f)) (hs : starEach [a] X.env = [(false, eval a X.env)] := by rfl) :
  PI X tg (.Call (.Name "range" p2) [a] [] pos) (iD X.K B G0 (zeb f)) := piof (zhs hg hm ha hs) fun σ H R q => tM.toI (R0 := Reps X.K) q fun v H' G' ρ' x k r a => by
 cases z : zg6 x with
 | none => rw [z] at a; exact a.elim
 | some ds =>
  rw [z] at a
  unfold zg6 at z
  split at z
  ·split at z
   ·rename_i j c
    cases z
    obtain ⟨w, rfl, r'⟩ := r.one_inv
    refine ⟨j, by rw [r'.int_inv], by omega, by omega, ?_⟩
    have it := zea (K := X.K) (G1 := G') 0 j
    rw [Int.sub_zero] at it
    exact a _ G' H' k (.refl _) it
   ·cases z
  ·cases z
theorem zhP {f : M (List D)} {p2 : Pos} (hg : Gl X "range") (hm : X.mg "range" = none) (ha : PA X [a, b] (tDs X.K B G0 f)) (hs : starEach [a, b] X.env = [(false, eval a X.env), (false, eval b X.env)] := by rfl) (hs2 : starEach [b] X.env = [(false, eval b X.env)] := by rfl) :
  PI X tg (.Call (.Name "range" p2) [a, b] [] pos) (iD X.K B G0 (zjf f)) := piof (zht hg hm ha hs hs2) fun σ H R q => tM.toI (R0 := Reps X.K) q fun v H' G' ρ' x k r a => by
 cases z : zg7 x with
 | none => rw [z] at a; exact a.elim
 | some ds =>
  rw [z] at a
  unfold zg7 at z
  split at z
  ·split at z
   ·rename_i i j c
    cases z
    obtain ⟨w, w', rfl, r1, r2⟩ := r.two_inv
    refine ⟨i, j, by rw [r1.int_inv, r2.int_inv], ⟨by omega, by omega, by omega, by omega⟩, ?_⟩
    exact a _ G' H' k (.refl _) (zea i j)
   ·cases z
  ·cases z
def zdm (n : Nat) : List D -> List D
 | [] => []
 | d :: r => .tuple [.int n, d] :: zdm (n + 1) r
theorem zcU : ∀ (n : Nat) (ds : List D), (zdm n ds).length = ds.length
 | _, [] => rfl
 | n, d :: r => by rw [zdm, List.length_cons, List.length_cons, zcU]
theorem zfy : ∀ (n : Nat) (ds : List D) (i : Nat), (zdm n ds)[i]? = ds[i]?.map fun d => .tuple [.int ((n + i : Nat) : Int), d]
 | _, [], i => by simp [zdm]
 | n, d :: r, 0 => by simp [zdm]
 | n, d :: r, i + 1 => by
  rw [zdm, List.getElem?_cons_succ, List.getElem?_cons_succ, zfy (n + 1) r i]
  have : n + 1 + i = n + (i + 1) := by omega
  rw [this]
theorem zg8 {K : PySem.W.Frag} {G1 : Hp} {ad : Addr} {vs : List V} {ds : List D} (h : SqL K G1 ad vs) (r : Reps K G1 vs ds) : zeA K (Ite K ad) (zdm 0 ds) G1 where
 go := fun i G H s1 s2 hi => by
  rw [zcU] at hi
  have hi' : i < vs.length := by rw [r.length]; exact hi
  exact ⟨vs, vs[i], (s1.trans s2).seq h, List.getElem?_eq_getElem hi'⟩
 stop := fun i G H s1 s2 hi => by
  rw [zcU] at hi
  exact ⟨vs, (s1.trans s2).seq h, by rw [r.length]; exact hi⟩
 yld := fun i G H x H' d s1 s2 e y => by
  obtain ⟨p, v, hp, rfl, y, rfl⟩ := y
  rw [zfy] at e
  cases z : ds[i]? with
  | none => rw [z] at e; cases e
  | some d0 =>
   rw [z] at e
   cases e
   obtain ⟨w, e1, r1⟩ := r.get z
   have := y vs ((s1.trans s2).seq h)
   rw [e1] at this
   cases this
   refine ⟨upd G p (.tup [.int i, v]), Ext.new s2 hp, .tup (SqT.of zaz) (.cons ?_ (.cons ((r1.mono s1).mono (za1 (s2.free hp))) .nil))⟩
   rw [Nat.zero_add]
   exact .int _
def zhQ : List D -> Option (List D)
 | [.list ds] => some (zdm 0 ds)
 | _ => none
def zfz (f : M (List D)) : M (List D) := zam f fun x => mOpt (zhQ x)
theorem zec {f : M (List D)} {p2 : Pos} {elts : List Expr} {x1} {tp : Pos} (hg : Gl X "enumerate") (hm : X.mg "enumerate" = none) (ha : PA X [a] (tDs X.K B G0 f)) (hs : starEach [a] X.env = [(false, eval a X.env)] := by rfl) :
  PI X (.Tuple elts x1 tp) (.Call (.Name "enumerate" p2) [a] [] pos) (iD X.K B G0 (zfz f)) := piof (zkj hg hm ha hs) fun σ H R q => tM.toI (R0 := Reps X.K) q fun v H' G' ρ' x k r a => by
 cases z : zhQ x with
 | none => rw [z] at a; exact a.elim
 | some ds =>
  rw [z] at a
  unfold zhQ at z
  split at z
  ·cases z
   obtain ⟨w, rfl, r'⟩ := r.one_inv
   obtain ⟨ad, vs, rfl, h1, r1⟩ := r'.lst_inv
   exact ⟨ad, vs, rfl, k.gh.seq h1, a _ G' H' k (.refl _) (zg8 h1 r1)⟩
  ·cases z
def zbM (s : D -> DEnv -> Option DEnv) (g : SM) : List D -> SM
 | [], ρ => .nx ρ
 | d :: r, ρ => match s d ρ with
  | none => .bad
  | some ρ1 => match g ρ1 with
   | .nx ρ2 => zbM s g r ρ2
   | .ct ρ2 => zbM s g r ρ2
   | .bk ρ2 => .nx ρ2
   | .rt d => .rt d
   | .ex ρ2 d => .ex ρ2 d
   | .bad => .bad
def sFor (f : M (List D)) (s : D -> DEnv -> Option DEnv) (g : SM) : SM := sB f fun ds => zbM s g ds
theorem zcV {iter : Expr} {body : List Stmt} {f : M (List D)} {s : D -> DEnv -> Option DEnv} {g : SM} (hp : PassesOwn (model X.prog X.w) X.A X.env X.xe) (hc : X.calm = true) (hi : PI X tg iter (iD X.K B G0 f)) (hg : PG X tg (tG X.K B G0 s)) (hb : PSs X body (tS X.K B G0 KX g))
  (hs : ∀ x, foldedSetIterable iter X.env x = pure x := by intro _; rfl) : PS X (.For tg iter body [] pos) (tS X.K B G0 KX (sFor f s g)) :=
 psof (zlL hp hc hi hg hb hs) fun Dn σ H ⟨G, ρ, k, a⟩ => by
  refine ⟨G, ρ, k, ?_⟩
  unfold sFor sB at a
  cases z : f ρ with
  | bad => rw [z] at a; exact a.elim
  | ok ds ρ1 =>
   rw [z] at a
   dsimp only at a ⊢
   intro J G1 H1 k1 s1 it
   refine ⟨fun i m σ' H' => m = ds.length - i /\ ∃ G' ρ', EOk X.K B G0 G' H' σ' ρ' /\ Same G1 G' /\ aftS X.K B G0 KX (zbM s g (ds.drop i) ρ') G' Dn, ⟨ds.length, by omega, G1, ρ1, k1, .refl _, by rw [List.drop_zero]; exact aftS.mono s1 a⟩, ?_⟩
   rintro i m σ' H' ⟨rfl, G', ρ', k', s', a'⟩
   by_cases hi : i < ds.length
   ·right
    refine ⟨it.go i G' H' s' k'.gh hi, fun σ2 H2 => ∃ G2 ρ2, EOk X.K B G0 G2 H2 σ2 ρ2 /\ Same G1 G2 /\ aftS X.K B G0 KX (zbM s g (ds.drop (i + 1)) ρ2) G2 Dn, fun σ2 H2 h2 => ⟨ds.length - (i + 1), by omega, rfl, h2⟩, fun x H2 y => ?_⟩
    obtain ⟨G2, ex, rx⟩ := it.yld i G' H' x H2 ds[i] s' k'.gh (List.getElem?_eq_getElem hi) y
    rw [List.drop_eq_getElem_cons hi, zbM] at a'
    cases z2 : s ds[i] ρ' with
    | none => rw [z2] at a'; exact a'.elim
    | some ρ2 =>
     rw [z2] at a'
     dsimp only at a'
     refine ⟨G2, ρ', ds[i], ρ2, k'.ext ex, rx, z2, fun σ3 G3 H3 k3 s3 => ⟨G3, ρ2, k3, ?_⟩⟩
     have s13 : Same G1 G3 := (s'.trans ex.g).trans s3
     cases z3 : g ρ2 with
     | nx ρ3 => rw [z3] at a'; exact fun σ4 G4 H4 k4 s4 => ⟨G4, ρ3, k4, s13.trans s4, aftS.mono ((ex.g.trans s3).trans s4) a'⟩
     | ct ρ3 => rw [z3] at a'; exact fun σ4 G4 H4 k4 s4 => ⟨G4, ρ3, k4, s13.trans s4, aftS.mono ((ex.g.trans s3).trans s4) a'⟩
     | bk ρ3 => rw [z3] at a'; exact fun σ4 G4 H4 k4 s4 => a' σ4 G4 H4 k4 ((ex.g.trans s3).trans s4)
     | rt d => rw [z3] at a'; exact a'
     | ex ρ3 d => rw [z3] at a'; exact fun v σ4 G4 H4 k4 s4 r4 => a' v σ4 G4 H4 k4 ((ex.g.trans s3).trans s4) r4
     | bad => rw [z3] at a'; exact a'.elim
   ·left
    rw [List.drop_eq_nil_of_le (by omega)] at a'
    exact ⟨it.stop i G' H' s' k'.gh (by omega), a' σ' G' H' k' (.refl _)⟩
theorem zjg {k : Nat} {f : Addr} {fd : FuncData} {ps : List Str} {F : List D -> Option D} {g : M (List D)} {x : Str} {p2 : Pos} {n : Nat} (FK : FnOk X.prog X.w X.K X.mg X.base CX0 k f fd ps (spD X.K n F)) (hr : Room k X.A) (hg : Gl X x) (hm : X.mg x = some (.ref f)) (hk : PySem.W.keepIn X.K (.ref f) = true)
  (hb : zc9 X.K fd ps []) (ha : PA X (e :: es) (tDs X.K B G0 g)) (hn : (e :: es).length = n) (hdb : (x == ("__debug__" : Str)) = false := by decide) (he : starEach (e :: es) X.env = (false, eval e X.env) :: starEach es X.env := by rfl) (hpl : (backTo pos (starEach es X.env)).any (·.1) = false := by rfl) :
  PE X (.Call (.Name x p2) (e :: es) [] pos) (tD X.K B G0 (zam g fun xs => if xs.length = n then mOpt (F xs) else fun _ => .bad)) :=
 peof (zka FK hr hg hm hk hb .nil zl1 ha hdb he hpl) fun σ H Q q => tM.one (R := Reps X.K) q fun v H2 G ρ ds k r a => by
  split at a
  ·rename_i hl
   obtain ⟨d, e, a⟩ := a.opt
   exact ⟨G, ds, d, by rw [List.append_nil, r.length]; exact hl, k.gh, by rw [List.append_nil]; exact r, e, fun w G' H' ex rw => a.done k ex rw⟩
  ·exact a.elim
end
def zcm (N : List Str) (ds : List D) : DEnv := (ds.map fun d => some (Sl.pub d)) ++ List.replicate (N.length - ds.length) none
theorem zgA {K : PySem.W.Frag} {N : List Str} {G H : Hp} {vs : List V} {ds : List D} (s : Same G H) (r : Reps K G vs ds) : EOk K H G G H (L2.zd5 N vs) (zcm N ds) where
 bh := .refl _
 gh := s
 g0 := .refl _
 np := fun _ _ _ n => n
 len := by unfold L2.zd5 zcm; rw [List.length_append, List.length_append, List.length_map, List.length_map, List.length_replicate, List.length_replicate, r.length]
 pub := fun i d q => by
  unfold zcm at q
  unfold L2.zd5
  by_cases hi : i < ds.length
  ·rw [List.getElem?_append_left (by rw [List.length_map]; exact hi), List.getElem?_map] at q
   cases z : ds[i]? with
   | none => rw [z] at q; cases q
   | some d' =>
    rw [z] at q
    cases q
    obtain ⟨v, e1, r1⟩ := r.get z
    refine ⟨v, ?_, r1⟩
    rw [List.getElem?_append_left (by rw [List.length_map, r.length]; exact hi), List.getElem?_map, e1]
    rfl
  ·rw [List.getElem?_append_right (by rw [List.length_map]; omega), List.getElem?_replicate] at q
   split at q <;> cases q
 own := fun i es q => by
  unfold zcm at q
  by_cases hi : i < ds.length
  ·rw [List.getElem?_append_left (by rw [List.length_map]; exact hi), List.getElem?_map] at q
   cases z : ds[i]? with
   | none => rw [z] at q; cases q
   | some d' => rw [z] at q; cases q
  ·rw [List.getElem?_append_right (by rw [List.length_map]; omega), List.getElem?_replicate] at q
   split at q <;> cases q
 sep := fun i j a es fs q _ _ _ => by
  unfold zcm at q
  by_cases hi : i < ds.length
  ·rw [List.getElem?_append_left (by rw [List.length_map]; exact hi), List.getElem?_map] at q
   cases z : ds[i]? with
   | none => rw [z] at q; cases q
   | some d' => rw [z] at q; cases q
  ·rw [List.getElem?_append_right (by rw [List.length_map]; omega), List.getElem?_replicate] at q
   split at q <;> cases q
def runD (N : List Str) (g : SM) (ds : List D) : Option D := match g (zcm N ds) with
 | .rt d => some d
 | .nx _ => some .none
 | _ => none
theorem okD {P : Program} {w : World} {K : PySem.W.Frag} {mg : Str -> Option Value} {base : Heap} {x qual : Str} {st : Stmt} {f : Addr} {fd : FuncData} {N ps : List Str} {k n : Nat} {g : SM} (F : Fun K x qual st f fd) (S : zdF N ps (zan st)) (hn : ps.length = n)
  (der : ∀ (cdv : Value) (A : Around) (outer : List Env) (s : Shared) (H : Hp) (E : XK) (B G0 : Hp), Room k (A.deeper (envOfC qual (zan st) s.heap.objs.size f cdv)) ->
   PSs (cxOf CX0 P w K mg base N qual (zan st) f cdv A outer s H E).nox (zbx st) (tS K B G0 KX0 g)) : FnOk P w K mg base CX0 (k + 1) f fd ps (spD K n (runD N g)) := by
 refine F.ok S (fun vs H Q E h => ?_) (fun cdv A outer s H vs Q E hr h => ?_)
 ·obtain ⟨_, _, _, hl, _⟩ := h
  rw [hl, hn]
 ·obtain ⟨G, ds, d, hl, sg, r, hF, q⟩ := h
  refine ⟨_, der cdv A outer s H E H G hr, G, zcm N ds, zgA sg r, ?_⟩
  unfold runD at hF
  cases z : g (zcm N ds) with
  | rt d' =>
   rw [z] at hF
   cases hF
   exact fun v G' H' ex rr => q v G' H' ex rr
  | nx ρ =>
   rw [z] at hF
   cases hF
   exact fun σ' G' H' k' _ => q .non G' H' k'.exit .non
  | bk ρ => rw [z] at hF; cases hF
  | ct ρ => rw [z] at hF; cases hF
  | ex ρ d => rw [z] at hF; cases hF
  | bad => rw [z] at hF; cases hF
end DL
namespace DL
open PySem PySem.Spec L2
open PyProof.Rows hiding St
section
variable {X : Cx} {B G0 : Hp} {e a b c tg : Expr} {pos : Pos} {es rest : List Expr}
def oNeg : D -> Option D
 | .int i => some (.int (-i))
 | _ => none
def dNeg (f : M D) : M D := zam f fun x => mOpt (oNeg x)
theorem zed {f : M D} (h : PE X a (tD X.K B G0 f)) : PE X (.UnaryOp .USub a pos) (tD X.K B G0 (dNeg f)) :=
 peof (zm5 zlR h) fun σ H Q q => tM.one (R := Rep X.K) q fun v H2 G ρ x k r a => by
  cases x with
  | int i => exact ⟨i, r.int_inv, aft.now a k (.int _)⟩
  | _ => exact a.elim
end
def Def (P : Program) (w : World) (K : PySem.W.Frag) (mg : Str -> Option Value) (base : Heap) (x : Str) (k n : Nat) (F : List D -> Option D) : Prop :=
 ∃ (f : Addr) (fd : FuncData) (ps : List Str), mg x = some (.ref f) /\ PySem.W.keepIn K (.ref f) = true /\ zc9 K fd ps [] /\ FnOk P w K mg base CX0 k f fd ps (spD K n F)
def dFun (n : Nat) (F : List D -> Option D) (g : M (List D)) : M D := zam g fun xs => if xs.length = n then mOpt (F xs) else fun _ => .bad
section
variable {X : Cx} {B G0 : Hp} {e : Expr} {pos : Pos} {es : List Expr}
theorem zkG {k n : Nat} {F : List D -> Option D} {g : M (List D)} {x : Str} {p2 : Pos} (d : Def X.prog X.w X.K X.mg X.base x k n F) (hr : Room k X.A) (hg : Gl X x) (ha : PA X (e :: es) (tDs X.K B G0 g)) (hn : (e :: es).length = n := by rfl)
  (hdb : (x == ("__debug__" : Str)) = false := by decide) (he : starEach (e :: es) X.env = (false, eval e X.env) :: starEach es X.env := by rfl) (hpl : (backTo pos (starEach es X.env)).any (·.1) = false := by rfl) :
  PE X (.Call (.Name x p2) (e :: es) [] pos) (tD X.K B G0 (dFun n F g)) := by
 obtain ⟨f, fd, ps, h1, h2, h3, h4⟩ := d
 exact zjg h4 hr hg h1 h2 h3 ha hn hdb he hpl
end
theorem Def.mk {P : Program} {w : World} {K : PySem.W.Frag} {mg : Str -> Option Value} {base : Heap} {x : Str} {k n : Nat} {F : List D -> Option D} {st : Stmt} {f : Addr} {fd : FuncData} {ps : List Str} (hm : mg x = some (.ref f)) (FU : Fun K x x st f fd) (hb : zc9 K fd ps []) (ok : FnOk P w K mg base CX0 k f fd ps (spD K n F)) :
  Def P w K mg base x k n F := ⟨f, fd, ps, hm, FU.kp, hb, ok⟩
theorem zml {K : PySem.W.Frag} {H : Hp} {a : Addr} {ns : List Int} {F : List D -> Option D} {E : XK} (hS : SqL K H a (ns.map V.int)) (h : F [.list (ns.map PyData.int)] = some (.bool true)) : spD K 1 F [.ref a] H (fun v _ => v = .bl true) E :=
 ⟨H, [.list (ns.map PyData.int)], .bool true, rfl, .refl _, .cons (.lst hS (Reps.ints ns)) .nil, h, fun _ _ _ _ r => r.bl_inv⟩
end DL
namespace L2
open PySem PySem.Spec PyProof.Rows
theorem mem_of_lookup {x : Str} {k : NameKind} : ∀ {l : List (Str × NameKind)}, l.lookup x = some k -> (x, k) ∈ l
 | [], h => by cases h
 | (y, j) :: r, h => by
  rw [List.lookup_cons] at h
  split at h
  ·rename_i e
   cases h
   have : x = y := by simpa using e
   rw [this]; exact List.mem_cons_self
  ·exact List.mem_cons_of_mem _ (mem_of_lookup h)
theorem zdH {env : Env} : ∀ (l : List (Str × NameKind)) (acc : List (Str × Addr)), (∀ y ∈ l, y.2 = .free -> ∃ c, env.cells.lookup y.1 = some c) ->
  ∃ cl, (forIn l acc (fun x r => if (x.2 == NameKind.free) = true then (do let a ← cellOf env x.1; pure (ForInStep.yield ((x.1, a) :: r))) else pure (ForInStep.yield r)) : Sem (List (Str × Addr))) = pure cl /\
   (∀ x c, cl.lookup x = some c -> acc.lookup x = some c ∨ env.cells.lookup x = some c) /\ (∀ y ∈ l, y.2 = .free -> ∃ c, cl.lookup y.1 = some c) /\ (∀ x c, acc.lookup x = some c -> ∃ c', cl.lookup x = some c')
 | [], acc, _ => ⟨acc, rfl, fun _ _ h => .inl h, fun _ h => absurd h (by simp), fun x c h => ⟨c, h⟩⟩
 | (n, k) :: r, acc, h => by
  by_cases hk : k = .free
  ·subst hk
   obtain ⟨c, hc⟩ := h (n, .free) List.mem_cons_self rfl
   obtain ⟨cl, e, p1, p2, p3⟩ := zdH r ((n, c) :: acc) fun y hy => h y (List.mem_cons_of_mem _ hy)
   have hco : cellOf env n = pure c := by unfold cellOf; rw [hc]
   have key : ∀ x c', ((n, c) :: acc).lookup x = some c' -> acc.lookup x = some c' ∨ env.cells.lookup x = some c' := fun x c' q => by
    rw [List.lookup_cons] at q
    split at q
    ·rename_i e1
     cases q
     have : x = n := by simpa using e1
     subst this
     exact .inr hc
    ·exact .inl q
   have own : ((n, c) :: acc).lookup n = some c := by rw [List.lookup_cons]; simp
   refine ⟨cl, ?_, fun x c' q => ?_, fun y hy hf => ?_, fun x c' q => ?_⟩
   ·rw [List.forIn_cons]
    have : (if (((n, NameKind.free) : Str × NameKind).2 == NameKind.free) = true then (do let a ← cellOf env n; pure (ForInStep.yield ((n, a) :: acc))) else pure (ForInStep.yield acc) : Sem _) = pure (ForInStep.yield ((n, c) :: acc)) := by
     rw [if_pos (show ((n, NameKind.free).snd == NameKind.free) = true from rfl), hco]; rfl
    refine Eq.trans ?_ e
    dsimp only at this ⊢
    rw [this]
    rfl
   ·rcases p1 x c' q with z | z
    ·exact key x c' z
    ·exact .inr z
   ·rcases List.mem_cons.mp hy with z | z
    ·subst z
     exact p3 n c own
    ·exact p2 y z hf
   ·by_cases hx : x = n
    ·subst hx; exact p3 x c own
    ·refine p3 x c' ?_
     have hb : (x == n) = false := by simpa using hx
     rw [List.lookup_cons, hb]
     exact q
  ·obtain ⟨cl, e, p1, p2, p3⟩ := zdH r acc fun y hy => h y (List.mem_cons_of_mem _ hy)
   refine ⟨cl, ?_, p1, fun y hy hf => ?_, p3⟩
   ·rw [List.forIn_cons]
    have hb : (k == NameKind.free) = false := by cases k <;> first | rfl | exact absurd rfl hk
    refine Eq.trans ?_ e
    dsimp only
    rw [hb, if_neg (by decide)]
    rfl
   ·rcases List.mem_cons.mp hy with z | z
    ·subst z; exact absurd hf hk
    ·exact p2 y z hf
theorem zg9 {scope : Scope} {env : Env} (h : ∀ y ∈ scope.names, y.2 = .free -> ∃ c, env.cells.lookup y.1 = some c) :
  ∃ cl, closureFor scope env = pure cl /\ (∀ x c, cl.lookup x = some c -> env.cells.lookup x = some c) /\ ∀ y ∈ scope.names, y.2 = .free -> ∃ c, cl.lookup y.1 = some c := by
 obtain ⟨cl, e, p1, p2, _⟩ := zdH scope.names [] h
 refine ⟨cl, ?_, fun x c q => (p1 x c q).elim (fun z => by cases z) id, p2⟩
 have e2 : ((forIn scope.names [] (fun x r => if (x.2 == NameKind.free) = true then (do let a ← cellOf env x.1; pure (ForInStep.yield ((x.1, a) :: r))) else pure (ForInStep.yield r)) : Sem (List (Str × Addr))) >>= fun s => pure s) = pure cl := by
  rw [e]; rfl
 exact e2
theorem zee {env : Env} {x : Str} {k : NameKind} : ∀ {names : List (Str × NameKind)}, (names.map fun (n, k) => if (k == NameKind.free && env.scope.kind == .function && env.kindOf n == some .cell) then (n, NameKind.cell) else (n, k)).lookup x = some k ->
  names.lookup x = some k ∨ (names.lookup x = some .free /\ k = .cell)
 | [], h => by cases h
 | (n, j) :: r, h => by
  have ih := @zee env x k r
  have h : List.lookup x ((if (j == NameKind.free && env.scope.kind == .function && env.kindOf n == some .cell) = true then (n, NameKind.cell) else (n, j)) :: _) = some k := h
  cases hx : x == n with
  | true =>
   by_cases hc : (j == NameKind.free && env.scope.kind == .function && env.kindOf n == some .cell) = true
   ·rw [if_pos hc] at h
    simp only [List.lookup_cons, hx] at h ⊢
    cases h
    simp only [Bool.and_eq_true] at hc
    have : j = .free := by have := hc.1.1; cases j <;> first | rfl | cases this
    subst this
    exact .inr ⟨rfl, rfl⟩
   ·rw [if_neg hc] at h
    simp only [List.lookup_cons, hx] at h ⊢
    exact .inl h
  | false =>
   by_cases hc : (j == NameKind.free && env.scope.kind == .function && env.kindOf n == some .cell) = true
   ·rw [if_pos hc] at h
    simp only [List.lookup_cons, hx] at h ⊢
    exact ih h
   ·rw [if_neg hc] at h
    simp only [List.lookup_cons, hx] at h ⊢
    exact ih h
theorem zdT {env : Env} {x : Str} : ∀ {names : List (Str × NameKind)}, names.lookup x = some .free ->
  (names.map fun (n, k) => if (k == NameKind.free && env.scope.kind == .function && env.kindOf n == some .cell) then (n, NameKind.cell) else (n, k)).lookup x = some .free ∨
  (names.map fun (n, k) => if (k == NameKind.free && env.scope.kind == .function && env.kindOf n == some .cell) then (n, NameKind.cell) else (n, k)).lookup x = some .cell
 | [], h => by cases h
 | (n, j) :: r, h => by
  have ih := @zdT env x r
  show List.lookup x ((if (j == NameKind.free && env.scope.kind == .function && env.kindOf n == some .cell) = true then (n, NameKind.cell) else (n, j)) :: _) = _ ∨ List.lookup x ((if (j == NameKind.free && env.scope.kind == .function && env.kindOf n == some .cell) = true then (n, NameKind.cell) else (n, j)) :: _) = _
  cases hx : x == n with
  | true =>
   simp only [List.lookup_cons, hx] at h
   cases h
   by_cases hc : (NameKind.free == NameKind.free && env.scope.kind == .function && env.kindOf n == some .cell) = true
   ·rw [if_pos hc]; simp [List.lookup_cons, hx]
   ·rw [if_neg hc]; simp [List.lookup_cons, hx]
  | false =>
   simp only [List.lookup_cons, hx] at h
   by_cases hc : (j == NameKind.free && env.scope.kind == .function && env.kindOf n == some .cell) = true
   ·rw [if_pos hc]; simp only [List.lookup_cons, hx]; exact ih h
   ·rw [if_neg hc]; simp only [List.lookup_cons, hx]; exact ih h
theorem zeG {env : Env} {x : Str} : ∀ {names : List (Str × NameKind)}, names.lookup x = some .globalImplicit ->
  (names.map fun (n, k) => if (k == NameKind.free && env.scope.kind == .function && env.kindOf n == some .cell) then (n, NameKind.cell) else (n, k)).lookup x = some .globalImplicit
 | [], h => by cases h
 | (n, j) :: r, h => by
  have ih := @zeG env x r
  show List.lookup x ((if (j == NameKind.free && env.scope.kind == .function && env.kindOf n == some .cell) = true then (n, NameKind.cell) else (n, j)) :: _) = _
  cases hx : x == n with
  | true =>
   simp only [List.lookup_cons, hx] at h
   cases h
   rw [if_neg (by simp)]
   simp [List.lookup_cons, hx]
  | false =>
   simp only [List.lookup_cons, hx] at h
   by_cases hc : (j == NameKind.free && env.scope.kind == .function && env.kindOf n == some .cell) = true
   ·rw [if_pos hc]; simp only [List.lookup_cons, hx]; exact ih h
   ·rw [if_neg hc]; simp only [List.lookup_cons, hx]; exact ih h
def Cx.blk (X : Cx) (N' : List Str) (scope : Scope) (cl : List (Str × Addr)) (C : Addr) (s₀ : Shared) (H₀ : Hp) (ex : List Addr) : Cx :=
 { X with N := N', s₀ := s₀, H₀ := H₀, env := compEnvC scope cl C X.env, outer := X.stack, ex := ex, fn := fun _ => false, xe := fun _ _ => False }
section
variable {X : Cx} {N' : List Str} {scope : Scope} {cl : List (Str × Addr)} {C : Addr} {s₀ : Shared} {H₀ : Hp} {ex : List Addr} {x : Str}
theorem zkH (h : scope.names.lookup x = some .local ∨ scope.names.lookup x = some .free) : Vis (X.blk N' scope cl C s₀ H₀ ex).env.scope x := by
 rcases h with h | h
 ·exact .inl (lookup_relabel_local h)
 ·rcases zdT (env := X.env) h with z | z
  ·exact .inr (.inr z)
  ·exact .inr (.inl z)
theorem zcW (h : scope.names.lookup x = some .local) : Loc (X.blk N' scope cl C s₀ H₀ ex).env.scope x := .inl (lookup_relabel_local h)
theorem zdU (h : scope.names.lookup x = some .local) : (X.blk N' scope cl C s₀ H₀ ex).env.scope.names.lookup x = some .local := lookup_relabel_local h
theorem zjU (h : scope.names.lookup x = some .globalImplicit) : Gl (X.blk N' scope cl C s₀ H₀ ex) x := zeG h
end
def zdn (names : List (Str × NameKind)) (N N2 : List Str) (k : Nat) : Bool :=
 N2.length == N.length + k && (List.range N2.length).all fun i => match N2[i]? with
  | none => true
  | some x => match names.lookup x with
   | some .free => N[i]? == some x
   | some .local => decide (N.length <= i) && decide (i < N.length + k)
   | some .cell => false
   | _ => true
theorem zfA {names : List (Str × NameKind)} {N N2 : List Str} {k : Nat} (h : zdn names N N2 k = true) :
  N2.length = N.length + k /\ ∀ (i : Nat) x, N2[i]? = some x -> (names.lookup x = some .free -> N[i]? = some x) /\ (names.lookup x = some .local -> N.length <= i /\ i < N.length + k) := by
 unfold zdn at h
 simp only [Bool.and_eq_true, beq_iff_eq, List.all_eq_true, List.mem_range] at h
 refine ⟨h.1, fun i x e => ?_⟩
 have hi := (List.getElem?_eq_some_iff.mp e).1
 have := h.2 i hi
 rw [e] at this
 refine ⟨fun q => ?_, fun q => ?_⟩
 ·simp only [q] at this
  simpa using this
 ·simp only [q] at this
  simpa using this
end L2
namespace L2
open PySem PySem.Spec PyProof.Rows
theorem Inv.enter {X : Cx} {pins : List (Addr × Obj)} {σ : St} {H : Hp} {s3 : Shared} (I : Inv X pins σ H s3) {scope : Scope} {cl : List (Str × Addr)} {N2 : List Str} {k : Nat} {h' : Heap} {fp : List Addr} {t' : Nat} {m0 : Str -> Option Value}
  (hb : zdn scope.names X.N N2 k = true) (hkind : scope.kind = .function) (hcell : ∀ y ∈ scope.names, y.2 ≠ .cell)
  (hfree : ∀ y ∈ scope.names, y.2 = .free -> X.env.scope.names.lookup y.1 = some .cell ∨ X.env.scope.names.lookup y.1 = some .free)
  (cl1 : ∀ x c, cl.lookup x = some c -> X.env.cells.lookup x = some c) (cl2 : ∀ y ∈ scope.names, y.2 = .free -> ∃ c, cl.lookup y.1 = some c)
  (hn : h'.Ns s3.heap.objs.size m0) (hk : ∀ b o, s3.heap.get? b = some o -> h'.get? b = some o) (hf : ∀ b ∈ fp, FpOk X pins H b) (hfo : ∀ b ∈ fp, ∃ o, s3.heap.get? b = some o) :
  Inv (X.blk N2 scope cl s3.heap.objs.size s3 H fp) pins (σ ++ List.replicate k none) H { s3 with heap := h', toks := t' } := by
 obtain ⟨hl, hN⟩ := zfA hb
 have lt : ∀ b o, s3.heap.get? b = some o -> b ≠ s3.heap.objs.size := fun b o e => Nat.ne_of_lt (Heap.lt_size e)
 have ofl : ∀ x, scope.names.lookup x = some .free -> (x, NameKind.free) ∈ scope.names := fun x h => mem_of_lookup h
 have kinv : ∀ x kk, (X.blk N2 scope cl s3.heap.objs.size s3 H fp).env.scope.names.lookup x = some kk -> scope.names.lookup x = some kk ∨ (scope.names.lookup x = some .free /\ kk = .cell) := fun x kk h => zee (env := X.env) h
 have isfree : ∀ x, (X.blk N2 scope cl s3.heap.objs.size s3 H fp).env.scope.names.lookup x = some .cell ∨ (X.blk N2 scope cl s3.heap.objs.size s3 H fp).env.scope.names.lookup x = some .free -> scope.names.lookup x = some .free := fun x h => by
  rcases h with h | h
  ·rcases kinv x _ h with z | z
   ·exact absurd rfl (hcell _ (mem_of_lookup z))
   ·exact z.1
  ·rcases kinv x _ h with z | z
   ·exact z
   ·exact z.1
 have ok : (X.blk N2 scope cl s3.heap.objs.size s3 H fp).Ok :=
  {
   mod := I.ok.mod
   kind := hkind
   glob := I.ok.glob
   blt := I.ok.blt
   above := Nat.le_refl _
   inj := fun x y c a b => I.ok.inj x y c (cl1 x c a) (cl1 y c b)
   has := fun x h => cl2 (x, .free) (ofl x (isfree x h)) rfl
   cab := fun x c h => by cases h
   hd := I.ok.hd
   frames := I.ok.frames
   stk := .inl rfl
   exf := fun b hb => ⟨let ⟨o, e⟩ := hfo b hb; lt b o e, fun x c e => (hf b hb).2.2.2.2.1 x c (cl1 x c e)⟩
   bs := I.bs
   bsz := Nat.le_trans I.ok.bsz I.sz
   noex := fun b o e hb => by
    rcases (hf b hb).2.2.2.1 with z | z
    ·exact I.ok.noex b o e z
    ·exact absurd (Nat.lt_of_lt_of_le (Heap.lt_size e) (Nat.le_trans I.ok.bsz z)) (Nat.lt_irrefl _)
   exfs := fun b hb hx => by
    rcases List.mem_cons.mp (I.stkSub b hx) with z | z
    ·exact (hf b hb).2.1 z
    ·exact (hf b hb).2.2.1 z
   funs := I.stack
   frf := I.stkFree }
 refine ⟨ok, rfl, I.bare, Un.kept hk, ⟨m0, hn, fun i x v e1 e2 e3 => ?_⟩, fun x c e => ?_, I.hok.fresh (Nat.le_refl _), fun x c e => I.freeC x c (cl1 x c e), fun p hp => ?_, I.hok.kept hk, ?_⟩
 ·have nl : scope.names.lookup x ≠ some .local := fun z => by
   obtain ⟨g1, g2⟩ := (hN i x e1).2 z
   rw [← I.len] at g1 g2
   rw [List.getElem?_append_right g1, List.getElem?_replicate] at e2
   split at e2 <;> cases e2
  have fr : scope.names.lookup x = some .free := by
   rcases e3 with z | z | z
   ·rcases kinv x _ z with q | q
    ·exact absurd q nl
    ·cases q.2
   ·exact isfree x (.inl z)
   ·exact isfree x (.inr z)
  have eN := (hN i x e1).1 fr
  have hi : i < σ.length := by rw [I.len]; exact (List.getElem?_eq_some_iff.mp eN).1
  rw [List.getElem?_append_left hi] at e2
  obtain ⟨m, hm, hlk⟩ := I.loc
  have hkd := hfree _ (ofl x fr) rfl
  obtain ⟨u, r, l⟩ := hlk i x v eN e2 (.inr hkd)
  refine ⟨u, r, .inr ⟨?_, ?_⟩⟩
  ·rcases e3 with z | z | z
   ·rcases kinv x _ z with q | q
    ·exact absurd q nl
    ·cases q.2
   ·exact .inl z
   ·exact .inr z
  ·rcases l with l | ⟨_, c, ec, z⟩
   ·have : X.env.scope.names.lookup x = some .local := l.1
    rcases hkd with q | q <;> (dsimp only at q; rw [this] at q; cases q)
   ·obtain ⟨c', ec'⟩ := cl2 _ (ofl x fr) rfl
    have := cl1 _ _ ec'
    dsimp only at this ec'
    rw [ec] at this
    cases this
    obtain ⟨o, ho, hd⟩ := z
    exact ⟨c, ec', o, hk c o ho, hd⟩
 ·obtain ⟨v, o, ho, hd⟩ := I.cell x c (cl1 x c e)
  exact ⟨v, o, hk c o ho, hd⟩
 ·obtain ⟨e, n, ne, nf, d⟩ := I.pin p hp
  refine ⟨hk _ _ e, n, lt _ _ e, fun z => ?_, d⟩
  rcases List.mem_cons.mp (I.stkSub _ z) with q | q
  ·exact ne q
  ·exact nf q
 ·rw [List.length_append, List.length_replicate, I.len]
  exact hl.symm
section
variable {prog : Program} {w : World} {A : Around} {R : Result -> Shared -> Prop} {s : Shared}
end
end L2
namespace L2
open PySem PySem.Spec PyProof.Rows
abbrev nox : Value -> Shared -> Prop := fun _ _ => False
def zdo (prog : Program) (w : World) (A : Around) (tg : Expr) (ifs : List Expr) (env : Env) (it : Value) (code : Code) (W : (Shared -> Prop) -> Shared -> Prop) : Prop :=
 ∀ (R : Result -> Shared -> Prop) (I : Nat -> Shared -> Prop) (n : Nat) (s : Shared), I n s ->
  (∀ n s, I n s -> wpAny (model prog w) A (pyNext it) (fun r s₁ => match r with
   | none => R (.ok .next) s₁
   | some v => wpAny (model prog w) A (letOwnedTupleGo tg it v) (fun _ s₁' => wpAny (model prog w) A (assign tg env v) (fun _ s₂ =>
     wpAny (model prog w) A (forIn ifs true fun c r => if r = true then do let ok ← isTrue c env (eval c env); pure (ForInStep.yield ok) else pure (ForInStep.yield r)) (fun ok s₃ =>
      if ok = true then W (fun s₅ => ∃ m, m < n /\ I m s₅) s₃ else ∃ m, m < n /\ I m s₃) nox s₂) nox s₁') nox s₁) nox s) -> codeAny (model prog w) A code R s
section
variable {prog : Program} {w : World} {A : Around} {elt tg i : Expr} {ifs : List Expr} {gens : List Comprehension} {scope : Scope} {pos : Pos} {it acc : Value} {env : Env} {j : Nat}
theorem zhR (hg : gens[j]? = some ⟨tg, i, ifs, 0⟩) (hn : gens[j + 1]? = none) : zdo prog w A tg ifs env it (.compLoop (.ListComp elt gens scope pos) j it acc env)
  (fun Q s => wpAny (model prog w) A (eval elt env) (fun x s₄ => wpAny (model prog w) A (call (.builtin "list.append") [acc, x]) (fun _ s₅ => Q s₅) nox s₄) nox s) := by
 intro R I n s h turn
 refine codeAny_loop rfl I (fun n s hI => ?_) n h
 show wpAny _ A ((compTurn (.ListComp elt gens scope pos) j it acc env).onRaise (fun x => do noteFrame x env; theTreesLotGoes x)) _ _ s
 refine wpAny_noted ?_
 unfold compTurn
 dsimp only
 simp only [hg, hn]
 refine wpAny_bind (wpAny_standAt (wpAny_bind (wpAny_mono (turn n s hI) (fun r s₁ h₁ => ?_) fun _ _ h' => h'.elim)))
 cases r with
 | none => exact wpAny_pure h₁
 | some v =>
  refine wpAny_bind (wpAny_mono h₁ (fun _ s₁' h₁' => ?_) fun _ _ h' => h'.elim)
  refine wpAny_bind (wpAny_mono h₁' (fun _ s₂ h₂ => wpAny_bind (wpAny_mono h₂ (fun ok s₃ h₃ => ?_) fun _ _ h' => h'.elim)) fun _ _ h' => h'.elim)
  cases ok with
  | false => exact wpAny_pure ⟨rfl, h₃⟩
  | true => exact wpAny_bind (wpAny_bind (wpAny_mono h₃ (fun x s₄ h₄ => wpAny_bind (wpAny_mono h₄ (fun _ s₅ h₅ => wpAny_pure (wpAny_pure ⟨rfl, h₅⟩)) fun _ _ h' => h'.elim)) fun _ _ h' => h'.elim))
theorem zhS {tg1 i1 : Expr} {ifs1 : List Expr} (hg : gens[j]? = some ⟨tg, i, ifs, 0⟩) (hn : gens[j + 1]? = some ⟨tg1, i1, ifs1, 0⟩) (hs : ∀ x, foldedSetIterable i1 env x = pure x) : zdo prog w A tg ifs env it (.compLoop (.ListComp elt gens scope pos) j it acc env)
  (fun Q s => wpAny (model prog w) A (eval i1 env) (fun x s₄ => wpAny (model prog w) A (pyIter x) (fun it1 s₅ => codeAny (model prog w) A (.compStart (.ListComp elt gens scope pos) (j + 1) it1 acc env)
   (fun r s₆ => match r with | .ok _ => Q s₆ | .error _ => False) s₅) nox s₄) nox s) := by
 intro R I n s h turn
 refine codeAny_loop rfl I (fun n s hI => ?_) n h
 show wpAny _ A ((compTurn (.ListComp elt gens scope pos) j it acc env).onRaise (fun x => do noteFrame x env; theTreesLotGoes x)) _ _ s
 refine wpAny_noted ?_
 unfold compTurn
 dsimp only
 simp only [hg, hn]
 refine wpAny_bind (wpAny_standAt (wpAny_bind (wpAny_mono (turn n s hI) (fun r s₁ h₁ => ?_) fun _ _ h' => h'.elim)))
 cases r with
 | none => exact wpAny_pure h₁
 | some v =>
  refine wpAny_bind (wpAny_mono h₁ (fun _ s₁' h₁' => ?_) fun _ _ h' => h'.elim)
  refine wpAny_bind (wpAny_mono h₁' (fun _ s₂ h₂ => wpAny_bind (wpAny_mono h₂ (fun ok s₃ h₃ => ?_) fun _ _ h' => h'.elim)) fun _ _ h' => h'.elim)
  cases ok with
  | false => exact wpAny_pure ⟨rfl, h₃⟩
  | true =>
   refine wpAny_bind (wpAny_mono h₃ (fun x s₄ h₄ => wpAny_bind (wpAny_standAt (wpAny_bind (wpAny_of_eq (hs x) (wpAny_bind (wpAny_holding (wpAny_mono h₄ (fun it1 s₅ h₅ => ?_) fun _ _ h' => h'.elim))))))) fun _ _ h' => h'.elim)
   refine wpAny_bind (wpAny_runOwn (codeAny_mono h₅ fun r s₆ h₆ => ?_))
   cases r with
   | ok f => exact wpAny_pure ⟨rfl, h₆⟩
   | error x => exact h₆.elim
theorem zfB {R : Result -> Shared -> Prop} {s : Shared} (hg : gens[j]? = some ⟨tg, i, ifs, 0⟩)
  (h0 : codeAny (model prog w) A (.compLoop (.ListComp elt gens scope pos) j it acc env) R s)
  (h : wpAny (model prog w) A (pyIter it) (fun it' s' => codeAny (model prog w) A (.compLoop (.ListComp elt gens scope pos) j it' acc env) R s') nox s) :
  codeAny (model prog w) A (.compStart (.ListComp elt gens scope pos) j it acc env) R s := by
 refine codeAny_of_tree ?_
 show wpAny _ _ ((compStart (.ListComp elt gens scope pos) j it acc env).onRaise (fun x => do noteFrame x env; standAt theWindowsPlace)) _ _ s
 refine wpAny_notedAt ?_
 unfold compStart
 have hc : (clausesOf (.ListComp elt gens scope pos))[j]? = some ⟨tg, i, ifs, 0⟩ := hg
 simp only [hc]
 show wpAny _ _ (ask >>= _) _ _ s
 refine wpAny_bind (wpAny_askSetting (wpAny_ite ?_))
 split
 ·first
   | exact wpAny_bind (wpAny_pure (wpAny_pure (And.intro rfl h0)))
   | exact wpAny_pure (And.intro rfl h0)
 ·first
   | exact wpAny_bind (wpAny_rule (wpAny_bind (wpAny_standAt (wpAny_bind (wpAny_mono h (fun it' s' h' => wpAny_pure (And.intro rfl h')) fun _ _ x => x.elim)))))
   | (refine wpAny_bind (wpAny_rule ?_); show wpAny _ _ (standAt _ >>= _) _ _ s; exact wpAny_bind (wpAny_standAt (wpAny_bind (wpAny_mono h (fun it' s' h' => wpAny_pure (And.intro rfl h')) fun _ _ x => x.elim))))
end
end L2
namespace DL
open PySem PySem.Spec L2
open PyProof.Rows hiding St
def zfC : Option Sl -> Option Sl
 | some (.own _) => none
 | x => x
def zbj (ρ : DEnv) : DEnv := ρ.map zfC
theorem zhT {ρ : DEnv} {i : Nat} {d : D} (h : (zbj ρ)[i]? = some (some (.pub d))) : ρ[i]? = some (some (.pub d)) := by
 unfold zbj at h
 rw [List.getElem?_map] at h
 cases e : ρ[i]? with
 | none => rw [e] at h; cases h
 | some o =>
  rw [e] at h
  cases o with
  | none => cases h
  | some sl => cases sl with
   | pub d' => cases h; rfl
   | own ds => cases h
theorem zcB {ρ : DEnv} {i : Nat} {ds : List D} (h : (zbj ρ)[i]? = some (some (.own ds))) : False := by
 unfold zbj at h
 rw [List.getElem?_map] at h
 cases e : ρ[i]? with
 | none => rw [e] at h; cases h
 | some o =>
  rw [e] at h
  cases o with
  | none => cases h
  | some sl => cases sl with
   | pub d' => cases h
   | own ds => cases h
def zcJ (s : D -> DEnv -> Option DEnv) (t : M Bool) (g : M D) : List D -> DEnv -> List D -> Option (List D)
 | [], _, es => some es
 | d :: r, ρ, es => match s d ρ with
  | none => none
  | some ρ1 => match t ρ1 with
   | .bad => none
   | .ok b ρ2 => if b = true then (match g ρ2 with
     | .bad => none
     | .ok e ρ3 => if es.length < 1000000 then zcJ s t g r (zbj ρ3) (es ++ [e]) else none)
    else zcJ s t g r (zbj ρ2) es
def zef (f : M (List D)) (k : Nat) (s : D -> DEnv -> Option DEnv) (t : M Bool) (g : M D) : M (List D) := fun ρ => match f ρ with
 | .bad => .bad
 | .ok ds ρ1 => match zcJ s t g ds (zbj ρ1 ++ List.replicate k none) [] with
  | none => .bad
  | some es => .ok es ρ1
def PIfs (X : Cx) (ifs : List Expr) (t : TT) : Prop :=
 ∀ (pins : List (Addr × Obj)) (s : Shared) (σ : St) (H : Hp) (Q : Bool -> Hp -> Prop), Inv X pins σ H s -> t σ H Q ->
  wpAny (model X.prog X.w) X.A (forIn ifs true fun c r => if r = true then do let ok ← isTrue c X.env (eval c X.env); pure (ForInStep.yield ok) else pure (ForInStep.yield r)) (TP X pins σ Q) X.xe s
section
variable {X : Cx} {B G0 : Hp}
theorem zdI : PIfs X [] (tBo X.K B G0 (zaf true)) := fun pins s σ H Q I ⟨G, ρ, k, a⟩ => wpAny_tests_nil ⟨H, I, a true G H k (.refl _) rfl⟩
theorem zhU {c : Expr} {t : M Bool} (h : PT X c (tBo X.K B G0 t)) : PIfs X [c] (tBo X.K B G0 t) := fun pins s σ H Q I q => wpAny_tests_one (h pins s σ H Q I q)
theorem EOk.rebase {K : PySem.W.Frag} {G H : Hp} {σ : St} {ρ : DEnv} (k : EOk K B G0 G H σ ρ) : EOk K H G G H σ (zbj ρ) where
 bh := .refl _
 gh := k.gh
 g0 := .refl _
 np := fun _ _ _ n => n
 len := by unfold zbj; rw [List.length_map]; exact k.len
 pub := fun i d q => k.pub i d (zhT q)
 own := fun i ds q => (zcB q).elim
 sep := fun i j a ds es q => (zcB q).elim
theorem EOk.more {K : PySem.W.Frag} {G H : Hp} {σ : St} {ρ : DEnv} (k : EOk K H G G H σ (zbj ρ)) (n : Nat) : EOk K H G G H (σ ++ List.replicate n none) (zbj ρ ++ List.replicate n none) where
 bh := .refl _
 gh := k.gh
 g0 := .refl _
 np := fun _ _ _ n => n
 len := by rw [List.length_append, List.length_append, k.len, List.length_replicate, List.length_replicate]
 pub := fun i d q => by
  by_cases hi : i < (zbj ρ).length
  ·rw [List.getElem?_append_left hi] at q
   rw [List.getElem?_append_left (by rw [← k.len]; exact hi)]
   exact k.pub i d q
  ·rw [List.getElem?_append_right (Nat.le_of_not_lt hi), List.getElem?_replicate] at q
   split at q <;> cases q
 own := fun i ds q => by
  by_cases hi : i < (zbj ρ).length
  ·rw [List.getElem?_append_left hi] at q
   exact (zcB q).elim
  ·rw [List.getElem?_append_right (Nat.le_of_not_lt hi), List.getElem?_replicate] at q
   split at q <;> cases q
 sep := fun i j a ds es q => by
  by_cases hi : i < (zbj ρ).length
  ·rw [List.getElem?_append_left hi] at q
   exact (zcB q).elim
  ·rw [List.getElem?_append_right (Nat.le_of_not_lt hi), List.getElem?_replicate] at q
   split at q <;> cases q
theorem EOk.beside {K : PySem.W.Frag} {G H : Hp} {σ : St} {ρ : DEnv} {a : Addr} {o : HO} (k : EOk K B G0 G H σ ρ) (hg : G a = none) : EOk K (upd H a o) G G (upd H a o) σ (zbj ρ) where
 bh := .refl _
 gh := fun b u e => by rw [zaG (fun z => by subst z; rw [hg] at e; cases e)]; exact k.gh b u e
 g0 := .refl _
 np := fun _ _ _ n => n
 len := k.rebase.len
 pub := k.rebase.pub
 own := fun i ds q => (zcB q).elim
 sep := fun i j a ds es q => (zcB q).elim
theorem lim1 : 1000000 <= sizeLine := lim
def znh : Option Sl -> Option Sl
 | some (.own ds) => some (.pub (.list ds))
 | x => x
def zdp (ρ : DEnv) : DEnv := ρ.map znh
theorem zhV {ρ : DEnv} {i : Nat} {d : D} (h : (zdp ρ)[i]? = some (some (.pub d))) : ρ[i]? = some (some (.pub d)) ∨ ∃ ds, d = .list ds /\ ρ[i]? = some (some (.own ds)) := by
 unfold zdp at h
 rw [List.getElem?_map] at h
 cases e : ρ[i]? with
 | none => rw [e] at h; cases h
 | some o =>
  rw [e] at h
  cases o with
  | none => cases h
  | some sl => cases sl with
   | pub d' => cases h; exact .inl rfl
   | own ds => cases h; exact .inr ⟨ds, rfl, rfl⟩
theorem zfD {ρ : DEnv} {i : Nat} {ds : List D} (h : (zdp ρ)[i]? = some (some (.own ds))) : False := by
 unfold zdp at h
 rw [List.getElem?_map] at h
 cases e : ρ[i]? with
 | none => rw [e] at h; cases h
 | some o =>
  rw [e] at h
  cases o with
  | none => cases h
  | some sl => cases sl with
   | pub d' => cases h
   | own ds => cases h
def flat : D -> Bool
 | .none => true | .bool _ => true | .int _ => true | .str _ => true | _ => false
theorem Rep.flat {K : PySem.W.Frag} {G G' : Hp} {v : V} {d : D} (r : Rep K G v d) (h : DL.flat d = true) : Rep K G' v d := by
 cases r with
 | non => exact .non
 | bl b => exact .bl b
 | int i => exact .int i
 | str x => exact .str x
 | lst _ _ => cases h
 | tup _ _ => cases h
 | dic _ => cases h
 | exc _ _ _ _ => cases h
 | dct _ _ _ _ _ => cases h
theorem Reps.flat {K : PySem.W.Frag} {G G' : Hp} : ∀ {vs : List V} {ds : List D}, Reps K G vs ds -> ds.all DL.flat = true -> Reps K G' vs ds
 | _, _, .nil, _ => .nil
 | _, _, .cons r t, h => by
  rw [List.all_cons, Bool.and_eq_true] at h
  exact .cons (r.flat h.1) (Reps.flat t h.2)
theorem EOk.lend {K : PySem.W.Frag} {B G0 G H : Hp} {σ : St} {ρ : DEnv} {D : Addr} {o : HO} (k : EOk K B G0 G H σ ρ) (hD : H D = none) (n : Nat) : EOk K (upd H D o) H H (upd H D o) (σ ++ List.replicate n none) (zdp ρ ++ List.replicate n none) where
 bh := .refl _
 gh := za1 hD
 g0 := .refl _
 np := fun _ _ _ n => n
 len := by unfold zdp; rw [List.length_append, List.length_append, List.length_map, k.len, List.length_replicate, List.length_replicate]
 pub := fun i d q => by
  have hl : (zdp ρ).length = ρ.length := by unfold zdp; rw [List.length_map]
  by_cases hi : i < (zdp ρ).length
  ·rw [List.getElem?_append_left hi] at q
   rw [List.getElem?_append_left (by rw [← k.len, ← hl]; exact hi)]
   rcases zhV q with e | ⟨ds, rfl, e⟩
   ·obtain ⟨v, h1, h2⟩ := k.pub i d e
    exact ⟨v, h1, h2.mono k.gh⟩
   ·obtain ⟨a, vs, h1, h2, h3, h4, h5⟩ := k.own i ds e
    exact ⟨.ref a, h1, .lst (SqL.of h4) (h5.mono k.gh)⟩
  ·rw [List.getElem?_append_right (Nat.le_of_not_lt hi), List.getElem?_replicate] at q
   split at q <;> cases q
 own := fun i ds q => by
  by_cases hi : i < (zdp ρ).length
  ·rw [List.getElem?_append_left hi] at q
   exact (zfD q).elim
  ·rw [List.getElem?_append_right (Nat.le_of_not_lt hi), List.getElem?_replicate] at q
   split at q <;> cases q
 sep := fun i j a ds es q => by
  by_cases hi : i < (zdp ρ).length
  ·rw [List.getElem?_append_left hi] at q
   exact (zfD q).elim
  ·rw [List.getElem?_append_right (Nat.le_of_not_lt hi), List.getElem?_replicate] at q
   split at q <;> cases q
def zhW (f : M (List D)) (k : Nat) (s : D -> DEnv -> Option DEnv) (t : M Bool) (g : M D) : M (List D) := fun ρ => match f ρ with
 | .bad => .bad
 | .ok ds ρ1 => match zcJ s t g ds (zdp ρ1 ++ List.replicate k none) [] with
  | none => .bad
  | some es => if es.all flat = true then .ok es ρ1 else .bad
end
def zdq (s : D -> DEnv -> Option DEnv) (t : M Bool) (g : M D) : List D -> DEnv -> List D -> Option (List D × DEnv)
 | [], ρ, es => some (es, ρ)
 | d :: r, ρ, es => match s d ρ with
  | none => none
  | some ρ1 => match t ρ1 with
   | .bad => none
   | .ok b ρ2 => if b = true then (match g ρ2 with
     | .bad => none
     | .ok e ρ3 => if es.length < 1000000 then zdq s t g r (zbj ρ3) (es ++ [e]) else none)
    else zdq s t g r (zbj ρ2) es
def zcX (s0 : D -> DEnv -> Option DEnv) (t0 : M Bool) (f1 : M (List D)) (s1 : D -> DEnv -> Option DEnv) (t1 : M Bool) (g : M D) : List D -> DEnv -> List D -> Option (List D)
 | [], _, es => some es
 | d :: r, ρ, es => match s0 d ρ with
  | none => none
  | some ρ1 => match t0 ρ1 with
   | .bad => none
   | .ok b ρ2 => if b = true then (match f1 ρ2 with
     | .bad => none
     | .ok ds ρ3 => match zdq s1 t1 g ds (zbj ρ3) es with
      | none => none
      | some (es', ρ4) => zcX s0 t0 f1 s1 t1 g r ρ4 es')
    else zcX s0 t0 f1 s1 t1 g r (zbj ρ2) es
def zfE (f : M (List D)) (k : Nat) (s : D -> DEnv -> Option DEnv) (t : M Bool) (f1 : M (List D)) (s1' : D -> DEnv -> Option DEnv) (t1' : M Bool) (g : M D) : M (List D) := fun ρ => match f ρ with
 | .bad => .bad
 | .ok ds ρ1 => match zcX s t f1 s1' t1' g ds (zbj ρ1 ++ List.replicate k none) [] with
  | none => .bad
  | some es => .ok es ρ1
abbrev RdB := DEnv -> List D -> Option (List D × DEnv)
def rL (g : M D) : RdB := fun ρ es => match g ρ with
 | .bad => none
 | .ok e ρ3 => if es.length < 1000000 then some (es ++ [e], zbj ρ3) else none
def cT (s : D -> DEnv -> Option DEnv) (t : M Bool) (rd : RdB) : List D -> DEnv -> List D -> Option (List D × DEnv)
 | [], ρ, es => some (es, ρ)
 | d :: r, ρ, es => match s d ρ with
  | none => none
  | some ρ1 => match t ρ1 with
   | .bad => none
   | .ok b ρ2 => if b = true then (match rd ρ2 es with
     | none => none
     | some (es', ρ') => cT s t rd r ρ' es')
    else cT s t rd r (zbj ρ2) es
def rN (f : M (List D)) (s : D -> DEnv -> Option DEnv) (t : M Bool) (rd : RdB) : RdB := fun ρ es => match f ρ with
 | .bad => none
 | .ok ds ρ3 => cT s t rd ds (zbj ρ3) es
structure Left (Y : Cx) (D' : Addr) (pins : List (Addr × Obj)) (H G : Hp) (es' : List D) (ρ' : DEnv) (σ' : St) (H' G' : Hp) (vs' : List V) (s' : Shared) : Prop where
 inv : Inv Y pins σ' H' s'
 eok : EOk Y.K H' G' G' H' σ' ρ'
 hh : ∀ a o, a ≠ D' -> H a = some o -> H' a = some o
 gg : Same G G'
 np : ∀ a (u : MO), a ≠ D' -> H a = some u.ho -> G a = none -> G' a = none
 hd : H' D' = some (.lst vs')
 gd : G' D' = none
 rp : Reps Y.K G' vs' es'
def zhX (Y : Cx) (D' : Addr) (W : (Shared -> Prop) -> Shared -> Prop) (rd : RdB) : Prop :=
 ∀ (pins : List (Addr × Obj)) (sh : Shared) (σ : St) (B1 G1 H G : Hp) (ρ ρ' : DEnv) (vs : List V) (es es' : List D) (Q : Shared -> Prop),
  Inv Y pins σ H sh -> EOk Y.K B1 G1 G H σ ρ -> B1 D' = some (.lst vs) -> G1 D' = none -> Reps Y.K G1 vs es -> rd ρ es = some (es', ρ') ->
  (∀ σ' H' G' vs' s', Left Y D' pins B1 G1 es' ρ' σ' H' G' vs' s' -> Q s') -> W Q sh
section
variable {Y : Cx} {D' : Addr}
theorem zhY {elt : Expr} {g : M D} (hx : Y.xe = nox) (he : ∀ B1 G1, PE Y elt (tD Y.K B1 G1 g)) :
  zhX Y D' (fun Q s => wpAny (model Y.prog Y.w) Y.A (eval elt Y.env) (fun x s₄ => wpAny (model Y.prog Y.w) Y.A (call (.builtin "list.append") [.ref D', x]) (fun _ s₅ => Q s₅) nox s₄) nox s) (rL g) := by
 intro pins sh σ B1 G1 H G ρ ρ' vs es es' Q I k hD gD r z fin
 unfold rL at z
 cases zg : g ρ with
 | bad => rw [zg] at z; cases z
 | ok e ρ4 =>
 rw [zg] at z
 dsimp only at z
 split at z
 ·rename_i hle
  cases z
  have h := he B1 G1 pins sh σ H (fun v H8 => ∃ G8, EOk Y.K B1 G1 G8 H8 σ ρ4 /\ Rep Y.K G8 v e) I ⟨G, ρ, k, by unfold aft; rw [zg]; exact fun v G8 H8 k8 _ q => ⟨G8, k8, q⟩⟩
  rw [hx] at h
  refine thn h fun ev s8 ⟨v, H8, I8, rv, G8, k8, r8⟩ => ?_
  have h2 := zfp pins s8 σ H8 (.ref D') [v] (.ref D') [ev] (fun _ H9 => H9 = upd H8 D' (.lst (vs ++ [v]))) I8 rfl (.cons rv .nil) ⟨D', vs, v, rfl, rfl, k8.bh _ _ hD, by have := lim1; rw [r.length]; omega, rfl⟩
  rw [hx] at h2
  refine thn h2 fun _ s9 ⟨_, H9, I9, _, e9⟩ => ?_
  subst e9
  have g8 := k8.np _ (.l _) hD gD
  exact fin σ _ G8 _ s9 ⟨I9, k8.beside g8, fun a o z q => by rw [zaG z]; exact k8.bh a o q, k8.g0, fun a o _ q w => k8.np a o q w, zaz, g8, (r.mono k8.g0).append (.cons r8 .nil)⟩
 ·cases z
theorem zgB {tg : Expr} {ifs : List Expr} {code : Code} {W : (Shared -> Prop) -> Shared -> Prop} {s : D -> DEnv -> Option DEnv} {t : M Bool} {rd : RdB} {it : Addr} (hx : Y.xe = nox) (hc : Y.calm = true) (rule : zdo Y.prog Y.w Y.A tg ifs Y.env (.ref it) code W)
  (hg : ∀ B1 G1, PG Y tg (tG Y.K B1 G1 s)) (ht : ∀ B1 G1, PIfs Y ifs (tBo Y.K B1 G1 t)) (hb : zhX Y D' W rd)
  {pins : List (Addr × Obj)} {sh : Shared} {σ : St} {H G : Hp} {ρ ρF : DEnv} {fp : List Addr} {tn : Nat -> Heap -> Prop} {J : It} {ds es esF : List D} {vs : List V} {R : Result -> Shared -> Prop}
  (I : Inv Y pins σ H sh) (T : Turn Y.prog Y.w Y.K tg J fp it tn) (st : tn 0 sh.heap) (hf : ∀ b ∈ fp, FpOk Y pins H b)
  (k : EOk Y.K H G G H σ ρ) (its : zeA Y.K J ds G) (hD : H D' = some (.lst vs)) (gD : G D' = none) (r : Reps Y.K G vs es) (zl : cT s t rd ds ρ es = some (esF, ρF))
  (hfin : ∀ σ' H' G' vs' s', Left Y D' pins H G esF ρF σ' H' G' vs' s' -> R (.ok .next) s') : codeAny (model Y.prog Y.w) Y.A code R sh := by
 have stat : ∀ {H' : Hp}, (∀ b ∈ fp, H' b = none) -> ∀ b ∈ fp, FpOk Y pins H' b := fun hn b hb => ⟨hn b hb, (hf b hb).2⟩
 refine rule R (fun n s' => ∃ i σ' H' G' ρ' vs' es', n = ds.length - i /\ tn i s'.heap /\ (∀ b ∈ fp, H' b = none) /\ Left Y D' pins H G es' ρ' σ' H' G' vs' s' /\ cT s t rd (ds.drop i) ρ' es' = some (esF, ρF)) ds.length sh
  ⟨0, σ, H, G, ρ, vs, es, rfl, st, fun b hb => (hf b hb).1, ⟨I, k, fun _ _ _ q => q, .refl _, fun _ _ _ _ n => n, hD, gD, r⟩, by rw [List.drop_zero]; exact zl⟩ ?_
 rintro n s' ⟨i, σ', H', G', ρ', vs', es', rfl, tn', fr', ⟨I', k', sh', sg', np', hD', gD', r'⟩, zc⟩
 by_cases hlt : i < ds.length
 ·rw [List.drop_eq_getElem_cons hlt, cT] at zc
  cases zs : s ds[i] ρ' with
  | none => rw [zs] at zc; cases zc
  | some ρ2 =>
  rw [zs] at zc
  dsimp only at zc
  cases zt : t ρ2 with
  | bad => rw [zt] at zc; cases zc
  | ok b ρ3 =>
  rw [zt] at zc
  dsimp only at zc
  refine thn (T.item Y rfl rfl rfl hc i pins s' σ' H' nox I' (stat fr') tn' (its.go i G' H' sg' k'.gh hlt)) fun rr s4 ⟨u, hr, h4⟩ => ?_
  subst hr
  refine thn h4 fun _ s5 ⟨x, H5, I5, r5, y5, st5, fr5⟩ => ?_
  obtain ⟨G5, e5, rx⟩ := its.yld i G' H' x H5 ds[i] sg' k'.gh (List.getElem?_eq_getElem hlt) y5
  have h6 := hg H' G' _ s5 σ' H5 x u (fun σ6 H6 => ∃ G6, EOk Y.K H' G' G6 H6 σ6 ρ2) (I5.pinned (stat fr5) (T.obj _ _ st5)) r5 ⟨G5, ρ', ds[i], ρ2, k'.ext e5, rx, zs, fun σ6 G6 H6 k6 _ => ⟨G6, k6⟩⟩
  rw [hx] at h6
  refine thn h6 fun _ s6 ⟨σ6, H6, I6, G6, k6⟩ => ?_
  have h7 := ht H' G' _ s6 σ6 H6 (fun c H7 => c = b /\ ∃ G7, EOk Y.K H' G' G7 H7 σ6 ρ3) I6 ⟨G6, ρ2, k6, by unfold aft; rw [zt]; exact fun c G7 H7 k7 _ q => ⟨q, G7, k7⟩⟩
  rw [hx] at h7
  refine thn h7 fun ok s7 ⟨H7, I7, hb7, G7, k7⟩ => ?_
  subst hb7
  have again : ∀ {H9 : Hp} {σ9 : St} {s9 : Shared}, Inv Y (pins ++ zfg fp s5.heap) σ9 H9 s9 -> Inv Y pins σ9 H9 s9 /\ tn (i + 1) s9.heap /\ ∀ b ∈ fp, H9 b = none := fun {H9 σ9 s9} I9 => by
   refine ⟨I9.unpinned, T.keep _ _ _ st5 fun b hb o e => (I9.pin (b, o) (List.mem_append_right _ (List.mem_append_right _ (zc4 hb e)))).1, fun b hb => ?_⟩
   obtain ⟨o, e, d⟩ := T.obj _ _ st5 b hb
   exact (I9.pin (b, o) (List.mem_append_right _ (List.mem_append_right _ (zc4 hb e)))).2.1
  have lt : ds.length - (i + 1) < ds.length - i := Nat.sub_lt_sub_left hlt (Nat.lt_succ_self i)
  cases ok with
  | false =>
   rw [if_neg (by decide)] at zc ⊢
   obtain ⟨J1, J2, J3⟩ := again I7
   exact ⟨_, lt, i + 1, σ6, H7, G7, zbj ρ3, vs', es', rfl, J2, J3, ⟨J1, k7.rebase, fun a o z q => k7.bh a o (sh' a o z q), sg'.trans k7.g0, fun a o z q w => k7.np a o (sh' a _ z q) (np' a o z q w), k7.bh _ _ hD', k7.np _ (.l _) hD' gD', r'.mono k7.g0⟩, zc⟩
  | true =>
   rw [if_pos rfl] at zc ⊢
   cases ze : rd ρ3 es' with
   | none => rw [ze] at zc; cases zc
   | some pr =>
   obtain ⟨es1, ρ5⟩ := pr
   rw [ze] at zc
   refine hb _ s7 σ6 H' G' H7 G7 ρ3 ρ5 vs' es' es1 _ I7 k7 hD' gD' r' ze fun σ9 H9 G9 vs9 s9 L => ?_
   obtain ⟨J1, J2, J3⟩ := again L.inv
   exact ⟨_, lt, i + 1, σ9, H9, G9, ρ5, vs9, es1, rfl, J2, J3, ⟨J1, L.eok, fun a o z q => L.hh a o z (sh' a o z q), sg'.trans L.gg, fun a o z q w => L.np a o z (sh' a _ z q) (np' a o z q w), L.hd, L.gd, L.rp⟩, zc⟩
 ·rw [List.drop_eq_nil_of_le (Nat.le_of_not_lt hlt), cT] at zc
  cases zc
  refine thn (T.done Y rfl rfl rfl hc i pins s' σ' H' nox I' (stat fr') tn' (its.stop i G' H' sg' k'.gh (Nat.le_of_not_lt hlt))) fun rr s4 ⟨hr, I6⟩ => ?_
  subst hr
  exact hfin σ' H' G' vs' s4 ⟨I6, k', sh', sg', np', hD', gD', r'⟩
theorem zhZ {elt tg1 i1 : Expr} {ifs1 : List Expr} {gens : List Comprehension} {scope : Scope} {pos : Pos} {j : Nat} {W : Value -> (Shared -> Prop) -> Shared -> Prop} {f : M (List D)} {s : D -> DEnv -> Option DEnv} {t : M Bool} {rd : RdB} (hx : Y.xe = nox) (hc : Y.calm = true)
  (hn : gens[j + 1]? = some ⟨tg1, i1, ifs1, 0⟩) (rule : ∀ it1, zdo Y.prog Y.w Y.A tg1 ifs1 Y.env it1 (.compLoop (.ListComp elt gens scope pos) (j + 1) it1 (.ref D') Y.env) (W it1))
  (hi : ∀ B1 G1, PI Y tg1 i1 (iD Y.K B1 G1 f)) (hg : ∀ B1 G1, PG Y tg1 (tG Y.K B1 G1 s)) (ht : ∀ B1 G1, PIfs Y ifs1 (tBo Y.K B1 G1 t)) (hb : ∀ it1, zhX Y D' (W it1) rd) :
  zhX Y D' (fun Q s => wpAny (model Y.prog Y.w) Y.A (eval i1 Y.env) (fun x s₄ => wpAny (model Y.prog Y.w) Y.A (pyIter x) (fun it1 s₅ => codeAny (model Y.prog Y.w) Y.A (.compStart (.ListComp elt gens scope pos) (j + 1) it1 (.ref D') Y.env)
   (fun r s₆ => match r with | .ok _ => Q s₆ | .error _ => False) s₅) nox s₄) nox s) (rN f s t rd) := by
 intro pins sh σ B1 G1 H G ρ ρ' vs es es' Q I k hD gD r z fin
 unfold rN at z
 cases zf : f ρ with
 | bad => rw [zf] at z; cases z
 | ok ds ρ3 =>
 rw [zf] at z
 have h := hi B1 G1 pins sh σ H (fun J1 H8 => ∃ G8, EOk Y.K B1 G1 G8 H8 σ ρ3 /\ zeA Y.K J1 ds G8) I ⟨G, ρ, k, by rw [zf]; exact fun J1 G8 H8 k8 _ q => ⟨G8, k8, q⟩⟩
 rw [hx] at h
 refine thn h fun xv s8 h8 => thn h8 fun itv s9 h9 => ?_
 obtain ⟨it1, fp1, tn1, J1, H9, rfl, I9, T1, st9, f9, G9, k9, its9⟩ := h9
 have loop : codeAny (model Y.prog Y.w) Y.A (.compLoop (.ListComp elt gens scope pos) (j + 1) (.ref it1) (.ref D') Y.env) (fun r s₆ => match r with | .ok _ => Q s₆ | .error _ => False) s9 :=
  zgB hx hc (rule (.ref it1)) hg ht (hb _) I9 T1 st9 f9 k9.rebase its9 (k9.bh _ _ hD) (k9.np _ (.l _) hD gD) (r.mono k9.g0) z fun σ' H' G' vs' s' L =>
   fin σ' H' G' vs' s' ⟨L.inv, L.eok, fun a o z q => L.hh a o z (k9.bh a o q), k9.g0.trans L.gg, fun a o z q w => L.np a o z (k9.bh a _ q) (k9.np a o q w), L.hd, L.gd, L.rp⟩
 exact zfB hn loop (T1.self Y.A 0 _ _ _ st9 loop)
end
end DL
namespace DL
open PySem PySem.Spec L2
open PyProof.Rows hiding St
def zjh (Y : Cx) (e : Expr) (j : Nat) (tg : Expr) (ifs : List Expr) (rd : RdB) : Prop :=
 ∀ (D' : Addr) (it : Value), ∃ W, zdo Y.prog Y.w Y.A tg ifs Y.env it (.compLoop e j it (.ref D') Y.env) W /\ zhX Y D' W rd
section
variable {Y : Cx} {elt tg i : Expr} {ifs : List Expr} {gens : List Comprehension} {scope : Scope} {pos : Pos} {j : Nat}
theorem zcn {g : M D} (hx : Y.xe = nox) (hg : gens[j]? = some ⟨tg, i, ifs, 0⟩) (hn : gens[j + 1]? = none) (he : ∀ B1 G1, PE Y elt (tD Y.K B1 G1 g)) : zjh Y (.ListComp elt gens scope pos) j tg ifs (rL g) :=
 fun _ _ => ⟨_, zhR hg hn, zhY hx he⟩
theorem zh0 {tg1 i1 : Expr} {ifs1 : List Expr} {f : M (List D)} {s : D -> DEnv -> Option DEnv} {t : M Bool} {rd : RdB} (hx : Y.xe = nox) (hc : Y.calm = true) (hg : gens[j]? = some ⟨tg, i, ifs, 0⟩) (hn : gens[j + 1]? = some ⟨tg1, i1, ifs1, 0⟩) (hs : ∀ x, foldedSetIterable i1 Y.env x = pure x)
  (hi : ∀ B1 G1, PI Y tg1 i1 (iD Y.K B1 G1 f)) (hgt : ∀ B1 G1, PG Y tg1 (tG Y.K B1 G1 s)) (ht : ∀ B1 G1, PIfs Y ifs1 (tBo Y.K B1 G1 t)) (hb : zjh Y (.ListComp elt gens scope pos) (j + 1) tg1 ifs1 rd) : zjh Y (.ListComp elt gens scope pos) j tg ifs (rN f s t rd) :=
 fun D' _ => ⟨_, zhS hg hn hs, zhZ hx hc hn (fun it1 => (Classical.choose_spec (hb D' it1)).1) hi hgt ht (fun it1 => (Classical.choose_spec (hb D' it1)).2)⟩
end
def envB (l : Bool) (ρ : DEnv) : DEnv := match l with | true => zdp ρ | false => zbj ρ
theorem entry {K : PySem.W.Frag} {B G0 G1 H2 : Hp} {σ : St} {ρ1 : DEnv} {D : Addr} (l : Bool) (k1 : EOk K B G0 G1 H2 σ ρ1) (hfr : H2 D = none) (n : Nat) :
  ∃ Gb, EOk K (upd H2 D (.lst [])) Gb Gb (upd H2 D (.lst [])) (σ ++ List.replicate n none) (envB l ρ1 ++ List.replicate n none) /\ Same G1 Gb /\ Gb D = none /\
   ∀ (G' H' : Hp) vs es, (l = true -> es.all flat = true) -> Same Gb G' -> Same H2 H' -> Same G' H' -> (∀ a (u : MO), H2 a = some u.ho -> Gb a = none -> G' a = none) -> G' D = none -> Reps K G' vs es -> ∃ Gf, Ext G1 H2 Gf H' /\ Gf D = none /\ Reps K Gf vs es := by
 have gD : G1 D = none := k1.gh.free hfr
 cases l with
 | false => exact ⟨G1, (k1.beside gD).more n, .refl _, gD, fun G' H' vs es _ g h gh np d r => ⟨G', ⟨h, g, gh, np⟩, d, r⟩⟩
 | true => exact ⟨H2, k1.lend hfr n, k1.gh, hfr, fun G' H' vs es fl _ h _ _ _ r => ⟨G1, ⟨h, .refl _, k1.gh.trans h, fun _ _ _ n => n⟩, gD, r.flat (fl rfl)⟩⟩
def dCG (l : Bool) (f : M (List D)) (k : Nat) (s : D -> DEnv -> Option DEnv) (t : M Bool) (rd : RdB) : M (List D) := fun ρ => match f ρ with
 | .bad => .bad
 | .ok ds ρ1 => match cT s t rd ds (envB l ρ1 ++ List.replicate k none) [] with
  | none => .bad
  | some (es, _) => if l = true -> es.all flat = true then .ok es ρ1 else .bad
theorem zh1 {l : Bool} {f : M (List D)} {k : Nat} {s : D -> DEnv -> Option DEnv} {t : M Bool} {rd : RdB} {ρ ρ' : DEnv} {es : List D} (h : dCG l f k s t rd ρ = .ok es ρ') : ∃ ds ρF, f ρ = .ok ds ρ' /\ cT s t rd ds (envB l ρ' ++ List.replicate k none) [] = some (es, ρF) /\ (l = true -> es.all flat = true) := by
 unfold dCG at h
 cases zf : f ρ with
 | bad => rw [zf] at h; cases h
 | ok ds ρ1 =>
 rw [zf] at h
 dsimp only at h
 cases zl : cT s t rd ds (envB l ρ1 ++ List.replicate k none) [] with
 | none => rw [zl] at h; cases h
 | some pr =>
 obtain ⟨esF, ρF⟩ := pr
 rw [zl] at h
 dsimp only at h
 split at h
 ·rename_i hf
  cases h
  exact ⟨ds, ρF, rfl, zl, hf⟩
 ·cases h
section
variable {X : Cx} {B G0 : Hp} {KX : XW}
def PBlk (X : Cx) (N2 : List Str) (scope : Scope) (e tg : Expr) (ifs : List Expr) (s : D -> DEnv -> Option DEnv) (t : M Bool) (rd : RdB) : Prop :=
 ∀ (cl : List (Str × Addr)) (C : Addr) (s₀ : Shared) (H₀ : Hp) (ex : List Addr), (∀ B' G', PG (X.blk N2 scope cl C s₀ H₀ ex) tg (tG X.K B' G' s)) /\ (∀ B' G', PIfs (X.blk N2 scope cl C s₀ H₀ ex) ifs (tBo X.K B' G' t)) /\ zjh (X.blk N2 scope cl C s₀ H₀ ex) e 0 tg ifs rd
structure zh2 (SC scope : Scope) (N1 N2 : List Str) (k : Nat) : Prop where
 b : zdn scope.names N1 N2 k = true
 kind : scope.kind = .function
 cell : ∀ y ∈ scope.names, y.2 ≠ .cell
 names : ∀ y ∈ scope.names, y.2 = .local -> scope.names.lookup y.1 = some .local
 free : ∀ y ∈ scope.names, y.2 = .free -> SC.names.lookup y.1 = some .cell ∨ SC.names.lookup y.1 = some .free
theorem zgC {l : Bool} {tg elt iter : Expr} {ifs : List Expr} {gs : List Comprehension} {scope : Scope} {pos pos' : Pos} {N2 : List Str} {k : Nat} {f : M (List D)} {s : D -> DEnv -> Option DEnv} {t : M Bool} {rd : RdB} {use : Option (Value -> Sem Unit)} {Qc : Value -> Shared -> Prop} (hc : X.calm = true)
  (hi : PI X tg iter (iD X.K B G0 f)) (hblk : PBlk X N2 scope (.ListComp elt (⟨tg, iter, ifs, 0⟩ :: gs) scope pos) tg ifs s t rd) (hb : zh2 X.env.scope scope X.N N2 k) (hs : ∀ x, foldedSetIterable iter X.env x = pure x)
  {pins : List (Addr × Obj)} {s0 : Shared} {σ : St} {G H : Hp} {ρ ρ1 ρF : DEnv} {ds esF : List D} (I : Inv X pins σ H s0) (k0 : EOk X.K B G0 G H σ ρ) (zf : f ρ = .ok ds ρ1) (zl : cT s t rd ds (envB l ρ1 ++ List.replicate k none) [] = some (esF, ρF)) (hfl : l = true -> esF.all flat = true)
  (hfin : ∀ (C D : Addr) (vs : List V) (G' H' : Hp) (s4 : Shared) (m : Str -> Option Value), Inv X pins σ H' s4 -> s4.heap.Ns C m -> H' C = none -> C ≠ X.env.locals -> X.s₀.heap.objs.size <= C -> (∀ x c, X.env.cells.lookup x = some c -> c ≠ C) -> (∀ p ∈ X.pn ++ pins, p.1 ≠ C) ->
   EOk X.K B G0 G' H' σ ρ1 -> Same G G' -> NewL X.K B G' H' σ ρ1 D vs esF -> compPost (model X.prog X.w) X.A X.xe use Qc (.ref D) C (.ok .next) s4) :
  wpAny (model X.prog X.w) X.A (comprehension (.ListComp elt (⟨tg, iter, ifs, 0⟩ :: gs) scope pos) scope X.env pos' (newList []) false (eval iter X.env) use) Qc X.xe s0 := by
 obtain ⟨cl, hcl, cl1, cl2⟩ := zg9 (scope := scope) (env := X.env) fun y hy hf => I.ok.has y.1 (hb.free y hy hf)
 refine wpAny_comprehension_free (use := use) rfl hs hcl hb.kind hb.names (thn (hi pins s0 σ H (fun J H1 => ∃ G1, EOk X.K B G0 G1 H1 σ ρ1 /\ Same G G1 /\ zeA X.K J ds G1) I ⟨G, ρ, k0, by rw [zf]; exact fun J G1 H1 k1 s1 it => ⟨G1, k1, s1, it⟩⟩) fun v s1 h1 => thn h1 fun itv s2 h2 => ?_)
 obtain ⟨it, fp, tn, J, H2, rfl, I2, T, st2, f2, G1, k1, sg1, its⟩ := h2
 refine wpAny_newObj_type (wpAny_newFunctionEnv hb.cell (by intro y hy; simp at hy) (fun h₁ hns₁ hsb₁ => ?_) hb.kind)
 dsimp only at hns₁ hsb₁ ⊢
 have hfr : H2 s2.heap.objs.size = none := I2.hok.fresh (Nat.le_refl _)
 have I3 : Inv X pins σ (upd H2 s2.heap.objs.size (.lst [])) { s2 with heap := s2.heap.push { cls := .type "list", dict := none, data := .seq ([] : List Value).toArray } } :=
  I2.laid (t' := s2.toks) (fun b u e => Heap.get?_push_of_some _ e) (Nat.le_refl _) ⟨Nat.zero_le _, [], 0, .nil, Heap.get?_push_size _ rfl⟩
 generalize hP : s2.heap.push { cls := .type "list", dict := none, data := .seq ([] : List Value).toArray } = P at I3 hns₁ hsb₁ ⊢
 have old : ∀ b o, s2.heap.get? b = some o -> P.get? b = some o := fun b o e => hP ▸ Heap.get?_push_of_some _ e
 have kept : ∀ b o, P.get? b = some o -> h₁.get? b = some o := fun b o e => hsb₁.extBut b o (Nat.ne_of_lt (Heap.lt_size e)) (Heap.get?_push_of_some _ e)
 have fpo : ∀ b ∈ fp, ∃ o, s2.heap.get? b = some o := fun b hb => let ⟨o, e, _⟩ := T.obj _ _ st2 b hb; ⟨o, e⟩
 have fpD : ∀ b ∈ fp, b ≠ s2.heap.objs.size := fun b hb => let ⟨o, e⟩ := fpo b hb; Nat.ne_of_lt (Heap.lt_size e)
 have f3 : ∀ b ∈ fp, FpOk X pins (upd H2 s2.heap.objs.size (.lst [])) b := fun b hb => ⟨by rw [zaG (fpD b hb)]; exact (f2 b hb).1, (f2 b hb).2⟩
 have I4 := I3.enter (scope := scope) (cl := cl) (N2 := N2) (k := k) (fp := fp) (t' := s2.toks + ([] : List (Str × Value)).length) hb.b hb.kind hb.cell hb.free cl1 cl2 hns₁ kept f3 (fun b hb => let ⟨o, e⟩ := fpo b hb; ⟨o, old b o e⟩)
 dsimp only at I4
 obtain ⟨Gb, kb, sgb, gbD, ex⟩ := entry l k1 hfr k
 have sH : Same H2 (upd H2 s2.heap.objs.size (.lst [])) := za1 hfr
 have hD3 : upd H2 s2.heap.objs.size (.lst []) s2.heap.objs.size = some (.lst []) := zaz
 generalize upd H2 s2.heap.objs.size (.lst []) = H3 at I3 I4 f3 kb sH hD3
 generalize s2.heap.objs.size = D at *
 have tn0 : tn 0 h₁ := T.keep 0 _ _ st2 fun b hb o e => kept b o (old b o e)
 have stat : ∀ b ∈ fp, FpOk (X.blk N2 scope cl P.objs.size { s2 with heap := P } H3 fp) pins H3 b := fun b hb => by
  obtain ⟨z0, z1, z2, z3, z4, z5⟩ := f3 b hb
  obtain ⟨o, e⟩ := fpo b hb
  refine ⟨z0, Nat.ne_of_lt (Heap.lt_size (old b o e)), fun z => ?_, .inl hb, fun x c q => z4 x c (cl1 x c q), z5⟩
  rcases List.mem_cons.mp (I3.stkSub b z) with q | q
  ·exact z1 q
  ·exact z2 q
 have neD : ∀ a o, H2 a = some o -> a ≠ D := fun a o q z => by subst z; rw [hfr] at q; cases q
 obtain ⟨hg, ht, hcl'⟩ := hblk cl P.objs.size { s2 with heap := P } H3 fp
 obtain ⟨W, rule, body⟩ := hcl' D (.ref it)
 have loop := zgB (Y := X.blk N2 scope cl P.objs.size { s2 with heap := P } H3 fp) (D' := D) (R := compPost (model X.prog X.w) X.A X.xe use Qc (.ref D) P.objs.size) rfl hc rule hg ht body I4 T tn0 stat kb
  ⟨fun i G H s1 s2 hi => its.go i G H (sgb.trans s1) s2 hi, fun i G H s1 s2 hi => its.stop i G H (sgb.trans s1) s2 hi, fun i G H x H' d s1 s2 e y => its.yld i G H x H' d (sgb.trans s1) s2 e y⟩ hD3 gbD .nil zl fun σ' H' G' vs' s4 L => by
   obtain ⟨m, hm, _⟩ := id L.inv.loc
   have I7 : Inv X pins σ H' s4 := I3.call' (ch := fp) L.inv.os L.inv.base L.inv.hok L.inv.bare fun b hb => ⟨(f3 b hb).2.2.2.1, (f3 b hb).2.1, (f3 b hb).2.2.2.2.1, (f3 b hb).2.2.2.2.2⟩
   obtain ⟨Gf, eF, dF, rF⟩ := ex G' H' vs' esF hfl L.gg (fun a o q => L.hh a o (neD a o q) (sH a o q)) L.eok.gh (fun a o q z => L.np a o (neD a _ q) (sH a _ q) z) L.gd L.rp
   refine hfin P.objs.size D vs' Gf H' s4 m I7 hm L.inv.free (Nat.ne_of_gt I3.lt) I3.sz (fun x c e z => by obtain ⟨_, q⟩ := I3.cell x c e; exact absurd q.lt (by rw [z]; exact Nat.lt_irrefl _)) (fun p hp z => by have := Heap.lt_size (I3.pin p hp).1; exact absurd this (by rw [z]; exact Nat.lt_irrefl _))
    (k1.ext eF) (sg1.trans eF.g) ⟨k1.bh.free hfr, dF, L.hd, rF, fun j es' q z => ?_⟩
   obtain ⟨a', ws, h1', h2', h3', h4', h5'⟩ := k1.own j es' q
   rw [z] at h1'
   cases h1'
   rw [hfr] at h4'; cases h4'
 exact codeAny_compStart_list loop (T.self X.A 0 _ _ _ tn0 loop)
theorem zni {l : Bool} {tg elt iter : Expr} {ifs : List Expr} {gs : List Comprehension} {scope : Scope} {pos : Pos} {N2 : List Str} {k : Nat} {f : M (List D)} {s : D -> DEnv -> Option DEnv} {t : M Bool} {rd : RdB} (hc : X.calm = true)
  (hi : PI X tg iter (iD X.K B G0 f)) (hblk : PBlk X N2 scope (.ListComp elt (⟨tg, iter, ifs, 0⟩ :: gs) scope pos) tg ifs s t rd) (hb : zh2 X.env.scope scope X.N N2 k) (hs : ∀ x, foldedSetIterable iter X.env x = pure x := by intro _; rfl) :
  PE X (.ListComp elt (⟨tg, iter, ifs, 0⟩ :: gs) scope pos) (tL X.K B G0 (dCG l f k s t rd)) := by
 intro pins s0 σ H Q I ⟨G, ρ, k0, a⟩
 cases z : dCG l f k s t rd ρ with
 | bad => rw [z] at a; exact a.elim
 | ok es ρ1 =>
 rw [z] at a
 obtain ⟨ds, ρF, zf, zl, hfl⟩ := zh1 z
 rw [eval_ListComp]
 refine zgC hc hi hblk hb hs I k0 zf zl hfl fun C D vs G' H' s4 m I7 hm hC hL hz hcl hp k' s' n => ?_
 exact ⟨m, hm, fun h' sb => ⟨.ref D, H', I7.turned (t' := s4.toks) (it := C) (fun b o hb e => (sb.2 b hb).trans e) hC hL (.inr hz) hcl hp, rfl, a D vs G' H' k' s' n⟩⟩
theorem sD_g {l : Bool} {y : Str} {j : Nat} {py : Pos} {spos : Pos} {tg elt iter : Expr} {ifs : List Expr} {gs : List Comprehension} {scope : Scope} {pos : Pos} {N2 : List Str} {k : Nat} {f : M (List D)} {s : D -> DEnv -> Option DEnv} {t : M Bool} {rd : RdB} (hN : X.N.Nodup) (hj : X.N[j]? = some y) (hy : X.env.scope.names.lookup y = some .local) (hc : X.calm = true)
  (hi : PI X tg iter (iD X.K B G0 f)) (hblk : PBlk X N2 scope (.ListComp elt (⟨tg, iter, ifs, 0⟩ :: gs) scope pos) tg ifs s t rd) (hb : zh2 X.env.scope scope X.N N2 k) (hs : ∀ x, foldedSetIterable iter X.env x = pure x := by intro _; rfl)
  (hsw : swapsWith (.ListComp elt (⟨tg, iter, ifs, 0⟩ :: gs) scope pos) (some (.Name y py)) spos.line X.env = pure true := by rfl) :
  PS X (.Assign [.Name y py] (.ListComp elt (⟨tg, iter, ifs, 0⟩ :: gs) scope pos) spos) (tS X.K B G0 KX (zbG j (dCG l f k s t rd))) := by
 intro pins s0 σ H Dn I ⟨G, ρ, k0, a⟩
 unfold zbG sB at a
 cases z : dCG l f k s t rd ρ with
 | bad => rw [z] at a; exact a.elim
 | ok es ρ1 =>
 rw [z] at a
 dsimp only at a
 by_cases hl : j < ρ1.length
 ·rw [if_pos hl] at a
  obtain ⟨ds, ρF, zf, zl, hfl⟩ := zh1 z
  rw [exec_Assign_Name_used _ _ _ _ hsw]
  refine wpAny_bind (wpAny_standAt (wpAny_bind ?_))
  show wpAny _ X.A (do let _ ← comprehension (.ListComp elt (⟨tg, iter, ifs, 0⟩ :: gs) scope pos) scope X.env _ (newList []) false (eval iter X.env) (some (assign (.Name y py) X.env))) _ _ s0
  refine wpAny_bind (wpAny_mono (zgC (use := some (assign (.Name y py) X.env)) (Qc := fun _ s' => SP X pins Dn .next s') hc hi hblk hb hs I k0 zf zl hfl fun C D vs G' H' s4 m I7 hm hC hL hz hcl hp k' s' n => ?_) (fun _ s' hq => wpAny_pure (wpAny_pure hq)) fun _ _ e => e)
  show wpAny _ X.A (assign (.Name y py) X.env (.ref D)) _ _ s4
  refine wpAny_assign_Name (zff I7 hN hj (.inl hy) (v := .ref D) rfl (fun s5 I8 ⟨ad, sb, hx⟩ => ?_) (.inr hy))
  have hCa : C ≠ ad := by
   rcases hx with e | e
   ·rw [e]; exact hL
   ·exact Ne.symm (hcl y ad e)
  refine ⟨m, hm.sameBut sb hCa, fun h' sb' => ⟨_, H', I8.turned (t' := s5.toks) (it := C) (fun b o hb e => (sb'.2 b hb).trans e) hC hL (.inr hz) hcl hp, ?_⟩⟩
  exact a _ G' H' (k'.setOwn n hl) s'
 ·rw [if_neg hl] at a; exact a.elim
theorem znj {K : PySem.W.Frag} {f f' : M (List D)} (h : ∀ ρ es ρ', f ρ = .ok es ρ' -> f' ρ = .ok es ρ') {σ : St} {H : Hp} {Q : VK} (q : tL K B G0 f σ H Q) : tL K B G0 f' σ H Q := by
 obtain ⟨G, ρ, k, a⟩ := q
 refine ⟨G, ρ, k, ?_⟩
 cases z : f ρ with
 | bad => rw [z] at a; exact a.elim
 | ok es ρ' => rw [z] at a; rw [h ρ es ρ' z]; exact a
theorem zmm {K : PySem.W.Frag} {f f' : M (List D)} {j : Nat} (h : ∀ ρ es ρ', f ρ = .ok es ρ' -> f' ρ = .ok es ρ') {Dn : _} {σ : St} {H : Hp} (q : tS K B G0 KX (zbG j f) Dn σ H) : tS K B G0 KX (zbG j f') Dn σ H := by
 obtain ⟨G, ρ, k, a⟩ := q
 refine ⟨G, ρ, k, ?_⟩
 unfold zbG sB at a ⊢
 cases z : f ρ with
 | bad => rw [z] at a; exact a.elim
 | ok es ρ' => rw [z] at a; rw [h ρ es ρ' z]; exact a
end
theorem zd0 {s : D -> DEnv -> Option DEnv} {t : M Bool} {g : M D} : ∀ {ds : List D} {ρ : DEnv} {es esF : List D}, zcJ s t g ds ρ es = some esF -> ∃ ρF, cT s t (rL g) ds ρ es = some (esF, ρF)
 | [], ρ, es, esF, h => by rw [zcJ] at h; cases h; exact ⟨ρ, rfl⟩
 | d :: r, ρ, es, esF, h => by
  rw [zcJ] at h
  rw [cT]
  cases zs : s d ρ with
  | none => rw [zs] at h; cases h
  | some ρ1 =>
  rw [zs] at h
  dsimp only at h ⊢
  cases zt : t ρ1 with
  | bad => rw [zt] at h; cases h
  | ok b ρ2 =>
  rw [zt] at h
  dsimp only at h ⊢
  cases b with
  | false => exact zd0 (ds := r) h
  | true =>
   rw [if_pos rfl] at h ⊢
   unfold rL
   cases zg : g ρ2 with
   | bad => rw [zg] at h; cases h
   | ok e ρ3 =>
   rw [zg] at h
   dsimp only at h ⊢
   split at h
   ·rename_i hl
    rw [if_pos hl]
    exact zd0 (ds := r) h
   ·cases h
theorem zeg {s : D -> DEnv -> Option DEnv} {t : M Bool} {g : M D} : ∀ {ds : List D} {ρ : DEnv} {es : List D}, zdq s t g ds ρ es = cT s t (rL g) ds ρ es
 | [], ρ, es => rfl
 | d :: r, ρ, es => by
  rw [zdq, cT]
  cases s d ρ with
  | none => rfl
  | some ρ1 =>
  dsimp only
  cases t ρ1 with
  | bad => rfl
  | ok b ρ2 =>
  dsimp only
  cases b with
  | false => exact zeg (ds := r)
  | true =>
   rw [if_pos rfl, if_pos rfl]
   unfold rL
   cases g ρ2 with
   | bad => rfl
   | ok e ρ3 =>
   dsimp only
   split
   ·exact zeg (ds := r)
   ·rfl
theorem zeh {s s1 : D -> DEnv -> Option DEnv} {t t1 : M Bool} {f : M (List D)} {g : M D} : ∀ {ds : List D} {ρ : DEnv} {es esF : List D}, zcX s t f s1 t1 g ds ρ es = some esF -> ∃ ρF, cT s t (rN f s1 t1 (rL g)) ds ρ es = some (esF, ρF)
 | [], ρ, es, esF, h => by rw [zcX] at h; cases h; exact ⟨ρ, rfl⟩
 | d :: r, ρ, es, esF, h => by
  rw [zcX] at h
  rw [cT]
  cases zs : s d ρ with
  | none => rw [zs] at h; cases h
  | some ρ1 =>
  rw [zs] at h
  dsimp only at h ⊢
  cases zt : t ρ1 with
  | bad => rw [zt] at h; cases h
  | ok b ρ2 =>
  rw [zt] at h
  dsimp only at h ⊢
  cases b with
  | false => exact zeh (ds := r) h
  | true =>
   rw [if_pos rfl] at h ⊢
   unfold rN
   cases zg : f ρ2 with
   | bad => rw [zg] at h; cases h
   | ok ds ρ3 =>
   rw [zg] at h
   dsimp only at h ⊢
   rw [← zeg]
   cases zl : zdq s1 t1 g ds (zbj ρ3) es with
   | none => rw [zl] at h; cases h
   | some pr => rw [zl] at h; exact zeh (ds := r) h
theorem zdr {f : M (List D)} {k : Nat} {s : D -> DEnv -> Option DEnv} {t : M Bool} {g : M D} (ρ : DEnv) (es : List D) (ρ' : DEnv) (h : zef f k s t g ρ = .ok es ρ') : dCG false f k s t (rL g) ρ = .ok es ρ' := by
 unfold zef at h
 unfold dCG
 cases zf : f ρ with
 | bad => rw [zf] at h; cases h
 | ok ds ρ1 =>
 rw [zf] at h
 dsimp only [envB] at h ⊢
 cases zl : zcJ s t g ds (zbj ρ1 ++ List.replicate k none) [] with
 | none => rw [zl] at h; cases h
 | some esF =>
 rw [zl] at h
 cases h
 obtain ⟨ρF, e⟩ := zd0 zl
 rw [e]
 exact if_pos fun z => by cases z
theorem zh3 {f : M (List D)} {k : Nat} {s : D -> DEnv -> Option DEnv} {t : M Bool} {g : M D} (ρ : DEnv) (es : List D) (ρ' : DEnv) (h : zhW f k s t g ρ = .ok es ρ') : dCG true f k s t (rL g) ρ = .ok es ρ' := by
 unfold zhW at h
 unfold dCG
 cases zf : f ρ with
 | bad => rw [zf] at h; cases h
 | ok ds ρ1 =>
 rw [zf] at h
 dsimp only [envB] at h ⊢
 cases zl : zcJ s t g ds (zdp ρ1 ++ List.replicate k none) [] with
 | none => rw [zl] at h; cases h
 | some esF =>
 rw [zl] at h
 dsimp only at h
 split at h
 ·rename_i hf
  cases h
  obtain ⟨ρF, e⟩ := zd0 zl
  rw [e]
  exact if_pos fun _ => hf
 ·cases h
theorem zh4 {f f1 : M (List D)} {k : Nat} {s s1 : D -> DEnv -> Option DEnv} {t t1 : M Bool} {g : M D} (ρ : DEnv) (es : List D) (ρ' : DEnv) (h : zfE f k s t f1 s1 t1 g ρ = .ok es ρ') : dCG false f k s t (rN f1 s1 t1 (rL g)) ρ = .ok es ρ' := by
 unfold zfE at h
 unfold dCG
 cases zf : f ρ with
 | bad => rw [zf] at h; cases h
 | ok ds ρ1 =>
 rw [zf] at h
 dsimp only [envB] at h ⊢
 cases zl : zcX s t f1 s1 t1 g ds (zbj ρ1 ++ List.replicate k none) [] with
 | none => rw [zl] at h; cases h
 | some esF =>
 rw [zl] at h
 cases h
 obtain ⟨ρF, e⟩ := zeh zl
 rw [e]
 exact if_pos fun z => by cases z
end DL
namespace DL
open PySem PySem.Spec L2
open PyProof.Rows hiding St
def zfF (q : Option NameKind -> Bool) (SC scope : Scope) (N1 N2 : List Str) (k : Nat) : Bool :=
 zdn scope.names N1 N2 k && decide (scope.kind = .function) && scope.names.all fun y => match y.2 with
  | .cell => false
  | .local => decide (scope.names.lookup y.1 = some .local)
  | .free => q (SC.names.lookup y.1)
  | _ => true
def zkI : Option NameKind -> Bool
 | some .cell => true | some .free => true | _ => false
theorem zha {q : Option NameKind -> Bool} {SC SC' scope : Scope} {N1 N2 : List Str} {k : Nat} (h : zfF q SC scope N1 N2 k = true) (f : ∀ x, q (SC.names.lookup x) = true -> SC'.names.lookup x = some .cell ∨ SC'.names.lookup x = some .free) : zh2 SC' scope N1 N2 k := by
 unfold zfF at h
 rw [Bool.and_eq_true, Bool.and_eq_true, List.all_eq_true] at h
 obtain ⟨⟨h1, h2⟩, h3⟩ := h
 refine ⟨h1, of_decide_eq_true h2, fun y hy e => ?_, fun y hy e => ?_, fun y hy e => ?_⟩
 ·have := h3 y hy; rw [e] at this; cases this
 ·have := h3 y hy; rw [e] at this; exact of_decide_eq_true this
 ·have := h3 y hy; rw [e] at this; exact f _ this
theorem zh5 {SC scope : Scope} {N1 N2 : List Str} {k : Nat} (h : zfF zkI SC scope N1 N2 k = true) : zh2 SC scope N1 N2 k := zha h fun x e => by
 cases z : SC.names.lookup x with
 | none => rw [z] at e; cases e
 | some y => rw [z] at e; cases y <;> first | exact .inl rfl | exact .inr rfl | cases e
section
variable {X : Cx} {B G0 : Hp} {KX : XW}
theorem zji {l : Bool} {tg elt iter : Expr} {ifs : List Expr} {gs : List Comprehension} {scope : Scope} {pos : Pos} {f : M (List D)} {s : D -> DEnv -> Option DEnv} {t : M Bool} {rd : RdB} {F : M (List D)} (SC : Scope) (N1 N2 : List Str) (k : Nat) (le : ∀ ρ es ρ', F ρ = .ok es ρ' -> dCG l f k s t rd ρ = .ok es ρ') (hc : X.calm = true)
  (hi : PI X tg iter (iD X.K B G0 f)) (hblk : PBlk X N2 scope (.ListComp elt (⟨tg, iter, ifs, 0⟩ :: gs) scope pos) tg ifs s t rd) (h1 : X.env.scope = SC) (h2 : X.N = N1) (hb : zfF zkI SC scope N1 N2 k = true) (hs : ∀ x, foldedSetIterable iter X.env x = pure x := by intro _; rfl) :
  PE X (.ListComp elt (⟨tg, iter, ifs, 0⟩ :: gs) scope pos) (tL X.K B G0 F) :=
 peof (zni hc hi hblk (by rw [h1, h2]; exact zh5 hb) hs) fun _ _ _ q => znj le q
theorem sD_1 {l : Bool} {y : Str} {j : Nat} {py : Pos} {spos : Pos} {tg elt iter : Expr} {ifs : List Expr} {gs : List Comprehension} {scope : Scope} {pos : Pos} {f : M (List D)} {s : D -> DEnv -> Option DEnv} {t : M Bool} {rd : RdB} {F : M (List D)} (SC : Scope) (N1 N2 : List Str) (k : Nat) (le : ∀ ρ es ρ', F ρ = .ok es ρ' -> dCG l f k s t rd ρ = .ok es ρ') (hN : X.N.Nodup) (hj : X.N[j]? = some y) (hy : X.env.scope.names.lookup y = some .local) (hc : X.calm = true)
  (hi : PI X tg iter (iD X.K B G0 f)) (hblk : PBlk X N2 scope (.ListComp elt (⟨tg, iter, ifs, 0⟩ :: gs) scope pos) tg ifs s t rd) (h1 : X.env.scope = SC) (h2 : X.N = N1) (hb : zfF zkI SC scope N1 N2 k = true) (hs : ∀ x, foldedSetIterable iter X.env x = pure x := by intro _; rfl)
  (hsw : swapsWith (.ListComp elt (⟨tg, iter, ifs, 0⟩ :: gs) scope pos) (some (.Name y py)) spos.line X.env = pure true := by rfl) :
  PS X (.Assign [.Name y py] (.ListComp elt (⟨tg, iter, ifs, 0⟩ :: gs) scope pos) spos) (tS X.K B G0 KX (zbG j F)) :=
 psof (sD_g hN hj hy hc hi hblk (by rw [h1, h2]; exact zh5 hb) hs hsw) fun _ _ _ q => zmm le q
end
end DL
namespace DL
open PySem PySem.Spec L2
open PyProof.Rows hiding St
section
variable {X : Cx} {B G0 : Hp} {e a b c tg : Expr} {pos : Pos} {es rest : List Expr}
theorem EOk.given {K : PySem.W.Frag} {G H : Hp} {σ : St} {ρ : DEnv} {a : Addr} {vs : List V} {ds : List D} (k : EOk K B G0 G H σ ρ) (n : NewL K B G H σ ρ a vs ds) : EOk K B G0 (upd G a (.lst vs)) H σ ρ where
 bh := k.bh
 gh := fun b u q => by
  by_cases z : b = a
  ·subst z; rw [zaz] at q; cases q; exact n.h
  ·rw [zaG z] at q; exact k.gh b u q
 g0 := k.g0.trans (za1 n.g)
 np := fun b o q z => by
  have zb : b ≠ a := fun z => by subst z; rw [n.b] at q; cases q
  rw [zaG zb]; exact k.np b o q z
 len := k.len
 pub := fun i d q => let ⟨v, h1, h2⟩ := k.pub i d q; ⟨v, h1, h2.mono (za1 n.g)⟩
 own := fun i ds q => by
  obtain ⟨b, ws, h1, h2, h3, h4, h5⟩ := k.own i ds q
  have zb : b ≠ a := fun z => by subst z; exact n.f i ds q h1
  exact ⟨b, ws, h1, h2, by rw [zaG zb]; exact h3, h4, h5.mono (za1 n.g)⟩
 sep := k.sep
theorem zeY {f : M (List D)} (h : PE X e (tL X.K B G0 f)) : PE X e (tD X.K B G0 (mMap PyData.list f)) :=
 peof h fun σ H Q ⟨G, ρ, k, a⟩ => by
  refine ⟨G, ρ, k, ?_⟩
  unfold mMap zam at a
  cases z : f ρ with
  | bad => rw [z] at a; exact a.elim
  | ok ds ρ1 =>
   rw [z] at a
   intro ad vs G' H' k' s' n
   exact a (.ref ad) _ H' (k'.given n) (s'.trans (za1 n.g)) (.lst (SqL.of zaz) (n.r.mono (za1 n.g)))
theorem zjj (hc : X.calm = true) : zdE X (.builtin "all") (fun xs H Q => ∃ l, ∃ bs : List Bool, xs = [.ref l] /\ SqL X.K H l (bs.map V.bl) /\ Q (.bl (bs.all id)) H) := by
 intro pins s σ H xs us Q I rx h
 obtain ⟨l, bs, rfl, hq, q⟩ := h
 obtain ⟨u, rfl, ru⟩ := rx.one
 cases ru
 obtain ⟨its, rv, p, hz⟩ := I.list hq
 have hl := p.isList
 have hlt : l < s.heap.objs.size := by obtain ⟨_, e, _⟩ := id hl; exact Heap.lt_size e
 have key : ∀ (i : Nat) v, its.toArray[i]? = some v -> ∃ t, bs[i]? = some t /\ v = .bool t := fun i v e => by
  have e : its[i]? = some v := by simpa using e
  have hi : i < bs.length := by
   have := (List.getElem?_eq_some_iff.mp e).1
   have h2 := rv.length
   rw [List.length_map] at h2
   omega
  obtain ⟨u, e2, r2⟩ := rv.get (i := i) (x := .bl bs[i]) (by rw [List.getElem?_map, List.getElem?_eq_getElem hi]; rfl)
  rw [e] at e2
  cases e2
  exact ⟨bs[i], List.getElem?_eq_getElem hi, r2⟩
 refine call_all_walk (wpAny_pyIter_list hl ?_)
 refine ⟨s.heap.objs.size, [s.heap.objs.size, l], [s.heap.objs.size], its.toArray.size, _, _, fun i => (bs[i]?).getD true, rfl, Walks.list (A := X.A.in1) (I.ok.hd hc) _ l (Nat.ne_of_lt hlt) its.toArray,
  ⟨⟨_, Heap.get?_push_size _ rfl, rfl, rfl⟩, hl.push _⟩, fun i v s' Q' E' hP hQ => ?_, fun h' tk hk => ?_⟩
 ·obtain ⟨b, e, rfl⟩ := key i v hP
  simp only [e, Option.getD_some] at hQ
  exact wpAny_truthy_bool hQ
 ·have hn : its.toArray.size = bs.length := by have := rv.length; rw [List.length_map] at this; simp; omega
  have e : ((List.range its.toArray.size).all fun i => (bs[i]?).getD true) = bs.all id := by
   rw [hn, Bool.eq_iff_iff, List.all_eq_true, List.all_eq_true]
   constructor
   ·intro h b hb
    obtain ⟨i, hi, e⟩ := List.getElem_of_mem hb
    have := h i (List.mem_range.mpr hi)
    simp only [List.getElem?_eq_getElem hi, Option.getD_some, e] at this
    exact this
   ·intro h i hi
    have hi' := List.mem_range.mp hi
    simp only [List.getElem?_eq_getElem hi', Option.getD_some]
    exact h _ (List.getElem_mem hi')
  rw [e]
  exact ⟨.bl (bs.all id), H, I.kept (t' := tk) fun b x e => hk b x (fun hm => by rw [List.mem_singleton.mp hm] at e; exact Nat.lt_irrefl _ (Heap.lt_size e)) (Heap.get?_push_of_some _ e), rfl, q⟩
def zcY : List D -> Option (List Bool)
 | [] => some []
 | .bool b :: r => (zcY r).map (b :: ·)
 | _ => none
theorem zdV {K : PySem.W.Frag} {G : Hp} : ∀ {vs : List V} {ds : List D} {bs : List Bool}, Reps K G vs ds -> zcY ds = some bs -> vs = bs.map V.bl
 | _, _, bs, .nil, e => by cases e; rfl
 | _, _, bs, .cons (d := d) r t, e => by
  cases d with
  | bool b =>
   unfold zcY at e
   cases z : zcY _ with
   | none => rw [z] at e; cases e
   | some cs =>
    rw [z] at e
    cases e
    rw [r.bl_inv, zdV t z]; rfl
  | _ => cases e
def oAll : List D -> Option D
 | [.list ds] => (zcY ds).map fun bs => .bool (bs.all id)
 | _ => none
theorem zmn (hc : X.calm = true) : zfw X (.builtin "all") oAll := by
 refine ⟨_, zjj hc, fun vs G H ds d Q s r e k => ?_⟩
 unfold oAll at e
 split at e
 ·rename_i ds
  cases z : zcY ds with
  | none => rw [z] at e; cases e
  | some bs =>
   rw [z] at e
   cases e
   obtain ⟨v, rfl, q⟩ := r.one_inv
   obtain ⟨l, ws, rfl, h1, r1⟩ := q.lst_inv
   have hw := zdV r1 z
   subst hw
   exact ⟨l, bs, rfl, s.seq h1, k _ G H (.refl s) (.bl _)⟩
 ·cases e
def Its (x : Str) : It := ⟨fun i _ => i < x.cps.size, fun i H v H' => H' = H /\ ∃ c, x.cps[i]? = some c /\ v = .str ⟨#[c]⟩, fun i _ => x.cps.size <= i⟩
theorem zjk {P : Program} {w : World} {K : PySem.W.Frag} {tg : Expr} (x : Str) (t : Tok) (it : Addr) : Turn P w K tg (Its x) [it] it (fun i h => h.IsStrIter it (strIterType x) x t i) where
 mem := by simp
 obj := fun i h st b hb => by
  have e : b = it := by simpa using hb
  subst e
  obtain ⟨o, e, c, d⟩ := st
  exact ⟨o, e, fun v z => by rw [d] at z; cases z⟩
 keep := fun i h h' st k => by
  obtain ⟨o, e, c, d⟩ := st
  exact ⟨o, k it (by simp) o e, c, d⟩
 item := by
  intro X hP hw hK hc i pins s σ H E I hf st hg
  subst hP hw hK
  obtain ⟨f0, f1, f2, f3, f4, f5⟩ := hf it (by simp)
  have hx : x.cps[i]? = some x.cps[i] := Array.getElem?_eq_getElem hg
  have fin : ∀ h' tk (T : String), strIterType x = T -> h'.IsStrIter it T x t (i + 1) -> Heap.SameBut it s.heap h' -> ["enumerate", "zip", "dict_itemiterator", "dict_reverseitemiterator", "odict_iterator", "itertools.zip_longest", "itertools.pairwise"].contains T = false ->
    ∃ u, some (Value.str ⟨#[x.cps[i]]⟩ s.toks) = some u /\ wpAny (model X.prog X.w) X.A (letOwnedTupleGo tg (.ref it) u) (fun _ s2 => ∃ v H', Inv X pins σ H' s2 /\ RelV v u /\ (Its x).yld i H v H' /\ s2.heap.IsStrIter it (strIterType x) x t (i + 1) /\ ∀ b ∈ [it], H' b = none) E { s with heap := h', toks := tk } := by
   intro h' tk T eT st' sb hn
   have I1 : Inv X pins σ H { s with heap := h', toks := tk } := I.turned (t' := tk) (fun b o hb e => (sb.2 b hb).trans e) f0 f1 f3 f4 f5
   obtain ⟨o, e, c, d⟩ := id st'
   refine ⟨_, rfl, ziR (s := { s with heap := h', toks := tk }) e c d hn ⟨.str ⟨#[x.cps[i]]⟩, H, I1, ⟨_, rfl⟩, ⟨rfl, _, hx, rfl⟩, by rw [eT]; exact st', fun b hb => (hf b hb).1⟩⟩
  cases ha : x.cps.all (· < 128) with
  | true =>
   have eT : strIterType x = "str_ascii_iterator" := by simp [strIterType, ha]
   rw [eT] at st
   exact wpAny_pyNext_ascii_item st hx fun h' st' sb => fin h' _ _ eT st' sb (by decide)
  | false =>
   have eT : strIterType x = "str_iterator" := by simp [strIterType, ha]
   rw [eT] at st
   exact wpAny_pyNext_wide_item st hx fun h' st' sb => fin h' _ _ eT st' sb (by decide)
 done := by
  intro X hP hw hK hc i pins s σ H E I hf st hg
  subst hP hw hK
  obtain ⟨f0, f1, f2, f3, f4, f5⟩ := hf it (by simp)
  have hx : x.cps[i]? = none := Array.getElem?_eq_none hg
  cases ha : x.cps.all (· < 128) with
  | true =>
   have eT : strIterType x = "str_ascii_iterator" := by simp [strIterType, ha]
   rw [eT] at st
   exact wpAny_pyNext_ascii_end (I.ok.hd hc) st hx fun h' eb => ⟨rfl, I.turned (t' := s.toks) (fun b o hb e => eb b o hb e) f0 f1 f3 f4 f5⟩
  | false =>
   have eT : strIterType x = "str_iterator" := by simp [strIterType, ha]
   rw [eT] at st
   exact wpAny_pyNext_wide_end (I.ok.hd hc) st hx fun h' eb => ⟨rfl, I.turned (t' := s.toks) (fun b o hb e => eb b o hb e) f0 f1 f3 f4 f5⟩
 self := fun A i s Q E st h => by
  cases ha : x.cps.all (· < 128) with
  | true =>
   have eT : strIterType x = "str_ascii_iterator" := by simp [strIterType, ha]
   rw [eT] at st
   exact wpAny_pyIter_striter_ascii st h
  | false =>
   have eT : strIterType x = "str_iterator" := by simp [strIterType, ha]
   rw [eT] at st
   exact wpAny_pyIter_striter_wide st h
def iAny (K : PySem.W.Frag) (tl : TE) : TI := fun σ H R => tl σ H fun x H1 => (∃ a, x = .ref a /\ (∃ xs, SqL K H1 a xs) /\ R (Itl K a) H1) ∨ (∃ a, x = .ref a /\ (∃ xs, SqT K H1 a xs) /\ R (Itt K a) H1) ∨ ∃ z, x = .str z /\ R (Its z) H1
theorem zmo {l : Expr} {tl : TE} (hl : PE X l tl) : PI X tg l (iAny X.K tl) := by
 intro pins s σ H R I h
 refine thn (hl pins s σ H _ I h) fun v s1 ⟨x, H1, I1, r1, q1⟩ => ?_
 have fpOk : ∀ b ∈ [s1.heap.objs.size], FpOk X pins H1 b := fun b hb => by
  have e : b = s1.heap.objs.size := by simpa using hb
  subst e
  exact I1.fpOk (Nat.le_refl _) (I1.hok.fresh (Nat.le_refl _))
 rcases q1 with ⟨a, e, ⟨xs, hq⟩, q⟩ | ⟨a, e, ⟨xs, hq⟩, q⟩ | ⟨z, e, q⟩
 ·subst e
  cases r1
  obtain ⟨its, rv, p, hz⟩ := I1.list hq
  refine wpAny_pyIter_list p.isList ?_
  exact ⟨s1.heap.objs.size, [s1.heap.objs.size], _, _, H1, rfl, I1.kept (t' := s1.toks) fun b o e => Heap.get?_push_of_some _ e, zhr a _, ⟨_, Heap.get?_push_size _ rfl, rfl, rfl⟩, fpOk, q⟩
 ·subst e
  cases r1
  obtain ⟨its, rv, p, hz⟩ := I1.tuple hq
  refine wpAny_pyIter_tuple p ?_
  exact ⟨s1.heap.objs.size, [s1.heap.objs.size], _, _, H1, rfl, I1.kept (t' := s1.toks) fun b o e => Heap.get?_push_of_some _ e, zgS a _, ⟨_, Heap.get?_push_size _ rfl, rfl, rfl⟩, fpOk, q⟩
 ·subst e
  obtain ⟨t, rfl⟩ := r1
  refine wpAny_pyIter_strU ?_
  exact ⟨s1.heap.objs.size, [s1.heap.objs.size], _, _, H1, rfl, I1.kept (t' := s1.toks) fun b o e => Heap.get?_push_of_some _ e, zjk z t _, ⟨_, Heap.get?_push_size _ rfl, rfl, rfl⟩, fpOk, q⟩
def zfG (z : Str) : List D := z.cps.toList.map fun c => .str ⟨#[c]⟩
def zga : D -> Option (List D)
 | .list ds => some ds
 | .tuple ds => some ds
 | .str z => some (zfG z)
 | _ => none
theorem zgb {K : PySem.W.Frag} {G1 : Hp} {ad : Addr} {vs : List V} {ds : List D} (h : SqT K G1 ad vs) (r : Reps K G1 vs ds) : zeA K (Itt K ad) ds G1 where
 go := fun i G H s1 s2 hi => by
  have hi' : i < vs.length := by rw [r.length]; exact hi
  exact ⟨vs, vs[i], zdG (s1.trans s2) h, List.getElem?_eq_getElem hi'⟩
 stop := fun i G H s1 s2 hi => ⟨vs, zdG (s1.trans s2) h, by rw [r.length]; exact hi⟩
 yld := fun i G H x H' d s1 s2 e y => by
  obtain ⟨rfl, y⟩ := y
  obtain ⟨v, e1, r1⟩ := r.get e
  have := y vs (zdG (s1.trans s2) h)
  rw [e1] at this
  cases this
  exact ⟨G, .refl s2, r1.mono s1⟩
theorem zh6 {K : PySem.W.Frag} {G1 : Hp} {z : Str} : zeA K (Its z) (zfG z) G1 where
 go := fun i G H s1 s2 hi => by unfold zfG at hi; simpa [Its] using hi
 stop := fun i G H s1 s2 hi => by unfold zfG at hi; simpa [Its] using hi
 yld := fun i G H x H' d s1 s2 e y => by
  obtain ⟨rfl, c, hc, rfl⟩ := y
  unfold zfG at e
  rw [List.getElem?_map] at e
  have : z.cps.toList[i]? = some c := by simpa using hc
  rw [this] at e
  cases e
  exact ⟨G, .refl s2, .str _⟩
def zbQ (f : M D) : M (List D) := zam f fun x => mOpt (zga x)
theorem zei {f : M D} (h : PE X e (tD X.K B G0 f)) : PI X tg e (iD X.K B G0 (zbQ f)) := piof (zmo h) fun σ H R q => tM.toI (R0 := Rep X.K) q fun v H' G' ρ' x k r a => by
 cases x with
 | list ds =>
  obtain ⟨ad, vs, rfl, h1, r1⟩ := r.lst_inv
  exact .inl ⟨ad, rfl, ⟨vs, k.gh.seq h1⟩, a _ G' H' k (.refl _) (zg5 h1 r1)⟩
 | tuple ds =>
  obtain ⟨ad, vs, rfl, h1, r1⟩ := r.tup_inv
  exact .inr (.inl ⟨ad, rfl, ⟨vs, zdG k.gh h1⟩, a _ G' H' k (.refl _) (zgb h1 r1)⟩)
 | str z =>
  have := r.str_inv
  subst this
  exact .inr (.inr ⟨z, rfl, a _ G' H' k (.refl _) zh6⟩)
 | _ => exact a.elim
theorem Inv.big {pins : List (Addr × Obj)} {σ : St} {H : Hp} {s : Shared} (I : Inv X pins σ H s) : sysModules < s.heap.objs.size := by
 have h : mainGlobals < s.heap.objs.size := (I.mod.glob.keeps I.bk).lt
 exact Nat.lt_trans (by decide) h
theorem zjl {P : Program} {w : World} {H : Hp} (h : Heap) (hb : sysModules < h.objs.size) : zcw P w H (h.push { cls := .type "dict", data := .dict #[] }) h.objs.size (.dK []) :=
 ⟨Nat.zero_le _, beq_eq_false_iff_ne.mpr (Ne.symm (Nat.ne_of_lt hb)), [], .nil, Heap.DictOf.new h⟩
theorem zkJ : PE X (.Dict [] [] pos) (fun σ H Q => ∀ d, H d = none -> Q (.ref d) (upd H d (.dK []))) := fun pins s σ H Q I h =>
 wpAny_Dict_empty ⟨.ref s.heap.objs.size, _, I.laid (a := s.heap.objs.size) (o := .dK []) (t' := s.toks) (fun _ _ q => Heap.get?_push_of_some _ q) (Nat.le_refl _) (zjl s.heap (Inv.big I)), rfl, h _ (I.hok.fresh (Nat.le_refl _))⟩
theorem zeZ : PE X (.Dict [] [] pos) (tD X.K B G0 (zaf (.dict []))) := peof zkJ fun σ H Q ⟨G, ρ, k, a⟩ d hd => aft.done a k (Ext.new k.gh hd) (.dic zaz)
def inS (i j : Str) : Bool := !(Builtin.Str.occurrences j i 0 j.length 1).isEmpty
def oInS : D -> D -> Option Bool
 | .str i, .str j => some (inS i j)
 | _, _ => none
theorem znk : OpB X (compareOp .In) oInS := ⟨_, zhv, fun v u G H x y d Q s rx ry e k => by
 unfold oInS at e
 split at e
 ·cases e
  have := rx.str_inv; subst this
  have := ry.str_inv; subst this
  exact ⟨_, _, rfl, rfl, k⟩
 ·cases e⟩
theorem zjm {x : Str} {i : Int} (hg : Gl X x) (hm : ∃ t, X.mg x = some (.int i t)) (hd : (x == ("__debug__" : Str)) = false := by decide) : PE X (.Name x pos) (tD X.K B G0 (zaf (.int i))) := by
 obtain ⟨t, hm⟩ := hm
 exact peof (zho (v := .int i) hg hm ⟨t, rfl⟩ hd) fun σ H Q ⟨G, ρ, k, a⟩ => aft.now a k (.int _)
end
end DL
namespace DL
open PySem PySem.Spec L2
open PyProof.Rows hiding St
section
variable {X : Cx} {B G0 : Hp} {KX : XW} {e o a b c tg i : Expr} {pos p2 : Pos} {es rest : List Expr} {te to ti : TE}
def cutS (z : Str) (lo hi : Option Int) : Str := if (Builtin.Str.strSliceIndices lo hi 1 z.length).length = z.length then z else ⟨((Builtin.Str.strSliceIndices lo hi 1 z.length).filterMap (z.cps[·]?)).toArray⟩
theorem zmp : SlR X (fun x lo hi H Q => ∃ z, x = .str z /\ (cutS z lo hi).length <= sizeLine /\ Q (.str (cutS z lo hi)) H) := by
 intro pins s σ H x v vl vu lo hi sl Q I rx hs pl pu h
 obtain ⟨z, rfl, hz, q⟩ := h
 obtain ⟨t, rfl⟩ := rx
 refine ⟨"str", _, F.slot_str_getitem.lookup, typeIs_str s z t, ?_⟩
 obtain ⟨l, el, e1⟩ : ∃ l : Option (Int × Tok), vl = partValue l /\ l.map (·.1) = lo := by
  cases pl with
  | none => exact ⟨none, rfl, rfl⟩
  | int k t' => exact ⟨some (k, t'), rfl, rfl⟩
 obtain ⟨u, eu, e2⟩ : ∃ u : Option (Int × Tok), vu = partValue u /\ u.map (·.1) = hi := by
  cases pu with
  | none => exact ⟨none, rfl, rfl⟩
  | int k t' => exact ⟨some (k, t'), rfl, rfl⟩
 subst el eu
 refine wpAny_getItem_str_slice (l := l) (u := u) (st := none) hs rfl ?_
 unfold sliceMade slicePicked
 rw [e1, e2]
 unfold cutS at hz q
 by_cases hw : (Builtin.Str.strSliceIndices lo hi 1 z.length).length = z.length
 ·rw [if_pos hw] at hz q
  rw [if_pos (by simp [hw])]
  exact ⟨.str z, H, I, ⟨t, rfl⟩, q⟩
 ·rw [if_neg hw] at hz q
  rw [if_neg (by simp [hw])]
  exact ⟨hz, .str _, H, I.tok _, ⟨_, rfl⟩, q⟩
end
end DL
namespace DL
open PySem PySem.Spec L2
open PyProof.Rows hiding St
section
variable {X : Cx} {B G0 : Hp} {KX : XW} {e o a b c tg i : Expr} {pos p2 : Pos} {es rest : List Expr} {te to ti : TE}
theorem pvb (i : Nat) {x : Str} {pos : Pos} {N' : List Str} {scope : Scope} {cl : List (Str × Addr)} {C : Addr} {s₀ : Shared} {H₀ : Hp} {ex : List Addr} (hN : N'[i]? = some x := by rfl)
  (h : scope.names.lookup x = some .local ∨ scope.names.lookup x = some .free := by first | exact .inl rfl | exact .inr rfl) (hd : (x == ("__debug__" : Str)) = false := by decide) (hcd : (x == ("__classdict__" : Str)) = false := by decide) :
  PE (X.blk N' scope cl C s₀ H₀ ex) (.Name x pos) (tVar i) := zjI hN (zkH h) hd hcd
def oSlA : D -> Option Int -> Option Int -> Option D
 | .list xs, lo, hi => some (.list (DL.cutD xs lo hi))
 | .str z, lo, hi => if (cutS z lo hi).length <= 1000000 then some (.str (cutS z lo hi)) else none
 | _, _, _ => none
def dSlA (f : M D) (lo hi : M (Option Int)) : M D := zam f fun x => zam lo fun l => zam hi fun h => mOpt (oSlA x l h)
theorem zaM {lo hi : Option Expr} {f : M D} {l h : M (Option Int)} (he : PE X e (tD X.K B G0 f)) (hl : PO X lo (tOi X.K B G0 l)) (hu : PO X hi (tOi X.K B G0 h)) :
  PE X (.Subscript e (.Slice lo hi none p2) pos) (tD X.K B G0 (dSlA f l h)) :=
 peof (ziU (zkg.or zmp) he hl hu) fun σ H Q q => by
  refine tM.one (R := Rep X.K) q fun v H2 G ρ x k r a => ?_
  refine tM.nx (R := fun _ b c => b = c) k a fun l' H3 G3 ρ3 xl k3 s3 r3 a3 => ?_
  refine tM.nx (R := fun _ b c => b = c) k3 a3 fun h' H4 G4 ρ4 xh k4 s4 r4 a4 => ?_
  have r3 : l' = xl := r3
  have r4 : h' = xh := r4
  subst r3 r4
  unfold mOpt oSlA at a4
  cases x with
  | list xs =>
   obtain ⟨ad, vs, rfl, h1, r1⟩ := ((r.mono s3).mono s4).lst_inv
   exact .inl ⟨ad, vs, rfl, k4.gh.seq h1, fun p hp => aft.done a4 k4 (Ext.new k4.gh hp) (.lst (SqL.of zaz) ((r1.cut l' h').mono (za1 (k4.gh.free hp))))⟩
  | str z =>
   dsimp only at a4
   have := r.str_inv; subst this
   by_cases hc : (cutS z l' h').length <= 1000000
   ·rw [if_pos hc] at a4
    exact .inr ⟨z, rfl, Nat.le_trans hc lim, aft.now a4 k4 (.str _)⟩
   ·rw [if_neg hc] at a4; exact a4.elim
  | _ => exact a4.elim
end
end DL
namespace DL
open PySem PySem.Spec L2
open PyProof.Rows hiding St
section
variable {X : Cx} {B G0 : Hp} {e o a b c tg : Expr} {pos p2 : Pos} {es rest : List Expr} {te to ti : TE}
def zbv {β : Type} (p : D -> D -> Option β) (i : Nat) (g : M D) : M β := fun ρ => match ρ[i]? with
 | some (some (.pub d)) => (zam g fun y => mOpt (p d y)) ρ
 | some (some (.own _)) => (zam g fun y => fun ρ' => match ρ'[i]? with | some (some (.own ds)) => mOpt (p (.list ds) y) ρ' | _ => .bad) ρ
 | _ => .bad
theorem znl {K : PySem.W.Frag} {σ : St} {H : Hp} {p : D -> D -> Option Bool} {r : R2} {i : Nat} {g : M D} {Q : Bool -> Hp -> Prop} {QV : VK} (hq : ∀ t H3, Q t H3 -> QV (.bl t) H3) (hr : ∀ v u G H x y d Q, Same G H -> Rep K G v x -> Rep K G u y -> p x y = some d -> Q (.bl d) H -> r v u H Q)
  (q : tBo K B G0 (zbv p i g) σ H Q) : tVar i σ H fun x H1 => tD K B G0 g σ H1 fun y H2 => r x y H2 QV := by
 obtain ⟨G, ρ, k, a⟩ := q
 unfold zbv at a
 cases q : ρ[i]? with
 | none => rw [q] at a; exact a.elim
 | some o =>
  cases o with
  | none => rw [q] at a; exact a.elim
  | some sl =>
   cases sl with
   | pub d =>
    rw [q] at a
    obtain ⟨v, h1, h2⟩ := k.pub i d q
    refine ⟨v, h1, G, ρ, k, ?_⟩
    dsimp only [zam] at a
    cases z : g ρ with
    | bad => rw [z] at a; exact a.elim
    | ok y ρ1 =>
     rw [z] at a
     intro u G' H' k' s' r'
     obtain ⟨d', e', a'⟩ := aft.opt a
     exact hr v u G' H' d y d' _ k'.gh (h2.mono s') r' e' (hq _ _ (a' d' G' H' k' s' rfl))
   | own ds =>
    rw [q] at a
    obtain ⟨ad, vs, h1, h2, h3, h4, h5⟩ := k.own i ds q
    refine ⟨.ref ad, h1, G, ρ, k, ?_⟩
    dsimp only [zam] at a
    cases z : g ρ with
    | bad => rw [z] at a; exact a.elim
    | ok y ρ1 =>
     rw [z] at a
     dsimp only at a
     intro u G' H' k' s' r'
     cases q1 : ρ1[i]? with
     | none => rw [q1] at a; exact a.elim
     | some oo =>
      cases oo with
      | none => rw [q1] at a; exact a.elim
      | some sl1 =>
       cases sl1 with
       | pub d1 => rw [q1] at a; exact a.elim
       | own ds1 =>
        rw [q1] at a
        dsimp only at a
        obtain ⟨ad', ws, g1, g2, g3, g4, g5⟩ := k'.own i ds1 q1
        rw [h1] at g1
        cases g1
        obtain ⟨d', e', a'⟩ := aft.opt a
        have sg : Same G' (upd G' ad (.lst ws)) := za1 g3
        have sh : Same (upd G' ad (.lst ws)) H' := fun b o q => by
         by_cases z : b = ad
         ·subst z; rw [zaz] at q; cases q; exact g4
         ·rw [zaG z] at q; exact k'.gh b o q
        exact hr (.ref ad) u _ H' (.list ds1) y d' _ sh (.lst (SqL.of zaz) (g5.mono sg)) (r'.mono sg) e' (hq _ _ (a' d' G' H' k' s' rfl))
theorem zbD {op : CmpOp} {p : D -> D -> Option Bool} {i : Nat} {g : M D} (o : OpB X (compareOp op) p) (ha : PE X a (tVar i)) (hb : PE X b (tD X.K B G0 g)) (hm : behindInMarks op b = false) :
  PT X (.Compare a [op] [b] pos) (tBo X.K B G0 (zbv p i g)) := by
 obtain ⟨r, h, j⟩ := o
 exact ptof (zfY h ha hb hm) fun σ H Q q => znl (fun t H3 z => ⟨t, rfl, z⟩) j q
end
end DL
namespace L2
open PySem PySem.Spec PyProof.Rows
section
variable {X : Cx}
end
end L2
namespace DL
open PySem PySem.Spec L2
open PyProof.Rows hiding St
section
variable {X : Cx} {B G0 : Hp} {e a b c tg : Expr} {pos : Pos} {es rest : List Expr}
end
end DL
namespace DL
open PySem PySem.Spec L2
open PyProof.Rows hiding St
section
variable {X : Cx} {B G0 : Hp} {e o a b c tg : Expr} {pos p2 p3 : Pos} {es rest : List Expr} {te to ti : TE}
def oIn : D -> D -> Option Bool
 | .str i, .str j => some (inS i j)
 | x, .list xs => if x.canLay0 = true /\ PyData.canLayAll0 xs = true /\ x.depth <= 60 then some (xs.any fun y => PyData.eqv y x) else none
 | x, .tuple xs => if x.canLay0 = true /\ PyData.canLayAll0 xs = true /\ x.depth <= 60 then some (xs.any fun y => PyData.eqv y x) else none
 | _, _ => none
def oInQ (x y : D) : Option Bool := match y with
 | .list xs => if x.canLay0 = true /\ PyData.canLayAll0 xs = true /\ x.depth <= 60 then some (xs.any fun y => PyData.eqv y x) else none
 | .tuple xs => if x.canLay0 = true /\ PyData.canLayAll0 xs = true /\ x.depth <= 60 then some (xs.any fun y => PyData.eqv y x) else none
 | _ => none
theorem znm (hu : X.A.units + 64 < cLine) : OpB X (compareOp .In) oInQ := by
 refine ⟨fun v u H Q => ∃ G x y d, Same G H /\ Rep X.K G v x /\ Rep X.K G u y /\ oInQ x y = some d /\ Q (.bl d) H, ?_, fun v u G H x y d Q s rx ry e k => ⟨G, x, y, d, s, rx, ry, e, k⟩⟩
 intro pins s σ H x y v u Q I rx ry ⟨G, dx, dy, d, sg, px, py, e, q⟩
 unfold oInQ at e
 split at e
 ·split at e
  ·rename_i c
   cases e
   obtain ⟨as, ra⟩ := zcg I sg px rx c.1
   obtain ⟨bs, rb⟩ := zcg I sg py ry (show PyData.canLayAll0 _ = true from c.2.1)
   exact SeqAt.in_list_reads rb ra c.2.1 c.1 (by have := c.2.2; omega) ⟨.bl _, H, I, rfl, q⟩
  ·cases e
 ·split at e
  ·rename_i c
   cases e
   obtain ⟨as, ra⟩ := zcg I sg px rx c.1
   obtain ⟨bs, rb⟩ := zcg I sg py ry (show PyData.canLayAll0 _ = true from c.2.1)
   exact SeqAt.in_tuple_reads rb ra c.2.1 c.1 (by have := c.2.2; omega) ⟨.bl _, H, I, rfl, q⟩
  ·cases e
 ·cases e
theorem B_in (hu : X.A.units + 64 < cLine) : OpB X (compareOp .In) oIn := (znk.or (znm hu)).congr fun x y => by
 cases x <;> cases y <;> rfl
theorem zh7 {tl th ts : TO} {lo hi : Option Expr} {st : Expr} (he : PE X e te) (hl : PO X lo tl) (hu : PO X hi th) (hst : PO X (some st) ts) : PE X (.Subscript e (.Slice lo hi (some st) p2) pos)
  (fun σ H Q => te σ H fun x H1 => tl σ H1 fun l H2 => th σ H2 fun u H3 => ts σ H3 fun t H4 => ∃ a xs, x = .ref a /\ SqL X.K H4 a xs /\ l = none /\ u = none /\ t = some (-1) /\ ∀ p, H4 p = none -> Q (.ref p) (upd H4 p (.lst xs.reverse))) := by
 intro pins s σ H Q I h
 refine Subscript_ (thn (he pins s σ H _ I h) fun v s1 ⟨x, H1, I1, r1, q1⟩ => ?_)
 refine wpAny_Slice (thn (hl pins s1 σ H1 _ I1 q1) fun vl s2 ⟨l, H2, I2, pl, q2⟩ => thn (hu pins s2 σ H2 _ I2 q2) fun vu s3 ⟨u, H3, I3, pu, q3⟩ => thn (hst pins s3 σ H3 _ I3 q3) fun vt s4 ⟨t, H4, I4, pt, q4⟩ => ?_)
 obtain ⟨a, xs, rfl, hx, rfl, rfl, rfl, q⟩ := q4
 cases r1
 have I5 : Inv X pins σ H4 { s4 with heap := s4.heap.push { cls := .type "slice", data := .fields #[vl, vu, vt] } } := I4.kept (t' := s4.toks) fun b ob q => Heap.get?_push_of_some _ q
 obtain ⟨its, r, ht, hz⟩ := I5.list hx
 have hlen := r.length
 have hg : wpAny (model X.prog X.w) X.A (getItem (.ref a) (.ref s4.heap.objs.size)) (EP X pins σ Q) X.xe { s4 with heap := s4.heap.push { cls := .type "slice", data := .fields #[vl, vu, vt] } } := by
  refine wpAny_getItem_list_slice ht.isList (Heap.IsSliceOf.new ..) pl pu pt (by simp) ?_ (by rw [List.size_toArray] <;> omega)
  rw [PySem.W.krv_pick]
  refine ⟨.ref _, _, I5.laid (t' := s4.toks) (o := .lst xs.reverse) (fun b ob q => Heap.get?_push_of_some _ q) (Nat.le_refl _) ?_, rfl, q _ (I5.hok.fresh (Nat.le_refl _))⟩
  exact ⟨by rw [List.length_reverse]; exact hz, its.reverse, 0, r.reverse, Heap.get?_push_size _ rfl⟩
 show wpAny (model X.prog X.w) X.A (subscriptTail e (.Slice lo hi (some st) p2) (.ref a) (.ref s4.heap.objs.size)) (EP X pins σ Q) X.xe { s4 with heap := s4.heap.push { cls := .type "slice", data := .fields #[vl, vu, vt] } }
 exact tail_any (ops := [.ref a, .ref s4.heap.objs.size]) ht.isList.typeIs slot_list_getitem.lookup hg (by with_unfolding_all rfl)
def oRev : D -> Option Int -> Option Int -> Option Int -> Option D
 | .list xs, none, none, some i => if i = -1 then some (.list xs.reverse) else none
 | _, _, _, _ => none
def dRev (f : M D) (lo hi st : M (Option Int)) : M D := zam f fun x => zam lo fun l => zam hi fun h => zam st fun t => mOpt (oRev x l h t)
theorem zkK {lo hi : Option Expr} {st : Expr} {f : M D} {l h t : M (Option Int)} (he : PE X e (tD X.K B G0 f)) (hl : PO X lo (tOi X.K B G0 l)) (hu : PO X hi (tOi X.K B G0 h)) (hst : PO X (some st) (tOi X.K B G0 t)) :
  PE X (.Subscript e (.Slice lo hi (some st) p2) pos) (tD X.K B G0 (dRev f l h t)) :=
 peof (zh7 he hl hu hst) fun σ H Q q => by
  refine tM.one (R := Rep X.K) q fun v H2 G ρ x k r a => ?_
  refine tM.nx (R := fun _ b c => b = c) k a fun l' H3 G3 ρ3 xl k3 s3 r3 a3 => ?_
  refine tM.nx (R := fun _ b c => b = c) k3 a3 fun h' H4 G4 ρ4 xh k4 s4 r4 a4 => ?_
  refine tM.nx (R := fun _ b c => b = c) k4 a4 fun t' H5 G5 ρ5 xt k5 s5 r5 a5 => ?_
  have r3 : l' = xl := r3
  have r4 : h' = xh := r4
  have r5 : t' = xt := r5
  subst r3 r4 r5
  cases x with
  | list xs =>
   cases l' with
   | some _ => exact a5.elim
   | none =>
   cases h' with
   | some _ => exact a5.elim
   | none =>
   cases t' with
   | none => exact a5.elim
   | some i =>
   obtain ⟨ad, vs, rfl, h1, r1⟩ := (((r.mono s3).mono s4).mono s5).lst_inv
   by_cases hi : i = -1
   ·subst hi
    exact ⟨ad, vs, rfl, k5.gh.seq h1, rfl, rfl, rfl, fun p hp => aft.done a5 k5 (Ext.new k5.gh hp) (.lst (SqL.of zaz) (r1.reverse.mono (za1 (k5.gh.free hp))))⟩
   ·unfold mOpt oRev at a5
    dsimp only at a5
    rw [if_neg hi] at a5
    exact a5.elim
  | _ =>
   unfold mOpt oRev at a5
   exact a5.elim
def znn (K : PySem.W.Frag) (n : Nat) (t : TGs) : TG := fun v σ H Q => ∃ a xs, v = .ref a /\ SqL K H a xs /\ xs.length = n /\ t xs σ H Q
theorem zkL {es : List Expr} {k : Nat} {t : TGs} {n : Nat} (hc : X.calm = true) (h : PGs X es t)
  (hn : (assignEach es X.env).length = n := by rfl) (hst : (assignEach es X.env).findIdx? (·.1) = none := by rfl) : PG X (.Tuple es k pos) (znn X.K n t) := by
 intro pins s σ H v u Q I r hw
 obtain ⟨a, xs, e1, hq, hl, hw⟩ := hw
 subst e1
 cases r
 obtain ⟨its, rv, ht, hz⟩ := I.list hq
 rw [assign_Tuple]
 refine wpAny_bind (wpAny_standAt ?_)
 unfold unpack
 have hl2 : (assignEach es X.env).length = its.toArray.size := by simp [hn, ← hl, rv.length]
 rw [hl2, hst]
 refine wpAny_bind (wpAny_holding (PySem.W.kun_itemsOf (I.ok.hd hc) ht.isList fun h' hx => ?_))
 have I1 : Inv X pins σ H { s with heap := h' } := I.kept (t' := s.toks) fun b o e => hx b o (Nat.ne_of_lt (Heap.lt_size e)) e
 exact h pins _ σ H xs _ Q I1 (by simpa using rv) hw
def gL (n : Nat) (t : List D -> DEnv -> Option DEnv) : D -> DEnv -> Option DEnv := fun d ρ => match d with | .list ds => if ds.length = n then t ds ρ else none | _ => none
theorem zh8 {k1 : Nat} {t : List D -> DEnv -> Option DEnv} {n : Nat} (hc : X.calm = true) (h : PGs X es (tGs X.K B G0 t))
  (hn : (assignEach es X.env).length = n := by rfl) (hst : (assignEach es X.env).findIdx? (·.1) = none := by rfl) : PG X (.Tuple es k1 pos) (tG X.K B G0 (gL n t)) := pgof (zkL hc h hn hst) fun v σ H Q ⟨G, ρ, d, ρ', k, r, e, q⟩ => by
 unfold gL at e
 split at e
 ·split at e
  ·rename_i hl
   obtain ⟨ad, vs, rfl, h1, r1⟩ := r.lst_inv
   exact ⟨ad, vs, rfl, k.gh.seq h1, by rw [r1.length]; exact hl, G, ρ, _, ρ', k, r1, e, q⟩
  ·cases e
 ·cases e
end
end DL
namespace DL
open PySem PySem.Spec L2
open PyProof.Rows hiding St
section
variable {X : Cx} {B G0 : Hp} {e o a b c tg : Expr} {pos p2 p3 p4 : Pos} {es rest : List Expr} {te to ti : TE}
theorem zcS : ∀ {ns : List Int} {us : List Value}, Vals (ns.map V.int) us -> PyProof.Rows.IntsAre us ns
 | [], _, .nil => .nil
 | n :: ns, _, .cons h t => by
  obtain ⟨tk, rfl⟩ := h
  exact .cons n tk (zcS t)
def zdb (ns : List Int) : Nat := (PyProof.Rows.firstMet (fun i => ns.getD i 0) ns.length).length
theorem zh9 (hc : X.calm = true) : zdE X (.type "set") (fun xs H Q => ∃ l, ∃ ns : List Int, xs = [.ref l] /\ SqL X.K H l (ns.map V.int) /\ ns.length + 1 < 4096 /\ ∀ S p, H p = none -> Q (.ref p) (upd H p (.set S (zdb ns)))) := by
 intro pins s σ H xs us Q I rx h
 obtain ⟨l, ns, rfl, hq, hb, q⟩ := h
 obtain ⟨u, rfl, ru⟩ := rx.one
 cases ru
 obtain ⟨its, rv, p, hz⟩ := I.list hq
 have hi := zcS rv
 have hn : its.toArray.size = ns.length := by have := rv.length; rw [List.length_map] at this; simp; omega
 refine call_set_list (I.ok.hd hc) p.isList (ns := ns) (by simpa using hi) (by rw [hn]; exact hb) fun h' tk hS hk => ?_
 rw [hn] at hS
 refine ⟨.ref s.heap.objs.size, _, I.laid (t' := tk) (fun b o e => hk b o (Heap.lt_size e) e) (Nat.le_refl _) (show zcw X.prog X.w _ h' _ (.set _ (zdb ns)) from hS), rfl, q _ _ (I.hok.fresh (Nat.le_refl _))⟩
theorem zia : zdE X (.builtin "len") (fun xs H Q => ∃ p S n, xs = [.ref p] /\ H p = some (.set S n) /\ Q (.int n) H) := by
 intro pins s σ H xs us Q I rx h
 obtain ⟨p, S, n, rfl, hp, q⟩ := h
 obtain ⟨u, rfl, ru⟩ := rx.one
 cases ru
 obtain ⟨o, es, ep, t, h1, h2, h3, h4, h5, h6, h7, h8⟩ := (show s.heap.SetOf (intKind X.prog X.w) p S n from I.hok p _ hp)
 have hsb : scanBound = 4096 := rfl
 refine call_len_set h1 h2 h3 h7 (by omega) ?_
 rw [h8]
 exact ⟨.int n, H, I.tok _, ⟨_, rfl⟩, q⟩
def zds : List D -> Option (List Int)
 | [] => some []
 | .int i :: r => (zds r).map (i :: ·)
 | _ => none
theorem zej {K : PySem.W.Frag} {G : Hp} : ∀ {vs : List V} {ds : List D} {ns : List Int}, Reps K G vs ds -> zds ds = some ns -> vs = ns.map V.int
 | _, _, ns, .nil, e => by cases e; rfl
 | _, _, ns, .cons (d := d) r t, e => by
  cases d with
  | int b =>
   unfold zds at e
   cases z : zds _ with
   | none => rw [z] at e; cases e
   | some cs =>
    rw [z] at e
    cases e
    rw [r.int_inv, zej t z]; rfl
  | _ => cases e
theorem zhb (ns : List Int) : zds (ns.map PyData.int) = some ns := by
 induction ns with
 | nil => rfl
 | cons b r ih => rw [List.map_cons, zds, ih]; rfl
def zdJ : List D -> Option D
 | [.list ds] => (match zds ds with
  | some ns => if ns.length + 1 < 4096 then some (.int (zdb ns)) else none
  | none => none)
 | _ => none
theorem zgc {xs : List D} {d : D} (h : zdJ xs = some d) : ∃ ds ns, xs = [.list ds] /\ zds ds = some ns /\ ns.length + 1 < 4096 /\ d = .int (zdb ns) := by
 unfold zdJ at h
 split at h
 ·rename_i ds
  cases z : zds ds with
  | none => rw [z] at h; cases h
  | some ns =>
   rw [z] at h
   dsimp only at h
   split at h
   ·rename_i c
    cases h
    exact ⟨ds, ns, rfl, z, c, rfl⟩
   ·cases h
 ·cases h
theorem zib : bootBuiltins "set" = some (.type "set") := by decide +kernel
theorem zhc {f : M (List D)} (hc : X.calm = true) (hg : Gl X "len") (hm : X.mg "len" = none) (hg2 : Gl X "set") (hm2 : X.mg "set" = none) (ha : PA X [a] (tDs X.K B G0 f)) (he : starEach [a] X.env = (false, eval a X.env) :: starEach [] X.env := by rfl)
  (he2 : starEach [.Call (.Name "set" p2) [a] [] p3] X.env = (false, eval (.Call (.Name "set" p2) [a] [] p3) X.env) :: starEach [] X.env := by rfl) :
  PE X (.Call (.Name "len" p4) [.Call (.Name "set" p2) [a] [] p3] [] pos) (tD X.K B G0 (zb3 zdJ f)) :=
 peof (zc5 zia hg hm boot_len (zbS (zfm (zh9 hc) hg2 hm2 zib ha (by decide) (by decide) he rfl) zdk he2) (by decide) (by decide) he2 rfl) fun σ H Q q => tM.one (R := Reps X.K) q fun vs H2 G ρ x k r a => by
  obtain ⟨d, e, a⟩ := a.opt
  obtain ⟨ds, ns, rfl, z, c, rfl⟩ := zgc e
  obtain ⟨v, rfl, q1⟩ := r.one_inv
  obtain ⟨l, ws, rfl, h1, r1⟩ := q1.lst_inv
  have := zej r1 z
  subst this
  refine ⟨l, ns, rfl, k.gh.seq h1, c, fun S p hp => ⟨p, S, zdb ns, rfl, zaz, ?_⟩⟩
  exact aft.done a k (Ext.hid k.gh hp) (.int _)
end
end DL
namespace L2
open PySem PySem.Spec PyProof.Rows
section
variable {X : Cx} {tg : Expr}
end
end L2
namespace DL
open PySem PySem.Spec L2
open PyProof.Rows hiding St
section
variable {X : Cx} {B G0 : Hp} {e a b c tg : Expr} {pos : Pos} {es rest : List Expr}
end
end DL
namespace L2
open PySem PySem.Spec PyProof.Rows
section
variable {prog : Program} {w : World} {A : Around} {E : Value -> Shared -> Prop} {s : Shared} {M : Model} {env : Env}
end
end L2
namespace L2
open PySem PySem.Spec PyProof.Rows
section
variable {prog : Program} {w : World} {A : Around} {E : Value -> Shared -> Prop} {s : Shared}
end
end L2
namespace L2
open PySem PySem.Spec PyProof.Rows
section
variable {X : Cx}
end
end L2
namespace DL
open PySem PySem.Spec L2
open PyProof.Rows hiding St
section
variable {X : Cx} {B G0 : Hp} {e a b c tg : Expr} {pos : Pos} {es rest : List Expr}
end
end DL
namespace DL
open PySem PySem.Spec L2
open PyProof.Rows hiding St
section
variable {X : Cx}
end
end DL
namespace DL
open PySem PySem.Spec L2
open PyProof.Rows hiding St
section
variable {X : Cx} {B G0 : Hp} {e o : Expr} {es : List Expr}
end
end DL
namespace DL
open PySem PySem.Spec L2
open PyProof.Rows hiding St
section
variable {prog : Program} {w : World} {A : Around} {R : Result -> Shared -> Prop} {h0 : Heap} {l I S : Addr} {rs : List (Addr × List Value)}
end
section
variable {prog : Program} {w : World} {A : Around} {E : Value -> Shared -> Prop} {s : Shared} {l z : Addr} {rs : List (Addr × List Value)}
end
end DL
namespace DL
open PySem PySem.Spec L2
open PyProof.Rows hiding St
section
variable {X : Cx} {pins : List (Addr × Obj)} {σ : St} {H : Hp} {s : Shared}
end
end DL
namespace DL
open PySem PySem.Spec L2
open PyProof.Rows hiding St
section
variable {X : Cx}
end
end DL
namespace DL
open PySem PySem.Spec L2
open PyProof.Rows hiding St
@[simp] theorem mBind_ok {α β : Type} {f : M α} {k : α -> M β} {ρ ρ' : DEnv} {x : α} (h : f ρ = .ok x ρ') : zam f k ρ = k x ρ' := by unfold zam; rw [h]
theorem zfH {s : D -> DEnv -> Option DEnv} {g : SM} {P : Nat -> DEnv -> Prop} {R : Out -> Prop} : ∀ (ds : List D) (n : Nat) (ρ : DEnv), P n ρ ->
  (∀ i d ρ, ds[i]? = some d -> P (n + i) ρ -> ∃ ρ1, s d ρ = some ρ1 /\ ((∃ ρ2, (g ρ1 = .nx ρ2 ∨ g ρ1 = .ct ρ2) /\ P (n + i + 1) ρ2) ∨ (∃ x, g ρ1 = .rt x /\ R (.rt x)) ∨ (∃ ρ2, g ρ1 = .bk ρ2 /\ R (.nx ρ2)) ∨ ∃ ρ2 x, g ρ1 = .ex ρ2 x /\ R (.ex ρ2 x))) -> (∀ ρ, P (n + ds.length) ρ -> R (.nx ρ)) -> R (zbM s g ds ρ)
 | [], n, ρ, h, _, f => f ρ h
 | d :: r, n, ρ, h, st, f => by
  obtain ⟨ρ1, e1, e2⟩ := st 0 d ρ rfl h
  rw [zbM, e1]
  dsimp only
  rcases e2 with ⟨ρ2, e2, h2⟩ | ⟨x, e2, h2⟩ | ⟨ρ2, e2, h2⟩ | ⟨ρ2, x, e2, h2⟩
  ·have goal := zfH (R := R) r (n + 1) ρ2 h2 (fun i d' ρ3 q p => by
    have e : n + 1 + i = n + (i + 1) := by omega
    rw [e] at p ⊢
    exact st (i + 1) d' ρ3 (by simpa using q) p) (fun ρ3 p => f ρ3 (by
    have e : n + 1 + r.length = n + (d :: r).length := by rw [List.length_cons]; omega
    rw [e] at p
    exact p))
   rcases e2 with e2 | e2 <;> (rw [e2]; exact goal)
  ·rw [e2]; exact h2
  ·rw [e2]; exact h2
  ·rw [e2]; exact h2
theorem zcj {lo hi : Int} {i : Nat} {d : D} (h : (zbi lo hi)[i]? = some d) : d = .int (lo + i) /\ (i : Int) < hi - lo := by
 have hl : i < (zbi lo hi).length := (List.getElem?_eq_some_iff.mp h).1
 rw [za9] at hl
 unfold zbi at h
 rw [List.getElem?_map, List.getElem?_eq_getElem (by rw [List.length_range]; exact hl), List.getElem_range] at h
 cases h
 exact ⟨rfl, by omega⟩
theorem zmq {α : Type} {xs : List α} {i : Int} {v : α} (h0 : 0 <= i) (h : xs[i.toNat]? = some v) : atI xs i = some v := by
 have := zeS (xs := xs) (j := i.toNat) h
 rw [Int.toNat_of_nonneg h0] at this
 exact this
end DL
namespace DL
open PySem PySem.Spec L2
open PyProof.Rows hiding St
section
variable {α β : Type} {ρ ρ1 ρ2 ρ3 ρ' : DEnv} {f g h : M D}
theorem zab {a : α} : zaf a ρ = .ok a ρ := rfl
theorem zah : mNil ρ = .ok [] ρ := rfl
theorem zbH {o : Option α} {a : α} (h : o = some a) : mOpt o ρ = .ok a ρ := by subst h; rfl
theorem zaE {f : M α} {k : α -> M β} {x : α} {r : Res β} (h : f ρ = .ok x ρ1) (h2 : k x ρ1 = r) : zam f k ρ = r := by unfold zam; rw [h]; exact h2
theorem zcs {f : M α} {k : α -> β} {x : α} (h : f ρ = .ok x ρ1) : mMap k f ρ = .ok (k x) ρ1 := by unfold mMap zam; rw [h]; rfl
theorem zad {i : Nat} {d : D} (h : ρ[i]? = some (some (.pub d))) : dVar i ρ = .ok d ρ := by unfold dVar; rw [h]
theorem zbE {i : Nat} {ds : List D} (h : ρ[i]? = some (some (.own ds))) (h2 : ρ.set i (some (.pub (.list ds))) = ρ') : dVar i ρ = .ok (.list ds) ρ' := by unfold dVar; rw [h]; subst h2; rfl
theorem zaj {op : D -> D -> Option β} {x y : D} {r : β} (h1 : f ρ = .ok x ρ1) (h2 : g ρ1 = .ok y ρ2) (h3 : op x y = some r) : dBin op f g ρ = .ok r ρ2 := by
 unfold dBin; exact zaE h1 (zaE h2 (zbH h3))
theorem zaa {g : M (List D)} {x : D} {xs : List D} (h1 : f ρ = .ok x ρ1) (h2 : g ρ1 = .ok xs ρ2) : zae f g ρ = .ok (x :: xs) ρ2 := by
 unfold zae; exact zaE h1 (zaE h2 rfl)
theorem zbo {g : M (List D)} {xs : List D} (h1 : g ρ = .ok xs ρ1) (h2 : xs.length <= 1000000) : mTup g ρ = .ok (.tuple xs) ρ1 := by
 unfold mTup; exact zaE h1 (by rw [if_pos h2]; rfl)
theorem zas {g : M (List D)} {xs : List D} (h1 : g ρ = .ok xs ρ1) (h2 : xs.length <= 1000000) : mLst g ρ = .ok (.list xs) ρ1 := by
 unfold mLst; exact zaE h1 (by rw [if_pos h2]; rfl)
theorem zba {g : M (List D)} {xs : List D} (h1 : g ρ = .ok xs ρ1) (h2 : xs.length <= 1000000) : (zam g fun xs => if xs.length <= 1000000 then zaf xs else fun _ => .bad) ρ = .ok xs ρ1 :=
 zaE h1 (by rw [if_pos h2]; rfl)
theorem zch {i : Nat} {d y r : D} (h : ρ[i]? = some (some (.pub d))) (h1 : g ρ = .ok y ρ1) (h2 : oIx d y = some r) : dIxN i g ρ = .ok r ρ1 := by
 unfold dIxN; rw [h]; exact zaE h1 (zbH h2)
theorem zdt {i : Nat} {ds es : List D} {y r : D} (h : ρ[i]? = some (some (.own ds))) (h1 : g ρ = .ok y ρ1) (h3 : ρ1[i]? = some (some (.own es))) (h2 : oIx (.list es) y = some r) : dIxN i g ρ = .ok r ρ1 := by
 unfold dIxN; rw [h]; exact zaE h1 (by rw [h3]; exact zbH h2)
theorem zbs {p : List D -> Option D} {g : M (List D)} {xs : List D} {r : D} (h1 : g ρ = .ok xs ρ1) (h2 : p xs = some r) : zb3 p g ρ = .ok r ρ1 := by
 unfold zb3; exact zaE h1 (zbH h2)
theorem za7 {n : Nat} {F : List D -> Option D} {g : M (List D)} {xs : List D} {r : D} (h1 : g ρ = .ok xs ρ1) (h2 : xs.length = n) (h3 : F xs = some r) : dFun n F g ρ = .ok r ρ1 := by
 unfold dFun; exact zaE h1 (by rw [if_pos h2]; exact zbH h3)
theorem zek {i : Int} (h1 : f ρ = .ok (.int i) ρ1) : dNeg f ρ = .ok (.int (-i)) ρ1 := by
 unfold dNeg; exact zaE h1 rfl
theorem zaR {i : Nat} {d r : D} (h : ρ[i]? = some (some (.pub d))) (h2 : oLen [d] = some r) : zbu i ρ = .ok r ρ := by
 unfold zbu; rw [h]; exact zbH h2
theorem zdK {i : Nat} {ds : List D} (h : ρ[i]? = some (some (.own ds))) : zbu i ρ = .ok (.int ds.length) ρ := by
 unfold zbu; rw [h]
theorem zdf {g : M (List D)} {i : Int} {r : List D} (h1 : g ρ = .ok [.int i] ρ1) (h2 : zg6 [.int i] = some r) : zeb g ρ = .ok r ρ1 := by
 unfold zeb; exact zaE h1 (zbH h2)
theorem zic {g : M (List D)} {i j : Int} {r : List D} (h1 : g ρ = .ok [.int i, .int j] ρ1) (h2 : zg7 [.int i, .int j] = some r) : zjf g ρ = .ok r ρ1 := by
 unfold zjf; exact zaE h1 (zbH h2)
theorem zdL {g : M (List D)} {xs r : List D} (h1 : g ρ = .ok xs ρ1) (h2 : zhQ xs = some r) : zfz g ρ = .ok r ρ1 := by
 unfold zfz; exact zaE h1 (zbH h2)
theorem zaB {i : Int} (h1 : f ρ = .ok (.int i) ρ1) : (zam f fun x => mOpt (za6 x)) ρ = .ok (some i) ρ1 := zaE h1 rfl
theorem zcC {f : M Bool} {t : Bool} (h1 : f ρ = .ok t ρ1) : mNot f ρ = .ok (!t) ρ1 := zcs h1
theorem zbI {t : Bool} (h1 : f ρ = .ok (.bool t) ρ1) : za2 f ρ = .ok t ρ1 := by unfold za2; exact zaE h1 rfl
theorem zmr {f g : M Bool} {t u : Bool} (h1 : f ρ = .ok t ρ) (h2 : t = true -> g ρ = .ok u ρ) : mAnd f g ρ = .ok (t && u) ρ := by
 unfold mAnd; refine zaE h1 ?_
 cases t with
 | true => rw [if_pos rfl]; exact h2 rfl
 | false => rfl
theorem zkM {f g : M Bool} {t u : Bool} (h1 : f ρ = .ok t ρ) (h2 : t = false -> g ρ = .ok u ρ) : mOr f g ρ = .ok (t || u) ρ := by
 unfold mOr; refine zaE h1 ?_
 cases t with
 | false => rw [if_neg (by decide)]; exact h2 rfl
 | true => rfl
theorem ze0 {t u : Bool} (h1 : f ρ = .ok (.bool t) ρ) (h2 : t = true -> g ρ = .ok (.bool u) ρ) : zg4 f g ρ = .ok (.bool (t && u)) ρ := by
 unfold zg4; refine zaE h1 ?_
 cases t with
 | true => exact h2 rfl
 | false => rfl
theorem ze1 {p q : D -> D -> Option Bool} {x y z : D} {t u : Bool} (h1 : f ρ = .ok x ρ) (h2 : g ρ = .ok y ρ) (h3 : p x y = some t) (h4 : t = true -> h ρ = .ok z ρ) (h5 : t = true -> q y z = some u) : zd9 p q f g h ρ = .ok (t && u) ρ := by
 unfold zd9
 refine zaE h1 (zaE h2 (zaE (zbH h3) ?_))
 cases t with
 | true => rw [if_pos rfl]; exact zaE (h4 rfl) (zbH (h5 rfl))
 | false => rfl
theorem zaK {i j : Int} : oAdd (.int i) (.int j) = some (.int (i + j)) := rfl
theorem zav {x y : List D} (h : x.length + y.length <= 1000000) : oAdd (.list x) (.list y) = some (.list (x ++ y)) := by unfold oAdd; exact if_pos h
theorem zdg {i j : Int} : oSub (.int i) (.int j) = some (.int (i - j)) := rfl
theorem zcK {i j : Int} (h1 : -18446744073709551616 < i) (h2 : i < 18446744073709551616) : oMul (.int i) (.int j) = some (.int (i * j)) := by unfold oMul gMul; exact if_pos (.inl ⟨by omega, by omega⟩)
theorem zjn {i j : Int} (h1 : -18446744073709551616 < j) (h2 : j < 18446744073709551616) : oMul (.int i) (.int j) = some (.int (i * j)) := by unfold oMul gMul; exact if_pos (.inr ⟨by omega, by omega⟩)
theorem zdM {x : List D} {k : Int} (h : -1000000 <= k /\ k <= 1000000 /\ x.length * k.toNat <= 1000000) : oMul (.list x) (.int k) = some (.list (List.replicate k.toNat x).flatten) := by unfold oMul; exact if_pos h
theorem zbq {i j : Int} (h : 0 < j) : oMod (.int i) (.int j) = some (.int (i % j)) := by unfold oMod gMod; exact if_pos h
theorem zgd {i j : Int} (h : 0 < j) (h2 : j < 18446744073709551616) : oDiv (.int i) (.int j) = some (.int (i / j)) := by unfold oDiv gDiv; exact if_pos ⟨h, h2⟩
theorem zkN {i j : Int} (h : 0 <= j /\ j <= 1000000 /\ i.natAbs < 2 ^ 64) : oPow (.int i) (.int j) = some (.int (i ^ j.toNat)) := by unfold oPow gPow; exact if_pos h
theorem zeH {p : Int -> Int -> Bool} {i j : Int} : oIB p (.int i) (.int j) = some (p i j) := rfl
theorem zbm {i j : Int} : oEq (.int i) (.int j) = some (decide (i = j)) := by
 unfold oEq; rw [if_pos ⟨rfl, rfl, by simp [PyData.depth]⟩]; congr 1
theorem zaN {xs : List D} : oLen [.list xs] = some (.int xs.length) := rfl
theorem ze2 {xs : List D} : oLen [.tuple xs] = some (.int xs.length) := rfl
theorem zkO {i j : Int} : zjd [.int i, .int j] = some (.int (if j > i then j else i)) := rfl
theorem zcL {j : Int} (h1 : j <= 1000000) (h2 : -1000000 <= j) : zg6 [.int j] = some (zbi 0 j) := by unfold zg6; exact if_pos ⟨h1, h2⟩
theorem zjo {i j : Int} (h1 : j <= 1000000) (h2 : -1000000 <= j) (h3 : i <= 1000000) (h4 : -1000000 <= i) : zg7 [.int i, .int j] = some (zbi i j) := by unfold zg7; exact if_pos ⟨h1, h2, h3, h4⟩
theorem zc6 {xs : List D} : zhQ [.list xs] = some (zdm 0 xs) := rfl
def tx (l : List Char) : Str := ⟨(l.map Char.toNat).toArray⟩
theorem zkP (s : String) : Str.ofString s = tx s.toList := Str.ofString_eq_toList s
theorem zaS {i : Nat} {d : D} (h1 : f ρ = .ok d ρ1) (h2 : i < ρ1.length) (h3 : ρ1.set i (some (.pub d)) = ρ') : sSet i f ρ = .nx ρ' := by
 unfold sSet sAsg sB gN; rw [h1]; dsimp only; rw [if_pos h2]; subst h3; rfl
theorem zaZ {i : Nat} {f : M (List D)} {ds : List D} (h1 : f ρ = .ok ds ρ1) (h2 : i < ρ1.length) (h3 : ρ1.set i (some (.own ds)) = ρ') : zbG i f ρ = .nx ρ' := by
 unfold zbG sB; rw [h1]; dsimp only; rw [if_pos h2]; subst h3; rfl
theorem zgD {i : Nat} {d : D} {ds0 ds : List D} (h0 : ρ[i]? = some (some (.own ds0))) (h1 : f ρ = .ok d ρ1) (h2 : ρ1[i]? = some (some (.own ds))) (h3 : ds.length < 1000000) (h4 : ρ1.set i (some (.own (ds ++ [d]))) = ρ') : sApp i f ρ = .nx ρ' := by
 unfold sApp sB; rw [h0]; dsimp only; rw [h1]; dsimp only; rw [h2]; dsimp only; rw [if_pos h3]; subst h4; rfl
theorem zcZ {d : D} {s : D -> DEnv -> Option DEnv} (h1 : f ρ = .ok d ρ1) (h2 : s d ρ1 = some ρ') : sAsg f s ρ = .nx ρ' := by
 unfold sAsg sB; rw [h1]; dsimp only; rw [h2]
theorem tg_N {i : Nat} {d : D} (h : i < ρ.length) (h2 : ρ.set i (some (.pub d)) = ρ') : gN i d ρ = some ρ' := by unfold gN; rw [if_pos h, h2]
theorem tg_0 : gN0 [] ρ = some ρ := rfl
theorem tg_C {s : D -> DEnv -> Option DEnv} {t : List D -> DEnv -> Option DEnv} {d : D} {r : List D} (h1 : s d ρ = some ρ1) (h2 : t r ρ1 = some ρ') : gNC s t (d :: r) ρ = some ρ' := by unfold gNC; dsimp only; rw [h1]; exact h2
theorem tg_T {n : Nat} {t : List D -> DEnv -> Option DEnv} {ds : List D} (h1 : ds.length = n) (h2 : t ds ρ = some ρ') : gT n t (.tuple ds) ρ = some ρ' := by unfold gT; dsimp only; rw [if_pos h1]; exact h2
structure Ho (g : SM) (ρ : DEnv) (Q : Out -> Prop) : Prop where
 out : Q (g ρ)
def zno (h : SM) (Q : Out -> Prop) : Out -> Prop
 | .nx ρ' => Ho h ρ' Q
 | o => Q o
structure zid (h : SM) (Q : Out -> Prop) (o : Out) : Prop where
 out : zno h Q o
variable {Q : Out -> Prop} {s t u : SM}
theorem zaJ (h : Ho s ρ (zid t Q)) : Ho (sSeq s t) ρ Q := by
 have h := h.out.out
 constructor
 unfold sSeq
 cases e : s ρ with
 | nx o => rw [e] at h; exact h.out
 | _ => rw [e] at h; exact h
theorem zar (h1 : s ρ = .nx ρ1) (h2 : Ho t ρ1 Q) : Ho (sSeq s t) ρ Q := by
 constructor; unfold sSeq; rw [h1]; exact h2.out
theorem zaV {o : Out} (h1 : s ρ = o) (h2 : Q o) : Ho s ρ Q := by constructor; rw [h1]; exact h2
theorem zbk (h : Q (.nx ρ)) : Ho sNx ρ Q := ⟨h⟩
theorem zau {o : DEnv} (h : Ho t o Q) : zid t Q (.nx o) := ⟨h⟩
theorem zat {d : D} (h : Q (.rt d)) : zid t Q (.rt d) := ⟨h⟩
theorem zaI {f : M Bool} {b : Bool} (h1 : f ρ = .ok b ρ1) (h2 : b = true -> Ho s ρ1 Q) (h3 : b = false -> Ho t ρ1 Q) : Ho (sIf f s t) ρ Q := by
 constructor; unfold sIf sB; rw [h1]; dsimp only
 cases b with
 | true => rw [if_pos rfl]; exact (h2 rfl).out
 | false => rw [if_neg (by decide)]; exact (h3 rfl).out
theorem zaA {d : D} (h1 : f ρ = .ok d ρ1) (h2 : Q (.rt d)) : Ho (sRet f) ρ Q := by constructor; unfold sRet sB; rw [h1]; exact h2
theorem ze3 {P : Out -> Prop} (h : Ho s ρ P) (k : ∀ o, P o -> Q o) : Ho s ρ Q := ⟨k _ h.out⟩
def znp (I : DEnv -> Prop) (Q : Out -> Prop) : Out -> Prop
 | .nx ρ | .ct ρ => I ρ
 | .bk ρ => Q (.nx ρ)
 | .rt d => Q (.rt d)
 | .ex ρ d => Q (.ex ρ d)
 | .bad => False
structure zie (I : DEnv -> Prop) (Q : Out -> Prop) (o : Out) : Prop where
 out : znp I Q o
theorem zcv {I : DEnv -> Prop} (h : I ρ) : zie I Q (.nx ρ) := ⟨h⟩
theorem zb9 {ρ : DEnv} {d : D} (h : Q (.ex ρ d)) : zid t Q (.ex ρ d) := ⟨h⟩
theorem zeI {f : M (List D)} {tg : D -> DEnv -> Option DEnv} {ds : List D} (I : Nat -> DEnv -> Prop) (h1 : f ρ = .ok ds ρ1) (h0 : I 0 ρ1)
  (hst : ∀ i d ρ, ds[i]? = some d -> I i ρ -> ∃ ρ2, tg d ρ = some ρ2 /\ Ho s ρ2 (zie (I (i + 1)) Q)) (hend : ∀ ρ, I ds.length ρ -> Q (.nx ρ)) : Ho (sFor f tg s) ρ Q := by
 constructor; unfold sFor sB; rw [h1]; dsimp only
 refine zfH (P := I) (R := Q) ds 0 ρ1 h0 (fun i d ρ e p => ?_) (fun ρ p => hend ρ (by rw [Nat.zero_add] at p; exact p))
 rw [Nat.zero_add] at p
 obtain ⟨ρ2, e2, q⟩ := hst i d ρ e p
 refine ⟨ρ2, e2, ?_⟩
 rw [Nat.zero_add]
 have q := q.out.out
 cases z : s ρ2 with
 | nx o => rw [z] at q; exact .inl ⟨o, .inl rfl, q⟩
 | ct o => rw [z] at q; exact .inl ⟨o, .inr rfl, q⟩
 | rt o => rw [z] at q; exact .inr (.inl ⟨o, rfl, q⟩)
 | bk o => rw [z] at q; exact .inr (.inr (.inl ⟨o, rfl, q⟩))
 | ex o x => rw [z] at q; exact .inr (.inr (.inr ⟨o, x, rfl, q⟩))
 | bad => rw [z] at q; exact q.elim
theorem zc0 {N : List Str} {ds : List D} {P : D -> Prop} (h0 : zcm N ds = ρ) (h : Ho s ρ fun o => ∃ d, o = .rt d /\ P d) : ∃ d, runD N s ds = some d /\ P d := by
 subst h0
 obtain ⟨d, e, p⟩ := h.out
 refine ⟨d, ?_, p⟩
 unfold runD; rw [e]
theorem zc1 {N : List Str} {ds : List D} {d : D} (h0 : zcm N ds = ρ) (h : Ho s ρ fun o => o = .rt d) : runD N s ds = some d := by
 obtain ⟨d', e, p⟩ := zc0 (P := fun x => x = d) h0 (ze3 h fun o e => ⟨d, e, rfl⟩)
 rw [e, p]
end
end DL
namespace DL
open PySem PySem.Spec L2
open PyProof.Rows hiding St
section
variable {α β : Type} {ρ ρ1 ρ2 ρ3 ρ' : DEnv} {f g h : M D}
theorem zaX {l u : M (Option Int)} {x r : D} {a b : Option Int} (h1 : f ρ = .ok x ρ1) (h2 : l ρ1 = .ok a ρ2) (h3 : u ρ2 = .ok b ρ3) (h4 : oSlA x a b = some r) : dSlA f l u ρ = .ok r ρ3 := by
 unfold dSlA; exact zaE h1 (zaE h2 (zaE h3 (zbH h4)))
theorem zbt {f g : M Bool} (h1 : f ρ = .ok true ρ1) : mOr f g ρ = .ok true ρ1 := by unfold mOr; exact zaE h1 rfl
theorem zbR {f g : M Bool} {u : Bool} (h1 : f ρ = .ok false ρ1) (h2 : g ρ1 = .ok u ρ2) : mOr f g ρ = .ok u ρ2 := by unfold mOr; exact zaE h1 (by rw [if_neg (by decide)]; exact h2)
theorem zif {f g : M Bool} (h1 : f ρ = .ok false ρ1) : mAnd f g ρ = .ok false ρ1 := by unfold mAnd; exact zaE h1 rfl
theorem zkQ {f g : M Bool} {u : Bool} (h1 : f ρ = .ok true ρ1) (h2 : g ρ1 = .ok u ρ2) : mAnd f g ρ = .ok u ρ2 := by unfold mAnd; exact zaE h1 (by rw [if_pos rfl]; exact h2)
theorem zaH {c : String} {d : D} {t : Bool} (h : f ρ = .ok d ρ1) (ht : (!isTy d c) = t) : mNot (za2 (mMap (fun d => .bool (isTy d c)) f)) ρ = .ok t ρ1 := by
 subst ht; exact zcC (zbI (zcs (k := fun d => PyData.bool (isTy d c)) h))
theorem ze4 {c : String} {d : D} {t : Bool} (h : f ρ = .ok d ρ1) (ht : isTy d c = t) : za2 (mMap (fun d => .bool (isTy d c)) f) ρ = .ok t ρ1 := by
 subst ht; exact zbI (zcs (k := fun d => PyData.bool (isTy d c)) h)
theorem zct {x : D} {r : List D} (h1 : f ρ = .ok x ρ1) (h2 : zga x = some r) : zbQ f ρ = .ok r ρ1 := by
 unfold zbQ; exact zaE h1 (zbH h2)
theorem zbc {p : D -> D -> Option β} {i : Nat} {d y : D} {r : β} (h : ρ[i]? = some (some (.pub d))) (h1 : g ρ = .ok y ρ1) (h2 : p d y = some r) : zbv p i g ρ = .ok r ρ1 := by
 unfold zbv; rw [h]; exact zaE h1 (zbH h2)
theorem zgE {p : D -> D -> Option β} {i : Nat} {ds es : List D} {y : D} {r : β} (h : ρ[i]? = some (some (.own ds))) (h1 : g ρ = .ok y ρ1) (h3 : ρ1[i]? = some (some (.own es))) (h2 : p (.list es) y = some r) : zbv p i g ρ = .ok r ρ1 := by
 unfold zbv; rw [h]; exact zaE h1 (by rw [h3]; exact zbH h2)
theorem zdN {f : M (List D)} {k : Nat} {s : D -> DEnv -> Option DEnv} {t : M Bool} {ds es : List D} (h1 : f ρ = .ok ds ρ1) (h2 : zcJ s t g ds (zbj ρ1 ++ List.replicate k none) [] = some es) : zef f k s t g ρ = .ok es ρ1 := by
 unfold zef; rw [h1]; dsimp only; rw [h2]
theorem zco {s : D -> DEnv -> Option DEnv} {t : M Bool} (p : D -> Bool) (q : D -> D) (I : DEnv -> Prop) : ∀ (ds : List D) (ρ : DEnv) (es : List D), (∀ d ∈ ds, ∀ ρ, I ρ -> ∃ ρ1, s d ρ = some ρ1 /\ t ρ1 = .ok (p d) ρ1 /\ (p d = true -> g ρ1 = .ok (q d) ρ1) /\ I (zbj ρ1)) -> I ρ -> es.length + ds.length <= 1000000 ->
  zcJ s t g ds ρ es = some (es ++ (ds.filter p).map q)
 | [], ρ, es, _, _, _ => by rw [zcJ]; simp
 | d :: r, ρ, es, st, h0, hz => by
  obtain ⟨ρ1, e1, e2, e3, h1⟩ := st d List.mem_cons_self ρ h0
  have ih := fun es' hz' => zco p q I r (zbj ρ1) es' (fun d' hd => st d' (List.mem_cons_of_mem _ hd)) h1 hz'
  rw [List.length_cons] at hz
  rw [zcJ, e1]
  dsimp only
  rw [e2]
  dsimp only
  cases hp : p d with
  | true =>
   rw [if_pos rfl, e3 hp]
   dsimp only
   rw [if_pos (by omega), ih _ (by rw [List.length_append, List.length_singleton]; omega), List.filter_cons_of_pos hp, List.map_cons, List.append_assoc]
   rfl
  | false =>
   rw [if_neg (by decide), ih _ (by omega), List.filter_cons_of_neg (by rw [hp]; decide)]
theorem zaF {xs : List D} {a b : Option Int} : oSlA (.list xs) a b = some (.list (DL.cutD xs a b)) := rfl
theorem zig {xs : List D} : zga (.list xs) = some xs := rfl
theorem zge (bs : List Bool) : zcY (bs.map PyData.bool) = some bs := by
 induction bs with
 | nil => rfl
 | cons b r ih => rw [List.map_cons, zcY, ih]; rfl
theorem zkR {bs : List Bool} : oAll [.list (bs.map PyData.bool)] = some (.bool (bs.all id)) := by unfold oAll; dsimp only; rw [zge]; rfl
end
end DL
namespace DL
open PySem PySem.Spec L2
open PyProof.Rows hiding St
section
variable {α β : Type} {ρ ρ1 ρ2 ρ3 ρ4 ρ' : DEnv} {f g h : M D} {s : SM}
theorem zms {l u t : M (Option Int)} {xs : List D} (h1 : f ρ = .ok (.list xs) ρ1) (h2 : l ρ1 = .ok none ρ2) (h3 : u ρ2 = .ok none ρ3) (h4 : t ρ3 = .ok (some (-1)) ρ4) : dRev f l u t ρ = .ok (.list xs.reverse) ρ4 := by
 unfold dRev; exact zaE h1 (zaE h2 (zaE h3 (zaE h4 (zbH (by unfold oRev; exact if_pos rfl)))))
theorem tg_L {n : Nat} {t : List D -> DEnv -> Option DEnv} {ds : List D} (h1 : ds.length = n) (h2 : t ds ρ = some ρ') : gL n t (.list ds) ρ = some ρ' := by unfold gL; dsimp only; rw [if_pos h1]; exact h2
theorem zel {i j : Int} : oNe (.int i) (.int j) = some (!decide (i = j)) := by
 unfold oNe; rw [if_pos ⟨rfl, rfl, by simp [PyData.depth]⟩]; congr 1
theorem zjp {xs : List Int} {a b : Int} (ha : 0 <= a) (hb : 0 <= b) (hl : b <= xs.length) : DL.cutD (xs.map PyData.int) (some a) (some b) = ((xs.drop a.toNat).take (b.toNat - a.toNat)).map PyData.int := by
 unfold DL.cutD HT.sIx
 dsimp only
 rw [if_neg (by omega), if_neg (by omega), List.length_map, List.map_take, List.map_drop]
 have e2 : min b.toNat xs.length = b.toNat := by omega
 rw [e2]
 by_cases hab : a.toNat <= xs.length
 ·have e1 : min a.toNat xs.length = a.toNat := by omega
  rw [e1]
 ·have e3 : b.toNat - a.toNat = 0 := by omega
  have e4 : b.toNat - min a.toNat xs.length = 0 := by omega
  rw [e3, e4, List.take_zero, List.take_zero]
end
end DL
namespace DL
open PySem PySem.Spec L2
open PyProof.Rows hiding St
section
variable {ρ ρ1 : DEnv}
end
end DL
namespace DL
open PySem PySem.Spec L2
open PyProof.Rows hiding St
section
variable {X : Cx} {B G0 : Hp} {KX : XW} {e o a b c tg i : Expr} {pos p2 : Pos} {es rest : List Expr}
end
section
variable {X : Cx} {B G0 : Hp} {KX : XW}
end
end DL
namespace DL
open PySem PySem.Spec L2
open PyProof.Rows hiding St
section
variable {X : Cx} {B G0 : Hp} {e o a b c tg i : Expr} {pos p2 : Pos} {es rest : List Expr}
theorem zcM : bootBuiltins "tuple" = some (.type "tuple") := by decide +kernel
end
end DL
namespace DL
open PySem PySem.Spec PySem.W PyProof.Rows
section
variable {key : Nat -> Int} {p : Array Nat}
section
variable {N : Nat} (hN : 0 < N)
include hN
end
end
end DL
namespace DL
open PySem PySem.Spec PySem.W PyProof.Rows
section
variable {prog : Program} {w : World} {A : Around} {E : Value -> Shared -> Prop} {s : Shared}
end
end DL
namespace DL
open PySem PySem.Spec PySem.W PyProof.Rows
section
variable {prog : Program} {w : World} {A : Around} {E : Value -> Shared -> Prop} {s : Shared}
end
end DL
namespace DL
open PySem PySem.Spec L2
open PyProof.Rows hiding St
section
variable {X : Cx}
end
end DL
namespace DL
open PySem PySem.Spec L2
open PyProof.Rows hiding St
section
variable {X : Cx}
theorem zeJ : bootBuiltins "repr" = some (.builtin "repr") := by decide +kernel
end
end DL
namespace DL
open PySem PySem.Spec L2
open PyProof.Rows hiding St
section
variable {X : Cx} {B G0 : Hp} {e o a b c tg : Expr} {pos p2 : Pos} {es rest : List Expr} {te to ti : TE}
def zhd {β : Type} (p : D -> D -> Option β) (f : M D) (j : Nat) : M β := zam f fun x => fun ρ => match ρ[j]? with
 | some (some (.pub d)) => mOpt (p x d) ρ
 | some (some (.own ds)) => mOpt (p x (.list ds)) ρ
 | _ => .bad
theorem znq {K : PySem.W.Frag} {σ : St} {H : Hp} {p : D -> D -> Option Bool} {r : R2} {j : Nat} {f : M D} {Q : Bool -> Hp -> Prop} {QV : VK} (hq : ∀ t H3, Q t H3 -> QV (.bl t) H3)
  (hr : ∀ v u G H x y d Q, Same G H -> Rep K G v x -> Rep K G u y -> p x y = some d -> Q (.bl d) H -> r v u H Q)
  (q : tBo K B G0 (zhd p f j) σ H Q) : tD K B G0 f σ H fun x H1 => tVar j σ H1 fun y H2 => r x y H2 QV := by
 refine tM.one (R := Rep K) q fun v H2 G ρ x k rx a => ?_
 cases z : ρ[j]? with
 | none => rw [z] at a; exact a.elim
 | some o =>
  cases o with
  | none => rw [z] at a; exact a.elim
  | some sl =>
   cases sl with
   | pub d =>
    rw [z] at a
    dsimp only at a
    obtain ⟨d', e', a'⟩ := aft.opt a
    obtain ⟨u, h1, h2⟩ := k.pub j d z
    exact ⟨u, h1, hr v u G H2 x d d' _ k.gh rx h2 e' (hq _ _ (a' d' G H2 k (.refl _) rfl))⟩
   | own ds =>
    rw [z] at a
    dsimp only at a
    obtain ⟨d', e', a'⟩ := aft.opt a
    obtain ⟨ad, vs, h1, h2, h3, h4, h5⟩ := k.own j ds z
    exact ⟨.ref ad, h1, hr v (.ref ad) H2 H2 x (.list ds) d' _ (.refl _) (rx.mono k.gh) (.lst (SqL.of h4) (h5.mono k.gh)) e' (hq _ _ (a' d' G H2 k (.refl _) rfl))⟩
theorem zkS {op : CmpOp} {p : D -> D -> Option Bool} {j : Nat} {f : M D} (o : OpB X (compareOp op) p) (ha : PE X a (tD X.K B G0 f)) (hb : PE X b (tVar j)) (hm : behindInMarks op b = false) :
  PT X (.Compare a [op] [b] pos) (tBo X.K B G0 (zhd p f j)) := by
 obtain ⟨r, h, i⟩ := o
 exact ptof (zfY h ha hb hm) fun σ H Q q => znq (fun t H3 z => ⟨t, rfl, z⟩) i q
theorem zjq {β : Type} {p : D -> D -> Option β} {f : M D} {j : Nat} {ρ ρ1 : DEnv} {x : D} {ds : List D} {r : β} (h1 : f ρ = .ok x ρ1) (h2 : ρ1[j]? = some (some (.own ds))) (h3 : p x (.list ds) = some r) : zhd p f j ρ = .ok r ρ1 := by
 unfold zhd; exact zaE h1 (by rw [h2]; exact zbH h3)
end
end DL
namespace DL
open PySem PySem.Spec L2
open PyProof.Rows hiding St
section
variable {X : Cx} {B G0 : Hp} {e o a b c tg : Expr} {pos p2 : Pos} {es rest : List Expr}
end
end DL
namespace HT
open PySem PyProof.Rows
section
open PySem.SeqAt
open PySem.AutoSeq1 (wpAny_loadPart')
open PySem.MeetsSeq PySem.MeetsSeq2 PySem.MeetsSeq3
end
section
variable {prog : Program} {w : World} {A : Around} {E : Value -> Shared -> Prop} {s : Shared}
end
end HT
namespace DL
open PySem PySem.Spec L2
open PyProof.Rows hiding St
section
variable {X : Cx}
end
end DL
namespace DL
open PySem PySem.Spec L2
open PyProof.Rows hiding St
section
variable {X : Cx}
end
end DL
namespace DL
open PySem
theorem lz0 {P : List Value -> Prop} {us : List Value} (hl : us.length = 0) (h : P []) : P us := by
 cases us with
 | nil => exact h
 | cons a r => cases hl
theorem lzS {P : List Value -> Prop} {us : List Value} {n : Nat} (hl : us.length = n + 1) (h : ∀ a r, r.length = n -> P (a :: r)) : P us := by
 cases us with
 | nil => cases hl
 | cons a r => exact h a r (Nat.succ.inj hl)
theorem lz1 {P : List Value -> Prop} {us : List Value} (hl : us.length = 1) (h : ∀ a, P [a]) : P us := lzS hl fun a r e => lz0 (P := fun r => P (a :: r)) e (h a)
theorem lz2 {P : List Value -> Prop} {us : List Value} (hl : us.length = 2) (h : ∀ a b, P [a, b]) : P us := lzS hl fun a r e => lz1 (P := fun r => P (a :: r)) e (h a)
theorem lz3 {P : List Value -> Prop} {us : List Value} (hl : us.length = 3) (h : ∀ a b c, P [a, b, c]) : P us := lzS hl fun a r e => lz2 (P := fun r => P (a :: r)) e (h a)
theorem lz4 {P : List Value -> Prop} {us : List Value} (hl : us.length = 4) (h : ∀ a b c d, P [a, b, c, d]) : P us := lzS hl fun a r e => lz3 (P := fun r => P (a :: r)) e (h a)
theorem lz5 {P : List Value -> Prop} {us : List Value} (hl : us.length = 5) (h : ∀ a b c d e, P [a, b, c, d, e]) : P us := lzS hl fun a r e => lz4 (P := fun r => P (a :: r)) e (h a)
theorem bz1 {fd : FuncData} {ps : List Str} {us : List Value} (hl : us.length = 1) (h : ∀ a, bindArgs fd { pos := [a] } = pure (ps.zip [a])) : bindArgs fd { pos := us } = pure (ps.zip us) := lz1 (P := fun us => bindArgs fd { pos := us } = pure (ps.zip us)) hl h
theorem bz2 {fd : FuncData} {ps : List Str} {us : List Value} (hl : us.length = 2) (h : ∀ a b, bindArgs fd { pos := [a, b] } = pure (ps.zip [a, b])) : bindArgs fd { pos := us } = pure (ps.zip us) := lz2 (P := fun us => bindArgs fd { pos := us } = pure (ps.zip us)) hl h
theorem bz3 {fd : FuncData} {ps : List Str} {us : List Value} (hl : us.length = 3) (h : ∀ a b c, bindArgs fd { pos := [a, b, c] } = pure (ps.zip [a, b, c])) : bindArgs fd { pos := us } = pure (ps.zip us) := lz3 (P := fun us => bindArgs fd { pos := us } = pure (ps.zip us)) hl h
theorem bz5 {fd : FuncData} {ps : List Str} {us : List Value} (hl : us.length = 5) (h : ∀ a b c d e, bindArgs fd { pos := [a, b, c, d, e] } = pure (ps.zip [a, b, c, d, e])) : bindArgs fd { pos := us } = pure (ps.zip us) := lz5 (P := fun us => bindArgs fd { pos := us } = pure (ps.zip us)) hl h
end DL
namespace DL
open PySem PySem.Spec L2
open PyProof.Rows hiding St
def whole (h : Heap) : PySem.W.Frag := (List.range h.objs.size).filterMap fun a => (h.get? a).map fun o => (a, o)
theorem zfI {g : Addr -> Option Obj} {x : Addr} : ∀ l : List Addr, (l.filterMap fun a => (g a).map fun o => (a, o)).lookup x = if x ∈ l then g x else none
 | [] => rfl
 | y :: l => by
  have ih := zfI (g := g) (x := x) l
  by_cases e : x = y
  ·subst e
   rw [if_pos List.mem_cons_self]
   cases z : g x with
   | none => rw [List.filterMap_cons_none (by rw [z]; rfl), ih, z]; split <;> rfl
   | some o => rw [List.filterMap_cons_some (by rw [z]; rfl), List.lookup_cons, beq_self_eq_true]
  ·have m : (x ∈ y :: l) = (x ∈ l) := by simp [List.mem_cons, e]
   have b : (x == y) = false := by simpa using e
   have ih' : (if x ∈ y :: l then g x else none) = _ := (by simp only [m]; exact ih.symm)
   rw [ih']
   cases z : g y with
   | none => rw [List.filterMap_cons_none (by rw [z]; rfl)]
   | some o => rw [List.filterMap_cons_some (by rw [z]; rfl), List.lookup_cons, b]
theorem zaY {h : Heap} {a : Addr} : (whole h).lookup a = h.get? a := by
 unfold whole
 rw [zfI]
 split
 ·rfl
 ·rename_i n
  cases z : h.get? a with
  | none => rfl
  | some o => exact absurd (List.mem_range.mpr (Heap.lt_size z)) n
theorem zjr (h : Heap) : (whole h).In h := fun a o e => by rw [zaY] at e; exact e
def znr (st : Stmt) : Option DefRec := match st with
 | .FunctionDef name a b _ _ _ sc _ _ pos => some ⟨name, a, b, sc, pos⟩
 | _ => none
def zgF (st : Stmt) : Option Str := match st with
 | .FunctionDef name _ _ _ _ _ _ _ _ _ => some name
 | _ => none
def zns (st : Stmt) : Pos := match st with
 | .FunctionDef _ _ _ _ _ _ _ _ _ pos => pos
 | _ => ⟨0, 0, 0, 0⟩
abbrev stAt (p : Program) (i : Nat) : Stmt := p.main.body.getD i (.Pass ⟨0, 0, 0, 0⟩)
def zeK (p : Program) (ix : List Nat) : List DefRec := ix.filterMap fun i => znr (stAt p i)
section
variable {p q : Program} {loose : List Str} {mean : ExcName -> Option Value} {mg mb : Str -> Option Value} {h : Heap} {w : World}
theorem zih {ix : List Nat} (T : Top q loose mean mg mb h) (e : recsOf q = zeK p ix) (i : Nat) (x : Str) (hi : ix.contains i = true) (hn : zgF (stAt p i) = some x) : ∃ f fd, mg x = some (.ref f) /\ Fun (whole h) x x (stAt p i) f fd := by
 cases hs : stAt p i with
 | FunctionDef name a b _ _ _ sc _ _ pos =>
  rw [hs] at hn
  cases hn
  have hd : (⟨x, a, b, sc, pos⟩ : DefRec) ∈ recsOf q := by
   rw [e]
   exact List.mem_filterMap.mpr ⟨i, by simpa using hi, by rw [hs]; rfl⟩
  obtain ⟨f, ⟨oc, od, dt, osl⟩, pm, cd, doc, h1, h2, h3, h4⟩ := T.fn _ hd
  have h3 : dt = _ := h3
  subst h3
  refine ⟨f, _, h1, ⟨⟨oc, od, .none, doc, pm, _, cd, _, osl, rfl, by rw [zaY]; exact h2, ?_⟩, ?_⟩⟩
  ·obtain ⟨c, ⟨_, _, dc, _⟩, vs, t, rfl, g1, g2, g3⟩ := h4
   have g2 : dc = _ := g2
   subst g2
   unfold PySem.W.codeIn
   dsimp only
   rw [zaY, g1]
   dsimp only
   have g4 : vs.toList[1]? = some (.str x t) := by rw [Array.getElem?_toList]; exact g3
   cases hv : vs.toList with
   | nil => rw [hv] at g4; cases g4
   | cons v0 r =>
    rw [hv] at g4
    cases r with
    | nil => cases g4
    | cons v1 r => cases g4; exact beq_self_eq_true _
  ·unfold PySem.W.keepIn
   dsimp only
   rw [zaY, h2]
 | _ => rw [hs] at hn; cases hn
theorem zii {K : PySem.W.Frag} {x qual y : Str} {st : Stmt} {f : Addr} {fd : FuncData} (F : Fun K x qual st f fd)
  (hb : ∀ (kV doc pm : Value) (an : Option Addr) (cdv ct v : Value), bindArgs (PySem.W.fnOf x qual (zcl st) (zbx st) (zan st) .none kV doc pm an cdv ct) ⟨[v], []⟩ = pure [(y, v)]) (s : Shared) (v : Value) : BindsTo s fd ⟨[v], []⟩ [(y, v)] := by
 obtain ⟨oc, od, kV, doc, pm, an, cdv, ct, osl, rfl, lk, hcd⟩ := F.ex
 exact .of_eq (hb kV doc pm an cdv ct v)
def zjs (q : Program) (loose : List Str) (x : Str) : Bool :=
 !startupNames.contains x && !loose.contains x && !((recsOf q).map (·.name)).contains x && !((litsOf q).map (·.1)).contains x && !((clssOf q loose).map (·.name)).contains x
theorem zbN (T : Top q loose mean mg mb h) {xs : List Str} (e : xs.all (zjs q loose) = true) {x : Str} (hx : x ∈ xs) : mg x = none := by
 have := List.all_eq_true.mp e x hx
 unfold zjs at this
 simp only [Bool.and_eq_true, Bool.not_eq_true', List.contains_eq_mem, decide_eq_false_iff_not] at this
 exact T.free x this.1.1.1.1 this.1.1.1.2 this.1.1.2 this.1.2 this.2
theorem zdu (T : Top q loose mean mg mb h) {x : Str} {i : Int} (e : valOf q x = some (.int i)) : ∃ t, mg x = some (.int i t) := by
 obtain ⟨v, h1, h2⟩ := T.const x _ e
 have := h2 h
 cases this
 exact ⟨_, h1⟩
end
def scOk (sc : Scope) (N gl : List Str) : Bool := (N.all fun x => match sc.names.lookup x with | some .local => true | some .cell => true | _ => false) && gl.all fun x => match sc.names.lookup x with | some .globalImplicit => true | _ => false
def fnB (sc : Scope) (N gl : List Str) : Bool := decide (sc.kind = .function) && !sc.isCoroutine && !sc.isGenerator && decide N.Nodup && (sc.names.all fun y => match y.2 with | .free => false | _ => true) && scOk sc N gl
structure FnNm (sc : Scope) (N gl : List Str) : Prop where
 kind : sc.kind = .function
 co : sc.isCoroutine = false
 gen : sc.isGenerator = false
 nd : N.Nodup
 nofree : ∀ y ∈ sc.names, y.2 ≠ .free
 nm : ∀ x ∈ N, sc.names.lookup x = some .local ∨ sc.names.lookup x = some .cell
 gl : ∀ x ∈ gl, sc.names.lookup x = some .globalImplicit
theorem zbC {sc : Scope} {N gl : List Str} (H : fnB sc N gl = true) : FnNm sc N gl := by
 unfold fnB scOk at H
 simp only [Bool.and_eq_true, decide_eq_true_eq, Bool.not_eq_true', List.all_eq_true] at H
 obtain ⟨⟨⟨⟨⟨h1, h2⟩, h3⟩, h4⟩, h5⟩, h6, h7⟩ := H
 refine ⟨h1, h2, h3, h4, fun y hy e => ?_, fun x hx => ?_, fun x hx => ?_⟩
 ·have := h5 y hy; rw [e] at this; cases this
 ·have := h6 x hx
  split at this
  ·rename_i e; exact .inl e
  ·rename_i e; exact .inr e
  ·cases this
 ·have := h7 x hx
  split at this
  ·rename_i e; exact e
  ·cases this
section
variable {sc : Scope} {N gl : List Str} {x : Str}
theorem nq (H : FnNm sc N gl) : N.Nodup := H.nd
theorem fq (H : FnNm sc N gl) (n : Nat) : zdF N (N.take n) sc := ⟨H.kind, H.co, H.gen, H.nd, by rw [List.length_take, List.take_eq_take_iff]; omega, fun x hx => H.nm x (List.mem_of_mem_take hx), H.nofree⟩
theorem lq (H : FnNm sc N gl) (i : Nat) (h : N[i]? = some x := by rfl) : L2.Loc sc x := H.nm x (List.mem_of_getElem? h)
theorem gq (H : FnNm sc N gl) (i : Nat) (h : gl[i]? = some x := by rfl) : sc.names.lookup x = some .globalImplicit := H.gl x (List.mem_of_getElem? h)
theorem pq {X : Cx} {pos : Pos} (H : FnNm X.env.scope X.N gl) (i : Nat) (h : X.N[i]? = some x := by rfl) (hd : (x == ("__debug__" : Str)) = false := by decide) (hc : (x == ("__classdict__" : Str)) = false := by decide) : PE X (.Name x pos) (tVar i) :=
 zjI h ((H.nm x (List.mem_of_getElem? h)).elim .inl fun z => .inr (.inl z)) hd hc
end
theorem zda {q p : Program} {loose : List Str} {mean : ExcName -> Option Value} {mg mb : Str -> Option Value} {h : Heap} {ix : List Nat} (P : Program) (w : World) (base : Heap) {ps : List Str} {k n : Nat} {F : List D -> Option D} (T : Top q loose mean mg mb h) (e : recsOf q = zeK p ix) (i : Nat) (x : Str) (hi : ix.contains i = true) (hn : zgF (stAt p i) = some x)
  (ok : ∀ {f : Addr} {fd : FuncData}, Fun (whole h) x x (stAt p i) f fd -> FnOk P w (whole h) mg base CX0 k f fd ps (spD (whole h) n F))
  (hb : ∀ (kV doc pm : Value) (an : Option Addr) (cdv ct : Value) (us : List Value), us.length = ps.length -> bindArgs (PySem.W.fnOf x x (zcl (stAt p i)) (zbx (stAt p i)) (zan (stAt p i)) .none kV doc pm an cdv ct) ⟨us, []⟩ = pure (ps.zip us)) : Def P w (whole h) mg base x k n F := by
 obtain ⟨f, fd, m, FU⟩ := zih T e i x hi hn
 exact Def.mk m FU (FU.binds hb) (ok FU)
section
variable {X : Cx} {B G0 : Hp} {e : Expr} {pos : Pos} {es : List Expr}
theorem pdf {k kk n : Nat} {F : List D -> Option D} {g : M (List D)} {x : Str} {p2 : Pos} (d : Def X.prog X.w X.K X.mg X.base x k n F) (hr : Room kk X.A) (hg : Gl X x) (ha : PA X (e :: es) (tDs X.K B G0 g)) (hk : k <= kk := by decide) (hn : (e :: es).length = n := by rfl)
  (hdb : (x == ("__debug__" : Str)) = false := by decide) (he : starEach (e :: es) X.env = (false, eval e X.env) :: starEach es X.env := by rfl) (hpl : (backTo pos (starEach es X.env)).any (·.1) = false := by rfl) :
  PE X (.Call (.Name x p2) (e :: es) [] pos) (tD X.K B G0 (dFun n F g)) := zkG d (hr.mono hk) hg ha hn hdb he hpl
end
theorem znt {q p : Program} {loose : List Str} {mean : ExcName -> Option Value} {mg mb : Str -> Option Value} {h : Heap} {ix : List Nat} {P : Program} {w : World} {k : Nat} {F : List D -> Option D} {y : Str} {fa : Addr} (T : Top q loose mean mg mb h) (e : recsOf q = zeK p ix) (i : Nat) (x : Str) (hi : ix.contains i = true) (hn : zgF (stAt p i) = some x) (hfa : mg x = some (.ref fa))
  (hb : ∀ (kV doc pm : Value) (an : Option Addr) (cdv ct v : Value), bindArgs (PySem.W.fnOf x x (zcl (stAt p i)) (zbx (stAt p i)) (zan (stAt p i)) .none kV doc pm an cdv ct) ⟨[v], []⟩ = pure [(y, v)])
  (ok : ∀ (base : Heap) {f : Addr} {fd : FuncData}, Fun (whole h) x x (stAt p i) f fd -> FnOk P w (whole h) mg base CX0 k f fd [y] (spD (whole h) 1 F)) :
  ∃ fd : FuncData, (∀ (s : Shared) (v : Value), BindsTo s fd ⟨[v], []⟩ [(y, v)]) /\ ∀ base : Heap, FnOk P w (whole h) mg base CX0 k fa fd [y] (spD (whole h) 1 F) := by
 obtain ⟨f, fd, m, FU⟩ := zih T e i x hi hn
 cases hfa.symm.trans m
 exact ⟨fd, zii FU hb, fun base => ok base FU⟩
end DL
namespace DL
open PySem PySem.Spec L2
open PyProof.Rows hiding St
def ze5 : D -> Bool
 | .str x => decide (x.length <= 1000)
 | .int i => decide (0 <= i) && decide (i < 10 ^ 10)
 | .none => true
 | _ => false
def ze6 (nm : Str) (ds : List D) : Option (List D) := match zcx nm with
 | [] => (match ds with | [.str _] => some [] | _ => none)
 | f :: fs => if ds.length = (f :: fs).length /\ ds.all ze5 = true then some ds else none
abbrev exD (nm : Str) (ds : List D) : D := .dict [(.none, .tuple [.str nm, .list ds])]
section
variable {K : PySem.W.Frag} {G H H' : Hp} {nm : Str} {C a : Addr} {bm : List Value} {vs : List V} {ds fs : List D} {dd : Option Addr}
theorem zmt {v : V} {d : D} (r : Rep K G v d) (h : ze5 d = true) : ∃ y, FmtV v y /\ y.length <= 4000 := by
 cases r with
 | non => exact ⟨_, .non, by decide⟩
 | bl b => cases h
 | int i =>
  unfold ze5 at h
  simp only [Bool.and_eq_true, decide_eq_true_eq] at h
  have h64 : i.natAbs < 2 ^ 64 := by have := h.2; have := h.1; omega
  refine ⟨_, .int i ?_, Nat.le_trans (toString_length_le h.1 (by decide : 0 < 10) h.2) (by decide)⟩
  by_cases z : i.natAbs = 0
  ·rw [z]; decide
  ·have := (Nat.log2_lt z).mpr h64
   omega
 | str x =>
  unfold ze5 at h
  have h := of_decide_eq_true h
  exact ⟨x, .str x (Nat.le_trans h (by decide)), Nat.le_trans h (by decide)⟩
 | lst _ _ => cases h
 | tup _ _ => cases h
 | dic _ => cases h
 | exc _ _ _ _ => cases h
 | dct _ _ _ _ _ => cases h
theorem zij : ∀ {vs : List V} {ds : List D}, Reps K G vs ds -> ds.all ze5 = true -> ∀ u ∈ vs, ∃ y, FmtV u y /\ y.length <= 4000
 | _, _, .nil, _, u, hu => by cases hu
 | _, _, .cons r t, h, u, hu => by
  rw [List.all_cons, Bool.and_eq_true] at h
  rcases List.mem_cons.mp hu with rfl | hu
  ·exact zmt r h.1
  ·exact zij t h.2 u hu
theorem zjt (r : Reps K G vs ds) (e : ze6 nm ds = some fs) : zl8 nm vs := by
 unfold ze6 at e
 split at e
 ·rename_i hf
  split at e
  ·obtain ⟨v, rfl, q⟩ := r.one_inv
   exact .inl ⟨hf, _, by rw [q.str_inv]⟩
  ·cases e
 ·rename_i f l hf
  split at e
  ·rename_i c
   refine .inr ⟨by rw [hf]; simp, by rw [r.length, hf]; exact c.1, zij r c.2⟩
  ·cases e
theorem zkT (c : ClsK K nm C bm) (s : Same G H) (ha : H a = none) (r : Reps K G vs ds) (e : ze6 nm ds = some fs) (p : zl9 nm C a vs (upd H a (.ext (XO true a C none))) dd H') :
  ∃ G', Ext G H G' (upd H' a (.ext (XO false a C dd))) /\ Rep K G' (.ref a) (exD nm fs) /\ H' a = some (.ext (XO true a C dd)) := by
 unfold ze6 at e
 rcases p with ⟨hf, rfl, rfl⟩ | ⟨hf, hl, dx, rfl, hd, hne, rfl⟩
 ·rw [hf] at e
  dsimp only at e
  split at e
  ·cases e
   refine ⟨upd G a (.ext (XO false a C none)), ?_, .exc (vs := []) c zaz ⟨hf, rfl⟩ .nil, zaz⟩
   rw [zhl]
   exact Ext.new s ha
  ·cases e
 ·split at e
  ·rename_i hf'; exact absurd hf' hf
  ·rename_i f l hf'
   split at e
   ·cases e
    have hd' : H dx = none := by rw [zaG hne] at hd; exact hd
    have eH : upd (upd (upd (upd H a (.ext (XO true a C none))) a (.ext (XO true a C (some dx)))) dx (.ext (XD dx ((zcx nm).zip vs)))) a (.ext (XO false a C (some dx))) = upd (upd H a (.ext (XO false a C (some dx)))) dx (.ext (XD dx ((zcx nm).zip vs))) := by
     funext b
     by_cases h1 : b = a
     ·subst h1; rw [zaz, zaG (Ne.symm hne), zaz]
     ·rw [zaG h1]
      by_cases h2 : b = dx
      ·subst h2; rw [zaz, zaz]
      ·rw [zaG h2, zaG h1, zaG h1, zaG h2, zaG h1]
    have x1 : Ext G H (upd G a (.ext (XO false a C (some dx)))) (upd H a (.ext (XO false a C (some dx)))) := Ext.new s ha
    have hd2 : upd H a (.ext (XO false a C (some dx))) dx = none := by rw [zaG hne]; exact hd'
    have x2 := x1.trans (Ext.new (o := .ext (XD dx ((zcx nm).zip vs))) x1.gh hd2)
    exact ⟨_, by rw [eH]; exact x2, .exc (dd := some dx) (vs := vs) c (by rw [zaG (Ne.symm hne)]; exact zaz) ⟨hl.symm, zaz⟩ (r.mono x2.g), by rw [zaG (Ne.symm hne)]; exact zaz⟩
   ·cases e
end
def zcN (nm : Str) (g : M (List D)) : SM := sB g fun ds ρ => match ze6 nm ds with | some fs => .ex ρ (exD nm fs) | none => .bad
section
variable {X : Cx} {B G0 : Hp} {KX : XW} {e a b c : Expr} {pos p2 cpos : Pos} {es : List Expr} {st : Stmt} {sts : List Stmt} {nm x : Str} {k kk n : Nat}
theorem zdv {g : M (List D)} (mk : MkX X.prog X.w X.K X.mg X.base nm k) (hr : Room kk X.A) (hc : X.calm = true) (hw : zez X KX) (hg : Gl X nm) (ha : PA X (e :: es) (tDs X.K B G0 g)) (hk : k + 1 <= kk := by decide)
  (hdb : (nm == ("__debug__" : Str)) = false := by decide) (he : starEach (e :: es) X.env = (false, eval e X.env) :: starEach es X.env := by rfl) (hpl : (backTo cpos (starEach es X.env)).any (·.1) = false := by rfl) :
  PS X (.Raise (some (.Call (.Name nm p2) (e :: es) [] cpos)) none pos) (tS X.K B G0 KX (zcN nm g)) := PS.kin fun kin => by
 obtain ⟨C, bm, f, fd, ps, sp, hm, hkp, ck, xc, F, hb, hsp⟩ := mk
 refine psof (ziZ (KC := fun C' => C' = C) hc (fun C' z => by subst z; exact ⟨bm, f, xc _ _ kin⟩) hw (ziY (xc _ _ kin) F (hr.mono hk) hg hm hkp hb ha hdb he hpl)) fun Dn σ H q => ?_
 refine tS.bnd (R := Reps X.K) q fun vs H1 G1 ρ1 ds k1 r a => ?_
 cases z : ze6 nm ds with
 | none => rw [z] at a; exact a.elim
 | some fs =>
  rw [z] at a
  have ar := zjt r z
  refine ⟨?_, fun ad had => hsp ad vs _ _ zaz ar fun dd H' p => ⟨rfl, ?_⟩⟩
  ·rcases ar with ⟨_, x, rfl⟩ | ⟨_, hl, _⟩
   ·exact (show 1 <= sizeLine by decide)
   ·rw [hl]
    unfold zcx
    split
    ·decide
    ·split
     ·decide
     ·split <;> decide
  ·obtain ⟨G', ex, rp, hx⟩ := zkT ck k1.gh had r z p
   exact ⟨ad, C, dd, rfl, rfl, hx, a (.ref ad) σ G' _ (k1.ext ex) ex.g rp⟩
inductive XR where
 | val (d : D) | exc (d : D)
def spX (K : PySem.W.Frag) (n : Nat) (F : List D -> Option XR) : Sp := fun vs H Q E => ∃ G ds r, vs.length = n /\ Same G H /\ Reps K G vs ds /\ F ds = some r /\ match r with
 | .val d => ∀ v G' H', Ext G H G' H' -> Rep K G' v d -> Q v H'
 | .exc d => ∀ ad G' H', Ext G H G' H' -> Rep K G' (.ref ad) d -> E (.ref ad) none H'
def DefX (P : Program) (w : World) (K : PySem.W.Frag) (mg : Str -> Option Value) (base : Heap) (x : Str) (k n : Nat) (F : List D -> Option XR) : Prop :=
 ∃ (f : Addr) (fd : FuncData) (ps : List Str), mg x = some (.ref f) /\ PySem.W.keepIn K (.ref f) = true /\ zc9 K fd ps [] /\ FnOk P w K mg base (CX1 P w) k f fd ps (spX K n F)
def aftX (K : PySem.W.Frag) (B G0 : Hp) (KX : XW) (r : Res XR) (G : Hp) (σ : St) (Q : VK) : Prop := match r with
 | .ok (.val d) ρ => ∀ v G' H', EOk K B G0 G' H' σ ρ -> Same G G' -> Rep K G' v d -> Q v H'
 | .ok (.exc d) ρ => ∀ v G' H', EOk K B G0 G' H' σ ρ -> Same G G' -> Rep K G' v d -> KX v σ H'
 | .bad => False
def tX (K : PySem.W.Frag) (B G0 : Hp) (KX : XW) (f : M XR) : TE := fun σ H Q => ∃ G ρ, EOk K B G0 G H σ ρ /\ aftX K B G0 KX (f ρ) G σ Q
def zgf (n : Nat) (F : List D -> Option XR) (g : M (List D)) : M XR := zam g fun xs => if xs.length = n then mOpt (F xs) else fun _ => .bad
theorem ze7 {F : List D -> Option XR} {g : M (List D)} (d : DefX X.prog X.w X.K X.mg X.base x k n F) (hr : Room kk X.A) (hw : zez X KX) (hg : Gl X x) (ha : PA X (e :: es) (tDs X.K B G0 g)) (hk : k <= kk := by decide) (hn : (e :: es).length = n := by rfl)
  (hdb : (x == ("__debug__" : Str)) = false := by decide) (he : starEach (e :: es) X.env = (false, eval e X.env) :: starEach es X.env := by rfl) (hpl : (backTo pos (starEach es X.env)).any (·.1) = false := by rfl) :
  PE X (.Call (.Name x p2) (e :: es) [] pos) (tX X.K B G0 KX (zgf n F g)) := by
 obtain ⟨f, fd, ps, h1, h2, h3, h4⟩ := d
 refine peof (zi1 h4 (hr.mono hk) hg h1 h2 h3 hw ha hdb he hpl) fun σ H Q ⟨G, ρ, k0, a⟩ => ?_
 refine ⟨G, ρ, k0, ?_⟩
 unfold zgf zam at a
 cases z : g ρ with
 | bad => rw [z] at a; exact a.elim
 | ok xs ρ1 =>
  rw [z] at a
  dsimp only at a
  intro vs G1 H1 k1 s1 r
  by_cases hl : xs.length = n
  ·rw [if_pos hl] at a
   cases zF : F xs with
   | none => rw [zF] at a; exact a.elim
   | some rr =>
    rw [zF] at a
    refine ⟨G1, xs, rr, by rw [r.length]; exact hl, k1.gh, r, zF, ?_⟩
    cases rr with
    | val d => exact fun v G' H' ex rv => a v G' H' (k1.ext ex) (s1.trans ex.g) rv
    | exc d =>
     intro ad' G' H' ex rv ad ev
     cases ev
     exact a _ G' H' (k1.ext ex) (s1.trans ex.g) rv
  ·rw [if_neg hl] at a; exact a.elim
def sX (f : M XR) (g : D -> SM) : SM := fun ρ => match f ρ with
 | .ok (.val d) ρ' => g d ρ'
 | .ok (.exc d) ρ' => .ex ρ' d
 | .bad => .bad
theorem tS.bndX {K : PySem.W.Frag} {f : M XR} {g : D -> SM} {Dn : Ends} {σ : St} {H : Hp} {P : V -> Hp -> Prop} (q : tS K B G0 KX (sX f g) Dn σ H)
  (i : ∀ v H' G' ρ' x, EOk K B G0 G' H' σ ρ' -> Rep K G' v x -> aftS K B G0 KX (g x ρ') G' Dn -> P v H') : tX K B G0 KX f σ H P := by
 obtain ⟨G, ρ, k, a⟩ := q
 refine ⟨G, ρ, k, ?_⟩
 unfold sX at a
 cases z : f ρ with
 | bad => rw [z] at a; exact a.elim
 | ok r ρ1 =>
  rw [z] at a
  cases r with
  | val d => exact fun v G' H' e s r => i v H' G' ρ1 d e r (aftS.mono s a)
  | exc d => exact fun v G' H' e s r => a v σ G' H' e s r
theorem zgG {f : M XR} (h : PE X e (tX X.K B G0 KX f)) (hs : swapsWith e none pos.line X.env = pure false := by rfl) : PS X (.Expr e pos) (tS X.K B G0 KX (sX f fun _ ρ => .nx ρ)) := psof (zeR h hs) fun D σ H q => tS.bndX q fun v H' G' ρ' x k r a => a σ G' H' k (.refl _)
theorem zkU {i : Nat} {y : Str} {f : M XR} (hN : X.N.Nodup) (hi : X.N[i]? = some y) (hx : Loc X.env.scope y) (he : PE X e (tX X.K B G0 KX f)) (hs : swapsWith e (some (.Name y p2)) pos.line X.env = pure false := by rfl)
  (hf : X.fn y = true ∨ X.env.scope.names.lookup y = some .local := by first | exact .inl rfl | exact .inr rfl | assumption) : PS X (.Assign [.Name y p2] e pos) (tS X.K B G0 KX (sX f fun d ρ => match gN i d ρ with | some ρ' => .nx ρ' | none => .bad)) :=
 psof (zhq hN hi hx he hs hf) fun D σ H q => tS.bndX q fun v H' G' ρ' x k r a => by
  unfold gN at a
  split at a
  ·rename_i ρ2 hz
   split at hz
   ·rename_i hi2
    cases hz
    exact a _ G' H' (k.setPub r hi2) (.refl _)
   ·cases hz
  ·exact a.elim
def runX (N : List Str) (g : SM) (ds : List D) : Option XR := match g (zcm N ds) with
 | .rt d => some (.val d)
 | .nx _ => some (.val .none)
 | .ex _ d => if zf8 d = true then some (.exc d) else none
 | _ => none
abbrev kxE (E : XK) : XW := fun v _ H => ∃ e, v = .ref e /\ E (.ref e) none H
theorem okX {P : Program} {w : World} {K : PySem.W.Frag} {mg : Str -> Option Value} {base : Heap} {x qual : Str} {st : Stmt} {f : Addr} {fd : FuncData} {N ps : List Str} {k n : Nat} {g : SM} (F : Fun K x qual st f fd) (S : zdF N ps (zan st)) (hn : ps.length = n)
  (der : ∀ (cdv : Value) (A : Around) (outer : List Env) (s : Shared) (H : Hp) (E : XK) (B G0 : Hp), Room k (A.deeper (envOfC qual (zan st) s.heap.objs.size f cdv)) ->
   PSs (cxOf (CX1 P w) P w K mg base N qual (zan st) f cdv A outer s H E) (zbx st) (tS K B G0 (kxE E) g)) : FnOk P w K mg base (CX1 P w) (k + 1) f fd ps (spX K n (runX N g)) := by
 obtain ⟨oc, od, kV, doc, pm, an, cdv, ct, osl, rfl, lk, hcd⟩ := F.ex
 refine zlW lk hcd S (fun vs H Q E h => ?_) fun A outer s H vs Q E hr h => ?_
 ·obtain ⟨_, _, _, hl, _⟩ := h
  rw [hl, hn]
 ·obtain ⟨G, ds, r, hl, sg, rp, hF, q⟩ := h
  refine ⟨_, der cdv A outer s H E H G hr, G, zcm N ds, zgA sg rp, ?_⟩
  unfold runX at hF
  cases z : g (zcm N ds) with
  | rt d' =>
   rw [z] at hF
   cases hF
   exact fun v G' H' ex rr => q v G' H' ex rr
  | nx ρ =>
   rw [z] at hF
   cases hF
   exact fun σ' G' H' k' _ => q .non G' H' k'.exit .non
  | ex ρ d =>
   rw [z] at hF
   dsimp only at hF
   split at hF
   ·rename_i hx
    cases hF
    intro v σ' G' H' k' _ rv
    obtain ⟨ad, rfl⟩ : ∃ ad, v = .ref ad := by
     cases rv with
     | exc _ _ _ _ => exact ⟨_, rfl⟩
     | dct _ _ _ _ _ => exact ⟨_, rfl⟩
     | _ => cases hx
    exact ⟨ad, rfl, q ad G' H' k'.exit rv⟩
   ·cases hF
  | bk ρ => rw [z] at hF; cases hF
  | ct ρ => rw [z] at hF; cases hF
  | bad => rw [z] at hF; cases hF
end
end DL
namespace DL
open PySem PySem.Spec L2
open PyProof.Rows hiding St
section
variable {K : PySem.W.Frag} {B G0 G H : Hp} {σ : St} {ρ : DEnv}
theorem EOk.unset {i : Nat} (k : EOk K B G0 G H σ ρ) : EOk K B G0 G H (σ.set i none) (ρ.set i none) where
 bh := k.bh
 gh := k.gh
 g0 := k.g0
 np := k.np
 len := by rw [List.length_set, List.length_set]; exact k.len
 pub := fun j d' q => by
  by_cases z : i = j
  ·subst z
   have := zbg q
   cases this
  ·rw [List.getElem?_set_ne z] at q ⊢
   exact k.pub j d' q
 own := fun j ds q => by
  by_cases z : i = j
  ·subst z
   have := zbg q
   cases this
  ·rw [List.getElem?_set_ne z] at q ⊢
   exact k.own j ds q
 sep := fun j l c es fs q1 q2 s1 s2 => by
  have z1 : i ≠ j := fun z => by subst z; have := zbg q1; cases this
  have z2 : i ≠ l := fun z => by subst z; have := zbg q2; cases this
  rw [List.getElem?_set_ne z1] at q1 s1
  rw [List.getElem?_set_ne z2] at q2 s2
  exact k.sep j l c es fs q1 q2 s1 s2
end
def CK (K : PySem.W.Frag) (mg : Str -> Option Value) (x : Str) : Prop := ∃ D bm, mg x = some (.ref D) /\ ClsK K x D bm
def zfJ (x : Str) : D -> Bool
 | .dict [(.none, .tuple [.str nm, _])] => decide (x = nm) || decide (x = "DealError")
 | _ => false
def sTry (i : Nat) (x : Str) (g h : SM) : SM := fun ρ => match g ρ with
 | .ex ρ1 d => if zfJ x d = true /\ i < ρ1.length then (match h (ρ1.set i (some (.pub d))) with
  | .nx ρ2 => .nx (ρ2.set i none)
  | .bk ρ2 => .bk (ρ2.set i none)
  | .ct ρ2 => .ct (ρ2.set i none)
  | .rt d2 => .rt d2
  | _ => .bad) else .bad
 | o => o
section
variable {X : Cx} {B G0 : Hp} {KX : XW} {e a b c : Expr} {pos p2 cpos np hpos : Pos} {es : List Expr} {x n : Str} {k kk : Nat}
theorem zik {K : PySem.W.Frag} {G : Hp} {v : V} {d : D} {D' : Addr} {bmD : List Value} (r : Rep K G v d) (h : zfJ x d = true) (cD : ClsK K x D' bmD) :
  ∃ a C dd bm, v = .ref a /\ KC K C bm /\ G a = some (.ext (XO false a C dd)) /\ (Value.ref C :: bm).contains (.ref D') = true := by
 unfold zfJ at h
 split at h
 ·obtain ⟨a, C, dd, bm, nm', vs, ds, rfl, e0, c, hx, _, _⟩ := r.exc_inv
  cases e0
  exact ⟨a, C, dd, bm, rfl, ⟨_, c⟩, hx, by rw [c.has cD]; exact h⟩
 ·cases h
theorem zmu {i : Nat} {g h : SM} {body suite : List Stmt} {b₀ : Stmt} {st : List Env} (cD : CK X.K X.mg x) (hg : Gl X x) (hN : X.N.Nodup) (hi : X.N[i]? = some n) (hl : X.env.kindOf n = some .local)
  (hb : ∀ (KX' : XW) (W : Value -> Shared -> Prop) (pn : List (Addr × Obj)), zez (X.tried W pn) KX' -> PSs (X.tried W pn) body (tS X.K B G0 KX' g)) (hs : ∀ a, PSs (X.suite a) (b₀ :: suite) (tS X.K B G0 KX0 h))
  (hstk : X.stack = X.env :: st := by rfl) (hfr : X.env.frame = some X.env.locals := by rfl) (hdb : (x == ("__debug__" : Str)) = false := by decide) :
  PS X (.Try body [.ExceptHandler (some (.Name x np)) (some n) (b₀ :: suite) hpos] [] [] pos) (tS X.K B G0 KX (sTry i x g h)) := PS.kin fun kin => by
 obtain ⟨D', bmD, hm, ck⟩ := cD
 obtain ⟨fD, xD⟩ := ck.cls (model X.prog X.w) X.base kin
 refine psof (zl5 (KC := KC X.K) (tb := fun KX' => tS X.K B G0 KX' g) (ts := tS X.K B G0 KX0 h) hstk hfr (zfu kin) xD hg hm hN hi hl hb hs hdb) fun Dn σ H ⟨G, ρ, k, a⟩ => ?_
 refine ⟨G, ρ, k, ?_⟩
 unfold sTry at a
 cases z : g ρ with
 | nx ρ1 => rw [z] at a; exact a
 | rt d => rw [z] at a; exact a
 | bk ρ1 => rw [z] at a; exact a
 | ct ρ1 => rw [z] at a; exact a
 | bad => rw [z] at a; exact a.elim
 | ex ρ1 d =>
  rw [z] at a
  dsimp only at a
  intro v σ1 G1 H1 k1 s1 r
  by_cases hc : zfJ x d = true /\ i < ρ1.length
  ·rw [if_pos hc] at a
   obtain ⟨ad, C, dd, bm, rfl, kc, hx, hct⟩ := zik r hc.1 ck
   refine ⟨ad, C, dd, bm, rfl, kc, k1.gh _ _ hx, hct, G1, _, k1.setPub r hc.2, ?_⟩
   cases z2 : h (ρ1.set i (some (.pub d))) with
   | nx ρ2 => rw [z2] at a; exact fun σ2 G2 H2 k2 s2 => a _ G2 H2 k2.unset (s1.trans s2)
   | bk ρ2 => rw [z2] at a; exact fun σ2 G2 H2 k2 s2 => a _ G2 H2 k2.unset (s1.trans s2)
   | ct ρ2 => rw [z2] at a; exact fun σ2 G2 H2 k2 s2 => a _ G2 H2 k2.unset (s1.trans s2)
   | rt d2 => rw [z2] at a; exact a
   | ex _ _ => rw [z2] at a; exact a.elim
   | bad => rw [z2] at a; exact a.elim
  ·rw [if_neg hc] at a; exact a.elim
def oIsX (x : Str) : D -> Option D
 | .dict [(.none, .tuple [.str nm, _])] => some (.bool (decide (x = nm) || decide (x = "DealError")))
 | _ => none
theorem zbW {f : M D} {p3 : Pos} (cD : CK X.K X.mg x) (hg : Gl X "isinstance") (hm : X.mg "isinstance" = none) (hg2 : Gl X x) (ha : PE X e (tD X.K B G0 f)) (hdb : (x == ("__debug__" : Str)) = false := by decide)
  (hs : starEach [e, .Name x p3] X.env = (false, eval e X.env) :: starEach [.Name x p3] X.env := by rfl)
  (hs2 : starEach [.Name x p3] X.env = [(false, eval (.Name x p3) X.env)] := by rfl) :
  PE X (.Call (.Name "isinstance" p2) [e, .Name x p3] [] pos) (tD X.K B G0 (zam f fun d => mOpt (oIsX x d))) := PE.kin fun kin => by
 obtain ⟨D', bmD, hm2, ck⟩ := cD
 refine peof (zc5 (zeV (zfu kin)) hg hm zcc (zbS ha (zbS (zho (v := .ref D') hg2 hm2 rfl hdb) zdk (by rw [hs2]; rfl)) hs) (by decide) (by decide) hs (by rw [hs2]; rfl)) fun σ H Q q => ?_
 refine tM.one (R := Rep X.K) q fun v H2 G ρ d k r a => ?_
 obtain ⟨d', e', a'⟩ := aft.opt a
 unfold oIsX at e'
 split at e'
 ·obtain ⟨ad, C, dd, bm, nm', vs, ds, rfl, e0, c, hx, _, _⟩ := r.exc_inv
  cases e0
  cases e'
  exact ⟨ad, C, dd, bm, false, .ref D', _, rfl, ⟨_, c⟩, k.gh _ _ hx, .inl ⟨D', bmD, rfl, ⟨_, ck⟩, c.has ck⟩, a'.now k (.bl _)⟩
 ·cases e'
def oIsV : D -> Option D
 | .dict [(.none, _)] => some (.bool true)
 | _ => none
theorem zkV : bootBuiltins "ValueError" = some (.type "ValueError") := by decide +kernel
theorem zkW {f : M D} {p3 : Pos} (hg : Gl X "isinstance") (hm : X.mg "isinstance" = none) (hg2 : Gl X "ValueError") (hm2 : X.mg "ValueError" = none) (ha : PE X e (tD X.K B G0 f))
  (hs : starEach [e, .Name "ValueError" p3] X.env = (false, eval e X.env) :: starEach [.Name "ValueError" p3] X.env := by rfl)
  (hs2 : starEach [.Name "ValueError" p3] X.env = [(false, eval (.Name "ValueError" p3) X.env)] := by rfl) :
  PE X (.Call (.Name "isinstance" p2) [e, .Name "ValueError" p3] [] pos) (tD X.K B G0 (zam f fun d => mOpt (oIsV d))) := PE.kin fun kin => by
 refine peof (zc5 (zeV (zfu kin)) hg hm zcc (zbS ha (zbS (zhp (v := .ty "ValueError") hg2 hm2 zkV rfl (by decide) (by decide)) zdk (by rw [hs2]; rfl)) hs) (by decide) (by decide) hs (by rw [hs2]; rfl)) fun σ H Q q => ?_
 refine tM.one (R := Rep X.K) q fun v H2 G ρ d k r a => ?_
 obtain ⟨d', e', a'⟩ := aft.opt a
 unfold oIsV at e'
 split at e'
 ·obtain ⟨ad, C, dd, bm, nm', vs, ds, rfl, e0, c, hx, _, _⟩ := r.exc_inv
  cases e0
  cases e'
  exact ⟨ad, C, dd, bm, false, .ty "ValueError", true, rfl, ⟨_, c⟩, k.gh _ _ hx, .inr ⟨"ValueError", rfl, zhH, by rw [c.ty]; rfl⟩, a'.now k (.bl _)⟩
 ·cases e'
def oFld (f : Str) : D -> Option D
 | .dict [(.none, .tuple [.str nm, .list ds])] => ((zcx nm).zip ds).lookup f
 | _ => none
theorem zeL {K : PySem.W.Frag} {G : Hp} {f : Str} : ∀ {fs : List Str} {vs : List V} {ds : List D} {d : D}, Reps K G vs ds -> (fs.zip ds).lookup f = some d -> f ∈ fs /\ ∃ v, (fs.zip vs).lookup f = some v /\ Rep K G v d
 | [], vs, ds, d, _, e => by simp at e
 | g :: fs, _, _, d, .nil, e => by simp at e
 | g :: fs, _, _, d, @Reps.cons _ _ v d0 vs ds r t, e => by
  rw [List.zip_cons_cons, List.lookup_cons] at e
  rw [List.zip_cons_cons, List.lookup_cons]
  cases z : f == g with
  | true =>
   rw [z] at e
   cases e
   exact ⟨by rw [beq_iff_eq.mp z]; exact List.mem_cons_self, v, rfl, r⟩
  | false =>
   rw [z] at e
   obtain ⟨h1, h2⟩ := zeL t e
   exact ⟨List.mem_cons_of_mem _ h1, h2⟩
theorem ze8 {f : M D} {fl : Str} (he : PE X e (tD X.K B G0 f)) (hb : attributeBase e fl X.env (eval e X.env) = eval e X.env := by rfl) (hq : fl ∈ (["part", "number", "row"] : List Str) := by decide) :
  PE X (.Attribute e fl pos) (tD X.K B G0 (zam f fun d => mOpt (oFld fl d))) := PE.kin fun kin => by
 refine peof (zko (zfu kin) (fun C bm ⟨nm, c⟩ => c.fld _ _ kin fl hq) he hb) fun σ H Q q => ?_
 refine tM.one (R := Rep X.K) q fun v H2 G ρ d k r a => ?_
 obtain ⟨d', e', a'⟩ := aft.opt a
 unfold oFld at e'
 split at e'
 ·obtain ⟨ad, C, dd, bm, nm', vs, ds, rfl, rfl', c, hx, hd, rr⟩ := r.exc_inv
  cases rfl'
  obtain ⟨hm, w, e1, rw⟩ := zeL rr e'
  cases dd with
  | none => rw [hd.1] at hm; cases hm
  | some dx => exact ⟨ad, C, bm, dx, _, w, false, rfl, ⟨_, c⟩, k.gh _ _ hx, k.gh _ _ hd.2, e1, a'.now k rw⟩
 ·cases e'
end
end DL
namespace DL
open PySem PySem.Spec L2
open PyProof.Rows hiding St
def zkX (o : Expr) (name : Str) (apos : Pos) (args : List Expr) (pos : Pos) : Prop := ∀ env : Env, ∃ pl : Sem Bool, eval (.Call (.Attribute o name apos) args [] pos) env = (do
   let ov ← eval o env
   standAt apos.atName
   let (f, first) ← holding [ov] (getMethod ov name pl)
   callWith pos f first (backTo pos (starEach args env)) (backToKw pos (keywordEach [] env)))
section
variable {P : Program} {w : World} {K : PySem.W.Frag} {mg : Str -> Option Value} {base : Heap} {st : Stmt} {f f0 D : Addr} {fd fd0 : FuncData} {q : Str} {p1 p2 p3 p4 p5 p6 p7 p8 p9 r1 r2 r3 r4 r5 r6 r7 r8 r9 q1 q2 : Pos} {j1 j2 : Nat}
theorem zkY (F : Fun K "__init__" q st f fd) (hn : FnNm (zan st) ["self", "text"] ["ValueError"]) (hm : mg "ValueError" = none)
  (hb : zbx st = [.Expr (.Call (.Attribute (.Name "ValueError" p1) "__init__" p2) [.Name "self" p3, .Name "text" p4] [] p5) p6])
  (ht : zkX (.Name "ValueError" p1) "__init__" p2 [.Name "self" p3, .Name "text" p4] p5) :
  FnOk P w K mg base CX0 1 f fd ["self", "text"] (zeW (KC K)) := by
 refine F.ok (fq hn 2) (fun vs H Q E ⟨a, C, dd, bm, x, e, _⟩ => by rw [e]; rfl) fun cdv A outer s H vs Q E hr ⟨a, C, dd, bm, x, e, kc, hx, hq⟩ => ?_
 subst e
 rw [hb]
 obtain ⟨pl, ht⟩ := ht (cxOf CX0 P w K mg base ["self", "text"] q (zan st) f cdv A outer s H E).nox.env
 refine ⟨zj3 (zjP (KC K) (zhx (tVar 0) (zhx (tVar 1) tNil))), PSs.kin fun kin => zfX (zeR (zi2 (pl := pl) (zfu kin) (gq hn 0) hm (zbS (pq hn 0) (zbS (pq hn 1) zdk)) (ht := ht))), ?_⟩
 exact ⟨_, rfl, _, rfl, a, C, dd, bm, _, rfl, kc, hx, hq⟩
theorem zbX (x y : Str) : (x ++ y).length = x.length + y.length := by
 show (x.cps ++ y.cps).size = x.cps.size + y.cps.size
 exact Array.size_append
theorem zkZ {t1 t2 : Str} (M : zi3 K D "__init__" f0) (F0 : FnOk P w K mg base CX0 1 f0 fd0 ["self", "text"] (zeW (KC K))) (hb0 : zc9 K fd0 ["self", "text"] []) (hm : mg "DealError" = some (.ref D))
  (F : Fun K "__init__" q st f fd) (hn : FnNm (zan st) ["self", "part", "number"] ["DealError"])
  (hb : zbx st = [.Expr (.Call (.Attribute (.Name "DealError" p1) "__init__" p2) [.Name "self" p3, .JoinedStr [.Constant (.str t1) j1 p4, .FormattedValue (.Name "part" p5) (-1) none p6, .Constant (.str t2) j2 p7, .FormattedValue (.Name "number" p8) (-1) none p9] r1] [] r2) r3,
   .Assign [.Attribute (.Name "self" r4) "part" r5] (.Name "part" r6) r7, .Assign [.Attribute (.Name "self" r8) "number" r9] (.Name "number" q1) q2])
  (ht : zkX (.Name "DealError" p1) "__init__" p2 [.Name "self" p3, .JoinedStr [.Constant (.str t1) j1 p4, .FormattedValue (.Name "part" p5) (-1) none p6, .Constant (.str t2) j2 p7, .FormattedValue (.Name "number" p8) (-1) none p9] r1] r2)
  (hl1 : t1.length <= 1000) (hl2 : t2.length <= 1000) :
  FnOk P w K mg base CX0 2 f fd ["self", "part", "number"] (zf4 (KC K) ["part", "number"]) := by
 refine F.ok (fq hn 3) (fun vs H Q E ⟨a, C, bm, us, e, hl, _⟩ => by rw [e, List.length_cons, hl]; rfl) fun cdv A outer s H vs Q E hr ⟨a, C, bm, us, e, hl, kc, hx, hf, hq⟩ => ?_
 subst e
 match us, hl with
 | [u1, u2], _ =>
 rw [hb]
 obtain ⟨pl, ht⟩ := ht (cxOf CX0 P w K mg base ["self", "part", "number"] q (zan st) f cdv A outer s H E).nox.env
 obtain ⟨y1, f1, g1⟩ := hf u1 (by simp)
 obtain ⟨y2, f2, g2⟩ := hf u2 (by simp)
 refine ⟨tSeq (zj3 (zj9 (zeW (KC K)) [] E0 (zhx (tVar 0) (zhx (zi5 [tC (.str t1), tFmt (tVar 1), tC (.str t2), tFmt (tVar 2)] Str.empty) tNil)))) (tSeq (zkn (KC K) (tVar 0) (tVar 1) "part") (zkn (KC K) (tVar 0) (tVar 2) "number")),
  PSs.kin fun kin => zeQ (zeR (zi4 (pl := pl) M F0 hr hb0 (gq hn 0) hm (zbS (pq hn 0) (zbS (zhJ (.cons zhn (.cons (zjQ (pq hn 1)) (.cons zhn (.cons (zjQ (pq hn 2)) .nil))))) zdk)) (ht := ht)))
   (zeQ (zhI (zfu kin) (fun C bm ⟨nm, c⟩ => c.fld _ _ kin "part" (by decide)) (pq hn 0) (pq hn 1) rfl) (zfX (zhI (zfu kin) (fun C bm ⟨nm, c⟩ => c.fld _ _ kin "number" (by decide)) (pq hn 0) (pq hn 2) rfl))), ?_⟩
 have e0 : (Str.empty : Str).length = 0 := rfl
 have lz : (10000 : Nat) <= sizeLine := by decide
 refine ⟨_, rfl, t1, rfl, by rw [zbX]; omega, _, rfl, y1, f1, _, rfl, by rw [zbX, zbX]; omega, t2, rfl, by rw [zbX, zbX, zbX]; omega, _, rfl, y2, f2, _, rfl, by rw [zbX, zbX, zbX, zbX]; omega, by rw [zbX, zbX, zbX, zbX]; omega, ?_⟩
 refine ⟨a, C, none, bm, _, rfl, kc, hx, ?_⟩
 refine ⟨_, rfl, _, rfl, a, C, bm, rfl, kc, .inl ⟨hx, fun dx hd hne => ?_⟩⟩
 refine ⟨_, rfl, _, rfl, a, C, bm, rfl, kc, .inr ⟨dx, _, hne, by rw [zaG (Ne.symm hne)]; exact zaz, zaz, (show 1 < 900 by decide), ?_⟩⟩
 rw [zhl]
 exact hq dx hd hne
end
end DL
namespace DL
open PySem PySem.Spec L2
open PyProof.Rows hiding St
structure XSt (h : Heap) (nm : Str) (own : Option Stmt) (C N : Addr) (bm : List Value) (mN : Str -> Option Value) : Prop where
 ad : h.nsMap mainGlobals nm = some (.ref C)
 obj : ∃ q bs sn sub ab col dd k0 k1 k2 k3 k5, h.get? C = some (excClassObj nm q C N bs bm true sn sub ab col dd k0 k1 k2 k3 k5 "ValueError.__new__")
 ns : h.Ns N mN
 quiet : ∀ x ∈ zhk, mN x = none
 up : nm = "DealError" /\ bm = VB ∨ nm ≠ "DealError" /\ ∃ D, h.nsMap mainGlobals "DealError" = some (.ref D) /\ bm = .ref D :: VB
 init : match own with
  | none => mN "__init__" = none
  | some st => ∃ f o pm cd doc, mN "__init__" = some (.ref f) /\ h.get? f = some o /\ o.cls = .type "function" /\ o.data = .func (methDef "__init__" (zfe nm) (zcl st) (zbx st) (zan st) pm cd doc) /\ h.CodeRec cd (zfe nm)
section
variable {h h' : Heap} {nm : Str} {own : Option Stmt} {C N : Addr} {bm : List Value} {mN : Str -> Option Value}
theorem zem {a : Addr} {x : Str} {v : Value} (e : h.nsMap a x = some v) (k : ∀ b o, h.get? b = some o -> h'.get? b = some o) : h'.nsMap a x = some v := by
 unfold Heap.nsMap at e ⊢
 cases z : h.get? a with
 | none => rw [z] at e; cases e
 | some o => rw [k _ _ z]; rw [z] at e; exact e
theorem XSt.keeps (x : XSt h nm own C N bm mN) (k : ∀ b o, h.get? b = some o -> h'.get? b = some o) : XSt h' nm own C N bm mN where
 ad := zem x.ad k
 obj := let ⟨q, bs, sn, sub, ab, col, dd, k0, k1, k2, k3, k5, e⟩ := x.obj; ⟨q, bs, sn, sub, ab, col, dd, k0, k1, k2, k3, k5, k _ _ e⟩
 ns := x.ns.keeps k
 quiet := x.quiet
 up := x.up.imp id fun ⟨a, D, b, c⟩ => ⟨a, D, zem b k, c⟩
 init := by
  have z := x.init
  cases own with
  | none => exact z
  | some st =>
   obtain ⟨f, o, pm, cd, doc, h1, h2, h3, h4, h5⟩ := z
   exact ⟨f, o, pm, cd, doc, h1, k _ _ h2, h3, h4, h5.keeps k⟩
theorem dA (st : Stmt) : zlq st = zcl st := by cases st <;> rfl
theorem dB (st : Stmt) : zlr st = zbx st := by cases st <;> rfl
theorem dS (st : Stmt) : zjH st = zan st := by cases st <;> rfl
structure XYP (p : Program) (l : XL0) (h : Heap) : Prop where
 st : ∃ mc, h.Ns cStatics mc /\ mc "thirdparty.any" = none
 cl : ∀ c ∈ l, ∃ C N bm mN, XSt h c.1 (c.2.map fun i => zck (stAt p i)) C N bm mN
theorem XYP.keeps {p : Program} {l : XL0} (x : XYP p l h) (k : ∀ b o, h.get? b = some o -> h'.get? b = some o) : XYP p l h' :=
 ⟨let ⟨mc, a, b⟩ := x.st; ⟨mc, a.keeps k, b⟩, fun c hc => let ⟨C, N, bm, mN, z⟩ := x.cl c hc; ⟨C, N, bm, mN, z.keeps k⟩⟩
theorem zmv {st : Stmt} {n : Bool} (b : xB h nm n = true) (hown : own = none -> n = false) (hs : ∀ st, own = some st -> xSh h nm = some (true, shOf nm st)) : ∃ C N bm mN, XSt h nm own C N bm mN := by
 unfold xB at b
 split at b
 ·rename_i C hC
  split at b
  ·rename_i t dd cd sl ho
   simp only [Bool.and_eq_true, Bool.not_eq_true', beq_iff_eq, Bool.or_eq_true, List.all_eq_true, Option.isNone_iff_eq_none] at b
   obtain ⟨⟨⟨⟨⟨⟨⟨⟨b1, b2⟩, b3⟩, b4⟩, b5⟩, b6⟩, b7⟩, b8⟩, b9⟩ := b
   obtain ⟨cn, cb, cm, cns, cq, chd, csn, csub, cab, ccol, cdel⟩ := cd
   simp only at b2 b3 b4 b6 b7 b8 b9
   subst b1 b2 b3 b4
   split at b5
   ·rename_i k0 k1 k2 k3 k4 k5 hsl
    have b5 := of_decide_eq_true b5
    subst b5
    have hsl' : sl = #[k0, k1, k2, k3, some (.builtin "ValueError.__new__"), k5] := by
     rw [← Array.toList_inj, hsl]
    subst hsl'
    have key : ∃ bm, cm = .ref C :: bm /\ (cn = "DealError" /\ bm = VB ∨ cn ≠ "DealError" /\ ∃ D, h.nsMap mainGlobals "DealError" = some (.ref D) /\ bm = .ref D :: VB) := by
     split at b9
     ·rename_i e
      exact ⟨VB, of_decide_eq_true b9, .inl ⟨e, rfl⟩⟩
     ·rename_i e
      split at b9
      ·rename_i D hD
       exact ⟨.ref D :: VB, of_decide_eq_true b9, .inr ⟨e, D, hD, rfl⟩⟩
      ·cases b9
    obtain ⟨bm, rfl, up⟩ := key
    refine ⟨C, cns, bm, h.nsMap cns, hC, ⟨_, _, _, _, _, _, _, _, _, _, _, _, ho⟩, .of_isNs b6, b7, up, ?_⟩
    cases own with
    | none =>
     rcases b8 with b8 | b8
     ·rw [hown rfl] at b8; cases b8
     ·exact b8
    | some st =>
     have e := hs st rfl
     unfold xSh at e
     rw [hC] at e
     dsimp only at e
     rw [ho] at e
     dsimp only at e
     split at e
     ·rename_i a o fd sh hf hsh
      simp only [Option.some.injEq, Prod.mk.injEq, decide_eq_true_eq] at e
      obtain ⟨e1, rfl⟩ := e
      obtain ⟨g1, g2, g3⟩ := Heap.fnAt_spec hf
      unfold Heap.shapeAt at hsh
      rw [hf] at hsh
      obtain ⟨n, q, ps, b, sc, g, cl, df, kd, doc, pm, an, code, ct, bi⟩ := fd
      simp only [Option.map_some, shOf, dA, dB, dS, Option.some.injEq, FnShape.mk.injEq] at hsh
      obtain ⟨rfl, rfl, rfl, rfl, rfl, rfl, rfl, rfl, rfl, rfl, rfl, rfl, hc⟩ := hsh
      exact ⟨a, o, pm, code, doc, g1, g2, e1, g3, .of_ok hc⟩
     ·cases e
   ·cases b5
  ·cases b
 ·cases b
theorem zmw {p : Program} {l : XL0} {s : Shared} (e : xSeen l s = xGood p l) : XYP p l s.heap := by
 unfold xSeen xGood at e
 obtain ⟨e1, e2⟩ := Prod.mk.inj e
 obtain ⟨e1, e3⟩ := Bool.and_eq_true_iff.mp e1
 refine ⟨⟨_, .of_isNs e1, Option.isNone_iff_eq_none.mp e3⟩, fun c hc => ?_⟩
 have q := List.map_inj_left.mp e2 c hc
 obtain ⟨q1, q2⟩ := Prod.mk.inj q
 refine zmv (st := .Pass ⟨0, 0, 0, 0⟩) q1 (fun z => ?_) fun st z => ?_
 ·cases hz : c.2 with
  | none => rfl
  | some i => rw [hz] at z; cases z
 ·cases hz : c.2 with
  | none => rw [hz] at z; cases z
  | some i =>
   rw [hz] at z q2
   cases z
   exact q2
end
end DL
namespace DL
open PySem PySem.Spec L2
open PyProof.Rows hiding St
theorem zjV : mroOf (.type "ValueError") = pure VB := by kernel_rfl
theorem znu : typeLookup (.type "ValueError") "__setattr__" = pure (some (.builtin "object.__setattr__")) := by kernel_rfl
theorem znv : typeLookup (.type "ValueError") "__getattribute__" = pure (some (.builtin "BaseException.__getattribute__")) := by kernel_rfl
theorem znw : typeLookup (.type "ValueError") "__getattr__" = pure none := by kernel_rfl
theorem znx : typeLookup (.type "ValueError") "__class__" = pure (some (.builtin "object.__class__")) := by kernel_rfl
theorem zk0 : typeLookup (.type "ValueError") "part" = pure none := by kernel_rfl
theorem zil : typeLookup (.type "ValueError") "number" = pure none := by kernel_rfl
theorem zmx : typeLookup (.type "ValueError") "row" = pure none := by kernel_rfl
theorem zim (v : Value) : refuseLoop v "__setattr__" VB = pure () := by kernel_rfl
section
variable {h h' : Heap} {nm : Str} {own ownD : Option Stmt} {C N D ND : Addr} {bm : List Value} {mN mD : Str -> Option Value} {M : Model}
theorem XSt.along (x : XSt h nm own C N bm mN) (xD : XSt h "DealError" ownD D ND VB mD) {y : Str} {r : Option Value} (hy : y ∈ zhk) (hB : typeLookup (.type "ValueError") y = pure r) : zbr M C y r h := by
 obtain ⟨q, bs, sn, sub, ab, col, dd, k0, k1, k2, k3, k5, e⟩ := x.obj
 obtain ⟨q', bs', sn', sub', ab', col', dd', k0', k1', k2', k3', k5', e'⟩ := xD.obj
 refine zbr.of e (zdd.miss e x.ns (x.quiet y hy) ?_)
 rcases x.up with ⟨_, rfl⟩ | ⟨_, D', hD', rfl⟩
 ·exact zdd.base zjV hB
 ·have := hD'.symm.trans xD.ad
  cases this
  exact zdd.miss e' xD.ns (xD.quiet y hy) (zdd.base zjV hB)
theorem XSt.tail (x : XSt h nm own C N bm mN) : Tail VB bm := by
 rcases x.up with ⟨_, rfl⟩ | ⟨_, D', _, rfl⟩
 ·exact Tail.base
 ·exact Tail.own Tail.base
def zju (h : Heap) (own ownD : Option Stmt) (mN mD : Str -> Option Value) (nm : Str) (f : Addr) : Prop := match own with
 | some _ => mN "__init__" = some (.ref f)
 | none => mD "__init__" = some (.ref f)
theorem XSt.xcls (x : XSt h nm own C N bm mN) {std : Stmt} (xD : XSt h "DealError" (some std) D ND VB mD) {f : Addr} (hf : zju h own (some std) mN mD nm f) : XCls M h C bm f := by
 have hD := xD.init
 obtain ⟨fD, oD, pmD, cdD, docD, g1, g2, g3, g4, g5⟩ := hD
 obtain ⟨q, bs, sn, sub, ab, col, dd, k0, k1, k2, k3, k5, e⟩ := id x.obj
 obtain ⟨q', bs', sn', sub', ab', col', dd', k0', k1', k2', k3', k5', e'⟩ := id xD.obj
 have fin : zbr M C "__init__" (some (.ref f)) h /\ ∃ o, h.get? f = some o /\ o.cls = .type "function" := by
  have z := x.init
  unfold zju at hf
  cases own with
  | some st =>
   obtain ⟨f', o, pm, cd, doc, h1, h2, h3, h4, h5⟩ := z
   have hf : mN "__init__" = some (.ref f) := hf
   rw [h1] at hf
   cases hf
   exact ⟨zbr.of e (zdd.hit e x.ns h1), o, h2, h3⟩
  | none =>
   have hf : mD "__init__" = some (.ref f) := hf
   have z : mN "__init__" = none := z
   rw [g1] at hf
   cases hf
   refine ⟨zbr.of e (zdd.miss e x.ns z ?_), oD, g2, g3⟩
   rcases x.up with ⟨hn, rfl⟩ | ⟨_, D', hD', rfl⟩
   ·subst hn
    have := x.ad.symm.trans xD.ad
    cases this
    rw [e] at e'
    cases e'
    have := x.ns.eq_nsMap.trans xD.ns.eq_nsMap.symm
    rw [this] at z
    rw [g1] at z
    cases z
   ·have := hD'.symm.trans xD.ad
    cases this
    exact zdd.hit e' xD.ns g1
 refine ⟨⟨nm, q, N, bs, sn, sub, ab, col, dd, k0, k1, k2, k3, k5, e⟩, x.tail, fin.1, fin.2, x.along xD (by decide) znu, x.along xD (by decide) znv, x.along xD (by decide) znw, x.along xD (by decide) znx, fun v => ?_⟩
 rcases x.up with ⟨_, rfl⟩ | ⟨_, D', _, rfl⟩
 ·exact zim v
 ·rw [refuseLoop_ref]; exact zim v
theorem zb6 (k : (whole h).In h') : ∀ b o, h.get? b = some o -> h'.get? b = some o := fun b o e => k b o (by rw [zaY]; exact e)
theorem zdO {mA : Str -> Option Value} {a : Addr} (n : h.Ns a mA) (y : Str) : PySem.W.nsIn (whole h) a y = some (mA y) := by
 obtain ⟨⟨oc, od, dt, os⟩, es, ep, ho, hd, hk, hf⟩ := n
 have hd : dt = _ := hd
 subst hd
 unfold PySem.W.nsIn
 rw [zaY, ho]
 dsimp only
 have := hf y
 unfold nsFind findBy at this
 rw [← Array.find?_toList] at this
 dsimp only at this
 rw [← this]
 cases z : es.toList.find? (·.key.isStr y) with
 | some e => rfl
 | none =>
  dsimp only
  rw [if_neg]
  ·rfl
  ·rw [List.any_eq_true]
   rintro ⟨e, he, hr⟩
   obtain ⟨n, t, hk⟩ := hk e (Array.mem_toList_iff.mp he)
   unfold DictEntry.refKey at hr
   rw [hk] at hr
   cases hr
theorem XSt.nmd (x : XSt h nm own C N bm mN) : NmAt (whole h) nm C := by
 obtain ⟨q, bs, sn, sub, ab, col, dd, k0, k1, k2, k3, k5, e⟩ := x.obj
 exact ⟨_, _, by rw [zaY]; exact e, rfl, rfl⟩
theorem zen {mg : Str -> Option Value} (n : h.Ns mainGlobals mg) (e : h.nsMap mainGlobals nm = some (.ref C)) : zi6 (whole h) nm = some C := by
 unfold zi6
 rw [zdO n, n.eq_nsMap, e]
theorem XSt.clsK {mg : Str -> Option Value} (n : h.Ns mainGlobals mg) (x : XSt h nm own C N bm mN) {std : Stmt} (xD : XSt h "DealError" (some std) D ND VB mD) {f : Addr} (hf : zju h own (some std) mN mD nm f) : ClsK (whole h) nm C bm where
 ad := zen n x.ad
 nmd := x.nmd
 up := x.up.imp id fun ⟨a, D', b, c⟩ => ⟨a, D', zen n b, c, by
  have := b.symm.trans xD.ad
  cases this
  exact xD.nmd⟩
 cls := fun M h' k => ⟨f, (x.keeps (zb6 k)).xcls (xD.keeps (zb6 k)) (by
  unfold zju at hf ⊢
  cases own <;> exact hf)⟩
 fld := fun M h' k y hy => by
  have z := x.keeps (zb6 k)
  have zD := xD.keeps (zb6 k)
  simp only [List.mem_cons, List.not_mem_nil, or_false] at hy
  rcases hy with rfl | rfl | rfl
  ·exact z.along zD (by decide) zk0
  ·exact z.along zD (by decide) zil
  ·exact z.along zD (by decide) zmx
theorem XSt.keep (x : XSt h nm own C N bm mN) : PySem.W.keepIn (whole h) (.ref C) = true := by
 obtain ⟨q, bs, sn, sub, ab, col, dd, k0, k1, k2, k3, k5, e⟩ := x.obj
 unfold PySem.W.keepIn
 dsimp only
 rw [zaY, e]
 dsimp only
 unfold PySem.W.specialIn PySem.W.typeIn
 dsimp only
 rw [zaY, e]
 kernel_rfl
theorem XSt.fun {st : Stmt} (x : XSt h nm (some st) C N bm mN) : ∃ f fd, mN "__init__" = some (.ref f) /\ Fun (whole h) "__init__" (zfe nm) st f fd := by
 obtain ⟨f, ⟨oc, od, dt, osl⟩, pm, cd, doc, h1, h2, h3, h4, h5⟩ := x.init
 have h4 : dt = _ := h4
 subst h4
 refine ⟨f, _, h1, ⟨⟨oc, od, .none, doc, pm, _, cd, _, osl, rfl, by rw [zaY]; exact h2, ?_⟩, ?_⟩⟩
 ·obtain ⟨c, ⟨_, _, dc, _⟩, vs, t, rfl, g1, g2, g3⟩ := h5
  have g2 : dc = _ := g2
  subst g2
  unfold PySem.W.codeIn
  dsimp only
  rw [zaY, g1]
  dsimp only
  have g4 : vs.toList[1]? = some (.str (zfe nm) t) := by rw [Array.getElem?_toList]; exact g3
  cases hv : vs.toList with
  | nil => rw [hv] at g4; cases g4
  | cons v0 r =>
   rw [hv] at g4
   cases r with
   | nil => cases g4
   | cons v1 r => cases g4; exact beq_self_eq_true _
 ·unfold PySem.W.keepIn
  dsimp only
  rw [zaY, h2]
theorem tf1 {K : PySem.W.Frag} : PySem.W.findIn K (.type "type") "__init__" = some (some (.builtin "type.__init__")) := by kernel_rfl
theorem tf2 {K : PySem.W.Frag} : PySem.W.specialIn K (.builtin "type.__init__") "__get__" = some (some (.builtin "wrapper_descriptor.__get__")) := by kernel_rfl
theorem tf3 {K : PySem.W.Frag} : PySem.W.takesIn K (.builtin "type.__init__") = some false := by kernel_rfl
theorem tf4 {K : PySem.W.Frag} : PySem.W.findIn K (.type "type") "__getattribute__" = some (some (.builtin "type.__getattribute__")) := by kernel_rfl
theorem tf5 {K : PySem.W.Frag} : PySem.W.subIn K (.type "type") (.type "type") = some true := by kernel_rfl
theorem XSt.clsFn {st : Stmt} (x : XSt h "DealError" (some st) D ND VB mD) (hs : ∃ mc, h.Ns cStatics mc /\ mc "thirdparty.any" = none) {f : Addr} (hf : mD "__init__" = some (.ref f)) : zi3 (whole h) D "__init__" f := by
 obtain ⟨f', o, pm, cd, doc, h1, h2, h3, h4, h5⟩ := x.init
 rw [h1] at hf
 cases hf
 obtain ⟨q, bs, sn, sub, ab, col, dd, k0, k1, k2, k3, k5, e⟩ := x.obj
 obtain ⟨mc, hc1, hc2⟩ := hs
 have tD : PySem.W.typeIn (whole h) (.ref D) = some (.type "type") := by
  unfold PySem.W.typeIn
  dsimp only
  rw [zaY, e]
  rfl
 have tf : PySem.W.typeIn (whole h) (.ref f) = some (.type "function") := by
  unfold PySem.W.typeIn
  dsimp only
  rw [zaY, h2]
  exact congrArg some h3
 refine ⟨?_, ?_, ?_, ?_⟩
 ·unfold PySem.W.specialIn
  rw [tD]
  exact tf4 (K := whole h)
 ·unfold PySem.W.readsIn
  rw [zdO hc1, hc2, tD, tf4, tf5]
  rfl
 ·unfold PySem.W.findCls
  rw [tf1]
  dsimp only [Option.bind_some]
  rw [tf2]
  dsimp only [Option.bind_some]
  rw [tf3]
  dsimp only [Option.bind_some]
  have hfi : PySem.W.findIn (whole h) (.ref D) "__init__" = some (some (.ref f)) := by
   unfold PySem.W.findIn
   dsimp only
   rw [zaY, e]
   dsimp only
   unfold PySem.W.alongIn PySem.W.ownIn
   dsimp only
   rw [zaY, e]
   dsimp only
   rw [zdO x.ns, h1]
  rw [hfi]
  dsimp only [Option.bind_some]
  rw [if_neg (show ¬ Builtin.heldUnderItsOwnName "__init__" (.ref f) = true from fun z => by cases z), tf]
  rfl
 ·unfold PySem.W.keepIn
  dsimp only
  rw [zaY, h2]
  obtain ⟨oc, od, dt, osl⟩ := o
  have h4 : dt = _ := h4
  subst h4
  rfl
end
end DL
namespace DL
open PySem PySem.Spec L2
open PyProof.Rows hiding St
section
variable {h : Heap} {mg : Str -> Option Value} {p : Program} {l : XL0} {i j : Nat} {c : Str × Option Nat} {p1 p2 p3 p4 p5 p6 p7 p8 p9 r1 r2 r3 r4 r5 r6 r7 r8 r9 q1 q2 : Pos} {j1 j2 : Nat}
structure Root (p : Program) (h : Heap) (mg : Str -> Option Value) (i : Nat) (D f : Addr) (fd : FuncData) : Prop where
 at' : mg "DealError" = some (.ref D)
 ex : ∃ ND mD, XSt h "DealError" (some (zck (stAt p i))) D ND VB mD /\ mD "__init__" = some (.ref f)
 cf : zi3 (whole h) D "__init__" f
 bd : zc9 (whole h) fd ["self", "text"] []
 ok : ∀ (P : Program) (w : World) (base : Heap), FnOk P w (whole h) mg base CX0 1 f fd ["self", "text"] (zeW (KC (whole h)))
theorem XSt.root {own : Option Stmt} {C N : Addr} {bm : List Value} {mN : Str -> Option Value} (x : XSt h "DealError" own C N bm mN) : bm = VB := by
 rcases x.up with ⟨_, rfl⟩ | ⟨z, _⟩
 ·rfl
 ·exact absurd rfl z
theorem zk1 (n : h.Ns mainGlobals mg) (Y : XYP p l h) (hD : (((("DealError" : Str), some i) : Str × Option Nat) ∈ l)) (hm : mg "ValueError" = none) (hn : FnNm (zan (zck (stAt p i))) ["self", "text"] ["ValueError"])
  (hb : zbx (zck (stAt p i)) = [.Expr (.Call (.Attribute (.Name "ValueError" p1) "__init__" p2) [.Name "self" p3, .Name "text" p4] [] p5) p6])
  (ht : zkX (.Name "ValueError" p1) "__init__" p2 [.Name "self" p3, .Name "text" p4] p5)
  (hbz : ∀ (kV doc pm : Value) (an : Option Addr) (cdv ct : Value) (us : List Value), us.length = (["self", "text"] : List Str).length -> bindArgs (PySem.W.fnOf "__init__" (zfe "DealError") (zcl (zck (stAt p i))) (zbx (zck (stAt p i))) (zan (zck (stAt p i))) .none kV doc pm an cdv ct) ⟨us, []⟩ = pure ((["self", "text"] : List Str).zip us)) :
  ∃ D f fd, Root p h mg i D f fd := by
 obtain ⟨D, ND, bm, mD, x⟩ := Y.cl _ hD
 have := x.root
 subst this
 obtain ⟨f, fd, hf, FU⟩ := XSt.fun (st := zck (stAt p i)) x
 exact ⟨D, f, fd, by rw [n.eq_nsMap]; exact x.ad, ⟨ND, mD, x, hf⟩, XSt.clsFn (st := zck (stAt p i)) x Y.st hf, FU.binds hbz, fun P w base => zkY FU hn hm hb ht⟩
theorem zdw (n : h.Ns mainGlobals mg) (Y : XYP p l h) {D f : Addr} {fd : FuncData} (R : Root p h mg i D f fd) (hc : c ∈ l) : CK (whole h) mg c.1 := by
 obtain ⟨C, N, bm, mN, x⟩ := Y.cl _ hc
 obtain ⟨ND, mD, xD, hf⟩ := R.ex
 cases hz : c.2 with
 | none =>
  rw [hz] at x
  exact ⟨C, bm, by rw [n.eq_nsMap]; exact x.ad, XSt.clsK n x xD (f := f) hf⟩
 | some k =>
  rw [hz] at x
  obtain ⟨f', o, pm, cd, doc, h1, h2⟩ := x.init
  exact ⟨C, bm, by rw [n.eq_nsMap]; exact x.ad, XSt.clsK n x xD (f := f') h1⟩
theorem zmy (n : h.Ns mainGlobals mg) (Y : XYP p l h) {D f : Addr} {fd : FuncData} (R : Root p h mg i D f fd) {nm : Str} (hc : (nm, some j) ∈ l) (hf : zcx nm ≠ []) {ps : List Str} (P : Program) (w : World) (base : Heap)
  (hbz : ∀ (kV doc pm : Value) (an : Option Addr) (cdv ct : Value) (us : List Value), us.length = ps.length -> bindArgs (PySem.W.fnOf "__init__" (zfe nm) (zcl (zck (stAt p j))) (zbx (zck (stAt p j))) (zan (zck (stAt p j))) .none kV doc pm an cdv ct) ⟨us, []⟩ = pure (ps.zip us))
  (ok : ∀ {f' : Addr} {fd' : FuncData}, Fun (whole h) "__init__" (zfe nm) (zck (stAt p j)) f' fd' -> FnOk P w (whole h) mg base CX0 2 f' fd' ps (zf4 (KC (whole h)) (zcx nm))) : MkX P w (whole h) mg base nm 2 := by
 obtain ⟨C, N, bm, mN, x⟩ := Y.cl _ hc
 obtain ⟨ND, mD, xD, hi⟩ := R.ex
 obtain ⟨f', fd', hf', FU⟩ := XSt.fun (st := zck (stAt p j)) x
 have ck := XSt.clsK n x xD (f := f') hf'
 exact ⟨C, bm, f', fd', _, _, by rw [n.eq_nsMap]; exact x.ad, x.keep, ck, fun M h' k => (x.keeps (zb6 k)).xcls (xD.keeps (zb6 k)) hf', ok FU, FU.binds hbz, zi7 ck hf⟩
end
theorem zin {q p : Program} {loose : List Str} {mean : ExcName -> Option Value} {mg mb : Str -> Option Value} {h : Heap} {ix : List Nat} (P : Program) (w : World) (base : Heap) {ps : List Str} {k n : Nat} {F : List D -> Option XR} (T : Top q loose mean mg mb h) (e : recsOf q = zeK p ix) (i : Nat) (x : Str) (hi : ix.contains i = true) (hn : zgF (stAt p i) = some x)
  (ok : ∀ {f : Addr} {fd : FuncData}, Fun (whole h) x x (stAt p i) f fd -> FnOk P w (whole h) mg base (CX1 P w) k f fd ps (spX (whole h) n F))
  (hb : ∀ (kV doc pm : Value) (an : Option Addr) (cdv ct : Value) (us : List Value), us.length = ps.length -> bindArgs (PySem.W.fnOf x x (zcl (stAt p i)) (zbx (stAt p i)) (zan (stAt p i)) .none kV doc pm an cdv ct) ⟨us, []⟩ = pure (ps.zip us)) : DefX P w (whole h) mg base x k n F := by
 obtain ⟨f, fd, m, FU⟩ := zih T e i x hi hn
 exact ⟨f, fd, ps, m, FU.kp, FU.binds hb, ok FU⟩
theorem zio {l : PySem.W.OpenLaw} {n k : Nat} {q : Program} {loose : List Str} {XP : (Str -> Option Value) -> Heap -> Prop} {YP : World -> Heap -> Prop} {d : DefRec} {F : List D -> Option D} {x : Str}
  (hn : l.most = some n) (hn2 : n <= sizeLine) (hdf : d.params.defaults = []) (hr : Room k callerA)
  (hF : ∀ (w : World) (s₀ : Shared) (mg mb : Str -> Option Value) (fa : Addr) (h : Heap), PySem.W.Ground q loose [] XP w s₀ mg mb h -> YP w h -> mg d.name = some (.ref fa) ->
   ∃ fd : FuncData, (∀ (s : Shared) (u : Value), BindsTo s fd ⟨[u], []⟩ [(x, u)]) /\ ∀ base : Heap, FnOk l.prog w (whole h) mg base CX0 k fa fd [x] (spD (whole h) 1 F))
  (hl : ∀ ns : List Int, ns.length <= n -> F [.list (ns.map PyData.int)] = some (.bool true)) :
  PySem.W.WalkO q loose XP YP l.row.toRowW d [] (fun f vs => PySem.call f vs) := by
 refine Att.attach_call hn hdf fun w s₀ s₁ mg mb fa o pm cd doc a vs ns G Y ho hd hcd hmg hobj hints hlen hg => ?_
 obtain ⟨fd, hb, hF⟩ := hF w s₀ mg mb fa _ G Y hmg
 exact ziW (zjr _) G.T.g G.T.b G.T.builtins G.T.nolimit hg hobj hints (Nat.le_trans hlen hn2) hr (fun base _ _ => hF base) hb (fun H hO hS => zml hS (hl ns hlen)) fun H e s' z => z
end DL
namespace DL
open PySem PySem.Spec L2
open PyProof.Rows hiding St
section
variable {α β : Type} {ρ ρ1 ρ2 ρ3 ρ' : DEnv} {f : M D} {s t : SM} {Q : Out -> Prop} {d : D} {ds fs : List D} {nm x : Str} {o : Out}
theorem zci {g : M (List D)} (h1 : g ρ = .ok ds ρ1) (h2 : ze6 nm ds = some fs) : zcN nm g ρ = .ex ρ1 (exD nm fs) := by unfold zcN sB; rw [h1]; dsimp only; rw [h2]
theorem zk2 {f : M XR} {g : D -> SM} (h1 : f ρ = .ok (.val d) ρ1) (h2 : g d ρ1 = o) : sX f g ρ = o := by unfold sX; rw [h1]; exact h2
theorem zk3 {f : M XR} {g : D -> SM} (h1 : f ρ = .ok (.exc d) ρ1) : sX f g ρ = .ex ρ1 d := by unfold sX; rw [h1]
theorem zdP {n : Nat} {F : List D -> Option XR} {g : M (List D)} {xs : List D} {r : XR} (h1 : g ρ = .ok xs ρ1) (h2 : xs.length = n) (h3 : F xs = some r) : zgf n F g ρ = .ok r ρ1 := by
 unfold zgf; exact zaE h1 (by rw [if_pos h2]; exact zbH h3)
theorem zk4 {i : Nat} (h1 : s ρ = .nx ρ1) : sTry i x s t ρ = .nx ρ1 := by unfold sTry; rw [h1]
theorem zk5 {i : Nat} (h1 : s ρ = .ex ρ1 d) (h2 : zfJ x d = true) (h3 : i < ρ1.length) (h4 : t (ρ1.set i (some (.pub d))) = .nx ρ2) (h5 : ρ2.set i none = ρ') : sTry i x s t ρ = .nx ρ' := by
 unfold sTry; rw [h1]; dsimp only; rw [if_pos ⟨h2, h3⟩, h4, ← h5]
theorem zjv {c : String} {t : Bool} (h : f ρ = .ok d ρ1) (ht : isTy d c = t) : mMap (fun d => PyData.bool (isTy d c)) f ρ = .ok (PyData.bool t) ρ1 := by subst ht; exact zcs (k := fun d => PyData.bool (isTy d c)) h
theorem zjW {c : String} {kvs : List (D × D)} (h : f ρ = .ok (.dict kvs) ρ1) (hc : (("dict" == c) || ("" == c)) = false := by decide) : mMap (fun d => PyData.bool (isTy d c)) f ρ = .ok (PyData.bool false) ρ1 := zjv h (nty hc)
theorem zbY {c : String} {kvs : List (D × D)} (h : f ρ = .ok (.dict kvs) ρ1) (hc : (("dict" == c) || ("" == c)) = false := by decide) : mNot (za2 (mMap (fun d => .bool (isTy d c)) f)) ρ = .ok true ρ1 := zaH h (by rw [nty hc]; rfl)
def OutX (r : XR) : Out -> Prop
 | .rt d => r = .val d
 | .nx _ => r = .val .none
 | .ex _ d => r = .exc d /\ zf8 d = true
 | _ => False
theorem zk6 {N : List Str} {r : XR} (h0 : zcm N ds = ρ) (h : Ho s ρ (OutX r)) : runX N s ds = some r := by
 subst h0
 have h := h.out
 unfold runX
 cases z : s (zcm N ds) with
 | rt d => rw [z] at h; rw [show r = .val d from h]
 | nx ρ' => rw [z] at h; rw [show r = .val .none from h]
 | ex ρ' d => rw [z] at h; dsimp only; rw [if_pos h.2, h.1]
 | bk ρ' => rw [z] at h; exact h.elim
 | ct ρ' => rw [z] at h; exact h.elim
 | bad => rw [z] at h; exact h.elim
def fb (p : D -> Bool) : Nat -> List D -> Option Nat
 | _, [] => none
 | k, x :: r => if p x = true then fb p (k + 1) r else some k
def zny : Out -> Prop
 | .rt _ => True
 | .ex _ _ => True
 | _ => False
structure fbQ (p : D -> Bool) (xs : List D) (I : DEnv -> Prop) (Q : Out -> Prop) (x : D) (j : Nat) (o : Out) : Prop where
 out : (p x = true /\ ∃ ρ2, o = .nx ρ2 /\ I ρ2) ∨ (p x = false /\ zny o /\ (fb p 0 xs = some j -> Q o))
theorem zjw {p : D -> Bool} {xs : List D} {I : DEnv -> Prop} {x : D} {j : Nat} (hp : p x = true) (h : I ρ) : fbQ p xs I Q x j (.nx ρ) := ⟨.inl ⟨hp, ρ, rfl, h⟩⟩
theorem zmz {p : D -> Bool} {xs : List D} {I : DEnv -> Prop} {x : D} {j : Nat} (hp : p x = false) (h : fb p 0 xs = some j -> Q (.rt d)) : fbQ p xs I Q x j (.rt d) := ⟨.inr ⟨hp, trivial, h⟩⟩
theorem zmA {p : D -> Bool} {xs : List D} {I : DEnv -> Prop} {x : D} {j : Nat} (hp : p x = false) (h : fb p 0 xs = some j -> Q (.ex ρ d)) : fbQ p xs I Q x j (.ex ρ d) := ⟨.inr ⟨hp, trivial, h⟩⟩
theorem zd1 {f : M (List D)} {sg : D -> DEnv -> Option DEnv} {xs : List D} (p : D -> Bool) (I : DEnv -> Prop) (h1 : f ρ = .ok (zdm 0 xs) ρ1) (h0 : I ρ1)
  (hst : ∀ x ∈ xs, ∀ (j : Nat) ρ, j < xs.length -> I ρ -> ∃ ρ1, sg (.tuple [.int j, x]) ρ = some ρ1 /\ Ho s ρ1 (fbQ p xs I Q x j))
  (hend : fb p 0 xs = none -> ∀ ρ, I ρ -> Q (.nx ρ)) : Ho (sFor f sg s) ρ Q := by
 constructor; unfold sFor sB; rw [h1]; dsimp only
 have key : ∀ (ys : List D) (k : Nat) (ρ : DEnv), I ρ -> (∀ x ∈ ys, x ∈ xs) -> k + ys.length <= xs.length -> fb p k ys = fb p 0 xs -> Q (zbM sg s (zdm k ys) ρ) := by
  intro ys
  induction ys with
  | nil => intro k ρ hi _ _ he; exact hend he.symm ρ hi
  | cons x r ih =>
   intro k ρ hi hm hl he
   rw [List.length_cons] at hl
   obtain ⟨ρ2, e2, a1⟩ := hst x (hm x List.mem_cons_self) k ρ (by omega) hi
   rw [zdm, zbM, e2]
   dsimp only
   rw [fb] at he
   rcases a1.out.out with ⟨hp, ρ3, e3, i3⟩ | ⟨hp, b1, b2⟩
   ·rw [hp, if_pos rfl] at he
    rw [e3]
    exact ih (k + 1) ρ3 i3 (fun y hy => hm y (List.mem_cons_of_mem _ hy)) (by omega) he
   ·rw [hp, if_neg (by decide)] at he
    have b2 := b2 he.symm
    cases z : s ρ2 with
    | rt d => rw [z] at b2; exact b2
    | ex ρ' d => rw [z] at b2; exact b2
    | nx ρ' => rw [z] at b1; exact b1.elim
    | bk ρ' => rw [z] at b1; exact b1.elim
    | ct ρ' => rw [z] at b1; exact b1.elim
    | bad => rw [z] at b1; exact b1.elim
 exact key xs 0 ρ1 h0 (fun _ h => h) (by omega) rfl
end
end DL
namespace DL
open PySem PySem.Spec L2
open PyProof.Rows hiding St
section
variable {X : Cx} {B G0 : Hp} {KX : XW} {e o a b c : Expr} {pos p2 : Pos} {es rest : List Expr}
def zdY : List D -> Option D
 | [.list xs] => some (.tuple xs)
 | [.tuple xs] => some (.tuple xs)
 | _ => none
theorem zjx : zfw X (.type "tuple") zdY := by
 refine ⟨_, zeU, fun vs G H ds d Q s r e k => ?_⟩
 unfold zdY at e
 split at e
 ·cases e
  obtain ⟨v, rfl, q⟩ := r.one_inv
  obtain ⟨l, ws, rfl, h1, r1⟩ := q.lst_inv
  exact ⟨l, ws, rfl, .inl ⟨s.seq h1, fun p hp => k _ _ _ (Ext.new s hp) (.tup (SqT.of zaz) (r1.mono (za1 (s.free hp))))⟩⟩
 ·cases e
  obtain ⟨v, rfl, q⟩ := r.one_inv
  obtain ⟨l, ws, rfl, h1, r1⟩ := q.tup_inv
  exact ⟨l, ws, rfl, .inr ⟨zdG s h1, k _ G H (.refl s) (.tup h1 r1)⟩⟩
 ·cases e
end
end DL
namespace L2
open PySem PySem.Spec PyProof.Rows
end L2
namespace DL
open PySem PySem.Spec L2
open PyProof.Rows hiding St
section
variable {K : PySem.W.Frag} {B G0 G H : Hp} {σ : St} {ρ : DEnv}
end
section
variable {X : Cx} {B G0 : Hp} {KX : XW} {e o a b c : Expr} {pos p2 : Pos} {es rest : List Expr}
end
end DL
namespace DL
open PySem PySem.Spec L2
open PyProof.Rows hiding St
section
variable {X : Cx} {B G0 : Hp} {KX : XW} {e o a b c : Expr} {pos p2 cpos : Pos} {es rest : List Expr}
def oNeZ : D -> D -> Option Bool
 | .list xs, .list ys => if xs.length = ys.length then none else some true
 | _, _ => none
theorem znz (hu : X.A.units + 64 < cLine) : OpB X (compareOp .NotEq) oNeZ := by
 refine ⟨fun v u H Q => ∃ l m xs ys, v = .ref l /\ u = .ref m /\ SqL X.K H l xs /\ SqL X.K H m ys /\ xs.length ≠ ys.length /\ Q (.bl true) H, ?_, fun v u G H x y d Q s rx ry e k => ?_⟩
 ·intro pins s σ H x y v u Q I rx ry h
  obtain ⟨l, m, xs, ys, rfl, rfl, h1, h2, hne, q⟩ := h
  cases rx
  cases ry
  obtain ⟨its, r, p, z⟩ := I.list h1
  obtain ⟨its2, r2, p2, z2⟩ := I.list h2
  refine SeqAt.RcNeAt.lists_lengths p.isList p2.isList ?_ (by omega) X.prog X.w X.xe _ ⟨.bl true, H, I, rfl, q⟩
  rw [List.size_toArray, List.size_toArray, ← r.length, ← r2.length]
  simpa using hne
 ·unfold oNeZ at e
  split at e
  ·split at e
   ·cases e
   ·rename_i hl
    cases e
    obtain ⟨l, vs, rfl, h1, r1⟩ := rx.lst_inv
    obtain ⟨m, ws, rfl, h2, r2⟩ := ry.lst_inv
    exact ⟨l, m, vs, ws, rfl, rfl, s.seq h1, s.seq h2, by rw [r1.length, r2.length]; exact hl, k⟩
  ·cases e
def oNeW (x y : D) : Option Bool := (oNeZ x y).orElse fun _ => oNe x y
theorem zmB (hu : X.A.units + 64 < cLine) : OpB X (compareOp .NotEq) oNeW := (znz hu).or (B_ne hu)
theorem zk7 {xs : List D} : oNeW (.list xs) (.list []) = some (!xs.isEmpty) := by
 cases xs with
 | nil => kernel_rfl
 | cons x r => rfl
end
end DL
namespace DL
open PySem PySem.Spec L2
open PyProof.Rows hiding St
section
variable {X : Cx}
end
end DL
namespace DL
open PySem PySem.Spec L2 PySem.SeqAt PySem.AutoSeq1
open PyProof.Rows hiding St
section
variable {X : Cx} {pins : List (Addr × Obj)} {s : Shared} {σ : L2.St} {G H : Hp} {A : Around}
theorem zk8 (I : Inv X pins σ H s) {a : Addr} {kvs : List (Key × V)} (h : H a = some (.dK kvs)) : (a == sysModules) = false /\ ∃ o es n vs, s.heap.get? a = some o /\ o.cls = .type "dict" /\ o.data = .dict es n /\ KV kvs vs /\ Pairs (zeP X.prog X.w) es.toList vs := by
 obtain ⟨_, h0, vs, kv, o, es, ep, e1, e2, e3, _, e5, _⟩ := (show kvs.length <= sizeLine /\ (a == sysModules) = false /\ ∃ vs, KV kvs vs /\ s.heap.DictOf (zeP X.prog X.w) a vs from I.hok a _ h)
 exact ⟨h0, o, es, ep, vs, e1, e2.1, e3, kv, e5⟩
end
section
variable {X : Cx} {pins : List (Addr × Obj)} {s : Shared} {σ : L2.St} {G H : Hp} {A : Around}
end
end DL
namespace DL
open PySem PySem.Spec L2
open PyProof.Rows hiding St
mutual
def layZ : D -> Bool
 | .none | .bool _ | .int _ => true
 | .str x => PyData.strOk x
 | .list xs | .tuple xs => layZs xs
 | .dict [] => true
 | .dict (_ :: _) => false
def layZs : List D -> Bool
 | [] => true
 | x :: xs => layZ x && layZs xs
end
def SmK (K : PySem.W.Frag) : Prop := ∃ o es n, K.lookup sysModules = some o /\ o.data = .dict es n
theorem zmC {h : Heap} (x : h.NoSeer) : SmK (whole h) := by
 obtain ⟨mm, ⟨o', es, ep, e', d, _⟩, _⟩ := x.mods
 exact ⟨o', es, ep, by rw [zaY]; exact e', d⟩
section
variable {X : Cx} {pins : List (Addr × Obj)} {s : Shared} {σ : L2.St} {G H : Hp}
theorem zgH (I : Inv X pins σ H s) (hK : SmK X.K) : H sysModules = none := by
 obtain ⟨o, es, n, e, _⟩ := hK
 exact (I.bs _ _ (I.mod.kin _ _ e)).2
theorem zk9 (I : Inv X pins σ H s) (hK : SmK X.K) {a : Addr} {xs : List V} (h : SqL X.K H a xs) : a ≠ sysModules := by
 intro e
 subst e
 rcases h with h | ⟨o, its, n, hk, _, _, hs, _⟩
 ·rcases h with h | ⟨o, h⟩
  ·rw [zgH I hK] at h; cases h
  ·rw [zgH I hK] at h; cases h
 ·obtain ⟨o', es, m, e, d⟩ := hK
  rw [hk] at e
  cases e
  rw [hs] at d; cases d
mutual
theorem ziq (I : Inv X pins σ H s) (sg : Same G H) (hK : SmK X.K) : ∀ {v : V} {d : D} {u : Value}, Rep X.K G v d -> RelV v u -> layZ d = true -> ∃ as, Reads s.heap u d as /\ sysModules ∉ as
 | _, _, _, .non, r, _ => by cases r; exact ⟨_, .none, by simp⟩
 | _, _, _, .bl b, r, _ => by cases r; exact ⟨_, .bool b, by simp⟩
 | _, _, _, .int i, r, _ => by obtain ⟨t, rfl⟩ := r; exact ⟨_, .int i t, by simp⟩
 | _, _, _, .str x, r, _ => by obtain ⟨t, rfl⟩ := r; exact ⟨_, .str x t, by simp⟩
 | _, _, _, .lst h q, r, c => by
  cases r
  obtain ⟨its, rv, ⟨o, n, e, hc, _, hd⟩, hz⟩ := I.list (sg.seq h)
  obtain ⟨as, ra, hn⟩ := readsAll_z I sg hK q rv (show layZs _ = true by simpa [layZ] using c)
  refine ⟨_, .list e hc hd (by simpa using ra), ?_⟩
  simp only [List.mem_cons, not_or]
  exact ⟨fun z => zk9 I hK (sg.seq h) z.symm, hn⟩
 | _, _, _, .tup h q, r, c => by
  cases r
  obtain ⟨its, rv, p, hz⟩ := I.tuple (zdG sg h)
  obtain ⟨o, e, hc, n, hd⟩ := p
  obtain ⟨as, ra, hn⟩ := readsAll_z I sg hK q rv (show layZs _ = true by simpa [layZ] using c)
  exact ⟨_, .tuple e hc hd (by simpa using ra), hn⟩
 | _, _, _, .dic h, r, c => by
  cases r
  obtain ⟨p0, o, es, n, vs, e1, e2, e3, kv, ps⟩ := zk8 I (sg _ _ h)
  cases kv
  have z1 : es.toList = [] := by
   cases hz : es.toList with
   | nil => rfl
   | cons c r => rw [hz] at ps; cases ps
  refine ⟨_, .dict (kvs := []) e1 e2 e3 (by rw [z1]; exact .nil) (by rw [z1]; exact .nil), ?_⟩
  simp only [List.append_nil, List.mem_singleton]
  intro z
  rw [← z] at p0
  simp at p0
 | _, _, _, .exc _ _ _ _, r, c => by simp [layZ] at c
 | _, _, _, @Rep.dct _ _ ad ks vs ds kvs e hne hl _ _, r, c => by
  subst e
  match ks, ds, hl, hne with
  | [], _, _, hne => exact absurd rfl hne
  | k :: ks, [], hl, _ => simp at hl
  | k :: ks, d :: ds, _, _ => simp [layZ] at c
theorem readsAll_z (I : Inv X pins σ H s) (sg : Same G H) (hK : SmK X.K) : ∀ {vs : List V} {ds : List D} {us : List Value}, Reps X.K G vs ds -> Vals vs us -> layZs ds = true -> ∃ as, ReadsAll s.heap us ds as /\ sysModules ∉ as
 | _, _, _, .nil, r, _ => by cases r; exact ⟨_, .nil, by simp⟩
 | _, _, _, .cons h t, r, c => by
  cases r with
  | cons r1 r2 =>
   have c' := c
   rw [layZs, Bool.and_eq_true] at c'
   obtain ⟨as, ra, n1⟩ := ziq I sg hK h r1 c'.1
   obtain ⟨bs, rb, n2⟩ := readsAll_z I sg hK t r2 c'.2
   exact ⟨_, .cons ra rb, by simp [n1, n2]⟩
end
end
section
variable {X : Cx}
def zeo : List D -> Option D
 | [d] => if layZ d = true /\ d.showable = true /\ d.depth <= 50 /\ d.shown.length <= 1000000 then some (.str d.shown) else none
 | _ => none
theorem zhe (hu : X.A.units + 64 < cLine) (hg : X.A.guards = some []) (hK : SmK X.K) : zdE X (.builtin "repr") (fun xs H Q => ∃ G v d, xs = [v] /\ Same G H /\ Rep X.K G v d /\ layZ d = true /\ d.showable = true /\ d.depth <= 50 /\ d.shown.length <= 1000000 /\ Q (.str d.shown) H) := by
 intro pins s σ H xs us Q I rx h
 obtain ⟨G, v, d, rfl, sg, r, c1, c2, c4, c5, q⟩ := h
 obtain ⟨u, rfl, ru⟩ := rx.one
 obtain ⟨as, ra, hn⟩ := ziq I sg hK r ru c1
 have fin : ∀ h' (t : Tok) tk, (∀ b o, s.heap.get? b = some o -> h'.get? b = some o) -> EP X pins σ Q (.str d.shown t) { s with heap := h', toks := tk } := fun h' t tk hk => ⟨.str d.shown, H, I.kept hk, ⟨t, rfl⟩, q⟩
 cases r with
 | non => cases ru; exact P.repr_of_none (fin s.heap _ _ fun _ _ e => e)
 | bl b => cases ru; exact P.repr_of_bool (fin s.heap _ _ fun _ _ e => e)
 | int i =>
  obtain ⟨t, rfl⟩ := ru
  exact P.repr_of_int (by
   have : (PyData.int i).showable = true := c2
   simpa [PyData.showable] using this) (fin s.heap _ _ fun _ _ e => e)
 | str x =>
  obtain ⟨t, rfl⟩ := ru
  exact P.repr_of_str (fin s.heap _ _ fun _ _ e => e) (Nat.le_trans c5 lim)
 | lst h r =>
  cases ru
  exact repr_of_reads' ra c2 (fun _ => hn) hg (by omega) (fun _ _ e => e) (fun h' t tk hk => fin h' t tk hk) (Nat.le_trans c5 lim)
 | tup h r =>
  cases ru
  exact repr_of_reads' ra c2 (fun _ => hn) hg (by omega) (fun _ _ e => e) (fun h' t tk hk => fin h' t tk hk) (Nat.le_trans c5 lim)
 | dic h =>
  cases ru
  exact repr_of_reads' ra c2 (fun _ => hn) hg (by omega) (fun _ _ e => e) (fun h' t tk hk => fin h' t tk hk) (Nat.le_trans c5 lim)
 | exc _ _ _ _ => simp [layZ] at c1
 | dct _ _ _ _ _ =>
  cases ru
  exact repr_of_reads' ra c2 (fun _ => hn) hg (by omega) (fun _ _ e => e) (fun h' t tk hk => fin h' t tk hk) (Nat.le_trans c5 lim)
theorem zir (hu : X.A.units + 64 < cLine) (hg : X.A.guards = some []) (hK : SmK X.K) : zfw X (.builtin "repr") zeo := by
 refine ⟨_, zhe hu hg hK, fun vs G H ds d Q s r e k => ?_⟩
 unfold zeo at e
 split at e
 ·split at e
  ·rename_i x c
   cases e
   obtain ⟨v, rfl, q1⟩ := r.one_inv
   exact ⟨G, v, _, rfl, s, q1, c.1, c.2.1, c.2.2.1, c.2.2.2, k _ G H (.refl s) (.str _)⟩
  ·cases e
 ·cases e
theorem zis {d : D} (c : layZ d = true /\ d.showable = true /\ d.depth <= 50 /\ d.shown.length <= 1000000) : zeo [d] = some (.str d.shown) := by unfold zeo; exact if_pos c
def oNeT : D -> D -> Option Bool
 | .str a, .str b => some (!(a == b))
 | _, _ => none
theorem znA : OpB X (compareOp .NotEq) oNeT := by
 refine ⟨fun v u H Q => ∃ a b, v = .str a /\ u = .str b /\ Q (.bl (!(a == b))) H, ?_, fun v u G H x y d Q s rx ry e k => ?_⟩
 ·intro pins s σ H x y v u Q I rx ry h
  obtain ⟨a, b, rfl, rfl, q⟩ := h
  obtain ⟨t, rfl⟩ := rx
  obtain ⟨t2, rfl⟩ := ry
  exact SeqAt.RcNeAt.str_str a t b t2 X.prog X.w X.xe _ ⟨.bl _, H, I, rfl, q⟩
 ·unfold oNeT at e
  split at e
  ·cases e
   exact ⟨_, _, rx.str_inv, ry.str_inv, k⟩
  ·cases e
theorem zjy {a : Str} : oNeT (.str a) (.str a) = some false := by unfold oNeT; simp
end
end DL
namespace W
open PySem PySem.Spec L2 DL
open PyProof.Rows hiding St
def top (i : Nat) : Stmt := PySem.Challenge.pw_wishdeal_k07_no_wishes.main.body.getD i (.Pass ⟨0, 0, 0, 0⟩)
abbrev GG (s : Stmt) (x : Str) : Prop := (zan s).names.lookup x = some NameKind.globalImplicit
abbrev VV (s : Stmt) (x : Str) : Prop := L2.Vis (zan s) x
abbrev LL (s : Stmt) (x : Str) : Prop := L2.Loc (zan s) x
theorem vk {s : Stmt} {x : Str} (h : (zan s).names.lookup x = some .local ∨ (zan s).names.lookup x = some .cell ∨ (zan s).names.lookup x = some .free) : VV s x := h
theorem lk {s : Stmt} {x : Str} (h : (zan s).names.lookup x = some .local ∨ (zan s).names.lookup x = some .cell) : LL s x := h
structure Txt (K : PySem.W.Frag) (mg : Str -> Option Value) : Prop where
 b_ValueError : mg "ValueError" = none
 b_all : mg "all" = none
 b_bool : mg "bool" = none
 b_enumerate : mg "enumerate" = none
 b_int : mg "int" = none
 b_isinstance : mg "isinstance" = none
 b_len : mg "len" = none
 b_list : mg "list" = none
 b_max : mg "max" = none
 b_range : mg "range" = none
 b_repr : mg "repr" = none
 b_set : mg "set" = none
 b_str : mg "str" = none
 b_tuple : mg "tuple" = none
 c_MOST_ASKERS : ∃ t, mg "MOST_ASKERS" = some (Value.int 7 t)
 c_MOST_COPIES : ∃ t, mg "MOST_COPIES" = some (Value.int 7 t)
 c_MOST_RANKS : ∃ t, mg "MOST_RANKS" = some (Value.int 5 t)
 c_MOST_THINGS : ∃ t, mg "MOST_THINGS" = some (Value.int 6 t)
 x_DealError : CK K mg "DealError"
 x_NoAim : CK K mg "NoAim"
 x_NoBook : CK K mg "NoBook"
 x_NoChange : CK K mg "NoChange"
 x_NoDeed : CK K mg "NoDeed"
 x_NoJoin : CK K mg "NoJoin"
 x_NoName : CK K mg "NoName"
 x_NoNumbering : CK K mg "NoNumbering"
 x_NoPlace : CK K mg "NoPlace"
 x_NoRow : CK K mg "NoRow"
 x_NoText : CK K mg "NoText"
 x_NoWay : CK K mg "NoWay"
 x_NoWishes : CK K mg "NoWishes"
 x_TooMany : CK K mg "TooMany"
 sm : SmK K
abbrev Sak : Stmt := top 32
abbrev N_ak : List Str := ["_law_error", "_law_kinds"]
theorem Hak : FnNm (zan Sak) N_ak ["range", "isinstance", "DealError", "ValueError", "TooMany", "NoName", "NoRow", "NoDeed", "NoBook", "NoJoin", "NoNumbering", "NoChange", "NoPlace", "NoWay", "NoText", "NoAim", "NoWishes"] := zbC (by decide +kernel)
def g_ak : SM :=
 sSeq (zbG 1 (zam (zae (zam (dVar 0) fun d => mOpt (oIsX "NoWishes" d)) (zae (zam (dVar 0) fun d => mOpt (oIsX "NoAim" d)) (mNil))) fun xs => if xs.length <= 1000000 then zaf xs else fun _ => .bad))
 (sSeq (sSet 1 (dBin oAdd (dVar 1) (mLst (zae (zam (dVar 0) fun d => mOpt (oIsX "NoText" d)) (zae (zam (dVar 0) fun d => mOpt (oIsX "NoWay" d)) (mNil))))))
 (sSeq (sSet 1 (dBin oAdd (dVar 1) (mLst (zae (zam (dVar 0) fun d => mOpt (oIsX "NoPlace" d)) (zae (zam (dVar 0) fun d => mOpt (oIsX "NoChange" d)) (mNil))))))
 (sSeq (sSet 1 (dBin oAdd (dVar 1) (mLst (zae (zam (dVar 0) fun d => mOpt (oIsX "NoNumbering" d)) (zae (zam (dVar 0) fun d => mOpt (oIsX "NoJoin" d)) (mNil))))))
 (sSeq (sSet 1 (dBin oAdd (dVar 1) (mLst (zae (zam (dVar 0) fun d => mOpt (oIsX "NoBook" d)) (zae (zam (dVar 0) fun d => mOpt (oIsX "NoDeed" d)) (mNil))))))
 (sSeq (sSet 1 (dBin oAdd (dVar 1) (mLst (zae (zam (dVar 0) fun d => mOpt (oIsX "NoRow" d)) (zae (zam (dVar 0) fun d => mOpt (oIsX "NoName" d)) (mNil))))))
 (sSeq (sSet 1 (dBin oAdd (dVar 1) (mLst (zae (zam (dVar 0) fun d => mOpt (oIsX "TooMany" d)) (mNil)))))
 (sSeq (sIf (mOr (mNot (za2 (zam (dVar 0) fun d => mOpt (oIsX "DealError" d)))) (mNot (za2 (zam (dVar 0) fun d => mOpt (oIsV d)))))
 (sRet (zaf .none))
 (sNx))
 (sRet (mMap PyData.list (zhW (zeb (zae (zaf (.int 13)) (mNil))) 1 (gN 2) (za2 (dIxN 1 (dVar 2))) (dVar 2)))))))))))
def F_ak : List D -> Option D := runD N_ak g_ak
abbrev Saa : Stmt := top 16
abbrev N_aa : List Str := ["thing"]
theorem Haa : FnNm (zan Saa) N_aa ["isinstance", "int", "bool"] := zbC (by decide +kernel)
def g_aa : SM :=
 sRet (zg4 (mMap (fun d => .bool (isTy d "int")) (dVar 0)) (zkA (mMap (fun d => .bool (isTy d "bool")) (dVar 0))))
def F_aa : List D -> Option D := runD N_aa g_aa
abbrev Sab : Stmt := top 17
abbrev N_ab : List Str := ["thing", "many"]
theorem Hab : FnNm (zan Sab) N_ab ["is_whole"] := zbC (by decide +kernel)
def g_ab : SM :=
 sRet (zg4 (dFun 1 F_aa (zae (dVar 0) (mNil))) (mMap PyData.bool (zd9 (oIB fun i j => decide (i <= j)) (oIB fun i j => decide (i < j)) (zaf (.int 0)) (dVar 0) (dVar 1))))
def F_ab : List D -> Option D := runD N_ab g_ab
abbrev Sad : Stmt := top 24
abbrev N_ad : List Str := ["thing", "things"]
theorem Had : FnNm (zan Sad) N_ad ["all", "isinstance", "list", "len"] := zbC (by decide +kernel)
def g_ad : SM :=
 sSeq (sIf (mOr (mNot (za2 (mMap (fun d => .bool (isTy d "list")) (dVar 0)))) (dBin oEq (zbu 0) (zaf (.int 0))))
 (sRet (zaf (.bool false)))
 (sNx))
 (sRet (zb3 oAll (zae (mMap PyData.list (zef (zbQ (dVar 0)) 1 (gN 2) (zaf true) (dFun 2 F_ab (zae (dVar 2) (zae (dVar 1) (mNil)))))) (mNil))))
def F_ad : List D -> Option D := runD N_ad g_ad
abbrev Sae : Stmt := top 25
abbrev N_ae : List Str := ["thing", "things", "wished"]
theorem Hae : FnNm (zan Sae) N_ae ["len", "set", "all", "isinstance", "list", "MOST_RANKS"] := zbC (by decide +kernel)
def g_ae : SM :=
 sSeq (sIf (mOr (mNot (za2 (mMap (fun d => .bool (isTy d "list")) (dVar 0)))) (dBin (oIB fun i j => decide (j < i)) (zbu 0) (zaf (.int 5))))
 (sRet (zaf (.bool false)))
 (sNx))
 (sSeq (sIf (mNot (za2 (zb3 oAll (zae (mMap PyData.list (zef (zbQ (dVar 0)) 1 (gN 3) (zaf true) (dFun 2 F_ad (zae (dVar 3) (zae (dVar 1) (mNil)))))) (mNil)))))
 (sRet (zaf (.bool false)))
 (sNx))
 (sSeq (zbG 2 (zfE (zbQ (dVar 0)) 2 (gN 3) (zaf true) (zbQ (dVar 3)) (gN 4) (zaf true) (dVar 4)))
 (sRet (mMap PyData.bool (dBin oEq (zb3 zdJ (zae (dVar 2) (mNil))) (zbu 2))))))
def F_ae : List D -> Option D := runD N_ae g_ae
abbrev zcQ : Stmt := top 26
abbrev zcR : List Str := ["lists", "things", "asker", "ranks"]
theorem zaq : FnNm (zan zcQ) zcR ["enumerate", "is_asker_list", "NoWishes", "isinstance", "list", "len", "MOST_ASKERS"] := zbC (by decide +kernel)
def zcp : SM :=
 sIf (mNot (za2 (dFun 2 F_ae (zae (dVar 3) (zae (dVar 1) (mNil))))))
 (zcN "NoWishes" (zae (zaf (.str "lists")) (zae (dVar 2) (mNil))))
 (sNx)
def zcd : SM :=
 sSeq (sIf (mOr (mNot (za2 (mMap (fun d => .bool (isTy d "list")) (dVar 0)))) (mNot (zd9 (oIB fun i j => decide (i <= j)) (oIB fun i j => decide (i <= j)) (zaf (.int 1)) (zbu 0) (zaf (.int 7)))))
 (zcN "NoWishes" (zae (zaf (.str "lists")) (zae (zaf .none) (mNil))))
 (sNx))
 (sFor (zfz (zae (dVar 0) (mNil))) (gT 2 (gNC (gN 2) (gNC (gN 3) (gN0)))) zcp)
def zbJ : List D -> Option XR := runX zcR zcd
abbrev zcD : Stmt := top 23
abbrev zcE : List Str := ["copies", "number", "many"]
theorem zao : FnNm (zan zcD) zcE ["enumerate", "MOST_COPIES", "is_number_below", "NoWishes", "isinstance", "list", "len", "MOST_THINGS"] := zbC (by decide +kernel)
def zcf : SM :=
 sIf (mNot (za2 (dFun 2 F_ab (zae (dVar 2) (zae (dBin oAdd (zaf (.int 7)) (zaf (.int 1))) (mNil))))))
 (zcN "NoWishes" (zae (zaf (.str "copies")) (zae (dVar 1) (mNil))))
 (sNx)
def zb7 : SM :=
 sSeq (sIf (mOr (mNot (za2 (mMap (fun d => .bool (isTy d "list")) (dVar 0)))) (mNot (zd9 (oIB fun i j => decide (i <= j)) (oIB fun i j => decide (i <= j)) (zaf (.int 1)) (zbu 0) (zaf (.int 6)))))
 (zcN "NoWishes" (zae (zaf (.str "copies")) (zae (zaf .none) (mNil))))
 (sNx))
 (sFor (zfz (zae (dVar 0) (mNil))) (gT 2 (gNC (gN 1) (gNC (gN 2) (gN0)))) zcf)
def zbA : List D -> Option XR := runX zcE zb7
abbrev zcF : Stmt := top 27
abbrev zcG : List Str := ["thing", "copies", "lists"]
theorem zap : FnNm (zan zcF) zcG ["len", "look_at_lists", "look_at_copies", "isinstance", "tuple", "NoWishes"] := zbC (by decide +kernel)
def zb8 : SM :=
 sSeq (sIf (mOr (mNot (za2 (mMap (fun d => .bool (isTy d "tuple")) (dVar 0)))) (dBin oNe (zbu 0) (zaf (.int 2))))
 (zcN "NoWishes" (zae (zaf (.str "wishes")) (zae (zaf .none) (mNil))))
 (sNx))
 (sSeq (sAsg (dVar 0) (gT 2 (gNC (gN 1) (gNC (gN 2) (gN0)))))
 (sSeq (sX (zgf 1 zbA (zae (dVar 1) (mNil))) fun _ ρ => .nx ρ)
 (sX (zgf 2 zbJ (zae (dVar 2) (zae (zbu 1) (mNil)))) fun _ ρ => .nx ρ)))
def zbB : List D -> Option XR := runX zcG zb8
abbrev Sas : Stmt := top 40
abbrev N_as : List Str := ["_law_thing", "_law_kept", "_law_found", "e"]
theorem Has : FnNm (zan Sas) N_as ["_law_refusal", "isinstance", "bool", "look_at_wishes", "DealError"] := zbC (by decide +kernel)
def g_as : SM :=
 sSeq (sSet 1 (zaf .none))
 (sSeq (sSet 2 (zaf (.int 0)))
 (sSeq (sTry 3 "DealError" (sX (zgf 1 zbB (zae (dVar 0) (mNil))) fun d ρ => match gN 2 d ρ with | some ρ' => .nx ρ' | none => .bad) (sSet 1 (dVar 3)))
 (sSeq (sIf (mMap isNon (dVar 1))
 (sRet (dVar 2))
 (sNx))
 (sSeq (sIf (mOr (dBin oNe (dFun 1 F_ak (zae (dVar 1) (mNil))) (mLst (zae (zaf (.int 0)) (mNil)))) (za2 (mMap (fun d => .bool (isTy d "bool")) (zam (dVar 1) fun d => mOpt (oFld "number" d)))))
 (sRet (zaf (.str "other")))
 (sNx))
 (sRet (mTup (zae (zam (dVar 1) fun d => mOpt (oFld "part" d)) (zae (zam (dVar 1) fun d => mOpt (oFld "number" d)) (mNil)))))))))
def F_as : List D -> Option D := runD N_as g_as
abbrev Sai : Stmt := top 30
abbrev N_ai : List Str := ["_law_cell", "_law_salt", "_law_sizes", "_law_number", "_law_left", "_law_found", "_law_k", "_law_one"]
theorem Hai : FnNm (zan Sai) N_ai ["len", "range", "max"] := zbC (by decide +kernel)
def zgg : SM :=
 sIf (mAnd (zbv (oIB fun i j => decide (j <= i)) 3 (dBin oPow (zaf (.int 10)) (zaf (.int 18)))) (zbv (oIB fun i j => decide (j < i)) 4 (zaf (.int 0))))
 (sSeq (sApp 5 (dBin oMod (dVar 4) (dIxN 2 (dVar 6))))
 (sSet 4 (dBin oDiv (dVar 4) (dIxN 2 (dVar 6)))))
 (sSeq (sSet 7 (dBin oMod (dBin oAdd (dBin oAdd (dBin oAdd (dVar 3) (dBin oMul (zaf (.int 7919)) (dVar 1))) (dBin oMul (dBin oMul (zaf (.int 101)) (dVar 6)) (dVar 6))) (dVar 6)) (zaf (.int 2147483647))))
 (sSeq (sSet 7 (dBin oMod (dBin oMul (dVar 7) (zaf (.int 48271))) (zaf (.int 2147483647))))
 (sSeq (sSet 7 (dBin oMod (dBin oMul (dBin oMod (dBin oMul (dVar 7) (dVar 7)) (zaf (.int 2147483629))) (zaf (.int 48271))) (zaf (.int 2147483647))))
 (sApp 5 (dBin oMod (dBin oDiv (dVar 7) (zaf (.int 16))) (dIxN 2 (dVar 6)))))))
def g_ai : SM :=
 sSeq (sSet 3 (zb3 zjd (zae (dVar 0) (zae (dBin oSub (dNeg (zaf (.int 1))) (dVar 0)) (mNil)))))
 (sSeq (sSet 4 (dVar 3))
 (sSeq (zbG 5 (zam (mNil) fun xs => if xs.length <= 1000000 then zaf xs else fun _ => .bad))
 (sSeq (sFor (zeb (zae (zbu 2) (mNil))) (gN 6) zgg)
 (sRet (dVar 5)))))
def F_ai : List D -> Option D := runD N_ai g_ai
abbrev Sah : Stmt := top 29
abbrev N_ah : List Str := ["_law_script", "_law_k"]
theorem Hah : FnNm (zan Sah) N_ah ["len"] := zbC (by decide +kernel)
def g_ah : SM :=
 sSeq (sIf (zbv (oIB fun i j => decide (i < j)) 1 (zbu 0))
 (sRet (dIxN 0 (dVar 1)))
 (sNx))
 (sRet (zaf (.int 0)))
def F_ah : List D -> Option D := runD N_ah g_ah
abbrev Saj : Stmt := top 31
abbrev N_aj : List Str := ["_law_script", "_law_at", "_law_most_things", "_law_most_askers", "_law_most_ranks", "_law_sizes", "_law_digits", "_law_copies", "_law_lists", "_law_asker", "_law_cell", "_law_places", "_law_ranks", "_law_rank", "_law_row"]
theorem Haj : FnNm (zan Saj) N_aj ["range", "len", "_law_numbers", "_law_cell_at"] := zbC (by decide +kernel)
def zgh : SM :=
 sSeq (zbG 14 (zef (zeb (zae (zbu 7) (mNil))) 1 (gN 15) (dBin oEq (dIxN 11 (dVar 15)) (dVar 13)) (dVar 15)))
 (sIf (zbv oNe 14 (mLst (mNil)))
 (sApp 12 (dBin oIx (mLst (zae (dVar 14) (zae (dRev (dVar 14) (zaf none) (zaf none) (zam (dNeg (zaf (.int 1))) fun x => mOpt (za6 x))) (mNil)))) (dIxN 11 (dNeg (zaf (.int 1))))))
 (sNx))
def zgi : SM :=
 sSeq (sSet 10 (dFun 2 F_ah (zae (dVar 0) (zae (dBin oAdd (dBin oAdd (dVar 1) (zaf (.int 1))) (dVar 9)) (mNil)))))
 (sSeq (sSet 11 (dFun 3 F_ai (zae (dVar 10) (zae (dBin oAdd (dBin oAdd (dBin oMul (zaf (.int 11)) (dVar 1)) (dBin oMul (zaf (.int 3)) (dVar 9))) (zaf (.int 1))) (zae (dBin oAdd (dBin oMul (mLst (zae (dBin oAdd (dVar 4) (zaf (.int 1))) (mNil))) (dVar 2)) (mLst (zae (zaf (.int 2)) (mNil)))) (mNil))))))
 (sSeq (zbG 12 (zam (mNil) fun xs => if xs.length <= 1000000 then zaf xs else fun _ => .bad))
 (sSeq (sFor (zjf (zae (zaf (.int 1)) (zae (dBin oAdd (dVar 4) (zaf (.int 1))) (mNil)))) (gN 13) zgh)
 (sApp 8 (dVar 12)))))
def g_aj : SM :=
 sSeq (sSet 5 (dBin oAdd (mLst (zae (dVar 2) (zae (dVar 3) (mNil)))) (dBin oMul (mLst (zae (zaf (.int 11)) (mNil))) (dVar 2))))
 (sSeq (sSet 6 (dFun 3 F_ai (zae (dFun 2 F_ah (zae (dVar 0) (zae (dVar 1) (mNil)))) (zae (dVar 1) (zae (dVar 5) (mNil))))))
 (sSeq (zbG 7 (zef (zbQ (dSlA (dVar 6) (zam (zaf (.int 2)) fun x => mOpt (za6 x)) (zam (dBin oAdd (zaf (.int 3)) (dIxN 6 (zaf (.int 0)))) fun x => mOpt (za6 x)))) 1 (gN 15) (zaf true) (dBin oIx (mLst (zae (zaf (.int 1)) (zae (zaf (.int 1)) (zae (zaf (.int 2)) (zae (zaf (.int 0)) (zae (zaf (.int 3)) (zae (zaf (.int 7)) (zae (zaf (.int 1)) (zae (zaf (.int 4)) (zae (zaf (.int 5)) (zae (zaf (.int 6)) (zae (zaf (.int 1)) (mNil))))))))))))) (dVar 15))))
 (sSeq (zbG 8 (zam (mNil) fun xs => if xs.length <= 1000000 then zaf xs else fun _ => .bad))
 (sSeq (sFor (zeb (zae (dBin oAdd (zaf (.int 1)) (dIxN 6 (zaf (.int 1)))) (mNil))) (gN 9) zgi)
 (sRet (mTup (zae (dVar 7) (zae (dVar 8) (mNil)))))))))
def F_aj : List D -> Option D := runD N_aj g_aj
abbrev Sap : Stmt := top 37
abbrev N_ap : List Str := ["_law_rank", "_law_digits", "_law_many", "_law_at", "_law_odd", "_law_far", "_law_some", "_law_bent_here"]
theorem Hap : FnNm (zan Sap) N_ap ["str", "tuple", "len", "isinstance", "list"] := zbC (by decide +kernel)
def g_ap : SM :=
 sSeq (sAsg (dVar 1) (gL 3 (gNC (gN 3) (gNC (gN 4) (gNC (gN 5) (gN0))))))
 (sSeq (sIf (mNot (za2 (mMap (fun d => .bool (isTy d "list")) (dVar 0))))
 (zbG 0 (zam (zae (zaf (.int 0)) (mNil)) fun xs => if xs.length <= 1000000 then zaf xs else fun _ => .bad))
 (sNx))
 (sSeq (sSet 3 (dBin oMod (dVar 3) (dBin oAdd (zbu 0) (zaf (.int 1)))))
 (sSeq (zbG 6 (zam (zae (zaf .none) (zae (zaf (.bool true)) (zae (zaf (.bool false)) (zae (dNeg (zaf (.int 1))) (zae (dVar 2) (zae (dBin oAdd (dVar 2) (dVar 5)) (zae (dBin oSub (zaf (.int 0)) (dVar 5)) (zae (zaf (.str "0")) (zae (mLst (zae (zaf (.int 0)) (mNil))) (zae (mTup (zae (zaf (.int 0)) (mNil))) (zae (zaf (.int 0)) (zae (dBin oSub (dVar 2) (zaf (.int 1))) (mNil))))))))))))) fun xs => if xs.length <= 1000000 then zaf xs else fun _ => .bad))
 (sSeq (sSet 7 (dBin oAdd (dBin oAdd (dSlA (dVar 0) (zaf none) (zam (dVar 3) fun x => mOpt (za6 x))) (mLst (zae (dIxN 6 (dVar 4)) (mNil)))) (dSlA (dVar 0) (zam (dBin oAdd (dVar 3) (dBin oMod (dVar 5) (zaf (.int 2)))) fun x => mOpt (za6 x)) (zaf none))))
 (sRet (dBin oIx (mLst (zae (dVar 7) (zae (dVar 7) (zae (dVar 7) (zae (zb3 zdY (zae (dVar 0) (mNil))) (zae (mLst (mNil)) (zae (dBin oAdd (dVar 0) (dSlA (dVar 0) (zaf none) (zam (zaf (.int 1)) fun x => mOpt (za6 x)))) (zae (zb3 zf9 (zae (dVar 5) (mNil))) (zae (zaf .none) (mNil)))))))))) (dBin oMod (dBin oDiv (dVar 5) (zaf (.int 2))) (zaf (.int 8)))))))))
def F_ap : List D -> Option D := runD N_ap g_ap
abbrev Saq : Stmt := top 38
abbrev N_aq : List Str := ["_law_lists", "_law_digits", "_law_many", "_law_way", "_law_asker", "_law_at", "_law_odd", "_law_far", "_law_spot", "_law_ranks", "_law_rank", "_law_bent_here"]
theorem Haq : FnNm (zan Saq) N_aq ["tuple", "range", "_law_bent_rank", "len", "isinstance", "list"] := zbC (by decide +kernel)
def g_aq : SM :=
 sSeq (sAsg (dVar 1) (gL 6 (gNC (gN 3) (gNC (gN 4) (gNC (gN 5) (gNC (gN 6) (gNC (gN 7) (gNC (gN 8) (gN0)))))))))
 (sSeq (sSet 4 (dBin oMod (dVar 4) (zbu 0)))
 (sSeq (sSet 9 (dIxN 0 (dVar 4)))
 (sSeq (sIf (mNot (za2 (mMap (fun d => .bool (isTy d "list")) (dVar 9))))
 (zbG 9 (zam (mNil) fun xs => if xs.length <= 1000000 then zaf xs else fun _ => .bad))
 (sNx))
 (sSeq (sSet 5 (dBin oMod (dVar 5) (dBin oAdd (zbu 9) (zaf (.int 1)))))
 (sSeq (sIf (zbv oEq 3 (zaf (.int 1)))
 (sSeq (sSet 10 (dBin oIx (dBin oAdd (dVar 9) (mLst (zae (mLst (mNil)) (mNil)))) (dVar 5)))
 (sSeq (sSet 11 (dBin oAdd (dBin oAdd (dSlA (dVar 9) (zaf none) (zam (dVar 5) fun x => mOpt (za6 x))) (mLst (zae (dFun 3 F_ap (zae (dVar 10) (zae (mLst (zae (dVar 8) (zae (dVar 6) (zae (dVar 7) (mNil))))) (zae (dVar 2) (mNil))))) (mNil)))) (dSlA (dVar 9) (zam (dBin oAdd (dVar 5) (zaf (.int 1))) fun x => mOpt (za6 x)) (zaf none))))
 (sRet (dBin oAdd (dBin oAdd (dSlA (dVar 0) (zaf none) (zam (dVar 4) fun x => mOpt (za6 x))) (mLst (zae (dVar 11) (mNil)))) (dSlA (dVar 0) (zam (dBin oAdd (dVar 4) (zaf (.int 1))) fun x => mOpt (za6 x)) (zaf none))))))
 (sNx))
 (sSeq (sIf (zbv oEq 3 (zaf (.int 2)))
 (sSeq (zbG 11 (zam (zae (zb3 zdY (zae (dVar 9) (mNil))) (zae (zaf .none) (zae (zaf (.dict [])) (zae (zaf (.str "")) (zae (dBin oAdd (dVar 9) (dVar 9)) (mNil)))))) fun xs => if xs.length <= 1000000 then zaf xs else fun _ => .bad))
 (sSeq (sSet 11 (dBin oAdd (dVar 11) (mLst (zae (dBin oAdd (dVar 9) (mLst (zae (mLst (zae (zaf (.int 0)) (mNil))) (mNil)))) (zae (mLst (zae (mLst (zae (mLst (zae (zaf (.int 0)) (mNil))) (mNil))) (mNil))) (zae (dBin oMul (mLst (zae (mLst (zae (zaf (.int 0)) (mNil))) (mNil))) (zaf (.int 6))) (zae (zaf (.int 0)) (zae (mMap PyData.list (zef (zeb (zae (dVar 2) (mNil))) 1 (gN 12) (zaf true) (mLst (zae (dVar 12) (mNil))))) (mNil)))))))))
 (sRet (dBin oAdd (dBin oAdd (dSlA (dVar 0) (zaf none) (zam (dVar 4) fun x => mOpt (za6 x))) (mLst (zae (dIxN 11 (dBin oMod (dVar 6) (zaf (.int 10)))) (mNil)))) (dSlA (dVar 0) (zam (dBin oAdd (dVar 4) (zaf (.int 1))) fun x => mOpt (za6 x)) (zaf none))))))
 (sNx))
 (sSeq (sIf (zbv oEq 3 (zaf (.int 3)))
 (sSeq (zbG 11 (zam (zae (zb3 zdY (zae (dVar 0) (mNil))) (zae (zaf .none) (zae (zaf (.str "")) (zae (zaf (.dict [])) (zae (mLst (mNil)) (zae (dBin oMul (dVar 0) (zaf (.int 8))) (mNil))))))) fun xs => if xs.length <= 1000000 then zaf xs else fun _ => .bad))
 (sSeq (sSet 11 (dBin oAdd (dVar 11) (mLst (zae (dSlA (dBin oMul (dVar 0) (zaf (.int 7))) (zaf none) (zam (zaf (.int 7)) fun x => mOpt (za6 x))) (zae (dIxN 0 (zaf (.int 0))) (zae (dBin oAdd (dVar 0) (mLst (zae (mLst (zae (mLst (zae (dVar 2) (mNil))) (mNil))) (mNil)))) (mNil)))))))
 (sRet (dIxN 11 (dBin oMod (dVar 6) (zaf (.int 9)))))))
 (sNx))
 (sRet (dVar 0)))))))))
def F_aq : List D -> Option D := runD N_aq g_aq
abbrev Sao : Stmt := top 36
abbrev N_ao : List Str := ["_law_copies", "_law_digits", "_law_way", "_law_at", "_law_odd", "_law_far", "_law_some", "_law_bent_here"]
theorem Hao : FnNm (zan Sao) N_ao ["tuple", "len"] := zbC (by decide +kernel)
def g_ao : SM :=
 sSeq (sAsg (dVar 1) (gL 4 (gNC (gN 2) (gNC (gN 3) (gNC (gN 4) (gNC (gN 5) (gN0)))))))
 (sSeq (sSet 3 (dBin oMod (dVar 3) (zbu 0)))
 (sSeq (zbG 6 (zam (zae (zaf .none) (zae (zaf (.bool true)) (zae (zaf (.bool false)) (zae (dNeg (zaf (.int 1))) (zae (zaf (.int 8)) (zae (dBin oSub (zaf (.int 0)) (dVar 5)) (zae (dBin oAdd (zaf (.int 8)) (dVar 5)) (zae (zaf (.str "1")) (zae (mLst (zae (zaf (.int 1)) (mNil))) (zae (mTup (zae (zaf (.int 1)) (mNil))) (zae (zaf (.int 7)) (zae (zaf (.int 0)) (mNil))))))))))))) fun xs => if xs.length <= 1000000 then zaf xs else fun _ => .bad))
 (sSeq (sIf (zbv oEq 2 (zaf (.int 1)))
 (sRet (dBin oAdd (dBin oAdd (dSlA (dVar 0) (zaf none) (zam (dVar 3) fun x => mOpt (za6 x))) (mLst (zae (dIxN 6 (dVar 4)) (mNil)))) (dSlA (dVar 0) (zam (dBin oAdd (dVar 3) (zaf (.int 1))) fun x => mOpt (za6 x)) (zaf none))))
 (sNx))
 (sSeq (sIf (zbv oEq 2 (zaf (.int 2)))
 (sRet (dBin oAdd (dBin oAdd (dSlA (dVar 0) (zaf none) (zam (dVar 3) fun x => mOpt (za6 x))) (mLst (zae (dIxN 6 (dVar 4)) (mNil)))) (dSlA (dVar 0) (zam (dVar 3) fun x => mOpt (za6 x)) (zaf none))))
 (sNx))
 (sSeq (sIf (zbv oEq 2 (zaf (.int 3)))
 (sSeq (zbG 7 (zam (zae (zb3 zdY (zae (dVar 0) (mNil))) (zae (zaf .none) (zae (zaf (.str "")) (zae (zaf (.dict [])) (zae (mLst (mNil)) (zae (dIxN 0 (zaf (.int 0))) (mNil))))))) fun xs => if xs.length <= 1000000 then zaf xs else fun _ => .bad))
 (sSeq (sSet 7 (dBin oAdd (dVar 7) (mLst (zae (dBin oMul (dVar 0) (zaf (.int 7))) (zae (dSlA (dBin oMul (dVar 0) (zaf (.int 6))) (zaf none) (zam (zaf (.int 6)) fun x => mOpt (za6 x))) (zae (dBin oAdd (dBin oMul (mLst (zae (zaf (.int 1)) (mNil))) (zaf (.int 6))) (dVar 0)) (mNil)))))))
 (sRet (dIxN 7 (dBin oMod (dVar 4) (zaf (.int 9)))))))
 (sNx))
 (sRet (dVar 0)))))))
def F_ao : List D -> Option D := runD N_ao g_ao
abbrev Sar : Stmt := top 39
abbrev N_ar : List Str := ["_law_wishes_here", "_law_cell", "_law_salt", "_law_sizes", "_law_digits", "_law_copies", "_law_lists", "_law_turn", "_law_some"]
theorem Har : FnNm (zan Sar) N_ar ["range", "isinstance", "list", "len", "_law_bent_lists", "_law_bent_copies", "_law_numbers"] := zbC (by decide +kernel)
def zep : SM :=
 sSeq (sIf (mAnd (za2 (mMap (fun d => .bool (isTy d "list")) (dVar 5))) (zbv oNeW 5 (mLst (mNil))))
 (sSet 5 (dFun 2 F_ao (zae (dVar 5) (zae (dSlA (dVar 4) (zam (dBin oMul (zaf (.int 4)) (dVar 7)) fun x => mOpt (za6 x)) (zam (dBin oAdd (dBin oMul (zaf (.int 4)) (dVar 7)) (zaf (.int 4))) fun x => mOpt (za6 x))) (mNil)))))
 (sNx))
 (sIf (mAnd (za2 (mMap (fun d => .bool (isTy d "list")) (dVar 6))) (zbv oNeW 6 (mLst (mNil))))
 (sSet 6 (dFun 3 F_aq (zae (dVar 6) (zae (dSlA (dVar 4) (zam (dBin oAdd (zaf (.int 8)) (dBin oMul (zaf (.int 6)) (dVar 7))) fun x => mOpt (za6 x)) (zam (dBin oAdd (zaf (.int 14)) (dBin oMul (zaf (.int 6)) (dVar 7))) fun x => mOpt (za6 x))) (zae (zb3 oLen (zae (dIxN 0 (zaf (.int 0))) (mNil))) (mNil))))))
 (sNx))
def g_ar : SM :=
 sSeq (sSet 3 (dBin oAdd (dBin oMul (mLst (zae (zaf (.int 7)) (zae (zaf (.int 6)) (zae (zaf (.int 12)) (zae (dBin oPow (zaf (.int 10)) (zaf (.int 18))) (mNil)))))) (zaf (.int 2))) (dBin oMul (mLst (zae (zaf (.int 9)) (zae (zaf (.int 7)) (zae (zaf (.int 6)) (zae (zaf (.int 12)) (zae (dBin oPow (zaf (.int 10)) (zaf (.int 18))) (zae (zaf (.int 7)) (mNil)))))))) (zaf (.int 2)))))
 (sSeq (sSet 4 (dFun 3 F_ai (zae (dVar 1) (zae (dVar 2) (zae (dBin oAdd (dVar 3) (mLst (zae (zaf (.int 12)) (zae (zaf (.int 9)) (mNil))))) (mNil))))))
 (sSeq (sAsg (dVar 0) (gT 2 (gNC (gN 5) (gNC (gN 6) (gN0)))))
 (sSeq (sFor (zeb (zae (zaf (.int 2)) (mNil))) (gN 7) zep)
 (sSeq (zbG 8 (zam (zae (mLst (zae (dVar 5) (zae (dVar 6) (mNil)))) (zae (mTup (zae (dVar 5) (mNil))) (zae (mTup (zae (dVar 5) (zae (dVar 6) (zae (zaf .none) (mNil))))) (zae (zaf .none) (zae (zaf (.dict [])) (zae (zaf (.str "")) (zae (mTup (mNil)) (zae (dVar 5) (zae (zaf (.bool true)) (mNil)))))))))) fun xs => if xs.length <= 1000000 then zaf xs else fun _ => .bad))
 (sSeq (sIf (dBin oEq (dIxN 4 (zaf (.int 20))) (zaf (.int 0)))
 (sRet (dIxN 8 (dIxN 4 (zaf (.int 21)))))
 (sNx))
 (sRet (mTup (zae (dVar 5) (zae (dVar 6) (mNil))))))))))
def F_ar : List D -> Option D := runD N_ar g_ar
abbrev Sal : Stmt := top 33
abbrev N_al : List Str := ["_law_thing"]
theorem Hal : FnNm (zan Sal) N_al ["isinstance", "int", "bool"] := zbC (by decide +kernel)
def g_al : SM :=
 sRet (zg4 (mMap (fun d => .bool (isTy d "int")) (dVar 0)) (zkA (mMap (fun d => .bool (isTy d "bool")) (dVar 0))))
def F_al : List D -> Option D := runD N_al g_al
abbrev Sam : Stmt := top 34
abbrev N_am : List Str := ["_law_thing", "_law_many", "_law_seen", "_law_rank", "_law_one"]
theorem Ham : FnNm (zan Sam) N_am ["_law_is_whole", "isinstance", "list", "len"] := zbC (by decide +kernel)
def zbO : SM :=
 sSeq (sIf (mOr (mNot (za2 (dFun 1 F_al (zae (dVar 4) (mNil))))) (mOr (zbv (oIB fun i j => decide (i < j)) 4 (zaf (.int 0))) (mOr (zbv (oIB fun i j => decide (j <= i)) 4 (dVar 1)) (zhd oIn (dVar 4) 2))))
 (sRet (zaf (.bool false)))
 (sNx))
 (sApp 2 (dVar 4))
def zbF : SM :=
 sSeq (sIf (mOr (mNot (za2 (mMap (fun d => .bool (isTy d "list")) (dVar 3)))) (dBin oEq (zbu 3) (zaf (.int 0))))
 (sRet (zaf (.bool false)))
 (sNx))
 (sFor (zbQ (dVar 3)) (gN 4) zbO)
def g_am : SM :=
 sSeq (sIf (mOr (mNot (za2 (mMap (fun d => .bool (isTy d "list")) (dVar 0)))) (dBin (oIB fun i j => decide (j < i)) (zbu 0) (zaf (.int 5))))
 (sRet (zaf (.bool false)))
 (sNx))
 (sSeq (zbG 2 (zam (mNil) fun xs => if xs.length <= 1000000 then zaf xs else fun _ => .bad))
 (sSeq (sFor (zbQ (dVar 0)) (gN 3) zbF)
 (sRet (zaf (.bool true)))))
def F_am : List D -> Option D := runD N_am g_am
abbrev San : Stmt := top 35
abbrev N_an : List Str := ["_law_thing", "_law_copies", "_law_lists", "_law_k", "_law_many", "_law_ranks"]
theorem Han : FnNm (zan San) N_an ["enumerate", "len", "_law_are_ranks", "isinstance", "list", "_law_is_whole", "tuple"] := zbC (by decide +kernel)
def zit : SM :=
 sIf (mNot (za2 (dFun 2 F_am (zae (dVar 5) (zae (zbu 1) (mNil))))))
 (sRet (mTup (zae (zaf (.str "lists")) (zae (dVar 3) (mNil)))))
 (sNx)
def ziu : SM :=
 sIf (mOr (mNot (za2 (dFun 1 F_al (zae (dVar 4) (mNil))))) (mOr (zbv (oIB fun i j => decide (i < j)) 4 (zaf (.int 0))) (zbv (oIB fun i j => decide (j < i)) 4 (zaf (.int 7)))))
 (sRet (mTup (zae (zaf (.str "copies")) (zae (dVar 3) (mNil)))))
 (sNx)
def g_an : SM :=
 sSeq (sIf (mOr (mNot (za2 (mMap (fun d => .bool (isTy d "tuple")) (dVar 0)))) (dBin oNe (zbu 0) (zaf (.int 2))))
 (sRet (mTup (zae (zaf (.str "wishes")) (zae (zaf .none) (mNil)))))
 (sNx))
 (sSeq (sAsg (dVar 0) (gT 2 (gNC (gN 1) (gNC (gN 2) (gN0)))))
 (sSeq (sIf (mOr (mNot (za2 (mMap (fun d => .bool (isTy d "list")) (dVar 1)))) (mOr (dBin (oIB fun i j => decide (i < j)) (zbu 1) (zaf (.int 1))) (dBin (oIB fun i j => decide (j < i)) (zbu 1) (zaf (.int 6)))))
 (sRet (mTup (zae (zaf (.str "copies")) (zae (zaf .none) (mNil)))))
 (sNx))
 (sSeq (sFor (zfz (zae (dVar 1) (mNil))) (gT 2 (gNC (gN 3) (gNC (gN 4) (gN0)))) ziu)
 (sSeq (sIf (mOr (mNot (za2 (mMap (fun d => .bool (isTy d "list")) (dVar 2)))) (mOr (dBin (oIB fun i j => decide (i < j)) (zbu 2) (zaf (.int 1))) (dBin (oIB fun i j => decide (j < i)) (zbu 2) (zaf (.int 7)))))
 (sRet (mTup (zae (zaf (.str "lists")) (zae (zaf .none) (mNil)))))
 (sNx))
 (sSeq (sFor (zfz (zae (dVar 2) (mNil))) (gT 2 (gNC (gN 3) (gNC (gN 5) (gN0)))) zit)
 (sRet (zaf .none)))))))
def F_an : List D -> Option D := runD N_an g_an
abbrev Sat : Stmt := top 41
abbrev N_at : List Str := ["_law_script", "_law_wishes_here", "_law_at", "_law_cell", "_law_thing"]
theorem Hat : FnNm (zan Sat) N_at ["_law_told", "enumerate", "repr", "_law_wishes", "_law_bent", "_law_due"] := zbC (by decide +kernel)
def ziv : SM :=
 sSeq (sSet 4 (dFun 3 F_ar (zae (dVar 1) (zae (dVar 3) (zae (dBin oAdd (zaf (.int 800)) (dVar 2)) (mNil))))))
 (sSeq (sIf (dBin oNe (dFun 1 F_as (zae (dVar 4) (mNil))) (dFun 1 F_an (zae (dVar 4) (mNil))))
 (sRet (zaf (.bool false)))
 (sNx))
 (sIf (dBin oNeT (zb3 zeo (zae (dVar 4) (mNil))) (zb3 zeo (zae (dFun 3 F_ar (zae (dFun 5 F_aj (zae (dVar 0) (zae (zaf (.int 0)) (zae (zaf (.int 6)) (zae (zaf (.int 7)) (zae (zaf (.int 5)) (mNil))))))) (zae (dVar 3) (zae (dBin oAdd (zaf (.int 800)) (dVar 2)) (mNil))))) (mNil))))
 (sRet (zaf (.bool false)))
 (sNx)))
def g_at : SM :=
 sSeq (sSet 1 (dFun 5 F_aj (zae (dVar 0) (zae (zaf (.int 0)) (zae (zaf (.int 6)) (zae (zaf (.int 7)) (zae (zaf (.int 5)) (mNil))))))))
 (sSeq (sFor (zfz (zae (dBin oAdd (mLst (zae (zaf (.int 4)) (mNil))) (dSlA (dVar 0) (zam (zaf (.int 8)) fun x => mOpt (za6 x)) (zam (zaf (.int 62)) fun x => mOpt (za6 x)))) (mNil))) (gT 2 (gNC (gN 2) (gNC (gN 3) (gN0)))) ziv)
 (sRet (mMap (fun d => .bool (isNon d)) (dFun 1 F_as (zae (dVar 1) (mNil))))))
def F_at : List D -> Option D := runD N_at g_at
section
variable {P : Program} {w : World} {K : PySem.W.Frag} {mg : Str -> Option Value} {base : Heap} {f : Addr} {fd : FuncData} (T : Txt K mg)
include T
theorem Kak (F : Fun K "_law_refusal" "_law_refusal" Sak f fd) : FnOk P w K mg base CX0 1 f fd ["_law_error"] (spD K 1 F_ak) :=
 okD (k := 0) (g := g_ak) F (fq Hak 1) rfl fun cdv A outer s H E B G0 hr =>
 have hu := hr.units
 have hgd := hr.gd
 (zal (zb4 (i := 1) (nq Hak) rfl (lq Hak 1) (zb5 (zac (zbW T.x_NoWishes (gq Hak 1) T.b_isinstance (gq Hak 16) (zag (pq Hak 0))) (zac (zbW T.x_NoAim (gq Hak 1) T.b_isinstance (gq Hak 15) (zag (pq Hak 0))) zai))))
 (zal (za0 (i := 1) (nq Hak) rfl (lq Hak 1) (zaw zaU (zag (pq Hak 1)) (zay (zac (zbW T.x_NoText (gq Hak 1) T.b_isinstance (gq Hak 14) (zag (pq Hak 0))) (zac (zbW T.x_NoWay (gq Hak 1) T.b_isinstance (gq Hak 13) (zag (pq Hak 0))) zai)))))
 (zal (za0 (i := 1) (nq Hak) rfl (lq Hak 1) (zaw zaU (zag (pq Hak 1)) (zay (zac (zbW T.x_NoPlace (gq Hak 1) T.b_isinstance (gq Hak 12) (zag (pq Hak 0))) (zac (zbW T.x_NoChange (gq Hak 1) T.b_isinstance (gq Hak 11) (zag (pq Hak 0))) zai)))))
 (zal (za0 (i := 1) (nq Hak) rfl (lq Hak 1) (zaw zaU (zag (pq Hak 1)) (zay (zac (zbW T.x_NoNumbering (gq Hak 1) T.b_isinstance (gq Hak 10) (zag (pq Hak 0))) (zac (zbW T.x_NoJoin (gq Hak 1) T.b_isinstance (gq Hak 9) (zag (pq Hak 0))) zai)))))
 (zal (za0 (i := 1) (nq Hak) rfl (lq Hak 1) (zaw zaU (zag (pq Hak 1)) (zay (zac (zbW T.x_NoBook (gq Hak 1) T.b_isinstance (gq Hak 8) (zag (pq Hak 0))) (zac (zbW T.x_NoDeed (gq Hak 1) T.b_isinstance (gq Hak 7) (zag (pq Hak 0))) zai)))))
 (zal (za0 (i := 1) (nq Hak) rfl (lq Hak 1) (zaw zaU (zag (pq Hak 1)) (zay (zac (zbW T.x_NoRow (gq Hak 1) T.b_isinstance (gq Hak 6) (zag (pq Hak 0))) (zac (zbW T.x_NoName (gq Hak 1) T.b_isinstance (gq Hak 5) (zag (pq Hak 0))) zai)))))
 (zal (za0 (i := 1) (nq Hak) rfl (lq Hak 1) (zaw zaU (zag (pq Hak 1)) (zay (zac (zbW T.x_TooMany (gq Hak 1) T.b_isinstance (gq Hak 4) (zag (pq Hak 0))) zai))))
 (zal (zbz (PW.pt (zbV (zbd (za8 (zbW T.x_DealError (gq Hak 1) T.b_isinstance (gq Hak 2) (zag (pq Hak 0))))) (zbU (zbd (za8 (zkW (gq Hak 1) T.b_isinstance (gq Hak 3) T.b_ValueError (zag (pq Hak 0))))))))
 (zax (zaP zby))
 za5)
 (zax (zaP (zeY (zji (zan Sak) N_ak ["_law_error", "_law_kinds", "_law_k"] 1 zh3 rfl (zcA (gq Hak 0) T.b_range (zac zak zai)) (fun cl C s0 H0 ex => ⟨fun B' G' => (zaD (zaC (i := 2) (show (["_law_error", "_law_kinds", "_law_k"] : List Str).Nodup by decide +kernel) rfl (zcW rfl) (.inr (zdU rfl)))), fun B' G' => (zhU (za8 (zbe (pvb 1) (zag (pvb 2)) (fun _ _ => rfl)))), (zcn rfl rfl rfl fun B' G' => (zag (pvb 2)))⟩) rfl rfl (by decide +kernel)))))))))))))
theorem Kaa (F : Fun K "is_whole" "is_whole" Saa f fd) : FnOk P w K mg base CX0 1 f fd ["thing"] (spD K 1 F_aa) :=
 okD (k := 0) (g := g_aa) F (fq Haa 1) rfl fun cdv A outer s H E B G0 hr =>
 have hu := hr.units
 have hgd := hr.gd
 (zax (zaP (zf6 (zaL (c := "int") (by decide) (gq Haa 0) T.b_isinstance (gq Haa 1) T.b_int (by decide +kernel) (zag (pq Haa 0)) (by decide) (by decide)) (zf7 (zhO (zaL (c := "bool") (by decide) (gq Haa 0) T.b_isinstance (gq Haa 2) T.b_bool (by decide +kernel) (zag (pq Haa 0)) (by decide) (by decide)))))))
theorem Kab (d_aa : Def P w K mg base "is_whole" 1 1 F_aa) (F : Fun K "is_number_below" "is_number_below" Sab f fd) : FnOk P w K mg base CX0 2 f fd ["thing", "many"] (spD K 2 F_ab) :=
 okD (k := 1) (g := g_ab) F (fq Hab 2) rfl fun cdv A outer s H E B G0 hr =>
 have hu := hr.units
 have hgd := hr.gd
 (zax (zaP (zf6 (pdf d_aa hr (gq Hab 0) (zac (zag (pq Hab 0)) zai)) (zf7 (zhN B_le B_lt zak (zag (pq Hab 0)) (zag (pq Hab 1)))))))
theorem Kad (d_ab : Def P w K mg base "is_number_below" 2 2 F_ab) (F : Fun K "is_rank" "is_rank" Sad f fd) : FnOk P w K mg base CX0 3 f fd ["thing", "things"] (spD K 2 F_ad) :=
 okD (k := 2) (g := g_ad) F (fq Had 2) rfl fun cdv A outer s H E B G0 hr =>
 have hu := hr.units
 have hgd := hr.gd
 (zal (zbz (PW.pt (zbV (zbd (za8 (zaL (c := "list") (by decide) (gq Had 1) T.b_isinstance (gq Had 2) T.b_list (by decide +kernel) (zag (pq Had 0)) (by decide) (by decide)))) (zbU (zbL (B_eq hu) (zaW (gq Had 3) T.b_len (pq Had 0)) zak (zbb _)))))
 (zax (zaP zbT))
 za5)
 (zax (zaP (zcy (zmn rfl) (gq Had 0) T.b_all PyProof.Rows.boot_all (zac (zeY (zji (zan Sad) N_ad ["thing", "things", "number"] 1 zdr rfl (zei (zag (pq Had 0))) (fun cl C s0 H0 ex => ⟨fun B' G' => (zaD (zaC (i := 2) (show (["thing", "things", "number"] : List Str).Nodup by decide +kernel) rfl (zcW rfl) (.inr (zdU rfl)))), fun B' G' => zdI, (zcn rfl rfl rfl fun B' G' => (pdf d_ab hr (zjU rfl) (zac (zag (pvb 2)) (zac (zag (pvb 1)) zai))))⟩) rfl rfl (by decide +kernel))) zai)))))
theorem Kae (d_ad : Def P w K mg base "is_rank" 3 2 F_ad) (F : Fun K "is_asker_list" "is_asker_list" Sae f fd) : FnOk P w K mg base CX0 4 f fd ["thing", "things"] (spD K 2 F_ae) :=
 okD (k := 3) (g := g_ae) F (fq Hae 2) rfl fun cdv A outer s H E B G0 hr =>
 have hu := hr.units
 have hgd := hr.gd
 (zal (zbz (PW.pt (zbV (zbd (za8 (zaL (c := "list") (by decide) (gq Hae 3) T.b_isinstance (gq Hae 4) T.b_list (by decide +kernel) (zag (pq Hae 0)) (by decide) (by decide)))) (zbU (zbL B_gt (zaW (gq Hae 0) T.b_len (pq Hae 0)) (zjm (gq Hae 5) T.c_MOST_RANKS) (zbb _)))))
 (zax (zaP zbT))
 za5)
 (zal (zbz (zbd (za8 (zcy (zmn rfl) (gq Hae 2) T.b_all PyProof.Rows.boot_all (zac (zeY (zji (zan Sae) N_ae ["thing", "things", "wished", "rank"] 1 zdr rfl (zei (zag (pq Hae 0))) (fun cl C s0 H0 ex => ⟨fun B' G' => (zaD (zaC (i := 3) (show (["thing", "things", "wished", "rank"] : List Str).Nodup by decide +kernel) rfl (zcW rfl) (.inr (zdU rfl)))), fun B' G' => zdI, (zcn rfl rfl rfl fun B' G' => (pdf d_ad hr (zjU rfl) (zac (zag (pvb 3)) (zac (zag (pvb 1)) zai))))⟩) rfl rfl (by decide +kernel))) zai))))
 (zax (zaP zbT))
 za5)
 (zal (sD_1 (j := 2) (zan Sae) N_ae ["thing", "things", "wished", "rank", "number"] 2 zh4 (nq Hae) rfl rfl rfl (zei (zag (pq Hae 0))) (fun cl C s0 H0 ex => ⟨fun B' G' => (zaD (zaC (i := 3) (show (["thing", "things", "wished", "rank", "number"] : List Str).Nodup by decide +kernel) rfl (zcW rfl) (.inr (zdU rfl)))), fun B' G' => zdI, (zh0 rfl rfl rfl rfl (fun _ => rfl) (fun B' G' => (zei (zag (pvb 3)))) (fun B' G' => (zaD (zaC (i := 4) (show (["thing", "things", "wished", "rank", "number"] : List Str).Nodup by decide +kernel) rfl (zcW rfl) (.inr (zdU rfl))))) (fun B' G' => zdI) (zcn rfl rfl rfl fun B' G' => (zag (pvb 4))))⟩) rfl rfl (by decide +kernel))
 (zax (zaP (zky (B_eq hu) (zhc rfl (gq Hae 0) T.b_len (gq Hae 1) T.b_set (zac (zag (pq Hae 2)) zai)) (zaW (gq Hae 0) T.b_len (pq Hae 2)) (zbb _)))))))
theorem zdQ (d_ae : Def P w K mg base "is_asker_list" 4 2 F_ae) (m_NoWishes : MkX P w K mg base "NoWishes" 2) (F : Fun K "look_at_lists" "look_at_lists" zcQ f fd) : FnOk P w K mg base (CX1 P w) 5 f fd ["lists", "things"] (spX K 2 zbJ) :=
 okX (k := 4) (g := zcd) F (fq zaq 2) rfl fun cdv A outer s H E B G0 hr =>
 have hu := hr.units
 have hgd := hr.gd
 (zal (zbz (PW.pt (zbV (zbd (za8 (zaL (c := "list") (by decide) (gq zaq 3) T.b_isinstance (gq zaq 4) T.b_list (by decide +kernel) (zag (pq zaq 0)) (by decide) (by decide)))) (zbU (zbd (zfv B_le B_le zak (zaW (gq zaq 5) T.b_len (pq zaq 0)) (zjm (gq zaq 6) T.c_MOST_ASKERS))))))
 (zax (zdv m_NoWishes hr rfl zcI (gq zaq 2) (zac zca (zac zby zai))))
 za5)
 (zax (zcV zft rfl (zec (gq zaq 0) T.b_enumerate (zac (zag (pq zaq 0)) zai)) (zdS rfl (zaT (zaD (zaC (i := 2) (nq zaq) rfl (lq zaq 2))) (zaT (zaD (zaC (i := 3) (nq zaq) rfl (lq zaq 3))) zcT)))
 (zax (zbz (zbd (za8 (pdf d_ae hr (gq zaq 1) (zac (zag (pq zaq 3)) (zac (zag (pq zaq 1)) zai)))))
 (zax (zdv m_NoWishes hr rfl zcI (gq zaq 2) (zac zca (zac (zag (pq zaq 2)) zai))))
 za5)))))
theorem zdx (d_ab : Def P w K mg base "is_number_below" 2 2 F_ab) (m_NoWishes : MkX P w K mg base "NoWishes" 2) (F : Fun K "look_at_copies" "look_at_copies" zcD f fd) : FnOk P w K mg base (CX1 P w) 4 f fd ["copies"] (spX K 1 zbA) :=
 okX (k := 3) (g := zb7) F (fq zao 1) rfl fun cdv A outer s H E B G0 hr =>
 have hu := hr.units
 have hgd := hr.gd
 (zal (zbz (PW.pt (zbV (zbd (za8 (zaL (c := "list") (by decide) (gq zao 4) T.b_isinstance (gq zao 5) T.b_list (by decide +kernel) (zag (pq zao 0)) (by decide) (by decide)))) (zbU (zbd (zfv B_le B_le zak (zaW (gq zao 6) T.b_len (pq zao 0)) (zjm (gq zao 7) T.c_MOST_THINGS))))))
 (zax (zdv m_NoWishes hr rfl zcI (gq zao 3) (zac zca (zac zby zai))))
 za5)
 (zax (zcV zft rfl (zec (gq zao 0) T.b_enumerate (zac (zag (pq zao 0)) zai)) (zdS rfl (zaT (zaD (zaC (i := 1) (nq zao) rfl (lq zao 1))) (zaT (zaD (zaC (i := 2) (nq zao) rfl (lq zao 2))) zcT)))
 (zax (zbz (zbd (za8 (pdf d_ab hr (gq zao 2) (zac (zag (pq zao 2)) (zac (zaw zaU (zjm (gq zao 1) T.c_MOST_COPIES) zak) zai)))))
 (zax (zdv m_NoWishes hr rfl zcI (gq zao 3) (zac zca (zac (zag (pq zao 1)) zai))))
 za5)))))
theorem zdy (dX_look_at_lists : DefX P w K mg base "look_at_lists" 5 2 zbJ) (dX_look_at_copies : DefX P w K mg base "look_at_copies" 4 1 zbA) (m_NoWishes : MkX P w K mg base "NoWishes" 2) (F : Fun K "look_at_wishes" "look_at_wishes" zcF f fd) : FnOk P w K mg base (CX1 P w) 6 f fd ["thing"] (spX K 1 zbB) :=
 okX (k := 5) (g := zb8) F (fq zap 1) rfl fun cdv A outer s H E B G0 hr =>
 have hu := hr.units
 have hgd := hr.gd
 (zal (zbz (PW.pt (zbV (zbd (za8 (zaL (c := "tuple") (by decide) (gq zap 3) T.b_isinstance (gq zap 4) T.b_tuple (by decide +kernel) (zag (pq zap 0)) (by decide) (by decide)))) (zbU (zbL (B_ne hu) (zaW (gq zap 0) T.b_len (pq zap 0)) zak (zbb _)))))
 (zax (zdv m_NoWishes hr rfl zcI (gq zap 5) (zac zca (zac zby zai))))
 za5)
 (zal (zeF (zag (pq zap 0)) (zdS rfl (zaT (zaD (zaC (i := 1) (nq zap) rfl (lq zap 1))) (zaT (zaD (zaC (i := 2) (nq zap) rfl (lq zap 2))) zcT))))
 (zal (zgG (ze7 dX_look_at_copies hr zcI (gq zap 2) (zac (zag (pq zap 1)) zai)))
 (zax (zgG (ze7 dX_look_at_lists hr zcI (gq zap 1) (zac (zag (pq zap 2)) (zac (zaW (gq zap 0) T.b_len (pq zap 1)) zai))))))))
theorem Kas (d_ak : Def P w K mg base "_law_refusal" 1 1 F_ak) (dX_look_at_wishes : DefX P w K mg base "look_at_wishes" 6 1 zbB) (F : Fun K "_law_told" "_law_told" Sas f fd) : FnOk P w K mg base CX0 7 f fd ["_law_thing"] (spD K 1 F_as) :=
 okD (k := 6) (g := g_as) F (fq Has 1) rfl fun cdv A outer s H E B G0 hr =>
 have hu := hr.units
 have hgd := hr.gd
 (zal (za0 (i := 1) (nq Has) rfl (lq Has 1) zby)
 (zal (za0 (i := 2) (nq Has) rfl (lq Has 2) zak)
 (zal (zmu (i := 3) T.x_DealError (gq Has 4) (nq Has) rfl rfl (fun KX' W pn hw => (zax (zkU (i := 2) (nq Has) rfl (lq Has 2) (ze7 dX_look_at_wishes hr hw (gq Has 3) (zac (zag (pq Has 0)) zai))))) (fun a => (zax (za0 (i := 1) (nq Has) rfl (lq Has 1) (zag (pq Has 3))))))
 (zal (zbz (zkB (zag (pq Has 1)))
 (zax (zaP (zag (pq Has 2))))
 za5)
 (zal (zbz (PW.pt (zbV (zbL (B_ne hu) (pdf d_ak hr (gq Has 0) (zac (zag (pq Has 1)) zai)) (zay (zac zak zai)) (zbb _)) (zbU (za8 (zaL (c := "bool") (by decide) (gq Has 1) T.b_isinstance (gq Has 2) T.b_bool (by decide +kernel) (ze8 (zag (pq Has 1))) (by decide) (by decide))))))
 (zax (zaP zca))
 za5)
 (zax (zaP (zb2 (zac (ze8 (zag (pq Has 1))) (zac (ze8 (zag (pq Has 1))) zai))))))))))
theorem Kai (F : Fun K "_law_numbers" "_law_numbers" Sai f fd) : FnOk P w K mg base CX0 1 f fd ["_law_cell", "_law_salt", "_law_sizes"] (spD K 3 F_ai) :=
 okD (k := 0) (g := g_ai) F (fq Hai 3) rfl fun cdv A outer s H E B G0 hr =>
 have hu := hr.units
 have hgd := hr.gd
 (zal (za0 (i := 3) (nq Hai) rfl (lq Hai 3) (zcy (zmi rfl) (gq Hai 2) T.b_max boot_max (zac (zag (pq Hai 0)) (zac (zaw zjc (zed zak) (zag (pq Hai 0))) zai))))
 (zal (za0 (i := 4) (nq Hai) rfl (lq Hai 4) (zag (pq Hai 3)))
 (zal (zb4 (i := 5) (nq Hai) rfl (lq Hai 5) (zb5 zai))
 (zal (zcV PassesOwn.never rfl (zcA (gq Hai 1) T.b_range (zac (zaW (gq Hai 0) T.b_len (pq Hai 2)) zai)) (zaD (zaC (i := 6) (nq Hai) rfl (lq Hai 6)))
 (zax (zbz (PW.pt (zf5 (zbD B_ge (pq Hai 3) (zaw zkx zak zak) (zbb _)) (zeX (zbD B_gt (pq Hai 4) zak (zbb _)))))
 (zal (zfx (pq Hai 5) (zaw zde (zag (pq Hai 4)) (zbe (pq Hai 2) (zag (pq Hai 6)) (fun _ _ => rfl))))
 (zax (za0 (i := 4) (nq Hai) rfl (lq Hai 4) (zaw zkw (zag (pq Hai 4)) (zbe (pq Hai 2) (zag (pq Hai 6)) (fun _ _ => rfl))))))
 (zal (za0 (i := 7) (nq Hai) rfl (lq Hai 7) (zaw zde (zaw zaU (zaw zaU (zaw zaU (zag (pq Hai 3)) (zaw zcr zak (zag (pq Hai 1)))) (zaw zcr (zaw zcr zak (zag (pq Hai 6))) (zag (pq Hai 6)))) (zag (pq Hai 6))) zak))
 (zal (za0 (i := 7) (nq Hai) rfl (lq Hai 7) (zaw zde (zaw zcr (zag (pq Hai 7)) zak) zak))
 (zal (za0 (i := 7) (nq Hai) rfl (lq Hai 7) (zaw zde (zaw zcr (zaw zde (zaw zcr (zag (pq Hai 7)) (zag (pq Hai 7))) zak) zak) zak))
 (zax (zfx (pq Hai 5) (zaw zde (zaw zkw (zag (pq Hai 7)) zak) (zbe (pq Hai 2) (zag (pq Hai 6)) (fun _ _ => rfl)))))))))))
 (zax (zaP (zag (pq Hai 5))))))))
theorem Kah (F : Fun K "_law_cell_at" "_law_cell_at" Sah f fd) : FnOk P w K mg base CX0 1 f fd ["_law_script", "_law_k"] (spD K 2 F_ah) :=
 okD (k := 0) (g := g_ah) F (fq Hah 2) rfl fun cdv A outer s H E B G0 hr =>
 have hu := hr.units
 have hgd := hr.gd
 (zal (zbz (zbD B_lt (pq Hah 1) (zaW (gq Hah 0) T.b_len (pq Hah 0)) (zbb _))
 (zax (zaP (zbe (pq Hah 0) (zag (pq Hah 1)) (fun _ _ => rfl))))
 za5)
 (zax (zaP zak)))
theorem Kaj (d_ai : Def P w K mg base "_law_numbers" 1 3 F_ai) (d_ah : Def P w K mg base "_law_cell_at" 1 2 F_ah) (F : Fun K "_law_wishes" "_law_wishes" Saj f fd) : FnOk P w K mg base CX0 2 f fd ["_law_script", "_law_at", "_law_most_things", "_law_most_askers", "_law_most_ranks"] (spD K 5 F_aj) :=
 okD (k := 1) (g := g_aj) F (fq Haj 5) rfl fun cdv A outer s H E B G0 hr =>
 have hu := hr.units
 have hgd := hr.gd
 (zal (za0 (i := 5) (nq Haj) rfl (lq Haj 5) (zaw zaU (zay (zac (zag (pq Haj 2)) (zac (zag (pq Haj 3)) zai))) (zaw zcr (zay (zac zak zai)) (zag (pq Haj 2)))))
 (zal (za0 (i := 6) (nq Haj) rfl (lq Haj 6) (pdf d_ai hr (gq Haj 2) (zac (pdf d_ah hr (gq Haj 3) (zac (zag (pq Haj 0)) (zac (zag (pq Haj 1)) zai))) (zac (zag (pq Haj 1)) (zac (zag (pq Haj 5)) zai)))))
 (zal (sD_1 (j := 7) (zan Saj) N_aj ["_law_script", "_law_at", "_law_most_things", "_law_most_askers", "_law_most_ranks", "_law_sizes", "_law_digits", "_law_copies", "_law_lists", "_law_asker", "_law_cell", "_law_places", "_law_ranks", "_law_rank", "_law_row", "_law_digit"] 1 zdr (nq Haj) rfl rfl rfl (zei (zaM (zag (pq Haj 6)) (zaQ zak) (zaQ (zaw zaU zak (zbe (pq Haj 6) zak (fun _ _ => rfl)))))) (fun cl C s0 H0 ex => ⟨fun B' G' => (zaD (zaC (i := 15) (show (["_law_script", "_law_at", "_law_most_things", "_law_most_askers", "_law_most_ranks", "_law_sizes", "_law_digits", "_law_copies", "_law_lists", "_law_asker", "_law_cell", "_law_places", "_law_ranks", "_law_rank", "_law_row", "_law_digit"] : List Str).Nodup by decide +kernel) rfl (zcW rfl) (.inr (zdU rfl)))), fun B' G' => zdI, (zcn rfl rfl rfl fun B' G' => (zgz (zay (zac zak (zac zak (zac zak (zac zak (zac zak (zac zak (zac zak (zac zak (zac zak (zac zak (zac zak zai)))))))))))) (zag (pvb 15)) (fun _ _ => rfl)))⟩) rfl rfl (by decide +kernel))
 (zal (zb4 (i := 8) (nq Haj) rfl (lq Haj 8) (zb5 zai))
 (zal (zcV PassesOwn.never rfl (zcA (gq Haj 0) T.b_range (zac (zaw zaU zak (zbe (pq Haj 6) zak (fun _ _ => rfl))) zai)) (zaD (zaC (i := 9) (nq Haj) rfl (lq Haj 9)))
 (zal (za0 (i := 10) (nq Haj) rfl (lq Haj 10) (pdf d_ah hr (gq Haj 3) (zac (zag (pq Haj 0)) (zac (zaw zaU (zaw zaU (zag (pq Haj 1)) zak) (zag (pq Haj 9))) zai))))
 (zal (za0 (i := 11) (nq Haj) rfl (lq Haj 11) (pdf d_ai hr (gq Haj 2) (zac (zag (pq Haj 10)) (zac (zaw zaU (zaw zaU (zaw zcr zak (zag (pq Haj 1))) (zaw zcr zak (zag (pq Haj 9)))) zak) (zac (zaw zaU (zaw zcr (zay (zac (zaw zaU (zag (pq Haj 4)) zak) zai)) (zag (pq Haj 2))) (zay (zac zak zai))) zai)))))
 (zal (zb4 (i := 12) (nq Haj) rfl (lq Haj 12) (zb5 zai))
 (zal (zcV PassesOwn.never rfl (zhP (gq Haj 0) T.b_range (zac zak (zac (zaw zaU (zag (pq Haj 4)) zak) zai))) (zaD (zaC (i := 13) (nq Haj) rfl (lq Haj 13)))
 (zal (sD_1 (j := 14) (zan Saj) N_aj ["_law_script", "_law_at", "_law_most_things", "_law_most_askers", "_law_most_ranks", "_law_sizes", "_law_digits", "_law_copies", "_law_lists", "_law_asker", "_law_cell", "_law_places", "_law_ranks", "_law_rank", "_law_row", "_law_thing"] 1 zdr (nq Haj) rfl rfl rfl (zcA (gq Haj 0) T.b_range (zac (zaW (gq Haj 1) T.b_len (pq Haj 7)) zai)) (fun cl C s0 H0 ex => ⟨fun B' G' => (zaD (zaC (i := 15) (show (["_law_script", "_law_at", "_law_most_things", "_law_most_askers", "_law_most_ranks", "_law_sizes", "_law_digits", "_law_copies", "_law_lists", "_law_asker", "_law_cell", "_law_places", "_law_ranks", "_law_rank", "_law_row", "_law_thing"] : List Str).Nodup by decide +kernel) rfl (zcW rfl) (.inr (zdU rfl)))), fun B' G' => (zhU (zbL (B_eq hu) (zbe (pvb 11) (zag (pvb 15)) (fun _ _ => rfl)) (zag (pvb 13)) (zbb _))), (zcn rfl rfl rfl fun B' G' => (zag (pvb 15)))⟩) rfl rfl (by decide +kernel))
 (zax (zbz (zbD (B_ne hu) (pq Haj 14) (zay zai) (zbb _))
 (zax (zfx (pq Haj 12) (zgz (zay (zac (zag (pq Haj 14)) (zac (zkK (zag (pq Haj 14)) zbh zbh (zaQ (zed zak))) zai))) (zbe (pq Haj 11) (zed zak) (fun _ _ => rfl)) (fun _ _ => rfl))))
 za5))))
 (zax (zfx (pq Haj 8) (zag (pq Haj 12)))))))))
 (zax (zaP (zb2 (zac (zag (pq Haj 7)) (zac (zag (pq Haj 8)) zai))))))))))
theorem Kap (F : Fun K "_law_bent_rank" "_law_bent_rank" Sap f fd) : FnOk P w K mg base CX0 1 f fd ["_law_rank", "_law_digits", "_law_many"] (spD K 3 F_ap) :=
 okD (k := 0) (g := g_ap) F (fq Hap 3) rfl fun cdv A outer s H E B G0 hr =>
 have hu := hr.units
 have hgd := hr.gd
 (zal (zeF (zag (pq Hap 1)) (zh8 rfl (zaT (zaD (zaC (i := 3) (nq Hap) rfl (lq Hap 3))) (zaT (zaD (zaC (i := 4) (nq Hap) rfl (lq Hap 4))) (zaT (zaD (zaC (i := 5) (nq Hap) rfl (lq Hap 5))) zcT)))))
 (zal (zbz (zbd (za8 (zaL (c := "list") (by decide) (gq Hap 3) T.b_isinstance (gq Hap 4) T.b_list (by decide +kernel) (zag (pq Hap 0)) (by decide) (by decide))))
 (zax (zb4 (i := 0) (nq Hap) rfl (lq Hap 0) (zb5 (zac zak zai))))
 za5)
 (zal (za0 (i := 3) (nq Hap) rfl (lq Hap 3) (zaw zde (zag (pq Hap 3)) (zaw zaU (zaW (gq Hap 2) T.b_len (pq Hap 0)) zak)))
 (zal (zb4 (i := 6) (nq Hap) rfl (lq Hap 6) (zb5 (zac zby (zac zbT (zac zbT (zac (zed zak) (zac (zag (pq Hap 2)) (zac (zaw zaU (zag (pq Hap 2)) (zag (pq Hap 5))) (zac (zaw zjc zak (zag (pq Hap 5))) (zac zca (zac (zay (zac zak zai)) (zac (zb2 (zac zak zai)) (zac zak (zac (zaw zjc (zag (pq Hap 2)) zak) zai))))))))))))))
 (zal (za0 (i := 7) (nq Hap) rfl (lq Hap 7) (zaw zaU (zaw zaU (zaM (zag (pq Hap 0)) zbh (zaQ (zag (pq Hap 3)))) (zay (zac (zbe (pq Hap 6) (zag (pq Hap 4)) (fun _ _ => rfl)) zai))) (zaM (zag (pq Hap 0)) (zaQ (zaw zaU (zag (pq Hap 3)) (zaw zde (zag (pq Hap 5)) zak))) zbh)))
 (zax (zaP (zgz (zay (zac (zag (pq Hap 7)) (zac (zag (pq Hap 7)) (zac (zag (pq Hap 7)) (zac (zcz zjx (gq Hap 1) T.b_tuple zcM (zac (zag (pq Hap 0)) zai)) (zac (zay zai) (zac (zaw zaU (zag (pq Hap 0)) (zaM (zag (pq Hap 0)) zbh (zaQ zak))) (zac (zcz zmj (gq Hap 0) T.b_str PyProof.Rows.boot_str (zac (zag (pq Hap 5)) zai)) (zac zby zai))))))))) (zaw zde (zaw zkw (zag (pq Hap 5)) zak) zak) (fun _ _ => rfl)))))))))
theorem Kaq (d_ap : Def P w K mg base "_law_bent_rank" 1 3 F_ap) (F : Fun K "_law_bent_lists" "_law_bent_lists" Saq f fd) : FnOk P w K mg base CX0 2 f fd ["_law_lists", "_law_digits", "_law_many"] (spD K 3 F_aq) :=
 okD (k := 1) (g := g_aq) F (fq Haq 3) rfl fun cdv A outer s H E B G0 hr =>
 have hu := hr.units
 have hgd := hr.gd
 (zal (zeF (zag (pq Haq 1)) (zh8 rfl (zaT (zaD (zaC (i := 3) (nq Haq) rfl (lq Haq 3))) (zaT (zaD (zaC (i := 4) (nq Haq) rfl (lq Haq 4))) (zaT (zaD (zaC (i := 5) (nq Haq) rfl (lq Haq 5))) (zaT (zaD (zaC (i := 6) (nq Haq) rfl (lq Haq 6))) (zaT (zaD (zaC (i := 7) (nq Haq) rfl (lq Haq 7))) (zaT (zaD (zaC (i := 8) (nq Haq) rfl (lq Haq 8))) zcT))))))))
 (zal (za0 (i := 4) (nq Haq) rfl (lq Haq 4) (zaw zde (zag (pq Haq 4)) (zaW (gq Haq 3) T.b_len (pq Haq 0))))
 (zal (za0 (i := 9) (nq Haq) rfl (lq Haq 9) (zbe (pq Haq 0) (zag (pq Haq 4)) (fun _ _ => rfl)))
 (zal (zbz (zbd (za8 (zaL (c := "list") (by decide) (gq Haq 4) T.b_isinstance (gq Haq 5) T.b_list (by decide +kernel) (zag (pq Haq 9)) (by decide) (by decide))))
 (zax (zb4 (i := 9) (nq Haq) rfl (lq Haq 9) (zb5 zai)))
 za5)
 (zal (za0 (i := 5) (nq Haq) rfl (lq Haq 5) (zaw zde (zag (pq Haq 5)) (zaw zaU (zaW (gq Haq 3) T.b_len (pq Haq 9)) zak)))
 (zal (zbz (zbD (B_eq hu) (pq Haq 3) zak (zbb _))
 (zal (za0 (i := 10) (nq Haq) rfl (lq Haq 10) (zgz (zaw zaU (zag (pq Haq 9)) (zay (zac (zay zai) zai))) (zag (pq Haq 5)) (fun _ _ => rfl)))
 (zal (za0 (i := 11) (nq Haq) rfl (lq Haq 11) (zaw zaU (zaw zaU (zaM (zag (pq Haq 9)) zbh (zaQ (zag (pq Haq 5)))) (zay (zac (pdf d_ap hr (gq Haq 2) (zac (zag (pq Haq 10)) (zac (zay (zac (zag (pq Haq 8)) (zac (zag (pq Haq 6)) (zac (zag (pq Haq 7)) zai)))) (zac (zag (pq Haq 2)) zai)))) zai))) (zaM (zag (pq Haq 9)) (zaQ (zaw zaU (zag (pq Haq 5)) zak)) zbh)))
 (zax (zaP (zaw zaU (zaw zaU (zaM (zag (pq Haq 0)) zbh (zaQ (zag (pq Haq 4)))) (zay (zac (zag (pq Haq 11)) zai))) (zaM (zag (pq Haq 0)) (zaQ (zaw zaU (zag (pq Haq 4)) zak)) zbh))))))
 za5)
 (zal (zbz (zbD (B_eq hu) (pq Haq 3) zak (zbb _))
 (zal (zb4 (i := 11) (nq Haq) rfl (lq Haq 11) (zb5 (zac (zcz zjx (gq Haq 0) T.b_tuple zcM (zac (zag (pq Haq 9)) zai)) (zac zby (zac zeZ (zac zca (zac (zaw zaU (zag (pq Haq 9)) (zag (pq Haq 9))) zai)))))))
 (zal (za0 (i := 11) (nq Haq) rfl (lq Haq 11) (zaw zaU (zag (pq Haq 11)) (zay (zac (zaw zaU (zag (pq Haq 9)) (zay (zac (zay (zac zak zai)) zai))) (zac (zay (zac (zay (zac (zay (zac zak zai)) zai)) zai)) (zac (zaw zcr (zay (zac (zay (zac zak zai)) zai)) zak) (zac zak (zac (zeY (zji (zan Saq) N_aq ["_law_lists", "_law_digits", "_law_many", "_law_way", "_law_asker", "_law_at", "_law_odd", "_law_far", "_law_spot", "_law_ranks", "_law_rank", "_law_bent_here", "_law_k"] 1 zdr rfl (zcA (gq Haq 1) T.b_range (zac (zag (pq Haq 2)) zai)) (fun cl C s0 H0 ex => ⟨fun B' G' => (zaD (zaC (i := 12) (show (["_law_lists", "_law_digits", "_law_many", "_law_way", "_law_asker", "_law_at", "_law_odd", "_law_far", "_law_spot", "_law_ranks", "_law_rank", "_law_bent_here", "_law_k"] : List Str).Nodup by decide +kernel) rfl (zcW rfl) (.inr (zdU rfl)))), fun B' G' => zdI, (zcn rfl rfl rfl fun B' G' => (zay (zac (zag (pvb 12)) zai)))⟩) rfl rfl (by decide +kernel))) zai))))))))
 (zax (zaP (zaw zaU (zaw zaU (zaM (zag (pq Haq 0)) zbh (zaQ (zag (pq Haq 4)))) (zay (zac (zbe (pq Haq 11) (zaw zde (zag (pq Haq 6)) zak) (fun _ _ => rfl)) zai))) (zaM (zag (pq Haq 0)) (zaQ (zaw zaU (zag (pq Haq 4)) zak)) zbh))))))
 za5)
 (zal (zbz (zbD (B_eq hu) (pq Haq 3) zak (zbb _))
 (zal (zb4 (i := 11) (nq Haq) rfl (lq Haq 11) (zb5 (zac (zcz zjx (gq Haq 0) T.b_tuple zcM (zac (zag (pq Haq 0)) zai)) (zac zby (zac zca (zac zeZ (zac (zay zai) (zac (zaw zcr (zag (pq Haq 0)) zak) zai))))))))
 (zal (za0 (i := 11) (nq Haq) rfl (lq Haq 11) (zaw zaU (zag (pq Haq 11)) (zay (zac (zaM (zaw zcr (zag (pq Haq 0)) zak) zbh (zaQ zak)) (zac (zbe (pq Haq 0) zak (fun _ _ => rfl)) (zac (zaw zaU (zag (pq Haq 0)) (zay (zac (zay (zac (zay (zac (zag (pq Haq 2)) zai)) zai)) zai))) zai))))))
 (zax (zaP (zbe (pq Haq 11) (zaw zde (zag (pq Haq 6)) zak) (fun _ _ => rfl))))))
 za5)
 (zax (zaP (zag (pq Haq 0))))))))))))
theorem Kao (F : Fun K "_law_bent_copies" "_law_bent_copies" Sao f fd) : FnOk P w K mg base CX0 1 f fd ["_law_copies", "_law_digits"] (spD K 2 F_ao) :=
 okD (k := 0) (g := g_ao) F (fq Hao 2) rfl fun cdv A outer s H E B G0 hr =>
 have hu := hr.units
 have hgd := hr.gd
 (zal (zeF (zag (pq Hao 1)) (zh8 rfl (zaT (zaD (zaC (i := 2) (nq Hao) rfl (lq Hao 2))) (zaT (zaD (zaC (i := 3) (nq Hao) rfl (lq Hao 3))) (zaT (zaD (zaC (i := 4) (nq Hao) rfl (lq Hao 4))) (zaT (zaD (zaC (i := 5) (nq Hao) rfl (lq Hao 5))) zcT))))))
 (zal (za0 (i := 3) (nq Hao) rfl (lq Hao 3) (zaw zde (zag (pq Hao 3)) (zaW (gq Hao 1) T.b_len (pq Hao 0))))
 (zal (zb4 (i := 6) (nq Hao) rfl (lq Hao 6) (zb5 (zac zby (zac zbT (zac zbT (zac (zed zak) (zac zak (zac (zaw zjc zak (zag (pq Hao 5))) (zac (zaw zaU zak (zag (pq Hao 5))) (zac zca (zac (zay (zac zak zai)) (zac (zb2 (zac zak zai)) (zac zak (zac zak zai))))))))))))))
 (zal (zbz (zbD (B_eq hu) (pq Hao 2) zak (zbb _))
 (zax (zaP (zaw zaU (zaw zaU (zaM (zag (pq Hao 0)) zbh (zaQ (zag (pq Hao 3)))) (zay (zac (zbe (pq Hao 6) (zag (pq Hao 4)) (fun _ _ => rfl)) zai))) (zaM (zag (pq Hao 0)) (zaQ (zaw zaU (zag (pq Hao 3)) zak)) zbh))))
 za5)
 (zal (zbz (zbD (B_eq hu) (pq Hao 2) zak (zbb _))
 (zax (zaP (zaw zaU (zaw zaU (zaM (zag (pq Hao 0)) zbh (zaQ (zag (pq Hao 3)))) (zay (zac (zbe (pq Hao 6) (zag (pq Hao 4)) (fun _ _ => rfl)) zai))) (zaM (zag (pq Hao 0)) (zaQ (zag (pq Hao 3))) zbh))))
 za5)
 (zal (zbz (zbD (B_eq hu) (pq Hao 2) zak (zbb _))
 (zal (zb4 (i := 7) (nq Hao) rfl (lq Hao 7) (zb5 (zac (zcz zjx (gq Hao 0) T.b_tuple zcM (zac (zag (pq Hao 0)) zai)) (zac zby (zac zca (zac zeZ (zac (zay zai) (zac (zbe (pq Hao 0) zak (fun _ _ => rfl)) zai))))))))
 (zal (za0 (i := 7) (nq Hao) rfl (lq Hao 7) (zaw zaU (zag (pq Hao 7)) (zay (zac (zaw zcr (zag (pq Hao 0)) zak) (zac (zaM (zaw zcr (zag (pq Hao 0)) zak) zbh (zaQ zak)) (zac (zaw zaU (zaw zcr (zay (zac zak zai)) zak) (zag (pq Hao 0))) zai))))))
 (zax (zaP (zbe (pq Hao 7) (zaw zde (zag (pq Hao 4)) zak) (fun _ _ => rfl))))))
 za5)
 (zax (zaP (zag (pq Hao 0))))))))))
theorem Kar (d_aq : Def P w K mg base "_law_bent_lists" 2 3 F_aq) (d_ao : Def P w K mg base "_law_bent_copies" 1 2 F_ao) (d_ai : Def P w K mg base "_law_numbers" 1 3 F_ai) (F : Fun K "_law_bent" "_law_bent" Sar f fd) : FnOk P w K mg base CX0 3 f fd ["_law_wishes_here", "_law_cell", "_law_salt"] (spD K 3 F_ar) :=
 okD (k := 2) (g := g_ar) F (fq Har 3) rfl fun cdv A outer s H E B G0 hr =>
 have hu := hr.units
 have hgd := hr.gd
 (zal (za0 (i := 3) (nq Har) rfl (lq Har 3) (zaw zaU (zaw zcr (zay (zac zak (zac zak (zac zak (zac (zaw zkx zak zak) zai))))) zak) (zaw zcr (zay (zac zak (zac zak (zac zak (zac zak (zac (zaw zkx zak zak) (zac zak zai))))))) zak)))
 (zal (za0 (i := 4) (nq Har) rfl (lq Har 4) (pdf d_ai hr (gq Har 6) (zac (zag (pq Har 1)) (zac (zag (pq Har 2)) (zac (zaw zaU (zag (pq Har 3)) (zay (zac zak (zac zak zai)))) zai)))))
 (zal (zeF (zag (pq Har 0)) (zdS rfl (zaT (zaD (zaC (i := 5) (nq Har) rfl (lq Har 5))) (zaT (zaD (zaC (i := 6) (nq Har) rfl (lq Har 6))) zcT))))
 (zal (zcV PassesOwn.never rfl (zcA (gq Har 0) T.b_range (zac zak zai)) (zaD (zaC (i := 7) (nq Har) rfl (lq Har 7)))
 (zal (zbz (PW.pt (zf5 (za8 (zaL (c := "list") (by decide) (gq Har 1) T.b_isinstance (gq Har 2) T.b_list (by decide +kernel) (zag (pq Har 5)) (by decide) (by decide))) (zeX (zbD (zmB hu) (pq Har 5) (zay zai) (zbb _)))))
 (zax (za0 (i := 5) (nq Har) rfl (lq Har 5) (pdf d_ao hr (gq Har 5) (zac (zag (pq Har 5)) (zac (zaM (zag (pq Har 4)) (zaQ (zaw zcr zak (zag (pq Har 7)))) (zaQ (zaw zaU (zaw zcr zak (zag (pq Har 7))) zak))) zai)))))
 za5)
 (zax (zbz (PW.pt (zf5 (za8 (zaL (c := "list") (by decide) (gq Har 1) T.b_isinstance (gq Har 2) T.b_list (by decide +kernel) (zag (pq Har 6)) (by decide) (by decide))) (zeX (zbD (zmB hu) (pq Har 6) (zay zai) (zbb _)))))
 (zax (za0 (i := 6) (nq Har) rfl (lq Har 6) (pdf d_aq hr (gq Har 4) (zac (zag (pq Har 6)) (zac (zaM (zag (pq Har 4)) (zaQ (zaw zaU zak (zaw zcr zak (zag (pq Har 7))))) (zaQ (zaw zaU zak (zaw zcr zak (zag (pq Har 7)))))) (zac (zcy zmh (gq Har 3) T.b_len boot_len (zac (zbe (pq Har 0) zak (fun _ _ => rfl)) zai)) zai))))))
 za5))))
 (zal (zb4 (i := 8) (nq Har) rfl (lq Har 8) (zb5 (zac (zay (zac (zag (pq Har 5)) (zac (zag (pq Har 6)) zai))) (zac (zb2 (zac (zag (pq Har 5)) zai)) (zac (zb2 (zac (zag (pq Har 5)) (zac (zag (pq Har 6)) (zac zby zai)))) (zac zby (zac zeZ (zac zca (zac (zb2 zai) (zac (zag (pq Har 5)) (zac zbT zai)))))))))))
 (zal (zbz (zbL (B_eq hu) (zbe (pq Har 4) zak (fun _ _ => rfl)) zak (zbb _))
 (zax (zaP (zbe (pq Har 8) (zbe (pq Har 4) zak (fun _ _ => rfl)) (fun _ _ => rfl))))
 za5)
 (zax (zaP (zb2 (zac (zag (pq Har 5)) (zac (zag (pq Har 6)) zai)))))))))))
theorem Kal (F : Fun K "_law_is_whole" "_law_is_whole" Sal f fd) : FnOk P w K mg base CX0 1 f fd ["_law_thing"] (spD K 1 F_al) :=
 okD (k := 0) (g := g_al) F (fq Hal 1) rfl fun cdv A outer s H E B G0 hr =>
 have hu := hr.units
 have hgd := hr.gd
 (zax (zaP (zf6 (zaL (c := "int") (by decide) (gq Hal 0) T.b_isinstance (gq Hal 1) T.b_int (by decide +kernel) (zag (pq Hal 0)) (by decide) (by decide)) (zf7 (zhO (zaL (c := "bool") (by decide) (gq Hal 0) T.b_isinstance (gq Hal 2) T.b_bool (by decide +kernel) (zag (pq Hal 0)) (by decide) (by decide)))))))
theorem Kam (d_al : Def P w K mg base "_law_is_whole" 1 1 F_al) (F : Fun K "_law_are_ranks" "_law_are_ranks" Sam f fd) : FnOk P w K mg base CX0 2 f fd ["_law_thing", "_law_many"] (spD K 2 F_am) :=
 okD (k := 1) (g := g_am) F (fq Ham 2) rfl fun cdv A outer s H E B G0 hr =>
 have hu := hr.units
 have hgd := hr.gd
 (zal (zbz (PW.pt (zbV (zbd (za8 (zaL (c := "list") (by decide) (gq Ham 1) T.b_isinstance (gq Ham 2) T.b_list (by decide +kernel) (zag (pq Ham 0)) (by decide) (by decide)))) (zbU (zbL B_gt (zaW (gq Ham 3) T.b_len (pq Ham 0)) zak (zbb _)))))
 (zax (zaP zbT))
 za5)
 (zal (zb4 (i := 2) (nq Ham) rfl (lq Ham 2) (zb5 zai))
 (zal (zcV PassesOwn.never rfl (zei (zag (pq Ham 0))) (zaD (zaC (i := 3) (nq Ham) rfl (lq Ham 3)))
 (zal (zbz (PW.pt (zbV (zbd (za8 (zaL (c := "list") (by decide) (gq Ham 1) T.b_isinstance (gq Ham 2) T.b_list (by decide +kernel) (zag (pq Ham 3)) (by decide) (by decide)))) (zbU (zbL (B_eq hu) (zaW (gq Ham 3) T.b_len (pq Ham 3)) zak (zbb _)))))
 (zax (zaP zbT))
 za5)
 (zax (zcV PassesOwn.never rfl (zei (zag (pq Ham 3))) (zaD (zaC (i := 4) (nq Ham) rfl (lq Ham 4)))
 (zal (zbz (PW.pt (zbV (zbd (za8 (pdf d_al hr (gq Ham 0) (zac (zag (pq Ham 4)) zai)))) (zbV (zbD B_lt (pq Ham 4) zak (zbb _)) (zbV (zbD B_ge (pq Ham 4) (zag (pq Ham 1)) (zbb _)) (zbU (zkS (B_in hu) (zag (pq Ham 4)) (pq Ham 2) rfl))))))
 (zax (zaP zbT))
 za5)
 (zax (zfx (pq Ham 2) (zag (pq Ham 4)))))))))
 (zax (zaP zbT)))))
theorem Kan (d_am : Def P w K mg base "_law_are_ranks" 2 2 F_am) (d_al : Def P w K mg base "_law_is_whole" 1 1 F_al) (F : Fun K "_law_due" "_law_due" San f fd) : FnOk P w K mg base CX0 3 f fd ["_law_thing"] (spD K 1 F_an) :=
 okD (k := 2) (g := g_an) F (fq Han 1) rfl fun cdv A outer s H E B G0 hr =>
 have hu := hr.units
 have hgd := hr.gd
 (zal (zbz (PW.pt (zbV (zbd (za8 (zaL (c := "tuple") (by decide) (gq Han 3) T.b_isinstance (gq Han 6) T.b_tuple (by decide +kernel) (zag (pq Han 0)) (by decide) (by decide)))) (zbU (zbL (B_ne hu) (zaW (gq Han 1) T.b_len (pq Han 0)) zak (zbb _)))))
 (zax (zaP (zb2 (zac zca (zac zby zai)))))
 za5)
 (zal (zeF (zag (pq Han 0)) (zdS rfl (zaT (zaD (zaC (i := 1) (nq Han) rfl (lq Han 1))) (zaT (zaD (zaC (i := 2) (nq Han) rfl (lq Han 2))) zcT))))
 (zal (zbz (PW.pt (zbV (zbd (za8 (zaL (c := "list") (by decide) (gq Han 3) T.b_isinstance (gq Han 4) T.b_list (by decide +kernel) (zag (pq Han 1)) (by decide) (by decide)))) (zbV (zbL B_lt (zaW (gq Han 1) T.b_len (pq Han 1)) zak (zbb _)) (zbU (zbL B_gt (zaW (gq Han 1) T.b_len (pq Han 1)) zak (zbb _))))))
 (zax (zaP (zb2 (zac zca (zac zby zai)))))
 za5)
 (zal (zcV PassesOwn.never rfl (zec (gq Han 0) T.b_enumerate (zac (zag (pq Han 1)) zai)) (zdS rfl (zaT (zaD (zaC (i := 3) (nq Han) rfl (lq Han 3))) (zaT (zaD (zaC (i := 4) (nq Han) rfl (lq Han 4))) zcT)))
 (zax (zbz (PW.pt (zbV (zbd (za8 (pdf d_al hr (gq Han 5) (zac (zag (pq Han 4)) zai)))) (zbV (zbD B_lt (pq Han 4) zak (zbb _)) (zbU (zbD B_gt (pq Han 4) zak (zbb _))))))
 (zax (zaP (zb2 (zac zca (zac (zag (pq Han 3)) zai)))))
 za5)))
 (zal (zbz (PW.pt (zbV (zbd (za8 (zaL (c := "list") (by decide) (gq Han 3) T.b_isinstance (gq Han 4) T.b_list (by decide +kernel) (zag (pq Han 2)) (by decide) (by decide)))) (zbV (zbL B_lt (zaW (gq Han 1) T.b_len (pq Han 2)) zak (zbb _)) (zbU (zbL B_gt (zaW (gq Han 1) T.b_len (pq Han 2)) zak (zbb _))))))
 (zax (zaP (zb2 (zac zca (zac zby zai)))))
 za5)
 (zal (zcV PassesOwn.never rfl (zec (gq Han 0) T.b_enumerate (zac (zag (pq Han 2)) zai)) (zdS rfl (zaT (zaD (zaC (i := 3) (nq Han) rfl (lq Han 3))) (zaT (zaD (zaC (i := 5) (nq Han) rfl (lq Han 5))) zcT)))
 (zax (zbz (zbd (za8 (pdf d_am hr (gq Han 2) (zac (zag (pq Han 5)) (zac (zaW (gq Han 1) T.b_len (pq Han 1)) zai)))))
 (zax (zaP (zb2 (zac zca (zac (zag (pq Han 3)) zai)))))
 za5)))
 (zax (zaP zby))))))))
theorem Kat (d_as : Def P w K mg base "_law_told" 7 1 F_as) (d_aj : Def P w K mg base "_law_wishes" 2 5 F_aj) (d_ar : Def P w K mg base "_law_bent" 3 3 F_ar) (d_an : Def P w K mg base "_law_due" 3 1 F_an) (F : Fun K "law" "law" Sat f fd) : FnOk P w K mg base CX0 8 f fd ["_law_script"] (spD K 1 F_at) :=
 okD (k := 7) (g := g_at) F (fq Hat 1) rfl fun cdv A outer s H E B G0 hr =>
 have hu := hr.units
 have hgd := hr.gd
 (zal (za0 (i := 1) (nq Hat) rfl (lq Hat 1) (pdf d_aj hr (gq Hat 3) (zac (zag (pq Hat 0)) (zac zak (zac zak (zac zak (zac zak zai)))))))
 (zal (zcV PassesOwn.never rfl (zec (gq Hat 1) T.b_enumerate (zac (zaw zaU (zay (zac zak zai)) (zaM (zag (pq Hat 0)) (zaQ zak) (zaQ zak))) zai)) (zdS rfl (zaT (zaD (zaC (i := 2) (nq Hat) rfl (lq Hat 2))) (zaT (zaD (zaC (i := 3) (nq Hat) rfl (lq Hat 3))) zcT)))
 (zal (za0 (i := 4) (nq Hat) rfl (lq Hat 4) (pdf d_ar hr (gq Hat 4) (zac (zag (pq Hat 1)) (zac (zag (pq Hat 3)) (zac (zaw zaU zak (zag (pq Hat 2))) zai)))))
 (zal (zbz (zbL (B_ne hu) (pdf d_as hr (gq Hat 0) (zac (zag (pq Hat 4)) zai)) (pdf d_an hr (gq Hat 5) (zac (zag (pq Hat 4)) zai)) (zbb _))
 (zax (zaP zbT))
 za5)
 (zax (zbz (zbL znA (zcy (zir hu hgd T.sm) (gq Hat 2) T.b_repr zeJ (zac (zag (pq Hat 4)) zai)) (zcy (zir hu hgd T.sm) (gq Hat 2) T.b_repr zeJ (zac (pdf d_ar hr (gq Hat 4) (zac (pdf d_aj hr (gq Hat 3) (zac (zag (pq Hat 0)) (zac zak (zac zak (zac zak (zac zak zai)))))) (zac (zag (pq Hat 3)) (zac (zaw zaU zak (zag (pq Hat 2))) zai)))) zai)) (zbb _))
 (zax (zaP zbT))
 za5)))))
 (zax (zaP (zkC (pdf d_as hr (gq Hat 0) (zac (zag (pq Hat 1)) zai)))))))
end
theorem zbn : recsOf q0 = zeK p0 ixL := by
 show recsOf (PySem.W.view PySem.Challenge.pw_wishdeal_k07_no_wishes zd2) = zeK PySem.Challenge.pw_wishdeal_k07_no_wishes ixL
 rw [PySem.W.Fast.te3399658132070893891, PySem.W.Fast.te16835232740586382669]
 kernel_rfl
theorem zdh : (["ValueError", "all", "bool", "enumerate", "int", "isinstance", "len", "list", "max", "range", "repr", "set", "str", "tuple"] : List Str).all (zjs q0 (PySem.W.looseW q0 [])) = true := by
 show List.all _ (zjs (PySem.W.view PySem.Challenge.pw_wishdeal_k07_no_wishes zd2) (PySem.W.looseW (PySem.W.view PySem.Challenge.pw_wishdeal_k07_no_wishes zd2) [])) = true
 k_qdec
theorem zeB : valOf q0 "MOST_ASKERS" = some (.int 7) := by
 show valOf (PySem.W.view PySem.Challenge.pw_wishdeal_k07_no_wishes zd2) _ = _
 rw [PySem.W.Fast.te1987589406359920131, PySem.W.Fast.te16835232740586382669]
 kernel_rfl
theorem zeC : valOf q0 "MOST_COPIES" = some (.int 7) := by
 show valOf (PySem.W.view PySem.Challenge.pw_wishdeal_k07_no_wishes zd2) _ = _
 rw [PySem.W.Fast.te1987589406359920131, PySem.W.Fast.te16835232740586382669]
 kernel_rfl
theorem ze9 : valOf q0 "MOST_RANKS" = some (.int 5) := by
 show valOf (PySem.W.view PySem.Challenge.pw_wishdeal_k07_no_wishes zd2) _ = _
 rw [PySem.W.Fast.te1987589406359920131, PySem.W.Fast.te16835232740586382669]
 kernel_rfl
theorem zeD : valOf q0 "MOST_THINGS" = some (.int 6) := by
 show valOf (PySem.W.view PySem.Challenge.pw_wishdeal_k07_no_wishes zd2) _ = _
 rw [PySem.W.Fast.te1987589406359920131, PySem.W.Fast.te16835232740586382669]
 kernel_rfl
theorem zmD {l : PySem.W.OpenLaw} {w : World} {s0 : Shared} {mg mb : Str -> Option Value} {fa : Addr} {h : Heap} {XP : (Str -> Option Value) -> Heap -> Prop} (G : PySem.W.Ground q0 [] [] XP w s0 mg mb h) (Y : XYP p0 clsL h) (hfa : mg "law" = some (.ref fa)) :
  ∃ fd : FuncData, (∀ (s : Shared) (v : Value), BindsTo s fd ⟨[v], []⟩ [("_law_script", v)]) /\ ∀ base : Heap, FnOk l.prog w (whole h) mg base CX0 8 fa fd ["_law_script"] (spD (whole h) 1 F_at) := by
 obtain ⟨D0, f0, fd0, R⟩ := zk1 (i := 1) G.T.g Y (.head _) (zbN G.T zdh (.head _)) (zbC (by decide +kernel)) rfl (fun _ => ⟨_, rfl⟩) (fun _ _ _ _ _ _ us hl => bz2 (us := us) hl fun _ _ => rfl)
 have T : Txt (whole h) mg := ⟨zbN G.T zdh (.head _), zbN G.T zdh (.tail _ (.head _)), zbN G.T zdh (.tail _ (.tail _ (.head _))), zbN G.T zdh (.tail _ (.tail _ (.tail _ (.head _)))), zbN G.T zdh (.tail _ (.tail _ (.tail _ (.tail _ (.head _))))), zbN G.T zdh (.tail _ (.tail _ (.tail _ (.tail _ (.tail _ (.head _)))))), zbN G.T zdh (.tail _ (.tail _ (.tail _ (.tail _ (.tail _ (.tail _ (.head _))))))), zbN G.T zdh (.tail _ (.tail _ (.tail _ (.tail _ (.tail _ (.tail _ (.tail _ (.head _)))))))), zbN G.T zdh (.tail _ (.tail _ (.tail _ (.tail _ (.tail _ (.tail _ (.tail _ (.tail _ (.head _))))))))), zbN G.T zdh (.tail _ (.tail _ (.tail _ (.tail _ (.tail _ (.tail _ (.tail _ (.tail _ (.tail _ (.head _)))))))))), zbN G.T zdh (.tail _ (.tail _ (.tail _ (.tail _ (.tail _ (.tail _ (.tail _ (.tail _ (.tail _ (.tail _ (.head _))))))))))), zbN G.T zdh (.tail _ (.tail _ (.tail _ (.tail _ (.tail _ (.tail _ (.tail _ (.tail _ (.tail _ (.tail _ (.tail _ (.head _)))))))))))), zbN G.T zdh (.tail _ (.tail _ (.tail _ (.tail _ (.tail _ (.tail _ (.tail _ (.tail _ (.tail _ (.tail _ (.tail _ (.tail _ (.head _))))))))))))), zbN G.T zdh (.tail _ (.tail _ (.tail _ (.tail _ (.tail _ (.tail _ (.tail _ (.tail _ (.tail _ (.tail _ (.tail _ (.tail _ (.tail _ (.head _)))))))))))))), zdu G.T zeB, zdu G.T zeC, zdu G.T ze9, zdu G.T zeD, zdw (c := ("DealError", some 1)) G.T.g Y R (.head _), zdw (c := ("NoAim", some 3)) G.T.g Y R (.tail _ (.tail _ (.head _))), zdw (c := ("NoBook", none)) G.T.g Y R (.tail _ (.tail _ (.tail _ (.tail _ (.tail _ (.tail _ (.tail _ (.tail _ (.tail _ (.head _)))))))))), zdw (c := ("NoChange", none)) G.T.g Y R (.tail _ (.tail _ (.tail _ (.tail _ (.tail _ (.tail _ (.head _))))))), zdw (c := ("NoDeed", none)) G.T.g Y R (.tail _ (.tail _ (.tail _ (.tail _ (.tail _ (.tail _ (.tail _ (.tail _ (.tail _ (.tail _ (.head _))))))))))), zdw (c := ("NoJoin", none)) G.T.g Y R (.tail _ (.tail _ (.tail _ (.tail _ (.tail _ (.tail _ (.tail _ (.tail _ (.head _))))))))), zdw (c := ("NoName", none)) G.T.g Y R (.tail _ (.tail _ (.tail _ (.tail _ (.tail _ (.tail _ (.tail _ (.tail _ (.tail _ (.tail _ (.tail _ (.tail _ (.head _))))))))))))), zdw (c := ("NoNumbering", none)) G.T.g Y R (.tail _ (.tail _ (.tail _ (.tail _ (.tail _ (.tail _ (.tail _ (.head _)))))))), zdw (c := ("NoPlace", none)) G.T.g Y R (.tail _ (.tail _ (.tail _ (.tail _ (.tail _ (.head _)))))), zdw (c := ("NoRow", none)) G.T.g Y R (.tail _ (.tail _ (.tail _ (.tail _ (.tail _ (.tail _ (.tail _ (.tail _ (.tail _ (.tail _ (.tail _ (.head _)))))))))))), zdw (c := ("NoText", some 4)) G.T.g Y R (.tail _ (.tail _ (.tail _ (.head _)))), zdw (c := ("NoWay", none)) G.T.g Y R (.tail _ (.tail _ (.tail _ (.tail _ (.head _))))), zdw (c := ("NoWishes", some 2)) G.T.g Y R (.tail _ (.head _)), zdw (c := ("TooMany", none)) G.T.g Y R (.tail _ (.tail _ (.tail _ (.tail _ (.tail _ (.tail _ (.tail _ (.tail _ (.tail _ (.tail _ (.tail _ (.tail _ (.tail _ (.head _)))))))))))))), zmC (G.T.seer (by decide +kernel))⟩
 refine znt G.T zbn 41 "law" rfl rfl hfa (fun _ _ _ _ _ _ _ => rfl) fun base => ?_
 have m_NoWishes := zmy (nm := "NoWishes") (j := 2) (ps := ["self", "part", "number"]) G.T.g Y R (.tail _ (.head _)) (by decide) l.prog w base (fun _ _ _ _ _ _ us hl => bz3 (us := us) hl fun _ _ _ => rfl) (fun FU => zkZ R.cf (R.ok l.prog w base) R.bd R.at' FU (zbC (by decide +kernel)) rfl (fun _ => ⟨_, rfl⟩) (by decide) (by decide))
 have d_ak := zda l.prog w base G.T zbn 32 "_law_refusal" rfl rfl (fun F => Kak T  F) fun _ _ _ _ _ _ us hl => bz1 (us := us) hl fun _ => rfl
 have d_aa := zda l.prog w base G.T zbn 16 "is_whole" rfl rfl (fun F => Kaa T  F) fun _ _ _ _ _ _ us hl => bz1 (us := us) hl fun _ => rfl
 have d_ab := zda l.prog w base G.T zbn 17 "is_number_below" rfl rfl (fun F => Kab T d_aa F) fun _ _ _ _ _ _ us hl => bz2 (us := us) hl fun _ _ => rfl
 have d_ad := zda l.prog w base G.T zbn 24 "is_rank" rfl rfl (fun F => Kad T d_ab F) fun _ _ _ _ _ _ us hl => bz2 (us := us) hl fun _ _ => rfl
 have d_ae := zda l.prog w base G.T zbn 25 "is_asker_list" rfl rfl (fun F => Kae T d_ad F) fun _ _ _ _ _ _ us hl => bz2 (us := us) hl fun _ _ => rfl
 have dX_look_at_lists := zin l.prog w base G.T zbn 26 "look_at_lists" rfl rfl (fun F => zdQ T d_ae m_NoWishes F) fun _ _ _ _ _ _ us hl => bz2 (us := us) hl fun _ _ => rfl
 have dX_look_at_copies := zin l.prog w base G.T zbn 23 "look_at_copies" rfl rfl (fun F => zdx T d_ab m_NoWishes F) fun _ _ _ _ _ _ us hl => bz1 (us := us) hl fun _ => rfl
 have dX_look_at_wishes := zin l.prog w base G.T zbn 27 "look_at_wishes" rfl rfl (fun F => zdy T dX_look_at_lists dX_look_at_copies m_NoWishes F) fun _ _ _ _ _ _ us hl => bz1 (us := us) hl fun _ => rfl
 have d_as := zda l.prog w base G.T zbn 40 "_law_told" rfl rfl (fun F => Kas T d_ak dX_look_at_wishes F) fun _ _ _ _ _ _ us hl => bz1 (us := us) hl fun _ => rfl
 have d_ai := zda l.prog w base G.T zbn 30 "_law_numbers" rfl rfl (fun F => Kai T  F) fun _ _ _ _ _ _ us hl => bz3 (us := us) hl fun _ _ _ => rfl
 have d_ah := zda l.prog w base G.T zbn 29 "_law_cell_at" rfl rfl (fun F => Kah T  F) fun _ _ _ _ _ _ us hl => bz2 (us := us) hl fun _ _ => rfl
 have d_aj := zda l.prog w base G.T zbn 31 "_law_wishes" rfl rfl (fun F => Kaj T d_ai d_ah F) fun _ _ _ _ _ _ us hl => bz5 (us := us) hl fun _ _ _ _ _ => rfl
 have d_ap := zda l.prog w base G.T zbn 37 "_law_bent_rank" rfl rfl (fun F => Kap T  F) fun _ _ _ _ _ _ us hl => bz3 (us := us) hl fun _ _ _ => rfl
 have d_aq := zda l.prog w base G.T zbn 38 "_law_bent_lists" rfl rfl (fun F => Kaq T d_ap F) fun _ _ _ _ _ _ us hl => bz3 (us := us) hl fun _ _ _ => rfl
 have d_ao := zda l.prog w base G.T zbn 36 "_law_bent_copies" rfl rfl (fun F => Kao T  F) fun _ _ _ _ _ _ us hl => bz2 (us := us) hl fun _ _ => rfl
 have d_ar := zda l.prog w base G.T zbn 39 "_law_bent" rfl rfl (fun F => Kar T d_aq d_ao d_ai F) fun _ _ _ _ _ _ us hl => bz3 (us := us) hl fun _ _ _ => rfl
 have d_al := zda l.prog w base G.T zbn 33 "_law_is_whole" rfl rfl (fun F => Kal T  F) fun _ _ _ _ _ _ us hl => bz1 (us := us) hl fun _ => rfl
 have d_am := zda l.prog w base G.T zbn 34 "_law_are_ranks" rfl rfl (fun F => Kam T d_al F) fun _ _ _ _ _ _ us hl => bz2 (us := us) hl fun _ _ => rfl
 have d_an := zda l.prog w base G.T zbn 35 "_law_due" rfl rfl (fun F => Kan T d_am d_al F) fun _ _ _ _ _ _ us hl => bz1 (us := us) hl fun _ => rfl
 exact fun {_ _} F => Kat T d_as d_aj d_ar d_an F
abbrev d_at : DefRec := ⟨"law", zcl Sat, zbx Sat, zan Sat, zns Sat⟩
theorem walk {XP : (Str -> Option Value) -> Heap -> Prop} (hlaw : ∀ ns : List Int, ns.length <= 63 -> F_at [.list (ns.map PyData.int)] = some (.bool true)) : PySem.W.WalkO q0 [] XP (fun _ h => XYP p0 clsL h) (PySem.Challenge.rw_wishdeal_k07_no_wishes).row.toRowW d_at [] (fun f vs => PySem.call f vs) :=
 zio (n := 63) (k := 8) (x := "_law_script") rfl (by decide) rfl ⟨rfl, by decide, by decide, rfl⟩ (fun _ _ _ _ _ _ G Y hm => zmD G Y hm) hlaw
end W
namespace W
open PySem PySem.Spec L2 DL
open PyProof.Rows hiding St
theorem asm {α : Type} {a b : α} (h : a = b) : a = b := h
theorem zmE {i : Nat} {x : Option Sl} {ρ ρ' : DEnv} (h : ρ.set i x = ρ') : ρ.set i x = ρ' := h
theorem zmF {i : Nat} {ρ : DEnv} {x : Option (Option Sl)} (h : ρ[i]? = x) : ρ[i]? = x := h
theorem asmN {ds : List D} {n : Nat} (h : ds.length < n) : ds.length < n := h
theorem znB {ds : List D} {n : Nat} (h : ds.length <= n) : ds.length <= n := h
theorem zmG {i : Nat} {ρ : DEnv} (h : i < ρ.length) : i < ρ.length := h
local macro_rules | `(tactic| walk_at "set") => `(tactic| first | (simp only [List.set_cons_succ, List.set_cons_zero]; done) | (simp only [List.set_cons_succ, List.set_cons_zero]; rfl) | rfl)
local macro_rules | `(tactic| walk_at "side") => `(tactic| first | assumption | omega | (simp only [List.length_cons, List.length_nil, List.length_map, List.length_append]; omega))
local macro_rules | `(tactic| walk_at "st1") => `(tactic| first
 | with_reducible apply zaS
 | with_reducible apply zaZ
 | ((with_reducible apply zgD); exact rfl)
 | with_reducible apply zcZ
 | with_reducible apply st_setI
 | with_reducible apply st_drop
 | with_reducible exact st_nx)
local macro_rules | `(tactic| walk_at "ev1") => `(tactic| first
 | with_reducible exact zab
 | with_reducible exact zah
 | ((with_reducible apply zad); exact rfl)
 | with_reducible apply zaj
 | with_reducible apply zaa
 | with_reducible apply zaX
 | with_reducible apply ev_zip
 | ((with_reducible apply ev_listO); exact rfl)
 | with_reducible apply zct
 | ((with_reducible apply zbc); exact rfl)
 | ((with_reducible apply zgE); exact rfl)
 | with_reducible apply ev_join
 | with_reducible apply zcs
 | ((with_reducible apply zch); exact rfl)
 | with_reducible apply zbs
 | with_reducible apply zek
 | ((with_reducible apply zaR); exact rfl)
 | ((with_reducible apply zdK); exact rfl)
 | with_reducible apply zdf
 | with_reducible apply zic
 | with_reducible apply ev_rng3
 | with_reducible apply ev_enum1
 | with_reducible apply ev_count
 | with_reducible apply ev_index
 | with_reducible apply zdL
 | with_reducible apply ev_iter
 | with_reducible apply ev_sl
 | with_reducible apply zaB
 | with_reducible apply zcC
 | with_reducible apply zbI
 | with_reducible apply zbo
 | with_reducible apply zas
 | with_reducible apply zba
 | ((with_reducible apply zbE); exact rfl; walk_at "set")
 | ((with_reducible apply zdt); exact rfl)
 | with_reducible apply za7
 | ((with_reducible apply asm); (with_reducible assumption))
 | with_reducible exact zaK
 | with_reducible exact zdg
 | with_reducible exact zeH
 | with_reducible exact zkO
 | with_reducible exact vop_min
 | with_reducible exact zaN
 | with_reducible exact ze2
 | with_reducible exact vop_sl
 | with_reducible exact zaF
 | with_reducible exact zig
 | with_reducible exact vop_itT
 | with_reducible exact vop_itS
 | with_reducible exact vop_inS
 | with_reducible exact vop_ninS
 | with_reducible exact vop_iter
 | with_reducible exact zc6
 | with_reducible exact vop_enum1
 | with_reducible exact zel
 | with_reducible exact vop_sumI
 | with_reducible exact vop_neT
 | with_reducible exact vop_eqT
 | with_reducible exact zbm
 | ((with_reducible apply zbq); walk_at "side")
 | ((with_reducible apply zgd) <;> walk_at "side")
 | ((with_reducible apply zjn) <;> walk_at "side")
 | ((with_reducible apply zcK) <;> walk_at "side")
 | ((with_reducible apply zav); walk_at "side")
 | ((with_reducible apply zmG); exact of_decide_eq_true rfl)
 | ((with_reducible apply zar); walk_at "st1")
 | ((with_reducible apply zaV); walk_at "st1")
 | walk_at "st1"
 | ((with_reducible apply zmF); exact rfl)
 | ((with_reducible apply asmN); walk_at "side")
 | ((with_reducible apply znB); walk_at "side")
 | with_reducible apply zaA
 | ((with_reducible apply zmE); walk_at "set")
 | ((with_reducible apply zmG); exact of_decide_eq_true rfl)
 | with_reducible apply tg_N
 | with_reducible exact tg_0
 | with_reducible apply tg_C
 | ((with_reducible apply tg_T); exact rfl)
 | ((with_reducible apply asmE); exact rfl))
local macro_rules | `(tactic| walk_at "ev") => `(tactic| repeat' walk_at "ev1")
theorem zeM {sizes found : List Int} {z d : Int} (h : ∀ (j : Nat) d z, found[j]? = some d -> sizes[j]? = some z -> 0 <= d /\ d < z) (hz : sizes[found.length]? = some z) (h0 : 0 <= d /\ d < z) :
  ∀ (j : Nat) d' z', (found ++ [d])[j]? = some d' -> sizes[j]? = some z' -> 0 <= d' /\ d' < z' := by
 intro j d' z' e1 e2
 by_cases hj : j < found.length
 ·rw [List.getElem?_append_left hj] at e1
  exact h j d' z' e1 e2
 ·by_cases hj2 : j = found.length
  ·subst hj2
   rw [hz] at e2
   cases e2
   rw [List.getElem?_append_right (Nat.le_refl _), Nat.sub_self, List.getElem?_cons_zero] at e1
   cases e1
   exact h0
  ·rw [List.getElem?_eq_none (by rw [List.length_append, List.length_singleton]; omega)] at e1
   cases e1
def inv (c s : Int) (sizes : List Int) (n : Int) (i : Nat) (ρ : DEnv) : Prop := ∃ left found x6 x7, ρ = [some (Sl.pub (.int c)), some (.pub (.int s)), some (.pub (.list (sizes.map .int))), some (.pub (.int n)), some (.pub (.int left)), some (.own ((found : List Int).map .int)), x6, x7] /\
 found.length = i /\ ∀ (j : Nat) d z, found[j]? = some d -> sizes[j]? = some z -> 0 <= d /\ d < z
theorem ziw {c s n : Int} {sizes : List Int} (hs : ∀ x ∈ sizes, 0 < x /\ x < 18446744073709551616) (hl : sizes.length <= 1000) {i : Nat} {d : D} {ρ : DEnv} {Q : Out -> Prop} (hi : (zbi 0 sizes.length)[i]? = some d) (h : inv c s sizes n i ρ) :
  ∃ ρ2, gN 6 d ρ = some ρ2 /\ Ho zgg ρ2 (zie (inv c s sizes n (i + 1)) Q) := by
 obtain ⟨left, found, x6, x7, rfl, hf, hfd⟩ := h
 obtain ⟨rfl, hlt⟩ := zcj hi
 obtain ⟨z, hz⟩ : ∃ z, sizes[i]? = some z := ⟨sizes[i]'(by omega), List.getElem?_eq_getElem _⟩
 obtain ⟨z1, z2⟩ := hs z (List.mem_of_getElem? hz)
 have hix : oIx (.list (sizes.map PyData.int)) (.int (0 + (i : Int))) = some (.int z) := by
  rw [Int.zero_add]
  exact zeS (by rw [List.getElem?_map, hz]; rfl)
 generalize hk : (0 : Int) + (i : Int) = k at hix ⊢
 have hk1 : k < 18446744073709551616 := by omega
 have hk2 : -18446744073709551616 < k := by omega
 have hlen : (found.map PyData.int).length < 1000000 := by rw [List.length_map]; omega
 have pw : oPow (.int 10) (.int 18) = some (.int 1000000000000000000) := by rw [zkN (by decide)]; rfl
 refine ⟨_, tg_N (of_decide_eq_true rfl) (by walk_at "set"), ?_⟩
 unfold zgg
 apply zaI
 case h1 =>
  apply zmr
  case h1 => walk_at "ev"
  case h2 => intro _; walk_at "ev"
 case h2 =>
  intro _
  walk_at "ev"
  refine zcv ?_
  exact ⟨_, found ++ [left % z], _, _, by rw [List.map_append]; rfl, by rw [List.length_append, hf]; rfl, zeM hfd (by rw [hf]; exact hz) ⟨Int.emod_nonneg _ (by omega), Int.emod_lt_of_pos _ z1⟩⟩
 case h3 =>
  intro _
  walk_at "ev"
  refine zcv ?_
  exact ⟨_, found ++ [_ % z], _, _, by rw [List.map_append]; rfl, by rw [List.length_append, hf]; rfl, zeM hfd (by rw [hf]; exact hz) ⟨Int.emod_nonneg _ (by omega), Int.emod_lt_of_pos _ z1⟩⟩
theorem zcu (c s : Int) {sizes : List Int} (hs : ∀ x ∈ sizes, 0 < x /\ x < 18446744073709551616) (hl : sizes.length <= 1000) :
  ∃ r, F_ai [.int c, .int s, .list (sizes.map PyData.int)] = some r /\ ∃ ds : List Int, r = .list (ds.map .int) /\ ds.length = sizes.length /\ ∀ (j : Nat) d z, ds[j]? = some d -> sizes[j]? = some z -> 0 <= d /\ d < z := by
 refine zc0 (ρ := [some (.pub (.int c)), some (.pub (.int s)), some (.pub (.list (sizes.map PyData.int))), none, none, none, none, none]) rfl ?_
 unfold g_ai
 walk_at "ev"
 apply zaJ
 apply zeI (ds := zbi 0 sizes.length) (inv c s sizes (if -1 - c > c then -1 - c else c))
 case h1 =>
  walk_at "ev"
  rw [List.length_map]
  exact zcL (by omega) (by omega)
 case h0 => exact ⟨_, [], none, none, rfl, rfl, fun j d z e => by cases e⟩
 case hst => exact fun i d ρ e h => ziw hs hl e h
 case hend =>
  rintro ρ ⟨left, found, x6, x7, rfl, hf, hfd⟩
  refine zau ?_
  walk_at "ev"
  rw [za9] at hf
  exact ⟨_, rfl, found, rfl, by omega, hfd⟩
mutual
theorem zgI : ∀ (d : PyData), d.canLay0 = true -> PyData.eqv d d = true
 | .none, _ => rfl
 | .bool b, _ => by cases b <;> rfl
 | .int i, _ => by simp [PyData.eqv]
 | .str s, _ => by simp [PyData.eqv]
 | .list xs, h => eqvAll_refl xs h
 | .tuple xs, h => eqvAll_refl xs h
 | .dict _, h => by cases h
theorem eqvAll_refl : ∀ (xs : List PyData), PyData.canLayAll0 xs = true -> PyData.eqvAll xs xs = true
 | [], _ => rfl
 | x :: r, h => by
  have h : (PyData.canLay0 x && PyData.canLayAll0 r) = true := h
  rw [Bool.and_eq_true] at h
  show (PyData.eqv x x && PyData.eqvAll r r) = true
  rw [zgI x h.1, eqvAll_refl r h.2]; rfl
end
theorem zfK : ∀ {xs : List D}, (∀ x ∈ xs, PyData.canLay0 x = true) -> PyData.canLayAll0 xs = true
 | [], _ => rfl
 | x :: r, h => by
  show (PyData.canLay0 x && PyData.canLayAll0 r) = true
  rw [h x List.mem_cons_self, zfK fun y hy => h y (List.mem_cons_of_mem _ hy)]; rfl
theorem zfL {n : Nat} : ∀ {xs : List D}, (∀ x ∈ xs, PyData.depth x <= n) -> PyData.depthAll xs <= n
 | [], _ => by simp [PyData.depthAll]
 | x :: r, h => by
  have h1 := h x List.mem_cons_self
  have h2 := zfL (n := n) fun y hy => h y (List.mem_cons_of_mem _ hy)
  simp only [PyData.depthAll]
  omega
def zbw (r : List Int) : D := .list (r.map PyData.int)
def zb1 (rs : List (List Int)) : D := .list (rs.map zbw)
def zeE (cs : List Int) (ls : List (List (List Int))) : D := .tuple [.list (cs.map PyData.int), .list (ls.map zb1)]
structure zc2 (n : Nat) (rs : List (List Int)) : Prop where
 few : rs.length <= 5
 some : ∀ r ∈ rs, r ≠ []
 there : ∀ r ∈ rs, ∀ t ∈ r, 0 <= t /\ t < n
 once : rs.flatten.Nodup
structure Good (cs : List Int) (ls : List (List (List Int))) : Prop where
 c1 : 1 <= cs.length
 c6 : cs.length <= 6
 c7 : ∀ c ∈ cs, 0 <= c /\ c < 8
 l1 : 1 <= ls.length
 l7 : ls.length <= 7
 rk : ∀ rs ∈ ls, zc2 cs.length rs
theorem zjz (r : List Int) : (zbw r).canLay0 = true := zfK fun x hx => by obtain ⟨y, _, rfl⟩ := List.mem_map.mp hx; rfl
theorem zla (i : Int) : (PyData.int i).depth <= 1 := by simp [PyData.depth]
theorem zlb {n : Nat} {xs : List D} (h : PyData.depthAll xs <= n) : (PyData.list xs).depth <= n + 1 := by simp only [PyData.depth]; omega
theorem zjA (r : List Int) : (zbw r).depth <= 2 := zlb (zfL fun x hx => by obtain ⟨y, _, rfl⟩ := List.mem_map.mp hx; exact zla y)
theorem zfM {a b c x3 : Option Sl} (ha : zfC a = a) (hb : zfC b = b) (hc : zfC c = c) (hx : zfC x3 = x3) : ∀ (ds es : List D) (x4 : Option Sl), es.length + ds.length <= 1000000 ->
  ∃ y, zdq (gN 4) (zaf true) (dVar 4) ds [a, b, c, x3, x4] es = some (es ++ ds, [a, b, c, x3, y])
 | [], es, x4, _ => ⟨x4, by rw [zdq, List.append_nil]⟩
 | d :: r, es, x4, h => by
  rw [List.length_cons] at h
  obtain ⟨y, e⟩ := zfM ha hb hc hx r (es ++ [d]) (some (.pub d)) (by rw [List.length_append, List.length_singleton]; omega)
  refine ⟨y, ?_⟩
  rw [zdq]
  have h1 : gN 4 d [a, b, c, x3, x4] = some [a, b, c, x3, some (.pub d)] := tg_N (of_decide_eq_true rfl) rfl
  rw [h1]
  dsimp only [zaf]
  rw [if_pos rfl]
  have h2 : dVar 4 [a, b, c, x3, some (.pub d)] = .ok d [a, b, c, x3, some (.pub d)] := zad rfl
  rw [h2]
  dsimp only
  rw [if_pos (by omega)]
  have h3 : zbj [a, b, c, x3, some (.pub d)] = [a, b, c, x3, some (.pub d)] := by
   unfold zbj
   simp only [List.map_cons, List.map_nil, ha, hb, hc, hx]
   rfl
  rw [h3, e, List.append_assoc]; rfl
theorem zeq {a b : D} : ∀ (rs : List (List Int)) (es : List D) (x3 x4 : Option Sl), es.length + rs.flatten.length <= 1000000 ->
  zcX (gN 3) (zaf true) (zbQ (dVar 3)) (gN 4) (zaf true) (dVar 4) (rs.map zbw) [some (.pub a), some (.pub b), none, x3, x4] es = some (es ++ rs.flatten.map PyData.int)
 | [], es, _, _, _ => by rw [List.map_nil, zcX]; simp
 | r :: rs, es, x3, x4, h => by
  rw [List.flatten_cons, List.length_append] at h
  rw [List.map_cons, zcX]
  have h1 : gN 3 (zbw r) [some (.pub a), some (.pub b), none, x3, x4] = some [some (.pub a), some (.pub b), none, some (.pub (zbw r)), x4] := tg_N (of_decide_eq_true rfl) rfl
  rw [h1]
  dsimp only [zaf]
  rw [if_pos rfl]
  have h2 : zbQ (dVar 3) [some (.pub a), some (.pub b), none, some (.pub (zbw r)), x4] = .ok (r.map PyData.int) [some (.pub a), some (.pub b), none, some (.pub (zbw r)), x4] := zct (zad rfl) rfl
  rw [h2]
  dsimp only
  have h3 : zbj [some (.pub a), some (.pub b), none, some (.pub (zbw r)), x4] = [some (.pub a), some (.pub b), none, some (.pub (zbw r)), zfC x4] := rfl
  rw [h3]
  obtain ⟨y, e⟩ := zfM (a := some (.pub a)) (b := some (.pub b)) (c := none) (x3 := some (.pub (zbw r))) rfl rfl rfl rfl (r.map PyData.int) es (zfC x4) (by rw [List.length_map]; omega)
  rw [e]
  dsimp only
  have ih := zeq (a := a) (b := b) rs (es ++ r.map PyData.int) (some (.pub (zbw r))) y (by rw [List.length_append, List.length_map]; omega)
  refine Eq.trans ih ?_
  rw [List.flatten_cons, List.map_append, List.append_assoc]
theorem zhf {ns : List Int} (h : ns.Nodup) : zdb ns = ns.length := by
 unfold zdb
 have : ∀ i, i <= ns.length -> (PyProof.Rows.firstMet (fun i => ns.getD i 0) i).length = i := by
  intro i
  induction i with
  | zero => intro _; rfl
  | succ i ih =>
   intro hi
   rw [PyProof.Rows.firstMet_succ]
   have hany : (PyProof.Rows.firstMet (fun i => ns.getD i 0) i).any (· == ns.getD i 0) = false := by
    rw [PyProof.Rows.firstMet_any, List.any_eq_false]
    intro x hx
    obtain ⟨j, hj, rfl⟩ := List.mem_map.mp hx
    have hj := List.mem_range.mp hj
    intro e
    have e : ns.getD j 0 = ns.getD i 0 := by simpa using e
    have l1 : j < ns.length := by omega
    have l2 : i < ns.length := by omega
    simp only [List.getD, List.getElem?_eq_getElem l1, List.getElem?_eq_getElem l2, Option.getD_some] at e
    exact absurd ((List.getElem_inj h).mp e) (by omega)
   unfold PyProof.Rows.step_dedup
   rw [hany]
   rw [if_neg (by decide), List.length_append, ih (by omega)]; rfl
 exact this ns.length (Nat.le_refl _)
theorem zgJ {d : D} : ∀ {xs : List D} {k i : Nat}, (zdm k xs)[i]? = some d -> ∃ x, xs[i]? = some x /\ d = .tuple [.int ((k + i : Nat) : Int), x]
 | [], k, i, h => by cases h
 | x :: r, k, 0, h => by
  cases h
  exact ⟨x, rfl, rfl⟩
 | x :: r, k, i + 1, h => by
  obtain ⟨y, e, q⟩ := zgJ (xs := r) (k := k + 1) (i := i) h
  exact ⟨y, e, by rw [q]; congr 4; omega⟩
theorem zfa : ∀ (n : Nat) (l : List Int), l.Nodup -> (∀ x ∈ l, 0 <= x /\ x < n) -> l.length <= n
 | 0, [], _, _ => Nat.le_refl _
 | 0, x :: r, _, h => by have := h x List.mem_cons_self; omega
 | n + 1, l, hn, h => by
  by_cases hm : (n : Int) ∈ l
  ·have := zfa n (l.erase (n : Int)) (hn.erase _) fun x hx => by
    have h1 := (List.Nodup.mem_erase_iff hn).mp hx
    have h2 := h x h1.2
    have h3 := h1.1
    omega
   rw [List.length_erase_of_mem hm] at this
   omega
  ·have := zfa n l hn fun x hx => by
    have h2 := h x hx
    have h3 : x ≠ (n : Int) := fun e => hm (e ▸ hx)
    omega
   omega
theorem zgK {n : Nat} {rs : List (List Int)} (g : zc2 n rs) : rs.flatten.length <= n := zfa n _ g.once fun x hx => by
 obtain ⟨r, hr, hxr⟩ := List.mem_flatten.mp hx
 exact g.there r hr x hxr
theorem zgL : ∀ (xs ys : List Int), PyData.eqvAll (xs.map PyData.int) (ys.map PyData.int) = decide (xs = ys)
 | [], [] => rfl
 | [], y :: ys => by simp [PyData.eqvAll]
 | x :: xs, [] => by simp [PyData.eqvAll]
 | x :: xs, y :: ys => by
  have ih := zgL xs ys
  show (PyData.eqv (.int x) (.int y) && PyData.eqvAll (xs.map PyData.int) (ys.map PyData.int)) = _
  rw [ih]
  have : PyData.eqv (.int x) (.int y) = decide (x = y) := rfl
  rw [this, Bool.eq_iff_iff]
  simp
theorem zix {xs : List Int} : oNe (.list (xs.map PyData.int)) (.list []) = some (!decide (xs = [])) := by
 unfold oNe
 have h1 : (PyData.list (xs.map PyData.int)).canLay0 = true := zjz xs
 have h3 : (PyData.list (xs.map PyData.int)).depth <= 60 := by have := zjA xs; unfold zbw at this; omega
 rw [if_pos ⟨h1, rfl, h3⟩]
 congr 2
 exact zgL xs []
theorem zlc {xs : List D} {x : D} (h : xs.getLast? = some x) : oIx (.list xs) (.int (-1)) = some x := by
 unfold oIx atI
 have hl : xs ≠ [] := by rintro rfl; cases h
 have hp : 0 < xs.length := List.length_pos_iff.mpr hl
 rw [List.getLast?_eq_getElem?] at h
 show (ixN xs.length (-1)).bind _ = _
 unfold ixN
 rw [if_neg (by decide), if_pos (by omega)]
 have e2 : (-1 + (xs.length : Int)).toNat = xs.length - 1 := by omega
 simp only [Option.bind_some]
 rw [e2]; exact h
theorem ziy {xs : List Int} {k : Nat} (h : k < xs.length) : oIx (.list (xs.map PyData.int)) (.int k) = some (.int (xs.getD k 0)) := by
 refine zeS ?_
 rw [List.getElem?_map, List.getElem?_eq_getElem h]
 simp [List.getD, List.getElem?_eq_getElem h]
theorem zdW (ns : List Int) (k : Nat) (hl : ns.length <= 1000) : ∃ v, F_ah [.list (ns.map PyData.int), .int k] = some (.int v) := by
 have hlen : oLen [.list (ns.map PyData.int)] = some (.int ns.length) := by rw [zaN, List.length_map]
 by_cases h : k < ns.length
 ·refine ⟨ns.getD k 0, zc1 (ρ := [some (.pub (.list (ns.map PyData.int))), some (.pub (.int k))]) rfl ?_⟩
  unfold g_ah
  apply zaJ
  apply zaI
  case h1 => exact zbc rfl (zaR rfl hlen) rfl
  case h2 => exact fun _ => zaA (zch rfl (zad rfl) (ziy h)) (zat rfl)
  case h3 =>
        intro hh; have : ¬ (k : Int) < (ns.length : Int) := by simpa using hh
        omega
 ·refine ⟨0, zc1 (ρ := [some (.pub (.list (ns.map PyData.int))), some (.pub (.int k))]) rfl ?_⟩
  unfold g_ah
  apply zaJ
  apply zaI
  case h1 => exact zbc rfl (zaR rfl hlen) rfl
  case h2 =>
        intro hh; have : (k : Int) < (ns.length : Int) := by simpa using hh
        omega
  case h3 => exact fun _ => zbk (zau (zaA zab rfl))
def sz6 : List Int := 6 :: 7 :: List.replicate 6 11
def szP : List Int := List.replicate 6 6 ++ [2]
theorem zmH : ∀ x ∈ sz6, 0 < x /\ x < 18446744073709551616 := by decide
theorem zmI : ∀ x ∈ szP, 0 < x /\ x < 18446744073709551616 := by decide
def tab : List Int := [1, 1, 2, 0, 3, 7, 1, 4, 5, 6, 1]
theorem zjX {z : Int} (h0 : 0 <= z) (h1 : z < 11) : oIx (.list (tab.map PyData.int)) (.int z) = some (.int (tab.getD z.toNat 0)) /\ 0 <= tab.getD z.toNat 0 /\ tab.getD z.toNat 0 < 8 := by
 have e : z = 0 ∨ z = 1 ∨ z = 2 ∨ z = 3 ∨ z = 4 ∨ z = 5 ∨ z = 6 ∨ z = 7 ∨ z = 8 ∨ z = 9 ∨ z = 10 := by omega
 rcases e with rfl|rfl|rfl|rfl|rfl|rfl|rfl|rfl|rfl|rfl|rfl <;> exact ⟨rfl, by decide, by decide⟩
structure zdz (n : Nat) (pl : List Int) (j : Nat) (rs : List (List Int)) : Prop where
 few : rs.length <= j
 some : ∀ r ∈ rs, r ≠ []
 there : ∀ r ∈ rs, ∀ t ∈ r, (0 <= t /\ t < n) /\ pl.getD t.toNat 0 < 1 + (j : Int)
 once : rs.flatten.Nodup
def zfN (n : Nat) (pl : List Int) (r : Int) : List Int := ((List.range n).filter fun k => decide (pl.getD k 0 = r)).map fun k : Nat => (k : Int)
theorem zgj (n : Nat) (pl : List Int) (r : Int) : (zfN n pl r).Nodup := by
 unfold zfN
 refine List.Pairwise.map _ (fun a b h e => h (by omega)) ((List.nodup_range).filter _)
theorem zfO {n : Nat} {pl : List Int} {r t : Int} (h : t ∈ zfN n pl r) : (0 <= t /\ t < n) /\ pl.getD t.toNat 0 = r := by
 unfold zfN at h
 obtain ⟨k, hk, rfl⟩ := List.mem_map.mp h
 have hk := List.mem_filter.mp hk
 have h1 := List.mem_range.mp hk.1
 have h2 : pl.getD k 0 = r := by simpa using hk.2
 exact ⟨⟨by omega, by omega⟩, by rw [Int.toNat_natCast]; exact h2⟩
theorem zdz.add {n : Nat} {pl : List Int} {j : Nat} {rs : List (List Int)} {row : List Int} (g : zdz n pl j rs) (hne : row ≠ []) (hm : ∀ t ∈ row, t ∈ zfN n pl (1 + (j : Int))) (hn : row.Nodup) : zdz n pl (j + 1) (rs ++ [row]) where
 few := by rw [List.length_append, List.length_singleton]; have := g.few; omega
 some := fun r hr => by
  rcases List.mem_append.mp hr with z | z
  ·exact g.some r z
  ·rw [List.mem_singleton.mp z]; exact hne
 there := fun r hr t ht => by
  rcases List.mem_append.mp hr with z | z
  ·have := g.there r z t ht; exact ⟨this.1, by omega⟩
  ·rw [List.mem_singleton.mp z] at ht
   have := zfO (hm t ht)
   exact ⟨this.1, by omega⟩
 once := by
  rw [List.flatten_append, List.flatten_singleton]
  refine List.nodup_append.mpr ⟨g.once, hn, fun a ha b hb e => ?_⟩
  subst e
  obtain ⟨r, hr, har⟩ := List.mem_flatten.mp ha
  have h1 := (g.there r hr a har).2
  have h2 := (zfO (hm a hb)).2
  omega
theorem zdz.next {n : Nat} {pl : List Int} {j : Nat} {rs : List (List Int)} (g : zdz n pl j rs) : zdz n pl (j + 1) rs :=
 ⟨by have := g.few; omega, g.some, fun r hr t ht => ⟨(g.there r hr t ht).1, by have := (g.there r hr t ht).2; omega⟩, g.once⟩
theorem zdz.good {n : Nat} {pl : List Int} {rs : List (List Int)} (g : zdz n pl 5 rs) : zc2 n rs := ⟨g.few, g.some, fun r hr t ht => (g.there r hr t ht).1, g.once⟩
def invK (S dz sz : D) (at_ n : Nat) (cs pl : List Int) (ls : List (List (List Int))) (x9 x10 : Option Sl) (j : Nat) (ρ : DEnv) : Prop := ∃ (rs : List (List Int)) (x13 x14 : Option Sl),
 ρ = [some (.pub S), some (.pub (.int at_)), some (.pub (.int 6)), some (.pub (.int 7)), some (.pub (.int 5)), some (.pub sz), some (.pub dz), some (.own (cs.map PyData.int)), some (.own (ls.map zb1)), x9, x10, some (.pub (.list (pl.map PyData.int))), some (.own (rs.map zbw)), x13, x14] /\ zdz n pl j rs
theorem ziz {S dz sz : D} {at_ n : Nat} {cs pl : List Int} {ls : List (List (List Int))} {v9 v10 : D} {j : Nat} {d : D} {ρ : DEnv} {Q : Out -> Prop} (hcs : cs.length = n) (hn : n <= 6) (hpl : pl.length = 7) (hlast : pl.getD 6 0 = 0 ∨ pl.getD 6 0 = 1)
  (hj : (zbi 1 (5 + 1))[j]? = some d) (h : invK S dz sz at_ n cs pl ls (some (.pub v9)) (some (.pub v10)) j ρ) :
  ∃ ρ2, gN 13 d ρ = some ρ2 /\ Ho zgh ρ2 (zie (invK S dz sz at_ n cs pl ls (some (.pub v9)) (some (.pub v10)) (j + 1)) Q) := by
 obtain ⟨rs, x13, x14, rfl, g⟩ := h
 obtain ⟨rfl, hlt⟩ := zcj hj
 have hj5 : j < 5 := by omega
 refine ⟨_, tg_N (of_decide_eq_true rfl) (by walk_at "set"), ?_⟩
 unfold zgh
 have hrd : zbi 0 ((n : Nat) : Int) = (List.range n).map fun k => .int (k : Int) := by
  unfold zbi
  have : ((n : Int) - 0).toNat = n := by omega
  rw [this]
  apply List.map_congr_left
  intro k _
  rw [Int.zero_add]
 have hc : zcJ (gN 15) (dBin oEq (dIxN 11 (dVar 15)) (dVar 13)) (dVar 15) (zbi 0 ((n : Nat) : Int)) (zbj [some (.pub S), some (.pub (.int at_)), some (.pub (.int 6)), some (.pub (.int 7)), some (.pub (.int 5)), some (.pub sz), some (.pub dz), some (.own (cs.map PyData.int)), some (.own (ls.map zb1)), some (.pub v9), some (.pub v10), some (.pub (.list (pl.map PyData.int))), some (.own (rs.map zbw)), some (.pub (.int (1 + (j : Int)))), x14] ++ List.replicate 1 none) [] = some ((zfN n pl (1 + (j : Int))).map PyData.int) := by
  rw [hrd, zco (fun d => match d with | .int k => decide (pl.getD k.toNat 0 = 1 + (j : Int)) | _ => false) (fun d => d) (fun ρ => ∃ x, ρ = [some (.pub S), some (.pub (.int at_)), some (.pub (.int 6)), some (.pub (.int 7)), some (.pub (.int 5)), some (.pub sz), some (.pub dz), none, none, some (.pub v9), some (.pub v10), some (.pub (.list (pl.map PyData.int))), none, some (.pub (.int (1 + (j : Int)))), zfC x14, x])]
  ·rw [List.nil_append, List.map_id', List.filter_map]
   unfold zfN
   rw [List.map_map]
   rfl
  ·rintro d hm ρ ⟨x, rfl⟩
   obtain ⟨k, hk, rfl⟩ := List.mem_map.mp hm
   have hk := List.mem_range.mp hk
   refine ⟨_, tg_N (of_decide_eq_true rfl) rfl, zaj (zch rfl (zad rfl) (ziy (by omega))) (zad rfl) zbm, fun _ => zad rfl, some (.pub (.int k)), ?_⟩
   unfold zbj
   cases x14 with
   | none => rfl
   | some sl => cases sl <;> rfl
  ·exact ⟨none, rfl⟩
  ·rw [List.length_map, List.length_range, List.length_nil]; omega
 have hlen : (cs.map PyData.int).length = n := by rw [List.length_map, hcs]
 refine zar (zaZ (zdN (zdf (zaa (zdK rfl) zah) (by rw [hlen]; exact zcL (by omega) (by omega))) hc) (of_decide_eq_true rfl) rfl) ?_
 generalize hrow : zfN n pl (1 + (j : Int)) = row
 apply zaI
 case h1 => exact zgE rfl (zas zah (by decide)) rfl zix
 case h2 =>
  intro hh
  have hne : row ≠ [] := by simpa using hh
  have hlx : oIx (.list (pl.map PyData.int)) (.int (-1)) = some (.int (pl.getD 6 0)) := zlc (by
   rw [List.getLast?_eq_getElem?, List.length_map, hpl, List.getElem?_map, List.getElem?_eq_getElem (show 7 - 1 < pl.length by omega)]
   simp [List.getD, List.getElem?_eq_getElem (show 6 < pl.length by omega)])
  obtain ⟨row', hix, hrow'⟩ : ∃ row' : List Int, oIx (.list [.list (row.map PyData.int), .list (row.map PyData.int).reverse]) (.int (pl.getD 6 0)) = some (zbw row') /\ (row' = row ∨ row' = row.reverse) := by
   rcases hlast with e | e
   ·rw [e]; exact ⟨row, rfl, .inl rfl⟩
   ·rw [e]; exact ⟨row.reverse, by show some (PyData.list (row.map PyData.int).reverse) = _; unfold zbw; rw [List.map_reverse], .inr rfl⟩
  have hrl : (rs.map zbw).length < 1000000 := by rw [List.length_map]; have := g.few; omega
  refine zaV (zgD rfl (zaj (zas (zaa (zbE rfl rfl) (zaa (zms (zad rfl) zab zab (zaB (zek zab))) zah)) (of_decide_eq_true rfl)) (zch rfl (zek zab) hlx) hix) rfl hrl rfl) ?_
  refine zcv ⟨rs ++ [row'], some (.pub (.int (1 + (j : Int)))), some (.pub (.list (row.map PyData.int))), by rw [List.map_append]; rfl, g.add ?_ ?_ ?_⟩
  ·rcases hrow' with e | e <;> rw [e]
   ·exact hne
   ·exact fun z => hne (List.reverse_eq_nil_iff.mp z)
  ·intro t ht
   rw [hrow]
   rcases hrow' with e | e <;> rw [e] at ht
   ·exact ht
   ·exact List.mem_reverse.mp ht
  ·have hnd := zgj n pl (1 + (j : Int))
   rw [hrow] at hnd
   rcases hrow' with e | e <;> rw [e]
   ·exact hnd
   ·exact (List.reverse_perm row).nodup_iff.mpr hnd
 case h3 => exact fun _ => zbk (zcv ⟨rs, _, _, rfl, g.next⟩)
def invA (S dz sz : D) (at_ n : Nat) (cs : List Int) (i : Nat) (ρ : DEnv) : Prop := ∃ (ls : List (List (List Int))) (x9 x10 x11 x12 x13 x14 : Option Sl),
 ρ = [some (.pub S), some (.pub (.int at_)), some (.pub (.int 6)), some (.pub (.int 7)), some (.pub (.int 5)), some (.pub sz), some (.pub dz), some (.own (cs.map PyData.int)), some (.own (ls.map zb1)), x9, x10, x11, x12, x13, x14] /\ ls.length = i /\ ∀ rs ∈ ls, zc2 n rs
theorem zhg {ns : List Int} {dz sz : D} {at_ n : Nat} {cs : List Int} {i : Nat} {m : Int} {d : D} {ρ : DEnv} {Q : Out -> Prop} (hns : ns.length <= 1000) (hcs : cs.length = n) (hn : n <= 6) (hm : m <= 100)
  (hi : (zbi 0 m)[i]? = some d) (h : invA (.list (ns.map PyData.int)) dz sz at_ n cs i ρ) :
  ∃ ρ2, gN 9 d ρ = some ρ2 /\ Ho zgi ρ2 (zie (invA (.list (ns.map PyData.int)) dz sz at_ n cs (i + 1)) Q) := by
 obtain ⟨ls, x9, x10, x11, x12, x13, x14, rfl, hl, hg⟩ := h
 obtain ⟨rfl, hlt⟩ := zcj hi
 refine ⟨_, tg_N (of_decide_eq_true rfl) (by walk_at "set"), ?_⟩
 unfold zgi
 obtain ⟨v, hv⟩ := zdW ns (at_ + 1 + i) hns
 have ev : ((at_ : Int) + 1 + (0 + (i : Int))) = ((at_ + 1 + i : Nat) : Int) := by omega
 rw [← ev] at hv
 refine zar (zaS (za7 (zaa (zad rfl) (zaa (zaj (zaj (zad rfl) zab zaK) (zad rfl) zaK) zah)) rfl hv) (of_decide_eq_true rfl) rfl) ?_
 obtain ⟨r, hF, pl, rfl, hpl, hpb⟩ := zcu v (11 * (at_ : Int) + 3 * (0 + (i : Int)) + 1) (sizes := szP) zmI (by decide)
 have hpl7 : pl.length = 7 := hpl
 have hmul : oMul (.list [.int (5 + 1)]) (.int 6) = some (.list ((List.replicate 6 6).map PyData.int)) := zdM (by decide)
 have hadd : oAdd (.list ((List.replicate 6 6).map PyData.int)) (.list [.int 2]) = some (.list (szP.map PyData.int)) := zav (by decide)
 refine zar (zaS (za7 (zaa (zad rfl) (zaa (zaj (zaj (zaj zab (zad rfl) (zcK (by decide) (by decide))) (zaj zab (zad rfl) (zcK (by decide) (by decide))) zaK) zab zaK) (zaa (zaj (zaj (zas (zaa (zaj (zad rfl) zab zaK) zah) (of_decide_eq_true rfl)) (zad rfl) hmul) (zas (zaa zab zah) (of_decide_eq_true rfl)) hadd) zah))) rfl hF) (of_decide_eq_true rfl) rfl) ?_
 refine zar (zaZ (zba zah (of_decide_eq_true rfl)) (of_decide_eq_true rfl) rfl) ?_
 have hlast : pl.getD 6 0 = 0 ∨ pl.getD 6 0 = 1 := by
  have e : pl[6]? = some pl[6] := List.getElem?_eq_getElem (by omega)
  have := hpb 6 pl[6] 2 e rfl
  have e2 : pl.getD 6 0 = pl[6] := by simp [List.getD, e]
  rw [e2]; omega
 apply zaJ
 apply zeI (invK (.list (ns.map PyData.int)) dz sz at_ n cs pl ls (some (.pub (.int (0 + (i : Int))))) (some (.pub (.int v))))
 case h1 => exact zic (zaa zab (zaa (zaj (zad rfl) zab zaK) zah)) (zjo (by decide) (by decide) (by decide) (by decide))
 case h0 => exact ⟨[], x13, x14, rfl, ⟨Nat.le_refl _, fun _ h => (by cases h), fun _ h => (by cases h), List.nodup_nil⟩⟩
 case hst => exact fun j d ρ e h => ziz hcs hn hpl7 hlast e h
 case hend =>
  rintro ρ ⟨rs, y13, y14, rfl, g⟩
  refine zau ?_
  have hl5 : (zbi 1 (5 + 1)).length = 5 := rfl
  rw [hl5] at g
  have hll : (ls.map zb1).length < 1000000 := by rw [List.length_map]; omega
  refine zaV (zgD rfl (zbE rfl rfl) rfl hll rfl) ?_
  refine zcv ⟨ls ++ [rs], some (.pub (.int (0 + (i : Int)))), some (.pub (.int v)), some (.pub (.list (pl.map PyData.int))), some (.pub (.list (rs.map zbw))), y13, y14, by rw [List.map_append]; rfl, by rw [List.length_append, hl]; rfl, fun x hx => ?_⟩
  rcases List.mem_append.mp hx with z | z
  ·exact hg x z
  ·rw [List.mem_singleton.mp z]; exact g.good
theorem zgk {ns : List Int} (hns : ns.length <= 1000) (at_ : Nat) : ∃ r, F_aj [.list (ns.map PyData.int), .int at_, .int 6, .int 7, .int 5] = some r /\ ∃ cs ls, r = zeE cs ls /\ Good cs ls := by
 obtain ⟨v, hv⟩ := zdW ns at_ hns
 obtain ⟨r, hF, ds, rfl, hl, hd⟩ := zcu v at_ (sizes := sz6) zmH (by decide)
 have hl8 : ds.length = 8 := hl
 have at' : ∀ (j : Nat) (k z : Int), k = j -> sz6[j]? = some z -> ∃ d, oIx (.list (ds.map PyData.int)) (.int k) = some (.int d) /\ ds[j]? = some d /\ 0 <= d /\ d < z := fun j k z hk hz => by
  subst hk
  have hj : j < ds.length := by rw [hl]; exact (List.getElem?_eq_some_iff.mp hz).1
  have e : ds[j]? = some ds[j] := List.getElem?_eq_getElem hj
  obtain ⟨p0, p1⟩ := hd j ds[j] z e hz
  exact ⟨ds[j], zeS (by rw [List.getElem?_map, e]; rfl), e, p0, p1⟩
 obtain ⟨d0, x0, e0, p0, q0⟩ := at' 0 0 6 rfl rfl
 obtain ⟨d1, x1, e1, p1, q1⟩ := at' 1 1 7 rfl rfl
 have hmul : oMul (.list [.int 11]) (.int 6) = some (.list ((List.replicate 6 11).map PyData.int)) := zdM (by decide)
 have hadd : oAdd (.list [.int 6, .int 7]) (.list ((List.replicate 6 11).map PyData.int)) = some (.list (sz6.map PyData.int)) := zav (by decide)
 obtain ⟨n, hn⟩ : ∃ n : Nat, 1 + d0 = n := ⟨(1 + d0).toNat, by omega⟩
 refine zc0 (ρ := [some (.pub (.list (ns.map PyData.int))), some (.pub (.int at_)), some (.pub (.int 6)), some (.pub (.int 7)), some (.pub (.int 5)), none, none, none, none, none, none, none, none, none, none]) rfl ?_
 unfold g_aj
 refine zar (zaS (zaj (zas (zaa (zad rfl) (zaa (zad rfl) zah)) (of_decide_eq_true rfl)) (zaj (zas (zaa zab zah) (of_decide_eq_true rfl)) (zad rfl) hmul) hadd) (of_decide_eq_true rfl) rfl) ?_
 refine zar (zaS (za7 (zaa (za7 (zaa (zad rfl) (zaa (zad rfl) zah)) rfl hv) (zaa (zad rfl) (zaa (zad rfl) zah))) rfl hF) (of_decide_eq_true rfl) rfl) ?_
 have hcut : DL.cutD (ds.map PyData.int) (some 2) (some (3 + d0)) = ((ds.drop 2).take n).map PyData.int := by
  rw [zjp (by decide) (by omega) (by omega)]
  have : (3 + d0).toNat - (2 : Int).toNat = n := by omega
  rw [this]; rfl
 have hrowl : ((ds.drop 2).take n).length = n := by rw [List.length_take, List.length_drop, hl8]; omega
 have each : ∀ z ∈ (ds.drop 2).take n, 0 <= z /\ z < 11 := fun z hz => by
  have hz := List.mem_of_mem_take hz
  obtain ⟨k, hk, e⟩ := List.getElem_of_mem hz
  rw [List.length_drop, hl8] at hk
  rw [List.getElem_drop] at e
  have e2 : ds[2 + k]? = some z := by rw [← e]; exact List.getElem?_eq_getElem _
  refine hd (2 + k) z 11 e2 ?_
  have : k = 0 ∨ k = 1 ∨ k = 2 ∨ k = 3 ∨ k = 4 ∨ k = 5 := by omega
  rcases this with rfl | rfl | rfl | rfl | rfl | rfl <;> rfl
 let cs : List Int := ((ds.drop 2).take n).map fun z => tab.getD z.toNat 0
 have hcl : cs.length = n := by show (List.map _ _).length = n; rw [List.length_map, hrowl]
 have hc : ∀ xs : List (Option Sl), zbj xs = xs -> xs.length = 15 -> zcJ (gN 15) (zaf true) (dBin oIx (mLst (zae (zaf (.int 1)) (zae (zaf (.int 1)) (zae (zaf (.int 2)) (zae (zaf (.int 0)) (zae (zaf (.int 3)) (zae (zaf (.int 7)) (zae (zaf (.int 1)) (zae (zaf (.int 4)) (zae (zaf (.int 5)) (zae (zaf (.int 6)) (zae (zaf (.int 1)) (mNil))))))))))))) (dVar 15)) (((ds.drop 2).take n).map PyData.int) (zbj xs ++ List.replicate 1 none) [] = some (cs.map PyData.int) := by
  intro xs hx hxl
  rw [hx, zco (fun _ => true) (fun d => match d with | .int z => .int (tab.getD z.toNat 0) | _ => .none) (fun ρ => ∃ x, ρ = xs ++ [x])]
  ·rw [List.filter_eq_self.mpr (fun _ _ => rfl), List.nil_append, List.map_map]
   show _ = some ((((ds.drop 2).take n).map fun z => tab.getD z.toNat 0).map PyData.int)
   rw [List.map_map]
   rfl
  ·rintro d hm ρ ⟨x, rfl⟩
   obtain ⟨z, hz, rfl⟩ := List.mem_map.mp hm
   have ht := zjX (each z hz).1 (each z hz).2
   have hset : (xs ++ [x]).set 15 (some (Sl.pub (.int z))) = xs ++ [some (.pub (.int z))] := by
    rw [List.set_append_right _ _ (by omega), hxl]; rfl
   have hget : (xs ++ [some (Sl.pub (.int z))])[15]? = some (some (Sl.pub (.int z))) := by
    rw [List.getElem?_append_right (by omega), hxl]; rfl
   refine ⟨_, tg_N (by rw [List.length_append, hxl]; exact of_decide_eq_true rfl) hset, rfl, fun _ => ?_, some (.pub (.int z)), ?_⟩
   ·exact zaj (zas (zaa zab (zaa zab (zaa zab (zaa zab (zaa zab (zaa zab (zaa zab (zaa zab (zaa zab (zaa zab (zaa zab zah))))))))))) (of_decide_eq_true rfl)) (zad hget) ht.1
   ·unfold zbj at hx ⊢
    rw [List.map_append, hx]; rfl
  ·exact ⟨none, rfl⟩
  ·rw [List.length_map, hrowl, List.length_nil]; omega
 refine zar (zaZ (zdN (zct (zaX (zad rfl) (zaB zab) (zaB (zaj zab (zch rfl zab x0) zaK)) (by rw [zaF, hcut])) zig) (hc _ rfl rfl)) (of_decide_eq_true rfl) rfl) ?_
 refine zar (zaZ (zba zah (of_decide_eq_true rfl)) (of_decide_eq_true rfl) rfl) ?_
 apply zaJ
 apply zeI (invA (.list (ns.map PyData.int)) (.list (ds.map PyData.int)) (.list (sz6.map PyData.int)) at_ n cs)
 case h1 => exact zdf (zaa (zaj zab (zch rfl zab x1) zaK) zah) (zcL (by omega) (by omega))
 case h0 => exact ⟨[], _, _, _, _, _, _, rfl, rfl, fun _ h => by cases h⟩
 case hst => exact fun i d ρ e h => zhg hns hcl (by omega) (by omega) e h
 case hend =>
  rintro ρ ⟨ls, y9, y10, y11, y12, y13, y14, rfl, hll, hg⟩
  rw [za9] at hll
  refine zau (zaA (zbo (zaa (zbE rfl rfl) (zaa (zbE rfl rfl) zah)) (of_decide_eq_true rfl)) ⟨_, rfl, cs, ls, rfl, ?_⟩)
  exact ⟨by omega, by omega, fun c hc => by
   obtain ⟨z, hz, rfl⟩ := List.mem_map.mp hc
   exact (zjX (each z hz).1 (each z hz).2).2, by omega, by omega, fun rs hrs => by rw [hcl]; exact hg rs hrs⟩
theorem zld (a b : Int) : PyData.eqv (.int a) (.int b) = (a == b) := by simp [PyData.eqv]
theorem zle (t : Int) (r : List Int) : oIn (.int t) (zbw r) = some (r.contains t) := by
 have h1 : PyData.canLayAll0 (r.map PyData.int) = true := by
  induction r with
  | nil => rfl
  | cons x r ih => rw [List.map_cons]; unfold PyData.canLayAll0; rw [ih]; rfl
 unfold oIn zbw
 dsimp only
 rw [if_pos ⟨rfl, h1, Nat.zero_le _⟩]
 congr 1
 rw [List.any_map]
 clear h1
 induction r with
 | nil => rfl
 | cons x r ih =>
  rw [List.any_cons, ih, List.contains_cons]
  congr 1
  show PyData.eqv (.int x) (.int t) = (t == x)
  rw [zld]
  exact Bool.eq_iff_iff.2 ⟨fun h => beq_iff_eq.2 (beq_iff_eq.1 h).symm, fun h => beq_iff_eq.2 (beq_iff_eq.1 h).symm⟩
section
variable {cs : List Int} {ls : List (List (List Int))} {ws : List (Option Int)} {a : Nat} {o had : Option Int} {rs : List (List Int)} {t : Int}
end
section
variable {cs : List Int} {ls : List (List (List Int))} {ws us : List (Option Int)}
end
theorem zbZ {xs : List D} {a b : Option Int} : (DL.cutD xs a b).length <= xs.length := by
 unfold DL.cutD
 rw [List.length_take, List.length_drop]
 omega
theorem zbl {xs : List D} {a b : Option Int} {x : D} (h : x ∈ DL.cutD xs a b) : x ∈ xs := by
 unfold DL.cutD at h
 exact List.mem_of_mem_drop (List.mem_of_mem_take h)
theorem ziA {ns : List Int} {n : Int} {a b : Option Int} {i : Nat} {x : D} (h : (PyData.int n :: DL.cutD (ns.map PyData.int) a b)[i]? = some x) : ∃ c : Int, x = .int c := by
 have hm := List.mem_of_getElem? h
 rcases List.mem_cons.mp hm with rfl | hm
 ·exact ⟨n, rfl⟩
 ·obtain ⟨c, _, rfl⟩ := List.mem_map.mp (zbl hm)
  exact ⟨c, rfl⟩
theorem ziB {ns : List Int} {n : Int} {a b : Option Int} (h : ns.length <= 1000) : oAdd (.list [.int n]) (.list (DL.cutD (ns.map PyData.int) a b)) = some (.list (PyData.int n :: DL.cutD (ns.map PyData.int) a b)) := zav (by
 have := zbZ (xs := ns.map PyData.int) (a := a) (b := b)
 rw [List.length_map] at this
 show 1 + _ <= _
 omega)
theorem ixm {xs : List D} {i : Int} {n : Nat} (h0 : 0 <= i) (h1 : i < n) (hl : xs.length = n) : ∃ d, oIx (.list xs) (.int i) = some d /\ d ∈ xs := by
 have hi : i.toNat < xs.length := by omega
 exact ⟨xs[i.toNat], zmq h0 (List.getElem?_eq_getElem hi), List.getElem_mem hi⟩
def whB : D -> Bool
 | .int _ => true
 | _ => false
def belB (n : Int) : D -> Bool
 | .int i => decide (0 <= i) && decide (i < n)
 | _ => false
def rkB (n : Int) : D -> Bool
 | .list (x :: xs) => (x :: xs).all (belB n)
 | _ => false
def whI : D -> Option Int
 | .int i => some i
 | _ => none
def itI : D -> List Int
 | .list xs => xs.filterMap whI
 | _ => []
def flI (rs : List D) : List Int := rs.flatMap itI
def askB (n : Int) : D -> Bool
 | .list rs => decide (rs.length <= 5) && (rs.all (rkB n) && decide (flI rs).Nodup)
 | _ => false
theorem zcH (n : Int) (rs : List D) : askB n (.list rs) = (decide (rs.length <= 5) && (rs.all (rkB n) && decide (flI rs).Nodup)) := rfl
theorem zfP (d : D) : F_aa [d] = some (.bool (whB d)) := by
 cases d with
 | dict kvs => exact zc1 (ρ := [some (.pub (.dict kvs))]) rfl (zaA (ze0 (t := false) (u := false) (zjW (zad rfl)) fun z => by cases z) rfl)
 | _ => rfl
theorem zfQ (d : D) (n : Int) : F_ab [d, .int n] = some (.bool (belB n d)) := by
 refine zc1 (ρ := [some (.pub d), some (.pub (.int n))]) rfl ?_
 unfold g_ab
 cases d with
 | int i => exact zaA (ze0 (t := true) (u := decide (0 <= i) && decide (i < n)) (za7 (zaa (zad rfl) zah) rfl (zfP (.int i))) (fun _ => zcs (ze1 zab (zad rfl) rfl (fun _ => zad rfl) (fun _ => rfl)))) rfl
 | _ => exact zaA (ze0 (t := false) (u := false) (za7 (zaa (zad rfl) zah) rfl (zfP _)) (fun z => by cases z)) rfl
theorem zgM {n : Int} {d : D} (h : belB n d = true) : ∃ i, d = .int i /\ 0 <= i /\ i < n := by
 cases d with
 | int i =>
  have h : (decide (0 <= i) && decide (i < n)) = true := h
  simp only [Bool.and_eq_true, decide_eq_true_eq] at h
  exact ⟨i, rfl, h⟩
 | _ => cases h
theorem zgN {n : Int} : ∀ {xs : List D}, xs.all (belB n) = true -> xs = (xs.filterMap whI).map PyData.int
 | [], _ => rfl
 | x :: r, h => by
  rw [List.all_cons, Bool.and_eq_true] at h
  obtain ⟨i, rfl, _⟩ := zgM h.1
  have ih := zgN h.2
  show _ = (i :: r.filterMap whI).map PyData.int
  rw [List.map_cons, ← ih]
theorem zmJ {n : Int} {d : D} (h : rkB n d = true) : d = .list ((itI d).map PyData.int) := by
 cases d with
 | list xs =>
  cases xs with
  | nil => cases h
  | cons x r => exact congrArg PyData.list (zgN h)
 | _ => cases h
theorem zfR {q : D -> Bool} (xs : List D) : oAll [.list (xs.map fun d => .bool (q d))] = some (.bool (xs.all q)) := by
 have : (xs.map fun d => PyData.bool (q d)) = (xs.map q).map PyData.bool := by rw [List.map_map]; rfl
 rw [this, zkR]
 congr 2
 rw [List.all_map]
 rfl
theorem zgl {d : D} {n : Int} (hl : ∀ xs, d = .list xs -> xs.length <= 700) : F_ad [d, .int n] = some (.bool (rkB n d)) := by
 refine zc1 (ρ := [some (.pub d), some (.pub (.int n))]) rfl ?_
 unfold g_ad
 apply zaJ
 cases d with
 | list xs =>
  have hl := hl xs rfl
  apply zaI (b := decide ((xs.length : Int) = 0))
  case h1 => exact zbR (ρ1 := [some (.pub (.list xs)), some (.pub (.int n))]) (zaH (zad rfl) rfl) (zaj (zaR rfl zaN) zab zbm)
  case h2 =>
   intro hh
   have : (xs.length : Int) = 0 := by simpa using hh
   have e : xs = [] := List.eq_nil_of_length_eq_zero (by omega)
   subst e
   exact zaA zab (zat rfl)
  case h3 =>
   intro hh
   have hne : ¬ (xs.length : Int) = 0 := by simpa using hh
   refine zbk (zau ?_)
   have hc : zcJ (gN 2) (zaf true) (dFun 2 F_ab (zae (dVar 2) (zae (dVar 1) (mNil)))) xs (zbj [some (.pub (.list xs)), some (.pub (.int n))] ++ List.replicate 1 none) [] = some (xs.map fun d => .bool (belB n d)) := by
    rw [zco (fun _ => true) (fun d => .bool (belB n d)) (fun ρ => ∃ x, ρ = [some (.pub (.list xs)), some (.pub (.int n)), x])]
    ·rw [List.filter_eq_self.mpr (fun _ _ => rfl), List.nil_append]
    ·rintro d hm ρ ⟨x, rfl⟩
     exact ⟨_, tg_N (of_decide_eq_true rfl) rfl, rfl, fun _ => za7 (zaa (zad rfl) (zaa (zad rfl) zah)) rfl (zfQ d n), _, rfl⟩
    ·exact ⟨none, rfl⟩
    ·rw [List.length_nil]; omega
   refine zaA (zbs (zaa (zcs (zdN (zct (zad rfl) rfl) hc)) zah) (zfR xs)) ?_
   cases xs with
   | nil => exact absurd rfl hne
   | cons x r => rfl
 | dict kvs =>
  exact zaI (b := true) (zbt (zbY (zad rfl))) (fun _ => zaA zab (zat rfl)) (fun z => by cases z)
 | _ => exact zaI (b := true) (zbt (zaH (zad rfl) rfl)) (fun _ => zaA zab (zat rfl)) (fun z => by cases z)
theorem ziC {ns : List Int} : ∀ i, (PyProof.Rows.firstMet (fun i => ns.getD i 0) i).length <= i := by
 intro i
 induction i with
 | zero => exact Nat.le_refl _
 | succ i ih =>
  rw [PyProof.Rows.firstMet_succ]
  unfold PyProof.Rows.step_dedup
  split
  ·omega
  ·rw [List.length_append, List.length_singleton]; omega
theorem zfS {ns : List Int} (h : zdb ns = ns.length) : ns.Nodup := by
 unfold zdb at h
 have key : ∀ i, i <= ns.length -> (PyProof.Rows.firstMet (fun i => ns.getD i 0) i).length = i -> (ns.take i).Nodup := by
  intro i
  induction i with
  | zero => intro _ _; simp
  | succ i ih =>
   intro hi e
   rw [PyProof.Rows.firstMet_succ] at e
   unfold PyProof.Rows.step_dedup at e
   cases hany : (PyProof.Rows.firstMet (fun i => ns.getD i 0) i).any (· == ns.getD i 0) with
   | true =>
    rw [hany, if_pos rfl] at e
    have := ziC (ns := ns) i
    omega
   | false =>
    rw [hany, if_neg (by decide), List.length_append] at e
    have e : (PyProof.Rows.firstMet (fun i => ns.getD i 0) i).length = i := by simpa using e
    have ih := ih (by omega) e
    rw [List.take_succ_eq_append_getElem (by omega), List.nodup_append]
    refine ⟨ih, by simp, fun a ha b hb => ?_⟩
    rw [List.mem_singleton] at hb
    subst hb
    rw [PyProof.Rows.firstMet_any, List.any_eq_false] at hany
    obtain ⟨j, hj, rfl⟩ := List.mem_take_iff_getElem.mp ha
    have hj' : j < i := by have := hj; omega
    have := hany (ns.getD j 0) (List.mem_map.mpr ⟨j, List.mem_range.mpr hj', rfl⟩)
    have l1 : j < ns.length := by omega
    have l2 : i < ns.length := by omega
    simp only [List.getD, List.getElem?_eq_getElem l1, List.getElem?_eq_getElem l2, Option.getD_some, beq_iff_eq] at this
    exact this
 have := key ns.length (Nat.le_refl _) h
 rwa [List.take_length] at this
theorem ziD {ns : List Int} (h : ns.length <= 3500) : ∃ u : Nat, zdJ [.list (ns.map PyData.int)] = some (.int u) /\ decide ((u : Int) = ns.length) = decide ns.Nodup := by
 refine ⟨zdb ns, ?_, ?_⟩
 ·unfold zdJ
  dsimp only
  rw [zhb]
  dsimp only
  rw [if_pos (by omega)]
 ·by_cases e : ns.Nodup
  ·rw [zhf e, decide_eq_true e]; simp
  ·rw [decide_eq_false e, decide_eq_false]
   intro z
   exact e (zfS (by omega))
def RkSm (d : D) : Prop := ∀ rs, d = .list rs -> ∀ xs, .list xs ∈ rs -> xs.length <= 700
theorem zer {n : Int} : ∀ {rs : List D}, rs.all (rkB n) = true -> (∀ xs, .list xs ∈ rs -> xs.length <= 700) -> ∃ ls : List (List Int), rs = ls.map zbw /\ flI rs = ls.flatten /\ ls.flatten.length <= 700 * rs.length
 | [], _, _ => ⟨[], rfl, rfl, by simp⟩
 | d :: r, h, hs => by
  rw [List.all_cons, Bool.and_eq_true] at h
  obtain ⟨ls, e1, e2, e3⟩ := zer h.2 fun xs hx => hs xs (List.mem_cons_of_mem _ hx)
  have hd := zmJ h.1
  have hl := hs ((itI d).map PyData.int) (by rw [← hd]; exact List.mem_cons_self)
  rw [List.length_map] at hl
  refine ⟨itI d :: ls, ?_, ?_, ?_⟩
  ·rw [List.map_cons, ← e1]
   exact congrArg (· :: r) hd
  ·show itI d ++ flI r = _
   rw [e2, List.flatten_cons]
  ·rw [List.flatten_cons, List.length_append, List.length_cons]; omega
theorem zfT {d : D} {n : Int} (hs : RkSm d) : F_ae [d, .int n] = some (.bool (askB n d)) := by
 refine zc1 (ρ := [some (.pub d), some (.pub (.int n)), none]) rfl ?_
 unfold g_ae
 apply zaJ
 cases d with
 | list rs =>
  have hs := hs rs rfl
  apply zaI (b := decide ((5 : Int) < rs.length))
  case h1 => exact zbR (ρ1 := [some (.pub (.list rs)), some (.pub (.int n)), none]) (zaH (zad rfl) rfl) (zaj (zaR rfl zaN) zab rfl)
  case h2 =>
   intro hh
   have : (5 : Int) < (rs.length : Int) := by simpa using hh
   refine zaA zab (zat ?_)
   rw [zcH, decide_eq_false (by omega : ¬ rs.length <= 5)]
   rfl
  case h3 =>
   intro hh
   have h5 : ¬ (5 : Int) < (rs.length : Int) := by simpa using hh
   refine zbk (zau ?_)
   have hc : zcJ (gN 3) (zaf true) (dFun 2 F_ad (zae (dVar 3) (zae (dVar 1) (mNil)))) rs (zbj [some (.pub (.list rs)), some (.pub (.int n)), none] ++ List.replicate 1 none) [] = some (rs.map fun d => .bool (rkB n d)) := by
    rw [zco (fun _ => true) (fun d => .bool (rkB n d)) (fun ρ => ∃ x, ρ = [some (.pub (.list rs)), some (.pub (.int n)), none, x])]
    ·rw [List.filter_eq_self.mpr (fun _ _ => rfl), List.nil_append]
    ·rintro d hm ρ ⟨x, rfl⟩
     exact ⟨_, tg_N (of_decide_eq_true rfl) rfl, rfl, fun _ => za7 (zaa (zad rfl) (zaa (zad rfl) zah)) rfl (zgl (fun xs e => hs xs (by rw [← e]; exact hm))), _, rfl⟩
    ·exact ⟨none, rfl⟩
    ·rw [List.length_nil]; omega
   apply zaJ
   apply zaI
   case h1 => exact zcC (zbI (zbs (zaa (zcs (zdN (zct (zad rfl) rfl) hc)) zah) (zfR rs)))
   case h2 =>
    intro hh
    have e : rs.all (rkB n) = false := by simpa using hh
    refine zaA zab (zat ?_)
    rw [zcH, e, Bool.false_and, Bool.and_false]
   case h3 =>
    intro hh
    have e : rs.all (rkB n) = true := by simpa using hh
    refine zbk (zau ?_)
    obtain ⟨ls, e1, e2, e3⟩ := zer e hs
    have hfl : ls.flatten.length <= 3500 := by omega
    subst e1
    have h2 : zfE (zbQ (dVar 0)) 2 (gN 3) (zaf true) (zbQ (dVar 3)) (gN 4) (zaf true) (dVar 4) [some (.pub (.list (ls.map zbw))), some (.pub (.int n)), none] = .ok (ls.flatten.map PyData.int) [some (.pub (.list (ls.map zbw))), some (.pub (.int n)), none] := by
     unfold zfE
     have e1 : zbQ (dVar 0) [some (.pub (.list (ls.map zbw))), some (.pub (.int n)), none] = .ok (ls.map zbw) [some (.pub (.list (ls.map zbw))), some (.pub (.int n)), none] := zct (zad rfl) rfl
     rw [e1]
     dsimp only
     have e2 := zeq (a := .list (ls.map zbw)) (b := .int n) ls [] none none (by rw [List.length_nil]; omega)
     have e3 : zcX (gN 3) (zaf true) (zbQ (dVar 3)) (gN 4) (zaf true) (dVar 4) (ls.map zbw) (zbj [some (.pub (.list (ls.map zbw))), some (.pub (.int n)), none] ++ List.replicate 2 none) [] = some ([] ++ ls.flatten.map PyData.int) := e2
     rw [e3]
     rfl
    refine zar (zaZ h2 (of_decide_eq_true rfl) rfl) ?_
    obtain ⟨u, hu1, hu2⟩ := ziD hfl
    refine zaA (zcs (zaj (zbs (zaa (zbE rfl rfl) zah) hu1) (zaR rfl zaN) zbm)) ?_
    rw [List.length_map, hu2]
    rw [zcH, decide_eq_true (by omega : (ls.map zbw).length <= 5), e, e2, Bool.true_and, Bool.true_and]
 | dict kvs =>
  exact zaI (b := true) (zbt (zbY (zad rfl))) (fun _ => zaA zab (zat rfl)) (fun z => by cases z)
 | _ => exact zaI (b := true) (zbt (zaH (zad rfl) rfl)) (fun _ => zaA zab (zat rfl)) (fun z => by cases z)
def dueW : D -> Option (Str × D)
 | .tuple [c, l] => (match c with
  | .list cs => if 1 <= cs.length /\ cs.length <= 6 then (match fb (belB 8) 0 cs with
    | some k => some ("copies", .int k)
    | none => (match l with
     | .list ls => if 1 <= ls.length /\ ls.length <= 7 then (match fb (askB cs.length) 0 ls with
       | some k => some ("lists", .int k)
       | none => none) else some ("lists", .none)
     | _ => some ("lists", .none))) else some ("copies", .none)
  | _ => some ("copies", .none))
 | _ => some ("wishes", .none)
def dueX (o : Option (Str × D)) : XR := match o with
 | none => .val .none
 | some (p, n) => .exc (exD "NoWishes" [.str p, n])
theorem zcO {p : Str} {n : D} (h1 : p.length <= 1000) (h2 : ze5 n = true) : ze6 "NoWishes" [.str p, n] = some [.str p, n] := by
 have e : zcx "NoWishes" = (["part", "number"] : List Str) := rfl
 unfold ze6
 rw [e]
 dsimp only
 have h3 : ze5 (.str p) = true := decide_eq_true h1
 rw [if_pos ⟨rfl, by rw [List.all_cons, List.all_cons, h2, h3]; rfl⟩]
theorem ziE {j : Nat} (h : j < 1000000) : ze5 (.int j) = true := by
 unfold ze5
 simp only [Bool.and_eq_true, decide_eq_true_eq]
 constructor <;> omega
def dueC (c : D) : Option (Str × D) := match c with
 | .list cs => if 1 <= cs.length /\ cs.length <= 6 then (match fb (belB 8) 0 cs with
  | some k => some ("copies", .int k)
  | none => none) else some ("copies", .none)
 | _ => some ("copies", .none)
def dueL (n : Int) (l : D) : Option (Str × D) := match l with
 | .list ls => if 1 <= ls.length /\ ls.length <= 7 then (match fb (askB n) 0 ls with
  | some k => some ("lists", .int k)
  | none => none) else some ("lists", .none)
 | _ => some ("lists", .none)
theorem zdA {m : Nat} {k : Int} : (!(decide ((1 : Int) <= m) && decide ((m : Int) <= k))) = decide (¬ (1 <= m /\ (m : Int) <= k)) := by
 by_cases h : (1 : Int) <= m <;> by_cases h2 : (m : Int) <= k
 ·rw [decide_eq_true h, decide_eq_true h2, decide_eq_false (by omega)]; rfl
 ·rw [decide_eq_false h2, Bool.and_false, decide_eq_true (by omega)]; rfl
 ·rw [decide_eq_false h, Bool.false_and, decide_eq_true (by omega)]; rfl
 ·rw [decide_eq_false h, Bool.false_and, decide_eq_true (by omega)]; rfl
theorem zlf (d : D) : zbA [d] = some (dueX (dueC d)) := by
 refine zk6 (ρ := [some (.pub d), none, none]) rfl ?_
 unfold zb7
 apply zaJ
 cases d with
 | list cs =>
  apply zaI
  case h1 => exact zbR (ρ1 := [some (.pub (.list cs)), none, none]) (zaH (zad rfl) rfl) (zcC (ze1 zab (zaR rfl zaN) rfl (fun _ => zab) (fun _ => rfl)))
  case h2 =>
   intro hh
   rw [zdA] at hh
   have hh := of_decide_eq_true hh
   refine zaV (zci (zaa zab (zaa zab zah)) (zcO (by decide) rfl)) (zb9 ?_)
   unfold dueC
   dsimp only
   rw [if_neg (by omega)]
   exact ⟨rfl, rfl⟩
  case h3 =>
   intro hh
   rw [zdA] at hh
   have hh := of_decide_eq_false hh
   have hl : 1 <= cs.length /\ cs.length <= 6 := by omega
   have ed : dueC (.list cs) = (match fb (belB 8) 0 cs with
    | some k => some ("copies", .int k)
    | none => none) := by unfold dueC; dsimp only; rw [if_pos hl]
   refine zbk (zau ?_)
   rw [ed]
   refine zd1 (xs := cs) (belB 8) (fun ρ => ∃ x1 x2, ρ = [some (.pub (.list cs)), x1, x2]) (zdL (zaa (zad rfl) zah) zc6) ⟨_, _, rfl⟩ ?_ ?_
   ·rintro x hx j ρ hj ⟨x1, x2, rfl⟩
    refine ⟨_, tg_T rfl (tg_C (tg_N (of_decide_eq_true rfl) rfl) (tg_C (tg_N (of_decide_eq_true rfl) rfl) tg_0)), ?_⟩
    unfold zcf
    refine zaI (zcC (zbI (za7 (zaa (zad rfl) (zaa (zaj zab zab zaK) zah)) rfl (zfQ x 8)))) (fun z => ?_) fun z => ?_
    ·refine zaV (zci (zaa zab (zaa (zad rfl) zah)) (zcO (by decide) (ziE (by omega)))) (zmA (by simpa using z) fun e => ?_)
     rw [e]
     exact ⟨rfl, rfl⟩
    ·exact zbk (zjw (by simpa using z) ⟨_, _, rfl⟩)
   ·intro e ρ _
    rw [e]
    rfl
 | dict kvs =>
  exact zaI (b := true) (zbt (zbY (zad rfl))) (fun _ => zaV (zci (zaa zab (zaa zab zah)) (zcO (by decide) rfl)) (zb9 ⟨rfl, rfl⟩)) (fun z => by cases z)
 | _ => exact zaI (b := true) (zbt (zaH (zad rfl) rfl)) (fun _ => zaV (zci (zaa zab (zaa zab zah)) (zcO (by decide) rfl)) (zb9 ⟨rfl, rfl⟩)) (fun z => by cases z)
theorem zmK {d : D} {n : Int} (hs : ∀ ls, d = .list ls -> ls.length <= 7 -> ∀ x ∈ ls, RkSm x) : zbJ [d, .int n] = some (dueX (dueL n d)) := by
 refine zk6 (ρ := [some (.pub d), some (.pub (.int n)), none, none]) rfl ?_
 unfold zcd
 apply zaJ
 cases d with
 | list cs =>
  apply zaI
  case h1 => exact zbR (ρ1 := [some (.pub (.list cs)), some (.pub (.int n)), none, none]) (zaH (zad rfl) rfl) (zcC (ze1 zab (zaR rfl zaN) rfl (fun _ => zab) (fun _ => rfl)))
  case h2 =>
   intro hh
   rw [zdA] at hh
   have hh := of_decide_eq_true hh
   refine zaV (zci (zaa zab (zaa zab zah)) (zcO (by decide) rfl)) (zb9 ?_)
   unfold dueL
   dsimp only
   rw [if_neg (by omega)]
   exact ⟨rfl, rfl⟩
  case h3 =>
   intro hh
   rw [zdA] at hh
   have hh := of_decide_eq_false hh
   have hl : 1 <= cs.length /\ cs.length <= 7 := by omega
   have hs := hs cs rfl hl.2
   have ed : dueL n (.list cs) = (match fb (askB n) 0 cs with
    | some k => some ("lists", .int k)
    | none => none) := by unfold dueL; dsimp only; rw [if_pos hl]
   refine zbk (zau ?_)
   rw [ed]
   refine zd1 (xs := cs) (askB n) (fun ρ => ∃ x1 x2, ρ = [some (.pub (.list cs)), some (.pub (.int n)), x1, x2]) (zdL (zaa (zad rfl) zah) zc6) ⟨_, _, rfl⟩ ?_ ?_
   ·rintro x hx j ρ hj ⟨x1, x2, rfl⟩
    refine ⟨_, tg_T rfl (tg_C (tg_N (of_decide_eq_true rfl) rfl) (tg_C (tg_N (of_decide_eq_true rfl) rfl) tg_0)), ?_⟩
    unfold zcp
    refine zaI (zcC (zbI (za7 (zaa (zad rfl) (zaa (zad rfl) zah)) rfl (zfT (n := n) (hs x hx))))) (fun z => ?_) fun z => ?_
    ·refine zaV (zci (zaa zab (zaa (zad rfl) zah)) (zcO (by decide) (ziE (by omega)))) (zmA (by simpa using z) fun e => ?_)
     rw [e]
     exact ⟨rfl, rfl⟩
    ·exact zbk (zjw (by simpa using z) ⟨_, _, rfl⟩)
   ·intro e ρ _
    rw [e]
    rfl
 | dict kvs =>
  exact zaI (b := true) (zbt (zbY (zad rfl))) (fun _ => zaV (zci (zaa zab (zaa zab zah)) (zcO (by decide) rfl)) (zb9 ⟨rfl, rfl⟩)) (fun z => by cases z)
 | _ => exact zaI (b := true) (zbt (zaH (zad rfl) rfl)) (fun _ => zaV (zci (zaa zab (zaa zab zah)) (zcO (by decide) rfl)) (zb9 ⟨rfl, rfl⟩)) (fun z => by cases z)
def WsSm (d : D) : Prop := ∀ c ls, d = .tuple [c, .list ls] -> ls.length <= 7 -> ∀ x ∈ ls, RkSm x
theorem zes (c l : D) : dueW (.tuple [c, l]) = (match dueC c with
  | some x => some x
  | none => (match c with | .list cs => dueL cs.length l | _ => none)) := by
 unfold dueW dueC dueL
 cases c with
 | list cs =>
  dsimp only
  by_cases h : 1 <= cs.length /\ cs.length <= 6
  ·rw [if_pos h, if_pos h]
   cases fb (belB 8) 0 cs with
   | some k => rfl
   | none => cases l <;> rfl
  ·rw [if_neg h, if_neg h]
 | _ => rfl
theorem zlg {d : D} (hs : WsSm d) : zbB [d] = some (dueX (dueW d)) := by
 refine zk6 (ρ := [some (.pub d), none, none]) rfl ?_
 unfold zb8
 apply zaJ
 have odd : ∀ {o : Out -> Prop}, Ho (zcN "NoWishes" (zae (zaf (.str "wishes")) (zae (zaf .none) (mNil)))) [some (.pub d), none, none] (fun z => z = .ex [some (.pub d), none, none] (exD "NoWishes" [.str "wishes", .none])) := zaV (zci (zaa zab (zaa zab zah)) (zcO (by decide) rfl)) rfl
 cases d with
 | tuple xs =>
  by_cases hl : xs.length = 2
  ·obtain ⟨c, l, rfl⟩ : ∃ c l, xs = [c, l] := by
    match xs, hl with
    | [c, l], _ => exact ⟨c, l, rfl⟩
   apply zaI
   case h1 => exact zbR (ρ1 := [some (.pub (.tuple [c, l])), none, none]) (zaH (zad rfl) rfl) (zaj (zaR rfl rfl) zab zel)
   case h2 => intro hh; cases hh
   case h3 =>
    intro _
    refine zbk (zau ?_)
    refine zar (zcZ (zad rfl) (tg_T rfl (tg_C (tg_N (of_decide_eq_true rfl) rfl) (tg_C (tg_N (of_decide_eq_true rfl) rfl) tg_0)))) ?_
    rw [zes]
    have hc := zlf c
    cases z : dueC c with
    | some x =>
     obtain ⟨p, n⟩ := x
     rw [z] at hc
     apply zaJ
     exact zaV (zk3 (zdP (zaa (zad rfl) zah) rfl hc)) (zb9 ⟨rfl, rfl⟩)
    | none =>
     rw [z] at hc
     obtain ⟨cs, rfl⟩ : ∃ cs, c = .list cs := by
      unfold dueC at z
      cases c with
      | list cs => exact ⟨cs, rfl⟩
      | _ => cases z
     refine zar (zk2 (zdP (zaa (zad rfl) zah) rfl hc) rfl) ?_
     have hL := zmK (d := l) (n := cs.length) (fun ls e => hs (.list cs) ls (by rw [e]))
     dsimp only
     cases z2 : dueL cs.length l with
     | some x =>
      obtain ⟨p, n⟩ := x
      rw [z2] at hL
      exact zaV (zk3 (zdP (zaa (zad rfl) (zaa (zaR rfl zaN) zah)) rfl hL)) ⟨rfl, rfl⟩
     | none =>
      rw [z2] at hL
      exact zaV (zk2 (zdP (zaa (zad rfl) (zaa (zaR rfl zaN) zah)) rfl hL) rfl) rfl
  ·have hd : dueW (.tuple xs) = some (("wishes" : Str), (.none : D)) := by
    unfold dueW
    split
    ·rename_i h; cases h; exact absurd rfl hl
    ·rfl
   apply zaI
   case h1 => exact zbR (ρ1 := [some (.pub (.tuple xs)), none, none]) (zaH (zad rfl) rfl) (zaj (zaR rfl ze2) zab zel)
   case h2 =>
    intro _
    refine ze3 (odd (o := fun _ => True)) fun o e => ?_
    subst e
    exact zb9 (by rw [hd]; exact ⟨rfl, rfl⟩)
   case h3 =>
    intro hh
    have : (xs.length : Int) = 2 := by simpa using hh
    omega
 | dict kvs =>
  exact zaI (b := true) (zbt (zbY (zad rfl))) (fun _ => ze3 (odd (o := fun _ => True)) fun o e => by subst e; exact zb9 ⟨rfl, rfl⟩) (fun z => by cases z)
 | _ => exact zaI (b := true) (zbt (zaH (zad rfl) rfl)) (fun _ => ze3 (odd (o := fun _ => True)) fun o e => by subst e; exact zb9 ⟨rfl, rfl⟩) (fun z => by cases z)
theorem zc7 (d : D) : F_al [d] = some (.bool (whB d)) := by
 cases d with
 | dict kvs => exact zc1 (ρ := [some (.pub (.dict kvs))]) rfl (zaA (ze0 (t := false) (u := false) (zjW (zad rfl)) fun z => by cases z) rfl)
 | _ => rfl
theorem zhh (ds : List D) : F_ak [exD "NoWishes" ds] = some (.list [.int 0]) := by kernel_rfl
theorem zet {a c : D} {n : Int} : ∀ (xs : List D) (ss : List Int) (x4 : Option Sl), ss.Nodup -> ss.length + xs.length <= 100000 ->
  ((xs.all (belB n) && decide (ss ++ xs.filterMap whI).Nodup) = true /\ ∃ y, zbM (gN 4) zbO xs [some (.pub a), some (.pub (.int n)), some (.own (ss.map PyData.int)), some (.pub c), x4] = .nx [some (.pub a), some (.pub (.int n)), some (.own ((ss ++ xs.filterMap whI).map PyData.int)), some (.pub c), y]) ∨
  ((xs.all (belB n) && decide (ss ++ xs.filterMap whI).Nodup) = false /\ zbM (gN 4) zbO xs [some (.pub a), some (.pub (.int n)), some (.own (ss.map PyData.int)), some (.pub c), x4] = .rt (.bool false))
 | [], ss, x4, hn, _ => .inl ⟨by simp [hn], x4, by rw [zbM]; simp⟩
 | x :: r, ss, x4, hn, hl => by
  rw [List.length_cons] at hl
  have h1 : gN 4 x [some (.pub a), some (.pub (.int n)), some (.own (ss.map PyData.int)), some (.pub c), x4] = some [some (.pub a), some (.pub (.int n)), some (.own (ss.map PyData.int)), some (.pub c), some (.pub x)] := tg_N (of_decide_eq_true rfl) rfl
  have bad : belB n x = false -> zbO [some (.pub a), some (.pub (.int n)), some (.own (ss.map PyData.int)), some (.pub c), some (.pub x)] = .rt (.bool false) -> zbM (gN 4) zbO (x :: r) [some (.pub a), some (.pub (.int n)), some (.own (ss.map PyData.int)), some (.pub c), x4] = .rt (.bool false) := fun _ e => by
   rw [zbM, h1]; dsimp only; rw [e]
  cases hb : belB n x with
  | false =>
   refine .inr ⟨by rw [List.all_cons, hb]; rfl, bad hb ?_⟩
   have : Ho zbO [some (.pub a), some (.pub (.int n)), some (.own (ss.map PyData.int)), some (.pub c), some (.pub x)] (fun o => o = .rt (.bool false)) := by
    unfold zbO
    apply zaJ
    cases hw : whB x with
    | false =>
     have hww : F_al [x] = some (.bool false) := by rw [zc7, hw]
     exact zaI (b := true) (zbt (zcC (zbI (t := false) (za7 (zaa (zad rfl) zah) rfl hww)))) (fun _ => zaA zab (zat rfl)) fun z => by cases z
    | true =>
     obtain ⟨i, rfl⟩ : ∃ i, x = .int i := by
      cases x with
      | int i => exact ⟨i, rfl⟩
      | _ => cases hw
     refine zaI (ρ1 := [some (.pub a), some (.pub (.int n)), some (.own (ss.map PyData.int)), some (.pub c), some (.pub (.int i))]) (b := true) (zbR (zcC (zbI (t := true) (za7 (zaa (zad rfl) zah) rfl (zc7 (.int i))))) ?_) (fun _ => zaA zab (zat rfl)) fun z => by cases z
     have hb : (decide (0 <= i) && decide (i < n)) = false := hb
     by_cases h0 : i < 0
     ·exact zbt (zbc rfl zab (by rw [zeH, decide_eq_true h0]))
     ·refine zbR (zbc rfl zab (by rw [zeH, decide_eq_false h0])) ?_
      have h1 : n <= i := by
       rw [decide_eq_true (by omega), Bool.true_and] at hb
       have := of_decide_eq_false hb
       omega
      exact zbt (zbc rfl (zad rfl) (by rw [zeH, decide_eq_true h1]))
   exact this.out
  | true =>
   obtain ⟨i, rfl, h0, h1'⟩ := zgM hb
   have ew : (PyData.int i :: r).filterMap whI = i :: r.filterMap whI := rfl
   rw [ew]
   have test : mOr (mNot (za2 (dFun 1 F_al (zae (dVar 4) (mNil))))) (mOr (zbv (oIB fun i j => decide (i < j)) 4 (zaf (.int 0))) (mOr (zbv (oIB fun i j => decide (j <= i)) 4 (dVar 1)) (zhd oIn (dVar 4) 2))) [some (.pub a), some (.pub (.int n)), some (.own (ss.map PyData.int)), some (.pub c), some (.pub (.int i))] = .ok (ss.contains i) [some (.pub a), some (.pub (.int n)), some (.own (ss.map PyData.int)), some (.pub c), some (.pub (.int i))] :=
    zbR (zcC (zbI (t := true) (za7 (zaa (zad rfl) zah) rfl (zc7 (.int i))))) (zbR (zbc rfl zab (by rw [zeH, decide_eq_false (by omega)])) (zbR (zbc rfl (zad rfl) (by rw [zeH, decide_eq_false (by omega)])) (zjq (zad rfl) rfl (zle i ss))))
   cases hc : ss.contains i with
   | true =>
    rw [hc] at test
    have hm : i ∈ ss := by simpa using hc
    refine .inr ⟨?_, ?_⟩
    ·rw [decide_eq_false, Bool.and_false]
     intro z
     rw [List.nodup_append] at z
     exact z.2.2 i hm i List.mem_cons_self rfl
    ·have : Ho zbO [some (.pub a), some (.pub (.int n)), some (.own (ss.map PyData.int)), some (.pub c), some (.pub (.int i))] (fun o => o = .rt (.bool false)) := by
      unfold zbO
      apply zaJ
      exact zaI test (fun _ => zaA zab (zat rfl)) fun z => by cases z
     rw [zbM, h1]; dsimp only; rw [this.out]
   | false =>
    rw [hc] at test
    have hm : ¬ i ∈ ss := by simpa using hc
    have hn' : (ss ++ [i]).Nodup := by
     rw [List.nodup_append]
     exact ⟨hn, by simp, fun x hx y hy => by rw [List.mem_singleton] at hy; subst hy; exact fun e => hm (e ▸ hx)⟩
    have : Ho zbO [some (.pub a), some (.pub (.int n)), some (.own (ss.map PyData.int)), some (.pub c), some (.pub (.int i))] (fun o => o = .nx [some (.pub a), some (.pub (.int n)), some (.own ((ss ++ [i]).map PyData.int)), some (.pub c), some (.pub (.int i))]) := by
     unfold zbO
     apply zaJ
     refine zaI test (fun z => by cases z) fun _ => zbk (zau ?_)
     exact zaV (zgD rfl (zad rfl) rfl (by rw [List.length_map]; omega) (by rw [List.map_append]; rfl)) rfl
    have st : zbM (gN 4) zbO (.int i :: r) [some (.pub a), some (.pub (.int n)), some (.own (ss.map PyData.int)), some (.pub c), x4] = zbM (gN 4) zbO r [some (.pub a), some (.pub (.int n)), some (.own ((ss ++ [i]).map PyData.int)), some (.pub c), some (.pub (.int i))] := by
     rw [zbM, h1]; dsimp only; rw [this.out]
    have ea : ss ++ i :: r.filterMap whI = (ss ++ [i]) ++ r.filterMap whI := by rw [List.append_assoc]; rfl
    rw [st, ea, List.all_cons, hb, Bool.true_and]
    exact zet r (ss ++ [i]) _ hn' (by rw [List.length_append, List.length_singleton]; omega)
theorem zeu {a : D} {n : Int} : ∀ (rs : List D) (ss : List Int) (x3 x4 : Option Sl), (∀ xs, .list xs ∈ rs -> xs.length <= 700) -> ss.Nodup -> ss.length + 700 * rs.length <= 100000 ->
  ((rs.all (rkB n) && decide (ss ++ flI rs).Nodup) = true /\ ∃ y z, zbM (gN 3) zbF rs [some (.pub a), some (.pub (.int n)), some (.own (ss.map PyData.int)), x3, x4] = .nx [some (.pub a), some (.pub (.int n)), some (.own ((ss ++ flI rs).map PyData.int)), y, z]) ∨
  ((rs.all (rkB n) && decide (ss ++ flI rs).Nodup) = false /\ zbM (gN 3) zbF rs [some (.pub a), some (.pub (.int n)), some (.own (ss.map PyData.int)), x3, x4] = .rt (.bool false))
 | [], ss, x3, x4, _, hn, _ => .inl ⟨by simp [flI, hn], x3, x4, by rw [zbM]; simp [flI]⟩
 | x :: r, ss, x3, x4, hs, hn, hl => by
  rw [List.length_cons] at hl
  have h1 : gN 3 x [some (.pub a), some (.pub (.int n)), some (.own (ss.map PyData.int)), x3, x4] = some [some (.pub a), some (.pub (.int n)), some (.own (ss.map PyData.int)), some (.pub x), x4] := tg_N (of_decide_eq_true rfl) rfl
  have ef : flI (x :: r) = itI x ++ flI r := rfl
  have odd : ∀ (hx : rkB n x = false) (hq : Ho zbF [some (.pub a), some (.pub (.int n)), some (.own (ss.map PyData.int)), some (.pub x), x4] (fun o => o = .rt (.bool false))), ((x :: r).all (rkB n) && decide (ss ++ flI (x :: r)).Nodup) = false /\ zbM (gN 3) zbF (x :: r) [some (.pub a), some (.pub (.int n)), some (.own (ss.map PyData.int)), x3, x4] = .rt (.bool false) := fun hx hq =>
   ⟨by rw [List.all_cons, hx]; rfl, by rw [zbM, h1]; dsimp only; rw [hq.out]⟩
  cases x with
  | list xs =>
   have hxl := hs xs List.mem_cons_self
   cases xs with
   | nil =>
    refine .inr (odd rfl ?_)
    unfold zbF
    apply zaJ
    exact zaI (b := true) (zbR (zaH (zad rfl) rfl) (zaj (zaR rfl zaN) zab (by rw [zbm]; rfl))) (fun _ => zaA zab (zat rfl)) fun z => by cases z
   | cons x0 xr =>
    have enter : zbF [some (.pub a), some (.pub (.int n)), some (.own (ss.map PyData.int)), some (.pub (.list (x0 :: xr))), x4] = zbM (gN 4) zbO (x0 :: xr) [some (.pub a), some (.pub (.int n)), some (.own (ss.map PyData.int)), some (.pub (.list (x0 :: xr))), x4] := by
     have : Ho zbF [some (.pub a), some (.pub (.int n)), some (.own (ss.map PyData.int)), some (.pub (.list (x0 :: xr))), x4] (fun o => o = zbM (gN 4) zbO (x0 :: xr) [some (.pub a), some (.pub (.int n)), some (.own (ss.map PyData.int)), some (.pub (.list (x0 :: xr))), x4]) := by
      unfold zbF
      apply zaJ
      refine zaI (b := false) (zbR (zaH (zad rfl) rfl) (zaj (zaR rfl zaN) zab (by rw [zbm, decide_eq_false (by rw [List.length_cons]; omega)]))) (fun z => by cases z) fun _ => zbk (zau ?_)
      constructor
      unfold sFor sB
      have e : zbQ (dVar 3) [some (.pub a), some (.pub (.int n)), some (.own (ss.map PyData.int)), some (.pub (.list (x0 :: xr))), x4] = .ok (x0 :: xr) [some (.pub a), some (.pub (.int n)), some (.own (ss.map PyData.int)), some (.pub (.list (x0 :: xr))), x4] := zct (zad rfl) rfl
      rw [e]
     exact this.out
    have er : rkB n (.list (x0 :: xr)) = (x0 :: xr).all (belB n) := rfl
    have ei : itI (.list (x0 :: xr)) = (x0 :: xr).filterMap whI := rfl
    rcases zet (a := a) (c := .list (x0 :: xr)) (n := n) (x0 :: xr) ss x4 hn (by omega) with ⟨e, y, h⟩ | ⟨e, h⟩
    ·rw [Bool.and_eq_true] at e
     have hn2 := of_decide_eq_true e.2
     have st : zbM (gN 3) zbF (.list (x0 :: xr) :: r) [some (.pub a), some (.pub (.int n)), some (.own (ss.map PyData.int)), x3, x4] = zbM (gN 3) zbF r [some (.pub a), some (.pub (.int n)), some (.own ((ss ++ (x0 :: xr).filterMap whI).map PyData.int)), some (.pub (.list (x0 :: xr))), y] := by
      rw [zbM, h1]; dsimp only; rw [enter, h]
     have hlf : ((x0 :: xr).filterMap whI).length <= 700 := Nat.le_trans (List.length_filterMap_le _ _) hxl
     rw [st, List.all_cons, er, e.1, Bool.true_and, ef, ei, ← List.append_assoc]
     exact zeu r _ _ _ (fun xs hx => hs xs (List.mem_cons_of_mem _ hx)) hn2 (by rw [List.length_append]; omega)
    ·refine .inr ⟨?_, by rw [zbM, h1]; dsimp only; rw [enter, h]⟩
     rw [List.all_cons, er, ef, ei]
     cases e1 : (x0 :: xr).all (belB n) with
     | false => rfl
     | true =>
      rw [e1, Bool.true_and] at e
      have e := of_decide_eq_false e
      rw [Bool.true_and, decide_eq_false, Bool.and_false]
      intro z
      rw [← List.append_assoc] at z
      exact e (List.nodup_append.mp z).1
  | dict kvs =>
   refine .inr (odd rfl ?_)
   unfold zbF
   apply zaJ
   exact zaI (b := true) (zbt (zbY (zad rfl))) (fun _ => zaA zab (zat rfl)) fun z => by cases z
  | _ =>
   refine .inr (odd rfl ?_)
   unfold zbF
   apply zaJ
   exact zaI (b := true) (zbt (zaH (zad rfl) rfl)) (fun _ => zaA zab (zat rfl)) fun z => by cases z
theorem zfb {d : D} {n : Int} (hs : RkSm d) : F_am [d, .int n] = some (.bool (askB n d)) := by
 refine zc1 (ρ := [some (.pub d), some (.pub (.int n)), none, none, none]) rfl ?_
 unfold g_am
 apply zaJ
 cases d with
 | list rs =>
  have hs := hs rs rfl
  apply zaI (b := decide ((5 : Int) < rs.length))
  case h1 => exact zbR (ρ1 := [some (.pub (.list rs)), some (.pub (.int n)), none, none, none]) (zaH (zad rfl) rfl) (zaj (zaR rfl zaN) zab rfl)
  case h2 =>
   intro hh
   have : (5 : Int) < (rs.length : Int) := by simpa using hh
   refine zaA zab (zat ?_)
   rw [zcH, decide_eq_false (by omega : ¬ rs.length <= 5)]
   rfl
  case h3 =>
   intro hh
   have h5 : ¬ (5 : Int) < (rs.length : Int) := by simpa using hh
   refine zbk (zau ?_)
   refine zar (zaZ (zba zah (Nat.zero_le _)) (of_decide_eq_true rfl) rfl) ?_
   apply zaJ
   constructor
   rw [zcH, decide_eq_true (by omega : rs.length <= 5), Bool.true_and]
   have e : zbQ (dVar 0) [some (.pub (.list rs)), some (.pub (.int n)), some (.own []), none, none] = .ok rs [some (.pub (.list rs)), some (.pub (.int n)), some (.own []), none, none] := zct (zad rfl) rfl
   have e0 : sFor (zbQ (dVar 0)) (gN 3) zbF [some (.pub (.list rs)), some (.pub (.int n)), some (.own []), none, none] = zbM (gN 3) zbF rs [some (.pub (.list rs)), some (.pub (.int n)), some (.own (([] : List Int).map PyData.int)), none, none] := by
    unfold sFor sB; rw [e]; rfl
   show zid _ _ (sFor (zbQ (dVar 0)) (gN 3) zbF [some (.pub (.list rs)), some (.pub (.int n)), some (.own []), none, none])
   rw [e0]
   rcases zeu (a := .list rs) (n := n) rs [] none none hs List.nodup_nil (by rw [List.length_nil]; omega) with ⟨q, y, z, h⟩ | ⟨q, h⟩
   ·rw [List.nil_append] at q
    rw [h, q]
    exact zau (zaA zab rfl)
   ·rw [List.nil_append] at q
    rw [h, q]
    exact zat rfl
 | dict kvs =>
  exact zaI (b := true) (zbt (zbY (zad rfl))) (fun _ => zaA zab (zat rfl)) (fun z => by cases z)
 | _ => exact zaI (b := true) (zbt (zaH (zad rfl) rfl)) (fun _ => zaA zab (zat rfl)) (fun z => by cases z)
def dueD (o : Option (Str × D)) : D := match o with
 | none => .none
 | some (p, n) => .tuple [.str p, n]
theorem zgO {m : Nat} {k : Int} : (decide ((m : Int) < 1) || decide (k < (m : Int))) = decide (¬ (1 <= m /\ (m : Int) <= k)) := by
 by_cases h : (m : Int) < 1 <;> by_cases h2 : k < (m : Int)
 ·rw [decide_eq_true h, decide_eq_true (show ¬ (1 <= m /\ (m : Int) <= k) by omega)]; rfl
 ·rw [decide_eq_true h, decide_eq_true (show ¬ (1 <= m /\ (m : Int) <= k) by omega)]; rfl
 ·rw [decide_eq_true h2, decide_eq_true (show ¬ (1 <= m /\ (m : Int) <= k) by omega), Bool.or_true]
 ·rw [decide_eq_false h, decide_eq_false h2, decide_eq_false (show ¬ ¬ (1 <= m /\ (m : Int) <= k) by omega)]; rfl
theorem zjB {x : D} {a b c k : D} {ls : Option Sl} : mOr (mNot (za2 (dFun 1 F_al (zae (dVar 4) (mNil))))) (mOr (zbv (oIB fun i j => decide (i < j)) 4 (zaf (.int 0))) (zbv (oIB fun i j => decide (j < i)) 4 (zaf (.int 7)))) [some (.pub a), some (.pub b), some (.pub c), some (.pub k), some (.pub x), ls] = .ok (!belB 8 x) [some (.pub a), some (.pub b), some (.pub c), some (.pub k), some (.pub x), ls] := by
 have hw := zc7 x
 cases x with
 | int i =>
  refine zbR (zcC (zbI (t := true) (za7 (zaa (zad rfl) zah) rfl hw))) ?_
  have e : (!belB 8 (.int i)) = (decide (i < 0) || decide (7 < i)) := by
   show (!(decide (0 <= i) && decide (i < 8))) = _
   by_cases h : i < 0 <;> by_cases h2 : 7 < i
   ·omega
   ·rw [decide_eq_true h, decide_eq_false (by omega : ¬ 0 <= i)]; rfl
   ·rw [decide_eq_true h2, decide_eq_false (by omega : ¬ i < 8), Bool.and_false, Bool.or_true]; rfl
   ·rw [decide_eq_false h, decide_eq_false h2, decide_eq_true (by omega : 0 <= i), decide_eq_true (by omega : i < 8)]; rfl
  rw [e]
  exact zkM (zbc rfl zab rfl) fun _ => zbc rfl zab rfl
 | _ => exact zbt (zcC (zbI (t := false) (za7 (zaa (zad rfl) zah) rfl hw)))
theorem zlh {d : D} (hs : WsSm d) : F_an [d] = some (dueD (dueW d)) := by
 refine zc1 (ρ := [some (.pub d), none, none, none, none, none]) rfl ?_
 unfold g_an
 apply zaJ
 cases d with
 | tuple xs =>
  by_cases hl : xs.length = 2
  ·obtain ⟨c, l, rfl⟩ : ∃ c l, xs = [c, l] := by
    match xs, hl with
    | [c, l], _ => exact ⟨c, l, rfl⟩
   apply zaI
   case h1 => exact zbR (ρ1 := [some (.pub (.tuple [c, l])), none, none, none, none, none]) (zaH (zad rfl) rfl) (zaj (zaR rfl rfl) zab zel)
   case h2 => intro hh; cases hh
   case h3 =>
    intro _
    refine zbk (zau ?_)
    refine zar (zcZ (zad rfl) (tg_T rfl (tg_C (tg_N (of_decide_eq_true rfl) rfl) (tg_C (tg_N (of_decide_eq_true rfl) rfl) tg_0)))) ?_
    rw [zes]
    apply zaJ
    cases c with
    | list cs =>
     apply zaI
     case h1 => exact zbR (zaH (zad rfl) rfl) (zkM (zaj (zaR rfl zaN) zab rfl) fun _ => zaj (zaR rfl zaN) zab rfl)
     case h2 =>
      intro hh
      rw [zgO] at hh
      have hh := of_decide_eq_true hh
      refine zaA (zbo (zaa zab (zaa zab zah)) (of_decide_eq_true rfl)) (zat ?_)
      have : dueC (.list cs) = some (("copies" : Str), (.none : D)) := by unfold dueC; dsimp only; rw [if_neg (by omega)]
      rw [this]; rfl
     case h3 =>
      intro hh
      rw [zgO] at hh
      have hh := of_decide_eq_false hh
      have hl : 1 <= cs.length /\ cs.length <= 6 := by omega
      have ed : dueC (.list cs) = (match fb (belB 8) 0 cs with
       | some k => some ("copies", .int k)
       | none => none) := by unfold dueC; dsimp only; rw [if_pos hl]
      refine zbk (zau ?_)
      apply zaJ
      refine zd1 (xs := cs) (belB 8) (fun ρ => ∃ x3 x4, ρ = [some (.pub (.tuple [.list cs, l])), some (.pub (.list cs)), some (.pub l), x3, x4, none]) (zdL (zaa (zad rfl) zah) zc6) ⟨_, _, rfl⟩ ?_ ?_
      ·rintro x hx j ρ hj ⟨x3, x4, rfl⟩
       refine ⟨_, tg_T rfl (tg_C (tg_N (of_decide_eq_true rfl) rfl) (tg_C (tg_N (of_decide_eq_true rfl) rfl) tg_0)), ?_⟩
       unfold ziu
       refine zaI zjB (fun z => ?_) fun z => ?_
       ·refine zaA (zbo (zaa zab (zaa (zad rfl) zah)) (of_decide_eq_true rfl)) (zmz (by simpa using z) fun e => zat ?_)
        rw [ed, e]
        rfl
       ·exact zbk (zjw (by simpa using z) ⟨_, _, rfl⟩)
      ·rintro e ρ ⟨x3, x4, rfl⟩
       rw [ed, e]
       dsimp only
       refine zau ?_
       apply zaJ
       cases l with
       | list ls =>
        apply zaI
        case h1 => exact zbR (zaH (zad rfl) rfl) (zkM (zaj (zaR rfl zaN) zab rfl) fun _ => zaj (zaR rfl zaN) zab rfl)
        case h2 =>
         intro hh
         rw [zgO] at hh
         have hh := of_decide_eq_true hh
         refine zaA (zbo (zaa zab (zaa zab zah)) (of_decide_eq_true rfl)) (zat ?_)
         have : dueL cs.length (.list ls) = some (("lists" : Str), (.none : D)) := by unfold dueL; dsimp only; rw [if_neg (by omega)]
         rw [this]; rfl
        case h3 =>
         intro hh
         rw [zgO] at hh
         have hh := of_decide_eq_false hh
         have hl2 : 1 <= ls.length /\ ls.length <= 7 := by omega
         have ed2 : dueL cs.length (.list ls) = (match fb (askB cs.length) 0 ls with
          | some k => some ("lists", .int k)
          | none => none) := by unfold dueL; dsimp only; rw [if_pos hl2]
         have hsx := hs (.list cs) ls rfl hl2.2
         refine zbk (zau ?_)
         apply zaJ
         refine zd1 (xs := ls) (askB cs.length) (fun ρ => ∃ x3 x5, ρ = [some (.pub (.tuple [.list cs, .list ls])), some (.pub (.list cs)), some (.pub (.list ls)), x3, x4, x5]) (zdL (zaa (zad rfl) zah) zc6) ⟨_, _, rfl⟩ ?_ ?_
         ·rintro x hx j ρ hj ⟨x3, x5, rfl⟩
          refine ⟨_, tg_T rfl (tg_C (tg_N (of_decide_eq_true rfl) rfl) (tg_C (tg_N (of_decide_eq_true rfl) rfl) tg_0)), ?_⟩
          unfold zit
          refine zaI (zcC (zbI (za7 (zaa (zad rfl) (zaa (zaR rfl zaN) zah)) rfl (zfb (n := cs.length) (hsx x hx))))) (fun z => ?_) fun z => ?_
          ·refine zaA (zbo (zaa zab (zaa (zad rfl) zah)) (of_decide_eq_true rfl)) (zmz (by simpa using z) fun e => zat ?_)
           rw [ed2, e]
           rfl
          ·exact zbk (zjw (by simpa using z) ⟨_, _, rfl⟩)
         ·rintro e ρ ⟨x3, x5, rfl⟩
          refine zau (zaA zab ?_)
          rw [ed2, e]
          rfl
       | dict kvs =>
        exact zaI (b := true) (zbt (zbY (zad rfl))) (fun _ => zaA (zbo (zaa zab (zaa zab zah)) (of_decide_eq_true rfl)) (zat rfl)) (fun z => by cases z)
       | _ => exact zaI (b := true) (zbt (zaH (zad rfl) rfl)) (fun _ => zaA (zbo (zaa zab (zaa zab zah)) (of_decide_eq_true rfl)) (zat rfl)) (fun z => by cases z)
    | dict kvs =>
     exact zaI (b := true) (zbt (zbY (zad rfl))) (fun _ => zaA (zbo (zaa zab (zaa zab zah)) (of_decide_eq_true rfl)) (zat rfl)) (fun z => by cases z)
    | _ => exact zaI (b := true) (zbt (zaH (zad rfl) rfl)) (fun _ => zaA (zbo (zaa zab (zaa zab zah)) (of_decide_eq_true rfl)) (zat rfl)) (fun z => by cases z)
  ·have hd : dueW (.tuple xs) = some (("wishes" : Str), (.none : D)) := by
    unfold dueW
    split
    ·rename_i h; cases h; exact absurd rfl hl
    ·rfl
   apply zaI
   case h1 => exact zbR (ρ1 := [some (.pub (.tuple xs)), none, none, none, none, none]) (zaH (zad rfl) rfl) (zaj (zaR rfl ze2) zab zel)
   case h2 =>
    intro _
    exact zaA (zbo (zaa zab (zaa zab zah)) (of_decide_eq_true rfl)) (zat (by rw [hd]; rfl))
   case h3 =>
    intro hh
    have : (xs.length : Int) = 2 := by simpa using hh
    omega
 | dict kvs =>
  exact zaI (b := true) (zbt (zbY (zad rfl))) (fun _ => zaA (zbo (zaa zab (zaa zab zah)) (of_decide_eq_true rfl)) (zat rfl)) (fun z => by cases z)
 | _ => exact zaI (b := true) (zbt (zaH (zad rfl) rfl)) (fun _ => zaA (zbo (zaa zab (zaa zab zah)) (of_decide_eq_true rfl)) (zat rfl)) (fun z => by cases z)
theorem zjC {d : D} {p : Str} {n : D} (h : dueW d = some (p, n)) : isTy n "bool" = false := by
 unfold dueW at h
 split at h
 ·split at h
  ·split at h
   ·split at h
    ·cases h; rfl
    ·split at h
     ·split at h
      ·split at h
       ·cases h; rfl
       ·cases h
      ·cases h; rfl
     ·cases h; rfl
   ·cases h; rfl
  ·cases h; rfl
 ·cases h; rfl
theorem zmL {n : Int} : oNe (.list [.int n]) (.list [.int n]) = some false := by
 unfold oNe
 rw [if_pos ⟨rfl, rfl, by simp [PyData.depth, PyData.depthAll]⟩]
 simp [PyData.eqv, PyData.eqvAll]
theorem zgP {d : D} (hs : WsSm d) : F_as [d] = some (dueD (dueW d)) := by
 refine zc1 (ρ := [some (.pub d), none, none, none]) rfl ?_
 unfold g_as
 refine zar (zaS zab (of_decide_eq_true rfl) rfl) ?_
 refine zar (zaS zab (of_decide_eq_true rfl) rfl) ?_
 have hx := zlg hs
 cases z : dueW d with
 | none =>
  rw [z] at hx
  refine zar (ρ1 := [some (.pub d), some (.pub .none), some (.pub .none), none]) (zk4 (zk2 (zdP (zaa (zad rfl) zah) rfl hx) rfl)) ?_
  apply zaJ
  exact zaI (b := true) (ρ1 := [some (.pub d), some (.pub .none), some (.pub .none), none]) (zcs (x := .none) (zad rfl)) (fun _ => zaA (d := .none) (zad rfl) (zat rfl)) fun z => by cases z
 | some x =>
  obtain ⟨p, n⟩ := x
  rw [z] at hx
  have hb := zjC z
  let E : D := exD "NoWishes" [.str p, n]
  refine zar (ρ1 := [some (.pub d), some (.pub E), some (.pub (.int 0)), none]) (zk5 (zk3 (zdP (zaa (zad rfl) zah) rfl hx)) rfl (of_decide_eq_true rfl) (zaS (zad rfl) (of_decide_eq_true rfl) rfl) rfl) ?_
  apply zaJ
  refine zaI (b := false) (ρ1 := [some (.pub d), some (.pub E), some (.pub (.int 0)), none]) (zcs (x := E) (zad rfl)) (fun z => by cases z) fun _ => zbk (zau ?_)
  apply zaJ
  refine zaI (b := false) (ρ1 := [some (.pub d), some (.pub E), some (.pub (.int 0)), none]) (zbR (zaj (za7 (zaa (zad rfl) zah) rfl (zhh [.str p, n])) (zas (zaa zab zah) (of_decide_eq_true rfl)) zmL) (ze4 (zaE (zad rfl) (zbH rfl)) hb)) (fun z => by cases z) fun _ => zbk (zau ?_)
  exact zaA (zbo (zaa (zaE (zad rfl) (zbH rfl)) (zaa (zaE (zad rfl) (zbH rfl)) zah)) (of_decide_eq_true rfl)) rfl
mutual
def wB (n : Nat) : D -> Bool
 | .list xs => decide (xs.length <= n) && wBs n xs
 | .tuple xs => decide (xs.length <= n) && wBs n xs
 | _ => true
def wBs (n : Nat) : List D -> Bool
 | [] => true
 | x :: r => wB n x && wBs n r
end
theorem zgm {n : Nat} : ∀ {xs : List D}, wBs n xs = true ↔ ∀ x ∈ xs, wB n x = true
 | [] => by simp [wBs]
 | x :: r => by rw [wBs, Bool.and_eq_true, zgm (xs := r)]; simp
theorem zaO {n : Nat} {xs : List D} : wB n (.list xs) = true ↔ xs.length <= n /\ ∀ x ∈ xs, wB n x = true := by
 rw [wB, Bool.and_eq_true, decide_eq_true_eq, zgm]
theorem zdB {n : Nat} {xs : List D} : wB n (.tuple xs) = true ↔ xs.length <= n /\ ∀ x ∈ xs, wB n x = true := by
 rw [wB, Bool.and_eq_true, decide_eq_true_eq, zgm]
mutual
theorem zbf {n m : Nat} (h : n <= m) : ∀ (d : D), wB n d = true -> wB m d = true
 | .list xs, e => by
  rw [wB, Bool.and_eq_true, decide_eq_true_eq] at e ⊢
  exact ⟨Nat.le_trans e.1 h, wBs_mono h xs e.2⟩
 | .tuple xs, e => by
  rw [wB, Bool.and_eq_true, decide_eq_true_eq] at e ⊢
  exact ⟨Nat.le_trans e.1 h, wBs_mono h xs e.2⟩
 | .none, _ => rfl
 | .bool _, _ => rfl
 | .int _, _ => rfl
 | .str _, _ => rfl
 | .dict _, _ => rfl
theorem wBs_mono {n m : Nat} (h : n <= m) : ∀ (xs : List D), wBs n xs = true -> wBs m xs = true
 | [], _ => rfl
 | x :: r, e => by
  rw [wBs, Bool.and_eq_true] at e ⊢
  exact ⟨zbf h x e.1, wBs_mono h r e.2⟩
end
theorem zcb {n : Nat} {xs : List D} {a b : Option Int} (h : ∀ x ∈ xs, wB n x = true) : ∀ x ∈ DL.cutD xs a b, wB n x = true := fun x hx => h x (zbl hx)
theorem ziF {d : D} (h : wB 700 d = true) : WsSm d := fun c ls e _ x hx rs e2 xs hxs => by
 subst e
 have h1 := (zdB.mp h).2 (.list ls) (by simp)
 have h2 := (zaO.mp h1).2 x hx
 subst e2
 exact (zaO.mp ((zaO.mp h2).2 _ hxs)).1
theorem zce {α : Type} {n : Nat} {xs : List α} {x : α} (h : x ∈ (List.replicate n xs).flatten) : x ∈ xs := by
 obtain ⟨l, hl, hx⟩ := List.mem_flatten.mp h
 rw [(List.mem_replicate.mp hl).2] at hx
 exact hx
theorem zc3 {α : Type} (n : Nat) (xs : List α) : (List.replicate n xs).flatten.length = n * xs.length := by
 induction n with
 | zero => simp
 | succ n ih => rw [List.replicate_succ, List.flatten_cons, List.length_append, ih, Nat.succ_mul]; omega
theorem zbK {xs : List D} {k : Nat} (hk : k <= 100) (hl : xs.length <= 5000) : oMul (.list xs) (.int k) = some (.list (List.replicate k xs).flatten) := by
 have : xs.length * k <= 5000 * 100 := Nat.mul_le_mul hl hk
 have h := zdM (x := xs) (k := (k : Int)) ⟨by omega, by omega, by rw [Int.toNat_natCast]; omega⟩
 rw [Int.toNat_natCast] at h
 exact h
theorem ziG {i : Int} (h0 : 0 <= i) (h1 : i < 1000000000000000000) : zf9 [.int i] = some (.str (toString i)) := by
 unfold zf9
 refine if_pos ?_
 by_cases z : i.natAbs = 0
 ·rw [z]; decide
 ·have : i.natAbs < 2 ^ 64 := by omega
  have := (Nat.log2_lt z).mpr this
  omega
theorem zgn {cs : List D} {n : Nat} {w o a f : Int} (hn : n <= 4000) (hw : wB n (.list cs) = true) (hne : cs ≠ []) (ha : 0 <= a) (ho : 0 <= o /\ o < 12) (h6 : 6 <= n) : ∃ r, F_ao [.list cs, .list [.int w, .int a, .int o, .int f]] = some r /\ wB (7 * n) r = true := by
 refine zc0 (ρ := [some (.pub (.list cs)), some (.pub (.list [.int w, .int a, .int o, .int f])), none, none, none, none, none, none]) rfl ?_
 unfold g_ao
 obtain ⟨hcl, hcm⟩ := zaO.mp hw
 have hp : 0 < cs.length := List.length_pos_iff.mpr hne
 let C : Option Sl := some (.pub (.list cs))
 let G : Option Sl := some (.pub (.list [.int w, .int a, .int o, .int f]))
 refine zar (ρ1 := [C, G, some (.pub (.int w)), some (.pub (.int a)), some (.pub (.int o)), some (.pub (.int f)), none, none]) (zcZ (zad rfl) (tg_L rfl (tg_C (tg_N (of_decide_eq_true rfl) rfl) (tg_C (tg_N (of_decide_eq_true rfl) rfl) (tg_C (tg_N (of_decide_eq_true rfl) rfl) (tg_C (tg_N (of_decide_eq_true rfl) rfl) tg_0)))))) ?_
 refine zar (zaS (zaj (zad rfl) (zaR rfl zaN) (zbq (by omega))) (of_decide_eq_true rfl) rfl) ?_
 generalize a % (cs.length : Int) = a'
 let X : List D := [.none, .bool true, .bool false, .int (-1), .int 8, .int (0 - f), .int (8 + f), .str "1", .list [.int 1], .tuple [.int 1], .int 7, .int 0]
 refine zar (ρ1 := [C, G, some (.pub (.int w)), some (.pub (.int a')), some (.pub (.int o)), some (.pub (.int f)), some (.own X), none]) (zaZ (zba (zaa zab (zaa zab (zaa zab (zaa (zek zab) (zaa zab (zaa (zaj zab (zad rfl) zdg) (zaa (zaj zab (zad rfl) zaK) (zaa zab (zaa (zas (zaa zab zah) (of_decide_eq_true rfl)) (zaa (zbo (zaa zab zah) (of_decide_eq_true rfl)) (zaa zab (zaa zab zah)))))))))))) (of_decide_eq_true rfl)) (of_decide_eq_true rfl) rfl) ?_
 obtain ⟨x, hx, hxm⟩ := ixm (xs := X) (n := 12) ho.1 ho.2 rfl
 have wx : wB n x = true := by
  have : ∀ y ∈ X, wB 6 y = true := by
   intro y hy
   simp only [X, List.mem_cons, List.not_mem_nil, or_false] at hy
   rcases hy with rfl | rfl | rfl | rfl | rfl | rfl | rfl | rfl | rfl | rfl | rfl | rfl <;> rfl
  exact zbf h6 x (this x hxm)
 have cl : ∀ p q : Option Int, (DL.cutD cs p q).length <= n := fun p q => Nat.le_trans zbZ hcl
 have joined : ∀ p q r s : Option Int, oAdd (.list (DL.cutD cs p q)) (.list [x]) = some (.list (DL.cutD cs p q ++ [x])) /\ oAdd (.list (DL.cutD cs p q ++ [x])) (.list (DL.cutD cs r s)) = some (.list (DL.cutD cs p q ++ [x] ++ DL.cutD cs r s)) /\ wB (7 * n) (.list (DL.cutD cs p q ++ [x] ++ DL.cutD cs r s)) = true := by
  intro p q r s
  have c1 := cl p q
  have c2 := cl r s
  refine ⟨zav (by rw [List.length_singleton]; omega), zav (by rw [List.length_append, List.length_singleton]; omega), zaO.mpr ⟨by rw [List.length_append, List.length_append, List.length_singleton]; omega, fun y hy => ?_⟩⟩
  have : wB n y = true := by
   rcases List.mem_append.mp hy with hy | hy
   ·rcases List.mem_append.mp hy with hy | hy
    ·exact zcb hcm y hy
    ·rw [List.mem_singleton] at hy; subst hy; exact wx
   ·exact zcb hcm y hy
  exact zbf (by omega) y this
 apply zaJ
 refine zaI (zbc rfl zab zbm) (fun _ => ?_) fun _ => zbk (zau ?_)
 ·exact zaA (zaj (zaj (zaX (zad rfl) zab (zaB (zad rfl)) zaF) (zas (zaa (zdt rfl (zad rfl) rfl hx) zah) (of_decide_eq_true rfl)) (joined _ _ none none).1) (zaX (zad rfl) (zaB (zaj (zad rfl) zab zaK)) zab zaF) (joined _ _ _ _).2.1) (zat ⟨_, rfl, (joined _ _ _ _).2.2⟩)
 apply zaJ
 refine zaI (zbc rfl zab zbm) (fun _ => ?_) fun _ => zbk (zau ?_)
 ·exact zaA (zaj (zaj (zaX (zad rfl) zab (zaB (zad rfl)) zaF) (zas (zaa (zdt rfl (zad rfl) rfl hx) zah) (of_decide_eq_true rfl)) (joined _ _ none none).1) (zaX (zad rfl) (zaB (zad rfl)) zab zaF) (joined _ _ _ _).2.1) (zat ⟨_, rfl, (joined _ _ _ _).2.2⟩)
 apply zaJ
 refine zaI (zbc rfl zab zbm) (fun _ => ?_) fun _ => zbk (zau ?_)
 ·obtain ⟨c0, hc0, hc0m⟩ := ixm (xs := cs) (i := 0) (n := cs.length) (by decide) (by omega) rfl
  refine zar (ρ1 := [C, G, some (.pub (.int w)), some (.pub (.int a')), some (.pub (.int o)), some (.pub (.int f)), some (.own X), some (.own [.tuple cs, .none, .str "", .dict [], .list [], c0])]) (zaZ (zba (zaa (zbs (zaa (zad rfl) zah) rfl) (zaa zab (zaa zab (zaa zab (zaa (zas zah (of_decide_eq_true rfl)) (zaa (zch rfl zab hc0) zah)))))) (of_decide_eq_true rfl)) (of_decide_eq_true rfl) rfl) ?_
  have m7 := zbK (xs := cs) (k := 7) (by decide) (by omega)
  have m6 := zbK (xs := cs) (k := 6) (by decide) (by omega)
  have m1 := zbK (xs := [PyData.int 1]) (k := 6) (by decide) (by decide)
  have ad : oAdd (.list (List.replicate 6 [PyData.int 1]).flatten) (.list cs) = some (.list ((List.replicate 6 [PyData.int 1]).flatten ++ cs)) := zav (by rw [zc3]; simp; omega)
  refine zar (zaS (zaj (zbE rfl rfl) (zas (zaa (zaj (zad rfl) zab m7) (zaa (zaX (zaj (zad rfl) zab m6) zab (zaB zab) zaF) (zaa (zaj (zaj (zas (zaa zab zah) (of_decide_eq_true rfl)) zab m1) (zad rfl) ad) zah))) (of_decide_eq_true rfl)) (zav (of_decide_eq_true rfl))) (of_decide_eq_true rfl) rfl) ?_
  have hm9 : 0 <= o % 9 /\ o % 9 < (9 : Nat) := ⟨by omega, by omega⟩
  obtain ⟨y, hy, hym⟩ := ixm (xs := [.tuple cs, .none, .str "", .dict [], .list [], c0] ++ [.list (List.replicate 7 cs).flatten, .list (DL.cutD (List.replicate 6 cs).flatten none (some 6)), .list ((List.replicate 6 [PyData.int 1]).flatten ++ cs)]) (n := 9) hm9.1 hm9.2 rfl
  refine zaA (zch rfl (zaj (zad rfl) zab (zbq (by decide))) hy) (zat ⟨_, rfl, ?_⟩)
  have big : ∀ z ∈ cs, wB (7 * n) z = true := fun z hz => zbf (by omega) z (hcm z hz)
  simp only [List.mem_append, List.mem_cons, List.not_mem_nil, or_false] at hym
  rcases hym with (rfl | rfl | rfl | rfl | rfl | rfl) | (rfl | rfl | rfl)
  ·exact zdB.mpr ⟨by omega, big⟩
  ·rfl
  ·rfl
  ·rfl
  ·exact zaO.mpr ⟨Nat.zero_le _, fun _ h => by cases h⟩
  ·exact big _ hc0m
  ·exact zaO.mpr ⟨by rw [zc3]; exact Nat.mul_le_mul_left 7 hcl, fun z hz => big z (zce hz)⟩
  ·refine zaO.mpr ⟨?_, fun z hz => big z (zce (zbl hz))⟩
   have := zbZ (xs := (List.replicate 6 cs).flatten) (a := none) (b := some 6)
   rw [zc3] at this
   have : 6 * cs.length <= 6 * n := Nat.mul_le_mul_left 6 hcl
   omega
  ·refine zaO.mpr ⟨by rw [List.length_append, zc3, List.length_singleton]; omega, fun z hz => ?_⟩
   rcases List.mem_append.mp hz with hz | hz
   ·have := zce hz
    rw [List.mem_singleton] at this
    subst this; rfl
   ·exact big z hz
 exact zaA (zad rfl) ⟨_, rfl, zbf (by omega) _ hw⟩
theorem ziH {d : D} {n : Nat} {a o f m : Int} (hn : n <= 4000) (h6 : 6 <= n) (hw : wB n d = true) (ha : 0 <= a) (ho : 0 <= o /\ o < 12) (hf : 0 <= f /\ f < 1000000000000000000) : ∃ r, F_ap [d, .list [.int a, .int o, .int f], .int m] = some r /\ wB (3 * n) r = true := by
 refine zc0 (ρ := [some (.pub d), some (.pub (.list [.int a, .int o, .int f])), some (.pub (.int m)), none, none, none, none, none]) rfl ?_
 unfold g_ap
 let G : Option Sl := some (.pub (.list [.int a, .int o, .int f]))
 let Mn : Option Sl := some (.pub (.int m))
 refine zar (ρ1 := [some (.pub d), G, Mn, some (.pub (.int a)), some (.pub (.int o)), some (.pub (.int f)), none, none]) (zcZ (zad rfl) (tg_L rfl (tg_C (tg_N (of_decide_eq_true rfl) rfl) (tg_C (tg_N (of_decide_eq_true rfl) rfl) (tg_C (tg_N (of_decide_eq_true rfl) rfl) tg_0))))) ?_
 have main : ∀ (s0 : Sl) (xs : List D), (s0 = .pub (.list xs) ∨ s0 = .own xs) -> xs.length <= n -> (∀ x ∈ xs, wB n x = true) -> Ho (sSeq (sSet 3 (dBin oMod (dVar 3) (dBin oAdd (zbu 0) (zaf (.int 1)))))
   (sSeq (zbG 6 (zam (zae (zaf .none) (zae (zaf (.bool true)) (zae (zaf (.bool false)) (zae (dNeg (zaf (.int 1))) (zae (dVar 2) (zae (dBin oAdd (dVar 2) (dVar 5)) (zae (dBin oSub (zaf (.int 0)) (dVar 5)) (zae (zaf (.str "0")) (zae (mLst (zae (zaf (.int 0)) (mNil))) (zae (mTup (zae (zaf (.int 0)) (mNil))) (zae (zaf (.int 0)) (zae (dBin oSub (dVar 2) (zaf (.int 1))) (mNil))))))))))))) fun xs => if xs.length <= 1000000 then zaf xs else fun _ => .bad))
   (sSeq (sSet 7 (dBin oAdd (dBin oAdd (dSlA (dVar 0) (zaf none) (zam (dVar 3) fun x => mOpt (za6 x))) (mLst (zae (dIxN 6 (dVar 4)) (mNil)))) (dSlA (dVar 0) (zam (dBin oAdd (dVar 3) (dBin oMod (dVar 5) (zaf (.int 2)))) fun x => mOpt (za6 x)) (zaf none))))
   (sRet (dBin oIx (mLst (zae (dVar 7) (zae (dVar 7) (zae (dVar 7) (zae (zb3 zdY (zae (dVar 0) (mNil))) (zae (mLst (mNil)) (zae (dBin oAdd (dVar 0) (dSlA (dVar 0) (zaf none) (zam (zaf (.int 1)) fun x => mOpt (za6 x)))) (zae (zb3 zf9 (zae (dVar 5) (mNil))) (zae (zaf .none) (mNil)))))))))) (dBin oMod (dBin oDiv (dVar 5) (zaf (.int 2))) (zaf (.int 8))))))))
   [some s0, G, Mn, some (.pub (.int a)), some (.pub (.int o)), some (.pub (.int f)), none, none] (fun z => ∃ e, z = .rt e /\ wB (3 * n) e = true) := by
  intro s0 xs hs hl hm
  have hlen : zbu 0 [some s0, G, Mn, some (.pub (.int a)), some (.pub (.int o)), some (.pub (.int f)), none, none] = .ok (.int xs.length) [some s0, G, Mn, some (.pub (.int a)), some (.pub (.int o)), some (.pub (.int f)), none, none] := by
   rcases hs with rfl | rfl
   ·exact zaR rfl zaN
   ·exact zdK rfl
  refine zar (zaS (zaj (zad rfl) (zaj hlen zab zaK) (zbq (by omega))) (of_decide_eq_true rfl) rfl) ?_
  generalize a % ((xs.length : Int) + 1) = a'
  let X : List D := [.none, .bool true, .bool false, .int (-1), .int m, .int (m + f), .int (0 - f), .str "0", .list [.int 0], .tuple [.int 0], .int 0, .int (m - 1)]
  refine zar (ρ1 := [some s0, G, Mn, some (.pub (.int a')), some (.pub (.int o)), some (.pub (.int f)), some (.own X), none]) (zaZ (zba (zaa zab (zaa zab (zaa zab (zaa (zek zab) (zaa (zad rfl) (zaa (zaj (zad rfl) (zad rfl) zaK) (zaa (zaj zab (zad rfl) zdg) (zaa zab (zaa (zas (zaa zab zah) (of_decide_eq_true rfl)) (zaa (zbo (zaa zab zah) (of_decide_eq_true rfl)) (zaa zab (zaa (zaj (zad rfl) zab zdg) zah)))))))))))) (of_decide_eq_true rfl)) (of_decide_eq_true rfl) rfl) ?_
  obtain ⟨x, hx, hxm⟩ := ixm (xs := X) (n := 12) ho.1 ho.2 rfl
  have wx : wB n x = true := by
   have : ∀ y ∈ X, wB 6 y = true := by
    intro y hy
    simp only [X, List.mem_cons, List.not_mem_nil, or_false] at hy
    rcases hy with rfl | rfl | rfl | rfl | rfl | rfl | rfl | rfl | rfl | rfl | rfl | rfl <;> rfl
   exact zbf h6 x (this x hxm)
  have cl : ∀ p q : Option Int, (DL.cutD xs p q).length <= n := fun p q => Nat.le_trans zbZ hl
  have v0 : ∀ r6 r7 : Option Sl, dVar 0 [some s0, G, Mn, some (.pub (.int a')), some (.pub (.int o)), some (.pub (.int f)), r6, r7] = .ok (.list xs) [some (.pub (.list xs)), G, Mn, some (.pub (.int a')), some (.pub (.int o)), some (.pub (.int f)), r6, r7] := by
   intro r6 r7
   rcases hs with rfl | rfl
   ·exact zad rfl
   ·exact zbE rfl rfl
  let B : List D := DL.cutD xs none (some a') ++ [x] ++ DL.cutD xs (some (a' + f % 2)) none
  have c1 := cl none (some a')
  have c2 := cl (some (a' + f % 2)) none
  have wBn : wB (3 * n) (.list B) = true := by
   refine zaO.mpr ⟨by show (DL.cutD xs none (some a') ++ [x] ++ DL.cutD xs (some (a' + f % 2)) none).length <= _; rw [List.length_append, List.length_append, List.length_singleton]; omega, fun y hy => zbf (n := n) (by omega) y ?_⟩
   rcases List.mem_append.mp hy with hy | hy
   ·rcases List.mem_append.mp hy with hy | hy
    ·exact zcb hm y hy
    ·rw [List.mem_singleton] at hy; subst hy; exact wx
   ·exact zcb hm y hy
  refine zar (ρ1 := [some (.pub (.list xs)), G, Mn, some (.pub (.int a')), some (.pub (.int o)), some (.pub (.int f)), some (.own X), some (.pub (.list B))]) (zaS (zaj (zaj (zaX (v0 _ _) zab (zaB (zad rfl)) zaF) (zas (zaa (zdt rfl (zad rfl) rfl hx) zah) (of_decide_eq_true rfl)) (zav (by rw [List.length_singleton]; omega))) (zaX (zad rfl) (zaB (zaj (zad rfl) (zaj (zad rfl) zab (zbq (by decide))) zaK)) zab zaF) (zav (by rw [List.length_append, List.length_singleton]; omega))) (of_decide_eq_true rfl) rfl) ?_
  have c3 := cl none (some 1)
  have h8 : 0 <= f / 2 % 8 /\ f / 2 % 8 < (8 : Nat) := ⟨by omega, by omega⟩
  obtain ⟨y, hy, hym⟩ := ixm (xs := [.list B, .list B, .list B, .tuple xs, .list [], .list (xs ++ DL.cutD xs none (some 1)), .str (toString f), .none]) (n := 8) h8.1 h8.2 rfl
  refine zaA (zaj (zas (zaa (zad rfl) (zaa (zad rfl) (zaa (zad rfl) (zaa (zbs (zaa (zad rfl) zah) rfl) (zaa (zas zah (of_decide_eq_true rfl)) (zaa (zaj (zad rfl) (zaX (zad rfl) zab (zaB zab) zaF) (zav (by omega))) (zaa (zbs (zaa (zad rfl) zah) (ziG hf.1 hf.2)) (zaa zab zah)))))))) (of_decide_eq_true rfl)) (zaj (zaj (zad rfl) zab (zgd (by decide) (by decide))) zab (zbq (by decide))) hy) ⟨_, rfl, ?_⟩
  have big : ∀ z ∈ xs, wB (3 * n) z = true := fun z hz => zbf (by omega) z (hm z hz)
  simp only [List.mem_cons, List.not_mem_nil, or_false] at hym
  rcases hym with rfl | rfl | rfl | rfl | rfl | rfl | rfl | rfl
  ·exact wBn
  ·exact wBn
  ·exact wBn
  ·exact zdB.mpr ⟨by omega, big⟩
  ·exact zaO.mpr ⟨Nat.zero_le _, fun _ h => by cases h⟩
  ·refine zaO.mpr ⟨by rw [List.length_append]; omega, fun z hz => ?_⟩
   rcases List.mem_append.mp hz with hz | hz
   ·exact big z hz
   ·exact big z (zbl hz)
  ·rfl
  ·rfl
 apply zaJ
 cases d with
 | list xs =>
  obtain ⟨h1, h2⟩ := zaO.mp hw
  exact zaI (b := false) (zaH (zad rfl) rfl) (fun z => by cases z) fun _ => zbk (zau (main (.pub (.list xs)) xs (.inl rfl) h1 h2))
 | dict kvs => exact zaI (b := true) (zbY (zad rfl)) (fun _ => zaV (zaZ (zba (zaa zab zah) (of_decide_eq_true rfl)) (of_decide_eq_true rfl) rfl) (zau (main (.own [.int 0]) [.int 0] (.inr rfl) (by rw [List.length_singleton]; omega) fun x hx => by rw [List.mem_singleton] at hx; subst hx; rfl))) fun z => by cases z
 | _ => exact zaI (b := true) (zaH (zad rfl) rfl) (fun _ => zaV (zaZ (zba (zaa zab zah) (of_decide_eq_true rfl)) (of_decide_eq_true rfl) rfl) (zau (main (.own [.int 0]) [.int 0] (.inr rfl) (by rw [List.length_singleton]; omega) fun x hx => by rw [List.mem_singleton] at hx; subst hx; rfl))) fun z => by cases z
theorem zhi {ls : List D} {n : Nat} {w a t o f p m : Int} (hn : n <= 400) (h6 : 6 <= n) (hw : wB n (.list ls) = true) (hne : ls ≠ []) (ha : 0 <= a) (ht : 0 <= t) (ho : 0 <= o /\ o < 12) (hf : 0 <= f /\ f < 1000000000000000000) (hp : 0 <= p) (hm : 0 <= m /\ m <= 6) :
  ∃ r, F_aq [.list ls, .list [.int w, .int a, .int t, .int o, .int f, .int p], .int m] = some r /\ wB (8 * n) r = true := by
 refine zc0 (ρ := [some (.pub (.list ls)), some (.pub (.list [.int w, .int a, .int t, .int o, .int f, .int p])), some (.pub (.int m)), none, none, none, none, none, none, none, none, none]) rfl ?_
 unfold g_aq
 obtain ⟨hll, hlm⟩ := zaO.mp hw
 have hpos : 0 < ls.length := List.length_pos_iff.mpr hne
 let L : Option Sl := some (.pub (.list ls))
 let G : Option Sl := some (.pub (.list [.int w, .int a, .int t, .int o, .int f, .int p]))
 let Mn : Option Sl := some (.pub (.int m))
 let W : Option Sl := some (.pub (.int w))
 let O : Option Sl := some (.pub (.int o))
 let F : Option Sl := some (.pub (.int f))
 let P : Option Sl := some (.pub (.int p))
 refine zar (ρ1 := [L, G, Mn, W, some (.pub (.int a)), some (.pub (.int t)), O, F, P, none, none, none]) (zcZ (zad rfl) (tg_L rfl (tg_C (tg_N (of_decide_eq_true rfl) rfl) (tg_C (tg_N (of_decide_eq_true rfl) rfl) (tg_C (tg_N (of_decide_eq_true rfl) rfl) (tg_C (tg_N (of_decide_eq_true rfl) rfl) (tg_C (tg_N (of_decide_eq_true rfl) rfl) (tg_C (tg_N (of_decide_eq_true rfl) rfl) tg_0)))))))) ?_
 have ham : 0 <= a % (ls.length : Int) /\ a % (ls.length : Int) < (ls.length : Nat) := ⟨Int.emod_nonneg _ (by omega), Int.emod_lt_of_pos _ (by omega)⟩
 refine zar (zaS (zaj (zad rfl) (zaR rfl zaN) (zbq (by omega))) (of_decide_eq_true rfl) rfl) ?_
 obtain ⟨rk, hrk, hrkm⟩ := ixm (xs := ls) (n := ls.length) ham.1 ham.2 rfl
 generalize a % (ls.length : Int) = a' at hrk
 have wrk := hlm rk hrkm
 refine zar (ρ1 := [L, G, Mn, W, some (.pub (.int a')), some (.pub (.int t)), O, F, P, some (.pub rk), none, none]) (zaS (zch rfl (zad rfl) hrk) (of_decide_eq_true rfl) rfl) ?_
 have clL : ∀ x y : Option Int, (DL.cutD ls x y).length <= n := fun x y => Nat.le_trans zbZ hll
 have put : ∀ (z : D) (k : Nat) (x y u v : Option Int), 3 * n <= k -> wB k z = true -> oAdd (.list (DL.cutD ls x y)) (.list [z]) = some (.list (DL.cutD ls x y ++ [z])) /\ oAdd (.list (DL.cutD ls x y ++ [z])) (.list (DL.cutD ls u v)) = some (.list (DL.cutD ls x y ++ [z] ++ DL.cutD ls u v)) /\ wB k (.list (DL.cutD ls x y ++ [z] ++ DL.cutD ls u v)) = true := by
  intro z k x y u v hk hz
  have c1 := clL x y
  have c2 := clL u v
  refine ⟨zav (by rw [List.length_singleton]; omega), zav (by rw [List.length_append, List.length_singleton]; omega), zaO.mpr ⟨by rw [List.length_append, List.length_append, List.length_singleton]; omega, fun q hq => ?_⟩⟩
  rcases List.mem_append.mp hq with hq | hq
  ·rcases List.mem_append.mp hq with hq | hq
   ·exact zbf (n := n) (by omega) q (zcb hlm q hq)
   ·rw [List.mem_singleton] at hq; subst hq; exact hz
  ·exact zbf (n := n) (by omega) q (zcb hlm q hq)
 have main : ∀ (s9 : Sl) (rs : List D), (s9 = .pub (.list rs) ∨ s9 = .own rs) -> rs.length <= n -> (∀ x ∈ rs, wB n x = true) -> Ho (sSeq (sSet 5 (dBin oMod (dVar 5) (dBin oAdd (zbu 9) (zaf (.int 1)))))
 (sSeq (sIf (zbv oEq 3 (zaf (.int 1)))
 (sSeq (sSet 10 (dBin oIx (dBin oAdd (dVar 9) (mLst (zae (mLst (mNil)) (mNil)))) (dVar 5)))
 (sSeq (sSet 11 (dBin oAdd (dBin oAdd (dSlA (dVar 9) (zaf none) (zam (dVar 5) fun x => mOpt (za6 x))) (mLst (zae (dFun 3 F_ap (zae (dVar 10) (zae (mLst (zae (dVar 8) (zae (dVar 6) (zae (dVar 7) (mNil))))) (zae (dVar 2) (mNil))))) (mNil)))) (dSlA (dVar 9) (zam (dBin oAdd (dVar 5) (zaf (.int 1))) fun x => mOpt (za6 x)) (zaf none))))
 (sRet (dBin oAdd (dBin oAdd (dSlA (dVar 0) (zaf none) (zam (dVar 4) fun x => mOpt (za6 x))) (mLst (zae (dVar 11) (mNil)))) (dSlA (dVar 0) (zam (dBin oAdd (dVar 4) (zaf (.int 1))) fun x => mOpt (za6 x)) (zaf none))))))
 (sNx))
 (sSeq (sIf (zbv oEq 3 (zaf (.int 2)))
 (sSeq (zbG 11 (zam (zae (zb3 zdY (zae (dVar 9) (mNil))) (zae (zaf .none) (zae (zaf (.dict [])) (zae (zaf (.str "")) (zae (dBin oAdd (dVar 9) (dVar 9)) (mNil)))))) fun xs => if xs.length <= 1000000 then zaf xs else fun _ => .bad))
 (sSeq (sSet 11 (dBin oAdd (dVar 11) (mLst (zae (dBin oAdd (dVar 9) (mLst (zae (mLst (zae (zaf (.int 0)) (mNil))) (mNil)))) (zae (mLst (zae (mLst (zae (mLst (zae (zaf (.int 0)) (mNil))) (mNil))) (mNil))) (zae (dBin oMul (mLst (zae (mLst (zae (zaf (.int 0)) (mNil))) (mNil))) (zaf (.int 6))) (zae (zaf (.int 0)) (zae (mMap PyData.list (zef (zeb (zae (dVar 2) (mNil))) 1 (gN 12) (zaf true) (mLst (zae (dVar 12) (mNil))))) (mNil)))))))))
 (sRet (dBin oAdd (dBin oAdd (dSlA (dVar 0) (zaf none) (zam (dVar 4) fun x => mOpt (za6 x))) (mLst (zae (dIxN 11 (dBin oMod (dVar 6) (zaf (.int 10)))) (mNil)))) (dSlA (dVar 0) (zam (dBin oAdd (dVar 4) (zaf (.int 1))) fun x => mOpt (za6 x)) (zaf none))))))
 (sNx))
 (sSeq (sIf (zbv oEq 3 (zaf (.int 3)))
 (sSeq (zbG 11 (zam (zae (zb3 zdY (zae (dVar 0) (mNil))) (zae (zaf .none) (zae (zaf (.str "")) (zae (zaf (.dict [])) (zae (mLst (mNil)) (zae (dBin oMul (dVar 0) (zaf (.int 8))) (mNil))))))) fun xs => if xs.length <= 1000000 then zaf xs else fun _ => .bad))
 (sSeq (sSet 11 (dBin oAdd (dVar 11) (mLst (zae (dSlA (dBin oMul (dVar 0) (zaf (.int 7))) (zaf none) (zam (zaf (.int 7)) fun x => mOpt (za6 x))) (zae (dIxN 0 (zaf (.int 0))) (zae (dBin oAdd (dVar 0) (mLst (zae (mLst (zae (mLst (zae (dVar 2) (mNil))) (mNil))) (mNil)))) (mNil)))))))
 (sRet (dIxN 11 (dBin oMod (dVar 6) (zaf (.int 9)))))))
 (sNx))
 (sRet (dVar 0))))))
   [L, G, Mn, W, some (.pub (.int a')), some (.pub (.int t)), O, F, P, some s9, none, none] (fun z => ∃ e, z = .rt e /\ wB (8 * n) e = true) := by
  intro s9 rs hs hl hmr
  have hlen : zbu 9 [L, G, Mn, W, some (.pub (.int a')), some (.pub (.int t)), O, F, P, some s9, none, none] = .ok (.int rs.length) [L, G, Mn, W, some (.pub (.int a')), some (.pub (.int t)), O, F, P, some s9, none, none] := by
   rcases hs with rfl | rfl
   ·exact zaR rfl zaN
   ·exact zdK rfl
  have htm : 0 <= t % ((rs.length : Int) + 1) /\ t % ((rs.length : Int) + 1) < ((rs.length + 1 : Nat) : Int) := ⟨Int.emod_nonneg _ (by omega), by have := Int.emod_lt_of_pos t (show 0 < (rs.length : Int) + 1 by omega); omega⟩
  refine zar (zaS (zaj (zad rfl) (zaj hlen zab zaK) (zbq (by omega))) (of_decide_eq_true rfl) rfl) ?_
  generalize t % ((rs.length : Int) + 1) = t' at htm
  have clR : ∀ x y : Option Int, (DL.cutD rs x y).length <= n := fun x y => Nat.le_trans zbZ hl
  have v9 : ∀ r10 r11 : Option Sl, dVar 9 [L, G, Mn, W, some (.pub (.int a')), some (.pub (.int t')), O, F, P, some s9, r10, r11] = .ok (.list rs) [L, G, Mn, W, some (.pub (.int a')), some (.pub (.int t')), O, F, P, some (.pub (.list rs)), r10, r11] := by
   intro r10 r11
   rcases hs with rfl | rfl
   ·exact zad rfl
   ·exact zbE rfl rfl
  apply zaJ
  refine zaI (zbc rfl zab zbm) (fun _ => ?_) fun _ => zbk (zau ?_)
  ·obtain ⟨r0, hr0, hr0m⟩ := ixm (xs := rs ++ [.list []]) (n := rs.length + 1) htm.1 htm.2 (by rw [List.length_append]; rfl)
   have wr0 : wB n r0 = true := by
    rcases List.mem_append.mp hr0m with h | h
    ·exact hmr r0 h
    ·rw [List.mem_singleton] at h; subst h; exact zaO.mpr ⟨Nat.zero_le _, fun _ h => by cases h⟩
   refine zar (ρ1 := [L, G, Mn, W, some (.pub (.int a')), some (.pub (.int t')), O, F, P, some (.pub (.list rs)), some (.pub r0), none]) (zaS (zaj (zaj (v9 _ _) (zas (zaa (zas zah (of_decide_eq_true rfl)) zah) (of_decide_eq_true rfl)) (zav (by rw [List.length_singleton]; omega))) (zad rfl) hr0) (of_decide_eq_true rfl) rfl) ?_
   obtain ⟨b, hb, wb⟩ := ziH (d := r0) (n := n) (a := p) (o := o) (f := f) (m := m) (by omega) h6 wr0 hp ho hf
   have c1 := clR none (some t')
   have c2 := clR (some (t' + 1)) none
   have wR : wB (3 * n) (.list (DL.cutD rs none (some t') ++ [b] ++ DL.cutD rs (some (t' + 1)) none)) = true := by
    refine zaO.mpr ⟨by rw [List.length_append, List.length_append, List.length_singleton]; omega, fun q hq => ?_⟩
    rcases List.mem_append.mp hq with hq | hq
    ·rcases List.mem_append.mp hq with hq | hq
     ·exact zbf (n := n) (by omega) q (zcb hmr q hq)
     ·rw [List.mem_singleton] at hq; subst hq; exact wb
    ·exact zbf (n := n) (by omega) q (zcb hmr q hq)
   refine zar (ρ1 := [L, G, Mn, W, some (.pub (.int a')), some (.pub (.int t')), O, F, P, some (.pub (.list rs)), some (.pub r0), some (.pub (.list (DL.cutD rs none (some t') ++ [b] ++ DL.cutD rs (some (t' + 1)) none)))]) (zaS (zaj (zaj (zaX (zad rfl) zab (zaB (zad rfl)) zaF) (zas (zaa (za7 (zaa (zad rfl) (zaa (zas (zaa (zad rfl) (zaa (zad rfl) (zaa (zad rfl) zah))) (of_decide_eq_true rfl)) (zaa (zad rfl) zah))) rfl hb) zah) (of_decide_eq_true rfl)) (zav (by rw [List.length_singleton]; omega))) (zaX (zad rfl) (zaB (zaj (zad rfl) zab zaK)) zab zaF) (zav (by rw [List.length_append, List.length_singleton]; omega))) (of_decide_eq_true rfl) rfl) ?_
   generalize DL.cutD rs none (some t') ++ [b] ++ DL.cutD rs (some (t' + 1)) none = R at wR
   have pt := fun x y u v => put (.list R) (8 * n) x y u v (by omega) (zbf (by omega) _ wR)
   exact zaA (zaj (zaj (zaX (zad rfl) zab (zaB (zad rfl)) zaF) (zas (zaa (zad rfl) zah) (of_decide_eq_true rfl)) (pt _ _ none none).1) (zaX (zad rfl) (zaB (zaj (zad rfl) zab zaK)) zab zaF) (pt _ _ _ _).2.1) (zat ⟨_, rfl, (pt _ _ _ _).2.2⟩)
  apply zaJ
  refine zaI (zbc rfl zab zbm) (fun _ => ?_) fun _ => zbk (zau ?_)
  ·have hrr : oAdd (.list rs) (.list rs) = some (.list (rs ++ rs)) := zav (by omega)
   refine zar (ρ1 := [L, G, Mn, W, some (.pub (.int a')), some (.pub (.int t')), O, F, P, some (.pub (.list rs)), none, some (.own [.tuple rs, .none, .dict [], .str "", .list (rs ++ rs)])]) (zaZ (zba (zaa (zbs (zaa (v9 _ _) zah) rfl) (zaa zab (zaa zab (zaa zab (zaa (zaj (zad rfl) (zad rfl) hrr) zah))))) (of_decide_eq_true rfl)) (of_decide_eq_true rfl) rfl) ?_
   let base : DEnv := [L, G, Mn, W, some (.pub (.int a')), some (.pub (.int t')), O, F, P, some (.pub (.list rs)), none, some (.pub (.list [.tuple rs, .none, .dict [], .str "", .list (rs ++ rs)]))]
   have hc : zcJ (gN 12) (zaf true) (mLst (zae (dVar 12) (mNil))) (zbi 0 m) (zbj base ++ List.replicate 1 none) [] = some ((zbi 0 m).map fun d => .list [d]) := by
    rw [zco (fun _ => true) (fun d => .list [d]) (fun ρ => ∃ x, ρ = base ++ [x])]
    ·rw [List.filter_eq_self.mpr (fun _ _ => rfl), List.nil_append]
    ·rintro d hd ρ ⟨x, rfl⟩
     exact ⟨_, tg_N (of_decide_eq_true rfl) rfl, rfl, fun _ => zas (zaa (zad rfl) zah) (of_decide_eq_true rfl), _, rfl⟩
    ·exact ⟨none, rfl⟩
    ·rw [za9, List.length_nil]; omega
   have m6 := zbK (xs := [PyData.list [.int 0]]) (k := 6) (by decide) (by decide)
   have h10 : oAdd (.list rs) (.list [.list [.int 0]]) = some (.list (rs ++ [.list [.int 0]])) := zav (by rw [List.length_singleton]; omega)
   refine zar (zaS (zaj (zbE rfl rfl) (zas (zaa (zaj (zad rfl) (zas (zaa (zas (zaa zab zah) (of_decide_eq_true rfl)) zah) (of_decide_eq_true rfl)) h10) (zaa (zas (zaa (zas (zaa (zas (zaa zab zah) (of_decide_eq_true rfl)) zah) (of_decide_eq_true rfl)) zah) (of_decide_eq_true rfl)) (zaa (zaj (zas (zaa (zas (zaa zab zah) (of_decide_eq_true rfl)) zah) (of_decide_eq_true rfl)) zab m6) (zaa zab (zaa (zcs (zdN (zdf (zaa (zad rfl) zah) (zcL (by omega) (by omega))) hc)) zah))))) (of_decide_eq_true rfl)) (zav (of_decide_eq_true rfl))) (of_decide_eq_true rfl) rfl) ?_
   have h10m : 0 <= o % 10 /\ o % 10 < (10 : Nat) := ⟨by omega, by omega⟩
   obtain ⟨y, hy, hym⟩ := ixm (xs := [.tuple rs, .none, .dict [], .str "", .list (rs ++ rs)] ++ [.list (rs ++ [.list [.int 0]]), .list [.list [.list [.int 0]]], .list (List.replicate 6 [PyData.list [.int 0]]).flatten, .int 0, .list ((zbi 0 m).map fun d => .list [d])]) (n := 10) h10m.1 h10m.2 rfl
   have one : ∀ (k : Nat) (z : D), 1 <= k -> wB k z = true -> wB k (.list [z]) = true := fun k z hk hz => zaO.mpr ⟨hk, fun q hq => by rw [List.mem_singleton] at hq; subst hq; exact hz⟩
   have wy : wB (8 * n) y = true := by
    have big : ∀ z ∈ rs, wB (8 * n) z = true := fun z hz => zbf (n := n) (by omega) z (hmr z hz)
    have l0 : wB (8 * n) (.list [.int 0]) = true := one _ _ (by omega) rfl
    simp only [List.mem_append, List.mem_cons, List.not_mem_nil, or_false] at hym
    rcases hym with (rfl | rfl | rfl | rfl | rfl) | (rfl | rfl | rfl | rfl | rfl)
    ·exact zdB.mpr ⟨by omega, big⟩
    ·rfl
    ·rfl
    ·rfl
    ·refine zaO.mpr ⟨by rw [List.length_append]; omega, fun z hz => ?_⟩
     rcases List.mem_append.mp hz with hz | hz <;> exact big z hz
    ·refine zaO.mpr ⟨by rw [List.length_append, List.length_singleton]; omega, fun z hz => ?_⟩
     rcases List.mem_append.mp hz with hz | hz
     ·exact big z hz
     ·rw [List.mem_singleton] at hz; subst hz; exact l0
    ·exact one _ _ (by omega) (one _ _ (by omega) l0)
    ·refine zaO.mpr ⟨by rw [zc3, List.length_singleton]; omega, fun z hz => ?_⟩
     have := zce hz
     rw [List.mem_singleton] at this
     subst this; exact l0
    ·rfl
    ·refine zaO.mpr ⟨by rw [List.length_map, za9]; omega, fun z hz => ?_⟩
     obtain ⟨d, hd, rfl⟩ := List.mem_map.mp hz
     obtain ⟨k, _, rfl⟩ := List.mem_map.mp hd
     exact one _ _ (by omega) rfl
   have pt := fun x y' u v => put y (8 * n) x y' u v (by omega) wy
   exact zaA (zaj (zaj (zaX (zad rfl) zab (zaB (zad rfl)) zaF) (zas (zaa (zch rfl (zaj (zad rfl) zab (zbq (by decide))) hy) zah) (of_decide_eq_true rfl)) (pt _ _ none none).1) (zaX (zad rfl) (zaB (zaj (zad rfl) zab zaK)) zab zaF) (pt _ _ _ _).2.1) (zat ⟨_, rfl, (pt _ _ _ _).2.2⟩)
  apply zaJ
  refine zaI (zbc rfl zab zbm) (fun _ => ?_) fun _ => zbk (zau ?_)
  ·have m8 := zbK (xs := ls) (k := 8) (by decide) (by omega)
   have m7 := zbK (xs := ls) (k := 7) (by decide) (by omega)
   refine zar (ρ1 := [L, G, Mn, W, some (.pub (.int a')), some (.pub (.int t')), O, F, P, some s9, none, some (.own [.tuple ls, .none, .str "", .dict [], .list [], .list (List.replicate 8 ls).flatten])]) (zaZ (zba (zaa (zbs (zaa (zad rfl) zah) rfl) (zaa zab (zaa zab (zaa zab (zaa (zas zah (of_decide_eq_true rfl)) (zaa (zaj (zad rfl) zab m8) zah)))))) (of_decide_eq_true rfl)) (of_decide_eq_true rfl) rfl) ?_
   obtain ⟨l0, hl0, hl0m⟩ := ixm (xs := ls) (i := 0) (n := ls.length) (by decide) (by omega) rfl
   have hadd : oAdd (.list ls) (.list [.list [.list [.int m]]]) = some (.list (ls ++ [.list [.list [.int m]]])) := zav (by rw [List.length_singleton]; omega)
   refine zar (zaS (zaj (zbE rfl rfl) (zas (zaa (zaX (zaj (zad rfl) zab m7) zab (zaB zab) zaF) (zaa (zch rfl zab hl0) (zaa (zaj (zad rfl) (zas (zaa (zas (zaa (zas (zaa (zad rfl) zah) (of_decide_eq_true rfl)) zah) (of_decide_eq_true rfl)) zah) (of_decide_eq_true rfl)) hadd) zah))) (of_decide_eq_true rfl)) (zav (of_decide_eq_true rfl))) (of_decide_eq_true rfl) rfl) ?_
   have h9m : 0 <= o % 9 /\ o % 9 < (9 : Nat) := ⟨by omega, by omega⟩
   obtain ⟨y, hy, hym⟩ := ixm (xs := [.tuple ls, .none, .str "", .dict [], .list [], .list (List.replicate 8 ls).flatten] ++ [.list (DL.cutD (List.replicate 7 ls).flatten none (some 7)), l0, .list (ls ++ [.list [.list [.int m]]])]) (n := 9) h9m.1 h9m.2 rfl
   refine zaA (zch rfl (zaj (zad rfl) zab (zbq (by decide))) hy) (zat ⟨_, rfl, ?_⟩)
   have one : ∀ (k : Nat) (z : D), 1 <= k -> wB k z = true -> wB k (.list [z]) = true := fun k z hk hz => zaO.mpr ⟨hk, fun q hq => by rw [List.mem_singleton] at hq; subst hq; exact hz⟩
   have big : ∀ z ∈ ls, wB (8 * n) z = true := fun z hz => zbf (n := n) (by omega) z (hlm z hz)
   simp only [List.mem_append, List.mem_cons, List.not_mem_nil, or_false] at hym
   rcases hym with (rfl | rfl | rfl | rfl | rfl | rfl) | (rfl | rfl | rfl)
   ·exact zdB.mpr ⟨by omega, big⟩
   ·rfl
   ·rfl
   ·rfl
   ·exact zaO.mpr ⟨Nat.zero_le _, fun _ h => by cases h⟩
   ·exact zaO.mpr ⟨by rw [zc3]; exact Nat.mul_le_mul_left 8 hll, fun z hz => big z (zce hz)⟩
   ·refine zaO.mpr ⟨?_, fun z hz => big z (zce (zbl hz))⟩
    have := zbZ (xs := (List.replicate 7 ls).flatten) (a := none) (b := some 7)
    rw [zc3] at this
    have : 7 * ls.length <= 7 * n := Nat.mul_le_mul_left 7 hll
    omega
   ·exact big _ hl0m
   ·refine zaO.mpr ⟨by rw [List.length_append, List.length_singleton]; omega, fun z hz => ?_⟩
    rcases List.mem_append.mp hz with hz | hz
    ·exact big z hz
    ·rw [List.mem_singleton] at hz; subst hz; exact one _ _ (by omega) (one _ _ (by omega) rfl)
  exact zaA (zad rfl) ⟨_, rfl, zbf (by omega) _ hw⟩
 apply zaJ
 cases rk with
 | list rs =>
  obtain ⟨h1, h2⟩ := zaO.mp wrk
  exact zaI (b := false) (zaH (zad rfl) rfl) (fun z => by cases z) fun _ => zbk (zau (main (.pub (.list rs)) rs (.inl rfl) h1 h2))
 | dict kvs => exact zaI (b := true) (zbY (zad rfl)) (fun _ => zaV (zaZ (zba zah (of_decide_eq_true rfl)) (of_decide_eq_true rfl) rfl) (zau (main (.own []) [] (.inr rfl) (Nat.zero_le _) fun x hx => by cases hx))) fun z => by cases z
 | _ => exact zaI (b := true) (zaH (zad rfl) rfl) (fun _ => zaV (zaZ (zba zah (of_decide_eq_true rfl)) (of_decide_eq_true rfl) rfl) (zau (main (.own []) [] (.inr rfl) (Nat.zero_le _) fun x hx => by cases hx))) fun z => by cases z
theorem zfU {cs : List Int} {ls : List (List (List Int))} (g : Good cs ls) : wB 7 (.list (cs.map PyData.int)) = true /\ wB 7 (.list (ls.map zb1)) = true := by
 constructor
 ·refine zaO.mpr ⟨by rw [List.length_map]; have := g.c6; omega, fun x hx => ?_⟩
  obtain ⟨i, _, rfl⟩ := List.mem_map.mp hx
  rfl
 ·refine zaO.mpr ⟨by rw [List.length_map]; exact g.l7, fun x hx => ?_⟩
  obtain ⟨rs, hrs, rfl⟩ := List.mem_map.mp hx
  have gr := g.rk rs hrs
  refine zaO.mpr ⟨by rw [List.length_map]; have := gr.few; omega, fun y hy => ?_⟩
  obtain ⟨r, hr, rfl⟩ := List.mem_map.mp hy
  have h1 : r.length <= rs.flatten.length := List.Sublist.length_le (List.sublist_flatten_of_mem hr)
  have h2 := zgK gr
  have := g.c6
  refine zaO.mpr ⟨by rw [List.length_map]; omega, fun z hz => ?_⟩
  obtain ⟨i, _, rfl⟩ := List.mem_map.mp hz
  rfl
def znC : D -> Bool
 | .list (_ :: _) => true
 | _ => false
theorem zc8 {j : Nat} {ρ : DEnv} {d : D} (h : ρ[j]? = some (some (.pub d))) : mAnd (za2 (mMap (fun d => .bool (isTy d "list")) (dVar j))) (zbv oNeW j (mLst (mNil))) ρ = .ok (znC d) ρ := by
 cases d with
 | list xs =>
  refine zkQ (ze4 (zad h) rfl) (zbc h (zas zah (of_decide_eq_true rfl)) ?_)
  rw [zk7]
  cases xs <;> rfl
 | dict kvs => exact zif (ze4 (zad h) (nty (by decide)))
 | _ => exact zif (ze4 (zad h) rfl)
theorem zfV {wd C S Z : Option Sl} {dg : D} {cs : List Int} {ls : D} {c l : D} {n : Nat} {k : Int} {w a o f w' a' t' o' f' p' : Int} {Q : Out -> Prop} (hn : n <= 400) (h6 : 6 <= n) (hc : wB n c = true) (hl : wB n l = true) (hm : cs.length <= 6) (hw : wd = some (.pub (.tuple [.list (cs.map PyData.int), ls])))
  (s1 : oSlA dg (some (4 * k)) (some (4 * k + 4)) = some (.list [.int w, .int a, .int o, .int f])) (s2 : oSlA dg (some (8 + 6 * k)) (some (14 + 6 * k)) = some (.list [.int w', .int a', .int t', .int o', .int f', .int p']))
  (ha : 0 <= a) (ho : 0 <= o /\ o < 12) (ha' : 0 <= a') (ht' : 0 <= t') (ho' : 0 <= o' /\ o' < 12) (hf' : 0 <= f' /\ f' < 1000000000000000000) (hp' : 0 <= p') (hk : 0 <= k /\ k <= 10)
  (hq : ∀ c2 l2, wB (8 * n) c2 = true -> wB (8 * n) l2 = true -> Q (.nx [wd, C, S, Z, some (.pub dg), some (.pub c2), some (.pub l2), some (.pub (.int k)), none])) :
  Ho zep [wd, C, S, Z, some (.pub dg), some (.pub c), some (.pub l), some (.pub (.int k)), none] Q := by
 subst hw
 unfold zep
 have m4 : oMul (.int 4) (.int k) = some (.int (4 * k)) := zcK (by decide) (by decide)
 have m6 : oMul (.int 6) (.int k) = some (.int (6 * k)) := zcK (by decide) (by decide)
 apply zaJ
 have second : ∀ c2 : D, wB (8 * n) c2 = true -> Ho (sIf (mAnd (za2 (mMap (fun d => .bool (isTy d "list")) (dVar 6))) (zbv oNeW 6 (mLst (mNil))))
   (sSet 6 (dFun 3 F_aq (zae (dVar 6) (zae (dSlA (dVar 4) (zam (dBin oAdd (zaf (.int 8)) (dBin oMul (zaf (.int 6)) (dVar 7))) fun x => mOpt (za6 x)) (zam (dBin oAdd (zaf (.int 14)) (dBin oMul (zaf (.int 6)) (dVar 7))) fun x => mOpt (za6 x))) (zae (zb3 oLen (zae (dIxN 0 (zaf (.int 0))) (mNil))) (mNil))))))
   (sNx)) [some (.pub (.tuple [.list (cs.map PyData.int), ls])), C, S, Z, some (.pub dg), some (.pub c2), some (.pub l), some (.pub (.int k)), none] Q := by
  intro c2 h2
  refine zaI (zc8 rfl) (fun z => ?_) fun z => zbk (hq c2 l h2 (zbf (by omega) l hl))
  obtain ⟨x, xs, rfl⟩ : ∃ x xs, l = .list (x :: xs) := by
   cases l with
   | list xs =>
    cases xs with
    | nil => cases z
    | cons x xs => exact ⟨x, xs, rfl⟩
   | _ => cases z
  obtain ⟨r, hr, wr⟩ := zhi (ls := x :: xs) (n := n) (w := w') (a := a') (t := t') (o := o') (f := f') (p := p') (m := cs.length) hn h6 hl (by simp) ha' ht' ho' hf' hp' ⟨by omega, by omega⟩
  have hln : oLen [.list (cs.map PyData.int)] = some (.int cs.length) := by rw [zaN, List.length_map]
  exact zaV (zaS (za7 (zaa (zad rfl) (zaa (zaX (zad rfl) (zaB (zaj zab (zaj zab (zad rfl) m6) zaK)) (zaB (zaj zab (zaj zab (zad rfl) m6) zaK)) s2) (zaa (zbs (zaa (zch rfl zab rfl) zah) hln) zah))) rfl hr) (of_decide_eq_true rfl) rfl) (hq c2 r h2 wr)
 refine zaI (zc8 rfl) (fun z => ?_) fun z => zbk (zau (second c (zbf (by omega) c hc)))
 obtain ⟨x, xs, rfl⟩ : ∃ x xs, c = .list (x :: xs) := by
  cases c with
  | list xs =>
   cases xs with
   | nil => cases z
   | cons x xs => exact ⟨x, xs, rfl⟩
  | _ => cases z
 obtain ⟨r, hr, wr⟩ := zgn (cs := x :: xs) (n := n) (w := w) (a := a) (o := o) (f := f) (by omega) hc (by simp) ha ho h6
 exact zaV (zaS (za7 (zaa (zad rfl) (zaa (zaX (zad rfl) (zaB (zaj zab (zad rfl) m4)) (zaB (zaj (zaj zab (zad rfl) m4) zab zaK)) s1) zah)) rfl hr) (of_decide_eq_true rfl) rfl) (zau (second r (zbf (by omega) r wr)))
theorem ziI {cs : List Int} {ls : List (List (List Int))} (g : Good cs ls) (c s : Int) : ∃ r, F_ar [zeE cs ls, .int c, .int s] = some r /\ wB 448 r = true := by
 refine zc0 (ρ := [some (.pub (zeE cs ls)), some (.pub (.int c)), some (.pub (.int s)), none, none, none, none, none, none]) rfl ?_
 unfold g_ar
 let sz : List Int := [7, 6, 12, 1000000000000000000, 7, 6, 12, 1000000000000000000, 9, 7, 6, 12, 1000000000000000000, 7, 9, 7, 6, 12, 1000000000000000000, 7]
 have hp : oPow (.int 10) (.int 18) = some (.int 1000000000000000000) := by kernel_rfl
 have q1 : oMul (.list [.int 7, .int 6, .int 12, .int 1000000000000000000]) (.int 2) = some (.list [.int 7, .int 6, .int 12, .int 1000000000000000000, .int 7, .int 6, .int 12, .int 1000000000000000000]) := by kernel_rfl
 have q2 : oMul (.list [.int 9, .int 7, .int 6, .int 12, .int 1000000000000000000, .int 7]) (.int 2) = some (.list [.int 9, .int 7, .int 6, .int 12, .int 1000000000000000000, .int 7, .int 9, .int 7, .int 6, .int 12, .int 1000000000000000000, .int 7]) := by kernel_rfl
 let Wd : Option Sl := some (.pub (zeE cs ls))
 refine zar (ρ1 := [Wd, some (.pub (.int c)), some (.pub (.int s)), some (.pub (.list (sz.map PyData.int))), none, none, none, none, none]) (zaS (zaj (zaj (zas (zaa zab (zaa zab (zaa zab (zaa (zaj zab zab hp) zah)))) (of_decide_eq_true rfl)) zab q1) (zaj (zas (zaa zab (zaa zab (zaa zab (zaa zab (zaa (zaj zab zab hp) (zaa zab zah)))))) (of_decide_eq_true rfl)) zab q2) (zav (of_decide_eq_true rfl))) (of_decide_eq_true rfl) rfl) ?_
 obtain ⟨r, hr, ds, rfl, hl, hb⟩ := zcu c s (sizes := sz ++ [12, 9]) (by decide) (by decide)
 match ds, hl with
 | [d0, d1, d2, d3, d4, d5, d6, d7, d8, d9, d10, d11, d12, d13, d14, d15, d16, d17, d18, d19, d20, d21], _ =>
 let dg : D := .list ([d0, d1, d2, d3, d4, d5, d6, d7, d8, d9, d10, d11, d12, d13, d14, d15, d16, d17, d18, d19, d20, d21].map PyData.int)
 refine zar (ρ1 := [Wd, some (.pub (.int c)), some (.pub (.int s)), some (.pub (.list (sz.map PyData.int))), some (.pub dg), none, none, none, none]) (zaS (za7 (zaa (zad rfl) (zaa (zad rfl) (zaa (zaj (zad rfl) (zas (zaa zab (zaa zab zah)) (of_decide_eq_true rfl)) (zav (of_decide_eq_true rfl))) zah))) rfl hr) (of_decide_eq_true rfl) rfl) ?_
 refine zar (ρ1 := [Wd, some (.pub (.int c)), some (.pub (.int s)), some (.pub (.list (sz.map PyData.int))), some (.pub dg), some (.pub (.list (cs.map PyData.int))), some (.pub (.list (ls.map zb1))), none, none]) (zcZ (zad rfl) (tg_T rfl (tg_C (tg_N (of_decide_eq_true rfl) rfl) (tg_C (tg_N (of_decide_eq_true rfl) rfl) tg_0)))) ?_
 obtain ⟨w1, w2⟩ := zfU g
 apply zaJ
 apply zeI (ds := zbi 0 2) (fun i ρ => ∃ c2 l2 x7, ρ = [Wd, some (.pub (.int c)), some (.pub (.int s)), some (.pub (.list (sz.map PyData.int))), some (.pub dg), some (.pub c2), some (.pub l2), x7, none] /\ wB (7 * 8 ^ i) c2 = true /\ wB (7 * 8 ^ i) l2 = true)
 case h1 => exact zdf (zaa zab zah) (zcL (by decide) (by decide))
 case h0 => exact ⟨_, _, _, rfl, w1, w2⟩
 case hst =>
  rintro i d ρ hi ⟨c2, l2, x7, rfl, h1, h2⟩
  obtain ⟨rfl, hi2⟩ := zcj hi
  rw [Int.zero_add]
  refine ⟨_, tg_N (of_decide_eq_true rfl) rfl, ?_⟩
  have hb' : i = 0 ∨ i = 1 := by omega
  rcases hb' with rfl | rfl
  ·refine zfV (n := 7) (k := 0) (cs := cs) (ls := .list (ls.map zb1)) (w := d0) (a := d1) (o := d2) (f := d3) (w' := d8) (a' := d9) (t' := d10) (o' := d11) (f' := d12) (p' := d13) (by decide) (by decide) h1 h2 g.c6 rfl rfl rfl (hb 1 d1 6 rfl rfl).1 (hb 2 d2 12 rfl rfl) (hb 9 d9 7 rfl rfl).1 (hb 10 d10 6 rfl rfl).1 (hb 11 d11 12 rfl rfl) (hb 12 d12 _ rfl rfl) (hb 13 d13 7 rfl rfl).1 (by decide) fun c3 l3 h3 h4 => zcv ⟨_, _, _, rfl, h3, h4⟩
  ·refine zfV (n := 56) (k := 1) (cs := cs) (ls := .list (ls.map zb1)) (w := d4) (a := d5) (o := d6) (f := d7) (w' := d14) (a' := d15) (t' := d16) (o' := d17) (f' := d18) (p' := d19) (by decide) (by decide) h1 h2 g.c6 rfl rfl rfl (hb 5 d5 6 rfl rfl).1 (hb 6 d6 12 rfl rfl) (hb 15 d15 7 rfl rfl).1 (hb 16 d16 6 rfl rfl).1 (hb 17 d17 12 rfl rfl) (hb 18 d18 _ rfl rfl) (hb 19 d19 7 rfl rfl).1 (by decide) fun c3 l3 h3 h4 => zcv ⟨_, _, _, rfl, h3, h4⟩
 case hend =>
  rintro ρ ⟨c2, l2, x7, rfl, h1, h2⟩
  have h1 : wB 448 c2 = true := h1
  have h2 : wB 448 l2 = true := h2
  refine zau ?_
  let X : List D := [.list [c2, l2], .tuple [c2], .tuple [c2, l2, .none], .none, .dict [], .str "", .tuple [], c2, .bool true]
  refine zar (ρ1 := [Wd, some (.pub (.int c)), some (.pub (.int s)), some (.pub (.list (sz.map PyData.int))), some (.pub dg), some (.pub c2), some (.pub l2), x7, some (.own X)]) (zaZ (zba (zaa (zas (zaa (zad rfl) (zaa (zad rfl) zah)) (of_decide_eq_true rfl)) (zaa (zbo (zaa (zad rfl) zah) (of_decide_eq_true rfl)) (zaa (zbo (zaa (zad rfl) (zaa (zad rfl) (zaa zab zah))) (of_decide_eq_true rfl)) (zaa zab (zaa zab (zaa zab (zaa (zbo zah (of_decide_eq_true rfl)) (zaa (zad rfl) (zaa zab zah))))))))) (of_decide_eq_true rfl)) (of_decide_eq_true rfl) rfl) ?_
  have pair : ∀ z ∈ ([c2, l2] : List D), wB 448 z = true := fun z hz => by
   simp only [List.mem_cons, List.not_mem_nil, or_false] at hz
   rcases hz with rfl | rfl
   ·exact h1
   ·exact h2
  apply zaJ
  refine zaI (zaj (zch rfl zab rfl) zab zbm) (fun _ => ?_) fun _ => zbk (zau ?_)
  ·have b21 := hb 21 d21 9 rfl rfl
   obtain ⟨y, hy, hym⟩ := ixm (xs := X) (n := 9) b21.1 b21.2 rfl
   refine zaA (zdt rfl (zch rfl zab rfl) rfl hy) (zat ⟨_, rfl, ?_⟩)
   simp only [X, List.mem_cons, List.not_mem_nil, or_false] at hym
   rcases hym with rfl | rfl | rfl | rfl | rfl | rfl | rfl | rfl | rfl
   ·exact zaO.mpr ⟨of_decide_eq_true rfl, pair⟩
   ·exact zdB.mpr ⟨of_decide_eq_true rfl, fun z hz => by rw [List.mem_singleton] at hz; subst hz; exact h1⟩
   ·refine zdB.mpr ⟨of_decide_eq_true rfl, fun z hz => ?_⟩
    simp only [List.mem_cons, List.not_mem_nil, or_false] at hz
    rcases hz with rfl | rfl | rfl
    ·exact h1
    ·exact h2
    ·rfl
   ·rfl
   ·rfl
   ·rfl
   ·rfl
   ·exact h1
   ·rfl
  ·exact zaA (zbo (zaa (zad rfl) (zaa (zad rfl) zah)) (of_decide_eq_true rfl)) ⟨_, rfl, zdB.mpr ⟨of_decide_eq_true rfl, pair⟩⟩
def dg (n : Nat) : List Char := if n = 0 then [] else Nat.toDigits 10 n
theorem zev {n : Nat} (h : n ≠ 0) : dg n = Nat.toDigits 10 n := if_neg h
theorem ziJ {n d : Nat} (hd : d < 10) (h : n ≠ 0 ∨ d ≠ 0) : dg (n * 10 + d) = dg n ++ [d.digitChar] := by
 have e : n * 10 + d = 10 * n + d := by omega
 rw [zev (by omega), e]
 by_cases hn : n = 0
 ·subst hn
  rw [Nat.mul_zero, Nat.zero_add, Nat.toDigits_of_lt_base hd]; rfl
 ·rw [zev hn, ← Nat.toDigits_append_toDigits (by decide) (by omega) hd, Nat.toDigits_of_lt_base hd]
theorem zjY : ∀ (k n : Nat), n < 10 ^ k -> (dg n).length <= k
 | 0, n, h => by
  have : n = 0 := by simpa using h
  subst this; exact Nat.le_refl _
 | k + 1, n, h => by
  by_cases hn : n = 0
  ·subst hn; exact Nat.zero_le _
  ·have e : n = (n / 10) * 10 + n % 10 := by omega
   rw [e, ziJ (Nat.mod_lt _ (by decide)) (by omega), List.length_append]
   have := zjY k (n / 10) (by rw [Nat.pow_succ] at h; omega)
   show _ + 1 <= _
   omega
theorem zli {n : Nat} (h : n ≠ 0) : Str.ofString (toString (n : Int)) = tx (dg n) := by
 rw [zev h, Int.toString_eq_repr, Int.repr_eq_if, if_pos (by omega), Int.toNat_natCast, Nat.repr_eq_ofList_toDigits, zkP, String.toList_ofList]
theorem zlj {n : Nat} (h : n ≠ 0) : Str.ofString (toString (0 - (n : Int))) = tx ('-' :: dg n) := by
 have e : (-(0 - (n : Int))).toNat = n := by omega
 rw [zev h, Int.toString_eq_repr, Int.repr_eq_if, if_neg (by omega), e, Nat.repr_eq_ofList_toDigits, zkP]
 simp
theorem str0 : Str.ofString (toString (0 : Int)) = tx ['0'] := by rw [zkP]; rfl
def stL (l : List Nat) : Str := ⟨l.toArray⟩
theorem zmM {l : List Nat} (h : ∀ c ∈ l, c < 1114112) : PyData.strOk (stL l) = true := by
 unfold PyData.strOk stL
 rw [List.all_toArray, List.all_eq_true]
 intro c hc
 simpa using h c hc
def isDg (c : Nat) : Bool := decide (48 <= c /\ c <= 57)
def figs (l : List Nat) : List Nat := if l.take 1 = [45] then l.drop 1 else l
def okN (l : List Nat) : Bool := decide (1 <= (figs l).length) && decide ((figs l).length <= 60) && (figs l).all isDg && (decide ((figs l).head? ≠ some 48) || decide (l = [48]))
def vNm (l : List Nat) : Int := if l.take 1 = [45] then 0 - ((NumText.digitsVal (figs l) : Nat) : Int) else ((NumText.digitsVal (figs l) : Nat) : Int)
def shd (m : Nat) : List Nat := (dg m).map Char.toNat
theorem zlk : ∀ d : Fin 10, (Nat.digitChar d).toNat = 48 + d := by decide
theorem zmN {m : Nat} : (shd m).all isDg = true := by
 rw [List.all_eq_true]
 intro c hc
 obtain ⟨ch, hch, rfl⟩ := List.mem_map.mp hc
 by_cases h0 : m = 0
 ·subst h0; cases hch
 ·rw [zev h0] at hch
  have r := PyProof.Rows.digit_range (Nat.isDigit_of_mem_toDigits (by decide) (by decide) hch)
  exact decide_eq_true r
theorem zll {m : Nat} (h : m ≠ 0) : NumText.digitsVal (shd m) = m := by
 unfold shd
 rw [zev h]
 exact PySem.W.KIN.val_back m
theorem zmO (m : Nat) : m ≠ 0 -> (shd m).head? ≠ some 48 /\ shd m ≠ [] := by
 induction m using Nat.strongRecOn with
 | _ m ih =>
  intro h0
  by_cases h : m < 10
  ·have e : dg m = [m.digitChar] := by rw [zev h0, Nat.toDigits_of_lt_base h]
   have e2 := zlk ⟨m, h⟩
   unfold shd
   rw [e]
   refine ⟨?_, by simp⟩
   intro e3
   have e3 : (Nat.digitChar m).toNat = 48 := by simpa using e3
   have e2 : (Nat.digitChar m).toNat = 48 + m := e2
   omega
  ·have e : m = (m / 10) * 10 + m % 10 := by omega
   obtain ⟨i1, i2⟩ := ih (m / 10) (by omega) (by omega)
   have e2 : shd m = shd (m / 10) ++ [(m % 10).digitChar.toNat] := by
    unfold shd
    rw [congrArg dg e, ziJ (Nat.mod_lt _ (by decide)) (by omega), List.map_append]; rfl
   rw [e2]
   cases hs : shd (m / 10) with
   | nil => exact absurd hs i2
   | cons x r => rw [hs] at i1; exact ⟨i1, by simp⟩
theorem zlm {m : Nat} (h : m < 10 ^ 60) : (shd m).length <= 60 := by
 unfold shd
 rw [List.length_map]
 exact zjY 60 m h
theorem zmP {l : List Nat} (h : l.all isDg = true) : ∀ c ∈ l, c < 1114112 := by
 intro c hc
 have := List.all_eq_true.mp h c hc
 unfold isDg at this
 have := of_decide_eq_true this
 omega
theorem znD {n : Int} (h : n.natAbs < 10 ^ 60) : ∃ l, Str.ofString (toString n) = stL l /\ okN l = true /\ vNm l = n /\ (∀ c ∈ l, c < 1114112) /\ l.length <= 61 := by
 by_cases h0 : n = 0
 ·subst h0
  exact ⟨[48], by rw [str0]; rfl, by decide, by decide, by decide, by decide⟩
 obtain ⟨m, hm⟩ : ∃ m : Nat, n = m ∨ n = 0 - (m : Int) := ⟨n.natAbs, by omega⟩
 have hm0 : m ≠ 0 := by omega
 have hm60 : m < 10 ^ 60 := by omega
 obtain ⟨q1, q2⟩ := zmO m hm0
 have q3 := zlm hm60
 have q4 := zll hm0
 have q5 : (shd m).all isDg = true := zmN
 have q6 := zmP q5
 have q7 : 1 <= (shd m).length := List.length_pos_iff.mpr q2
 rcases hm with rfl | rfl
 ·have hf : (shd m).take 1 ≠ [45] := by
   cases hs : shd m with
   | nil => exact absurd hs q2
   | cons x r =>
    rw [hs] at q5
    intro e
    have e : x = 45 := by simpa using e
    subst e
    simp [isDg] at q5
  have hg : figs (shd m) = shd m := by unfold figs; rw [if_neg hf]
  refine ⟨shd m, by rw [zli hm0]; rfl, ?_, ?_, q6, by omega⟩
  ·unfold okN
   rw [hg, decide_eq_true q7, decide_eq_true q3, q5, decide_eq_true q1]; rfl
  ·unfold vNm
   rw [if_neg hf, hg, q4]
 ·have hg : figs (45 :: shd m) = shd m := rfl
  refine ⟨45 :: shd m, by rw [zlj hm0]; rfl, ?_, ?_, ?_, by simp; omega⟩
  ·unfold okN
   rw [hg, decide_eq_true q7, decide_eq_true q3, q5, decide_eq_true q1]; rfl
  ·unfold vNm
   rw [if_pos (show List.take 1 (45 :: shd m) = [45] from rfl), hg, q4]
  ·intro c hc
   rcases List.mem_cons.mp hc with rfl | hc
   ·decide
   ·exact q6 c hc
mutual
def hZ : D -> Bool
 | .none | .bool _ => true
 | .int i => decide (i.natAbs < 10000000000000000000)
 | .str z => PyData.strOk z && decide (z.length <= 20)
 | .list xs | .tuple xs => hZs xs
 | .dict [] => true
 | .dict (_ :: _) => false
def hZs : List D -> Bool
 | [] => true
 | x :: xs => hZ x && hZs xs
end
theorem zfc : ∀ {xs : List D}, hZs xs = true ↔ ∀ x ∈ xs, hZ x = true
 | [] => by simp [hZs]
 | x :: r => by rw [hZs, Bool.and_eq_true, zfc (xs := r)]; simp
def EZ (k : Nat) (d : D) : Prop := hZ d = true /\ d.depth <= k
theorem EZ.mono {k m : Nat} {d : D} (h : k <= m) (e : EZ k d) : EZ m d := ⟨e.1, Nat.le_trans e.2 h⟩
theorem zdi {k : Nat} : ∀ {xs : List D}, (∀ x ∈ xs, x.depth <= k) -> PyData.depthAll xs <= k
 | [], _ => by simp [PyData.depthAll]
 | x :: r, h => by
  have h1 := h x List.mem_cons_self
  have h2 := zdi (xs := r) fun y hy => h y (List.mem_cons_of_mem _ hy)
  simp only [PyData.depthAll]
  omega
theorem zfW {x : D} : ∀ {xs : List D}, x ∈ xs -> x.depth <= PyData.depthAll xs
 | y :: r, h => by
  simp only [PyData.depthAll]
  rcases List.mem_cons.mp h with rfl | h
  ·omega
  ·have := zfW (xs := r) h
   omega
theorem za3 {k : Nat} {xs : List D} (h : ∀ x ∈ xs, EZ k x) : EZ (k + 1) (.list xs) := by
 refine ⟨zfc.mpr fun x hx => (h x hx).1, ?_⟩
 have := zdi fun x hx => (h x hx).2
 simp only [PyData.depth]
 omega
theorem zdC {k : Nat} {xs : List D} (h : ∀ x ∈ xs, EZ k x) : EZ (k + 1) (.tuple xs) := by
 refine ⟨zfc.mpr fun x hx => (h x hx).1, ?_⟩
 have := zdi fun x hx => (h x hx).2
 simp only [PyData.depth]
 omega
theorem zfd {k : Nat} {xs : List D} (h : EZ (k + 1) (.list xs)) : ∀ x ∈ xs, EZ k x := by
 intro x hx
 refine ⟨zfc.mp h.1 x hx, ?_⟩
 have h2 := h.2
 simp only [PyData.depth] at h2
 have := zfW hx
 omega
theorem zbP : ∀ (xs ys : List D), PyData.bulkAll (xs ++ ys) = PyData.bulkAll xs + PyData.bulkAll ys
 | [], ys => by simp [PyData.bulkAll]
 | x :: r, ys => by
  have := zbP r ys
  simp only [List.cons_append, PyData.bulkAll]
  omega
theorem zgo : ∀ {xs ys : List D}, xs.Sublist ys -> PyData.bulkAll xs <= PyData.bulkAll ys
 | _, _, .slnil => Nat.le_refl _
 | _, _, .cons a h => by
  have := zgo h
  simp only [PyData.bulkAll]
  omega
 | _, _, .cons₂ a h => by
  have := zgo h
  simp only [PyData.bulkAll]
  omega
theorem zcq (xs : List D) (a b : Option Int) : PyData.bulkAll (DL.cutD xs a b) <= PyData.bulkAll xs := by
 unfold DL.cutD
 exact zgo ((List.take_sublist _ _).trans (List.drop_sublist _ _))
theorem zdj (xs : List D) : ∀ n : Nat, PyData.bulkAll (List.replicate n xs).flatten = n * PyData.bulkAll xs
 | 0 => by simp [PyData.bulkAll]
 | n + 1 => by rw [List.replicate_succ, List.flatten_cons, zbP, zdj xs n, Nat.succ_mul]; omega
theorem zew {x : D} : ∀ {xs : List D}, x ∈ xs -> x.bulk + 1 <= PyData.bulkAll xs
 | y :: r, h => by
  simp only [PyData.bulkAll]
  rcases List.mem_cons.mp h with rfl | h
  ·omega
  ·have := zew (xs := r) h
   omega
theorem zex : ∀ (xs : List D), xs.length <= PyData.bulkAll xs
 | [] => Nat.zero_le _
 | x :: r => by
  have := zex r
  simp only [PyData.bulkAll, List.length_cons]
  omega
theorem ziK {i : Int} (h : i.natAbs < 10000000000000000000) : i.natAbs.log2 < 1920 := by
 by_cases z : i.natAbs = 0
 ·rw [z]; decide
 ·have := (Nat.log2_lt z).mpr (show i.natAbs < 2 ^ 64 by omega)
  omega
mutual
theorem zjZ : ∀ {d : D}, hZ d = true -> layZ d = true /\ d.showable = true /\ d.leavesShort 24 = true
 | .none, _ => ⟨rfl, rfl, rfl⟩
 | .bool _, _ => ⟨rfl, rfl, rfl⟩
 | .int i, h => by
  have h : i.natAbs < 10000000000000000000 := by simpa [hZ] using h
  refine ⟨rfl, ?_, ?_⟩
  ·simp only [PyData.showable, decide_eq_true_eq]
   exact ziK h
  ·simp only [PyData.leavesShort, decide_eq_true_eq]
   show (Str.ofString (toString i)).length <= 24
   rw [PySem.ofString_length]
   have := PySem.int_text_length_le10 (a := i) (k := 19) (by decide) h
   omega
 | .str z, h => by
  have h : PyData.strOk z = true /\ z.length <= 20 := by simpa [hZ] using h
  refine ⟨by simpa [layZ] using h.1, rfl, ?_⟩
  simp only [PyData.leavesShort, List.all_eq_true, decide_eq_true_eq]
  intro c hc
  have h1 := h.1
  unfold PyData.strOk at h1
  rw [← Array.all_toList, List.all_eq_true] at h1
  have := h1 c hc
  simp only [decide_eq_true_eq] at this
  omega
 | .list xs, h => by
  obtain ⟨a, b, c⟩ := hZs_all (xs := xs) (by simpa [hZ] using h)
  exact ⟨by simpa [layZ] using a, by simpa [PyData.showable] using b, by simpa [PyData.leavesShort] using c⟩
 | .tuple xs, h => by
  obtain ⟨a, b, c⟩ := hZs_all (xs := xs) (by simpa [hZ] using h)
  exact ⟨by simpa [layZ] using a, by simpa [PyData.showable] using b, by simpa [PyData.leavesShort] using c⟩
 | .dict [], _ => ⟨rfl, rfl, rfl⟩
 | .dict (_ :: _), h => by simp [hZ] at h
theorem hZs_all : ∀ {xs : List D}, hZs xs = true -> layZs xs = true /\ PyData.showableAll xs = true /\ PyData.leavesShortAll 24 xs = true
 | [], _ => ⟨rfl, rfl, rfl⟩
 | x :: r, h => by
  rw [hZs, Bool.and_eq_true] at h
  obtain ⟨a, b, c⟩ := zjZ h.1
  obtain ⟨a', b', c'⟩ := hZs_all h.2
  exact ⟨by rw [layZs, a, a']; rfl, by rw [PyData.showableAll, b, b']; rfl, by rw [PyData.leavesShortAll, c, c']; rfl⟩
end
theorem zjD {d : D} {k : Nat} (h : EZ k d) (hk : k <= 50) (hb : d.bulk <= 30000) : zeo [d] = some (.str d.shown) := by
 obtain ⟨a, b, c⟩ := zjZ h.1
 refine zis ⟨a, b, Nat.le_trans h.2 hk, ?_⟩
 have := PyData.shown_le_bulk 24 (by decide) d c
 omega
theorem zb0 {k n : Nat} {i : Int} (h : i.natAbs < 10000000000000000000) : EZ k (.int i) /\ (PyData.int i).bulk <= n := ⟨⟨by simpa [hZ] using h, by simp [PyData.depth]⟩, by simp [PyData.bulk]⟩
theorem zln {f : Int} {k n : Nat} (hf : 0 <= f /\ f < 1000000000000000000) : EZ (k + 1) (.str (toString f)) /\ (PyData.str (toString f)).bulk <= 2 * n + 30 := by
 have hl : (Str.ofString (toString f)).length <= 20 := by
  rw [PySem.ofString_length]
  have := PySem.int_text_length_le10 (a := f) (k := 19) (by decide) (by omega)
  omega
 have ho : PyData.strOk (Str.ofString (toString f)) = true := by
  have : f.natAbs < 10 ^ 60 := Nat.lt_of_lt_of_le (show f.natAbs < 1000000000000000000 by omega) (by decide)
  obtain ⟨l, el, _, _, k3, _⟩ := znD this
  rw [el]
  exact zmM k3
 refine ⟨⟨?_, by simp [PyData.depth]⟩, ?_⟩
 ·show (PyData.strOk (Str.ofString (toString f)) && decide ((Str.ofString (toString f)).length <= 20)) = true
  rw [ho, decide_eq_true hl]; rfl
 ·show (Str.ofString (toString f)).length <= _
  omega
theorem zdX {k n : Nat} : EZ k .none /\ (PyData.none).bulk <= n := ⟨⟨rfl, by simp [PyData.depth]⟩, by simp [PyData.bulk]⟩
theorem zey {k n : Nat} {b : Bool} : EZ k (.bool b) /\ (PyData.bool b).bulk <= n := ⟨⟨rfl, by simp [PyData.depth]⟩, by simp [PyData.bulk]⟩
theorem zgQ {k n : Nat} : EZ (k + 1) (.dict []) /\ (PyData.dict []).bulk <= n := ⟨⟨rfl, by simp [PyData.depth, PyData.depthKv]⟩, by simp [PyData.bulk, PyData.bulkKv]⟩
theorem zgR {k n : Nat} : EZ (k + 1) (.list []) /\ (PyData.list []).bulk <= n := ⟨⟨rfl, by simp [PyData.depth, PyData.depthAll]⟩, by simp [PyData.bulk, PyData.bulkAll]⟩
theorem zeN {k n : Nat} {z : Str} (h : hZ (.str z) = true) (h2 : z.length <= n) : EZ k (.str z) /\ (PyData.str z).bulk <= n := ⟨⟨h, by simp [PyData.depth]⟩, h2⟩
theorem ez_l {k n : Nat} {i : Int} (hk : 2 <= k) (h : i.natAbs < 10000000000000000000) (hn : 1 <= n) : EZ k (.list [.int i]) /\ (PyData.list [.int i]).bulk <= n := by
 refine ⟨EZ.mono (k := 0 + 1) (by omega) (za3 fun x hx => ?_), ?_⟩
 ·rw [List.mem_singleton] at hx; subst hx; exact (zb0 (n := 0) h).1
 ·show PyData.bulkAll _ <= _
  have : PyData.bulkAll [PyData.int i] = 1 := rfl
  omega
theorem ez_t {k n : Nat} {i : Int} (hk : 2 <= k) (h : i.natAbs < 10000000000000000000) (hn : 1 <= n) : EZ k (.tuple [.int i]) /\ (PyData.tuple [.int i]).bulk <= n := by
 refine ⟨EZ.mono (k := 0 + 1) (by omega) (zdC fun x hx => ?_), ?_⟩
 ·rw [List.mem_singleton] at hx; subst hx; exact (zb0 (n := 0) h).1
 ·show PyData.bulkAll _ <= _
  have : PyData.bulkAll [PyData.int i] = 1 := rfl
  omega
theorem znE {cs : List D} {n k : Nat} {w o a f : Int} (hn : n <= 4000) (hk : 2 <= k) (hcm : ∀ x ∈ cs, EZ k x) (hcb : PyData.bulkAll cs <= n) (hne : cs ≠ []) (ha : 0 <= a) (ho : 0 <= o /\ o < 12) (hf : 0 <= f /\ f < 1000000000000000000) : ∃ r, F_ao [.list cs, .list [.int w, .int a, .int o, .int f]] = some r /\ EZ (k + 1) r /\ r.bulk <= 7 * n + 10 := by
 refine zc0 (ρ := [some (.pub (.list cs)), some (.pub (.list [.int w, .int a, .int o, .int f])), none, none, none, none, none, none]) rfl ?_
 unfold g_ao
 have hcl : cs.length <= n := Nat.le_trans (zex cs) hcb
 have hp : 0 < cs.length := List.length_pos_iff.mpr hne
 let C : Option Sl := some (.pub (.list cs))
 let G : Option Sl := some (.pub (.list [.int w, .int a, .int o, .int f]))
 refine zar (ρ1 := [C, G, some (.pub (.int w)), some (.pub (.int a)), some (.pub (.int o)), some (.pub (.int f)), none, none]) (zcZ (zad rfl) (tg_L rfl (tg_C (tg_N (of_decide_eq_true rfl) rfl) (tg_C (tg_N (of_decide_eq_true rfl) rfl) (tg_C (tg_N (of_decide_eq_true rfl) rfl) (tg_C (tg_N (of_decide_eq_true rfl) rfl) tg_0)))))) ?_
 refine zar (zaS (zaj (zad rfl) (zaR rfl zaN) (zbq (by omega))) (of_decide_eq_true rfl) rfl) ?_
 generalize a % (cs.length : Int) = a'
 let X : List D := [.none, .bool true, .bool false, .int (-1), .int 8, .int (0 - f), .int (8 + f), .str "1", .list [.int 1], .tuple [.int 1], .int 7, .int 0]
 refine zar (ρ1 := [C, G, some (.pub (.int w)), some (.pub (.int a')), some (.pub (.int o)), some (.pub (.int f)), some (.own X), none]) (zaZ (zba (zaa zab (zaa zab (zaa zab (zaa (zek zab) (zaa zab (zaa (zaj zab (zad rfl) zdg) (zaa (zaj zab (zad rfl) zaK) (zaa zab (zaa (zas (zaa zab zah) (of_decide_eq_true rfl)) (zaa (zbo (zaa zab zah) (of_decide_eq_true rfl)) (zaa zab (zaa zab zah)))))))))))) (of_decide_eq_true rfl)) (of_decide_eq_true rfl) rfl) ?_
 obtain ⟨x, hx, hxm⟩ := ixm (xs := X) (n := 12) ho.1 ho.2 rfl
 have wx : EZ k x /\ x.bulk <= 1 := by
  simp only [X, List.mem_cons, List.not_mem_nil, or_false] at hxm
  rcases hxm with rfl | rfl | rfl | rfl | rfl | rfl | rfl | rfl | rfl | rfl | rfl | rfl
  ·exact zdX
  ·exact zey
  ·exact zey
  ·exact zb0 (by omega)
  ·exact zb0 (by omega)
  ·exact zb0 (by omega)
  ·exact zb0 (by omega)
  ·exact zeN (by decide +kernel) (by decide +kernel)
  ·exact ez_l hk (by decide) (by decide)
  ·exact ez_t hk (by decide) (by decide)
  ·exact zb0 (by omega)
  ·exact zb0 (by omega)
 have cl : ∀ p q : Option Int, (DL.cutD cs p q).length <= n := fun p q => Nat.le_trans zbZ hcl
 have joined : ∀ p q r s : Option Int, oAdd (.list (DL.cutD cs p q)) (.list [x]) = some (.list (DL.cutD cs p q ++ [x])) /\ oAdd (.list (DL.cutD cs p q ++ [x])) (.list (DL.cutD cs r s)) = some (.list (DL.cutD cs p q ++ [x] ++ DL.cutD cs r s)) /\ EZ (k + 1) (.list (DL.cutD cs p q ++ [x] ++ DL.cutD cs r s)) /\ (PyData.list (DL.cutD cs p q ++ [x] ++ DL.cutD cs r s)).bulk <= 7 * n + 10 := by
  intro p q r s
  have c1 := cl p q
  have c2 := cl r s
  refine ⟨zav (by rw [List.length_singleton]; omega), zav (by rw [List.length_append, List.length_singleton]; omega), za3 fun y hy => ?_, ?_⟩
  ·rcases List.mem_append.mp hy with hy | hy
   ·rcases List.mem_append.mp hy with hy | hy
    ·exact hcm y (zbl hy)
    ·rw [List.mem_singleton] at hy; subst hy; exact wx.1
   ·exact hcm y (zbl hy)
  ·show PyData.bulkAll _ <= _
   rw [zbP, zbP]
   have b1 := zcq cs p q
   have b2 := zcq cs r s
   have b3 : PyData.bulkAll [x] = x.bulk + 1 := by simp [PyData.bulkAll]
   have := wx.2
   omega
 apply zaJ
 refine zaI (zbc rfl zab zbm) (fun _ => ?_) fun _ => zbk (zau ?_)
 ·exact zaA (zaj (zaj (zaX (zad rfl) zab (zaB (zad rfl)) zaF) (zas (zaa (zdt rfl (zad rfl) rfl hx) zah) (of_decide_eq_true rfl)) (joined _ _ none none).1) (zaX (zad rfl) (zaB (zaj (zad rfl) zab zaK)) zab zaF) (joined _ _ _ _).2.1) (zat ⟨_, rfl, (joined _ _ _ _).2.2⟩)
 apply zaJ
 refine zaI (zbc rfl zab zbm) (fun _ => ?_) fun _ => zbk (zau ?_)
 ·exact zaA (zaj (zaj (zaX (zad rfl) zab (zaB (zad rfl)) zaF) (zas (zaa (zdt rfl (zad rfl) rfl hx) zah) (of_decide_eq_true rfl)) (joined _ _ none none).1) (zaX (zad rfl) (zaB (zad rfl)) zab zaF) (joined _ _ _ _).2.1) (zat ⟨_, rfl, (joined _ _ _ _).2.2⟩)
 apply zaJ
 refine zaI (zbc rfl zab zbm) (fun _ => ?_) fun _ => zbk (zau ?_)
 ·obtain ⟨c0, hc0, hc0m⟩ := ixm (xs := cs) (i := 0) (n := cs.length) (by decide) (by omega) rfl
  refine zar (ρ1 := [C, G, some (.pub (.int w)), some (.pub (.int a')), some (.pub (.int o)), some (.pub (.int f)), some (.own X), some (.own [.tuple cs, .none, .str "", .dict [], .list [], c0])]) (zaZ (zba (zaa (zbs (zaa (zad rfl) zah) rfl) (zaa zab (zaa zab (zaa zab (zaa (zas zah (of_decide_eq_true rfl)) (zaa (zch rfl zab hc0) zah)))))) (of_decide_eq_true rfl)) (of_decide_eq_true rfl) rfl) ?_
  have m7 := zbK (xs := cs) (k := 7) (by decide) (by omega)
  have m6 := zbK (xs := cs) (k := 6) (by decide) (by omega)
  have m1 := zbK (xs := [PyData.int 1]) (k := 6) (by decide) (by decide)
  have ad : oAdd (.list (List.replicate 6 [PyData.int 1]).flatten) (.list cs) = some (.list ((List.replicate 6 [PyData.int 1]).flatten ++ cs)) := zav (by rw [zc3]; simp; omega)
  refine zar (zaS (zaj (zbE rfl rfl) (zas (zaa (zaj (zad rfl) zab m7) (zaa (zaX (zaj (zad rfl) zab m6) zab (zaB zab) zaF) (zaa (zaj (zaj (zas (zaa zab zah) (of_decide_eq_true rfl)) zab m1) (zad rfl) ad) zah))) (of_decide_eq_true rfl)) (zav (of_decide_eq_true rfl))) (of_decide_eq_true rfl) rfl) ?_
  have hm9 : 0 <= o % 9 /\ o % 9 < (9 : Nat) := ⟨by omega, by omega⟩
  obtain ⟨y, hy, hym⟩ := ixm (xs := [.tuple cs, .none, .str "", .dict [], .list [], c0] ++ [.list (List.replicate 7 cs).flatten, .list (DL.cutD (List.replicate 6 cs).flatten none (some 6)), .list ((List.replicate 6 [PyData.int 1]).flatten ++ cs)]) (n := 9) hm9.1 hm9.2 rfl
  refine zaA (zch rfl (zaj (zad rfl) zab (zbq (by decide))) hy) (zat ⟨_, rfl, ?_⟩)
  simp only [List.mem_append, List.mem_cons, List.not_mem_nil, or_false] at hym
  rcases hym with (rfl | rfl | rfl | rfl | rfl | rfl) | (rfl | rfl | rfl)
  ·exact ⟨zdC hcm, show PyData.bulkAll cs <= _ by omega⟩
  ·exact zdX
  ·exact zeN (by decide +kernel) (Nat.zero_le _)
  ·exact zgQ
  ·exact zgR
  ·exact ⟨(hcm _ hc0m).mono (by omega), by have := zew hc0m; omega⟩
  ·exact ⟨za3 fun z hz => hcm z (zce hz), show PyData.bulkAll _ <= _ by rw [zdj]; omega⟩
  ·refine ⟨za3 fun z hz => hcm z (zce (zbl hz)), ?_⟩
   show PyData.bulkAll _ <= _
   have := zcq (List.replicate 6 cs).flatten none (some 6)
   rw [zdj] at this
   omega
  ·refine ⟨za3 fun z hz => ?_, ?_⟩
   ·rcases List.mem_append.mp hz with hz | hz
    ·have := zce hz
     rw [List.mem_singleton] at this
     subst this
     exact EZ.mono hk ⟨rfl, by simp [PyData.depth]⟩
    ·exact hcm z hz
   ·show PyData.bulkAll _ <= _
    rw [zbP, zdj]
    have : PyData.bulkAll [PyData.int 1] = 1 := rfl
    omega
 exact zaA (zad rfl) ⟨_, rfl, za3 hcm, show PyData.bulkAll cs <= _ by omega⟩
theorem znF {d : D} {n k : Nat} {a o f m : Int} (hn : n <= 4000) (hk : 2 <= k) (hw : EZ (k + 1) d) (hb : d.bulk <= n) (h1n : 1 <= n) (hm : 0 <= m /\ m <= 6) (ha : 0 <= a) (ho : 0 <= o /\ o < 12) (hf : 0 <= f /\ f < 1000000000000000000) : ∃ r, F_ap [d, .list [.int a, .int o, .int f], .int m] = some r /\ EZ (k + 1) r /\ r.bulk <= 2 * n + 30 := by
 refine zc0 (ρ := [some (.pub d), some (.pub (.list [.int a, .int o, .int f])), some (.pub (.int m)), none, none, none, none, none]) rfl ?_
 unfold g_ap
 let G : Option Sl := some (.pub (.list [.int a, .int o, .int f]))
 let Mn : Option Sl := some (.pub (.int m))
 refine zar (ρ1 := [some (.pub d), G, Mn, some (.pub (.int a)), some (.pub (.int o)), some (.pub (.int f)), none, none]) (zcZ (zad rfl) (tg_L rfl (tg_C (tg_N (of_decide_eq_true rfl) rfl) (tg_C (tg_N (of_decide_eq_true rfl) rfl) (tg_C (tg_N (of_decide_eq_true rfl) rfl) tg_0))))) ?_
 have main : ∀ (s0 : Sl) (xs : List D), (s0 = .pub (.list xs) ∨ s0 = .own xs) -> PyData.bulkAll xs <= n -> (∀ x ∈ xs, EZ k x) -> Ho (sSeq (sSet 3 (dBin oMod (dVar 3) (dBin oAdd (zbu 0) (zaf (.int 1)))))
   (sSeq (zbG 6 (zam (zae (zaf .none) (zae (zaf (.bool true)) (zae (zaf (.bool false)) (zae (dNeg (zaf (.int 1))) (zae (dVar 2) (zae (dBin oAdd (dVar 2) (dVar 5)) (zae (dBin oSub (zaf (.int 0)) (dVar 5)) (zae (zaf (.str "0")) (zae (mLst (zae (zaf (.int 0)) (mNil))) (zae (mTup (zae (zaf (.int 0)) (mNil))) (zae (zaf (.int 0)) (zae (dBin oSub (dVar 2) (zaf (.int 1))) (mNil))))))))))))) fun xs => if xs.length <= 1000000 then zaf xs else fun _ => .bad))
   (sSeq (sSet 7 (dBin oAdd (dBin oAdd (dSlA (dVar 0) (zaf none) (zam (dVar 3) fun x => mOpt (za6 x))) (mLst (zae (dIxN 6 (dVar 4)) (mNil)))) (dSlA (dVar 0) (zam (dBin oAdd (dVar 3) (dBin oMod (dVar 5) (zaf (.int 2)))) fun x => mOpt (za6 x)) (zaf none))))
   (sRet (dBin oIx (mLst (zae (dVar 7) (zae (dVar 7) (zae (dVar 7) (zae (zb3 zdY (zae (dVar 0) (mNil))) (zae (mLst (mNil)) (zae (dBin oAdd (dVar 0) (dSlA (dVar 0) (zaf none) (zam (zaf (.int 1)) fun x => mOpt (za6 x)))) (zae (zb3 zf9 (zae (dVar 5) (mNil))) (zae (zaf .none) (mNil)))))))))) (dBin oMod (dBin oDiv (dVar 5) (zaf (.int 2))) (zaf (.int 8))))))))
   [some s0, G, Mn, some (.pub (.int a)), some (.pub (.int o)), some (.pub (.int f)), none, none] (fun z => ∃ e, z = .rt e /\ EZ (k + 1) e /\ e.bulk <= 2 * n + 30) := by
  intro s0 xs hs hbx hmx
  have hl : xs.length <= n := Nat.le_trans (zex xs) hbx
  have hlen : zbu 0 [some s0, G, Mn, some (.pub (.int a)), some (.pub (.int o)), some (.pub (.int f)), none, none] = .ok (.int xs.length) [some s0, G, Mn, some (.pub (.int a)), some (.pub (.int o)), some (.pub (.int f)), none, none] := by
   rcases hs with rfl | rfl
   ·exact zaR rfl zaN
   ·exact zdK rfl
  refine zar (zaS (zaj (zad rfl) (zaj hlen zab zaK) (zbq (by omega))) (of_decide_eq_true rfl) rfl) ?_
  generalize a % ((xs.length : Int) + 1) = a'
  let X : List D := [.none, .bool true, .bool false, .int (-1), .int m, .int (m + f), .int (0 - f), .str "0", .list [.int 0], .tuple [.int 0], .int 0, .int (m - 1)]
  refine zar (ρ1 := [some s0, G, Mn, some (.pub (.int a')), some (.pub (.int o)), some (.pub (.int f)), some (.own X), none]) (zaZ (zba (zaa zab (zaa zab (zaa zab (zaa (zek zab) (zaa (zad rfl) (zaa (zaj (zad rfl) (zad rfl) zaK) (zaa (zaj zab (zad rfl) zdg) (zaa zab (zaa (zas (zaa zab zah) (of_decide_eq_true rfl)) (zaa (zbo (zaa zab zah) (of_decide_eq_true rfl)) (zaa zab (zaa (zaj (zad rfl) zab zdg) zah)))))))))))) (of_decide_eq_true rfl)) (of_decide_eq_true rfl) rfl) ?_
  obtain ⟨x, hx, hxm⟩ := ixm (xs := X) (n := 12) ho.1 ho.2 rfl
  have wx : EZ k x /\ x.bulk <= 1 := by
   simp only [X, List.mem_cons, List.not_mem_nil, or_false] at hxm
   rcases hxm with rfl | rfl | rfl | rfl | rfl | rfl | rfl | rfl | rfl | rfl | rfl | rfl
   ·exact zdX
   ·exact zey
   ·exact zey
   ·exact zb0 (by omega)
   ·exact zb0 (by omega)
   ·exact zb0 (by omega)
   ·exact zb0 (by omega)
   ·exact zeN (by decide +kernel) (by decide +kernel)
   ·exact ez_l hk (by decide) (by decide)
   ·exact ez_t hk (by decide) (by decide)
   ·exact zb0 (by omega)
   ·exact zb0 (by omega)
  have cl : ∀ p q : Option Int, (DL.cutD xs p q).length <= n := fun p q => Nat.le_trans zbZ hl
  have v0 : ∀ r6 r7 : Option Sl, dVar 0 [some s0, G, Mn, some (.pub (.int a')), some (.pub (.int o)), some (.pub (.int f)), r6, r7] = .ok (.list xs) [some (.pub (.list xs)), G, Mn, some (.pub (.int a')), some (.pub (.int o)), some (.pub (.int f)), r6, r7] := by
   intro r6 r7
   rcases hs with rfl | rfl
   ·exact zad rfl
   ·exact zbE rfl rfl
  let B : List D := DL.cutD xs none (some a') ++ [x] ++ DL.cutD xs (some (a' + f % 2)) none
  have c1 := cl none (some a')
  have c2 := cl (some (a' + f % 2)) none
  have wBn : EZ (k + 1) (.list B) /\ (PyData.list B).bulk <= 2 * n + 30 := by
   refine ⟨za3 fun y hy => ?_, ?_⟩
   ·rcases List.mem_append.mp hy with hy | hy
    ·rcases List.mem_append.mp hy with hy | hy
     ·exact hmx y (zbl hy)
     ·rw [List.mem_singleton] at hy; subst hy; exact wx.1
    ·exact hmx y (zbl hy)
   ·show PyData.bulkAll (DL.cutD xs none (some a') ++ [x] ++ DL.cutD xs (some (a' + f % 2)) none) <= _
    rw [zbP, zbP]
    have b1 := zcq xs none (some a')
    have b2 := zcq xs (some (a' + f % 2)) none
    have b3 : PyData.bulkAll [x] = x.bulk + 1 := by simp [PyData.bulkAll]
    have := wx.2
    omega
  refine zar (ρ1 := [some (.pub (.list xs)), G, Mn, some (.pub (.int a')), some (.pub (.int o)), some (.pub (.int f)), some (.own X), some (.pub (.list B))]) (zaS (zaj (zaj (zaX (v0 _ _) zab (zaB (zad rfl)) zaF) (zas (zaa (zdt rfl (zad rfl) rfl hx) zah) (of_decide_eq_true rfl)) (zav (by rw [List.length_singleton]; omega))) (zaX (zad rfl) (zaB (zaj (zad rfl) (zaj (zad rfl) zab (zbq (by decide))) zaK)) zab zaF) (zav (by rw [List.length_append, List.length_singleton]; omega))) (of_decide_eq_true rfl) rfl) ?_
  have c3 := cl none (some 1)
  have h8 : 0 <= f / 2 % 8 /\ f / 2 % 8 < (8 : Nat) := ⟨by omega, by omega⟩
  obtain ⟨y, hy, hym⟩ := ixm (xs := [.list B, .list B, .list B, .tuple xs, .list [], .list (xs ++ DL.cutD xs none (some 1)), .str (toString f), .none]) (n := 8) h8.1 h8.2 rfl
  refine zaA (zaj (zas (zaa (zad rfl) (zaa (zad rfl) (zaa (zad rfl) (zaa (zbs (zaa (zad rfl) zah) rfl) (zaa (zas zah (of_decide_eq_true rfl)) (zaa (zaj (zad rfl) (zaX (zad rfl) zab (zaB zab) zaF) (zav (by omega))) (zaa (zbs (zaa (zad rfl) zah) (ziG hf.1 hf.2)) (zaa zab zah)))))))) (of_decide_eq_true rfl)) (zaj (zaj (zad rfl) zab (zgd (by decide) (by decide))) zab (zbq (by decide))) hy) ⟨_, rfl, ?_⟩
  simp only [List.mem_cons, List.not_mem_nil, or_false] at hym
  rcases hym with rfl | rfl | rfl | rfl | rfl | rfl | rfl | rfl
  ·exact wBn
  ·exact wBn
  ·exact wBn
  ·exact ⟨zdC hmx, show PyData.bulkAll xs <= _ by omega⟩
  ·exact zgR
  ·refine ⟨za3 fun z hz => ?_, ?_⟩
   ·rcases List.mem_append.mp hz with hz | hz
    ·exact hmx z hz
    ·exact hmx z (zbl hz)
   ·show PyData.bulkAll _ <= _
    rw [zbP]
    have := zcq xs none (some 1)
    omega
  ·exact zln hf
  ·exact zdX
 apply zaJ
 cases d with
 | list xs =>
  have h2 := zfd hw
  have h1 : PyData.bulkAll xs <= n := hb
  exact zaI (b := false) (zaH (zad rfl) rfl) (fun z => by cases z) fun _ => zbk (zau (main (.pub (.list xs)) xs (.inl rfl) h1 h2))
 | dict kvs => exact zaI (b := true) (zbY (zad rfl)) (fun _ => zaV (zaZ (zba (zaa zab zah) (of_decide_eq_true rfl)) (of_decide_eq_true rfl) rfl) (zau (main (.own [.int 0]) [.int 0] (.inr rfl) (show 1 <= n from h1n) fun x hx => by rw [List.mem_singleton] at hx; subst hx; exact (zb0 (n := 0) (by decide)).1))) fun z => by cases z
 | _ => exact zaI (b := true) (zaH (zad rfl) rfl) (fun _ => zaV (zaZ (zba (zaa zab zah) (of_decide_eq_true rfl)) (of_decide_eq_true rfl) rfl) (zau (main (.own [.int 0]) [.int 0] (.inr rfl) (show 1 <= n from h1n) fun x hx => by rw [List.mem_singleton] at hx; subst hx; exact (zb0 (n := 0) (by decide)).1))) fun z => by cases z
theorem zeO {d : D} {m : Int} (h : d ∈ zbi 0 m) : ∃ i : Int, (0 <= i /\ i < m) /\ d = .int i := by
 obtain ⟨j, hj, e⟩ := List.getElem_of_mem h
 have h2 : (zbi 0 m)[j]? = some d := by rw [List.getElem?_eq_getElem hj, e]
 obtain ⟨h3, h4⟩ := zcj h2
 exact ⟨0 + (j : Int), ⟨by omega, by omega⟩, h3⟩
theorem zcP {f : D -> D} {c : Nat} : ∀ {xs : List D}, (∀ x ∈ xs, (f x).bulk <= c) -> PyData.bulkAll (xs.map f) <= xs.length * (c + 1)
 | [], _ => by simp [PyData.bulkAll]
 | x :: r, h => by
  have h1 := h x List.mem_cons_self
  have h2 := zcP (xs := r) fun y hy => h y (List.mem_cons_of_mem _ hy)
  simp only [List.map_cons, PyData.bulkAll, List.length_cons]
  rw [Nat.succ_mul]
  omega
theorem znG {ls : List D} {n k : Nat} {w a t o f p m : Int} (hn : n <= 4000) (h1n : 1 <= n) (hk : 2 <= k) (hlm : ∀ x ∈ ls, EZ (k + 2) x) (hlb : PyData.bulkAll ls <= n) (hne : ls ≠ []) (ha : 0 <= a) (ht : 0 <= t) (ho : 0 <= o /\ o < 12) (hf : 0 <= f /\ f < 1000000000000000000) (hp : 0 <= p) (hm : 0 <= m /\ m <= 6) :
  ∃ r, F_aq [.list ls, .list [.int w, .int a, .int t, .int o, .int f, .int p], .int m] = some r /\ EZ (k + 3) r /\ r.bulk <= 8 * n + 60 := by
 refine zc0 (ρ := [some (.pub (.list ls)), some (.pub (.list [.int w, .int a, .int t, .int o, .int f, .int p])), some (.pub (.int m)), none, none, none, none, none, none, none, none, none]) rfl ?_
 unfold g_aq
 have hll : ls.length <= n := Nat.le_trans (zex ls) hlb
 have hpos : 0 < ls.length := List.length_pos_iff.mpr hne
 let L : Option Sl := some (.pub (.list ls))
 let G : Option Sl := some (.pub (.list [.int w, .int a, .int t, .int o, .int f, .int p]))
 let Mn : Option Sl := some (.pub (.int m))
 let W : Option Sl := some (.pub (.int w))
 let O : Option Sl := some (.pub (.int o))
 let F : Option Sl := some (.pub (.int f))
 let P : Option Sl := some (.pub (.int p))
 refine zar (ρ1 := [L, G, Mn, W, some (.pub (.int a)), some (.pub (.int t)), O, F, P, none, none, none]) (zcZ (zad rfl) (tg_L rfl (tg_C (tg_N (of_decide_eq_true rfl) rfl) (tg_C (tg_N (of_decide_eq_true rfl) rfl) (tg_C (tg_N (of_decide_eq_true rfl) rfl) (tg_C (tg_N (of_decide_eq_true rfl) rfl) (tg_C (tg_N (of_decide_eq_true rfl) rfl) (tg_C (tg_N (of_decide_eq_true rfl) rfl) tg_0)))))))) ?_
 have ham : 0 <= a % (ls.length : Int) /\ a % (ls.length : Int) < (ls.length : Nat) := ⟨Int.emod_nonneg _ (by omega), Int.emod_lt_of_pos _ (by omega)⟩
 refine zar (zaS (zaj (zad rfl) (zaR rfl zaN) (zbq (by omega))) (of_decide_eq_true rfl) rfl) ?_
 obtain ⟨rk, hrk, hrkm⟩ := ixm (xs := ls) (n := ls.length) ham.1 ham.2 rfl
 generalize a % (ls.length : Int) = a' at hrk
 have wrk := hlm rk hrkm
 have brk : rk.bulk + 1 <= n := Nat.le_trans (zew hrkm) hlb
 refine zar (ρ1 := [L, G, Mn, W, some (.pub (.int a')), some (.pub (.int t)), O, F, P, some (.pub rk), none, none]) (zaS (zch rfl (zad rfl) hrk) (of_decide_eq_true rfl) rfl) ?_
 have clL : ∀ x y : Option Int, (DL.cutD ls x y).length <= n := fun x y => Nat.le_trans zbZ hll
 have put : ∀ (z : D) (x y u v : Option Int), EZ (k + 2) z -> z.bulk <= 4 * n + 50 -> oAdd (.list (DL.cutD ls x y)) (.list [z]) = some (.list (DL.cutD ls x y ++ [z])) /\ oAdd (.list (DL.cutD ls x y ++ [z])) (.list (DL.cutD ls u v)) = some (.list (DL.cutD ls x y ++ [z] ++ DL.cutD ls u v)) /\ EZ (k + 3) (.list (DL.cutD ls x y ++ [z] ++ DL.cutD ls u v)) /\ (PyData.list (DL.cutD ls x y ++ [z] ++ DL.cutD ls u v)).bulk <= 8 * n + 60 := by
  intro z x y u v hz hzb
  have c1 := clL x y
  have c2 := clL u v
  refine ⟨zav (by rw [List.length_singleton]; omega), zav (by rw [List.length_append, List.length_singleton]; omega), za3 fun q hq => ?_, ?_⟩
  ·rcases List.mem_append.mp hq with hq | hq
   ·rcases List.mem_append.mp hq with hq | hq
    ·exact hlm q (zbl hq)
    ·rw [List.mem_singleton] at hq; subst hq; exact hz
   ·exact hlm q (zbl hq)
  ·show PyData.bulkAll _ <= _
   rw [zbP, zbP]
   have b1 := zcq ls x y
   have b2 := zcq ls u v
   have b3 : PyData.bulkAll [z] = z.bulk + 1 := by simp [PyData.bulkAll]
   omega
 have main : ∀ (s9 : Sl) (rs : List D), (s9 = .pub (.list rs) ∨ s9 = .own rs) -> PyData.bulkAll rs <= n -> (∀ x ∈ rs, EZ (k + 1) x) -> Ho (sSeq (sSet 5 (dBin oMod (dVar 5) (dBin oAdd (zbu 9) (zaf (.int 1)))))
 (sSeq (sIf (zbv oEq 3 (zaf (.int 1)))
 (sSeq (sSet 10 (dBin oIx (dBin oAdd (dVar 9) (mLst (zae (mLst (mNil)) (mNil)))) (dVar 5)))
 (sSeq (sSet 11 (dBin oAdd (dBin oAdd (dSlA (dVar 9) (zaf none) (zam (dVar 5) fun x => mOpt (za6 x))) (mLst (zae (dFun 3 F_ap (zae (dVar 10) (zae (mLst (zae (dVar 8) (zae (dVar 6) (zae (dVar 7) (mNil))))) (zae (dVar 2) (mNil))))) (mNil)))) (dSlA (dVar 9) (zam (dBin oAdd (dVar 5) (zaf (.int 1))) fun x => mOpt (za6 x)) (zaf none))))
 (sRet (dBin oAdd (dBin oAdd (dSlA (dVar 0) (zaf none) (zam (dVar 4) fun x => mOpt (za6 x))) (mLst (zae (dVar 11) (mNil)))) (dSlA (dVar 0) (zam (dBin oAdd (dVar 4) (zaf (.int 1))) fun x => mOpt (za6 x)) (zaf none))))))
 (sNx))
 (sSeq (sIf (zbv oEq 3 (zaf (.int 2)))
 (sSeq (zbG 11 (zam (zae (zb3 zdY (zae (dVar 9) (mNil))) (zae (zaf .none) (zae (zaf (.dict [])) (zae (zaf (.str "")) (zae (dBin oAdd (dVar 9) (dVar 9)) (mNil)))))) fun xs => if xs.length <= 1000000 then zaf xs else fun _ => .bad))
 (sSeq (sSet 11 (dBin oAdd (dVar 11) (mLst (zae (dBin oAdd (dVar 9) (mLst (zae (mLst (zae (zaf (.int 0)) (mNil))) (mNil)))) (zae (mLst (zae (mLst (zae (mLst (zae (zaf (.int 0)) (mNil))) (mNil))) (mNil))) (zae (dBin oMul (mLst (zae (mLst (zae (zaf (.int 0)) (mNil))) (mNil))) (zaf (.int 6))) (zae (zaf (.int 0)) (zae (mMap PyData.list (zef (zeb (zae (dVar 2) (mNil))) 1 (gN 12) (zaf true) (mLst (zae (dVar 12) (mNil))))) (mNil)))))))))
 (sRet (dBin oAdd (dBin oAdd (dSlA (dVar 0) (zaf none) (zam (dVar 4) fun x => mOpt (za6 x))) (mLst (zae (dIxN 11 (dBin oMod (dVar 6) (zaf (.int 10)))) (mNil)))) (dSlA (dVar 0) (zam (dBin oAdd (dVar 4) (zaf (.int 1))) fun x => mOpt (za6 x)) (zaf none))))))
 (sNx))
 (sSeq (sIf (zbv oEq 3 (zaf (.int 3)))
 (sSeq (zbG 11 (zam (zae (zb3 zdY (zae (dVar 0) (mNil))) (zae (zaf .none) (zae (zaf (.str "")) (zae (zaf (.dict [])) (zae (mLst (mNil)) (zae (dBin oMul (dVar 0) (zaf (.int 8))) (mNil))))))) fun xs => if xs.length <= 1000000 then zaf xs else fun _ => .bad))
 (sSeq (sSet 11 (dBin oAdd (dVar 11) (mLst (zae (dSlA (dBin oMul (dVar 0) (zaf (.int 7))) (zaf none) (zam (zaf (.int 7)) fun x => mOpt (za6 x))) (zae (dIxN 0 (zaf (.int 0))) (zae (dBin oAdd (dVar 0) (mLst (zae (mLst (zae (mLst (zae (dVar 2) (mNil))) (mNil))) (mNil)))) (mNil)))))))
 (sRet (dIxN 11 (dBin oMod (dVar 6) (zaf (.int 9)))))))
 (sNx))
 (sRet (dVar 0))))))
   [L, G, Mn, W, some (.pub (.int a')), some (.pub (.int t)), O, F, P, some s9, none, none] (fun z => ∃ e, z = .rt e /\ EZ (k + 3) e /\ e.bulk <= 8 * n + 60) := by
  intro s9 rs hs hbr hmr
  have hl : rs.length <= n := Nat.le_trans (zex rs) hbr
  have hlen : zbu 9 [L, G, Mn, W, some (.pub (.int a')), some (.pub (.int t)), O, F, P, some s9, none, none] = .ok (.int rs.length) [L, G, Mn, W, some (.pub (.int a')), some (.pub (.int t)), O, F, P, some s9, none, none] := by
   rcases hs with rfl | rfl
   ·exact zaR rfl zaN
   ·exact zdK rfl
  have htm : 0 <= t % ((rs.length : Int) + 1) /\ t % ((rs.length : Int) + 1) < ((rs.length + 1 : Nat) : Int) := ⟨Int.emod_nonneg _ (by omega), by have := Int.emod_lt_of_pos t (show 0 < (rs.length : Int) + 1 by omega); omega⟩
  refine zar (zaS (zaj (zad rfl) (zaj hlen zab zaK) (zbq (by omega))) (of_decide_eq_true rfl) rfl) ?_
  generalize t % ((rs.length : Int) + 1) = t' at htm
  have clR : ∀ x y : Option Int, (DL.cutD rs x y).length <= n := fun x y => Nat.le_trans zbZ hl
  have v9 : ∀ r10 r11 : Option Sl, dVar 9 [L, G, Mn, W, some (.pub (.int a')), some (.pub (.int t')), O, F, P, some s9, r10, r11] = .ok (.list rs) [L, G, Mn, W, some (.pub (.int a')), some (.pub (.int t')), O, F, P, some (.pub (.list rs)), r10, r11] := by
   intro r10 r11
   rcases hs with rfl | rfl
   ·exact zad rfl
   ·exact zbE rfl rfl
  apply zaJ
  refine zaI (zbc rfl zab zbm) (fun _ => ?_) fun _ => zbk (zau ?_)
  ·obtain ⟨r0, hr0, hr0m⟩ := ixm (xs := rs ++ [.list []]) (n := rs.length + 1) htm.1 htm.2 (by rw [List.length_append]; rfl)
   have wr0 : EZ (k + 1) r0 /\ r0.bulk <= n := by
    rcases List.mem_append.mp hr0m with h | h
    ·exact ⟨hmr r0 h, by have := zew h; omega⟩
    ·rw [List.mem_singleton] at h; subst h; exact zgR
   refine zar (ρ1 := [L, G, Mn, W, some (.pub (.int a')), some (.pub (.int t')), O, F, P, some (.pub (.list rs)), some (.pub r0), none]) (zaS (zaj (zaj (v9 _ _) (zas (zaa (zas zah (of_decide_eq_true rfl)) zah) (of_decide_eq_true rfl)) (zav (by rw [List.length_singleton]; omega))) (zad rfl) hr0) (of_decide_eq_true rfl) rfl) ?_
   obtain ⟨b, hb, wb⟩ := znF (d := r0) (n := n) (k := k) (a := p) (o := o) (f := f) (m := m) (by omega) hk wr0.1 wr0.2 h1n hm hp ho hf
   have c1 := clR none (some t')
   have c2 := clR (some (t' + 1)) none
   have wR : EZ (k + 2) (.list (DL.cutD rs none (some t') ++ [b] ++ DL.cutD rs (some (t' + 1)) none)) /\ (PyData.list (DL.cutD rs none (some t') ++ [b] ++ DL.cutD rs (some (t' + 1)) none)).bulk <= 4 * n + 50 := by
    refine ⟨za3 fun q hq => ?_, ?_⟩
    ·rcases List.mem_append.mp hq with hq | hq
     ·rcases List.mem_append.mp hq with hq | hq
      ·exact hmr q (zbl hq)
      ·rw [List.mem_singleton] at hq; subst hq; exact wb.1
     ·exact hmr q (zbl hq)
    ·show PyData.bulkAll _ <= _
     rw [zbP, zbP]
     have b1 := zcq rs none (some t')
     have b2 := zcq rs (some (t' + 1)) none
     have b3 : PyData.bulkAll [b] = b.bulk + 1 := by simp [PyData.bulkAll]
     have := wb.2
     omega
   refine zar (ρ1 := [L, G, Mn, W, some (.pub (.int a')), some (.pub (.int t')), O, F, P, some (.pub (.list rs)), some (.pub r0), some (.pub (.list (DL.cutD rs none (some t') ++ [b] ++ DL.cutD rs (some (t' + 1)) none)))]) (zaS (zaj (zaj (zaX (zad rfl) zab (zaB (zad rfl)) zaF) (zas (zaa (za7 (zaa (zad rfl) (zaa (zas (zaa (zad rfl) (zaa (zad rfl) (zaa (zad rfl) zah))) (of_decide_eq_true rfl)) (zaa (zad rfl) zah))) rfl hb) zah) (of_decide_eq_true rfl)) (zav (by rw [List.length_singleton]; omega))) (zaX (zad rfl) (zaB (zaj (zad rfl) zab zaK)) zab zaF) (zav (by rw [List.length_append, List.length_singleton]; omega))) (of_decide_eq_true rfl) rfl) ?_
   generalize DL.cutD rs none (some t') ++ [b] ++ DL.cutD rs (some (t' + 1)) none = R at wR
   have pt := fun x y u v => put (.list R) x y u v wR.1 wR.2
   exact zaA (zaj (zaj (zaX (zad rfl) zab (zaB (zad rfl)) zaF) (zas (zaa (zad rfl) zah) (of_decide_eq_true rfl)) (pt _ _ none none).1) (zaX (zad rfl) (zaB (zaj (zad rfl) zab zaK)) zab zaF) (pt _ _ _ _).2.1) (zat ⟨_, rfl, (pt _ _ _ _).2.2⟩)
  apply zaJ
  refine zaI (zbc rfl zab zbm) (fun _ => ?_) fun _ => zbk (zau ?_)
  ·have hrr : oAdd (.list rs) (.list rs) = some (.list (rs ++ rs)) := zav (by omega)
   refine zar (ρ1 := [L, G, Mn, W, some (.pub (.int a')), some (.pub (.int t')), O, F, P, some (.pub (.list rs)), none, some (.own [.tuple rs, .none, .dict [], .str "", .list (rs ++ rs)])]) (zaZ (zba (zaa (zbs (zaa (v9 _ _) zah) rfl) (zaa zab (zaa zab (zaa zab (zaa (zaj (zad rfl) (zad rfl) hrr) zah))))) (of_decide_eq_true rfl)) (of_decide_eq_true rfl) rfl) ?_
   let base : DEnv := [L, G, Mn, W, some (.pub (.int a')), some (.pub (.int t')), O, F, P, some (.pub (.list rs)), none, some (.pub (.list [.tuple rs, .none, .dict [], .str "", .list (rs ++ rs)]))]
   have hc : zcJ (gN 12) (zaf true) (mLst (zae (dVar 12) (mNil))) (zbi 0 m) (zbj base ++ List.replicate 1 none) [] = some ((zbi 0 m).map fun d => .list [d]) := by
    rw [zco (fun _ => true) (fun d => .list [d]) (fun ρ => ∃ x, ρ = base ++ [x])]
    ·rw [List.filter_eq_self.mpr (fun _ _ => rfl), List.nil_append]
    ·rintro d hd ρ ⟨x, rfl⟩
     exact ⟨_, tg_N (of_decide_eq_true rfl) rfl, rfl, fun _ => zas (zaa (zad rfl) zah) (of_decide_eq_true rfl), _, rfl⟩
    ·exact ⟨none, rfl⟩
    ·rw [za9, List.length_nil]; omega
   have m6 := zbK (xs := [PyData.list [.int 0]]) (k := 6) (by decide) (by decide)
   have h10 : oAdd (.list rs) (.list [.list [.int 0]]) = some (.list (rs ++ [.list [.int 0]])) := zav (by rw [List.length_singleton]; omega)
   refine zar (zaS (zaj (zbE rfl rfl) (zas (zaa (zaj (zad rfl) (zas (zaa (zas (zaa zab zah) (of_decide_eq_true rfl)) zah) (of_decide_eq_true rfl)) h10) (zaa (zas (zaa (zas (zaa (zas (zaa zab zah) (of_decide_eq_true rfl)) zah) (of_decide_eq_true rfl)) zah) (of_decide_eq_true rfl)) (zaa (zaj (zas (zaa (zas (zaa zab zah) (of_decide_eq_true rfl)) zah) (of_decide_eq_true rfl)) zab m6) (zaa zab (zaa (zcs (zdN (zdf (zaa (zad rfl) zah) (zcL (by omega) (by omega))) hc)) zah))))) (of_decide_eq_true rfl)) (zav (of_decide_eq_true rfl))) (of_decide_eq_true rfl) rfl) ?_
   have h10m : 0 <= o % 10 /\ o % 10 < (10 : Nat) := ⟨by omega, by omega⟩
   obtain ⟨y, hy, hym⟩ := ixm (xs := [.tuple rs, .none, .dict [], .str "", .list (rs ++ rs)] ++ [.list (rs ++ [.list [.int 0]]), .list [.list [.list [.int 0]]], .list (List.replicate 6 [PyData.list [.int 0]]).flatten, .int 0, .list ((zbi 0 m).map fun d => .list [d])]) (n := 10) h10m.1 h10m.2 rfl
   have wy : EZ (k + 2) y /\ y.bulk <= 4 * n + 50 := by
    have l0 : EZ (k + 1) (.list [.int 0]) := (ez_l (n := 1) (by omega) (by decide) (by decide)).1
    simp only [List.mem_append, List.mem_cons, List.not_mem_nil, or_false] at hym
    rcases hym with (rfl | rfl | rfl | rfl | rfl) | (rfl | rfl | rfl | rfl | rfl)
    ·exact ⟨zdC hmr, show PyData.bulkAll rs <= _ by omega⟩
    ·exact zdX
    ·exact zgQ
    ·exact zeN (by decide +kernel) (Nat.zero_le _)
    ·refine ⟨za3 fun z hz => ?_, show PyData.bulkAll _ <= _ by rw [zbP]; omega⟩
     rcases List.mem_append.mp hz with hz | hz <;> exact hmr z hz
    ·refine ⟨za3 fun z hz => ?_, ?_⟩
     ·rcases List.mem_append.mp hz with hz | hz
      ·exact hmr z hz
      ·rw [List.mem_singleton] at hz; subst hz; exact l0
     ·show PyData.bulkAll _ <= _
      rw [zbP]
      have : PyData.bulkAll [PyData.list [.int 0]] = 2 := rfl
      omega
    ·refine ⟨za3 fun z hz => ?_, show 3 <= _ by omega⟩
     rw [List.mem_singleton] at hz
     subst hz
     refine za3 fun q hq => ?_
     rw [List.mem_singleton] at hq
     subst hq
     exact (ez_l (n := 1) hk (by decide) (by decide)).1
    ·refine ⟨za3 fun z hz => ?_, ?_⟩
     ·have := zce hz
      rw [List.mem_singleton] at this
      subst this; exact l0
     ·show PyData.bulkAll _ <= _
      rw [zdj]
      have : PyData.bulkAll [PyData.list [.int 0]] = 2 := rfl
      omega
    ·exact zb0 (by decide)
    ·refine ⟨za3 fun z hz => ?_, ?_⟩
     ·obtain ⟨d, hd, rfl⟩ := List.mem_map.mp hz
      obtain ⟨i, hi, rfl⟩ := zeO hd
      exact (ez_l (n := 1) (by omega) (by omega) (by decide)).1
     ·show PyData.bulkAll _ <= _
      refine Nat.le_trans (zcP (c := 1) fun d hd => ?_) ?_
      ·obtain ⟨i, hi, rfl⟩ := zeO hd
       exact Nat.le_refl 1
      ·rw [za9]; omega
   have pt := fun x y' u v => put y x y' u v wy.1 wy.2
   exact zaA (zaj (zaj (zaX (zad rfl) zab (zaB (zad rfl)) zaF) (zas (zaa (zch rfl (zaj (zad rfl) zab (zbq (by decide))) hy) zah) (of_decide_eq_true rfl)) (pt _ _ none none).1) (zaX (zad rfl) (zaB (zaj (zad rfl) zab zaK)) zab zaF) (pt _ _ _ _).2.1) (zat ⟨_, rfl, (pt _ _ _ _).2.2⟩)
  apply zaJ
  refine zaI (zbc rfl zab zbm) (fun _ => ?_) fun _ => zbk (zau ?_)
  ·have m8 := zbK (xs := ls) (k := 8) (by decide) (by omega)
   have m7 := zbK (xs := ls) (k := 7) (by decide) (by omega)
   refine zar (ρ1 := [L, G, Mn, W, some (.pub (.int a')), some (.pub (.int t')), O, F, P, some s9, none, some (.own [.tuple ls, .none, .str "", .dict [], .list [], .list (List.replicate 8 ls).flatten])]) (zaZ (zba (zaa (zbs (zaa (zad rfl) zah) rfl) (zaa zab (zaa zab (zaa zab (zaa (zas zah (of_decide_eq_true rfl)) (zaa (zaj (zad rfl) zab m8) zah)))))) (of_decide_eq_true rfl)) (of_decide_eq_true rfl) rfl) ?_
   obtain ⟨l0, hl0, hl0m⟩ := ixm (xs := ls) (i := 0) (n := ls.length) (by decide) (by omega) rfl
   have hadd : oAdd (.list ls) (.list [.list [.list [.int m]]]) = some (.list (ls ++ [.list [.list [.int m]]])) := zav (by rw [List.length_singleton]; omega)
   refine zar (zaS (zaj (zbE rfl rfl) (zas (zaa (zaX (zaj (zad rfl) zab m7) zab (zaB zab) zaF) (zaa (zch rfl zab hl0) (zaa (zaj (zad rfl) (zas (zaa (zas (zaa (zas (zaa (zad rfl) zah) (of_decide_eq_true rfl)) zah) (of_decide_eq_true rfl)) zah) (of_decide_eq_true rfl)) hadd) zah))) (of_decide_eq_true rfl)) (zav (of_decide_eq_true rfl))) (of_decide_eq_true rfl) rfl) ?_
   have h9m : 0 <= o % 9 /\ o % 9 < (9 : Nat) := ⟨by omega, by omega⟩
   obtain ⟨y, hy, hym⟩ := ixm (xs := [.tuple ls, .none, .str "", .dict [], .list [], .list (List.replicate 8 ls).flatten] ++ [.list (DL.cutD (List.replicate 7 ls).flatten none (some 7)), l0, .list (ls ++ [.list [.list [.int m]]])]) (n := 9) h9m.1 h9m.2 rfl
   refine zaA (zch rfl (zaj (zad rfl) zab (zbq (by decide))) hy) (zat ⟨_, rfl, ?_⟩)
   simp only [List.mem_append, List.mem_cons, List.not_mem_nil, or_false] at hym
   rcases hym with (rfl | rfl | rfl | rfl | rfl | rfl) | (rfl | rfl | rfl)
   ·exact ⟨zdC hlm, show PyData.bulkAll ls <= _ by omega⟩
   ·exact zdX
   ·exact zeN (by decide +kernel) (Nat.zero_le _)
   ·exact zgQ
   ·exact zgR
   ·exact ⟨za3 fun z hz => hlm z (zce hz), show PyData.bulkAll _ <= _ by rw [zdj]; omega⟩
   ·refine ⟨za3 fun z hz => hlm z (zce (zbl hz)), ?_⟩
    show PyData.bulkAll _ <= _
    have := zcq (List.replicate 7 ls).flatten none (some 7)
    rw [zdj] at this
    omega
   ·exact ⟨(hlm _ hl0m).mono (by omega), by have := zew hl0m; omega⟩
   ·refine ⟨za3 fun z hz => ?_, ?_⟩
    ·rcases List.mem_append.mp hz with hz | hz
     ·exact hlm z hz
     ·rw [List.mem_singleton] at hz
      subst hz
      refine za3 fun q hq => ?_
      rw [List.mem_singleton] at hq
      subst hq
      exact (ez_l (n := 1) (by omega) (by omega) (by decide)).1
    ·show PyData.bulkAll _ <= _
     rw [zbP]
     have : PyData.bulkAll [PyData.list [PyData.list [.int m]]] = 3 := rfl
     omega
  exact zaA (zad rfl) ⟨_, rfl, za3 hlm, show PyData.bulkAll ls <= _ by omega⟩
 apply zaJ
 cases rk with
 | list rs =>
  have h2 := zfd wrk
  have h1 : PyData.bulkAll rs <= n := by
   have e : (PyData.list rs).bulk = PyData.bulkAll rs := rfl
   omega
  exact zaI (b := false) (zaH (zad rfl) rfl) (fun z => by cases z) fun _ => zbk (zau (main (.pub (.list rs)) rs (.inl rfl) h1 h2))
 | dict kvs => exact zaI (b := true) (zbY (zad rfl)) (fun _ => zaV (zaZ (zba zah (of_decide_eq_true rfl)) (of_decide_eq_true rfl) rfl) (zau (main (.own []) [] (.inr rfl) (Nat.zero_le _) fun x hx => by cases hx))) fun z => by cases z
 | _ => exact zaI (b := true) (zaH (zad rfl) rfl) (fun _ => zaV (zaZ (zba zah (of_decide_eq_true rfl)) (of_decide_eq_true rfl) rfl) (zau (main (.own []) [] (.inr rfl) (Nat.zero_le _) fun x hx => by cases hx))) fun z => by cases z
def nnZ : Nat -> Nat
 | 0 => 100
 | 1 => 860
 | _ => 6940
theorem zlo {c : Nat} {xs : List D} (h : ∀ x ∈ xs, x.bulk <= c) : PyData.bulkAll xs <= xs.length * (c + 1) := by
 have := zcP (f := id) (c := c) (xs := xs) h
 rw [List.map_id] at this
 exact this
theorem zjE {cs : List Int} {ls : List (List (List Int))} (g : Good cs ls) : (EZ 4 (.list (cs.map PyData.int)) /\ (PyData.list (cs.map PyData.int)).bulk <= 100) /\ EZ 5 (.list (ls.map zb1)) /\ (PyData.list (ls.map zb1)).bulk <= 100 := by
 have c6 := g.c6
 have l7 := g.l7
 refine ⟨⟨(za3 (k := 0) fun x hx => ?_).mono (by decide), ?_⟩, (za3 (k := 2) fun x hx => ?_).mono (by decide), ?_⟩
 ·obtain ⟨i, hi, rfl⟩ := List.mem_map.mp hx
  have := g.c7 i hi
  exact (zb0 (n := 0) (by omega)).1
 ·show PyData.bulkAll _ <= _
  have := zcP (f := id) (c := 0) (xs := cs.map PyData.int) fun x hx => by
   obtain ⟨i, _, rfl⟩ := List.mem_map.mp hx
   exact Nat.le_refl _
  rw [List.map_id, List.length_map] at this
  omega
 ·obtain ⟨rs, hrs, rfl⟩ := List.mem_map.mp hx
  have gr := g.rk rs hrs
  refine za3 (k := 1) fun y hy => ?_
  obtain ⟨r, hr, rfl⟩ := List.mem_map.mp hy
  refine za3 (k := 0) fun z hz => ?_
  obtain ⟨i, hi, rfl⟩ := List.mem_map.mp hz
  have := gr.there r hr i hi
  exact (zb0 (n := 0) (by omega)).1
 ·show PyData.bulkAll _ <= _
  have key : ∀ x ∈ ls.map zb1, x.bulk <= 13 := by
   intro x hx
   obtain ⟨rs, hrs, rfl⟩ := List.mem_map.mp hx
   have gr := g.rk rs hrs
   have h2 := zgK gr
   have h3 := gr.few
   have key2 : ∀ rs : List (List Int), PyData.bulkAll (rs.map zbw) = rs.length + rs.flatten.length := by
    intro rs
    induction rs with
    | nil => rfl
    | cons r t ih =>
     have e : (zbw r).bulk = r.length := by
      show PyData.bulkAll (r.map PyData.int) = _
      clear ih
      induction r with
      | nil => rfl
      | cons i q ihq => simp only [List.map_cons, PyData.bulkAll, PyData.bulk, List.length_cons]; omega
     simp only [List.map_cons, PyData.bulkAll, List.length_cons, List.flatten_cons, List.length_append]
     omega
   show PyData.bulkAll (rs.map zbw) <= 13
   rw [key2]
   omega
  have := zlo key
  rw [List.length_map] at this
  omega
theorem zmQ {wd C S Z : Option Sl} {dg : D} {cs : List Int} {ls : D} {c l : D} {n : Nat} {k : Int} {w a o f w' a' t' o' f' p' : Int} {Q : Out -> Prop} (hn : n <= 4000) (h1n : 1 <= n) (hc : EZ 4 c /\ c.bulk <= n) (hl : EZ 5 l /\ l.bulk <= n) (hm : cs.length <= 6) (hw : wd = some (.pub (.tuple [.list (cs.map PyData.int), ls])))
  (s1 : oSlA dg (some (4 * k)) (some (4 * k + 4)) = some (.list [.int w, .int a, .int o, .int f])) (s2 : oSlA dg (some (8 + 6 * k)) (some (14 + 6 * k)) = some (.list [.int w', .int a', .int t', .int o', .int f', .int p']))
  (ha : 0 <= a) (hfc : 0 <= f /\ f < 1000000000000000000) (ho : 0 <= o /\ o < 12) (ha' : 0 <= a') (ht' : 0 <= t') (ho' : 0 <= o' /\ o' < 12) (hf' : 0 <= f' /\ f' < 1000000000000000000) (hp' : 0 <= p') (hk : 0 <= k /\ k <= 10)
  (hq : ∀ c2 l2, EZ 4 c2 /\ c2.bulk <= 8 * n + 60 -> EZ 5 l2 /\ l2.bulk <= 8 * n + 60 -> Q (.nx [wd, C, S, Z, some (.pub dg), some (.pub c2), some (.pub l2), some (.pub (.int k)), none])) :
  Ho zep [wd, C, S, Z, some (.pub dg), some (.pub c), some (.pub l), some (.pub (.int k)), none] Q := by
 subst hw
 unfold zep
 have m4 : oMul (.int 4) (.int k) = some (.int (4 * k)) := zcK (by decide) (by decide)
 have m6 : oMul (.int 6) (.int k) = some (.int (6 * k)) := zcK (by decide) (by decide)
 apply zaJ
 have second : ∀ c2 : D, EZ 4 c2 /\ c2.bulk <= 8 * n + 60 -> Ho (sIf (mAnd (za2 (mMap (fun d => .bool (isTy d "list")) (dVar 6))) (zbv oNeW 6 (mLst (mNil))))
   (sSet 6 (dFun 3 F_aq (zae (dVar 6) (zae (dSlA (dVar 4) (zam (dBin oAdd (zaf (.int 8)) (dBin oMul (zaf (.int 6)) (dVar 7))) fun x => mOpt (za6 x)) (zam (dBin oAdd (zaf (.int 14)) (dBin oMul (zaf (.int 6)) (dVar 7))) fun x => mOpt (za6 x))) (zae (zb3 oLen (zae (dIxN 0 (zaf (.int 0))) (mNil))) (mNil))))))
   (sNx)) [some (.pub (.tuple [.list (cs.map PyData.int), ls])), C, S, Z, some (.pub dg), some (.pub c2), some (.pub l), some (.pub (.int k)), none] Q := by
  intro c2 h2
  refine zaI (zc8 rfl) (fun z => ?_) fun z => zbk (hq c2 l h2 ⟨hl.1, by have := hl.2; omega⟩)
  obtain ⟨x, xs, rfl⟩ : ∃ x xs, l = .list (x :: xs) := by
   cases l with
   | list xs =>
    cases xs with
    | nil => cases z
    | cons x xs => exact ⟨x, xs, rfl⟩
   | _ => cases z
  obtain ⟨r, hr, wr⟩ := znG (ls := x :: xs) (n := n) (k := 2) (w := w') (a := a') (t := t') (o := o') (f := f') (p := p') (m := cs.length) hn h1n (by decide) (zfd hl.1) hl.2 (by simp) ha' ht' ho' hf' hp' ⟨by omega, by omega⟩
  have hln : oLen [.list (cs.map PyData.int)] = some (.int cs.length) := by rw [zaN, List.length_map]
  exact zaV (zaS (za7 (zaa (zad rfl) (zaa (zaX (zad rfl) (zaB (zaj zab (zaj zab (zad rfl) m6) zaK)) (zaB (zaj zab (zaj zab (zad rfl) m6) zaK)) s2) (zaa (zbs (zaa (zch rfl zab rfl) zah) hln) zah))) rfl hr) (of_decide_eq_true rfl) rfl) (hq c2 r h2 wr)
 refine zaI (zc8 rfl) (fun z => ?_) fun z => zbk (zau (second c ⟨hc.1, by have := hc.2; omega⟩))
 obtain ⟨x, xs, rfl⟩ : ∃ x xs, c = .list (x :: xs) := by
  cases c with
  | list xs =>
   cases xs with
   | nil => cases z
   | cons x xs => exact ⟨x, xs, rfl⟩
  | _ => cases z
 obtain ⟨r, hr, wr⟩ := znE (cs := x :: xs) (n := n) (k := 3) (w := w) (a := a) (o := o) (f := f) hn (by decide) (zfd hc.1) hc.2 (by simp) ha ho hfc
 exact zaV (zaS (za7 (zaa (zad rfl) (zaa (zaX (zad rfl) (zaB (zaj zab (zad rfl) m4)) (zaB (zaj (zaj zab (zad rfl) m4) zab zaK)) s1) zah)) rfl hr) (of_decide_eq_true rfl) rfl) (zau (second r ⟨wr.1, by have := wr.2; omega⟩))
theorem znH {cs : List Int} {ls : List (List (List Int))} (g : Good cs ls) (c s : Int) : ∃ r, F_ar [zeE cs ls, .int c, .int s] = some r /\ EZ 10 r /\ r.bulk <= 30000 := by
 refine zc0 (ρ := [some (.pub (zeE cs ls)), some (.pub (.int c)), some (.pub (.int s)), none, none, none, none, none, none]) rfl ?_
 unfold g_ar
 let sz : List Int := [7, 6, 12, 1000000000000000000, 7, 6, 12, 1000000000000000000, 9, 7, 6, 12, 1000000000000000000, 7, 9, 7, 6, 12, 1000000000000000000, 7]
 have hp : oPow (.int 10) (.int 18) = some (.int 1000000000000000000) := by kernel_rfl
 have q1 : oMul (.list [.int 7, .int 6, .int 12, .int 1000000000000000000]) (.int 2) = some (.list [.int 7, .int 6, .int 12, .int 1000000000000000000, .int 7, .int 6, .int 12, .int 1000000000000000000]) := by kernel_rfl
 have q2 : oMul (.list [.int 9, .int 7, .int 6, .int 12, .int 1000000000000000000, .int 7]) (.int 2) = some (.list [.int 9, .int 7, .int 6, .int 12, .int 1000000000000000000, .int 7, .int 9, .int 7, .int 6, .int 12, .int 1000000000000000000, .int 7]) := by kernel_rfl
 let Wd : Option Sl := some (.pub (zeE cs ls))
 refine zar (ρ1 := [Wd, some (.pub (.int c)), some (.pub (.int s)), some (.pub (.list (sz.map PyData.int))), none, none, none, none, none]) (zaS (zaj (zaj (zas (zaa zab (zaa zab (zaa zab (zaa (zaj zab zab hp) zah)))) (of_decide_eq_true rfl)) zab q1) (zaj (zas (zaa zab (zaa zab (zaa zab (zaa zab (zaa (zaj zab zab hp) (zaa zab zah)))))) (of_decide_eq_true rfl)) zab q2) (zav (of_decide_eq_true rfl))) (of_decide_eq_true rfl) rfl) ?_
 obtain ⟨r, hr, ds, rfl, hl, hb⟩ := zcu c s (sizes := sz ++ [12, 9]) (by decide) (by decide)
 match ds, hl with
 | [d0, d1, d2, d3, d4, d5, d6, d7, d8, d9, d10, d11, d12, d13, d14, d15, d16, d17, d18, d19, d20, d21], _ =>
 let dg : D := .list ([d0, d1, d2, d3, d4, d5, d6, d7, d8, d9, d10, d11, d12, d13, d14, d15, d16, d17, d18, d19, d20, d21].map PyData.int)
 refine zar (ρ1 := [Wd, some (.pub (.int c)), some (.pub (.int s)), some (.pub (.list (sz.map PyData.int))), some (.pub dg), none, none, none, none]) (zaS (za7 (zaa (zad rfl) (zaa (zad rfl) (zaa (zaj (zad rfl) (zas (zaa zab (zaa zab zah)) (of_decide_eq_true rfl)) (zav (of_decide_eq_true rfl))) zah))) rfl hr) (of_decide_eq_true rfl) rfl) ?_
 refine zar (ρ1 := [Wd, some (.pub (.int c)), some (.pub (.int s)), some (.pub (.list (sz.map PyData.int))), some (.pub dg), some (.pub (.list (cs.map PyData.int))), some (.pub (.list (ls.map zb1))), none, none]) (zcZ (zad rfl) (tg_T rfl (tg_C (tg_N (of_decide_eq_true rfl) rfl) (tg_C (tg_N (of_decide_eq_true rfl) rfl) tg_0)))) ?_
 obtain ⟨w1, w2⟩ := zjE g
 apply zaJ
 apply zeI (ds := zbi 0 2) (fun i ρ => ∃ c2 l2 x7, ρ = [Wd, some (.pub (.int c)), some (.pub (.int s)), some (.pub (.list (sz.map PyData.int))), some (.pub dg), some (.pub c2), some (.pub l2), x7, none] /\ (EZ 4 c2 /\ c2.bulk <= nnZ i) /\ EZ 5 l2 /\ l2.bulk <= nnZ i)
 case h1 => exact zdf (zaa zab zah) (zcL (by decide) (by decide))
 case h0 => exact ⟨_, _, _, rfl, w1, w2⟩
 case hst =>
  rintro i d ρ hi ⟨c2, l2, x7, rfl, h1, h2⟩
  obtain ⟨rfl, hi2⟩ := zcj hi
  rw [Int.zero_add]
  refine ⟨_, tg_N (of_decide_eq_true rfl) rfl, ?_⟩
  have hb' : i = 0 ∨ i = 1 := by omega
  rcases hb' with rfl | rfl
  ·refine zmQ (n := 100) (k := 0) (cs := cs) (ls := .list (ls.map zb1)) (w := d0) (a := d1) (o := d2) (f := d3) (w' := d8) (a' := d9) (t' := d10) (o' := d11) (f' := d12) (p' := d13) (by decide) (by decide) h1 h2 g.c6 rfl rfl rfl (hb 1 d1 6 rfl rfl).1 (hb 3 d3 _ rfl rfl) (hb 2 d2 12 rfl rfl) (hb 9 d9 7 rfl rfl).1 (hb 10 d10 6 rfl rfl).1 (hb 11 d11 12 rfl rfl) (hb 12 d12 _ rfl rfl) (hb 13 d13 7 rfl rfl).1 (by decide) fun c3 l3 h3 h4 => zcv ⟨_, _, _, rfl, h3, h4⟩
  ·refine zmQ (n := 860) (k := 1) (cs := cs) (ls := .list (ls.map zb1)) (w := d4) (a := d5) (o := d6) (f := d7) (w' := d14) (a' := d15) (t' := d16) (o' := d17) (f' := d18) (p' := d19) (by decide) (by decide) h1 h2 g.c6 rfl rfl rfl (hb 5 d5 6 rfl rfl).1 (hb 7 d7 _ rfl rfl) (hb 6 d6 12 rfl rfl) (hb 15 d15 7 rfl rfl).1 (hb 16 d16 6 rfl rfl).1 (hb 17 d17 12 rfl rfl) (hb 18 d18 _ rfl rfl) (hb 19 d19 7 rfl rfl).1 (by decide) fun c3 l3 h3 h4 => zcv ⟨_, _, _, rfl, h3, h4⟩
 case hend =>
  rintro ρ ⟨c2, l2, x7, rfl, h1, h2⟩
  have h1b : c2.bulk <= 6940 := h1.2
  have h2b : l2.bulk <= 6940 := h2.2
  refine zau ?_
  let X : List D := [.list [c2, l2], .tuple [c2], .tuple [c2, l2, .none], .none, .dict [], .str "", .tuple [], c2, .bool true]
  refine zar (ρ1 := [Wd, some (.pub (.int c)), some (.pub (.int s)), some (.pub (.list (sz.map PyData.int))), some (.pub dg), some (.pub c2), some (.pub l2), x7, some (.own X)]) (zaZ (zba (zaa (zas (zaa (zad rfl) (zaa (zad rfl) zah)) (of_decide_eq_true rfl)) (zaa (zbo (zaa (zad rfl) zah) (of_decide_eq_true rfl)) (zaa (zbo (zaa (zad rfl) (zaa (zad rfl) (zaa zab zah))) (of_decide_eq_true rfl)) (zaa zab (zaa zab (zaa zab (zaa (zbo zah (of_decide_eq_true rfl)) (zaa (zad rfl) (zaa zab zah))))))))) (of_decide_eq_true rfl)) (of_decide_eq_true rfl) rfl) ?_
  have pair : ∀ z ∈ ([c2, l2] : List D), EZ 5 z := fun z hz => by
   simp only [List.mem_cons, List.not_mem_nil, or_false] at hz
   rcases hz with rfl | rfl
   ·exact h1.1.mono (by decide)
   ·exact h2.1
  have pb : PyData.bulkAll [c2, l2] <= 14000 := by
   have : PyData.bulkAll [c2, l2] = c2.bulk + 1 + (l2.bulk + 1 + 0) := rfl
   omega
  apply zaJ
  refine zaI (zaj (zch rfl zab rfl) zab zbm) (fun _ => ?_) fun _ => zbk (zau ?_)
  ·have b21 := hb 21 d21 9 rfl rfl
   obtain ⟨y, hy, hym⟩ := ixm (xs := X) (n := 9) b21.1 b21.2 rfl
   refine zaA (zdt rfl (zch rfl zab rfl) rfl hy) (zat ⟨_, rfl, ?_⟩)
   simp only [X, List.mem_cons, List.not_mem_nil, or_false] at hym
   rcases hym with rfl | rfl | rfl | rfl | rfl | rfl | rfl | rfl | rfl
   ·exact ⟨(za3 pair).mono (by decide), show PyData.bulkAll [c2, l2] <= _ by omega⟩
   ·refine ⟨(zdC (k := 4) fun z hz => by rw [List.mem_singleton] at hz; subst hz; exact h1.1).mono (by decide), ?_⟩
    have : (PyData.tuple [c2]).bulk = c2.bulk + 1 + 0 := rfl
    omega
   ·refine ⟨(zdC (k := 5) fun z hz => ?_).mono (by decide), ?_⟩
    ·simp only [List.mem_cons, List.not_mem_nil, or_false] at hz
     rcases hz with rfl | rfl | rfl
     ·exact h1.1.mono (by decide)
     ·exact h2.1
     ·exact (zdX (n := 0)).1
    ·have : (PyData.tuple [c2, l2, .none]).bulk = c2.bulk + 1 + (l2.bulk + 1 + (0 + 1 + 0)) := rfl
     omega
   ·exact zdX
   ·exact zgQ
   ·exact zeN (by decide +kernel) (Nat.zero_le _)
   ·exact ⟨(zdC (k := 0) fun z hz => by cases hz).mono (by decide), show 0 <= _ from Nat.zero_le _⟩
   ·exact ⟨h1.1.mono (by decide), by omega⟩
   ·exact zey
  ·exact zaA (zbo (zaa (zad rfl) (zaa (zad rfl) zah)) (of_decide_eq_true rfl)) ⟨_, rfl, (zdC pair).mono (by decide), show PyData.bulkAll [c2, l2] <= _ by omega⟩
theorem zmR {o : Option (Str × D)} (h : ∀ p n, o = some (p, n) -> PyData.canLay0 (.tuple [.str p, n]) = true /\ PyData.depth (.tuple [.str p, n]) <= 60) : oNe (dueD o) (dueD o) = some false := by
 cases o with
 | none => rfl
 | some x =>
  obtain ⟨p, n⟩ := x
  obtain ⟨h1, h2⟩ := h p n rfl
  unfold oNe
  rw [if_pos ⟨h1, h1, h2⟩]
  show some (!PyData.eqv (.tuple [.str p, n]) (.tuple [.str p, n])) = _
  rw [zgI _ h1]
  rfl
theorem zjF {d : D} {p : Str} {n : D} (h : dueW d = some (p, n)) : PyData.canLay0 (.tuple [.str p, n]) = true /\ PyData.depth (.tuple [.str p, n]) <= 60 := by
 have key : (p = "wishes" ∨ p = "copies" ∨ p = "lists") /\ (n = .none ∨ ∃ k : Nat, n = .int k) := by
  unfold dueW at h
  split at h
  ·split at h
   ·split at h
    ·split at h
     ·cases h; exact ⟨.inr (.inl rfl), .inr ⟨_, rfl⟩⟩
     ·split at h
      ·split at h
       ·split at h
        ·cases h; exact ⟨.inr (.inr rfl), .inr ⟨_, rfl⟩⟩
        ·cases h
       ·cases h; exact ⟨.inr (.inr rfl), .inl rfl⟩
      ·cases h; exact ⟨.inr (.inr rfl), .inl rfl⟩
    ·cases h; exact ⟨.inr (.inl rfl), .inl rfl⟩
   ·cases h; exact ⟨.inr (.inl rfl), .inl rfl⟩
  ·cases h; exact ⟨.inl rfl, .inl rfl⟩
 obtain ⟨rfl | rfl | rfl, rfl | ⟨k, rfl⟩⟩ := key <;> exact ⟨by kernel_rfl, by simp [PyData.depth, PyData.depthAll]⟩
theorem zgp {p : D -> Bool} : ∀ {xs : List D} {k : Nat}, (∀ x ∈ xs, p x = true) -> fb p k xs = none
 | [], _, _ => rfl
 | x :: r, k, h => by
  unfold fb
  rw [if_pos (h x List.mem_cons_self)]
  exact zgp fun y hy => h y (List.mem_cons_of_mem _ hy)
theorem zlp (rs : List (List Int)) : flI (rs.map zbw) = rs.flatten := by
 unfold flI
 induction rs with
 | nil => rfl
 | cons r t ih =>
  rw [List.map_cons, List.flatMap_cons, ih, List.flatten_cons]
  congr 1
  show (r.map PyData.int).filterMap whI = r
  rw [List.filterMap_map]
  show r.filterMap (fun i => some i) = r
  simp
theorem ziL {n : Nat} {rs : List (List Int)} (g : zc2 n rs) : askB n (zb1 rs) = true := by
 show askB n (.list (rs.map zbw)) = true
 rw [zcH, zlp, decide_eq_true g.once, List.length_map, decide_eq_true g.few]
 simp only [Bool.true_and, Bool.and_true, List.all_eq_true]
 intro x hx
 obtain ⟨r, hr, rfl⟩ := List.mem_map.mp hx
 have hn := g.some r hr
 have ht := g.there r hr
 cases r with
 | nil => exact absurd rfl hn
 | cons i q =>
  show ((PyData.int i :: q.map PyData.int).all (belB n)) = true
  rw [List.all_eq_true]
  intro y hy
  have hy : y ∈ (i :: q).map PyData.int := hy
  obtain ⟨z, hz, rfl⟩ := List.mem_map.mp hy
  have := ht z hz
  show (decide (0 <= z) && decide (z < (n : Int))) = true
  rw [decide_eq_true this.1, decide_eq_true this.2]; rfl
theorem ziM {cs : List Int} {ls : List (List (List Int))} (g : Good cs ls) : dueW (zeE cs ls) = none := by
 show dueW (.tuple [.list (cs.map PyData.int), .list (ls.map zb1)]) = none
 rw [zes]
 have c1 := g.c1
 have c6 := g.c6
 have l1 := g.l1
 have l7 := g.l7
 have e1 : dueC (.list (cs.map PyData.int)) = none := by
  unfold dueC
  dsimp only
  rw [if_pos (by rw [List.length_map]; omega), zgp]
  intro x hx
  obtain ⟨i, hi, rfl⟩ := List.mem_map.mp hx
  have := g.c7 i hi
  show (decide (0 <= i) && decide (i < 8)) = true
  rw [decide_eq_true this.1, decide_eq_true this.2]; rfl
 rw [e1]
 dsimp only
 unfold dueL
 dsimp only
 rw [if_pos (by rw [List.length_map]; omega), zgp]
 intro x hx
 obtain ⟨rs, hrs, rfl⟩ := List.mem_map.mp hx
 rw [List.length_map]
 exact ziL (g.rk rs hrs)
theorem zjG : ∀ ns : List Int, ns.length <= 63 -> F_at [.list (ns.map PyData.int)] = some (.bool true) := by
 intro ns hns
 refine zc1 (ρ := [some (.pub (.list (ns.map PyData.int))), none, none, none, none]) rfl ?_
 unfold g_at
 obtain ⟨r, hr, cs, ls, rfl, g⟩ := zgk (ns := ns) (by omega) 0
 let S : Option Sl := some (.pub (.list (ns.map PyData.int)))
 let Wd : Option Sl := some (.pub (zeE cs ls))
 refine zar (ρ1 := [S, Wd, none, none, none]) (zaS (za7 (zaa (zad rfl) (zaa zab (zaa zab (zaa zab (zaa zab zah))))) rfl hr) (of_decide_eq_true rfl) rfl) ?_
 apply zaJ
 apply zeI (fun _ ρ => ∃ x2 x3 x4, ρ = [S, Wd, x2, x3, x4])
 case h1 => exact zdL (zaa (zaj (zas (zaa zab zah) (of_decide_eq_true rfl)) (zaX (zad rfl) (zaB zab) (zaB zab) zaF) (ziB (by omega))) zah) zc6
 case h0 => exact ⟨_, _, _, rfl⟩
 case hst =>
  rintro i d ρ hi ⟨x2, x3, x4, rfl⟩
  obtain ⟨x, hx, rfl⟩ := zgJ hi
  obtain ⟨c, rfl⟩ := ziA hx
  rw [Nat.zero_add]
  refine ⟨_, tg_T rfl (tg_C (tg_N (of_decide_eq_true rfl) rfl) (tg_C (tg_N (of_decide_eq_true rfl) rfl) tg_0)), ?_⟩
  unfold ziv
  obtain ⟨b, hb, wb⟩ := ziI g c (800 + (i : Int))
  obtain ⟨b', hb', eb, bb⟩ := znH g c (800 + (i : Int))
  have hbb : b' = b := by rw [hb] at hb'; cases hb'; rfl
  subst hbb
  have hs : WsSm b' := ziF (zbf (by decide) b' wb)
  let I : Option Sl := some (.pub (.int i))
  let C : Option Sl := some (.pub (.int c))
  refine zar (ρ1 := [S, Wd, I, C, some (.pub b')]) (zaS (za7 (zaa (zad rfl) (zaa (zad rfl) (zaa (zaj zab (zad rfl) zaK) zah))) rfl hb) (of_decide_eq_true rfl) rfl) ?_
  have nd : oNe (dueD (dueW b')) (dueD (dueW b')) = some false := zmR fun p n e => zjF e
  apply zaJ
  refine zaI (b := false) (ρ1 := [S, Wd, I, C, some (.pub b')]) (zaj (za7 (zaa (zad rfl) zah) rfl (zgP hs)) (za7 (zaa (zad rfl) zah) rfl (zlh hs)) nd) (fun z => by cases z) fun _ => zbk (zau ?_)
  have hrp := zjD eb (by decide) bb
  exact zaI (b := false) (ρ1 := [S, Wd, I, C, some (.pub b')]) (zaj (zbs (zaa (zad rfl) zah) hrp) (zbs (zaa (za7 (zaa (za7 (zaa (zad rfl) (zaa zab (zaa zab (zaa zab (zaa zab zah))))) rfl hr) (zaa (zad rfl) (zaa (zaj zab (zad rfl) zaK) zah))) rfl hb) zah) hrp) zjy) (fun z => by cases z) fun _ => zbk (zcv ⟨_, _, _, rfl⟩)
 case hend =>
  rintro ρ ⟨x2, x3, x4, rfl⟩
  refine zau ?_
  have wg : wB 448 (zeE cs ls) = true := by
   obtain ⟨a1, a2⟩ := zfU g
   exact zbf (n := 7) (by decide) _ (zdB.mpr ⟨show 2 <= 7 by decide, fun x hx => by
    have hx : x = .list (cs.map PyData.int) ∨ x = .list (ls.map zb1) := by simpa using hx
    rcases hx with rfl | rfl
    ·exact a1
    ·exact a2⟩)
  have ht := zgP (ziF (zbf (m := 700) (by decide) _ wg))
  rw [ziM g] at ht
  exact zaA (d := .bool true) (zcs (x := .none) (za7 (zaa (zad rfl) zah) rfl ht)) rfl
end W
open PySem PySem.W PyProof.Rows
set_option maxRecDepth 100000 in
set_option maxHeartbeats 0 in
theorem PySem.Challenge.cw_wishdeal_k07_no_wishes_holds : PySem.Challenge.rw_wishdeal_k07_no_wishes.Holds := by
 w_on; o_law
 refine holds_open (q := W.q0) (loose := []) (Xt := fun s => xlAt W.q0 [] s && recOk [] s) (XP := XL W.q0 []) (Yf := DL.xSeen W.clsL) (Ya := fun _ => DL.xGood W.p0 W.clsL) (YP := fun _ h => DL.XYP W.p0 W.clsL h) (N := 7676) (d := W.d_at) (kwd := [])
  W.zmU (fun _ _ e => DL.zmw e) (fun _ _ _ y k => y.keeps k) (fun s e => xl_of s (Bool.and_eq_true_iff.mp e).1) XL.keeps (by rfl) (by rfl) (by rfl)
  (fun s e => recFacts_of (Bool.and_eq_true_iff.mp e).2) (by rfl) (by assumption) (by decide +kernel) ⟨rfl, rfl, rfl, rfl, rfl, by decide +kernel⟩ ?hw (W.walk W.zjG)
 case hw => w_witness2

