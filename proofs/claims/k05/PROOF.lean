import PyProof.Rows.All
import Wide.All
import OpenK.AllK
import Wide.FinOn
import Lean
import PyProof.EqAt
import PyProof.EqKinds
import PyProof.TupleCall
import PyProof.EnumMake
import PyProof.ZipIter
import PyProof.ExcClass2
import PyProof.ExcInit
import PyProof.ExcBaseAll.ValueError
import PyProof.FString2
import PyProof.ExcArgsOwn
import PyProof.InstStoreFacts
import ObjForm.Fk.InstStore
import ObjForm.Fk.InstLoad
import PyProof.StationsW
import PyProof.RulesAs
import PyProof.NsDelKeeps
import OpenK.KMore
import PyProof.IsiBase
import OpenK.KNot
import PyProof.Rows.RuleN_isinstance
import PyProof.NeData
import PyProof.P3In
import PyProof.StrWalks
import PyProof.ConsumeWalk
import PyProof.SliceStr2
import PyProof.MeetsStr
import KE.KItem
import KE.KUnpack
import KE.KRevSl
import PyProof.Rows.SetFrom
import PyProof.SetRoads
import PyProof.Rows.Range3
import PyProof.CallType
import PyProof.Rows.CallKwBuiltin
import PyProof.Rows.MinMaxN
import PyProof.SumWalkG
import PyProof.Rows.SeqMore
import PyProof.Rows.SortWalk
import PyProof.Rows.SumAny
import PyProof.Rows.SeqMore2
import KE.KSortTup
import PyProof.Rows.SortShellK
import PyProof.ReprRoads
import PyProof.ReprBulk
import PyProof.CallFns
import PyProof.NeKinds
import PyProof.Rows.StrJoinMade
import PyProof.StrCalls
import KE.KIntText
import PySem.Challenge.RW_wishdeal_k05_whole_numbers_there_and_bac
set_option Elab.async false
set_option linter.all false
set_option maxRecDepth 100000
set_option maxHeartbeats 4000000
namespace DL
open PySem PySem.Spec PySem.W PyProof.Rows
def topRunT (tb : String -> Option Builtin) (p : Program) (w : World) (m : Nat) (ann : Option Value) : Nat -> SharedT -> Thread -> Option SharedT
 | 0, _, _ => none
 | n + 1, s, t => match through t, stepOk m ann t with
  | true, _ => some s
  | false, false => none
  | false, true => match stepT (denote tb) p w s t with
   | some x => topRunT tb p w m ann n x.1 x.2
   | none => none
theorem zbP {tb : String -> Option Builtin} {p : Program} {w : World} {m : Nat} {ann : Option Value} : ∀ {n : Nat} {s s' : SharedT} {t : Thread}, topRunT tb p w m ann n s t = some s' -> topRun tb p w m ann n s.abs t = some s'.abs
 | 0, _, _, _, h => by cases h
 | n + 1, s, s', t, h => by
  rw [topRunT] at h
  rw [topRun]
  cases ht : through t with
  | true => rw [ht] at h; cases h; rfl
  | false =>
   rw [ht] at h
   cases hk : stepOk m ann t with
   | false => rw [hk] at h; cases h
   | true =>
    rw [hk] at h
    dsimp only at h ⊢
    cases hs : stepT (denote tb) p w s t with
    | none => rw [hs] at h; cases h
    | some x => rw [hs] at h; rw [stepT_spec hs]; exact zbP h
def btOf (l : List Obj) : BT := (l.foldl (fun (x : BT × Nat) o => (x.1.ins x.2 o, x.2 + 1)) (.nil, 0)).1
noncomputable def T0 (w : World) (os : OsState) : SharedT := ⟨btOf (boot_heap w.params).objs.toList, 11, (boot_heap w.params).life, #[], boot_drawn, boot_toks, os⟩
theorem zfJ (w : World) (os : OsState) : (T0 w os).abs = ⟨boot_heap w.params, #[], boot_drawn, boot_toks, os⟩ := by kernel_rfl
theorem zer (w : World) : ((boot_heap w.params).isNs mainGlobals && (#[] : Array GenState).size == 0, (boot_heap w.params).objs.size, (boot_heap w.params).nsMap mainGlobals "__annotations__") = (true, 11, some (.ref 6)) := by kernel_rfl
noncomputable abbrev zki (p q : Program) (loose : List Str) (Xt : Shared -> Bool) (w : World) (t : SharedT) :=
 ((staticsOk (importedModules p.main.body) (boot_heap w.params) t.abs.heap && namesBound p t.abs.heap && gensDone t.abs && laidKept (boot_heap w.params) t.abs.heap), openSeen q loose (importedModules p.main.body) Xt true t.abs)
end DL
namespace DL
open PySem PySem.Spec PySem.W PyProof.Rows
abbrev VB0 : List Value := [.type "ValueError", .type "Exception", .type "BaseException", .type "object"]
def zes : List Str := ["__setattr__", "__getattribute__", "__getattr__", "__class__", "part", "number", "row"]
def zcP (nm : Str) : Str := nm ++ "." ++ "__init__"
def xB (h : Heap) (nm : Str) (own : Bool) : Bool := match h.nsMap mainGlobals nm with
 | some (.ref C) => (match h.get? C with
  | some ⟨.type t, _, .cls cd, sl⟩ => (t == "type") && (cd.name == nm) && cd.hasDict && !cd.hasDel && (match sl.toList with | [_, _, _, _, k4, _] => decide (k4 = some (.builtin "ValueError.__new__")) | _ => false) && h.isNs cd.ns && (zes.all fun x => (h.nsMap cd.ns x).isNone) && (own || (h.nsMap cd.ns "__init__").isNone) &&
   (if nm = "DealError" then decide (cd.mro = .ref C :: VB0) else match h.nsMap mainGlobals "DealError" with | some (.ref D) => decide (cd.mro = .ref C :: .ref D :: VB0) | _ => false)
  | _ => false)
 | _ => false
def xSh (h : Heap) (nm : Str) : Option (Bool × FnShape) := match h.nsMap mainGlobals nm with
 | some (.ref C) => (match h.get? C with
  | some ⟨_, _, .cls cd, _⟩ => (match h.fnAt cd.ns "__init__", h.shapeAt cd.ns "__init__" with | some (_, o, _), some sh => some (decide (o.cls = .type "function"), sh) | _, _ => none)
  | _ => none)
 | _ => none
def zaY (st : Stmt) : Stmt := match st with
 | .ClassDef _ _ _ (m :: _) _ _ _ _ _ _ _ => m
 | _ => .Pass ⟨0, 0, 0, 0⟩
def ziE (s : Stmt) : Arguments := match s with
 | .FunctionDef _ a _ _ _ _ _ _ _ _ => a
 | _ => default
def ziF (s : Stmt) : List Stmt := match s with
 | .FunctionDef _ _ b _ _ _ _ _ _ _ => b
 | _ => []
def zgS (s : Stmt) : Scope := match s with
 | .FunctionDef _ _ _ _ _ _ sc _ _ _ => sc
 | _ => { kind := .function, names := [], isGenerator := false, isCoroutine := false }
def shOf (nm : Str) (st : Stmt) : FnShape := ⟨"__init__", zcP nm, ziE st, .stmts (ziF st), zgS st, mainGlobals, [], .none, .none, none, .none, builtinsNs, true⟩
abbrev XL0 := List (Str × Option Nat)
def xSeen (l : XL0) (s : Shared) : Bool × List (Bool × Option (Bool × FnShape)) := (s.heap.isNs cStatics && (s.heap.nsMap cStatics "thirdparty.any").isNone, l.map fun c => (xB s.heap c.1 c.2.isSome, if c.2.isSome then xSh s.heap c.1 else none))
def xGood (p : Program) (l : XL0) : Bool × List (Bool × Option (Bool × FnShape)) := (true, l.map fun c => (true, c.2.map fun i => (true, shOf c.1 (zaY (p.main.body.getD i (.Pass ⟨0, 0, 0, 0⟩))))))
theorem zfK {α : Type} {Yf : Shared -> α} {Ya : World -> α} {p q : Program} {loose : List Str} {Xt : Shared -> Bool} {N M : Nat} (e : opening p = plainProg p.main.scope.names) (hN : Nat.ble 600 N = true) (f : ∀ s, fenceModules? p s = some s) (le : Nat.ble M N = true)
  (run : ∀ (w : World) (os : OsState), (topRunT treeTable p w 11 (some (.ref 6)) M (T0 w os) (topStub p)).map (fun t => (zki p q loose Xt w t, Yf t.abs)) = some ((true, openGood q loose), Ya w)) : LeftO p q loose Xt Yf Ya N := fun w => by
 obtain ⟨⟨h, gs, d, k, os⟩, e0, e'⟩ := Option.map_eq_some_iff.mp (boot_open e hN f w)
 have e' : (h, gs, d, k) = (boot_heap w.params, #[], boot_drawn, boot_toks) := e'
 obtain ⟨rfl, rfl, rfl, rfl⟩ : h = boot_heap w.params /\ gs = #[] /\ d = boot_drawn /\ k = boot_toks := by simpa only [Prod.mk.injEq] using e'
 obtain ⟨t, ht, l⟩ := Option.map_eq_some_iff.mp (run w os)
 have hr := zbP ht
 rw [zfJ] at hr
 have r := topRun_mono (N - M) _ _ _ _ hr
 rw [show M + (N - M) = N by have := Nat.le_of_ble_eq_true le; omega] at r
 obtain ⟨l0, l3⟩ := Prod.mk.inj l
 obtain ⟨l1, l2⟩ := Prod.mk.inj l0
 have z := zer w
 obtain ⟨z1, z2, z3⟩ : _ /\ _ /\ _ := by simpa only [Prod.mk.injEq] using z
 have tf : topFrom treeTable p w N ⟨boot_heap w.params, #[], boot_drawn, boot_toks, os⟩ = some t.abs := by
  unfold topFrom
  dsimp only
  rw [z1, z2, z3, r]
  show (match staticsOk (importedModules p.main.body) (boot_heap w.params) t.abs.heap && namesBound p t.abs.heap && gensDone t.abs && laidKept (boot_heap w.params) t.abs.heap with | true => some t.abs | false => none) = _
  rw [l1]
 unfold openEnds
 rw [e0]
 show (topFrom treeTable p w N _).map _ = _
 rw [tf]
 exact congrArg some (Prod.ext l2 l3)
end DL
open PySem in
lay_quick PySem.Challenge.pw_wishdeal_k05_whole_numbers_there_and_bac DL.topRunT PySem.W.openGood PySem.W.staticsOk PySem.W.namesBound PySem.W.laidKept PySem.W.xlAt DL.xSeen DL.xGood
namespace W
open PySem PySem.Spec DL
abbrev p0 : Program := PySem.Challenge.pw_wishdeal_k05_whole_numbers_there_and_bac
def zcw : List Nat := [1, 2, 4, 5, 6, 7, 8, 10, 11, 12, 13, 14, 15]
def ixL : List Nat := [6, 7, 8, 10, 11, 12, 13, 14, 15]
abbrev q0 : Program := PySem.W.view p0 zcw
def clsL : XL0 := [("DealError", some 1), ("NoText", some 2)]
theorem zkj : ∀ (w : World) (os : OsState), (PySem.W.Fast.tw10708255244068714335 PySem.W.Fast.tw14364793385576792824 PySem.W.Fast.tw7683518422304206069 w 11 (some (.ref 6)) 906 (T0 w os) (PySem.W.topStub PySem.W.Fast.tw7683518422304206069)).map (fun t => (((PySem.W.Fast.tw13471830651028734593 (PySem.W.Fast.tw5923862056798008813 (Program.main PySem.W.Fast.tw7683518422304206069).body) (PySem.W.boot_heap w.params) t.abs.heap && PySem.W.Fast.tw4683006035507612052 PySem.W.Fast.tw7683518422304206069 t.abs.heap && PySem.W.gensDone t.abs && PySem.W.Fast.tw16898566250750103049 (PySem.W.boot_heap w.params) t.abs.heap), PySem.W.Fast.tw4187177175401517315 (PySem.W.view PySem.W.Fast.tw7683518422304206069 zcw) [] (PySem.W.Fast.tw5923862056798008813 (Program.main PySem.W.Fast.tw7683518422304206069).body) (fun s => PySem.W.Fast.tw4757257242682413121 (PySem.W.view PySem.W.Fast.tw7683518422304206069 zcw) [] s && PySem.W.recOk [] s) true t.abs), PySem.W.Fast.tw11121216462471823999 clsL t.abs)) = some ((true, PySem.W.Fast.tw3486900944545009338 (PySem.W.view PySem.W.Fast.tw7683518422304206069 zcw) []), PySem.W.Fast.tw18030470931243306169 PySem.W.Fast.tw7683518422304206069 clsL) := by
 intro w os
 kernel_rfl
theorem zkk : PySem.W.LeftO p0 q0 [] (fun s => PySem.W.xlAt q0 [] s && PySem.W.recOk [] s) (xSeen clsL) (fun _ => xGood p0 clsL) 1712 := by
 refine zfK (M := 906) (by kernel_rfl) rfl (fun s => by kernel_rfl) rfl fun w os => ?_
 have h := zkj w os
 rw [← PySem.W.Fast.te10708255244068714335, ← PySem.W.Fast.te14364793385576792824, ← PySem.W.Fast.te4187177175401517315, ← PySem.W.Fast.te5923862056798008813, ← PySem.W.Fast.te13471830651028734593, ← PySem.W.Fast.te4683006035507612052, ← PySem.W.Fast.te16898566250750103049, ← PySem.W.Fast.te4757257242682413121, ← PySem.W.Fast.te3486900944545009338, ← PySem.W.Fast.te11121216462471823999, ← PySem.W.Fast.te18030470931243306169, ← PySem.W.Fast.te7683518422304206069] at h
 exact h
end W
namespace L2
open PySem PySem.Spec PyProof.Rows
abbrev Key := Sum Int Str
def ziG : Key -> Value -> Bool
 | .inl k, v => Value.isInt k v
 | .inr x, v => Value.isStrOf x v
def keyH (w : World) : Key -> Int
 | .inl k => hashInt k
 | .inr x => hashStr w x
theorem zaA : ∀ {k : Key} {v : Value}, ziG k v = true -> (∃ i t, k = Sum.inl i /\ v = Value.int i t) ∨ (∃ x t, k = Sum.inr x /\ v = Value.str x t)
 | .inl i, v, h => by
  obtain ⟨t, e⟩ := Value.isInt_shape (k := i) (v := v) h
  exact .inl ⟨i, t, rfl, e⟩
 | .inr x, v, h => by
  obtain ⟨t, e⟩ := Value.isStrOf_shape (x := x) (v := v) h
  exact .inr ⟨x, t, rfl, e⟩
theorem ziH (a b : Int) : decide ((Sum.inl a : Key) = Sum.inl b) = (a == b) := by
 by_cases e : a = b
 ·subst e; simp
 ·have h : ¬ (Sum.inl a : Key) = Sum.inl b := fun q => e (Sum.inl.inj q)
  rw [decide_eq_false h]
  exact (beq_eq_false_iff_ne.mpr e).symm
theorem ziI (a b : Str) : decide ((Sum.inr a : Key) = Sum.inr b) = decide (a = b) := by
 by_cases e : a = b
 ·subst e; simp
 ·have h : ¬ (Sum.inr a : Key) = Sum.inr b := fun q => e (Sum.inr.inj q)
  rw [decide_eq_false h, decide_eq_false e]
theorem ziJ (a : Int) (b : Str) : decide ((Sum.inl a : Key) = Sum.inr b) = false := decide_eq_false (fun q => nomatch q)
theorem ziK (a : Str) (b : Int) : decide ((Sum.inr a : Key) = Sum.inl b) = false := decide_eq_false (fun q => nomatch q)
def zet (prog : Program) (w : World) : PySem.KeyKind prog w Key where
 is := ziG
 hash := keyH w
 inj := fun v a b ha hb => by
  rcases zaA ha with ⟨i, t, rfl, rfl⟩ | ⟨x, t, rfl, rfl⟩
  ·rcases zaA hb with ⟨j, u, rfl, e⟩ | ⟨y, u, rfl, e⟩
   ·injection e with e1 _; rw [e1]
   ·exact nomatch e
  ·rcases zaA hb with ⟨j, u, rfl, e⟩ | ⟨y, u, rfl, e⟩
   ·exact nomatch e
   ·injection e with e1 _; rw [e1]
 byValue := fun k v h => by
  rcases zaA h with ⟨i, t, rfl, rfl⟩ | ⟨x, t, rfl, rfl⟩ <;> rfl
 pyHash := fun hv h => by
  rcases zaA hv with ⟨i, t, rfl, rfl⟩ | ⟨x, t, rfl, rfl⟩
  ·exact wpAny_pyHash_int h
  ·exact wpAny_pyHash_str h
 eqBool := fun hu hv h => by
  rcases zaA hu with ⟨i, t, rfl, rfl⟩ | ⟨x, t, rfl, rfl⟩
  ·rcases zaA hv with ⟨j, u, rfl, rfl⟩ | ⟨y, u, rfl, rfl⟩
   ·rw [ziH] at h; exact wpAny_eqBool_int h
   ·rw [ziJ] at h; exact SeqAt.EqAt.int_str i t y u _ _ _ _ h
  ·rcases zaA hv with ⟨j, u, rfl, rfl⟩ | ⟨y, u, rfl, rfl⟩
   ·rw [ziK] at h; exact SeqAt.EqAt.str_int x t j u _ _ _ _ h
   ·rw [ziI] at h; exact wpAny_eqBool_str h
 «strs» := fun k x t v h => by
  rcases zaA h with ⟨i, u, rfl, e⟩ | ⟨y, u, rfl, e⟩
  ·exact nomatch e
  ·injection e with e1 _
   subst e1
   cases v <;> rfl
end L2
namespace L2
open PySem PySem.Spec PyProof.Rows
inductive V where
 | non | bl (b : Bool) | int (i : Int) | str (x : Str) | byt (b : Array UInt8) | flt (b : UInt64) | ref (a : Addr) | ty (n : String)
 deriving DecidableEq
def RelV : V -> Value -> Prop
 | .non, u => u = Value.none
 | .bl b, u => u = Value.bool b
 | .int i, u => ∃ t, u = Value.int i t
 | .str x, u => ∃ t, u = Value.str x t
 | .byt b, u => ∃ t, u = Value.bytes b t
 | .flt b, u => ∃ t, u = Value.float b t
 | .ref a, u => u = Value.ref a
 | .ty n, u => u = Value.type n
abbrev Vals : List V -> List Value -> Prop := Paired RelV
theorem Vals.length {xs : List V} {us : List Value} (r : Vals xs us) : xs.length = us.length := Paired.length r
theorem Vals.get : ∀ {xs : List V} {us : List Value} {i : Nat} {x : V}, Vals xs us -> xs[i]? = some x -> ∃ u, us[i]? = some u /\ RelV x u
 | _, _, _, _, .nil, e => by simp at e
 | _, _, 0, _, .cons r _, e => by simp at e; subst e; exact ⟨_, rfl, r⟩
 | _, _, i + 1, x, .cons _ t, e => by
  obtain ⟨u, h1, h2⟩ := Vals.get (i := i) (x := x) t (by simpa using e)
  exact ⟨u, by simpa using h1, h2⟩
theorem Vals.append : ∀ {xs ys : List V} {us ws : List Value}, Vals xs us -> Vals ys ws -> Vals (xs ++ ys) (us ++ ws)
 | _, _, _, _, .nil, s => s
 | _, _, _, _, .cons r t, s => .cons r (Vals.append t s)
theorem Vals.take : ∀ {xs : List V} {us : List Value} (n : Nat), Vals xs us -> Vals (xs.take n) (us.take n)
 | _, _, 0, _ => .nil
 | _, _, _ + 1, .nil => .nil
 | _, _, n + 1, .cons r t => .cons r (Vals.take n t)
theorem Vals.drop : ∀ {xs : List V} {us : List Value} (n : Nat), Vals xs us -> Vals (xs.drop n) (us.drop n)
 | _, _, 0, r => r
 | _, _, _ + 1, .nil => .nil
 | _, _, n + 1, .cons _ t => Vals.drop n t
def RelO : Option V -> Option Value -> Prop
 | some v, some u => RelV v u
 | none, none => True
 | _, _ => False
def KV {κ : Type} : List (κ × V) -> List (κ × Value) -> Prop := Paired fun (p : κ × V) (q : κ × Value) => p.1 = q.1 /\ RelV p.2 q.2
def kV : Key -> V
 | .inl i => .int i
 | .inr x => .str x
inductive HO where
  | lst (xs : List V)
  | tup (xs : List V)
  | dK (kvs : List (Key × V)) | dT (kvs : List (List Key × V))
  | set (S : Int -> Bool) (n : Nat)
  | ins (C dx : Addr) (fs : List (Str × V))
  | own (x : Addr)
  | xd (fs : List (Str × V))
  | met (f x : Addr)
  | rng (lo hi : Int)
  | frz (o : Obj) (u : HO)
  | tbl (ps : Array Value)
  | ext (φ : Heap -> Prop)
abbrev Hp := Addr -> Option HO
def upd (H : Hp) (a : Addr) (o : HO) : Hp := fun b => if b = a then some o else H b
theorem zaj {H : Hp} {a : Addr} {o : HO} : upd H a o a = some o := by unfold upd; rw [if_pos rfl]
theorem zak {H : Hp} {a b : Addr} {o : HO} (h : b ≠ a) : upd H a o b = H b := by unfold upd; rw [if_neg h]
theorem zhd {H : Hp} {a : Addr} {o u : HO} : upd (upd H a o) a u = upd H a u := by
 funext b; unfold upd; split <;> rfl
theorem zat {H : Hp} {a b : Addr} {o : HO} (h : H a = some o) (h' : H b = none) : a ≠ b := by
 intro e; subst e; rw [h] at h'; cases h'
section
variable (P : Program) (w : World)
def zbn (H : Hp) (h : Heap) (a : Addr) : HO -> Prop
 | .lst xs => xs.length <= sizeLine /\ ∃ (its : List Value) (n : Nat), Vals xs its /\ h.get? a = some { cls := .type "list", data := .seq its.toArray n }
 | .tup xs => xs.length <= sizeLine /\ ∃ its : List Value, Vals xs its /\ IsTup h a its.toArray
 | .dK kvs => kvs.length <= sizeLine /\ (a == sysModules) = false /\ ∃ vs, KV kvs vs /\ h.DictOf (zet P w) a vs
 | .dT kvs => kvs.length <= sizeLine /\ (a == sysModules) = false /\ ∃ xs : List (List Key × Addr × Value),
   Paired (fun (p : List Key × V) (q : List Key × Addr × Value) => p.1 = q.1 /\ H q.2.1 = some (.tup (p.1.map kV)) /\ RelV p.2 q.2.2) kvs xs /\
   ∃ o es ep, h.get? a = some o /\ o.ExactDict /\ o.data = .dict es ep /\ es.toList = xs.map (entryOfKey (tupleKind (zet P w))) /\ (xs.map (·.1)).Nodup
 | .set S n => h.SetOf (intKind P w) a S n
 | .ins C dx fs => H dx = some (.own a) /\ fs.length <= 1000 /\ dx ≠ a /\ h.get? a = some (PySem.W.instObj C dx) /\
   ∃ mA, h.Ns1 dx mA /\ (∀ f, RelO (fs.lookup f) (mA f)) /\ PySem.Within mA (fs.map (·.1))
 | .own _ => ∃ o, h.get? a = some o
 | .xd fs => ∃ mA, h.Ns1 a mA /\ ∀ f, RelO (fs.lookup f) (mA f)
 | .rng lo hi => ∃ t u v, h.get? a = some { cls := .type "range", data := .fields #[.int lo t, .int hi u, .int 1 v] }
 | .frz o u => h.get? a = some o /\ zbn H h a u
 | .tbl ps => h.get? a = some { cls := .none, data := .fields ps }
 | .met f x => h.get? a = some (PySem.W.methodObj (.ref f) (.ref x))
 | .ext φ => φ h /\ (∃ o, h.get? a = some o) /\ ∀ h1 h2 : Heap, φ h1 -> (∀ o, h1.get? a = some o -> h2.get? a = some o) -> φ h2
def HOk (H : Hp) (h : Heap) : Prop := ∀ a o, H a = some o -> zbn P w H h a o
end
section
variable {P : Program} {w : World} {H H' : Hp} {h h' : Heap} {a : Addr} {o : HO}
theorem zbn.lt (x : zbn P w H h a o) : a < h.objs.size := by
 cases o with
 | lst xs => obtain ⟨_, _, _, _, e⟩ := x; exact Heap.lt_size e
 | tup xs => obtain ⟨_, _, _, p⟩ := x; exact p.lt
 | dK kvs => obtain ⟨_, _, _, _, o, _, _, e, _⟩ := x; exact Heap.lt_size e
 | dT kvs => obtain ⟨_, _, _, _, o, _, _, e, _⟩ := x; exact Heap.lt_size e
 | set S n => obtain ⟨o, _, _, _, e, _⟩ := x; exact Heap.lt_size e
 | ins C dx fs => obtain ⟨_, _, _, e, _⟩ := x; exact Heap.lt_size e
 | own y => obtain ⟨_, e⟩ := x; exact Heap.lt_size e
 | xd fs => obtain ⟨_, ⟨_, _, _, e, _⟩, _⟩ := x; exact Heap.lt_size e
 | rng lo hi => obtain ⟨_, _, _, e⟩ := x; exact Heap.lt_size e
 | frz ob u => obtain ⟨e, _⟩ := x; exact Heap.lt_size e
 | tbl ps => exact Heap.lt_size (show h.get? a = some _ from x)
 | met f y => exact Heap.lt_size (show h.get? a = some _ from x)
 | ext φ => obtain ⟨_, ⟨_, e⟩, _⟩ := x; exact Heap.lt_size e
theorem Paired.mapP {α β : Type} {F G : α -> β -> Prop} : ∀ {l₁ : List α} {l₂ : List β}, Paired F l₁ l₂ -> (∀ a b, F a b -> G a b) -> Paired G l₁ l₂
 | _, _, .nil, _ => .nil
 | _, _, .cons r t, f => .cons (f _ _ r) (Paired.mapP t f)
theorem zbn.stay (x : zbn P w H h a o) (k : ∀ b u, (b = a ∨ H b = some (.own a)) -> h.get? b = some u -> h'.get? b = some u)
  (ho : ∀ b, H b = some (.own a) -> H' b = some (.own a)) (ht : ∀ b xs, H b = some (.tup xs) -> H' b = some (.tup xs)) : zbn P w H' h' a o := by
 induction o with
 | lst xs => obtain ⟨z, its, n, r, e⟩ := x; exact ⟨z, its, n, r, k _ _ (.inl rfl) e⟩
 | tup xs => obtain ⟨z, its, r, ob, e, c⟩ := x; exact ⟨z, its, r, ob, k _ _ (.inl rfl) e, c⟩
 | dK kvs => obtain ⟨z, y, vs, r, ob, es, ep, e, c⟩ := x; exact ⟨z, y, vs, r, ob, es, ep, k _ _ (.inl rfl) e, c⟩
 | dT kvs =>
  obtain ⟨z, y, xs, r, ob, es, ep, e, c⟩ := x
  exact ⟨z, y, xs, Paired.mapP r fun p q z => ⟨z.1, ht _ _ z.2.1, z.2.2⟩, ob, es, ep, k _ _ (.inl rfl) e, c⟩
 | set S n => obtain ⟨ob, es, ep, t, e, c⟩ := x; exact ⟨ob, es, ep, t, k _ _ (.inl rfl) e, c⟩
 | ins C dx fs =>
  obtain ⟨d, z, ne, e, mA, ⟨od, es, ep, e2, c⟩, r⟩ := x
  exact ⟨ho _ d, z, ne, k _ _ (.inl rfl) e, mA, ⟨od, es, ep, k _ _ (.inr d) e2, c⟩, r⟩
 | own y => obtain ⟨ob, e⟩ := x; exact ⟨ob, k _ _ (.inl rfl) e⟩
 | xd fs => obtain ⟨mA, ⟨od, es, ep, e, c⟩, r⟩ := x; exact ⟨mA, ⟨od, es, ep, k _ _ (.inl rfl) e, c⟩, r⟩
 | rng lo hi => obtain ⟨t, u, v, e⟩ := x; exact ⟨t, u, v, k _ _ (.inl rfl) e⟩
 | frz ob u ih => obtain ⟨e, q⟩ := x; exact ⟨k _ _ (.inl rfl) e, ih q⟩
 | tbl ps =>
  have e : h.get? a = some { cls := .none, data := .fields ps } := x
  show h'.get? a = some { cls := .none, data := .fields ps }
  exact k a _ (.inl rfl) e
 | met f y =>
  have e : h.get? a = some (PySem.W.methodObj (.ref f) (.ref y)) := x
  show h'.get? a = some (PySem.W.methodObj (.ref f) (.ref y))
  exact k a _ (.inl rfl) e
 | ext φ => obtain ⟨p, ⟨o, e⟩, st⟩ := x; exact ⟨st _ _ p fun o q => k _ _ (.inl rfl) q, ⟨o, k _ _ (.inl rfl) e⟩, st⟩
theorem HOk.lt (x : HOk P w H h) (e : H a = some o) : a < h.objs.size := (x a o e).lt
theorem HOk.fresh (x : HOk P w H h) (e : h.objs.size <= a) : H a = none := by
 cases q : H a with
 | none => rfl
 | some u => exact absurd (Nat.lt_of_lt_of_le (x.lt q) e) (Nat.lt_irrefl _)
theorem HOk.kept (x : HOk P w H h) (k : ∀ b u, h.get? b = some u -> h'.get? b = some u) : HOk P w H h' := fun a o e =>
 (x a o e).stay (fun b u _ q => k b u q) (fun _ q => q) fun _ _ q => q
theorem HOk.laid (x : HOk P w H h) (k : ∀ b u, h.get? b = some u -> h'.get? b = some u) (hp : h.objs.size <= a) (new : zbn P w (upd H a o) h' a o) : HOk P w (upd H a o) h' := fun b u e => by
 have hn := x.fresh hp
 by_cases hb : b = a
 ·subst hb; rw [zaj] at e; cases e; exact new
 ·rw [zak hb] at e
  exact (x b u e).stay (fun c v _ q => k c v q) (fun c q => by rw [zak (zat q hn)]; exact q) fun c xs q => by rw [zak (zat q hn)]; exact q
end
def Rd (H : Hp) (a : Addr) (u : HO) : Prop := H a = some u ∨ ∃ o, H a = some (.frz o u)
theorem Rd.ok {P : Program} {w : World} {H : Hp} {h : Heap} {a : Addr} {u : HO} (r : Rd H a u) (x : HOk P w H h) : zbn P w H h a u := by
 rcases r with r | ⟨o, r⟩
 ·exact x a u r
 ·obtain ⟨_, q⟩ := x a _ r
  exact q
def Mut : Option HO -> Prop
 | some (.lst _) => True
 | some (.dK _) => True
 | some (.dT _) => True
 | some (.set _ _) => True
 | some (.ins _ _ _) => True
 | some (.ext _) => True
 | _ => False
section
variable {P : Program} {w : World} {H : Hp} {h h' : Heap} {x e : Addr} {o' : HO}
theorem HOk.write (ok : HOk P w H h) (mu : Mut (H x)) (he : e = x ∨ H e = some (.own x)) (k : ∀ b u, b ≠ e -> h.get? b = some u -> h'.get? b = some u) (heo : ∃ u, h'.get? e = some u)
  (new : zbn P w (upd H x o') h' x o') : HOk P w (upd H x o') h' := fun b u q => by
 have nown : ∀ c y, H c = some (.own y) -> c ≠ x := fun c y r z => by subst z; rw [r] at mu; exact mu
 have ntup : ∀ c xs, H c = some (.tup xs) -> c ≠ x := fun c xs r z => by subst z; rw [r] at mu; exact mu
 by_cases hb : b = x
 ·subst hb; rw [zaj] at q; cases q; exact new
 ·rw [zak hb] at q
  by_cases hbe : b = e
  ·have q' : H b = some (.own x) := by
    rcases he with z | z
    ·exact absurd (hbe.trans z) hb
    ·rw [hbe]; exact z
   rw [q] at q'; cases q'
   obtain ⟨v, hv⟩ := heo
   exact ⟨v, by rw [hbe]; exact hv⟩
  ·refine (ok b u q).stay (fun c v hc r => k c v ?_ r) (fun c r => by rw [zak (nown c b r)]; exact r) fun c xs r => by rw [zak (ntup c xs r)]; exact r
   rcases hc with rfl | hc
   ·exact hbe
   ·rintro rfl
    rcases he with z | z
    ·exact nown c b hc z
    ·rw [hc] at z; cases z; exact hb rfl
end
structure Un (fs ex : List Addr) (H H' : Hp) (h h' : Heap) : Prop where
 keep : ∀ b o, h.get? b = some o -> H b = none -> b ∉ fs -> b ∉ ex -> h'.get? b = some o
 slot : ∀ b o, h.get? b = some o -> H b = none -> b ∈ fs -> b ∉ ex -> ∃ sl, h'.get? b = some { o with slots := sl }
 free : ∀ b o, h.get? b = some o -> H b = none -> b ∉ ex -> H' b = none
 there : ∀ b o, h.get? b = some o -> b ∉ ex -> ∃ o', h'.get? b = some o'
 tups : ∀ b xs, H b = some (.tup xs) -> H' b = some (.tup xs)
 frzs : ∀ b o u, H b = some (.frz o u) -> H' b = some (.frz o u)
 tbls : ∀ b ps, H b = some (.tbl ps) -> ∃ more, H' b = some (.tbl (ps ++ more))
section
variable {fs fs' ex ex' : List Addr} {H H1 H2 : Hp} {h h1 h2 h' : Heap} {a x e : Addr} {o : HO}
theorem Un.any (u : Un fs ex H H1 h h1) {b : Addr} {ob : Obj} (q : h.get? b = some ob) (n : H b = none) (hx : b ∉ ex) : ∃ sl, h1.get? b = some { ob with slots := sl } := by
 by_cases hb : b ∈ fs
 ·exact u.slot b ob q n hb hx
 ·exact ⟨ob.slots, u.keep b ob q n hb hx⟩
theorem Un.kept (k : ∀ b u, h.get? b = some u -> h'.get? b = some u) : Un fs ex H H h h' :=
 ⟨fun b ob q _ _ _ => k b ob q, fun b ob q _ _ _ => ⟨ob.slots, k b ob q⟩, fun _ _ _ n _ => n, fun b ob q _ => ⟨ob, k b ob q⟩, fun _ _ q => q, fun _ _ _ q => q, fun _ ps q => ⟨#[], by rw [q]; simp⟩⟩
theorem Un.refl : Un fs ex H H h h := Un.kept fun _ _ q => q
theorem Un.laid (k : ∀ b u, h.get? b = some u -> h'.get? b = some u) (hp : h.objs.size <= a) (hn : H a = none) : Un fs ex H (upd H a o) h h' where
 keep := fun b u q _ _ _ => k b u q
 slot := fun b u q _ _ _ => ⟨u.slots, k b u q⟩
 free := fun b u q n _ => by rw [zak (Nat.ne_of_lt (Nat.lt_of_lt_of_le (Heap.lt_size q) hp))]; exact n
 there := fun b u q _ => ⟨u, k b u q⟩
 tups := fun b xs q => by rw [zak (zat q hn)]; exact q
 frzs := fun b u xs q => by rw [zak (zat q hn)]; exact q
 tbls := fun b ps q => ⟨#[], by rw [zak (zat q hn), q]; simp⟩
theorem Un.write (mu : Mut (H x)) (he : e = x ∨ H e = some (.own x)) (k : ∀ b u, b ≠ e -> h.get? b = some u -> h'.get? b = some u) (heo : ∃ u, h'.get? e = some u) : Un fs ex H (upd H x o) h h' := by
 have hx : ∀ b, H b = none -> b ≠ x := fun b n z => by subst z; rw [n] at mu; exact mu
 have hb : ∀ b, H b = none -> b ≠ e := fun b n z => by
  subst z
  rcases he with r | r
  ·exact hx b n r
  ·rw [n] at r; cases r
 have hm : ∀ b u, H b = some u -> ¬ Mut (some u) -> b ≠ x := fun b u q nm z => by subst z; rw [q] at mu; exact nm mu
 refine ⟨fun b u q n _ _ => k b u (hb b n) q, fun b u q n _ _ => ⟨u.slots, k b u (hb b n) q⟩, fun b u q n _ => by rw [zak (hx b n)]; exact n, fun b u q _ => ?_,
  fun b xs q => by rw [zak (hm b _ q fun z => z)]; exact q, fun b u xs q => by rw [zak (hm b _ q fun z => z)]; exact q, fun b ps q => ⟨#[], by rw [zak (hm b _ q fun z => z), q]; simp⟩⟩
 by_cases hbe : b = e
 ·subst hbe; exact heo
 ·exact ⟨u, k b u hbe q⟩
end
def trk (h : Heap) (H : Hp) : List Addr := (List.range h.objs.size).filter fun a => (H a).isSome
def hidT (h : Heap) (H : Hp) : Heap := PySem.W.hideAll h (trk h H)
theorem zeu (h : Heap) (H : Hp) : (hidT h H).objs.size = h.objs.size := PySem.W.hideAll_size _ _
theorem zfL {h : Heap} {H : Hp} {b : Addr} {o : Obj} (e : h.get? b = some o) (n : H b = none) : (hidT h H).get? b = some o :=
 PySem.W.hideAll_get _ e fun hm => by
  have q : (H b).isSome = true := (List.mem_filter.mp hm).2
  rw [n] at q; simp at q
theorem zhe {h : Heap} {H : Hp} {b : Addr} {o : Obj} (e : (hidT h H).get? b = some o) : h.get? b = some o /\ H b = none := by
 have e' : h.get? b = some o := PySem.W.of_hideAll (trk h H) e
 refine ⟨e', ?_⟩
 cases q : H b with
 | none => rfl
 | some x =>
  have hm : b ∈ trk h H := List.mem_filter.mpr ⟨List.mem_range.mpr (Heap.lt_size e'), by simp [q]⟩
  have z : (hidT h H).get? b = none := PySem.W.hideAll_none (trk h H) hm
  rw [z] at e; cases e
end L2
namespace L2
open PySem PySem.Spec PyProof.Rows
structure Mod (K : PySem.W.Frag) (mg : Str -> Option Value) (base : Heap) : Prop where
 kin : K.In base
 glob : base.Ns mainGlobals mg
 blt : ∃ mb, base.Ns builtinsNs mb /\ ∀ x : Str, x ≠ "__name__" -> mb x = bootBuiltins x
 nolimit : base.NoLimit
structure Cx where
 prog : Program
 w : World
 K : PySem.W.Frag
 mg : Str -> Option Value
 base : Heap
 A : Around
 N : List Str
 s₀ : Shared
 H₀ : Hp
 env : Env
 outer : List Env
 stack : List Env
 ex : List Addr
 fn : Str -> Bool
 calm : Bool
 pn : List (Addr × Obj)
 xe : Value -> Shared -> Prop
def frs (l : List Env) : List Addr := l.filterMap (·.frame)
abbrev Cx.fs (X : Cx) : List Addr := frs X.outer
def Vis (sc : Scope) (x : Str) : Prop := sc.names.lookup x = some .local ∨ sc.names.lookup x = some .cell ∨ sc.names.lookup x = some .free
def Loc (sc : Scope) (x : Str) : Prop := sc.names.lookup x = some .local ∨ sc.names.lookup x = some .cell
def Look (env : Env) (h : Heap) (m : Str -> Option Value) (x : Str) (u : Value) : Prop :=
 (env.kindOf x = some .local /\ m x = some u) ∨ ((env.kindOf x = some .cell ∨ env.kindOf x = some .free) /\ ∃ c, env.cells.lookup x = some c /\ h.IsCell c (some u))
structure Cx.Ok (X : Cx) : Prop where
 mod : Mod X.K X.mg X.base
 kind : X.env.scope.kind = .function
 glob : X.env.globals = mainGlobals
 blt : X.env.builtins = builtinsNs
 above : X.s₀.heap.objs.size <= X.env.locals
 inj : ∀ x y c, X.env.cells.lookup x = some c -> X.env.cells.lookup y = some c -> x = y
 has : ∀ x, (X.env.kindOf x = some .cell ∨ X.env.kindOf x = some .free) -> ∃ c, X.env.cells.lookup x = some c
 cab : ∀ x c, X.fn x = true -> X.env.cells.lookup x = some c -> X.s₀.heap.objs.size <= c
 hd : X.calm = true -> X.A.handled = none
 frames : X.A.frames = some X.stack
 stk : X.stack = X.outer ∨ (X.stack = X.env :: X.outer /\ X.env.frame = some X.env.locals)
 exf : ∀ b ∈ X.ex, b ≠ X.env.locals /\ ∀ x c, X.env.cells.lookup x = some c -> c ≠ b
 bs : ∀ b o, X.base.get? b = some o -> X.s₀.heap.get? b = some o /\ X.H₀ b = none
 bsz : X.base.objs.size <= X.s₀.heap.objs.size
 noex : ∀ b o, X.base.get? b = some o -> b ∉ X.ex
 exfs : ∀ b ∈ X.ex, b ∉ X.fs
 funs : X.s₀.heap.FunFrames X.base X.outer
 frf : ∀ b ∈ X.fs, X.H₀ b = none
structure Inv (X : Cx) (pins : List (Addr × Obj)) (σ : List (Option V)) (H : Hp) (s : Shared) : Prop where
 ok : X.Ok
 os : s.os = X.s₀.os
 bare : AllBare s.gens
 base : Un X.fs X.ex X.H₀ H X.s₀.heap s.heap
 loc : ∃ m, s.heap.Ns X.env.locals m /\ ∀ (i : Nat) (x : Str) (v : V), X.N[i]? = some x -> σ[i]? = some (some v) -> Vis X.env.scope x -> ∃ u, RelV v u /\ Look X.env s.heap m x u
 cell : ∀ x c, X.env.cells.lookup x = some c -> ∃ v, s.heap.IsCell c v
 free : H X.env.locals = none
 freeC : ∀ x c, X.env.cells.lookup x = some c -> H c = none
 pin : ∀ p ∈ X.pn ++ pins, s.heap.get? p.1 = some p.2 /\ H p.1 = none /\ p.1 ≠ X.env.locals /\ p.1 ∉ X.fs /\ ∀ v, p.2.data ≠ .cell v
 hok : HOk X.prog X.w H s.heap
 len : σ.length = X.N.length
section
variable {X : Cx} {pins : List (Addr × Obj)} {σ : List (Option V)} {H H' : Hp} {s : Shared} {h' : Heap}
theorem Cx.Ok.nofr (ok : X.Ok) {b : Addr} {o : Obj} (e : X.base.get? b = some o) : b ∉ X.fs := fun hb => by
 have := (ok.funs.mem hb).1
 rw [e] at this; cases this
theorem Inv.bs (I : Inv X pins σ H s) : ∀ b o, X.base.get? b = some o -> s.heap.get? b = some o /\ H b = none := fun b o e =>
 ⟨I.base.keep b o (I.ok.bs b o e).1 (I.ok.bs b o e).2 (I.ok.nofr e) (I.ok.noex b o e), I.base.free b o (I.ok.bs b o e).1 (I.ok.bs b o e).2 (I.ok.noex b o e)⟩
theorem Inv.bk (I : Inv X pins σ H s) : ∀ b o, X.base.get? b = some o -> s.heap.get? b = some o := fun b o e => (I.bs b o e).1
theorem Inv.mod (I : Inv X pins σ H s) : Mod X.K X.mg X.base := I.ok.mod
theorem Inv.kIn (I : Inv X pins σ H s) : X.K.In s.heap := I.ok.mod.kin.keeps I.bk
theorem Inv.fr (I : Inv X pins σ H s) : ∃ m, Fr X.base X.env.locals s.heap m :=
 let ⟨m, hn, _⟩ := I.loc
 ⟨m, hn, I.bk, Nat.le_trans I.ok.bsz I.ok.above⟩
theorem Inv.lt (I : Inv X pins σ H s) : X.env.locals < s.heap.objs.size := let ⟨_, hn, _⟩ := I.loc; hn.lt
theorem Inv.sz (I : Inv X pins σ H s) : X.s₀.heap.objs.size <= s.heap.objs.size := Nat.le_trans I.ok.above (Nat.le_of_lt I.lt)
theorem Inv.nofs (I : Inv X pins σ H s) {a : Addr} (h : s.heap.objs.size <= a) : a ∉ X.fs := fun hb => by
 obtain ⟨_, o, ho, _⟩ := I.ok.funs.mem hb
 exact absurd (Nat.lt_of_lt_of_le (Heap.lt_size ho) (Nat.le_trans I.sz h)) (Nat.lt_irrefl _)
theorem Inv.cne (I : Inv X pins σ H s) : ∀ x c, X.env.cells.lookup x = some c -> c ≠ X.env.locals := fun x c e z => by
 obtain ⟨v, o, ho, hd⟩ := I.cell x c e
 obtain ⟨m, ⟨o', es, ep, ho', hd', _⟩, _⟩ := I.loc
 rw [z, ho'] at ho; cases ho; rw [hd'] at hd; cases hd
theorem Inv.funs (I : Inv X pins σ H s) : s.heap.FunFrames X.base X.outer := by
 have all : ∀ (l : List Env), (∀ b ∈ frs l, b ∈ X.fs) -> X.s₀.heap.FunFrames X.base l -> s.heap.FunFrames X.base l := by
  intro l
  induction l with
  | nil => intro _ _; trivial
  | cons env r ih =>
   intro hs hl
   obtain ⟨hk, ⟨L, o, hf, hn, ho, hd⟩, hr⟩ := hl
   have hL : L ∈ X.fs := hs L (by unfold frs; rw [List.filterMap_cons, hf]; exact List.mem_cons_self)
   obtain ⟨sl, e⟩ := I.base.slot L o ho (I.ok.frf L hL) hL fun z => I.ok.exfs L z hL
   exact ⟨hk, ⟨L, _, hf, hn, e, hd⟩, ih (fun b hb => hs b (by unfold frs; rw [List.filterMap_cons, hf]; exact List.mem_cons_of_mem _ hb)) hr⟩
 exact all X.outer (fun _ hb => hb) I.ok.funs
theorem Inv.stack (I : Inv X pins σ H s) : s.heap.FunFrames X.base X.stack := by
 rcases I.ok.stk with e | ⟨e, hf⟩
 ·rw [e]; exact I.funs
 ·rw [e]
  obtain ⟨m, hn, _⟩ := I.loc
  refine .cons (by rw [I.ok.kind]; decide) hf hn ?_ I.funs
  exact Heap.get?_none_of_le (Nat.le_trans I.ok.bsz I.ok.above)
theorem Inv.stkSub (I : Inv X pins σ H s) : ∀ b ∈ frs X.stack, b ∈ X.env.locals :: X.fs := fun b hb => by
 rcases I.ok.stk with e | ⟨e, hf⟩
 ·rw [e] at hb; exact List.mem_cons_of_mem _ hb
 ·rw [e] at hb
  unfold frs at hb
  rw [List.filterMap_cons, hf] at hb
  exact hb
theorem Inv.stkFree (I : Inv X pins σ H s) : ∀ b ∈ frs X.stack, H b = none := fun b hb => by
 rcases List.mem_cons.mp (I.stkSub b hb) with e | hb
 ·rw [e]; exact I.free
 ·obtain ⟨_, o, ho, _⟩ := I.ok.funs.mem hb
  exact I.base.free b o ho (I.ok.frf b hb) fun z => I.ok.exfs b z hb
theorem Inv.step {g' : Array GenState} {t' : Nat} {d' : Drawn} {ch : List Addr} (I : Inv X pins σ H s)
  (hch : ∀ b ∈ ch, (b ∈ X.ex ∨ X.s₀.heap.objs.size <= b) /\ b ≠ X.env.locals /\ (∀ x c, X.env.cells.lookup x = some c -> c ≠ b) /\ ∀ p ∈ X.pn ++ pins, p.1 ≠ b)
  (keep : ∀ b o, b ≠ X.env.locals -> b ∉ X.fs -> b ∉ ch -> s.heap.get? b = some o -> H b = none -> h'.get? b = some o)
  (slot : ∀ b o, b ≠ X.env.locals -> b ∈ X.fs -> b ∉ ch -> s.heap.get? b = some o -> H b = none -> ∃ sl, h'.get? b = some { o with slots := sl }) (free : ∀ b o, b ∉ ch -> s.heap.get? b = some o -> H b = none -> H' b = none)
  (there : ∀ b o, b ∉ ch -> s.heap.get? b = some o -> ∃ o', h'.get? b = some o')
  (tups : ∀ b xs, H b = some (.tup xs) -> H' b = some (.tup xs)) (frzs : ∀ b o u, H b = some (.frz o u) -> H' b = some (.frz o u)) (tbls : ∀ b ps, H b = some (.tbl ps) -> ∃ more, H' b = some (.tbl (ps ++ more)))
  (ns : ∀ m, s.heap.Ns X.env.locals m -> h'.Ns X.env.locals m) (hok : HOk X.prog X.w H' h') (hg : AllBare g') :
  Inv X pins σ H' { s with heap := h', gens := g', drawn := d', toks := t' } := by
 have neL : ∀ b o, X.s₀.heap.get? b = some o -> b ≠ X.env.locals := fun b o e => Nat.ne_of_lt (Nat.lt_of_lt_of_le (Heap.lt_size e) I.ok.above)
 have neC : ∀ b o, X.s₀.heap.get? b = some o -> b ∉ X.ex -> b ∉ ch := fun b o e hx hb => by
  rcases (hch b hb).1 with z | z
  ·exact hx z
  ·exact absurd (Nat.lt_of_lt_of_le (Heap.lt_size e) z) (Nat.lt_irrefl _)
 have cellK : ∀ x c, X.env.cells.lookup x = some c -> ∀ v, s.heap.IsCell c v -> h'.IsCell c v := fun x c e v ⟨o, ho, hd⟩ => by
  have nch : c ∉ ch := fun z => (hch c z).2.2.1 x c e rfl
  by_cases hc : c ∈ X.fs
  ·obtain ⟨sl, q⟩ := slot c o (I.cne x c e) hc nch ho (I.freeC x c e)
   exact ⟨_, q, hd⟩
  ·exact ⟨o, keep c o (I.cne x c e) hc nch ho (I.freeC x c e), hd⟩
 refine ⟨I.ok, I.os, hg, ⟨fun b o e n hb hx => ?_, fun b o e n hb hx => ?_, fun b o e n hx => ?_, fun b o e hx => ?_, fun b xs e => tups b xs (I.base.tups b xs e), fun b o xs e => frzs b o xs (I.base.frzs b o xs e), fun b ps e => ?_⟩, ?_, fun x c e => ?_, ?_, fun x c e => ?_, fun p hp => ?_, hok, I.len⟩
 ·exact keep b o (neL b o e) hb (neC b o e hx) (I.base.keep b o e n hb hx) (I.base.free b o e n hx)
 ·obtain ⟨sl, e1⟩ := I.base.slot b o e n hb hx
  obtain ⟨sl', e2⟩ := slot b _ (neL b o e) hb (neC b o e hx) e1 (I.base.free b o e n hx)
  exact ⟨sl', e2⟩
 ·obtain ⟨o', e1⟩ := I.base.there b o e hx
  exact free b o' (neC b o e hx) e1 (I.base.free b o e n hx)
 ·obtain ⟨o', e1⟩ := I.base.there b o e hx
  exact there b o' (neC b o e hx) e1
 ·obtain ⟨m1, e1⟩ := I.base.tbls b ps e
  obtain ⟨m2, e2⟩ := tbls b _ e1
  exact ⟨m1 ++ m2, by rw [e2, Array.append_assoc]⟩
 ·obtain ⟨m, hn, hl⟩ := I.loc
  refine ⟨m, ns m hn, fun i x v e1 e2 e3 => ?_⟩
  obtain ⟨u, r, l⟩ := hl i x v e1 e2 e3
  refine ⟨u, r, ?_⟩
  rcases l with l | ⟨k, c, e, z⟩
  ·exact .inl l
  ·exact .inr ⟨k, c, e, cellK x c e _ z⟩
 ·obtain ⟨v, z⟩ := I.cell x c e
  exact ⟨v, cellK x c e v z⟩
 ·obtain ⟨m, ⟨o, _, _, ho, _⟩, _⟩ := I.loc
  exact free _ o (fun z => (hch _ z).2.1 rfl) ho I.free
 ·obtain ⟨v, o, ho, hd⟩ := I.cell x c e
  exact free c o (fun z => (hch c z).2.2.1 x c e rfl) ho (I.freeC x c e)
 ·obtain ⟨e, n, ne, nf, d⟩ := I.pin p hp
  have nch : p.1 ∉ ch := fun z => (hch p.1 z).2.2.2 p hp rfl
  exact ⟨keep p.1 p.2 ne nf nch e n, free p.1 p.2 nch e n, ne, nf, d⟩
theorem Inv.un {t' : Nat} (I : Inv X pins σ H s) (u : Un X.fs [] H H' s.heap h') (hok : HOk X.prog X.w H' h') : Inv X pins σ H' { s with heap := h', toks := t' } := by
 obtain ⟨m, ⟨o, es, ep, ho, r⟩, _⟩ := id I.loc
 obtain ⟨sl, hL⟩ := u.any ho I.free (by simp)
 exact I.step (g' := s.gens) (d' := s.drawn) (ch := []) (fun _ z => nomatch z) (fun b o _ hb _ e n => u.keep b o e n hb (by simp)) (fun b o _ hb _ e n => u.slot b o e n hb (by simp)) (fun b o _ e n => u.free b o e n (by simp)) (fun b o _ e => u.there b o e (by simp)) u.tups u.frzs u.tbls (fun m' hm => by
  obtain ⟨o', es', ep', ho', r'⟩ := hm
  rw [ho] at ho'; cases ho'
  exact ⟨_, es', ep', hL, r'⟩) hok I.bare
theorem Inv.call {g' : Array GenState} {t' : Nat} {d' : Drawn} {ch : List Addr} (I : Inv X pins σ H s) (u : Un (frs X.stack) ch H H' s.heap h') (hok : HOk X.prog X.w H' h') (hg : AllBare g')
  (hch : ∀ b ∈ ch, (b ∈ X.ex ∨ X.s₀.heap.objs.size <= b) /\ b ≠ X.env.locals /\ (∀ x c, X.env.cells.lookup x = some c -> c ≠ b) /\ ∀ p ∈ X.pn ++ pins, p.1 ≠ b) :
  Inv X pins σ H' { s with heap := h', gens := g', drawn := d', toks := t' } := by
 obtain ⟨m, ⟨o, es, ep, ho, r⟩, _⟩ := id I.loc
 obtain ⟨sl, hL⟩ := u.any ho I.free fun z => (hch _ z).2.1 rfl
 exact I.step (ch := ch) hch (fun b o hL hb hc e n => u.keep b o e n (fun z => (List.mem_cons.mp (I.stkSub b z)).elim hL hb) hc) (fun b o _ _ hc e n => u.any e n hc) (fun b o hc e n => u.free b o e n hc) (fun b o hc e => u.there b o e hc) u.tups u.frzs u.tbls (fun m' hm => by
  obtain ⟨o', es', ep', ho', r'⟩ := hm
  rw [ho] at ho'; cases ho'
  exact ⟨_, es', ep', hL, r'⟩) hok hg
theorem Inv.turned {t' : Nat} {it : Addr} (I : Inv X pins σ H s) (k : ∀ b o, b ≠ it -> s.heap.get? b = some o -> h'.get? b = some o) (hn : H it = none) (hL : it ≠ X.env.locals)
  (h1 : it ∈ X.ex ∨ X.s₀.heap.objs.size <= it) (h2 : ∀ x c, X.env.cells.lookup x = some c -> c ≠ it) (h3 : ∀ p ∈ X.pn ++ pins, p.1 ≠ it) : Inv X pins σ H { s with heap := h', toks := t' } := by
 have nit : ∀ b u, H b = some u -> b ≠ it := fun b u e z => by rw [z, hn] at e; cases e
 refine I.step (g' := s.gens) (d' := s.drawn) (ch := [it]) (fun b hb => ?_) (fun b o _ _ hc e _ => k b o (fun z => hc (by simp [z])) e) (fun b o _ _ hc e _ => ⟨o.slots, k b o (fun z => hc (by simp [z])) e⟩) (fun _ _ _ _ n => n)
  (fun b o hc e => ⟨o, k b o (fun z => hc (by simp [z])) e⟩) (fun _ _ e => e) (fun _ _ _ e => e) (fun b ps e => ⟨#[], by rw [e]; simp⟩) (fun m hm => ?_) (fun b u e => ?_) I.bare
 ·have e : b = it := by simpa using hb
  subst e
  exact ⟨h1, hL, h2, h3⟩
 ·obtain ⟨o, es, ep, ho, r⟩ := hm
  exact ⟨o, es, ep, k _ o (Ne.symm hL) ho, r⟩
 ·refine (I.hok b u e).stay (fun c v hc q => k c v ?_ q) (fun _ q => q) fun _ _ q => q
  rcases hc with z | z
  ·rw [z]; exact nit b u e
  ·exact nit c _ z
theorem Inv.tok (I : Inv X pins σ H s) (t : Nat) : Inv X pins σ H { s with toks := t } := I.un (h' := s.heap) (t' := t) Un.refl I.hok
theorem Inv.kept {t' : Nat} (I : Inv X pins σ H s) (k : ∀ b u, s.heap.get? b = some u -> h'.get? b = some u) : Inv X pins σ H { s with heap := h', toks := t' } := I.un (Un.kept k) (I.hok.kept k)
theorem Inv.laid {a : Addr} {o : HO} {t' : Nat} (I : Inv X pins σ H s) (k : ∀ b u, s.heap.get? b = some u -> h'.get? b = some u) (hp : s.heap.objs.size <= a) (new : zbn X.prog X.w (upd H a o) h' a o) :
  Inv X pins σ (upd H a o) { s with heap := h', toks := t' } := I.un (Un.laid k hp (I.hok.fresh hp)) (I.hok.laid k hp new)
theorem Inv.write {x e : Addr} {o : HO} {t' : Nat} (I : Inv X pins σ H s) (mu : Mut (H x)) (he : e = x ∨ H e = some (.own x)) (k : ∀ b u, b ≠ e -> s.heap.get? b = some u -> h'.get? b = some u) (heo : ∃ u, h'.get? e = some u)
  (new : zbn X.prog X.w (upd H x o) h' x o) : Inv X pins σ (upd H x o) { s with heap := h', toks := t' } := I.un (Un.write mu he k heo) (I.hok.write mu he k heo new)
theorem Inv.pins_of {pins' : List (Addr × Obj)} (I : Inv X pins σ H s) (h : ∀ p ∈ pins', s.heap.get? p.1 = some p.2 /\ H p.1 = none /\ p.1 ≠ X.env.locals /\ p.1 ∉ X.fs /\ ∀ v, p.2.data ≠ .cell v) : Inv X pins' σ H s :=
 ⟨I.ok, I.os, I.bare, I.base, I.loc, I.cell, I.free, I.freeC, fun p hp => (List.mem_append.mp hp).elim (fun z => I.pin p (List.mem_append_left _ z)) (h p), I.hok, I.len⟩
theorem zdD {N : List Str} (hN : N.Nodup) {i j : Nat} {x : Str} (a : N[i]? = some x) (b : N[j]? = some x) : i = j := by
 obtain ⟨h1, e1⟩ := List.getElem?_eq_some_iff.mp a
 obtain ⟨h2, e2⟩ := List.getElem?_eq_some_iff.mp b
 exact (List.getElem_inj hN).mp (e1.trans e2.symm)
theorem zev {M : Model} {A : Around} {E : Value -> Shared -> Prop} {i : Nat} {x : Str} {v : V} {u : Value} {Q : Unit -> Shared -> Prop} (I : Inv X pins σ H s) (hN : X.N.Nodup) (hi : X.N[i]? = some x) (hx : Loc X.env.scope x) (r : RelV v u)
  (h : ∀ s', Inv X pins (σ.set i (some v)) H s' -> (∃ a, Heap.SameBut a s.heap s'.heap /\ (a = X.env.locals ∨ X.env.cells.lookup x = some a)) -> Q () s') (hf : X.fn x = true ∨ X.env.scope.names.lookup x = some .local := by first | exact .inl rfl | exact .inr rfl | assumption) : wpAny M A (storeName X.env x u) Q E s := by
 obtain ⟨m, hn, hl⟩ := id I.loc
 have hcls : (X.env.scope.kind == .class || (X.env.scope.kind == .module && X.env.locals != X.env.globals)) = false := by rw [I.ok.kind]; rfl
 have hiσ : i < σ.length := by rw [I.len]; exact (List.getElem?_eq_some_iff.mp hi).1
 have cne := I.cne
 have tracked : ∀ {a : Addr} {h' : Heap}, (∃ o, s.heap.get? a = some o /\ H a = none) -> Heap.SameBut a s.heap h' -> HOk X.prog X.w H h' := fun {a h'} ha hs b ob e => by
  obtain ⟨_, _, hfree⟩ := ha
  refine (I.hok b ob e).stay (fun c w' hc q => (hs.2 c ?_).trans q) (fun _ q => q) fun _ _ q => q
  rintro rfl
  rcases hc with rfl | hc
  ·rw [hfree] at e; cases e
  ·rw [hfree] at hc; cases hc
 rcases hx with hk | hk
 ·refine wpAny_storeName_local hk hn (fun h' hn' hs => ?_) hcls
  obtain ⟨oL, _, _, hoL, _⟩ := id hn
  refine h _ ⟨I.ok, I.os, I.bare, ⟨fun b o e n hb hx => ?_, fun b o e n hb hx => ?_, I.base.free, fun b o e hx => ?_, I.base.tups, I.base.frzs, I.base.tbls⟩, ⟨_, hn', fun j y v' e1 e2 e3 => ?_⟩, fun y c e => ?_, I.free, I.freeC, fun p hp => ?_, tracked ⟨oL, hoL, I.free⟩ hs, by simpa using I.len⟩ ⟨_, hs, .inl rfl⟩
  ·exact (hs.2 b (Nat.ne_of_lt (Nat.lt_of_lt_of_le (Heap.lt_size e) I.ok.above))).trans (I.base.keep b o e n hb hx)
  ·obtain ⟨sl, e1⟩ := I.base.slot b o e n hb hx
   exact ⟨sl, (hs.2 b (Nat.ne_of_lt (Nat.lt_of_lt_of_le (Heap.lt_size e) I.ok.above))).trans e1⟩
  ·obtain ⟨o', e1⟩ := I.base.there b o e hx
   exact ⟨o', (hs.2 b (Nat.ne_of_lt (Nat.lt_of_lt_of_le (Heap.lt_size e) I.ok.above))).trans e1⟩
  ·by_cases hj : j = i
   ·subst hj
    rw [hi] at e1; cases e1
    rw [List.getElem?_set_self hiσ] at e2
    cases e2
    exact ⟨u, r, .inl ⟨hk, by simp⟩⟩
   ·rw [List.getElem?_set_ne (Ne.symm hj)] at e2
    obtain ⟨u', r', q⟩ := hl j y v' e1 e2 e3
    refine ⟨u', r', ?_⟩
    rcases q with ⟨k, e⟩ | ⟨k, c, e, z⟩
    ·refine .inl ⟨k, ?_⟩
     have : y ≠ x := fun e => hj (zdD hN e1 (e ▸ hi))
     simp [this, e]
    ·exact .inr ⟨k, c, e, z.sameBut hs (cne y c e)⟩
  ·obtain ⟨w', z⟩ := I.cell y c e
   exact ⟨w', z.sameBut hs (cne y c e)⟩
  ·obtain ⟨e, n, ne, nf, d⟩ := I.pin p hp
   exact ⟨(hs.2 p.1 ne).trans e, n, ne, nf, d⟩
 ·have hfn : X.fn x = true := by
   rcases hf with z | z
   ·exact z
   ·rw [z] at hk; cases hk
  obtain ⟨c, hc⟩ := I.ok.has x (.inl hk)
  obtain ⟨w', z⟩ := I.cell x c hc
  refine wpAny_storeName_cell I.ok.kind hk hc z (fun h' hc' hs => ?_)
  obtain ⟨oc, hoc, hocd⟩ := id z
  refine h { s with heap := h' } ⟨I.ok, I.os, I.bare, ⟨fun b o e n hb hx => ?_, fun b o e n hb hx => ?_, I.base.free, fun b o e hx => ?_, I.base.tups, I.base.frzs, I.base.tbls⟩, ⟨m, hn.sameBut hs (Ne.symm (cne x c hc)), fun j y v' e1 e2 e3 => ?_⟩, fun y c' e => ?_, I.free, I.freeC, fun p hp => ?_, tracked ⟨oc, hoc, I.freeC x c hc⟩ hs, by simpa using I.len⟩ ⟨c, hs, .inr hc⟩
  ·exact (hs.2 b (Nat.ne_of_lt (Nat.lt_of_lt_of_le (Heap.lt_size e) (I.ok.cab x c hfn hc)))).trans (I.base.keep b o e n hb hx)
  ·obtain ⟨sl, e1⟩ := I.base.slot b o e n hb hx
   exact ⟨sl, (hs.2 b (Nat.ne_of_lt (Nat.lt_of_lt_of_le (Heap.lt_size e) (I.ok.cab x c hfn hc)))).trans e1⟩
  ·obtain ⟨o', e1⟩ := I.base.there b o e hx
   exact ⟨o', (hs.2 b (Nat.ne_of_lt (Nat.lt_of_lt_of_le (Heap.lt_size e) (I.ok.cab x c hfn hc)))).trans e1⟩
  ·by_cases hj : j = i
   ·subst hj
    rw [hi] at e1; cases e1
    rw [List.getElem?_set_self hiσ] at e2
    cases e2
    exact ⟨u, r, .inr ⟨.inl hk, c, hc, hc'⟩⟩
   ·rw [List.getElem?_set_ne (Ne.symm hj)] at e2
    obtain ⟨u', r', q⟩ := hl j y v' e1 e2 e3
    refine ⟨u', r', ?_⟩
    rcases q with q | ⟨k, c', e, z'⟩
    ·exact .inl q
    ·refine .inr ⟨k, c', e, z'.sameBut hs ?_⟩
     rintro rfl
     exact hj (zdD hN e1 (I.ok.inj _ _ _ e hc ▸ hi))
  ·by_cases hcc : c' = c
   ·subst hcc; exact ⟨_, hc'⟩
   ·obtain ⟨w2, z2⟩ := I.cell y c' e
    exact ⟨w2, z2.sameBut hs hcc⟩
  ·obtain ⟨e, n, ne, nf, d⟩ := I.pin p hp
   refine ⟨(hs.2 p.1 ?_).trans e, n, ne, nf, d⟩
   intro q
   rw [q, hoc] at e
   have q' : oc = p.2 := Option.some.inj e
   exact d w' (by rw [← q']; exact hocd)
theorem zdE {M : Model} {A : Around} {E : Value -> Shared -> Prop} {i : Nat} {x : Str} {v : V} {u : Value} {Q : Unit -> Shared -> Prop} (I : Inv X pins σ H s) (hN : X.N.Nodup) (hi : X.N[i]? = some x) (hx : Loc X.env.scope x) (r : RelV v u)
  (h : ∀ s', Inv X pins (σ.set i (some v)) H s' -> Q () s') (hf : X.fn x = true ∨ X.env.scope.names.lookup x = some .local := by first | exact .inl rfl | exact .inr rfl | assumption) : wpAny M A (storeName X.env x u) Q E s :=
 zev I hN hi hx r (fun s' I' _ => h s' I') hf
theorem Inv.call' {s' : Shared} {ch : List Addr} (I : Inv X pins σ H s) (ho : s'.os = s.os) (u : Un (frs X.stack) ch H H' s.heap s'.heap) (hok : HOk X.prog X.w H' s'.heap) (hg : AllBare s'.gens)
  (hch : ∀ b ∈ ch, (b ∈ X.ex ∨ X.s₀.heap.objs.size <= b) /\ b ≠ X.env.locals /\ (∀ x c, X.env.cells.lookup x = some c -> c ≠ b) /\ ∀ p ∈ X.pn ++ pins, p.1 ≠ b) : Inv X pins σ H' s' := by
 obtain ⟨h', g', d', t', o'⟩ := s'
 have e : o' = s.os := ho
 subst e
 exact I.call (g' := g') (t' := t') (d' := d') u hok hg hch
end
abbrev XK := Value -> Option Addr -> Hp -> Prop
abbrev St := List (Option V)
abbrev VK := V -> Hp -> Prop
abbrev TE := St -> Hp -> VK -> Prop
abbrev TT := St -> Hp -> (Bool -> Hp -> Prop) -> Prop
abbrev TA := St -> Hp -> (List V -> Hp -> Prop) -> Prop
structure Ends where
 nx : St -> Hp -> Prop
 rt : VK
 bk : St -> Hp -> Prop := fun _ _ => False
 ct : St -> Hp -> Prop := fun _ _ => False
abbrev TS := Ends -> St -> Hp -> Prop
def EP (X : Cx) (pins : List (Addr × Obj)) (σ : St) (Q : VK) (u : Value) (s' : Shared) : Prop := ∃ v H', Inv X pins σ H' s' /\ RelV v u /\ Q v H'
def TP (X : Cx) (pins : List (Addr × Obj)) (σ : St) (Q : Bool -> Hp -> Prop) (b : Bool) (s' : Shared) : Prop := ∃ H', Inv X pins σ H' s' /\ Q b H'
def AP (X : Cx) (pins : List (Addr × Obj)) (σ : St) (Q : List V -> Hp -> Prop) (us : List Value) (s' : Shared) : Prop := ∃ vs H', Inv X pins σ H' s' /\ Vals vs us /\ Q vs H'
def SP (X : Cx) (pins : List (Addr × Obj)) (D : Ends) (f : Flow) (s' : Shared) : Prop :=
 match f with
 | .next => ∃ σ' H', Inv X pins σ' H' s' /\ D.nx σ' H'
 | .brk => ∃ σ' H', Inv X pins σ' H' s' /\ D.bk σ' H'
 | .cont => ∃ σ' H', Inv X pins σ' H' s' /\ D.ct σ' H'
 | .ret u => ∃ v σ' H', Inv X pins σ' H' s' /\ RelV v u /\ D.rt v H'
def PE (X : Cx) (e : Expr) (t : TE) : Prop :=
 ∀ (pins : List (Addr × Obj)) (s : Shared) (σ : St) (H : Hp) (Q : VK), Inv X pins σ H s -> t σ H Q -> wpAny (model X.prog X.w) X.A (eval e X.env) (EP X pins σ Q) X.xe s
def PT (X : Cx) (e : Expr) (t : TT) : Prop :=
 ∀ (pins : List (Addr × Obj)) (s : Shared) (σ : St) (H : Hp) (Q : Bool -> Hp -> Prop), Inv X pins σ H s -> t σ H Q -> wpAny (model X.prog X.w) X.A (isTrue e X.env (eval e X.env)) (TP X pins σ Q) X.xe s
def PW (X : Cx) (e : Expr) (t : TT) : Prop :=
 ∀ (whole : Sem Value) (pins : List (Addr × Obj)) (s : Shared) (σ : St) (H : Hp) (Q : Bool -> Hp -> Prop), Inv X pins σ H s -> t σ H Q -> wpAny (model X.prog X.w) X.A (isTrue e X.env whole) (TP X pins σ Q) X.xe s
theorem PW.pt {X : Cx} {e : Expr} {t : TT} (h : PW X e t) : PT X e t := h _
def PA (X : Cx) (es : List Expr) (t : TA) : Prop :=
 ∀ (pos : Pos) (pins : List (Addr × Obj)) (s : Shared) (σ : St) (H : Hp) (Q : List V -> Hp -> Prop), Inv X pins σ H s -> t σ H Q -> wpAny (model X.prog X.w) X.A (spliced (backTo pos (starEach es X.env))) (AP X pins σ Q) X.xe s
def PS (X : Cx) (st : Stmt) (t : TS) : Prop :=
 ∀ (pins : List (Addr × Obj)) (s : Shared) (σ : St) (H : Hp) (D : Ends), Inv X pins σ H s -> t D σ H -> wpAny (model X.prog X.w) X.A (exec st X.env) (SP X pins D) X.xe s
def PSs (X : Cx) (st : List Stmt) (t : TS) : Prop :=
 ∀ (pins : List (Addr × Obj)) (s : Shared) (σ : St) (H : Hp) (D : Ends), Inv X pins σ H s -> t D σ H -> wpAny (model X.prog X.w) X.A (execs st X.env) (SP X pins D) X.xe s
theorem thn {α : Type} {t : Sem α} {Q Q' : α -> Shared -> Prop} {M : Model} {A : Around} {E : Value -> Shared -> Prop} {s : Shared} (h : wpAny M A t Q E s) (hQ : ∀ a s, Q a s -> Q' a s) : wpAny M A t Q' E s := wpAny_mono h hQ fun _ _ x => x
end L2
namespace L2
open PySem PySem.Spec PyProof.Rows
section
variable {X : Cx}
def tVar (i : Nat) : TE := fun σ H Q => ∃ v, σ[i]? = some (some v) /\ Q v H
def tC (v : V) : TE := fun _ H Q => Q v H
theorem zgT {i : Nat} {x : Str} {pos : Pos} (hN : X.N[i]? = some x) (hv : Vis X.env.scope x) (hd : (x == ("__debug__" : Str)) = false := by decide) (hcd : (x == ("__classdict__" : Str)) = false := by decide) : PE X (.Name x pos) (tVar i) := by
 intro pins s σ H Q I h
 obtain ⟨v, e, h⟩ := h
 obtain ⟨m, hn, hl⟩ := I.loc
 obtain ⟨u, r, l⟩ := hl i x v hN e hv
 have fin : EP X pins σ Q u s := ⟨v, H, I, r, h⟩
 rcases l with ⟨hk, hm⟩ | ⟨hk, c, hc, hcell⟩
 ·exact wpAny_Name (wpAny_loadName_local I.ok.kind hk hn hm fin) hd
 ·rcases hk with hk | hk
  ·exact wpAny_Name (wpAny_loadName_cell I.ok.kind hk hc hcell fin) hd
  ·exact wpAny_Name (wpAny_loadName_free I.ok.kind hk hc hcell fin hcd) hd
theorem ziL {i j pos} : PE X (.Constant (.int i) j pos) (tC (.int i)) := fun _ _ _ H _ I h => wpAny_Constant_int ⟨.int i, H, I.tok _, ⟨_, rfl⟩, h⟩
theorem zkl {b j pos} : PE X (.Constant (.bool b) j pos) (tC (.bl b)) := fun _ _ _ H _ I h => Constant_bool ⟨.bl b, H, I, rfl, h⟩
theorem ziM {j pos} : PE X (.Constant .none j pos) (tC .non) := fun _ _ _ H _ I h => Constant_none ⟨.non, H, I, rfl, h⟩
theorem zgU {x j pos} : PE X (.Constant (.str x) j pos) (tC (.str x)) := fun _ _ _ H _ I h => Calls.Constant_str ⟨.str x, H, I.tok _, ⟨_, rfl⟩, h⟩
def Gl (X : Cx) (x : Str) : Prop := X.env.kindOf x = some .globalImplicit
theorem zbH {E : Value -> Shared -> Prop} {pins : List (Addr × Obj)} {s : Shared} {σ : St} {H : Hp} {x : Str} {u : Value} {pos : Pos} {Q : Value -> Shared -> Prop} (I : Inv X pins σ H s) (hg : Gl X x) (hm : X.mg x = some u) (h : Q u s)
  (hd : (x == ("__debug__" : Str)) = false := by decide) : wpAny (model X.prog X.w) X.A (eval (.Name x pos) X.env) Q E s :=
 Calls.Name_function_global I.ok.kind hg (Calls.loadGlobal_global (by rw [I.ok.glob]; exact I.mod.glob.keeps I.bk) hm h) hd
theorem zco {E : Value -> Shared -> Prop} {pins : List (Addr × Obj)} {s : Shared} {σ : St} {H : Hp} {x : Str} {u : Value} {pos : Pos} {Q : Value -> Shared -> Prop} (I : Inv X pins σ H s) (hg : Gl X x) (hm : X.mg x = none) (hv : bootBuiltins x = some u) (h : Q u s)
  (hn : x ≠ "__name__" := by decide) (hd : (x == ("__debug__" : Str)) = false := by decide) : wpAny (model X.prog X.w) X.A (eval (.Name x pos) X.env) Q E s := by
 obtain ⟨mb, h1, h2⟩ := I.mod.blt
 exact Calls.Name_function_global I.ok.kind hg (Calls.loadGlobal_builtin (by rw [I.ok.glob]; exact I.mod.glob.keeps I.bk) hm (by rw [I.ok.blt]; exact h1.keeps I.bk) ((h2 x hn).trans hv) h) hd
theorem zew {x : Str} {v : V} {u : Value} {pos : Pos} (hg : Gl X x) (hm : X.mg x = some u) (r : RelV v u) (hd : (x == ("__debug__" : Str)) = false := by decide) : PE X (.Name x pos) (tC v) :=
 fun _ _ _ H _ I h => zbH I hg hm ⟨v, H, I, r, h⟩ hd
theorem zhf {x : Str} {v : V} {u : Value} {pos : Pos} (hg : Gl X x) (hm : X.mg x = none) (hv : bootBuiltins x = some u) (r : RelV v u) (hn : x ≠ "__name__" := by decide) (hd : (x == ("__debug__" : Str)) = false := by decide) : PE X (.Name x pos) (tC v) :=
 fun _ _ _ H _ I h => zco I hg hm hv ⟨v, H, I, r, h⟩ hn hd
variable {a b : Expr} {ta tb : TE} {pos : Pos}
def PC (X : Cx) (op : CmpOp) (a b : Expr) (t : TE) : Prop :=
 ∀ (pins : List (Addr × Obj)) (s : Shared) (σ : St) (H : Hp) (Q : VK), Inv X pins σ H s -> t σ H Q ->
  wpAny (model X.prog X.w) X.A (eval a X.env) (fun v s₁ => wpAny (model X.prog X.w) X.A (eval b X.env) (fun u s₂ => wpAny (model X.prog X.w) X.A (compareOp op v u) (EP X pins σ Q) X.xe s₂) X.xe s₁) X.xe s
theorem zfM (b : Expr) {op : CmpOp} (h : op ≠ .In) (h2 : op ≠ .NotIn) : behindInMarks op b = false := by
 have e1 : (op == CmpOp.In) = false := by cases op <;> first | rfl | exact absurd rfl h
 have e2 : (op == CmpOp.NotIn) = false := by cases op <;> first | rfl | exact absurd rfl h2
 cases b <;> simp [behindInMarks, e1, e2]
def tIsN (ta : TE) : TE := fun σ H Q => ta σ H fun x H1 => Q (.bl (decide (x = .non))) H1
def zkm (ta : TE) : TE := fun σ H Q => ta σ H fun x H1 => Q (.bl (!decide (x = .non))) H1
theorem RelV.none_iff {x : V} {v : Value} (r : RelV x v) : (v == Value.none) = decide (x = .non) := by
 cases x with
 | non => cases r; rfl
 | bl _ => cases r; rfl
 | int _ => obtain ⟨t, rfl⟩ := r; rfl
 | str _ => obtain ⟨t, rfl⟩ := r; rfl
 | byt _ => obtain ⟨t, rfl⟩ := r; rfl
 | flt _ => obtain ⟨t, rfl⟩ := r; rfl
 | ref _ => cases r; rfl
 | ty _ => cases r; rfl
theorem ziN {j pos'} (ha : PE X a ta) : PC X .Is a (.Constant .none j pos') (tIsN ta) := by
 intro pins s σ H Q I h
 refine thn (ha pins s σ H _ I h) fun v s1 ⟨x, H1, I1, r1, q1⟩ => ?_
 exact Constant_none (is_none_gen ⟨.bl _, H1, I1, by rw [r1.none_iff]; rfl, q1⟩)
theorem zhg {j pos'} (ha : PE X a ta) : PC X .IsNot a (.Constant .none j pos') (zkm ta) := by
 intro pins s σ H Q I h
 refine thn (ha pins s σ H _ I h) fun v s1 ⟨x, H1, I1, r1, q1⟩ => ?_
 exact Constant_none (isnot_none_gen ⟨.bl _, H1, I1, by rw [r1.none_iff]; rfl, q1⟩)
def tB (t : TE) : TT := fun σ H Q => t σ H fun x H1 => ∃ c, x = .bl c /\ Q c H1
theorem zgV {op : CmpOp} {t : TE} (h : PC X op a b t) (h1 : behindInMarks op b = false := by first | exact zfM _ (by decide) (by decide) | rfl) : PT X (.Compare a [op] [b] pos) (tB t) := by
 intro pins s σ H Q I hw
 refine wpAny_isTrue_Compare1 (thn (h pins s σ H _ I hw) fun v s1 h1 => thn h1 fun u s2 h2 => thn h2 fun c s3 ⟨x, H1, I1, r1, q1⟩ => ?_) h1
 obtain ⟨d, rfl, q⟩ := q1
 cases r1
 exact wpAny_truthy_bool ⟨H1, I1, q⟩
theorem ziO {e : Expr} {t : TE} (h : PE X e t) (he : ∀ whole, isTrue e X.env whole = (do let v ← whole; standAt e.pos; holding [v] (truthy v)) := by intro _; rfl) : PT X e (tB t) := by
 intro pins s σ H Q I hw
 refine isTrue_plain (thn (h pins s σ H _ I hw) fun v s1 ⟨x, H1, I1, r1, q1⟩ => ?_) (he _)
 obtain ⟨d, rfl, q⟩ := q1
 cases r1
 exact wpAny_truthy_bool ⟨H1, I1, q⟩
variable {tA tB' : TT} {rest : List Expr}
def tAnd (t u : TT) : TT := fun σ H Q => t σ H fun c H1 => if c = true then u σ H1 Q else Q false H1
def tOr (t u : TT) : TT := fun σ H Q => t σ H fun c H1 => if c = true then Q true H1 else u σ H1 Q
def tNot (t : TT) : TT := fun σ H Q => t σ H fun c H1 => Q (!c) H1
theorem zhh (ha : PT X a tA) : PW X (.BoolOp .And [a] pos) tA := by
 intro wh pins s σ H Q I h
 refine isTrue_and (thn (ha pins s σ H Q I h) fun c s1 e => ?_)
 cases c with
 | true => exact isTrue_and_nil e
 | false => exact e
theorem ziP (ha : PT X a tA) : PW X (.BoolOp .Or [a] pos) tA := by
 intro wh pins s σ H Q I h
 refine isTrue_or (thn (ha pins s σ H Q I h) fun c s1 e => ?_)
 cases c with
 | false => exact isTrue_or_nil e
 | true => exact e
theorem ziQ (ha : PT X a tA) (hb : PW X (.BoolOp .And (b :: rest) pos) tB') : PW X (.BoolOp .And (a :: b :: rest) pos) (tAnd tA tB') := by
 intro wh pins s σ H Q I h
 refine isTrue_and (thn (ha pins s σ H _ I h) fun c s1 ⟨H1, I1, q1⟩ => ?_)
 cases c with
 | true => exact hb wh pins s1 σ H1 Q I1 q1
 | false => exact ⟨H1, I1, q1⟩
theorem zkn (ha : PT X a tA) (hb : PW X (.BoolOp .Or (b :: rest) pos) tB') : PW X (.BoolOp .Or (a :: b :: rest) pos) (tOr tA tB') := by
 intro wh pins s σ H Q I h
 refine isTrue_or (thn (ha pins s σ H _ I h) fun c s1 ⟨H1, I1, q1⟩ => ?_)
 cases c with
 | true => exact ⟨H1, I1, q1⟩
 | false => exact hb wh pins s1 σ H1 Q I1 q1
theorem ziR (ha : PT X a tA) : PT X (.UnaryOp .Not a pos) (tNot tA) := by
 intro pins s σ H Q I h
 exact isTrue_not (ha pins s σ H (fun c H1 => Q (!c) H1) I h)
def tOrV (ta tb : TE) : TE := fun σ H Q => ta σ H fun x H1 => ∃ c, x = .bl c /\ if c = true then Q (.bl true) H1 else tb σ H1 Q
theorem ziS {op} {t : TE} (h : PE X a t) : PE X (.BoolOp op [a] pos) t := fun pins s σ H Q I hw => BoolOp_one (h pins s σ H Q I hw)
theorem zko (ha : PE X a ta) (hb : PE X (.BoolOp .Or (b :: rest) pos) tb) : PE X (.BoolOp .Or (a :: b :: rest) pos) (tOrV ta tb) := by
 intro pins s σ H Q I h
 refine BoolOp_or (thn (ha pins s σ H _ I h) fun v s1 ⟨x, H1, I1, r1, q1⟩ => ?_)
 obtain ⟨c, rfl, q1⟩ := q1
 cases r1
 refine wpAny_truthy_bool ?_
 cases c with
 | false => exact hb pins s1 σ H1 Q I1 q1
 | true => exact ⟨.bl true, H1, I1, rfl, q1⟩
end
end L2
namespace L2
open PySem PySem.Spec PyProof.Rows
def SqL (K : PySem.W.Frag) (H : Hp) (a : Addr) (xs : List V) : Prop :=
 Rd H a (.lst xs) ∨
  ∃ (o : Obj) (its : Array Value) (n : Nat), K.lookup a = some o /\ o.cls = .type "list" /\ o.dict = none /\ o.data = .seq its n /\ its.size <= sizeLine /\ Vals xs its.toList
def SqT (K : PySem.W.Frag) (H : Hp) (a : Addr) (xs : List V) : Prop :=
 Rd H a (.tup xs) ∨
  ∃ (o : Obj) (its : Array Value) (n : Nat), K.lookup a = some o /\ o.cls = .type "tuple" /\ o.data = .seq its n /\ its.size <= sizeLine /\ Vals xs its.toList
def absV : Value -> Option V
 | .none => some .non
 | .bool b => some (.bl b)
 | .int i _ => some (.int i)
 | .str x _ => some (.str x)
 | .bytes b _ => some (.byt b)
 | .float b _ => some (.flt b)
 | .ref a => some (.ref a)
 | .type n => some (.ty n)
 | _ => none
theorem RelV.abs {x : V} {u : Value} (r : RelV x u) : absV u = some x := by
 cases x with
 | non => cases r; rfl
 | bl _ => cases r; rfl
 | int _ => obtain ⟨t, rfl⟩ := r; rfl
 | str _ => obtain ⟨t, rfl⟩ := r; rfl
 | byt _ => obtain ⟨t, rfl⟩ := r; rfl
 | flt _ => obtain ⟨t, rfl⟩ := r; rfl
 | ref _ => cases r; rfl
 | ty _ => cases r; rfl
theorem RelV.inj {x y : V} {u : Value} (r : RelV x u) (q : RelV y u) : x = y := Option.some.inj (r.abs.symm.trans q.abs)
theorem Vals.inj : ∀ {xs ys : List V} {us : List Value}, Vals xs us -> Vals ys us -> xs = ys
 | _, _, _, .nil, .nil => rfl
 | _, _, _, .cons r t, .cons r' t' => by rw [r.inj r', Vals.inj t t']
section
variable {X : Cx} {pins : List (Addr × Obj)} {σ : St} {H : Hp} {s : Shared} {a : Addr} {xs ys : List V}
theorem SqL.of {K : PySem.W.Frag} (h : H a = some (.lst xs)) : SqL K H a xs := .inl (.inl h)
theorem SqT.of {K : PySem.W.Frag} (h : H a = some (.tup xs)) : SqT K H a xs := .inl (.inl h)
theorem Inv.list (I : Inv X pins σ H s) (h : SqL X.K H a xs) : ∃ its : List Value, Vals xs its /\ PlainL s.heap a its.toArray /\ xs.length <= sizeLine := by
 rcases h with h | ⟨o, its, n, hk, hc, hd, hs, hz, r⟩
 ·obtain ⟨z, its, n, r, e⟩ := h.ok I.hok
  exact ⟨its, r, ⟨_, n, e, rfl, rfl, rfl⟩, z⟩
 ·refine ⟨its.toList, r, ⟨o, n, I.kIn a o hk, hc, hd, by simpa using hs⟩, ?_⟩
  have e := r.length
  simp only [Array.length_toList] at e
  omega
theorem Inv.tuple (I : Inv X pins σ H s) (h : SqT X.K H a xs) : ∃ its : List Value, Vals xs its /\ IsTup s.heap a its.toArray /\ xs.length <= sizeLine := by
 rcases h with h | ⟨o, its, n, hk, hc, hs, hz, r⟩
 ·obtain ⟨z, its, r, p⟩ := h.ok I.hok
  exact ⟨its, r, p, z⟩
 ·refine ⟨its.toList, r, ⟨o, I.kIn a o hk, hc, n, by simpa using hs⟩, ?_⟩
  have e := r.length
  simp only [Array.length_toList] at e
  omega
theorem Inv.list_inj (I : Inv X pins σ H s) (h : SqL X.K H a xs) (h' : SqL X.K H a ys) : xs = ys := by
 obtain ⟨its, r, ⟨o, n, e, _, _, d⟩, _⟩ := I.list h
 obtain ⟨its', r', ⟨o', n', e', _, _, d'⟩, _⟩ := I.list h'
 rw [e] at e'; cases e'
 rw [d] at d'
 injection d' with d1 _
 have : its = its' := by simpa using congrArg Array.toList d1
 subst this
 exact r.inj r'
theorem Inv.tuple_inj (I : Inv X pins σ H s) (h : SqT X.K H a xs) (h' : SqT X.K H a ys) : xs = ys := by
 obtain ⟨its, r, ⟨o, e, _, n, d⟩, _⟩ := I.tuple h
 obtain ⟨its', r', ⟨o', e', _, n', d'⟩, _⟩ := I.tuple h'
 rw [e] at e'; cases e'
 rw [d] at d'
 injection d' with d1 _
 have : its = its' := by simpa using congrArg Array.toList d1
 subst this
 exact r.inj r'
end
abbrev Cx.wish (X : Cx) (E : Value -> Shared -> Prop) : Cx := { X with xe := E }
abbrev Cx.nox (X : Cx) : Cx := X.wish fun _ _ => False
theorem Cx.Ok.wish {X : Cx} (ok : X.Ok) (E : Value -> Shared -> Prop) : (X.wish E).Ok :=
 ⟨ok.mod, ok.kind, ok.glob, ok.blt, ok.above, ok.inj, ok.has, ok.cab, ok.hd, ok.frames, ok.stk, ok.exf, ok.bs, ok.bsz, ok.noex, ok.exfs, ok.funs, ok.frf⟩
theorem Cx.Ok.unwish {X : Cx} {E : Value -> Shared -> Prop} (ok : (X.wish E).Ok) : X.Ok :=
 ⟨ok.mod, ok.kind, ok.glob, ok.blt, ok.above, ok.inj, ok.has, ok.cab, ok.hd, ok.frames, ok.stk, ok.exf, ok.bs, ok.bsz, ok.noex, ok.exfs, ok.funs, ok.frf⟩
section
variable {X : Cx} {pins : List (Addr × Obj)} {σ : St} {H : Hp} {s : Shared} {E : Value -> Shared -> Prop}
theorem Inv.wish (I : Inv X pins σ H s) (E : Value -> Shared -> Prop) : Inv (X.wish E) pins σ H s := ⟨I.ok.wish E, I.os, I.bare, I.base, I.loc, I.cell, I.free, I.freeC, I.pin, I.hok, I.len⟩
theorem Inv.unwish (I : Inv (X.wish E) pins σ H s) : Inv X pins σ H s := ⟨I.ok.unwish, I.os, I.bare, I.base, I.loc, I.cell, I.free, I.freeC, I.pin, I.hok, I.len⟩
theorem SP.unwish {D : Ends} {f : Flow} {s' : Shared} (h : SP (X.wish E) pins D f s') : SP X pins D f s' := by
 cases f with
 | next => obtain ⟨σ', H', I, q⟩ := h; exact ⟨σ', H', I.unwish, q⟩
 | brk => obtain ⟨σ', H', I, q⟩ := h; exact ⟨σ', H', I.unwish, q⟩
 | cont => obtain ⟨σ', H', I, q⟩ := h; exact ⟨σ', H', I.unwish, q⟩
 | ret u => obtain ⟨v, σ', H', I, r, q⟩ := h; exact ⟨v, σ', H', I.unwish, r, q⟩
theorem PSs.nox {st : List Stmt} {t : TS} (h : PSs X.nox st t) : PSs X st t := fun pins s σ H D I hw =>
 wpAny_mono (h pins s σ H D (I.wish _) hw) (fun _ _ q => q.unwish) fun _ _ z => False.elim z
end
section
variable {X : Cx} {st : Stmt} {rest : List Stmt} {t u : TS} {e : Expr} {te : TE} {pos : Pos}
def zkp : TS := fun D σ H => D.nx σ H
def tSeq (t u : TS) : TS := fun D σ H => t { D with nx := u D } σ H
theorem zhi : PSs X [] zkp := fun _ _ σ H _ I h => wpAny_execs_nil ⟨σ, H, I, h⟩
theorem zdF (h1 : PS X st t) (h2 : PSs X rest u) : PSs X (st :: rest) (tSeq t u) := by
 intro pins s σ H D I h
 refine wpAny_execs_cons (thn (h1 pins s σ H { D with nx := u D } I h) fun f s1 q => ?_)
 cases f with
 | next =>
  obtain ⟨σ', H', I', q⟩ := q
  exact h2 pins s1 σ' H' D I' q
 | ret v => exact q
 | brk => exact q
 | cont => exact q
theorem zdk (h1 : PS X st t) : PSs X [st] t := by
 intro pins s σ H D I h
 refine wpAny_execs_cons (thn (h1 pins s σ H D I h) fun f s1 q => ?_)
 cases f with
 | next => exact wpAny_execs_nil q
 | ret v => exact q
 | brk => exact q
 | cont => exact q
theorem Inv.quiet {pins : List (Addr × Obj)} {σ : St} {H : Hp} {s : Shared} (I : Inv X pins σ H s) : interactive X.env = false := by simp [interactive, I.ok.kind]
def zhj (te : TE) : TS := fun D σ H => te σ H fun _ H1 => D.nx σ H1
theorem zdl (he : PE X e te) (hs : swapsWith e none pos.line X.env = pure false := by rfl) : PS X (.Expr e pos) (zhj te) := by
 intro pins s σ H D I h
 exact wpAny_Expr_any (thn (he pins s σ H _ I h) fun v s1 ⟨x, H1, I1, r1, q1⟩ => ⟨σ, H1, I1, q1⟩) I.quiet hs
def tRet (te : TE) : TS := fun D σ H => te σ H D.rt
theorem ziT (he : PE X e te) : PS X (.Return (some e) pos) (tRet te) := by
 intro pins s σ H D I h
 exact wpAny_Return_some (thn (he pins s σ H _ I h) fun v s1 ⟨x, H1, I1, r1, q1⟩ => ⟨x, σ, H1, I1, r1, q1⟩)
def tIfS (c : TT) (t u : TS) : TS := fun D σ H => c σ H fun b H1 => if b = true then t D σ H1 else u D σ H1
theorem zkq {c : Expr} {a b : List Stmt} {tc : TT} (hc : PT X c tc) (ha : PSs X a t) (hb : PSs X b u) : PS X (.If c a b pos) (tIfS tc t u) := by
 intro pins s σ H D I h
 refine wpAny_If (thn (hc pins s σ H _ I h) fun d s1 ⟨H1, I1, q1⟩ => ?_)
 cases d with
 | true => exact ha pins s1 σ H1 D I1 q1
 | false => exact hb pins s1 σ H1 D I1 q1
end
abbrev TG := V -> St -> Hp -> (St -> Hp -> Prop) -> Prop
abbrev TGs := List V -> St -> Hp -> (St -> Hp -> Prop) -> Prop
def PG (X : Cx) (target : Expr) (t : TG) : Prop :=
 ∀ (pins : List (Addr × Obj)) (s : Shared) (σ : St) (H : Hp) (v : V) (u : Value) (Q : St -> Hp -> Prop), Inv X pins σ H s -> RelV v u -> t v σ H Q ->
  wpAny (model X.prog X.w) X.A (assign target X.env u) (fun _ s' => ∃ σ' H', Inv X pins σ' H' s' /\ Q σ' H') X.xe s
def PGs (X : Cx) (ts : List Expr) (t : TGs) : Prop :=
 ∀ (pins : List (Addr × Obj)) (s : Shared) (σ : St) (H : Hp) (vs : List V) (us : List Value) (Q : St -> Hp -> Prop), Inv X pins σ H s -> Vals vs us -> t vs σ H Q ->
  wpAny (model X.prog X.w) X.A (assignInOrder ((assignEach ts X.env).map (·.2)) us) (fun _ s' => ∃ σ' H', Inv X pins σ' H' s' /\ Q σ' H') X.xe s
section
variable {X : Cx} {pos : Pos}
def zhk (i : Nat) : TG := fun v σ H Q => Q (σ.set i (some v)) H
theorem zbe {i : Nat} {x : Str} (hN : X.N.Nodup) (hi : X.N[i]? = some x) (hx : Loc X.env.scope x) (hf : X.fn x = true ∨ X.env.scope.names.lookup x = some .local := by first | exact .inl rfl | exact .inr rfl | assumption) : PG X (.Name x pos) (zhk i) := by
 intro pins s σ H v u Q I r h
 exact wpAny_assign_Name (zdE I hN hi hx r (fun s' I' => ⟨_, H, I', h⟩) hf)
def gNil : TGs := fun vs σ H Q => vs = [] /\ Q σ H
def zkr (t : TG) (u : TGs) : TGs := fun vs σ H Q => ∃ v r, vs = v :: r /\ t v σ H fun σ' H' => u r σ' H' Q
theorem zhl : PGs X [] gNil := by
 intro pins s σ H vs us Q I r h
 obtain ⟨e, h⟩ := h
 subst e
 cases r
 exact assignInOrder_nil ⟨σ, H, I, h⟩
theorem zfN {e : Expr} {es : List Expr} {t : TG} {u : TGs} (h1 : PG X e t) (h2 : PGs X es u)
  (hs : (assignEach (e :: es) X.env).map (·.2) = assign e X.env :: (assignEach es X.env).map (·.2) := by rfl) : PGs X (e :: es) (zkr t u) := by
 intro pins s σ H vs us Q I r h
 obtain ⟨v, vr, e1, h⟩ := h
 subst e1
 cases r with
 | cons r rr =>
  rw [hs]
  refine assignInOrder_cons (thn (h1 pins s σ H _ _ _ I r h) fun _ s1 ⟨σ1, H1, I1, q1⟩ => ?_)
  exact h2 pins s1 σ1 H1 _ _ Q I1 rr q1
def gTup (K : PySem.W.Frag) (n : Nat) (t : TGs) : TG := fun v σ H Q => ∃ a xs, v = .ref a /\ SqT K H a xs /\ xs.length = n /\ t xs σ H Q
theorem ziU {es : List Expr} {k : Nat} {t : TGs} {n : Nat} (hc : X.calm = true) (h : PGs X es t)
  (hn : (assignEach es X.env).length = n := by rfl) (hst : (assignEach es X.env).findIdx? (·.1) = none := by rfl) : PG X (.Tuple es k pos) (gTup X.K n t) := by
 intro pins s σ H v u Q I r hw
 obtain ⟨a, xs, e1, hq, hl, hw⟩ := hw
 subst e1
 cases r
 obtain ⟨its, rv, ht, hz⟩ := I.tuple hq
 refine assign_Tuple_tuple (I.ok.hd hc) ht (by simp [hn, ← hl, rv.length]) hst fun h' hx => ?_
 have I1 : Inv X pins σ H { s with heap := h' } := I.kept (t' := s.toks) fun b o e => hx b o (Nat.ne_of_lt (Heap.lt_size e)) e
 exact h pins _ σ H xs _ Q I1 (by simpa using rv) hw
def tAsg (te : TE) (g : TG) : TS := fun D σ H => te σ H fun x H1 => g x σ H1 D.nx
theorem ziV {tg e : Expr} {te : TE} {g : TG} (he : PE X e te) (hg : PG X tg g) (hs : swapsWithSole [tg] e pos.line X.env = pure false := by rfl) (hw : swappedStores [tg] e X.env = pure none := by rfl)
  (h1 : (assignEach [tg] X.env).map (·.2) = [assign tg X.env] := by rfl) : PS X (.Assign [tg] e pos) (tAsg te g) := by
 intro pins s σ H D I h
 refine wpAny_Assign_stores (thn (he pins s σ H _ I h) fun v s1 ⟨x, H1, I1, r1, q1⟩ => ?_) hs hw
 rw [h1]
 exact thn (hg pins s1 σ H1 x v _ I1 r1 q1) fun _ s2 q => q
theorem zex {i : Nat} {x : Str} {e : Expr} {te : TE} {pos' : Pos} (hN : X.N.Nodup) (hi : X.N[i]? = some x) (hx : Loc X.env.scope x) (he : PE X e te) (hs : swapsWith e (some (.Name x pos')) pos.line X.env = pure false := by rfl) (hf : X.fn x = true ∨ X.env.scope.names.lookup x = some .local := by first | exact .inl rfl | exact .inr rfl | assumption) :
  PS X (.Assign [.Name x pos'] e pos) (tAsg te (zhk i)) := by
 intro pins s σ H D I h
 refine wpAny_Assign_Name (thn (he pins s σ H _ I h) fun v s1 ⟨y, H1, I1, r1, q1⟩ => ?_) hs
 exact zdE I1 hN hi hx r1 (fun s2 I2 => ⟨_, H1, I2, q1⟩) hf
end
section
variable {X : Cx} {pos : Pos}
end
structure It where
 go : Nat -> Hp -> Prop
 yld : Nat -> Hp -> V -> Hp -> Prop
 stop : Nat -> Hp -> Prop
def FpOk (X : Cx) (pins : List (Addr × Obj)) (H : Hp) (b : Addr) : Prop :=
 H b = none /\ b ≠ X.env.locals /\ b ∉ X.fs /\ (b ∈ X.ex ∨ X.s₀.heap.objs.size <= b) /\ (∀ x c, X.env.cells.lookup x = some c -> c ≠ b) /\ ∀ p ∈ X.pn ++ pins, p.1 ≠ b
theorem Inv.fpOk {X : Cx} {pins : List (Addr × Obj)} {σ : St} {H H' : Hp} {s : Shared} {b : Addr} (I : Inv X pins σ H s) (hb : s.heap.objs.size <= b) (hn : H' b = none) : FpOk X pins H' b := by
 refine ⟨hn, Nat.ne_of_gt (Nat.lt_of_lt_of_le I.lt hb), I.nofs hb, .inr (Nat.le_trans I.sz hb), fun x c e z => ?_, fun p hp z => ?_⟩
 ·obtain ⟨v, q⟩ := I.cell x c e
  exact absurd (Nat.lt_of_lt_of_le q.lt (by rw [z]; exact hb)) (Nat.lt_irrefl _)
 ·exact absurd (Nat.lt_of_lt_of_le (Heap.lt_size (I.pin p hp).1) (by rw [z]; exact hb)) (Nat.lt_irrefl _)
structure Turn (P : Program) (w : World) (K : PySem.W.Frag) (tg : Expr) (J : It) (fp : List Addr) (it : Addr) (tn : Nat -> Heap -> Prop) : Prop where
 mem : it ∈ fp
 obj : ∀ i h, tn i h -> ∀ b ∈ fp, ∃ o, h.get? b = some o /\ ∀ v, o.data ≠ .cell v
 keep : ∀ i h h', tn i h -> (∀ b ∈ fp, ∀ o, h.get? b = some o -> h'.get? b = some o) -> tn i h'
 item : ∀ (X : Cx), X.prog = P -> X.w = w -> X.K = K -> X.calm = true -> ∀ (i : Nat) (pins : List (Addr × Obj)) (s : Shared) (σ : St) (H : Hp) (E : Value -> Shared -> Prop), Inv X pins σ H s -> (∀ b ∈ fp, FpOk X pins H b) -> tn i s.heap -> J.go i H ->
  wpAny (model P w) X.A (pyNext (.ref it)) (fun r s1 => ∃ u, r = some u /\
   wpAny (model P w) X.A (letOwnedTupleGo tg (.ref it) u) (fun _ s2 => ∃ x H', Inv X pins σ H' s2 /\ RelV x u /\ J.yld i H x H' /\ tn (i + 1) s2.heap /\ ∀ b ∈ fp, H' b = none) E s1) E s
 done : ∀ (X : Cx), X.prog = P -> X.w = w -> X.K = K -> X.calm = true -> ∀ (i : Nat) (pins : List (Addr × Obj)) (s : Shared) (σ : St) (H : Hp) (E : Value -> Shared -> Prop), Inv X pins σ H s -> (∀ b ∈ fp, FpOk X pins H b) -> tn i s.heap -> J.stop i H ->
  wpAny (model P w) X.A (pyNext (.ref it)) (fun r s1 => r = none /\ Inv X pins σ H s1) E s
 self : ∀ (A : Around) (i : Nat) (s : Shared) (Q : Value -> Shared -> Prop) (E : Value -> Shared -> Prop), tn i s.heap -> Q (.ref it) s -> wpAny (model P w) A (pyIter (.ref it)) Q E s
abbrev TI := St -> Hp -> (It -> Hp -> Prop) -> Prop
def PIE (X : Cx) (pins : List (Addr × Obj)) (σ : St) (tg : Expr) (R : It -> Hp -> Prop) (itv : Value) (s2 : Shared) : Prop :=
 ∃ (it : Addr) (fp : List Addr) (tn : Nat -> Heap -> Prop) (J : It) (H' : Hp), itv = .ref it /\ Inv X pins σ H' s2 /\ Turn X.prog X.w X.K tg J fp it tn /\ tn 0 s2.heap /\ (∀ b ∈ fp, FpOk X pins H' b) /\ R J H'
def PI (X : Cx) (tg iter : Expr) (wi : TI) : Prop :=
 ∀ (pins : List (Addr × Obj)) (s : Shared) (σ : St) (H : Hp) (R : It -> Hp -> Prop), Inv X pins σ H s -> wi σ H R ->
  wpAny (model X.prog X.w) X.A (eval iter X.env) (fun v s1 => wpAny (model X.prog X.w) X.A (pyIter v) (PIE X pins σ tg R) X.xe s1) X.xe s
theorem zfO {M : Model} {A : Around} {E : Value -> Shared -> Prop} {s : Shared} {tg : Expr} {it : Addr} {u : Value} {o : Obj} {n : String} {vs : Array Value} {Q : Unit -> Shared -> Prop} (ho : s.heap.get? it = some o) (hc : o.cls = .type n) (hd : o.data = .fields vs)
  (hn : ["enumerate", "zip", "dict_itemiterator", "dict_reverseitemiterator", "odict_iterator", "itertools.zip_longest", "itertools.pairwise"].contains n = false) (hQ : Q () s) : wpAny M A (letOwnedTupleGo tg (.ref it) u) Q E s := by
 unfold letOwnedTupleGo
 cases tg <;> first
  | exact wpAny_pure hQ
  | (cases u <;> first
    | exact wpAny_pure hQ
    | (
      refine wpAny_bind (wpAny_load ho ?_)
      rw [hc, hd]
      show wpAny M A (if (["enumerate", "zip", "dict_itemiterator", "dict_reverseitemiterator", "odict_iterator", "itertools.zip_longest", "itertools.pairwise"].contains n && vs[0]? == some (rawInt _)) = true then _ else _) Q E s
      rw [if_neg (by intro h; rw [hn, Bool.false_and] at h; cases h)]
      exact wpAny_pure hQ))
def Itl (K : PySem.W.Frag) (a : Addr) : It :=
 ⟨fun i H => ∃ xs x, SqL K H a xs /\ xs[i]? = some x, fun i H x H' => H' = H /\ ∀ xs, SqL K H a xs -> xs[i]? = some x, fun i H => ∃ xs, SqL K H a xs /\ xs.length <= i⟩
def Itt (K : PySem.W.Frag) (a : Addr) : It :=
 ⟨fun i H => ∃ xs x, SqT K H a xs /\ xs[i]? = some x, fun i H x H' => H' = H /\ ∀ xs, SqT K H a xs -> xs[i]? = some x, fun i H => ∃ xs, SqT K H a xs /\ xs.length <= i⟩
def Itr (lo : Int) (n : Nat) : It := ⟨fun i _ => i < n, fun i H x H' => H' = H /\ x = .int (lo + i), fun i _ => n <= i⟩
theorem zey {P : Program} {w : World} {K : PySem.W.Frag} {tg : Expr} (a it : Addr) : Turn P w K tg (Itl K a) [it] it (fun i h => h.IsListIter it a i) where
 mem := by simp
 obj := fun i h st b hb => by
  have e : b = it := by simpa using hb
  subst e
  obtain ⟨o, e, c, d⟩ := st
  exact ⟨o, e, fun v z => by rw [d] at z; cases z⟩
 keep := fun i h h' st k => st.at fun o e => k it (by simp) o e
 item := by
  intro X hP hw hK hc i pins s σ H E I hf st hg
  subst hP hw hK
  obtain ⟨xs, x, hq, hx⟩ := hg
  obtain ⟨its, rv, p, hz⟩ := I.list hq
  obtain ⟨u, hu, ru⟩ := rv.get hx
  obtain ⟨f0, f1, f2, f3, f4, f5⟩ := hf it (by simp)
  refine wpAny_pyNext_list_item st p.isList (x := u) (by simpa using hu) fun h' st' sb => ?_
  have I1 : Inv X pins σ H { s with heap := h' } := I.turned (t' := s.toks) (fun b o hb e => (sb.2 b hb).trans e) f0 f1 f3 f4 f5
  obtain ⟨o, e, c, d⟩ := id st'
  exact ⟨u, rfl, zfO (s := { s with heap := h' }) e c d (by decide) ⟨x, H, I1, ru, ⟨rfl, fun ys hy => by rw [I.list_inj hy hq]; exact hx⟩, st', fun b hb => (hf b hb).1⟩⟩
 done := by
  intro X hP hw hK hc i pins s σ H E I hf st hg
  subst hP hw hK
  obtain ⟨xs, hq, hx⟩ := hg
  obtain ⟨its, rv, p, hz⟩ := I.list hq
  obtain ⟨f0, f1, f2, f3, f4, f5⟩ := hf it (by simp)
  have hl := rv.length
  exact wpAny_pyNext_list_end (I.ok.hd hc) st p.isList (by simp; omega) fun h' eb => ⟨rfl, I.turned (t' := s.toks) (fun b o hb e => eb b o hb e) f0 f1 f3 f4 f5⟩
 self := fun _ _ _ _ _ st h => wpAny_pyIter_listiter st h
theorem zd5 {P : Program} {w : World} {K : PySem.W.Frag} {tg : Expr} (a it : Addr) : Turn P w K tg (Itt K a) [it] it (fun i h => h.IsTupleIter it a i) where
 mem := by simp
 obj := fun i h st b hb => by
  have e : b = it := by simpa using hb
  subst e
  obtain ⟨o, e, c, d⟩ := st
  exact ⟨o, e, fun v z => by rw [d] at z; cases z⟩
 keep := fun i h h' st k => st.at fun o e => k it (by simp) o e
 item := by
  intro X hP hw hK hc i pins s σ H E I hf st hg
  subst hP hw hK
  obtain ⟨xs, x, hq, hx⟩ := hg
  obtain ⟨its, rv, p, hz⟩ := I.tuple hq
  obtain ⟨u, hu, ru⟩ := rv.get hx
  obtain ⟨f0, f1, f2, f3, f4, f5⟩ := hf it (by simp)
  refine wpAny_pyNext_tuple_item st (show s.heap.IsTuple a its.toArray from p) (x := u) (by simpa using hu) fun h' st' sb => ?_
  have I1 : Inv X pins σ H { s with heap := h' } := I.turned (t' := s.toks) (fun b o hb e => (sb.2 b hb).trans e) f0 f1 f3 f4 f5
  obtain ⟨o, e, c, d⟩ := id st'
  exact ⟨u, rfl, zfO (s := { s with heap := h' }) e c d (by decide) ⟨x, H, I1, ru, ⟨rfl, fun ys hy => by rw [I.tuple_inj hy hq]; exact hx⟩, st', fun b hb => (hf b hb).1⟩⟩
 done := by
  intro X hP hw hK hc i pins s σ H E I hf st hg
  subst hP hw hK
  obtain ⟨xs, hq, hx⟩ := hg
  obtain ⟨its, rv, p, hz⟩ := I.tuple hq
  obtain ⟨f0, f1, f2, f3, f4, f5⟩ := hf it (by simp)
  have hl := rv.length
  exact wpAny_pyNext_tuple_end (I.ok.hd hc) st (show s.heap.IsTuple a its.toArray from p) (by simp; omega) fun h' eb => ⟨rfl, I.turned (t' := s.toks) (fun b o hb e => eb b o hb e) f0 f1 f3 f4 f5⟩
 self := fun _ _ _ _ _ st h => wpAny_pyIter_tupleiter st h
theorem zd6 {P : Program} {w : World} {K : PySem.W.Frag} {tg : Expr} (it : Addr) (lo : Int) (n : Nat) : Turn P w K tg (Itr lo n) [it] it (fun i h => IsRangeIter h it (lo + (i : Nat) * 1) ((n : Int) - (i : Nat)) 1) where
 mem := by simp
 obj := fun i h st b hb => by
  have e : b = it := by simpa using hb
  subst e
  exact ⟨_, st, fun v z => by
   have z' : Data.fields _ = Data.cell v := z
   cases z'⟩
 keep := fun i h h' st k => k it (by simp) _ st
 item := by
  intro X hP hw hK hc i pins s σ H E I hf st hg
  subst hP hw hK
  obtain ⟨f0, f1, f2, f3, f4, f5⟩ := hf it (by simp)
  have W := Walks.range (prog := X.prog) (w := X.w) (I.ok.hd hc) it lo 1 n
  refine W.item i s _ _ hg st fun v h' tk hv st' kk => ?_
  obtain ⟨t, rfl⟩ := hv
  have I1 : Inv X pins σ H { s with heap := h', toks := tk } := I.turned (fun b o hb e => kk b o (by simpa using hb) e) f0 f1 f3 f4 f5
  refine ⟨_, rfl, zfO (s := { s with heap := h', toks := tk }) (n := "range_iterator") st' rfl rfl (by decide) ⟨.int (lo + i), H, I1, ⟨t, ?_⟩, ⟨rfl, rfl⟩, st', fun b hb => (hf b hb).1⟩⟩
  rw [Int.mul_one]
 done := by
  intro X hP hw hK hc i pins s σ H E I hf st hg
  subst hP hw hK
  obtain ⟨f0, f1, f2, f3, f4, f5⟩ := hf it (by simp)
  exact wpAny_pyNext_range_end (I.ok.hd hc) st (by have : n <= i := hg; omega) fun h' eb => ⟨rfl, I.turned (t' := s.toks) (fun b o hb e => eb b o hb e) f0 f1 f3 f4 f5⟩
 self := fun _ _ _ _ _ st h => wpAny_pyIter_rangeiter st h
end L2
namespace L2
open PySem PySem.Spec PyProof.Rows
section
variable {X : Cx} {tg : Expr}
theorem zfP {pins : List (Addr × Obj)} {σ : St} {H : Hp} {s : Shared} {R : It -> Hp -> Prop} {E : Value -> Shared -> Prop} {lo hi : Int} {t u v : Tok} {tk : Nat} (I : Inv X pins σ H s) (h1 : -(2 ^ 62) <= lo) (h2 : lo < 2 ^ 62) (h3 : -(2 ^ 62) <= hi) (h4 : hi < 2 ^ 62)
  (q : R (Itr lo (hi - lo).toNat) H) : wpAny (model X.prog X.w) X.A (pyIter (.ref s.heap.objs.size)) (PIE X pins σ tg R) E { s with heap := s.heap.push { cls := .type "range", data := .fields #[.int lo t, .int hi u, .int 1 v] }, toks := tk } := by
 refine wpAny_pyIter_range (IsRange.new ..) (small_one h1 h2 h3 h4) ?_
 have I1 : Inv X pins σ H { s with heap := s.heap.push { cls := .type "range", data := .fields #[.int lo t, .int hi u, .int 1 v] }, toks := tk } := I.kept fun b o e => Heap.get?_push_of_some _ e
 refine ⟨(s.heap.push { cls := .type "range", data := .fields #[.int lo t, .int hi u, .int 1 v] }).objs.size, [(s.heap.push { cls := .type "range", data := .fields #[.int lo t, .int hi u, .int 1 v] }).objs.size], _, _, H, rfl,
  I1.kept (t' := tk) fun b o e => Heap.get?_push_of_some _ e, zd6 _ lo (hi - lo).toNat, ?_, fun b hb => ?_, q⟩
 ·have e1 : lo + ((0 : Nat) : Int) * 1 = lo := by simp
  have e2 : (((hi - lo).toNat : Nat) : Int) - ((0 : Nat) : Int) = Builtin.Range.rangeSize lo hi 1 := by rw [rangeSize_one]; split <;> omega
  show IsRangeIter _ _ (lo + ((0 : Nat) : Int) * 1) ((((hi - lo).toNat : Nat) : Int) - ((0 : Nat) : Int)) 1
  rw [e1, e2]
  exact Heap.get?_push_size _ rfl
 ·have e : b = (s.heap.push { cls := .type "range", data := .fields #[.int lo t, .int hi u, .int 1 v] }).objs.size := by simpa using hb
  subst e
  exact I1.fpOk (Nat.le_refl _) (I1.hok.fresh (Nat.le_refl _))
def zks (ta : TA) : TI := fun σ H R => ta σ H fun vs H1 => ∃ j : Int, vs = [.int j] /\ -(2 ^ 62) <= j /\ j < 2 ^ 62 /\ R (Itr 0 j.toNat) H1
theorem zez {a : Expr} {ta : TA} {p pos : Pos} (hg : Gl X "range") (hm : X.mg "range" = none) (ha : PA X [a] ta) (hs : starEach [a] X.env = [(false, eval a X.env)] := by rfl) : PI X tg (.Call (.Name "range" p) [a] [] pos) (zks ta) := by
 intro pins s σ H R I h
 refine Call_ (zco I hg hm boot_range (PyProof.Rows.callWith_type1 (thn (ha pos pins s σ H _ I h) fun us s1 ⟨vs, H1, I1, r1, q1⟩ => ?_) hs rfl))
 obtain ⟨j, e, q1, q2, q⟩ := q1
 subst e
 cases r1 with
 | cons r rr =>
  cases rr
  obtain ⟨t, rfl⟩ := r
  exact call_range_1 (zfP I1 (by omega) (by omega) q1 q2 (by simpa using q))
def tFor (wi : TI) (g : TG) (tb : TS) : TS := fun D σ H => wi σ H fun J H1 => ∃ W : Nat -> Nat -> St -> Hp -> Prop, (∃ m, W 0 m σ H1) /\ ∀ i m σ H, W i m σ H ->
 (J.stop i H /\ D.nx σ H) ∨ (J.go i H /\ ∃ N : St -> Hp -> Prop, (∀ σ' H', N σ' H' -> ∃ m', m' < m /\ W (i + 1) m' σ' H') /\ ∀ x H', J.yld i H x H' -> g x σ H' fun σ2 H2 => tb { D with nx := N, ct := N, bk := D.nx } σ2 H2)
def zcQ (fp : List Addr) (h : Heap) : List (Addr × Obj) := fp.filterMap fun b => (h.get? b).map fun o => (b, o)
theorem zbr {fp : List Addr} {h : Heap} {b : Addr} {o : Obj} (hb : b ∈ fp) (e : h.get? b = some o) : (b, o) ∈ zcQ fp h := List.mem_filterMap.mpr ⟨b, hb, by rw [e]; rfl⟩
theorem zeA {fp : List Addr} {h : Heap} {p : Addr × Obj} (hp : p ∈ zcQ fp h) : p.1 ∈ fp /\ h.get? p.1 = some p.2 := by
 obtain ⟨b, hb, e⟩ := List.mem_filterMap.mp hp
 cases q : h.get? b with
 | none => rw [q] at e; cases e
 | some o =>
  rw [q] at e
  have e' : (b, o) = p := Option.some.inj e
  subst e'
  exact ⟨hb, q⟩
theorem Inv.pinned {pins : List (Addr × Obj)} {σ : St} {H : Hp} {s : Shared} {fp : List Addr} (I : Inv X pins σ H s) (hf : ∀ b ∈ fp, FpOk X pins H b) (ho : ∀ b ∈ fp, ∃ o, s.heap.get? b = some o /\ ∀ v, o.data ≠ .cell v) : Inv X (pins ++ zcQ fp s.heap) σ H s :=
 I.pins_of fun p hp => (List.mem_append.mp hp).elim (fun z => I.pin p (List.mem_append_right _ z)) fun z => by
  obtain ⟨hb, e⟩ := zeA z
  obtain ⟨f0, f1, f2, _⟩ := hf p.1 hb
  obtain ⟨o, e', d⟩ := ho p.1 hb
  rw [e] at e'; cases e'
  exact ⟨e, f0, f1, f2, d⟩
theorem Inv.unpinned {pins pl : List (Addr × Obj)} {σ : St} {H : Hp} {s : Shared} (I : Inv X (pins ++ pl) σ H s) : Inv X pins σ H s := I.pins_of fun p hp => I.pin p (List.mem_append_right _ (List.mem_append_left _ hp))
theorem ziW {iter : Expr} {body : List Stmt} {wi : TI} {g : TG} {tb : TS} {pos : Pos} (hp : PassesOwn (model X.prog X.w) X.A X.env X.xe) (hc : X.calm = true) (hi : PI X tg iter wi) (hg : PG X tg g) (hb : PSs X body tb)
  (hs : ∀ x, foldedSetIterable iter X.env x = pure x := by intro _; rfl) : PS X (.For tg iter body [] pos) (tFor wi g tb) := by
 intro pins s σ H D I h
 refine wpAny_For (thn (hi pins s σ H _ I h) fun v s1 h1 => thn h1 fun itv s2 h2 => ?_) hs
 obtain ⟨it, fp, tn, J, H2, e, I2, T, st2, f2, W, ⟨m0, w0⟩, turn⟩ := h2
 subst e
 have stat : ∀ {H' : Hp}, (∀ b ∈ fp, H' b = none) -> ∀ b ∈ fp, FpOk X pins H' b := fun hn b hb => ⟨hn b hb, (f2 b hb).2⟩
 refine codeAny_forLoop_any (fun n s' => ∃ i σ' H', Inv X pins σ' H' s' /\ tn i s'.heap /\ (∀ b ∈ fp, H' b = none) /\ W i n σ' H') ?_ m0 ⟨0, σ, H2, I2, st2, fun b hb => (f2 b hb).1, w0⟩
 rintro n s3 ⟨i, σ3, H3, I3, st3, fr3, w3⟩
 rcases turn i n σ3 H3 w3 with ⟨stop, qn⟩ | ⟨go, N, hN, step⟩
 ·refine wpAny_passesOwn hp (thn (T.done X rfl rfl rfl hc i pins s3 σ3 H3 X.xe I3 (stat fr3) st3 stop) fun r s4 ⟨hr, I4⟩ => ?_)
  subst hr
  exact wpAny_execs_nil ⟨σ3, H3, I4, qn⟩
 ·refine wpAny_passesOwn hp (thn (T.item X rfl rfl rfl hc i pins s3 σ3 H3 X.xe I3 (stat fr3) st3 go) fun r s4 ⟨u, hr, h4⟩ => ?_)
  subst hr
  refine wpAny_passesOwn hp (thn h4 fun _ s5 ⟨x, H5, I5, r5, y5, st5, fr5⟩ => ?_)
  have I5' := I5.pinned (stat fr5) (T.obj _ _ st5)
  refine wpAny_passesOwn hp (thn (hg _ s5 σ3 H5 x u _ I5' r5 (step x H5 y5)) fun _ s6 ⟨σ6, H6, I6, q6⟩ => ?_)
  refine wpAny_passesOwn hp (thn (hb _ s6 σ6 H6 _ I6 q6) fun f s7 q7 => ?_)
  have again : ∀ {σ7 : St} {H7 : Hp}, Inv X (pins ++ zcQ fp s5.heap) σ7 H7 s7 -> N σ7 H7 -> ∃ m, m < n /\ ∃ i σ' H', Inv X pins σ' H' s7 /\ tn i s7.heap /\ (∀ b ∈ fp, H' b = none) /\ W i m σ' H' := fun {σ7 H7} I7 n7 => by
   obtain ⟨m', hm, w7⟩ := hN σ7 H7 n7
   refine ⟨m', hm, i + 1, σ7, H7, I7.unpinned, T.keep _ _ _ st5 fun b hb o e => (I7.pin (b, o) (List.mem_append_right _ (List.mem_append_right _ (zbr hb e)))).1, fun b hb => ?_, w7⟩
   obtain ⟨o, e, d⟩ := T.obj _ _ st5 b hb
   exact (I7.pin (b, o) (List.mem_append_right _ (List.mem_append_right _ (zbr hb e)))).2.1
  cases f with
  | next => obtain ⟨σ7, H7, I7, n7⟩ := q7; exact again I7 n7
  | cont => obtain ⟨σ7, H7, I7, n7⟩ := q7; exact again I7 n7
  | brk => obtain ⟨σ7, H7, I7, q7⟩ := q7; exact ⟨σ7, H7, I7.unpinned, q7⟩
  | ret v => obtain ⟨x7, σ7, H7, I7, r7, q7⟩ := q7; exact ⟨x7, σ7, H7, I7.unpinned, r7, q7⟩
end
end L2
namespace L2
open PySem PySem.Spec PyProof.Rows
abbrev R2 := V -> V -> Hp -> VK -> Prop
def OpR (X : Cx) (f : Value -> Value -> Sem Value) (r : R2) : Prop :=
 ∀ (pins : List (Addr × Obj)) (s : Shared) (σ : St) (H : Hp) (x y : V) (v u : Value) (Q : VK), Inv X pins σ H s -> RelV x v -> RelV y u -> r x y H Q ->
  wpAny (model X.prog X.w) X.A (f v u) (EP X pins σ Q) X.xe s
def UnR (X : Cx) (f : Value -> Sem Value) (r : V -> Hp -> VK -> Prop) : Prop :=
 ∀ (pins : List (Addr × Obj)) (s : Shared) (σ : St) (H : Hp) (x : V) (v : Value) (Q : VK), Inv X pins σ H s -> RelV x v -> r x H Q ->
  wpAny (model X.prog X.w) X.A (f v) (EP X pins σ Q) X.xe s
def zcl (X : Cx) (f : Value) (r : List V -> Hp -> VK -> Prop) : Prop :=
 ∀ (pins : List (Addr × Obj)) (s : Shared) (σ : St) (H : Hp) (xs : List V) (us : List Value) (Q : VK), Inv X pins σ H s -> Vals xs us -> r xs H Q ->
  wpAny (model X.prog X.w) X.A (call f us) (EP X pins σ Q) X.xe s
def tOp (r : R2) (ta tb : TE) : TE := fun σ H Q => ta σ H fun x H1 => tb σ H1 fun y H2 => r x y H2 Q
def tUn (r : V -> Hp -> VK -> Prop) (ta : TE) : TE := fun σ H Q => ta σ H fun x H1 => r x H1 Q
def rI (C : Int -> Int -> Prop) (g : Int -> Int -> V) : R2 := fun x y H Q => ∃ i j, x = .int i /\ y = .int j /\ C i j /\ Q (g i j) H
def rI0 (g : Int -> Int -> V) : R2 := fun x y H Q => ∃ i j, x = .int i /\ y = .int j /\ Q (g i j) H
def rU (g : Int -> V) : V -> Hp -> VK -> Prop := fun x H Q => ∃ i, x = .int i /\ Q (g i) H
section
variable {X : Cx} {a b c : Expr} {ta tb tc : TE} {pos : Pos}
theorem binT (ha : PE X a ta) (hb : PE X b tb) {pins : List (Addr × Obj)} {s : Shared} {σ : St} {H : Hp} {R : V -> V -> Hp -> Prop} (I : Inv X pins σ H s)
  (h : ta σ H fun x H1 => tb σ H1 fun y H2 => R x y H2) {Q : Value -> Shared -> Prop} {f : Value -> Value -> Sem Value}
  (hf : ∀ v u s2 x y H2, Inv X pins σ H2 s2 -> RelV x v -> RelV y u -> R x y H2 -> wpAny (model X.prog X.w) X.A (f v u) Q X.xe s2) :
  wpAny (model X.prog X.w) X.A (eval a X.env) (fun v s₁ => wpAny (model X.prog X.w) X.A (eval b X.env) (fun u s₂ => wpAny (model X.prog X.w) X.A (f v u) Q X.xe s₂) X.xe s₁) X.xe s := by
 refine thn (ha pins s σ H _ I h) fun v s1 ⟨x, H1, I1, r1, q1⟩ => ?_
 refine thn (hb pins s1 σ H1 _ I1 q1) fun u s2 ⟨y, H2, I2, r2, q2⟩ => ?_
 exact hf v u s2 x y H2 I2 r1 r2 q2
theorem zkt {op : Operator} {r : R2} (ho : OpR X (binaryOp op) r) (ha : PE X a ta) (hb : PE X b tb) : PE X (.BinOp a op b pos) (tOp r ta tb) := by
 intro pins s σ H Q I h
 exact wpAny_BinOp (binT ha hb I h fun v u s2 x y H2 I2 rx ry q => ho pins s2 σ H2 x y v u Q I2 rx ry q)
theorem zku {op : UnaryOp} {r : V -> Hp -> VK -> Prop} (ho : UnR X (unaryOp op) r) (ha : PE X a ta) : PE X (.UnaryOp op a pos) (tUn r ta) := by
 intro pins s σ H Q I h
 exact UnaryOp_ (thn (ha pins s σ H _ I h) fun v s1 ⟨x, H1, I1, r1, q1⟩ => ho pins s1 σ H1 x v Q I1 r1 q1)
theorem opI {f : Value -> Value -> Sem Value} {C : Int -> Int -> Prop} {g : Int -> Int -> Int}
  (rule : ∀ (i j : Int) (t u : Tok) (s : Shared) (Q : Value -> Shared -> Prop) (E : Value -> Shared -> Prop), C i j -> Q (.int (g i j) s.toks) { s with toks := s.toks + 1 } -> wpAny (model X.prog X.w) X.A (f (.int i t) (.int j u)) Q E s) :
  OpR X f (rI C fun i j => .int (g i j)) := by
 intro pins s σ H x y v u Q I rx ry h
 obtain ⟨i, j, rfl, rfl, hc, q⟩ := h
 obtain ⟨t, rfl⟩ := rx
 obtain ⟨t', rfl⟩ := ry
 exact rule i j t t' s _ _ hc ⟨.int (g i j), H, I.tok _, ⟨_, rfl⟩, q⟩
theorem opI0 {f : Value -> Value -> Sem Value} {g : Int -> Int -> Int}
  (rule : ∀ (i j : Int) (t u : Tok) (s : Shared) (Q : Value -> Shared -> Prop) (E : Value -> Shared -> Prop), Q (.int (g i j) s.toks) { s with toks := s.toks + 1 } -> wpAny (model X.prog X.w) X.A (f (.int i t) (.int j u)) Q E s) :
  OpR X f (rI0 fun i j => .int (g i j)) := by
 intro pins s σ H x y v u Q I rx ry h
 obtain ⟨i, j, rfl, rfl, q⟩ := h
 obtain ⟨t, rfl⟩ := rx
 obtain ⟨t', rfl⟩ := ry
 exact rule i j t t' s _ _ ⟨.int (g i j), H, I.tok _, ⟨_, rfl⟩, q⟩
theorem opB0 {f : Value -> Value -> Sem Value} {g : Int -> Int -> Bool}
  (rule : ∀ (i j : Int) (t u : Tok) (s : Shared) (Q : Value -> Shared -> Prop) (E : Value -> Shared -> Prop), Q (.bool (g i j)) s -> wpAny (model X.prog X.w) X.A (f (.int i t) (.int j u)) Q E s) :
  OpR X f (rI0 fun i j => .bl (g i j)) := by
 intro pins s σ H x y v u Q I rx ry h
 obtain ⟨i, j, rfl, rfl, q⟩ := h
 obtain ⟨t, rfl⟩ := rx
 obtain ⟨t', rfl⟩ := ry
 exact rule i j t t' s _ _ ⟨.bl (g i j), H, I, rfl, q⟩
def CPow (i j : Int) : Prop := 0 <= j /\ j <= 1000000 /\ i.natAbs < 2 ^ 64
def CMul (i j : Int) : Prop := (-(2 ^ 64) < i /\ i < 2 ^ 64) ∨ (-(2 ^ 64) < j /\ j < 2 ^ 64)
theorem CMul.ok {i j : Int} (h : CMul i j) : IntMulOk i j := by
 rcases h with ⟨h1, h2⟩ | ⟨h1, h2⟩
 ·exact .of_left (intBits_le_64 h1 h2)
 ·exact .of_right (intBits_le_64 h1 h2)
theorem ziX : OpR X (binaryOp .Add) (rI0 fun i j => .int (i + j)) := opI0 fun _ _ _ _ _ _ _ q => add_int q
theorem ziY : OpR X (binaryOp .Sub) (rI0 fun i j => .int (i - j)) := opI0 fun _ _ _ _ _ _ _ q => sub_int q
theorem ziZ : OpR X (binaryOp .Mult) (rI CMul fun i j => .int (i * j)) := opI fun _ _ _ _ _ _ _ hc q => mul_int q hc.ok
theorem zi0 : OpR X (binaryOp .Mod) (rI (fun _ j => 0 < j) fun i j => .int (i % j)) := opI fun i j _ _ _ _ _ hc q => by
 have h1 : (0 : Int) < j := hc
 exact mod_int' (by omega) (by rw [Int.fmod_eq_emod_of_nonneg i (by omega)]; exact q)
theorem zi1 : OpR X (binaryOp .Pow) (rI CPow fun i j => .int (i ^ j.toNat)) := opI fun _ _ _ _ _ _ _ hc q => pow_int_small hc.1 hc.2.1 hc.2.2 q
theorem unI {f : Value -> Sem Value} {g : Int -> Int}
  (rule : ∀ (i : Int) (t : Tok) (s : Shared) (Q : Value -> Shared -> Prop) (E : Value -> Shared -> Prop), Q (.int (g i) s.toks) { s with toks := s.toks + 1 } -> wpAny (model X.prog X.w) X.A (f (.int i t)) Q E s) :
  UnR X f (rU fun i => .int (g i)) := by
 intro pins s σ H x v Q I rx h
 obtain ⟨i, rfl, q⟩ := h
 obtain ⟨t, rfl⟩ := rx
 exact rule i t s _ _ ⟨.int (g i), H, I.tok _, ⟨_, rfl⟩, q⟩
theorem zi2 : UnR X (unaryOp .USub) (rU fun i => .int (-i)) := unI fun _ _ _ _ _ q => neg_int q
end
section
variable {X : Cx} {a b c : Expr} {ta tb tc : TE} {pos : Pos}
theorem zi3 {pins : List (Addr × Obj)} {σ : St} {H : Hp} {s : Shared} {Q : VK} {k k' : Bool} (I : Inv X pins σ H s) (q : Q (.bl k) H) (e : k = k') : EP X pins σ Q (.bool k') s := by
 subst e
 exact ⟨.bl k, H, I, rfl, q⟩
theorem zkv : OpR X (compareOp .Lt) (rI0 fun i j => .bl (decide (i < j))) := opB0 fun _ _ _ _ _ _ _ q => lt_int q
theorem zkw : OpR X (compareOp .LtE) (rI0 fun i j => .bl (decide (i <= j))) := opB0 fun _ _ _ _ _ _ _ q => le_int q
theorem zkx : OpR X (compareOp .Gt) (rI0 fun i j => .bl (decide (j < i))) := opB0 fun _ _ _ _ _ _ _ q => gt_int q
theorem zky : OpR X (compareOp .GtE) (rI0 fun i j => .bl (decide (j <= i))) := opB0 fun _ _ _ _ _ _ _ q => ge_int q
theorem zeB : OpR X (compareOp .In) (fun x y H Q => ∃ i j, x = .str i /\ y = .str j /\ Q (.bl (!(Builtin.Str.occurrences j i 0 j.length 1).isEmpty)) H) := by
 intro pins s σ H x y v u Q I rx ry h
 obtain ⟨i, j, rfl, rfl, q⟩ := h
 obtain ⟨t, rfl⟩ := rx
 obtain ⟨t', rfl⟩ := ry
 exact in_str (zi3 I q rfl)
theorem OpR.or {f : Value -> Value -> Sem Value} {r r' : R2} (h : OpR X f r) (h' : OpR X f r') : OpR X f (fun x y H Q => r x y H Q ∨ r' x y H Q) := by
 intro pins s σ H x y v u Q I rx ry q
 rcases q with q | q
 ·exact h pins s σ H x y v u Q I rx ry q
 ·exact h' pins s σ H x y v u Q I rx ry q
theorem zaG (b : Expr) {op : CmpOp} (h : op ≠ .In := by decide) (h2 : op ≠ .NotIn := by decide) : behindInMarks op b = false := by
 have e1 : (op == CmpOp.In) = false := by cases op <;> first | rfl | exact absurd rfl h
 have e2 : (op == CmpOp.NotIn) = false := by cases op <;> first | rfl | exact absurd rfl h2
 cases b <;> simp [behindInMarks, e1, e2]
theorem zeC {op : CmpOp} {r : R2} (ho : OpR X (compareOp op) r) (ha : PE X a ta) (hb : PE X b tb) (hm : behindInMarks op b = false) : PE X (.Compare a [op] [b] pos) (tOp r ta tb) := by
 intro pins s σ H Q I h
 exact wpAny_Compare1 (binT ha hb I h fun v u s2 x y H2 I2 rx ry q => ho pins s2 σ H2 x y v u Q I2 rx ry q) hm
def zi4 (t : TE) : TT := fun σ H Q => t σ H fun x H' => ∃ k, x = .bl k /\ Q k H'
theorem zeD {op : CmpOp} {r : R2} (ho : OpR X (compareOp op) r) (ha : PE X a ta) (hb : PE X b tb) (hm : behindInMarks op b = false) : PT X (.Compare a [op] [b] pos) (zi4 (tOp r ta tb)) := by
 intro pins s σ H Q I h
 refine wpAny_isTrue_Compare1 (thn (ha pins s σ H _ I h) fun v s1 ⟨x, H1, I1, r1, q1⟩ => thn (hb pins s1 σ H1 _ I1 q1) fun u s2 ⟨y, H2, I2, r2, q2⟩ =>
  thn (ho pins s2 σ H2 x y v u _ I2 r1 r2 q2) fun c s3 ⟨z, H3, I3, r3, k, e, q3⟩ => ?_) hm
 subst e
 cases r3
 exact wpAny_truthy_bool ⟨H3, I3, q3⟩
def zi5 (r r' : R2) (ta tb tc : TE) : TE := fun σ H Q => ta σ H fun x H1 => tb σ H1 fun y H2 => r x y H2 fun z H3 => ∃ k, z = .bl k /\
 (if k = true then tc σ H3 fun w' H4 => r' y w' H4 Q else Q (.bl false) H3)
theorem zfQ {op op' : CmpOp} {r r' : R2} (ho : OpR X (compareOp op) r) (ho' : OpR X (compareOp op') r') (ha : PE X a ta) (hb : PE X b tb) (hc : PE X c tc)
  (hm : lastMarks [op, op'] [b, c] = false := by with_unfolding_all rfl) : PT X (.Compare a [op, op'] [b, c] pos) (zi4 (zi5 r r' ta tb tc)) := by
 intro pins s σ H Q I h
 refine isTrue_chain (thn (ha pins s σ H _ I h) fun v s1 ⟨x, H1, I1, r1, q1⟩ => test_link (thn (hb pins s1 σ H1 _ I1 q1) fun u s2 ⟨y, H2, I2, r2, q2⟩ =>
  thn (ho pins s2 σ H2 x y v u _ I2 r1 r2 q2) fun d s3 ⟨z, H3, I3, r3, k, e, q3⟩ => ?_)) hm
 subst e
 cases r3
 refine wpAny_truthy_bool ?_
 cases k with
 | false =>
  obtain ⟨k', e', q'⟩ := q3
  cases e'
  exact ite_ff ⟨H3, I3, q'⟩
 | true =>
  refine ite_tt (test_last (thn (hc pins s3 σ H3 _ I3 q3) fun w' s4 ⟨z', H4, I4, r4, q4⟩ => thn (ho' pins s4 σ H4 y z' u w' _ I4 r2 r4 q4) fun d' s5 ⟨z2, H5, I5, r5, k2, e2, q5⟩ => ?_))
  subst e2
  cases r5
  exact wpAny_truthy_bool ⟨H5, I5, q5⟩
theorem zdG : (sizeLine : Nat) < 2 ^ 63 := by rw [sizeLine_eq]; decide
theorem zd7 : OpR X (binaryOp .Add) (fun x y H Q => ∃ i j, x = .str i /\ y = .str j /\ i.length + j.length <= sizeLine /\ Q (.str (i ++ j)) H) := by
 intro pins s σ H x y v u Q I rx ry h
 obtain ⟨i, j, rfl, rfl, hz, q⟩ := h
 obtain ⟨t, rfl⟩ := rx
 obtain ⟨t', rfl⟩ := ry
 exact add_str (fun t' tk => ⟨.str (i ++ j), H, I.tok _, ⟨_, rfl⟩, q⟩) hz
theorem zfR {x : V} {us : List Value} (r : Vals [x] us) : ∃ u, us = [u] /\ RelV x u := by
 cases r with
 | cons r1 r2 => cases r2; exact ⟨_, rfl, r1⟩
theorem zi6 {x y : V} {us : List Value} (r : Vals [x, y] us) : ∃ u w', us = [u, w'] /\ RelV x u /\ RelV y w' := by
 cases r with
 | cons r1 r2 =>
  cases r2 with
  | cons r3 r4 => cases r4; exact ⟨_, _, rfl, r1, r3⟩
theorem zfS : zcl X (.builtin "abs") (fun xs H Q => ∃ i, xs = [.int i] /\ Q (.int (if i < 0 then -i else i)) H) := by
 intro pins s σ H xs us Q I r h
 obtain ⟨i, rfl, q⟩ := h
 obtain ⟨u, rfl, t, rfl⟩ := zfR r
 exact call_abs_int fun u tk => ⟨.int (if i < 0 then -i else i), H, I.tok _, ⟨_, rfl⟩, q⟩
theorem zeE (hc : X.calm = true) : zcl X (.builtin "max") (fun xs H Q => ∃ i j, xs = [.int i, .int j] /\ Q (.int (if j > i then j else i)) H) := by
 intro pins s σ H xs us Q I r h
 obtain ⟨i, j, rfl, q⟩ := h
 obtain ⟨u, w', rfl, ⟨t, rfl⟩, ⟨t', rfl⟩⟩ := zi6 r
 refine max_two_ints (I.ok.hd hc) fun h' tk k => ⟨_, H, I.kept k, ?_, q⟩
 by_cases hj : j > i
 ·rw [if_pos hj, if_pos hj]; exact ⟨_, rfl⟩
 ·rw [if_neg hj, if_neg hj]; exact ⟨_, rfl⟩
theorem zcR : zcl X (.type "str") (fun xs H Q => ∃ i, xs = [.int i] /\ i.natAbs.log2 < 1920 /\ Q (.str (toString i)) H) := by
 intro pins s σ H xs us Q I r h
 obtain ⟨i, rfl, hz, q⟩ := h
 obtain ⟨u, rfl, t, rfl⟩ := zfR r
 exact PySem.P.str_of_int hz ⟨.str _, H, I.tok _, ⟨_, rfl⟩, q⟩
def LenV (K : PySem.W.Frag) (x : V) (H : Hp) (n : Nat) : Prop :=
 match x with
 | .str y => y.length <= sizeLine /\ n = y.length
 | .byt y => y.size <= sizeLine /\ n = y.size
 | .ref p => (∃ xs, SqL K H p xs /\ n = xs.length) ∨ ∃ xs, SqT K H p xs /\ n = xs.length
 | _ => False
theorem zdH : zcl X (.builtin "len") (fun xs H Q => ∃ x n, xs = [x] /\ LenV X.K x H n /\ Q (.int n) H) := by
 intro pins s σ H xs us Q I r h
 obtain ⟨x, n, rfl, e, q⟩ := h
 obtain ⟨u, rfl, rx⟩ := zfR r
 have hl := zdG
 have hs : sizeLine = 16777216 := sizeLine_eq
 cases x with
 | str y =>
  obtain ⟨t, rfl⟩ := rx
  obtain ⟨hy, e'⟩ : y.length <= sizeLine /\ n = y.length := e
  subst e'
  exact len_str (by omega) ⟨.int _, H, I.tok _, ⟨_, rfl⟩, q⟩
 | byt y =>
  obtain ⟨t, rfl⟩ := rx
  obtain ⟨hy, e'⟩ : y.size <= sizeLine /\ n = y.size := e
  subst e'
  exact PySem.W.len_bytes (by omega) ⟨.int _, H, I.tok _, ⟨_, rfl⟩, q⟩
 | ref p =>
  cases rx
  have e' : (∃ xs, SqL X.K H p xs /\ n = xs.length) ∨ ∃ xs, SqT X.K H p xs /\ n = xs.length := e
  rcases e' with ⟨xs, hx, e'⟩ | ⟨xs, hx, e'⟩
  ·subst e'
   obtain ⟨its, r', pl, hz⟩ := I.list hx
   have hlen := r'.length
   exact Calls.call_len_list pl.isList (by simp only [List.size_toArray]; omega) ⟨.int xs.length, H, I.tok _, ⟨_, by simp only [List.size_toArray]; rw [hlen]⟩, q⟩
  ·subst e'
   obtain ⟨its, r', pl, hz⟩ := I.tuple hx
   have hlen := r'.length
   exact len_tuple pl (by simp only [List.size_toArray]; omega) ⟨.int xs.length, H, I.tok _, ⟨_, by simp only [List.size_toArray]; rw [hlen]⟩, q⟩
 | _ => exact (show False from e).elim
end
end L2
namespace L2
open PySem PySem.Spec PyProof.Rows
section
variable {prog : Program} {w : World} {A : Around} {E : Value -> Shared -> Prop} {s : Shared} {K : PySem.W.Frag} {x dx C f : Addr} {mA : Str -> Option Value} {name : Str} {v : Value}
end
def putF (f : Str) (v : V) : List (Str × V) -> List (Str × V)
 | [] => [(f, v)]
 | (g, x) :: r => if g = f then (g, v) :: r else (g, x) :: putF f v r
theorem zby (f g : Str) (v : V) : ∀ fs : List (Str × V), (putF f v fs).lookup g = if g = f then some v else fs.lookup g
 | [] => by
  show List.lookup g [(f, v)] = _
  by_cases h : g = f
  ·have hb : (g == f) = true := beq_iff_eq.mpr h
   simp only [List.lookup, hb, if_pos h]
  ·have hb : (g == f) = false := beq_eq_false_iff_ne.mpr h
   simp only [List.lookup, hb, if_neg h]
 | (k, x) :: r => by
  have ih := zby f g v r
  rw [show putF f v ((k, x) :: r) = (if k = f then (k, v) :: r else (k, x) :: putF f v r) from rfl]
  by_cases hk : k = f
  ·rw [if_pos hk]
   by_cases h : g = k
   ·have hb : (g == k) = true := beq_iff_eq.mpr h
    simp only [List.lookup, hb, if_pos (h.trans hk)]
   ·have hb : (g == k) = false := beq_eq_false_iff_ne.mpr h
    simp only [List.lookup, hb, if_neg (fun e : g = f => h (e.trans hk.symm))]
  ·rw [if_neg hk]
   by_cases h : g = k
   ·have hb : (g == k) = true := beq_iff_eq.mpr h
    simp only [List.lookup, hb, if_neg (fun e : g = f => hk (h.symm.trans e))]
   ·have hb : (g == k) = false := beq_eq_false_iff_ne.mpr h
    simp only [List.lookup, hb]
    exact ih
theorem zb0 (f : Str) (v : V) : ∀ fs : List (Str × V), f ∈ (putF f v fs).map (·.1) /\ ∀ g, g ∈ fs.map (·.1) -> g ∈ (putF f v fs).map (·.1)
 | [] => ⟨by simp [putF], fun g h => by simp at h⟩
 | (k, x) :: r => by
  obtain ⟨i1, i2⟩ := zb0 f v r
  rw [show putF f v ((k, x) :: r) = (if k = f then (k, v) :: r else (k, x) :: putF f v r) from rfl]
  by_cases hk : k = f
  ·rw [if_pos hk]
   subst hk
   exact ⟨by simp, fun g h => by simpa using h⟩
  ·rw [if_neg hk]
   refine ⟨?_, fun g h => ?_⟩
   ·rw [List.map_cons]
    exact List.mem_cons_of_mem _ i1
   ·rw [List.map_cons] at h ⊢
    rcases List.mem_cons.mp h with e | e
    ·exact List.mem_cons.mpr (.inl e)
    ·exact List.mem_cons_of_mem _ (i2 g e)
section
variable {P : Program} {w : World} {H H' : Hp} {h h' : Heap} {a C dx : Addr} {fs fs' : List (Str × V)}
end
section
variable {X : Cx} {pins : List (Addr × Obj)} {σ : St} {H : Hp} {s : Shared} {a C dx : Addr} {fs : List (Str × V)} {f : Str} {v : V} {A : Around} {E : Value -> Shared -> Prop}
end
section
variable {X : Cx} {o e value : Expr} {f : Str} {pos pos' tpos : Pos} {ta tv : TE}
end
section
variable {X : Cx} {pins : List (Addr × Obj)} {σ : St} {H : Hp} {s : Shared} {A : Around} {E : Value -> Shared -> Prop} {Q : Value -> Shared -> Prop} {c : Value} {b : Bool}
end
end L2
namespace L2
open PySem PySem.Spec PyProof.Rows
structure Room (k : Nat) (A : Around) : Prop where
 hd : A.handled = none
 dp : A.depth + 3 * k + 5 < recursionLimit
 un : A.units + 16 * k + 200 < cLine
 gd : A.guards = some []
theorem Room.mono {j k : Nat} {A : Around} (r : Room k A) (h : j <= k) : Room j A := ⟨r.hd, by have := r.dp; omega, by have := r.un; omega, r.gd⟩
theorem Room.deeper {k : Nat} {A : Around} (r : Room (k + 1) A) (env : Env) : Room k (A.deeper env) :=
 ⟨r.hd, by have := r.dp; show A.depth + 1 + 3 * k + 5 < _; omega, by have := r.un; show A.units + 3 + 16 * k + 200 < _; omega, r.gd⟩
theorem zd8 {A : Around} {C : Addr} {us : List Value} {kw : List (Str × Value)} : (A.under (.builtin "type.__call__" ⟨.ref C :: us, kw⟩)).depth = A.depth + 1 := by
 first | rfl | simp [Around.under, Code.weight, Code.isCreation, Code.isGuard, Code.isCaller, Code.frames, Code.isFrame, guardIds]
theorem zd9 {A : Around} {C : Addr} {us : List Value} {kw : List (Str × Value)} : (A.under (.builtin "type.__call__" ⟨.ref C :: us, kw⟩)).units = A.units + 1 := by
 first | rfl | simp [Around.under, Code.cUnits, Code.frames, Code.isFrame]
theorem Room.make {k : Nat} {A : Around} (r : Room (k + 1) A) (C : Addr) (us : List Value) (kw : List (Str × Value)) : Room k (A.under (.builtin "type.__call__" ⟨.ref C :: us, kw⟩)) :=
 ⟨r.hd, by have := r.dp; rw [zd8]; omega, by have := r.un; rw [zd9]; omega, (by first | exact r.gd | (simp [Around.under, guardIds]; exact r.gd))⟩
theorem Room.depth {k : Nat} {A : Around} (r : Room k A) : A.depth < recursionLimit := by have := r.dp; omega
theorem Room.units {k : Nat} {A : Around} (r : Room k A) : A.units + 64 < cLine := by have := r.un; omega
def tNil : TA := fun _ H Q => Q [] H
def zeF (ta : TE) (tr : TA) : TA := fun σ H Q => ta σ H fun x H1 => tr σ H1 fun xs H2 => Q (x :: xs) H2
section
variable {X : Cx} {e : Expr} {es : List Expr} {te : TE} {t : TA} {pos : Pos}
theorem zcp : PA X [] tNil := fun _ _ _ _ H Q I h => Calls.spliced_nil ⟨[], H, I, .nil, h⟩
theorem zbf (ha : PE X e te) (hr : PA X es t) (hs : starEach (e :: es) X.env = (false, eval e X.env) :: starEach es X.env := by rfl) : PA X (e :: es) (zeF te t) := by
 intro pos pins s σ H Q I h
 rw [hs]
 show wpAny _ _ (spliced ((false, eval e X.env) :: backTo pos (starEach es X.env))) _ _ s
 refine Calls.spliced_cons (thn (ha pins s σ H _ I h) fun u s1 ⟨x, H1, I1, r1, q1⟩ => ?_)
 exact thn (hr pos pins s1 σ H1 _ I1 q1) fun us s2 ⟨xs, H2, I2, r2, q2⟩ => ⟨x :: xs, H2, I2, .cons r1 r2, q2⟩
def tTup (t : TA) : TE := fun σ H Q => t σ H fun xs H1 => xs.length <= sizeLine /\ ∀ p, H1 p = none -> Q (.ref p) (upd H1 p (.tup xs))
def tLst (t : TA) : TE := fun σ H Q => t σ H fun xs H1 => xs.length <= sizeLine /\ ∀ p, H1 p = none -> Q (.ref p) (upd H1 p (.lst xs))
theorem zi7 {x1} (h : PA X es t) : PE X (.Tuple es x1 pos) (tTup t) := by
 intro pins s σ H Q I hq
 refine wpAny_Tuple_spliced (thn (h pos pins s σ H _ I hq) fun us s1 ⟨xs, H1, I1, r, z, q⟩ => ⟨by rw [← r.length]; exact z, ?_⟩)
 have hf : H1 s1.heap.objs.size = none := I1.hok.fresh (Nat.le_refl _)
 refine ⟨.ref s1.heap.objs.size, upd H1 s1.heap.objs.size (.tup xs), I1.laid (t' := s1.toks) (fun b u e => Heap.get?_push_of_some _ e) (Nat.le_refl _) ?_, rfl, q _ hf⟩
 exact ⟨z, us, r, ⟨_, Heap.get?_push_size _ rfl, rfl, _, rfl⟩⟩
theorem zgW (h : PA X es t) : PE X (.List es pos) (tLst t) := by
 intro pins s σ H Q I hq
 refine wpAny_List_spliced (thn (h pos pins s σ H _ I hq) fun us s1 ⟨xs, H1, I1, r, z, q⟩ => ⟨by rw [← r.length]; exact z, ?_⟩)
 have hf : H1 s1.heap.objs.size = none := I1.hok.fresh (Nat.le_refl _)
 refine ⟨.ref s1.heap.objs.size, upd H1 s1.heap.objs.size (.lst xs), I1.laid (t' := s1.toks) (fun b u e => Heap.get?_push_of_some _ e) (Nat.le_refl _) ?_, rfl, q _ hf⟩
 exact ⟨z, us, 0, r, Heap.get?_push_size _ rfl⟩
end
abbrev Sp := List V -> Hp -> VK -> XK -> Prop
abbrev CXT := List Env -> Hp -> Shared -> XK -> Value -> Shared -> Prop
structure Env0 (P : Program) (w : World) (K : PySem.W.Frag) (mg : Str -> Option Value) (base : Heap) (A : Around) (outer : List Env) (s : Shared) (H : Hp) : Prop where
 frames : A.frames = some outer
 mod : Mod K mg base
 bs : ∀ b o, base.get? b = some o -> s.heap.get? b = some o /\ H b = none
 bsz : base.objs.size <= s.heap.objs.size
 funs : s.heap.FunFrames base outer
 frf : ∀ b ∈ frs outer, H b = none
 hok : HOk P w H s.heap
 bare : AllBare s.gens
def CE (outer : List Env) (P : Program) (w : World) (H : Hp) (s : Shared) (Q : VK) (u : Value) (s' : Shared) : Prop :=
 ∃ v H', s'.os = s.os /\ AllBare s'.gens /\ Un (frs outer) [] H H' s.heap s'.heap /\ HOk P w H' s'.heap /\ RelV v u /\ Q v H'
def CR (CX : CXT) (outer : List Env) (P : Program) (w : World) (H : Hp) (s : Shared) (Q : VK) (E : XK) (r : Result) (s' : Shared) : Prop :=
 match r with
 | .ok (.ret u) => CE outer P w H s Q u s'
 | .ok _ => False
 | .error e => CX outer H s E e s'
structure FnOk (P : Program) (w : World) (K : PySem.W.Frag) (mg : Str -> Option Value) (base : Heap) (CX : CXT) (k : Nat) (f : Addr) (fd : FuncData) (ps : List Str) (sp : Sp) : Prop where
 len : ∀ vs H Q E, sp vs H Q E -> vs.length = ps.length
 run : ∀ (A : Around) (outer : List Env) (s : Shared) (H : Hp) (args : Args) (us : List Value) (vs : List V) (Q : VK) (E : XK), Room k A -> Env0 P w K mg base A outer s H -> BindsTo s fd args (ps.zip us) -> Vals vs us -> sp vs H Q E ->
  codeAny (model P w) A (.call (.ref f) args) (CR CX outer P w H s Q E) s
theorem Env0.make {P : Program} {w : World} {K : PySem.W.Frag} {mg : Str -> Option Value} {base : Heap} {A : Around} {outer : List Env} {s : Shared} {H : Hp} (e : Env0 P w K mg base A outer s H) (C : Addr) (us : List Value) (kw : List (Str × Value)) :
  Env0 P w K mg base (A.under (.builtin "type.__call__" ⟨.ref C :: us, kw⟩)) outer s H := ⟨by first | exact e.frames | (simpa [Around.under, Code.envs, Code.isFrame, pushEnvs] using e.frames), e.mod, e.bs, e.bsz, e.funs, e.frf, e.hok, e.bare⟩
section
variable {X : Cx} {pins : List (Addr × Obj)} {σ : St} {H : Hp} {s s' : Shared}
theorem Inv.env0 (I : Inv X pins σ H s) : Env0 X.prog X.w X.K X.mg X.base X.A X.stack s H :=
 ⟨I.ok.frames, I.ok.mod, I.bs, Nat.le_trans I.ok.bsz I.sz, I.stack, I.stkFree, I.hok, I.bare⟩
theorem Inv.after {Q : VK} {u : Value} (I : Inv X pins σ H s) (h : CE X.stack X.prog X.w H s Q u s') : EP X pins σ Q u s' := by
 obtain ⟨v, H', os, bare, un, hok, r, q⟩ := h
 obtain ⟨hh, g, d, t, os'⟩ := s'
 obtain rfl : os' = s.os := os
 exact ⟨v, H', I.call (h' := hh) (g' := g) (d' := d) (t' := t) (ch := []) un hok bare (fun b z => absurd z (by simp)), r, q⟩
end
def zhm (sp : Sp) (dvs : List V) (E : XK) (t : TA) : TE := fun σ H Q => t σ H fun vs H1 => sp (vs ++ dvs) H1 Q E
def zbt (K : PySem.W.Frag) (fd : FuncData) (ps : List Str) (ds : List Value) : Prop :=
 ∀ (s : Shared) (us : List Value), K.In s.heap -> (us ++ ds).length = ps.length -> BindsTo s fd ⟨us, []⟩ (ps.zip (us ++ ds))
theorem zbt.all {K : PySem.W.Frag} {fd : FuncData} {ps : List Str} (h : ∀ us : List Value, us.length = ps.length -> bindArgs fd ⟨us, []⟩ = pure (ps.zip us)) : zbt K fd ps [] := fun s us _ hl => by
 rw [List.append_nil] at hl ⊢
 exact .of_eq (h us hl)
def zeG (CX : CXT) (X : Cx) (E : XK) : Prop := ∀ (pins : List (Addr × Obj)) (σ : St) (H : Hp) (s : Shared) (e : Value) (s' : Shared), Inv X pins σ H s -> CX X.stack H s E e s' -> X.xe e s'
section
variable {X : Cx} {CX : CXT} {k : Nat} {f C : Addr} {fd : FuncData} {ps : List Str} {sp : Sp} {dvs : List V} {ds : List Value} {E : XK} {x m : Str} {p pos apos : Pos} {e o : Expr} {es : List Expr} {ta : TE} {t : TA}
theorem zgX {pins : List (Addr × Obj)} {σ : St} {H : Hp} {s : Shared} {Q : VK} {us : List Value} {vs : List V} (F : FnOk X.prog X.w X.K X.mg X.base CX k f fd ps sp) (hr : Room k X.A) (hb : zbt X.K fd ps ds) (hd : Vals dvs ds) (hx : zeG CX X E)
  (I : Inv X pins σ H s) (r : Vals vs us) (h : sp (vs ++ dvs) H Q E) : wpAny (model X.prog X.w) X.A (call (.ref f) us) (EP X pins σ Q) X.xe s := by
 have r2 : Vals (vs ++ dvs) (us ++ ds) := r.append hd
 have hl : (us ++ ds).length = ps.length := by rw [← r2.length]; exact F.len _ _ _ _ h
 refine wpAny_call (codeAny_mono (F.run X.A X.stack s H ⟨us, []⟩ (us ++ ds) (vs ++ dvs) Q E hr I.env0 (hb s us I.kIn hl) r2 h) fun r s' hq => ?_)
 cases r with
 | error e => exact hx pins σ H s e s' I hq
 | ok fl =>
  cases fl with
  | ret u => exact I.after hq
  | next => exact False.elim hq
  | brk => exact False.elim hq
  | cont => exact False.elim hq
theorem zhn (F : FnOk X.prog X.w X.K X.mg X.base CX k f fd ps sp) (hr : Room k X.A) (hg : Gl X x) (hm : X.mg x = some (.ref f)) (hk : PySem.W.keepIn X.K (.ref f) = true) (hb : zbt X.K fd ps ds) (hd : Vals dvs ds) (hx : zeG CX X E)
  (ha : PA X (e :: es) t) (hdb : (x == ("__debug__" : Str)) = false := by decide) (he : starEach (e :: es) X.env = (false, eval e X.env) :: starEach es X.env := by rfl) (hpl : (backTo pos (starEach es X.env)).any (·.1) = false := by rfl) :
  PE X (.Call (.Name x p) (e :: es) [] pos) (zhm sp dvs E t) := by
 intro pins s σ H Q I h
 refine wpAny_Call_Name_kw (zbH I hg hm ?_ hdb)
 refine PySem.W.callWith_K (h₀ := X.base) I.ok.mod.kin hk (thn (ha pos pins s σ H _ I h) fun us s1 ⟨vs, H1, I1, r, q⟩ => ⟨I1.kIn, ?_⟩) he hpl
 exact zgX F hr hb hd hx I1 r q
end
section
variable {X : Cx} {CX : CXT} {k : Nat} {f C : Addr} {fd : FuncData} {ps ks : List Str} {sp : Sp} {E : XK} {x m : Str} {p pos apos kpos : Pos} {e o : Expr} {es : List Expr} {kws : List Keyword} {te ta : TE} {t tk : TA} {nm : Option Str}
variable {g : List Value -> List Value -> List Value} {gV : List V -> List V -> List V}
end
structure zbI (N P : List Str) (sc : Scope) : Prop where
 kind : sc.kind = .function
 co : sc.isCoroutine = false
 gen : sc.isGenerator = false
 nd : N.Nodup
 pre : N.take P.length = P
 par : ∀ x ∈ P, sc.names.lookup x = some .local ∨ sc.names.lookup x = some .cell
 nofree : ∀ y ∈ sc.names, y.2 ≠ .free
theorem zcS {kindOf : Str -> Option NameKind} {x : Str} : ∀ {binds : List (Str × Value)} {m : Str -> Option Value}, (∀ v, (x, v) ∉ binds) -> bindL kindOf binds m x = m x
 | [], _, _ => rfl
 | (n, v) :: r, m, h => by
  unfold bindL
  rw [zcS fun w hw => h w (List.mem_cons_of_mem _ hw)]
  split
  ·have : x ≠ n := by rintro rfl; exact h v List.mem_cons_self
   simp [this]
  ·rfl
theorem zcT {kindOf : Str -> Option NameKind} {x : Str} : ∀ {binds : List (Str × Value)} {m : Str -> Option Value}, (∀ v, (x, v) ∉ binds) -> bindC kindOf binds m x = m x
 | [], _, _ => rfl
 | (n, v) :: r, m, h => by
  unfold bindC
  rw [zcT fun w hw => h w (List.mem_cons_of_mem _ hw)]
  split
  ·rfl
  ·have : x ≠ n := by rintro rfl; exact h v List.mem_cons_self
   simp [this]
theorem zcU {kindOf : Str -> Option NameKind} {x : Str} {v : Value} : ∀ {P : List Str} {vs : List Value} {i : Nat} {m : Str -> Option Value}, P.Nodup -> P[i]? = some x -> vs[i]? = some v -> kindOf x = some .local ->
  bindL kindOf (P.zip vs) m x = some v
 | [], _, _, _, _, h, _, _ => by simp at h
 | _ :: _, [], _, _, _, _, h, _ => by simp at h
 | p :: P, w :: vs, 0, m, nd, h1, h2, hk => by
  simp at h1 h2; subst h1; subst h2
  show bindL kindOf ((p, w) :: P.zip vs) m p = _
  unfold bindL
  rw [zcS fun v hv => (List.nodup_cons.mp nd).1 (List.of_mem_zip hv).1, if_pos hk]
  simp
 | p :: P, w :: vs, i + 1, m, nd, h1, h2, hk => by
  show bindL kindOf ((p, w) :: P.zip vs) m x = _
  unfold bindL
  exact zcU (i := i) (List.nodup_cons.mp nd).2 (by simpa using h1) (by simpa using h2) hk
theorem zcV {kindOf : Str -> Option NameKind} {x : Str} {v : Value} : ∀ {P : List Str} {vs : List Value} {i : Nat} {m : Str -> Option Value}, P.Nodup -> P[i]? = some x -> vs[i]? = some v -> kindOf x ≠ some .local ->
  bindC kindOf (P.zip vs) m x = some v
 | [], _, _, _, _, h, _, _ => by simp at h
 | _ :: _, [], _, _, _, _, h, _ => by simp at h
 | p :: P, w :: vs, 0, m, nd, h1, h2, hk => by
  simp at h1 h2; subst h1; subst h2
  show bindC kindOf ((p, w) :: P.zip vs) m p = _
  unfold bindC
  rw [zcT fun v hv => (List.nodup_cons.mp nd).1 (List.of_mem_zip hv).1, if_neg hk]
  simp
 | p :: P, w :: vs, i + 1, m, nd, h1, h2, hk => by
  show bindC kindOf ((p, w) :: P.zip vs) m x = _
  unfold bindC
  exact zcV (i := i) (List.nodup_cons.mp nd).2 (by simpa using h1) (by simpa using h2) hk
def zb1 (N : List Str) (vs : List V) : St := vs.map some ++ List.replicate (N.length - vs.length) none
def cxOf (CX : CXT) (P : Program) (w : World) (K : PySem.W.Frag) (mg : Str -> Option Value) (base : Heap) (N : List Str) (qual : Str) (scope : Scope) (f : Addr) (cd : Value) (A : Around) (outer : List Env) (s : Shared) (H : Hp) (E : XK) : Cx where
 prog := P
 w := w
 K := K
 mg := mg
 base := base
 A := A.deeper (envOfC qual scope s.heap.objs.size f cd)
 N := N
 s₀ := s
 H₀ := H
 env := envOfC qual scope s.heap.objs.size f cd
 outer := outer
 stack := envOfC qual scope s.heap.objs.size f cd :: outer
 ex := []
 calm := true
 fn := fun _ => true
 pn := []
 xe := fun e s' => wpAny (model P w) (A.deeper (envOfC qual scope s.heap.objs.size f cd)) (leaving (envOfC qual scope s.heap.objs.size f cd) e) (fun _ s'' => CX outer H s E e s'') (fun e' s'' => CX outer H s E e' s'') s'
theorem zdI {sc : Scope} {n : Nat} {x : Str} (h : sc.names.lookup x = some .cell) : ∃ c, (cellsFrom n sc.names []).lookup x = some c := by
 have q := PySem.W.cellsFrom_some sc.names n [] (.inl h)
 exact Option.isSome_iff_exists.mp q
theorem zeH {CX : CXT} {P : Program} {w : World} {K : PySem.W.Frag} {mg : Str -> Option Value} {base : Heap} {N ps : List Str} {qual : Str} {scope : Scope} {f : Addr} {cd : Value} {A : Around} {outer : List Env} {s s1 : Shared} {H : Hp} {E : XK} {us : List Value} {vs : List V}
  (S : zbI N ps scope) (hd : A.handled = none) (e0 : Env0 P w K mg base A outer s H) (hl : vs.length = ps.length) (r : Vals vs us)
  (x : InCallC s s.heap.objs.size (bindL (envOfC qual scope s.heap.objs.size f cd).kindOf (ps.zip us) fun _ => none) (cellsFrom (s.heap.objs.size + 1) scope.names []) (bindC (envOfC qual scope s.heap.objs.size f cd).kindOf (ps.zip us) fun _ => none) s1) :
  Inv (cxOf CX P w K mg base N qual scope f cd A outer s H E) [] (zb1 N vs) H s1 := by
 have hpl : ps.length <= N.length := by have := congrArg List.length S.pre; rw [List.length_take] at this; omega
 obtain ⟨h1, tk, rfl, hk⟩ := x.done
 have noA : ∀ b : Addr, b ∉ (cxOf CX P w K mg base N qual scope f cd A outer s H E).ex := fun b z => absurd (show b ∈ ([] : List Addr) from z) (by simp)
 refine ⟨⟨e0.mod, S.kind, rfl, rfl, Nat.le_refl _, fun y z c h1 h2 => ?_, fun y hy => ?_, fun y c _ h => ?_, fun _ => hd, Around.frames_deeper e0.frames, .inr ⟨rfl, rfl⟩, fun b z => absurd z (noA b), e0.bs, e0.bsz, fun b _ _ => noA b, fun b z => absurd z (noA b), e0.funs, e0.frf⟩,
  rfl, e0.bare, Un.kept hk, ⟨_, x.toInCall.ns, fun i y v h1 h2 h3 => ?_⟩, fun y c h => ⟨_, x.cell y c h⟩, e0.hok.fresh (Nat.le_refl _), fun y c h => ?_, fun p hp => absurd (show p ∈ ([] : List (Addr × Obj)) from hp) (by simp), e0.hok.kept hk, ?_⟩
 ·exact name_of_addr x.apart (PySem.mem_of_lookup h1) (PySem.mem_of_lookup h2)
 ·have hy : scope.names.lookup y = some .cell ∨ scope.names.lookup y = some .free := hy
  rcases hy with hy | hy
  ·exact zdI hy
  ·exact absurd rfl (S.nofree _ (PySem.mem_of_lookup hy))
 ·exact Nat.le_of_lt (x.above y c (PySem.mem_of_lookup h))
 ·have hi : i < vs.length := by
   unfold zb1 at h2
   by_cases hi : i < vs.length
   ·exact hi
   ·rw [List.getElem?_append_right (by simpa using hi)] at h2
    rw [List.getElem?_replicate] at h2
    split at h2 <;> cases h2
  have ha : vs[i]? = some v := by
   unfold zb1 at h2
   rw [List.getElem?_append_left (by simpa using hi), List.getElem?_map] at h2
   cases e : vs[i]? with
   | none => rw [e] at h2; cases h2
   | some a => rw [e] at h2; cases h2; rfl
  obtain ⟨u, hu, rv⟩ := r.get ha
  have hp : ps[i]? = some y := by
   rw [← S.pre, List.getElem?_take_of_lt (by omega)]; exact h1
  have ndP : ps.Nodup := by rw [← S.pre]; exact S.nd.sublist (List.take_sublist _ _)
  refine ⟨u, rv, ?_⟩
  rcases S.par y (List.mem_of_getElem? hp) with k | k
  ·exact .inl ⟨k, zcU ndP hp hu k⟩
  ·obtain ⟨c, e⟩ := zdI (n := s.heap.objs.size + 1) k
   refine .inr ⟨.inl k, c, e, ?_⟩
   have q := x.cell y c e
   rw [zcV ndP hp hu (by show scope.names.lookup y ≠ _; rw [k]; decide)] at q
   exact q
 ·exact e0.hok.fresh (Nat.le_of_lt (x.above y c (PySem.mem_of_lookup h)))
 ·unfold zb1
  show _ = N.length
  rw [List.length_append, List.length_map, List.length_replicate]
  omega
theorem zi8 {CX : CXT} {P : Program} {w : World} {K : PySem.W.Frag} {mg : Str -> Option Value} {base : Heap} {k : Nat} {f : Addr} {name qual : Str} {params : Arguments} {body : List Stmt} {scope : Scope} {dV kV doc pm cdv ct oc : Value} {an od : Option Addr}
  {osl : Array (Option Value)} {N ps : List Str} {sp : Sp} (lk : K.lookup f = some ⟨oc, od, .func (PySem.W.fnOf name qual params body scope dV kV doc pm an cdv ct), osl⟩) (hcd : PySem.W.codeIn K cdv qual = true) (S : zbI N ps scope)
  (len : ∀ vs H Q E, sp vs H Q E -> vs.length = ps.length)
  (hbody : ∀ (A : Around) (outer : List Env) (s : Shared) (H : Hp) (vs : List V) (Q : VK) (E : XK), Room k (A.deeper (envOfC qual scope s.heap.objs.size f cdv)) -> sp vs H Q E ->
   ∃ t, PSs (cxOf CX P w K mg base N qual scope f cdv A outer s H E) body t /\ t { nx := fun _ H' => Q .non H', rt := Q } (zb1 N vs) H) :
  FnOk P w K mg base CX (k + 1) f (PySem.W.fnOf name qual params body scope dV kV doc pm an cdv ct) ps sp := by
 refine ⟨len, fun A outer s H args us vs Q E hr e0 hb r hsp => ?_⟩
 have hl := len _ _ _ _ hsp
 have KX : K.In s.heap := e0.mod.kin.keeps fun b o e => (e0.bs b o e).1
 have lim : s.heap.NoLimit := e0.mod.nolimit.keeps fun b o e => (e0.bs b o e).1
 have hkind : ∀ y ∈ ps.zip us, scope.names.lookup y.1 = some .local ∨ (scope.names.lookup y.1 = some .cell /\ ((cellsFrom (s.heap.objs.size + 1) scope.names []).lookup y.1).isSome = true) := fun ⟨n, v⟩ hy => by
  rcases S.par n (List.of_mem_zip hy).1 with q | q
  ·exact .inl q
  ·exact .inr ⟨q, PySem.W.cellsFrom_some _ _ _ (.inl q)⟩
 refine codeAny_call_function hr.depth (KX _ _ lk) rfl S.co S.gen rfl (PySem.W.codeRec_of KX hcd) (hb _ _ _ _ ?_)
 refine wpAny_newFunctionEnv_cells S.kind hkind fun env he s1 x => ?_
 subst he
 refine ⟨lim.keeps x.toInCall.keep, codeAny_func ?_⟩
 obtain ⟨t, ht, hq⟩ := hbody A outer s H vs Q E (hr.deeper _) hsp
 have I : Inv (cxOf CX P w K mg base N qual scope f cdv A outer s H E) [] (zb1 N vs) H s1 := zeH S hr.hd e0 hl r x
 refine wpAny_mono (ht [] s1 (zb1 N vs) H _ I hq) (fun fl s' hs => ?_) fun e s' hs => hs
 have fin : ∀ {σ' : St} {H' : Hp} {v : V} {u : Value}, Inv (cxOf CX P w K mg base N qual scope f cdv A outer s H E) [] σ' H' s' -> RelV v u -> Q v H' -> CE outer P w H s Q u s' :=
  fun {σ' H' v u} J rv q => ⟨v, H', J.os, J.bare, J.base, J.hok, rv, q⟩
 cases fl with
 | ret u =>
  obtain ⟨v, σ', H', J, rv, q⟩ := hs
  exact fin J rv q
 | next =>
  obtain ⟨σ', H', J, q⟩ := hs
  exact fin (v := V.non) (u := Value.none) J rfl q
 | brk =>
  obtain ⟨_, _, _, q⟩ := hs
  exact False.elim q
 | cont =>
  obtain ⟨_, _, _, q⟩ := hs
  exact False.elim q
end L2
namespace L2
open PySem PySem.Spec PyProof.Rows
section
variable {X : Cx} {x : Str} {p pos : Pos} {e : Expr} {es : List Expr} {t : TA} {id T : String} {r : List V -> Hp -> VK -> Prop}
def tCB (r : List V -> Hp -> VK -> Prop) (t : TA) : TE := fun σ H Q => t σ H fun vs H1 => r vs H1 Q
theorem zcx (hc : zcl X (.builtin id) r) (hg : Gl X x) (hm : X.mg x = none) (hv : bootBuiltins x = some (.builtin id)) (ha : PA X (e :: es) t) (hn : x ≠ "__name__" := by decide) (hdb : (x == ("__debug__" : Str)) = false := by decide)
  (he : starEach (e :: es) X.env = (false, eval e X.env) :: starEach es X.env := by rfl) (hpl : (backTo pos (starEach es X.env)).any (·.1) = false := by rfl) : PE X (.Call (.Name x p) (e :: es) [] pos) (tCB r t) := by
 intro pins s σ H Q I h
 refine wpAny_Call_Name_kw (zco I hg hm hv ?_ hn hdb)
 exact PyProof.Rows.callWith_builtin1 (thn (ha pos pins s σ H _ I h) fun us s1 ⟨vs, H1, I1, r1, q1⟩ => hc pins s1 σ H1 vs us Q I1 r1 q1) he hpl
theorem zeI (hc : zcl X (.type T) r) (hg : Gl X x) (hm : X.mg x = none) (hv : bootBuiltins x = some (.type T)) (ha : PA X (e :: es) t) (hn : x ≠ "__name__" := by decide) (hdb : (x == ("__debug__" : Str)) = false := by decide)
  (he : starEach (e :: es) X.env = (false, eval e X.env) :: starEach es X.env := by rfl) (hpl : (backTo pos (starEach es X.env)).any (·.1) = false := by rfl) : PE X (.Call (.Name x p) (e :: es) [] pos) (tCB r t) := by
 intro pins s σ H Q I h
 refine wpAny_Call_Name_kw (zco I hg hm hv ?_ hn hdb)
 exact PyProof.Rows.callWith_type1 (thn (ha pos pins s σ H _ I h) fun us s1 ⟨vs, H1, I1, r1, q1⟩ => hc pins s1 σ H1 vs us Q I1 r1 q1) he hpl
end
end L2
namespace HT
open PySem PyProof.Rows
section
open PySem.SeqAt
open PySem.AutoSeq1 (wpAny_loadPart')
open PySem.MeetsSeq PySem.MeetsSeq2 PySem.MeetsSeq3
end
section
variable {prog : Program} {w : World} {A : Around} {E : Value -> Shared -> Prop} {s : Shared}
def sIx (n d : Nat) : Option Int -> Nat
 | none => d
 | some v => if v < 0 then (v + (n : Int)).toNat else min v.toNat n
end
end HT
namespace L2
open PySem PySem.Spec PyProof.Rows
abbrev TO := St -> Hp -> (Option Int -> Hp -> Prop) -> Prop
def PO (X : Cx) (e : Option Expr) (t : TO) : Prop :=
 ∀ (pins : List (Addr × Obj)) (s : Shared) (σ : St) (H : Hp) (Q : Option Int -> Hp -> Prop), Inv X pins σ H s -> t σ H Q ->
  wpAny (model X.prog X.w) X.A (evalPart e X.env) (fun u s' => ∃ o H', Inv X pins σ H' s' /\ IsPart u o /\ Q o H') X.xe s
def zho : TO := fun _ H Q => Q none H
def zkz (t : TE) : TO := fun σ H Q => t σ H fun x H1 => ∃ i, x = .int i /\ Q (some i) H1
section
variable {X : Cx} {e : Expr} {te : TE} {lo hi : Option Expr} {tl th : TO} {pos p2 : Pos}
theorem zhp : PO X none zho := by
 intro pins s σ H Q I h
 rw [evalPart_none]
 exact wpAny_pure ⟨none, H, I, .none, h⟩
theorem zhq (h : PE X e te) : PO X (some e) (zkz te) := by
 intro pins s σ H Q I hw
 rw [evalPart_some]
 refine thn (h pins s σ H _ I hw) fun u s1 ⟨x, H1, I1, r1, q1⟩ => ?_
 obtain ⟨i, rfl, q⟩ := q1
 obtain ⟨t, rfl⟩ := r1
 exact ⟨some i, H1, I1, .int i t, q⟩
def SlR (X : Cx) (r : V -> Option Int -> Option Int -> Hp -> VK -> Prop) : Prop :=
 ∀ (pins : List (Addr × Obj)) (s : Shared) (σ : St) (H : Hp) (x : V) (v vl vu : Value) (lo hi : Option Int) (sl : Addr) (Q : VK), Inv X pins σ H s -> RelV x v -> s.heap.IsSliceOf sl vl vu .none -> IsPart vl lo -> IsPart vu hi -> r x lo hi H Q ->
  ∃ T id, typeLookup (.type T) "__getitem__" = pure (some (.builtin id)) /\ s.TypeIs v T /\ wpAny (model X.prog X.w) X.A (getItem v (.ref sl)) (EP X pins σ Q) X.xe s
theorem SlR.or {r r' : V -> Option Int -> Option Int -> Hp -> VK -> Prop} (h : SlR X r) (h' : SlR X r') : SlR X (fun x lo hi H Q => r x lo hi H Q ∨ r' x lo hi H Q) := by
 intro pins s σ H x v vl vu lo hi sl Q I rx hs pl pu q
 rcases q with q | q
 ·exact h pins s σ H x v vl vu lo hi sl Q I rx hs pl pu q
 ·exact h' pins s σ H x v vl vu lo hi sl Q I rx hs pl pu q
def tSl (r : V -> Option Int -> Option Int -> Hp -> VK -> Prop) (te : TE) (tl th : TO) : TE := fun σ H Q => te σ H fun x H1 => tl σ H1 fun l H2 => th σ H2 fun u H3 => r x l u H3 Q
theorem zfT {r : V -> Option Int -> Option Int -> Hp -> VK -> Prop} (hr : SlR X r) (he : PE X e te) (hl : PO X lo tl) (hu : PO X hi th) : PE X (.Subscript e (.Slice lo hi none p2) pos) (tSl r te tl th) := by
 intro pins s σ H Q I h
 refine Subscript_ (thn (he pins s σ H _ I h) fun v s1 ⟨x, H1, I1, r1, q1⟩ => ?_)
 refine wpAny_Slice (thn (hl pins s1 σ H1 _ I1 q1) fun vl s2 ⟨l, H2, I2, pl, q2⟩ => thn (hu pins s2 σ H2 _ I2 q2) fun vu s3 ⟨u, H3, I3, pu, q3⟩ => ?_)
 rw [evalPart_none]
 refine wpAny_pure ?_
 have I4 : Inv X pins σ H3 { s3 with heap := s3.heap.push { cls := .type "slice", data := .fields #[vl, vu, .none] } } := I3.kept (t' := s3.toks) fun b ob q => Heap.get?_push_of_some _ q
 obtain ⟨T, id, hT, ht, hg⟩ := hr pins { s3 with heap := s3.heap.push { cls := .type "slice", data := .fields #[vl, vu, .none] } } σ H3 x v vl vu l u s3.heap.objs.size Q I4 r1 (Heap.IsSliceOf.new ..) pl pu q3
 show wpAny (model X.prog X.w) X.A (subscriptTail e (.Slice lo hi none p2) v (.ref s3.heap.objs.size)) (EP X pins σ Q) X.xe { s3 with heap := s3.heap.push { cls := .type "slice", data := .fields #[vl, vu, .none] } }
 exact tail_any (ops := [.ref s3.heap.objs.size, v]) ht hT hg (by with_unfolding_all rfl)
def cutV (xs : List V) (lo hi : Option Int) : List V := (xs.drop (HT.sIx xs.length 0 lo)).take (HT.sIx xs.length xs.length hi - HT.sIx xs.length 0 lo)
theorem zdm (xs : List V) (lo hi : Option Int) : (cutV xs lo hi).length <= xs.length := by
 unfold cutV
 rw [List.length_take, List.length_drop]
 omega
end
end L2
namespace L2
open PySem PySem.Spec PyProof.Rows
def ixN (n : Nat) (i : Int) : Option Nat := if 0 <= i then (if i < n then some i.toNat else none) else if -(n : Int) <= i then some (i + n).toNat else none
def atI {α : Type} (xs : List α) (i : Int) : Option α := (ixN xs.length i).bind fun j => xs[j]?
theorem zhr {n : Nat} {i : Int} {j : Nat} (h : ixN n i = some j) : seqIndex? i n = some j /\ j < n /\ -(n : Int) <= i /\ i < n := by
 unfold ixN at h
 by_cases h0 : 0 <= i
 ·rw [if_pos h0] at h
  by_cases h1 : i < n
  ·rw [if_pos h1] at h
   have e : i.toNat = j := Option.some.inj h
   exact ⟨by rw [seqIndex_of h0 h1, e], by omega, by omega, h1⟩
  ·rw [if_neg h1] at h; cases h
 ·rw [if_neg h0] at h
  by_cases h1 : -(n : Int) <= i
  ·rw [if_pos h1] at h
   have e : (i + n).toNat = j := Option.some.inj h
   exact ⟨by rw [seqIndex_neg (by omega) h1, e], by omega, h1, by omega⟩
  ·rw [if_neg h1] at h; cases h
theorem zdn {α : Type} {xs : List α} {i : Int} {v : α} (h : atI xs i = some v) : ∃ j, seqIndex? i xs.length = some j /\ xs[j]? = some v /\ j < xs.length /\ -(xs.length : Int) <= i /\ i < xs.length := by
 unfold atI at h
 cases e : ixN xs.length i with
 | none => rw [e] at h; cases h
 | some j =>
  rw [e] at h
  obtain ⟨h1, h2, h3, h4⟩ := zhr e
  exact ⟨j, h1, h, h2, h3, h4⟩
theorem zcy {α : Type} {xs : List α} {j : Nat} {v : α} (h : xs[j]? = some v) : atI xs (j : Int) = some v := by
 have hj : j < xs.length := (List.getElem?_eq_some_iff.mp h).1
 have e : ixN xs.length (j : Int) = some j := by
  unfold ixN
  rw [if_pos (by omega), if_pos (by omega)]; simp
 unfold atI; rw [e]; exact h
def zdo (b : Expr) : Prop := ∀ o i, subscripted b false o i = operate [o, i] (getItem o i)
def IxR (X : Cx) (r : R2) : Prop :=
 ∀ (value slice : Expr) (pins : List (Addr × Obj)) (s : Shared) (σ : St) (H : Hp) (x y : V) (v u : Value) (Q : VK), Inv X pins σ H s -> RelV x v -> RelV y u -> r x y H Q ->
  subscripted slice false v u = operate [v, u] (getItem v u) -> wpAny (model X.prog X.w) X.A (subscriptTail value slice v u) (EP X pins σ Q) X.xe s
def MtR (X : Cx) (id : String) (r : V -> List V -> Hp -> VK -> Prop) : Prop :=
 ∀ (pins : List (Addr × Obj)) (s : Shared) (σ : St) (H : Hp) (x : V) (xs : List V) (v : Value) (us : List Value) (Q : VK), Inv X pins σ H s -> RelV x v -> Vals xs us -> r x xs H Q ->
  wpAny (model X.prog X.w) X.A (call (.builtin id) (v :: us)) (EP X pins σ Q) X.xe s
section
variable {X : Cx} {a b : Expr} {ta tb : TE} {pos : Pos}
theorem IxR.or {r r' : R2} (h : IxR X r) (h' : IxR X r') : IxR X (fun x y H Q => r x y H Q ∨ r' x y H Q) := by
 intro value slice pins s σ H x y v u Q I rx ry q hs
 rcases q with q | q
 ·exact h value slice pins s σ H x y v u Q I rx ry q hs
 ·exact h' value slice pins s σ H x y v u Q I rx ry q hs
theorem zi9 {r : R2} (hr : IxR X r) (ha : PE X a ta) (hb : PE X b tb) (hs : zdo b) : PE X (.Subscript a b pos) (tOp r ta tb) := by
 intro pins s σ H Q I h
 exact Subscript_ (binT ha hb I h fun v u s2 x y H2 I2 rx ry q => hr a b pins s2 σ H2 x y v u Q I2 rx ry q (hs _ _))
def rIxL (K : PySem.W.Frag) : R2 := fun x y H Q => ∃ p xs i v, x = .ref p /\ y = .int i /\ SqL K H p xs /\ atI xs i = some v /\ Q v H
def rIxT (K : PySem.W.Frag) : R2 := fun x y H Q => ∃ p xs i v, x = .ref p /\ y = .int i /\ SqT K H p xs /\ atI xs i = some v /\ Q v H
def rIxS : R2 := fun x y H Q => ∃ z i c, x = .str z /\ y = .int i /\ z.length <= sizeLine /\ atI z.cps.toList i = some c /\ Q (.str ⟨#[c]⟩) H
theorem zhs : IxR X (rIxL X.K) := by
 intro value slice pins s σ H x y v u Q I rx ry h hs
 obtain ⟨p, xs, i, z, rfl, rfl, hq, he, q⟩ := h
 cases rx
 obtain ⟨t, rfl⟩ := ry
 obtain ⟨its, r, pl, hz⟩ := I.list hq
 obtain ⟨j, h1, h2, h3, h4, h5⟩ := zdn he
 obtain ⟨w, ew, rw'⟩ := r.get h2
 have hl := r.length
 have hn := zdG
 have fin : EP X pins σ Q w s := ⟨z, H, I, rw', q⟩
 by_cases h0 : 0 <= i
 ·have hj : i.toNat = j := by
   rw [seqIndex_of h0 h5] at h1
   exact Option.some.inj h1
  exact item_listR pl.isList h0 (by omega) (by rw [hj]; simpa using ew) fin hs
 ·have hj : (i + (its.toArray.size : Int)).toNat = j := by
   rw [seqIndex_neg (by omega) h4] at h1
   rw [List.size_toArray, ← hl]
   exact Option.some.inj h1
  exact subscriptTail_builtinR (x := w) pl.isList.typeIs slot_list_getitem.lookup
   (wpAny_getItem_list_neg (Q := fun r s' => r = w /\ EP X pins σ Q r s') pl.isList (by omega) (by rw [List.size_toArray] <;> omega) (by omega) (by rw [hj]; simpa using ew) ⟨rfl, fin⟩) hs
theorem zja : IxR X (rIxT X.K) := by
 intro value slice pins s σ H x y v u Q I rx ry h hs
 obtain ⟨p, xs, i, z, rfl, rfl, hq, he, q⟩ := h
 cases rx
 obtain ⟨t, rfl⟩ := ry
 obtain ⟨its, r, pl, hz⟩ := I.tuple hq
 obtain ⟨j, h1, h2, h3, h4, h5⟩ := zdn he
 obtain ⟨w, ew, rw'⟩ := r.get h2
 have hl := r.length
 have hn := zdG
 have fin : EP X pins σ Q w s := ⟨z, H, I, rw', q⟩
 exact subscriptTail_builtinR (x := w) pl.typeIs slot_tuple_getitem.lookup
  (getItem_tuple (j := j) (Q := fun r s' => r = w /\ EP X pins σ Q r s') pl (by omega) (by omega) (by rw [List.size_toArray, ← hl]; exact h1) (by simpa using ew) ⟨rfl, fin⟩) hs
theorem zjb : IxR X rIxS := by
 intro value slice pins s σ H x y v u Q I rx ry h hs
 obtain ⟨z, i, c, rfl, rfl, hz, he, q⟩ := h
 obtain ⟨t, rfl⟩ := rx
 obtain ⟨t', rfl⟩ := ry
 obtain ⟨j, h1, h2, h3, h4, h5⟩ := zdn he
 have hl : z.cps.toList.length = z.length := by simp [Str.length]
 rw [hl] at h1 h4 h5
 have hn := zdG
 exact tail_any (typeIs_str s z t) slot_str_getitem.lookup (getItem_str (c := c) (by
  have e1 : decide (i < -(2 ^ 63 : Int)) = false := decide_eq_false (by omega)
  have e2 : decide (i ≥ 2 ^ 63) = false := decide_eq_false (by omega)
  rw [e1, e2, Bool.or_false]) (by rw [h1]; simpa using h2) ⟨.str ⟨#[c]⟩, H, I.tok _, ⟨_, rfl⟩, q⟩) hs
def rIx (K : PySem.W.Frag) : R2 := fun x y H Q => rIxL K x y H Q ∨ rIxT K x y H Q ∨ rIxS x y H Q
theorem zgY : IxR X (rIx X.K) := zhs.or (zja.or zjb)
theorem zcW (lo hi : Option Int) (n : Nat) : (sliceBounds lo hi none n).1 = ((HT.sIx n 0 lo : Nat) : Int) /\ (sliceBounds lo hi none n).2.1 = ((HT.sIx n n hi : Nat) : Int) /\ (sliceBounds lo hi none n).2.2 = 1 := by
 refine ⟨?_, ?_, rfl⟩
 ·cases lo with
  | none => simp [sliceBounds, HT.sIx]
  | some i =>
   simp only [sliceBounds, HT.sIx, Option.getD_none, show (1 : Int) > 0 by decide, if_true]
   by_cases h : i < 0
   ·simp only [h, if_true] <;> omega
   ·simp only [h, if_false] <;> omega
 ·cases hi with
  | none => simp [sliceBounds, HT.sIx]
  | some i =>
   simp only [sliceBounds, HT.sIx, Option.getD_none, show (1 : Int) > 0 by decide, if_true]
   by_cases h : i < 0
   ·simp only [h, if_true] <;> omega
   ·simp only [h, if_false] <;> omega
theorem zcz (its : List Value) (lo hi : Option Int) : slicePick its.toArray lo hi none = ((its.drop (HT.sIx its.length 0 lo)).take (HT.sIx its.length its.length hi - HT.sIx its.length 0 lo)).toArray := by
 obtain ⟨h1, h2, h3⟩ := zcW lo hi its.toArray.size
 unfold slicePick
 rw [h1, h2, h3]
 simp only [sliceRange_one, pick_run, List.size_toArray] <;> rfl
def rSlL (K : PySem.W.Frag) : V -> Option Int -> Option Int -> Hp -> VK -> Prop := fun x lo hi H Q => ∃ a xs, x = .ref a /\ SqL K H a xs /\ ∀ p, H p = none -> Q (.ref p) (upd H p (.lst (cutV xs lo hi)))
theorem zht : SlR X (rSlL X.K) := by
 intro pins s σ H x v vl vu lo hi sl Q I rx hs pl pu h
 obtain ⟨a, xs, rfl, hx, q⟩ := h
 cases rx
 obtain ⟨its, r, ht, hz⟩ := I.list hx
 have hlen := r.length
 refine ⟨"list", _, slot_list_getitem.lookup, ht.isList.typeIs, ?_⟩
 refine wpAny_getItem_list_slice ht.isList hs pl pu .none (by simp) ?_ (by rw [List.size_toArray] <;> omega)
 rw [zcz, ← hlen]
 refine ⟨.ref s.heap.objs.size, _, I.laid (t' := s.toks) (o := .lst (cutV xs lo hi)) (fun b ob q => Heap.get?_push_of_some _ q) (Nat.le_refl _) ?_, rfl, q _ (I.hok.fresh (Nat.le_refl _))⟩
 exact ⟨Nat.le_trans (zdm xs lo hi) hz, _, 0, (r.drop (HT.sIx xs.length 0 lo)).take (HT.sIx xs.length xs.length hi - HT.sIx xs.length 0 lo), Heap.get?_push_size _ rfl⟩
def tyV (K : PySem.W.Frag) (T : String) (x : V) (H : Hp) : Prop := match x with
 | .str _ => T = "str"
 | .int _ => T = "int"
 | .ref p => (T = "list" /\ ∃ xs, SqL K H p xs) ∨ (T = "tuple" /\ ∃ o, K.lookup p = some o /\ o.cls = .type "tuple" /\ o.dict = none) ∨
   (T = "dict" /\ ((∃ kvs, H p = some (.dK kvs)) ∨ ∃ kvs, H p = some (.dT kvs))) ∨ (T = "set" /\ ∃ S n, H p = some (.set S n))
 | _ => False
theorem zjc {pins : List (Addr × Obj)} {σ : St} {H : Hp} {s : Shared} {T : String} {x : V} {v : Value} (I : Inv X pins σ H s) (r : RelV x v) (ty : tyV X.K T x H) :
  s.TypeIs v T /\ ∀ a, v = .ref a -> ∃ ob, s.heap.get? a = some ob /\ ob.dict = none := by
 cases x with
 | str z =>
  obtain ⟨t, rfl⟩ := r
  cases (show T = "str" from ty)
  exact ⟨typeIs_str s z t, fun _ e => nomatch e⟩
 | int i =>
  obtain ⟨t, rfl⟩ := r
  cases (show T = "int" from ty)
  exact ⟨typeIs_int s i t, fun _ e => nomatch e⟩
 | ref p =>
  cases r
  rcases ty with ⟨rfl, xs, hq⟩ | ⟨rfl, o, hk, hc, hd⟩ | ⟨rfl, hk⟩ | ⟨rfl, S, n, hk⟩
  ·obtain ⟨its, _, pl, _⟩ := I.list hq
   refine ⟨pl.isList.typeIs, fun a e => ?_⟩
   cases e
   obtain ⟨o, n, e, c, hd, _⟩ := pl
   exact ⟨o, e, hd⟩
  ·refine ⟨⟨o, I.kIn p o hk, hc⟩, fun a e => ?_⟩
   cases e
   exact ⟨o, I.kIn _ o hk, hd⟩
  ·have z : ∃ o, s.heap.get? p = some o /\ o.ExactDict := by
    rcases hk with ⟨kvs, hk⟩ | ⟨kvs, hk⟩
    ·obtain ⟨_, _, _, _, o, _, _, e, ex, _⟩ := I.hok p _ hk
     exact ⟨o, e, ex⟩
    ·obtain ⟨_, _, _, _, o, _, _, e, ex, _⟩ := I.hok p _ hk
     exact ⟨o, e, ex⟩
   obtain ⟨o, e, ex⟩ := z
   refine ⟨⟨o, e, ex.1⟩, fun a e2 => ?_⟩
   cases e2
   exact ⟨o, e, ex.2.1⟩
  ·obtain ⟨o, _, _, _, e, ex, _⟩ := I.hok p _ hk
   refine ⟨⟨o, e, ex.1⟩, fun a e2 => ?_⟩
   cases e2
   exact ⟨o, e, ex.2.1⟩
 | _ => exact False.elim ty
def tBM (K : PySem.W.Frag) (T : String) (r : V -> List V -> Hp -> VK -> Prop) (to : TE) (t : TA) : TE := fun σ H Q => to σ H fun x H1 => tyV K T x H1 /\ t σ H1 fun xs H2 => r x xs H2 Q
variable {o e : Expr} {es : List Expr} {to : TE} {t : TA} {name : Str} {apos cpos : Pos} {T id : String} {r : V -> List V -> Hp -> VK -> Prop}
theorem zjd (pa : PlainAttrs T) (slot : Slot T name id) (hty : typeOf (.builtin id) = pure (.type "method_descriptor")) (hm : MtR X id r) (ho : PE X o to) (ha : PA X (e :: es) t)
  (hbase : attributeBase o name X.env (eval o X.env) = eval o X.env := by rfl)
  (hfew : ((backTo cpos (starEach (e :: es) X.env)).all (fun x => !x.1) && (backToKw cpos (keywordEach [] X.env)).all (fun x => x.1.isSome)
   && decide ((e :: es).length + ([] : List Keyword).length + (if ([] : List Keyword).isEmpty then 0 else 1) < 30)) = true := by rfl)
  (hline : (apos.endLine == cpos.line) = true := by rfl) (hs : starEach (e :: es) X.env = (false, eval e X.env) :: starEach es X.env := by rfl) (hplain : (backTo cpos (starEach es X.env)).any (·.1) = false := by rfl) :
  PE X (.Call (.Attribute o name apos) (e :: es) [] cpos) (tBM X.K T r to t) := by
 intro pins s σ H Q I h
 refine wpAny_Call_method_late hbase hfew hline rfl (thn (ho pins s σ H _ I h) fun v s1 ⟨x, H1, I1, r1, ty, q1⟩ => ?_)
 obtain ⟨h1, h2⟩ := zjc I1 r1 ty
 refine ⟨T, id, pa, slot, hty, h1, h2, ?_⟩
 have hA := ha cpos pins s1 σ H1 _ I1 q1
 rw [hs] at hA ⊢
 refine Calls.callWith_builtin (by show (false || (backTo cpos (starEach es X.env)).any (·.1)) = false; rw [hplain] <;> rfl) (Calls.evalArgs_plain ?_)
 exact thn hA fun us s2 ⟨vs, H2, I2, r2, q2⟩ => hm pins s2 σ H2 x vs v us Q I2 r1 r2 q2
end
end L2
namespace L2
open PySem PySem.Spec PyProof.Rows
def MtM (X : Cx) (id : String) (r : V -> List V -> Hp -> VK -> Prop) : Prop :=
 ∀ (pins : List (Addr × Obj)) (s : Shared) (σ : St) (H : Hp) (x : V) (xs : List V) (v : Value) (us : List Value) (Q : VK), Inv X pins σ H s -> RelV x v -> Vals xs us -> r x xs H Q ->
  wpAny (model X.prog X.w) X.A (call (.builtin id) (v :: us)) (EP X pins σ Q) X.xe s
theorem Vals.one : ∀ {x : V} {us : List Value}, Vals [x] us -> ∃ u, us = [u] /\ RelV x u
 | _, _, .cons r .nil => ⟨_, rfl, r⟩
theorem Vals.rep {xs : List V} {us : List Value} (h : Vals xs us) : ∀ k : Nat, Vals (List.replicate k xs).flatten (List.replicate k us).flatten
 | 0 => .nil
 | k + 1 => by
  rw [List.replicate_succ, List.replicate_succ, List.flatten_cons, List.flatten_cons]
  exact Vals.append h (Vals.rep h k)
theorem zcX (its : List Value) : ∀ (k : Nat) (acc : List Value),
  List.foldl (fun x1 x2 => x1 ++ x2) acc.toArray (List.replicate k its.toArray) = (acc ++ (List.replicate k its).flatten).toArray
 | 0, acc => by simp
 | k + 1, acc => by
  have e : acc.toArray ++ its.toArray = (acc ++ its).toArray := by simp
  have e2 : (acc ++ its) ++ (List.replicate k its).flatten = acc ++ (List.replicate (k + 1) its).flatten := by
   rw [List.replicate_succ, List.flatten_cons, List.append_assoc]
  rw [← e2, ← zcX its k (acc ++ its), ← e, List.replicate_succ, List.foldl_cons]
section
variable {X : Cx} {pins : List (Addr × Obj)} {σ : St} {H : Hp} {s : Shared} {l b : Addr} {xs ys zs : List V}
theorem Inv.lset {its its' : List Value} {n : Nat} {f : Array Value -> Array Value} {t' : Nat} (I : Inv X pins σ H s) (hH : H l = some (.lst xs))
  (e : s.heap.get? l = some { cls := .type "list", data := .seq its.toArray n }) (hf : f its.toArray = its'.toArray) (hv : Vals ys its') (hz : ys.length <= sizeLine) :
  Inv X pins σ (upd H l (.lst ys)) { s with heap := s.heap.update l (Obj.mapSeq f), toks := t' } := by
 have q := PySem.IsL.update e f
 rw [hf] at q
 refine I.write (x := l) (e := l) (by rw [hH]; exact trivial) (.inl rfl) (fun b' u hb hu => (Heap.get?_update_other s.heap (Obj.mapSeq f) (Ne.symm hb)).trans hu) ⟨_, q⟩ ?_
 exact ⟨hz, its', _, hv, q⟩
theorem Inv.lnew {its : List Value} {t' : Nat} (I : Inv X pins σ H s) (hv : Vals ys its) (hz : ys.length <= sizeLine) :
  Inv X pins σ (upd H s.heap.objs.size (.lst ys)) { s with heap := s.heap.push { cls := .type "list", data := .seq its.toArray }, toks := t' } :=
 I.laid (fun _ _ q => Heap.get?_push_of_some _ q) (Nat.le_refl _) ⟨hz, its, 0, hv, Heap.get?_push_size _ rfl⟩
theorem Inv.fresh (I : Inv X pins σ H s) : H s.heap.objs.size = none := I.hok.fresh (Nat.le_refl _)
theorem Inv.lstM (I : Inv X pins σ H s) (hH : H l = some (.lst xs)) : xs.length <= sizeLine /\ ∃ (its : List Value) (n : Nat), Vals xs its /\ xs.length = its.length /\ s.heap.get? l = some { cls := .type "list", data := .seq its.toArray n } := by
 obtain ⟨z, its, n, r, e⟩ := I.hok l _ hH
 exact ⟨z, its, n, r, r.length, e⟩
theorem zfU {n : Nat} (h : n <= sizeLine) : Builtin.List.listTooLong n = false := by
 unfold Builtin.List.listTooLong
 exact decide_eq_false (by omega)
end
section
variable {X : Cx}
def zhu : V -> List V -> Hp -> VK -> Prop := fun x vs H Q => ∃ l xs y, x = .ref l /\ vs = [y] /\ H l = some (.lst xs) /\ xs.length < sizeLine /\ Q .non (upd H l (.lst (xs ++ [y])))
theorem zcY : MtM X "list.append" zhu := by
 intro pins s σ H x vs v us Q I rx rv h
 obtain ⟨l, xs, y, rfl, rfl, hH, hz, q⟩ := h
 cases rx
 obtain ⟨u, rfl, ru⟩ := rv.one
 obtain ⟨z, its, n, r, hl, e⟩ := I.lstM hH
 refine call_meets F.slot_list_append ⟨_, e, rfl⟩ F.entry_list_append (F.args_list_append_2 _ _) (PySem.list_append l its.toArray n u (by rw [List.size_toArray]; omega)) ⟨e, ?_⟩
 refine ⟨.non, _, I.lset (its' := its ++ [u]) hH e (by simp) (r.append (.cons ru .nil)) ?_, rfl, q⟩
 rw [List.length_append, List.length_singleton]
 omega
theorem zhv {α : Type} (xs : List α) (k : Nat) : (List.replicate k xs).flatten.length = k * xs.length := by
 induction k with
 | zero => simp
 | succ k ih => rw [List.replicate_succ, List.flatten_cons, List.length_append, ih, Nat.succ_mul, Nat.add_comm]
end
section
variable {prog : Program} {w : World} {A : Around} {E : Value -> Shared -> Prop} {s : Shared}
set_option maxRecDepth 100000 in
end
section
variable {X : Cx}
end
end L2
namespace Att
open PySem PySem.W PySem.Calls PyProof.Rows
theorem zb2 {P : Params} {h : Heap} : ∀ (ns : List Int) (vs : List Value), WellAll P h vs (ns.map WData.int) -> IntsAre vs ns := by
 intro ns
 induction ns with
 | nil =>
  intro vs w
  rw [List.map_nil] at w
  cases w
  exact .nil
 | cons n ns ih =>
  intro vs w
  rw [List.map_cons] at w
  cases w with
  | cons a b =>
   cases a
   exact .cons _ _ (ih _ b)
theorem zeJ {l : OpenLaw} {n : Nat} (hn : l.most = some n) {P : Params} {h : Heap} {args : List WData} {vals : List Value}
  (hpre : l.row.toRowW.claim.pre args = true) (hwl : WellAll P h vals args) :
  ∃ a vs ns, vals = [Value.ref a] /\ args = [WData.list (ns.map WData.int)] /\ h.get? a = some { cls := .type "list", data := .seq vs.toArray } /\ IntsAre vs ns /\ ns.length <= n := by
 have hsh : WShape.hasAll [] args [.list .int] = true := (pre_splitW hpre).1
 have hc : l.pre.holds [] { args := args } = true := (pre_splitW hpre).2
 obtain ⟨d, r, rfl, h1, h2⟩ := hasAllW_cons hsh
 obtain rfl := hasAllW_nil h2
 obtain ⟨xs, rfl, h3⟩ := hasW_list h1
 obtain ⟨ns, rfl⟩ := items_int h3
 have hlen : ns.length <= n := by
  unfold OpenLaw.pre at hc
  have h4 : (WTm.not (.lt (.lit (.int (n : Int))) (.len (.arg 0)))).holds [] { args := [.list (ns.map .int)] } = true := by
   have h4 := (holds_andW hc).1
   rw [hn] at h4
   exact h4
  have h5 := condW_of h4 (w_not (w_lt w_lit (w_len_list (w_arg rfl))))
  rw [List.length_map] at h5
  refine Nat.le_of_not_lt fun q => ?_
  have q' : (n : Int) < ((ns.length : Nat) : Int) := by omega
  first
   | (rw [decide_eq_true q'] at h5; exact absurd h5 (by decide))
   | (simp at h5; omega)
 cases hwl with
 | cons w1 w2 =>
  cases w2
  cases w1 with
  | list ho hall => exact ⟨_, _, ns, rfl, rfl, ho, zb2 ns _ hall, hlen⟩
theorem zeK (l : OpenLaw) (args : List WData) : l.row.toRowW.claim.post args (.bool true) args = true :=
 postW_of (r := l.row.toRowW) (X := (true == true))
  (show WShape.has [] (.bool true) .bool = true by first | rfl | decide | simp [WShape.has, WShape.arms, WShape.armsAll])
  (show (WTm.eq .res (.lit (.bool true))).value [] { args := args, res := some (.bool true), after := args } = some (.bool (true == true)) from w_eq_bool (w_res rfl) w_lit) rfl
theorem attach_call {l : OpenLaw} {n : Nat} {q : Program} {loose : List Str} {XP : (Str -> Option Value) -> Heap -> Prop} {YP : World -> Heap -> Prop} {d : DefRec}
  (hn : l.most = some n) (hdf : d.params.defaults = [])
  (call : ∀ (w : World) (s₀ s₁ : Shared) (mg mb : Str -> Option Value) (fa : Addr) (o : Obj) (pm cd doc : Value) (a : Addr) (vs : List Value) (ns : List Int),
   Ground q loose [] XP w s₀ mg mb s₁.heap -> YP w s₁.heap ->
   s₁.heap.get? fa = some o -> o.data = .func (docDef d.name d.params d.body d.scope pm cd doc) -> s₁.heap.CodeRec cd d.name -> mg d.name = some (.ref fa) ->
   s₁.heap.get? a = some { cls := .type "list", data := .seq vs.toArray } -> IntsAre vs ns -> ns.length <= n -> s₁.gens = #[] ->
   codeAny (model l.prog w) callerA (.call (.ref fa) ⟨[.ref a], []⟩) (fun r s' => r = .ok (.ret (.bool true)) /\ OldK s₁.heap s'.heap /\ s'.os = s₁.os /\ AllBare s'.gens) s₁) :
  WalkO q loose XP YP l.row.toRowW d [] (fun f vs => PySem.call f vs) := by
 intro w s₀ s₁ mg mb G Y fa o pm cd doc dV kV ho hd hcd hD hmg hg args vals as hpre hlay hrd hwl hlo
 obtain rfl : dV = .none := Dflts.none hD hdf
 obtain rfl : kV = .none := Dflts.noKw hD
 obtain ⟨a, vs, ns, rfl, rfl, hobj, hints, hlen⟩ := zeJ hn hpre hwl
 refine enter_call (codeAny_mono (call w s₀ s₁ mg mb fa o pm cd doc a vs ns G Y ho (fd_plain hd) hcd hmg hobj hints hlen hg) fun r s' hq => ?_)
 obtain ⟨rfl, h2, h3, h4⟩ := hq
 exact ⟨.inl ⟨.bool true, .bool true, [], rfl, fun _ => rfl, .bool true, zeK l _, fun _ => ⟨List.Pairwise.nil, fun _ hm => (nomatch hm)⟩⟩, h2, h3, h4⟩
section
variable {prog : Program} {w : World} {A : Around} {E : Value -> Shared -> Prop} {s : Shared} {K : Frag}
end
end Att
namespace L2
open PySem PySem.Spec PyProof.Rows
theorem zcZ : ∀ {vs : List Value} {ns : List Int}, IntsAre vs ns -> Vals (ns.map V.int) vs
 | _, _, .nil => .nil
 | _, _, .cons n t h => .cons ⟨t, rfl⟩ (zcZ h)
def Only (H : Hp) : Prop := ∀ b, H b = none ∨ ∃ o xs, H b = some (.frz o (.lst xs))
theorem zfV {P : Program} {w : World} {K : PySem.W.Frag} {mg mb : Str -> Option Value} {CX : CXT} {k : Nat} {fa a : Addr} {fd : FuncData} {x : Str} {sp : Sp} {s₁ : Shared} {vs : List Value} {ns : List Int}
  (KX : K.In s₁.heap) (hns : s₁.heap.Ns mainGlobals mg) (hb : s₁.heap.Ns builtinsNs mb) (hbb : ∀ x : Str, x ≠ "__name__" -> mb x = bootBuiltins x) (hlim : s₁.heap.NoLimit) (hg : s₁.gens = #[])
  (ha : s₁.heap.get? a = some { cls := .type "list", data := .seq vs.toArray }) (hi : IntsAre vs ns) (hl : ns.length <= sizeLine) (hr : Room k callerA)
  (F : ∀ base : Heap, K.In base -> base.Ns mainGlobals mg -> FnOk P w K mg base CX k fa fd [x] sp) (hbind : ∀ (s : Shared) (u : Value), BindsTo s fd ⟨[u], []⟩ [(x, u)])
  (hsp : ∀ H : Hp, Only H -> SqL K H a (ns.map V.int) -> sp [.ref a] H (fun v _ => v = .bl true) fun _ _ _ => False)
  (hCX : ∀ H e s', CX [] H s₁ (fun _ _ _ => False) e s' -> False) :
  codeAny (model P w) callerA (.call (.ref fa) ⟨[.ref a], []⟩) (fun r s' => r = .ok (.ret (.bool true)) /\ OldK s₁.heap s'.heap /\ s'.os = s₁.os /\ AllBare s'.gens) s₁ := by
 have rv := zcZ hi
 have lenV := hi.length
 have core : ∀ H : Hp, Only H -> SqL K H a (ns.map V.int) -> HOk P w H s₁.heap -> (∀ b, H b ≠ none -> b = a) -> (H a ≠ none -> K.lookup a = none) ->
   codeAny (model P w) callerA (.call (.ref fa) ⟨[.ref a], []⟩) (fun r s' => r = .ok (.ret (.bool true)) /\ OldK s₁.heap s'.heap /\ s'.os = s₁.os /\ AllBare s'.gens) s₁ := by
  intro H hO hS hok hA hK
  have base_of : ∀ {b : Addr} {o : Obj}, s₁.heap.get? b = some o -> H b = none -> (hidT s₁.heap H).get? b = some o := fun e n => zfL e n
  have noA : ∀ {b : Addr} {o : Obj} {es : Array DictEntry} {ep : Nat}, s₁.heap.get? b = some o -> o.data = .dict es ep -> H b = none := fun {b o es ep} e d => by
   cases q : H b with
   | none => rfl
   | some u =>
    have e' : b = a := hA b (by rw [q]; simp)
    subst e'
    rw [ha] at e; cases e
    have d' : Data.seq vs.toArray _ = Data.dict es ep := d
    cases d'
  have nsK : ∀ {b : Addr} {m : Str -> Option Value}, s₁.heap.Ns b m -> (hidT s₁.heap H).Ns b m := fun {b m} ⟨o, es, ep, e, d, r⟩ => ⟨o, es, ep, base_of e (noA e d), d, r⟩
  have hKb : K.In (hidT s₁.heap H) := fun b o e => base_of (KX b o e) (by
   cases q : H b with
   | none => rfl
   | some u =>
    have e' : b = a := hA b (by rw [q]; simp)
    subst e'
    rw [hK (by rw [q]; simp)] at e; cases e)
  have hM : Mod K mg (hidT s₁.heap H) := ⟨hKb, nsK hns, ⟨mb, nsK hb, hbb⟩, let ⟨mc, h1, h2⟩ := hlim; ⟨mc, nsK h1, h2⟩⟩
  have e0 : Env0 P w K mg (hidT s₁.heap H) callerA [] s₁ H := ⟨rfl, hM, fun b o e => zhe e, Nat.le_of_eq (zeu _ _), trivial, fun b hb => absurd (show b ∈ ([] : List Addr) from hb) (by simp), hok, .of_eq hg⟩
  refine codeAny_mono ((F _ hKb (nsK hns)).run callerA [] s₁ H ⟨[.ref a], []⟩ [.ref a] [.ref a] _ _ hr e0 (hbind s₁ (.ref a)) (.cons rfl .nil) (hsp H hO hS)) fun r s' h => ?_
  cases r with
  | error e => exact (hCX H e s' h).elim
  | ok fl =>
   cases fl with
   | next => exact False.elim h
   | brk => exact False.elim h
   | cont => exact False.elim h
   | ret u =>
    obtain ⟨v, H', os, bare, un, hok', r', q⟩ := h
    have q' : v = .bl true := q
    subst q'
    obtain rfl : u = Value.bool true := r'
    refine ⟨rfl, OldK.of_keep fun b o e => ?_, os, bare⟩
    cases q : H b with
    | none => exact un.keep b o e q (by intro z; exact absurd (show b ∈ ([] : List Addr) from z) (by simp)) (by simp)
    | some u =>
     rcases hO b with z | ⟨ob, xs, z⟩
     ·rw [q] at z; cases z
     ·have z2 := un.frzs b ob _ z
      obtain ⟨e1, _⟩ := hok b _ z
      obtain ⟨e2, _⟩ := hok' b _ z2
      rw [e] at e1; cases e1
      exact e2
 cases hk : K.lookup a with
 | some o =>
  have e := KX a o hk
  rw [ha] at e
  cases e
  refine core (fun _ => none) (fun _ => .inl rfl) (.inr ⟨_, vs.toArray, _, hk, rfl, rfl, rfl, by rw [List.size_toArray, lenV]; exact hl, by simpa using rv⟩) (fun b u z => by have z' : (none : Option HO) = some u := z; cases z') (fun b z => absurd rfl z) fun z => absurd rfl z
 | none =>
  refine core (fun b => if b = a then some (.frz { cls := .type "list", data := .seq vs.toArray } (.lst (ns.map V.int))) else none) (fun b => ?_) (.inl (.inr ⟨{ cls := .type "list", data := .seq vs.toArray }, if_pos rfl⟩)) (fun b u z => ?_) (fun b z => ?_) fun _ => hk
  ·by_cases hb : b = a
   ·exact .inr ⟨_, _, if_pos hb⟩
   ·exact .inl (if_neg hb)
  ·by_cases hb : b = a
   ·have z' := (if_pos hb).symm.trans z
    cases z'
    subst hb
    exact ⟨ha, by rw [List.length_map]; exact hl, vs, _, rv, ha⟩
   ·have z' := (if_neg hb).symm.trans z
    cases z'
  ·by_cases hb : b = a
   ·exact hb
   ·exact absurd (if_neg hb) z
end L2
namespace L2
open PySem PySem.Spec PyProof.Rows
end L2
namespace L2
open PySem PySem.Spec PyProof.Rows
def zaZ (s : Stmt) : Arguments := match s with
 | .FunctionDef _ a _ _ _ _ _ _ _ _ => a
 | _ => { posonlyargs := [], args := [], vararg := none, kwonlyargs := [], kw_defaults := [], kwarg := none, defaults := [] }
def zaC (s : Stmt) : List Stmt := match s with
 | .FunctionDef _ _ b _ _ _ _ _ _ _ => b
 | _ => []
def zaf (s : Stmt) : Scope := match s with
 | .FunctionDef _ _ _ _ _ _ sc _ _ _ => sc
 | _ => { kind := .function, names := [], isGenerator := false, isCoroutine := false }
abbrev CX0 : CXT := fun _ _ _ _ _ _ => False
abbrev E0 : XK := fun _ _ _ => False
theorem zje {X : Cx} : zeG CX0 X E0 := fun _ _ _ _ _ _ _ h => h.elim
structure Fun (K : PySem.W.Frag) (x qual : Str) (st : Stmt) (f : Addr) (fd : FuncData) : Prop where
 ex : ∃ (oc : Value) (od : Option Addr) (kV doc pm : Value) (an : Option Addr) (cdv ct : Value) (osl : Array (Option Value)),
  fd = PySem.W.fnOf x qual (zaZ st) (zaC st) (zaf st) .none kV doc pm an cdv ct /\ K.lookup f = some ⟨oc, od, .func fd, osl⟩ /\ PySem.W.codeIn K cdv qual = true
 kp : PySem.W.keepIn K (.ref f) = true
section
variable {P : Program} {w : World} {K : PySem.W.Frag} {mg : Str -> Option Value} {base : Heap}
theorem Fun.ok {x qual : Str} {st : Stmt} {f : Addr} {fd : FuncData} {N ps : List Str} {k : Nat} {sp : Sp} (F : Fun K x qual st f fd) (S : zbI N ps (zaf st)) (len : ∀ vs H Q E, sp vs H Q E -> vs.length = ps.length)
  (hbody : ∀ (cdv : Value) (A : Around) (outer : List Env) (s : Shared) (H : Hp) (vs : List V) (Q : VK) (E : XK), Room k (A.deeper (envOfC qual (zaf st) s.heap.objs.size f cdv)) -> sp vs H Q E ->
   ∃ t, PSs (cxOf CX0 P w K mg base N qual (zaf st) f cdv A outer s H E).nox (zaC st) t /\ t { nx := fun _ H' => Q .non H', rt := Q } (zb1 N vs) H) : FnOk P w K mg base CX0 (k + 1) f fd ps sp := by
 obtain ⟨oc, od, kV, doc, pm, an, cdv, ct, osl, rfl, lk, hcd⟩ := F.ex
 refine zi8 lk hcd S len fun A outer s H vs Q E hr hsp => ?_
 obtain ⟨t, h, q⟩ := hbody cdv A outer s H vs Q E hr hsp
 exact ⟨t, h.nox, q⟩
theorem Fun.binds {x qual : Str} {st : Stmt} {f : Addr} {fd : FuncData} {ps : List Str} (F : Fun K x qual st f fd)
  (h : ∀ (kV doc pm : Value) (an : Option Addr) (cdv ct : Value) (us : List Value), us.length = ps.length -> bindArgs (PySem.W.fnOf x qual (zaZ st) (zaC st) (zaf st) .none kV doc pm an cdv ct) ⟨us, []⟩ = pure (ps.zip us)) : zbt K fd ps [] := by
 obtain ⟨oc, od, kV, doc, pm, an, cdv, ct, osl, rfl, lk, hcd⟩ := F.ex
 exact .all (h kV doc pm an cdv ct)
end
section
variable {X : Cx}
end
def Same (H H' : Hp) : Prop := ∀ b o, H b = some o -> H' b = some o
theorem Same.refl (H : Hp) : Same H H := fun _ _ h => h
theorem Same.trans {H H1 H2 : Hp} (a : Same H H1) (b : Same H1 H2) : Same H H2 := fun c o h => b c o (a c o h)
theorem Same.free {H H' : Hp} (e : Same H H') {l : Addr} (h : H' l = Option.none) : H l = Option.none := by
 cases q : H l with
 | none => rfl
 | some o =>
  rw [e l o q] at h
  cases h
theorem Same.seq {K : PySem.W.Frag} {H H' : Hp} {a : Addr} {xs : List V} (e : Same H H') (h : SqL K H a xs) : SqL K H' a xs := by
 rcases h with (h | ⟨o, h⟩) | h
 ·exact .inl (.inl (e _ _ h))
 ·exact .inl (.inr ⟨o, e _ _ h⟩)
 ·exact .inr h
end L2
namespace L2
open PySem PySem.Spec PyProof.Rows
section
variable {X : Cx} {pins : List (Addr × Obj)} {σ : St} {H : Hp} {s : Shared} {h' : Heap}
theorem Inv.turnedNew {t' : Nat} {fp : List Addr} {p : Addr} {o : HO} (I : Inv X pins σ H s) (hf : ∀ b ∈ fp, FpOk X pins H b)
  (k : ∀ b o, b ∉ fp -> s.heap.get? b = some o -> h'.get? b = some o) (hp : s.heap.objs.size <= p) (new : zbn X.prog X.w (upd H p o) h' p o) :
  Inv X pins σ (upd H p o) { s with heap := h', toks := t' } := by
 have hn : H p = none := I.hok.fresh hp
 have trk : ∀ b u, H b = some u -> b ∉ fp := fun b u e z => by rw [(hf b z).1] at e; cases e
 refine I.step (g' := s.gens) (d' := s.drawn) (ch := fp) (fun b hb => ?_) (fun b o _ _ hc e _ => k b o hc e) (fun b o _ _ hc e _ => ⟨o.slots, k b o hc e⟩)
  (fun b o _ e n => by rw [zak (Nat.ne_of_lt (Nat.lt_of_lt_of_le (Heap.lt_size e) hp))]; exact n) (fun b o hc e => ⟨o, k b o hc e⟩)
  (fun b xs e => by rw [zak (zat e hn)]; exact e) (fun b ob u e => by rw [zak (zat e hn)]; exact e) (fun b ps e => ⟨#[], by rw [zak (zat e hn), e]; simp⟩)
  (fun m hm => ?_) (fun b u e => ?_) I.bare
 ·obtain ⟨_, f1, _, f3, f4, f5⟩ := hf b hb
  exact ⟨f3, f1, f4, f5⟩
 ·obtain ⟨ob, es, ep, ho, r⟩ := hm
  exact ⟨ob, es, ep, k _ ob (fun z => (hf _ z).2.1 rfl) ho, r⟩
 ·by_cases hb : b = p
  ·subst hb; rw [zaj] at e; cases e; exact new
  ·rw [zak hb] at e
   refine (I.hok b u e).stay (fun c v hc q => k c v ?_ q) (fun c q => by rw [zak (zat q hn)]; exact q) fun c xs q => by rw [zak (zat q hn)]; exact q
   rcases hc with z | z
   ·rw [z]; exact trk b u e
   ·exact trk c _ z
theorem Inv.turnedL {t' : Nat} {fp : List Addr} (I : Inv X pins σ H s) (hf : ∀ b ∈ fp, FpOk X pins H b)
  (k : ∀ b o, b ∉ fp -> s.heap.get? b = some o -> h'.get? b = some o) : Inv X pins σ H { s with heap := h', toks := t' } := by
 have trk : ∀ b u, H b = some u -> b ∉ fp := fun b u e z => by rw [(hf b z).1] at e; cases e
 refine I.step (g' := s.gens) (d' := s.drawn) (ch := fp) (fun b hb => ?_) (fun b o _ _ hc e _ => k b o hc e) (fun b o _ _ hc e _ => ⟨o.slots, k b o hc e⟩)
  (fun _ _ _ _ n => n) (fun b o hc e => ⟨o, k b o hc e⟩) (fun _ _ e => e) (fun _ _ _ e => e) (fun b ps e => ⟨#[], by rw [e]; simp⟩) (fun m hm => ?_) (fun b u e => ?_) I.bare
 ·obtain ⟨_, f1, _, f3, f4, f5⟩ := hf b hb
  exact ⟨f3, f1, f4, f5⟩
 ·obtain ⟨ob, es, ep, ho, r⟩ := hm
  exact ⟨ob, es, ep, k _ ob (fun z => (hf _ z).2.1 rfl) ho, r⟩
 ·refine (I.hok b u e).stay (fun c v hc q => k c v ?_ q) (fun c q => q) fun c xs q => q
  rcases hc with z | z
  ·rw [z]; exact trk b u e
  ·exact trk c _ z
end
def Ite (K : PySem.W.Frag) (a : Addr) : It :=
 ⟨fun i H => ∃ xs x, SqL K H a xs /\ xs[i]? = some x,
  fun i H v H' => ∃ p x, H p = none /\ v = .ref p /\ (∀ xs, SqL K H a xs -> xs[i]? = some x) /\ H' = upd H p (.tup [.int i, x]),
  fun i H => ∃ xs, SqL K H a xs /\ xs.length <= i⟩
theorem zeL {P : Program} {w : World} {K : PySem.W.Frag} {elts : List Expr} {x1} {tp : Pos} (a e it : Addr) (hne : e ≠ it) :
  Turn P w K (.Tuple elts x1 tp) (Ite K a) [e, it] e (fun i h => (∃ old, IsEnum h e it i old) /\ h.IsListIter it a i) where
 mem := by simp
 obj := fun i h st b hb => by
  obtain ⟨⟨old, he⟩, o, ho, c, d⟩ := st
  have hb' : b = e ∨ b = it := by simpa using hb
  rcases hb' with rfl | rfl
  ·exact ⟨_, he, fun v z => by
    have z' : Data.fields _ = Data.cell v := z
    cases z'⟩
  ·exact ⟨o, ho, fun v z => by rw [d] at z; cases z⟩
 keep := fun i h h' st k => by
  obtain ⟨⟨old, he⟩, hi⟩ := st
  exact ⟨⟨old, k e (by simp) _ he⟩, hi.at fun o q => k it (by simp) o q⟩
 item := by
  intro X hP hw hK hc i pins s σ H E I hf st hg
  subst hP hw hK
  obtain ⟨⟨old, he⟩, hi⟩ := st
  obtain ⟨xs, x, hq, hx⟩ := hg
  obtain ⟨its, rv, p, hz⟩ := I.list hq
  obtain ⟨u, hu, ru⟩ := rv.get hx
  refine wpAny_pyNext_enum_item he hi p.isList (x := u) (by simpa using hu) hne fun h1 out hi1 ht hsz kk => ?_
  refine ⟨_, rfl, wpAny_letOwnedTupleGo_enum out fun h2 he2 hs2 => ?_⟩
  have hel : e < s.heap.objs.size := Heap.lt_size he
  have hs2' : Heap.SameBut e h1 h2 := hs2
  have ht2 : h2.get? s.heap.objs.size = some { cls := .type "tuple", data := .seq #[.int i s.toks, u] } := (hs2'.2 _ (Nat.ne_of_gt hel)).trans ht
  have kk2 : ∀ b o, b ∉ [e, it] -> s.heap.get? b = some o -> h2.get? b = some o := fun b o hb q => by
   have hbe : b ≠ e := fun z => hb (by simp [z])
   have hbi : b ≠ it := fun z => hb (by simp [z])
   exact (hs2'.2 b hbe).trans (kk b o hbe hbi q)
  have hn : H s.heap.objs.size = none := I.hok.fresh (Nat.le_refl _)
  have I2 : Inv X pins σ (upd H s.heap.objs.size (.tup [.int i, x])) { s with heap := h2, toks := s.toks + 1 } :=
   I.turnedNew (fp := [e, it]) hf kk2 (Nat.le_refl _) ⟨by show 2 <= sizeLine; decide, [.int i s.toks, u], .cons ⟨_, rfl⟩ (.cons ru .nil), ⟨_, ht2, rfl, _, rfl⟩⟩
  refine ⟨.ref s.heap.objs.size, _, I2, rfl, ⟨_, x, hn, rfl, fun ys hy => by rw [I.list_inj hy hq]; exact hx, rfl⟩, ⟨⟨u, ?_⟩, ?_⟩, fun b hb => ?_⟩
  ·have := he2
   simpa using this
  ·have hi2 : h2.IsListIter it a (i + 1) := hi1.at fun o q => (hs2'.2 it (Ne.symm hne)).trans q
   exact hi2
  ·have fr := (hf b hb)
   have hlt : b < s.heap.objs.size := by
    have hb' : b = e ∨ b = it := by simpa using hb
    rcases hb' with rfl | rfl
    ·exact hel
    ·obtain ⟨o, ho, _⟩ := hi; exact Heap.lt_size ho
   rw [zak (Nat.ne_of_lt hlt)]
   exact fr.1
 done := by
  intro X hP hw hK hc i pins s σ H E I hf st hg
  subst hP hw hK
  obtain ⟨⟨old, he⟩, hi⟩ := st
  obtain ⟨xs, hq, hx⟩ := hg
  obtain ⟨its, rv, p, hz⟩ := I.list hq
  have hl := rv.length
  exact wpAny_pyNext_enum_end (I.ok.hd hc) he hi p.isList (by simp; omega) fun h' eb => ⟨rfl, I.turnedL (t' := s.toks) hf fun b o hb q => eb b o (fun z => hb (by simp [z])) q⟩
 self := fun _ _ _ _ _ st h => by
  obtain ⟨⟨old, he⟩, _⟩ := st
  exact wpAny_pyIter_enum he h
section
variable {X : Cx}
def zkA (K : PySem.W.Frag) (ta : TA) : TI := fun σ H R => ta σ H fun vs H1 => ∃ a xs, vs = [.ref a] /\ SqL K H1 a xs /\ R (Ite K a) H1
theorem zhw {a : Expr} {ta : TA} {p pos : Pos} {elts : List Expr} {x1} {tp : Pos} (hg : Gl X "enumerate") (hm : X.mg "enumerate" = none) (ha : PA X [a] ta)
  (hs : starEach [a] X.env = [(false, eval a X.env)] := by rfl) : PI X (.Tuple elts x1 tp) (.Call (.Name "enumerate" p) [a] [] pos) (zkA X.K ta) := by
 intro pins s σ H R I h
 refine Call_ (zco I hg hm boot_enumerate (PyProof.Rows.callWith_type1 (thn (ha pos pins s σ H _ I h) fun us s1 ⟨vs, H1, I1, r1, q1⟩ => ?_) hs rfl))
 obtain ⟨l, xs, e, hq, q⟩ := q1
 subst e
 cases r1 with
 | cons r rr =>
  cases rr
  cases (show _ = Value.ref l from r)
  obtain ⟨its, rv, pl, hz⟩ := I1.list hq
  refine call_enumerate_list pl.isList fun h' he hi hsz kk => ?_
  have I2 : Inv X pins σ H1 { s1 with heap := h' } := I1.kept (t' := s1.toks) kk
  refine wpAny_pyIter_enum he ?_
  refine ⟨s1.heap.objs.size + 1, [s1.heap.objs.size + 1, s1.heap.objs.size], _, _, H1, rfl, I2, zeL l _ _ (Nat.succ_ne_self _), ⟨⟨_, he⟩, hi⟩, fun b hb => ?_, q⟩
  have hb' : b = s1.heap.objs.size + 1 ∨ b = s1.heap.objs.size := by simpa using hb
  rcases hb' with rfl | rfl
  ·exact I1.fpOk (Nat.le_succ _) (I1.hok.fresh (Nat.le_succ _))
  ·exact I1.fpOk (Nat.le_refl _) (I1.hok.fresh (Nat.le_refl _))
end
end L2
namespace L2
open PySem PySem.Spec PyProof.Rows
section
variable {κ : Type} [DecidableEq κ]
end
section
variable {P : Program} {w : World} {H : Hp} {h : Heap} {a : Addr}
end
section
variable {X : Cx} {pins : List (Addr × Obj)} {σ : St} {H : Hp} {s : Shared} {a : Addr} {y v : V} {u r : Value} {o : Option V} {A : Around} {E : Value -> Shared -> Prop}
end
section
variable {X : Cx} {pins : List (Addr × Obj)} {σ : St} {H : Hp} {s : Shared} {a : Addr} {kvs : List (Key × V)} {k : Key} {u : Value} {A : Around} {E : Value -> Shared -> Prop}
end
section
variable {X : Cx} {o i e value : Expr} {pos pos' tpos : Pos} {td ty tv : TE}
end
section
variable {X : Cx} {pos : Pos}
end
end L2
namespace L2
open PySem PySem.Spec
def Tail (bmB bm : List Value) : Prop := ∀ (X : String) (b : Bool), bmB.contains (.type X) = b -> bm.contains (.type X) = b
theorem Tail.base {bmB : List Value} : Tail bmB bmB := fun _ _ h => h
theorem Tail.own {bmB bm : List Value} {D : Addr} (T : Tail bmB bm) : Tail bmB (.ref D :: bm) := fun X b h => by rw [List.contains_cons, T X b h]; rfl
section
variable {prog : Program} {w : World} {A : Around} {E : Value -> Shared -> Prop} {h : Heap} {g : Array GenState} {d : Drawn} {t : Nat} {os : OsState} {R : Result -> Shared -> Prop}
variable {nm q : Str} {C N : Addr} {bs bm bmB : List Value} {hdct : Bool} {sn : List Str} {sub : List Value} {ab : Bool} {col : Option Bool} {dd : Option Addr} {k0 k1 k2 k3 k5 : Option Value} {B newId initId : String}
theorem zea {M : Model} (F : ExcBaseFacts B newId initId bmB) (T : Tail bmB bm) {rest : List Value} {Q : Unit -> Shared -> Prop} (hC : h.get? C = some (excClassObj nm q C N bs bm hdct sn sub ab col dd k0 k1 k2 k3 k5 newId))
  (hq : Q () ⟨h, g, d, t, os⟩) : wpAny M A (checkBuiltinCall newId ⟨.ref C :: rest, []⟩) Q E ⟨h, g, d, t, os⟩ := by
 have hcont : (Value.ref C :: bm).contains (.type B) = true := by rw [List.contains_cons, T _ _ F.hasB, Bool.or_true]
 have hstar := F.noStar
 simp only [checkBuiltinCall, F.newKind, F.newSplit, F.newRow]
 repeat (first | refine wpAny_loadPart_at hC ?_ | (refine wpAny_isSubtype_exc hC ?_; rw [hcont]) | refine wpAny_staticBase_exc hC ?_ | refine wpAny_madeBy_exc hC ?_ | simp only [bne_self_eq_false, Bool.false_eq_true, if_false] | wp_step)
 exact hq
theorem zfW (F : ExcBaseFacts B newId initId bmB) (T : Tail bmB bm) {rest : List Value} (hC : h.get? C = some (excClassObj nm q C N bs bm hdct sn sub ab col dd k0 k1 k2 k3 k5 newId))
  (hq : R (.ok (.ret (.ref (h.objs.size + 1)))) ⟨(h.push { cls := .type "tuple", data := .seq rest.toArray }).push
   { cls := .ref C, data := .fields #[.ref h.objs.size, .none, .none, .none, .bool false, .none] }, g, d, t, os⟩) (hrest : rest.length <= sizeLine) :
  codeAny (model prog w) A (.builtin newId ⟨.ref C :: rest, []⟩) R ⟨h, g, d, t, os⟩ := by
 have hends := F.ends
 have hcB : (Value.ref C :: bm).contains (.type B) = true := by rw [List.contains_cons, T _ _ F.hasB, Bool.or_true]
 have hcA : (Value.ref C :: bm).contains (.type "AttributeError") = false := by rw [List.contains_cons, T _ _ F.noAttr]; rfl
 have hcN : (Value.ref C :: bm).contains (.type "NameError") = false := by rw [List.contains_cons, T _ _ F.noName]; rfl
 refine codeAny_builtinAt F.entry ?_
 unfold Builtin.«BaseException.__new__»
 refine wpAt_bind ?_
 show wpAt _ _ _ (stack >>= _) _ _ _
 refine wpAt_bind (wpAt_stack fun p below => wpAt_of_wpAny ?_)
 wp_walk
 refine wpAt_of_wpAny ?_
 rw [F.owner]
 repeat (first | with_reducible refine wpAny_madeHere_exc F.canon hC ?_ | with_reducible refine wpAny_loadPart_at hC ?_ | (with_reducible refine wpAny_isSubtype_exc hC ?_; first | rw [hcB] | rw [hcA] | rw [hcN]) | wp_step)
 show R _ _
 rw [Heap.size_push]
 exact hq
def zgZ (M : Model) (C fI : Addr) (h : Heap) : Prop := ∀ (A : Around) (E : Value -> Shared -> Prop) (Q : Option Value -> Shared -> Prop) (h' : Heap) (g : Array GenState) (d : Drawn) (t : Nat) (os : OsState),
 (∀ b o, h.get? b = some o -> h'.get? b = some o) -> Q (some (.ref fI)) ⟨h', g, d, t, os⟩ -> wpAny M A (typeLookup (.ref C) "__init__") Q E ⟨h', g, d, t, os⟩
theorem zeb (F : ExcBaseFacts B newId initId bmB) (T : Tail bmB bm) {rest : List Value} {fI : Addr} {oI : Obj} {Q : Fin -> Shared -> Prop}
  (hC : h.get? C = some (excClassObj nm q C N bs bm hdct sn sub ab col dd k0 k1 k2 k3 k5 newId)) (hi : zgZ (model prog w) C fI h)
  (hfI : h.get? fI = some oI) (hfc : oI.cls = .type "function")
  (hq : ∀ h' e, Heap.MadeExcOf h h' e (.ref C) rest -> h.objs.size <= e ->
   wpAny (model prog w) A (call (.ref fI) (.ref e :: rest)) (fun r s' => r = .none /\ Q (.done (.ret (.ref e))) s') E ⟨h', g, d, t, os⟩) (hrest : rest.length <= sizeLine) :
  wpAny (model prog w) A (Builtin.«type.__call__» ⟨.ref C :: rest, []⟩) Q E ⟨h, g, d, t, os⟩ := by
 repeat (first | with_reducible refine wpAny_loadPart_at hC ?_ | with_reducible refine wpAny_madeBy_exc hC ?_ | wp_step)
 refine codeAny_call_builtin_code (Code.quiet_builtin _ F.quiet) (zea F T hC ?_)
 refine zfW F T hC ?_ hrest
 show wpAny _ _ _ _ _ _
 have hC₁ := Heap.get?_push_of_some { cls := .ref C, data := .fields #[.ref h.objs.size, .none, .none, .none, .bool false, .none] }
  (Heap.get?_push_of_some { cls := .type "tuple", data := .seq rest.toArray } hC)
 have hfI₁ := Heap.get?_push_of_some { cls := .ref C, data := .fields #[.ref h.objs.size, .none, .none, .none, .bool false, .none] }
  (Heap.get?_push_of_some { cls := .type "tuple", data := .seq rest.toArray } hfI)
 have hget : ((h.push { cls := .type "tuple", data := .seq rest.toArray }).push
   { cls := .ref C, data := .fields #[.ref h.objs.size, .none, .none, .none, .bool false, .none] }).get? (h.objs.size + 1) = some
   { cls := .ref C, data := .fields #[.ref h.objs.size, .none, .none, .none, .bool false, .none] } := by heap_get
 have hcC : (Value.ref C :: bm).contains (.ref C) = true := by simp
 unfold isInstance
 repeat (first | with_reducible refine wpAny_loadPart_at hget ?_ | (with_reducible refine wpAny_isSubtype_exc hC₁ ?_; rw [hcC]) | wp_step)
 show wpAny _ _ (typeLookup (.ref C) _) _ _ _
 refine hi _ _ _ _ _ _ _ _ (fun b o hb => Heap.get?_push_of_some _ (Heap.get?_push_of_some _ hb)) ?_
 refine wpAny_holding (wpAny_bind ?_)
 unfold bindSpecial
 refine wpAny_bind (wpAny_typeOf (T := "function") ⟨_, hfI₁, hfc⟩ ?_)
 rw [if_pos (by decide)]
 refine wpAny_pure (wpAny_bind (wpAny_mono (hq _ (h.objs.size + 1) ⟨fun b o hb => Heap.get?_push_of_some _ (Heap.get?_push_of_some _ hb), Heap.get?_none_of_le (Nat.le_succ _), h.objs.size, hget, Heap.get?_none_of_le (Nat.le_refl _), ?_⟩ (Nat.le_succ _)) (fun r s' hr => ?_) fun _ _ x => x))
 ·exact Heap.get?_push_of_some _ (Heap.get?_push_at rfl rfl)
 ·obtain ⟨rfl, hQ⟩ := hr
  wp_walk
  exact hQ
theorem zeM (F : ExcBaseFacts B newId initId bmB) (T : Tail bmB bm) {rest : List Value} {fI : Addr} {oI : Obj} {Q : Value -> Shared -> Prop}
  (hC : h.get? C = some (excClassObj nm q C N bs bm hdct sn sub ab col dd k0 k1 k2 k3 k5 newId)) (hi : zgZ (model prog w) C fI h)
  (hfI : h.get? fI = some oI) (hfc : oI.cls = .type "function")
  (hq : ∀ h' e, Heap.MadeExcOf h h' e (.ref C) rest -> h.objs.size <= e ->
   wpAny (model prog w) (A.under (.builtin "type.__call__" ⟨.ref C :: rest, []⟩)) (call (.ref fI) (.ref e :: rest)) (fun r s' => r = .none /\ Q (.ref e) s') E ⟨h', g, d, t, os⟩) (hrest : rest.length <= sizeLine) :
  wpAny (model prog w) A (call (.ref C) rest) Q E ⟨h, g, d, t, os⟩ := by
 have f1 := tc_lookup
 have f2 := tc_bind (.ref C)
 have hT : (⟨h, g, d, t, os⟩ : Shared).TypeIs (.ref C) "type" := ⟨_, hC, rfl⟩
 refine wpAny_call (codeAny_of_tree ?_)
 show wpAny _ _ (callAny (.ref C) _) _ _ _
 repeat (any_goals (first | assumption | with_reducible refine wpAny_loadPart_at hC ?_ | wp_step))
 refine ⟨rfl, ?_⟩
 refine codeAny_call_builtin_at (Code.quiet_builtin _ (by decide +kernel)) entry_typeCall (wpAny_check_type_call_sub hC (zeb (hrest := hrest) F T hC hi hfI hfc fun h' e hm hz => ?_))
 exact hq h' e hm hz
end
end L2
namespace L2
open PySem PySem.Spec
def zaH (M : Model) (C : Addr) (name : Str) (r : Option Value) (h : Heap) : Prop := ∀ (A : Around) (E : Value -> Shared -> Prop) (Q : Option Value -> Shared -> Prop) (h' : Heap) (g : Array GenState) (d : Drawn) (t : Nat) (os : OsState),
 (∀ b o, h.get? b = some o -> h'.get? b = some o) -> Q r ⟨h', g, d, t, os⟩ -> wpAny M A (typeLookup (.ref C) name) Q E ⟨h', g, d, t, os⟩
theorem zaH.keeps {M : Model} {C : Addr} {name : Str} {r : Option Value} {h h' : Heap} (x : zaH M C name r h) (k : ∀ b o, h.get? b = some o -> h'.get? b = some o) : zaH M C name r h' :=
 fun A E Q h2 g d t os k2 q => x A E Q h2 g d t os (fun b o e => k2 b o (k b o e)) q
theorem zaH.at {M : Model} {A : Around} {E : Value -> Shared -> Prop} {Q : Option Value -> Shared -> Prop} {C : Addr} {name : Str} {r : Option Value} {h : Heap} {g : Array GenState} {d : Drawn} {t : Nat} {os : OsState} (x : zaH M C name r h) (q : Q r ⟨h, g, d, t, os⟩) : wpAny M A (typeLookup (.ref C) name) Q E ⟨h, g, d, t, os⟩ :=
 x A E Q h g d t os (fun _ _ e => e) q
section
variable {prog : Program} {w : World} {A : Around} {E : Value -> Shared -> Prop} {h : Heap} {g : Array GenState} {d : Drawn} {t : Nat} {os : OsState} {R : Result -> Shared -> Prop}
variable {nm q : Str} {C N x : Addr} {bs bm bmB : List Value} {hdct : Bool} {sn : List Str} {sub : List Value} {ab : Bool} {col : Option Bool} {dd : Option Addr} {k0 k1 k2 k3 k5 : Option Value} {B newId sa owner : String} {mN mA : Str -> Option Value} {name : Str} {v : Value}
def zbz (M : Model) (l : List Value) (name : Str) (r : Option Value) (h : Heap) : Prop := ∀ (A : Around) (E : Value -> Shared -> Prop) (Q : Option Value -> Shared -> Prop) (h' : Heap) (g : Array GenState) (d : Drawn) (t : Nat) (os : OsState),
 (∀ b o, h.get? b = some o -> h'.get? b = some o) -> Q r ⟨h', g, d, t, os⟩ -> wpAny M A (lookupAlong l name) Q E ⟨h', g, d, t, os⟩
theorem zbz.base {M : Model} {y : Option Value} (hm : mroOf (.type B) = pure bm) (hB : typeLookup (.type B) name = pure y) : zbz M bm name y h := fun A E Q h' g d t os k q => by
 rw [typeLookup_eq, hm] at hB
 have hrest : lookupAlong bm name = pure y := hB
 rw [hrest]
 exact wpAny_pure q
theorem zbz.hit {M : Model} {D : Addr} {c0 : Value} {dd' : Option Addr} {cd : ClassData} {sl : Array (Option Value)} (hD : h.get? D = some { cls := c0, dict := dd', data := .cls cd, slots := sl }) (hn : h.Ns cd.ns mN) (hi : mN name = some v) : zbz M (.ref D :: bm) name (some v) h := fun A E Q h' g d t os k q => by
 rw [lookupAlong_cons]
 refine wpAny_bind (wpAny_classOwn_cls (k _ _ hD) (hn.keeps k) ?_)
 rw [hi]
 exact wpAny_pure q
theorem zbz.miss {M : Model} {D : Addr} {r : Option Value} {c0 : Value} {dd' : Option Addr} {cd : ClassData} {sl : Array (Option Value)} (hD : h.get? D = some { cls := c0, dict := dd', data := .cls cd, slots := sl }) (hn : h.Ns cd.ns mN) (hi : mN name = none) (f : zbz M bm name r h) : zbz M (.ref D :: bm) name r h := fun A E Q h' g d t os k q => by
 rw [lookupAlong_cons]
 refine wpAny_bind (wpAny_classOwn_cls (k _ _ hD) (hn.keeps k) ?_)
 rw [hi]
 exact f A E Q h' g d t os k q
theorem zaH.of {M : Model} {r : Option Value} (hC : h.get? C = some (excClassObj nm q C N bs bm hdct sn sub ab col dd k0 k1 k2 k3 k5 newId)) (f : zbz M (.ref C :: bm) name r h) : zaH M C name r h := fun A E Q h' g d t os k q => by
 rw [typeLookup_eq]
 exact wpAny_bind (wpAny_mroOf_exc (k _ _ hC) (f A E Q h' g d t os k q))
theorem zeN {M : Model} {o : Obj} {nameV : Value} {Q : Unit -> Shared -> Prop} (SF : StoreFacts B bmB sa owner) (T : Tail bmB bm)
  (hC : h.get? C = some (excClassObj nm q C N bs bm hdct sn sub ab col dd k0 k1 k2 k3 k5 newId)) (hx : h.get? x = some o) (hc : o.cls = .ref C) (hq : Q () ⟨h, g, d, t, os⟩) :
  wpAny M A (checkBuiltinCall sa ⟨[.ref x, nameV, v], []⟩) Q E ⟨h, g, d, t, os⟩ := by
 have hcB : (Value.ref C :: bm).contains (.type owner) = true := by rw [List.contains_cons, T _ _ SF.hasOwner, Bool.or_true]
 have ha := SF.args (.ref x) nameV v
 simp only [checkBuiltinCall, SF.kind, SF.split]
 refine wpAny_bind ?_
 ·unfold isInstance
  repeat (first | (with_reducible refine wpAny_loadPart_at hx ?_; rw [hc]) | (with_reducible refine wpAny_isSubtype_exc hC ?_; rw [hcB]) | wp_step)
  cases hsig : Manifest.signature? sa with
  | none => exact wpAny_pure hq
  | some sig =>
   simp only [argsOk, hsig] at ha
   have h2 : Bind.checkArgs sa sig ⟨[.ref x, nameV, v], []⟩ = pure () := ha
   show wpAny M A (Bind.checkArgs sa sig ⟨[.ref x, nameV, v], []⟩) Q E _
   rw [h2]; exact wpAny_pure hq
theorem zc0 {tk : Tok} {Q : PySem.Fin -> Shared -> Prop} {ns : List Str} (hpass : refuseLoop (.ref x) "__setattr__" bm = pure ())
  (hC : h.get? C = some (excClassObj nm q C N bs bm true sn sub ab col dd k0 k1 k2 k3 k5 newId)) (hf : zaH (model prog w) C name none h) (I : h.InstFk x C mA)
  (hq : ∀ h' tk', h'.InstFk x C (fun y => if y = name then some v else mA y) ->
   (∀ b o, b ≠ x -> (∀ o₀ dx, h.get? x = some o₀ -> o₀.dict = some dx -> b ≠ dx) -> h.get? b = some o -> h'.get? b = some o) ->
   (∀ o₀, h.get? x = some o₀ -> ∃ o₁, h'.get? x = some o₁ /\ o₁.cls = o₀.cls /\ o₁.data = o₀.data /\ o₁.slots = o₀.slots /\ ∀ dx, o₀.dict = some dx -> o₁.dict = some dx) -> (∀ o₀ o₁ dx, h.get? x = some o₀ -> o₀.dict = none -> h'.get? x = some o₁ -> o₁.dict = some dx -> h.objs.size <= dx) -> Q (.done (.ret .none)) ⟨h', g, d, tk', os⟩) (hw : PySem.Within mA ns) (hsz : ns.length <= 1000) :
  wpAny (model prog w) A (Builtin.«object.__setattr__» ⟨[.ref x, .str name tk, v], []⟩) Q E ⟨h, g, d, t, os⟩ := by
 obtain ⟨o, hx, hc, hnc, hd⟩ := I
 have hs2 : ns.length <= sizeLine := by rw [sizeLine_eq]; omega
 unfold Builtin.«object.__setattr__»
 repeat (first | rw [refuse_eq] | (rw [refuseLoop_ref, hpass]) | (with_reducible refine wpAny_loadPart_at hx ?_; rw [hc]) | with_reducible refine wpAny_mroOf_exc hC ?_ | with_reducible refine hf.at ?_ | wp_step)
 rcases hd with ⟨hdn, hmA⟩ | ⟨dx, hdx, hne, hns, hed⟩
 ·
  rw [hdn, if_neg (by simp [typeHasDict])]
  split
  ·rename_i hcd
   cases hcd
  split
  ·rename_i c hcd
   exact absurd hcd (hnc c)
  ·have hx₁ : (h.push { cls := .type "dict", data := .dict #[] }).get? x = some o := Heap.get?_push_of_some _ hx
   have hxs : x ≠ h.objs.size := Nat.ne_of_lt (Heap.lt_size hx)
   refine wpAny_bind (wpAny_alloc' ?_)
   refine wpAny_bind (wpAny_update' hx₁ ?_)
   refine wpAny_pure ?_
   have hgd : ((h.push { cls := .type "dict", data := .dict #[] }).update x fun o => { cls := o.cls, dict := some h.objs.size, data := o.data, slots := o.slots }).get? h.objs.size
     = some { cls := .type "dict", data := .dict #[] } :=
    (Heap.get?_update_ne _ _ _ _ hxs.symm).trans (Heap.get?_push_at rfl rfl)
   have hnd : ((h.push { cls := .type "dict", data := .dict #[] }).update x fun o => { cls := o.cls, dict := some h.objs.size, data := o.data, slots := o.slots }).Ns h.objs.size (fun _ => none) :=
    ⟨_, #[], _, hgd, rfl, fun e he => absurd he (by simp), fun _ => rfl⟩
   show wpAny _ _ (Builtin.ObjectAttr.storeInDict h.objs.size (.str name tk) name v) _ _ _
   unfold Builtin.ObjectAttr.storeInDict Builtin.ObjectAttr.newKeyGuard
   refine wpAny_bind (wpAny_pure (wpAny_bind (wpAny_nsSet1EFk (Heap.Ns1.of_empty hnd) fun h' hn' hs hkeepD => ?_)))
   obtain ⟨oD, esD, epD, hoD, hdD, hcD⟩ := hn'.count (PySem.Within.cons name v PySem.Within.nil)
   refine wpAny_bind (wpAny_lookBehind hoD (by rw [hdD]; exact pastItsLine_dict (Nat.le_trans hcD (by rw [List.length_cons, List.length_nil, sizeLine_eq]; omega))) ?_)
   wp_walk
   have hx' : h'.get? x = some { cls := o.cls, dict := some h.objs.size, data := o.data, slots := o.slots } := ?_
   refine hq h' _ ⟨{ cls := o.cls, dict := some h.objs.size, data := o.data, slots := o.slots }, hx', hc, hnc, .inr ⟨h.objs.size, rfl, hxs.symm, ?_, (let ⟨od', e', c', d'⟩ := hkeepD _ hgd; ⟨od', e', c', d'⟩)⟩⟩ (fun b ob hbx _ hb => ?_)
    (fun o₀ h₀ => by obtain rfl : o = o₀ := Option.some.inj (hx.symm.trans h₀); exact ⟨_, hx', rfl, rfl, rfl, fun dx e => by rw [hdn] at e; cases e⟩)
    (fun o₀ o₁ dx _ _ e1 e2 => by rw [hx'] at e1; cases e1; cases e2; exact Nat.le_refl _)
   ·obtain ⟨o', es, ep, e1, e2, e3, eu, e4⟩ := hn'
    exact ⟨o', es, ep, e1, e2, e3, eu, fun y => by rw [e4 y]; by_cases hy : y = name <;> simp [hy, hmA]⟩
   ·exact (hs.2 b (Nat.ne_of_lt (Heap.lt_size hb))).trans ((Heap.get?_update_ne _ _ _ _ hbx).trans (Heap.get?_push_of_some _ hb))
   ·refine (hs.2 x hxs).trans (Heap.get?_update_self _ hx₁ ?_)
    have hfr := (Heap.get?_some_iff.mp hx).2
    obtain ⟨oc, od, odt, osl⟩ := o
    cases odt <;> first | rfl | exact hfr
 ·
  rw [hdx]
  refine wpAny_pure ?_
  show wpAny _ _ (Builtin.ObjectAttr.storeInDict dx (.str name tk) name v) _ _ _
  unfold Builtin.ObjectAttr.storeInDict Builtin.ObjectAttr.newKeyGuard
  refine wpAny_bind (wpAny_pure (wpAny_bind (wpAny_nsSet1EFk hns fun h' hn' hs hkeepD => ?_)))
  obtain ⟨oD, esD, epD, hoD, hdD, hcD⟩ := hn'.count (PySem.Within.cons name v hw)
  refine wpAny_bind (wpAny_lookBehind hoD (by rw [hdD]; exact pastItsLine_dict (Nat.le_trans hcD (by rw [List.length_cons, sizeLine_eq]; omega))) ?_)
  wp_walk
  refine hq h' _ ⟨o, (hs.2 x hne.symm).trans hx, hc, hnc, .inr ⟨dx, hdx, hne, hn', (let ⟨od, e, c, dd⟩ := hed; let ⟨od', e', c', d'⟩ := hkeepD od e; ⟨od', e', c'.trans c, d'.trans dd⟩)⟩⟩ (fun b ob _ hbd hb => ?_)
   (fun o₀ h₀ => ⟨o₀, (hs.2 x hne.symm).trans h₀, rfl, rfl, rfl, fun _ e => e⟩)
   (fun o₀ o₁ dx' e0 e1 _ _ => by rw [hx] at e0; cases e0; rw [hdx] at e1; cases e1)
  exact (hs.2 b (hbd o dx hx hdx)).trans hb
theorem zb3 {Q : Unit -> Shared -> Prop} {ns : List Str} (SF : StoreFacts B bmB sa owner) (T : Tail bmB bm) (hpass : refuseLoop (.ref x) "__setattr__" bm = pure ())
  (hC : h.get? C = some (excClassObj nm q C N bs bm true sn sub ab col dd k0 k1 k2 k3 k5 newId)) (hfs : zaH (model prog w) C "__setattr__" (some (.builtin sa)) h) (hf : zaH (model prog w) C name none h) (I : h.InstFk x C mA)
  (hq : ∀ h' tk', h'.InstFk x C (fun y => if y = name then some v else mA y) ->
   (∀ b o, b ≠ x -> (∀ o₀ dx, h.get? x = some o₀ -> o₀.dict = some dx -> b ≠ dx) -> h.get? b = some o -> h'.get? b = some o) ->
   (∀ o₀, h.get? x = some o₀ -> ∃ o₁, h'.get? x = some o₁ /\ o₁.cls = o₀.cls /\ o₁.data = o₀.data /\ o₁.slots = o₀.slots /\ ∀ dx, o₀.dict = some dx -> o₁.dict = some dx) -> (∀ o₀ o₁ dx, h.get? x = some o₀ -> o₀.dict = none -> h'.get? x = some o₁ -> o₁.dict = some dx -> h.objs.size <= dx) -> Q () ⟨h', g, d, tk', os⟩) (hw : PySem.Within mA ns) (hsz : ns.length <= 1000) :
  wpAny (model prog w) A (setAttr (.ref x) name v) Q E ⟨h, g, d, t, os⟩ := by
 obtain ⟨o, hx, hc, _⟩ := id I
 have f3 := SF.slot.bind (.ref x)
 unfold setAttr callSpecial? specialOf
 repeat (any_goals (first | assumption | (with_reducible refine wpAny_loadPart_at hx ?_; rw [hc]) | with_reducible refine hfs.at ?_ | wp_step))
 refine codeAny_call_builtin SF.slot.plain SF.entry (zeN SF T hC hx hc (zc0 hpass hC hf I (fun h' tk' I' hk hsame hnew => ?_) hw hsz))
 repeat (any_goals (first | assumption | wp_step))
 exact hq h' tk' I' hk hsame hnew
theorem zeO {M : Model} {o : Obj} {nameV : Value} {Q : Unit -> Shared -> Prop} (T : Tail bmB bm) (hb : bmB.contains (.type "BaseException") = true) (hC : h.get? C = some (excClassObj nm q C N bs bm hdct sn sub ab col dd k0 k1 k2 k3 k5 newId))
  (hx : h.get? x = some o) (hc : o.cls = .ref C) (hq : Q () ⟨h, g, d, t, os⟩) : wpAny M A (checkBuiltinCall "BaseException.__getattribute__" ⟨[.ref x, nameV], []⟩) Q E ⟨h, g, d, t, os⟩ := by
 have hk : builtinKind "BaseException.__getattribute__" = some .slot := by decide +kernel
 have hsplit : splitId "BaseException.__getattribute__" = some ("BaseException", "__getattribute__") := by decide +kernel
 have hcB : (Value.ref C :: bm).contains (.type "BaseException") = true := by rw [List.contains_cons, T _ _ hb]; rfl
 have ha := PySem.F.args_bexc_ga (.ref x) nameV
 simp only [checkBuiltinCall, hk, hsplit]
 refine wpAny_bind ?_
 ·unfold isInstance
  repeat (first | (with_reducible refine wpAny_loadPart_at hx ?_; rw [hc]) | (with_reducible refine wpAny_isSubtype_exc hC ?_; rw [hcB]) | wp_step)
  exact hq
end
end L2
namespace L2
open PySem PySem.Spec
theorem mapF {o : Obj} {vs : Array Value} (f : Array Value -> Array Value) (h : o.data = .fields vs) : Obj.mapFields f o = { o with data := .fields (f vs) } := by
 obtain ⟨c, d, dt, sl⟩ := o
 cases h
 rfl
def Tb (h : Heap) (e : Addr) (vs : Array Value) (fl : Value) : Prop := ∃ T oT ts, vs[1]? = some (.ref T) /\ T ≠ e /\ h.get? T = some oT /\ oT.data = .fields ts /\ ts[3]? = some fl
def Fly (h : Heap) (e : Addr) : Prop := ∃ oe vs, h.get? e = some oe /\ oe.data = .fields vs /\ (vs[1]? = some .none ∨ Tb h e vs .none)
structure zdJ (fs : List Addr) (e : Addr) (h h' : Heap) : Prop where
 keep : ∀ b o, b ≠ e -> b ∉ fs -> h.get? b = some o -> h'.get? b = some o
 slot : ∀ b o, b ≠ e -> h.get? b = some o -> ∃ sl, h'.get? b = some { o with slots := sl }
 own : ∀ oe, h.get? e = some oe -> ∃ vs, h'.get? e = some { oe with data := .fields vs }
section
variable {M : Model} {A : Around} {E : Value -> Shared -> Prop} {s : Shared} {base : Heap} {env : Env} {outer : List Env} {L e : Addr}
theorem newEntry {oe : Obj} {vs : Array Value} {head : Value} {hadNext : Bool} {Q : Unit -> Shared -> Prop} (hfr : A.frames = some (env :: outer)) (hl : s.heap.FunFrames base (env :: outer)) (hf : env.frame = some L)
  (he : s.heap.get? e = some oe) (hd : oe.data = .fields vs) (hsz : 1 < vs.size)
  (h : ∀ h', zdJ (frs (env :: outer)) e s.heap h' -> Fly h' e -> Q () { s with heap := h' }) :
  wpAny M A (do let a ← frameOf env; let pl ← entryPlaceOf L hadNext; let b ← EntryCells.newEntry head a .none (rawInt L) .none pl; setField (.ref e) 1 b) (fun _ s' => wpAny M A (setFlight (.ref e) none) Q E s') E s := by
 have hene : e ∉ (env :: outer).filterMap (·.frame) := fun hm => by
  obtain ⟨_, o, ho, hnf⟩ := hl.mem hm
  rw [he] at ho; injection ho with ho; subst ho; exact hnf vs hd
 refine wpAny_bind (wpAny_frameOf_fun hfr hl hf fun h₁ hs₁ => ?_)
 refine wpAny_bind (wpAny_entryPlaceOf fun pl hpl => ?_)
 unfold EntryCells.newEntry newFields
 refine wpAny_bind (wpAny_newObj_type ?_ (hpl.sizeOk5 _ _ _ _ _))
 have he₁ : h₁.get? e = some oe := (hs₁.2.1 e hene).trans he
 have he₂ := Heap.get?_push_of_some (h := h₁) { cls := .type "traceback", dict := none, data := .fields ([head, .ref L, .none, rawInt L, .none] ++ (if pl.isEmpty then List.replicate 6 Value.none else pl)).toArray } he₁
 refine wpAny_setField he₂ hd hsz ?_
 have hTe : h₁.objs.size ≠ e := Nat.ne_of_gt (Heap.lt_size he₁)
 have hd₃ := Obj.data_mapFields hd (·.setIfInBounds 1 (Value.ref h₁.objs.size))
 have he₃ := Heap.get?_update_self (Obj.mapFields (·.setIfInBounds 1 (Value.ref h₁.objs.size))) he₂ (Obj.isFreed_of_fields hd₃)
 have hT₃ := (Heap.get?_update_other (h₁.push { cls := .type "traceback", dict := none, data := .fields ([head, .ref L, .none, rawInt L, .none] ++ (if pl.isEmpty then List.replicate 6 Value.none else pl)).toArray })
  (Obj.mapFields (·.setIfInBounds 1 (Value.ref h₁.objs.size))) (Ne.symm hTe)).trans (Heap.get?_push_size h₁ rfl)
 unfold setFlight
 refine wpAny_bind (wpAny_field he₃ hd₃ (x := .ref h₁.objs.size) (by simp [hsz]) ?_)
 rw [if_pos (show (Value.ref h₁.objs.size != Value.none) = true from by simp)]
 refine wpAny_setField hT₃ rfl (by simp only [List.size_toArray, List.length_append, List.length_cons, List.length_nil] <;> omega) (h _ ?_ ?_)
 ·have keep : ∀ b o, b ≠ e -> h₁.get? b = some o ->
    (((h₁.push { cls := .type "traceback", dict := none, data := .fields ([head, .ref L, .none, rawInt L, .none] ++ (if pl.isEmpty then List.replicate 6 Value.none else pl)).toArray }).update e (Obj.mapFields (·.setIfInBounds 1 (Value.ref h₁.objs.size)))).update h₁.objs.size
     (Obj.mapFields (·.setIfInBounds 3 ((none : Option Addr).elim Value.none fun f => rawInt f)))).get? b = some o := fun b o hbe hb => by
   have hbT : h₁.objs.size ≠ b := Nat.ne_of_gt (Heap.lt_size hb)
   rw [Heap.get?_update_other _ _ hbT, Heap.get?_update_other _ _ (Ne.symm hbe)]
   exact Heap.get?_push_of_some _ hb
  refine ⟨fun b o hb hf hg => keep b o hb ((hs₁.2.1 b hf).trans hg), fun b o hb hg => ?_, fun oe' z => ?_⟩
  ·obtain ⟨sl, hs⟩ := hs₁.2.2 b o hg
   exact ⟨sl, keep b _ hb hs⟩
  ·rw [he] at z; cases z
   exact ⟨_, by rw [Heap.get?_update_other _ _ hTe, he₃, mapF _ hd]⟩
 ·refine ⟨_, _, ?_, hd₃, .inr ⟨h₁.objs.size, _, _, by simp [hsz], hTe, Heap.get?_update_self _ hT₃ (Obj.isFreed_of_fields (Obj.data_mapFields rfl _)), Obj.data_mapFields rfl _, by first | (simp; done) | (rcases hpl with rfl | ⟨_, _, _, _, _, _, _, rfl⟩ <;> simp)⟩⟩
  rw [Heap.get?_update_other _ _ hTe]; exact he₃
theorem note {Q : Unit -> Shared -> Prop} (hfr : A.frames = some (env :: outer)) (hl : s.heap.FunFrames base (env :: outer)) (hf : env.frame = some L) (x : Fly s.heap e)
  (h : ∀ h', zdJ (frs (env :: outer)) e s.heap h' -> Fly h' e -> Q () { s with heap := h' }) : wpAny M A (noteFrame (.ref e) env) (fun _ s' => wpAny M A (setFlight (.ref e) none) Q E s') E s := by
 obtain ⟨oe, vs, he, hd, h1⟩ := x
 unfold noteFrame
 simp only [hf]
 rcases h1 with h1 | ⟨T, oT, ts, h1, hTe, hT, hdT, h3⟩
 ·refine wpAny_bind (wpAny_field he hd h1 ?_)
  rw [if_neg (by decide)]
  exact newEntry hfr hl hf he hd (Array.getElem?_eq_some_iff.mp h1).1 h
 ·refine wpAny_bind (wpAny_field he hd h1 ?_)
  rw [if_pos (show (Value.ref T != Value.none) = true from by simp)]
  refine wpAny_bind (wpAny_field hT hdT h3 ?_)
  rw [if_neg (show ¬ ((Value.none == rawInt L) = true) from by simp [rawInt])]
  obtain ⟨hs3, hv3⟩ := Array.getElem?_eq_some_iff.mp h3
  refine wpAny_bind (wpAny_setField hT hdT hs3 ?_)
  have same : ∀ b o, s.heap.get? b = some o -> (s.heap.update T (Obj.mapFields (·.setIfInBounds 3 Value.none))).get? b = some o := fun b o hb => by
   by_cases hbT : b = T
   ·subst hbT
    rw [hT] at hb; cases hb
    rw [Heap.get?_update_self _ hT (Obj.isFreed_of_fields (Obj.data_mapFields hdT _)), mapF _ hdT]
    have : ts.setIfInBounds 3 Value.none = ts := by
     apply Array.ext_getElem?
     intro i
     rw [Array.getElem?_setIfInBounds]
     split
     ·rename_i z
      subst z
      exact h3.symm
     ·rfl
    rw [this, ← hdT]
   ·rw [Heap.get?_update_other _ _ (Ne.symm hbT)]; exact hb
  exact newEntry hfr (hl.of_keeps fun b o hb hnf => ⟨o, same b o hb, rfl⟩) hf (same e oe he) hd (Array.getElem?_eq_some_iff.mp h1).1
   fun h' p t => h h' ⟨fun b o a c g => p.keep b o a c (same b o g), fun b o a g => p.slot b o a (same b o g), fun oe' z => p.own oe' (same e oe' z)⟩ t
theorem zjf {Q : Unit -> Shared -> Prop} (hfr : A.frames = some (env :: outer)) (hl : s.heap.FunFrames base (env :: outer)) (hf : env.frame = some L) (x : Fly s.heap e)
  (h : ∀ h', zdJ (frs (env :: outer)) e s.heap h' -> Fly h' e -> Q () { s with heap := h' }) : wpAny M A (leaving env (.ref e)) Q E s := by
 unfold leaving
 exact wpAny_bind (note hfr hl hf x h)
end
end L2
namespace L2
open PySem PySem.Spec PyProof.Rows PySem.Calls PyProof.V
def XO (fr : Bool) (e C : Addr) (dd : Option Addr) : Heap -> Prop := fun h => ∃ vs sl, h.get? e = some { cls := .ref C, dict := dd, data := .fields vs, slots := sl } /\ (fr = true -> vs[1]? = some .none /\ ∃ t0, vs[0]? = some (.ref t0))
theorem XO.ok {P : Program} {w : World} {H : Hp} {h : Heap} {fr : Bool} {e C : Addr} {dd : Option Addr} (x : XO fr e C dd h) : zbn P w H h e (.ext (XO fr e C dd)) :=
 ⟨x, let ⟨_, _, q, _⟩ := x; ⟨_, q⟩, fun h1 h2 ⟨vs, sl, q, z⟩ k => ⟨vs, sl, k _ q, z⟩⟩
theorem XO.fly {h : Heap} {e C : Addr} {dd : Option Addr} (x : XO true e C dd h) : Fly h e := let ⟨vs, _, q, z⟩ := x; ⟨_, vs, q, rfl, .inl (z rfl).1⟩
theorem XO.old {h : Heap} {fr : Bool} {e C : Addr} {dd : Option Addr} (x : XO fr e C dd h) : XO false e C dd h := let ⟨vs, sl, q, _⟩ := x; ⟨vs, sl, q, fun z => nomatch z⟩
def CX1 (P : Program) (w : World) : CXT := fun outer H s E v s' => ∃ e C dd H', v = .ref e /\ s'.os = s.os /\ AllBare s'.gens /\ Un (frs outer) [] H H' s.heap s'.heap /\ HOk P w H' s'.heap /\ H' e = some (.ext (XO false e C dd)) /\ Fly s'.heap e /\ E (.ref e) none H'
section
variable {X : Cx} {pins : List (Addr × Obj)} {σ : St} {H : Hp} {s : Shared} {e C : Addr} {dd : Option Addr} {h' : Heap}
theorem Inv.passed (I : Inv X pins σ H s) (hx : H e = some (.ext (XO false e C dd))) (p : zdJ (frs X.stack) e s.heap h') : Inv X pins σ H { s with heap := h' } := by
 have ne : ∀ b, H b = none -> b ≠ e := fun b n z => by rw [z, hx] at n; cases n
 refine I.call (g' := s.gens) (t' := s.toks) (d' := s.drawn) (ch := []) ⟨fun b o g n f _ => p.keep b o (ne b n) f g, fun b o g n _ _ => p.slot b o (ne b n) g, fun b o _ n _ => n, fun b o g _ => ?_, fun _ _ z => z, fun _ _ _ z => z, fun b ps z => ⟨#[], by rw [z]; simp⟩⟩ (fun a o q => ?_) I.bare fun b z => absurd z (by simp)
 ·by_cases hb : b = e
  ·subst hb
   obtain ⟨vs, z⟩ := p.own o g
   exact ⟨_, z⟩
  ·obtain ⟨sl, z⟩ := p.slot b o hb g
   exact ⟨_, z⟩
 ·by_cases ha : a = e
  ·subst ha
   rw [hx] at q; cases q
   obtain ⟨⟨vs, sl, g, _⟩, _, _⟩ := I.hok a _ hx
   obtain ⟨vs', z⟩ := p.own _ g
   exact XO.ok ⟨vs', sl, z, fun z => nomatch z⟩
  ·refine (I.hok a o q).stay (fun b u hb g => p.keep b u ?_ (fun z => ?_) g) (fun _ z => z) fun _ _ z => z
   ·rcases hb with rfl | hb
    ·exact ha
    ·rintro rfl; rw [hx] at hb; cases hb
   ·have n := I.stkFree b z
    rcases hb with rfl | hb
    ·rw [q] at n; cases n
    ·rw [hb] at n; cases n
def zcm (X : Cx) (KX : V -> St -> Hp -> Prop) : Prop := ∀ (pins : List (Addr × Obj)) (σ : St) (H : Hp) (s : Shared) (e C : Addr) (dd : Option Addr), Inv X pins σ H s -> H e = some (.ext (XO false e C dd)) -> Fly s.heap e -> KX (.ref e) σ H -> X.xe (.ref e) s
theorem zfX {P : Program} {w : World} {K : PySem.W.Frag} {mg : Str -> Option Value} {base : Heap} {N : List Str} {qual : Str} {scope : Scope} {f : Addr} {cd : Value} {A : Around} {outer : List Env} {s₀ : Shared} {H₀ : Hp} {E : XK} :
  zcm (cxOf (CX1 P w) P w K mg base N qual scope f cd A outer s₀ H₀ E) fun v _ H => ∃ e, v = .ref e /\ E (.ref e) none H := by
 intro pins σ H s e C dd I hx fl ⟨e', ee, hE⟩
 cases ee
 refine zjf (L := s₀.heap.objs.size) I.ok.frames I.stack rfl fl fun h' p fl' => ?_
 have I' := I.passed hx p
 exact ⟨e, C, dd, H, rfl, I'.os, I'.bare, I'.base, I'.hok, hx, fl', hE⟩
theorem zcm.pass {KX : V -> St -> Hp -> Prop} {E : XK} {v : Value} {s' : Shared} (hw : zcm X KX) (I : Inv X pins σ H s) (h : CX1 X.prog X.w X.stack H s E v s') (hk : ∀ e H, E (.ref e) none H -> KX (.ref e) σ H) : X.xe v s' := by
 obtain ⟨e, C, dd, H', rfl, os, bare, un, hok, hx, fl, hE⟩ := h
 obtain ⟨hh, g, d, t, os'⟩ := s'
 obtain rfl : os' = s.os := os
 exact hw pins σ H' _ e C dd (I.call (h' := hh) (g' := g) (d' := d) (t' := t) (ch := []) un hok bare (fun b z => absurd z (by simp))) hx fl (hk e H' hE)
end
end L2
namespace L2
open PySem PySem.Spec PyProof.Rows PySem.Calls PyProof.V
abbrev VB : List Value := [.type "ValueError", .type "Exception", .type "BaseException", .type "object"]
structure XCls (M : Model) (base : Heap) (C : Addr) (bm : List Value) (fI : Addr) : Prop where
 obj : ∃ nm q N bs sn sub ab col dd k0 k1 k2 k3 k5, base.get? C = some (excClassObj nm q C N bs bm true sn sub ab col dd k0 k1 k2 k3 k5 "ValueError.__new__")
 tail : Tail VB bm
 init : zaH M C "__init__" (some (.ref fI)) base
 fn : ∃ o, base.get? fI = some o /\ o.cls = .type "function"
 sa : zaH M C "__setattr__" (some (.builtin "object.__setattr__")) base
 ga : zaH M C "__getattribute__" (some (.builtin "BaseException.__getattribute__")) base
 gh : zaH M C "__getattr__" none base
 cl : zaH M C "__class__" (some (.builtin "object.__class__")) base
 pass : ∀ v, refuseLoop v "__setattr__" bm = pure ()
section
variable {X : Cx} {k : Nat} {f C : Addr} {fd : FuncData} {ps : List Str} {sp : Sp} {x : Str} {p pos cpos : Pos} {e : Expr} {es : List Expr} {t : TA} {bm : List Value}
theorem zeP {pins : List (Addr × Obj)} {σ : St} {H : Hp} {s : Shared} {Q : VK} {us : List Value} {vs : List V} (M : XCls (model X.prog X.w) X.base C bm f) (F : FnOk X.prog X.w X.K X.mg X.base CX0 k f fd ps sp) (hr : Room (k + 1) X.A) (hb : zbt X.K fd ps [])
  (I : Inv X pins σ H s) (r : Vals vs us) (hl : us.length <= sizeLine)
  (h : ∀ a, H a = none -> sp (.ref a :: vs) (upd H a (.ext (XO true a C none))) (fun v H2 => v = .non /\ Q (.ref a) H2) E0) :
  wpAny (model X.prog X.w) X.A (call (.ref C) us) (EP X pins σ Q) X.xe s := by
 obtain ⟨nm, q, N, bs, sn, sub, ab, col, dd, k0, k1, k2, k3, k5, hC⟩ := M.obj
 obtain ⟨oI, hfI, hfc⟩ := M.fn
 obtain ⟨hp, g, d, tk, os⟩ := s
 refine zeM PySem.F.excBase_ValueError M.tail (I.bk _ _ hC) (fI := f) (M.init.keeps I.bk) (I.bk _ _ hfI) hfc (fun h' a made hz => ?_) hl
 obtain ⟨t', he, htn, ht⟩ := made.there
 have I2 : Inv X pins σ (upd H a (.ext (XO true a C none))) ⟨h', g, d, tk, os⟩ := I.laid (t' := tk) made.keeps hz (XO.ok ⟨_, _, he, fun _ => ⟨rfl, _, rfl⟩⟩)
 have hq := h a (I.hok.fresh hz)
 have r2 : Vals (V.ref a :: vs) (Value.ref a :: us) := .cons rfl r
 have hl2 : (Value.ref a :: us ++ []).length = ps.length := by
  have e := r2.length
  rw [F.len _ _ _ _ hq] at e
  rw [List.append_nil]
  exact e.symm
 refine wpAny_call (codeAny_mono (F.run _ X.stack _ _ ⟨Value.ref a :: us, []⟩ (Value.ref a :: us) _ _ E0 (hr.make C us []) (I2.env0.make C us []) (by have := hb _ (Value.ref a :: us) I2.kIn hl2; rwa [List.append_nil] at this) r2 hq) fun r s' hq' => ?_)
 cases r with
 | error e => exact hq'.elim
 | ok fl =>
  cases fl with
  | ret u =>
   obtain ⟨v, H', I3, rv, ev, q3⟩ := I2.after hq'
   subst ev
   exact ⟨rv, ⟨V.ref a, H', I3, rfl, q3⟩⟩
  | next => exact False.elim hq'
  | brk => exact False.elim hq'
  | cont => exact False.elim hq'
def tMkX (C : Addr) (sp : Sp) (t : TA) : TE := fun σ H Q => t σ H fun vs H1 => vs.length <= sizeLine /\ ∀ a, H1 a = none -> sp (.ref a :: vs) (upd H1 a (.ext (XO true a C none))) (fun v H2 => v = .non /\ Q (.ref a) H2) E0
theorem zfY (M : XCls (model X.prog X.w) X.base C bm f) (F : FnOk X.prog X.w X.K X.mg X.base CX0 k f fd ps sp) (hr : Room (k + 1) X.A) (hg : Gl X x) (hm : X.mg x = some (.ref C)) (hk : PySem.W.keepIn X.K (.ref C) = true) (hb : zbt X.K fd ps [])
  (ha : PA X (e :: es) t) (hdb : (x == ("__debug__" : Str)) = false := by decide) (he : starEach (e :: es) X.env = (false, eval e X.env) :: starEach es X.env := by rfl) (hpl : (backTo pos (starEach es X.env)).any (·.1) = false := by rfl) :
  PE X (.Call (.Name x p) (e :: es) [] pos) (tMkX C sp t) := by
 intro pins s σ H Q I h
 refine wpAny_Call_Name_kw (zbH I hg hm ?_ hdb)
 refine PySem.W.callWith_K (h₀ := X.base) I.ok.mod.kin hk (thn (ha pos pins s σ H _ I h) fun us s1 ⟨vs, H1, I1, r, hl, q⟩ => ⟨I1.kIn, ?_⟩) he hpl
 exact zeP M F hr hb I1 r (by show us.length <= sizeLine; rw [← r.length]; exact hl) q
def zjg (KC : Addr -> Prop) (te : TE) (KX : V -> St -> Hp -> Prop) : TS := fun _ σ H => te σ H fun v H2 => ∃ a C dd, v = .ref a /\ KC C /\ H2 a = some (.ext (XO true a C dd)) /\ KX (.ref a) σ (upd H2 a (.ext (XO false a C dd)))
theorem zeQ {M : Model} {A : Around} {E : Value -> Shared -> Prop} {env : Env} {s : Shared} {Q : Flow -> Shared -> Prop} {y : Sem Value}
  (hh : A.handled = none) (h : wpAny M A y (fun v s₁ => ∃ a C dd vs sl nm q N bs bm hdct sn sub ab col dd' k0 k1 k2 k3 k5 newId, v = .ref a /\ bm.contains (.type "BaseException") = true /\ s₁.heap.get? C = some (excClassObj nm q C N bs bm hdct sn sub ab col dd' k0 k1 k2 k3 k5 newId) /\
   s₁.heap.get? a = some { cls := .ref C, dict := dd, data := .fields vs, slots := sl } /\ vs[1]? = some .none /\ E (.ref a) s₁) E s) :
  wpAny M A (raiseStmt env (some y) none) Q E s := by
 unfold raiseStmt
 refine wpAny_bind (wpAny_mono h (fun v s₁ h₁ => ?_) fun _ _ x => x)
 obtain ⟨a, C, dd, vs, sl, nm, q, N, bs, bm, hdct, sn, sub, ab, col, dd', k0, k1, k2, k3, k5, newId, rfl, hbase, hC, he, h1, hE⟩ := h₁
 have hcB : (Value.ref C :: bm).contains (.type "BaseException") = true := by rw [List.contains_cons, hbase, Bool.or_true]
 obtain ⟨hp, g, d, tk, os⟩ := s₁
 repeat (first | with_reducible refine wpAny_field he rfl h1 ?_ | with_reducible refine wpAny_loadPart_at he ?_ | with_reducible refine wpAny_loadPart_at hC ?_ | (with_reducible refine wpAny_isSubtype_exc hC ?_; rw [hcB]) | wp_step)
 exact wpAny_raiseNew_none hh hE
theorem Inv.aged {pins : List (Addr × Obj)} {σ : St} {H : Hp} {s : Shared} {a C : Addr} {dd : Option Addr} (I : Inv X pins σ H s) (hx : H a = some (.ext (XO true a C dd))) : Inv X pins σ (upd H a (.ext (XO false a C dd))) s := by
 obtain ⟨x, _, _⟩ := I.hok a _ hx
 have := I.write (x := a) (e := a) (o := .ext (XO false a C dd)) (t' := s.toks) (h' := s.heap) (by rw [hx]; trivial) (.inl rfl) (fun _ _ _ q => q) (let ⟨_, _, q, _⟩ := x; ⟨_, q⟩) (XO.ok x.old)
 exact this
theorem zfZ {KC : Addr -> Prop} {te : TE} {KX : V -> St -> Hp -> Prop} {exc : Expr} (hc : X.calm = true) (hcls : ∀ C, KC C -> ∃ bm fI, XCls (model X.prog X.w) X.base C bm fI) (hw : zcm X KX) (ht : PE X exc te) : PS X (.Raise (some exc) none pos) (zjg KC te KX) := by
 intro pins s σ H D I h
 rw [arm_exec_Raise]
 refine wpAny_bind (wpAny_standAt ?_)
 show wpAny _ _ (raiseStmt X.env (some (do let v ← eval exc X.env; standAt pos; pure v)) none) _ _ _
 refine zeQ (I.ok.hd hc) (wpAny_bind (thn (ht pins s σ H _ I h) fun u s1 ⟨v, H2, I2, rv, a, C, dd, ev, kc, hx, kx⟩ => wpAny_bind (wpAny_standAt (wpAny_pure ?_))))
 subst ev
 obtain rfl : u = Value.ref a := rv
 obtain ⟨bm, fI, M⟩ := hcls C kc
 obtain ⟨nm, q, N, bs, sn, sub, ab, col, dd', k0, k1, k2, k3, k5, hC⟩ := M.obj
 obtain ⟨⟨vs, sl, g, z⟩, _, _⟩ := I2.hok a _ hx
 exact ⟨a, C, dd, vs, sl, nm, q, N, bs, bm, true, sn, sub, ab, col, dd', k0, k1, k2, k3, k5, _, rfl, M.tail _ _ rfl, I2.bk _ _ hC, g, (z rfl).1, hw pins σ _ s1 a C dd (I2.aged hx) zaj (XO.fly ⟨vs, sl, g, z⟩) kx⟩
end
end L2
namespace L2
open PySem PySem.Spec PyProof.Rows PySem.Calls PyProof.V
section
variable {M : Model} {A : Around} {E : Value -> Shared -> Prop} {h : Heap} {g : Array GenState} {d : Drawn} {t : Nat} {os : OsState}
variable {nm q nm' q' : Str} {C N D N' a : Addr} {bs bm bs' bm' : List Value} {hdct hdct' : Bool} {sn sn' : List Str} {sub sub' : List Value} {ab ab' : Bool} {col col' : Option Bool} {dd dd' : Option Addr} {k0 k1 k2 k3 k5 j0 j1 j2 j3 j5 : Option Value} {newId newId' : String}
theorem zf0 {o : Obj} {b : Bool} {Q : Bool -> Shared -> Prop} (hC : h.get? C = some (excClassObj nm q C N bs bm hdct sn sub ab col dd k0 k1 k2 k3 k5 newId)) (hD : h.get? D = some (excClassObj nm' q' D N' bs' bm' hdct' sn' sub' ab' col' dd' j0 j1 j2 j3 j5 newId'))
  (hbase : bm'.contains (.type "BaseException") = true) (ha : h.get? a = some o) (hc : o.cls = .ref C) (hb : (Value.ref C :: bm).contains (.ref D) = b) (hq : Q b ⟨h, g, d, t, os⟩) : wpAny M A (excMatches (.ref a) (.ref D)) Q E ⟨h, g, d, t, os⟩ := by
 have hcB : (Value.ref D :: bm').contains (.type "BaseException") = true := by rw [List.contains_cons, hbase, Bool.or_true]
 have f1 := tc_notTuple
 have f2 := tc_sub
 have hT : (⟨h, g, d, t, os⟩ : Shared).TypeIs (.ref D) "type" := ⟨_, hD, rfl⟩
 unfold excMatches
 repeat (any_goals (first | assumption | (with_reducible refine wpAny_loadPart_at ha ?_; rw [hc]) | with_reducible refine wpAny_loadPart_at hD ?_ | with_reducible refine wpAny_loadPart_at hC ?_ | (with_reducible refine wpAny_isSubtype_exc hD ?_; rw [hcB]) | (with_reducible refine wpAny_isSubtype_exc hC ?_; rw [hb]) | wp_step))
 cases b <;> (wp_walk; exact hq)
end
end L2
namespace L2
open PySem PySem.Spec PyProof.Rows PySem.Calls PyProof.V
def zjh (sp : Sp) (KX : V -> St -> Hp -> Prop) (t : TA) : TE := fun σ H Q => t σ H fun vs H1 => sp vs H1 Q fun v _ H' => ∀ a, v = .ref a -> KX (.ref a) σ H'
section
variable {X : Cx} {k : Nat} {f : Addr} {fd : FuncData} {ps : List Str} {sp : Sp} {x n : Str} {p pos np hpos : Pos} {e : Expr} {es : List Expr} {t : TA} {KX : V -> St -> Hp -> Prop}
theorem zf1 (F : FnOk X.prog X.w X.K X.mg X.base (CX1 X.prog X.w) k f fd ps sp) (hr : Room k X.A) (hg : Gl X x) (hm : X.mg x = some (.ref f)) (hk : PySem.W.keepIn X.K (.ref f) = true) (hb : zbt X.K fd ps []) (hw : zcm X KX)
  (ha : PA X (e :: es) t) (hdb : (x == ("__debug__" : Str)) = false := by decide) (he : starEach (e :: es) X.env = (false, eval e X.env) :: starEach es X.env := by rfl) (hpl : (backTo pos (starEach es X.env)).any (·.1) = false := by rfl) :
  PE X (.Call (.Name x p) (e :: es) [] pos) (zjh sp KX t) := by
 intro pins s σ H Q I h
 refine wpAny_Call_Name_kw (zbH I hg hm ?_ hdb)
 refine PySem.W.callWith_K (h₀ := X.base) I.ok.mod.kin hk (thn (ha pos pins s σ H _ I h) fun us s1 ⟨vs, H1, I1, r, q⟩ => ⟨I1.kIn, ?_⟩) he hpl
 have hl : (us ++ []).length = ps.length := by rw [List.append_nil, ← r.length]; exact F.len _ _ _ _ q
 refine wpAny_call (codeAny_mono (F.run X.A X.stack s1 H1 ⟨us, []⟩ us vs Q _ hr I1.env0 (by have := hb s1 us I1.kIn hl; rwa [List.append_nil] at this) r q) fun r s' hq => ?_)
 cases r with
 | error e => exact hw.pass (E := fun v _ H' => ∀ a, v = .ref a -> KX (.ref a) σ H') I1 hq fun a H' z => z a rfl
 | ok fl =>
  cases fl with
  | ret u => exact I1.after hq
  | next => exact False.elim hq
  | brk => exact False.elim hq
  | cont => exact False.elim hq
abbrev Cx.suite (X : Cx) (a : Addr) : Cx := { X with A := X.A.mark (some (.ref a)), calm := false, xe := fun _ _ => False }
theorem Cx.Ok.suite (ok : X.Ok) (a : Addr) : (X.suite a).Ok :=
 ⟨ok.mod, ok.kind, ok.glob, ok.blt, ok.above, ok.inj, ok.has, ok.cab, fun z => (nomatch z), ok.frames, ok.stk, ok.exf, ok.bs, ok.bsz, ok.noex, ok.exfs, ok.funs, ok.frf⟩
theorem Inv.suite {pins : List (Addr × Obj)} {σ : St} {H : Hp} {s : Shared} (I : Inv X pins σ H s) (a : Addr) : Inv (X.suite a) pins σ H s := ⟨I.ok.suite a, I.os, I.bare, I.base, I.loc, I.cell, I.free, I.freeC, I.pin, I.hok, I.len⟩
theorem Inv.unsuite {pins : List (Addr × Obj)} {σ σ' : St} {H H' : Hp} {s s' : Shared} {a : Addr} (I0 : Inv X pins σ H s) (I : Inv (X.suite a) pins σ' H' s') : Inv X pins σ' H' s' := ⟨I0.ok, I.os, I.bare, I.base, I.loc, I.cell, I.free, I.freeC, I.pin, I.hok, I.len⟩
theorem zec {M : Model} {A : Around} {E : Value -> Shared -> Prop} {s : Shared} {a : Addr} {Q : Unit -> Shared -> Prop} (fl : Fly s.heap a) (h : ∀ h', (∀ b o, s.heap.get? b = some o -> h'.get? b = some o) -> Q () { s with heap := h' }) : wpAny M A (setFlight (.ref a) none) Q E s := by
 obtain ⟨oe, vs, he, hd, h1⟩ := fl
 unfold setFlight
 rcases h1 with h1 | ⟨T, oT, ts, h1, hTe, hT, hdT, h3⟩
 ·refine wpAny_bind (wpAny_field he hd h1 ?_)
  rw [if_neg (by decide)]
  exact wpAny_pure (h s.heap fun _ _ q => q)
 ·obtain ⟨hs3, hv3⟩ := Array.getElem?_eq_some_iff.mp h3
  refine wpAny_bind (wpAny_field he hd h1 ?_)
  rw [if_pos (show (Value.ref T != Value.none) = true from by simp)]
  refine wpAny_setField hT hdT hs3 (h _ fun b o hb => ?_)
  by_cases hbT : b = T
  ·subst hbT
   rw [hT] at hb; cases hb
   rw [Heap.get?_update_self _ hT (Obj.isFreed_of_fields (Obj.data_mapFields hdT _)), mapF _ hdT]
   have : ts.setIfInBounds 3 Value.none = ts := Array.setIfInBounds_same _ _ _ h3
   show some { oT with data := .fields (ts.setIfInBounds 3 Value.none) } = _
   rw [this, ← hdT]
  ·rw [Heap.get?_update_other _ _ (Ne.symm hbT)]; exact hb
abbrev Cx.tried (X : Cx) (W : Value -> Shared -> Prop) (pins : List (Addr × Obj)) : Cx := { X with xe := W, pn := X.pn ++ pins }
theorem Inv.tried {pins : List (Addr × Obj)} {σ : St} {H : Hp} {s : Shared} (I : Inv X pins σ H s) (W : Value -> Shared -> Prop) : Inv (X.tried W pins) [] σ H s :=
 ⟨⟨I.ok.mod, I.ok.kind, I.ok.glob, I.ok.blt, I.ok.above, I.ok.inj, I.ok.has, I.ok.cab, I.ok.hd, I.ok.frames, I.ok.stk, I.ok.exf, I.ok.bs, I.ok.bsz, I.ok.noex, I.ok.exfs, I.ok.funs, I.ok.frf⟩, I.os, I.bare, I.base, I.loc, I.cell, I.free, I.freeC, fun p hp => I.pin p (by simpa using hp), I.hok, I.len⟩
theorem Inv.untried {pins pins' : List (Addr × Obj)} {σ σ' : St} {H H' : Hp} {s s' : Shared} {W : Value -> Shared -> Prop} (I0 : Inv X pins σ H s) (I : Inv (X.tried W pins) pins' σ' H' s') : Inv X pins σ' H' s' :=
 ⟨I0.ok, I.os, I.bare, I.base, I.loc, I.cell, I.free, I.freeC, fun p hp => I.pin p (List.mem_append_left _ hp), I.hok, I.len⟩
def zhx (KC : Addr -> List Value -> Prop) (D : Addr) (ts : TS) (Dn : Ends) : V -> St -> Hp -> Prop := fun v σ H => ∃ a C dd bm, v = .ref a /\ KC C bm /\ H a = some (.ext (XO false a C dd)) /\ (Value.ref C :: bm).contains (.ref D) = true /\ ts Dn σ H
def zkB (KC : Addr -> List Value -> Prop) (D : Addr) (tb : (V -> St -> Hp -> Prop) -> TS) (ts : TS) : TS := fun Dn σ H => tb (zhx KC D ts Dn) Dn σ H
theorem zhy {KC : Addr -> List Value -> Prop} {D fD : Addr} {bmD : List Value} {tb : (V -> St -> Hp -> Prop) -> TS} {ts : TS} {body suite : List Stmt} {b₀ : Stmt} {st : List Env} (hstk : X.stack = X.env :: st) (hfr : X.env.frame = some X.env.locals)
  (hcls : ∀ C bm, KC C bm -> ∃ fI, XCls (model X.prog X.w) X.base C bm fI) (hD : XCls (model X.prog X.w) X.base D bmD fD) (hg : Gl X x) (hm : X.mg x = some (.ref D))
  (hb : ∀ (KX : V -> St -> Hp -> Prop) (W : Value -> Shared -> Prop) (pn : List (Addr × Obj)), zcm (X.tried W pn) KX -> PSs (X.tried W pn) body (tb KX)) (hs : ∀ a, PSs (X.suite a) (b₀ :: suite) ts) (hdb : (x == ("__debug__" : Str)) = false := by decide) :
  PS X (.Try body [.ExceptHandler (some (.Name x np)) none (b₀ :: suite) hpos] [] [] pos) (zkB KC D tb ts) := by
 intro pins s σ H Dn I h
 refine wpAny_Try_except ?_
 let W : Value -> Shared -> Prop := fun v s1 => ∃ a σ1 H1, v = .ref a /\ Inv X pins σ1 H1 s1 /\ Fly s1.heap a /\ zhx KC D ts Dn (.ref a) σ1 H1
 have hw : zcm (X.tried W pins) (zhx KC D ts Dn) := fun pins' σ1 H1 s1 a C dd I1 hx fl hk => ⟨a, σ1, H1, rfl, I.untried I1, fl, hk⟩
 refine wpAny_mono (hb _ W pins hw [] s σ H Dn (I.tried W) h) (fun f s1 h1 => ?_) fun v s1 h1 => ?_
 ·cases f with
  | next =>
   obtain ⟨σ', H', I', q⟩ := h1
   exact wpAny_execs_nil ⟨σ', H', I.untried I', q⟩
  | brk => obtain ⟨σ', H', I', q⟩ := h1; exact ⟨σ', H', I.untried I', q⟩
  | cont => obtain ⟨σ', H', I', q⟩ := h1; exact ⟨σ', H', I.untried I', q⟩
  | ret u => obtain ⟨v, σ', H', I', r, q⟩ := h1; exact ⟨v, σ', H', I.untried I', r, q⟩
 ·obtain ⟨a, σ1, H1, rfl, I1, fl, a', C, dd, bm, ea, kc, hx, hm', q⟩ := h1
  cases ea
  obtain ⟨fI, XC⟩ := hcls C bm kc
  have hk := I1.ok.frames
  rw [hstk] at hk
  have hS := I1.stack
  rw [hstk] at hS
  refine note hk hS hfr fl fun h2 p2 fl2 => ?_
  rw [← hstk] at p2
  have I2 := I1.passed hx p2
  refine wpAny_handleBy_cons (codeAny_handlers_test ?_) (by intro q; cases q)
  refine zbH (I2.suite a) hg hm ?_ hdb
  obtain ⟨nm, qn, N, bs, sn, sub, ab, col, dd1, k0, k1, k2, k3, k5, hC⟩ := XC.obj
  obtain ⟨nm', qn', N', bs', sn', sub', ab', col', dd2, j0, j1, j2, j3, j5, hD'⟩ := hD.obj
  obtain ⟨⟨vs, sl, ga, _⟩, _, _⟩ := I2.hok a _ hx
  refine zf0 (I2.bk _ _ hC) (I2.bk _ _ hD') (hD.tail _ _ rfl) ga rfl hm' ?_
  refine codeAny_handlers_suite (zec fl2 fun h3 k3 => ?_)
  have I3 := I2.kept (t' := s1.toks) k3
  refine wpAny_mono (hs a pins _ _ H1 _ (I3.suite a) q) (fun f s5 h5 => ?_) fun _ _ z => z.elim
  cases f with
  | next => obtain ⟨σ', H', I', q'⟩ := h5; exact ⟨σ', H', I3.unsuite I', q'⟩
  | brk => obtain ⟨σ', H', I', q'⟩ := h5; exact ⟨σ', H', I3.unsuite I', q'⟩
  | cont => obtain ⟨σ', H', I', q'⟩ := h5; exact ⟨σ', H', I3.unsuite I', q'⟩
  | ret u => obtain ⟨v, σ', H', I', r, q'⟩ := h5; exact ⟨v, σ', H', I3.unsuite I', r, q'⟩
end
end L2
namespace L2
open PySem PySem.Spec PyProof.Rows PySem.Calls PyProof.V
section
variable {prog : Program} {w : World} {A : Around} {E : Value -> Shared -> Prop} {h : Heap} {g : Array GenState} {d : Drawn} {t : Nat} {os : OsState}
variable {nm q : Str} {C N a : Addr} {bs bm bmB : List Value} {hdct : Bool} {sn : List Str} {sub : List Value} {ab : Bool} {col : Option Bool} {dd : Option Addr} {k0 k1 k2 k3 k5 : Option Value} {B newId initId nid : String}
theorem zdp (F : ExcBaseFacts B nid initId bmB) (T : Tail bmB bm) {M : Model} {oe : Obj} {rest : List Value} {Q : Unit -> Shared -> Prop}
  (hC : h.get? C = some (excClassObj nm q C N bs bm hdct sn sub ab col dd k0 k1 k2 k3 k5 newId)) (he : h.get? a = some oe) (hcls : oe.cls = .ref C) (hq : Q () ⟨h, g, d, t, os⟩) :
  wpAny M A (checkBuiltinCall initId ⟨.ref a :: rest, []⟩) Q E ⟨h, g, d, t, os⟩ := by
 have hcB : (Value.ref C :: bm).contains (.type B) = true := by rw [List.contains_cons, T _ _ F.hasB, Bool.or_true]
 have hshort := F.noStar
 simp only [checkBuiltinCall, F.initKind, F.initSplit, F.initRow]
 repeat (first | (with_reducible refine wpAny_loadPart_at he ?_; rw [hcls]) | with_reducible refine wpAny_loadPart_at hC ?_ | (with_reducible refine wpAny_isSubtype_exc hC ?_; rw [hcB]) | wp_step)
 refine wpAny_onRaise ?_
 rw [show ∀ (x1 x2 : String) (n : Nat), Bind.check ⟨.positional, "*", B, .self, [⟨"args", .varPos, false⟩]⟩ x1 x2 n (List.map (fun x => x.fst) ({ pos := Value.ref a :: rest } : Args).kw) = pure () from
  fun _ _ n => check_star_args _ _ _ _ _ _]
 exact wpAny_pure hq
theorem zed (F : ExcBaseFacts B nid initId bmB) (T : Tail bmB bm) {oe : Obj} {vs : Array Value} {u : Value} {Q : Value -> Shared -> Prop}
  (hC : h.get? C = some (excClassObj nm q C N bs bm hdct sn sub ab col dd k0 k1 k2 k3 k5 newId)) (he : h.get? a = some oe) (hcls : oe.cls = .ref C) (hd : oe.data = .fields vs) {t0 : Addr} (h0 : vs[0]? = some (.ref t0))
  (hq : ∀ h', (∀ b o, b ≠ a -> h.get? b = some o -> h'.get? b = some o) -> (∃ y, h'.get? a = some { oe with data := .fields (vs.setIfInBounds 0 (.ref y)) }) -> Q .none ⟨h', g, d, t, os⟩) :
  wpAny (model prog w) A (call (.builtin initId) [.ref a, u]) Q E ⟨h, g, d, t, os⟩ := by
 refine wpAny_call (codeAny_call_builtin F.init.plain F.initEntry (zdp F T hC he hcls ?_))
 have he₂ : (h.push { cls := .type "tuple", data := .seq #[u] }).get? a = some oe := Heap.get?_push_of_some _ he
 have hz : 0 < vs.size := (Array.getElem?_eq_some_iff.mp h0).1
 repeat (first | with_reducible refine wpAny_field he₂ hd h0 ?_ | with_reducible refine wpAny_setField he₂ hd hz ?_ | wp_step)
 have he₃ := Heap.get?_update_self (Obj.mapFields (·.setIfInBounds 0 (Value.ref h.objs.size))) he₂ (Obj.isFreed_of_fields (Obj.data_mapFields hd _))
 refine hq _ (fun b o hb g => ?_) ⟨_, by rw [he₃, mapF _ hd]⟩
 rw [Heap.get?_update_other _ _ (Ne.symm hb)]
 exact Heap.get?_push_of_some _ g
end
theorem zhz : PySem.W.handedIn (.builtin "ValueError.__init__") = true := by decide +kernel
theorem zji {h : Heap} : PySem.W.Frag.In [] h := fun a o z => by cases z
theorem zhA : typeOf (.type "ValueError") = pure (.type "type") := by kernel_rfl
theorem zhB : Manifest.isStub "ValueError" = false := by decide +kernel
theorem zhC : PySem.W.findCls [] (.type "ValueError") (.type "type") "__init__" = some (.val (.builtin "ValueError.__init__")) := by kernel_rfl
section
variable {X : Cx} {k : Nat} {f D : Addr} {fd : FuncData} {ps : List Str} {sp : Sp} {x : Str} {p pos apos : Pos} {e : Expr} {es : List Expr} {t : TA}
def zg0 (KC : Addr -> List Value -> Prop) (t : TA) : TE := fun σ H Q => t σ H fun vs H1 => ∃ a C dd bm u, vs = [.ref a, u] /\ KC C bm /\ H1 a = some (.ext (XO true a C dd)) /\ Q .non H1
theorem zf2 {KC : Addr -> List Value -> Prop} {pl : Sem Bool} (hcls : ∀ C bm, KC C bm -> ∃ fI, XCls (model X.prog X.w) X.base C bm fI) (hg : Gl X "ValueError") (hm : X.mg "ValueError" = none) (ha : PA X (e :: es) t)
  (hst : starEach (e :: es) X.env = (false, eval e X.env) :: starEach es X.env := by rfl) (hpl : (backTo pos (starEach es X.env)).any (·.1) = false := by rfl)
  (ht : eval (.Call (.Attribute (.Name "ValueError" p) "__init__" apos) (e :: es) [] pos) X.env = (do
   let ov ← eval (.Name "ValueError" p) X.env
   standAt apos.atName
   let (f, first) ← holding [ov] (getMethod ov "__init__" pl)
   callWith pos f first (backTo pos (starEach (e :: es) X.env)) (backToKw pos (keywordEach [] X.env))) := by rfl) :
  PE X (.Call (.Attribute (.Name "ValueError" p) "__init__" apos) (e :: es) [] pos) (zg0 KC t) := by
 intro pins s σ H Q I h
 have hB : bootBuiltins "ValueError" = some (.type "ValueError") := by decide +kernel
 refine PySem.W.methodCall_KW (pl := pl) (zco I hg hm hB ?_) ht
 obtain ⟨m, Fm⟩ := I.fr
 refine PySem.W.method_type (K := []) (v := .builtin "ValueError.__init__") Fm zji zhA zhB zhC zhz ?_
 refine PyProof.Rows.callWith_builtin1 (thn (ha pos pins _ σ H _ (I.tok _) h) fun us s1 ⟨vs, H1, I1, r1, a, C, dd, bm, u, ev, kc, hx, q⟩ => ?_) hst hpl
 subst ev
 cases r1 with
 | cons ra r1 =>
 cases r1 with
 | cons ru r1 =>
 cases r1
 have ra' : _ = Value.ref a := ra
 subst ra'
 obtain ⟨fI, XC⟩ := hcls C bm kc
 obtain ⟨nm, qn, N, bs, sn, sub, ab, col, dd1, k0, k1, k2, k3, k5, hC⟩ := XC.obj
 obtain ⟨⟨vs, sl, ga, z⟩, _, _⟩ := I1.hok a _ hx
 obtain ⟨z1, t0, z0⟩ := z rfl
 obtain ⟨hp, g, d, tk, os⟩ := s1
 refine zed PySem.F.excBase_ValueError XC.tail (I1.bk _ _ hC) ga rfl rfl z0 fun h' k ⟨y, hy⟩ => ?_
 have hw := I1.write (x := a) (e := a) (o := .ext (XO true a C dd)) (t' := tk) (h' := h') (by rw [hx]; trivial) (.inl rfl) k ⟨_, hy⟩ (XO.ok ⟨_, sl, hy, fun _ => ⟨by rw [Array.getElem?_setIfInBounds_ne (by decide)]; exact z1, y, by simp [(Array.getElem?_eq_some_iff.mp z0).1]⟩⟩)
 have e : upd H1 a (.ext (XO true a C dd)) = H1 := by
  funext b
  by_cases hb : b = a
  ·subst hb; rw [zaj, hx]
  ·rw [zak hb]
 rw [e] at hw
 exact ⟨.non, H1, hw, rfl, q⟩
end
end L2
namespace L2
open PySem PySem.Spec PyProof.Rows PySem.Calls PyProof.V
structure zf3 (K : PySem.W.Frag) (D : Addr) (m : Str) (f : Addr) : Prop where
 ga : PySem.W.specialIn K (.ref D) "__getattribute__" = some (some (.builtin "type.__getattribute__"))
 rd : PySem.W.readsIn K D (.type "type") = true
 fd : PySem.W.findCls K (.ref D) (.type "type") m = some (.val (.ref f))
 kp : PySem.W.keepIn K (.ref f) = true
section
variable {X : Cx} {k : Nat} {f D : Addr} {fd : FuncData} {ps : List Str} {sp : Sp} {x m : Str} {p pos apos : Pos} {e : Expr} {es : List Expr} {t : TA}
theorem zf4 {pl : Sem Bool} (M : zf3 X.K D m f) (F : FnOk X.prog X.w X.K X.mg X.base CX0 k f fd ps sp) (hr : Room k X.A) (hb : zbt X.K fd ps []) (hg : Gl X x) (hm : X.mg x = some (.ref D)) (ha : PA X (e :: es) t)
  (hdb : (x == ("__debug__" : Str)) = false := by decide) (hst : starEach (e :: es) X.env = (false, eval e X.env) :: starEach es X.env := by rfl) (hpl : (backTo pos (starEach es X.env)).any (·.1) = false := by rfl)
  (ht : eval (.Call (.Attribute (.Name x p) m apos) (e :: es) [] pos) X.env = (do
   let ov ← eval (.Name x p) X.env
   standAt apos.atName
   let (f, first) ← holding [ov] (getMethod ov m pl)
   callWith pos f first (backTo pos (starEach (e :: es) X.env)) (backToKw pos (keywordEach [] X.env))) := by rfl) :
  PE X (.Call (.Attribute (.Name x p) m apos) (e :: es) [] pos) (zhm sp [] E0 t) := by
 intro pins s σ H Q I h
 refine PySem.W.methodCall_KW (pl := pl) (zbH I hg hm ?_ hdb) ht
 refine PySem.W.method_cls I.kIn M.ga (PySem.W.cls_value I.kIn M.rd M.fd rfl ?_)
 refine PySem.W.callWith_K (h₀ := X.base) I.ok.mod.kin M.kp (thn (ha pos pins _ σ H _ (I.tok _) h) fun us s1 ⟨vs, H1, I1, r, q⟩ => ⟨I1.kIn, ?_⟩) hst hpl
 exact zgX F hr hb .nil zje I1 r q
end
def XD (dx : Addr) (fs : List (Str × V)) : Heap -> Prop := fun h => ∃ mA, h.Ns1 dx mA /\ h.ExactDictFk dx /\ (∀ f, RelO (fs.lookup f) (mA f)) /\ PySem.Within mA (fs.map (·.1))
theorem XD.ok {P : Program} {w : World} {H : Hp} {h : Heap} {dx : Addr} {fs : List (Str × V)} (x : XD dx fs h) : zbn P w H h dx (.ext (XD dx fs)) :=
 ⟨x, let ⟨_, ⟨o, _, _, q, _⟩, _⟩ := x; ⟨o, q⟩, fun h1 h2 ⟨mA, ⟨o, es, ep, q, c⟩, ⟨od, q2, c2⟩, r⟩ k => ⟨mA, ⟨o, es, ep, k _ q, c⟩, ⟨od, k _ q2, c2⟩, r⟩⟩
theorem XO.inst {h : Heap} {a C : Addr} {vs : Array Value} {sl : Array (Option Value)} (g : h.get? a = some { cls := .ref C, dict := none, data := .fields vs, slots := sl }) : h.InstFk a C fun _ => none :=
 ⟨_, g, rfl, fun _ z => (by cases z), .inl ⟨rfl, fun _ => rfl⟩⟩
section
variable {X : Cx} {pins : List (Addr × Obj)} {σ : St} {H : Hp} {s : Shared} {a C dx : Addr} {h' : Heap} {t' : Nat}
theorem Inv.xdict {fs : List (Str × V)} (I : Inv X pins σ H s) (hx : H a = some (.ext (XO true a C none))) (k : ∀ b o, b ≠ a -> s.heap.get? b = some o -> h'.get? b = some o) (hz : s.heap.objs.size <= dx) (h1 : XO true a C (some dx) h') (h2 : XD dx fs h') :
  Inv X pins σ (upd (upd H a (.ext (XO true a C (some dx)))) dx (.ext (XD dx fs))) { s with heap := h', toks := t' } := by
 have hn : H dx = none := I.hok.fresh hz
 have hne : dx ≠ a := fun z => by rw [z, hx] at hn; cases hn
 have ne : ∀ b, H b = none -> b ≠ a := fun b n z => by rw [z, hx] at n; cases n
 have nd : ∀ b o, s.heap.get? b = some o -> b ≠ dx := fun b o g z => by subst z; exact absurd (Heap.lt_size g) (Nat.not_lt.mpr hz)
 have oth : ∀ b, b ≠ a -> b ≠ dx -> upd (upd H a (.ext (XO true a C (some dx)))) dx (.ext (XD dx fs)) b = H b := fun b h1 h2 => by rw [zak h2, zak h1]
 have trk : ∀ b u, H b = some u -> b ≠ dx := fun b u q z => by rw [z, hn] at q; cases q
 have nota : ∀ b (u : HO), H b = some u -> (∀ φ, u ≠ .ext φ) -> b ≠ a := fun b u q n z => by rw [z, hx] at q; cases q; exact n _ rfl
 refine I.un (t' := t') ⟨fun b o g n _ _ => k b o (ne b n) g, fun b o g n _ _ => ⟨o.slots, k b o (ne b n) g⟩, fun b o g n _ => (oth b (ne b n) (nd b o g)).trans n, fun b o g _ => ?_, fun b xs q => ?_, fun b o u q => ?_, fun b ps q => ⟨#[], ?_⟩⟩ fun b u q => ?_
 ·by_cases hb : b = a
  ·subst hb; obtain ⟨_, _, z, _⟩ := h1; exact ⟨_, z⟩
  ·exact ⟨o, k b o hb g⟩
 ·exact (oth b (nota b _ q fun _ z => by cases z) (trk b _ q)).trans q
 ·exact (oth b (nota b _ q fun _ z => by cases z) (trk b _ q)).trans q
 ·rw [oth b (nota b _ q fun _ z => by cases z) (trk b _ q), q]; simp
 ·by_cases hb : b = dx
  ·subst hb; rw [zaj] at q; cases q; exact XD.ok h2
  ·rw [zak hb] at q
   by_cases hb2 : b = a
   ·subst hb2; rw [zaj] at q; cases q; exact XO.ok h1
   ·rw [zak hb2] at q
    refine (I.hok b u q).stay (fun c v hc g => k c v ?_ g) (fun c r => (oth c (nota c _ r fun _ z => by cases z) (trk c _ r)).trans r) fun c xs r => (oth c (nota c _ r fun _ z => by cases z) (trk c _ r)).trans r
    rcases hc with rfl | hc
    ·exact hb2
    ·exact nota c _ hc fun _ z => by cases z
end
def zjj (KC : Addr -> List Value -> Prop) (ta tv : TE) (f : Str) : TS := fun D σ H => tv σ H fun y H1 => ta σ H1 fun x H2 => ∃ a C bm, x = .ref a /\ KC C bm /\
 ((H2 a = some (.ext (XO true a C none)) /\ ∀ dx, H2 dx = none -> dx ≠ a -> D.nx σ (upd (upd H2 a (.ext (XO true a C (some dx)))) dx (.ext (XD dx [(f, y)])))) ∨
  ∃ dx fs, dx ≠ a /\ H2 a = some (.ext (XO true a C (some dx))) /\ H2 dx = some (.ext (XD dx fs)) /\ fs.length < 900 /\ D.nx σ (upd H2 dx (.ext (XD dx (putF f y fs)))))
section
variable {X : Cx} {o value : Expr} {f : Str} {pos pos' : Pos} {ta tv : TE} {KC : Addr -> List Value -> Prop}
theorem zhD (hcls : ∀ C bm, KC C bm -> ∃ fI, XCls (model X.prog X.w) X.base C bm fI) (hf : ∀ C bm, KC C bm -> zaH (model X.prog X.w) C f none X.base) (ha : PE X o ta) (hv : PE X value tv)
  (hs : swapsWith value (some (.Attribute o f pos')) pos.line X.env = pure false) : PS X (.Assign [.Attribute o f pos'] value pos) (zjj KC ta tv f) := by
 intro pins s σ H D I h
 refine plainObj_wpAny_Assign_Attribute (thn (hv pins s σ H _ I h) fun u s1 ⟨y, H1, I1, ry, q⟩ => thn (ha pins s1 σ H1 _ I1 q) fun ov s2 ⟨x, H2, I2, rx, a, C, bm, ex, kc, q2⟩ => ?_) hs
 subst ex
 obtain rfl : ov = Value.ref a := rx
 obtain ⟨fI, XC⟩ := hcls C bm kc
 obtain ⟨nm, qn, N, bs, sn, sub, ab, col, dd1, k0, k1, k2, k3, k5, hC⟩ := XC.obj
 obtain ⟨hp, g, d, tk, os⟩ := s2
 rcases q2 with ⟨hx, q2⟩ | ⟨dx, fs, hne, hx, hdx, hl, q2⟩
 ·obtain ⟨⟨vs, sl, ga, z⟩, _, _⟩ := I2.hok a _ hx
  refine zb3 (ns := []) PySem.F.store_ValueError XC.tail (XC.pass _) (I2.bk _ _ hC) (XC.sa.keeps I2.bk) ((hf C bm kc).keeps I2.bk) (XO.inst ga) (fun h' tk' i' hk hsame hnew => ?_) PySem.Within.nil (by decide)
  obtain ⟨o1, g1, c1, d1, s1', _⟩ := hsame _ ga
  obtain ⟨o2, g2, _, _, dd⟩ := i'
  rw [g1] at g2
  cases g2
  rcases dd with ⟨_, dn⟩ | ⟨dx, hdx, hne, hns, hex⟩
  ·have := dn f; simp at this
  ·have hz := hnew _ _ dx ga rfl g1 hdx
   have o1e : o1 = { cls := .ref C, dict := some dx, data := .fields vs, slots := sl } := by
    obtain ⟨oc, od, odt, osl⟩ := o1
    cases c1; cases d1; cases s1'; cases hdx; rfl
   have I3 := I2.xdict (t' := tk') (dx := dx) (fs := [(f, y)]) hx (fun b ob hb gb => hk b ob hb (fun o₀ dx' e1 e2 => by rw [ga] at e1; cases e1; cases e2) gb) hz ⟨vs, sl, by rw [g1, o1e], z⟩
    ⟨_, hns, hex, fun g => ?_, fun g hg => ?_⟩
   ·exact ⟨σ, _, I3, q2 dx (I2.hok.fresh hz) hne⟩
   ·show RelO ((putF f y []).lookup g) (if g = f then some u else none)
    rw [zby]
    by_cases e : g = f
    ·rw [if_pos e, if_pos e]; exact ry
    ·rw [if_neg e, if_neg e]; trivial
   ·show g ∈ [f]
    by_cases e : g = f
    ·rw [e]; simp
    ·exact absurd (if_neg e) hg
 ·obtain ⟨⟨vs, sl, ga, z⟩, _, _⟩ := I2.hok a _ hx
  obtain ⟨⟨mA, hns, hex, hr, hwi⟩, _, _⟩ := I2.hok dx _ hdx
  refine zb3 (ns := fs.map (·.1)) PySem.F.store_ValueError XC.tail (XC.pass _) (I2.bk _ _ hC) (XC.sa.keeps I2.bk) ((hf C bm kc).keeps I2.bk) ⟨_, ga, rfl, fun _ z => (by cases z), .inr ⟨dx, rfl, hne, hns, hex⟩⟩ (fun h' tk' i' hk hsame hnew => ?_) hwi (by rw [List.length_map]; omega)
  obtain ⟨o1, g1, c1, d1, s1', dk⟩ := hsame _ ga
  have hd1 := dk dx rfl
  obtain ⟨o2, g2, _, _, dd⟩ := i'
  rw [g1] at g2
  cases g2
  rcases dd with ⟨dn, _⟩ | ⟨dx2, hdx2, hne2, hns2, hex2⟩
  ·rw [hd1] at dn; cases dn
  ·rw [hd1] at hdx2
   cases hdx2
   have o1e : o1 = { cls := .ref C, dict := some dx, data := .fields vs, slots := sl } := by
    obtain ⟨oc, od, odt, osl⟩ := o1
    cases c1; cases d1; cases s1'; cases hd1; rfl
   have I3 := I2.write (x := dx) (e := dx) (o := .ext (XD dx (putF f y fs))) (t' := tk') (h' := h') (by rw [hdx]; trivial) (.inl rfl) (fun b ob hb gb => by
    by_cases hba : b = a
    ·subst hba; rw [ga] at gb; cases gb; rw [g1, o1e]
    ·exact hk b ob hba (fun o₀ dx' e1 e2 => by rw [ga] at e1; cases e1; cases e2; exact hb) gb) (let ⟨o, _, _, q, _⟩ := hns2; ⟨o, q⟩) (XD.ok ⟨_, hns2, hex2, fun g => ?_, fun g hg => ?_⟩)
   ·exact ⟨σ, _, I3, q2⟩
   ·show RelO ((putF f y fs).lookup g) (if g = f then some u else mA g)
    rw [zby]
    by_cases e : g = f
    ·rw [if_pos e, if_pos e]; exact ry
    ·rw [if_neg e, if_neg e]; exact hr g
   ·by_cases e : g = f
    ·rw [e]; exact (zb0 f y fs).1
    ·refine (zb0 f y fs).2 g (hwi g fun z => hg ?_)
     show (if g = f then some u else mA g) = none
     rw [if_neg e]; exact z
end
end L2
namespace L2
open PySem PySem.Spec PyProof.Rows PySem.Calls PyProof.V
inductive FmtV : V -> Str -> Prop
 | str (x : Str) (h : x.length <= sizeLine) : FmtV (.str x) x
 | int (i : Int) (h : i.natAbs.log2 < 1920) : FmtV (.int i) (toString i : String)
 | non : FmtV .non "None"
def tFmt (te : TE) : TE := fun σ H Q => te σ H fun v H1 => ∃ y, FmtV v y /\ Q (.str y) H1
def zf5 : List TE -> Str -> TE
 | [], acc => fun _ H Q => acc.length <= sizeLine /\ Q (.str acc) H
 | te :: r, acc => fun σ H Q => te σ H fun v H1 => ∃ y, v = .str y /\ (acc ++ y).length <= sizeLine /\ zf5 r (acc ++ y) σ H1 Q
inductive PEs (X : Cx) : List Expr -> List TE -> Prop
 | nil : PEs X [] []
 | cons {e : Expr} {es : List Expr} {t : TE} {ts : List TE} : PE X e t -> PEs X es ts -> PEs X (e :: es) (t :: ts)
section
variable {X : Cx} {value : Expr} {te : TE} {pos : Pos}
theorem zjk (h : PE X value te) : PE X (.FormattedValue value (-1) none pos) (tFmt te) := by
 intro pins s σ H Q I hq
 refine wpAny_FormattedValue_plain (thn (h pins s σ H _ I hq) fun u s1 ⟨v, H1, I1, rv, y, hy, q⟩ => ?_)
 cases hy with
 | str x hx =>
  obtain ⟨t, rfl⟩ := (show ∃ t, u = Value.str y t from rv)
  exact wpAny_formatField_str ⟨.str y, H1, I1, ⟨_, rfl⟩, q⟩ ⟨.str y, H1, I1.tok _, ⟨_, rfl⟩, q⟩ hx
 | int i hi =>
  obtain ⟨t, rfl⟩ := (show ∃ t, u = Value.int i t from rv)
  exact wpAny_formatField_int hi ⟨.str _, H1, I1.tok _, ⟨_, rfl⟩, q⟩
 | non =>
  obtain rfl : u = Value.none := rv
  exact wpAny_formatField_none ⟨.str _, H1, I1.tok _, ⟨_, rfl⟩, q⟩
theorem zdK {E : Value -> Shared -> Prop} : ∀ {es : List Expr} {ts : List TE} {acc : Str} {pins : List (Addr × Obj)} {s : Shared} {σ : St} {H : Hp} {Q : VK}, PEs X es ts -> Inv X pins σ H s -> zf5 ts acc σ H Q ->
  Joins (model X.prog X.w) X.A X.xe (evalEach es X.env) acc (fun out s1 => out.length <= sizeLine /\ EP X pins σ Q (.str out s1.toks) { s1 with toks := s1.toks + 1 }) s
 | _, _, acc, pins, s, σ, H, Q, .nil, I, ⟨hl, q⟩ => ⟨hl, .str acc, H, I.tok _, ⟨_, rfl⟩, q⟩
 | _, _, acc, pins, s, σ, H, Q, .cons h r, I, hq => thn (h pins s σ H _ I hq) fun u s1 ⟨v, H1, I1, rv, y, ev, hl, q⟩ => by
  subst ev
  obtain ⟨t, rfl⟩ := (show ∃ t, u = Value.str y t from rv)
  exact ⟨y, t, rfl, hl, zdK (E := E) r I1 q⟩
theorem zeR {v1 v2 : Expr} {rest : List Expr} {ts : List TE} (h : PEs X (v1 :: v2 :: rest) ts) : PE X (.JoinedStr (v1 :: v2 :: rest) pos) (zf5 ts Str.empty) := by
 intro pins s σ H Q I hq
 exact wpAny_JoinedStr (zdK (E := X.xe) h I hq)
end
end L2
namespace L2
open PySem PySem.Spec PyProof.Rows PySem.Calls PyProof.V
section
variable {X : Cx} {e : Expr} {f : Str} {pos : Pos} {ta : TE} {KC : Addr -> List Value -> Prop}
end
end L2
namespace L2
open PySem PySem.Spec
section
variable {prog : Program} {w : World} {A : Around} {E : Value -> Shared -> Prop} {h : Heap} {g : Array GenState} {d : Drawn} {t : Nat} {os : OsState} {R : Result -> Shared -> Prop}
variable {nm q : Str} {C N a : Addr} {bs bm bmB : List Value} {hdct : Bool} {sn : List Str} {sub : List Value} {ab : Bool} {col : Option Bool} {dd : Option Addr} {k0 k1 k2 k3 k5 : Option Value} {newId : String} {o : Obj}
theorem zee (T : Tail bmB bm) (ho : bmB.contains (.type "object") = true) (hC : h.get? C = some (excClassObj nm q C N bs bm hdct sn sub ab col dd k0 k1 k2 k3 k5 newId)) (hx : h.get? a = some o) (hc : o.cls = .ref C) (hq : R (.ok (.ret (.ref C))) ⟨h, g, d, t, os⟩) :
  codeAny (model prog w) A (.call (.builtin "getset_descriptor.__get__") ⟨[.builtin "object.__class__", .ref a, .ref C], []⟩) R ⟨h, g, d, t, os⟩ := by
 have hT5 : (⟨h, g, d, t, os⟩ : Shared).TypeIs (.builtin "object.__class__") "getset_descriptor" := PySem.F.typeOf_object_class
 have hcB : (Value.ref C :: bm).contains (.type (".".intercalate ("object.__class__".cutAt '.').dropLast)) = true := by
  rw [PySem.F.owner_object_class, List.contains_cons, T _ _ ho]; rfl
 refine codeAny_call_builtin PySem.F.slot_gs_get.plain PySem.F.entry_gs_get (PySem.F.slot_gs_get.check _ _ _ _ _ _ _ _ hT5 (PySem.F.args_gs_get _ _ _) ?_)
 repeat (any_goals (first | assumption | (with_reducible refine wpAny_loadPart_at hx ?_; rw [hc]) | (with_reducible refine wpAny_isSubtype_exc hC ?_; rw [hcB]) | wp_step))
 refine ⟨Code.quiet_builtin _ (by decide +kernel), codeAny_builtin PySem.F.entry_object_class ?_⟩
 unfold Builtin.«object.__class__»
 repeat (any_goals (first | assumption | (with_reducible refine wpAny_loadPart_at hx ?_; rw [hc]) | wp_step))
theorem zc1 {tk : Tok} {Q : PySem.Fin -> Shared -> Prop} (T : Tail bmB bm) (ho : bmB.contains (.type "object") = true) (hC : h.get? C = some (excClassObj nm q C N bs bm hdct sn sub ab col dd k0 k1 k2 k3 k5 newId)) (fc : zaH (model prog w) C "__class__" (some (.builtin "object.__class__")) h) (hx : h.get? a = some o) (hc : o.cls = .ref C) (hq : Q (.done (.ret (.ref C))) ⟨h, g, d, t, os⟩) :
  wpAny (model prog w) A (Builtin.«object.__getattribute__» ⟨[.ref a, .str "__class__" tk], []⟩) Q E ⟨h, g, d, t, os⟩ := by
 have hT5 : (⟨h, g, d, t, os⟩ : Shared).TypeIs (.builtin "object.__class__") "getset_descriptor" := PySem.F.typeOf_object_class
 have f5 := PySem.F.typeOf_object_class
 have f6 := PySem.F.slot_gs_get.lookup
 have f7 := PySem.F.slot_gs_set.lookup
 repeat (any_goals (first | assumption | (with_reducible refine wpAny_loadPart_at hx ?_; rw [hc]) | with_reducible refine fc.at ?_ | wp_step))
 refine zee T ho hC hx hc ?_
 repeat (any_goals (first | assumption | wp_step))
theorem zb4 {Q : Option Value -> Shared -> Prop} (FB : ExcAttrFacts "ValueError") (T : Tail VB bm) (hC : h.get? C = some (excClassObj nm q C N bs bm hdct sn sub ab col dd k0 k1 k2 k3 k5 newId)) (fc : zaH (model prog w) C "__class__" (some (.builtin "object.__class__")) h)
  (fg : zaH (model prog w) C "__getattribute__" (some (.builtin "BaseException.__getattribute__")) h) (fa : zaH (model prog w) C "__getattr__" none h) (hx : h.get? a = some o) (hc : o.cls = .ref C) (hq : Q (some (.ref C)) ⟨h, g, d, t + 1, os⟩) :
  wpAny (model prog w) A (getAttr? (.ref a) "__class__") Q E ⟨h, g, d, t, os⟩ := by
 have f3 := FB.ga.bind (.ref a)
 have hx0 : (false && onTheHeap (Value.builtin "BaseException.__getattribute__")) = false := rfl
 have hx2 : (Value.builtin "BaseException.__getattribute__" == Value.builtin "object.__getattribute__") = false := by decide +kernel
 have hx1 : (onTheHeap (Value.ref C) && Value.builtin "BaseException.__getattribute__" == Value.builtin "object.__getattribute__") = false := by rw [hx2]; rfl
 unfold getAttr? getAttrBy?
 refine wpAny_bind (wpAny_mkText (wpAny_bind (wpAny_attempt ?_)))
 repeat (any_goals (first | assumption | (with_reducible refine wpAny_loadPart_at hx ?_; rw [hc]) | with_reducible refine fg.at ?_ | with_reducible refine fa.at ?_ | wp_step))
 refine codeAny_call_builtin FB.ga.plain PySem.F.entry_bexc_ga (zeO T rfl hC hx hc (zc1 T rfl hC fc hx hc ?_))
 repeat (any_goals (first | assumption | wp_step))
end
end L2
namespace L2
open PySem PySem.Spec PyProof.Rows
section
variable {prog : Program} {w : World} {A : Around} {E : Value -> Shared -> Prop} {h : Heap} {g : Array GenState} {d : Drawn} {t : Nat} {os : OsState}
variable {nm q nm' q' : Str} {C N D N' a : Addr} {bs bm bs' bm' : List Value} {hdct hdct' : Bool} {sn sn' : List Str} {sub sub' : List Value} {ab ab' : Bool} {col col' : Option Bool} {dd dd' : Option Addr} {k0 k1 k2 k3 k5 j0 j1 j2 j3 j5 : Option Value} {newId newId' : String} {o : Obj} {b : Bool}
theorem zhE {Q : Value -> Shared -> Prop} (T : Tail VB bm) (hC : h.get? C = some (excClassObj nm q C N bs bm hdct sn sub ab col dd k0 k1 k2 k3 k5 newId)) (hD : h.get? D = some (excClassObj nm' q' D N' bs' bm' hdct' sn' sub' ab' col' dd' j0 j1 j2 j3 j5 newId'))
  (fc : zaH (model prog w) C "__class__" (some (.builtin "object.__class__")) h) (fg : zaH (model prog w) C "__getattribute__" (some (.builtin "BaseException.__getattribute__")) h) (fa : zaH (model prog w) C "__getattr__" none h)
  (hx : h.get? a = some o) (hc : o.cls = .ref C) (hb : (Value.ref C :: bm).contains (.ref D) = b) (hq : ∀ tk, Q (.bool b) ⟨h, g, d, tk, os⟩) : wpAny (model prog w) A (call (.builtin "isinstance") [.ref a, .ref D]) Q E ⟨h, g, d, t, os⟩ := by
 have hT : (⟨h, g, d, t, os⟩ : Shared).TypeIs (.ref D) "type" := ⟨_, hD, rfl⟩
 have f2 := tc_sub
 refine call_isinstance_of ?_ (fun z => nomatch z)
 unfold Builtin.«isinstance.nested»
 refine wpAny_bind ?_
 unfold typeOf
 refine wpAny_bind (wpAny_loadPart_at hx (wpAny_pure ?_))
 rw [hc]
 by_cases e : C = D
 ·subst e
  have hb1 : b = true := by rw [← hb]; simp
  subst hb1
  rw [if_pos (by simp)]
  exact wpAny_bind (wpAny_rule (wpAny_pure (hq t)))
 ·rw [if_neg (by simp [e])]
  refine wpAny_bind (wpAny_bind (wpAny_loadPart_at hD (wpAny_pure ?_)))
  rw [if_pos (show (Value.type "type" == Value.type "type") = true by decide)]
  k_delta "plainIsInstance"
  unfold isType isInstance
  repeat (first | (with_reducible refine wpAny_loadPart_at hx ?_; rw [hc]) | with_reducible refine wpAny_loadPart_at hD ?_ | with_reducible refine wpAny_loadPart_at hC ?_ | (with_reducible refine wpAny_isSubtype_exc hC ?_; rw [hb]) | wp_step)
  cases b with
  | true => wp_walk; exact hq t
  | false =>
   rw [if_neg (by decide)]
   refine wpAny_bind (zb4 PySem.F.excAttr_ValueError T hC fc fg fa hx hc ?_)
   repeat (first | with_reducible refine wpAny_loadPart_at hC ?_ | (with_reducible refine wpAny_isSubtype_exc hC ?_; rw [hb]) | wp_step)
   exact hq _
theorem zjl {Q : Value -> Shared -> Prop} {X : String} (T : Tail VB bm) (hC : h.get? C = some (excClassObj nm q C N bs bm hdct sn sub ab col dd k0 k1 k2 k3 k5 newId)) (hX : typeOf (.type X) = pure (.type "type"))
  (fc : zaH (model prog w) C "__class__" (some (.builtin "object.__class__")) h) (fg : zaH (model prog w) C "__getattribute__" (some (.builtin "BaseException.__getattribute__")) h) (fa : zaH (model prog w) C "__getattr__" none h)
  (hx : h.get? a = some o) (hc : o.cls = .ref C) (hb : (Value.ref C :: bm).contains (.type X) = b) (hq : ∀ tk, Q (.bool b) ⟨h, g, d, tk, os⟩) : wpAny (model prog w) A (call (.builtin "isinstance") [.ref a, .type X]) Q E ⟨h, g, d, t, os⟩ := by
 refine call_isinstance_of ?_ (fun z => nomatch z)
 unfold Builtin.«isinstance.nested»
 refine wpAny_bind ?_
 have ty : ∀ {M : Model} {A : Around} {Q : Value -> Shared -> Prop} {E : Value -> Shared -> Prop}, Q (.ref C) ⟨h, g, d, t, os⟩ -> wpAny M A (typeOf (.ref a)) Q E ⟨h, g, d, t, os⟩ := fun q => by
  unfold typeOf
  refine wpAny_bind (wpAny_loadPart_at hx (wpAny_pure ?_))
  rw [hc]; exact q
 refine ty ?_
 rw [if_neg (by simp)]
 refine wpAny_bind (wpAny_of_eq hX ?_)
 rw [if_pos (show (Value.type "type" == Value.type "type") = true by decide)]
 k_delta "plainIsInstance"
 unfold isType isInstance
 repeat (first | (with_reducible refine wpAny_loadPart_at hx ?_; rw [hc]) | with_reducible refine wpAny_loadPart_at hC ?_ | (with_reducible refine wpAny_isSubtype_exc hC ?_; rw [hb]) | wp_step)
 cases b with
 | true => wp_walk; exact hq t
 | false =>
  rw [if_neg (by decide)]
  refine wpAny_bind (zb4 PySem.F.excAttr_ValueError T hC fc fg fa hx hc ?_)
  repeat (first | with_reducible refine wpAny_loadPart_at hC ?_ | (with_reducible refine wpAny_isSubtype_exc hC ?_; rw [hb]) | wp_step)
  exact hq _
end
def rIsX (KC : Addr -> List Value -> Prop) : List V -> Hp -> VK -> Prop := fun xs H Q => ∃ a C dd bm fr c b, xs = [.ref a, c] /\ KC C bm /\ H a = some (.ext (XO fr a C dd)) /\
 ((∃ D bm', c = .ref D /\ KC D bm' /\ (Value.ref C :: bm).contains (.ref D) = b) ∨ ∃ T, c = .ty T /\ typeOf (.type T) = pure (.type "type") /\ (Value.ref C :: bm).contains (.type T) = b) /\ Q (.bl b) H
theorem zf6 {X : Cx} {KC : Addr -> List Value -> Prop} (hcls : ∀ C bm, KC C bm -> ∃ fI, XCls (model X.prog X.w) X.base C bm fI) : zcl X (.builtin "isinstance") (rIsX KC) := by
 rintro pins s σ H xs us Q I r ⟨a, C, dd, bm, fr, c, b, rfl, kc, hx, hD, q⟩
 cases r with
 | cons ra r =>
 cases r with
 | cons rc r =>
 cases r
 have ra' : _ = Value.ref a := ra
 subst ra'
 obtain ⟨fI, XC⟩ := hcls C bm kc
 obtain ⟨nm, qn, N, bs, sn, sub, ab, col, dd1, k0, k1, k2, k3, k5, hC⟩ := XC.obj
 obtain ⟨⟨vs, sl, ga, _⟩, _, _⟩ := I.hok a _ hx
 obtain ⟨hp, g, d, tk, os⟩ := s
 rcases hD with ⟨D, bm', rfl, kd, hb⟩ | ⟨T, rfl, hT, hb⟩
 ·have rc' : _ = Value.ref D := rc
  subst rc'
  obtain ⟨fI', XD'⟩ := hcls D bm' kd
  obtain ⟨nm', qn', N', bs', sn', sub', ab', col', dd2, j0, j1, j2, j3, j5, hD'⟩ := XD'.obj
  exact zhE XC.tail (I.bk _ _ hC) (I.bk _ _ hD') (XC.cl.keeps I.bk) (XC.ga.keeps I.bk) (XC.gh.keeps I.bk) ga rfl hb fun tk' => ⟨.bl b, H, I.tok tk', rfl, q⟩
 ·have rc' : _ = Value.type T := rc
  subst rc'
  exact zjl XC.tail (I.bk _ _ hC) hT (XC.cl.keeps I.bk) (XC.ga.keeps I.bk) (XC.gh.keeps I.bk) ga rfl hb fun tk' => ⟨.bl b, H, I.tok tk', rfl, q⟩
end L2
namespace L2
open PySem PySem.Spec PyProof.Rows
def zcA (KC : Addr -> List Value -> Prop) : Sp := fun vs H Q _ => ∃ a C dd bm x, vs = [.ref a, .str x] /\ KC C bm /\ H a = some (.ext (XO true a C dd)) /\ Q .non H
def zdq (KC : Addr -> List Value -> Prop) (fs : List Str) : Sp := fun vs H Q _ => ∃ a C bm us, vs = .ref a :: us /\ us.length = fs.length /\ KC C bm /\ H a = some (.ext (XO true a C none)) /\ (∀ u ∈ us, ∃ y, FmtV u y /\ y.length <= 4000) /\
 ∀ dx, H dx = none -> dx ≠ a -> Q .non (upd (upd H a (.ext (XO true a C (some dx)))) dx (.ext (XD dx (fs.zip us))))
end L2
namespace L2
open PySem PySem.Spec PyProof.Rows
def zbm (nm : Str) : List Str := if nm = "NoWishes" then ["part", "number"] else if nm = "NoAim" then ["part"] else if nm = "NoText" then ["row"] else []
def zf7 (K : PySem.W.Frag) (nm : Str) : Option Addr := match PySem.W.nsIn K mainGlobals nm with | some (some (.ref C)) => some C | _ => none
def NmAt (K : PySem.W.Frag) (nm : Str) (C : Addr) : Prop := ∃ o cd, K.lookup C = some o /\ o.data = .cls cd /\ cd.name = nm
structure ClsK (K : PySem.W.Frag) (nm : Str) (C : Addr) (bm : List Value) : Prop where
 ad : zf7 K nm = some C
 nmd : NmAt K nm C
 up : nm = "DealError" /\ bm = VB ∨ nm ≠ "DealError" /\ ∃ D, zf7 K "DealError" = some D /\ bm = .ref D :: VB /\ NmAt K "DealError" D
 cls : ∀ (M : Model) (h : Heap), K.In h -> ∃ fI, XCls M h C bm fI
 fld : ∀ (M : Model) (h : Heap), K.In h -> ∀ f ∈ (["part", "number", "row"] : List Str), zaH M C f none h
def KC (K : PySem.W.Frag) : Addr -> List Value -> Prop := fun C bm => ∃ nm, ClsK K nm C bm
section
variable {K : PySem.W.Frag} {nm x : Str} {C D : Addr} {bm bm' : List Value}
theorem NmAt.ne (c : NmAt K nm C) (d : NmAt K x D) (h : x ≠ nm) : C ≠ D := fun e => by
 subst e
 obtain ⟨o, cd, h1, h2, h3⟩ := c
 obtain ⟨o', cd', g1, g2, g3⟩ := d
 rw [h1] at g1; cases g1
 rw [h2] at g2; cases g2
 exact h (g3.symm.trans h3)
theorem ClsK.has (c : ClsK K nm C bm) (d : ClsK K x D bm') : (Value.ref C :: bm).contains (.ref D) = (decide (x = nm) || decide (x = "DealError")) := by
 by_cases e : x = nm
 ·subst e
  have := c.ad.symm.trans d.ad
  cases this
  simp
 ·have ne := c.nmd.ne d.nmd e
  rw [decide_eq_false e, Bool.false_or]
  have h0 : (Value.ref D == Value.ref C) = false := by simp [Ne.symm ne]
  rw [List.contains_cons, h0, Bool.false_or]
  by_cases e2 : x = "DealError"
  ·subst e2
   rcases c.up with ⟨z, _⟩ | ⟨_, D', g, rfl, _⟩
   ·exact absurd z.symm e
   ·have := g.symm.trans d.ad
    cases this
    simp
  ·rw [decide_eq_false e2]
   rcases c.up with ⟨_, rfl⟩ | ⟨_, D', g, rfl, n⟩
   ·rfl
   ·have ne2 := n.ne d.nmd e2
    have h1 : (Value.ref D == Value.ref D') = false := by simp [Ne.symm ne2]
    rw [List.contains_cons, h1, Bool.false_or]
    rfl
theorem ClsK.ty (c : ClsK K nm C bm) (T : String) : (Value.ref C :: bm).contains (.type T) = VB.contains (.type T) := by
 rcases c.up with ⟨_, rfl⟩ | ⟨_, D', g, rfl, n⟩
 ·rfl
 ·rfl
end
section
variable {X : Cx} {e : Expr} {st : Stmt} {sts : List Stmt} {t : TE} {ts : TS}
theorem PS.kin (h : X.K.In X.base -> PS X st ts) : PS X st ts := fun pins s σ H Q I q => h I.ok.mod.kin pins s σ H Q I q
theorem PSs.kin (h : X.K.In X.base -> PSs X sts ts) : PSs X sts ts := fun pins s σ H Q I q => h I.ok.mod.kin pins s σ H Q I q
theorem zf8 (k : X.K.In X.base) : ∀ C bm, KC X.K C bm -> ∃ fI, XCls (model X.prog X.w) X.base C bm fI := fun _ _ ⟨_, c⟩ => c.cls _ _ k
end
def zjm (nm : Str) (us : List V) : Prop := (zbm nm = [] /\ ∃ x, us = [.str x]) ∨ (zbm nm ≠ [] /\ us.length = (zbm nm).length /\ ∀ u ∈ us, ∃ y, FmtV u y /\ y.length <= 4000)
def zjn (nm : Str) (C a : Addr) (us : List V) (H : Hp) (dd : Option Addr) (H' : Hp) : Prop :=
 (zbm nm = [] /\ dd = none /\ H' = H) ∨ (zbm nm ≠ [] /\ us.length = (zbm nm).length /\ ∃ dx, dd = some dx /\ H dx = none /\ dx ≠ a /\ H' = upd (upd H a (.ext (XO true a C (some dx)))) dx (.ext (XD dx ((zbm nm).zip us))))
def zg1 (K : PySem.W.Frag) (nm : Str) (C : Addr) (sp : Sp) : Prop := ∀ a us H Q, H a = some (.ext (XO true a C none)) -> zjm nm us -> (∀ dd H', zjn nm C a us H dd H' -> Q .non H') -> sp (.ref a :: us) H Q E0
def MkX (P : Program) (w : World) (K : PySem.W.Frag) (mg : Str -> Option Value) (base : Heap) (nm : Str) (k : Nat) : Prop :=
 ∃ C bm f fd ps sp, mg nm = some (.ref C) /\ PySem.W.keepIn K (.ref C) = true /\ ClsK K nm C bm /\ (∀ (M : Model) (h : Heap), K.In h -> XCls M h C bm f) /\ FnOk P w K mg base CX0 k f fd ps sp /\ zbt K fd ps [] /\ zg1 K nm C sp
theorem zf9 {K : PySem.W.Frag} {nm : Str} {C : Addr} {bm : List Value} (c : ClsK K nm C bm) (hf : zbm nm ≠ []) : zg1 K nm C (zdq (KC K) (zbm nm)) := fun a us H Q h ar q => by
 rcases ar with ⟨z, _⟩ | ⟨_, hl, hu⟩
 ·exact absurd z hf
 ·exact ⟨a, C, bm, us, rfl, hl, ⟨nm, c⟩, h, hu, fun dx hd hne => q (some dx) _ (.inr ⟨hf, hl, dx, rfl, hd, hne, rfl⟩)⟩
end L2
namespace DL
open PySem PySem.Spec L2
open PyProof.Rows hiding St
abbrev D := PyData
abbrev XW := V -> St -> Hp -> Prop
abbrev KX0 : XW := fun _ _ _ => False
def XFs (G : Hp) (dd : Option Addr) (fs : List Str) (vs : List V) : Prop := match dd with
 | none => fs = [] /\ vs = []
 | some dx => fs.length = vs.length /\ G dx = some (.ext (XD dx (fs.zip vs)))
theorem XFs.mono {G G1 : Hp} {dd : Option Addr} {fs : List Str} {vs : List V} (e : Same G G1) (h : XFs G dd fs vs) : XFs G1 dd fs vs := by
 cases dd with
 | none => exact h
 | some dx => exact ⟨h.1, e _ _ h.2⟩
def kD : Key -> D
 | .inl i => .int i
 | .inr x => .str x
mutual
inductive Rep (K : PySem.W.Frag) (G : Hp) : V -> D -> Prop where
 | non : Rep K G .non .none
 | bl (b : Bool) : Rep K G (.bl b) (.bool b)
 | int (i : Int) : Rep K G (.int i) (.int i)
 | str (x : Str) : Rep K G (.str x) (.str x)
 | lst {a : Addr} {vs : List V} {ds : List D} (h : SqL K G a vs) (r : Reps K G vs ds) : Rep K G (.ref a) (.list ds)
 | tup {a : Addr} {vs : List V} {ds : List D} (h : SqT K G a vs) (r : Reps K G vs ds) : Rep K G (.ref a) (.tuple ds)
 | dic {a : Addr} (h : G a = some (.dK [])) : Rep K G (.ref a) (.dict [])
 | exc {a C : Addr} {dd : Option Addr} {bm : List Value} {nm : Str} {vs : List V} {ds : List D} (c : ClsK K nm C bm) (h : G a = some (.ext (XO false a C dd))) (hd : XFs G dd (zbm nm) vs) (r : Reps K G vs ds) : Rep K G (.ref a) (.dict [(.none, .tuple [.str nm, .list ds])])
 | dct {a : Addr} {ks : List Key} {vs : List V} {ds : List D} {kvs : List (D × D)} (e : kvs = (ks.map kD).zip ds) (hne : ks ≠ []) (hl : ks.length = ds.length) (h : G a = some (.dK (ks.zip vs))) (r : Reps K G vs ds) : Rep K G (.ref a) (.dict kvs)
inductive Reps (K : PySem.W.Frag) (G : Hp) : List V -> List D -> Prop where
 | nil : Reps K G [] []
 | cons {v : V} {d : D} {vs : List V} {ds : List D} (h : Rep K G v d) (t : Reps K G vs ds) : Reps K G (v :: vs) (d :: ds)
end
variable {K : PySem.W.Frag} {B G0 G G1 G2 H H1 H2 : Hp}
theorem zb5 {a : Addr} {xs : List V} (e : Same G G1) (h : SqT K G a xs) : SqT K G1 a xs := by
 rcases h with (h | ⟨o, h⟩) | h
 ·exact .inl (.inl (e _ _ h))
 ·exact .inl (.inr ⟨o, e _ _ h⟩)
 ·exact .inr h
mutual
theorem Rep.mono (e : Same G G1) : ∀ {v : V} {d : D}, Rep K G v d -> Rep K G1 v d
 | _, _, .non => .non
 | _, _, .bl b => .bl b
 | _, _, .int i => .int i
 | _, _, .str x => .str x
 | _, _, .lst h r => .lst (e.seq h) (Reps.mono e r)
 | _, _, .tup h r => .tup (zb5 e h) (Reps.mono e r)
 | _, _, .dic h => .dic (e _ _ h)
 | _, _, .exc c h hd r => .exc c (e _ _ h) (hd.mono e) (Reps.mono e r)
 | _, _, .dct z n l h r => .dct z n l (e _ _ h) (Reps.mono e r)
theorem Reps.mono (e : Same G G1) : ∀ {vs : List V} {ds : List D}, Reps K G vs ds -> Reps K G1 vs ds
 | _, _, .nil => .nil
 | _, _, .cons h t => .cons (Rep.mono e h) (Reps.mono e t)
end
theorem zeS {ks : List Key} {ds : List D} {d : D} {r : List (D × D)} (e : (.none, d) :: r = (ks.map kD).zip ds) : False := by
 cases ks with
 | nil => cases e
 | cons k ks =>
  cases ds with
  | nil => cases e
  | cons d ds =>
   rw [List.map_cons, List.zip_cons_cons] at e
   injection e with e1 _
   injection e1 with e2 _
   cases k <;> cases e2
section
variable {v : V} {vs ws : List V} {ds es : List D}
theorem Rep.bl_inv {b : Bool} (h : Rep K G v (.bool b)) : v = .bl b := by cases h; rfl
theorem Rep.int_inv {i : Int} (h : Rep K G v (.int i)) : v = .int i := by cases h; rfl
theorem Rep.str_inv {x : Str} (h : Rep K G v (.str x)) : v = .str x := by cases h; rfl
theorem Rep.lst_inv (h : Rep K G v (.list ds)) : ∃ a vs, v = .ref a /\ SqL K G a vs /\ Reps K G vs ds := by
 cases h with
 | lst h r => exact ⟨_, _, rfl, h, r⟩
theorem Rep.tup_inv (h : Rep K G v (.tuple ds)) : ∃ a vs, v = .ref a /\ SqT K G a vs /\ Reps K G vs ds := by
 cases h with
 | tup h r => exact ⟨_, _, rfl, h, r⟩
theorem Rep.exc_inv {d : D} (h : Rep K G v (.dict [(.none, d)])) : ∃ a C dd bm nm vs ds, v = .ref a /\ d = .tuple [.str nm, .list ds] /\ ClsK K nm C bm /\ G a = some (.ext (XO false a C dd)) /\ XFs G dd (zbm nm) vs /\ Reps K G vs ds := by
 cases h with
 | exc c h hd r => exact ⟨_, _, _, _, _, _, _, rfl, rfl, c, h, hd, r⟩
 | dct e _ _ _ _ => exact (zeS e).elim
theorem Reps.length : ∀ {vs : List V} {ds : List D}, Reps K G vs ds -> vs.length = ds.length
 | _, _, .nil => rfl
 | _, _, .cons _ t => by rw [List.length_cons, List.length_cons, Reps.length t]
theorem Reps.get : ∀ {vs : List V} {ds : List D} {i : Nat} {d : D}, Reps K G vs ds -> ds[i]? = some d -> ∃ v, vs[i]? = some v /\ Rep K G v d
 | _, _, _, _, .nil, e => by simp at e
 | _, _, 0, _, .cons h _, e => by simp at e; subst e; exact ⟨_, rfl, h⟩
 | _, _, i + 1, d, .cons _ t, e => by
  obtain ⟨u, h1, h2⟩ := Reps.get (i := i) (d := d) t (by simpa using e)
  exact ⟨u, by simpa using h1, h2⟩
theorem Reps.append : ∀ {vs ws : List V} {ds es : List D}, Reps K G vs ds -> Reps K G ws es -> Reps K G (vs ++ ws) (ds ++ es)
 | _, _, _, _, .nil, s => s
 | _, _, _, _, .cons r t, s => .cons r (Reps.append t s)
theorem Reps.take : ∀ {vs : List V} {ds : List D} (n : Nat), Reps K G vs ds -> Reps K G (vs.take n) (ds.take n)
 | _, _, 0, _ => by rw [List.take_zero, List.take_zero]; exact .nil
 | _, _, _ + 1, .nil => .nil
 | _, _, n + 1, .cons r t => .cons r (Reps.take n t)
theorem Reps.drop : ∀ {vs : List V} {ds : List D} (n : Nat), Reps K G vs ds -> Reps K G (vs.drop n) (ds.drop n)
 | _, _, 0, r => r
 | _, _, _ + 1, .nil => .nil
 | _, _, n + 1, .cons _ t => Reps.drop n t
theorem Reps.ints : ∀ (ns : List Int), Reps K G (ns.map V.int) (ns.map PyData.int)
 | [] => .nil
 | n :: ns => .cons (.int n) (Reps.ints ns)
end
inductive MO where
 | l (vs : List V) | k (kvs : List (Key × V)) | t (kvs : List (List Key × V))
def MO.ho : MO -> HO
 | .l vs => .lst vs
 | .k kvs => .dK kvs
 | .t kvs => .dT kvs
structure Ext (G H G' H' : Hp) : Prop where
 h : Same H H'
 g : Same G G'
 gh : Same G' H'
 np : ∀ a (u : MO), H a = some u.ho -> G a = none -> G' a = none
theorem Ext.refl (e : Same G H) : Ext G H G H := ⟨.refl _, .refl _, e, fun _ _ _ q => q⟩
theorem Ext.trans {G' H' G'' H'' : Hp} (a : Ext G H G' H') (b : Ext G' H' G'' H'') : Ext G H G'' H'' :=
 ⟨a.h.trans b.h, a.g.trans b.g, b.gh, fun x o e q => b.np x o (a.h x _ e) (a.np x o e q)⟩
theorem zau {p : Addr} {o : HO} (h : H p = none) : Same H (upd H p o) := fun b u e => by rw [zak (zat e h)]; exact e
theorem Ext.new {p : Addr} {o : HO} (e : Same G H) (h : H p = none) : Ext G H (upd G p o) (upd H p o) := by
 have hg : G p = none := e.free h
 refine ⟨zau h, zau hg, fun b u q => ?_, fun a u q n => ?_⟩
 ·by_cases z : b = p
  ·subst z; rw [zaj] at q ⊢; exact q
  ·rw [zak z] at q ⊢; exact e b u q
 ·rw [zak (zat q h)]; exact n
theorem Ext.hid {p : Addr} {o : HO} (e : Same G H) (h : H p = none) : Ext G H G (upd H p o) :=
 ⟨zau h, .refl _, e.trans (zau h), fun _ _ _ n => n⟩
inductive Sl where
 | pub (d : D) | own (ds : List D)
abbrev DEnv := List (Option Sl)
structure EOk (K : PySem.W.Frag) (B G0 G H : Hp) (σ : St) (ρ : DEnv) : Prop where
 bh : Same B H
 gh : Same G H
 g0 : Same G0 G
 np : ∀ a (u : MO), B a = some u.ho -> G0 a = none -> G a = none
 len : ρ.length = σ.length
 pub : ∀ (i : Nat) d, ρ[i]? = some (some (.pub d)) -> ∃ v, σ[i]? = some (some v) /\ Rep K G v d
 own : ∀ (i : Nat) ds, ρ[i]? = some (some (.own ds)) -> ∃ a vs, σ[i]? = some (some (.ref a)) /\ B a = none /\ G a = none /\ H a = some (.lst vs) /\ Reps K G vs ds
 sep : ∀ (i j : Nat) a ds es, ρ[i]? = some (some (.own ds)) -> ρ[j]? = some (some (.own es)) -> σ[i]? = some (some (.ref a)) -> σ[j]? = some (some (.ref a)) -> i = j
theorem EOk.ext {G' H' : Hp} {σ : St} {ρ : DEnv} (k : EOk K B G0 G H σ ρ) (e : Ext G H G' H') : EOk K B G0 G' H' σ ρ where
 bh := k.bh.trans e.h
 gh := e.gh
 g0 := k.g0.trans e.g
 np := fun a o q n => e.np a o (k.bh a _ q) (k.np a o q n)
 len := k.len
 pub := fun i d q => let ⟨v, h1, h2⟩ := k.pub i d q; ⟨v, h1, h2.mono e.g⟩
 own := fun i ds q => let ⟨a, vs, h1, h2, h3, h4, h5⟩ := k.own i ds q; ⟨a, vs, h1, h2, e.np a (.l _) h4 h3, e.h a _ h4, h5.mono e.g⟩
 sep := k.sep
theorem EOk.publish {σ : St} {ρ : DEnv} {i : Nat} {ds : List D} (k : EOk K B G0 G H σ ρ) (h : ρ[i]? = some (some (.own ds))) :
  ∃ a G', σ[i]? = some (some (.ref a)) /\ Same G G' /\ Rep K G' (.ref a) (.list ds) /\ EOk K B G0 G' H σ (ρ.set i (some (.pub (.list ds)))) := by
 obtain ⟨a, vs, h1, h2, h3, h4, h5⟩ := k.own i ds h
 have sg : Same G (upd G a (.lst vs)) := zau h3
 have hr : Rep K (upd G a (.lst vs)) (.ref a) (.list ds) := .lst (SqL.of zaj) (h5.mono sg)
 refine ⟨a, upd G a (.lst vs), h1, sg, hr, ⟨k.bh, fun b u q => ?_, k.g0.trans sg, fun b o q n => ?_, by rw [List.length_set]; exact k.len, fun j d q => ?_, fun j es q => ?_, fun j l c es fs q1 q2 s1 s2 => ?_⟩⟩
 ·by_cases z : b = a
  ·subst z; rw [zaj] at q; cases q; exact h4
  ·rw [zak z] at q; exact k.gh b u q
 ·have z : b ≠ a := fun z => by subst z; rw [h2] at q; cases q
  rw [zak z]; exact k.np b o q n
 ·by_cases z : i = j
  ·subst z
   have hl : i < ρ.length := (List.getElem?_eq_some_iff.mp h).1
   rw [List.getElem?_set_self hl] at q
   cases q
   exact ⟨.ref a, h1, hr⟩
  ·rw [List.getElem?_set_ne z] at q
   obtain ⟨v, g1, g2⟩ := k.pub j d q
   exact ⟨v, g1, g2.mono sg⟩
 ·by_cases z : i = j
  ·subst z
   have hl : i < ρ.length := (List.getElem?_eq_some_iff.mp h).1
   rw [List.getElem?_set_self hl] at q
   cases q
  ·rw [List.getElem?_set_ne z] at q
   obtain ⟨b, ws, g1, g2, g3, g4, g5⟩ := k.own j es q
   have zb : b ≠ a := fun e => z (k.sep i j a ds es h q h1 (by rw [← e]; exact g1))
   exact ⟨b, ws, g1, g2, by rw [zak zb]; exact g3, g4, g5.mono sg⟩
 ·have nz : ∀ {m : Nat} {ts : List D}, (ρ.set i (some (Sl.pub (.list ds))))[m]? = some (some (.own ts)) -> ρ[m]? = some (some (.own ts)) := fun {m ts} q => by
   by_cases z : i = m
   ·subst z
    have hl : i < ρ.length := (List.getElem?_eq_some_iff.mp h).1
    rw [List.getElem?_set_self hl] at q
    cases q
   ·rw [List.getElem?_set_ne z] at q; exact q
  exact k.sep j l c es fs (nz q1) (nz q2) s1 s2
end DL
namespace DL
open PySem PySem.Spec L2
open PyProof.Rows hiding St
inductive Res (α : Type) where
 | ok (a : α) (ρ : DEnv) | bad
abbrev M (α : Type) := DEnv -> Res α
def zad {α : Type} (a : α) : M α := fun ρ => .ok a ρ
def mOpt {α : Type} (o : Option α) : M α := fun ρ => match o with | some a => .ok a ρ | none => .bad
def zam {α β : Type} (f : M α) (k : α -> M β) : M β := fun ρ => match f ρ with | .ok a ρ' => k a ρ' | .bad => .bad
section
variable (K : PySem.W.Frag) (B G0 : Hp)
def aft {α γ : Type} (R : Hp -> γ -> α -> Prop) (r : Res α) (G : Hp) (σ : St) (Q : γ -> Hp -> Prop) : Prop :=
 match r with
 | .ok d ρ' => ∀ v G' H', EOk K B G0 G' H' σ ρ' -> Same G G' -> R G' v d -> Q v H'
 | .bad => False
def tM {α γ : Type} (R : Hp -> γ -> α -> Prop) (f : M α) : St -> Hp -> (γ -> Hp -> Prop) -> Prop := fun σ H Q =>
 ∃ G ρ, EOk K B G0 G H σ ρ /\ aft K B G0 R (f ρ) G σ Q
abbrev tD (f : M D) : TE := tM K B G0 (Rep K) f
abbrev tDs (f : M (List D)) : TA := tM K B G0 (Reps K) f
abbrev tBo (f : M Bool) : TT := tM K B G0 (fun _ b c => b = c) f
abbrev tOi (f : M (Option Int)) : TO := tM K B G0 (fun _ b c => b = c) f
end
section
variable {K : PySem.W.Frag} {B G0 : Hp} {α β γ δ ε : Type} {R : Hp -> γ -> α -> Prop} {S : Hp -> δ -> β -> Prop} {T : Hp -> ε -> α -> Prop} {σ : St} {H : Hp}
theorem aft.mono {r : Res α} {G G' : Hp} {Q : γ -> Hp -> Prop} (e : Same G G') (h : aft K B G0 R r G σ Q) : aft K B G0 R r G' σ Q := by
 cases r with
 | ok d ρ => exact fun v G2 H2 k s q => h v G2 H2 k (e.trans s) q
 | bad => exact h
theorem aft.done {d : α} {ρ : DEnv} {G G' H H' : Hp} {v : γ} {Q : γ -> Hp -> Prop} (h : aft K B G0 R (.ok d ρ) G σ Q) (k : EOk K B G0 G H σ ρ) (e : Ext G H G' H') (r : R G' v d) : Q v H' :=
 h v G' H' (k.ext e) e.g r
theorem aft.now {d : α} {ρ : DEnv} {G H : Hp} {v : γ} {Q : γ -> Hp -> Prop} (h : aft K B G0 R (.ok d ρ) G σ Q) (k : EOk K B G0 G H σ ρ) (r : R G v d) : Q v H :=
 h v G H k (.refl _) r
theorem aft.opt {o : Option α} {ρ : DEnv} {G : Hp} {Q : γ -> Hp -> Prop} (h : aft K B G0 R (mOpt o ρ) G σ Q) : ∃ d, o = some d /\ aft K B G0 R (.ok d ρ) G σ Q := by
 cases o with
 | none => exact h.elim
 | some d => exact ⟨d, rfl, h⟩
theorem tM.bind {f : M α} {k : α -> M β} {Q : δ -> Hp -> Prop} (h : tM K B G0 S (zam f k) σ H Q) :
  tM K B G0 R f σ H (fun v H1 => ∃ G ρ d, EOk K B G0 G H1 σ ρ /\ R G v d /\ aft K B G0 S (k d ρ) G σ Q) := by
 obtain ⟨G, ρ, e, a⟩ := h
 refine ⟨G, ρ, e, ?_⟩
 unfold zam at a
 cases q : f ρ with
 | bad => rw [q] at a; exact a.elim
 | ok d ρ1 =>
  rw [q] at a
  exact fun v G' H' e' s r => ⟨G', ρ1, d, e', r, aft.mono s a⟩
theorem tM.bind2 {α' γ' : Type} {R' : Hp -> γ' -> α' -> Prop} {f : M α} {g : α -> M α'} {k : α -> α' -> M β} {Q : δ -> Hp -> Prop} (mo : ∀ G G' v d, Same G G' -> R G v d -> R G' v d)
  (h : tM K B G0 S (zam f fun x => zam (g x) fun y => k x y) σ H Q) :
  tM K B G0 R f σ H (fun v H1 => ∃ x, tM K B G0 R' (g x) σ H1 fun u H2 => ∃ G ρ y, EOk K B G0 G H2 σ ρ /\ R G v x /\ R' G u y /\ aft K B G0 S (k x y ρ) G σ Q) := by
 obtain ⟨G, ρ, e, a⟩ := tM.bind (R := R) h
 refine ⟨G, ρ, e, ?_⟩
 cases q : f ρ with
 | bad => rw [q] at a; exact a.elim
 | ok d ρ1 =>
  rw [q] at a
  intro v G' H' e' s r
  obtain ⟨G2, ρ2, d2, e2, r2, a2⟩ := a v G' H' e' s r
  refine ⟨d2, G2, ρ2, e2, ?_⟩
  unfold zam at a2
  cases q2 : g d2 ρ2 with
  | bad => rw [q2] at a2; exact a2.elim
  | ok d3 ρ3 =>
   rw [q2] at a2
   exact fun u G3 H3 e3 s3 r3 => ⟨G3, ρ3, d3, e3, mo _ _ _ _ s3 r2, r3, aft.mono s3 a2⟩
end
theorem zeT {K : PySem.W.Frag} (G G' : Hp) (v : V) (d : D) (e : Same G G') (r : Rep K G v d) : Rep K G' v d := r.mono e
theorem tM.two {K : PySem.W.Frag} {B G0 : Hp} {β δ : Type} {S : Hp -> δ -> β -> Prop} {σ : St} {H : Hp} {f g : M D} {k : D -> D -> M β} {Q : δ -> Hp -> Prop} {P : V -> V -> Hp -> Prop}
  (h : tM K B G0 S (zam f fun x => zam g fun y => k x y) σ H Q)
  (i : ∀ v u H2 G ρ x y, EOk K B G0 G H2 σ ρ -> Rep K G v x -> Rep K G u y -> aft K B G0 S (k x y ρ) G σ Q -> P v u H2) :
  tD K B G0 f σ H (fun v H1 => tD K B G0 g σ H1 fun u H2 => P v u H2) := by
 obtain ⟨G, ρ, e, a⟩ := tM.bind2 (R := Rep K) (R' := Rep K) zeT h
 refine ⟨G, ρ, e, ?_⟩
 cases q : f ρ with
 | bad => rw [q] at a; exact a.elim
 | ok d ρ1 =>
  rw [q] at a
  intro v G' H' e' s r
  obtain ⟨x, G2, ρ2, e2, a2⟩ := a v G' H' e' s r
  refine ⟨G2, ρ2, e2, ?_⟩
  cases q2 : g ρ2 with
  | bad => rw [q2] at a2; exact a2.elim
  | ok d3 ρ3 =>
   rw [q2] at a2
   intro u G3 H3 e3 s3 r3
   obtain ⟨G4, ρ4, y, e4, r4, r5, a5⟩ := a2 u G3 H3 e3 s3 r3
   exact i v u H3 G4 ρ4 x y e4 r4 r5 a5
theorem tM.one {K : PySem.W.Frag} {B G0 : Hp} {α β γ δ : Type} {R : Hp -> γ -> α -> Prop} {S : Hp -> δ -> β -> Prop} {σ : St} {H : Hp} {f : M α} {k : α -> M β} {Q : δ -> Hp -> Prop} {P : γ -> Hp -> Prop}
  (h : tM K B G0 S (zam f k) σ H Q) (i : ∀ v H2 G ρ x, EOk K B G0 G H2 σ ρ -> R G v x -> aft K B G0 S (k x ρ) G σ Q -> P v H2) : tM K B G0 R f σ H P := by
 obtain ⟨G, ρ, e, a⟩ := tM.bind (R := R) h
 refine ⟨G, ρ, e, ?_⟩
 cases q : f ρ with
 | bad => rw [q] at a; exact a.elim
 | ok d ρ1 =>
  rw [q] at a
  intro v G' H' e' s r
  obtain ⟨G2, ρ2, d2, e2, r2, a2⟩ := a v G' H' e' s r
  exact i v H' G2 ρ2 d2 e2 r2 a2
section
variable {X : Cx} {B G0 : Hp} {e a b : Expr} {pos : Pos}
theorem peof {t t' : TE} (h : PE X e t) (i : ∀ σ H Q, t' σ H Q -> t σ H Q) : PE X e t' := fun pins s σ H Q I q => h pins s σ H Q I (i σ H Q q)
theorem ptof {t t' : TT} (h : PT X e t) (i : ∀ σ H Q, t' σ H Q -> t σ H Q) : PT X e t' := fun pins s σ H Q I q => h pins s σ H Q I (i σ H Q q)
theorem paof {es : List Expr} {t t' : TA} (h : PA X es t) (i : ∀ σ H Q, t' σ H Q -> t σ H Q) : PA X es t' := fun ps pins s σ H Q I q => h ps pins s σ H Q I (i σ H Q q)
theorem poof {eo : Option Expr} {t t' : TO} (h : PO X eo t) (i : ∀ σ H Q, t' σ H Q -> t σ H Q) : PO X eo t' := fun pins s σ H Q I q => h pins s σ H Q I (i σ H Q q)
theorem psof {st : Stmt} {t t' : TS} (h : PS X st t) (i : ∀ D σ H, t' D σ H -> t D σ H) : PS X st t' := fun pins s σ H D I q => h pins s σ H D I (i D σ H q)
theorem zjo {st : List Stmt} {t t' : TS} (h : PSs X st t) (i : ∀ D σ H, t' D σ H -> t D σ H) : PSs X st t' := fun pins s σ H D I q => h pins s σ H D I (i D σ H q)
def dVar (i : Nat) : M D := fun ρ => match ρ[i]? with
 | some (some (.pub d)) => .ok d ρ
 | some (some (.own ds)) => .ok (.list ds) (ρ.set i (some (.pub (.list ds))))
 | _ => .bad
theorem zac {i : Nat} (h : PE X e (tVar i)) : PE X e (tD X.K B G0 (dVar i)) := peof h fun σ H Q ⟨G, ρ, k, a⟩ => by
 unfold dVar at a
 cases q : ρ[i]? with
 | none => rw [q] at a; exact a.elim
 | some o =>
  cases o with
  | none => rw [q] at a; exact a.elim
  | some sl =>
   cases sl with
   | pub d =>
    rw [q] at a
    obtain ⟨v, h1, h2⟩ := k.pub i d q
    exact ⟨v, h1, a.now k h2⟩
   | own ds =>
    rw [q] at a
    obtain ⟨ad, G', h1, h2, h3, h4⟩ := k.publish q
    exact ⟨.ref ad, h1, a (.ref ad) G' H h4 h2 h3⟩
theorem zdL {v : V} {d : D} (h : PE X e (tC v)) (r : ∀ G, Rep X.K G v d) : PE X e (tD X.K B G0 (zad d)) := peof h fun σ H Q ⟨G, ρ, k, a⟩ => a.now k (r G)
theorem zah {i : Int} {j} : PE X (.Constant (.int i) j pos) (tD X.K B G0 (zad (.int i))) := zdL ziL fun _ => .int i
theorem zbA {i : Bool} {j} : PE X (.Constant (.bool i) j pos) (tD X.K B G0 (zad (.bool i))) := zdL zkl fun _ => .bl i
theorem zeU {j} : PE X (.Constant .none j pos) (tD X.K B G0 (zad .none)) := zdL ziM fun _ => .non
theorem zax {x : Str} {j} : PE X (.Constant (.str x) j pos) (tD X.K B G0 (zad (.str x))) := zdL zgU fun _ => .str x
def dBin {β : Type} (op : D -> D -> Option β) (f g : M D) : M β := zam f fun x => zam g fun y => mOpt (op x y)
def OpD (X : Cx) (f : Value -> Value -> Sem Value) (op : D -> D -> Option D) : Prop :=
 ∃ r : R2, OpR X f r /\ ∀ v u G H x y d Q, Same G H -> Rep X.K G v x -> Rep X.K G u y -> op x y = some d -> (∀ w G' H', Ext G H G' H' -> Rep X.K G' w d -> Q w H') -> r v u H Q
theorem zaq {op : Operator} {p : D -> D -> Option D} {f g : M D} (o : OpD X (binaryOp op) p) (ha : PE X a (tD X.K B G0 f)) (hb : PE X b (tD X.K B G0 g)) : PE X (.BinOp a op b pos) (tD X.K B G0 (dBin p f g)) := by
 obtain ⟨r, h, i⟩ := o
 refine peof (zkt h ha hb) fun σ H Q q => ?_
 refine tM.two q fun v u H2 G ρ x y k rx ry a => ?_
 obtain ⟨d, e, a⟩ := a.opt
 exact i v u G H2 x y d Q k.gh rx ry e fun w G' H' ex rw => a.done k ex rw
theorem OpD.or {f : Value -> Value -> Sem Value} {p q : D -> D -> Option D} (h : OpD X f p) (h' : OpD X f q) : OpD X f (fun x y => (p x y).orElse fun _ => q x y) := by
 obtain ⟨r, h1, i1⟩ := h
 obtain ⟨r', h2, i2⟩ := h'
 refine ⟨_, h1.or h2, fun v u G H x y d Q s rx ry e k => ?_⟩
 dsimp only at e
 cases z : p x y with
 | some d' =>
  rw [z] at e
  have e' : d' = d := Option.some.inj e
  subst e'
  exact .inl (i1 v u G H x y d' Q s rx ry z k)
 | none =>
  rw [z] at e
  exact .inr (i2 v u G H x y d Q s rx ry e k)
def oII (g : Int -> Int -> Option D) : D -> D -> Option D
 | .int i, .int j => g i j
 | _, _ => none
theorem zeV {g : Int -> Int -> Option D} {x y d : D} (e : oII g x y = some d) : ∃ i j, x = .int i /\ y = .int j /\ g i j = some d := by
 unfold oII at e
 split at e
 ·exact ⟨_, _, rfl, rfl, e⟩
 ·cases e
theorem OpD.int {f : Value -> Value -> Sem Value} {C : Int -> Int -> Prop} {g : Int -> Int -> V} {p : Int -> Int -> Option D} (h : OpR X f (rI C g)) (i : ∀ i j d, p i j = some d -> C i j /\ ∀ G, Rep X.K G (g i j) d) : OpD X f (oII p) := by
 refine ⟨_, h, fun v u G H x y d Q s rx ry e k => ?_⟩
 obtain ⟨a, b, rfl, rfl, e⟩ := zeV e
 obtain ⟨c, r⟩ := i a b d e
 exact ⟨a, b, rx.int_inv, ry.int_inv, c, k _ G H (.refl s) (r G)⟩
theorem OpD.int0 {f : Value -> Value -> Sem Value} {g : Int -> Int -> V} {p : Int -> Int -> D} (h : OpR X f (rI0 g)) (i : ∀ i j G, Rep X.K G (g i j) (p i j)) : OpD X f (oII fun i j => some (p i j)) := by
 refine ⟨_, h, fun v u G H x y d Q s rx ry e k => ?_⟩
 obtain ⟨a, b, rfl, rfl, e⟩ := zeV e
 cases e
 exact ⟨a, b, rx.int_inv, ry.int_inv, k _ G H (.refl s) (i a b G)⟩
end
end DL
namespace DL
open PySem PySem.Spec L2
open PyProof.Rows hiding St
section
variable {X : Cx} {B G0 : Hp} {e a b c : Expr} {pos : Pos}
theorem zjp : OpD X (binaryOp .Add) (oII fun i j => some (.int (i + j))) := .int0 ziX fun _ _ _ => .int _
theorem zjq : OpD X (binaryOp .Sub) (oII fun i j => some (.int (i - j))) := .int0 ziY fun _ _ _ => .int _
def gMul (i j : Int) : Option D := if (-(2 ^ 64) < i /\ i < 2 ^ 64) ∨ (-(2 ^ 64) < j /\ j < 2 ^ 64) then some (.int (i * j)) else none
theorem zhF : OpD X (binaryOp .Mult) (oII gMul) := .int ziZ fun i j d h => by
 unfold gMul at h
 split at h
 ·rename_i c
  cases h
  exact ⟨c, fun _ => .int _⟩
 ·cases h
def gMod (i j : Int) : Option D := if 0 < j then some (.int (i % j)) else none
theorem zjr : OpD X (binaryOp .Mod) (oII gMod) := .int zi0 fun i j d h => by
 unfold gMod at h
 split at h
 ·rename_i c
  cases h
  exact ⟨c, fun _ => .int _⟩
 ·cases h
theorem zga : OpR X (binaryOp .FloorDiv) (rI (fun i j => 0 < j /\ j < 2 ^ 64) fun i j => .int (i / j)) := opI fun i j _ _ _ _ _ hc q => by
 have h1 : (0 : Int) < j := hc.1
 have h2 : j < 2 ^ 64 := hc.2
 refine floordiv_int (by omega) (by rw [Int.fdiv_eq_ediv_of_nonneg i (by omega)]; exact q) (.inl (PyProof.noPylong_of_log2 ?_))
 have h0 : j.natAbs ≠ 0 := by omega
 have : j.natAbs.log2 < 64 := (Nat.log2_lt h0).mpr (by omega)
 omega
def gDiv (i j : Int) : Option D := if 0 < j /\ j < 2 ^ 64 then some (.int (i / j)) else none
theorem zjs : OpD X (binaryOp .FloorDiv) (oII gDiv) := .int zga fun i j d h => by
 unfold gDiv at h
 split at h
 ·rename_i c
  cases h
  exact ⟨c, fun _ => .int _⟩
 ·cases h
def gPow (i j : Int) : Option D := if 0 <= j /\ j <= 1000000 /\ i.natAbs < 2 ^ 64 then some (.int (i ^ j.toNat)) else none
theorem zjt : OpD X (binaryOp .Pow) (oII gPow) := .int zi1 fun i j d h => by
 unfold gPow at h
 split at h
 ·rename_i c
  cases h
  exact ⟨c, fun _ => .int _⟩
 ·cases h
theorem lim : (1000000 : Nat) <= sizeLine := by decide
def zgb : D -> D -> Option D
 | .str x, .str y => if x.length + y.length <= 1000000 then some (.str (x ++ y)) else none
 | _, _ => none
theorem zhG : OpD X (binaryOp .Add) zgb := by
 refine ⟨_, zd7, fun v u G H x y d Q s rx ry e k => ?_⟩
 unfold zgb at e
 split at e
 ·split at e
  ·rename_i c
   cases e
   exact ⟨_, _, rx.str_inv, ry.str_inv, Nat.le_trans c lim, k _ G H (.refl s) (.str _)⟩
  ·cases e
 ·cases e
def zkC (K : PySem.W.Frag) : R2 := fun x y H Q => ∃ l b xs zs, x = .ref l /\ y = .ref b /\ SqL K H l xs /\ SqL K H b zs /\ xs.length + zs.length <= sizeLine /\ ∀ p, H p = none -> Q (.ref p) (upd H p (.lst (xs ++ zs)))
theorem zhH : OpR X (binaryOp .Add) (zkC X.K) := by
 intro pins s σ H x y v u Q I rx ry h
 obtain ⟨l, b, xs, zs, rfl, rfl, hH, hB, hz, q⟩ := h
 cases rx
 cases ry
 obtain ⟨its, r, ⟨⟨c1, d1, t1, s1⟩, n1, e1, ec1, ed1, et1⟩, z1⟩ := I.list hH
 obtain ⟨its2, r2, ⟨⟨c2, d2, t2, s2⟩, n2, e2, ec2, ed2, et2⟩, z2⟩ := I.list hB
 simp only at ec1 ed1 et1 ec2 ed2 et2
 subst ec1 ed1 et1 ec2 ed2 et2
 have hl := r.length
 have hl2 := r2.length
 refine concat_meets ⟨_, e1, rfl⟩ ⟨_, e2, rfl⟩ noFill_list_add seq_list_add PySem.F.slot_list_add PySem.F.entry_list_add (PySem.F.args_list_add_2 _ _) (list_addW l b its.toArray its2.toArray n1 n2 none none s1 s2 (by rw [List.size_toArray, List.size_toArray]; omega)) ⟨e1, e2, ?_⟩
 have ea : its.toArray ++ its2.toArray = (its ++ its2).toArray := by simp
 rw [ea]
 exact ⟨.ref _, _, I.lnew (t' := s.toks) (r.append r2) (by rw [List.length_append]; omega), rfl, q _ I.fresh⟩
theorem zkD (a : Int) (t : Tok) (l : Addr) (items : Array Value) (n : Nat) (sl : Array (Option Value)) :
  Meets (Builtin.«int.__rmul__» ⟨[.int a t, .ref l], []⟩) (fun _ R s => s.heap.get? l = some { cls := .type "list", dict := none, data := .seq items n, slots := sl } /\ R (.ok (.ret Value.notImplemented)) s) :=
 .of_wp fun prog w A R s h => by obtain ⟨hp, g, d, tk, os⟩ := s; obtain ⟨hl, h⟩ := h; wp_walk; exact ⟨_, rfl, h⟩
theorem mulW (l : Addr) (items : Array Value) (n : Nat) (x : Int) (u : Tok) (sl : Array (Option Value)) (hc0 : ¬(!Builtin.List.listFitsIndex x) = true) (hc1 : ¬items.size * x.toNat > (2 ^ 63 - 1) / 8) (hc2 : ¬Builtin.List.listTooLong (items.size * x.toNat) = true) :
  Meets (Builtin.«list.__mul__» ⟨[.ref l, .int x u], []⟩) (fun _ R s => s.heap.get? l = some { cls := .type "list", dict := none, data := .seq items n, slots := sl } /\ R (.ok (.ret (Value.ref s.heap.objs.size))) { s with heap := s.heap.push { cls := Value.type "list", data := Data.seq (List.foldl (fun x1 x2 => x1 ++ x2) #[] (List.replicate (if items.isEmpty = true then 0 else x.toNat) items)) }, toks := s.toks }) :=
 .of_wp fun prog w A R s h => by
  obtain ⟨hp, g, d, tk, os⟩ := s; obtain ⟨hl, h⟩ := h
  have hsz := AutoListH.joined_fits hc2
  wp_walk; refine wpAny_ite_false (decide_eq_false (Nat.not_lt.mpr hsz)) ?_; wp_walk; exact ⟨_, rfl, h⟩
def zkE (K : PySem.W.Frag) : R2 := fun x y H Q => ∃ l k xs, x = .ref l /\ y = .int k /\ SqL K H l xs /\ -(2 ^ 63) <= k /\ k < 2 ^ 63 /\ xs.length * k.toNat <= sizeLine /\
 ∀ p, H p = none -> Q (.ref p) (upd H p (.lst (List.replicate k.toNat xs).flatten))
theorem zhI : OpR X (binaryOp .Mult) (zkE X.K) := by
 intro pins s σ H x y v u Q I rx ry h
 obtain ⟨l, k, xs, rfl, rfl, hH, h1, h2, hz, q⟩ := h
 cases rx
 obtain ⟨t, rfl⟩ := ry
 obtain ⟨its, r, ⟨⟨c1, d1, t1, sl⟩, n, e, ec1, ed1, et1⟩, z⟩ := I.list hH
 simp only at ec1 ed1 et1
 subst ec1 ed1 et1
 have hl := r.length
 have hlen : its.toArray.size * k.toNat <= sizeLine := by rw [List.size_toArray, ← hl]; exact hz
 have hcap : ¬ its.toArray.size * k.toNat > (2 ^ 63 - 1) / 8 := by
  have : (sizeLine : Nat) <= (2 ^ 63 - 1) / 8 := by decide
  omega
 have hfit : ¬ (!Builtin.List.listFitsIndex k) = true := by
  rw [fitsIndex_both h1 h2]
  exact Bool.false_ne_true
 have hlong : ¬ Builtin.List.listTooLong (its.toArray.size * k.toNat) = true := by
  rw [zfU hlen]
  exact Bool.false_ne_true
 have hnew : List.foldl (fun x1 x2 => x1 ++ x2) #[] (List.replicate (if its.toArray.isEmpty = true then 0 else k.toNat) its.toArray) = (List.replicate k.toNat its).flatten.toArray := by
  have f0 : ∀ m : Nat, List.foldl (fun x1 x2 => x1 ++ x2) #[] (List.replicate m its.toArray) = (List.replicate m its).flatten.toArray := fun m => by
   have := zcX its m []
   rw [List.nil_append] at this
   exact this
  rw [f0]
  cases its with
  | nil => simp
  | cons a r' => rw [if_neg (by simp)]
 refine wpAny_binaryOp_repeat_ref (T := "list") (U := "int") (by decide) ⟨_, e, rfl⟩ (fun s' => typeIs_int s' k t) noFill_list_mul F.fills_int_mul F.slot_int_rmul repeat_list F.slot_int_index.lookup
  (call_meets F.slot_int_rmul (typeIs_int s k t) F.entry_int_rmul (F.args_int_rmul_2 _ _) (zkD k t l its.toArray n sl)
   ⟨e, rfl, ⟨_, e, rfl⟩, call_meets F.slot_list_mul ⟨_, e, rfl⟩ F.entry_list_mul (F.args_list_mul_2 _ _) (mulW l its.toArray n k t sl hfit hcap hlong) ⟨e, ?_⟩⟩)
 rw [hnew]
 exact ⟨.ref _, _, I.lnew (t' := s.toks) (r.rep k.toNat) (by rw [zhv, Nat.mul_comm]; exact hz), rfl, q _ I.fresh⟩
def zgc : D -> D -> Option D
 | .list x, .list y => if x.length + y.length <= 1000000 then some (.list (x ++ y)) else none
 | _, _ => none
theorem zhJ : OpD X (binaryOp .Add) zgc := by
 refine ⟨_, zhH, fun v u G H x y d Q s rx ry e k => ?_⟩
 unfold zgc at e
 split at e
 ·split at e
  ·rename_i c
   cases e
   obtain ⟨l, vs, rfl, h1, r1⟩ := rx.lst_inv
   obtain ⟨b, ws, rfl, h2, r2⟩ := ry.lst_inv
   refine ⟨l, b, vs, ws, rfl, rfl, s.seq h1, s.seq h2, by rw [r1.length, r2.length]; exact Nat.le_trans c lim, fun p hp => k _ _ _ (Ext.new s hp) ?_⟩
   exact .lst (SqL.of zaj) ((r1.append r2).mono (zau (s.free hp)))
  ·cases e
 ·cases e
theorem Reps.rep {K : PySem.W.Frag} {G : Hp} {vs : List V} {ds : List D} (r : Reps K G vs ds) : ∀ n : Nat, Reps K G (List.replicate n vs).flatten (List.replicate n ds).flatten
 | 0 => .nil
 | n + 1 => by rw [List.replicate_succ, List.replicate_succ, List.flatten_cons, List.flatten_cons]; exact r.append (r.rep n)
def zgd : D -> D -> Option D
 | .list x, .int k => if -1000000 <= k /\ k <= 1000000 /\ x.length * k.toNat <= 1000000 then some (.list (List.replicate k.toNat x).flatten) else none
 | _, _ => none
theorem zhK : OpD X (binaryOp .Mult) zgd := by
 refine ⟨_, zhI, fun v u G H x y d Q s rx ry e k => ?_⟩
 unfold zgd at e
 split at e
 ·split at e
  ·rename_i c
   cases e
   obtain ⟨l, vs, rfl, h1, r1⟩ := rx.lst_inv
   refine ⟨l, _, vs, rfl, ry.int_inv, s.seq h1, by omega, by omega, by rw [r1.length]; exact Nat.le_trans c.2.2 lim, fun p hp => k _ _ _ (Ext.new s hp) ?_⟩
   exact .lst (SqL.of zaj) ((r1.rep _).mono (zau (s.free hp)))
  ·cases e
 ·cases e
def oAdd : D -> D -> Option D
 | .int i, .int j => some (.int (i + j))
 | .str x, .str y => if x.length + y.length <= 1000000 then some (.str (x ++ y)) else none
 | .list x, .list y => if x.length + y.length <= 1000000 then some (.list (x ++ y)) else none
 | _, _ => none
def oSub : D -> D -> Option D
 | .int i, .int j => some (.int (i - j))
 | _, _ => none
def oMul : D -> D -> Option D
 | .int i, .int j => gMul i j
 | .list x, .int k => if -1000000 <= k /\ k <= 1000000 /\ x.length * k.toNat <= 1000000 then some (.list (List.replicate k.toNat x).flatten) else none
 | _, _ => none
def oMod : D -> D -> Option D
 | .int i, .int j => gMod i j
 | _, _ => none
def oDiv : D -> D -> Option D
 | .int i, .int j => gDiv i j
 | _, _ => none
def oPow : D -> D -> Option D
 | .int i, .int j => gPow i j
 | _, _ => none
theorem OpD.congr {f : Value -> Value -> Sem Value} {p q : D -> D -> Option D} (h : OpD X f p) (e : ∀ x y, q x y = p x y) : OpD X f q := by
 have : q = p := by funext x y; exact e x y
 rw [this]; exact h
theorem zaM : OpD X (binaryOp .Add) oAdd := (zjp.or (zhG.or zhJ)).congr fun x y => by cases x <;> cases y <;> first | rfl | (simp only [oAdd, oII, zgb, zgc, Option.orElse]; done) | (simp only [oAdd, oII, zgb, zgc, Option.orElse]; split <;> rfl)
theorem zeW : OpD X (binaryOp .Sub) oSub := zjq.congr fun x y => by cases x <;> cases y <;> rfl
theorem zc2 : OpD X (binaryOp .Mult) oMul := (zhF.or zhK).congr fun x y => by
 cases x <;> cases y <;> first | rfl | (simp only [oMul, oII, zgd, Option.orElse]; done) | (simp only [oMul, oII, zgd, Option.orElse]; split <;> first | rfl | assumption)
theorem zbV : OpD X (binaryOp .Mod) oMod := zjr.congr fun x y => by cases x <;> cases y <;> rfl
theorem zju : OpD X (binaryOp .FloorDiv) oDiv := zjs.congr fun x y => by cases x <;> cases y <;> rfl
theorem zjv : OpD X (binaryOp .Pow) oPow := zjt.congr fun x y => by cases x <;> cases y <;> rfl
end
end DL
namespace DL
open PySem PySem.Spec L2
open PyProof.Rows hiding St
section
variable {X : Cx} {B G0 : Hp} {e a b c : Expr} {pos : Pos}
def OpB (X : Cx) (f : Value -> Value -> Sem Value) (op : D -> D -> Option Bool) : Prop :=
 ∃ r : R2, OpR X f r /\ ∀ v u G H x y d Q, Same G H -> Rep X.K G v x -> Rep X.K G u y -> op x y = some d -> Q (.bl d) H -> r v u H Q
theorem OpB.or {f : Value -> Value -> Sem Value} {p q : D -> D -> Option Bool} (h : OpB X f p) (h' : OpB X f q) : OpB X f (fun x y => (p x y).orElse fun _ => q x y) := by
 obtain ⟨r, h1, i1⟩ := h
 obtain ⟨r', h2, i2⟩ := h'
 refine ⟨_, h1.or h2, fun v u G H x y d Q s rx ry e k => ?_⟩
 dsimp only at e
 cases z : p x y with
 | some d' =>
  rw [z] at e
  have e' : d' = d := Option.some.inj e
  subst e'
  exact .inl (i1 v u G H x y d' Q s rx ry z k)
 | none =>
  rw [z] at e
  exact .inr (i2 v u G H x y d Q s rx ry e k)
theorem OpB.congr {f : Value -> Value -> Sem Value} {p q : D -> D -> Option Bool} (h : OpB X f p) (e : ∀ x y, q x y = p x y) : OpB X f q := by
 have : q = p := by funext x y; exact e x y
 rw [this]; exact h
theorem zb6 {op : CmpOp} {p : D -> D -> Option Bool} {f g : M D} (o : OpB X (compareOp op) p) (ha : PE X a (tD X.K B G0 f)) (hb : PE X b (tD X.K B G0 g)) (hm : behindInMarks op b = false) :
  PT X (.Compare a [op] [b] pos) (tBo X.K B G0 (dBin p f g)) := by
 obtain ⟨r, h, i⟩ := o
 refine ptof (zeD h ha hb hm) fun σ H Q q => ?_
 refine tM.two q fun v u H2 G ρ x y k rx ry a => ?_
 obtain ⟨d, e, a⟩ := a.opt
 exact i v u G H2 x y d _ k.gh rx ry e ⟨d, rfl, a.now k rfl⟩
def mMap {α β : Type} (h : α -> β) (f : M α) : M β := zam f fun x => zad (h x)
theorem tM.map {K : PySem.W.Frag} {α β γ δ : Type} {R : Hp -> γ -> α -> Prop} {S : Hp -> δ -> β -> Prop} {σ : St} {H : Hp} {h : α -> β} {f : M α} {Q : δ -> Hp -> Prop} (j : γ -> δ) (q : tM K B G0 S (mMap h f) σ H Q)
  (i : ∀ G v x, R G v x -> S G (j v) (h x)) : tM K B G0 R f σ H (fun v H' => Q (j v) H') :=
 tM.one (R := R) (f := f) q fun v H2 G ρ x k r a => aft.now (show aft K B G0 S (.ok (h x) ρ) G σ Q from a) k (i G v x r)
theorem tBo.val {K : PySem.W.Frag} {σ : St} {H : Hp} {f : M Bool} {Q : VK} (q : tD K B G0 (mMap PyData.bool f) σ H Q) : tBo K B G0 f σ H (fun b H' => Q (.bl b) H') :=
 tM.map (R := fun _ b c => b = c) V.bl q fun G v x e => by rw [e]; exact .bl x
theorem zhL {op : CmpOp} {p : D -> D -> Option Bool} {f g : M D} (o : OpB X (compareOp op) p) (ha : PE X a (tD X.K B G0 f)) (hb : PE X b (tD X.K B G0 g)) (hm : behindInMarks op b = false) :
  PE X (.Compare a [op] [b] pos) (tD X.K B G0 (mMap PyData.bool (dBin p f g))) := by
 obtain ⟨r, h, i⟩ := o
 refine peof (zeC h ha hb hm) fun σ H Q q => ?_
 refine tM.two (tBo.val q) fun v u H2 G ρ x y k rx ry a => ?_
 obtain ⟨d, e, a⟩ := a.opt
 exact i v u G H2 x y d _ k.gh rx ry e (a.now k rfl)
def zdM (p q : D -> D -> Option Bool) (f g h : M D) : M Bool := zam f fun x => zam g fun y => zam (mOpt (p x y)) fun t => if t = true then zam h fun z => mOpt (q y z) else zad false
theorem zeX {op op' : CmpOp} {p q : D -> D -> Option Bool} {f g h : M D} (o : OpB X (compareOp op) p) (o' : OpB X (compareOp op') q) (ha : PE X a (tD X.K B G0 f)) (hb : PE X b (tD X.K B G0 g)) (hc : PE X c (tD X.K B G0 h))
  (hm : lastMarks [op, op'] [b, c] = false := by with_unfolding_all rfl) : PT X (.Compare a [op, op'] [b, c] pos) (tBo X.K B G0 (zdM p q f g h)) := by
 obtain ⟨r, h1, i⟩ := o
 obtain ⟨r', h2, i'⟩ := o'
 refine ptof (zfQ h1 h2 ha hb hc hm) fun σ H Q w => ?_
 refine tM.two w fun v u H2 G ρ x y k rx ry a => ?_
 cases z : p x y with
 | none => rw [z] at a; exact a.elim
 | some t =>
  rw [z] at a
  refine i v u G H2 x y t _ k.gh rx ry z ⟨t, rfl, ?_⟩
  cases t with
  | false =>
   rw [if_neg Bool.false_ne_true]
   exact ⟨false, rfl, aft.now a k rfl⟩
  | true =>
   rw [if_pos rfl]
   refine ⟨G, ρ, k, ?_⟩
   have a4 : aft X.K B G0 (fun _ (b : Bool) c => b = c) ((zam h fun z => mOpt (q y z)) ρ) G σ Q := a
   unfold zam at a4
   cases z2 : h ρ with
   | bad => rw [z2] at a4; exact a4.elim
   | ok d ρ1 =>
    rw [z2] at a4
    intro w G5 H5 k5 s5 r5
    obtain ⟨t2, e2, a6⟩ := a4.opt
    exact i' u w G5 H5 y d t2 _ k5.gh (ry.mono s5) r5 e2 ⟨t2, rfl, a6 t2 G5 H5 k5 s5 rfl⟩
def oIB (g : Int -> Int -> Bool) : D -> D -> Option Bool
 | .int i, .int j => some (g i j)
 | _, _ => none
theorem OpB.int {f : Value -> Value -> Sem Value} {g : Int -> Int -> Bool} (h : OpR X f (rI0 fun i j => .bl (g i j))) : OpB X f (oIB g) := by
 refine ⟨_, h, fun v u G H x y d Q s rx ry e k => ?_⟩
 unfold oIB at e
 split at e
 ·cases e
  exact ⟨_, _, rx.int_inv, ry.int_inv, k⟩
 ·cases e
theorem B_lt : OpB X (compareOp .Lt) (oIB fun i j => decide (i < j)) := .int zkv
theorem B_le : OpB X (compareOp .LtE) (oIB fun i j => decide (i <= j)) := .int zkw
theorem B_gt : OpB X (compareOp .Gt) (oIB fun i j => decide (j < i)) := .int zkx
theorem B_ge : OpB X (compareOp .GtE) (oIB fun i j => decide (j <= i)) := .int zky
mutual
theorem zaT {pins : List (Addr × Obj)} {s : Shared} {σ : St} {G H : Hp} (I : Inv X pins σ H s) (sg : Same G H) : ∀ {v : V} {d : D} {u : Value}, Rep X.K G v d -> RelV v u -> d.canLay0 = true -> ∃ as, Reads s.heap u d as
 | _, _, _, .non, r, _ => by cases r; exact ⟨_, .none⟩
 | _, _, _, .bl b, r, _ => by cases r; exact ⟨_, .bool b⟩
 | _, _, _, .int i, r, _ => by obtain ⟨t, rfl⟩ := r; exact ⟨_, .int i t⟩
 | _, _, _, .str x, r, _ => by obtain ⟨t, rfl⟩ := r; exact ⟨_, .str x t⟩
 | _, _, _, .lst h q, r, c => by
  cases r
  obtain ⟨its, rv, ⟨o, n, e, hc, _, hd⟩, hz⟩ := I.list (sg.seq h)
  obtain ⟨as, ra⟩ := readsAll_of I sg q rv (show PyData.canLayAll0 _ = true by simpa [PyData.canLay0] using c)
  exact ⟨_, .list e hc hd (by simpa using ra)⟩
 | _, _, _, .tup h q, r, c => by
  cases r
  obtain ⟨its, rv, p, hz⟩ := I.tuple (zb5 sg h)
  obtain ⟨o, e, hc, n, hd⟩ := p
  obtain ⟨as, ra⟩ := readsAll_of I sg q rv (show PyData.canLayAll0 _ = true by simpa [PyData.canLay0] using c)
  exact ⟨_, .tuple e hc hd (by simpa using ra)⟩
 | _, _, _, .dic h, r, c => by simp [PyData.canLay0] at c
 | _, _, _, .exc _ _ _ _, r, c => by simp [PyData.canLay0] at c
 | _, _, _, .dct _ _ _ _ _, r, c => by simp [PyData.canLay0] at c
theorem readsAll_of {pins : List (Addr × Obj)} {s : Shared} {σ : St} {G H : Hp} (I : Inv X pins σ H s) (sg : Same G H) : ∀ {vs : List V} {ds : List D} {us : List Value}, Reps X.K G vs ds -> Vals vs us -> PyData.canLayAll0 ds = true -> ∃ as, ReadsAll s.heap us ds as
 | _, _, _, .nil, r, _ => by cases r; exact ⟨_, .nil⟩
 | _, _, _, .cons h t, r, c => by
  cases r with
  | cons r1 r2 =>
   have c' := c
   rw [PyData.canLayAll0, Bool.and_eq_true] at c'
   obtain ⟨as, ra⟩ := zaT I sg h r1 c'.1
   obtain ⟨bs, rb⟩ := readsAll_of I sg t r2 c'.2
   exact ⟨_, .cons ra rb⟩
end
def oEq (x y : D) : Option Bool := if x.canLay0 = true /\ y.canLay0 = true /\ x.depth <= 60 then some (PyData.eqv x y) else none
def oNe (x y : D) : Option Bool := if x.canLay0 = true /\ y.canLay0 = true /\ x.depth <= 60 then some (!PyData.eqv x y) else none
theorem B_eq (hu : X.A.units + 64 < cLine) : OpB X (compareOp .Eq) oEq := by
 refine ⟨fun v u H Q => ∃ G x y d, Same G H /\ Rep X.K G v x /\ Rep X.K G u y /\ oEq x y = some d /\ Q (.bl d) H, ?_, fun v u G H x y d Q s rx ry e k => ⟨G, x, y, d, s, rx, ry, e, k⟩⟩
 intro pins s σ H x y v u Q I rx ry ⟨G, dx, dy, d, sg, px, py, e, q⟩
 unfold oEq at e
 split at e
 ·rename_i c
  cases e
  obtain ⟨as, ra⟩ := zaT I sg px rx c.1
  obtain ⟨bs, rb⟩ := zaT I sg py ry c.2.1
  exact SeqAt.compareEq_reads ra rb c.1 c.2.1 (by have := c.2.2; omega) ⟨.bl _, H, I, rfl, q⟩
 ·cases e
theorem B_ne (hu : X.A.units + 64 < cLine) : OpB X (compareOp .NotEq) oNe := by
 refine ⟨fun v u H Q => ∃ G x y d, Same G H /\ Rep X.K G v x /\ Rep X.K G u y /\ oNe x y = some d /\ Q (.bl d) H, ?_, fun v u G H x y d Q s rx ry e k => ⟨G, x, y, d, s, rx, ry, e, k⟩⟩
 intro pins s σ H x y v u Q I rx ry ⟨G, dx, dy, d, sg, px, py, e, q⟩
 unfold oNe at e
 split at e
 ·rename_i c
  cases e
  obtain ⟨as, ra⟩ := zaT I sg px rx c.1
  obtain ⟨bs, rb⟩ := zaT I sg py ry c.2.1
  exact SeqAt.compareNe_reads ra rb c.1 c.2.1 (by have := c.2.2; omega) ⟨.bl _, H, I, rfl, q⟩
 ·cases e
def isNon : D -> Bool
 | .none => true
 | _ => false
theorem Rep.isNon {K : PySem.W.Frag} {G : Hp} {v : V} {d : D} (r : Rep K G v d) : DL.isNon d = decide (v = .non) := by
 cases r <;> simp [DL.isNon]
end
end DL
namespace DL
open PySem PySem.Spec L2
open PyProof.Rows hiding St
section
variable {X : Cx} {B G0 : Hp} {e a b c : Expr} {pos : Pos} {es rest : List Expr}
theorem tM.nx {K : PySem.W.Frag} {α β γ δ : Type} {R : Hp -> γ -> α -> Prop} {S : Hp -> δ -> β -> Prop} {σ : St} {G H : Hp} {ρ : DEnv} {f : M α} {g : α -> M β} {Q : δ -> Hp -> Prop} {P : γ -> Hp -> Prop}
  (k : EOk K B G0 G H σ ρ) (a : aft K B G0 S (zam f g ρ) G σ Q) (i : ∀ v H' G' ρ' x, EOk K B G0 G' H' σ ρ' -> Same G G' -> R G' v x -> aft K B G0 S (g x ρ') G' σ Q -> P v H') : tM K B G0 R f σ H P := by
 refine ⟨G, ρ, k, ?_⟩
 unfold zam at a
 cases q : f ρ with
 | bad => rw [q] at a; exact a.elim
 | ok d ρ1 =>
  rw [q] at a
  exact fun v G' H' e s r => i v H' G' ρ1 d e s r (aft.mono s a)
def mAnd (f g : M Bool) : M Bool := zam f fun t => if t = true then g else zad false
def mOr (f g : M Bool) : M Bool := zam f fun t => if t = true then zad true else g
def mNot (f : M Bool) : M Bool := mMap (fun t => !t) f
theorem zhM {K : PySem.W.Frag} {f g : M Bool} {σ : St} {H : Hp} {Q : Bool -> Hp -> Prop} (q : tBo K B G0 (mAnd f g) σ H Q) : tAnd (tBo K B G0 f) (tBo K B G0 g) σ H Q :=
 tM.one (R := fun _ b c => b = c) q fun v H2 G ρ x k r a => by
  have r : v = x := r
  subst r
  cases v with
  | true => exact ⟨G, ρ, k, a⟩
  | false => exact aft.now (v := false) a k rfl
theorem zjw {K : PySem.W.Frag} {f g : M Bool} {σ : St} {H : Hp} {Q : Bool -> Hp -> Prop} (q : tBo K B G0 (mOr f g) σ H Q) : tOr (tBo K B G0 f) (tBo K B G0 g) σ H Q :=
 tM.one (R := fun _ b c => b = c) q fun v H2 G ρ x k r a => by
  have r : v = x := r
  subst r
  cases v with
  | false => exact ⟨G, ρ, k, a⟩
  | true => exact aft.now (v := true) a k rfl
theorem pwof {t t' : TT} (h : PW X e t) (i : ∀ σ H Q, t' σ H Q -> t σ H Q) : PW X e t' := fun wh pins s σ H Q I q => h wh pins s σ H Q I (i σ H Q q)
theorem zcB {f : M Bool} (ha : PT X a (tBo X.K B G0 f)) : PW X (.BoolOp .And [a] pos) (tBo X.K B G0 f) := zhh ha
theorem zeY {f : M Bool} (ha : PT X a (tBo X.K B G0 f)) : PW X (.BoolOp .Or [a] pos) (tBo X.K B G0 f) := ziP ha
theorem zdr {f g : M Bool} (ha : PT X a (tBo X.K B G0 f)) (hb : PW X (.BoolOp .And (b :: rest) pos) (tBo X.K B G0 g)) : PW X (.BoolOp .And (a :: b :: rest) pos) (tBo X.K B G0 (mAnd f g)) := pwof (ziQ ha hb) fun _ _ _ q => zhM q
theorem zg2 {f g : M Bool} (ha : PT X a (tBo X.K B G0 f)) (hb : PW X (.BoolOp .Or (b :: rest) pos) (tBo X.K B G0 g)) : PW X (.BoolOp .Or (a :: b :: rest) pos) (tBo X.K B G0 (mOr f g)) := pwof (zkn ha hb) fun _ _ _ q => zjw q
theorem zb7 {f : M Bool} (ha : PT X a (tBo X.K B G0 f)) : PT X (.UnaryOp .Not a pos) (tBo X.K B G0 (mNot f)) := ptof (ziR ha) fun σ H Q q => tM.map (R := fun _ b c => b = c) (fun t => !t) q fun _ v x e => by rw [e]
def zbQ (f : M D) : M Bool := zam f fun x => match x with | .bool t => zad t | _ => fun _ => .bad
theorem zcC {f : M D} (h : PE X e (tD X.K B G0 f)) (he : ∀ whole, isTrue e X.env whole = (do let v ← whole; standAt e.pos; holding [v] (truthy v)) := by intro _; rfl) : PT X e (tBo X.K B G0 (zbQ f)) :=
 ptof (ziO h he) fun σ H Q q => tM.one (R := Rep X.K) q fun v H2 G ρ x k r a => by
  cases x with
  | bool t => exact ⟨t, r.bl_inv, aft.now (v := t) a k rfl⟩
  | _ => exact a.elim
def mOrV (f g : M D) : M D := zam f fun x => match x with | .bool true => zad (.bool true) | .bool false => g | _ => fun _ => .bad
theorem zjx {f g : M D} (ha : PE X a (tD X.K B G0 f)) (hb : PE X (.BoolOp .Or (b :: rest) pos) (tD X.K B G0 g)) : PE X (.BoolOp .Or (a :: b :: rest) pos) (tD X.K B G0 (mOrV f g)) :=
 peof (zko ha hb) fun σ H Q q => tM.one (R := Rep X.K) q fun v H2 G ρ x k r a => by
  cases x with
  | bool t =>
   refine ⟨t, r.bl_inv, ?_⟩
   cases t with
   | false => exact ⟨G, ρ, k, a⟩
   | true => exact aft.now a k (.bl true)
  | _ => exact a.elim
theorem zhN {op} {f : M D} (h : PE X a (tD X.K B G0 f)) : PE X (.BoolOp op [a] pos) (tD X.K B G0 f) := ziS h
theorem zhO {f : M D} {j p2} (ha : PE X a (tD X.K B G0 f)) : PT X (.Compare a [.Is] [.Constant .none j p2] pos) (tBo X.K B G0 (mMap isNon f)) :=
 ptof (zgV (ziN ha)) fun σ H Q q => tM.one (R := Rep X.K) q fun v H2 G ρ x k r a => ⟨_, rfl, aft.now a k (by rw [r.isNon])⟩
theorem zge {f : M D} {j p2} (ha : PE X a (tD X.K B G0 f)) : PT X (.Compare a [.IsNot] [.Constant .none j p2] pos) (tBo X.K B G0 (mMap (fun d => !isNon d) f)) :=
 ptof (zgV (zhg ha)) fun σ H Q q => tM.one (R := Rep X.K) q fun v H2 G ρ x k r a => ⟨_, rfl, aft.now a k (by dsimp only; rw [r.isNon])⟩
def mNil : M (List D) := zad []
def zan (f : M D) (g : M (List D)) : M (List D) := zam f fun x => zam g fun xs => zad (x :: xs)
theorem zal : PA X [] (tDs X.K B G0 mNil) := paof zcp fun σ H Q ⟨G, ρ, k, a⟩ => aft.now a k .nil
theorem tM.twoA {K : PySem.W.Frag} {σ : St} {H : Hp} {f : M D} {g : M (List D)} {β δ : Type} {S : Hp -> δ -> β -> Prop} {k : D -> List D -> M β} {Q : δ -> Hp -> Prop} {P : V -> List V -> Hp -> Prop}
  (h : tM K B G0 S (zam f fun x => zam g fun y => k x y) σ H Q)
  (i : ∀ v u H2 G ρ x y, EOk K B G0 G H2 σ ρ -> Rep K G v x -> Reps K G u y -> aft K B G0 S (k x y ρ) G σ Q -> P v u H2) :
  tD K B G0 f σ H (fun v H1 => tDs K B G0 g σ H1 fun u H2 => P v u H2) := by
 obtain ⟨G, ρ, e, a⟩ := tM.bind2 (R := Rep K) (R' := Reps K) zeT h
 refine ⟨G, ρ, e, ?_⟩
 cases q : f ρ with
 | bad => rw [q] at a; exact a.elim
 | ok d ρ1 =>
  rw [q] at a
  intro v G' H' e' s r
  obtain ⟨x, G2, ρ2, e2, a2⟩ := a v G' H' e' s r
  refine ⟨G2, ρ2, e2, ?_⟩
  cases q2 : g ρ2 with
  | bad => rw [q2] at a2; exact a2.elim
  | ok d3 ρ3 =>
   rw [q2] at a2
   intro u G3 H3 e3 s3 r3
   obtain ⟨G4, ρ4, y, e4, r4, r5, a5⟩ := a2 u G3 H3 e3 s3 r3
   exact i v u H3 G4 ρ4 x y e4 r4 r5 a5
theorem zaa {f : M D} {g : M (List D)} (ha : PE X e (tD X.K B G0 f)) (hr : PA X es (tDs X.K B G0 g)) (hs : starEach (e :: es) X.env = (false, eval e X.env) :: starEach es X.env := by rfl) :
  PA X (e :: es) (tDs X.K B G0 (zan f g)) := paof (zbf ha hr hs) fun σ H Q q => tM.twoA q fun v u H2 G ρ x y k r1 r2 a => aft.now a k (.cons r1 r2)
def mTup (f : M (List D)) : M D := zam f fun xs => if xs.length <= 1000000 then zad (.tuple xs) else fun _ => .bad
def mLst (f : M (List D)) : M D := zam f fun xs => if xs.length <= 1000000 then zad (.list xs) else fun _ => .bad
theorem zb8 {x1} {f : M (List D)} (h : PA X es (tDs X.K B G0 f)) : PE X (.Tuple es x1 pos) (tD X.K B G0 (mTup f)) :=
 peof (zi7 h) fun σ H Q q => tM.one (R := Reps X.K) q fun v H2 G ρ x k r a => by
  split at a
  ·rename_i c
   refine ⟨by rw [r.length]; exact Nat.le_trans c lim, fun p hp => ?_⟩
   exact aft.done a k (Ext.new k.gh hp) (.tup (SqT.of zaj) (r.mono (zau (k.gh.free hp))))
  ·exact a.elim
theorem zbB {f : M (List D)} (h : PA X es (tDs X.K B G0 f)) : PE X (.List es pos) (tD X.K B G0 (mLst f)) :=
 peof (zgW h) fun σ H Q q => tM.one (R := Reps X.K) q fun v H2 G ρ x k r a => by
  split at a
  ·rename_i c
   refine ⟨by rw [r.length]; exact Nat.le_trans c lim, fun p hp => ?_⟩
   exact aft.done a k (Ext.new k.gh hp) (.lst (SqL.of zaj) (r.mono (zau (k.gh.free hp))))
  ·exact a.elim
def oIx : D -> D -> Option D
 | .list xs, .int i => atI xs i
 | .tuple xs, .int i => atI xs i
 | .str z, .int i => if z.length <= 1000000 then (atI z.cps.toList i).map fun c => .str ⟨#[c]⟩ else none
 | _, _ => none
theorem Reps.atI {K : PySem.W.Frag} {G : Hp} {vs : List V} {ds : List D} {i : Int} {d : D} (r : Reps K G vs ds) (h : L2.atI ds i = some d) : ∃ v, L2.atI vs i = some v /\ Rep K G v d := by
 unfold L2.atI at h ⊢
 rw [r.length]
 cases z : ixN ds.length i with
 | none => rw [z] at h; cases h
 | some j =>
  rw [z] at h
  exact r.get (i := j) h
theorem zg3 {K : PySem.W.Frag} {v u : V} {G H : Hp} {x y d : D} {Q : VK} (s : Same G H) (rx : Rep K G v x) (ry : Rep K G u y) (e : oIx x y = some d) (k : ∀ w, Rep K G w d -> Q w H) : rIx K v u H Q := by
 unfold oIx at e
 split at e
 ·obtain ⟨l, vs, rfl, h1, r1⟩ := rx.lst_inv
  obtain ⟨w, e1, r2⟩ := r1.atI e
  exact .inl ⟨l, vs, _, w, rfl, ry.int_inv, s.seq h1, e1, k w r2⟩
 ·obtain ⟨l, vs, rfl, h1, r1⟩ := rx.tup_inv
  obtain ⟨w, e1, r2⟩ := r1.atI e
  exact .inr (.inl ⟨l, vs, _, w, rfl, ry.int_inv, zb5 s h1, e1, k w r2⟩)
 ·split at e
  ·rename_i z i hz
   cases q : L2.atI z.cps.toList i with
   | none => rw [q] at e; cases e
   | some ch =>
    rw [q] at e
    cases e
    exact .inr (.inr ⟨z, i, ch, rx.str_inv, ry.int_inv, Nat.le_trans hz lim, q, k _ (.str _)⟩)
  ·cases e
 ·cases e
theorem zc3 {f g : M D} (ha : PE X a (tD X.K B G0 f)) (hb : PE X b (tD X.K B G0 g)) (hs : zdo b) : PE X (.Subscript a b pos) (tD X.K B G0 (dBin oIx f g)) :=
 peof (zi9 zgY ha hb hs) fun σ H Q q => tM.two q fun v u H2 G ρ x y k rx ry a => by
  obtain ⟨d, e, a⟩ := a.opt
  exact zg3 k.gh rx ry e fun w r => a.now k r
def dIxN (i : Nat) (g : M D) : M D := fun ρ => match ρ[i]? with
 | some (some (.pub d)) => (zam g fun y => mOpt (oIx d y)) ρ
 | some (some (.own _)) => (zam g fun y => fun ρ' => match ρ'[i]? with | some (some (.own ds)) => mOpt (oIx (.list ds) y) ρ' | _ => .bad) ρ
 | _ => .bad
theorem zbg {i : Nat} {g : M D} (ha : PE X a (tVar i)) (hb : PE X b (tD X.K B G0 g)) (hs : zdo b) : PE X (.Subscript a b pos) (tD X.K B G0 (dIxN i g)) :=
 peof (zi9 zgY ha hb hs) fun σ H Q ⟨G, ρ, k, a⟩ => by
  unfold dIxN at a
  cases q : ρ[i]? with
  | none => rw [q] at a; exact a.elim
  | some o =>
   cases o with
   | none => rw [q] at a; exact a.elim
   | some sl =>
    cases sl with
    | pub d =>
     rw [q] at a
     obtain ⟨v, h1, h2⟩ := k.pub i d q
     refine ⟨v, h1, G, ρ, k, ?_⟩
     dsimp only [zam] at a
     cases z : g ρ with
     | bad => rw [z] at a; exact a.elim
     | ok y ρ1 =>
      rw [z] at a
      intro u G' H' k' s' r'
      obtain ⟨d', e', a'⟩ := aft.opt a
      exact zg3 k'.gh (h2.mono s') r' e' fun w r => a' w G' H' k' s' r
    | own ds =>
     rw [q] at a
     obtain ⟨ad, vs, h1, h2, h3, h4, h5⟩ := k.own i ds q
     refine ⟨.ref ad, h1, G, ρ, k, ?_⟩
     dsimp only [zam] at a
     cases z : g ρ with
     | bad => rw [z] at a; exact a.elim
     | ok y ρ1 =>
      rw [z] at a
      dsimp only at a
      intro u G' H' k' s' r'
      cases z2 : ρ1[i]? with
      | none => rw [z2] at a; exact a.elim
      | some o2 =>
       cases o2 with
       | none => rw [z2] at a; exact a.elim
       | some sl2 =>
        cases sl2 with
        | pub d2 => rw [z2] at a; exact a.elim
        | own es2 =>
         rw [z2] at a
         obtain ⟨d', e', a'⟩ := aft.opt a
         obtain ⟨ad', vs', g1, g2, g3, g4, g5⟩ := k'.own i es2 z2
         rw [h1] at g1
         cases g1
         unfold oIx at e'
         cases y with
         | int j =>
          obtain ⟨w, e1, r2⟩ := g5.atI e'
          exact .inl ⟨ad, vs', j, w, rfl, r'.int_inv, SqL.of g4, e1, a' w G' H' k' s' r2⟩
         | _ => cases e'
def cutD (xs : List D) (lo hi : Option Int) : List D := (xs.drop (HT.sIx xs.length 0 lo)).take (HT.sIx xs.length xs.length hi - HT.sIx xs.length 0 lo)
theorem Reps.cut {K : PySem.W.Frag} {G : Hp} {vs : List V} {ds : List D} (r : Reps K G vs ds) (lo hi : Option Int) : Reps K G (cutV vs lo hi) (cutD ds lo hi) := by
 unfold cutV cutD
 rw [r.length]
 exact (r.drop _).take _
def zbJ : D -> Option (Option Int)
 | .int i => some (some i)
 | _ => none
theorem zaU : PO X none (tOi X.K B G0 (zad none)) := poof zhp fun σ H Q ⟨G, ρ, k, a⟩ => aft.now a k rfl
theorem zaJ {f : M D} (h : PE X e (tD X.K B G0 f)) : PO X (some e) (tOi X.K B G0 (zam f fun x => mOpt (zbJ x))) := poof (zhq h) fun σ H Q q => tM.one (R := Rep X.K) q fun v H2 G ρ x k r a => by
 cases x with
 | int i => exact ⟨i, r.int_inv, aft.now (v := some i) a k rfl⟩
 | _ => exact a.elim
end
end DL
namespace DL
open PySem PySem.Spec L2
open PyProof.Rows hiding St
def excK : List (D × D) -> Bool
 | (.none, _) :: _ => true
 | _ => false
def tyOf : D -> String
 | .none => "NoneType"
 | .bool _ => "bool"
 | .int _ => "int"
 | .str _ => "str"
 | .list _ => "list"
 | .tuple _ => "tuple"
 | .dict kvs => if excK kvs = true then "" else "dict"
def isTy (d : D) (c : String) : Bool := tyOf d == c || (tyOf d == "bool" && c == "int")
def zds : D -> Bool
 | .dict kvs => excK kvs
 | _ => false
theorem zg4 {ks : List Key} {ds : List D} : tyOf (.dict ((ks.map kD).zip ds)) = "dict" /\ zds (.dict ((ks.map kD).zip ds)) = false := by
 cases ks with
 | nil => exact ⟨rfl, rfl⟩
 | cons k ks =>
  cases ds with
  | nil => exact ⟨rfl, rfl⟩
  | cons d ds => cases k <;> exact ⟨rfl, rfl⟩
theorem zhP (K : PySem.W.Frag) (d : D) (c : String) (nx : zds d = false) (hc : c = "int" ∨ c = "bool" ∨ c = "str" ∨ c = "list" ∨ c = "tuple" ∨ c = "dict") : PySem.W.kitOne K (.type (tyOf d)) (.type c) = some (isTy d c) := by
 cases d with
 | dict kvs =>
  have e : tyOf (.dict kvs) = "dict" := by
   have nx : excK kvs = false := nx
   show (if excK kvs = true then "" else "dict") = _
   rw [nx]; rfl
  unfold isTy
  rw [e]
  rcases hc with rfl | rfl | rfl | rfl | rfl | rfl <;> rfl
 | _ => rcases hc with rfl | rfl | rfl | rfl | rfl | rfl <;> rfl
section
variable {X : Cx} {B G0 : Hp} {e a b c : Expr} {pos : Pos} {es rest : List Expr}
def zc4 (X : Cx) (f : Value) (p : List D -> Option D) : Prop :=
 ∃ r, zcl X f r /\ ∀ vs G H ds d Q, Same G H -> Reps X.K G vs ds -> p ds = some d -> (∀ w G' H', Ext G H G' H' -> Rep X.K G' w d -> Q w H') -> r vs H Q
def zcn (p : List D -> Option D) (f : M (List D)) : M D := zam f fun xs => mOpt (p xs)
theorem zb9 {x : Str} {p2 : Pos} {id : String} {p : List D -> Option D} {f : M (List D)} (hc : zc4 X (.builtin id) p) (hg : Gl X x) (hm : X.mg x = none) (hv : bootBuiltins x = some (.builtin id)) (ha : PA X (e :: es) (tDs X.K B G0 f)) (hn : x ≠ "__name__" := by decide) (hdb : (x == ("__debug__" : Str)) = false := by decide)
  (he : starEach (e :: es) X.env = (false, eval e X.env) :: starEach es X.env := by rfl) (hpl : (backTo pos (starEach es X.env)).any (·.1) = false := by rfl) : PE X (.Call (.Name x p2) (e :: es) [] pos) (tD X.K B G0 (zcn p f)) := by
 obtain ⟨r, h, i⟩ := hc
 refine peof (zcx h hg hm hv ha hn hdb he hpl) fun σ H Q q => tM.one (R := Reps X.K) q fun v H2 G ρ x k rr a => ?_
 obtain ⟨d, e, a⟩ := a.opt
 exact i v G H2 x d Q k.gh rr e fun w G' H' ex rw => a.done k ex rw
theorem zbK {x : Str} {p2 : Pos} {T : String} {p : List D -> Option D} {f : M (List D)} (hc : zc4 X (.type T) p) (hg : Gl X x) (hm : X.mg x = none) (hv : bootBuiltins x = some (.type T)) (ha : PA X (e :: es) (tDs X.K B G0 f)) (hn : x ≠ "__name__" := by decide) (hdb : (x == ("__debug__" : Str)) = false := by decide)
  (he : starEach (e :: es) X.env = (false, eval e X.env) :: starEach es X.env := by rfl) (hpl : (backTo pos (starEach es X.env)).any (·.1) = false := by rfl) : PE X (.Call (.Name x p2) (e :: es) [] pos) (tD X.K B G0 (zcn p f)) := by
 obtain ⟨r, h, i⟩ := hc
 refine peof (zeI h hg hm hv ha hn hdb he hpl) fun σ H Q q => tM.one (R := Reps X.K) q fun v H2 G ρ x k rr a => ?_
 obtain ⟨d, e, a⟩ := a.opt
 exact i v G H2 x d Q k.gh rr e fun w G' H' ex rw => a.done k ex rw
theorem Reps.one_inv {K : PySem.W.Frag} {G : Hp} {vs : List V} {d : D} (r : Reps K G vs [d]) : ∃ v, vs = [v] /\ Rep K G v d := by
 cases r with
 | cons h t => cases t; exact ⟨_, rfl, h⟩
theorem Reps.two_inv {K : PySem.W.Frag} {G : Hp} {vs : List V} {d d' : D} (r : Reps K G vs [d, d']) : ∃ v v', vs = [v, v'] /\ Rep K G v d /\ Rep K G v' d' := by
 cases r with
 | cons h t =>
  obtain ⟨v', rfl, r'⟩ := t.one_inv
  exact ⟨_, v', rfl, h, r'⟩
def oLen : List D -> Option D
 | [.list xs] => some (.int xs.length)
 | [.tuple xs] => some (.int xs.length)
 | [.str z] => if z.length <= 1000000 then some (.int z.length) else none
 | _ => none
theorem zkF : zc4 X (.builtin "len") oLen := by
 refine ⟨_, zdH, fun vs G H ds d Q s r e k => ?_⟩
 unfold oLen at e
 split at e
 ·cases e
  obtain ⟨v, rfl, q⟩ := r.one_inv
  obtain ⟨l, ws, rfl, h1, r1⟩ := q.lst_inv
  exact ⟨.ref l, ws.length, rfl, .inl ⟨ws, s.seq h1, rfl⟩, by rw [r1.length]; exact k _ G H (.refl s) (.int _)⟩
 ·cases e
  obtain ⟨v, rfl, q⟩ := r.one_inv
  obtain ⟨l, ws, rfl, h1, r1⟩ := q.tup_inv
  exact ⟨.ref l, ws.length, rfl, .inr ⟨ws, zb5 s h1, rfl⟩, by rw [r1.length]; exact k _ G H (.refl s) (.int _)⟩
 ·split at e
  ·rename_i z hz
   cases e
   obtain ⟨v, rfl, q⟩ := r.one_inv
   exact ⟨.str z, z.length, by rw [q.str_inv], ⟨Nat.le_trans hz lim, rfl⟩, k _ G H (.refl s) (.int _)⟩
  ·cases e
 ·cases e
def zgf : List D -> Option D
 | [.int i, .int j] => some (.int (if j > i then j else i))
 | _ => none
theorem zjy (hc : X.calm = true) : zc4 X (.builtin "max") zgf := by
 refine ⟨_, zeE hc, fun vs G H ds d Q s r e k => ?_⟩
 unfold zgf at e
 split at e
 ·cases e
  obtain ⟨v, v', rfl, r1, r2⟩ := r.two_inv
  exact ⟨_, _, by rw [r1.int_inv, r2.int_inv], k _ G H (.refl s) (.int _)⟩
 ·cases e
def zeZ : List D -> Option D
 | [.int i] => if i.natAbs.log2 < 1920 then some (.str (toString i)) else none
 | _ => none
theorem zjz : zc4 X (.type "str") zeZ := by
 refine ⟨_, zcR, fun vs G H ds d Q s r e k => ?_⟩
 unfold zeZ at e
 split at e
 ·split at e
  ·rename_i hz
   cases e
   obtain ⟨v, rfl, q⟩ := r.one_inv
   exact ⟨_, by rw [q.int_inv], hz, k _ G H (.refl s) (.str _)⟩
  ·cases e
 ·cases e
def zc5 (i : Nat) : M D := fun ρ => match ρ[i]? with
 | some (some (.pub d)) => mOpt (oLen [d]) ρ
 | some (some (.own ds)) => .ok (.int ds.length) ρ
 | _ => .bad
theorem zbZ {i : Nat} {p2 : Pos} (hg : Gl X "len") (hm : X.mg "len" = none) (ha : PE X e (tVar i)) (he : starEach [e] X.env = [(false, eval e X.env)] := by rfl) : PE X (.Call (.Name "len" p2) [e] [] pos) (tD X.K B G0 (zc5 i)) := by
 refine peof (zcx zdH hg hm PySem.boot_len (zbf ha zcp (by rw [he]; rfl)) (by decide) (by decide) (by rw [he]; rfl) rfl) fun σ H Q ⟨G, ρ, k, a⟩ => ?_
 unfold zc5 at a
 cases q : ρ[i]? with
 | none => rw [q] at a; exact a.elim
 | some o =>
  cases o with
  | none => rw [q] at a; exact a.elim
  | some sl =>
   cases sl with
   | pub d =>
    rw [q] at a
    obtain ⟨v, h1, h2⟩ := k.pub i d q
    refine ⟨v, h1, ?_⟩
    obtain ⟨d', e', a'⟩ := aft.opt a
    obtain ⟨r, hr, ir⟩ := @zkF X
    show ∃ x n, [v] = [x] /\ LenV X.K x H n /\ Q (.int n) H
    unfold oLen at e'
    split at e'
    ·rename_i xs he'
     injection he' with he1 he2
     subst he1
     cases e'
     obtain ⟨l, ws, rfl, g1, r1⟩ := h2.lst_inv
     exact ⟨.ref l, ws.length, rfl, .inl ⟨ws, k.gh.seq g1, rfl⟩, by rw [r1.length]; exact a'.now k (.int _)⟩
    ·rename_i xs he'
     injection he' with he1 he2
     subst he1
     cases e'
     obtain ⟨l, ws, rfl, g1, r1⟩ := h2.tup_inv
     exact ⟨.ref l, ws.length, rfl, .inr ⟨ws, zb5 k.gh g1, rfl⟩, by rw [r1.length]; exact a'.now k (.int _)⟩
    ·rename_i z he'
     injection he' with he1 he2
     subst he1
     split at e'
     ·rename_i hz
      cases e'
      exact ⟨.str z, z.length, by rw [h2.str_inv], ⟨Nat.le_trans hz lim, rfl⟩, a'.now k (.int _)⟩
     ·cases e'
    ·cases e'
   | own ds =>
    rw [q] at a
    obtain ⟨ad, vs, h1, g2, g3, h4, h5⟩ := k.own i ds q
    exact ⟨.ref ad, h1, .ref ad, vs.length, rfl, .inl ⟨vs, SqL.of h4, rfl⟩, by rw [h5.length]; exact aft.now a k (.int _)⟩
theorem zhQ {pins : List (Addr × Obj)} {s : Shared} {σ : St} {G H : Hp} {v : V} {u : Value} {d : D} {cv : Value} {t : Bool} {A : Around} {E : Value -> Shared -> Prop} {Q : Value -> Shared -> Prop} (I : Inv X pins σ H s) (sg : Same G H) (r : Rep X.K G v d) (rv : RelV v u) (nx : zds d = false)
  (ek : PySem.W.kitOne X.K (.type (tyOf d)) cv = some t) (h : ∀ tk, Q (.bool t) { s with toks := tk }) : wpAny (model X.prog X.w) A (call (.builtin "isinstance") [u, cv]) Q E s := by
 cases r with
 | non => cases rv; exact PySem.W.kia_one PySem.W.kitx_none I.kIn True.intro ek (fun z => nomatch z) h
 | bl y => cases rv; exact PySem.W.kia_one PySem.W.kitx_bool I.kIn True.intro ek (fun z => nomatch z) h
 | int i => obtain ⟨t', rfl⟩ := rv; exact PySem.W.kia_one PySem.W.kitx_int I.kIn True.intro ek (fun z => nomatch z) h
 | str y => obtain ⟨t', rfl⟩ := rv; exact PySem.W.kia_one PySem.W.kitx_str I.kIn True.intro ek (fun z => nomatch z) h
 | lst hl _ =>
  cases rv
  obtain ⟨its, r, ⟨o, n, e, hc, _, hd⟩, hz⟩ := I.list (sg.seq hl)
  exact PySem.W.kia_one PySem.W.kitx_list I.kIn ⟨o, e, hc⟩ ek (fun z => nomatch z) h
 | tup hl _ =>
  cases rv
  obtain ⟨its, r, p, hz⟩ := I.tuple (zb5 sg hl)
  obtain ⟨o, e, hc, _⟩ := p
  exact PySem.W.kia_one PySem.W.kitx_tuple I.kIn ⟨o, e, hc⟩ ek (fun z => nomatch z) h
 | @dic ad hd =>
  cases rv
  obtain ⟨_, _, vs, _, p⟩ := (show zbn X.prog X.w H s.heap ad (.dK []) from I.hok ad _ (sg _ _ hd))
  obtain ⟨o, es, ep, h1, h2, _⟩ := p
  exact PySem.W.kia_one PySem.W.kitx_dict I.kIn ⟨o, h1, h2.1⟩ ek (fun z => nomatch z) h
 | exc _ _ _ _ => cases nx
 | @dct ad ks vs ds kvs e0 _ _ hd _ =>
  cases rv
  subst e0
  rw [zg4.1] at ek
  obtain ⟨_, _, vs, _, p⟩ := (show zbn X.prog X.w H s.heap ad (.dK (ks.zip _)) from I.hok ad _ (sg _ _ hd))
  obtain ⟨o, es, ep, h1, h2, _⟩ := p
  exact PySem.W.kia_one PySem.W.kitx_dict I.kIn ⟨o, h1, h2.1⟩ ek (fun z => nomatch z) h
theorem zhR (c : String) (hc : c = "int" ∨ c = "bool" ∨ c = "str" ∨ c = "list" ∨ c = "tuple" ∨ c = "dict") : typeOf (.type c) = pure (.type "type") := by
 rcases hc with rfl | rfl | rfl | rfl | rfl | rfl <;> kernel_rfl
theorem zgg : zcl X (.builtin "isinstance") (fun xs H Q => ∃ v c G d, xs = [v, .ty c] /\ Same G H /\ Rep X.K G v d /\ (c = "int" ∨ c = "bool" ∨ c = "str" ∨ c = "list" ∨ c = "tuple" ∨ c = "dict") /\ Q (.bl (isTy d c)) H) := by
 intro pins s σ H xs us Q I r h
 obtain ⟨v, c, G, d, rfl, sg, rp, hc, q⟩ := h
 obtain ⟨u, w', rfl, r1, r2⟩ := zi6 r
 cases (show w' = Value.type c from r2)
 by_cases nx : zds d = true
 ·cases rp with
  | @exc a C dd bm nm vs ds ck hx hd rr =>
   refine zf6 (zf8 I.ok.mod.kin) pins s σ H [.ref a, .ty c] [u, .type c] Q I r ⟨a, C, dd, bm, false, .ty c, false, rfl, ⟨nm, ck⟩, sg _ _ hx, .inr ⟨c, rfl, zhR c hc, ?_⟩, ?_⟩
   ·rw [ck.ty]; rcases hc with rfl | rfl | rfl | rfl | rfl | rfl <;> rfl
   ·have e : isTy (.dict [(.none, .tuple [.str nm, .list ds])]) c = false := by rcases hc with rfl | rfl | rfl | rfl | rfl | rfl <;> rfl
    rw [e] at q; exact q
  | dct e _ _ _ _ => subst e; rw [zg4.2] at nx; cases nx
  | _ => cases nx
 ·have nx : zds d = false := by simpa using nx
  exact zhQ I sg rp r1 nx (zhP X.K d c nx hc) fun tk => ⟨.bl _, H, I.tok tk, rfl, q⟩
theorem zbW : bootBuiltins "isinstance" = some (.builtin "isinstance") := by decide +kernel
theorem zef {f : M D} {p2 p3 : Pos} {c : String} (hc : c = "int" ∨ c = "bool" ∨ c = "str" ∨ c = "list" ∨ c = "tuple" ∨ c = "dict") (hg : Gl X "isinstance") (hm : X.mg "isinstance" = none) (hg2 : Gl X (Str.ofString c)) (hm2 : X.mg (Str.ofString c) = none)
  (hv2 : bootBuiltins (Str.ofString c) = some (.type c)) (ha : PE X e (tD X.K B G0 f)) (hn2 : (Str.ofString c) ≠ "__name__") (hd2 : ((Str.ofString c) == ("__debug__" : Str)) = false)
  (hs : starEach [e, .Name (Str.ofString c) p3] X.env = (false, eval e X.env) :: starEach [.Name (Str.ofString c) p3] X.env := by rfl)
  (hs2 : starEach [.Name (Str.ofString c) p3] X.env = [(false, eval (.Name (Str.ofString c) p3) X.env)] := by rfl) :
  PE X (.Call (.Name "isinstance" p2) [e, .Name (Str.ofString c) p3] [] pos) (tD X.K B G0 (mMap (fun d => .bool (isTy d c)) f)) := by
 refine peof (zcx zgg hg hm zbW (zbf ha (zbf (zhf (v := .ty c) hg2 hm2 hv2 rfl hn2 hd2) zcp (by rw [hs2]; rfl)) hs) (by decide) (by decide) hs (by rw [hs2]; rfl)) fun σ H Q q => ?_
 refine tM.one (R := Rep X.K) q fun v H2 G ρ x k r a => ?_
 exact ⟨v, c, G, x, rfl, k.gh, r, hc, aft.now a k (.bl _)⟩
end
end DL
namespace DL
open PySem PySem.Spec L2
open PyProof.Rows hiding St
def spD (K : PySem.W.Frag) (n : Nat) (F : List D -> Option D) : Sp := fun vs H Q _ => ∃ G ds d, vs.length = n /\ Same G H /\ Reps K G vs ds /\ F ds = some d /\ ∀ v G' H', Ext G H G' H' -> Rep K G' v d -> Q v H'
section
variable {K : PySem.W.Frag} {B G0 G H : Hp} {σ : St} {ρ : DEnv}
theorem EOk.exit (k : EOk K B G0 G H σ ρ) : Ext G0 B G H := ⟨k.bh, k.g0, k.gh, k.np⟩
theorem zaI {α : Type} {l : List α} {i : Nat} {x y : α} (h : (l.set i x)[i]? = some y) : y = x := by
 by_cases hl : i < l.length
 ·rw [List.getElem?_set_self hl] at h; cases h; rfl
 ·rw [List.getElem?_eq_none (by rw [List.length_set]; omega)] at h; cases h
theorem EOk.setPub {i : Nat} {v : V} {d : D} (k : EOk K B G0 G H σ ρ) (r : Rep K G v d) (hi : i < ρ.length) : EOk K B G0 G H (σ.set i (some v)) (ρ.set i (some (.pub d))) where
 bh := k.bh
 gh := k.gh
 g0 := k.g0
 np := k.np
 len := by rw [List.length_set, List.length_set]; exact k.len
 pub := fun j d' q => by
  by_cases z : i = j
  ·subst z
   have := zaI q
   cases this
   exact ⟨v, List.getElem?_set_self (by rw [← k.len]; exact hi), r⟩
  ·rw [List.getElem?_set_ne z] at q ⊢
   exact k.pub j d' q
 own := fun j ds q => by
  by_cases z : i = j
  ·subst z
   have := zaI q
   cases this
  ·rw [List.getElem?_set_ne z] at q ⊢
   exact k.own j ds q
 sep := fun j l c es fs q1 q2 s1 s2 => by
  have z1 : i ≠ j := fun z => by subst z; have := zaI q1; cases this
  have z2 : i ≠ l := fun z => by subst z; have := zaI q2; cases this
  rw [List.getElem?_set_ne z1] at q1 s1
  rw [List.getElem?_set_ne z2] at q2 s2
  exact k.sep j l c es fs q1 q2 s1 s2
structure NewL (K : PySem.W.Frag) (B G H : Hp) (σ : St) (ρ : DEnv) (a : Addr) (vs : List V) (ds : List D) : Prop where
 b : B a = none
 g : G a = none
 h : H a = some (.lst vs)
 r : Reps K G vs ds
 f : ∀ (j : Nat) es, ρ[j]? = some (some (.own es)) -> σ[j]? ≠ some (some (.ref a))
theorem EOk.setOwn {i : Nat} {a : Addr} {vs : List V} {ds : List D} (k : EOk K B G0 G H σ ρ) (n : NewL K B G H σ ρ a vs ds) (hi : i < ρ.length) : EOk K B G0 G H (σ.set i (some (.ref a))) (ρ.set i (some (.own ds))) where
 bh := k.bh
 gh := k.gh
 g0 := k.g0
 np := k.np
 len := by rw [List.length_set, List.length_set]; exact k.len
 pub := fun j d' q => by
  by_cases z : i = j
  ·subst z
   have := zaI q
   cases this
  ·rw [List.getElem?_set_ne z] at q ⊢
   exact k.pub j d' q
 own := fun j es q => by
  by_cases z : i = j
  ·subst z
   have := zaI q
   cases this
   exact ⟨a, vs, List.getElem?_set_self (by rw [← k.len]; exact hi), n.b, n.g, n.h, n.r⟩
  ·rw [List.getElem?_set_ne z] at q ⊢
   exact k.own j es q
 sep := fun j l c es fs q1 q2 s1 s2 => by
  have hs : i < σ.length := by rw [← k.len]; exact hi
  by_cases z1 : i = j
  ·subst z1
   rw [List.getElem?_set_self hs] at s1
   cases s1
   by_cases z2 : i = l
   ·exact z2
   ·rw [List.getElem?_set_ne z2] at q2 s2
    exact absurd s2 (n.f l fs q2)
  ·by_cases z2 : i = l
   ·subst z2
    rw [List.getElem?_set_self hs] at s2
    cases s2
    rw [List.getElem?_set_ne z1] at q1 s1
    exact absurd s1 (n.f j es q1)
   ·rw [List.getElem?_set_ne z1] at q1 s1
    rw [List.getElem?_set_ne z2] at q2 s2
    exact k.sep j l c es fs q1 q2 s1 s2
theorem EOk.change {i : Nat} {a : Addr} {vs : List V} {ds es : List D} (k : EOk K B G0 G H σ ρ) (q : ρ[i]? = some (some (.own ds))) (ha : σ[i]? = some (some (.ref a))) (r : Reps K G vs es) :
  EOk K B G0 G (upd H a (.lst vs)) σ (ρ.set i (some (.own es))) := by
 obtain ⟨a', ws, h1, h2, h3, h4, h5⟩ := k.own i ds q
 rw [ha] at h1
 cases h1
 have hi : i < ρ.length := (List.getElem?_eq_some_iff.mp q).1
 refine ⟨fun b o e => ?_, fun b o e => ?_, k.g0, k.np, by rw [List.length_set]; exact k.len, fun j d' e => ?_, fun j fs e => ?_, fun j l c fs gs q1 q2 s1 s2 => ?_⟩
 ·rw [zak (zat e h2)]; exact k.bh b o e
 ·rw [zak (zat e h3)]; exact k.gh b o e
 ·by_cases z : i = j
  ·subst z
   have := zaI e
   cases this
  ·rw [List.getElem?_set_ne z] at e
   exact k.pub j d' e
 ·by_cases z : i = j
  ·subst z
   have := zaI e
   cases this
   exact ⟨a, vs, ha, h2, h3, zaj, r⟩
  ·rw [List.getElem?_set_ne z] at e
   obtain ⟨c, us, g1, g2, g3, g4, g5⟩ := k.own j fs e
   have zc : c ≠ a := fun w => z (k.sep i j a ds fs q e ha (by rw [← w]; exact g1))
   exact ⟨c, us, g1, g2, g3, by rw [zak zc]; exact g4, g5⟩
 ·have f : ∀ {m : Nat} {ts : List D}, (ρ.set i (some (Sl.own es)))[m]? = some (some (.own ts)) -> ∃ ts', ρ[m]? = some (some (.own ts')) := fun {m ts} e => by
   by_cases z : i = m
   ·subst z; exact ⟨ds, q⟩
   ·rw [List.getElem?_set_ne z] at e; exact ⟨ts, e⟩
  obtain ⟨f1, w1⟩ := f q1
  obtain ⟨f2, w2⟩ := f q2
  exact k.sep j l c f1 f2 w1 w2 s1 s2
end
inductive Out where
 | nx (ρ : DEnv) | rt (d : D) | bk (ρ : DEnv) | ct (ρ : DEnv) | ex (ρ : DEnv) (d : D) | bad
abbrev SM := DEnv -> Out
section
variable (K : PySem.W.Frag) (B G0 : Hp) (KX : XW)
def aftS (o : Out) (G1 : Hp) (Dn : Ends) : Prop :=
 match o with
 | .nx ρ => ∀ σ G H, EOk K B G0 G H σ ρ -> Same G1 G -> Dn.nx σ H
 | .bk ρ => ∀ σ G H, EOk K B G0 G H σ ρ -> Same G1 G -> Dn.bk σ H
 | .ct ρ => ∀ σ G H, EOk K B G0 G H σ ρ -> Same G1 G -> Dn.ct σ H
 | .rt d => ∀ v G H, Ext G0 B G H -> Rep K G v d -> Dn.rt v H
 | .ex ρ d => ∀ v σ G H, EOk K B G0 G H σ ρ -> Same G1 G -> Rep K G v d -> KX v σ H
 | .bad => False
def tS (g : SM) : TS := fun Dn σ H => ∃ G ρ, EOk K B G0 G H σ ρ /\ aftS K B G0 KX (g ρ) G Dn
def sB {α : Type} (f : M α) (g : α -> SM) : SM := fun ρ => match f ρ with | .ok a ρ' => g a ρ' | .bad => .bad
end
section
variable {X : Cx} {B G0 : Hp} {KX : XW} {e a b c : Expr} {pos : Pos} {es rest : List Expr} {st : Stmt} {sts sts2 : List Stmt}
theorem aftS.mono {K : PySem.W.Frag} {o : Out} {G G' : Hp} {Dn : Ends} (e : Same G G') (h : aftS K B G0 KX o G Dn) : aftS K B G0 KX o G' Dn := by
 cases o with
 | nx ρ => exact fun σ G2 H2 k s => h σ G2 H2 k (e.trans s)
 | bk ρ => exact fun σ G2 H2 k s => h σ G2 H2 k (e.trans s)
 | ct ρ => exact fun σ G2 H2 k s => h σ G2 H2 k (e.trans s)
 | rt d => exact h
 | ex ρ d => exact fun v σ G2 H2 k s r => h v σ G2 H2 k (e.trans s) r
 | bad => exact h
theorem tS.bnd {K : PySem.W.Frag} {α γ : Type} {R : Hp -> γ -> α -> Prop} {f : M α} {g : α -> SM} {Dn : Ends} {σ : St} {H : Hp} {P : γ -> Hp -> Prop} (q : tS K B G0 KX (sB f g) Dn σ H)
  (i : ∀ v H' G' ρ' x, EOk K B G0 G' H' σ ρ' -> R G' v x -> aftS K B G0 KX (g x ρ') G' Dn -> P v H') : tM K B G0 R f σ H P := by
 obtain ⟨G, ρ, k, a⟩ := q
 refine ⟨G, ρ, k, ?_⟩
 unfold sB at a
 cases z : f ρ with
 | bad => rw [z] at a; exact a.elim
 | ok d ρ1 =>
  rw [z] at a
  exact fun v G' H' e s r => i v H' G' ρ1 d e r (aftS.mono s a)
def sNx : SM := fun ρ => .nx ρ
def sSeq (g h : SM) : SM := fun ρ => match g ρ with | .nx ρ' => h ρ' | o => o
theorem zaK : PSs X [] (tS X.K B G0 KX sNx) := zjo zhi fun D σ H ⟨G, ρ, k, a⟩ => a σ G H k (.refl _)
theorem zai {g h : SM} (h1 : PS X st (tS X.K B G0 KX g)) (h2 : PSs X sts (tS X.K B G0 KX h)) : PSs X (st :: sts) (tS X.K B G0 KX (sSeq g h)) := zjo (zdF h1 h2) fun D σ H ⟨G, ρ, k, a⟩ => by
 refine ⟨G, ρ, k, ?_⟩
 unfold sSeq at a
 cases z : g ρ with
 | nx ρ1 => rw [z] at a; exact fun σ' G' H' k' s' => ⟨G', ρ1, k', aftS.mono s' a⟩
 | rt d => rw [z] at a; exact a
 | bk ρ1 => rw [z] at a; exact a
 | ct ρ1 => rw [z] at a; exact a
 | ex ρ1 d => rw [z] at a; exact a
 | bad => rw [z] at a; exact a.elim
theorem zar {g : SM} (h1 : PS X st (tS X.K B G0 KX g)) : PSs X [st] (tS X.K B G0 KX g) := zdk h1
def zg5 : SM := fun _ => .bad
theorem zgh : PS X st (tS X.K B G0 KX zg5) := fun _ _ _ _ _ _ ⟨_, _, _, a⟩ => a.elim
def sRet (f : M D) : SM := sB f fun d _ => .rt d
theorem zaz {f : M D} (h : PE X e (tD X.K B G0 f)) : PS X (.Return (some e) pos) (tS X.K B G0 KX (sRet f)) := psof (ziT h) fun D σ H q => tS.bnd (R := Rep X.K) q fun v H' G' ρ' x k r a => a v G' H' k.exit r
def sIf (f : M Bool) (g h : SM) : SM := sB f fun t => if t = true then g else h
theorem zbb {f : M Bool} {g h : SM} (hc : PT X c (tBo X.K B G0 f)) (ha : PSs X sts (tS X.K B G0 KX g)) (hb : PSs X sts2 (tS X.K B G0 KX h)) : PS X (.If c sts sts2 pos) (tS X.K B G0 KX (sIf f g h)) :=
 psof (zkq hc ha hb) fun D σ H q => tS.bnd (R := fun _ b c => b = c) q fun v H' G' ρ' x k r a => by
  have r : v = x := r
  subst r
  cases v with
  | true => exact ⟨G', ρ', k, a⟩
  | false => exact ⟨G', ρ', k, a⟩
def tG (K : PySem.W.Frag) (B G0 : Hp) (s : D -> DEnv -> Option DEnv) : TG := fun v σ H Q => ∃ G ρ d ρ', EOk K B G0 G H σ ρ /\ Rep K G v d /\ s d ρ = some ρ' /\ ∀ σ' G' H', EOk K B G0 G' H' σ' ρ' -> Same G G' -> Q σ' H'
def tGs (K : PySem.W.Frag) (B G0 : Hp) (s : List D -> DEnv -> Option DEnv) : TGs := fun v σ H Q => ∃ G ρ d ρ', EOk K B G0 G H σ ρ /\ Reps K G v d /\ s d ρ = some ρ' /\ ∀ σ' G' H', EOk K B G0 G' H' σ' ρ' -> Same G G' -> Q σ' H'
theorem pgof {t t' : TG} (h : PG X e t) (i : ∀ v σ H Q, t' v σ H Q -> t v σ H Q) : PG X e t' := fun pins s σ H v u Q I r q => h pins s σ H v u Q I r (i v σ H Q q)
theorem zjA {t t' : TGs} (h : PGs X es t) (i : ∀ v σ H Q, t' v σ H Q -> t v σ H Q) : PGs X es t' := fun pins s σ H v u Q I r q => h pins s σ H v u Q I r (i v σ H Q q)
def gN (i : Nat) : D -> DEnv -> Option DEnv := fun d ρ => if i < ρ.length then some (ρ.set i (some (.pub d))) else none
theorem zbh {i : Nat} (h : PG X e (zhk i)) : PG X e (tG X.K B G0 (gN i)) := pgof h fun v σ H Q ⟨G, ρ, d, ρ', k, r, e, q⟩ => by
 unfold gN at e
 split at e
 ·rename_i hi
  cases e
  exact q _ G H (k.setPub r hi) (.refl _)
 ·cases e
def gN0 : List D -> DEnv -> Option DEnv := fun d ρ => match d with | [] => some ρ | _ => none
def gNC (s : D -> DEnv -> Option DEnv) (t : List D -> DEnv -> Option DEnv) : List D -> DEnv -> Option DEnv := fun ds ρ => match ds with | d :: r => (s d ρ).bind (t r) | [] => none
theorem zg6 : PGs X [] (tGs X.K B G0 gN0) := zjA zhl fun v σ H Q ⟨G, ρ, d, ρ', k, r, e, q⟩ => by
 cases r with
 | nil => cases e; exact ⟨rfl, q σ G H k (.refl _)⟩
 | cons _ _ => cases e
theorem zca {s : D -> DEnv -> Option DEnv} {t : List D -> DEnv -> Option DEnv} (h1 : PG X e (tG X.K B G0 s)) (h2 : PGs X es (tGs X.K B G0 t))
  (hs : (assignEach (e :: es) X.env).map (·.2) = assign e X.env :: (assignEach es X.env).map (·.2) := by rfl) : PGs X (e :: es) (tGs X.K B G0 (gNC s t)) := zjA (zfN h1 h2 hs) fun v σ H Q ⟨G, ρ, d, ρ', k, r, e, q⟩ => by
 cases r with
 | nil => cases e
 | @cons w dw ws dws rw rt =>
  unfold gNC at e
  dsimp only at e
  cases z : s dw ρ with
  | none => rw [z] at e; cases e
  | some ρ1 =>
   rw [z] at e
   refine ⟨w, ws, rfl, G, ρ, dw, ρ1, k, rw, z, fun σ' G' H' k' s' => ?_⟩
   exact ⟨G', ρ1, dws, ρ', k', rt.mono s', e, fun σ2 G2 H2 k2 s2 => q σ2 G2 H2 k2 (s'.trans s2)⟩
def gT (n : Nat) (t : List D -> DEnv -> Option DEnv) : D -> DEnv -> Option DEnv := fun d ρ => match d with | .tuple ds => if ds.length = n then t ds ρ else none | _ => none
theorem zjB {k1 : Nat} {t : List D -> DEnv -> Option DEnv} {n : Nat} (hc : X.calm = true) (h : PGs X es (tGs X.K B G0 t))
  (hn : (assignEach es X.env).length = n := by rfl) (hst : (assignEach es X.env).findIdx? (·.1) = none := by rfl) : PG X (.Tuple es k1 pos) (tG X.K B G0 (gT n t)) := pgof (ziU hc h hn hst) fun v σ H Q ⟨G, ρ, d, ρ', k, r, e, q⟩ => by
 unfold gT at e
 split at e
 ·split at e
  ·rename_i hl
   obtain ⟨ad, vs, rfl, h1, r1⟩ := r.tup_inv
   exact ⟨ad, vs, rfl, zb5 k.gh h1, by rw [r1.length]; exact hl, G, ρ, _, ρ', k, r1, e, q⟩
  ·cases e
 ·cases e
def sAsg (f : M D) (s : D -> DEnv -> Option DEnv) : SM := sB f fun d ρ => match s d ρ with | some ρ' => .nx ρ' | none => .bad
theorem zjC {tg : Expr} {f : M D} {s : D -> DEnv -> Option DEnv} (he : PE X e (tD X.K B G0 f)) (hg : PG X tg (tG X.K B G0 s)) (hs : swapsWithSole [tg] e pos.line X.env = pure false := by rfl) (hw : swappedStores [tg] e X.env = pure none := by rfl)
  (h1 : (assignEach [tg] X.env).map (·.2) = [assign tg X.env] := by rfl) : PS X (.Assign [tg] e pos) (tS X.K B G0 KX (sAsg f s)) :=
 psof (ziV he hg hs hw h1) fun D σ H q => tS.bnd (R := Rep X.K) q fun v H' G' ρ' x k r a => by
  cases z : s x ρ' with
  | none => rw [z] at a; exact a.elim
  | some ρ2 => rw [z] at a; exact ⟨G', ρ', x, ρ2, k, r, z, fun σ2 G2 H2 k2 s2 => a σ2 G2 H2 k2 s2⟩
def sSet (i : Nat) (f : M D) : SM := sAsg f (gN i)
theorem zaD {i : Nat} {x : Str} {f : M D} {p2 : Pos} (hN : X.N.Nodup) (hi : X.N[i]? = some x) (hx : Loc X.env.scope x) (he : PE X e (tD X.K B G0 f)) (hs : swapsWith e (some (.Name x p2)) pos.line X.env = pure false := by rfl)
  (hf : X.fn x = true ∨ X.env.scope.names.lookup x = some .local := by first | exact .inl rfl | exact .inr rfl | assumption) : PS X (.Assign [.Name x p2] e pos) (tS X.K B G0 KX (sSet i f)) :=
 psof (zex hN hi hx he hs hf) fun D σ H q => tS.bnd (R := Rep X.K) q fun v H' G' ρ' x k r a => by
  unfold gN at a
  split at a
  ·rename_i ρ2 hz
   split at hz
   ·rename_i hi2
    cases hz
    exact a _ G' H' (k.setPub r hi2) (.refl _)
   ·cases hz
  ·exact a.elim
def tL (K : PySem.W.Frag) (B G0 : Hp) (f : M (List D)) : TE := fun σ H Q => ∃ G ρ, EOk K B G0 G H σ ρ /\ match f ρ with
 | .ok ds ρ' => ∀ a vs G' H', EOk K B G0 G' H' σ ρ' -> Same G G' -> NewL K B G' H' σ ρ' a vs ds -> Q (.ref a) H'
 | .bad => False
def ze0 (i : Nat) (f : M (List D)) : SM := sB f fun ds ρ => if i < ρ.length then .nx (ρ.set i (some (.own ds))) else .bad
theorem zhS {i : Nat} {x : Str} {f : M (List D)} {p2 : Pos} (hN : X.N.Nodup) (hi : X.N[i]? = some x) (hx : Loc X.env.scope x) (he : PE X e (tL X.K B G0 f)) (hs : swapsWith e (some (.Name x p2)) pos.line X.env = pure false := by rfl)
  (hf : X.fn x = true ∨ X.env.scope.names.lookup x = some .local := by first | exact .inl rfl | exact .inr rfl | assumption) : PS X (.Assign [.Name x p2] e pos) (tS X.K B G0 KX (ze0 i f)) :=
 psof (zex hN hi hx he hs hf) fun D σ H ⟨G, ρ, k, a⟩ => by
  refine ⟨G, ρ, k, ?_⟩
  unfold ze0 sB at a
  cases z : f ρ with
  | bad => rw [z] at a; exact a.elim
  | ok ds ρ1 =>
   rw [z] at a
   intro ad vs G' H' k' s' n
   dsimp only at a
   split at a
   ·rename_i hl
    exact a _ G' H' (k'.setOwn n hl) s'
   ·exact a.elim
theorem NewL.of {K : PySem.W.Frag} {G H : Hp} {σ : St} {ρ : DEnv} {p : Addr} {vs : List V} {ds : List D} (k : EOk K B G0 G H σ ρ) (hp : H p = none) (r : Reps K G vs ds) : NewL K B G (upd H p (.lst vs)) σ ρ p vs ds where
 b := k.bh.free hp
 g := k.gh.free hp
 h := zaj
 r := r
 f := fun j es q z => by
  obtain ⟨a, ws, h1, h2, h3, h4, h5⟩ := k.own j es q
  rw [z] at h1
  cases h1
  rw [hp] at h4; cases h4
theorem zhT {f : M (List D)} (h : PA X es (tDs X.K B G0 f)) : PE X (.List es pos) (tL X.K B G0 (zam f fun xs => if xs.length <= 1000000 then zad xs else fun _ => .bad)) :=
 peof (zgW h) fun σ H Q ⟨G, ρ, k, a⟩ => by
  refine ⟨G, ρ, k, ?_⟩
  unfold zam at a
  cases z : f ρ with
  | bad => rw [z] at a; exact a.elim
  | ok ds ρ1 =>
   rw [z] at a
   dsimp only at a
   intro v G' H' k' s' r
   by_cases c : ds.length <= 1000000
   ·rw [if_pos c] at a
    refine ⟨by rw [r.length]; exact Nat.le_trans c lim, fun p hp => ?_⟩
    exact a p v G' _ (k'.ext (Ext.hid k'.gh hp)) s' (NewL.of k' hp r)
   ·rw [if_neg c] at a; exact a.elim
def sApp (i : Nat) (f : M D) : SM := fun ρ0 => match ρ0[i]? with
 | some (some (.own _)) => sB f (fun d ρ => match ρ[i]? with
  | some (some (.own ds)) => if ds.length < 1000000 then .nx (ρ.set i (some (.own (ds ++ [d])))) else .bad
  | _ => .bad) ρ0
 | _ => .bad
theorem zg7 {i : Nat} {f : M D} {o : Expr} {apos cpos : Pos} (ho : PE X o (tVar i)) (he : PE X e (tD X.K B G0 f))
  (hbase : attributeBase o "append" X.env (eval o X.env) = eval o X.env := by rfl)
  (hfew : ((backTo cpos (starEach [e] X.env)).all (fun x => !x.1) && (backToKw cpos (keywordEach [] X.env)).all (fun x => x.1.isSome)
   && decide ([e].length + ([] : List Keyword).length + (if ([] : List Keyword).isEmpty then 0 else 1) < 30)) = true := by rfl)
  (hline : (apos.endLine == cpos.line) = true := by rfl) (hs : starEach [e] X.env = [(false, eval e X.env)] := by rfl)
  (hsw : swapsWith (.Call (.Attribute o "append" apos) [e] [] cpos) none pos.line X.env = pure false := by rfl) :
  PS X (.Expr (.Call (.Attribute o "append" apos) [e] [] cpos) pos) (tS X.K B G0 KX (sApp i f)) :=
 psof (zdl (zjd PySem.F.plainAttrs_list PySem.F.slot_list_append PySem.F.type_list_append zcY ho (zbf he zcp (by rw [hs]; rfl)) hbase hfew hline (by rw [hs]; rfl) rfl) hsw) fun D σ H ⟨G, ρ, k, a⟩ => by
  unfold sApp at a
  cases q0 : ρ[i]? with
  | none => rw [q0] at a; exact a.elim
  | some o0 =>
   cases o0 with
   | none => rw [q0] at a; exact a.elim
   | some sl0 =>
    cases sl0 with
    | pub d => rw [q0] at a; exact a.elim
    | own ds0 =>
     rw [q0] at a
     obtain ⟨ad, vs0, h1, h2, h3, h4, h5⟩ := k.own i ds0 q0
     refine ⟨.ref ad, h1, .inl ⟨rfl, _, SqL.of h4⟩, G, ρ, k, ?_⟩
     unfold sB at a
     cases z : f ρ with
     | bad => rw [z] at a; exact a.elim
     | ok d ρ1 =>
      rw [z] at a
      dsimp only at a
      intro v G' H' k' s' r'
      cases q : ρ1[i]? with
      | none => rw [q] at a; exact a.elim
      | some o =>
       cases o with
       | none => rw [q] at a; exact a.elim
       | some sl =>
        cases sl with
        | pub d => rw [q] at a; exact a.elim
        | own ds =>
         rw [q] at a
         dsimp only at a
         split at a
         ·rename_i hl
          obtain ⟨ad', vs, g1, g2, g3, g4, g5⟩ := k'.own i ds q
          rw [h1] at g1
          cases g1
          refine ⟨ad, vs, v, rfl, rfl, g4, by rw [g5.length]; exact Nat.lt_of_lt_of_le hl lim, ?_⟩
          exact a σ G' _ (k'.change q h1 (g5.append (.cons r' .nil))) s'
         ·exact a.elim
end
end DL
namespace DL
open PySem PySem.Spec L2
open PyProof.Rows hiding St
structure zcD (K : PySem.W.Frag) (J : It) (ds : List D) (G1 : Hp) : Prop where
 go : ∀ i G H, Same G1 G -> Same G H -> i < ds.length -> J.go i H
 stop : ∀ i G H, Same G1 G -> Same G H -> ds.length <= i -> J.stop i H
 yld : ∀ i G H x H' d, Same G1 G -> Same G H -> ds[i]? = some d -> J.yld i H x H' -> ∃ G', Ext G H G' H' /\ Rep K G' x d
def iD (K : PySem.W.Frag) (B G0 : Hp) (f : M (List D)) : TI := fun σ H R => ∃ G ρ, EOk K B G0 G H σ ρ /\ match f ρ with
 | .ok ds ρ' => ∀ J G' H', EOk K B G0 G' H' σ ρ' -> Same G G' -> zcD K J ds G' -> R J H'
 | .bad => False
section
variable {X : Cx} {B G0 : Hp} {KX : XW} {e a b c tg : Expr} {pos : Pos} {es rest : List Expr} {st : Stmt} {sts sts2 : List Stmt}
theorem piof {t t' : TI} (h : PI X tg e t) (i : ∀ σ H R, t' σ H R -> t σ H R) : PI X tg e t' := fun pins s σ H R I q => h pins s σ H R I (i σ H R q)
theorem tM.toI {K : PySem.W.Frag} {α γ : Type} {R0 : Hp -> γ -> α -> Prop} {f : M α} {g : α -> M (List D)} {σ : St} {H : Hp} {R : It -> Hp -> Prop} {P : γ -> Hp -> Prop} (q : iD K B G0 (zam f g) σ H R)
  (i : ∀ v H' G' ρ' x, EOk K B G0 G' H' σ ρ' -> R0 G' v x -> (match g x ρ' with
   | .ok ds ρ2 => ∀ J G2 H2, EOk K B G0 G2 H2 σ ρ2 -> Same G' G2 -> zcD K J ds G2 -> R J H2
   | .bad => False) -> P v H') : tM K B G0 R0 f σ H P := by
 obtain ⟨G, ρ, k, a⟩ := q
 refine ⟨G, ρ, k, ?_⟩
 unfold zam at a
 cases z : f ρ with
 | bad => rw [z] at a; exact a.elim
 | ok d ρ1 =>
  rw [z] at a
  intro v G' H' e s r
  refine i v H' G' ρ1 d e r ?_
  dsimp only at a
  cases z2 : g d ρ1 with
  | bad => rw [z2] at a; exact a.elim
  | ok ds ρ2 =>
   rw [z2] at a
   exact fun J G2 H2 k2 s2 it => a J G2 H2 k2 (s.trans s2) it
theorem zeg {K : PySem.W.Frag} {G1 : Hp} {ad : Addr} {vs : List V} {ds : List D} (h : SqL K G1 ad vs) (r : Reps K G1 vs ds) : zcD K (Itl K ad) ds G1 where
 go := fun i G H s1 s2 hi => by
  have hi' : i < vs.length := by rw [r.length]; exact hi
  exact ⟨vs, vs[i], (s1.trans s2).seq h, List.getElem?_eq_getElem hi'⟩
 stop := fun i G H s1 s2 hi => ⟨vs, (s1.trans s2).seq h, by rw [r.length]; exact hi⟩
 yld := fun i G H x H' d s1 s2 e y => by
  obtain ⟨rfl, y⟩ := y
  obtain ⟨v, e1, r1⟩ := r.get e
  have := y vs ((s1.trans s2).seq h)
  rw [e1] at this
  cases this
  exact ⟨G, .refl s2, r1.mono s1⟩
def zbo (lo hi : Int) : List D := (List.range (hi - lo).toNat).map fun (k : Nat) => .int (lo + k)
theorem zaV (lo hi : Int) : (zbo lo hi).length = (hi - lo).toNat := by unfold zbo; rw [List.length_map, List.length_range]
theorem zdt {K : PySem.W.Frag} {G1 : Hp} (lo hi : Int) : zcD K (Itr lo (hi - lo).toNat) (zbo lo hi) G1 where
 go := fun i G H s1 s2 h => by rw [zaV] at h; exact h
 stop := fun i G H s1 s2 h => by rw [zaV] at h; exact h
 yld := fun i G H x H' d s1 s2 e y => by
  obtain ⟨rfl, rfl⟩ := y
  unfold zbo at e
  rw [List.getElem?_map] at e
  have hi : i < (List.range (hi - lo).toNat).length := by
   refine Nat.lt_of_not_le fun z => ?_
   rw [List.getElem?_eq_none z] at e
   cases e
  rw [List.getElem?_eq_getElem hi, List.getElem_range] at e
  cases e
  exact ⟨G, .refl s2, .int _⟩
def zeh : List D -> Option (List D)
 | [.int j] => if j <= 1000000 /\ -1000000 <= j then some (zbo 0 j) else none
 | _ => none
def zgi (f : M (List D)) : M (List D) := zam f fun x => mOpt (zeh x)
theorem ze1 {f : M (List D)} {p2 : Pos} (hg : Gl X "range") (hm : X.mg "range" = none) (ha : PA X [a] (tDs X.K B G0 f)) (hs : starEach [a] X.env = [(false, eval a X.env)] := by rfl) :
  PI X tg (.Call (.Name "range" p2) [a] [] pos) (iD X.K B G0 (zgi f)) := piof (zez hg hm ha hs) fun σ H R q => tM.toI (R0 := Reps X.K) q fun v H' G' ρ' x k r a => by
 cases z : zeh x with
 | none => rw [z] at a; exact a.elim
 | some ds =>
  rw [z] at a
  unfold zeh at z
  split at z
  ·split at z
   ·rename_i j c
    cases z
    obtain ⟨w, rfl, r'⟩ := r.one_inv
    refine ⟨j, by rw [r'.int_inv], by omega, by omega, ?_⟩
    have it := zdt (K := X.K) (G1 := G') 0 j
    rw [Int.sub_zero] at it
    exact a _ G' H' k (.refl _) it
   ·cases z
  ·cases z
def zcb (n : Nat) : List D -> List D
 | [] => []
 | d :: r => .tuple [.int n, d] :: zcb (n + 1) r
theorem zbp : ∀ (n : Nat) (ds : List D), (zcb n ds).length = ds.length
 | _, [] => rfl
 | n, d :: r => by rw [zcb, List.length_cons, List.length_cons, zbp]
theorem zc6 : ∀ (n : Nat) (ds : List D) (i : Nat), (zcb n ds)[i]? = ds[i]?.map fun d => .tuple [.int ((n + i : Nat) : Int), d]
 | _, [], i => by simp [zcb]
 | n, d :: r, 0 => by simp [zcb]
 | n, d :: r, i + 1 => by
  rw [zcb, List.getElem?_cons_succ, List.getElem?_cons_succ, zc6 (n + 1) r i]
  have : n + 1 + i = n + (i + 1) := by omega
  rw [this]
theorem zei {K : PySem.W.Frag} {G1 : Hp} {ad : Addr} {vs : List V} {ds : List D} (h : SqL K G1 ad vs) (r : Reps K G1 vs ds) : zcD K (Ite K ad) (zcb 0 ds) G1 where
 go := fun i G H s1 s2 hi => by
  rw [zbp] at hi
  have hi' : i < vs.length := by rw [r.length]; exact hi
  exact ⟨vs, vs[i], (s1.trans s2).seq h, List.getElem?_eq_getElem hi'⟩
 stop := fun i G H s1 s2 hi => by
  rw [zbp] at hi
  exact ⟨vs, (s1.trans s2).seq h, by rw [r.length]; exact hi⟩
 yld := fun i G H x H' d s1 s2 e y => by
  obtain ⟨p, v, hp, rfl, y, rfl⟩ := y
  rw [zc6] at e
  cases z : ds[i]? with
  | none => rw [z] at e; cases e
  | some d0 =>
   rw [z] at e
   cases e
   obtain ⟨w, e1, r1⟩ := r.get z
   have := y vs ((s1.trans s2).seq h)
   rw [e1] at this
   cases this
   refine ⟨upd G p (.tup [.int i, v]), Ext.new s2 hp, .tup (SqT.of zaj) (.cons ?_ (.cons ((r1.mono s1).mono (zau (s2.free hp))) .nil))⟩
   rw [Nat.zero_add]
   exact .int _
def ze2 : List D -> Option (List D)
 | [.list ds] => some (zcb 0 ds)
 | _ => none
def zgj (f : M (List D)) : M (List D) := zam f fun x => mOpt (ze2 x)
theorem zhU {f : M (List D)} {p2 : Pos} {elts : List Expr} {x1} {tp : Pos} (hg : Gl X "enumerate") (hm : X.mg "enumerate" = none) (ha : PA X [a] (tDs X.K B G0 f)) (hs : starEach [a] X.env = [(false, eval a X.env)] := by rfl) :
  PI X (.Tuple elts x1 tp) (.Call (.Name "enumerate" p2) [a] [] pos) (iD X.K B G0 (zgj f)) := piof (zhw hg hm ha hs) fun σ H R q => tM.toI (R0 := Reps X.K) q fun v H' G' ρ' x k r a => by
 cases z : ze2 x with
 | none => rw [z] at a; exact a.elim
 | some ds =>
  rw [z] at a
  unfold ze2 at z
  split at z
  ·cases z
   obtain ⟨w, rfl, r'⟩ := r.one_inv
   obtain ⟨ad, vs, rfl, h1, r1⟩ := r'.lst_inv
   exact ⟨ad, vs, rfl, k.gh.seq h1, a _ G' H' k (.refl _) (zei h1 r1)⟩
  ·cases z
def zc7 (s : D -> DEnv -> Option DEnv) (g : SM) : List D -> SM
 | [], ρ => .nx ρ
 | d :: r, ρ => match s d ρ with
  | none => .bad
  | some ρ1 => match g ρ1 with
   | .nx ρ2 => zc7 s g r ρ2
   | .ct ρ2 => zc7 s g r ρ2
   | .bk ρ2 => .nx ρ2
   | .rt d => .rt d
   | .ex ρ2 d => .ex ρ2 d
   | .bad => .bad
def sFor (f : M (List D)) (s : D -> DEnv -> Option DEnv) (g : SM) : SM := sB f fun ds => zc7 s g ds
theorem zdN {iter : Expr} {body : List Stmt} {f : M (List D)} {s : D -> DEnv -> Option DEnv} {g : SM} (hp : PassesOwn (model X.prog X.w) X.A X.env X.xe) (hc : X.calm = true) (hi : PI X tg iter (iD X.K B G0 f)) (hg : PG X tg (tG X.K B G0 s)) (hb : PSs X body (tS X.K B G0 KX g))
  (hs : ∀ x, foldedSetIterable iter X.env x = pure x := by intro _; rfl) : PS X (.For tg iter body [] pos) (tS X.K B G0 KX (sFor f s g)) :=
 psof (ziW hp hc hi hg hb hs) fun Dn σ H ⟨G, ρ, k, a⟩ => by
  refine ⟨G, ρ, k, ?_⟩
  unfold sFor sB at a
  cases z : f ρ with
  | bad => rw [z] at a; exact a.elim
  | ok ds ρ1 =>
   rw [z] at a
   dsimp only at a ⊢
   intro J G1 H1 k1 s1 it
   refine ⟨fun i m σ' H' => m = ds.length - i /\ ∃ G' ρ', EOk X.K B G0 G' H' σ' ρ' /\ Same G1 G' /\ aftS X.K B G0 KX (zc7 s g (ds.drop i) ρ') G' Dn, ⟨ds.length, by omega, G1, ρ1, k1, .refl _, by rw [List.drop_zero]; exact aftS.mono s1 a⟩, ?_⟩
   rintro i m σ' H' ⟨rfl, G', ρ', k', s', a'⟩
   by_cases hi : i < ds.length
   ·right
    refine ⟨it.go i G' H' s' k'.gh hi, fun σ2 H2 => ∃ G2 ρ2, EOk X.K B G0 G2 H2 σ2 ρ2 /\ Same G1 G2 /\ aftS X.K B G0 KX (zc7 s g (ds.drop (i + 1)) ρ2) G2 Dn, fun σ2 H2 h2 => ⟨ds.length - (i + 1), by omega, rfl, h2⟩, fun x H2 y => ?_⟩
    obtain ⟨G2, ex, rx⟩ := it.yld i G' H' x H2 ds[i] s' k'.gh (List.getElem?_eq_getElem hi) y
    rw [List.drop_eq_getElem_cons hi, zc7] at a'
    cases z2 : s ds[i] ρ' with
    | none => rw [z2] at a'; exact a'.elim
    | some ρ2 =>
     rw [z2] at a'
     dsimp only at a'
     refine ⟨G2, ρ', ds[i], ρ2, k'.ext ex, rx, z2, fun σ3 G3 H3 k3 s3 => ⟨G3, ρ2, k3, ?_⟩⟩
     have s13 : Same G1 G3 := (s'.trans ex.g).trans s3
     cases z3 : g ρ2 with
     | nx ρ3 => rw [z3] at a'; exact fun σ4 G4 H4 k4 s4 => ⟨G4, ρ3, k4, s13.trans s4, aftS.mono ((ex.g.trans s3).trans s4) a'⟩
     | ct ρ3 => rw [z3] at a'; exact fun σ4 G4 H4 k4 s4 => ⟨G4, ρ3, k4, s13.trans s4, aftS.mono ((ex.g.trans s3).trans s4) a'⟩
     | bk ρ3 => rw [z3] at a'; exact fun σ4 G4 H4 k4 s4 => a' σ4 G4 H4 k4 ((ex.g.trans s3).trans s4)
     | rt d => rw [z3] at a'; exact a'
     | ex ρ3 d => rw [z3] at a'; exact fun v σ4 G4 H4 k4 s4 r4 => a' v σ4 G4 H4 k4 ((ex.g.trans s3).trans s4) r4
     | bad => rw [z3] at a'; exact a'.elim
   ·left
    rw [List.drop_eq_nil_of_le (by omega)] at a'
    exact ⟨it.stop i G' H' s' k'.gh (by omega), a' σ' G' H' k' (.refl _)⟩
theorem zgk {k : Nat} {f : Addr} {fd : FuncData} {ps : List Str} {F : List D -> Option D} {g : M (List D)} {x : Str} {p2 : Pos} {n : Nat} (FK : FnOk X.prog X.w X.K X.mg X.base CX0 k f fd ps (spD X.K n F)) (hr : Room k X.A) (hg : Gl X x) (hm : X.mg x = some (.ref f)) (hk : PySem.W.keepIn X.K (.ref f) = true)
  (hb : zbt X.K fd ps []) (ha : PA X (e :: es) (tDs X.K B G0 g)) (hn : (e :: es).length = n) (hdb : (x == ("__debug__" : Str)) = false := by decide) (he : starEach (e :: es) X.env = (false, eval e X.env) :: starEach es X.env := by rfl) (hpl : (backTo pos (starEach es X.env)).any (·.1) = false := by rfl) :
  PE X (.Call (.Name x p2) (e :: es) [] pos) (tD X.K B G0 (zam g fun xs => if xs.length = n then mOpt (F xs) else fun _ => .bad)) :=
 peof (zhn FK hr hg hm hk hb .nil zje ha hdb he hpl) fun σ H Q q => tM.one (R := Reps X.K) q fun v H2 G ρ ds k r a => by
  split at a
  ·rename_i hl
   obtain ⟨d, e, a⟩ := a.opt
   exact ⟨G, ds, d, by rw [List.append_nil, r.length]; exact hl, k.gh, by rw [List.append_nil]; exact r, e, fun w G' H' ex rw => a.done k ex rw⟩
  ·exact a.elim
end
def za0 (N : List Str) (ds : List D) : DEnv := (ds.map fun d => some (Sl.pub d)) ++ List.replicate (N.length - ds.length) none
theorem zdO {K : PySem.W.Frag} {N : List Str} {G H : Hp} {vs : List V} {ds : List D} (s : Same G H) (r : Reps K G vs ds) : EOk K H G G H (L2.zb1 N vs) (za0 N ds) where
 bh := .refl _
 gh := s
 g0 := .refl _
 np := fun _ _ _ n => n
 len := by unfold L2.zb1 za0; rw [List.length_append, List.length_append, List.length_map, List.length_map, List.length_replicate, List.length_replicate, r.length]
 pub := fun i d q => by
  unfold za0 at q
  unfold L2.zb1
  by_cases hi : i < ds.length
  ·rw [List.getElem?_append_left (by rw [List.length_map]; exact hi), List.getElem?_map] at q
   cases z : ds[i]? with
   | none => rw [z] at q; cases q
   | some d' =>
    rw [z] at q
    cases q
    obtain ⟨v, e1, r1⟩ := r.get z
    refine ⟨v, ?_, r1⟩
    rw [List.getElem?_append_left (by rw [List.length_map, r.length]; exact hi), List.getElem?_map, e1]
    rfl
  ·rw [List.getElem?_append_right (by rw [List.length_map]; omega), List.getElem?_replicate] at q
   split at q <;> cases q
 own := fun i es q => by
  unfold za0 at q
  by_cases hi : i < ds.length
  ·rw [List.getElem?_append_left (by rw [List.length_map]; exact hi), List.getElem?_map] at q
   cases z : ds[i]? with
   | none => rw [z] at q; cases q
   | some d' => rw [z] at q; cases q
  ·rw [List.getElem?_append_right (by rw [List.length_map]; omega), List.getElem?_replicate] at q
   split at q <;> cases q
 sep := fun i j a es fs q _ _ _ => by
  unfold za0 at q
  by_cases hi : i < ds.length
  ·rw [List.getElem?_append_left (by rw [List.length_map]; exact hi), List.getElem?_map] at q
   cases z : ds[i]? with
   | none => rw [z] at q; cases q
   | some d' => rw [z] at q; cases q
  ·rw [List.getElem?_append_right (by rw [List.length_map]; omega), List.getElem?_replicate] at q
   split at q <;> cases q
def runD (N : List Str) (g : SM) (ds : List D) : Option D := match g (za0 N ds) with
 | .rt d => some d
 | .nx _ => some .none
 | _ => none
theorem okD {P : Program} {w : World} {K : PySem.W.Frag} {mg : Str -> Option Value} {base : Heap} {x qual : Str} {st : Stmt} {f : Addr} {fd : FuncData} {N ps : List Str} {k n : Nat} {g : SM} (F : Fun K x qual st f fd) (S : zbI N ps (zaf st)) (hn : ps.length = n)
  (der : ∀ (cdv : Value) (A : Around) (outer : List Env) (s : Shared) (H : Hp) (E : XK) (B G0 : Hp), Room k (A.deeper (envOfC qual (zaf st) s.heap.objs.size f cdv)) ->
   PSs (cxOf CX0 P w K mg base N qual (zaf st) f cdv A outer s H E).nox (zaC st) (tS K B G0 KX0 g)) : FnOk P w K mg base CX0 (k + 1) f fd ps (spD K n (runD N g)) := by
 refine F.ok S (fun vs H Q E h => ?_) (fun cdv A outer s H vs Q E hr h => ?_)
 ·obtain ⟨_, _, _, hl, _⟩ := h
  rw [hl, hn]
 ·obtain ⟨G, ds, d, hl, sg, r, hF, q⟩ := h
  refine ⟨_, der cdv A outer s H E H G hr, G, za0 N ds, zdO sg r, ?_⟩
  unfold runD at hF
  cases z : g (za0 N ds) with
  | rt d' =>
   rw [z] at hF
   cases hF
   exact fun v G' H' ex rr => q v G' H' ex rr
  | nx ρ =>
   rw [z] at hF
   cases hF
   exact fun σ' G' H' k' _ => q .non G' H' k'.exit .non
  | bk ρ => rw [z] at hF; cases hF
  | ct ρ => rw [z] at hF; cases hF
  | ex ρ d => rw [z] at hF; cases hF
  | bad => rw [z] at hF; cases hF
end DL
namespace DL
open PySem PySem.Spec L2
open PyProof.Rows hiding St
section
variable {X : Cx} {B G0 : Hp} {e a b c tg : Expr} {pos : Pos} {es rest : List Expr}
def oNeg : D -> Option D
 | .int i => some (.int (-i))
 | _ => none
def dNeg (f : M D) : M D := zam f fun x => mOpt (oNeg x)
theorem zhV {f : M D} (h : PE X a (tD X.K B G0 f)) : PE X (.UnaryOp .USub a pos) (tD X.K B G0 (dNeg f)) :=
 peof (zku zi2 h) fun σ H Q q => tM.one (R := Rep X.K) q fun v H2 G ρ x k r a => by
  cases x with
  | int i => exact ⟨i, r.int_inv, aft.now a k (.int _)⟩
  | _ => exact a.elim
end
def Def (P : Program) (w : World) (K : PySem.W.Frag) (mg : Str -> Option Value) (base : Heap) (x : Str) (k n : Nat) (F : List D -> Option D) : Prop :=
 ∃ (f : Addr) (fd : FuncData) (ps : List Str), mg x = some (.ref f) /\ PySem.W.keepIn K (.ref f) = true /\ zbt K fd ps [] /\ FnOk P w K mg base CX0 k f fd ps (spD K n F)
def dFun (n : Nat) (F : List D -> Option D) (g : M (List D)) : M D := zam g fun xs => if xs.length = n then mOpt (F xs) else fun _ => .bad
section
variable {X : Cx} {B G0 : Hp} {e : Expr} {pos : Pos} {es : List Expr}
theorem zhW {k n : Nat} {F : List D -> Option D} {g : M (List D)} {x : Str} {p2 : Pos} (d : Def X.prog X.w X.K X.mg X.base x k n F) (hr : Room k X.A) (hg : Gl X x) (ha : PA X (e :: es) (tDs X.K B G0 g)) (hn : (e :: es).length = n := by rfl)
  (hdb : (x == ("__debug__" : Str)) = false := by decide) (he : starEach (e :: es) X.env = (false, eval e X.env) :: starEach es X.env := by rfl) (hpl : (backTo pos (starEach es X.env)).any (·.1) = false := by rfl) :
  PE X (.Call (.Name x p2) (e :: es) [] pos) (tD X.K B G0 (dFun n F g)) := by
 obtain ⟨f, fd, ps, h1, h2, h3, h4⟩ := d
 exact zgk h4 hr hg h1 h2 h3 ha hn hdb he hpl
end
theorem Def.mk {P : Program} {w : World} {K : PySem.W.Frag} {mg : Str -> Option Value} {base : Heap} {x : Str} {k n : Nat} {F : List D -> Option D} {st : Stmt} {f : Addr} {fd : FuncData} {ps : List Str} (hm : mg x = some (.ref f)) (FU : Fun K x x st f fd) (hb : zbt K fd ps []) (ok : FnOk P w K mg base CX0 k f fd ps (spD K n F)) :
  Def P w K mg base x k n F := ⟨f, fd, ps, hm, FU.kp, hb, ok⟩
theorem zjD {K : PySem.W.Frag} {H : Hp} {a : Addr} {ns : List Int} {F : List D -> Option D} {E : XK} (hS : SqL K H a (ns.map V.int)) (h : F [.list (ns.map PyData.int)] = some (.bool true)) : spD K 1 F [.ref a] H (fun v _ => v = .bl true) E :=
 ⟨H, [.list (ns.map PyData.int)], .bool true, rfl, .refl _, .cons (.lst hS (Reps.ints ns)) .nil, h, fun _ _ _ _ r => r.bl_inv⟩
end DL
namespace L2
open PySem PySem.Spec PyProof.Rows
theorem mem_of_lookup {x : Str} {k : NameKind} : ∀ {l : List (Str × NameKind)}, l.lookup x = some k -> (x, k) ∈ l
 | [], h => by cases h
 | (y, j) :: r, h => by
  rw [List.lookup_cons] at h
  split at h
  ·rename_i e
   cases h
   have : x = y := by simpa using e
   rw [this]; exact List.mem_cons_self
  ·exact List.mem_cons_of_mem _ (mem_of_lookup h)
theorem zbL {env : Env} : ∀ (l : List (Str × NameKind)) (acc : List (Str × Addr)), (∀ y ∈ l, y.2 = .free -> ∃ c, env.cells.lookup y.1 = some c) ->
  ∃ cl, (forIn l acc (fun x r => if (x.2 == NameKind.free) = true then (do let a ← cellOf env x.1; pure (ForInStep.yield ((x.1, a) :: r))) else pure (ForInStep.yield r)) : Sem (List (Str × Addr))) = pure cl /\
   (∀ x c, cl.lookup x = some c -> acc.lookup x = some c ∨ env.cells.lookup x = some c) /\ (∀ y ∈ l, y.2 = .free -> ∃ c, cl.lookup y.1 = some c) /\ (∀ x c, acc.lookup x = some c -> ∃ c', cl.lookup x = some c')
 | [], acc, _ => ⟨acc, rfl, fun _ _ h => .inl h, fun _ h => absurd h (by simp), fun x c h => ⟨c, h⟩⟩
 | (n, k) :: r, acc, h => by
  by_cases hk : k = .free
  ·subst hk
   obtain ⟨c, hc⟩ := h (n, .free) List.mem_cons_self rfl
   obtain ⟨cl, e, p1, p2, p3⟩ := zbL r ((n, c) :: acc) fun y hy => h y (List.mem_cons_of_mem _ hy)
   have hco : cellOf env n = pure c := by unfold cellOf; rw [hc]
   have key : ∀ x c', ((n, c) :: acc).lookup x = some c' -> acc.lookup x = some c' ∨ env.cells.lookup x = some c' := fun x c' q => by
    rw [List.lookup_cons] at q
    split at q
    ·rename_i e1
     cases q
     have : x = n := by simpa using e1
     subst this
     exact .inr hc
    ·exact .inl q
   have own : ((n, c) :: acc).lookup n = some c := by rw [List.lookup_cons]; simp
   refine ⟨cl, ?_, fun x c' q => ?_, fun y hy hf => ?_, fun x c' q => ?_⟩
   ·rw [List.forIn_cons]
    have : (if (((n, NameKind.free) : Str × NameKind).2 == NameKind.free) = true then (do let a ← cellOf env n; pure (ForInStep.yield ((n, a) :: acc))) else pure (ForInStep.yield acc) : Sem _) = pure (ForInStep.yield ((n, c) :: acc)) := by
     rw [if_pos (show ((n, NameKind.free).snd == NameKind.free) = true from rfl), hco]; rfl
    refine Eq.trans ?_ e
    dsimp only at this ⊢
    rw [this]
    rfl
   ·rcases p1 x c' q with z | z
    ·exact key x c' z
    ·exact .inr z
   ·rcases List.mem_cons.mp hy with z | z
    ·subst z
     exact p3 n c own
    ·exact p2 y z hf
   ·by_cases hx : x = n
    ·subst hx; exact p3 x c own
    ·refine p3 x c' ?_
     have hb : (x == n) = false := by simpa using hx
     rw [List.lookup_cons, hb]
     exact q
  ·obtain ⟨cl, e, p1, p2, p3⟩ := zbL r acc fun y hy => h y (List.mem_cons_of_mem _ hy)
   refine ⟨cl, ?_, p1, fun y hy hf => ?_, p3⟩
   ·rw [List.forIn_cons]
    have hb : (k == NameKind.free) = false := by cases k <;> first | rfl | exact absurd rfl hk
    refine Eq.trans ?_ e
    dsimp only
    rw [hb, if_neg (by decide)]
    rfl
   ·rcases List.mem_cons.mp hy with z | z
    ·subst z; exact absurd hf hk
    ·exact p2 y z hf
theorem zej {scope : Scope} {env : Env} (h : ∀ y ∈ scope.names, y.2 = .free -> ∃ c, env.cells.lookup y.1 = some c) :
  ∃ cl, closureFor scope env = pure cl /\ (∀ x c, cl.lookup x = some c -> env.cells.lookup x = some c) /\ ∀ y ∈ scope.names, y.2 = .free -> ∃ c, cl.lookup y.1 = some c := by
 obtain ⟨cl, e, p1, p2, _⟩ := zbL scope.names [] h
 refine ⟨cl, ?_, fun x c q => (p1 x c q).elim (fun z => by cases z) id, p2⟩
 have e2 : ((forIn scope.names [] (fun x r => if (x.2 == NameKind.free) = true then (do let a ← cellOf env x.1; pure (ForInStep.yield ((x.1, a) :: r))) else pure (ForInStep.yield r)) : Sem (List (Str × Addr))) >>= fun s => pure s) = pure cl := by
  rw [e]; rfl
 exact e2
theorem zcc {env : Env} {x : Str} {k : NameKind} : ∀ {names : List (Str × NameKind)}, (names.map fun (n, k) => if (k == NameKind.free && env.scope.kind == .function && env.kindOf n == some .cell) then (n, NameKind.cell) else (n, k)).lookup x = some k ->
  names.lookup x = some k ∨ (names.lookup x = some .free /\ k = .cell)
 | [], h => by cases h
 | (n, j) :: r, h => by
  have ih := @zcc env x k r
  have h : List.lookup x ((if (j == NameKind.free && env.scope.kind == .function && env.kindOf n == some .cell) = true then (n, NameKind.cell) else (n, j)) :: _) = some k := h
  cases hx : x == n with
  | true =>
   by_cases hc : (j == NameKind.free && env.scope.kind == .function && env.kindOf n == some .cell) = true
   ·rw [if_pos hc] at h
    simp only [List.lookup_cons, hx] at h ⊢
    cases h
    simp only [Bool.and_eq_true] at hc
    have : j = .free := by have := hc.1.1; cases j <;> first | rfl | cases this
    subst this
    exact .inr ⟨rfl, rfl⟩
   ·rw [if_neg hc] at h
    simp only [List.lookup_cons, hx] at h ⊢
    exact .inl h
  | false =>
   by_cases hc : (j == NameKind.free && env.scope.kind == .function && env.kindOf n == some .cell) = true
   ·rw [if_pos hc] at h
    simp only [List.lookup_cons, hx] at h ⊢
    exact ih h
   ·rw [if_neg hc] at h
    simp only [List.lookup_cons, hx] at h ⊢
    exact ih h
theorem zbR {env : Env} {x : Str} : ∀ {names : List (Str × NameKind)}, names.lookup x = some .free ->
  (names.map fun (n, k) => if (k == NameKind.free && env.scope.kind == .function && env.kindOf n == some .cell) then (n, NameKind.cell) else (n, k)).lookup x = some .free ∨
  (names.map fun (n, k) => if (k == NameKind.free && env.scope.kind == .function && env.kindOf n == some .cell) then (n, NameKind.cell) else (n, k)).lookup x = some .cell
 | [], h => by cases h
 | (n, j) :: r, h => by
  have ih := @zbR env x r
  show List.lookup x ((if (j == NameKind.free && env.scope.kind == .function && env.kindOf n == some .cell) = true then (n, NameKind.cell) else (n, j)) :: _) = _ ∨ List.lookup x ((if (j == NameKind.free && env.scope.kind == .function && env.kindOf n == some .cell) = true then (n, NameKind.cell) else (n, j)) :: _) = _
  cases hx : x == n with
  | true =>
   simp only [List.lookup_cons, hx] at h
   cases h
   by_cases hc : (NameKind.free == NameKind.free && env.scope.kind == .function && env.kindOf n == some .cell) = true
   ·rw [if_pos hc]; simp [List.lookup_cons, hx]
   ·rw [if_neg hc]; simp [List.lookup_cons, hx]
  | false =>
   simp only [List.lookup_cons, hx] at h
   by_cases hc : (j == NameKind.free && env.scope.kind == .function && env.kindOf n == some .cell) = true
   ·rw [if_pos hc]; simp only [List.lookup_cons, hx]; exact ih h
   ·rw [if_neg hc]; simp only [List.lookup_cons, hx]; exact ih h
theorem zcq {env : Env} {x : Str} : ∀ {names : List (Str × NameKind)}, names.lookup x = some .globalImplicit ->
  (names.map fun (n, k) => if (k == NameKind.free && env.scope.kind == .function && env.kindOf n == some .cell) then (n, NameKind.cell) else (n, k)).lookup x = some .globalImplicit
 | [], h => by cases h
 | (n, j) :: r, h => by
  have ih := @zcq env x r
  show List.lookup x ((if (j == NameKind.free && env.scope.kind == .function && env.kindOf n == some .cell) = true then (n, NameKind.cell) else (n, j)) :: _) = _
  cases hx : x == n with
  | true =>
   simp only [List.lookup_cons, hx] at h
   cases h
   rw [if_neg (by simp)]
   simp [List.lookup_cons, hx]
  | false =>
   simp only [List.lookup_cons, hx] at h
   by_cases hc : (j == NameKind.free && env.scope.kind == .function && env.kindOf n == some .cell) = true
   ·rw [if_pos hc]; simp only [List.lookup_cons, hx]; exact ih h
   ·rw [if_neg hc]; simp only [List.lookup_cons, hx]; exact ih h
def Cx.blk (X : Cx) (N' : List Str) (scope : Scope) (cl : List (Str × Addr)) (C : Addr) (s₀ : Shared) (H₀ : Hp) (ex : List Addr) : Cx :=
 { X with N := N', s₀ := s₀, H₀ := H₀, env := compEnvC scope cl C X.env, outer := X.stack, ex := ex, fn := fun _ => false, xe := fun _ _ => False }
section
variable {X : Cx} {N' : List Str} {scope : Scope} {cl : List (Str × Addr)} {C : Addr} {s₀ : Shared} {H₀ : Hp} {ex : List Addr} {x : Str}
theorem zhX (h : scope.names.lookup x = some .local ∨ scope.names.lookup x = some .free) : Vis (X.blk N' scope cl C s₀ H₀ ex).env.scope x := by
 rcases h with h | h
 ·exact .inl (lookup_relabel_local h)
 ·rcases zbR (env := X.env) h with z | z
  ·exact .inr (.inr z)
  ·exact .inr (.inl z)
theorem zhY (h : scope.names.lookup x = some .local) : Loc (X.blk N' scope cl C s₀ H₀ ex).env.scope x := .inl (lookup_relabel_local h)
theorem zjE (h : scope.names.lookup x = some .local) : (X.blk N' scope cl C s₀ H₀ ex).env.scope.names.lookup x = some .local := lookup_relabel_local h
theorem zjF (h : scope.names.lookup x = some .globalImplicit) : Gl (X.blk N' scope cl C s₀ H₀ ex) x := zcq h
end
def zbE (names : List (Str × NameKind)) (N N2 : List Str) (k : Nat) : Bool :=
 N2.length == N.length + k && (List.range N2.length).all fun i => match N2[i]? with
  | none => true
  | some x => match names.lookup x with
   | some .free => N[i]? == some x
   | some .local => decide (N.length <= i) && decide (i < N.length + k)
   | some .cell => false
   | _ => true
theorem zc8 {names : List (Str × NameKind)} {N N2 : List Str} {k : Nat} (h : zbE names N N2 k = true) :
  N2.length = N.length + k /\ ∀ (i : Nat) x, N2[i]? = some x -> (names.lookup x = some .free -> N[i]? = some x) /\ (names.lookup x = some .local -> N.length <= i /\ i < N.length + k) := by
 unfold zbE at h
 simp only [Bool.and_eq_true, beq_iff_eq, List.all_eq_true, List.mem_range] at h
 refine ⟨h.1, fun i x e => ?_⟩
 have hi := (List.getElem?_eq_some_iff.mp e).1
 have := h.2 i hi
 rw [e] at this
 refine ⟨fun q => ?_, fun q => ?_⟩
 ·simp only [q] at this
  simpa using this
 ·simp only [q] at this
  simpa using this
end L2
namespace L2
open PySem PySem.Spec PyProof.Rows
theorem Inv.enter {X : Cx} {pins : List (Addr × Obj)} {σ : St} {H : Hp} {s3 : Shared} (I : Inv X pins σ H s3) {scope : Scope} {cl : List (Str × Addr)} {N2 : List Str} {k : Nat} {h' : Heap} {fp : List Addr} {t' : Nat} {m0 : Str -> Option Value}
  (hb : zbE scope.names X.N N2 k = true) (hkind : scope.kind = .function) (hcell : ∀ y ∈ scope.names, y.2 ≠ .cell)
  (hfree : ∀ y ∈ scope.names, y.2 = .free -> X.env.scope.names.lookup y.1 = some .cell ∨ X.env.scope.names.lookup y.1 = some .free)
  (cl1 : ∀ x c, cl.lookup x = some c -> X.env.cells.lookup x = some c) (cl2 : ∀ y ∈ scope.names, y.2 = .free -> ∃ c, cl.lookup y.1 = some c)
  (hn : h'.Ns s3.heap.objs.size m0) (hk : ∀ b o, s3.heap.get? b = some o -> h'.get? b = some o) (hf : ∀ b ∈ fp, FpOk X pins H b) (hfo : ∀ b ∈ fp, ∃ o, s3.heap.get? b = some o) :
  Inv (X.blk N2 scope cl s3.heap.objs.size s3 H fp) pins (σ ++ List.replicate k none) H { s3 with heap := h', toks := t' } := by
 obtain ⟨hl, hN⟩ := zc8 hb
 have lt : ∀ b o, s3.heap.get? b = some o -> b ≠ s3.heap.objs.size := fun b o e => Nat.ne_of_lt (Heap.lt_size e)
 have ofl : ∀ x, scope.names.lookup x = some .free -> (x, NameKind.free) ∈ scope.names := fun x h => mem_of_lookup h
 have kinv : ∀ x kk, (X.blk N2 scope cl s3.heap.objs.size s3 H fp).env.scope.names.lookup x = some kk -> scope.names.lookup x = some kk ∨ (scope.names.lookup x = some .free /\ kk = .cell) := fun x kk h => zcc (env := X.env) h
 have isfree : ∀ x, (X.blk N2 scope cl s3.heap.objs.size s3 H fp).env.scope.names.lookup x = some .cell ∨ (X.blk N2 scope cl s3.heap.objs.size s3 H fp).env.scope.names.lookup x = some .free -> scope.names.lookup x = some .free := fun x h => by
  rcases h with h | h
  ·rcases kinv x _ h with z | z
   ·exact absurd rfl (hcell _ (mem_of_lookup z))
   ·exact z.1
  ·rcases kinv x _ h with z | z
   ·exact z
   ·exact z.1
 have ok : (X.blk N2 scope cl s3.heap.objs.size s3 H fp).Ok :=
  {
   mod := I.ok.mod
   kind := hkind
   glob := I.ok.glob
   blt := I.ok.blt
   above := Nat.le_refl _
   inj := fun x y c a b => I.ok.inj x y c (cl1 x c a) (cl1 y c b)
   has := fun x h => cl2 (x, .free) (ofl x (isfree x h)) rfl
   cab := fun x c h => by cases h
   hd := I.ok.hd
   frames := I.ok.frames
   stk := .inl rfl
   exf := fun b hb => ⟨let ⟨o, e⟩ := hfo b hb; lt b o e, fun x c e => (hf b hb).2.2.2.2.1 x c (cl1 x c e)⟩
   bs := I.bs
   bsz := Nat.le_trans I.ok.bsz I.sz
   noex := fun b o e hb => by
    rcases (hf b hb).2.2.2.1 with z | z
    ·exact I.ok.noex b o e z
    ·exact absurd (Nat.lt_of_lt_of_le (Heap.lt_size e) (Nat.le_trans I.ok.bsz z)) (Nat.lt_irrefl _)
   exfs := fun b hb hx => by
    rcases List.mem_cons.mp (I.stkSub b hx) with z | z
    ·exact (hf b hb).2.1 z
    ·exact (hf b hb).2.2.1 z
   funs := I.stack
   frf := I.stkFree }
 refine ⟨ok, rfl, I.bare, Un.kept hk, ⟨m0, hn, fun i x v e1 e2 e3 => ?_⟩, fun x c e => ?_, I.hok.fresh (Nat.le_refl _), fun x c e => I.freeC x c (cl1 x c e), fun p hp => ?_, I.hok.kept hk, ?_⟩
 ·have nl : scope.names.lookup x ≠ some .local := fun z => by
   obtain ⟨g1, g2⟩ := (hN i x e1).2 z
   rw [← I.len] at g1 g2
   rw [List.getElem?_append_right g1, List.getElem?_replicate] at e2
   split at e2 <;> cases e2
  have fr : scope.names.lookup x = some .free := by
   rcases e3 with z | z | z
   ·rcases kinv x _ z with q | q
    ·exact absurd q nl
    ·cases q.2
   ·exact isfree x (.inl z)
   ·exact isfree x (.inr z)
  have eN := (hN i x e1).1 fr
  have hi : i < σ.length := by rw [I.len]; exact (List.getElem?_eq_some_iff.mp eN).1
  rw [List.getElem?_append_left hi] at e2
  obtain ⟨m, hm, hlk⟩ := I.loc
  have hkd := hfree _ (ofl x fr) rfl
  obtain ⟨u, r, l⟩ := hlk i x v eN e2 (.inr hkd)
  refine ⟨u, r, .inr ⟨?_, ?_⟩⟩
  ·rcases e3 with z | z | z
   ·rcases kinv x _ z with q | q
    ·exact absurd q nl
    ·cases q.2
   ·exact .inl z
   ·exact .inr z
  ·rcases l with l | ⟨_, c, ec, z⟩
   ·have : X.env.scope.names.lookup x = some .local := l.1
    rcases hkd with q | q <;> (dsimp only at q; rw [this] at q; cases q)
   ·obtain ⟨c', ec'⟩ := cl2 _ (ofl x fr) rfl
    have := cl1 _ _ ec'
    dsimp only at this ec'
    rw [ec] at this
    cases this
    obtain ⟨o, ho, hd⟩ := z
    exact ⟨c, ec', o, hk c o ho, hd⟩
 ·obtain ⟨v, o, ho, hd⟩ := I.cell x c (cl1 x c e)
  exact ⟨v, o, hk c o ho, hd⟩
 ·obtain ⟨e, n, ne, nf, d⟩ := I.pin p hp
  refine ⟨hk _ _ e, n, lt _ _ e, fun z => ?_, d⟩
  rcases List.mem_cons.mp (I.stkSub _ z) with q | q
  ·exact ne q
  ·exact nf q
 ·rw [List.length_append, List.length_replicate, I.len]
  exact hl.symm
section
variable {prog : Program} {w : World} {A : Around} {R : Result -> Shared -> Prop} {s : Shared}
end
end L2
namespace L2
open PySem PySem.Spec PyProof.Rows
abbrev nox : Value -> Shared -> Prop := fun _ _ => False
def zcE (prog : Program) (w : World) (A : Around) (tg : Expr) (ifs : List Expr) (env : Env) (it : Value) (code : Code) (W : (Shared -> Prop) -> Shared -> Prop) : Prop :=
 ∀ (R : Result -> Shared -> Prop) (I : Nat -> Shared -> Prop) (n : Nat) (s : Shared), I n s ->
  (∀ n s, I n s -> wpAny (model prog w) A (pyNext it) (fun r s₁ => match r with
   | none => R (.ok .next) s₁
   | some v => wpAny (model prog w) A (letOwnedTupleGo tg it v) (fun _ s₁' => wpAny (model prog w) A (assign tg env v) (fun _ s₂ =>
     wpAny (model prog w) A (forIn ifs true fun c r => if r = true then do let ok ← isTrue c env (eval c env); pure (ForInStep.yield ok) else pure (ForInStep.yield r)) (fun ok s₃ =>
      if ok = true then W (fun s₅ => ∃ m, m < n /\ I m s₅) s₃ else ∃ m, m < n /\ I m s₃) nox s₂) nox s₁') nox s₁) nox s) -> codeAny (model prog w) A code R s
section
variable {prog : Program} {w : World} {A : Around} {elt tg i : Expr} {ifs : List Expr} {gens : List Comprehension} {scope : Scope} {pos : Pos} {it acc : Value} {env : Env} {j : Nat}
theorem ze3 (hg : gens[j]? = some ⟨tg, i, ifs, 0⟩) (hn : gens[j + 1]? = none) : zcE prog w A tg ifs env it (.compLoop (.ListComp elt gens scope pos) j it acc env)
  (fun Q s => wpAny (model prog w) A (eval elt env) (fun x s₄ => wpAny (model prog w) A (call (.builtin "list.append") [acc, x]) (fun _ s₅ => Q s₅) nox s₄) nox s) := by
 intro R I n s h turn
 refine codeAny_loop rfl I (fun n s hI => ?_) n h
 show wpAny _ A ((compTurn (.ListComp elt gens scope pos) j it acc env).onRaise (fun x => do noteFrame x env; theTreesLotGoes x)) _ _ s
 refine wpAny_noted ?_
 unfold compTurn
 dsimp only
 simp only [hg, hn]
 refine wpAny_bind (wpAny_standAt (wpAny_bind (wpAny_mono (turn n s hI) (fun r s₁ h₁ => ?_) fun _ _ h' => h'.elim)))
 cases r with
 | none => exact wpAny_pure h₁
 | some v =>
  refine wpAny_bind (wpAny_mono h₁ (fun _ s₁' h₁' => ?_) fun _ _ h' => h'.elim)
  refine wpAny_bind (wpAny_mono h₁' (fun _ s₂ h₂ => wpAny_bind (wpAny_mono h₂ (fun ok s₃ h₃ => ?_) fun _ _ h' => h'.elim)) fun _ _ h' => h'.elim)
  cases ok with
  | false => exact wpAny_pure ⟨rfl, h₃⟩
  | true => exact wpAny_bind (wpAny_bind (wpAny_mono h₃ (fun x s₄ h₄ => wpAny_bind (wpAny_mono h₄ (fun _ s₅ h₅ => wpAny_pure (wpAny_pure ⟨rfl, h₅⟩)) fun _ _ h' => h'.elim)) fun _ _ h' => h'.elim))
end
end L2
namespace DL
open PySem PySem.Spec L2
open PyProof.Rows hiding St
def zkG : Option Sl -> Option Sl
 | some (.own _) => none
 | x => x
def zaW (ρ : DEnv) : DEnv := ρ.map zkG
theorem ze4 {ρ : DEnv} {i : Nat} {d : D} (h : (zaW ρ)[i]? = some (some (.pub d))) : ρ[i]? = some (some (.pub d)) := by
 unfold zaW at h
 rw [List.getElem?_map] at h
 cases e : ρ[i]? with
 | none => rw [e] at h; cases h
 | some o =>
  rw [e] at h
  cases o with
  | none => cases h
  | some sl => cases sl with
   | pub d' => cases h; rfl
   | own ds => cases h
theorem zbc {ρ : DEnv} {i : Nat} {ds : List D} (h : (zaW ρ)[i]? = some (some (.own ds))) : False := by
 unfold zaW at h
 rw [List.getElem?_map] at h
 cases e : ρ[i]? with
 | none => rw [e] at h; cases h
 | some o =>
  rw [e] at h
  cases o with
  | none => cases h
  | some sl => cases sl with
   | pub d' => cases h
   | own ds => cases h
def zbX (s : D -> DEnv -> Option DEnv) (t : M Bool) (g : M D) : List D -> DEnv -> List D -> Option (List D)
 | [], _, es => some es
 | d :: r, ρ, es => match s d ρ with
  | none => none
  | some ρ1 => match t ρ1 with
   | .bad => none
   | .ok b ρ2 => if b = true then (match g ρ2 with
     | .bad => none
     | .ok e ρ3 => if es.length < 1000000 then zbX s t g r (zaW ρ3) (es ++ [e]) else none)
    else zbX s t g r (zaW ρ2) es
def ze5 (f : M (List D)) (k : Nat) (s : D -> DEnv -> Option DEnv) (t : M Bool) (g : M D) : M (List D) := fun ρ => match f ρ with
 | .bad => .bad
 | .ok ds ρ1 => match zbX s t g ds (zaW ρ1 ++ List.replicate k none) [] with
  | none => .bad
  | some es => .ok es ρ1
def PIfs (X : Cx) (ifs : List Expr) (t : TT) : Prop :=
 ∀ (pins : List (Addr × Obj)) (s : Shared) (σ : St) (H : Hp) (Q : Bool -> Hp -> Prop), Inv X pins σ H s -> t σ H Q ->
  wpAny (model X.prog X.w) X.A (forIn ifs true fun c r => if r = true then do let ok ← isTrue c X.env (eval c X.env); pure (ForInStep.yield ok) else pure (ForInStep.yield r)) (TP X pins σ Q) X.xe s
section
variable {X : Cx} {B G0 : Hp}
theorem zhZ : PIfs X [] (tBo X.K B G0 (zad true)) := fun pins s σ H Q I ⟨G, ρ, k, a⟩ => wpAny_tests_nil ⟨H, I, a true G H k (.refl _) rfl⟩
theorem EOk.rebase {K : PySem.W.Frag} {G H : Hp} {σ : St} {ρ : DEnv} (k : EOk K B G0 G H σ ρ) : EOk K H G G H σ (zaW ρ) where
 bh := .refl _
 gh := k.gh
 g0 := .refl _
 np := fun _ _ _ n => n
 len := by unfold zaW; rw [List.length_map]; exact k.len
 pub := fun i d q => k.pub i d (ze4 q)
 own := fun i ds q => (zbc q).elim
 sep := fun i j a ds es q => (zbc q).elim
theorem EOk.more {K : PySem.W.Frag} {G H : Hp} {σ : St} {ρ : DEnv} (k : EOk K H G G H σ (zaW ρ)) (n : Nat) : EOk K H G G H (σ ++ List.replicate n none) (zaW ρ ++ List.replicate n none) where
 bh := .refl _
 gh := k.gh
 g0 := .refl _
 np := fun _ _ _ n => n
 len := by rw [List.length_append, List.length_append, k.len, List.length_replicate, List.length_replicate]
 pub := fun i d q => by
  by_cases hi : i < (zaW ρ).length
  ·rw [List.getElem?_append_left hi] at q
   rw [List.getElem?_append_left (by rw [← k.len]; exact hi)]
   exact k.pub i d q
  ·rw [List.getElem?_append_right (Nat.le_of_not_lt hi), List.getElem?_replicate] at q
   split at q <;> cases q
 own := fun i ds q => by
  by_cases hi : i < (zaW ρ).length
  ·rw [List.getElem?_append_left hi] at q
   exact (zbc q).elim
  ·rw [List.getElem?_append_right (Nat.le_of_not_lt hi), List.getElem?_replicate] at q
   split at q <;> cases q
 sep := fun i j a ds es q => by
  by_cases hi : i < (zaW ρ).length
  ·rw [List.getElem?_append_left hi] at q
   exact (zbc q).elim
  ·rw [List.getElem?_append_right (Nat.le_of_not_lt hi), List.getElem?_replicate] at q
   split at q <;> cases q
theorem EOk.beside {K : PySem.W.Frag} {G H : Hp} {σ : St} {ρ : DEnv} {a : Addr} {o : HO} (k : EOk K B G0 G H σ ρ) (hg : G a = none) : EOk K (upd H a o) G G (upd H a o) σ (zaW ρ) where
 bh := .refl _
 gh := fun b u e => by rw [zak (fun z => by subst z; rw [hg] at e; cases e)]; exact k.gh b u e
 g0 := .refl _
 np := fun _ _ _ n => n
 len := k.rebase.len
 pub := k.rebase.pub
 own := fun i ds q => (zbc q).elim
 sep := fun i j a ds es q => (zbc q).elim
theorem lim1 : 1000000 <= sizeLine := lim
def zkH : Option Sl -> Option Sl
 | some (.own ds) => some (.pub (.list ds))
 | x => x
def zbY (ρ : DEnv) : DEnv := ρ.map zkH
theorem ze6 {ρ : DEnv} {i : Nat} {d : D} (h : (zbY ρ)[i]? = some (some (.pub d))) : ρ[i]? = some (some (.pub d)) ∨ ∃ ds, d = .list ds /\ ρ[i]? = some (some (.own ds)) := by
 unfold zbY at h
 rw [List.getElem?_map] at h
 cases e : ρ[i]? with
 | none => rw [e] at h; cases h
 | some o =>
  rw [e] at h
  cases o with
  | none => cases h
  | some sl => cases sl with
   | pub d' => cases h; exact .inl rfl
   | own ds => cases h; exact .inr ⟨ds, rfl, rfl⟩
theorem zc9 {ρ : DEnv} {i : Nat} {ds : List D} (h : (zbY ρ)[i]? = some (some (.own ds))) : False := by
 unfold zbY at h
 rw [List.getElem?_map] at h
 cases e : ρ[i]? with
 | none => rw [e] at h; cases h
 | some o =>
  rw [e] at h
  cases o with
  | none => cases h
  | some sl => cases sl with
   | pub d' => cases h
   | own ds => cases h
def flat : D -> Bool
 | .none => true | .bool _ => true | .int _ => true | .str _ => true | _ => false
theorem Rep.flat {K : PySem.W.Frag} {G G' : Hp} {v : V} {d : D} (r : Rep K G v d) (h : DL.flat d = true) : Rep K G' v d := by
 cases r with
 | non => exact .non
 | bl b => exact .bl b
 | int i => exact .int i
 | str x => exact .str x
 | lst _ _ => cases h
 | tup _ _ => cases h
 | dic _ => cases h
 | exc _ _ _ _ => cases h
 | dct _ _ _ _ _ => cases h
theorem Reps.flat {K : PySem.W.Frag} {G G' : Hp} : ∀ {vs : List V} {ds : List D}, Reps K G vs ds -> ds.all DL.flat = true -> Reps K G' vs ds
 | _, _, .nil, _ => .nil
 | _, _, .cons r t, h => by
  rw [List.all_cons, Bool.and_eq_true] at h
  exact .cons (r.flat h.1) (Reps.flat t h.2)
theorem EOk.lend {K : PySem.W.Frag} {B G0 G H : Hp} {σ : St} {ρ : DEnv} {D : Addr} {o : HO} (k : EOk K B G0 G H σ ρ) (hD : H D = none) (n : Nat) : EOk K (upd H D o) H H (upd H D o) (σ ++ List.replicate n none) (zbY ρ ++ List.replicate n none) where
 bh := .refl _
 gh := zau hD
 g0 := .refl _
 np := fun _ _ _ n => n
 len := by unfold zbY; rw [List.length_append, List.length_append, List.length_map, k.len, List.length_replicate, List.length_replicate]
 pub := fun i d q => by
  have hl : (zbY ρ).length = ρ.length := by unfold zbY; rw [List.length_map]
  by_cases hi : i < (zbY ρ).length
  ·rw [List.getElem?_append_left hi] at q
   rw [List.getElem?_append_left (by rw [← k.len, ← hl]; exact hi)]
   rcases ze6 q with e | ⟨ds, rfl, e⟩
   ·obtain ⟨v, h1, h2⟩ := k.pub i d e
    exact ⟨v, h1, h2.mono k.gh⟩
   ·obtain ⟨a, vs, h1, h2, h3, h4, h5⟩ := k.own i ds e
    exact ⟨.ref a, h1, .lst (SqL.of h4) (h5.mono k.gh)⟩
  ·rw [List.getElem?_append_right (Nat.le_of_not_lt hi), List.getElem?_replicate] at q
   split at q <;> cases q
 own := fun i ds q => by
  by_cases hi : i < (zbY ρ).length
  ·rw [List.getElem?_append_left hi] at q
   exact (zc9 q).elim
  ·rw [List.getElem?_append_right (Nat.le_of_not_lt hi), List.getElem?_replicate] at q
   split at q <;> cases q
 sep := fun i j a ds es q => by
  by_cases hi : i < (zbY ρ).length
  ·rw [List.getElem?_append_left hi] at q
   exact (zc9 q).elim
  ·rw [List.getElem?_append_right (Nat.le_of_not_lt hi), List.getElem?_replicate] at q
   split at q <;> cases q
end
abbrev RdB := DEnv -> List D -> Option (List D × DEnv)
def rL (g : M D) : RdB := fun ρ es => match g ρ with
 | .bad => none
 | .ok e ρ3 => if es.length < 1000000 then some (es ++ [e], zaW ρ3) else none
def cT (s : D -> DEnv -> Option DEnv) (t : M Bool) (rd : RdB) : List D -> DEnv -> List D -> Option (List D × DEnv)
 | [], ρ, es => some (es, ρ)
 | d :: r, ρ, es => match s d ρ with
  | none => none
  | some ρ1 => match t ρ1 with
   | .bad => none
   | .ok b ρ2 => if b = true then (match rd ρ2 es with
     | none => none
     | some (es', ρ') => cT s t rd r ρ' es')
    else cT s t rd r (zaW ρ2) es
structure Left (Y : Cx) (D' : Addr) (pins : List (Addr × Obj)) (H G : Hp) (es' : List D) (ρ' : DEnv) (σ' : St) (H' G' : Hp) (vs' : List V) (s' : Shared) : Prop where
 inv : Inv Y pins σ' H' s'
 eok : EOk Y.K H' G' G' H' σ' ρ'
 hh : ∀ a o, a ≠ D' -> H a = some o -> H' a = some o
 gg : Same G G'
 np : ∀ a (u : MO), a ≠ D' -> H a = some u.ho -> G a = none -> G' a = none
 hd : H' D' = some (.lst vs')
 gd : G' D' = none
 rp : Reps Y.K G' vs' es'
def zh0 (Y : Cx) (D' : Addr) (W : (Shared -> Prop) -> Shared -> Prop) (rd : RdB) : Prop :=
 ∀ (pins : List (Addr × Obj)) (sh : Shared) (σ : St) (B1 G1 H G : Hp) (ρ ρ' : DEnv) (vs : List V) (es es' : List D) (Q : Shared -> Prop),
  Inv Y pins σ H sh -> EOk Y.K B1 G1 G H σ ρ -> B1 D' = some (.lst vs) -> G1 D' = none -> Reps Y.K G1 vs es -> rd ρ es = some (es', ρ') ->
  (∀ σ' H' G' vs' s', Left Y D' pins B1 G1 es' ρ' σ' H' G' vs' s' -> Q s') -> W Q sh
section
variable {Y : Cx} {D' : Addr}
theorem ze7 {elt : Expr} {g : M D} (hx : Y.xe = nox) (he : ∀ B1 G1, PE Y elt (tD Y.K B1 G1 g)) :
  zh0 Y D' (fun Q s => wpAny (model Y.prog Y.w) Y.A (eval elt Y.env) (fun x s₄ => wpAny (model Y.prog Y.w) Y.A (call (.builtin "list.append") [.ref D', x]) (fun _ s₅ => Q s₅) nox s₄) nox s) (rL g) := by
 intro pins sh σ B1 G1 H G ρ ρ' vs es es' Q I k hD gD r z fin
 unfold rL at z
 cases zg : g ρ with
 | bad => rw [zg] at z; cases z
 | ok e ρ4 =>
 rw [zg] at z
 dsimp only at z
 split at z
 ·rename_i hle
  cases z
  have h := he B1 G1 pins sh σ H (fun v H8 => ∃ G8, EOk Y.K B1 G1 G8 H8 σ ρ4 /\ Rep Y.K G8 v e) I ⟨G, ρ, k, by unfold aft; rw [zg]; exact fun v G8 H8 k8 _ q => ⟨G8, k8, q⟩⟩
  rw [hx] at h
  refine thn h fun ev s8 ⟨v, H8, I8, rv, G8, k8, r8⟩ => ?_
  have h2 := zcY pins s8 σ H8 (.ref D') [v] (.ref D') [ev] (fun _ H9 => H9 = upd H8 D' (.lst (vs ++ [v]))) I8 rfl (.cons rv .nil) ⟨D', vs, v, rfl, rfl, k8.bh _ _ hD, by have := lim1; rw [r.length]; omega, rfl⟩
  rw [hx] at h2
  refine thn h2 fun _ s9 ⟨_, H9, I9, _, e9⟩ => ?_
  subst e9
  have g8 := k8.np _ (.l _) hD gD
  exact fin σ _ G8 _ s9 ⟨I9, k8.beside g8, fun a o z q => by rw [zak z]; exact k8.bh a o q, k8.g0, fun a o _ q w => k8.np a o q w, zaj, g8, (r.mono k8.g0).append (.cons r8 .nil)⟩
 ·cases z
theorem zgl {tg : Expr} {ifs : List Expr} {code : Code} {W : (Shared -> Prop) -> Shared -> Prop} {s : D -> DEnv -> Option DEnv} {t : M Bool} {rd : RdB} {it : Addr} (hx : Y.xe = nox) (hc : Y.calm = true) (rule : zcE Y.prog Y.w Y.A tg ifs Y.env (.ref it) code W)
  (hg : ∀ B1 G1, PG Y tg (tG Y.K B1 G1 s)) (ht : ∀ B1 G1, PIfs Y ifs (tBo Y.K B1 G1 t)) (hb : zh0 Y D' W rd)
  {pins : List (Addr × Obj)} {sh : Shared} {σ : St} {H G : Hp} {ρ ρF : DEnv} {fp : List Addr} {tn : Nat -> Heap -> Prop} {J : It} {ds es esF : List D} {vs : List V} {R : Result -> Shared -> Prop}
  (I : Inv Y pins σ H sh) (T : Turn Y.prog Y.w Y.K tg J fp it tn) (st : tn 0 sh.heap) (hf : ∀ b ∈ fp, FpOk Y pins H b)
  (k : EOk Y.K H G G H σ ρ) (its : zcD Y.K J ds G) (hD : H D' = some (.lst vs)) (gD : G D' = none) (r : Reps Y.K G vs es) (zl : cT s t rd ds ρ es = some (esF, ρF))
  (hfin : ∀ σ' H' G' vs' s', Left Y D' pins H G esF ρF σ' H' G' vs' s' -> R (.ok .next) s') : codeAny (model Y.prog Y.w) Y.A code R sh := by
 have stat : ∀ {H' : Hp}, (∀ b ∈ fp, H' b = none) -> ∀ b ∈ fp, FpOk Y pins H' b := fun hn b hb => ⟨hn b hb, (hf b hb).2⟩
 refine rule R (fun n s' => ∃ i σ' H' G' ρ' vs' es', n = ds.length - i /\ tn i s'.heap /\ (∀ b ∈ fp, H' b = none) /\ Left Y D' pins H G es' ρ' σ' H' G' vs' s' /\ cT s t rd (ds.drop i) ρ' es' = some (esF, ρF)) ds.length sh
  ⟨0, σ, H, G, ρ, vs, es, rfl, st, fun b hb => (hf b hb).1, ⟨I, k, fun _ _ _ q => q, .refl _, fun _ _ _ _ n => n, hD, gD, r⟩, by rw [List.drop_zero]; exact zl⟩ ?_
 rintro n s' ⟨i, σ', H', G', ρ', vs', es', rfl, tn', fr', ⟨I', k', sh', sg', np', hD', gD', r'⟩, zc⟩
 by_cases hlt : i < ds.length
 ·rw [List.drop_eq_getElem_cons hlt, cT] at zc
  cases zs : s ds[i] ρ' with
  | none => rw [zs] at zc; cases zc
  | some ρ2 =>
  rw [zs] at zc
  dsimp only at zc
  cases zt : t ρ2 with
  | bad => rw [zt] at zc; cases zc
  | ok b ρ3 =>
  rw [zt] at zc
  dsimp only at zc
  refine thn (T.item Y rfl rfl rfl hc i pins s' σ' H' nox I' (stat fr') tn' (its.go i G' H' sg' k'.gh hlt)) fun rr s4 ⟨u, hr, h4⟩ => ?_
  subst hr
  refine thn h4 fun _ s5 ⟨x, H5, I5, r5, y5, st5, fr5⟩ => ?_
  obtain ⟨G5, e5, rx⟩ := its.yld i G' H' x H5 ds[i] sg' k'.gh (List.getElem?_eq_getElem hlt) y5
  have h6 := hg H' G' _ s5 σ' H5 x u (fun σ6 H6 => ∃ G6, EOk Y.K H' G' G6 H6 σ6 ρ2) (I5.pinned (stat fr5) (T.obj _ _ st5)) r5 ⟨G5, ρ', ds[i], ρ2, k'.ext e5, rx, zs, fun σ6 G6 H6 k6 _ => ⟨G6, k6⟩⟩
  rw [hx] at h6
  refine thn h6 fun _ s6 ⟨σ6, H6, I6, G6, k6⟩ => ?_
  have h7 := ht H' G' _ s6 σ6 H6 (fun c H7 => c = b /\ ∃ G7, EOk Y.K H' G' G7 H7 σ6 ρ3) I6 ⟨G6, ρ2, k6, by unfold aft; rw [zt]; exact fun c G7 H7 k7 _ q => ⟨q, G7, k7⟩⟩
  rw [hx] at h7
  refine thn h7 fun ok s7 ⟨H7, I7, hb7, G7, k7⟩ => ?_
  subst hb7
  have again : ∀ {H9 : Hp} {σ9 : St} {s9 : Shared}, Inv Y (pins ++ zcQ fp s5.heap) σ9 H9 s9 -> Inv Y pins σ9 H9 s9 /\ tn (i + 1) s9.heap /\ ∀ b ∈ fp, H9 b = none := fun {H9 σ9 s9} I9 => by
   refine ⟨I9.unpinned, T.keep _ _ _ st5 fun b hb o e => (I9.pin (b, o) (List.mem_append_right _ (List.mem_append_right _ (zbr hb e)))).1, fun b hb => ?_⟩
   obtain ⟨o, e, d⟩ := T.obj _ _ st5 b hb
   exact (I9.pin (b, o) (List.mem_append_right _ (List.mem_append_right _ (zbr hb e)))).2.1
  have lt : ds.length - (i + 1) < ds.length - i := Nat.sub_lt_sub_left hlt (Nat.lt_succ_self i)
  cases ok with
  | false =>
   rw [if_neg (by decide)] at zc ⊢
   obtain ⟨J1, J2, J3⟩ := again I7
   exact ⟨_, lt, i + 1, σ6, H7, G7, zaW ρ3, vs', es', rfl, J2, J3, ⟨J1, k7.rebase, fun a o z q => k7.bh a o (sh' a o z q), sg'.trans k7.g0, fun a o z q w => k7.np a o (sh' a _ z q) (np' a o z q w), k7.bh _ _ hD', k7.np _ (.l _) hD' gD', r'.mono k7.g0⟩, zc⟩
  | true =>
   rw [if_pos rfl] at zc ⊢
   cases ze : rd ρ3 es' with
   | none => rw [ze] at zc; cases zc
   | some pr =>
   obtain ⟨es1, ρ5⟩ := pr
   rw [ze] at zc
   refine hb _ s7 σ6 H' G' H7 G7 ρ3 ρ5 vs' es' es1 _ I7 k7 hD' gD' r' ze fun σ9 H9 G9 vs9 s9 L => ?_
   obtain ⟨J1, J2, J3⟩ := again L.inv
   exact ⟨_, lt, i + 1, σ9, H9, G9, ρ5, vs9, es1, rfl, J2, J3, ⟨J1, L.eok, fun a o z q => L.hh a o z (sh' a o z q), sg'.trans L.gg, fun a o z q w => L.np a o z (sh' a _ z q) (np' a o z q w), L.hd, L.gd, L.rp⟩, zc⟩
 ·rw [List.drop_eq_nil_of_le (Nat.le_of_not_lt hlt), cT] at zc
  cases zc
  refine thn (T.done Y rfl rfl rfl hc i pins s' σ' H' nox I' (stat fr') tn' (its.stop i G' H' sg' k'.gh (Nat.le_of_not_lt hlt))) fun rr s4 ⟨hr, I6⟩ => ?_
  subst hr
  exact hfin σ' H' G' vs' s4 ⟨I6, k', sh', sg', np', hD', gD', r'⟩
end
end DL
namespace DL
open PySem PySem.Spec L2
open PyProof.Rows hiding St
def zjG (Y : Cx) (e : Expr) (j : Nat) (tg : Expr) (ifs : List Expr) (rd : RdB) : Prop :=
 ∀ (D' : Addr) (it : Value), ∃ W, zcE Y.prog Y.w Y.A tg ifs Y.env it (.compLoop e j it (.ref D') Y.env) W /\ zh0 Y D' W rd
section
variable {Y : Cx} {elt tg i : Expr} {ifs : List Expr} {gens : List Comprehension} {scope : Scope} {pos : Pos} {j : Nat}
theorem ze8 {g : M D} (hx : Y.xe = nox) (hg : gens[j]? = some ⟨tg, i, ifs, 0⟩) (hn : gens[j + 1]? = none) (he : ∀ B1 G1, PE Y elt (tD Y.K B1 G1 g)) : zjG Y (.ListComp elt gens scope pos) j tg ifs (rL g) :=
 fun _ _ => ⟨_, ze3 hg hn, ze7 hx he⟩
end
def envB (l : Bool) (ρ : DEnv) : DEnv := match l with | true => zbY ρ | false => zaW ρ
theorem entry {K : PySem.W.Frag} {B G0 G1 H2 : Hp} {σ : St} {ρ1 : DEnv} {D : Addr} (l : Bool) (k1 : EOk K B G0 G1 H2 σ ρ1) (hfr : H2 D = none) (n : Nat) :
  ∃ Gb, EOk K (upd H2 D (.lst [])) Gb Gb (upd H2 D (.lst [])) (σ ++ List.replicate n none) (envB l ρ1 ++ List.replicate n none) /\ Same G1 Gb /\ Gb D = none /\
   ∀ (G' H' : Hp) vs es, (l = true -> es.all flat = true) -> Same Gb G' -> Same H2 H' -> Same G' H' -> (∀ a (u : MO), H2 a = some u.ho -> Gb a = none -> G' a = none) -> G' D = none -> Reps K G' vs es -> ∃ Gf, Ext G1 H2 Gf H' /\ Gf D = none /\ Reps K Gf vs es := by
 have gD : G1 D = none := k1.gh.free hfr
 cases l with
 | false => exact ⟨G1, (k1.beside gD).more n, .refl _, gD, fun G' H' vs es _ g h gh np d r => ⟨G', ⟨h, g, gh, np⟩, d, r⟩⟩
 | true => exact ⟨H2, k1.lend hfr n, k1.gh, hfr, fun G' H' vs es fl _ h _ _ _ r => ⟨G1, ⟨h, .refl _, k1.gh.trans h, fun _ _ _ n => n⟩, gD, r.flat (fl rfl)⟩⟩
def dCG (l : Bool) (f : M (List D)) (k : Nat) (s : D -> DEnv -> Option DEnv) (t : M Bool) (rd : RdB) : M (List D) := fun ρ => match f ρ with
 | .bad => .bad
 | .ok ds ρ1 => match cT s t rd ds (envB l ρ1 ++ List.replicate k none) [] with
  | none => .bad
  | some (es, _) => if l = true -> es.all flat = true then .ok es ρ1 else .bad
theorem zh1 {l : Bool} {f : M (List D)} {k : Nat} {s : D -> DEnv -> Option DEnv} {t : M Bool} {rd : RdB} {ρ ρ' : DEnv} {es : List D} (h : dCG l f k s t rd ρ = .ok es ρ') : ∃ ds ρF, f ρ = .ok ds ρ' /\ cT s t rd ds (envB l ρ' ++ List.replicate k none) [] = some (es, ρF) /\ (l = true -> es.all flat = true) := by
 unfold dCG at h
 cases zf : f ρ with
 | bad => rw [zf] at h; cases h
 | ok ds ρ1 =>
 rw [zf] at h
 dsimp only at h
 cases zl : cT s t rd ds (envB l ρ1 ++ List.replicate k none) [] with
 | none => rw [zl] at h; cases h
 | some pr =>
 obtain ⟨esF, ρF⟩ := pr
 rw [zl] at h
 dsimp only at h
 split at h
 ·rename_i hf
  cases h
  exact ⟨ds, ρF, rfl, zl, hf⟩
 ·cases h
section
variable {X : Cx} {B G0 : Hp} {KX : XW}
def PBlk (X : Cx) (N2 : List Str) (scope : Scope) (e tg : Expr) (ifs : List Expr) (s : D -> DEnv -> Option DEnv) (t : M Bool) (rd : RdB) : Prop :=
 ∀ (cl : List (Str × Addr)) (C : Addr) (s₀ : Shared) (H₀ : Hp) (ex : List Addr), (∀ B' G', PG (X.blk N2 scope cl C s₀ H₀ ex) tg (tG X.K B' G' s)) /\ (∀ B' G', PIfs (X.blk N2 scope cl C s₀ H₀ ex) ifs (tBo X.K B' G' t)) /\ zjG (X.blk N2 scope cl C s₀ H₀ ex) e 0 tg ifs rd
structure zgm (SC scope : Scope) (N1 N2 : List Str) (k : Nat) : Prop where
 b : zbE scope.names N1 N2 k = true
 kind : scope.kind = .function
 cell : ∀ y ∈ scope.names, y.2 ≠ .cell
 names : ∀ y ∈ scope.names, y.2 = .local -> scope.names.lookup y.1 = some .local
 free : ∀ y ∈ scope.names, y.2 = .free -> SC.names.lookup y.1 = some .cell ∨ SC.names.lookup y.1 = some .free
theorem zgn {l : Bool} {tg elt iter : Expr} {ifs : List Expr} {gs : List Comprehension} {scope : Scope} {pos pos' : Pos} {N2 : List Str} {k : Nat} {f : M (List D)} {s : D -> DEnv -> Option DEnv} {t : M Bool} {rd : RdB} {use : Option (Value -> Sem Unit)} {Qc : Value -> Shared -> Prop} (hc : X.calm = true)
  (hi : PI X tg iter (iD X.K B G0 f)) (hblk : PBlk X N2 scope (.ListComp elt (⟨tg, iter, ifs, 0⟩ :: gs) scope pos) tg ifs s t rd) (hb : zgm X.env.scope scope X.N N2 k) (hs : ∀ x, foldedSetIterable iter X.env x = pure x)
  {pins : List (Addr × Obj)} {s0 : Shared} {σ : St} {G H : Hp} {ρ ρ1 ρF : DEnv} {ds esF : List D} (I : Inv X pins σ H s0) (k0 : EOk X.K B G0 G H σ ρ) (zf : f ρ = .ok ds ρ1) (zl : cT s t rd ds (envB l ρ1 ++ List.replicate k none) [] = some (esF, ρF)) (hfl : l = true -> esF.all flat = true)
  (hfin : ∀ (C D : Addr) (vs : List V) (G' H' : Hp) (s4 : Shared) (m : Str -> Option Value), Inv X pins σ H' s4 -> s4.heap.Ns C m -> H' C = none -> C ≠ X.env.locals -> X.s₀.heap.objs.size <= C -> (∀ x c, X.env.cells.lookup x = some c -> c ≠ C) -> (∀ p ∈ X.pn ++ pins, p.1 ≠ C) ->
   EOk X.K B G0 G' H' σ ρ1 -> Same G G' -> NewL X.K B G' H' σ ρ1 D vs esF -> compPost (model X.prog X.w) X.A X.xe use Qc (.ref D) C (.ok .next) s4) :
  wpAny (model X.prog X.w) X.A (comprehension (.ListComp elt (⟨tg, iter, ifs, 0⟩ :: gs) scope pos) scope X.env pos' (newList []) false (eval iter X.env) use) Qc X.xe s0 := by
 obtain ⟨cl, hcl, cl1, cl2⟩ := zej (scope := scope) (env := X.env) fun y hy hf => I.ok.has y.1 (hb.free y hy hf)
 refine wpAny_comprehension_free (use := use) rfl hs hcl hb.kind hb.names (thn (hi pins s0 σ H (fun J H1 => ∃ G1, EOk X.K B G0 G1 H1 σ ρ1 /\ Same G G1 /\ zcD X.K J ds G1) I ⟨G, ρ, k0, by rw [zf]; exact fun J G1 H1 k1 s1 it => ⟨G1, k1, s1, it⟩⟩) fun v s1 h1 => thn h1 fun itv s2 h2 => ?_)
 obtain ⟨it, fp, tn, J, H2, rfl, I2, T, st2, f2, G1, k1, sg1, its⟩ := h2
 refine wpAny_newObj_type (wpAny_newFunctionEnv hb.cell (by intro y hy; simp at hy) (fun h₁ hns₁ hsb₁ => ?_) hb.kind)
 dsimp only at hns₁ hsb₁ ⊢
 have hfr : H2 s2.heap.objs.size = none := I2.hok.fresh (Nat.le_refl _)
 have I3 : Inv X pins σ (upd H2 s2.heap.objs.size (.lst [])) { s2 with heap := s2.heap.push { cls := .type "list", dict := none, data := .seq ([] : List Value).toArray } } :=
  I2.laid (t' := s2.toks) (fun b u e => Heap.get?_push_of_some _ e) (Nat.le_refl _) ⟨Nat.zero_le _, [], 0, .nil, Heap.get?_push_size _ rfl⟩
 generalize hP : s2.heap.push { cls := .type "list", dict := none, data := .seq ([] : List Value).toArray } = P at I3 hns₁ hsb₁ ⊢
 have old : ∀ b o, s2.heap.get? b = some o -> P.get? b = some o := fun b o e => hP ▸ Heap.get?_push_of_some _ e
 have kept : ∀ b o, P.get? b = some o -> h₁.get? b = some o := fun b o e => hsb₁.extBut b o (Nat.ne_of_lt (Heap.lt_size e)) (Heap.get?_push_of_some _ e)
 have fpo : ∀ b ∈ fp, ∃ o, s2.heap.get? b = some o := fun b hb => let ⟨o, e, _⟩ := T.obj _ _ st2 b hb; ⟨o, e⟩
 have fpD : ∀ b ∈ fp, b ≠ s2.heap.objs.size := fun b hb => let ⟨o, e⟩ := fpo b hb; Nat.ne_of_lt (Heap.lt_size e)
 have f3 : ∀ b ∈ fp, FpOk X pins (upd H2 s2.heap.objs.size (.lst [])) b := fun b hb => ⟨by rw [zak (fpD b hb)]; exact (f2 b hb).1, (f2 b hb).2⟩
 have I4 := I3.enter (scope := scope) (cl := cl) (N2 := N2) (k := k) (fp := fp) (t' := s2.toks + ([] : List (Str × Value)).length) hb.b hb.kind hb.cell hb.free cl1 cl2 hns₁ kept f3 (fun b hb => let ⟨o, e⟩ := fpo b hb; ⟨o, old b o e⟩)
 dsimp only at I4
 obtain ⟨Gb, kb, sgb, gbD, ex⟩ := entry l k1 hfr k
 have sH : Same H2 (upd H2 s2.heap.objs.size (.lst [])) := zau hfr
 have hD3 : upd H2 s2.heap.objs.size (.lst []) s2.heap.objs.size = some (.lst []) := zaj
 generalize upd H2 s2.heap.objs.size (.lst []) = H3 at I3 I4 f3 kb sH hD3
 generalize s2.heap.objs.size = D at *
 have tn0 : tn 0 h₁ := T.keep 0 _ _ st2 fun b hb o e => kept b o (old b o e)
 have stat : ∀ b ∈ fp, FpOk (X.blk N2 scope cl P.objs.size { s2 with heap := P } H3 fp) pins H3 b := fun b hb => by
  obtain ⟨z0, z1, z2, z3, z4, z5⟩ := f3 b hb
  obtain ⟨o, e⟩ := fpo b hb
  refine ⟨z0, Nat.ne_of_lt (Heap.lt_size (old b o e)), fun z => ?_, .inl hb, fun x c q => z4 x c (cl1 x c q), z5⟩
  rcases List.mem_cons.mp (I3.stkSub b z) with q | q
  ·exact z1 q
  ·exact z2 q
 have neD : ∀ a o, H2 a = some o -> a ≠ D := fun a o q z => by subst z; rw [hfr] at q; cases q
 obtain ⟨hg, ht, hcl'⟩ := hblk cl P.objs.size { s2 with heap := P } H3 fp
 obtain ⟨W, rule, body⟩ := hcl' D (.ref it)
 have loop := zgl (Y := X.blk N2 scope cl P.objs.size { s2 with heap := P } H3 fp) (D' := D) (R := compPost (model X.prog X.w) X.A X.xe use Qc (.ref D) P.objs.size) rfl hc rule hg ht body I4 T tn0 stat kb
  ⟨fun i G H s1 s2 hi => its.go i G H (sgb.trans s1) s2 hi, fun i G H s1 s2 hi => its.stop i G H (sgb.trans s1) s2 hi, fun i G H x H' d s1 s2 e y => its.yld i G H x H' d (sgb.trans s1) s2 e y⟩ hD3 gbD .nil zl fun σ' H' G' vs' s4 L => by
   obtain ⟨m, hm, _⟩ := id L.inv.loc
   have I7 : Inv X pins σ H' s4 := I3.call' (ch := fp) L.inv.os L.inv.base L.inv.hok L.inv.bare fun b hb => ⟨(f3 b hb).2.2.2.1, (f3 b hb).2.1, (f3 b hb).2.2.2.2.1, (f3 b hb).2.2.2.2.2⟩
   obtain ⟨Gf, eF, dF, rF⟩ := ex G' H' vs' esF hfl L.gg (fun a o q => L.hh a o (neD a o q) (sH a o q)) L.eok.gh (fun a o q z => L.np a o (neD a _ q) (sH a _ q) z) L.gd L.rp
   refine hfin P.objs.size D vs' Gf H' s4 m I7 hm L.inv.free (Nat.ne_of_gt I3.lt) I3.sz (fun x c e z => by obtain ⟨_, q⟩ := I3.cell x c e; exact absurd q.lt (by rw [z]; exact Nat.lt_irrefl _)) (fun p hp z => by have := Heap.lt_size (I3.pin p hp).1; exact absurd this (by rw [z]; exact Nat.lt_irrefl _))
    (k1.ext eF) (sg1.trans eF.g) ⟨k1.bh.free hfr, dF, L.hd, rF, fun j es' q z => ?_⟩
   obtain ⟨a', ws, h1', h2', h3', h4', h5'⟩ := k1.own j es' q
   rw [z] at h1'
   cases h1'
   rw [hfr] at h4'; cases h4'
 exact codeAny_compStart_list loop (T.self X.A 0 _ _ _ tn0 loop)
theorem zkI {l : Bool} {tg elt iter : Expr} {ifs : List Expr} {gs : List Comprehension} {scope : Scope} {pos : Pos} {N2 : List Str} {k : Nat} {f : M (List D)} {s : D -> DEnv -> Option DEnv} {t : M Bool} {rd : RdB} (hc : X.calm = true)
  (hi : PI X tg iter (iD X.K B G0 f)) (hblk : PBlk X N2 scope (.ListComp elt (⟨tg, iter, ifs, 0⟩ :: gs) scope pos) tg ifs s t rd) (hb : zgm X.env.scope scope X.N N2 k) (hs : ∀ x, foldedSetIterable iter X.env x = pure x := by intro _; rfl) :
  PE X (.ListComp elt (⟨tg, iter, ifs, 0⟩ :: gs) scope pos) (tL X.K B G0 (dCG l f k s t rd)) := by
 intro pins s0 σ H Q I ⟨G, ρ, k0, a⟩
 cases z : dCG l f k s t rd ρ with
 | bad => rw [z] at a; exact a.elim
 | ok es ρ1 =>
 rw [z] at a
 obtain ⟨ds, ρF, zf, zl, hfl⟩ := zh1 z
 rw [eval_ListComp]
 refine zgn hc hi hblk hb hs I k0 zf zl hfl fun C D vs G' H' s4 m I7 hm hC hL hz hcl hp k' s' n => ?_
 exact ⟨m, hm, fun h' sb => ⟨.ref D, H', I7.turned (t' := s4.toks) (it := C) (fun b o hb e => (sb.2 b hb).trans e) hC hL (.inr hz) hcl hp, rfl, a D vs G' H' k' s' n⟩⟩
theorem zkJ {K : PySem.W.Frag} {f f' : M (List D)} (h : ∀ ρ es ρ', f ρ = .ok es ρ' -> f' ρ = .ok es ρ') {σ : St} {H : Hp} {Q : VK} (q : tL K B G0 f σ H Q) : tL K B G0 f' σ H Q := by
 obtain ⟨G, ρ, k, a⟩ := q
 refine ⟨G, ρ, k, ?_⟩
 cases z : f ρ with
 | bad => rw [z] at a; exact a.elim
 | ok es ρ' => rw [z] at a; rw [h ρ es ρ' z]; exact a
end
theorem zcF {s : D -> DEnv -> Option DEnv} {t : M Bool} {g : M D} : ∀ {ds : List D} {ρ : DEnv} {es esF : List D}, zbX s t g ds ρ es = some esF -> ∃ ρF, cT s t (rL g) ds ρ es = some (esF, ρF)
 | [], ρ, es, esF, h => by rw [zbX] at h; cases h; exact ⟨ρ, rfl⟩
 | d :: r, ρ, es, esF, h => by
  rw [zbX] at h
  rw [cT]
  cases zs : s d ρ with
  | none => rw [zs] at h; cases h
  | some ρ1 =>
  rw [zs] at h
  dsimp only at h ⊢
  cases zt : t ρ1 with
  | bad => rw [zt] at h; cases h
  | ok b ρ2 =>
  rw [zt] at h
  dsimp only at h ⊢
  cases b with
  | false => exact zcF (ds := r) h
  | true =>
   rw [if_pos rfl] at h ⊢
   unfold rL
   cases zg : g ρ2 with
   | bad => rw [zg] at h; cases h
   | ok e ρ3 =>
   rw [zg] at h
   dsimp only at h ⊢
   split at h
   ·rename_i hl
    rw [if_pos hl]
    exact zcF (ds := r) h
   ·cases h
theorem zgo {f : M (List D)} {k : Nat} {s : D -> DEnv -> Option DEnv} {t : M Bool} {g : M D} (ρ : DEnv) (es : List D) (ρ' : DEnv) (h : ze5 f k s t g ρ = .ok es ρ') : dCG false f k s t (rL g) ρ = .ok es ρ' := by
 unfold ze5 at h
 unfold dCG
 cases zf : f ρ with
 | bad => rw [zf] at h; cases h
 | ok ds ρ1 =>
 rw [zf] at h
 dsimp only [envB] at h ⊢
 cases zl : zbX s t g ds (zaW ρ1 ++ List.replicate k none) [] with
 | none => rw [zl] at h; cases h
 | some esF =>
 rw [zl] at h
 cases h
 obtain ⟨ρF, e⟩ := zcF zl
 rw [e]
 exact if_pos fun z => by cases z
end DL
namespace DL
open PySem PySem.Spec L2
open PyProof.Rows hiding St
def zdP (q : Option NameKind -> Bool) (SC scope : Scope) (N1 N2 : List Str) (k : Nat) : Bool :=
 zbE scope.names N1 N2 k && decide (scope.kind = .function) && scope.names.all fun y => match y.2 with
  | .cell => false
  | .local => decide (scope.names.lookup y.1 = some .local)
  | .free => q (SC.names.lookup y.1)
  | _ => true
def zjH : Option NameKind -> Bool
 | some .cell => true | some .free => true | _ => false
theorem zek {q : Option NameKind -> Bool} {SC SC' scope : Scope} {N1 N2 : List Str} {k : Nat} (h : zdP q SC scope N1 N2 k = true) (f : ∀ x, q (SC.names.lookup x) = true -> SC'.names.lookup x = some .cell ∨ SC'.names.lookup x = some .free) : zgm SC' scope N1 N2 k := by
 unfold zdP at h
 rw [Bool.and_eq_true, Bool.and_eq_true, List.all_eq_true] at h
 obtain ⟨⟨h1, h2⟩, h3⟩ := h
 refine ⟨h1, of_decide_eq_true h2, fun y hy e => ?_, fun y hy e => ?_, fun y hy e => ?_⟩
 ·have := h3 y hy; rw [e] at this; cases this
 ·have := h3 y hy; rw [e] at this; exact of_decide_eq_true this
 ·have := h3 y hy; rw [e] at this; exact f _ this
theorem zh2 {SC scope : Scope} {N1 N2 : List Str} {k : Nat} (h : zdP zjH SC scope N1 N2 k = true) : zgm SC scope N1 N2 k := zek h fun x e => by
 cases z : SC.names.lookup x with
 | none => rw [z] at e; cases e
 | some y => rw [z] at e; cases y <;> first | exact .inl rfl | exact .inr rfl | cases e
section
variable {X : Cx} {B G0 : Hp} {KX : XW}
theorem zkK {l : Bool} {tg elt iter : Expr} {ifs : List Expr} {gs : List Comprehension} {scope : Scope} {pos : Pos} {f : M (List D)} {s : D -> DEnv -> Option DEnv} {t : M Bool} {rd : RdB} {F : M (List D)} (SC : Scope) (N1 N2 : List Str) (k : Nat) (le : ∀ ρ es ρ', F ρ = .ok es ρ' -> dCG l f k s t rd ρ = .ok es ρ') (hc : X.calm = true)
  (hi : PI X tg iter (iD X.K B G0 f)) (hblk : PBlk X N2 scope (.ListComp elt (⟨tg, iter, ifs, 0⟩ :: gs) scope pos) tg ifs s t rd) (h1 : X.env.scope = SC) (h2 : X.N = N1) (hb : zdP zjH SC scope N1 N2 k = true) (hs : ∀ x, foldedSetIterable iter X.env x = pure x := by intro _; rfl) :
  PE X (.ListComp elt (⟨tg, iter, ifs, 0⟩ :: gs) scope pos) (tL X.K B G0 F) :=
 peof (zkI hc hi hblk (by rw [h1, h2]; exact zh2 hb) hs) fun _ _ _ q => zkJ le q
end
end DL
namespace DL
open PySem PySem.Spec L2
open PyProof.Rows hiding St
section
variable {X : Cx} {B G0 : Hp} {e a b c tg : Expr} {pos : Pos} {es rest : List Expr}
theorem EOk.given {K : PySem.W.Frag} {G H : Hp} {σ : St} {ρ : DEnv} {a : Addr} {vs : List V} {ds : List D} (k : EOk K B G0 G H σ ρ) (n : NewL K B G H σ ρ a vs ds) : EOk K B G0 (upd G a (.lst vs)) H σ ρ where
 bh := k.bh
 gh := fun b u q => by
  by_cases z : b = a
  ·subst z; rw [zaj] at q; cases q; exact n.h
  ·rw [zak z] at q; exact k.gh b u q
 g0 := k.g0.trans (zau n.g)
 np := fun b o q z => by
  have zb : b ≠ a := fun z => by subst z; rw [n.b] at q; cases q
  rw [zak zb]; exact k.np b o q z
 len := k.len
 pub := fun i d q => let ⟨v, h1, h2⟩ := k.pub i d q; ⟨v, h1, h2.mono (zau n.g)⟩
 own := fun i ds q => by
  obtain ⟨b, ws, h1, h2, h3, h4, h5⟩ := k.own i ds q
  have zb : b ≠ a := fun z => by subst z; exact n.f i ds q h1
  exact ⟨b, ws, h1, h2, by rw [zak zb]; exact h3, h4, h5.mono (zau n.g)⟩
 sep := k.sep
theorem zh3 {f : M (List D)} (h : PE X e (tL X.K B G0 f)) : PE X e (tD X.K B G0 (mMap PyData.list f)) :=
 peof h fun σ H Q ⟨G, ρ, k, a⟩ => by
  refine ⟨G, ρ, k, ?_⟩
  unfold mMap zam at a
  cases z : f ρ with
  | bad => rw [z] at a; exact a.elim
  | ok ds ρ1 =>
   rw [z] at a
   intro ad vs G' H' k' s' n
   exact a (.ref ad) _ H' (k'.given n) (s'.trans (zau n.g)) (.lst (SqL.of zaj) (n.r.mono (zau n.g)))
theorem zgp (hc : X.calm = true) : zcl X (.builtin "all") (fun xs H Q => ∃ l, ∃ bs : List Bool, xs = [.ref l] /\ SqL X.K H l (bs.map V.bl) /\ Q (.bl (bs.all id)) H) := by
 intro pins s σ H xs us Q I rx h
 obtain ⟨l, bs, rfl, hq, q⟩ := h
 obtain ⟨u, rfl, ru⟩ := rx.one
 cases ru
 obtain ⟨its, rv, p, hz⟩ := I.list hq
 have hl := p.isList
 have hlt : l < s.heap.objs.size := by obtain ⟨_, e, _⟩ := id hl; exact Heap.lt_size e
 have key : ∀ (i : Nat) v, its.toArray[i]? = some v -> ∃ t, bs[i]? = some t /\ v = .bool t := fun i v e => by
  have e : its[i]? = some v := by simpa using e
  have hi : i < bs.length := by
   have := (List.getElem?_eq_some_iff.mp e).1
   have h2 := rv.length
   rw [List.length_map] at h2
   omega
  obtain ⟨u, e2, r2⟩ := rv.get (i := i) (x := .bl bs[i]) (by rw [List.getElem?_map, List.getElem?_eq_getElem hi]; rfl)
  rw [e] at e2
  cases e2
  exact ⟨bs[i], List.getElem?_eq_getElem hi, r2⟩
 refine call_all_walk (wpAny_pyIter_list hl ?_)
 refine ⟨s.heap.objs.size, [s.heap.objs.size, l], [s.heap.objs.size], its.toArray.size, _, _, fun i => (bs[i]?).getD true, rfl, Walks.list (A := X.A.in1) (I.ok.hd hc) _ l (Nat.ne_of_lt hlt) its.toArray,
  ⟨⟨_, Heap.get?_push_size _ rfl, rfl, rfl⟩, hl.push _⟩, fun i v s' Q' E' hP hQ => ?_, fun h' tk hk => ?_⟩
 ·obtain ⟨b, e, rfl⟩ := key i v hP
  simp only [e, Option.getD_some] at hQ
  exact wpAny_truthy_bool hQ
 ·have hn : its.toArray.size = bs.length := by have := rv.length; rw [List.length_map] at this; simp; omega
  have e : ((List.range its.toArray.size).all fun i => (bs[i]?).getD true) = bs.all id := by
   rw [hn, Bool.eq_iff_iff, List.all_eq_true, List.all_eq_true]
   constructor
   ·intro h b hb
    obtain ⟨i, hi, e⟩ := List.getElem_of_mem hb
    have := h i (List.mem_range.mpr hi)
    simp only [List.getElem?_eq_getElem hi, Option.getD_some, e] at this
    exact this
   ·intro h i hi
    have hi' := List.mem_range.mp hi
    simp only [List.getElem?_eq_getElem hi', Option.getD_some]
    exact h _ (List.getElem_mem hi')
  rw [e]
  exact ⟨.bl (bs.all id), H, I.kept (t' := tk) fun b x e => hk b x (fun hm => by rw [List.mem_singleton.mp hm] at e; exact Nat.lt_irrefl _ (Heap.lt_size e)) (Heap.get?_push_of_some _ e), rfl, q⟩
def zbq : List D -> Option (List Bool)
 | [] => some []
 | .bool b :: r => (zbq r).map (b :: ·)
 | _ => none
theorem zbS {K : PySem.W.Frag} {G : Hp} : ∀ {vs : List V} {ds : List D} {bs : List Bool}, Reps K G vs ds -> zbq ds = some bs -> vs = bs.map V.bl
 | _, _, bs, .nil, e => by cases e; rfl
 | _, _, bs, .cons (d := d) r t, e => by
  cases d with
  | bool b =>
   unfold zbq at e
   cases z : zbq _ with
   | none => rw [z] at e; cases e
   | some cs =>
    rw [z] at e
    cases e
    rw [r.bl_inv, zbS t z]; rfl
  | _ => cases e
def oAll : List D -> Option D
 | [.list ds] => (zbq ds).map fun bs => .bool (bs.all id)
 | _ => none
theorem zkL (hc : X.calm = true) : zc4 X (.builtin "all") oAll := by
 refine ⟨_, zgp hc, fun vs G H ds d Q s r e k => ?_⟩
 unfold oAll at e
 split at e
 ·rename_i ds
  cases z : zbq ds with
  | none => rw [z] at e; cases e
  | some bs =>
   rw [z] at e
   cases e
   obtain ⟨v, rfl, q⟩ := r.one_inv
   obtain ⟨l, ws, rfl, h1, r1⟩ := q.lst_inv
   have hw := zbS r1 z
   subst hw
   exact ⟨l, bs, rfl, s.seq h1, k _ G H (.refl s) (.bl _)⟩
 ·cases e
def Its (x : Str) : It := ⟨fun i _ => i < x.cps.size, fun i H v H' => H' = H /\ ∃ c, x.cps[i]? = some c /\ v = .str ⟨#[c]⟩, fun i _ => x.cps.size <= i⟩
theorem zgq {P : Program} {w : World} {K : PySem.W.Frag} {tg : Expr} (x : Str) (t : Tok) (it : Addr) : Turn P w K tg (Its x) [it] it (fun i h => h.IsStrIter it (strIterType x) x t i) where
 mem := by simp
 obj := fun i h st b hb => by
  have e : b = it := by simpa using hb
  subst e
  obtain ⟨o, e, c, d⟩ := st
  exact ⟨o, e, fun v z => by rw [d] at z; cases z⟩
 keep := fun i h h' st k => by
  obtain ⟨o, e, c, d⟩ := st
  exact ⟨o, k it (by simp) o e, c, d⟩
 item := by
  intro X hP hw hK hc i pins s σ H E I hf st hg
  subst hP hw hK
  obtain ⟨f0, f1, f2, f3, f4, f5⟩ := hf it (by simp)
  have hx : x.cps[i]? = some x.cps[i] := Array.getElem?_eq_getElem hg
  have fin : ∀ h' tk (T : String), strIterType x = T -> h'.IsStrIter it T x t (i + 1) -> Heap.SameBut it s.heap h' -> ["enumerate", "zip", "dict_itemiterator", "dict_reverseitemiterator", "odict_iterator", "itertools.zip_longest", "itertools.pairwise"].contains T = false ->
    ∃ u, some (Value.str ⟨#[x.cps[i]]⟩ s.toks) = some u /\ wpAny (model X.prog X.w) X.A (letOwnedTupleGo tg (.ref it) u) (fun _ s2 => ∃ v H', Inv X pins σ H' s2 /\ RelV v u /\ (Its x).yld i H v H' /\ s2.heap.IsStrIter it (strIterType x) x t (i + 1) /\ ∀ b ∈ [it], H' b = none) E { s with heap := h', toks := tk } := by
   intro h' tk T eT st' sb hn
   have I1 : Inv X pins σ H { s with heap := h', toks := tk } := I.turned (t' := tk) (fun b o hb e => (sb.2 b hb).trans e) f0 f1 f3 f4 f5
   obtain ⟨o, e, c, d⟩ := id st'
   refine ⟨_, rfl, zfO (s := { s with heap := h', toks := tk }) e c d hn ⟨.str ⟨#[x.cps[i]]⟩, H, I1, ⟨_, rfl⟩, ⟨rfl, _, hx, rfl⟩, by rw [eT]; exact st', fun b hb => (hf b hb).1⟩⟩
  cases ha : x.cps.all (· < 128) with
  | true =>
   have eT : strIterType x = "str_ascii_iterator" := by simp [strIterType, ha]
   rw [eT] at st
   exact wpAny_pyNext_ascii_item st hx fun h' st' sb => fin h' _ _ eT st' sb (by decide)
  | false =>
   have eT : strIterType x = "str_iterator" := by simp [strIterType, ha]
   rw [eT] at st
   exact wpAny_pyNext_wide_item st hx fun h' st' sb => fin h' _ _ eT st' sb (by decide)
 done := by
  intro X hP hw hK hc i pins s σ H E I hf st hg
  subst hP hw hK
  obtain ⟨f0, f1, f2, f3, f4, f5⟩ := hf it (by simp)
  have hx : x.cps[i]? = none := Array.getElem?_eq_none hg
  cases ha : x.cps.all (· < 128) with
  | true =>
   have eT : strIterType x = "str_ascii_iterator" := by simp [strIterType, ha]
   rw [eT] at st
   exact wpAny_pyNext_ascii_end (I.ok.hd hc) st hx fun h' eb => ⟨rfl, I.turned (t' := s.toks) (fun b o hb e => eb b o hb e) f0 f1 f3 f4 f5⟩
  | false =>
   have eT : strIterType x = "str_iterator" := by simp [strIterType, ha]
   rw [eT] at st
   exact wpAny_pyNext_wide_end (I.ok.hd hc) st hx fun h' eb => ⟨rfl, I.turned (t' := s.toks) (fun b o hb e => eb b o hb e) f0 f1 f3 f4 f5⟩
 self := fun A i s Q E st h => by
  cases ha : x.cps.all (· < 128) with
  | true =>
   have eT : strIterType x = "str_ascii_iterator" := by simp [strIterType, ha]
   rw [eT] at st
   exact wpAny_pyIter_striter_ascii st h
  | false =>
   have eT : strIterType x = "str_iterator" := by simp [strIterType, ha]
   rw [eT] at st
   exact wpAny_pyIter_striter_wide st h
def iAny (K : PySem.W.Frag) (tl : TE) : TI := fun σ H R => tl σ H fun x H1 => (∃ a, x = .ref a /\ (∃ xs, SqL K H1 a xs) /\ R (Itl K a) H1) ∨ (∃ a, x = .ref a /\ (∃ xs, SqT K H1 a xs) /\ R (Itt K a) H1) ∨ ∃ z, x = .str z /\ R (Its z) H1
theorem zjI {l : Expr} {tl : TE} (hl : PE X l tl) : PI X tg l (iAny X.K tl) := by
 intro pins s σ H R I h
 refine thn (hl pins s σ H _ I h) fun v s1 ⟨x, H1, I1, r1, q1⟩ => ?_
 have fpOk : ∀ b ∈ [s1.heap.objs.size], FpOk X pins H1 b := fun b hb => by
  have e : b = s1.heap.objs.size := by simpa using hb
  subst e
  exact I1.fpOk (Nat.le_refl _) (I1.hok.fresh (Nat.le_refl _))
 rcases q1 with ⟨a, e, ⟨xs, hq⟩, q⟩ | ⟨a, e, ⟨xs, hq⟩, q⟩ | ⟨z, e, q⟩
 ·subst e
  cases r1
  obtain ⟨its, rv, p, hz⟩ := I1.list hq
  refine wpAny_pyIter_list p.isList ?_
  exact ⟨s1.heap.objs.size, [s1.heap.objs.size], _, _, H1, rfl, I1.kept (t' := s1.toks) fun b o e => Heap.get?_push_of_some _ e, zey a _, ⟨_, Heap.get?_push_size _ rfl, rfl, rfl⟩, fpOk, q⟩
 ·subst e
  cases r1
  obtain ⟨its, rv, p, hz⟩ := I1.tuple hq
  refine wpAny_pyIter_tuple p ?_
  exact ⟨s1.heap.objs.size, [s1.heap.objs.size], _, _, H1, rfl, I1.kept (t' := s1.toks) fun b o e => Heap.get?_push_of_some _ e, zd5 a _, ⟨_, Heap.get?_push_size _ rfl, rfl, rfl⟩, fpOk, q⟩
 ·subst e
  obtain ⟨t, rfl⟩ := r1
  refine wpAny_pyIter_strU ?_
  exact ⟨s1.heap.objs.size, [s1.heap.objs.size], _, _, H1, rfl, I1.kept (t' := s1.toks) fun b o e => Heap.get?_push_of_some _ e, zgq z t _, ⟨_, Heap.get?_push_size _ rfl, rfl, rfl⟩, fpOk, q⟩
def zbu (z : Str) : List D := z.cps.toList.map fun c => .str ⟨#[c]⟩
def zcG : D -> Option (List D)
 | .list ds => some ds
 | .tuple ds => some ds
 | .str z => some (zbu z)
 | _ => none
theorem zdu {K : PySem.W.Frag} {G1 : Hp} {ad : Addr} {vs : List V} {ds : List D} (h : SqT K G1 ad vs) (r : Reps K G1 vs ds) : zcD K (Itt K ad) ds G1 where
 go := fun i G H s1 s2 hi => by
  have hi' : i < vs.length := by rw [r.length]; exact hi
  exact ⟨vs, vs[i], zb5 (s1.trans s2) h, List.getElem?_eq_getElem hi'⟩
 stop := fun i G H s1 s2 hi => ⟨vs, zb5 (s1.trans s2) h, by rw [r.length]; exact hi⟩
 yld := fun i G H x H' d s1 s2 e y => by
  obtain ⟨rfl, y⟩ := y
  obtain ⟨v, e1, r1⟩ := r.get e
  have := y vs (zb5 (s1.trans s2) h)
  rw [e1] at this
  cases this
  exact ⟨G, .refl s2, r1.mono s1⟩
theorem ze9 {K : PySem.W.Frag} {G1 : Hp} {z : Str} : zcD K (Its z) (zbu z) G1 where
 go := fun i G H s1 s2 hi => by unfold zbu at hi; simpa [Its] using hi
 stop := fun i G H s1 s2 hi => by unfold zbu at hi; simpa [Its] using hi
 yld := fun i G H x H' d s1 s2 e y => by
  obtain ⟨rfl, c, hc, rfl⟩ := y
  unfold zbu at e
  rw [List.getElem?_map] at e
  have : z.cps.toList[i]? = some c := by simpa using hc
  rw [this] at e
  cases e
  exact ⟨G, .refl s2, .str _⟩
def zcr (f : M D) : M (List D) := zam f fun x => mOpt (zcG x)
theorem zfa {f : M D} (h : PE X e (tD X.K B G0 f)) : PI X tg e (iD X.K B G0 (zcr f)) := piof (zjI h) fun σ H R q => tM.toI (R0 := Rep X.K) q fun v H' G' ρ' x k r a => by
 cases x with
 | list ds =>
  obtain ⟨ad, vs, rfl, h1, r1⟩ := r.lst_inv
  exact .inl ⟨ad, rfl, ⟨vs, k.gh.seq h1⟩, a _ G' H' k (.refl _) (zeg h1 r1)⟩
 | tuple ds =>
  obtain ⟨ad, vs, rfl, h1, r1⟩ := r.tup_inv
  exact .inr (.inl ⟨ad, rfl, ⟨vs, zb5 k.gh h1⟩, a _ G' H' k (.refl _) (zdu h1 r1)⟩)
 | str z =>
  have := r.str_inv
  subst this
  exact .inr (.inr ⟨z, rfl, a _ G' H' k (.refl _) ze9⟩)
 | _ => exact a.elim
def inS (i j : Str) : Bool := !(Builtin.Str.occurrences j i 0 j.length 1).isEmpty
def oInS : D -> D -> Option Bool
 | .str i, .str j => some (inS i j)
 | _, _ => none
theorem zkM : OpB X (compareOp .In) oInS := ⟨_, zeB, fun v u G H x y d Q s rx ry e k => by
 unfold oInS at e
 split at e
 ·cases e
  have := rx.str_inv; subst this
  have := ry.str_inv; subst this
  exact ⟨_, _, rfl, rfl, k⟩
 ·cases e⟩
theorem zkN {x : Str} {i : Int} (hg : Gl X x) (hm : ∃ t, X.mg x = some (.int i t)) (hd : (x == ("__debug__" : Str)) = false := by decide) : PE X (.Name x pos) (tD X.K B G0 (zad (.int i))) := by
 obtain ⟨t, hm⟩ := hm
 exact peof (zew (v := .int i) hg hm ⟨t, rfl⟩ hd) fun σ H Q ⟨G, ρ, k, a⟩ => aft.now a k (.int _)
theorem zkO {x : Str} {z : Str} (hg : Gl X x) (hm : ∃ t, X.mg x = some (.str z t)) (hd : (x == ("__debug__" : Str)) = false := by decide) : PE X (.Name x pos) (tD X.K B G0 (zad (.str z))) := by
 obtain ⟨t, hm⟩ := hm
 exact peof (zew (v := .str z) hg hm ⟨t, rfl⟩ hd) fun σ H Q ⟨G, ρ, k, a⟩ => aft.now a k (.str _)
end
end DL
namespace DL
open PySem PySem.Spec L2
open PyProof.Rows hiding St
section
variable {X : Cx} {B G0 : Hp} {KX : XW} {e o a b c tg i : Expr} {pos p2 : Pos} {es rest : List Expr} {te to ti : TE}
def cutS (z : Str) (lo hi : Option Int) : Str := if (Builtin.Str.strSliceIndices lo hi 1 z.length).length = z.length then z else ⟨((Builtin.Str.strSliceIndices lo hi 1 z.length).filterMap (z.cps[·]?)).toArray⟩
theorem zjJ : SlR X (fun x lo hi H Q => ∃ z, x = .str z /\ (cutS z lo hi).length <= sizeLine /\ Q (.str (cutS z lo hi)) H) := by
 intro pins s σ H x v vl vu lo hi sl Q I rx hs pl pu h
 obtain ⟨z, rfl, hz, q⟩ := h
 obtain ⟨t, rfl⟩ := rx
 refine ⟨"str", _, F.slot_str_getitem.lookup, typeIs_str s z t, ?_⟩
 obtain ⟨l, el, e1⟩ : ∃ l : Option (Int × Tok), vl = partValue l /\ l.map (·.1) = lo := by
  cases pl with
  | none => exact ⟨none, rfl, rfl⟩
  | int k t' => exact ⟨some (k, t'), rfl, rfl⟩
 obtain ⟨u, eu, e2⟩ : ∃ u : Option (Int × Tok), vu = partValue u /\ u.map (·.1) = hi := by
  cases pu with
  | none => exact ⟨none, rfl, rfl⟩
  | int k t' => exact ⟨some (k, t'), rfl, rfl⟩
 subst el eu
 refine wpAny_getItem_str_slice (l := l) (u := u) (st := none) hs rfl ?_
 unfold sliceMade slicePicked
 rw [e1, e2]
 unfold cutS at hz q
 by_cases hw : (Builtin.Str.strSliceIndices lo hi 1 z.length).length = z.length
 ·rw [if_pos hw] at hz q
  rw [if_pos (by simp [hw])]
  exact ⟨.str z, H, I, ⟨t, rfl⟩, q⟩
 ·rw [if_neg hw] at hz q
  rw [if_neg (by simp [hw])]
  exact ⟨hz, .str _, H, I.tok _, ⟨_, rfl⟩, q⟩
end
end DL
namespace DL
open PySem PySem.Spec L2
open PyProof.Rows hiding St
section
variable {X : Cx} {B G0 : Hp} {KX : XW} {e o a b c tg i : Expr} {pos p2 : Pos} {es rest : List Expr} {te to ti : TE}
theorem pvb (i : Nat) {x : Str} {pos : Pos} {N' : List Str} {scope : Scope} {cl : List (Str × Addr)} {C : Addr} {s₀ : Shared} {H₀ : Hp} {ex : List Addr} (hN : N'[i]? = some x := by rfl)
  (h : scope.names.lookup x = some .local ∨ scope.names.lookup x = some .free := by first | exact .inl rfl | exact .inr rfl) (hd : (x == ("__debug__" : Str)) = false := by decide) (hcd : (x == ("__classdict__" : Str)) = false := by decide) :
  PE (X.blk N' scope cl C s₀ H₀ ex) (.Name x pos) (tVar i) := zgT hN (zhX h) hd hcd
def oSlA : D -> Option Int -> Option Int -> Option D
 | .list xs, lo, hi => some (.list (DL.cutD xs lo hi))
 | .str z, lo, hi => if (cutS z lo hi).length <= 1000000 then some (.str (cutS z lo hi)) else none
 | _, _, _ => none
def dSlA (f : M D) (lo hi : M (Option Int)) : M D := zam f fun x => zam lo fun l => zam hi fun h => mOpt (oSlA x l h)
theorem zaB {lo hi : Option Expr} {f : M D} {l h : M (Option Int)} (he : PE X e (tD X.K B G0 f)) (hl : PO X lo (tOi X.K B G0 l)) (hu : PO X hi (tOi X.K B G0 h)) :
  PE X (.Subscript e (.Slice lo hi none p2) pos) (tD X.K B G0 (dSlA f l h)) :=
 peof (zfT (zht.or zjJ) he hl hu) fun σ H Q q => by
  refine tM.one (R := Rep X.K) q fun v H2 G ρ x k r a => ?_
  refine tM.nx (R := fun _ b c => b = c) k a fun l' H3 G3 ρ3 xl k3 s3 r3 a3 => ?_
  refine tM.nx (R := fun _ b c => b = c) k3 a3 fun h' H4 G4 ρ4 xh k4 s4 r4 a4 => ?_
  have r3 : l' = xl := r3
  have r4 : h' = xh := r4
  subst r3 r4
  unfold mOpt oSlA at a4
  cases x with
  | list xs =>
   obtain ⟨ad, vs, rfl, h1, r1⟩ := ((r.mono s3).mono s4).lst_inv
   exact .inl ⟨ad, vs, rfl, k4.gh.seq h1, fun p hp => aft.done a4 k4 (Ext.new k4.gh hp) (.lst (SqL.of zaj) ((r1.cut l' h').mono (zau (k4.gh.free hp))))⟩
  | str z =>
   dsimp only at a4
   have := r.str_inv; subst this
   by_cases hc : (cutS z l' h').length <= 1000000
   ·rw [if_pos hc] at a4
    exact .inr ⟨z, rfl, Nat.le_trans hc lim, aft.now a4 k4 (.str _)⟩
   ·rw [if_neg hc] at a4; exact a4.elim
  | _ => exact a4.elim
end
end DL
namespace DL
open PySem PySem.Spec L2
open PyProof.Rows hiding St
section
variable {X : Cx} {B G0 : Hp} {e o a b c tg : Expr} {pos p2 : Pos} {es rest : List Expr} {te to ti : TE}
def zaX {β : Type} (p : D -> D -> Option β) (i : Nat) (g : M D) : M β := fun ρ => match ρ[i]? with
 | some (some (.pub d)) => (zam g fun y => mOpt (p d y)) ρ
 | some (some (.own _)) => (zam g fun y => fun ρ' => match ρ'[i]? with | some (some (.own ds)) => mOpt (p (.list ds) y) ρ' | _ => .bad) ρ
 | _ => .bad
theorem zjK {K : PySem.W.Frag} {σ : St} {H : Hp} {p : D -> D -> Option Bool} {r : R2} {i : Nat} {g : M D} {Q : Bool -> Hp -> Prop} {QV : VK} (hq : ∀ t H3, Q t H3 -> QV (.bl t) H3) (hr : ∀ v u G H x y d Q, Same G H -> Rep K G v x -> Rep K G u y -> p x y = some d -> Q (.bl d) H -> r v u H Q)
  (q : tBo K B G0 (zaX p i g) σ H Q) : tVar i σ H fun x H1 => tD K B G0 g σ H1 fun y H2 => r x y H2 QV := by
 obtain ⟨G, ρ, k, a⟩ := q
 unfold zaX at a
 cases q : ρ[i]? with
 | none => rw [q] at a; exact a.elim
 | some o =>
  cases o with
  | none => rw [q] at a; exact a.elim
  | some sl =>
   cases sl with
   | pub d =>
    rw [q] at a
    obtain ⟨v, h1, h2⟩ := k.pub i d q
    refine ⟨v, h1, G, ρ, k, ?_⟩
    dsimp only [zam] at a
    cases z : g ρ with
    | bad => rw [z] at a; exact a.elim
    | ok y ρ1 =>
     rw [z] at a
     intro u G' H' k' s' r'
     obtain ⟨d', e', a'⟩ := aft.opt a
     exact hr v u G' H' d y d' _ k'.gh (h2.mono s') r' e' (hq _ _ (a' d' G' H' k' s' rfl))
   | own ds =>
    rw [q] at a
    obtain ⟨ad, vs, h1, h2, h3, h4, h5⟩ := k.own i ds q
    refine ⟨.ref ad, h1, G, ρ, k, ?_⟩
    dsimp only [zam] at a
    cases z : g ρ with
    | bad => rw [z] at a; exact a.elim
    | ok y ρ1 =>
     rw [z] at a
     dsimp only at a
     intro u G' H' k' s' r'
     cases q1 : ρ1[i]? with
     | none => rw [q1] at a; exact a.elim
     | some oo =>
      cases oo with
      | none => rw [q1] at a; exact a.elim
      | some sl1 =>
       cases sl1 with
       | pub d1 => rw [q1] at a; exact a.elim
       | own ds1 =>
        rw [q1] at a
        dsimp only at a
        obtain ⟨ad', ws, g1, g2, g3, g4, g5⟩ := k'.own i ds1 q1
        rw [h1] at g1
        cases g1
        obtain ⟨d', e', a'⟩ := aft.opt a
        have sg : Same G' (upd G' ad (.lst ws)) := zau g3
        have sh : Same (upd G' ad (.lst ws)) H' := fun b o q => by
         by_cases z : b = ad
         ·subst z; rw [zaj] at q; cases q; exact g4
         ·rw [zak z] at q; exact k'.gh b o q
        exact hr (.ref ad) u _ H' (.list ds1) y d' _ sh (.lst (SqL.of zaj) (g5.mono sg)) (r'.mono sg) e' (hq _ _ (a' d' G' H' k' s' rfl))
theorem zaN {op : CmpOp} {p : D -> D -> Option Bool} {i : Nat} {g : M D} (o : OpB X (compareOp op) p) (ha : PE X a (tVar i)) (hb : PE X b (tD X.K B G0 g)) (hm : behindInMarks op b = false) :
  PT X (.Compare a [op] [b] pos) (tBo X.K B G0 (zaX p i g)) := by
 obtain ⟨r, h, j⟩ := o
 exact ptof (zeD h ha hb hm) fun σ H Q q => zjK (fun t H3 z => ⟨t, rfl, z⟩) j q
theorem zcH {op : CmpOp} {p : D -> D -> Option Bool} {i : Nat} {g : M D} (o : OpB X (compareOp op) p) (ha : PE X a (tVar i)) (hb : PE X b (tD X.K B G0 g)) (hm : behindInMarks op b = false) :
  PE X (.Compare a [op] [b] pos) (tD X.K B G0 (mMap PyData.bool (zaX p i g))) := by
 obtain ⟨r, h, j⟩ := o
 exact peof (zeC h ha hb hm) fun σ H Q q => zjK (fun t H3 z => z) j (tBo.val q)
end
end DL
namespace L2
open PySem PySem.Spec PyProof.Rows
section
variable {X : Cx}
end
end L2
namespace DL
open PySem PySem.Spec L2
open PyProof.Rows hiding St
section
variable {X : Cx} {B G0 : Hp} {e a b c tg : Expr} {pos : Pos} {es rest : List Expr}
end
end DL
namespace DL
open PySem PySem.Spec L2
open PyProof.Rows hiding St
section
variable {X : Cx} {B G0 : Hp} {e o a b c tg : Expr} {pos p2 p3 : Pos} {es rest : List Expr} {te to ti : TE}
def oIn : D -> D -> Option Bool
 | .str i, .str j => some (inS i j)
 | x, .list xs => if x.canLay0 = true /\ PyData.canLayAll0 xs = true /\ x.depth <= 60 then some (xs.any fun y => PyData.eqv y x) else none
 | x, .tuple xs => if x.canLay0 = true /\ PyData.canLayAll0 xs = true /\ x.depth <= 60 then some (xs.any fun y => PyData.eqv y x) else none
 | _, _ => none
def oInQ (x y : D) : Option Bool := match y with
 | .list xs => if x.canLay0 = true /\ PyData.canLayAll0 xs = true /\ x.depth <= 60 then some (xs.any fun y => PyData.eqv y x) else none
 | .tuple xs => if x.canLay0 = true /\ PyData.canLayAll0 xs = true /\ x.depth <= 60 then some (xs.any fun y => PyData.eqv y x) else none
 | _ => none
theorem zkP (hu : X.A.units + 64 < cLine) : OpB X (compareOp .In) oInQ := by
 refine ⟨fun v u H Q => ∃ G x y d, Same G H /\ Rep X.K G v x /\ Rep X.K G u y /\ oInQ x y = some d /\ Q (.bl d) H, ?_, fun v u G H x y d Q s rx ry e k => ⟨G, x, y, d, s, rx, ry, e, k⟩⟩
 intro pins s σ H x y v u Q I rx ry ⟨G, dx, dy, d, sg, px, py, e, q⟩
 unfold oInQ at e
 split at e
 ·split at e
  ·rename_i c
   cases e
   obtain ⟨as, ra⟩ := zaT I sg px rx c.1
   obtain ⟨bs, rb⟩ := zaT I sg py ry (show PyData.canLayAll0 _ = true from c.2.1)
   exact SeqAt.in_list_reads rb ra c.2.1 c.1 (by have := c.2.2; omega) ⟨.bl _, H, I, rfl, q⟩
  ·cases e
 ·split at e
  ·rename_i c
   cases e
   obtain ⟨as, ra⟩ := zaT I sg px rx c.1
   obtain ⟨bs, rb⟩ := zaT I sg py ry (show PyData.canLayAll0 _ = true from c.2.1)
   exact SeqAt.in_tuple_reads rb ra c.2.1 c.1 (by have := c.2.2; omega) ⟨.bl _, H, I, rfl, q⟩
  ·cases e
 ·cases e
theorem B_in (hu : X.A.units + 64 < cLine) : OpB X (compareOp .In) oIn := (zkM.or (zkP hu)).congr fun x y => by
 cases x <;> cases y <;> rfl
def zkQ (K : PySem.W.Frag) (n : Nat) (t : TGs) : TG := fun v σ H Q => ∃ a xs, v = .ref a /\ SqL K H a xs /\ xs.length = n /\ t xs σ H Q
theorem zh4 {es : List Expr} {k : Nat} {t : TGs} {n : Nat} (hc : X.calm = true) (h : PGs X es t)
  (hn : (assignEach es X.env).length = n := by rfl) (hst : (assignEach es X.env).findIdx? (·.1) = none := by rfl) : PG X (.Tuple es k pos) (zkQ X.K n t) := by
 intro pins s σ H v u Q I r hw
 obtain ⟨a, xs, e1, hq, hl, hw⟩ := hw
 subst e1
 cases r
 obtain ⟨its, rv, ht, hz⟩ := I.list hq
 rw [assign_Tuple]
 refine wpAny_bind (wpAny_standAt ?_)
 unfold unpack
 have hl2 : (assignEach es X.env).length = its.toArray.size := by simp [hn, ← hl, rv.length]
 rw [hl2, hst]
 refine wpAny_bind (wpAny_holding (PySem.W.kun_itemsOf (I.ok.hd hc) ht.isList fun h' hx => ?_))
 have I1 : Inv X pins σ H { s with heap := h' } := I.kept (t' := s.toks) fun b o e => hx b o (Nat.ne_of_lt (Heap.lt_size e)) e
 exact h pins _ σ H xs _ Q I1 (by simpa using rv) hw
def gL (n : Nat) (t : List D -> DEnv -> Option DEnv) : D -> DEnv -> Option DEnv := fun d ρ => match d with | .list ds => if ds.length = n then t ds ρ else none | _ => none
theorem zjL {k1 : Nat} {t : List D -> DEnv -> Option DEnv} {n : Nat} (hc : X.calm = true) (h : PGs X es (tGs X.K B G0 t))
  (hn : (assignEach es X.env).length = n := by rfl) (hst : (assignEach es X.env).findIdx? (·.1) = none := by rfl) : PG X (.Tuple es k1 pos) (tG X.K B G0 (gL n t)) := pgof (zh4 hc h hn hst) fun v σ H Q ⟨G, ρ, d, ρ', k, r, e, q⟩ => by
 unfold gL at e
 split at e
 ·split at e
  ·rename_i hl
   obtain ⟨ad, vs, rfl, h1, r1⟩ := r.lst_inv
   exact ⟨ad, vs, rfl, k.gh.seq h1, by rw [r1.length]; exact hl, G, ρ, _, ρ', k, r1, e, q⟩
  ·cases e
 ·cases e
end
end DL
namespace DL
open PySem PySem.Spec L2
open PyProof.Rows hiding St
section
variable {X : Cx} {B G0 : Hp} {e o a b c tg : Expr} {pos p2 p3 p4 : Pos} {es rest : List Expr} {te to ti : TE}
end
end DL
namespace L2
open PySem PySem.Spec PyProof.Rows
section
variable {X : Cx} {tg : Expr}
end
end L2
namespace DL
open PySem PySem.Spec L2
open PyProof.Rows hiding St
section
variable {X : Cx} {B G0 : Hp} {e a b c tg : Expr} {pos : Pos} {es rest : List Expr}
end
end DL
namespace L2
open PySem PySem.Spec PyProof.Rows
section
variable {prog : Program} {w : World} {A : Around} {E : Value -> Shared -> Prop} {s : Shared} {M : Model} {env : Env}
end
end L2
namespace L2
open PySem PySem.Spec PyProof.Rows
section
variable {prog : Program} {w : World} {A : Around} {E : Value -> Shared -> Prop} {s : Shared}
end
end L2
namespace L2
open PySem PySem.Spec PyProof.Rows
section
variable {X : Cx}
end
end L2
namespace DL
open PySem PySem.Spec L2
open PyProof.Rows hiding St
section
variable {X : Cx} {B G0 : Hp} {e a b c tg : Expr} {pos : Pos} {es rest : List Expr}
end
end DL
namespace DL
open PySem PySem.Spec L2
open PyProof.Rows hiding St
section
variable {X : Cx}
end
end DL
namespace DL
open PySem PySem.Spec L2
open PyProof.Rows hiding St
section
variable {X : Cx} {B G0 : Hp} {e o : Expr} {es : List Expr}
end
end DL
namespace DL
open PySem PySem.Spec L2
open PyProof.Rows hiding St
section
variable {prog : Program} {w : World} {A : Around} {R : Result -> Shared -> Prop} {h0 : Heap} {l I S : Addr} {rs : List (Addr × List Value)}
end
section
variable {prog : Program} {w : World} {A : Around} {E : Value -> Shared -> Prop} {s : Shared} {l z : Addr} {rs : List (Addr × List Value)}
end
end DL
namespace DL
open PySem PySem.Spec L2
open PyProof.Rows hiding St
section
variable {X : Cx} {pins : List (Addr × Obj)} {σ : St} {H : Hp} {s : Shared}
end
end DL
namespace DL
open PySem PySem.Spec L2
open PyProof.Rows hiding St
section
variable {X : Cx}
end
end DL
namespace DL
open PySem PySem.Spec L2
open PyProof.Rows hiding St
@[simp] theorem mBind_ok {α β : Type} {f : M α} {k : α -> M β} {ρ ρ' : DEnv} {x : α} (h : f ρ = .ok x ρ') : zam f k ρ = k x ρ' := by unfold zam; rw [h]
theorem zda {s : D -> DEnv -> Option DEnv} {g : SM} {P : Nat -> DEnv -> Prop} {R : Out -> Prop} : ∀ (ds : List D) (n : Nat) (ρ : DEnv), P n ρ ->
  (∀ i d ρ, ds[i]? = some d -> P (n + i) ρ -> ∃ ρ1, s d ρ = some ρ1 /\ ((∃ ρ2, (g ρ1 = .nx ρ2 ∨ g ρ1 = .ct ρ2) /\ P (n + i + 1) ρ2) ∨ (∃ x, g ρ1 = .rt x /\ R (.rt x)) ∨ (∃ ρ2, g ρ1 = .bk ρ2 /\ R (.nx ρ2)) ∨ ∃ ρ2 x, g ρ1 = .ex ρ2 x /\ R (.ex ρ2 x))) -> (∀ ρ, P (n + ds.length) ρ -> R (.nx ρ)) -> R (zc7 s g ds ρ)
 | [], n, ρ, h, _, f => f ρ h
 | d :: r, n, ρ, h, st, f => by
  obtain ⟨ρ1, e1, e2⟩ := st 0 d ρ rfl h
  rw [zc7, e1]
  dsimp only
  rcases e2 with ⟨ρ2, e2, h2⟩ | ⟨x, e2, h2⟩ | ⟨ρ2, e2, h2⟩ | ⟨ρ2, x, e2, h2⟩
  ·have goal := zda (R := R) r (n + 1) ρ2 h2 (fun i d' ρ3 q p => by
    have e : n + 1 + i = n + (i + 1) := by omega
    rw [e] at p ⊢
    exact st (i + 1) d' ρ3 (by simpa using q) p) (fun ρ3 p => f ρ3 (by
    have e : n + 1 + r.length = n + (d :: r).length := by rw [List.length_cons]; omega
    rw [e] at p
    exact p))
   rcases e2 with e2 | e2 <;> (rw [e2]; exact goal)
  ·rw [e2]; exact h2
  ·rw [e2]; exact h2
  ·rw [e2]; exact h2
theorem zel {lo hi : Int} {i : Nat} {d : D} (h : (zbo lo hi)[i]? = some d) : d = .int (lo + i) /\ (i : Int) < hi - lo := by
 have hl : i < (zbo lo hi).length := (List.getElem?_eq_some_iff.mp h).1
 rw [zaV] at hl
 unfold zbo at h
 rw [List.getElem?_map, List.getElem?_eq_getElem (by rw [List.length_range]; exact hl), List.getElem_range] at h
 cases h
 exact ⟨rfl, by omega⟩
theorem zfb {α : Type} {xs : List α} {i : Int} {v : α} (h0 : 0 <= i) (h : xs[i.toNat]? = some v) : atI xs i = some v := by
 have := zcy (xs := xs) (j := i.toNat) h
 rw [Int.toNat_of_nonneg h0] at this
 exact this
end DL
namespace DL
open PySem PySem.Spec L2
open PyProof.Rows hiding St
section
variable {α β : Type} {ρ ρ1 ρ2 ρ3 ρ' : DEnv} {f g h : M D}
theorem zab {a : α} : zad a ρ = .ok a ρ := rfl
theorem zav : mNil ρ = .ok [] ρ := rfl
theorem za5 {o : Option α} {a : α} (h : o = some a) : mOpt o ρ = .ok a ρ := by subst h; rfl
theorem zao {f : M α} {k : α -> M β} {x : α} {r : Res β} (h : f ρ = .ok x ρ1) (h2 : k x ρ1 = r) : zam f k ρ = r := by unfold zam; rw [h]; exact h2
theorem zbd {f : M α} {k : α -> β} {x : α} (h : f ρ = .ok x ρ1) : mMap k f ρ = .ok (k x) ρ1 := by unfold mMap zam; rw [h]; rfl
theorem zag {i : Nat} {d : D} (h : ρ[i]? = some (some (.pub d))) : dVar i ρ = .ok d ρ := by unfold dVar; rw [h]
theorem zh5 {i : Nat} {ds : List D} (h : ρ[i]? = some (some (.own ds))) (h2 : ρ.set i (some (.pub (.list ds))) = ρ') : dVar i ρ = .ok (.list ds) ρ' := by unfold dVar; rw [h]; subst h2; rfl
theorem zap {op : D -> D -> Option β} {x y : D} {r : β} (h1 : f ρ = .ok x ρ1) (h2 : g ρ1 = .ok y ρ2) (h3 : op x y = some r) : dBin op f g ρ = .ok r ρ2 := by
 unfold dBin; exact zao h1 (zao h2 (za5 h3))
theorem zae {g : M (List D)} {x : D} {xs : List D} (h1 : f ρ = .ok x ρ1) (h2 : g ρ1 = .ok xs ρ2) : zan f g ρ = .ok (x :: xs) ρ2 := by
 unfold zan; exact zao h1 (zao h2 rfl)
theorem zfc {g : M (List D)} {xs : List D} (h1 : g ρ = .ok xs ρ1) (h2 : xs.length <= 1000000) : mTup g ρ = .ok (.tuple xs) ρ1 := by
 unfold mTup; exact zao h1 (by rw [if_pos h2]; rfl)
theorem zcs {g : M (List D)} {xs : List D} (h1 : g ρ = .ok xs ρ1) (h2 : xs.length <= 1000000) : mLst g ρ = .ok (.list xs) ρ1 := by
 unfold mLst; exact zao h1 (by rw [if_pos h2]; rfl)
theorem zh6 {g : M (List D)} {xs : List D} (h1 : g ρ = .ok xs ρ1) (h2 : xs.length <= 1000000) : (zam g fun xs => if xs.length <= 1000000 then zad xs else fun _ => .bad) ρ = .ok xs ρ1 :=
 zao h1 (by rw [if_pos h2]; rfl)
theorem zfd {i : Nat} {d y r : D} (h : ρ[i]? = some (some (.pub d))) (h1 : g ρ = .ok y ρ1) (h2 : oIx d y = some r) : dIxN i g ρ = .ok r ρ1 := by
 unfold dIxN; rw [h]; exact zao h1 (za5 h2)
theorem zcd {p : List D -> Option D} {g : M (List D)} {xs : List D} {r : D} (h1 : g ρ = .ok xs ρ1) (h2 : p xs = some r) : zcn p g ρ = .ok r ρ1 := by
 unfold zcn; exact zao h1 (za5 h2)
theorem za1 {n : Nat} {F : List D -> Option D} {g : M (List D)} {xs : List D} {r : D} (h1 : g ρ = .ok xs ρ1) (h2 : xs.length = n) (h3 : F xs = some r) : dFun n F g ρ = .ok r ρ1 := by
 unfold dFun; exact zao h1 (by rw [if_pos h2]; exact za5 h3)
theorem zjM {i : Int} (h1 : f ρ = .ok (.int i) ρ1) : dNeg f ρ = .ok (.int (-i)) ρ1 := by
 unfold dNeg; exact zao h1 rfl
theorem zcI {i : Nat} {d r : D} (h : ρ[i]? = some (some (.pub d))) (h2 : oLen [d] = some r) : zc5 i ρ = .ok r ρ := by
 unfold zc5; rw [h]; exact za5 h2
theorem zh7 {g : M (List D)} {i : Int} {r : List D} (h1 : g ρ = .ok [.int i] ρ1) (h2 : zeh [.int i] = some r) : zgi g ρ = .ok r ρ1 := by
 unfold zgi; exact zao h1 (za5 h2)
theorem zfe {g : M (List D)} {xs r : List D} (h1 : g ρ = .ok xs ρ1) (h2 : ze2 xs = some r) : zgj g ρ = .ok r ρ1 := by
 unfold zgj; exact zao h1 (za5 h2)
theorem za6 {i : Int} (h1 : f ρ = .ok (.int i) ρ1) : (zam f fun x => mOpt (zbJ x)) ρ = .ok (some i) ρ1 := zao h1 rfl
theorem zce {f : M Bool} {t : Bool} (h1 : f ρ = .ok t ρ1) : mNot f ρ = .ok (!t) ρ1 := zbd h1
theorem zbs {t : Bool} (h1 : f ρ = .ok (.bool t) ρ1) : zbQ f ρ = .ok t ρ1 := by unfold zbQ; exact zao h1 rfl
theorem zjN {f g : M Bool} {t u : Bool} (h1 : f ρ = .ok t ρ) (h2 : t = true -> g ρ = .ok u ρ) : mAnd f g ρ = .ok (t && u) ρ := by
 unfold mAnd; refine zao h1 ?_
 cases t with
 | true => rw [if_pos rfl]; exact h2 rfl
 | false => rfl
theorem zkR {f g : M Bool} {t u : Bool} (h1 : f ρ = .ok t ρ) (h2 : t = false -> g ρ = .ok u ρ) : mOr f g ρ = .ok (t || u) ρ := by
 unfold mOr; refine zao h1 ?_
 cases t with
 | false => rw [if_neg (by decide)]; exact h2 rfl
 | true => rfl
theorem zjO {t u : Bool} (h1 : f ρ = .ok (.bool t) ρ) (h2 : t = false -> g ρ = .ok (.bool u) ρ) : mOrV f g ρ = .ok (.bool (t || u)) ρ := by
 unfold mOrV; refine zao h1 ?_
 cases t with
 | false => exact h2 rfl
 | true => rfl
theorem zgr {p q : D -> D -> Option Bool} {x y z : D} {t u : Bool} (h1 : f ρ = .ok x ρ) (h2 : g ρ = .ok y ρ) (h3 : p x y = some t) (h4 : t = true -> h ρ = .ok z ρ) (h5 : t = true -> q y z = some u) : zdM p q f g h ρ = .ok (t && u) ρ := by
 unfold zdM
 refine zao h1 (zao h2 (zao (za5 h3) ?_))
 cases t with
 | true => rw [if_pos rfl]; exact zao (h4 rfl) (za5 (h5 rfl))
 | false => rfl
theorem zbi {i j : Int} : oAdd (.int i) (.int j) = some (.int (i + j)) := rfl
theorem zcJ {x y : Str} (h : x.length + y.length <= 1000000) : oAdd (.str x) (.str y) = some (.str (x ++ y)) := by unfold oAdd; exact if_pos h
theorem zcK {x y : List D} (h : x.length + y.length <= 1000000) : oAdd (.list x) (.list y) = some (.list (x ++ y)) := by unfold oAdd; exact if_pos h
theorem zcL {i j : Int} : oSub (.int i) (.int j) = some (.int (i - j)) := rfl
theorem zgs {i j : Int} (h1 : -18446744073709551616 < i) (h2 : i < 18446744073709551616) : oMul (.int i) (.int j) = some (.int (i * j)) := by unfold oMul gMul; exact if_pos (.inl ⟨by omega, by omega⟩)
theorem zdQ {i j : Int} (h1 : -18446744073709551616 < j) (h2 : j < 18446744073709551616) : oMul (.int i) (.int j) = some (.int (i * j)) := by unfold oMul gMul; exact if_pos (.inr ⟨by omega, by omega⟩)
theorem zem {x : List D} {k : Int} (h : -1000000 <= k /\ k <= 1000000 /\ x.length * k.toNat <= 1000000) : oMul (.list x) (.int k) = some (.list (List.replicate k.toNat x).flatten) := by unfold oMul; exact if_pos h
theorem zbC {i j : Int} (h : 0 < j) : oMod (.int i) (.int j) = some (.int (i % j)) := by unfold oMod gMod; exact if_pos h
theorem zh8 {i j : Int} (h : 0 < j) (h2 : j < 18446744073709551616) : oDiv (.int i) (.int j) = some (.int (i / j)) := by unfold oDiv gDiv; exact if_pos ⟨h, h2⟩
theorem zh9 {i j : Int} (h : 0 <= j /\ j <= 1000000 /\ i.natAbs < 2 ^ 64) : oPow (.int i) (.int j) = some (.int (i ^ j.toNat)) := by unfold oPow gPow; exact if_pos h
theorem zjP {p : Int -> Int -> Bool} {i j : Int} : oIB p (.int i) (.int j) = some (p i j) := rfl
theorem zbj {i j : Int} : oEq (.int i) (.int j) = some (decide (i = j)) := by
 unfold oEq; rw [if_pos ⟨rfl, rfl, by simp [PyData.depth]⟩]; congr 1
theorem zgt {xs : List D} : oLen [.list xs] = some (.int xs.length) := rfl
theorem zia {i j : Int} : zgf [.int i, .int j] = some (.int (if j > i then j else i)) := rfl
theorem zgu {j : Int} (h1 : j <= 1000000) (h2 : -1000000 <= j) : zeh [.int j] = some (zbo 0 j) := by unfold zeh; exact if_pos ⟨h1, h2⟩
theorem zdR {xs : List D} : ze2 [.list xs] = some (zcb 0 xs) := rfl
def tx (l : List Char) : Str := ⟨(l.map Char.toNat).toArray⟩
theorem zdb (s : String) : Str.ofString s = tx s.toList := Str.ofString_eq_toList s
theorem zjQ {a b : List Char} : tx a ++ tx b = tx (a ++ b) := by
 show Str.mk _ = Str.mk _
 simp [tx]
theorem zg8 {l : List Char} : (tx l).length = l.length := by unfold tx Str.length; simp
theorem zjR {a b : List Char} (h : tx a = tx b) : a = b := by
 have h2 : a.map Char.toNat = b.map Char.toNat := by
  have := congrArg Str.cps h
  simpa [tx] using this
 exact (List.map_inj_right (fun x y e => Char.ext (UInt32.toNat_inj.mp e))).mp h2
theorem zkS {l : List Char} : PyData.strOk (tx l) = true := by
 unfold PyData.strOk tx
 simp only [List.all_toArray, List.all_map, List.all_eq_true]
 intro c _
 have := c.valid
 simp only [Function.comp, decide_eq_true_eq]
 rcases this with h | h
 ·have : c.toNat = c.val.toNat := rfl
  omega
 ·have : c.toNat = c.val.toNat := rfl
  omega
theorem zdS {l : List Char} : PyData.canLay0 (.str (tx l)) = true := zkS
theorem zbF {z : Str} : (PyData.str z).depth <= 60 := by simp [PyData.depth]
theorem zff {a b : List Char} : oEq (.str (tx a)) (.str (tx b)) = some (decide (a = b)) := by
 unfold oEq
 rw [if_pos ⟨zdS, zdS, zbF⟩]
 congr 1
 show (tx a == tx b) = _
 by_cases h : a = b
 ·subst h; simp
 ·have : tx a ≠ tx b := fun e => h (zjR e)
  simp [h, this]
theorem zib {a b : List Char} : oNe (.str (tx a)) (.str (tx b)) = some (!decide (a = b)) := by
 have := zff (a := a) (b := b)
 unfold oEq at this
 unfold oNe
 rw [if_pos ⟨zdS, zdS, zbF⟩] at this ⊢
 rw [Option.some.inj this]
theorem zdT {a b : List Char} (h : a.length + b.length <= 1000000) : oAdd (.str (tx a)) (.str (tx b)) = some (.str (tx (a ++ b))) := by
 rw [zcJ (by rw [zg8, zg8]; exact h), zjQ]
theorem za2 {i : Nat} {d : D} (h1 : f ρ = .ok d ρ1) (h2 : i < ρ1.length) (h3 : ρ1.set i (some (.pub d)) = ρ') : sSet i f ρ = .nx ρ' := by
 unfold sSet sAsg sB gN; rw [h1]; dsimp only; rw [if_pos h2]; subst h3; rfl
theorem zic {i : Nat} {f : M (List D)} {ds : List D} (h1 : f ρ = .ok ds ρ1) (h2 : i < ρ1.length) (h3 : ρ1.set i (some (.own ds)) = ρ') : ze0 i f ρ = .nx ρ' := by
 unfold ze0 sB; rw [h1]; dsimp only; rw [if_pos h2]; subst h3; rfl
theorem zjS {i : Nat} {d : D} {ds0 ds : List D} (h0 : ρ[i]? = some (some (.own ds0))) (h1 : f ρ = .ok d ρ1) (h2 : ρ1[i]? = some (some (.own ds))) (h3 : ds.length < 1000000) (h4 : ρ1.set i (some (.own (ds ++ [d]))) = ρ') : sApp i f ρ = .nx ρ' := by
 unfold sApp sB; rw [h0]; dsimp only; rw [h1]; dsimp only; rw [h2]; dsimp only; rw [if_pos h3]; subst h4; rfl
theorem zg9 {d : D} {s : D -> DEnv -> Option DEnv} (h1 : f ρ = .ok d ρ1) (h2 : s d ρ1 = some ρ') : sAsg f s ρ = .nx ρ' := by
 unfold sAsg sB; rw [h1]; dsimp only; rw [h2]
theorem tg_N {i : Nat} {d : D} (h : i < ρ.length) (h2 : ρ.set i (some (.pub d)) = ρ') : gN i d ρ = some ρ' := by unfold gN; rw [if_pos h, h2]
theorem tg_0 : gN0 [] ρ = some ρ := rfl
theorem tg_C {s : D -> DEnv -> Option DEnv} {t : List D -> DEnv -> Option DEnv} {d : D} {r : List D} (h1 : s d ρ = some ρ1) (h2 : t r ρ1 = some ρ') : gNC s t (d :: r) ρ = some ρ' := by unfold gNC; dsimp only; rw [h1]; exact h2
theorem tg_T {n : Nat} {t : List D -> DEnv -> Option DEnv} {ds : List D} (h1 : ds.length = n) (h2 : t ds ρ = some ρ') : gT n t (.tuple ds) ρ = some ρ' := by unfold gT; dsimp only; rw [if_pos h1]; exact h2
structure Ho (g : SM) (ρ : DEnv) (Q : Out -> Prop) : Prop where
 out : Q (g ρ)
def zkT (h : SM) (Q : Out -> Prop) : Out -> Prop
 | .nx ρ' => Ho h ρ' Q
 | o => Q o
structure zgv (h : SM) (Q : Out -> Prop) (o : Out) : Prop where
 out : zkT h Q o
variable {Q : Out -> Prop} {s t u : SM}
theorem zaE (h : Ho s ρ (zgv t Q)) : Ho (sSeq s t) ρ Q := by
 have h := h.out.out
 constructor
 unfold sSeq
 cases e : s ρ with
 | nx o => rw [e] at h; exact h.out
 | _ => rw [e] at h; exact h
theorem zaL (h1 : s ρ = .nx ρ1) (h2 : Ho t ρ1 Q) : Ho (sSeq s t) ρ Q := by
 constructor; unfold sSeq; rw [h1]; exact h2.out
theorem zbM {o : Out} (h1 : s ρ = o) (h2 : Q o) : Ho s ρ Q := by constructor; rw [h1]; exact h2
theorem za7 (h : Q (.nx ρ)) : Ho sNx ρ Q := ⟨h⟩
theorem zaw {o : DEnv} (h : Ho t o Q) : zgv t Q (.nx o) := ⟨h⟩
theorem zaQ {d : D} (h : Q (.rt d)) : zgv t Q (.rt d) := ⟨h⟩
theorem za3 {f : M Bool} {b : Bool} (h1 : f ρ = .ok b ρ1) (h2 : b = true -> Ho s ρ1 Q) (h3 : b = false -> Ho t ρ1 Q) : Ho (sIf f s t) ρ Q := by
 constructor; unfold sIf sB; rw [h1]; dsimp only
 cases b with
 | true => rw [if_pos rfl]; exact (h2 rfl).out
 | false => rw [if_neg (by decide)]; exact (h3 rfl).out
theorem zaS {d : D} (h1 : f ρ = .ok d ρ1) (h2 : Q (.rt d)) : Ho (sRet f) ρ Q := by constructor; unfold sRet sB; rw [h1]; exact h2
theorem zid {P : Out -> Prop} (h : Ho s ρ P) (k : ∀ o, P o -> Q o) : Ho s ρ Q := ⟨k _ h.out⟩
def zkU (I : DEnv -> Prop) (Q : Out -> Prop) : Out -> Prop
 | .nx ρ | .ct ρ => I ρ
 | .bk ρ => Q (.nx ρ)
 | .rt d => Q (.rt d)
 | .ex ρ d => Q (.ex ρ d)
 | .bad => False
structure zie (I : DEnv -> Prop) (Q : Out -> Prop) (o : Out) : Prop where
 out : zkU I Q o
theorem zbD {I : DEnv -> Prop} (h : I ρ) : zie I Q (.nx ρ) := ⟨h⟩
theorem zgw {ρ : DEnv} {d : D} (h : Q (.ex ρ d)) : zgv t Q (.ex ρ d) := ⟨h⟩
theorem zdU {f : M (List D)} {tg : D -> DEnv -> Option DEnv} {ds : List D} (I : Nat -> DEnv -> Prop) (h1 : f ρ = .ok ds ρ1) (h0 : I 0 ρ1)
  (hst : ∀ i d ρ, ds[i]? = some d -> I i ρ -> ∃ ρ2, tg d ρ = some ρ2 /\ Ho s ρ2 (zie (I (i + 1)) Q)) (hend : ∀ ρ, I ds.length ρ -> Q (.nx ρ)) : Ho (sFor f tg s) ρ Q := by
 constructor; unfold sFor sB; rw [h1]; dsimp only
 refine zda (P := I) (R := Q) ds 0 ρ1 h0 (fun i d ρ e p => ?_) (fun ρ p => hend ρ (by rw [Nat.zero_add] at p; exact p))
 rw [Nat.zero_add] at p
 obtain ⟨ρ2, e2, q⟩ := hst i d ρ e p
 refine ⟨ρ2, e2, ?_⟩
 rw [Nat.zero_add]
 have q := q.out.out
 cases z : s ρ2 with
 | nx o => rw [z] at q; exact .inl ⟨o, .inl rfl, q⟩
 | ct o => rw [z] at q; exact .inl ⟨o, .inr rfl, q⟩
 | rt o => rw [z] at q; exact .inr (.inl ⟨o, rfl, q⟩)
 | bk o => rw [z] at q; exact .inr (.inr (.inl ⟨o, rfl, q⟩))
 | ex o x => rw [z] at q; exact .inr (.inr (.inr ⟨o, x, rfl, q⟩))
 | bad => rw [z] at q; exact q.elim
theorem zdV {N : List Str} {ds : List D} {P : D -> Prop} (h0 : za0 N ds = ρ) (h : Ho s ρ fun o => ∃ d, o = .rt d /\ P d) : ∃ d, runD N s ds = some d /\ P d := by
 subst h0
 obtain ⟨d, e, p⟩ := h.out
 refine ⟨d, ?_, p⟩
 unfold runD; rw [e]
theorem zct {N : List Str} {ds : List D} {d : D} (h0 : za0 N ds = ρ) (h : Ho s ρ fun o => o = .rt d) : runD N s ds = some d := by
 obtain ⟨d', e, p⟩ := zdV (P := fun x => x = d) h0 (zid h fun o e => ⟨d, e, rfl⟩)
 rw [e, p]
end
end DL
namespace DL
open PySem PySem.Spec L2
open PyProof.Rows hiding St
section
variable {α β : Type} {ρ ρ1 ρ2 ρ3 ρ' : DEnv} {f g h : M D}
theorem zbv {l u : M (Option Int)} {x r : D} {a b : Option Int} (h1 : f ρ = .ok x ρ1) (h2 : l ρ1 = .ok a ρ2) (h3 : u ρ2 = .ok b ρ3) (h4 : oSlA x a b = some r) : dSlA f l u ρ = .ok r ρ3 := by
 unfold dSlA; exact zao h1 (zao h2 (zao h3 (za5 h4)))
theorem zjT {f g : M Bool} {u : Bool} (h1 : f ρ = .ok false ρ1) (h2 : g ρ1 = .ok u ρ2) : mOr f g ρ = .ok u ρ2 := by unfold mOr; exact zao h1 (by rw [if_neg (by decide)]; exact h2)
theorem zfg {f g : M Bool} (h1 : f ρ = .ok false ρ1) : mAnd f g ρ = .ok false ρ1 := by unfold mAnd; exact zao h1 rfl
theorem zfh {f g : M Bool} {u : Bool} (h1 : f ρ = .ok true ρ1) (h2 : g ρ1 = .ok u ρ2) : mAnd f g ρ = .ok u ρ2 := by unfold mAnd; exact zao h1 (by rw [if_pos rfl]; exact h2)
theorem zgx {c : String} {d : D} {t : Bool} (h : f ρ = .ok d ρ1) (ht : (!isTy d c) = t) : mNot (zbQ (mMap (fun d => .bool (isTy d c)) f)) ρ = .ok t ρ1 := by
 subst ht; exact zce (zbs (zbd (k := fun d => PyData.bool (isTy d c)) h))
theorem zcM {x : D} {r : List D} (h1 : f ρ = .ok x ρ1) (h2 : zcG x = some r) : zcr f ρ = .ok r ρ1 := by
 unfold zcr; exact zao h1 (za5 h2)
theorem zaO {p : D -> D -> Option β} {i : Nat} {d y : D} {r : β} (h : ρ[i]? = some (some (.pub d))) (h1 : g ρ = .ok y ρ1) (h2 : p d y = some r) : zaX p i g ρ = .ok r ρ1 := by
 unfold zaX; rw [h]; exact zao h1 (za5 h2)
theorem zif {f : M (List D)} {k : Nat} {s : D -> DEnv -> Option DEnv} {t : M Bool} {ds es : List D} (h1 : f ρ = .ok ds ρ1) (h2 : zbX s t g ds (zaW ρ1 ++ List.replicate k none) [] = some es) : ze5 f k s t g ρ = .ok es ρ1 := by
 unfold ze5; rw [h1]; dsimp only; rw [h2]
theorem zdc {s : D -> DEnv -> Option DEnv} {t : M Bool} (p : D -> Bool) (q : D -> D) (I : DEnv -> Prop) : ∀ (ds : List D) (ρ : DEnv) (es : List D), (∀ d ∈ ds, ∀ ρ, I ρ -> ∃ ρ1, s d ρ = some ρ1 /\ t ρ1 = .ok (p d) ρ1 /\ (p d = true -> g ρ1 = .ok (q d) ρ1) /\ I (zaW ρ1)) -> I ρ -> es.length + ds.length <= 1000000 ->
  zbX s t g ds ρ es = some (es ++ (ds.filter p).map q)
 | [], ρ, es, _, _, _ => by rw [zbX]; simp
 | d :: r, ρ, es, st, h0, hz => by
  obtain ⟨ρ1, e1, e2, e3, h1⟩ := st d List.mem_cons_self ρ h0
  have ih := fun es' hz' => zdc p q I r (zaW ρ1) es' (fun d' hd => st d' (List.mem_cons_of_mem _ hd)) h1 hz'
  rw [List.length_cons] at hz
  rw [zbX, e1]
  dsimp only
  rw [e2]
  dsimp only
  cases hp : p d with
  | true =>
   rw [if_pos rfl, e3 hp]
   dsimp only
   rw [if_pos (by omega), ih _ (by rw [List.length_append, List.length_singleton]; omega), List.filter_cons_of_pos hp, List.map_cons, List.append_assoc]
   rfl
  | false =>
   rw [if_neg (by decide), ih _ (by omega), List.filter_cons_of_neg (by rw [hp]; decide)]
theorem zdW {xs : List D} {a b : Option Int} : oSlA (.list xs) a b = some (.list (DL.cutD xs a b)) := rfl
theorem zgy {z : Str} {a b : Option Int} (h : (cutS z a b).length <= 1000000) : oSlA (.str z) a b = some (.str (cutS z a b)) := by unfold oSlA; exact if_pos h
theorem zfi {xs : List D} : zcG (.list xs) = some xs := rfl
theorem zfj {z : Str} : zcG (.str z) = some (zbu z) := rfl
theorem zdX {z : Str} (h : z.length <= 1000000) : oLen [.str z] = some (.int z.length) := by unfold oLen; exact if_pos h
theorem zdv (bs : List Bool) : zbq (bs.map PyData.bool) = some bs := by
 induction bs with
 | nil => rfl
 | cons b r ih => rw [List.map_cons, zbq, ih]; rfl
theorem zig {bs : List Bool} : oAll [.list (bs.map PyData.bool)] = some (.bool (bs.all id)) := by unfold oAll; dsimp only; rw [zdv]; rfl
end
end DL
namespace DL
open PySem PySem.Spec L2
open PyProof.Rows hiding St
section
variable {α β : Type} {ρ ρ1 ρ2 ρ3 ρ4 ρ' : DEnv} {f g h : M D} {s : SM}
theorem tg_L {n : Nat} {t : List D -> DEnv -> Option DEnv} {ds : List D} (h1 : ds.length = n) (h2 : t ds ρ = some ρ') : gL n t (.list ds) ρ = some ρ' := by unfold gL; dsimp only; rw [if_pos h1]; exact h2
theorem zfk {i j : Int} : oNe (.int i) (.int j) = some (!decide (i = j)) := by
 unfold oNe; rw [if_pos ⟨rfl, rfl, by simp [PyData.depth]⟩]; congr 1
end
end DL
namespace DL
open PySem PySem.Spec L2
open PyProof.Rows hiding St
section
variable {ρ ρ1 : DEnv}
end
end DL
namespace DL
open PySem PySem.Spec L2
open PyProof.Rows hiding St
section
variable {X : Cx} {B G0 : Hp} {KX : XW} {e o a b c tg i : Expr} {pos p2 : Pos} {es rest : List Expr}
end
section
variable {X : Cx} {B G0 : Hp} {KX : XW}
end
end DL
namespace DL
open PySem PySem.Spec L2
open PyProof.Rows hiding St
section
variable {X : Cx} {B G0 : Hp} {e o a b c tg i : Expr} {pos p2 : Pos} {es rest : List Expr}
end
end DL
namespace DL
open PySem PySem.Spec PySem.W PyProof.Rows
section
variable {key : Nat -> Int} {p : Array Nat}
section
variable {N : Nat} (hN : 0 < N)
include hN
end
end
end DL
namespace DL
open PySem PySem.Spec PySem.W PyProof.Rows
section
variable {prog : Program} {w : World} {A : Around} {E : Value -> Shared -> Prop} {s : Shared}
end
end DL
namespace DL
open PySem PySem.Spec PySem.W PyProof.Rows
section
variable {prog : Program} {w : World} {A : Around} {E : Value -> Shared -> Prop} {s : Shared}
end
end DL
namespace DL
open PySem PySem.Spec L2
open PyProof.Rows hiding St
section
variable {X : Cx}
end
end DL
namespace DL
open PySem PySem.Spec L2
open PyProof.Rows hiding St
section
variable {X : Cx}
end
end DL
namespace DL
open PySem PySem.Spec L2
open PyProof.Rows hiding St
section
variable {X : Cx} {B G0 : Hp} {e o a b c tg : Expr} {pos p2 : Pos} {es rest : List Expr} {te to ti : TE}
end
end DL
namespace DL
open PySem PySem.Spec L2
open PyProof.Rows hiding St
section
variable {X : Cx} {B G0 : Hp} {e o a b c tg : Expr} {pos p2 : Pos} {es rest : List Expr}
end
end DL
namespace HT
open PySem PyProof.Rows
section
open PySem.SeqAt
open PySem.AutoSeq1 (wpAny_loadPart')
open PySem.MeetsSeq PySem.MeetsSeq2 PySem.MeetsSeq3
end
section
variable {prog : Program} {w : World} {A : Around} {E : Value -> Shared -> Prop} {s : Shared}
end
end HT
namespace DL
open PySem PySem.Spec L2
open PyProof.Rows hiding St
section
variable {X : Cx}
end
end DL
namespace DL
open PySem PySem.Spec L2
open PyProof.Rows hiding St
section
variable {X : Cx}
end
end DL
namespace DL
open PySem
theorem lz0 {P : List Value -> Prop} {us : List Value} (hl : us.length = 0) (h : P []) : P us := by
 cases us with
 | nil => exact h
 | cons a r => cases hl
theorem lzS {P : List Value -> Prop} {us : List Value} {n : Nat} (hl : us.length = n + 1) (h : ∀ a r, r.length = n -> P (a :: r)) : P us := by
 cases us with
 | nil => cases hl
 | cons a r => exact h a r (Nat.succ.inj hl)
theorem lz1 {P : List Value -> Prop} {us : List Value} (hl : us.length = 1) (h : ∀ a, P [a]) : P us := lzS hl fun a r e => lz0 (P := fun r => P (a :: r)) e (h a)
theorem lz2 {P : List Value -> Prop} {us : List Value} (hl : us.length = 2) (h : ∀ a b, P [a, b]) : P us := lzS hl fun a r e => lz1 (P := fun r => P (a :: r)) e (h a)
theorem lz3 {P : List Value -> Prop} {us : List Value} (hl : us.length = 3) (h : ∀ a b c, P [a, b, c]) : P us := lzS hl fun a r e => lz2 (P := fun r => P (a :: r)) e (h a)
theorem bz1 {fd : FuncData} {ps : List Str} {us : List Value} (hl : us.length = 1) (h : ∀ a, bindArgs fd { pos := [a] } = pure (ps.zip [a])) : bindArgs fd { pos := us } = pure (ps.zip us) := lz1 (P := fun us => bindArgs fd { pos := us } = pure (ps.zip us)) hl h
theorem bz2 {fd : FuncData} {ps : List Str} {us : List Value} (hl : us.length = 2) (h : ∀ a b, bindArgs fd { pos := [a, b] } = pure (ps.zip [a, b])) : bindArgs fd { pos := us } = pure (ps.zip us) := lz2 (P := fun us => bindArgs fd { pos := us } = pure (ps.zip us)) hl h
theorem bz3 {fd : FuncData} {ps : List Str} {us : List Value} (hl : us.length = 3) (h : ∀ a b c, bindArgs fd { pos := [a, b, c] } = pure (ps.zip [a, b, c])) : bindArgs fd { pos := us } = pure (ps.zip us) := lz3 (P := fun us => bindArgs fd { pos := us } = pure (ps.zip us)) hl h
end DL
namespace DL
open PySem PySem.Spec L2
open PyProof.Rows hiding St
def whole (h : Heap) : PySem.W.Frag := (List.range h.objs.size).filterMap fun a => (h.get? a).map fun o => (a, o)
theorem zdd {g : Addr -> Option Obj} {x : Addr} : ∀ l : List Addr, (l.filterMap fun a => (g a).map fun o => (a, o)).lookup x = if x ∈ l then g x else none
 | [] => rfl
 | y :: l => by
  have ih := zdd (g := g) (x := x) l
  by_cases e : x = y
  ·subst e
   rw [if_pos List.mem_cons_self]
   cases z : g x with
   | none => rw [List.filterMap_cons_none (by rw [z]; rfl), ih, z]; split <;> rfl
   | some o => rw [List.filterMap_cons_some (by rw [z]; rfl), List.lookup_cons, beq_self_eq_true]
  ·have m : (x ∈ y :: l) = (x ∈ l) := by simp [List.mem_cons, e]
   have b : (x == y) = false := by simpa using e
   have ih' : (if x ∈ y :: l then g x else none) = _ := (by simp only [m]; exact ih.symm)
   rw [ih']
   cases z : g y with
   | none => rw [List.filterMap_cons_none (by rw [z]; rfl)]
   | some o => rw [List.filterMap_cons_some (by rw [z]; rfl), List.lookup_cons, b]
theorem zas {h : Heap} {a : Addr} : (whole h).lookup a = h.get? a := by
 unfold whole
 rw [zdd]
 split
 ·rfl
 ·rename_i n
  cases z : h.get? a with
  | none => rfl
  | some o => exact absurd (List.mem_range.mpr (Heap.lt_size z)) n
theorem zgz (h : Heap) : (whole h).In h := fun a o e => by rw [zas] at e; exact e
def zkV (st : Stmt) : Option DefRec := match st with
 | .FunctionDef name a b _ _ _ sc _ _ pos => some ⟨name, a, b, sc, pos⟩
 | _ => none
def zdY (st : Stmt) : Option Str := match st with
 | .FunctionDef name _ _ _ _ _ _ _ _ _ => some name
 | _ => none
def zkW (st : Stmt) : Pos := match st with
 | .FunctionDef _ _ _ _ _ _ _ _ _ pos => pos
 | _ => ⟨0, 0, 0, 0⟩
abbrev stAt (p : Program) (i : Nat) : Stmt := p.main.body.getD i (.Pass ⟨0, 0, 0, 0⟩)
def zcu (p : Program) (ix : List Nat) : List DefRec := ix.filterMap fun i => zkV (stAt p i)
section
variable {p q : Program} {loose : List Str} {mean : ExcName -> Option Value} {mg mb : Str -> Option Value} {h : Heap} {w : World}
theorem zfl {ix : List Nat} (T : Top q loose mean mg mb h) (e : recsOf q = zcu p ix) (i : Nat) (x : Str) (hi : ix.contains i = true) (hn : zdY (stAt p i) = some x) : ∃ f fd, mg x = some (.ref f) /\ Fun (whole h) x x (stAt p i) f fd := by
 cases hs : stAt p i with
 | FunctionDef name a b _ _ _ sc _ _ pos =>
  rw [hs] at hn
  cases hn
  have hd : (⟨x, a, b, sc, pos⟩ : DefRec) ∈ recsOf q := by
   rw [e]
   exact List.mem_filterMap.mpr ⟨i, by simpa using hi, by rw [hs]; rfl⟩
  obtain ⟨f, ⟨oc, od, dt, osl⟩, pm, cd, doc, h1, h2, h3, h4⟩ := T.fn _ hd
  have h3 : dt = _ := h3
  subst h3
  refine ⟨f, _, h1, ⟨⟨oc, od, .none, doc, pm, _, cd, _, osl, rfl, by rw [zas]; exact h2, ?_⟩, ?_⟩⟩
  ·obtain ⟨c, ⟨_, _, dc, _⟩, vs, t, rfl, g1, g2, g3⟩ := h4
   have g2 : dc = _ := g2
   subst g2
   unfold PySem.W.codeIn
   dsimp only
   rw [zas, g1]
   dsimp only
   have g4 : vs.toList[1]? = some (.str x t) := by rw [Array.getElem?_toList]; exact g3
   cases hv : vs.toList with
   | nil => rw [hv] at g4; cases g4
   | cons v0 r =>
    rw [hv] at g4
    cases r with
    | nil => cases g4
    | cons v1 r => cases g4; exact beq_self_eq_true _
  ·unfold PySem.W.keepIn
   dsimp only
   rw [zas, h2]
 | _ => rw [hs] at hn; cases hn
theorem zfm {K : PySem.W.Frag} {x qual y : Str} {st : Stmt} {f : Addr} {fd : FuncData} (F : Fun K x qual st f fd)
  (hb : ∀ (kV doc pm : Value) (an : Option Addr) (cdv ct v : Value), bindArgs (PySem.W.fnOf x qual (zaZ st) (zaC st) (zaf st) .none kV doc pm an cdv ct) ⟨[v], []⟩ = pure [(y, v)]) (s : Shared) (v : Value) : BindsTo s fd ⟨[v], []⟩ [(y, v)] := by
 obtain ⟨oc, od, kV, doc, pm, an, cdv, ct, osl, rfl, lk, hcd⟩ := F.ex
 exact .of_eq (hb kV doc pm an cdv ct v)
def zgA (q : Program) (loose : List Str) (x : Str) : Bool :=
 !startupNames.contains x && !loose.contains x && !((recsOf q).map (·.name)).contains x && !((litsOf q).map (·.1)).contains x && !((clssOf q loose).map (·.name)).contains x
theorem za4 (T : Top q loose mean mg mb h) {xs : List Str} (e : xs.all (zgA q loose) = true) {x : Str} (hx : x ∈ xs) : mg x = none := by
 have := List.all_eq_true.mp e x hx
 unfold zgA at this
 simp only [Bool.and_eq_true, Bool.not_eq_true', List.contains_eq_mem, decide_eq_false_iff_not] at this
 exact T.free x this.1.1.1.1 this.1.1.1.2 this.1.1.2 this.1.2 this.2
theorem zfn (T : Top q loose mean mg mb h) {x : Str} {i : Int} (e : valOf q x = some (.int i)) : ∃ t, mg x = some (.int i t) := by
 obtain ⟨v, h1, h2⟩ := T.const x _ e
 have := h2 h
 cases this
 exact ⟨_, h1⟩
theorem zfo (T : Top q loose mean mg mb h) {x z : Str} (e : valOf q x = some (.str z)) : ∃ t, mg x = some (.str z t) := by
 obtain ⟨v, h1, h2⟩ := T.const x _ e
 have := h2 h
 cases this
 exact ⟨_, h1⟩
end
def scOk (sc : Scope) (N gl : List Str) : Bool := (N.all fun x => match sc.names.lookup x with | some .local => true | some .cell => true | _ => false) && gl.all fun x => match sc.names.lookup x with | some .globalImplicit => true | _ => false
def fnB (sc : Scope) (N gl : List Str) : Bool := decide (sc.kind = .function) && !sc.isCoroutine && !sc.isGenerator && decide N.Nodup && (sc.names.all fun y => match y.2 with | .free => false | _ => true) && scOk sc N gl
structure FnNm (sc : Scope) (N gl : List Str) : Prop where
 kind : sc.kind = .function
 co : sc.isCoroutine = false
 gen : sc.isGenerator = false
 nd : N.Nodup
 nofree : ∀ y ∈ sc.names, y.2 ≠ .free
 nm : ∀ x ∈ N, sc.names.lookup x = some .local ∨ sc.names.lookup x = some .cell
 gl : ∀ x ∈ gl, sc.names.lookup x = some .globalImplicit
theorem zbl {sc : Scope} {N gl : List Str} (H : fnB sc N gl = true) : FnNm sc N gl := by
 unfold fnB scOk at H
 simp only [Bool.and_eq_true, decide_eq_true_eq, Bool.not_eq_true', List.all_eq_true] at H
 obtain ⟨⟨⟨⟨⟨h1, h2⟩, h3⟩, h4⟩, h5⟩, h6, h7⟩ := H
 refine ⟨h1, h2, h3, h4, fun y hy e => ?_, fun x hx => ?_, fun x hx => ?_⟩
 ·have := h5 y hy; rw [e] at this; cases this
 ·have := h6 x hx
  split at this
  ·rename_i e; exact .inl e
  ·rename_i e; exact .inr e
  ·cases this
 ·have := h7 x hx
  split at this
  ·rename_i e; exact e
  ·cases this
section
variable {sc : Scope} {N gl : List Str} {x : Str}
theorem nq (H : FnNm sc N gl) : N.Nodup := H.nd
theorem fq (H : FnNm sc N gl) (n : Nat) : zbI N (N.take n) sc := ⟨H.kind, H.co, H.gen, H.nd, by rw [List.length_take, List.take_eq_take_iff]; omega, fun x hx => H.nm x (List.mem_of_mem_take hx), H.nofree⟩
theorem lq (H : FnNm sc N gl) (i : Nat) (h : N[i]? = some x := by rfl) : L2.Loc sc x := H.nm x (List.mem_of_getElem? h)
theorem gq (H : FnNm sc N gl) (i : Nat) (h : gl[i]? = some x := by rfl) : sc.names.lookup x = some .globalImplicit := H.gl x (List.mem_of_getElem? h)
theorem pq {X : Cx} {pos : Pos} (H : FnNm X.env.scope X.N gl) (i : Nat) (h : X.N[i]? = some x := by rfl) (hd : (x == ("__debug__" : Str)) = false := by decide) (hc : (x == ("__classdict__" : Str)) = false := by decide) : PE X (.Name x pos) (tVar i) :=
 zgT h ((H.nm x (List.mem_of_getElem? h)).elim .inl fun z => .inr (.inl z)) hd hc
end
theorem zde {q p : Program} {loose : List Str} {mean : ExcName -> Option Value} {mg mb : Str -> Option Value} {h : Heap} {ix : List Nat} (P : Program) (w : World) (base : Heap) {ps : List Str} {k n : Nat} {F : List D -> Option D} (T : Top q loose mean mg mb h) (e : recsOf q = zcu p ix) (i : Nat) (x : Str) (hi : ix.contains i = true) (hn : zdY (stAt p i) = some x)
  (ok : ∀ {f : Addr} {fd : FuncData}, Fun (whole h) x x (stAt p i) f fd -> FnOk P w (whole h) mg base CX0 k f fd ps (spD (whole h) n F))
  (hb : ∀ (kV doc pm : Value) (an : Option Addr) (cdv ct : Value) (us : List Value), us.length = ps.length -> bindArgs (PySem.W.fnOf x x (zaZ (stAt p i)) (zaC (stAt p i)) (zaf (stAt p i)) .none kV doc pm an cdv ct) ⟨us, []⟩ = pure (ps.zip us)) : Def P w (whole h) mg base x k n F := by
 obtain ⟨f, fd, m, FU⟩ := zfl T e i x hi hn
 exact Def.mk m FU (FU.binds hb) (ok FU)
section
variable {X : Cx} {B G0 : Hp} {e : Expr} {pos : Pos} {es : List Expr}
theorem pdf {k kk n : Nat} {F : List D -> Option D} {g : M (List D)} {x : Str} {p2 : Pos} (d : Def X.prog X.w X.K X.mg X.base x k n F) (hr : Room kk X.A) (hg : Gl X x) (ha : PA X (e :: es) (tDs X.K B G0 g)) (hk : k <= kk := by decide) (hn : (e :: es).length = n := by rfl)
  (hdb : (x == ("__debug__" : Str)) = false := by decide) (he : starEach (e :: es) X.env = (false, eval e X.env) :: starEach es X.env := by rfl) (hpl : (backTo pos (starEach es X.env)).any (·.1) = false := by rfl) :
  PE X (.Call (.Name x p2) (e :: es) [] pos) (tD X.K B G0 (dFun n F g)) := zhW d (hr.mono hk) hg ha hn hdb he hpl
end
theorem zkX {q p : Program} {loose : List Str} {mean : ExcName -> Option Value} {mg mb : Str -> Option Value} {h : Heap} {ix : List Nat} {P : Program} {w : World} {k : Nat} {F : List D -> Option D} {y : Str} {fa : Addr} (T : Top q loose mean mg mb h) (e : recsOf q = zcu p ix) (i : Nat) (x : Str) (hi : ix.contains i = true) (hn : zdY (stAt p i) = some x) (hfa : mg x = some (.ref fa))
  (hb : ∀ (kV doc pm : Value) (an : Option Addr) (cdv ct v : Value), bindArgs (PySem.W.fnOf x x (zaZ (stAt p i)) (zaC (stAt p i)) (zaf (stAt p i)) .none kV doc pm an cdv ct) ⟨[v], []⟩ = pure [(y, v)])
  (ok : ∀ (base : Heap) {f : Addr} {fd : FuncData}, Fun (whole h) x x (stAt p i) f fd -> FnOk P w (whole h) mg base CX0 k f fd [y] (spD (whole h) 1 F)) :
  ∃ fd : FuncData, (∀ (s : Shared) (v : Value), BindsTo s fd ⟨[v], []⟩ [(y, v)]) /\ ∀ base : Heap, FnOk P w (whole h) mg base CX0 k fa fd [y] (spD (whole h) 1 F) := by
 obtain ⟨f, fd, m, FU⟩ := zfl T e i x hi hn
 cases hfa.symm.trans m
 exact ⟨fd, zfm FU hb, fun base => ok base FU⟩
end DL
namespace DL
open PySem PySem.Spec L2
open PyProof.Rows hiding St
def zfp : D -> Bool
 | .str x => decide (x.length <= 1000)
 | .int i => decide (0 <= i) && decide (i < 10 ^ 10)
 | .none => true
 | _ => false
def zdw (nm : Str) (ds : List D) : Option (List D) := match zbm nm with
 | [] => (match ds with | [.str _] => some [] | _ => none)
 | f :: fs => if ds.length = (f :: fs).length /\ ds.all zfp = true then some ds else none
abbrev exD (nm : Str) (ds : List D) : D := .dict [(.none, .tuple [.str nm, .list ds])]
section
variable {K : PySem.W.Frag} {G H H' : Hp} {nm : Str} {C a : Addr} {bm : List Value} {vs : List V} {ds fs : List D} {dd : Option Addr}
theorem zjU {v : V} {d : D} (r : Rep K G v d) (h : zfp d = true) : ∃ y, FmtV v y /\ y.length <= 4000 := by
 cases r with
 | non => exact ⟨_, .non, by decide⟩
 | bl b => cases h
 | int i =>
  unfold zfp at h
  simp only [Bool.and_eq_true, decide_eq_true_eq] at h
  have h64 : i.natAbs < 2 ^ 64 := by have := h.2; have := h.1; omega
  refine ⟨_, .int i ?_, Nat.le_trans (toString_length_le h.1 (by decide : 0 < 10) h.2) (by decide)⟩
  by_cases z : i.natAbs = 0
  ·rw [z]; decide
  ·have := (Nat.log2_lt z).mpr h64
   omega
 | str x =>
  unfold zfp at h
  have h := of_decide_eq_true h
  exact ⟨x, .str x (Nat.le_trans h (by decide)), Nat.le_trans h (by decide)⟩
 | lst _ _ => cases h
 | tup _ _ => cases h
 | dic _ => cases h
 | exc _ _ _ _ => cases h
 | dct _ _ _ _ _ => cases h
theorem zfq : ∀ {vs : List V} {ds : List D}, Reps K G vs ds -> ds.all zfp = true -> ∀ u ∈ vs, ∃ y, FmtV u y /\ y.length <= 4000
 | _, _, .nil, _, u, hu => by cases hu
 | _, _, .cons r t, h, u, hu => by
  rw [List.all_cons, Bool.and_eq_true] at h
  rcases List.mem_cons.mp hu with rfl | hu
  ·exact zjU r h.1
  ·exact zfq t h.2 u hu
theorem zgB (r : Reps K G vs ds) (e : zdw nm ds = some fs) : zjm nm vs := by
 unfold zdw at e
 split at e
 ·rename_i hf
  split at e
  ·obtain ⟨v, rfl, q⟩ := r.one_inv
   exact .inl ⟨hf, _, by rw [q.str_inv]⟩
  ·cases e
 ·rename_i f l hf
  split at e
  ·rename_i c
   refine .inr ⟨by rw [hf]; simp, by rw [r.length, hf]; exact c.1, zfq r c.2⟩
  ·cases e
theorem zih (c : ClsK K nm C bm) (s : Same G H) (ha : H a = none) (r : Reps K G vs ds) (e : zdw nm ds = some fs) (p : zjn nm C a vs (upd H a (.ext (XO true a C none))) dd H') :
  ∃ G', Ext G H G' (upd H' a (.ext (XO false a C dd))) /\ Rep K G' (.ref a) (exD nm fs) /\ H' a = some (.ext (XO true a C dd)) := by
 unfold zdw at e
 rcases p with ⟨hf, rfl, rfl⟩ | ⟨hf, hl, dx, rfl, hd, hne, rfl⟩
 ·rw [hf] at e
  dsimp only at e
  split at e
  ·cases e
   refine ⟨upd G a (.ext (XO false a C none)), ?_, .exc (vs := []) c zaj ⟨hf, rfl⟩ .nil, zaj⟩
   rw [zhd]
   exact Ext.new s ha
  ·cases e
 ·split at e
  ·rename_i hf'; exact absurd hf' hf
  ·rename_i f l hf'
   split at e
   ·cases e
    have hd' : H dx = none := by rw [zak hne] at hd; exact hd
    have eH : upd (upd (upd (upd H a (.ext (XO true a C none))) a (.ext (XO true a C (some dx)))) dx (.ext (XD dx ((zbm nm).zip vs)))) a (.ext (XO false a C (some dx))) = upd (upd H a (.ext (XO false a C (some dx)))) dx (.ext (XD dx ((zbm nm).zip vs))) := by
     funext b
     by_cases h1 : b = a
     ·subst h1; rw [zaj, zak (Ne.symm hne), zaj]
     ·rw [zak h1]
      by_cases h2 : b = dx
      ·subst h2; rw [zaj, zaj]
      ·rw [zak h2, zak h1, zak h1, zak h2, zak h1]
    have x1 : Ext G H (upd G a (.ext (XO false a C (some dx)))) (upd H a (.ext (XO false a C (some dx)))) := Ext.new s ha
    have hd2 : upd H a (.ext (XO false a C (some dx))) dx = none := by rw [zak hne]; exact hd'
    have x2 := x1.trans (Ext.new (o := .ext (XD dx ((zbm nm).zip vs))) x1.gh hd2)
    exact ⟨_, by rw [eH]; exact x2, .exc (dd := some dx) (vs := vs) c (by rw [zak (Ne.symm hne)]; exact zaj) ⟨hl.symm, zaj⟩ (r.mono x2.g), by rw [zak (Ne.symm hne)]; exact zaj⟩
   ·cases e
end
def zcN (nm : Str) (g : M (List D)) : SM := sB g fun ds ρ => match zdw nm ds with | some fs => .ex ρ (exD nm fs) | none => .bad
section
variable {X : Cx} {B G0 : Hp} {KX : XW} {e a b c : Expr} {pos p2 cpos : Pos} {es : List Expr} {st : Stmt} {sts : List Stmt} {nm x : Str} {k kk n : Nat}
theorem zgC {g : M (List D)} (mk : MkX X.prog X.w X.K X.mg X.base nm k) (hr : Room kk X.A) (hc : X.calm = true) (hw : zcm X KX) (hg : Gl X nm) (ha : PA X (e :: es) (tDs X.K B G0 g)) (hk : k + 1 <= kk := by decide)
  (hdb : (nm == ("__debug__" : Str)) = false := by decide) (he : starEach (e :: es) X.env = (false, eval e X.env) :: starEach es X.env := by rfl) (hpl : (backTo cpos (starEach es X.env)).any (·.1) = false := by rfl) :
  PS X (.Raise (some (.Call (.Name nm p2) (e :: es) [] cpos)) none pos) (tS X.K B G0 KX (zcN nm g)) := PS.kin fun kin => by
 obtain ⟨C, bm, f, fd, ps, sp, hm, hkp, ck, xc, F, hb, hsp⟩ := mk
 refine psof (zfZ (KC := fun C' => C' = C) hc (fun C' z => by subst z; exact ⟨bm, f, xc _ _ kin⟩) hw (zfY (xc _ _ kin) F (hr.mono hk) hg hm hkp hb ha hdb he hpl)) fun Dn σ H q => ?_
 refine tS.bnd (R := Reps X.K) q fun vs H1 G1 ρ1 ds k1 r a => ?_
 cases z : zdw nm ds with
 | none => rw [z] at a; exact a.elim
 | some fs =>
  rw [z] at a
  have ar := zgB r z
  refine ⟨?_, fun ad had => hsp ad vs _ _ zaj ar fun dd H' p => ⟨rfl, ?_⟩⟩
  ·rcases ar with ⟨_, x, rfl⟩ | ⟨_, hl, _⟩
   ·exact (show 1 <= sizeLine by decide)
   ·rw [hl]
    unfold zbm
    split
    ·decide
    ·split
     ·decide
     ·split <;> decide
  ·obtain ⟨G', ex, rp, hx⟩ := zih ck k1.gh had r z p
   exact ⟨ad, C, dd, rfl, rfl, hx, a (.ref ad) σ G' _ (k1.ext ex) ex.g rp⟩
inductive XR where
 | val (d : D) | exc (d : D)
def spX (K : PySem.W.Frag) (n : Nat) (F : List D -> Option XR) : Sp := fun vs H Q E => ∃ G ds r, vs.length = n /\ Same G H /\ Reps K G vs ds /\ F ds = some r /\ match r with
 | .val d => ∀ v G' H', Ext G H G' H' -> Rep K G' v d -> Q v H'
 | .exc d => ∀ ad G' H', Ext G H G' H' -> Rep K G' (.ref ad) d -> E (.ref ad) none H'
def DefX (P : Program) (w : World) (K : PySem.W.Frag) (mg : Str -> Option Value) (base : Heap) (x : Str) (k n : Nat) (F : List D -> Option XR) : Prop :=
 ∃ (f : Addr) (fd : FuncData) (ps : List Str), mg x = some (.ref f) /\ PySem.W.keepIn K (.ref f) = true /\ zbt K fd ps [] /\ FnOk P w K mg base (CX1 P w) k f fd ps (spX K n F)
def aftX (K : PySem.W.Frag) (B G0 : Hp) (KX : XW) (r : Res XR) (G : Hp) (σ : St) (Q : VK) : Prop := match r with
 | .ok (.val d) ρ => ∀ v G' H', EOk K B G0 G' H' σ ρ -> Same G G' -> Rep K G' v d -> Q v H'
 | .ok (.exc d) ρ => ∀ v G' H', EOk K B G0 G' H' σ ρ -> Same G G' -> Rep K G' v d -> KX v σ H'
 | .bad => False
def tX (K : PySem.W.Frag) (B G0 : Hp) (KX : XW) (f : M XR) : TE := fun σ H Q => ∃ G ρ, EOk K B G0 G H σ ρ /\ aftX K B G0 KX (f ρ) G σ Q
def zfr (n : Nat) (F : List D -> Option XR) (g : M (List D)) : M XR := zam g fun xs => if xs.length = n then mOpt (F xs) else fun _ => .bad
theorem zgD {F : List D -> Option XR} {g : M (List D)} (d : DefX X.prog X.w X.K X.mg X.base x k n F) (hr : Room kk X.A) (hw : zcm X KX) (hg : Gl X x) (ha : PA X (e :: es) (tDs X.K B G0 g)) (hk : k <= kk := by decide) (hn : (e :: es).length = n := by rfl)
  (hdb : (x == ("__debug__" : Str)) = false := by decide) (he : starEach (e :: es) X.env = (false, eval e X.env) :: starEach es X.env := by rfl) (hpl : (backTo pos (starEach es X.env)).any (·.1) = false := by rfl) :
  PE X (.Call (.Name x p2) (e :: es) [] pos) (tX X.K B G0 KX (zfr n F g)) := by
 obtain ⟨f, fd, ps, h1, h2, h3, h4⟩ := d
 refine peof (zf1 h4 (hr.mono hk) hg h1 h2 h3 hw ha hdb he hpl) fun σ H Q ⟨G, ρ, k0, a⟩ => ?_
 refine ⟨G, ρ, k0, ?_⟩
 unfold zfr zam at a
 cases z : g ρ with
 | bad => rw [z] at a; exact a.elim
 | ok xs ρ1 =>
  rw [z] at a
  dsimp only at a
  intro vs G1 H1 k1 s1 r
  by_cases hl : xs.length = n
  ·rw [if_pos hl] at a
   cases zF : F xs with
   | none => rw [zF] at a; exact a.elim
   | some rr =>
    rw [zF] at a
    refine ⟨G1, xs, rr, by rw [r.length]; exact hl, k1.gh, r, zF, ?_⟩
    cases rr with
    | val d => exact fun v G' H' ex rv => a v G' H' (k1.ext ex) (s1.trans ex.g) rv
    | exc d =>
     intro ad' G' H' ex rv ad ev
     cases ev
     exact a _ G' H' (k1.ext ex) (s1.trans ex.g) rv
  ·rw [if_neg hl] at a; exact a.elim
def sX (f : M XR) (g : D -> SM) : SM := fun ρ => match f ρ with
 | .ok (.val d) ρ' => g d ρ'
 | .ok (.exc d) ρ' => .ex ρ' d
 | .bad => .bad
theorem tS.bndX {K : PySem.W.Frag} {f : M XR} {g : D -> SM} {Dn : Ends} {σ : St} {H : Hp} {P : V -> Hp -> Prop} (q : tS K B G0 KX (sX f g) Dn σ H)
  (i : ∀ v H' G' ρ' x, EOk K B G0 G' H' σ ρ' -> Rep K G' v x -> aftS K B G0 KX (g x ρ') G' Dn -> P v H') : tX K B G0 KX f σ H P := by
 obtain ⟨G, ρ, k, a⟩ := q
 refine ⟨G, ρ, k, ?_⟩
 unfold sX at a
 cases z : f ρ with
 | bad => rw [z] at a; exact a.elim
 | ok r ρ1 =>
  rw [z] at a
  cases r with
  | val d => exact fun v G' H' e s r => i v H' G' ρ1 d e r (aftS.mono s a)
  | exc d => exact fun v G' H' e s r => a v σ G' H' e s r
theorem zii {i : Nat} {y : Str} {f : M XR} (hN : X.N.Nodup) (hi : X.N[i]? = some y) (hx : Loc X.env.scope y) (he : PE X e (tX X.K B G0 KX f)) (hs : swapsWith e (some (.Name y p2)) pos.line X.env = pure false := by rfl)
  (hf : X.fn y = true ∨ X.env.scope.names.lookup y = some .local := by first | exact .inl rfl | exact .inr rfl | assumption) : PS X (.Assign [.Name y p2] e pos) (tS X.K B G0 KX (sX f fun d ρ => match gN i d ρ with | some ρ' => .nx ρ' | none => .bad)) :=
 psof (zex hN hi hx he hs hf) fun D σ H q => tS.bndX q fun v H' G' ρ' x k r a => by
  unfold gN at a
  split at a
  ·rename_i ρ2 hz
   split at hz
   ·rename_i hi2
    cases hz
    exact a _ G' H' (k.setPub r hi2) (.refl _)
   ·cases hz
  ·exact a.elim
def runX (N : List Str) (g : SM) (ds : List D) : Option XR := match g (za0 N ds) with
 | .rt d => some (.val d)
 | .nx _ => some (.val .none)
 | .ex _ d => if zds d = true then some (.exc d) else none
 | _ => none
abbrev kxE (E : XK) : XW := fun v _ H => ∃ e, v = .ref e /\ E (.ref e) none H
theorem okX {P : Program} {w : World} {K : PySem.W.Frag} {mg : Str -> Option Value} {base : Heap} {x qual : Str} {st : Stmt} {f : Addr} {fd : FuncData} {N ps : List Str} {k n : Nat} {g : SM} (F : Fun K x qual st f fd) (S : zbI N ps (zaf st)) (hn : ps.length = n)
  (der : ∀ (cdv : Value) (A : Around) (outer : List Env) (s : Shared) (H : Hp) (E : XK) (B G0 : Hp), Room k (A.deeper (envOfC qual (zaf st) s.heap.objs.size f cdv)) ->
   PSs (cxOf (CX1 P w) P w K mg base N qual (zaf st) f cdv A outer s H E) (zaC st) (tS K B G0 (kxE E) g)) : FnOk P w K mg base (CX1 P w) (k + 1) f fd ps (spX K n (runX N g)) := by
 obtain ⟨oc, od, kV, doc, pm, an, cdv, ct, osl, rfl, lk, hcd⟩ := F.ex
 refine zi8 lk hcd S (fun vs H Q E h => ?_) fun A outer s H vs Q E hr h => ?_
 ·obtain ⟨_, _, _, hl, _⟩ := h
  rw [hl, hn]
 ·obtain ⟨G, ds, r, hl, sg, rp, hF, q⟩ := h
  refine ⟨_, der cdv A outer s H E H G hr, G, za0 N ds, zdO sg rp, ?_⟩
  unfold runX at hF
  cases z : g (za0 N ds) with
  | rt d' =>
   rw [z] at hF
   cases hF
   exact fun v G' H' ex rr => q v G' H' ex rr
  | nx ρ =>
   rw [z] at hF
   cases hF
   exact fun σ' G' H' k' _ => q .non G' H' k'.exit .non
  | ex ρ d =>
   rw [z] at hF
   dsimp only at hF
   split at hF
   ·rename_i hx
    cases hF
    intro v σ' G' H' k' _ rv
    obtain ⟨ad, rfl⟩ : ∃ ad, v = .ref ad := by
     cases rv with
     | exc _ _ _ _ => exact ⟨_, rfl⟩
     | dct _ _ _ _ _ => exact ⟨_, rfl⟩
     | _ => cases hx
    exact ⟨ad, rfl, q ad G' H' k'.exit rv⟩
   ·cases hF
  | bk ρ => rw [z] at hF; cases hF
  | ct ρ => rw [z] at hF; cases hF
  | bad => rw [z] at hF; cases hF
end
end DL
namespace DL
open PySem PySem.Spec L2
open PyProof.Rows hiding St
section
variable {K : PySem.W.Frag} {B G0 G H : Hp} {σ : St} {ρ : DEnv}
end
def CK (K : PySem.W.Frag) (mg : Str -> Option Value) (x : Str) : Prop := ∃ D bm, mg x = some (.ref D) /\ ClsK K x D bm
def zdf (x : Str) : D -> Bool
 | .dict [(.none, .tuple [.str nm, _])] => decide (x = nm) || decide (x = "DealError")
 | _ => false
def zdx (x : Str) (g h : SM) : SM := fun ρ => match g ρ with
 | .ex ρ1 d => if zdf x d = true then (match h ρ1 with
  | .nx ρ2 => .nx ρ2
  | .bk ρ2 => .bk ρ2
  | .ct ρ2 => .ct ρ2
  | .rt d2 => .rt d2
  | _ => .bad) else .bad
 | o => o
section
variable {X : Cx} {B G0 : Hp} {KX : XW} {e a b c : Expr} {pos p2 cpos np hpos : Pos} {es : List Expr} {x n : Str} {k kk : Nat}
theorem zfs {K : PySem.W.Frag} {G : Hp} {v : V} {d : D} {D' : Addr} {bmD : List Value} (r : Rep K G v d) (h : zdf x d = true) (cD : ClsK K x D' bmD) :
  ∃ a C dd bm, v = .ref a /\ KC K C bm /\ G a = some (.ext (XO false a C dd)) /\ (Value.ref C :: bm).contains (.ref D') = true := by
 unfold zdf at h
 split at h
 ·obtain ⟨a, C, dd, bm, nm', vs, ds, rfl, e0, c, hx, _, _⟩ := r.exc_inv
  cases e0
  exact ⟨a, C, dd, bm, rfl, ⟨_, c⟩, hx, by rw [c.has cD]; exact h⟩
 ·cases h
theorem zij {g h : SM} {body suite : List Stmt} {b₀ : Stmt} {st : List Env} (cD : CK X.K X.mg x) (hg : Gl X x)
  (hb : ∀ (KX' : XW) (W : Value -> Shared -> Prop) (pn : List (Addr × Obj)), zcm (X.tried W pn) KX' -> PSs (X.tried W pn) body (tS X.K B G0 KX' g)) (hs : ∀ a, PSs (X.suite a) (b₀ :: suite) (tS X.K B G0 KX0 h))
  (hstk : X.stack = X.env :: st := by rfl) (hfr : X.env.frame = some X.env.locals := by rfl) (hdb : (x == ("__debug__" : Str)) = false := by decide) :
  PS X (.Try body [.ExceptHandler (some (.Name x np)) none (b₀ :: suite) hpos] [] [] pos) (tS X.K B G0 KX (zdx x g h)) := PS.kin fun kin => by
 obtain ⟨D', bmD, hm, ck⟩ := cD
 obtain ⟨fD, xD⟩ := ck.cls (model X.prog X.w) X.base kin
 refine psof (zhy (KC := KC X.K) (tb := fun KX' => tS X.K B G0 KX' g) (ts := tS X.K B G0 KX0 h) hstk hfr (zf8 kin) xD hg hm hb hs hdb) fun Dn σ H ⟨G, ρ, k, a⟩ => ?_
 refine ⟨G, ρ, k, ?_⟩
 unfold zdx at a
 cases z : g ρ with
 | nx ρ1 => rw [z] at a; exact a
 | rt d => rw [z] at a; exact a
 | bk ρ1 => rw [z] at a; exact a
 | ct ρ1 => rw [z] at a; exact a
 | bad => rw [z] at a; exact a.elim
 | ex ρ1 d =>
  rw [z] at a
  dsimp only at a
  intro v σ1 G1 H1 k1 s1 r
  by_cases hc : zdf x d = true
  ·rw [if_pos hc] at a
   obtain ⟨ad, C, dd, bm, rfl, kc, hx, hct⟩ := zfs r hc ck
   refine ⟨ad, C, dd, bm, rfl, kc, k1.gh _ _ hx, hct, G1, _, k1, ?_⟩
   cases z2 : h ρ1 with
   | nx ρ2 => rw [z2] at a; exact fun σ2 G2 H2 k2 s2 => a _ G2 H2 k2 (s1.trans s2)
   | bk ρ2 => rw [z2] at a; exact fun σ2 G2 H2 k2 s2 => a _ G2 H2 k2 (s1.trans s2)
   | ct ρ2 => rw [z2] at a; exact fun σ2 G2 H2 k2 s2 => a _ G2 H2 k2 (s1.trans s2)
   | rt d2 => rw [z2] at a; exact a
   | ex _ _ => rw [z2] at a; exact a.elim
   | bad => rw [z2] at a; exact a.elim
  ·rw [if_neg hc] at a; exact a.elim
end
end DL
namespace DL
open PySem PySem.Spec L2
open PyProof.Rows hiding St
def zik (o : Expr) (name : Str) (apos : Pos) (args : List Expr) (pos : Pos) : Prop := ∀ env : Env, ∃ pl : Sem Bool, eval (.Call (.Attribute o name apos) args [] pos) env = (do
   let ov ← eval o env
   standAt apos.atName
   let (f, first) ← holding [ov] (getMethod ov name pl)
   callWith pos f first (backTo pos (starEach args env)) (backToKw pos (keywordEach [] env)))
section
variable {P : Program} {w : World} {K : PySem.W.Frag} {mg : Str -> Option Value} {base : Heap} {st : Stmt} {f f0 D : Addr} {fd fd0 : FuncData} {q : Str} {p1 p2 p3 p4 p5 p6 p7 p8 p9 r1 r2 r3 r4 r5 r6 r7 r8 r9 q1 q2 : Pos} {j1 j2 : Nat}
theorem zil (F : Fun K "__init__" q st f fd) (hn : FnNm (zaf st) ["self", "text"] ["ValueError"]) (hm : mg "ValueError" = none)
  (hb : zaC st = [.Expr (.Call (.Attribute (.Name "ValueError" p1) "__init__" p2) [.Name "self" p3, .Name "text" p4] [] p5) p6])
  (ht : zik (.Name "ValueError" p1) "__init__" p2 [.Name "self" p3, .Name "text" p4] p5) :
  FnOk P w K mg base CX0 1 f fd ["self", "text"] (zcA (KC K)) := by
 refine F.ok (fq hn 2) (fun vs H Q E ⟨a, C, dd, bm, x, e, _⟩ => by rw [e]; rfl) fun cdv A outer s H vs Q E hr ⟨a, C, dd, bm, x, e, kc, hx, hq⟩ => ?_
 subst e
 rw [hb]
 obtain ⟨pl, ht⟩ := ht (cxOf CX0 P w K mg base ["self", "text"] q (zaf st) f cdv A outer s H E).nox.env
 refine ⟨zhj (zg0 (KC K) (zeF (tVar 0) (zeF (tVar 1) tNil))), PSs.kin fun kin => zdk (zdl (zf2 (pl := pl) (zf8 kin) (gq hn 0) hm (zbf (pq hn 0) (zbf (pq hn 1) zcp)) (ht := ht))), ?_⟩
 exact ⟨_, rfl, _, rfl, a, C, dd, bm, _, rfl, kc, hx, hq⟩
theorem zcf (x y : Str) : (x ++ y).length = x.length + y.length := by
 show (x.cps ++ y.cps).size = x.cps.size + y.cps.size
 exact Array.size_append
theorem zim {t1 g : Str} (M : zf3 K D "__init__" f0) (F0 : FnOk P w K mg base CX0 1 f0 fd0 ["self", "text"] (zcA (KC K))) (hb0 : zbt K fd0 ["self", "text"] []) (hm : mg "DealError" = some (.ref D))
  (F : Fun K "__init__" q st f fd) (hn : FnNm (zaf st) ["self", g] ["DealError"]) (hg : g ∈ (["part", "number", "row"] : List Str)) (hd1 : (g == ("__debug__" : Str)) = false := by decide) (hd2 : (g == ("__classdict__" : Str)) = false := by decide)
  (hb : zaC st = [.Expr (.Call (.Attribute (.Name "DealError" p1) "__init__" p2) [.Name "self" p3, .JoinedStr [.Constant (.str t1) j1 p4, .FormattedValue (.Name g p5) (-1) none p6] r1] [] r2) r3,
   .Assign [.Attribute (.Name "self" r4) g r5] (.Name g r6) r7])
  (ht : zik (.Name "DealError" p1) "__init__" p2 [.Name "self" p3, .JoinedStr [.Constant (.str t1) j1 p4, .FormattedValue (.Name g p5) (-1) none p6] r1] r2)
  (hl1 : t1.length <= 1000) :
  FnOk P w K mg base CX0 2 f fd ["self", g] (zdq (KC K) [g]) := by
 refine F.ok (fq hn 2) (fun vs H Q E ⟨a, C, bm, us, e, hl, _⟩ => by rw [e, List.length_cons, hl]; rfl) fun cdv A outer s H vs Q E hr ⟨a, C, bm, us, e, hl, kc, hx, hf, hq⟩ => ?_
 subst e
 match us, hl with
 | [u1], _ =>
 rw [hb]
 obtain ⟨pl, ht⟩ := ht (cxOf CX0 P w K mg base ["self", g] q (zaf st) f cdv A outer s H E).nox.env
 obtain ⟨y1, f1, g1⟩ := hf u1 (by simp)
 have v1 : ∀ {pos : Pos}, PE (cxOf CX0 P w K mg base ["self", g] q (zaf st) f cdv A outer s H E).nox (.Name g pos) (tVar 1) := pq hn 1 rfl hd1 hd2
 refine ⟨tSeq (zhj (zhm (zcA (KC K)) [] E0 (zeF (tVar 0) (zeF (zf5 [tC (.str t1), tFmt (tVar 1)] Str.empty) tNil)))) (zjj (KC K) (tVar 0) (tVar 1) g),
  PSs.kin fun kin => zdF (zdl (zf4 (pl := pl) M F0 hr hb0 (gq hn 0) hm (zbf (pq hn 0) (zbf (zeR (.cons zgU (.cons (zjk v1) .nil))) zcp)) (ht := ht)))
   (zdk (zhD (zf8 kin) (fun C bm ⟨nm, c⟩ => c.fld _ _ kin g hg) (pq hn 0) v1 rfl)), ?_⟩
 have e0 : (Str.empty : Str).length = 0 := rfl
 have lz : (10000 : Nat) <= sizeLine := by decide
 refine ⟨_, rfl, t1, rfl, by rw [zcf]; omega, _, rfl, y1, f1, _, rfl, by rw [zcf, zcf]; omega, by rw [zcf, zcf]; omega, ?_⟩
 refine ⟨a, C, none, bm, _, rfl, kc, hx, ?_⟩
 exact ⟨_, rfl, _, rfl, a, C, bm, rfl, kc, .inl ⟨hx, fun dx hd hne => hq dx hd hne⟩⟩
end
end DL
namespace DL
open PySem PySem.Spec L2
open PyProof.Rows hiding St
structure XSt (h : Heap) (nm : Str) (own : Option Stmt) (C N : Addr) (bm : List Value) (mN : Str -> Option Value) : Prop where
 ad : h.nsMap mainGlobals nm = some (.ref C)
 obj : ∃ q bs sn sub ab col dd k0 k1 k2 k3 k5, h.get? C = some (excClassObj nm q C N bs bm true sn sub ab col dd k0 k1 k2 k3 k5 "ValueError.__new__")
 ns : h.Ns N mN
 quiet : ∀ x ∈ zes, mN x = none
 up : nm = "DealError" /\ bm = VB ∨ nm ≠ "DealError" /\ ∃ D, h.nsMap mainGlobals "DealError" = some (.ref D) /\ bm = .ref D :: VB
 init : match own with
  | none => mN "__init__" = none
  | some st => ∃ f o pm cd doc, mN "__init__" = some (.ref f) /\ h.get? f = some o /\ o.cls = .type "function" /\ o.data = .func (methDef "__init__" (zcP nm) (zaZ st) (zaC st) (zaf st) pm cd doc) /\ h.CodeRec cd (zcP nm)
section
variable {h h' : Heap} {nm : Str} {own : Option Stmt} {C N : Addr} {bm : List Value} {mN : Str -> Option Value}
theorem zcg {a : Addr} {x : Str} {v : Value} (e : h.nsMap a x = some v) (k : ∀ b o, h.get? b = some o -> h'.get? b = some o) : h'.nsMap a x = some v := by
 unfold Heap.nsMap at e ⊢
 cases z : h.get? a with
 | none => rw [z] at e; cases e
 | some o => rw [k _ _ z]; rw [z] at e; exact e
theorem XSt.keeps (x : XSt h nm own C N bm mN) (k : ∀ b o, h.get? b = some o -> h'.get? b = some o) : XSt h' nm own C N bm mN where
 ad := zcg x.ad k
 obj := let ⟨q, bs, sn, sub, ab, col, dd, k0, k1, k2, k3, k5, e⟩ := x.obj; ⟨q, bs, sn, sub, ab, col, dd, k0, k1, k2, k3, k5, k _ _ e⟩
 ns := x.ns.keeps k
 quiet := x.quiet
 up := x.up.imp id fun ⟨a, D, b, c⟩ => ⟨a, D, zcg b k, c⟩
 init := by
  have z := x.init
  cases own with
  | none => exact z
  | some st =>
   obtain ⟨f, o, pm, cd, doc, h1, h2, h3, h4, h5⟩ := z
   exact ⟨f, o, pm, cd, doc, h1, k _ _ h2, h3, h4, h5.keeps k⟩
theorem dA (st : Stmt) : ziE st = zaZ st := by cases st <;> rfl
theorem dB (st : Stmt) : ziF st = zaC st := by cases st <;> rfl
theorem dS (st : Stmt) : zgS st = zaf st := by cases st <;> rfl
structure XYP (p : Program) (l : XL0) (h : Heap) : Prop where
 st : ∃ mc, h.Ns cStatics mc /\ mc "thirdparty.any" = none
 cl : ∀ c ∈ l, ∃ C N bm mN, XSt h c.1 (c.2.map fun i => zaY (stAt p i)) C N bm mN
theorem XYP.keeps {p : Program} {l : XL0} (x : XYP p l h) (k : ∀ b o, h.get? b = some o -> h'.get? b = some o) : XYP p l h' :=
 ⟨let ⟨mc, a, b⟩ := x.st; ⟨mc, a.keeps k, b⟩, fun c hc => let ⟨C, N, bm, mN, z⟩ := x.cl c hc; ⟨C, N, bm, mN, z.keeps k⟩⟩
theorem zjV {st : Stmt} {n : Bool} (b : xB h nm n = true) (hown : own = none -> n = false) (hs : ∀ st, own = some st -> xSh h nm = some (true, shOf nm st)) : ∃ C N bm mN, XSt h nm own C N bm mN := by
 unfold xB at b
 split at b
 ·rename_i C hC
  split at b
  ·rename_i t dd cd sl ho
   simp only [Bool.and_eq_true, Bool.not_eq_true', beq_iff_eq, Bool.or_eq_true, List.all_eq_true, Option.isNone_iff_eq_none] at b
   obtain ⟨⟨⟨⟨⟨⟨⟨⟨b1, b2⟩, b3⟩, b4⟩, b5⟩, b6⟩, b7⟩, b8⟩, b9⟩ := b
   obtain ⟨cn, cb, cm, cns, cq, chd, csn, csub, cab, ccol, cdel⟩ := cd
   simp only at b2 b3 b4 b6 b7 b8 b9
   subst b1 b2 b3 b4
   split at b5
   ·rename_i k0 k1 k2 k3 k4 k5 hsl
    have b5 := of_decide_eq_true b5
    subst b5
    have hsl' : sl = #[k0, k1, k2, k3, some (.builtin "ValueError.__new__"), k5] := by
     rw [← Array.toList_inj, hsl]
    subst hsl'
    have key : ∃ bm, cm = .ref C :: bm /\ (cn = "DealError" /\ bm = VB ∨ cn ≠ "DealError" /\ ∃ D, h.nsMap mainGlobals "DealError" = some (.ref D) /\ bm = .ref D :: VB) := by
     split at b9
     ·rename_i e
      exact ⟨VB, of_decide_eq_true b9, .inl ⟨e, rfl⟩⟩
     ·rename_i e
      split at b9
      ·rename_i D hD
       exact ⟨.ref D :: VB, of_decide_eq_true b9, .inr ⟨e, D, hD, rfl⟩⟩
      ·cases b9
    obtain ⟨bm, rfl, up⟩ := key
    refine ⟨C, cns, bm, h.nsMap cns, hC, ⟨_, _, _, _, _, _, _, _, _, _, _, _, ho⟩, .of_isNs b6, b7, up, ?_⟩
    cases own with
    | none =>
     rcases b8 with b8 | b8
     ·rw [hown rfl] at b8; cases b8
     ·exact b8
    | some st =>
     have e := hs st rfl
     unfold xSh at e
     rw [hC] at e
     dsimp only at e
     rw [ho] at e
     dsimp only at e
     split at e
     ·rename_i a o fd sh hf hsh
      simp only [Option.some.injEq, Prod.mk.injEq, decide_eq_true_eq] at e
      obtain ⟨e1, rfl⟩ := e
      obtain ⟨g1, g2, g3⟩ := Heap.fnAt_spec hf
      unfold Heap.shapeAt at hsh
      rw [hf] at hsh
      obtain ⟨n, q, ps, b, sc, g, cl, df, kd, doc, pm, an, code, ct, bi⟩ := fd
      simp only [Option.map_some, shOf, dA, dB, dS, Option.some.injEq, FnShape.mk.injEq] at hsh
      obtain ⟨rfl, rfl, rfl, rfl, rfl, rfl, rfl, rfl, rfl, rfl, rfl, rfl, hc⟩ := hsh
      exact ⟨a, o, pm, code, doc, g1, g2, e1, g3, .of_ok hc⟩
     ·cases e
   ·cases b5
  ·cases b
 ·cases b
theorem zjW {p : Program} {l : XL0} {s : Shared} (e : xSeen l s = xGood p l) : XYP p l s.heap := by
 unfold xSeen xGood at e
 obtain ⟨e1, e2⟩ := Prod.mk.inj e
 obtain ⟨e1, e3⟩ := Bool.and_eq_true_iff.mp e1
 refine ⟨⟨_, .of_isNs e1, Option.isNone_iff_eq_none.mp e3⟩, fun c hc => ?_⟩
 have q := List.map_inj_left.mp e2 c hc
 obtain ⟨q1, q2⟩ := Prod.mk.inj q
 refine zjV (st := .Pass ⟨0, 0, 0, 0⟩) q1 (fun z => ?_) fun st z => ?_
 ·cases hz : c.2 with
  | none => rfl
  | some i => rw [hz] at z; cases z
 ·cases hz : c.2 with
  | none => rw [hz] at z; cases z
  | some i =>
   rw [hz] at z q2
   cases z
   exact q2
end
end DL
namespace DL
open PySem PySem.Spec L2
open PyProof.Rows hiding St
theorem zha : mroOf (.type "ValueError") = pure VB := by kernel_rfl
theorem zkY : typeLookup (.type "ValueError") "__setattr__" = pure (some (.builtin "object.__setattr__")) := by kernel_rfl
theorem zkZ : typeLookup (.type "ValueError") "__getattribute__" = pure (some (.builtin "BaseException.__getattribute__")) := by kernel_rfl
theorem zk0 : typeLookup (.type "ValueError") "__getattr__" = pure none := by kernel_rfl
theorem zk1 : typeLookup (.type "ValueError") "__class__" = pure (some (.builtin "object.__class__")) := by kernel_rfl
theorem zin : typeLookup (.type "ValueError") "part" = pure none := by kernel_rfl
theorem zft : typeLookup (.type "ValueError") "number" = pure none := by kernel_rfl
theorem zjX : typeLookup (.type "ValueError") "row" = pure none := by kernel_rfl
theorem zfu (v : Value) : refuseLoop v "__setattr__" VB = pure () := by kernel_rfl
section
variable {h h' : Heap} {nm : Str} {own ownD : Option Stmt} {C N D ND : Addr} {bm : List Value} {mN mD : Str -> Option Value} {M : Model}
theorem XSt.along (x : XSt h nm own C N bm mN) (xD : XSt h "DealError" ownD D ND VB mD) {y : Str} {r : Option Value} (hy : y ∈ zes) (hB : typeLookup (.type "ValueError") y = pure r) : zaH M C y r h := by
 obtain ⟨q, bs, sn, sub, ab, col, dd, k0, k1, k2, k3, k5, e⟩ := x.obj
 obtain ⟨q', bs', sn', sub', ab', col', dd', k0', k1', k2', k3', k5', e'⟩ := xD.obj
 refine zaH.of e (zbz.miss e x.ns (x.quiet y hy) ?_)
 rcases x.up with ⟨_, rfl⟩ | ⟨_, D', hD', rfl⟩
 ·exact zbz.base zha hB
 ·have := hD'.symm.trans xD.ad
  cases this
  exact zbz.miss e' xD.ns (xD.quiet y hy) (zbz.base zha hB)
theorem XSt.tail (x : XSt h nm own C N bm mN) : Tail VB bm := by
 rcases x.up with ⟨_, rfl⟩ | ⟨_, D', _, rfl⟩
 ·exact Tail.base
 ·exact Tail.own Tail.base
def zgE (h : Heap) (own ownD : Option Stmt) (mN mD : Str -> Option Value) (nm : Str) (f : Addr) : Prop := match own with
 | some _ => mN "__init__" = some (.ref f)
 | none => mD "__init__" = some (.ref f)
theorem XSt.xcls (x : XSt h nm own C N bm mN) {std : Stmt} (xD : XSt h "DealError" (some std) D ND VB mD) {f : Addr} (hf : zgE h own (some std) mN mD nm f) : XCls M h C bm f := by
 have hD := xD.init
 obtain ⟨fD, oD, pmD, cdD, docD, g1, g2, g3, g4, g5⟩ := hD
 obtain ⟨q, bs, sn, sub, ab, col, dd, k0, k1, k2, k3, k5, e⟩ := id x.obj
 obtain ⟨q', bs', sn', sub', ab', col', dd', k0', k1', k2', k3', k5', e'⟩ := id xD.obj
 have fin : zaH M C "__init__" (some (.ref f)) h /\ ∃ o, h.get? f = some o /\ o.cls = .type "function" := by
  have z := x.init
  unfold zgE at hf
  cases own with
  | some st =>
   obtain ⟨f', o, pm, cd, doc, h1, h2, h3, h4, h5⟩ := z
   have hf : mN "__init__" = some (.ref f) := hf
   rw [h1] at hf
   cases hf
   exact ⟨zaH.of e (zbz.hit e x.ns h1), o, h2, h3⟩
  | none =>
   have hf : mD "__init__" = some (.ref f) := hf
   have z : mN "__init__" = none := z
   rw [g1] at hf
   cases hf
   refine ⟨zaH.of e (zbz.miss e x.ns z ?_), oD, g2, g3⟩
   rcases x.up with ⟨hn, rfl⟩ | ⟨_, D', hD', rfl⟩
   ·subst hn
    have := x.ad.symm.trans xD.ad
    cases this
    rw [e] at e'
    cases e'
    have := x.ns.eq_nsMap.trans xD.ns.eq_nsMap.symm
    rw [this] at z
    rw [g1] at z
    cases z
   ·have := hD'.symm.trans xD.ad
    cases this
    exact zbz.hit e' xD.ns g1
 refine ⟨⟨nm, q, N, bs, sn, sub, ab, col, dd, k0, k1, k2, k3, k5, e⟩, x.tail, fin.1, fin.2, x.along xD (by decide) zkY, x.along xD (by decide) zkZ, x.along xD (by decide) zk0, x.along xD (by decide) zk1, fun v => ?_⟩
 rcases x.up with ⟨_, rfl⟩ | ⟨_, D', _, rfl⟩
 ·exact zfu v
 ·rw [refuseLoop_ref]; exact zfu v
theorem zaP (k : (whole h).In h') : ∀ b o, h.get? b = some o -> h'.get? b = some o := fun b o e => k b o (by rw [zas]; exact e)
theorem zbN {mA : Str -> Option Value} {a : Addr} (n : h.Ns a mA) (y : Str) : PySem.W.nsIn (whole h) a y = some (mA y) := by
 obtain ⟨⟨oc, od, dt, os⟩, es, ep, ho, hd, hk, hf⟩ := n
 have hd : dt = _ := hd
 subst hd
 unfold PySem.W.nsIn
 rw [zas, ho]
 dsimp only
 have := hf y
 unfold nsFind findBy at this
 rw [← Array.find?_toList] at this
 dsimp only at this
 rw [← this]
 cases z : es.toList.find? (·.key.isStr y) with
 | some e => rfl
 | none =>
  dsimp only
  rw [if_neg]
  ·rfl
  ·rw [List.any_eq_true]
   rintro ⟨e, he, hr⟩
   obtain ⟨n, t, hk⟩ := hk e (Array.mem_toList_iff.mp he)
   unfold DictEntry.refKey at hr
   rw [hk] at hr
   cases hr
theorem XSt.nmd (x : XSt h nm own C N bm mN) : NmAt (whole h) nm C := by
 obtain ⟨q, bs, sn, sub, ab, col, dd, k0, k1, k2, k3, k5, e⟩ := x.obj
 exact ⟨_, _, by rw [zas]; exact e, rfl, rfl⟩
theorem zch {mg : Str -> Option Value} (n : h.Ns mainGlobals mg) (e : h.nsMap mainGlobals nm = some (.ref C)) : zf7 (whole h) nm = some C := by
 unfold zf7
 rw [zbN n, n.eq_nsMap, e]
theorem XSt.clsK {mg : Str -> Option Value} (n : h.Ns mainGlobals mg) (x : XSt h nm own C N bm mN) {std : Stmt} (xD : XSt h "DealError" (some std) D ND VB mD) {f : Addr} (hf : zgE h own (some std) mN mD nm f) : ClsK (whole h) nm C bm where
 ad := zch n x.ad
 nmd := x.nmd
 up := x.up.imp id fun ⟨a, D', b, c⟩ => ⟨a, D', zch n b, c, by
  have := b.symm.trans xD.ad
  cases this
  exact xD.nmd⟩
 cls := fun M h' k => ⟨f, (x.keeps (zaP k)).xcls (xD.keeps (zaP k)) (by
  unfold zgE at hf ⊢
  cases own <;> exact hf)⟩
 fld := fun M h' k y hy => by
  have z := x.keeps (zaP k)
  have zD := xD.keeps (zaP k)
  simp only [List.mem_cons, List.not_mem_nil, or_false] at hy
  rcases hy with rfl | rfl | rfl
  ·exact z.along zD (by decide) zin
  ·exact z.along zD (by decide) zft
  ·exact z.along zD (by decide) zjX
theorem XSt.keep (x : XSt h nm own C N bm mN) : PySem.W.keepIn (whole h) (.ref C) = true := by
 obtain ⟨q, bs, sn, sub, ab, col, dd, k0, k1, k2, k3, k5, e⟩ := x.obj
 unfold PySem.W.keepIn
 dsimp only
 rw [zas, e]
 dsimp only
 unfold PySem.W.specialIn PySem.W.typeIn
 dsimp only
 rw [zas, e]
 kernel_rfl
theorem XSt.fun {st : Stmt} (x : XSt h nm (some st) C N bm mN) : ∃ f fd, mN "__init__" = some (.ref f) /\ Fun (whole h) "__init__" (zcP nm) st f fd := by
 obtain ⟨f, ⟨oc, od, dt, osl⟩, pm, cd, doc, h1, h2, h3, h4, h5⟩ := x.init
 have h4 : dt = _ := h4
 subst h4
 refine ⟨f, _, h1, ⟨⟨oc, od, .none, doc, pm, _, cd, _, osl, rfl, by rw [zas]; exact h2, ?_⟩, ?_⟩⟩
 ·obtain ⟨c, ⟨_, _, dc, _⟩, vs, t, rfl, g1, g2, g3⟩ := h5
  have g2 : dc = _ := g2
  subst g2
  unfold PySem.W.codeIn
  dsimp only
  rw [zas, g1]
  dsimp only
  have g4 : vs.toList[1]? = some (.str (zcP nm) t) := by rw [Array.getElem?_toList]; exact g3
  cases hv : vs.toList with
  | nil => rw [hv] at g4; cases g4
  | cons v0 r =>
   rw [hv] at g4
   cases r with
   | nil => cases g4
   | cons v1 r => cases g4; exact beq_self_eq_true _
 ·unfold PySem.W.keepIn
  dsimp only
  rw [zas, h2]
theorem tf1 {K : PySem.W.Frag} : PySem.W.findIn K (.type "type") "__init__" = some (some (.builtin "type.__init__")) := by kernel_rfl
theorem tf2 {K : PySem.W.Frag} : PySem.W.specialIn K (.builtin "type.__init__") "__get__" = some (some (.builtin "wrapper_descriptor.__get__")) := by kernel_rfl
theorem tf3 {K : PySem.W.Frag} : PySem.W.takesIn K (.builtin "type.__init__") = some false := by kernel_rfl
theorem tf4 {K : PySem.W.Frag} : PySem.W.findIn K (.type "type") "__getattribute__" = some (some (.builtin "type.__getattribute__")) := by kernel_rfl
theorem tf5 {K : PySem.W.Frag} : PySem.W.subIn K (.type "type") (.type "type") = some true := by kernel_rfl
theorem XSt.clsFn {st : Stmt} (x : XSt h "DealError" (some st) D ND VB mD) (hs : ∃ mc, h.Ns cStatics mc /\ mc "thirdparty.any" = none) {f : Addr} (hf : mD "__init__" = some (.ref f)) : zf3 (whole h) D "__init__" f := by
 obtain ⟨f', o, pm, cd, doc, h1, h2, h3, h4, h5⟩ := x.init
 rw [h1] at hf
 cases hf
 obtain ⟨q, bs, sn, sub, ab, col, dd, k0, k1, k2, k3, k5, e⟩ := x.obj
 obtain ⟨mc, hc1, hc2⟩ := hs
 have tD : PySem.W.typeIn (whole h) (.ref D) = some (.type "type") := by
  unfold PySem.W.typeIn
  dsimp only
  rw [zas, e]
  rfl
 have tf : PySem.W.typeIn (whole h) (.ref f) = some (.type "function") := by
  unfold PySem.W.typeIn
  dsimp only
  rw [zas, h2]
  exact congrArg some h3
 refine ⟨?_, ?_, ?_, ?_⟩
 ·unfold PySem.W.specialIn
  rw [tD]
  exact tf4 (K := whole h)
 ·unfold PySem.W.readsIn
  rw [zbN hc1, hc2, tD, tf4, tf5]
  rfl
 ·unfold PySem.W.findCls
  rw [tf1]
  dsimp only [Option.bind_some]
  rw [tf2]
  dsimp only [Option.bind_some]
  rw [tf3]
  dsimp only [Option.bind_some]
  have hfi : PySem.W.findIn (whole h) (.ref D) "__init__" = some (some (.ref f)) := by
   unfold PySem.W.findIn
   dsimp only
   rw [zas, e]
   dsimp only
   unfold PySem.W.alongIn PySem.W.ownIn
   dsimp only
   rw [zas, e]
   dsimp only
   rw [zbN x.ns, h1]
  rw [hfi]
  dsimp only [Option.bind_some]
  rw [if_neg (show ¬ Builtin.heldUnderItsOwnName "__init__" (.ref f) = true from fun z => by cases z), tf]
  rfl
 ·unfold PySem.W.keepIn
  dsimp only
  rw [zas, h2]
  obtain ⟨oc, od, dt, osl⟩ := o
  have h4 : dt = _ := h4
  subst h4
  rfl
end
end DL
namespace DL
open PySem PySem.Spec L2
open PyProof.Rows hiding St
section
variable {h : Heap} {mg : Str -> Option Value} {p : Program} {l : XL0} {i j : Nat} {c : Str × Option Nat} {p1 p2 p3 p4 p5 p6 p7 p8 p9 r1 r2 r3 r4 r5 r6 r7 r8 r9 q1 q2 : Pos} {j1 j2 : Nat}
structure Root (p : Program) (h : Heap) (mg : Str -> Option Value) (i : Nat) (D f : Addr) (fd : FuncData) : Prop where
 at' : mg "DealError" = some (.ref D)
 ex : ∃ ND mD, XSt h "DealError" (some (zaY (stAt p i))) D ND VB mD /\ mD "__init__" = some (.ref f)
 cf : zf3 (whole h) D "__init__" f
 bd : zbt (whole h) fd ["self", "text"] []
 ok : ∀ (P : Program) (w : World) (base : Heap), FnOk P w (whole h) mg base CX0 1 f fd ["self", "text"] (zcA (KC (whole h)))
theorem XSt.root {own : Option Stmt} {C N : Addr} {bm : List Value} {mN : Str -> Option Value} (x : XSt h "DealError" own C N bm mN) : bm = VB := by
 rcases x.up with ⟨_, rfl⟩ | ⟨z, _⟩
 ·rfl
 ·exact absurd rfl z
theorem zio (n : h.Ns mainGlobals mg) (Y : XYP p l h) (hD : (((("DealError" : Str), some i) : Str × Option Nat) ∈ l)) (hm : mg "ValueError" = none) (hn : FnNm (zaf (zaY (stAt p i))) ["self", "text"] ["ValueError"])
  (hb : zaC (zaY (stAt p i)) = [.Expr (.Call (.Attribute (.Name "ValueError" p1) "__init__" p2) [.Name "self" p3, .Name "text" p4] [] p5) p6])
  (ht : zik (.Name "ValueError" p1) "__init__" p2 [.Name "self" p3, .Name "text" p4] p5)
  (hbz : ∀ (kV doc pm : Value) (an : Option Addr) (cdv ct : Value) (us : List Value), us.length = (["self", "text"] : List Str).length -> bindArgs (PySem.W.fnOf "__init__" (zcP "DealError") (zaZ (zaY (stAt p i))) (zaC (zaY (stAt p i))) (zaf (zaY (stAt p i))) .none kV doc pm an cdv ct) ⟨us, []⟩ = pure ((["self", "text"] : List Str).zip us)) :
  ∃ D f fd, Root p h mg i D f fd := by
 obtain ⟨D, ND, bm, mD, x⟩ := Y.cl _ hD
 have := x.root
 subst this
 obtain ⟨f, fd, hf, FU⟩ := XSt.fun (st := zaY (stAt p i)) x
 exact ⟨D, f, fd, by rw [n.eq_nsMap]; exact x.ad, ⟨ND, mD, x, hf⟩, XSt.clsFn (st := zaY (stAt p i)) x Y.st hf, FU.binds hbz, fun P w base => zil FU hn hm hb ht⟩
theorem zk2 (n : h.Ns mainGlobals mg) (Y : XYP p l h) {D f : Addr} {fd : FuncData} (R : Root p h mg i D f fd) (hc : c ∈ l) : CK (whole h) mg c.1 := by
 obtain ⟨C, N, bm, mN, x⟩ := Y.cl _ hc
 obtain ⟨ND, mD, xD, hf⟩ := R.ex
 cases hz : c.2 with
 | none =>
  rw [hz] at x
  exact ⟨C, bm, by rw [n.eq_nsMap]; exact x.ad, XSt.clsK n x xD (f := f) hf⟩
 | some k =>
  rw [hz] at x
  obtain ⟨f', o, pm, cd, doc, h1, h2⟩ := x.init
  exact ⟨C, bm, by rw [n.eq_nsMap]; exact x.ad, XSt.clsK n x xD (f := f') h1⟩
theorem zjY (n : h.Ns mainGlobals mg) (Y : XYP p l h) {D f : Addr} {fd : FuncData} (R : Root p h mg i D f fd) {nm : Str} (hc : (nm, some j) ∈ l) (hf : zbm nm ≠ []) {ps : List Str} (P : Program) (w : World) (base : Heap)
  (hbz : ∀ (kV doc pm : Value) (an : Option Addr) (cdv ct : Value) (us : List Value), us.length = ps.length -> bindArgs (PySem.W.fnOf "__init__" (zcP nm) (zaZ (zaY (stAt p j))) (zaC (zaY (stAt p j))) (zaf (zaY (stAt p j))) .none kV doc pm an cdv ct) ⟨us, []⟩ = pure (ps.zip us))
  (ok : ∀ {f' : Addr} {fd' : FuncData}, Fun (whole h) "__init__" (zcP nm) (zaY (stAt p j)) f' fd' -> FnOk P w (whole h) mg base CX0 2 f' fd' ps (zdq (KC (whole h)) (zbm nm))) : MkX P w (whole h) mg base nm 2 := by
 obtain ⟨C, N, bm, mN, x⟩ := Y.cl _ hc
 obtain ⟨ND, mD, xD, hi⟩ := R.ex
 obtain ⟨f', fd', hf', FU⟩ := XSt.fun (st := zaY (stAt p j)) x
 have ck := XSt.clsK n x xD (f := f') hf'
 exact ⟨C, bm, f', fd', _, _, by rw [n.eq_nsMap]; exact x.ad, x.keep, ck, fun M h' k => (x.keeps (zaP k)).xcls (xD.keeps (zaP k)) hf', ok FU, FU.binds hbz, zf9 ck hf⟩
end
theorem zjZ {q p : Program} {loose : List Str} {mean : ExcName -> Option Value} {mg mb : Str -> Option Value} {h : Heap} {ix : List Nat} (P : Program) (w : World) (base : Heap) {ps : List Str} {k n : Nat} {F : List D -> Option XR} (T : Top q loose mean mg mb h) (e : recsOf q = zcu p ix) (i : Nat) (x : Str) (hi : ix.contains i = true) (hn : zdY (stAt p i) = some x)
  (ok : ∀ {f : Addr} {fd : FuncData}, Fun (whole h) x x (stAt p i) f fd -> FnOk P w (whole h) mg base (CX1 P w) k f fd ps (spX (whole h) n F))
  (hb : ∀ (kV doc pm : Value) (an : Option Addr) (cdv ct : Value) (us : List Value), us.length = ps.length -> bindArgs (PySem.W.fnOf x x (zaZ (stAt p i)) (zaC (stAt p i)) (zaf (stAt p i)) .none kV doc pm an cdv ct) ⟨us, []⟩ = pure (ps.zip us)) : DefX P w (whole h) mg base x k n F := by
 obtain ⟨f, fd, m, FU⟩ := zfl T e i x hi hn
 exact ⟨f, fd, ps, m, FU.kp, FU.binds hb, ok FU⟩
theorem zfv {l : PySem.W.OpenLaw} {n k : Nat} {q : Program} {loose : List Str} {XP : (Str -> Option Value) -> Heap -> Prop} {YP : World -> Heap -> Prop} {d : DefRec} {F : List D -> Option D} {x : Str}
  (hn : l.most = some n) (hn2 : n <= sizeLine) (hdf : d.params.defaults = []) (hr : Room k callerA)
  (hF : ∀ (w : World) (s₀ : Shared) (mg mb : Str -> Option Value) (fa : Addr) (h : Heap), PySem.W.Ground q loose [] XP w s₀ mg mb h -> YP w h -> mg d.name = some (.ref fa) ->
   ∃ fd : FuncData, (∀ (s : Shared) (u : Value), BindsTo s fd ⟨[u], []⟩ [(x, u)]) /\ ∀ base : Heap, FnOk l.prog w (whole h) mg base CX0 k fa fd [x] (spD (whole h) 1 F))
  (hl : ∀ ns : List Int, ns.length <= n -> F [.list (ns.map PyData.int)] = some (.bool true)) :
  PySem.W.WalkO q loose XP YP l.row.toRowW d [] (fun f vs => PySem.call f vs) := by
 refine Att.attach_call hn hdf fun w s₀ s₁ mg mb fa o pm cd doc a vs ns G Y ho hd hcd hmg hobj hints hlen hg => ?_
 obtain ⟨fd, hb, hF⟩ := hF w s₀ mg mb fa _ G Y hmg
 exact zfV (zgz _) G.T.g G.T.b G.T.builtins G.T.nolimit hg hobj hints (Nat.le_trans hlen hn2) hr (fun base _ _ => hF base) hb (fun H hO hS => zjD hS (hl ns hlen)) fun H e s' z => z
end DL
namespace DL
open PySem PySem.Spec L2
open PyProof.Rows hiding St
section
variable {α β : Type} {ρ ρ1 ρ2 ρ3 ρ' : DEnv} {f : M D} {s t : SM} {Q : Out -> Prop} {d : D} {ds fs : List D} {nm x : Str} {o : Out}
theorem zgF {g : M (List D)} (h1 : g ρ = .ok ds ρ1) (h2 : zdw nm ds = some fs) : zcN nm g ρ = .ex ρ1 (exD nm fs) := by unfold zcN sB; rw [h1]; dsimp only; rw [h2]
theorem zk3 {f : M XR} {g : D -> SM} (h1 : f ρ = .ok (.val d) ρ1) (h2 : g d ρ1 = o) : sX f g ρ = o := by unfold sX; rw [h1]; exact h2
theorem zk4 {f : M XR} {g : D -> SM} (h1 : f ρ = .ok (.exc d) ρ1) : sX f g ρ = .ex ρ1 d := by unfold sX; rw [h1]
theorem zfw {n : Nat} {F : List D -> Option XR} {g : M (List D)} {xs : List D} {r : XR} (h1 : g ρ = .ok xs ρ1) (h2 : xs.length = n) (h3 : F xs = some r) : zfr n F g ρ = .ok r ρ1 := by
 unfold zfr; exact zao h1 (by rw [if_pos h2]; exact za5 h3)
theorem zgG (h1 : s ρ = .nx ρ1) : zdx x s t ρ = .nx ρ1 := by unfold zdx; rw [h1]
def OutX (r : XR) : Out -> Prop
 | .rt d => r = .val d
 | .nx _ => r = .val .none
 | .ex _ d => r = .exc d /\ zds d = true
 | _ => False
theorem zk5 {N : List Str} {r : XR} (h0 : za0 N ds = ρ) (h : Ho s ρ (OutX r)) : runX N s ds = some r := by
 subst h0
 have h := h.out
 unfold runX
 cases z : s (za0 N ds) with
 | rt d => rw [z] at h; rw [show r = .val d from h]
 | nx ρ' => rw [z] at h; rw [show r = .val .none from h]
 | ex ρ' d => rw [z] at h; dsimp only; rw [if_pos h.2, h.1]
 | bk ρ' => rw [z] at h; exact h.elim
 | ct ρ' => rw [z] at h; exact h.elim
 | bad => rw [z] at h; exact h.elim
end
end DL
namespace DL
open PySem PySem.Spec L2
open PyProof.Rows hiding St
section
variable {X : Cx} {B G0 : Hp} {KX : XW} {e o a b c : Expr} {pos p2 : Pos} {es rest : List Expr}
def oAbs : List D -> Option D
 | [.int i] => some (.int (if i < 0 then -i else i))
 | _ => none
theorem zk6 : zc4 X (.builtin "abs") oAbs := by
 refine ⟨_, zfS, fun vs G H ds d Q s r e k => ?_⟩
 unfold oAbs at e
 split at e
 ·cases e
  obtain ⟨v, rfl, q⟩ := r.one_inv
  exact ⟨_, by rw [q.int_inv], k _ G H (.refl s) (.int _)⟩
 ·cases e
theorem zfx : bootBuiltins "abs" = some (.builtin "abs") := by decide +kernel
def MtS (X : Cx) (id : String) (p : Str -> Str -> Option D) : Prop := ∃ r, MtR X id r /\ ∀ z y d H Q, p z y = some d -> (∀ v, (∀ G, Rep X.K G v d) -> Q v H) -> r (.str z) [.str y] H Q
def zj0 (p : Str -> Str -> Option D) (x : D) (xs : List D) : Option D := match x, xs with
 | .str z, [.str y] => p z y
 | _, _ => none
def zgH (p : Str -> Str -> Option D) (f : M D) (g : M (List D)) : M D := zam f fun x => match x with
 | .str z => zam g fun xs => mOpt (zj0 p (.str z) xs)
 | _ => fun _ => .bad
theorem zgI {name : Str} {id : String} {p : Str -> Str -> Option D} {apos cpos : Pos} {f : M D} {g : M (List D)} (slot : Slot "str" name id) (hty : typeOf (.builtin id) = pure (.type "method_descriptor")) (hm : MtS X id p) (ho : PE X o (tD X.K B G0 f)) (ha : PA X (e :: es) (tDs X.K B G0 g))
  (hbase : attributeBase o name X.env (eval o X.env) = eval o X.env := by rfl)
  (hfew : ((backTo cpos (starEach (e :: es) X.env)).all (fun x => !x.1) && (backToKw cpos (keywordEach [] X.env)).all (fun x => x.1.isSome)
   && decide ((e :: es).length + ([] : List Keyword).length + (if ([] : List Keyword).isEmpty then 0 else 1) < 30)) = true := by rfl)
  (hline : (apos.endLine == cpos.line) = true := by rfl) (hs : starEach (e :: es) X.env = (false, eval e X.env) :: starEach es X.env := by rfl) (hplain : (backTo cpos (starEach es X.env)).any (·.1) = false := by rfl) :
  PE X (.Call (.Attribute o name apos) (e :: es) [] cpos) (tD X.K B G0 (zgH p f g)) := by
 obtain ⟨r, hr, ir⟩ := hm
 refine peof (zjd F.plainAttrs_str slot hty hr ho ha hbase hfew hline hs hplain) fun σ H Q q => ?_
 refine tM.one (R := Rep X.K) q fun v H2 G ρ x k rx a => ?_
 cases x with
 | str z =>
  have := rx.str_inv; subst this
  refine ⟨rfl, ?_⟩
  refine tM.nx (R := Reps X.K) k a fun xs H3 G3 ρ3 ds k3 s3 r3 a3 => ?_
  obtain ⟨d, e1, a4⟩ := aft.opt a3
  unfold zj0 at e1
  split at e1
  ·rename_i z' y e2
   cases e2
   obtain ⟨w, rfl, q⟩ := r3.one_inv
   have := q.str_inv; subst this
   exact ir _ _ _ _ _ e1 fun v hv => a4.now k3 (hv G3)
  ·cases e1
 | _ => exact a.elim
theorem zj1 : MtS X "str.removeprefix" (fun z y => if z.length <= 1000000 then some (.str (Txt.removeprefix z y)) else none) := by
 refine ⟨fun x vs H Q => ∃ z y, x = .str z /\ vs = [.str y] /\ z.length <= sizeLine /\ Q (.str (Txt.removeprefix z y)) H, ?_, fun z y d H Q e k => ?_⟩
 ·intro pins s σ H x xs v us Q I rx rs h
  obtain ⟨z, y, rfl, rfl, hz, q⟩ := h
  obtain ⟨t, rfl⟩ := (show ∃ t, v = Value.str z t from rx)
  obtain ⟨u, rfl, t2, rfl⟩ := zfR rs
  refine call_gives F.slot_str_removeprefix (typeIs_str _ _ _) F.entry_str_removeprefix (F.args_str_removeprefix_2 _ _) (gives_str_removeprefix z y t t2) (post_affix hz _ fun t' k' => ⟨.str _, H, I.tok _, ⟨_, rfl⟩, q⟩)
 ·dsimp only at e
  split at e
  ·rename_i hz
   cases e
   exact ⟨z, y, rfl, rfl, Nat.le_trans hz lim, k _ fun _ => .str _⟩
  ·cases e
def mulS (z : Str) (n : Int) : Str := if n < 1 then Str.empty else if (n == 1 || z.length == 0) = true then z else ⟨(List.replicate n.toNat z.cps).foldl (· ++ ·) #[]⟩
def zk7 : R2 := fun x y H Q => ∃ z n, x = .str z /\ y = .int n /\ -1000000 <= n /\ n <= 1000000 /\ z.length * n.toNat <= 1000000 /\ z.length <= 1000000 /\ (mulS z n).length <= 1000000 /\ Q (.str (mulS z n)) H
theorem ziq : OpR X (binaryOp .Mult) zk7 := by
 intro pins s σ H x y v u Q I rx ry h
 obtain ⟨z, n, rfl, rfl, h1, h2, h3, h5, h4, q⟩ := h
 obtain ⟨t, rfl⟩ := (show ∃ t, v = Value.str z t from rx)
 obtain ⟨t2, rfl⟩ := (show ∃ t, u = Value.int n t from ry)
 have hl : (1000000 : Nat) <= sizeLine := lim
 refine PySem.P.mul_str ?_ (fun hn _ => ?_) (fun hn _ => ?_) ?_
 ·rw [decide_eq_false (by omega), decide_eq_false (by omega)]; rfl
 ·have hn1 : 1 <= n := by omega
  have : (2 ^ 63 - 1) / n ≥ 1000000 := by
   rw [ge_iff_le, Int.le_ediv_iff_mul_le (by omega)]
   have : 1000000 * n <= 1000000 * 1000000 := Int.mul_le_mul_of_nonneg_left h2 (by decide)
   omega
  omega
 ·exact decide_eq_false (by show ¬ _; have := Nat.le_trans h3 hl; unfold sizeLine at this; omega)
 ·unfold mulS at h4 q
  split
  ·rename_i hn
   rw [if_pos hn] at q
   exact ⟨by decide, .str _, H, I.tok _, ⟨_, rfl⟩, q⟩
  ·rename_i hn
   rw [if_neg hn] at q h4
   split
   ·rename_i hz
    rw [if_pos hz] at q
    exact ⟨.str _, H, I, ⟨_, rfl⟩, q⟩
   ·rename_i hz
    rw [if_neg hz] at q h4
    exact ⟨Nat.le_trans h4 hl, .str _, H, I.tok _, ⟨_, rfl⟩, q⟩
def zfy : D -> D -> Option D
 | .str z, .int n => if -1000000 <= n /\ n <= 1000000 /\ z.length * n.toNat <= 1000000 /\ z.length <= 1000000 /\ (mulS z n).length <= 1000000 then some (.str (mulS z n)) else none
 | _, _ => none
theorem zir : OpD X (binaryOp .Mult) zfy := by
 refine ⟨_, ziq, fun v u G H x y d Q s rx ry e k => ?_⟩
 unfold zfy at e
 split at e
 ·split at e
  ·rename_i c
   cases e
   exact ⟨_, _, rx.str_inv, ry.int_inv, c.1, c.2.1, c.2.2.1, c.2.2.2.1, c.2.2.2.2, k _ G H (.refl s) (.str _)⟩
  ·cases e
 ·cases e
end
end DL
namespace L2
open PySem PySem.Spec PyProof.Rows
end L2
namespace DL
open PySem PySem.Spec L2
open PyProof.Rows hiding St
section
variable {K : PySem.W.Frag} {B G0 G H : Hp} {σ : St} {ρ : DEnv}
end
section
variable {X : Cx} {B G0 : Hp} {KX : XW} {e o a b c : Expr} {pos p2 : Pos} {es rest : List Expr}
end
end DL
namespace DL
open PySem PySem.Spec L2
open PyProof.Rows hiding St
section
variable {X : Cx} {B G0 : Hp} {KX : XW} {e o a b c : Expr} {pos p2 cpos : Pos} {es rest : List Expr}
end
end DL
namespace DL
open PySem PySem.Spec L2
open PyProof.Rows hiding St
section
variable {X : Cx}
def zen : List D -> Option D
 | [.str z] => if z.length <= 640 then (PySem.intText? z).map .int else none
 | _ => none
theorem zhb : zc4 X (.type "int") zen := by
 refine ⟨fun vs H Q => ∃ z n, vs = [.str z] /\ z.length <= 640 /\ PySem.intText? z = some n /\ Q (.int n) H, ?_, fun vs G H ds d Q s r e k => ?_⟩
 ·intro pins s σ H vs us Q I r h
  obtain ⟨z, n, rfl, hl, hn, q⟩ := h
  cases r with
  | cons rx rr =>
   cases rr
   obtain ⟨t, rfl⟩ := rx
   exact PySem.W.KIN.call_text hn hl ⟨.int n, H, I.tok _, ⟨_, rfl⟩, q⟩
 ·unfold zen at e
  split at e
  ·obtain ⟨v, rfl, q⟩ := r.one_inv
   rw [q.str_inv]
   split at e
   ·rename_i hl
    obtain ⟨n, hn, rfl⟩ := Option.map_eq_some_iff.mp e
    exact ⟨_, n, rfl, hl, hn, k _ G H (.refl s) (.int _)⟩
   ·cases e
  ·cases e
end
end DL
namespace W
open PySem PySem.Spec L2 DL
open PyProof.Rows hiding St
def top (i : Nat) : Stmt := PySem.Challenge.pw_wishdeal_k05_whole_numbers_there_and_bac.main.body.getD i (.Pass ⟨0, 0, 0, 0⟩)
abbrev GG (s : Stmt) (x : Str) : Prop := (zaf s).names.lookup x = some NameKind.globalImplicit
abbrev VV (s : Stmt) (x : Str) : Prop := L2.Vis (zaf s) x
abbrev LL (s : Stmt) (x : Str) : Prop := L2.Loc (zaf s) x
theorem vk {s : Stmt} {x : Str} (h : (zaf s).names.lookup x = some .local ∨ (zaf s).names.lookup x = some .cell ∨ (zaf s).names.lookup x = some .free) : VV s x := h
theorem lk {s : Stmt} {x : Str} (h : (zaf s).names.lookup x = some .local ∨ (zaf s).names.lookup x = some .cell) : LL s x := h
structure Txt (K : PySem.W.Frag) (mg : Str -> Option Value) : Prop where
 b_ValueError : mg "ValueError" = none
 b_abs : mg "abs" = none
 b_all : mg "all" = none
 b_enumerate : mg "enumerate" = none
 b_int : mg "int" = none
 b_isinstance : mg "isinstance" = none
 b_len : mg "len" = none
 b_max : mg "max" = none
 b_range : mg "range" = none
 b_str : mg "str" = none
 c_FIGURES : ∃ t, mg "FIGURES" = some (Value.str "0123456789" t)
 c_MOST_FIGURES : ∃ t, mg "MOST_FIGURES" = some (Value.int 60 t)
 x_NoText : CK K mg "NoText"
abbrev Saa : Stmt := top 6
abbrev N_aa : List Str := ["number"]
theorem Haa : FnNm (zaf Saa) N_aa ["str"] := zbl (by decide +kernel)
def g_aa : SM :=
 sRet (zcn zeZ (zan (dVar 0) (mNil)))
def F_aa : List D -> Option D := runD N_aa g_aa
abbrev Sab : Stmt := top 7
abbrev N_ab : List Str := ["thing", "figures"]
theorem Hab : FnNm (zaf Sab) N_ab ["all", "len", "MOST_FIGURES", "isinstance", "str"] := zbl (by decide +kernel)
def g_ab : SM :=
 sSeq (sIf (mNot (zbQ (mMap (fun d => .bool (isTy d "str")) (dVar 0))))
 (sRet (zad (.bool false)))
 (sNx))
 (sSeq (sSet 1 (zgH (fun z y => if z.length <= 1000000 then some (.str (Txt.removeprefix z y)) else none) (dVar 0) (zan (zad (.str "-")) (mNil))))
 (sSeq (sIf (mNot (zdM (oIB fun i j => decide (i <= j)) (oIB fun i j => decide (i <= j)) (zad (.int 1)) (zc5 1) (zad (.int 60))))
 (sRet (zad (.bool false)))
 (sNx))
 (sSeq (sIf (mNot (zbQ (zcn oAll (zan (mMap PyData.list (ze5 (zcr (dVar 1)) 1 (gN 2) (zad true) (mMap PyData.bool (zaX oIn 2 (zad (.str "0123456789")))))) (mNil)))))
 (sRet (zad (.bool false)))
 (sNx))
 (sRet (mOrV (mMap PyData.bool (dBin oNe (dIxN 1 (zad (.int 0))) (zad (.str "0")))) (mMap PyData.bool (zaX oEq 0 (zad (.str "0")))))))))
def F_ab : List D -> Option D := runD N_ab g_ab
abbrev zbw : Stmt := top 8
abbrev zbx : List Str := ["text"]
theorem zay : FnNm (zaf zbw) zbx ["int", "is_written_number", "NoText"] := zbl (by decide +kernel)
def za8 : SM :=
 sSeq (sIf (mNot (zbQ (dFun 1 F_ab (zan (dVar 0) (mNil)))))
 (zcN "NoText" (zan (zad (.int 0)) (mNil)))
 (sNx))
 (sRet (zcn zen (zan (dVar 0) (mNil))))
def zaR : List D -> Option XR := runX zbx za8
abbrev Sah : Stmt := top 14
abbrev N_ah : List Str := ["_law_text", "_law_found"]
theorem Hah : FnNm (zaf Sah) N_ah ["read_number", "NoText"] := zbl (by decide +kernel)
def g_ah : SM :=
 sSeq (sSet 1 (zad .none))
 (sSeq (zdx "NoText" (sX (zfr 1 zaR (zan (dVar 0) (mNil))) fun d ρ => match gN 1 d ρ with | some ρ' => .nx ρ' | none => .bad) (sRet (zad .none)))
 (sRet (dVar 1)))
def F_ah : List D -> Option D := runD N_ah g_ah
abbrev Sae : Stmt := top 11
abbrev N_ae : List Str := ["_law_digit", "_law_some"]
theorem Hae : FnNm (zaf Sae) N_ae [] := zbl (by decide +kernel)
def g_ae : SM :=
 sSeq (sSet 1 (zad (.str " !\"#$&'()*+,-./0123456789:;<=>?@ABCDEFGHIJKLMNOPQRSTUVWXYZ[\\]^_`")))
 (sSeq (sSet 1 (dBin oAdd (dVar 1) (zad (.str "abcdefghijklmnopqrstuvwxyz{|}~\n\t"))))
 (sRet (dIxN 1 (dBin oMod (dVar 0) (zad (.int 96))))))
def F_ae : List D -> Option D := runD N_ae g_ae
abbrev Sad : Stmt := top 10
abbrev N_ad : List Str := ["_law_cell", "_law_salt", "_law_sizes", "_law_number", "_law_left", "_law_found", "_law_k", "_law_one"]
theorem Had : FnNm (zaf Sad) N_ad ["len", "range", "max"] := zbl (by decide +kernel)
def zdy : SM :=
 sIf (mAnd (zaX (oIB fun i j => decide (j <= i)) 3 (dBin oPow (zad (.int 10)) (zad (.int 18)))) (zaX (oIB fun i j => decide (j < i)) 4 (zad (.int 0))))
 (sSeq (sApp 5 (dBin oMod (dVar 4) (dIxN 2 (dVar 6))))
 (sSet 4 (dBin oDiv (dVar 4) (dIxN 2 (dVar 6)))))
 (sSeq (sSet 7 (dBin oMod (dBin oAdd (dBin oAdd (dBin oAdd (dVar 3) (dBin oMul (zad (.int 7919)) (dVar 1))) (dBin oMul (dBin oMul (zad (.int 101)) (dVar 6)) (dVar 6))) (dVar 6)) (zad (.int 2147483647))))
 (sSeq (sSet 7 (dBin oMod (dBin oMul (dVar 7) (zad (.int 48271))) (zad (.int 2147483647))))
 (sSeq (sSet 7 (dBin oMod (dBin oMul (dBin oMod (dBin oMul (dVar 7) (dVar 7)) (zad (.int 2147483629))) (zad (.int 48271))) (zad (.int 2147483647))))
 (sApp 5 (dBin oMod (dBin oDiv (dVar 7) (zad (.int 16))) (dIxN 2 (dVar 6)))))))
def g_ad : SM :=
 sSeq (sSet 3 (zcn zgf (zan (dVar 0) (zan (dBin oSub (dNeg (zad (.int 1))) (dVar 0)) (mNil)))))
 (sSeq (sSet 4 (dVar 3))
 (sSeq (ze0 5 (zam (mNil) fun xs => if xs.length <= 1000000 then zad xs else fun _ => .bad))
 (sSeq (sFor (zgi (zan (zc5 2) (mNil))) (gN 6) zdy)
 (sRet (dVar 5)))))
def F_ad : List D -> Option D := runD N_ad g_ad
abbrev Sag : Stmt := top 13
abbrev N_ag : List Str := ["_law_text", "_law_cell", "_law_salt", "_law_way", "_law_at", "_law_digit", "_law_sign_here"]
theorem Hag : FnNm (zaf Sag) N_ag ["len", "_law_sign", "_law_numbers"] := zbl (by decide +kernel)
def g_ag : SM :=
 sSeq (sAsg (dFun 3 F_ad (zan (dVar 1) (zan (dVar 2) (zan (mLst (zan (zad (.int 9)) (zan (zad (.int 64)) (zan (zad (.int 96)) (mNil))))) (mNil))))) (gL 3 (gNC (gN 3) (gNC (gN 4) (gNC (gN 5) (gN0))))))
 (sSeq (sSet 4 (dBin oMod (dVar 4) (dBin oAdd (zc5 0) (zad (.int 1)))))
 (sSeq (sSet 6 (dFun 1 F_ae (zan (dVar 5) (mNil))))
 (sSeq (sIf (zaX oEq 3 (zad (.int 1)))
 (sRet (dBin oAdd (dBin oAdd (dSlA (dVar 0) (zad none) (zam (dVar 4) fun x => mOpt (zbJ x))) (dVar 6)) (dSlA (dVar 0) (zam (dVar 4) fun x => mOpt (zbJ x)) (zad none))))
 (sNx))
 (sSeq (sIf (zaX oEq 3 (zad (.int 2)))
 (sRet (dBin oAdd (dSlA (dVar 0) (zad none) (zam (dVar 4) fun x => mOpt (zbJ x))) (dSlA (dVar 0) (zam (dBin oAdd (dVar 4) (zad (.int 1))) fun x => mOpt (zbJ x)) (zad none))))
 (sNx))
 (sSeq (sIf (zaX oEq 3 (zad (.int 3)))
 (sRet (dBin oAdd (dBin oAdd (dSlA (dVar 0) (zad none) (zam (dVar 4) fun x => mOpt (zbJ x))) (dVar 6)) (dSlA (dVar 0) (zam (dBin oAdd (dVar 4) (zad (.int 1))) fun x => mOpt (zbJ x)) (zad none))))
 (sNx))
 (sSeq (sIf (zaX oEq 3 (zad (.int 4)))
 (sRet (dBin oAdd (dBin oAdd (dSlA (dVar 0) (zad none) (zam (dVar 4) fun x => mOpt (zbJ x))) (dBin oIx (zad (.str "0123456789")) (dBin oMod (dVar 5) (zad (.int 10))))) (dSlA (dVar 0) (zam (dVar 4) fun x => mOpt (zbJ x)) (zad none))))
 (sNx))
 (sSeq (sIf (zaX oEq 3 (zad (.int 5)))
 (sRet (dBin oAdd (dBin oIx (mLst (zan (zad (.str "0")) (zan (zad (.str "-")) (zan (zad (.str "+")) (zan (zad (.str "00")) (zan (zad (.str " ")) (zan (zad (.str "--")) (zan (zad (.str "-0")) (zan (zad (.str "0x")) (mNil)))))))))) (dBin oMod (dVar 5) (zad (.int 8)))) (dVar 0)))
 (sNx))
 (sSeq (sIf (zaX oEq 3 (zad (.int 6)))
 (sRet (dBin oAdd (dVar 0) (dBin oIx (mLst (zan (zad (.str ".0")) (zan (zad (.str " ")) (zan (zad (.str "\n")) (zan (zad (.str "-")) (zan (zad (.str "_1")) (zan (zad (.str ",")) (zan (zad (.str "e2")) (zan (zad (.str "\t")) (mNil)))))))))) (dBin oMod (dVar 5) (zad (.int 8))))))
 (sNx))
 (sSeq (sIf (zaX oEq 3 (zad (.int 7)))
 (sRet (dBin oAdd (dVar 0) (dBin zfy (zad (.str "9")) (dBin oSub (dBin oAdd (zad (.int 57)) (dBin oMod (dVar 5) (zad (.int 8)))) (zc5 0)))))
 (sNx))
 (sRet (dVar 0)))))))))))
def F_ag : List D -> Option D := runD N_ag g_ag
abbrev Sac : Stmt := top 8
abbrev N_ac : List Str := ["text"]
theorem Hac : FnNm (zaf Sac) N_ac ["int", "is_written_number"] := zbl (by decide +kernel)
def g_ac : SM :=
 sSeq (sIf (mNot (zbQ (dFun 1 F_ab (zan (dVar 0) (mNil)))))
 (zg5)
 (sNx))
 (sRet (zcn zen (zan (dVar 0) (mNil))))
def F_ac : List D -> Option D := runD N_ac g_ac
abbrev Saf : Stmt := top 12
abbrev N_af : List Str := ["_law_cell", "_law_salt", "_law_digits", "_law_number", "_law_text", "_law_digit"]
theorem Haf : FnNm (zaf Saf) N_af ["_law_numbers"] := zbl (by decide +kernel)
def zfz : SM :=
 sSeq (sIf (mOr (zaX oNe 4 (zad (.str ""))) (zaX (oIB fun i j => decide (j < i)) 5 (zad (.int 0))))
 (sSet 4 (dBin oAdd (dVar 4) (dBin oIx (zad (.str "0123456789")) (dVar 5))))
 (sNx))
 (sSet 3 (dBin oAdd (dBin oMul (dVar 3) (zad (.int 10))) (dVar 5)))
def g_af : SM :=
 sSeq (sSet 2 (dFun 3 F_ad (zan (dVar 0) (zan (dVar 1) (zan (dBin oAdd (mLst (zan (zad (.int 61)) (zan (zad (.int 2)) (mNil)))) (dBin oMul (mLst (zan (zad (.int 10)) (mNil))) (zad (.int 60)))) (mNil))))))
 (sSeq (sSet 3 (zad (.int 0)))
 (sSeq (sSet 4 (zad (.str "")))
 (sSeq (sFor (zcr (dSlA (dVar 2) (zam (zad (.int 2)) fun x => mOpt (zbJ x)) (zam (dBin oAdd (zad (.int 2)) (dIxN 2 (zad (.int 0)))) fun x => mOpt (zbJ x)))) (gN 5) zfz)
 (sSeq (sIf (zaX oEq 4 (zad (.str "")))
 (sRet (mTup (zan (zad (.int 0)) (zan (zad (.str "0")) (mNil)))))
 (sNx))
 (sSeq (sIf (dBin oEq (dIxN 2 (zad (.int 1))) (zad (.int 1)))
 (sRet (mTup (zan (dBin oSub (zad (.int 0)) (dVar 3)) (zan (dBin oAdd (zad (.str "-")) (dVar 4)) (mNil)))))
 (sNx))
 (sRet (mTup (zan (dVar 3) (zan (dVar 4) (mNil))))))))))
def F_af : List D -> Option D := runD N_af g_af
abbrev Sai : Stmt := top 15
abbrev N_ai : List Str := ["_law_script", "_law_ahead", "_law_at", "_law_cell", "_law_number", "_law_one", "_law_text", "_law_bent_here", "_law_found"]
theorem Hai : FnNm (zaf Sai) N_ai ["enumerate", "show_number", "_law_told", "_law_bent", "abs", "read_number", "_law_written"] := zbl (by decide +kernel)
def zdz : SM :=
 sIf (dBin (oIB fun i j => decide (i < j)) (zcn oAbs (zan (dVar 5) (mNil))) (dBin oPow (zad (.int 10)) (zad (.int 60))))
 (sSeq (sSet 6 (dFun 1 F_aa (zan (dVar 5) (mNil))))
 (sSeq (sIf (mOr (dBin oNe (dFun 1 F_ac (zan (dVar 6) (mNil))) (dVar 5)) (dBin oNe (mMap PyData.bool (zaX oEq 6 (dIxN 1 (zad (.int 1))))) (mMap PyData.bool (zaX oEq 5 (dIxN 1 (zad (.int 0)))))))
 (sRet (zad (.bool false)))
 (sNx))
 (sSet 1 (mTup (zan (dVar 5) (zan (dVar 6) (mNil)))))))
 (sNx)
def zfA : SM :=
 sSeq (sSet 4 (dBin oIx (dFun 2 F_af (zan (dVar 3) (zan (dBin oAdd (zad (.int 600)) (dVar 2)) (mNil)))) (zad (.int 0))))
 (sSeq (sFor (zcr (mLst (zan (dVar 4) (zan (dBin oAdd (dVar 4) (zad (.int 1))) (zan (dBin oSub (dVar 4) (zad (.int 1))) (zan (dBin oSub (zad (.int 0)) (dVar 4)) (mNil))))))) (gN 5) zdz)
 (sSeq (sSet 7 (dFun 3 F_ag (zan (dFun 1 F_aa (zan (dVar 4) (mNil))) (zan (dVar 3) (zan (dBin oAdd (zad (.int 700)) (dVar 2)) (mNil))))))
 (sSeq (sSet 8 (dFun 1 F_ah (zan (dVar 7) (mNil))))
 (sSeq (sIf (mAnd (mMap (fun d => !isNon d) (dVar 8)) (dBin oNe (dFun 1 F_aa (zan (dVar 8) (mNil))) (dVar 7)))
 (sRet (zad (.bool false)))
 (sNx))
 (sIf (mAnd (mMap isNon (dVar 8)) (zaX oEq 7 (dFun 1 F_aa (zan (dVar 4) (mNil)))))
 (sRet (zad (.bool false)))
 (sNx))))))
def g_ai : SM :=
 sSeq (sSet 1 (mTup (zan (zad (.int 0)) (zan (dFun 1 F_aa (zan (zad (.int 0)) (mNil))) (mNil)))))
 (sSeq (sFor (zgj (zan (dBin oAdd (mLst (zan (zad (.int 2)) (mNil))) (dSlA (dVar 0) (zad none) (zam (zad (.int 62)) fun x => mOpt (zbJ x)))) (mNil))) (gT 2 (gNC (gN 2) (gNC (gN 3) (gN0)))) zfA)
 (sRet (zad (.bool true))))
def F_ai : List D -> Option D := runD N_ai g_ai
section
variable {P : Program} {w : World} {K : PySem.W.Frag} {mg : Str -> Option Value} {base : Heap} {f : Addr} {fd : FuncData} (T : Txt K mg)
include T
theorem Kaa (F : Fun K "show_number" "show_number" Saa f fd) : FnOk P w K mg base CX0 1 f fd ["number"] (spD K 1 F_aa) :=
 okD (k := 0) (g := g_aa) F (fq Haa 1) rfl fun cdv A outer s H E B G0 hr =>
 have hu := hr.units
 have hgd := hr.gd
 (zar (zaz (zbK zjz (gq Haa 0) T.b_str PyProof.Rows.boot_str (zaa (zac (pq Haa 0)) zal))))
theorem Kab (F : Fun K "is_written_number" "is_written_number" Sab f fd) : FnOk P w K mg base CX0 1 f fd ["thing"] (spD K 1 F_ab) :=
 okD (k := 0) (g := g_ab) F (fq Hab 1) rfl fun cdv A outer s H E B G0 hr =>
 have hu := hr.units
 have hgd := hr.gd
 (zai (zbb (zb7 (zcC (zef (c := "str") (by decide) (gq Hab 3) T.b_isinstance (gq Hab 4) T.b_str (by decide +kernel) (zac (pq Hab 0)) (by decide) (by decide))))
 (zar (zaz zbA))
 zaK)
 (zai (zaD (i := 1) (nq Hab) rfl (lq Hab 1) (zgI PySem.F.slot_str_removeprefix PySem.F.type_str_removeprefix zj1 (zac (pq Hab 0)) (zaa zax zal)))
 (zai (zbb (zb7 (zeX B_le B_le zah (zbZ (gq Hab 1) T.b_len (pq Hab 1)) (zkN (gq Hab 2) T.c_MOST_FIGURES)))
 (zar (zaz zbA))
 zaK)
 (zai (zbb (zb7 (zcC (zb9 (zkL rfl) (gq Hab 0) T.b_all PyProof.Rows.boot_all (zaa (zh3 (zkK (zaf Sab) N_ab ["thing", "figures", "sign"] 1 zgo rfl (zfa (zac (pq Hab 1))) (fun cl C s0 H0 ex => ⟨fun B' G' => (zbh (zbe (i := 2) (show (["thing", "figures", "sign"] : List Str).Nodup by decide +kernel) rfl (zhY rfl) (.inr (zjE rfl)))), fun B' G' => zhZ, (ze8 rfl rfl rfl fun B' G' => (zcH (B_in hu) (pvb 2) (zkO (zjF rfl) T.c_FIGURES) rfl))⟩) rfl rfl (by decide +kernel))) zal))))
 (zar (zaz zbA))
 zaK)
 (zar (zaz (zjx (zhL (B_ne hu) (zbg (pq Hab 1) zah (fun _ _ => rfl)) zax (zaG _)) (zhN (zcH (B_eq hu) (pq Hab 0) zax (zaG _))))))))))
theorem zci (d_ab : Def P w K mg base "is_written_number" 1 1 F_ab) (m_NoText : MkX P w K mg base "NoText" 2) (F : Fun K "read_number" "read_number" zbw f fd) : FnOk P w K mg base (CX1 P w) 4 f fd ["text"] (spX K 1 zaR) :=
 okX (k := 3) (g := za8) F (fq zay 1) rfl fun cdv A outer s H E B G0 hr =>
 have hu := hr.units
 have hgd := hr.gd
 (zai (zbb (zb7 (zcC (pdf d_ab hr (gq zay 1) (zaa (zac (pq zay 0)) zal))))
 (zar (zgC m_NoText hr rfl zfX (gq zay 2) (zaa zah zal)))
 zaK)
 (zar (zaz (zbK zhb (gq zay 0) T.b_int PyProof.Rows.boot_int (zaa (zac (pq zay 0)) zal)))))
theorem Kah (dX_read_number : DefX P w K mg base "read_number" 4 1 zaR) (F : Fun K "_law_told" "_law_told" Sah f fd) : FnOk P w K mg base CX0 5 f fd ["_law_text"] (spD K 1 F_ah) :=
 okD (k := 4) (g := g_ah) F (fq Hah 1) rfl fun cdv A outer s H E B G0 hr =>
 have hu := hr.units
 have hgd := hr.gd
 (zai (zaD (i := 1) (nq Hah) rfl (lq Hah 1) zeU)
 (zai (zij T.x_NoText (gq Hah 1) (fun KX' W pn hw => (zar (zii (i := 1) (nq Hah) rfl (lq Hah 1) (zgD dX_read_number hr hw (gq Hah 0) (zaa (zac (pq Hah 0)) zal))))) (fun a => (zar (zaz zeU))))
 (zar (zaz (zac (pq Hah 1))))))
theorem Kae (F : Fun K "_law_sign" "_law_sign" Sae f fd) : FnOk P w K mg base CX0 1 f fd ["_law_digit"] (spD K 1 F_ae) :=
 okD (k := 0) (g := g_ae) F (fq Hae 1) rfl fun cdv A outer s H E B G0 hr =>
 have hu := hr.units
 have hgd := hr.gd
 (zai (zaD (i := 1) (nq Hae) rfl (lq Hae 1) zax)
 (zai (zaD (i := 1) (nq Hae) rfl (lq Hae 1) (zaq zaM (zac (pq Hae 1)) zax))
 (zar (zaz (zbg (pq Hae 1) (zaq zbV (zac (pq Hae 0)) zah) (fun _ _ => rfl))))))
theorem Kad (F : Fun K "_law_numbers" "_law_numbers" Sad f fd) : FnOk P w K mg base CX0 1 f fd ["_law_cell", "_law_salt", "_law_sizes"] (spD K 3 F_ad) :=
 okD (k := 0) (g := g_ad) F (fq Had 3) rfl fun cdv A outer s H E B G0 hr =>
 have hu := hr.units
 have hgd := hr.gd
 (zai (zaD (i := 3) (nq Had) rfl (lq Had 3) (zb9 (zjy rfl) (gq Had 2) T.b_max boot_max (zaa (zac (pq Had 0)) (zaa (zaq zeW (zhV zah) (zac (pq Had 0))) zal))))
 (zai (zaD (i := 4) (nq Had) rfl (lq Had 4) (zac (pq Had 3)))
 (zai (zhS (i := 5) (nq Had) rfl (lq Had 5) (zhT zal))
 (zai (zdN PassesOwn.never rfl (ze1 (gq Had 1) T.b_range (zaa (zbZ (gq Had 0) T.b_len (pq Had 2)) zal)) (zbh (zbe (i := 6) (nq Had) rfl (lq Had 6)))
 (zar (zbb (PW.pt (zdr (zaN B_ge (pq Had 3) (zaq zjv zah zah) (zaG _)) (zcB (zaN B_gt (pq Had 4) zah (zaG _)))))
 (zai (zg7 (pq Had 5) (zaq zbV (zac (pq Had 4)) (zbg (pq Had 2) (zac (pq Had 6)) (fun _ _ => rfl))))
 (zar (zaD (i := 4) (nq Had) rfl (lq Had 4) (zaq zju (zac (pq Had 4)) (zbg (pq Had 2) (zac (pq Had 6)) (fun _ _ => rfl))))))
 (zai (zaD (i := 7) (nq Had) rfl (lq Had 7) (zaq zbV (zaq zaM (zaq zaM (zaq zaM (zac (pq Had 3)) (zaq zc2 zah (zac (pq Had 1)))) (zaq zc2 (zaq zc2 zah (zac (pq Had 6))) (zac (pq Had 6)))) (zac (pq Had 6))) zah))
 (zai (zaD (i := 7) (nq Had) rfl (lq Had 7) (zaq zbV (zaq zc2 (zac (pq Had 7)) zah) zah))
 (zai (zaD (i := 7) (nq Had) rfl (lq Had 7) (zaq zbV (zaq zc2 (zaq zbV (zaq zc2 (zac (pq Had 7)) (zac (pq Had 7))) zah) zah) zah))
 (zar (zg7 (pq Had 5) (zaq zbV (zaq zju (zac (pq Had 7)) zah) (zbg (pq Had 2) (zac (pq Had 6)) (fun _ _ => rfl)))))))))))
 (zar (zaz (zac (pq Had 5))))))))
theorem Kag (d_ae : Def P w K mg base "_law_sign" 1 1 F_ae) (d_ad : Def P w K mg base "_law_numbers" 1 3 F_ad) (F : Fun K "_law_bent" "_law_bent" Sag f fd) : FnOk P w K mg base CX0 2 f fd ["_law_text", "_law_cell", "_law_salt"] (spD K 3 F_ag) :=
 okD (k := 1) (g := g_ag) F (fq Hag 3) rfl fun cdv A outer s H E B G0 hr =>
 have hu := hr.units
 have hgd := hr.gd
 (zai (zjC (pdf d_ad hr (gq Hag 2) (zaa (zac (pq Hag 1)) (zaa (zac (pq Hag 2)) (zaa (zbB (zaa zah (zaa zah (zaa zah zal)))) zal)))) (zjL rfl (zca (zbh (zbe (i := 3) (nq Hag) rfl (lq Hag 3))) (zca (zbh (zbe (i := 4) (nq Hag) rfl (lq Hag 4))) (zca (zbh (zbe (i := 5) (nq Hag) rfl (lq Hag 5))) zg6)))))
 (zai (zaD (i := 4) (nq Hag) rfl (lq Hag 4) (zaq zbV (zac (pq Hag 4)) (zaq zaM (zbZ (gq Hag 0) T.b_len (pq Hag 0)) zah)))
 (zai (zaD (i := 6) (nq Hag) rfl (lq Hag 6) (pdf d_ae hr (gq Hag 1) (zaa (zac (pq Hag 5)) zal)))
 (zai (zbb (zaN (B_eq hu) (pq Hag 3) zah (zaG _))
 (zar (zaz (zaq zaM (zaq zaM (zaB (zac (pq Hag 0)) zaU (zaJ (zac (pq Hag 4)))) (zac (pq Hag 6))) (zaB (zac (pq Hag 0)) (zaJ (zac (pq Hag 4))) zaU))))
 zaK)
 (zai (zbb (zaN (B_eq hu) (pq Hag 3) zah (zaG _))
 (zar (zaz (zaq zaM (zaB (zac (pq Hag 0)) zaU (zaJ (zac (pq Hag 4)))) (zaB (zac (pq Hag 0)) (zaJ (zaq zaM (zac (pq Hag 4)) zah)) zaU))))
 zaK)
 (zai (zbb (zaN (B_eq hu) (pq Hag 3) zah (zaG _))
 (zar (zaz (zaq zaM (zaq zaM (zaB (zac (pq Hag 0)) zaU (zaJ (zac (pq Hag 4)))) (zac (pq Hag 6))) (zaB (zac (pq Hag 0)) (zaJ (zaq zaM (zac (pq Hag 4)) zah)) zaU))))
 zaK)
 (zai (zbb (zaN (B_eq hu) (pq Hag 3) zah (zaG _))
 (zar (zaz (zaq zaM (zaq zaM (zaB (zac (pq Hag 0)) zaU (zaJ (zac (pq Hag 4)))) (zc3 zax (zaq zbV (zac (pq Hag 5)) zah) (fun _ _ => rfl))) (zaB (zac (pq Hag 0)) (zaJ (zac (pq Hag 4))) zaU))))
 zaK)
 (zai (zbb (zaN (B_eq hu) (pq Hag 3) zah (zaG _))
 (zar (zaz (zaq zaM (zc3 (zbB (zaa zax (zaa zax (zaa zax (zaa zax (zaa zax (zaa zax (zaa zax (zaa zax zal))))))))) (zaq zbV (zac (pq Hag 5)) zah) (fun _ _ => rfl)) (zac (pq Hag 0)))))
 zaK)
 (zai (zbb (zaN (B_eq hu) (pq Hag 3) zah (zaG _))
 (zar (zaz (zaq zaM (zac (pq Hag 0)) (zc3 (zbB (zaa zax (zaa zax (zaa zax (zaa zax (zaa zax (zaa zax (zaa zax (zaa zax zal))))))))) (zaq zbV (zac (pq Hag 5)) zah) (fun _ _ => rfl)))))
 zaK)
 (zai (zbb (zaN (B_eq hu) (pq Hag 3) zah (zaG _))
 (zar (zaz (zaq zaM (zac (pq Hag 0)) (zaq zir zax (zaq zeW (zaq zaM zah (zaq zbV (zac (pq Hag 5)) zah)) (zbZ (gq Hag 0) T.b_len (pq Hag 0)))))))
 zaK)
 (zar (zaz (zac (pq Hag 0))))))))))))))
theorem Kac (d_ab : Def P w K mg base "is_written_number" 1 1 F_ab) (F : Fun K "read_number" "read_number" Sac f fd) : FnOk P w K mg base CX0 2 f fd ["text"] (spD K 1 F_ac) :=
 okD (k := 1) (g := g_ac) F (fq Hac 1) rfl fun cdv A outer s H E B G0 hr =>
 have hu := hr.units
 have hgd := hr.gd
 (zai (zbb (zb7 (zcC (pdf d_ab hr (gq Hac 1) (zaa (zac (pq Hac 0)) zal))))
 (zar zgh)
 zaK)
 (zar (zaz (zbK zhb (gq Hac 0) T.b_int PyProof.Rows.boot_int (zaa (zac (pq Hac 0)) zal)))))
theorem Kaf (d_ad : Def P w K mg base "_law_numbers" 1 3 F_ad) (F : Fun K "_law_written" "_law_written" Saf f fd) : FnOk P w K mg base CX0 2 f fd ["_law_cell", "_law_salt"] (spD K 2 F_af) :=
 okD (k := 1) (g := g_af) F (fq Haf 2) rfl fun cdv A outer s H E B G0 hr =>
 have hu := hr.units
 have hgd := hr.gd
 (zai (zaD (i := 2) (nq Haf) rfl (lq Haf 2) (pdf d_ad hr (gq Haf 0) (zaa (zac (pq Haf 0)) (zaa (zac (pq Haf 1)) (zaa (zaq zaM (zbB (zaa zah (zaa zah zal))) (zaq zc2 (zbB (zaa zah zal)) zah)) zal)))))
 (zai (zaD (i := 3) (nq Haf) rfl (lq Haf 3) zah)
 (zai (zaD (i := 4) (nq Haf) rfl (lq Haf 4) zax)
 (zai (zdN PassesOwn.never rfl (zfa (zaB (zac (pq Haf 2)) (zaJ zah) (zaJ (zaq zaM zah (zbg (pq Haf 2) zah (fun _ _ => rfl)))))) (zbh (zbe (i := 5) (nq Haf) rfl (lq Haf 5)))
 (zai (zbb (PW.pt (zg2 (zaN (B_ne hu) (pq Haf 4) zax (zaG _)) (zeY (zaN B_gt (pq Haf 5) zah (zaG _)))))
 (zar (zaD (i := 4) (nq Haf) rfl (lq Haf 4) (zaq zaM (zac (pq Haf 4)) (zc3 zax (zac (pq Haf 5)) (fun _ _ => rfl)))))
 zaK)
 (zar (zaD (i := 3) (nq Haf) rfl (lq Haf 3) (zaq zaM (zaq zc2 (zac (pq Haf 3)) zah) (zac (pq Haf 5)))))))
 (zai (zbb (zaN (B_eq hu) (pq Haf 4) zax (zaG _))
 (zar (zaz (zb8 (zaa zah (zaa zax zal)))))
 zaK)
 (zai (zbb (zb6 (B_eq hu) (zbg (pq Haf 2) zah (fun _ _ => rfl)) zah (zaG _))
 (zar (zaz (zb8 (zaa (zaq zeW zah (zac (pq Haf 3))) (zaa (zaq zaM zax (zac (pq Haf 4))) zal)))))
 zaK)
 (zar (zaz (zb8 (zaa (zac (pq Haf 3)) (zaa (zac (pq Haf 4)) zal)))))))))))
theorem Kai (d_aa : Def P w K mg base "show_number" 1 1 F_aa) (d_ah : Def P w K mg base "_law_told" 5 1 F_ah) (d_ag : Def P w K mg base "_law_bent" 2 3 F_ag) (d_ac : Def P w K mg base "read_number" 2 1 F_ac) (d_af : Def P w K mg base "_law_written" 2 2 F_af) (F : Fun K "law" "law" Sai f fd) : FnOk P w K mg base CX0 6 f fd ["_law_script"] (spD K 1 F_ai) :=
 okD (k := 5) (g := g_ai) F (fq Hai 1) rfl fun cdv A outer s H E B G0 hr =>
 have hu := hr.units
 have hgd := hr.gd
 (zai (zaD (i := 1) (nq Hai) rfl (lq Hai 1) (zb8 (zaa zah (zaa (pdf d_aa hr (gq Hai 1) (zaa zah zal)) zal))))
 (zai (zdN PassesOwn.never rfl (zhU (gq Hai 0) T.b_enumerate (zaa (zaq zaM (zbB (zaa zah zal)) (zaB (zac (pq Hai 0)) zaU (zaJ zah))) zal)) (zjB rfl (zca (zbh (zbe (i := 2) (nq Hai) rfl (lq Hai 2))) (zca (zbh (zbe (i := 3) (nq Hai) rfl (lq Hai 3))) zg6)))
 (zai (zaD (i := 4) (nq Hai) rfl (lq Hai 4) (zc3 (pdf d_af hr (gq Hai 6) (zaa (zac (pq Hai 3)) (zaa (zaq zaM zah (zac (pq Hai 2))) zal))) zah (fun _ _ => rfl)))
 (zai (zdN PassesOwn.never rfl (zfa (zbB (zaa (zac (pq Hai 4)) (zaa (zaq zaM (zac (pq Hai 4)) zah) (zaa (zaq zeW (zac (pq Hai 4)) zah) (zaa (zaq zeW zah (zac (pq Hai 4))) zal)))))) (zbh (zbe (i := 5) (nq Hai) rfl (lq Hai 5)))
 (zar (zbb (zb6 B_lt (zb9 zk6 (gq Hai 4) T.b_abs zfx (zaa (zac (pq Hai 5)) zal)) (zaq zjv zah zah) (zaG _))
 (zai (zaD (i := 6) (nq Hai) rfl (lq Hai 6) (pdf d_aa hr (gq Hai 1) (zaa (zac (pq Hai 5)) zal)))
 (zai (zbb (PW.pt (zg2 (zb6 (B_ne hu) (pdf d_ac hr (gq Hai 5) (zaa (zac (pq Hai 6)) zal)) (zac (pq Hai 5)) (zaG _)) (zeY (zb6 (B_ne hu) (zcH (B_eq hu) (pq Hai 6) (zbg (pq Hai 1) zah (fun _ _ => rfl)) (zaG _)) (zcH (B_eq hu) (pq Hai 5) (zbg (pq Hai 1) zah (fun _ _ => rfl)) (zaG _)) (zaG _)))))
 (zar (zaz zbA))
 zaK)
 (zar (zaD (i := 1) (nq Hai) rfl (lq Hai 1) (zb8 (zaa (zac (pq Hai 5)) (zaa (zac (pq Hai 6)) zal)))))))
 zaK)))
 (zai (zaD (i := 7) (nq Hai) rfl (lq Hai 7) (pdf d_ag hr (gq Hai 3) (zaa (pdf d_aa hr (gq Hai 1) (zaa (zac (pq Hai 4)) zal)) (zaa (zac (pq Hai 3)) (zaa (zaq zaM zah (zac (pq Hai 2))) zal)))))
 (zai (zaD (i := 8) (nq Hai) rfl (lq Hai 8) (pdf d_ah hr (gq Hai 2) (zaa (zac (pq Hai 7)) zal)))
 (zai (zbb (PW.pt (zdr (zge (zac (pq Hai 8))) (zcB (zb6 (B_ne hu) (pdf d_aa hr (gq Hai 1) (zaa (zac (pq Hai 8)) zal)) (zac (pq Hai 7)) (zaG _)))))
 (zar (zaz zbA))
 zaK)
 (zar (zbb (PW.pt (zdr (zhO (zac (pq Hai 8))) (zcB (zaN (B_eq hu) (pq Hai 7) (pdf d_aa hr (gq Hai 1) (zaa (zac (pq Hai 4)) zal)) (zaG _)))))
 (zar (zaz zbA))
 zaK))))))))
 (zar (zaz zbA))))
end
theorem za9 : recsOf q0 = zcu p0 ixL := by
 show recsOf (PySem.W.view PySem.Challenge.pw_wishdeal_k05_whole_numbers_there_and_bac zcw) = zcu PySem.Challenge.pw_wishdeal_k05_whole_numbers_there_and_bac ixL
 rw [PySem.W.Fast.te3399658132070893891, PySem.W.Fast.te7683518422304206069]
 kernel_rfl
theorem zcj : (["ValueError", "abs", "all", "enumerate", "int", "isinstance", "len", "max", "range", "str"] : List Str).all (zgA q0 (PySem.W.looseW q0 [])) = true := by
 show List.all _ (zgA (PySem.W.view PySem.Challenge.pw_wishdeal_k05_whole_numbers_there_and_bac zcw) (PySem.W.looseW (PySem.W.view PySem.Challenge.pw_wishdeal_k05_whole_numbers_there_and_bac zcw) [])) = true
 k_qdec
theorem zeo : valOf q0 "FIGURES" = some (.str "0123456789") := by
 show valOf (PySem.W.view PySem.Challenge.pw_wishdeal_k05_whole_numbers_there_and_bac zcw) _ = _
 rw [PySem.W.Fast.te1987589406359920131, PySem.W.Fast.te7683518422304206069]
 kernel_rfl
theorem zck : valOf q0 "MOST_FIGURES" = some (.int 60) := by
 show valOf (PySem.W.view PySem.Challenge.pw_wishdeal_k05_whole_numbers_there_and_bac zcw) _ = _
 rw [PySem.W.Fast.te1987589406359920131, PySem.W.Fast.te7683518422304206069]
 kernel_rfl
theorem zj2 {l : PySem.W.OpenLaw} {w : World} {s0 : Shared} {mg mb : Str -> Option Value} {fa : Addr} {h : Heap} {XP : (Str -> Option Value) -> Heap -> Prop} (G : PySem.W.Ground q0 [] [] XP w s0 mg mb h) (Y : XYP p0 clsL h) (hfa : mg "law" = some (.ref fa)) :
  ∃ fd : FuncData, (∀ (s : Shared) (v : Value), BindsTo s fd ⟨[v], []⟩ [("_law_script", v)]) /\ ∀ base : Heap, FnOk l.prog w (whole h) mg base CX0 6 fa fd ["_law_script"] (spD (whole h) 1 F_ai) := by
 obtain ⟨D0, f0, fd0, R⟩ := zio (i := 1) G.T.g Y (.head _) (za4 G.T zcj (.head _)) (zbl (by decide +kernel)) rfl (fun _ => ⟨_, rfl⟩) (fun _ _ _ _ _ _ us hl => bz2 (us := us) hl fun _ _ => rfl)
 have T : Txt (whole h) mg := ⟨za4 G.T zcj (.head _), za4 G.T zcj (.tail _ (.head _)), za4 G.T zcj (.tail _ (.tail _ (.head _))), za4 G.T zcj (.tail _ (.tail _ (.tail _ (.head _)))), za4 G.T zcj (.tail _ (.tail _ (.tail _ (.tail _ (.head _))))), za4 G.T zcj (.tail _ (.tail _ (.tail _ (.tail _ (.tail _ (.head _)))))), za4 G.T zcj (.tail _ (.tail _ (.tail _ (.tail _ (.tail _ (.tail _ (.head _))))))), za4 G.T zcj (.tail _ (.tail _ (.tail _ (.tail _ (.tail _ (.tail _ (.tail _ (.head _)))))))), za4 G.T zcj (.tail _ (.tail _ (.tail _ (.tail _ (.tail _ (.tail _ (.tail _ (.tail _ (.head _))))))))), za4 G.T zcj (.tail _ (.tail _ (.tail _ (.tail _ (.tail _ (.tail _ (.tail _ (.tail _ (.tail _ (.head _)))))))))), zfo G.T zeo, zfn G.T zck, zk2 (c := ("NoText", some 2)) G.T.g Y R (.tail _ (.head _))⟩
 refine zkX G.T za9 15 "law" rfl rfl hfa (fun _ _ _ _ _ _ _ => rfl) fun base => ?_
 have m_NoText := zjY (nm := "NoText") (j := 2) (ps := ["self", "row"]) G.T.g Y R (.tail _ (.head _)) (by decide) l.prog w base (fun _ _ _ _ _ _ us hl => bz2 (us := us) hl fun _ _ => rfl) (fun FU => zim R.cf (R.ok l.prog w base) R.bd R.at' FU (zbl (by decide +kernel)) (by decide) (by decide) (by decide) rfl (fun _ => ⟨_, rfl⟩) (by decide))
 have d_aa := zde l.prog w base G.T za9 6 "show_number" rfl rfl (fun F => Kaa T  F) fun _ _ _ _ _ _ us hl => bz1 (us := us) hl fun _ => rfl
 have d_ab := zde l.prog w base G.T za9 7 "is_written_number" rfl rfl (fun F => Kab T  F) fun _ _ _ _ _ _ us hl => bz1 (us := us) hl fun _ => rfl
 have dX_read_number := zjZ l.prog w base G.T za9 8 "read_number" rfl rfl (fun F => zci T d_ab m_NoText F) fun _ _ _ _ _ _ us hl => bz1 (us := us) hl fun _ => rfl
 have d_ah := zde l.prog w base G.T za9 14 "_law_told" rfl rfl (fun F => Kah T dX_read_number F) fun _ _ _ _ _ _ us hl => bz1 (us := us) hl fun _ => rfl
 have d_ae := zde l.prog w base G.T za9 11 "_law_sign" rfl rfl (fun F => Kae T  F) fun _ _ _ _ _ _ us hl => bz1 (us := us) hl fun _ => rfl
 have d_ad := zde l.prog w base G.T za9 10 "_law_numbers" rfl rfl (fun F => Kad T  F) fun _ _ _ _ _ _ us hl => bz3 (us := us) hl fun _ _ _ => rfl
 have d_ag := zde l.prog w base G.T za9 13 "_law_bent" rfl rfl (fun F => Kag T d_ae d_ad F) fun _ _ _ _ _ _ us hl => bz3 (us := us) hl fun _ _ _ => rfl
 have d_ac := zde l.prog w base G.T za9 8 "read_number" rfl rfl (fun F => Kac T d_ab F) fun _ _ _ _ _ _ us hl => bz1 (us := us) hl fun _ => rfl
 have d_af := zde l.prog w base G.T za9 12 "_law_written" rfl rfl (fun F => Kaf T d_ad F) fun _ _ _ _ _ _ us hl => bz2 (us := us) hl fun _ _ => rfl
 exact fun {_ _} F => Kai T d_aa d_ah d_ag d_ac d_af F
abbrev d_ai : DefRec := ⟨"law", zaZ Sai, zaC Sai, zaf Sai, zkW Sai⟩
theorem walk {XP : (Str -> Option Value) -> Heap -> Prop} (hlaw : ∀ ns : List Int, ns.length <= 63 -> F_ai [.list (ns.map PyData.int)] = some (.bool true)) : PySem.W.WalkO q0 [] XP (fun _ h => XYP p0 clsL h) (PySem.Challenge.rw_wishdeal_k05_whole_numbers_there_and_bac).row.toRowW d_ai [] (fun f vs => PySem.call f vs) :=
 zfv (n := 63) (k := 6) (x := "_law_script") rfl (by decide) rfl ⟨rfl, by decide, by decide, rfl⟩ (fun _ _ _ _ _ _ G Y hm => zj2 G Y hm) hlaw
end W
namespace W
open PySem PySem.Spec L2 DL
open PyProof.Rows hiding St
theorem asm {α : Type} {a b : α} (h : a = b) : a = b := h
theorem zj3 {i : Nat} {x : Option Sl} {ρ ρ' : DEnv} (h : ρ.set i x = ρ') : ρ.set i x = ρ' := h
theorem zj4 {i : Nat} {ρ : DEnv} {x : Option (Option Sl)} (h : ρ[i]? = x) : ρ[i]? = x := h
theorem asmN {ds : List D} {n : Nat} (h : ds.length < n) : ds.length < n := h
theorem zk8 {ds : List D} {n : Nat} (h : ds.length <= n) : ds.length <= n := h
theorem asmE {ds : List D} {n : Nat} (h : ds.length = n) : ds.length = n := h
theorem zj5 {i : Nat} {ρ : DEnv} (h : i < ρ.length) : i < ρ.length := h
local macro_rules | `(tactic| walk_at "set") => `(tactic| first | (simp only [List.set_cons_succ, List.set_cons_zero]; done) | (simp only [List.set_cons_succ, List.set_cons_zero]; rfl) | rfl)
local macro_rules | `(tactic| walk_at "side") => `(tactic| first | assumption | omega | (simp only [List.length_cons, List.length_nil, List.length_map, List.length_append]; omega))
local macro_rules | `(tactic| walk_at "st1") => `(tactic| first
 | with_reducible apply za2
 | with_reducible apply zic
 | ((with_reducible apply zjS); exact rfl)
 | with_reducible apply zg9
 | with_reducible apply st_setI
 | with_reducible apply st_drop
 | with_reducible exact st_nx)
local macro_rules | `(tactic| walk_at "ev1") => `(tactic| first
 | with_reducible exact zab
 | with_reducible exact zav
 | ((with_reducible apply zag); exact rfl)
 | with_reducible apply zap
 | with_reducible apply zae
 | with_reducible apply zbv
 | with_reducible apply ev_zip
 | ((with_reducible apply ev_listO); exact rfl)
 | with_reducible apply zcM
 | ((with_reducible apply zaO); exact rfl)
 | ((with_reducible apply ev_binKO); exact rfl)
 | with_reducible apply ev_join
 | with_reducible apply zbd
 | ((with_reducible apply zfd); exact rfl)
 | with_reducible apply zcd
 | with_reducible apply zjM
 | ((with_reducible apply zcI); exact rfl)
 | ((with_reducible apply ev_lenO); exact rfl)
 | with_reducible apply zh7
 | with_reducible apply ev_rng2
 | with_reducible apply ev_rng3
 | with_reducible apply ev_enum1
 | with_reducible apply ev_count
 | with_reducible apply ev_index
 | with_reducible apply zfe
 | with_reducible apply ev_iter
 | with_reducible apply ev_sl
 | with_reducible apply za6
 | with_reducible apply zce
 | with_reducible apply zbs
 | with_reducible apply zfc
 | with_reducible apply zcs
 | with_reducible apply zh6
 | ((with_reducible apply zh5); exact rfl; walk_at "set")
 | ((with_reducible apply ev_ixO); exact rfl)
 | with_reducible apply za1
 | ((with_reducible apply asm); (with_reducible assumption))
 | with_reducible exact zbi
 | with_reducible exact zcL
 | with_reducible exact zjP
 | with_reducible exact zia
 | with_reducible exact vop_min
 | with_reducible exact zgt
 | with_reducible exact vop_lenT
 | with_reducible exact vop_sl
 | with_reducible exact zdW
 | with_reducible exact zfi
 | with_reducible exact vop_itT
 | with_reducible exact zfj
 | with_reducible exact vop_inS
 | with_reducible exact vop_ninS
 | with_reducible exact vop_iter
 | with_reducible exact zdR
 | with_reducible exact vop_enum1
 | with_reducible exact zfk
 | with_reducible exact vop_sumI
 | with_reducible exact zib
 | with_reducible exact zff
 | with_reducible exact zbj
 | ((with_reducible apply zbC); walk_at "side")
 | ((with_reducible apply zh8) <;> walk_at "side")
 | ((with_reducible apply zdQ) <;> walk_at "side")
 | ((with_reducible apply zgs) <;> walk_at "side")
 | ((with_reducible apply zcK); walk_at "side")
 | ((with_reducible apply zj5); exact of_decide_eq_true rfl)
 | ((with_reducible apply zaL); walk_at "st1")
 | ((with_reducible apply zbM); walk_at "st1")
 | walk_at "st1"
 | ((with_reducible apply zj4); exact rfl)
 | ((with_reducible apply asmN); walk_at "side")
 | ((with_reducible apply zk8); walk_at "side")
 | with_reducible apply zaS
 | ((with_reducible apply zj3); walk_at "set")
 | ((with_reducible apply zj5); exact of_decide_eq_true rfl)
 | with_reducible apply tg_N
 | with_reducible exact tg_0
 | with_reducible apply tg_C
 | ((with_reducible apply tg_T); exact rfl)
 | ((with_reducible apply asmE); exact rfl))
local macro_rules | `(tactic| walk_at "ev") => `(tactic| repeat' walk_at "ev1")
theorem zcv {sizes found : List Int} {z d : Int} (h : ∀ (j : Nat) d z, found[j]? = some d -> sizes[j]? = some z -> 0 <= d /\ d < z) (hz : sizes[found.length]? = some z) (h0 : 0 <= d /\ d < z) :
  ∀ (j : Nat) d' z', (found ++ [d])[j]? = some d' -> sizes[j]? = some z' -> 0 <= d' /\ d' < z' := by
 intro j d' z' e1 e2
 by_cases hj : j < found.length
 ·rw [List.getElem?_append_left hj] at e1
  exact h j d' z' e1 e2
 ·by_cases hj2 : j = found.length
  ·subst hj2
   rw [hz] at e2
   cases e2
   rw [List.getElem?_append_right (Nat.le_refl _), Nat.sub_self, List.getElem?_cons_zero] at e1
   cases e1
   exact h0
  ·rw [List.getElem?_eq_none (by rw [List.length_append, List.length_singleton]; omega)] at e1
   cases e1
def inv (c s : Int) (sizes : List Int) (n : Int) (i : Nat) (ρ : DEnv) : Prop := ∃ left found x6 x7, ρ = [some (Sl.pub (.int c)), some (.pub (.int s)), some (.pub (.list (sizes.map .int))), some (.pub (.int n)), some (.pub (.int left)), some (.own ((found : List Int).map .int)), x6, x7] /\
 found.length = i /\ ∀ (j : Nat) d z, found[j]? = some d -> sizes[j]? = some z -> 0 <= d /\ d < z
theorem zfB {c s n : Int} {sizes : List Int} (hs : ∀ x ∈ sizes, 0 < x /\ x < 18446744073709551616) (hl : sizes.length <= 1000) {i : Nat} {d : D} {ρ : DEnv} {Q : Out -> Prop} (hi : (zbo 0 sizes.length)[i]? = some d) (h : inv c s sizes n i ρ) :
  ∃ ρ2, gN 6 d ρ = some ρ2 /\ Ho zdy ρ2 (zie (inv c s sizes n (i + 1)) Q) := by
 obtain ⟨left, found, x6, x7, rfl, hf, hfd⟩ := h
 obtain ⟨rfl, hlt⟩ := zel hi
 obtain ⟨z, hz⟩ : ∃ z, sizes[i]? = some z := ⟨sizes[i]'(by omega), List.getElem?_eq_getElem _⟩
 obtain ⟨z1, z2⟩ := hs z (List.mem_of_getElem? hz)
 have hix : oIx (.list (sizes.map PyData.int)) (.int (0 + (i : Int))) = some (.int z) := by
  rw [Int.zero_add]
  exact zcy (by rw [List.getElem?_map, hz]; rfl)
 generalize hk : (0 : Int) + (i : Int) = k at hix ⊢
 have hk1 : k < 18446744073709551616 := by omega
 have hk2 : -18446744073709551616 < k := by omega
 have hlen : (found.map PyData.int).length < 1000000 := by rw [List.length_map]; omega
 have pw : oPow (.int 10) (.int 18) = some (.int 1000000000000000000) := by rw [zh9 (by decide)]; rfl
 refine ⟨_, tg_N (of_decide_eq_true rfl) (by walk_at "set"), ?_⟩
 unfold zdy
 apply za3
 case h1 =>
  apply zjN
  case h1 => walk_at "ev"
  case h2 => intro _; walk_at "ev"
 case h2 =>
  intro _
  walk_at "ev"
  refine zbD ?_
  exact ⟨_, found ++ [left % z], _, _, by rw [List.map_append]; rfl, by rw [List.length_append, hf]; rfl, zcv hfd (by rw [hf]; exact hz) ⟨Int.emod_nonneg _ (by omega), Int.emod_lt_of_pos _ z1⟩⟩
 case h3 =>
  intro _
  walk_at "ev"
  refine zbD ?_
  exact ⟨_, found ++ [_ % z], _, _, by rw [List.map_append]; rfl, by rw [List.length_append, hf]; rfl, zcv hfd (by rw [hf]; exact hz) ⟨Int.emod_nonneg _ (by omega), Int.emod_lt_of_pos _ z1⟩⟩
theorem zbT (c s : Int) {sizes : List Int} (hs : ∀ x ∈ sizes, 0 < x /\ x < 18446744073709551616) (hl : sizes.length <= 1000) :
  ∃ r, F_ad [.int c, .int s, .list (sizes.map PyData.int)] = some r /\ ∃ ds : List Int, r = .list (ds.map .int) /\ ds.length = sizes.length /\ ∀ (j : Nat) d z, ds[j]? = some d -> sizes[j]? = some z -> 0 <= d /\ d < z := by
 refine zdV (ρ := [some (.pub (.int c)), some (.pub (.int s)), some (.pub (.list (sizes.map PyData.int))), none, none, none, none, none]) rfl ?_
 unfold g_ad
 walk_at "ev"
 apply zaE
 apply zdU (ds := zbo 0 sizes.length) (inv c s sizes (if -1 - c > c then -1 - c else c))
 case h1 =>
  walk_at "ev"
  rw [List.length_map]
  exact zgu (by omega) (by omega)
 case h0 => exact ⟨_, [], none, none, rfl, rfl, fun j d z e => by cases e⟩
 case hst => exact fun i d ρ e h => zfB hs hl e h
 case hend =>
  rintro ρ ⟨left, found, x6, x7, rfl, hf, hfd⟩
  refine zaw ?_
  walk_at "ev"
  rw [zaV] at hf
  exact ⟨_, rfl, found, rfl, by omega, hfd⟩
theorem zdZ {d : D} : ∀ {xs : List D} {k i : Nat}, (zcb k xs)[i]? = some d -> ∃ x, xs[i]? = some x /\ d = .tuple [.int ((k + i : Nat) : Int), x]
 | [], k, i, h => by cases h
 | x :: r, k, 0, h => by
  cases h
  exact ⟨x, rfl, rfl⟩
 | x :: r, k, i + 1, h => by
  obtain ⟨y, e, q⟩ := zdZ (xs := r) (k := k + 1) (i := i) h
  exact ⟨y, e, by rw [q]; congr 4; omega⟩
section
variable {cs : List Int} {ls : List (List (List Int))} {ws : List (Option Int)} {a : Nat} {o had : Option Int} {rs : List (List Int)} {t : Int}
end
theorem zgJ {xs : List D} {a b : Option Int} : (DL.cutD xs a b).length <= xs.length := by
 unfold DL.cutD
 rw [List.length_take, List.length_drop]
 omega
theorem zgK {xs : List D} {a b : Option Int} {x : D} (h : x ∈ DL.cutD xs a b) : x ∈ xs := by
 unfold DL.cutD at h
 exact List.mem_of_mem_drop (List.mem_of_mem_take h)
theorem zfC {ns : List Int} {n : Int} {a b : Option Int} {i : Nat} {x : D} (h : (PyData.int n :: DL.cutD (ns.map PyData.int) a b)[i]? = some x) : ∃ c : Int, x = .int c := by
 have hm := List.mem_of_getElem? h
 rcases List.mem_cons.mp hm with rfl | hm
 ·exact ⟨n, rfl⟩
 ·obtain ⟨c, _, rfl⟩ := List.mem_map.mp (zgK hm)
  exact ⟨c, rfl⟩
theorem zfD {ns : List Int} {n : Int} {a b : Option Int} (h : ns.length <= 1000) : oAdd (.list [.int n]) (.list (DL.cutD (ns.map PyData.int) a b)) = some (.list (PyData.int n :: DL.cutD (ns.map PyData.int) a b)) := zcK (by
 have := zgJ (xs := ns.map PyData.int) (a := a) (b := b)
 rw [List.length_map] at this
 show 1 + _ <= _
 omega)
theorem zd0 (z : Str) (a b : Option Int) : (cutS z a b).length <= z.length := by
 unfold cutS
 split
 ·exact Nat.le_refl _
 ·show Array.size _ <= _
  rw [List.size_toArray]
  exact Nat.le_trans (List.length_filterMap_le _ _) (sliceIndices_le a b z.length)
theorem zis {z : Str} {a b : Option Int} (h : PyData.strOk z = true) : PyData.strOk (cutS z a b) = true := by
 unfold cutS
 split
 ·exact h
 ·unfold PyData.strOk at h ⊢
  rw [Array.all_eq_true'] at h
  rw [List.all_toArray, List.all_eq_true]
  intro c hc
  obtain ⟨i, _, e⟩ := List.mem_filterMap.mp hc
  exact h c (Array.mem_of_getElem? e)
theorem zit {z : Str} {a b : Option Int} (h : z.length <= 1000000) : oSlA (.str z) a b = some (.str (cutS z a b)) := zgy (Nat.le_trans (zd0 z a b) h)
theorem zba {a b : Str} (h1 : PyData.strOk a = true) (h2 : PyData.strOk b = true) : PyData.strOk (a ++ b) = true := by
 unfold PyData.strOk at *
 show (a.cps ++ b.cps).all _ = true
 rw [Array.all_append, h1, h2]; rfl
theorem zaF (a b : Str) : (a ++ b).length = a.length + b.length := by
 show (a.cps ++ b.cps).size = _
 rw [Array.size_append]; rfl
theorem ziu {c : Nat} (h : c < 1114112) : PyData.strOk ⟨#[c]⟩ = true := by
 unfold PyData.strOk
 simp [h]
theorem ixm {xs : List D} {i : Int} {n : Nat} (h0 : 0 <= i) (h1 : i < n) (hl : xs.length = n) : ∃ d, oIx (.list xs) (.int i) = some d /\ d ∈ xs := by
 have hi : i.toNat < xs.length := by omega
 exact ⟨xs[i.toNat], zfb h0 (List.getElem?_eq_getElem hi), List.getElem_mem hi⟩
theorem zep {i : Int} (h0 : 0 <= i) : ∃ c, F_ae [.int i] = some (.str ⟨#[c]⟩) /\ c < 1114112 := by
 have hm0 := Int.emod_nonneg i (show (96 : Int) ≠ 0 by decide)
 have hm1 := Int.emod_lt_of_pos i (show (0 : Int) < 96 by decide)
 have hz : ((" !\"#$&'()*+,-./0123456789:;<=>?@ABCDEFGHIJKLMNOPQRSTUVWXYZ[\\]^_`" : Str) ++ ("abcdefghijklmnopqrstuvwxyz{|}~\n\t" : Str)).cps.size = 96 := by decide +kernel
 have hall : ((" !\"#$&'()*+,-./0123456789:;<=>?@ABCDEFGHIJKLMNOPQRSTUVWXYZ[\\]^_`" : Str) ++ ("abcdefghijklmnopqrstuvwxyz{|}~\n\t" : Str)).cps.toList.all (fun c => decide (c < 1114112)) = true := by decide +kernel
 have hs : (" !\"#$&'()*+,-./0123456789:;<=>?@ABCDEFGHIJKLMNOPQRSTUVWXYZ[\\]^_`" : Str).length + ("abcdefghijklmnopqrstuvwxyz{|}~\n\t" : Str).length <= 1000000 := by decide +kernel
 generalize hA : (" !\"#$&'()*+,-./0123456789:;<=>?@ABCDEFGHIJKLMNOPQRSTUVWXYZ[\\]^_`" : Str) = A at hz hall hs
 generalize hB : ("abcdefghijklmnopqrstuvwxyz{|}~\n\t" : Str) = B at hz hall hs
 have hi : (i % 96).toNat < (A ++ B).cps.toList.length := by rw [Array.length_toList, hz]; omega
 refine ⟨(A ++ B).cps.toList[(i % 96).toNat], zct (ρ := [some (.pub (.int i)), none]) rfl ?_, ?_⟩
 ·unfold g_ae
  rw [hA, hB]
  have hadd := zcJ hs
  have hix : oIx (.str (A ++ B)) (.int (i % 96)) = some (.str ⟨#[(A ++ B).cps.toList[(i % 96).toNat]]⟩) := by
   unfold oIx
   have hl : (A ++ B).length = 96 := hz
   have ha : atI (A ++ B).cps.toList (i % 96) = some (A ++ B).cps.toList[(i % 96).toNat] := zfb hm0 (List.getElem?_eq_getElem hi)
   show (if _ then _ else _) = _
   rw [if_pos (by omega), ha]
   rfl
  refine zaL (za2 zab (of_decide_eq_true rfl) (by walk_at "set")) ?_
  refine zaL (za2 (zap (zag rfl) zab hadd) (of_decide_eq_true rfl) (by walk_at "set")) ?_
  exact zaS (zfd rfl (zap (zag rfl) zab (zbC (by decide))) hix) rfl
 ·have := List.all_eq_true.mp hall _ (List.getElem_mem hi)
  simpa using this
theorem zd1 {d : Nat} (hd : d < 10) : oIx (.str "0123456789") (.int d) = some (.str (tx [Nat.digitChar d])) := by
 have : d = 0 ∨ d = 1 ∨ d = 2 ∨ d = 3 ∨ d = 4 ∨ d = 5 ∨ d = 6 ∨ d = 7 ∨ d = 8 ∨ d = 9 := by omega
 rcases this with rfl|rfl|rfl|rfl|rfl|rfl|rfl|rfl|rfl|rfl <;> rfl
def dg (n : Nat) : List Char := if n = 0 then [] else Nat.toDigits 10 n
theorem zbG {n : Nat} (h : n ≠ 0) : dg n = Nat.toDigits 10 n := if_neg h
theorem zcO {n d : Nat} (hd : d < 10) (h : n ≠ 0 ∨ d ≠ 0) : dg (n * 10 + d) = dg n ++ [d.digitChar] := by
 have e : n * 10 + d = 10 * n + d := by omega
 rw [zbG (by omega), e]
 by_cases hn : n = 0
 ·subst hn
  rw [Nat.mul_zero, Nat.zero_add, Nat.toDigits_of_lt_base hd]; rfl
 ·rw [zbG hn, ← Nat.toDigits_append_toDigits (by decide) (by omega) hd, Nat.toDigits_of_lt_base hd]
theorem zfE {n : Nat} : dg n = [] ↔ n = 0 := by
 constructor
 ·intro h
  by_cases hn : n = 0
  ·exact hn
  ·rw [zbG hn] at h
   exact absurd h Nat.toDigits_ne_nil
 ·intro h; subst h; rfl
theorem zd2 : ∀ (k n : Nat), n < 10 ^ k -> (dg n).length <= k
 | 0, n, h => by
  have : n = 0 := by simpa using h
  subst this; exact Nat.le_refl _
 | k + 1, n, h => by
  by_cases hn : n = 0
  ·subst hn; exact Nat.zero_le _
  ·have e : n = (n / 10) * 10 + n % 10 := by omega
   rw [e, zcO (Nat.mod_lt _ (by decide)) (by omega), List.length_append]
   have := zd2 k (n / 10) (by rw [Nat.pow_succ] at h; omega)
   show _ + 1 <= _
   omega
theorem zdA {n : Nat} (h : n ≠ 0) : Str.ofString (toString (n : Int)) = tx (dg n) := by
 rw [zbG h, Int.toString_eq_repr, Int.repr_eq_if, if_pos (by omega), Int.toNat_natCast, Nat.repr_eq_ofList_toDigits, zdb, String.toList_ofList]
theorem zdB {n : Nat} (h : n ≠ 0) : Str.ofString (toString (0 - (n : Int))) = tx ('-' :: dg n) := by
 have e : (-(0 - (n : Int))).toNat = n := by omega
 rw [zbG h, Int.toString_eq_repr, Int.repr_eq_if, if_neg (by omega), e, Nat.repr_eq_ofList_toDigits, zdb]
 simp
theorem str0 : Str.ofString (toString (0 : Int)) = tx ['0'] := by rw [zdb]; rfl
theorem lit0 : ("" : Str) = tx [] := by rw [zdb]; rfl
theorem litm : ("-" : Str) = tx ['-'] := by rw [zdb]; rfl
theorem litz : ("0" : Str) = tx ['0'] := by rw [zdb]; rfl
theorem ziv {ds : List Int} {a b : Int} {i : Nat} {d : D} (ha : 0 <= a) (hb : 0 <= b) (h : (DL.cutD (ds.map PyData.int) (some a) (some b))[i]? = some d) : ∃ z, d = .int z /\ ds[a.toNat + i]? = some z := by
 unfold DL.cutD HT.sIx at h
 dsimp only at h
 rw [if_neg (by omega), if_neg (by omega), List.length_map] at h
 have h2 := List.getElem?_eq_some_iff.mp h
 obtain ⟨hl, _⟩ := h2
 rw [List.length_take, List.length_drop, List.length_map] at hl
 rw [List.getElem?_take_of_lt (by omega), List.getElem?_drop, List.getElem?_map] at h
 have e : min a.toNat ds.length = a.toNat := by omega
 rw [e] at h
 cases z : ds[a.toNat + i]? with
 | none => rw [z] at h; cases h
 | some v => rw [z] at h; cases h; exact ⟨v, rfl, rfl⟩
def sz : List Int := 61 :: 2 :: List.replicate 60 10
theorem zk9 : ∀ x ∈ sz, 0 < x /\ x < 18446744073709551616 := by decide
theorem zj6 {j : Nat} {z : Int} (h : sz[2 + j]? = some z) : z = 10 := by
 unfold sz at h
 rw [show 2 + j = j + 2 from by omega, List.getElem?_cons_succ, List.getElem?_cons_succ] at h
 have := List.mem_of_getElem? h
 exact (List.mem_replicate.mp this).2
def inv2 (c s : Int) (ds : List Int) (i : Nat) (ρ : DEnv) : Prop := ∃ (n : Nat) (x5 : Option Sl), ρ = [some (Sl.pub (.int c)), some (.pub (.int s)), some (.pub (.list (ds.map .int))), some (.pub (.int n)), some (.pub (.str (tx (dg n)))), x5] /\ n < 10 ^ i /\ i <= 60
theorem zdg (c s : Int) : ∃ r, F_af [.int c, .int s] = some r /\ ∃ n : Int, r = .tuple [.int n, .str (toString n)] /\ n.natAbs < 10 ^ 60 := by
 obtain ⟨r, hF, ds, rfl, hl, hd⟩ := zbT c s (sizes := sz) zk9 (by decide)
 obtain ⟨d0, e0⟩ : ∃ d, ds[0]? = some d := ⟨ds[0]'(by rw [hl]; decide), List.getElem?_eq_getElem _⟩
 obtain ⟨d1, e1⟩ : ∃ d, ds[1]? = some d := ⟨ds[1]'(by rw [hl]; decide), List.getElem?_eq_getElem _⟩
 obtain ⟨p0, p1⟩ := hd 0 d0 61 e0 rfl
 have x0 : oIx (.list (ds.map PyData.int)) (.int 0) = some (.int d0) := zcy (j := 0) (by rw [List.getElem?_map, e0]; rfl)
 have x1 : oIx (.list (ds.map PyData.int)) (.int 1) = some (.int d1) := zcy (j := 1) (by rw [List.getElem?_map, e1]; rfl)
 have hmul : oMul (.list [.int 10]) (.int 60) = some (.list ((List.replicate 60 10).map PyData.int)) := zem (by decide)
 have hadd : oAdd (.list [.int 61, .int 2]) (.list ((List.replicate 60 10).map PyData.int)) = some (.list (sz.map PyData.int)) := zcK (by decide)
 refine zdV (ρ := [some (.pub (.int c)), some (.pub (.int s)), none, none, none, none]) rfl ?_
 unfold g_af
 rw [lit0]
 walk_at "ev"
 apply zaE
 apply zdU (inv2 c s ds)
 case h1 =>
  walk_at "ev"
 case h0 => exact ⟨0, none, rfl, by decide, by decide⟩
 case hst =>
  rintro i d ρ hi ⟨n, x5, rfl, hn, h60⟩
  obtain ⟨z, rfl, hz⟩ := ziv (by decide) (by omega) hi
  have hi60 : i < 60 := by
   have := (List.getElem?_eq_some_iff.mp hz).1
   rw [hl] at this
   have e : sz.length = 62 := rfl
   have e2 : (2 : Int).toNat = 2 := rfl
   omega
  obtain ⟨z0, z1⟩ := hd _ z 10 hz (by
   have : (sz)[2 + i]? = some (sz[2 + i]'(by have e : sz.length = 62 := rfl; omega)) := List.getElem?_eq_getElem _
   show sz[2 + i]? = some 10; rw [this, zj6 this])
  obtain ⟨k, rfl⟩ : ∃ k : Nat, z = k := ⟨z.toNat, by omega⟩
  have hk : k < 10 := by omega
  have hx := zd1 hk
  have hlen := zd2 i n hn
  have hcat := zdT (a := dg n) (b := [k.digitChar]) (by show _ + 1 <= _; omega)
  refine ⟨_, tg_N (of_decide_eq_true rfl) (by walk_at "set"), ?_⟩
  unfold zfz
  rw [lit0]
  apply zaE
  apply za3
  case h1 =>
   apply zkR
   case h1 => walk_at "ev"
   case h2 => intro _; walk_at "ev"
  case h2 =>
   intro ht
   have hnk : n ≠ 0 ∨ k ≠ 0 := by
    by_cases h0 : n = 0
    ·subst h0
     right
     simp [zfE] at ht
     omega
    ·exact .inl h0
   clear hd hF hl e0 e1 x0 x1 hmul hadd hi hz
   have s1 : sSet 4 (dBin oAdd (dVar 4) (dBin oIx (zad (PyData.str (Str.ofString "0123456789"))) (dVar 5))) [some (Sl.pub (PyData.int c)), some (Sl.pub (PyData.int s)), some (Sl.pub (PyData.list (List.map PyData.int ds))), some (Sl.pub (PyData.int n)), some (Sl.pub (PyData.str (tx (dg n)))), some (Sl.pub (PyData.int k))] = .nx [some (Sl.pub (PyData.int c)), some (Sl.pub (PyData.int s)), some (Sl.pub (PyData.list (List.map PyData.int ds))), some (Sl.pub (PyData.int n)), some (Sl.pub (PyData.str (tx (dg n ++ [k.digitChar])))), some (Sl.pub (PyData.int k))] :=
    za2 (zap (zag rfl) (zap zab (zag rfl) hx) hcat) (of_decide_eq_true rfl) rfl
   refine zbM s1 ?_
   refine zaw ?_
   apply zbM
   ·apply za2
    ·apply zap
     ·apply zap
      ·walk_at "ev"
      ·walk_at "ev"
      ·exact zdQ (by decide) (by decide)
     ·walk_at "ev"
     ·exact zbi
    ·exact of_decide_eq_true rfl
    ·walk_at "set"
   refine zbD ?_
   refine ⟨n * 10 + k, some (.pub (.int k)), ?_, ?_, by omega⟩
   ·rw [zcO hk hnk]; rfl
   ·rw [Nat.pow_succ]; omega
  case h3 =>
   intro ht
   have hnk : n = 0 /\ k = 0 := by
    simp [zfE] at ht
    omega
   have hn0 := hnk.1
   have hk0 := hnk.2
   subst hn0
   subst hk0
   refine za7 ?_
   refine zaw ?_
   walk_at "ev"
   refine zbD ?_
   exact ⟨0, _, rfl, Nat.pow_pos (by decide), by omega⟩
 case hend =>
  rintro ρ ⟨n, x5, rfl, hn, h60⟩
  have hn60 : n < 10 ^ 60 := Nat.lt_of_lt_of_le hn (Nat.pow_le_pow_right (by decide) h60)
  have hlen := zd2 60 n hn60
  refine zaw ?_
  apply zaE
  apply za3
  case h1 => walk_at "ev"
  case h2 =>
   intro ht
   walk_at "ev"
   exact ⟨_, rfl, 0, by rw [str0, litz], by decide⟩
  case h3 =>
   intro ht
   have h0 : n ≠ 0 := by
    simp [zfE] at ht
    exact ht
   refine za7 ?_
   refine zaw ?_
   apply zaE
   apply za3
   case h1 => walk_at "ev"
   case h2 =>
    intro _
    rw [litm]
    have hcat := zdT (a := ['-']) (b := dg n) (by show 1 + _ <= _; omega)
    walk_at "ev"
    exact ⟨_, rfl, 0 - (n : Int), by rw [zdB h0]; rfl, by omega⟩
   case h3 =>
    intro _
    refine za7 ?_
    refine zaw ?_
    walk_at "ev"
    exact ⟨_, rfl, n, by rw [zdA h0], by omega⟩
theorem ziw {n : Int} (h : n.natAbs < 10 ^ 60) : n.natAbs.log2 < 1920 := by
 by_cases h0 : n.natAbs = 0
 ·rw [h0]; decide
 ·rw [Nat.log2_lt h0]
  exact Nat.lt_trans h (by decide)
theorem zfF {n : Int} (h : n.natAbs < 10 ^ 60) : F_aa [.int n] = some (.str (tx (toString n).toList)) := by
 refine zct (ρ := [some (.pub (.int n))]) rfl ?_
 unfold g_aa
 have hs : zeZ [.int n] = some (.str (toString n)) := by unfold zeZ; exact if_pos (ziw h)
 walk_at "ev"
 rw [zdb]
def stL (l : List Nat) : Str := ⟨l.toArray⟩
theorem zbk (l : List Nat) : (stL l).length = l.length := List.size_toArray
theorem zj7 (z : Str) : z = stL z.cps.toList := by
 unfold stL
 cases z
 rfl
theorem zbO (a b : List Nat) : (stL a == stL b) = decide (a = b) := by
 by_cases h : a = b
 ·subst h; simp
 ·have h2 : ¬ stL a = stL b := fun e => h (by
   have e2 : (stL a).cps = (stL b).cps := by rw [e]
   have e3 : (stL a).cps.toList = (stL b).cps.toList := by rw [e2]
   exact e3)
  rw [decide_eq_false h]
  simpa using h2
theorem zbU {l : List Nat} (h : ∀ c ∈ l, c < 1114112) : PyData.strOk (stL l) = true := by
 unfold PyData.strOk stL
 rw [List.all_toArray, List.all_eq_true]
 intro c hc
 simpa using h c hc
theorem zfG {l : List Nat} (h : PyData.strOk (stL l) = true) : ∀ c ∈ l, c < 1114112 := by
 unfold PyData.strOk stL at h
 rw [List.all_toArray, List.all_eq_true] at h
 intro c hc
 simpa using h c hc
theorem zdC {a b : Str} (ha : PyData.strOk a = true) (hb : PyData.strOk b = true) : oEq (.str a) (.str b) = some (a == b) := by
 unfold oEq
 rw [if_pos ⟨ha, hb, zbF⟩]; rfl
theorem zfH {a b : Str} (ha : PyData.strOk a = true) (hb : PyData.strOk b = true) : oNe (.str a) (.str b) = some (!(a == b)) := by
 unfold oNe
 rw [if_pos ⟨ha, hb, zbF⟩]; rfl
def isDg (c : Nat) : Bool := decide (48 <= c /\ c <= 57)
theorem zgL : ("0123456789" : Str).cps.toList = [48, 49, 50, 51, 52, 53, 54, 55, 56, 57] := by kernel_rfl
theorem zj8 (c : Nat) : inS ⟨#[c]⟩ "0123456789" = isDg c := by
 unfold inS
 rw [StrLaws.found_one, zgL]
 unfold isDg
 by_cases h : 48 <= c /\ c <= 57
 ·rw [decide_eq_true h]
  simp only [List.mem_cons, List.not_mem_nil, or_false, decide_eq_true_eq]
  omega
 ·rw [decide_eq_false h]
  simp only [List.mem_cons, List.not_mem_nil, or_false, decide_eq_false_iff_not]
  omega
def figs (l : List Nat) : List Nat := if l.take 1 = [45] then l.drop 1 else l
def okN (l : List Nat) : Bool := decide (1 <= (figs l).length) && decide ((figs l).length <= 60) && (figs l).all isDg && (decide ((figs l).head? ≠ some 48) || decide (l = [48]))
def vNm (l : List Nat) : Int := if l.take 1 = [45] then 0 - ((NumText.digitsVal (figs l) : Nat) : Int) else ((NumText.digitsVal (figs l) : Nat) : Int)
theorem zgM (l : List Nat) : (figs l).length <= l.length := by
 unfold figs
 split
 ·rw [List.length_drop]; omega
 ·exact Nat.le_refl _
theorem zgN {l : List Nat} {c : Nat} (h : c ∈ figs l) : c ∈ l := by
 unfold figs at h
 split at h
 ·exact List.mem_of_mem_drop h
 ·exact h
theorem zla : ("-" : Str) = stL [45] := by kernel_rfl
theorem zj9 : ("0" : Str) = stL [48] := by kernel_rfl
theorem zgO (l : List Nat) : Txt.removeprefix (stL l) "-" = stL (figs l) := by
 rw [StrLaws.removeprefix_eq, StrLaws.subAt_eq, zla]
 have e1 : (stL [45]).length = 1 := rfl
 have e2 : (stL l).cps.toList = l := rfl
 have e3 : (stL [45]).cps.toList = [45] := rfl
 rw [e1, e2, e3, zbk, List.drop_zero]
 unfold figs
 by_cases h : l.take 1 = [45]
 ·have hl : 1 <= l.length := by
   cases l with
   | nil => simp at h
   | cons c r => simp
  rw [if_pos h, if_pos (by rw [h]; simp; omega)]
  show stL _ = _
  rw [List.take_of_length_le (by rw [List.length_drop]; omega)]
 ·rw [if_neg h, if_neg (by simp [h])]
theorem zix {p : List Nat} {c : Nat} : NumText.digitsVal (p ++ [c]) = NumText.digitsVal p * 10 + (c - 48) := by
 unfold NumText.digitsVal
 rw [List.foldl_append]; rfl
theorem zlb {c : Nat} {r : List Nat} (hl : (c :: r).length <= 1000000) : oIx (.str (stL (c :: r))) (.int 0) = some (.str (stL [c])) := by
 unfold oIx
 dsimp only
 rw [if_pos (by rw [zbk]; exact hl)]
 have e2 : (stL (c :: r)).cps.toList = c :: r := rfl
 have ha : atI (c :: r) 0 = some c := zfb (by decide) rfl
 rw [e2, ha]; rfl
theorem ziy {p : Str -> Str -> Option D} {f : M D} {g : M (List D)} {ρ ρ1 ρ2 : DEnv} {z y : Str} {r : D} (h1 : f ρ = .ok (.str z) ρ1) (h2 : g ρ1 = .ok [.str y] ρ2) (h3 : p z y = some r) : zgH p f g ρ = .ok r ρ2 := by
 unfold zgH
 exact zao h1 (zao h2 (za5 h3))
theorem zdh {l : List Nat} (hz : ∀ c ∈ l, c < 1114112) (hl : l.length <= 1000) : F_ab [.str (stL l)] = some (.bool (okN l)) := by
 refine zct (ρ := [some (.pub (.str (stL l))), none]) rfl ?_
 unfold g_ab
 have hfl := zgM l
 have hlen : oLen [.str (stL (figs l))] = some (.int ((figs l).length : Nat)) := by rw [zdX (by rw [zbk]; omega), zbk]
 apply zaE
 refine za3 (b := false) (zgx (zag rfl) rfl) (fun z => by cases z) fun _ => za7 (zaw ?_)
 have hrm : (if (stL l).length <= 1000000 then some (PyData.str (Txt.removeprefix (stL l) "-")) else none) = some (.str (stL (figs l))) := by rw [if_pos (by rw [zbk]; omega), zgO]
 let ρ0 : DEnv := [some (.pub (.str (stL l))), some (.pub (.str (stL (figs l))))]
 refine zaL (ρ1 := ρ0) (za2 (ziy (zag rfl) (zae zab zav) hrm) (of_decide_eq_true rfl) rfl) ?_
 apply zaE
 refine za3 (zce (zgr zab (zcI rfl hlen) rfl (fun _ => zab) (fun _ => rfl))) (fun h => zaS zab (zaQ ?_)) fun h => za7 (zaw ?_)
 ·have hno : okN l = false := by
   unfold okN
   by_cases h1 : 1 <= (figs l).length
   ·have h2 : ¬ (figs l).length <= 60 := by
     intro h2
     have a1 : (1 : Int) <= ((figs l).length : Int) := by omega
     have a2 : ((figs l).length : Int) <= 60 := by omega
     simp [a1, a2] at h
    simp [h2]
   ·simp [h1]
  rw [hno]
 have h12 : 1 <= (figs l).length /\ (figs l).length <= 60 := by
  have h' : (decide ((1 : Int) <= ((figs l).length : Int)) && decide (((figs l).length : Int) <= 60)) = true := by simpa using h
  simp only [Bool.and_eq_true, decide_eq_true_eq] at h'
  omega
 have hc : zbX (gN 2) (zad true) (mMap PyData.bool (zaX oIn 2 (zad (.str "0123456789")))) (zbu (stL (figs l))) (zaW ρ0 ++ List.replicate 1 none) [] = some (((figs l).map isDg).map PyData.bool) := by
  rw [zdc (fun _ => true) (fun d => match d with | .str c => .bool (inS c "0123456789") | _ => .none) (fun ρ => ∃ x, ρ = [some (.pub (.str (stL l))), some (.pub (.str (stL (figs l)))), x])]
  ·congr 1
   rw [List.filter_eq_self.mpr (fun _ _ => rfl), List.nil_append]
   unfold zbu
   rw [List.map_map, List.map_map]
   show List.map _ (figs l) = _
   apply List.map_congr_left
   intro c _
   show PyData.bool (inS ⟨#[c]⟩ "0123456789") = _
   rw [zj8]; rfl
  ·rintro d hd ρ ⟨x, rfl⟩
   unfold zbu at hd
   obtain ⟨c, _, rfl⟩ := List.mem_map.mp hd
   exact ⟨[some (.pub (.str (stL l))), some (.pub (.str (stL (figs l)))), some (.pub (.str ⟨#[c]⟩))], rfl, rfl, fun _ => zbd (zaO rfl zab rfl), _, rfl⟩
  ·exact ⟨none, rfl⟩
  ·unfold zbu
   rw [List.length_nil, List.length_map]
   have : (stL (figs l)).cps.toList.length = (figs l).length := rfl
   omega
 apply zaE
 refine za3 (zce (zbs (zcd (zae (zbd (zif (zcM (zag rfl) zfj) hc)) zav) zig))) (fun h => zaS zab (zaQ ?_)) fun h => za7 (zaw ?_)
 ·have hno : okN l = false := by
   have h' : (figs l).all isDg = false := by simpa [List.all_map] using h
   unfold okN
   rw [h']; simp
  rw [hno]
 have hall : (figs l).all isDg = true := by simpa [List.all_map] using h
 obtain ⟨c, r, hf⟩ : ∃ c r, figs l = c :: r := by
  cases hf : figs l with
  | nil => rw [hf] at h12; simp at h12
  | cons c r => exact ⟨c, r, rfl⟩
 have hix : oIx (.str (stL (figs l))) (.int 0) = some (.str (stL [c])) := by rw [hf]; exact zlb (by rw [← hf]; omega)
 have hc : c < 1114112 := hz c (zgN (by rw [hf]; exact List.mem_cons_self))
 have e0 : oNe (.str (stL [c])) (.str "0") = some (!decide ([c] = [48])) := by
  rw [zj9, zfH (zbU (by simpa using hc)) (zbU (by decide)), zbO]
 have e1 : oEq (.str (stL l)) (.str "0") = some (decide (l = [48])) := by
  rw [zj9, zdC (zbU hz) (zbU (by decide)), zbO]
 refine zaS (zjO (zbd (zap (zfd rfl zab hix) zab e0)) fun _ => zbd (zaO rfl zab e1)) ?_
 unfold okN
 rw [decide_eq_true h12.1, decide_eq_true h12.2, hall, hf]
 simp
theorem zdi {l : List Nat} (h : okN l = true) : 1 <= (figs l).length /\ (figs l).length <= 60 /\ (figs l).all isDg = true /\ ((figs l).head? ≠ some 48 ∨ l = [48]) := by
 unfold okN at h
 simp only [Bool.and_eq_true, Bool.or_eq_true, decide_eq_true_eq] at h
 exact ⟨h.1.1.1, h.1.1.2, h.1.2, h.2⟩
theorem zdj {l : List Nat} (h : okN l = true) : zen [.str (stL l)] = some (.int (vNm l)) := by
 obtain ⟨h1, h2, h3, _⟩ := zdi h
 have hd : NumText.AllDigits (figs l) := by
  intro c hc
  have := List.all_eq_true.mp h3 c hc
  unfold isDg at this
  exact of_decide_eq_true this
 have hne : figs l ≠ [] := by intro e; rw [e] at h1; simp at h1
 unfold zen
 dsimp only
 unfold vNm
 by_cases hs : l.take 1 = [45]
 ·obtain ⟨r, rfl⟩ : ∃ r, l = 45 :: r := by
   cases l with
   | nil => simp at hs
   | cons c r => simp at hs; exact ⟨r, by rw [hs]⟩
  have hf : figs (45 :: r) = r := by unfold figs; rw [if_pos hs]; rfl
  rw [hf] at h1 h2 h3 hd hne
  have hlen : (stL (45 :: r)).length <= 640 := by rw [zbk, List.length_cons]; omega
  rw [if_pos hlen, if_pos hs, intText_neg (x := stL (45 :: r)) (cs := r) rfl hd hne (Nat.le_trans hlen (by decide)), hf, Int.zero_sub]; rfl
 ·have hf : figs l = l := by unfold figs; rw [if_neg hs]
  rw [hf] at h1 h2 h3 hd hne
  have hlen : (stL l).length <= 640 := by rw [zbk]; omega
  rw [if_pos hlen, if_neg hs, intText_digits (x := stL l) hd hne (Nat.le_trans hlen (by decide)), hf]; rfl
theorem zeq {l : List Nat} (hz : ∀ c ∈ l, c < 1114112) (hl : l.length <= 1000) : zaR [.str (stL l)] = some (if okN l then .val (.int (vNm l)) else .exc (exD "NoText" [.int 0])) := by
 refine zk5 (ρ := [some (.pub (.str (stL l)))]) rfl ?_
 unfold za8
 apply zaE
 have hw := zdh hz hl
 cases hk : okN l with
 | false =>
  rw [hk] at hw
  exact za3 (b := true) (zce (zbs (za1 (zae (zag rfl) zav) rfl hw))) (fun _ => zbM (zgF (zae zab zav) rfl) (zgw ⟨rfl, rfl⟩)) fun z => by cases z
 | true =>
  rw [hk] at hw
  refine za3 (b := false) (zce (zbs (za1 (zae (zag rfl) zav) rfl hw))) (fun z => by cases z) fun _ => za7 (zaw ?_)
  exact zaS (zcd (zae (zag rfl) zav) (zdj hk)) rfl
theorem zlc {n : Int} (h0 : -1000000 <= n) (h1 : n <= 64) : ∃ t, zfy (.str "9") (.int n) = some (.str t) /\ PyData.strOk t = true /\ t.length <= 64 := by
 have key : ∀ k : Fin 65, PyData.strOk (mulS "9" ((k : Nat) : Int)) = true /\ (mulS "9" ((k : Nat) : Int)).length <= 64 := by decide +kernel
 have hm : PyData.strOk (mulS "9" n) = true /\ (mulS "9" n).length <= 64 := by
  by_cases hn : n < 1
  ·have : mulS "9" n = Str.empty := by unfold mulS; exact if_pos hn
   rw [this]
   exact ⟨by kernel_rfl, by decide⟩
  ·have := key ⟨n.toNat, by omega⟩
   have e : ((n.toNat : Nat) : Int) = n := by omega
   simp only [e] at this
   exact this
 have h9 : ("9" : Str).length = 1 := by kernel_rfl
 refine ⟨mulS "9" n, ?_, hm.1, hm.2⟩
 unfold zfy
 dsimp only
 rw [if_pos ⟨h0, by omega, by rw [h9]; omega, by rw [h9]; decide, by omega⟩]
theorem zka {z : Str} (hz : PyData.strOk z = true) (hzl : z.length <= 100) (c s : Int) : ∃ r, F_ag [.str z, .int c, .int s] = some r /\ ∃ t, r = .str t /\ PyData.strOk t = true /\ t.length <= 400 := by
 refine zdV (ρ := [some (.pub (.str z)), some (.pub (.int c)), some (.pub (.int s)), none, none, none, none]) rfl ?_
 unfold g_ag
 obtain ⟨r, hr, ds, rfl, hl, hb⟩ := zbT c s (sizes := [9, 64, 96]) (by decide) (by decide)
 match ds, hl with
 | [d0, d1, d2], _ =>
 have b1 := hb 1 d1 64 rfl rfl
 have b2 := hb 2 d2 96 rfl rfl
 let Z : Option Sl := some (.pub (.str z))
 let C : Option Sl := some (.pub (.int c))
 let S : Option Sl := some (.pub (.int s))
 refine zaL (ρ1 := [Z, C, S, some (.pub (.int d0)), some (.pub (.int d1)), some (.pub (.int d2)), none]) (zg9 (za1 (zae (zag rfl) (zae (zag rfl) (zae (zcs (zae zab (zae zab (zae zab zav))) (of_decide_eq_true rfl)) zav))) rfl hr) (tg_L rfl (tg_C (tg_N (of_decide_eq_true rfl) rfl) (tg_C (tg_N (of_decide_eq_true rfl) rfl) (tg_C (tg_N (of_decide_eq_true rfl) rfl) tg_0))))) ?_
 have hlen : oLen [.str z] = some (.int z.length) := zdX (by omega)
 refine zaL (za2 (zap (zag rfl) (zap (zcI rfl hlen) zab zbi) (zbC (by omega))) (of_decide_eq_true rfl) rfl) ?_
 obtain ⟨sg, hsg, hsc⟩ := zep b2.1
 generalize d1 % ((z.length : Int) + 1) = a
 let ρ0 : DEnv := [Z, C, S, some (.pub (.int d0)), some (.pub (.int a)), some (.pub (.int d2)), some (.pub (.str ⟨#[sg]⟩))]
 refine zaL (ρ1 := ρ0) (za2 (za1 (zae (zag rfl) zav) rfl hsg) (of_decide_eq_true rfl) rfl) ?_
 have okg := ziu hsc
 have l1 : ∀ x y : Option Int, (cutS z x y).length <= 100 := fun x y => Nat.le_trans (zd0 z x y) hzl
 have sl : ∀ x y : Option Int, oSlA (.str z) x y = some (.str (cutS z x y)) := fun x y => zit (by omega)
 have one : (⟨#[sg]⟩ : Str).length = 1 := rfl
 have add1 : ∀ x y : Str, x.length <= 300 -> y.length <= 300 -> oAdd (.str x) (.str y) = some (.str (x ++ y)) := fun x y h1 h2 => zcJ (by omega)
 have okc : ∀ x y : Option Int, PyData.strOk (cutS z x y) = true := fun x y => zis hz
 apply zaE
 refine za3 (zaO rfl zab zbj) (fun _ => zaS (zap (zap (zbv (zag rfl) zab (za6 (zag rfl)) (sl _ _)) (zag rfl) (add1 _ _ (by have := l1 none (some a); omega) (by omega))) (zbv (zag rfl) (za6 (zag rfl)) zab (sl _ _)) (add1 _ _ (by rw [zaF]; have := l1 none (some a); omega) (by have := l1 (some a) none; omega))) (zaQ ⟨_, rfl, _, rfl, zba (zba (okc _ _) okg) (okc _ _), by rw [zaF, zaF]; have := l1 none (some a); have := l1 (some a) none; omega⟩)) fun _ => za7 (zaw ?_)
 apply zaE
 refine za3 (zaO rfl zab zbj) (fun _ => zaS (zap (zbv (zag rfl) zab (za6 (zag rfl)) (sl _ _)) (zbv (zag rfl) (za6 (zap (zag rfl) zab zbi)) zab (sl _ _)) (add1 _ _ (by have := l1 none (some a); omega) (by have := l1 (some (a + 1)) none; omega))) (zaQ ⟨_, rfl, _, rfl, zba (okc _ _) (okc _ _), by rw [zaF]; have := l1 none (some a); have := l1 (some (a + 1)) none; omega⟩)) fun _ => za7 (zaw ?_)
 apply zaE
 refine za3 (zaO rfl zab zbj) (fun _ => zaS (zap (zap (zbv (zag rfl) zab (za6 (zag rfl)) (sl _ _)) (zag rfl) (add1 _ _ (by have := l1 none (some a); omega) (by omega))) (zbv (zag rfl) (za6 (zap (zag rfl) zab zbi)) zab (sl _ _)) (add1 _ _ (by rw [zaF]; have := l1 none (some a); omega) (by have := l1 (some (a + 1)) none; omega))) (zaQ ⟨_, rfl, _, rfl, zba (zba (okc _ _) okg) (okc _ _), by rw [zaF, zaF]; have := l1 none (some a); have := l1 (some (a + 1)) none; omega⟩)) fun _ => za7 (zaw ?_)
 have hm10 := Int.emod_nonneg d2 (show (10 : Int) ≠ 0 by decide)
 have hm10' := Int.emod_lt_of_pos d2 (show (0 : Int) < 10 by decide)
 have hm8 := Int.emod_nonneg d2 (show (8 : Int) ≠ 0 by decide)
 have hm8' := Int.emod_lt_of_pos d2 (show (0 : Int) < 8 by decide)
 obtain ⟨k, hk⟩ : ∃ k : Nat, d2 % 10 = k := ⟨(d2 % 10).toNat, by omega⟩
 have hxd : oIx (.str "0123456789") (.int (d2 % 10)) = some (.str (tx [Nat.digitChar k])) := by rw [hk]; exact zd1 (by omega)
 have okd : PyData.strOk (tx [Nat.digitChar k]) = true := by
  have : ∀ k : Fin 10, PyData.strOk (tx [Nat.digitChar k]) = true := by decide +kernel
  exact this ⟨k, by omega⟩
 have ld : (tx [Nat.digitChar k]).length = 1 := rfl
 apply zaE
 refine za3 (zaO rfl zab zbj) (fun _ => zaS (zap (zap (zbv (zag rfl) zab (za6 (zag rfl)) (sl _ _)) (zap zab (zap (zag rfl) zab (zbC (by decide))) hxd) (add1 _ _ (by have := l1 none (some a); omega) (by omega))) (zbv (zag rfl) (za6 (zag rfl)) zab (sl _ _)) (add1 _ _ (by rw [zaF]; have := l1 none (some a); omega) (by have := l1 (some a) none; omega))) (zaQ ⟨_, rfl, _, rfl, zba (zba (okc _ _) okd) (okc _ _), by rw [zaF, zaF]; have := l1 none (some a); have := l1 (some a) none; omega⟩)) fun _ => za7 (zaw ?_)
 obtain ⟨w5, hw5, hm5⟩ := ixm (xs := (["0", "-", "+", "00", " ", "--", "-0", "0x"] : List Str).map PyData.str) (n := 8) hm8 hm8' rfl
 obtain ⟨y5, hy5, rfl⟩ := List.mem_map.mp hm5
 have o5 : PyData.strOk y5 = true /\ y5.length <= 10 := by
  have : ∀ y ∈ (["0", "-", "+", "00", " ", "--", "-0", "0x"] : List Str), PyData.strOk y = true /\ y.length <= 10 := by decide +kernel
  exact this y5 hy5
 apply zaE
 refine za3 (zaO rfl zab zbj) (fun _ => zaS (zap (zap (zcs (zae zab (zae zab (zae zab (zae zab (zae zab (zae zab (zae zab (zae zab zav)))))))) (of_decide_eq_true rfl)) (zap (zag rfl) zab (zbC (by decide))) hw5) (zag rfl) (add1 _ _ (by omega) (by omega))) (zaQ ⟨_, rfl, _, rfl, zba o5.1 hz, by rw [zaF]; omega⟩)) fun _ => za7 (zaw ?_)
 obtain ⟨w6, hw6, hm6⟩ := ixm (xs := ([".0", " ", "\n", "-", "_1", ",", "e2", "\t"] : List Str).map PyData.str) (n := 8) hm8 hm8' rfl
 obtain ⟨y6, hy6, rfl⟩ := List.mem_map.mp hm6
 have o6 : PyData.strOk y6 = true /\ y6.length <= 10 := by
  have : ∀ y ∈ ([".0", " ", "\n", "-", "_1", ",", "e2", "\t"] : List Str), PyData.strOk y = true /\ y.length <= 10 := by decide +kernel
  exact this y6 hy6
 apply zaE
 refine za3 (zaO rfl zab zbj) (fun _ => zaS (zap (zag rfl) (zap (zcs (zae zab (zae zab (zae zab (zae zab (zae zab (zae zab (zae zab (zae zab zav)))))))) (of_decide_eq_true rfl)) (zap (zag rfl) zab (zbC (by decide))) hw6) (add1 _ _ (by omega) (by omega))) (zaQ ⟨_, rfl, _, rfl, zba hz o6.1, by rw [zaF]; omega⟩)) fun _ => za7 (zaw ?_)
 obtain ⟨t7, ht7, o7, l7⟩ := zlc (n := 57 + d2 % 8 - (z.length : Int)) (by omega) (by omega)
 apply zaE
 refine za3 (zaO rfl zab zbj) (fun _ => zaS (zap (zag rfl) (zap zab (zap (zap zab (zap (zag rfl) zab (zbC (by decide))) zbi) (zcI rfl hlen) zcL) ht7) (add1 _ _ (by omega) (by omega))) (zaQ ⟨_, rfl, _, rfl, zba hz o7, by rw [zaF]; omega⟩)) fun _ => za7 (zaw ?_)
 exact zaS (zag rfl) ⟨_, rfl, z, rfl, hz, by omega⟩
def shd (m : Nat) : List Nat := (dg m).map Char.toNat
theorem zfI : ∀ d : Fin 10, (Nat.digitChar d).toNat = 48 + d := by decide
theorem zkb {m : Nat} : (shd m).all isDg = true := by
 rw [List.all_eq_true]
 intro c hc
 obtain ⟨ch, hch, rfl⟩ := List.mem_map.mp hc
 by_cases h0 : m = 0
 ·subst h0; cases hch
 ·rw [zbG h0] at hch
  have r := PyProof.Rows.digit_range (Nat.isDigit_of_mem_toDigits (by decide) (by decide) hch)
  exact decide_eq_true r
theorem ziz {m : Nat} (h : m ≠ 0) : NumText.digitsVal (shd m) = m := by
 unfold shd
 rw [zbG h]
 exact PySem.W.KIN.val_back m
theorem zkc (m : Nat) : m ≠ 0 -> (shd m).head? ≠ some 48 /\ shd m ≠ [] := by
 induction m using Nat.strongRecOn with
 | _ m ih =>
  intro h0
  by_cases h : m < 10
  ·have e : dg m = [m.digitChar] := by rw [zbG h0, Nat.toDigits_of_lt_base h]
   have e2 := zfI ⟨m, h⟩
   unfold shd
   rw [e]
   refine ⟨?_, by simp⟩
   intro e3
   have e3 : (Nat.digitChar m).toNat = 48 := by simpa using e3
   have e2 : (Nat.digitChar m).toNat = 48 + m := e2
   omega
  ·have e : m = (m / 10) * 10 + m % 10 := by omega
   obtain ⟨i1, i2⟩ := ih (m / 10) (by omega) (by omega)
   have e2 : shd m = shd (m / 10) ++ [(m % 10).digitChar.toNat] := by
    unfold shd
    rw [congrArg dg e, zcO (Nat.mod_lt _ (by decide)) (by omega), List.map_append]; rfl
   rw [e2]
   cases hs : shd (m / 10) with
   | nil => exact absurd hs i2
   | cons x r => rw [hs] at i1; exact ⟨i1, by simp⟩
theorem ziA {m : Nat} (h : m < 10 ^ 60) : (shd m).length <= 60 := by
 unfold shd
 rw [List.length_map]
 exact zd2 60 m h
theorem zkd {l : List Nat} (h : l.all isDg = true) : ∀ c ∈ l, c < 1114112 := by
 intro c hc
 have := List.all_eq_true.mp h c hc
 unfold isDg at this
 have := of_decide_eq_true this
 omega
theorem zke {n : Int} (h : n.natAbs < 10 ^ 60) : ∃ l, Str.ofString (toString n) = stL l /\ okN l = true /\ vNm l = n /\ (∀ c ∈ l, c < 1114112) /\ l.length <= 61 := by
 by_cases h0 : n = 0
 ·subst h0
  exact ⟨[48], by rw [str0]; rfl, by decide, by decide, by decide, by decide⟩
 obtain ⟨m, hm⟩ : ∃ m : Nat, n = m ∨ n = 0 - (m : Int) := ⟨n.natAbs, by omega⟩
 have hm0 : m ≠ 0 := by omega
 have hm60 : m < 10 ^ 60 := by omega
 obtain ⟨q1, q2⟩ := zkc m hm0
 have q3 := ziA hm60
 have q4 := ziz hm0
 have q5 : (shd m).all isDg = true := zkb
 have q6 := zkd q5
 have q7 : 1 <= (shd m).length := List.length_pos_iff.mpr q2
 rcases hm with rfl | rfl
 ·have hf : (shd m).take 1 ≠ [45] := by
   cases hs : shd m with
   | nil => exact absurd hs q2
   | cons x r =>
    rw [hs] at q5
    intro e
    have e : x = 45 := by simpa using e
    subst e
    simp [isDg] at q5
  have hg : figs (shd m) = shd m := by unfold figs; rw [if_neg hf]
  refine ⟨shd m, by rw [zdA hm0]; rfl, ?_, ?_, q6, by omega⟩
  ·unfold okN
   rw [hg, decide_eq_true q7, decide_eq_true q3, q5, decide_eq_true q1]; rfl
  ·unfold vNm
   rw [if_neg hf, hg, q4]
 ·have hg : figs (45 :: shd m) = shd m := rfl
  refine ⟨45 :: shd m, by rw [zdB hm0]; rfl, ?_, ?_, ?_, by simp; omega⟩
  ·unfold okN
   rw [hg, decide_eq_true q7, decide_eq_true q3, q5, decide_eq_true q1]; rfl
  ·unfold vNm
   rw [if_pos (show List.take 1 (45 :: shd m) = [45] from rfl), hg, q4]
  ·intro c hc
   rcases List.mem_cons.mp hc with rfl | hc
   ·decide
   ·exact q6 c hc
theorem zhc {c : Nat} (h : isDg c = true) : (Nat.digitChar (c - 48)).toNat = c := by
 unfold isDg at h
 have h := of_decide_eq_true h
 have := zfI ⟨c - 48, by omega⟩
 have this : (Nat.digitChar (c - 48)).toNat = 48 + (c - 48) := this
 omega
theorem zd3 : ∀ (r p : List Nat), p ≠ [] -> shd (NumText.digitsVal p) = p -> r.all isDg = true -> shd (NumText.digitsVal (p ++ r)) = p ++ r
 | [], p, _, h, _ => by rw [List.append_nil]; exact h
 | c :: r, p, h0, h, hr => by
  rw [List.all_cons, Bool.and_eq_true] at hr
  have hc := of_decide_eq_true (show decide (48 <= c /\ c <= 57) = true from hr.1)
  have e : p ++ c :: r = (p ++ [c]) ++ r := by simp
  rw [e]
  refine zd3 r (p ++ [c]) (by simp) ?_ hr.2
  have hn : NumText.digitsVal p ≠ 0 := by
   intro z
   rw [z] at h
   exact h0 h.symm
  rw [zix]
  unfold shd
  rw [zcO (by omega) (.inl hn), List.map_append]
  show shd (NumText.digitsVal p) ++ [(Nat.digitChar (c - 48)).toNat] = _
  rw [h, zhc hr.1]
theorem zgP {l : List Nat} (h1 : l.all isDg = true) (h2 : l ≠ []) (h3 : l.head? ≠ some 48) : shd (NumText.digitsVal l) = l /\ NumText.digitsVal l ≠ 0 := by
 cases l with
 | nil => exact absurd rfl h2
 | cons c r =>
  rw [List.all_cons, Bool.and_eq_true] at h1
  have hc := of_decide_eq_true (show decide (48 <= c /\ c <= 57) = true from h1.1)
  have hc48 : c ≠ 48 := by intro e; exact h3 (by rw [e]; rfl)
  have e0 : NumText.digitsVal [c] = c - 48 := by show 0 * 10 + (c - 48) = _; omega
  have hb : shd (NumText.digitsVal [c]) = [c] := by
   rw [e0]
   unfold shd
   rw [zbG (by omega), Nat.toDigits_of_lt_base (by omega)]
   show [(Nat.digitChar (c - 48)).toNat] = _
   rw [zhc h1.1]
  have := zd3 r [c] (by simp) hb h1.2
  refine ⟨this, fun z => ?_⟩
  have e : [c] ++ r = c :: r := rfl
  rw [e, z] at this
  cases this
theorem ziB {l : List Nat} (h : okN l = true) : Str.ofString (toString (vNm l)) = stL l /\ (vNm l).natAbs < 10 ^ 60 := by
 obtain ⟨h1, h2, h3, h4⟩ := zdi h
 have hlt : ∀ (l : List Nat), l.all isDg = true -> NumText.digitsVal l < 10 ^ l.length := by
  intro l
  have key : ∀ (l : List Nat) (a k : Nat), a < 10 ^ k -> l.all isDg = true -> l.foldl (fun acc c => acc * 10 + (c - 48)) a < 10 ^ (k + l.length) := by
   intro l
   induction l with
   | nil => intro a k ha _; exact ha
   | cons c r ih =>
    intro a k ha hr
    rw [List.all_cons, Bool.and_eq_true] at hr
    have hc := of_decide_eq_true (show decide (48 <= c /\ c <= 57) = true from hr.1)
    have := ih (a * 10 + (c - 48)) (k + 1) (by rw [Nat.pow_succ]; omega) hr.2
    rw [List.foldl_cons, List.length_cons]
    have e : k + 1 + r.length = k + (r.length + 1) := by omega
    rw [e] at this
    exact this
  intro hl
  have := key l 0 0 (by decide) hl
  rw [Nat.zero_add] at this
  exact this
 have hb : NumText.digitsVal (figs l) < 10 ^ 60 := Nat.lt_of_lt_of_le (hlt _ h3) (Nat.pow_le_pow_right (by decide) h2)
 by_cases hz : l = [48]
 ·subst hz
  exact ⟨by show Str.ofString (toString (0 : Int)) = _; rw [str0]; rfl, by decide⟩
 have h4 : (figs l).head? ≠ some 48 := h4.resolve_right hz
 obtain ⟨q1, q2⟩ := zgP h3 (by intro e; rw [e] at h1; simp at h1) h4
 have hq : (dg (NumText.digitsVal (figs l))).map Char.toNat = figs l := q1
 unfold vNm
 by_cases hs : l.take 1 = [45]
 ·obtain ⟨r, rfl⟩ : ∃ r, l = 45 :: r := by
   cases l with
   | nil => simp at hs
   | cons c r => simp at hs; exact ⟨r, by rw [hs]⟩
  have hf : figs (45 :: r) = r := rfl
  rw [if_pos hs]
  refine ⟨?_, by omega⟩
  rw [zdB q2]
  unfold tx stL
  rw [List.map_cons, hq, hf]; rfl
 ·have hf : figs l = l := by unfold figs; rw [if_neg hs]
  rw [if_neg hs]
  refine ⟨?_, by omega⟩
  rw [zdA q2]
  unfold tx stL
  rw [hq, hf]
theorem zgQ {x : Str} {s t : SM} {ρ ρ1 : DEnv} {d r : D} (h1 : s ρ = .ex ρ1 d) (h2 : zdf x d = true) (h4 : t ρ1 = .rt r) : zdx x s t ρ = .rt r := by
 unfold zdx; rw [h1]; dsimp only; rw [if_pos h2, h4]
def numD (l : List Nat) : D := if okN l then .int (vNm l) else .none
theorem zkf {l : List Nat} (hz : ∀ c ∈ l, c < 1114112) (hl : l.length <= 1000) : F_ah [.str (stL l)] = some (numD l) := by
 refine zct (ρ := [some (.pub (.str (stL l))), none]) rfl ?_
 unfold g_ah numD
 refine zaL (za2 zab (of_decide_eq_true rfl) rfl) ?_
 have hr := zeq hz hl
 cases hk : okN l with
 | true =>
  rw [hk] at hr
  refine zaL (ρ1 := [some (.pub (.str (stL l))), some (.pub (.int (vNm l)))]) (zgG (zk3 (zfw (zae (zag rfl) zav) rfl hr) rfl)) ?_
  exact zaS (zag rfl) rfl
 | false =>
  rw [hk] at hr
  apply zaE
  refine zbM (zgQ (zk4 (zfw (zae (zag rfl) zav) rfl hr)) rfl rfl) (zaQ rfl)
theorem zkg {l : List Nat} (hz : ∀ c ∈ l, c < 1114112) (hl : l.length <= 1000) (hk : okN l = true) : F_ac [.str (stL l)] = some (.int (vNm l)) := by
 refine zct (ρ := [some (.pub (.str (stL l)))]) rfl ?_
 unfold g_ac
 have hw := zdh hz hl
 rw [hk] at hw
 apply zaE
 refine za3 (b := false) (zce (zbs (za1 (zae (zag rfl) zav) rfl hw))) (fun z => by cases z) fun _ => za7 (zaw ?_)
 exact zaS (zcd (zae (zag rfl) zav) (zdj hk)) rfl
theorem zd4 {n : Int} {l : List Nat} (h : n.natAbs < 10 ^ 60) (hl : Str.ofString (toString n) = stL l) : F_aa [.int n] = some (.str (stL l)) := by
 rw [zfF h, ← zdb, hl]
theorem ziC (b : Bool) : oNe (.bool b) (.bool b) = some false := by cases b <;> kernel_rfl
def ahd (a : D) : Prop := ∃ (m : Int) (la : List Nat), a = .tuple [.int m, .str (stL la)] /\ (∀ c ∈ la, c < 1114112) /\ vNm la = m /\ Str.ofString (toString m) = stL la
theorem ziD {a b : List Nat} (h : stL a = stL b) : a = b := by
 have := zbO a b
 rw [h, zbO] at this
 simpa using this
theorem zkh {S A I C N x6 x7 x8 : Option Sl} {a : D} {o : Int} {Q : Out -> Prop} (hA : A = some (.pub a)) (ha : ahd a) (k : ∀ a', ahd a' -> ∀ x6, Q (.nx [S, some (.pub a'), I, C, N, some (.pub (.int o)), x6, x7, x8])) : Ho zdz [S, A, I, C, N, some (.pub (.int o)), x6, x7, x8] Q := by
 subst hA
 unfold zdz
 have hp : oPow (.int 10) (.int 60) = some (.int 1000000000000000000000000000000000000000000000000000000000000) := by kernel_rfl
 refine za3 (zap (zcd (zae (zag rfl) zav) rfl) (zap zab zab hp) rfl) (fun h => ?_) fun _ => za7 (k a ha x6)
 have h := of_decide_eq_true h
 have ho : o.natAbs < 10 ^ 60 := by
  have e : (10 : Nat) ^ 60 = 1000000000000000000000000000000000000000000000000000000000000 := by decide
  rw [e]
  split at h <;> omega
 obtain ⟨l, el, k1, k2, k3, k4⟩ := zke ho
 obtain ⟨m, la, rfl, a1, a2, a3⟩ := ha
 have hs := zd4 ho el
 have hr := zkg k3 (by omega) k1
 rw [k2] at hr
 refine zaL (ρ1 := [S, some (.pub (.tuple [.int m, .str (stL la)])), I, C, N, some (.pub (.int o)), some (.pub (.str (stL l))), x7, x8]) (za2 (za1 (zae (zag rfl) zav) rfl hs) (of_decide_eq_true rfl) rfl) ?_
 have i1 : oIx (.tuple [.int m, .str (stL la)]) (.int 1) = some (.str (stL la)) := rfl
 have i0 : oIx (.tuple [.int m, .str (stL la)]) (.int 0) = some (.int m) := rfl
 have e1 : oEq (.str (stL l)) (.str (stL la)) = some (decide (o = m)) := by
  rw [zdC (zbU k3) (zbU a1), zbO]
  congr 1
  by_cases hom : o = m
  ·subst hom
   rw [decide_eq_true rfl, decide_eq_true (ziD (el.symm.trans a3))]
  ·rw [decide_eq_false hom, decide_eq_false]
   intro e
   subst e
   exact hom (k2.symm.trans a2)
 have e0 : oEq (.int o) (.int m) = some (decide (o = m)) := zbj
 apply zaE
 refine za3 (b := false) (ρ1 := [S, some (.pub (.tuple [.int m, .str (stL la)])), I, C, N, some (.pub (.int o)), some (.pub (.str (stL l))), x7, x8]) (zjT (zap (za1 (zae (zag rfl) zav) rfl hr) (zag rfl) (by rw [zfk]; simp)) (zap (zbd (zaO rfl (zfd rfl zab i1) e1)) (zbd (zaO rfl (zfd rfl zab i0) e0)) (ziC _))) (fun z => by cases z) fun _ => za7 (zaw ?_)
 exact zbM (za2 (zfc (zae (zag rfl) (zae (zag rfl) zav)) (of_decide_eq_true rfl)) (of_decide_eq_true rfl) rfl) (k _ ⟨o, l, rfl, k3, k2, el⟩ _)
theorem zgR : ∀ ns : List Int, ns.length <= 63 -> F_ai [.list (ns.map PyData.int)] = some (.bool true) := by
 intro ns hns
 refine zct (ρ := [some (.pub (.list (ns.map PyData.int))), none, none, none, none, none, none, none, none]) rfl ?_
 unfold g_ai
 let S : Option Sl := some (.pub (.list (ns.map PyData.int)))
 have h00 : F_aa [.int 0] = some (.str (stL [48])) := zd4 (by decide) (by rw [str0]; rfl)
 have ha0 : ahd (.tuple [.int 0, .str (stL [48])]) := ⟨0, [48], rfl, by decide, by decide, by rw [str0]; rfl⟩
 refine zaL (ρ1 := [S, some (.pub (.tuple [.int 0, .str (stL [48])])), none, none, none, none, none, none, none]) (za2 (zfc (zae zab (zae (za1 (zae zab zav) rfl h00) zav)) (of_decide_eq_true rfl)) (of_decide_eq_true rfl) rfl) ?_
 apply zaE
 apply zdU (fun _ ρ => ∃ a x2 x3 x4 x5 x6 x7 x8, ρ = [S, some (.pub a), x2, x3, x4, x5, x6, x7, x8] /\ ahd a)
 case h1 => exact zfe (zae (zap (zcs (zae zab zav) (of_decide_eq_true rfl)) (zbv (zag rfl) zab (za6 zab) zdW) (zfD (by omega))) zav) zdR
 case h0 => exact ⟨_, _, _, _, _, _, _, _, rfl, ha0⟩
 case hst =>
  rintro i d ρ hi ⟨a, x2, x3, x4, x5, x6, x7, x8, rfl, ha⟩
  obtain ⟨x, hx, rfl⟩ := zdZ hi
  obtain ⟨c, rfl⟩ := zfC hx
  rw [Nat.zero_add]
  refine ⟨_, tg_T rfl (tg_C (tg_N (of_decide_eq_true rfl) rfl) (tg_C (tg_N (of_decide_eq_true rfl) rfl) tg_0)), ?_⟩
  unfold zfA
  obtain ⟨r, hr, n, rfl, hn⟩ := zdg c (600 + (i : Int))
  obtain ⟨l, el, k1, k2, k3, k4⟩ := zke hn
  have hs := zd4 hn el
  obtain ⟨b, hb, t, rfl, t1, t2⟩ := zka (zbU k3) (by rw [zbk]; omega) c (700 + (i : Int))
  obtain ⟨m, rfl⟩ : ∃ m, t = stL m := ⟨_, zj7 t⟩
  have m1 := zfG t1
  rw [zbk] at t2
  let I : Option Sl := some (.pub (.int i))
  let C : Option Sl := some (.pub (.int c))
  let N : Option Sl := some (.pub (.int n))
  have i0 : oIx (.tuple [.int n, .str (toString n)]) (.int 0) = some (.int n) := rfl
  refine zaL (ρ1 := [S, some (.pub a), I, C, N, x5, x6, x7, x8]) (za2 (zap (za1 (zae (zag rfl) (zae (zap zab (zag rfl) zbi) zav)) rfl hr) zab i0) (of_decide_eq_true rfl) rfl) ?_
  apply zaE
  apply zdU (fun _ ρ => ∃ a x5 x6, ρ = [S, some (.pub a), I, C, N, x5, x6, x7, x8] /\ ahd a)
  case h1 => exact zcM (zcs (zae (zag rfl) (zae (zap (zag rfl) zab zbi) (zae (zap (zag rfl) zab zcL) (zae (zap zab (zag rfl) zcL) zav)))) (of_decide_eq_true rfl)) zfi
  case h0 => exact ⟨_, _, _, rfl, ha⟩
  case hst =>
   rintro j d ρ hj ⟨a, x5, x6, rfl, ha⟩
   obtain ⟨o, rfl⟩ : ∃ o : Int, d = .int o := by
    have hm := List.mem_of_getElem? hj
    simp only [List.mem_cons, List.not_mem_nil, or_false] at hm
    rcases hm with rfl | rfl | rfl | rfl <;> exact ⟨_, rfl⟩
   refine ⟨_, tg_N (of_decide_eq_true rfl) rfl, ?_⟩
   exact zkh rfl ha fun a' ha' x6 => zbD ⟨_, _, _, rfl, ha'⟩
  case hend =>
   rintro ρ ⟨a, x5, x6, rfl, ha⟩
   refine zaw ?_
   let B : Option Sl := some (.pub (.str (stL m)))
   refine zaL (ρ1 := [S, some (.pub a), I, C, N, x5, x6, B, x8]) (za2 (za1 (zae (za1 (zae (zag rfl) zav) rfl hs) (zae (zag rfl) (zae (zap zab (zag rfl) zbi) zav))) rfl hb) (of_decide_eq_true rfl) rfl) ?_
   have htd := zkf m1 (show m.length <= 1000 by omega)
   refine zaL (ρ1 := [S, some (.pub a), I, C, N, x5, x6, B, some (.pub (numD m))]) (za2 (za1 (zae (zag rfl) zav) rfl htd) (of_decide_eq_true rfl) rfl) ?_
   cases hk : okN m with
   | true =>
    obtain ⟨s1, s2⟩ := ziB hk
    have hs2 := zd4 s2 s1
    have hnd : numD m = .int (vNm m) := by unfold numD; rw [hk]; rfl
    rw [hnd]
    let ρ1 : DEnv := [S, some (.pub a), I, C, N, x5, x6, B, some (.pub (.int (vNm m)))]
    have hne : oNe (.str (stL m)) (.str (stL m)) = some false := by rw [zfH t1 t1]; simp
    apply zaE
    refine za3 (b := false) (ρ1 := ρ1) (zfh (zbd (x := .int (vNm m)) (zag rfl)) (zap (za1 (zae (zag rfl) zav) rfl hs2) (zag rfl) hne)) (fun z => by cases z) fun _ => za7 (zaw ?_)
    exact za3 (b := false) (ρ1 := ρ1) (zfg (zbd (x := .int (vNm m)) (zag rfl))) (fun z => by cases z) fun _ => za7 (zbD ⟨_, _, _, _, _, _, _, _, rfl, ha⟩)
   | false =>
    have hnd : numD m = .none := by unfold numD; rw [hk]; rfl
    rw [hnd]
    let ρ1 : DEnv := [S, some (.pub a), I, C, N, x5, x6, B, some (.pub .none)]
    have heq : oEq (.str (stL m)) (.str (stL l)) = some false := by
     rw [zdC t1 (zbU k3), zbO, decide_eq_false]
     intro e
     rw [e, k1] at hk
     cases hk
    apply zaE
    refine za3 (b := false) (ρ1 := ρ1) (zfg (zbd (x := .none) (zag rfl))) (fun z => by cases z) fun _ => za7 (zaw ?_)
    exact za3 (b := false) (ρ1 := ρ1) (zfh (zbd (x := .none) (zag rfl)) (zaO rfl (za1 (zae (zag rfl) zav) rfl hs) heq)) (fun z => by cases z) fun _ => za7 (zbD ⟨_, _, _, _, _, _, _, _, rfl, ha⟩)
 case hend =>
  rintro ρ ⟨a, x2, x3, x4, x5, x6, x7, x8, rfl, ha⟩
  exact zaw (zaS zab rfl)
end W
open PySem PySem.W PyProof.Rows
set_option maxRecDepth 100000 in
set_option maxHeartbeats 0 in
theorem PySem.Challenge.cw_wishdeal_k05_whole_numbers_there_and_bac_holds : PySem.Challenge.rw_wishdeal_k05_whole_numbers_there_and_bac.Holds := by
 w_on; o_law
 refine holds_open (q := W.q0) (loose := []) (Xt := fun s => xlAt W.q0 [] s && recOk [] s) (XP := XL W.q0 []) (Yf := DL.xSeen W.clsL) (Ya := fun _ => DL.xGood W.p0 W.clsL) (YP := fun _ h => DL.XYP W.p0 W.clsL h) (N := 1712) (d := W.d_ai) (kwd := [])
  W.zkk (fun _ _ e => DL.zjW e) (fun _ _ _ y k => y.keeps k) (fun s e => xl_of s (Bool.and_eq_true_iff.mp e).1) XL.keeps (by rfl) (by rfl) (by rfl)
  (fun s e => recFacts_of (Bool.and_eq_true_iff.mp e).2) (by rfl) (by assumption) (by decide +kernel) ⟨rfl, rfl, rfl, rfl, rfl, by decide +kernel⟩ ?hw (W.walk W.zgR)
 case hw => w_witness2

