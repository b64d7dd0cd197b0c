import PyProof.Rows.All
import Wide.All
import OpenK.AllK
import Wide.FinOn
import Lean
import PyProof.EqAt
import PyProof.EqKinds
import PyProof.TupleCall
import PyProof.EnumMake
import PyProof.ZipIter
import PyProof.ExcClass2
import PyProof.ExcInit
import PyProof.ExcBaseAll.ValueError
import PyProof.FString2
import PyProof.ExcArgsOwn
import PyProof.InstStoreFacts
import ObjForm.Fk.InstStore
import ObjForm.Fk.InstLoad
import PyProof.StationsW
import PyProof.RulesAs
import PyProof.NsDelKeeps
import OpenK.KMore
import PyProof.IsiBase
import OpenK.KNot
import PyProof.Rows.RuleN_isinstance
import PyProof.NeData
import PyProof.P3In
import PyProof.StrWalks
import PyProof.ConsumeWalk
import PyProof.SliceStr2
import PyProof.MeetsStr
import KE.KItem
import KE.KUnpack
import KE.KRevSl
import PyProof.Rows.SetFrom
import PyProof.SetRoads
import PyProof.Rows.Range3
import PyProof.CallType
import PyProof.Rows.CallKwBuiltin
import PyProof.Rows.MinMaxN
import PyProof.SumWalkG
import PyProof.Rows.SeqMore
import PyProof.Rows.SortWalk
import PyProof.Rows.SumAny
import PyProof.Rows.SeqMore2
import KE.KSortTup
import PyProof.Rows.SortShellK
import PyProof.ReprRoads
import PyProof.ReprBulk
import PyProof.CallFns
import PyProof.NeKinds
import PyProof.Rows.StrJoinMade
import PyProof.StrCalls
import KE.KIntText
import PyProof.ReprDict
import PySem.Challenge.RW_wishdeal_k04_refusals
set_option Elab.async false
set_option linter.all false
set_option maxRecDepth 100000
set_option maxHeartbeats 20000000
namespace DL
open PySem PySem.Spec PySem.W PyProof.Rows
def topRunT (tb : String -> Option Builtin) (p : Program) (w : World) (m : Nat) (ann : Option Value) : Nat -> SharedT -> Thread -> Option SharedT
 | 0, _, _ => none
 | n + 1, s, t => match through t, stepOk m ann t with
  | true, _ => some s
  | false, false => none
  | false, true => match stepT (denote tb) p w s t with
   | some x => topRunT tb p w m ann n x.1 x.2
   | none => none
theorem zbF {tb : String -> Option Builtin} {p : Program} {w : World} {m : Nat} {ann : Option Value} : ∀ {n : Nat} {s s' : SharedT} {t : Thread}, topRunT tb p w m ann n s t = some s' -> topRun tb p w m ann n s.abs t = some s'.abs
 | 0, _, _, _, h => by cases h
 | n + 1, s, s', t, h => by
  rw [topRunT] at h
  rw [topRun]
  cases ht : through t with
  | true => rw [ht] at h; cases h; rfl
  | false =>
   rw [ht] at h
   cases hk : stepOk m ann t with
   | false => rw [hk] at h; cases h
   | true =>
    rw [hk] at h
    dsimp only at h ⊢
    cases hs : stepT (denote tb) p w s t with
    | none => rw [hs] at h; cases h
    | some x => rw [hs] at h; rw [stepT_spec hs]; exact zbF h
def btOf (l : List Obj) : BT := (l.foldl (fun (x : BT × Nat) o => (x.1.ins x.2 o, x.2 + 1)) (.nil, 0)).1
noncomputable def T0 (w : World) (os : OsState) : SharedT := ⟨btOf (boot_heap w.params).objs.toList, 11, (boot_heap w.params).life, #[], boot_drawn, boot_toks, os⟩
theorem zfC (w : World) (os : OsState) : (T0 w os).abs = ⟨boot_heap w.params, #[], boot_drawn, boot_toks, os⟩ := by kernel_rfl
theorem zel (w : World) : ((boot_heap w.params).isNs mainGlobals && (#[] : Array GenState).size == 0, (boot_heap w.params).objs.size, (boot_heap w.params).nsMap mainGlobals "__annotations__") = (true, 11, some (.ref 6)) := by kernel_rfl
noncomputable abbrev zjI (p q : Program) (loose : List Str) (Xt : Shared -> Bool) (w : World) (t : SharedT) :=
 ((staticsOk (importedModules p.main.body) (boot_heap w.params) t.abs.heap && namesBound p t.abs.heap && gensDone t.abs && laidKept (boot_heap w.params) t.abs.heap), openSeen q loose (importedModules p.main.body) Xt true t.abs)
end DL
namespace DL
open PySem PySem.Spec PySem.W PyProof.Rows
abbrev VB0 : List Value := [.type "ValueError", .type "Exception", .type "BaseException", .type "object"]
def zem : List Str := ["__setattr__", "__getattribute__", "__getattr__", "__class__", "part", "number", "row"]
def zcz (nm : Str) : Str := nm ++ "." ++ "__init__"
def xB (h : Heap) (nm : Str) (own : Bool) : Bool := match h.nsMap mainGlobals nm with
 | some (.ref C) => (match h.get? C with
  | some ⟨.type t, _, .cls cd, sl⟩ => (t == "type") && (cd.name == nm) && cd.hasDict && !cd.hasDel && (match sl.toList with | [_, _, _, _, k4, _] => decide (k4 = some (.builtin "ValueError.__new__")) | _ => false) && h.isNs cd.ns && (zem.all fun x => (h.nsMap cd.ns x).isNone) && (own || (h.nsMap cd.ns "__init__").isNone) &&
   (if nm = "DealError" then decide (cd.mro = .ref C :: VB0) else match h.nsMap mainGlobals "DealError" with | some (.ref D) => decide (cd.mro = .ref C :: .ref D :: VB0) | _ => false)
  | _ => false)
 | _ => false
def xSh (h : Heap) (nm : Str) : Option (Bool × FnShape) := match h.nsMap mainGlobals nm with
 | some (.ref C) => (match h.get? C with
  | some ⟨_, _, .cls cd, _⟩ => (match h.fnAt cd.ns "__init__", h.shapeAt cd.ns "__init__" with | some (_, o, _), some sh => some (decide (o.cls = .type "function"), sh) | _, _ => none)
  | _ => none)
 | _ => none
def zaQ (st : Stmt) : Stmt := match st with
 | .ClassDef _ _ _ (m :: _) _ _ _ _ _ _ _ => m
 | _ => .Pass ⟨0, 0, 0, 0⟩
def zia (s : Stmt) : Arguments := match s with
 | .FunctionDef _ a _ _ _ _ _ _ _ _ => a
 | _ => default
def zib (s : Stmt) : List Stmt := match s with
 | .FunctionDef _ _ b _ _ _ _ _ _ _ => b
 | _ => []
def zgC (s : Stmt) : Scope := match s with
 | .FunctionDef _ _ _ _ _ _ sc _ _ _ => sc
 | _ => { kind := .function, names := [], isGenerator := false, isCoroutine := false }
def shOf (nm : Str) (st : Stmt) : FnShape := ⟨"__init__", zcz nm, zia st, .stmts (zib st), zgC st, mainGlobals, [], .none, .none, none, .none, builtinsNs, true⟩
abbrev XL0 := List (Str × Option Nat)
def xSeen (l : XL0) (s : Shared) : Bool × List (Bool × Option (Bool × FnShape)) := (s.heap.isNs cStatics && (s.heap.nsMap cStatics "thirdparty.any").isNone, l.map fun c => (xB s.heap c.1 c.2.isSome, if c.2.isSome then xSh s.heap c.1 else none))
def xGood (p : Program) (l : XL0) : Bool × List (Bool × Option (Bool × FnShape)) := (true, l.map fun c => (true, c.2.map fun i => (true, shOf c.1 (zaQ (p.main.body.getD i (.Pass ⟨0, 0, 0, 0⟩))))))
theorem zfD {α : Type} {Yf : Shared -> α} {Ya : World -> α} {p q : Program} {loose : List Str} {Xt : Shared -> Bool} {N M : Nat} (e : opening p = plainProg p.main.scope.names) (hN : Nat.ble 600 N = true) (f : ∀ s, fenceModules? p s = some s) (le : Nat.ble M N = true)
  (run : ∀ (w : World) (os : OsState), (topRunT treeTable p w 11 (some (.ref 6)) M (T0 w os) (topStub p)).map (fun t => (zjI p q loose Xt w t, Yf t.abs)) = some ((true, openGood q loose), Ya w)) : LeftO p q loose Xt Yf Ya N := fun w => by
 obtain ⟨⟨h, gs, d, k, os⟩, e0, e'⟩ := Option.map_eq_some_iff.mp (boot_open e hN f w)
 have e' : (h, gs, d, k) = (boot_heap w.params, #[], boot_drawn, boot_toks) := e'
 obtain ⟨rfl, rfl, rfl, rfl⟩ : h = boot_heap w.params /\ gs = #[] /\ d = boot_drawn /\ k = boot_toks := by simpa only [Prod.mk.injEq] using e'
 obtain ⟨t, ht, l⟩ := Option.map_eq_some_iff.mp (run w os)
 have hr := zbF ht
 rw [zfC] at hr
 have r := topRun_mono (N - M) _ _ _ _ hr
 rw [show M + (N - M) = N by have := Nat.le_of_ble_eq_true le; omega] at r
 obtain ⟨l0, l3⟩ := Prod.mk.inj l
 obtain ⟨l1, l2⟩ := Prod.mk.inj l0
 have z := zel w
 obtain ⟨z1, z2, z3⟩ : _ /\ _ /\ _ := by simpa only [Prod.mk.injEq] using z
 have tf : topFrom treeTable p w N ⟨boot_heap w.params, #[], boot_drawn, boot_toks, os⟩ = some t.abs := by
  unfold topFrom
  dsimp only
  rw [z1, z2, z3, r]
  show (match staticsOk (importedModules p.main.body) (boot_heap w.params) t.abs.heap && namesBound p t.abs.heap && gensDone t.abs && laidKept (boot_heap w.params) t.abs.heap with | true => some t.abs | false => none) = _
  rw [l1]
 unfold openEnds
 rw [e0]
 show (topFrom treeTable p w N _).map _ = _
 rw [tf]
 exact congrArg some (Prod.ext l2 l3)
end DL
open PySem in
lay_quick PySem.Challenge.pw_wishdeal_k04_refusals DL.topRunT PySem.W.openGood PySem.W.staticsOk PySem.W.namesBound PySem.W.laidKept PySem.W.xlAt DL.xSeen DL.xGood
namespace W
open PySem PySem.Spec DL
abbrev p0 : Program := PySem.Challenge.pw_wishdeal_k04_refusals
def zch : List Nat := [1, 2, 3, 4, 5, 6, 7, 8, 9, 10, 11, 12, 13, 14, 16, 17, 18, 19, 21, 22, 23, 24, 25, 26]
def ixL : List Nat := [18, 19, 21, 22, 23, 24, 25, 26]
abbrev q0 : Program := PySem.W.view p0 zch
def clsL : XL0 := [("DealError", some 1), ("NoWishes", some 2), ("NoAim", some 3), ("NoText", some 4), ("NoWay", none), ("NoPlace", none), ("NoChange", none), ("NoNumbering", none), ("NoJoin", none), ("NoBook", none), ("NoDeed", none), ("NoRow", none), ("NoName", none), ("TooMany", none)]
theorem zjJ : ∀ (w : World) (os : OsState), (PySem.W.Fast.tw10708255244068714335 PySem.W.Fast.tw14364793385576792824 PySem.W.Fast.tw7224268869025231559 w 11 (some (.ref 6)) 3493 (T0 w os) (PySem.W.topStub PySem.W.Fast.tw7224268869025231559)).map (fun t => (((PySem.W.Fast.tw13471830651028734593 (PySem.W.Fast.tw5923862056798008813 (Program.main PySem.W.Fast.tw7224268869025231559).body) (PySem.W.boot_heap w.params) t.abs.heap && PySem.W.Fast.tw4683006035507612052 PySem.W.Fast.tw7224268869025231559 t.abs.heap && PySem.W.gensDone t.abs && PySem.W.Fast.tw16898566250750103049 (PySem.W.boot_heap w.params) t.abs.heap), PySem.W.Fast.tw4187177175401517315 (PySem.W.view PySem.W.Fast.tw7224268869025231559 zch) [] (PySem.W.Fast.tw5923862056798008813 (Program.main PySem.W.Fast.tw7224268869025231559).body) (fun s => PySem.W.Fast.tw4757257242682413121 (PySem.W.view PySem.W.Fast.tw7224268869025231559 zch) [] s && PySem.W.recOk [] s) true t.abs), PySem.W.Fast.tw11121216462471823999 clsL t.abs)) = some ((true, PySem.W.Fast.tw3486900944545009338 (PySem.W.view PySem.W.Fast.tw7224268869025231559 zch) []), PySem.W.Fast.tw18030470931243306169 PySem.W.Fast.tw7224268869025231559 clsL) := by
 intro w os
 kernel_rfl
theorem zjK : PySem.W.LeftO p0 q0 [] (fun s => PySem.W.xlAt q0 [] s && PySem.W.recOk [] s) (xSeen clsL) (fun _ => xGood p0 clsL) 6886 := by
 refine zfD (M := 3493) (by kernel_rfl) rfl (fun s => by kernel_rfl) rfl fun w os => ?_
 have h := zjJ w os
 rw [← PySem.W.Fast.te10708255244068714335, ← PySem.W.Fast.te14364793385576792824, ← PySem.W.Fast.te4187177175401517315, ← PySem.W.Fast.te5923862056798008813, ← PySem.W.Fast.te13471830651028734593, ← PySem.W.Fast.te4683006035507612052, ← PySem.W.Fast.te16898566250750103049, ← PySem.W.Fast.te4757257242682413121, ← PySem.W.Fast.te3486900944545009338, ← PySem.W.Fast.te11121216462471823999, ← PySem.W.Fast.te18030470931243306169, ← PySem.W.Fast.te7224268869025231559] at h
 exact h
end W
namespace L2
open PySem PySem.Spec PyProof.Rows
abbrev Key := Sum Int Str
def zcA : Key -> Value -> Bool
 | .inl k, v => Value.isInt k v
 | .inr x, v => Value.isStrOf x v
def keyH (w : World) : Key -> Int
 | .inl k => hashInt k
 | .inr x => hashStr w x
theorem zar : ∀ {k : Key} {v : Value}, zcA k v = true -> (∃ i t, k = Sum.inl i /\ v = Value.int i t) ∨ (∃ x t, k = Sum.inr x /\ v = Value.str x t)
 | .inl i, v, h => by
  obtain ⟨t, e⟩ := Value.isInt_shape (k := i) (v := v) h
  exact .inl ⟨i, t, rfl, e⟩
 | .inr x, v, h => by
  obtain ⟨t, e⟩ := Value.isStrOf_shape (x := x) (v := v) h
  exact .inr ⟨x, t, rfl, e⟩
theorem zen (i : Int) (t : Tok) : zcA (.inl i) (.int i t) = true := by simp [zcA, Value.isInt]
theorem zeo (x : Str) (t : Tok) : zcA (.inr x) (.str x t) = true := by simp [zcA, Value.isStrOf]
theorem zic (a b : Int) : decide ((Sum.inl a : Key) = Sum.inl b) = (a == b) := by
 by_cases e : a = b
 ·subst e; simp
 ·have h : ¬ (Sum.inl a : Key) = Sum.inl b := fun q => e (Sum.inl.inj q)
  rw [decide_eq_false h]
  exact (beq_eq_false_iff_ne.mpr e).symm
theorem zid (a b : Str) : decide ((Sum.inr a : Key) = Sum.inr b) = decide (a = b) := by
 by_cases e : a = b
 ·subst e; simp
 ·have h : ¬ (Sum.inr a : Key) = Sum.inr b := fun q => e (Sum.inr.inj q)
  rw [decide_eq_false h, decide_eq_false e]
theorem zie (a : Int) (b : Str) : decide ((Sum.inl a : Key) = Sum.inr b) = false := decide_eq_false (fun q => nomatch q)
theorem zif (a : Str) (b : Int) : decide ((Sum.inr a : Key) = Sum.inl b) = false := decide_eq_false (fun q => nomatch q)
def zaN (prog : Program) (w : World) : PySem.KeyKind prog w Key where
 is := zcA
 hash := keyH w
 inj := fun v a b ha hb => by
  rcases zar ha with ⟨i, t, rfl, rfl⟩ | ⟨x, t, rfl, rfl⟩
  ·rcases zar hb with ⟨j, u, rfl, e⟩ | ⟨y, u, rfl, e⟩
   ·injection e with e1 _; rw [e1]
   ·exact nomatch e
  ·rcases zar hb with ⟨j, u, rfl, e⟩ | ⟨y, u, rfl, e⟩
   ·exact nomatch e
   ·injection e with e1 _; rw [e1]
 byValue := fun k v h => by
  rcases zar h with ⟨i, t, rfl, rfl⟩ | ⟨x, t, rfl, rfl⟩ <;> rfl
 pyHash := fun hv h => by
  rcases zar hv with ⟨i, t, rfl, rfl⟩ | ⟨x, t, rfl, rfl⟩
  ·exact wpAny_pyHash_int h
  ·exact wpAny_pyHash_str h
 eqBool := fun hu hv h => by
  rcases zar hu with ⟨i, t, rfl, rfl⟩ | ⟨x, t, rfl, rfl⟩
  ·rcases zar hv with ⟨j, u, rfl, rfl⟩ | ⟨y, u, rfl, rfl⟩
   ·rw [zic] at h; exact wpAny_eqBool_int h
   ·rw [zie] at h; exact SeqAt.EqAt.int_str i t y u _ _ _ _ h
  ·rcases zar hv with ⟨j, u, rfl, rfl⟩ | ⟨y, u, rfl, rfl⟩
   ·rw [zif] at h; exact SeqAt.EqAt.str_int x t j u _ _ _ _ h
   ·rw [zid] at h; exact wpAny_eqBool_str h
 «strs» := fun k x t v h => by
  rcases zar h with ⟨i, u, rfl, e⟩ | ⟨y, u, rfl, e⟩
  ·exact nomatch e
  ·injection e with e1 _
   subst e1
   cases v <;> rfl
theorem zc7 (prog : Program) (w : World) (i : Int) (t : Tok) : (zaN prog w).is (.inl i) (.int i t) = true := zen i t
theorem zc8 (prog : Program) (w : World) (x : Str) (t : Tok) : (zaN prog w).is (.inr x) (.str x t) = true := zeo x t
end L2
namespace L2
open PySem PySem.Spec PyProof.Rows
inductive V where
 | non | bl (b : Bool) | int (i : Int) | str (x : Str) | byt (b : Array UInt8) | flt (b : UInt64) | ref (a : Addr) | ty (n : String)
 deriving DecidableEq
def RelV : V -> Value -> Prop
 | .non, u => u = Value.none
 | .bl b, u => u = Value.bool b
 | .int i, u => ∃ t, u = Value.int i t
 | .str x, u => ∃ t, u = Value.str x t
 | .byt b, u => ∃ t, u = Value.bytes b t
 | .flt b, u => ∃ t, u = Value.float b t
 | .ref a, u => u = Value.ref a
 | .ty n, u => u = Value.type n
abbrev Vals : List V -> List Value -> Prop := Paired RelV
theorem Vals.length {xs : List V} {us : List Value} (r : Vals xs us) : xs.length = us.length := Paired.length r
theorem Vals.get : ∀ {xs : List V} {us : List Value} {i : Nat} {x : V}, Vals xs us -> xs[i]? = some x -> ∃ u, us[i]? = some u /\ RelV x u
 | _, _, _, _, .nil, e => by simp at e
 | _, _, 0, _, .cons r _, e => by simp at e; subst e; exact ⟨_, rfl, r⟩
 | _, _, i + 1, x, .cons _ t, e => by
  obtain ⟨u, h1, h2⟩ := Vals.get (i := i) (x := x) t (by simpa using e)
  exact ⟨u, by simpa using h1, h2⟩
theorem Vals.append : ∀ {xs ys : List V} {us ws : List Value}, Vals xs us -> Vals ys ws -> Vals (xs ++ ys) (us ++ ws)
 | _, _, _, _, .nil, s => s
 | _, _, _, _, .cons r t, s => .cons r (Vals.append t s)
theorem Vals.take : ∀ {xs : List V} {us : List Value} (n : Nat), Vals xs us -> Vals (xs.take n) (us.take n)
 | _, _, 0, _ => .nil
 | _, _, _ + 1, .nil => .nil
 | _, _, n + 1, .cons r t => .cons r (Vals.take n t)
theorem Vals.drop : ∀ {xs : List V} {us : List Value} (n : Nat), Vals xs us -> Vals (xs.drop n) (us.drop n)
 | _, _, 0, r => r
 | _, _, _ + 1, .nil => .nil
 | _, _, n + 1, .cons _ t => Vals.drop n t
def RelO : Option V -> Option Value -> Prop
 | some v, some u => RelV v u
 | none, none => True
 | _, _ => False
def KV {κ : Type} : List (κ × V) -> List (κ × Value) -> Prop := Paired fun (p : κ × V) (q : κ × Value) => p.1 = q.1 /\ RelV p.2 q.2
def kV : Key -> V
 | .inl i => .int i
 | .inr x => .str x
inductive HO where
  | lst (xs : List V)
  | tup (xs : List V)
  | dK (kvs : List (Key × V)) | dT (kvs : List (List Key × V))
  | set (S : Int -> Bool) (n : Nat)
  | ins (C dx : Addr) (fs : List (Str × V))
  | own (x : Addr)
  | xd (fs : List (Str × V))
  | met (f x : Addr)
  | rng (lo hi : Int)
  | frz (o : Obj) (u : HO)
  | tbl (ps : Array Value)
  | ext (φ : Heap -> Prop)
abbrev Hp := Addr -> Option HO
def upd (H : Hp) (a : Addr) (o : HO) : Hp := fun b => if b = a then some o else H b
theorem zai {H : Hp} {a : Addr} {o : HO} : upd H a o a = some o := by unfold upd; rw [if_pos rfl]
theorem zak {H : Hp} {a b : Addr} {o : HO} (h : b ≠ a) : upd H a o b = H b := by unfold upd; rw [if_neg h]
theorem zep {H : Hp} {a : Addr} {o u : HO} : upd (upd H a o) a u = upd H a u := by
 funext b; unfold upd; split <;> rfl
theorem zan {H : Hp} {a b : Addr} {o : HO} (h : H a = some o) (h' : H b = none) : a ≠ b := by
 intro e; subst e; rw [h] at h'; cases h'
section
variable (P : Program) (w : World)
def zaR (H : Hp) (h : Heap) (a : Addr) : HO -> Prop
 | .lst xs => xs.length <= sizeLine /\ ∃ (its : List Value) (n : Nat), Vals xs its /\ h.get? a = some { cls := .type "list", data := .seq its.toArray n }
 | .tup xs => xs.length <= sizeLine /\ ∃ its : List Value, Vals xs its /\ IsTup h a its.toArray
 | .dK kvs => kvs.length <= sizeLine /\ (a == sysModules) = false /\ ∃ vs, KV kvs vs /\ h.DictOf (zaN P w) a vs
 | .dT kvs => kvs.length <= sizeLine /\ (a == sysModules) = false /\ ∃ xs : List (List Key × Addr × Value),
   Paired (fun (p : List Key × V) (q : List Key × Addr × Value) => p.1 = q.1 /\ H q.2.1 = some (.tup (p.1.map kV)) /\ RelV p.2 q.2.2) kvs xs /\
   ∃ o es ep, h.get? a = some o /\ o.ExactDict /\ o.data = .dict es ep /\ es.toList = xs.map (entryOfKey (tupleKind (zaN P w))) /\ (xs.map (·.1)).Nodup
 | .set S n => h.SetOf (intKind P w) a S n
 | .ins C dx fs => H dx = some (.own a) /\ fs.length <= 1000 /\ dx ≠ a /\ h.get? a = some (PySem.W.instObj C dx) /\
   ∃ mA, h.Ns1 dx mA /\ (∀ f, RelO (fs.lookup f) (mA f)) /\ PySem.Within mA (fs.map (·.1))
 | .own _ => ∃ o, h.get? a = some o
 | .xd fs => ∃ mA, h.Ns1 a mA /\ ∀ f, RelO (fs.lookup f) (mA f)
 | .rng lo hi => ∃ t u v, h.get? a = some { cls := .type "range", data := .fields #[.int lo t, .int hi u, .int 1 v] }
 | .frz o u => h.get? a = some o /\ zaR H h a u
 | .tbl ps => h.get? a = some { cls := .none, data := .fields ps }
 | .met f x => h.get? a = some (PySem.W.methodObj (.ref f) (.ref x))
 | .ext φ => φ h /\ (∃ o, h.get? a = some o) /\ ∀ h1 h2 : Heap, φ h1 -> (∀ o, h1.get? a = some o -> h2.get? a = some o) -> φ h2
def HOk (H : Hp) (h : Heap) : Prop := ∀ a o, H a = some o -> zaR P w H h a o
end
section
variable {P : Program} {w : World} {H H' : Hp} {h h' : Heap} {a : Addr} {o : HO}
theorem zaR.lt (x : zaR P w H h a o) : a < h.objs.size := by
 cases o with
 | lst xs => obtain ⟨_, _, _, _, e⟩ := x; exact Heap.lt_size e
 | tup xs => obtain ⟨_, _, _, p⟩ := x; exact p.lt
 | dK kvs => obtain ⟨_, _, _, _, o, _, _, e, _⟩ := x; exact Heap.lt_size e
 | dT kvs => obtain ⟨_, _, _, _, o, _, _, e, _⟩ := x; exact Heap.lt_size e
 | set S n => obtain ⟨o, _, _, _, e, _⟩ := x; exact Heap.lt_size e
 | ins C dx fs => obtain ⟨_, _, _, e, _⟩ := x; exact Heap.lt_size e
 | own y => obtain ⟨_, e⟩ := x; exact Heap.lt_size e
 | xd fs => obtain ⟨_, ⟨_, _, _, e, _⟩, _⟩ := x; exact Heap.lt_size e
 | rng lo hi => obtain ⟨_, _, _, e⟩ := x; exact Heap.lt_size e
 | frz ob u => obtain ⟨e, _⟩ := x; exact Heap.lt_size e
 | tbl ps => exact Heap.lt_size (show h.get? a = some _ from x)
 | met f y => exact Heap.lt_size (show h.get? a = some _ from x)
 | ext φ => obtain ⟨_, ⟨_, e⟩, _⟩ := x; exact Heap.lt_size e
theorem Paired.mapP {α β : Type} {F G : α -> β -> Prop} : ∀ {l₁ : List α} {l₂ : List β}, Paired F l₁ l₂ -> (∀ a b, F a b -> G a b) -> Paired G l₁ l₂
 | _, _, .nil, _ => .nil
 | _, _, .cons r t, f => .cons (f _ _ r) (Paired.mapP t f)
theorem zaR.stay (x : zaR P w H h a o) (k : ∀ b u, (b = a ∨ H b = some (.own a)) -> h.get? b = some u -> h'.get? b = some u)
  (ho : ∀ b, H b = some (.own a) -> H' b = some (.own a)) (ht : ∀ b xs, H b = some (.tup xs) -> H' b = some (.tup xs)) : zaR P w H' h' a o := by
 induction o with
 | lst xs => obtain ⟨z, its, n, r, e⟩ := x; exact ⟨z, its, n, r, k _ _ (.inl rfl) e⟩
 | tup xs => obtain ⟨z, its, r, ob, e, c⟩ := x; exact ⟨z, its, r, ob, k _ _ (.inl rfl) e, c⟩
 | dK kvs => obtain ⟨z, y, vs, r, ob, es, ep, e, c⟩ := x; exact ⟨z, y, vs, r, ob, es, ep, k _ _ (.inl rfl) e, c⟩
 | dT kvs =>
  obtain ⟨z, y, xs, r, ob, es, ep, e, c⟩ := x
  exact ⟨z, y, xs, Paired.mapP r fun p q z => ⟨z.1, ht _ _ z.2.1, z.2.2⟩, ob, es, ep, k _ _ (.inl rfl) e, c⟩
 | set S n => obtain ⟨ob, es, ep, t, e, c⟩ := x; exact ⟨ob, es, ep, t, k _ _ (.inl rfl) e, c⟩
 | ins C dx fs =>
  obtain ⟨d, z, ne, e, mA, ⟨od, es, ep, e2, c⟩, r⟩ := x
  exact ⟨ho _ d, z, ne, k _ _ (.inl rfl) e, mA, ⟨od, es, ep, k _ _ (.inr d) e2, c⟩, r⟩
 | own y => obtain ⟨ob, e⟩ := x; exact ⟨ob, k _ _ (.inl rfl) e⟩
 | xd fs => obtain ⟨mA, ⟨od, es, ep, e, c⟩, r⟩ := x; exact ⟨mA, ⟨od, es, ep, k _ _ (.inl rfl) e, c⟩, r⟩
 | rng lo hi => obtain ⟨t, u, v, e⟩ := x; exact ⟨t, u, v, k _ _ (.inl rfl) e⟩
 | frz ob u ih => obtain ⟨e, q⟩ := x; exact ⟨k _ _ (.inl rfl) e, ih q⟩
 | tbl ps =>
  have e : h.get? a = some { cls := .none, data := .fields ps } := x
  show h'.get? a = some { cls := .none, data := .fields ps }
  exact k a _ (.inl rfl) e
 | met f y =>
  have e : h.get? a = some (PySem.W.methodObj (.ref f) (.ref y)) := x
  show h'.get? a = some (PySem.W.methodObj (.ref f) (.ref y))
  exact k a _ (.inl rfl) e
 | ext φ => obtain ⟨p, ⟨o, e⟩, st⟩ := x; exact ⟨st _ _ p fun o q => k _ _ (.inl rfl) q, ⟨o, k _ _ (.inl rfl) e⟩, st⟩
theorem HOk.lt (x : HOk P w H h) (e : H a = some o) : a < h.objs.size := (x a o e).lt
theorem HOk.fresh (x : HOk P w H h) (e : h.objs.size <= a) : H a = none := by
 cases q : H a with
 | none => rfl
 | some u => exact absurd (Nat.lt_of_lt_of_le (x.lt q) e) (Nat.lt_irrefl _)
theorem HOk.kept (x : HOk P w H h) (k : ∀ b u, h.get? b = some u -> h'.get? b = some u) : HOk P w H h' := fun a o e =>
 (x a o e).stay (fun b u _ q => k b u q) (fun _ q => q) fun _ _ q => q
theorem HOk.laid (x : HOk P w H h) (k : ∀ b u, h.get? b = some u -> h'.get? b = some u) (hp : h.objs.size <= a) (new : zaR P w (upd H a o) h' a o) : HOk P w (upd H a o) h' := fun b u e => by
 have hn := x.fresh hp
 by_cases hb : b = a
 ·subst hb; rw [zai] at e; cases e; exact new
 ·rw [zak hb] at e
  exact (x b u e).stay (fun c v _ q => k c v q) (fun c q => by rw [zak (zan q hn)]; exact q) fun c xs q => by rw [zak (zan q hn)]; exact q
end
def Rd (H : Hp) (a : Addr) (u : HO) : Prop := H a = some u ∨ ∃ o, H a = some (.frz o u)
theorem Rd.ok {P : Program} {w : World} {H : Hp} {h : Heap} {a : Addr} {u : HO} (r : Rd H a u) (x : HOk P w H h) : zaR P w H h a u := by
 rcases r with r | ⟨o, r⟩
 ·exact x a u r
 ·obtain ⟨_, q⟩ := x a _ r
  exact q
def Mut : Option HO -> Prop
 | some (.lst _) => True
 | some (.dK _) => True
 | some (.dT _) => True
 | some (.set _ _) => True
 | some (.ins _ _ _) => True
 | some (.ext _) => True
 | _ => False
section
variable {P : Program} {w : World} {H : Hp} {h h' : Heap} {x e : Addr} {o' : HO}
theorem HOk.write (ok : HOk P w H h) (mu : Mut (H x)) (he : e = x ∨ H e = some (.own x)) (k : ∀ b u, b ≠ e -> h.get? b = some u -> h'.get? b = some u) (heo : ∃ u, h'.get? e = some u)
  (new : zaR P w (upd H x o') h' x o') : HOk P w (upd H x o') h' := fun b u q => by
 have nown : ∀ c y, H c = some (.own y) -> c ≠ x := fun c y r z => by subst z; rw [r] at mu; exact mu
 have ntup : ∀ c xs, H c = some (.tup xs) -> c ≠ x := fun c xs r z => by subst z; rw [r] at mu; exact mu
 by_cases hb : b = x
 ·subst hb; rw [zai] at q; cases q; exact new
 ·rw [zak hb] at q
  by_cases hbe : b = e
  ·have q' : H b = some (.own x) := by
    rcases he with z | z
    ·exact absurd (hbe.trans z) hb
    ·rw [hbe]; exact z
   rw [q] at q'; cases q'
   obtain ⟨v, hv⟩ := heo
   exact ⟨v, by rw [hbe]; exact hv⟩
  ·refine (ok b u q).stay (fun c v hc r => k c v ?_ r) (fun c r => by rw [zak (nown c b r)]; exact r) fun c xs r => by rw [zak (ntup c xs r)]; exact r
   rcases hc with rfl | hc
   ·exact hbe
   ·rintro rfl
    rcases he with z | z
    ·exact nown c b hc z
    ·rw [hc] at z; cases z; exact hb rfl
end
structure Un (fs ex : List Addr) (H H' : Hp) (h h' : Heap) : Prop where
 keep : ∀ b o, h.get? b = some o -> H b = none -> b ∉ fs -> b ∉ ex -> h'.get? b = some o
 slot : ∀ b o, h.get? b = some o -> H b = none -> b ∈ fs -> b ∉ ex -> ∃ sl, h'.get? b = some { o with slots := sl }
 free : ∀ b o, h.get? b = some o -> H b = none -> b ∉ ex -> H' b = none
 there : ∀ b o, h.get? b = some o -> b ∉ ex -> ∃ o', h'.get? b = some o'
 tups : ∀ b xs, H b = some (.tup xs) -> H' b = some (.tup xs)
 frzs : ∀ b o u, H b = some (.frz o u) -> H' b = some (.frz o u)
 tbls : ∀ b ps, H b = some (.tbl ps) -> ∃ more, H' b = some (.tbl (ps ++ more))
section
variable {fs fs' ex ex' : List Addr} {H H1 H2 : Hp} {h h1 h2 h' : Heap} {a x e : Addr} {o : HO}
theorem Un.any (u : Un fs ex H H1 h h1) {b : Addr} {ob : Obj} (q : h.get? b = some ob) (n : H b = none) (hx : b ∉ ex) : ∃ sl, h1.get? b = some { ob with slots := sl } := by
 by_cases hb : b ∈ fs
 ·exact u.slot b ob q n hb hx
 ·exact ⟨ob.slots, u.keep b ob q n hb hx⟩
theorem Un.kept (k : ∀ b u, h.get? b = some u -> h'.get? b = some u) : Un fs ex H H h h' :=
 ⟨fun b ob q _ _ _ => k b ob q, fun b ob q _ _ _ => ⟨ob.slots, k b ob q⟩, fun _ _ _ n _ => n, fun b ob q _ => ⟨ob, k b ob q⟩, fun _ _ q => q, fun _ _ _ q => q, fun _ ps q => ⟨#[], by rw [q]; simp⟩⟩
theorem Un.refl : Un fs ex H H h h := Un.kept fun _ _ q => q
theorem Un.laid (k : ∀ b u, h.get? b = some u -> h'.get? b = some u) (hp : h.objs.size <= a) (hn : H a = none) : Un fs ex H (upd H a o) h h' where
 keep := fun b u q _ _ _ => k b u q
 slot := fun b u q _ _ _ => ⟨u.slots, k b u q⟩
 free := fun b u q n _ => by rw [zak (Nat.ne_of_lt (Nat.lt_of_lt_of_le (Heap.lt_size q) hp))]; exact n
 there := fun b u q _ => ⟨u, k b u q⟩
 tups := fun b xs q => by rw [zak (zan q hn)]; exact q
 frzs := fun b u xs q => by rw [zak (zan q hn)]; exact q
 tbls := fun b ps q => ⟨#[], by rw [zak (zan q hn), q]; simp⟩
theorem Un.write (mu : Mut (H x)) (he : e = x ∨ H e = some (.own x)) (k : ∀ b u, b ≠ e -> h.get? b = some u -> h'.get? b = some u) (heo : ∃ u, h'.get? e = some u) : Un fs ex H (upd H x o) h h' := by
 have hx : ∀ b, H b = none -> b ≠ x := fun b n z => by subst z; rw [n] at mu; exact mu
 have hb : ∀ b, H b = none -> b ≠ e := fun b n z => by
  subst z
  rcases he with r | r
  ·exact hx b n r
  ·rw [n] at r; cases r
 have hm : ∀ b u, H b = some u -> ¬ Mut (some u) -> b ≠ x := fun b u q nm z => by subst z; rw [q] at mu; exact nm mu
 refine ⟨fun b u q n _ _ => k b u (hb b n) q, fun b u q n _ _ => ⟨u.slots, k b u (hb b n) q⟩, fun b u q n _ => by rw [zak (hx b n)]; exact n, fun b u q _ => ?_,
  fun b xs q => by rw [zak (hm b _ q fun z => z)]; exact q, fun b u xs q => by rw [zak (hm b _ q fun z => z)]; exact q, fun b ps q => ⟨#[], by rw [zak (hm b _ q fun z => z), q]; simp⟩⟩
 by_cases hbe : b = e
 ·subst hbe; exact heo
 ·exact ⟨u, k b u hbe q⟩
end
def trk (h : Heap) (H : Hp) : List Addr := (List.range h.objs.size).filter fun a => (H a).isSome
def hidT (h : Heap) (H : Hp) : Heap := PySem.W.hideAll h (trk h H)
theorem zeq (h : Heap) (H : Hp) : (hidT h H).objs.size = h.objs.size := PySem.W.hideAll_size _ _
theorem zfE {h : Heap} {H : Hp} {b : Addr} {o : Obj} (e : h.get? b = some o) (n : H b = none) : (hidT h H).get? b = some o :=
 PySem.W.hideAll_get _ e fun hm => by
  have q : (H b).isSome = true := (List.mem_filter.mp hm).2
  rw [n] at q; simp at q
theorem zg2 {h : Heap} {H : Hp} {b : Addr} {o : Obj} (e : (hidT h H).get? b = some o) : h.get? b = some o /\ H b = none := by
 have e' : h.get? b = some o := PySem.W.of_hideAll (trk h H) e
 refine ⟨e', ?_⟩
 cases q : H b with
 | none => rfl
 | some x =>
  have hm : b ∈ trk h H := List.mem_filter.mpr ⟨List.mem_range.mpr (Heap.lt_size e'), by simp [q]⟩
  have z : (hidT h H).get? b = none := PySem.W.hideAll_none (trk h H) hm
  rw [z] at e; cases e
end L2
namespace L2
open PySem PySem.Spec PyProof.Rows
structure Mod (K : PySem.W.Frag) (mg : Str -> Option Value) (base : Heap) : Prop where
 kin : K.In base
 glob : base.Ns mainGlobals mg
 blt : ∃ mb, base.Ns builtinsNs mb /\ ∀ x : Str, x ≠ "__name__" -> mb x = bootBuiltins x
 nolimit : base.NoLimit
structure Cx where
 prog : Program
 w : World
 K : PySem.W.Frag
 mg : Str -> Option Value
 base : Heap
 A : Around
 N : List Str
 s₀ : Shared
 H₀ : Hp
 env : Env
 outer : List Env
 stack : List Env
 ex : List Addr
 fn : Str -> Bool
 calm : Bool
 pn : List (Addr × Obj)
 xe : Value -> Shared -> Prop
def frs (l : List Env) : List Addr := l.filterMap (·.frame)
abbrev Cx.fs (X : Cx) : List Addr := frs X.outer
def Vis (sc : Scope) (x : Str) : Prop := sc.names.lookup x = some .local ∨ sc.names.lookup x = some .cell ∨ sc.names.lookup x = some .free
def Loc (sc : Scope) (x : Str) : Prop := sc.names.lookup x = some .local ∨ sc.names.lookup x = some .cell
def Look (env : Env) (h : Heap) (m : Str -> Option Value) (x : Str) (u : Value) : Prop :=
 (env.kindOf x = some .local /\ m x = some u) ∨ ((env.kindOf x = some .cell ∨ env.kindOf x = some .free) /\ ∃ c, env.cells.lookup x = some c /\ h.IsCell c (some u))
structure Cx.Ok (X : Cx) : Prop where
 mod : Mod X.K X.mg X.base
 kind : X.env.scope.kind = .function
 glob : X.env.globals = mainGlobals
 blt : X.env.builtins = builtinsNs
 above : X.s₀.heap.objs.size <= X.env.locals
 inj : ∀ x y c, X.env.cells.lookup x = some c -> X.env.cells.lookup y = some c -> x = y
 has : ∀ x, (X.env.kindOf x = some .cell ∨ X.env.kindOf x = some .free) -> ∃ c, X.env.cells.lookup x = some c
 cab : ∀ x c, X.fn x = true -> X.env.cells.lookup x = some c -> X.s₀.heap.objs.size <= c
 hd : X.calm = true -> X.A.handled = none
 frames : X.A.frames = some X.stack
 stk : X.stack = X.outer ∨ (X.stack = X.env :: X.outer /\ X.env.frame = some X.env.locals)
 exf : ∀ b ∈ X.ex, b ≠ X.env.locals /\ ∀ x c, X.env.cells.lookup x = some c -> c ≠ b
 bs : ∀ b o, X.base.get? b = some o -> X.s₀.heap.get? b = some o /\ X.H₀ b = none
 bsz : X.base.objs.size <= X.s₀.heap.objs.size
 noex : ∀ b o, X.base.get? b = some o -> b ∉ X.ex
 exfs : ∀ b ∈ X.ex, b ∉ X.fs
 funs : X.s₀.heap.FunFrames X.base X.outer
 frf : ∀ b ∈ X.fs, X.H₀ b = none
structure Inv (X : Cx) (pins : List (Addr × Obj)) (σ : List (Option V)) (H : Hp) (s : Shared) : Prop where
 ok : X.Ok
 os : s.os = X.s₀.os
 bare : AllBare s.gens
 base : Un X.fs X.ex X.H₀ H X.s₀.heap s.heap
 loc : ∃ m, s.heap.Ns X.env.locals m /\ ∀ (i : Nat) (x : Str) (v : V), X.N[i]? = some x -> σ[i]? = some (some v) -> Vis X.env.scope x -> ∃ u, RelV v u /\ Look X.env s.heap m x u
 cell : ∀ x c, X.env.cells.lookup x = some c -> ∃ v, s.heap.IsCell c v
 free : H X.env.locals = none
 freeC : ∀ x c, X.env.cells.lookup x = some c -> H c = none
 pin : ∀ p ∈ X.pn ++ pins, s.heap.get? p.1 = some p.2 /\ H p.1 = none /\ p.1 ≠ X.env.locals /\ p.1 ∉ X.fs /\ ∀ v, p.2.data ≠ .cell v
 hok : HOk X.prog X.w H s.heap
 len : σ.length = X.N.length
section
variable {X : Cx} {pins : List (Addr × Obj)} {σ : List (Option V)} {H H' : Hp} {s : Shared} {h' : Heap}
theorem Cx.Ok.nofr (ok : X.Ok) {b : Addr} {o : Obj} (e : X.base.get? b = some o) : b ∉ X.fs := fun hb => by
 have := (ok.funs.mem hb).1
 rw [e] at this; cases this
theorem Inv.bs (I : Inv X pins σ H s) : ∀ b o, X.base.get? b = some o -> s.heap.get? b = some o /\ H b = none := fun b o e =>
 ⟨I.base.keep b o (I.ok.bs b o e).1 (I.ok.bs b o e).2 (I.ok.nofr e) (I.ok.noex b o e), I.base.free b o (I.ok.bs b o e).1 (I.ok.bs b o e).2 (I.ok.noex b o e)⟩
theorem Inv.bk (I : Inv X pins σ H s) : ∀ b o, X.base.get? b = some o -> s.heap.get? b = some o := fun b o e => (I.bs b o e).1
theorem Inv.mod (I : Inv X pins σ H s) : Mod X.K X.mg X.base := I.ok.mod
theorem Inv.kIn (I : Inv X pins σ H s) : X.K.In s.heap := I.ok.mod.kin.keeps I.bk
theorem Inv.fr (I : Inv X pins σ H s) : ∃ m, Fr X.base X.env.locals s.heap m :=
 let ⟨m, hn, _⟩ := I.loc
 ⟨m, hn, I.bk, Nat.le_trans I.ok.bsz I.ok.above⟩
theorem Inv.lt (I : Inv X pins σ H s) : X.env.locals < s.heap.objs.size := let ⟨_, hn, _⟩ := I.loc; hn.lt
theorem Inv.sz (I : Inv X pins σ H s) : X.s₀.heap.objs.size <= s.heap.objs.size := Nat.le_trans I.ok.above (Nat.le_of_lt I.lt)
theorem Inv.nofs (I : Inv X pins σ H s) {a : Addr} (h : s.heap.objs.size <= a) : a ∉ X.fs := fun hb => by
 obtain ⟨_, o, ho, _⟩ := I.ok.funs.mem hb
 exact absurd (Nat.lt_of_lt_of_le (Heap.lt_size ho) (Nat.le_trans I.sz h)) (Nat.lt_irrefl _)
theorem Inv.cne (I : Inv X pins σ H s) : ∀ x c, X.env.cells.lookup x = some c -> c ≠ X.env.locals := fun x c e z => by
 obtain ⟨v, o, ho, hd⟩ := I.cell x c e
 obtain ⟨m, ⟨o', es, ep, ho', hd', _⟩, _⟩ := I.loc
 rw [z, ho'] at ho; cases ho; rw [hd'] at hd; cases hd
theorem Inv.funs (I : Inv X pins σ H s) : s.heap.FunFrames X.base X.outer := by
 have all : ∀ (l : List Env), (∀ b ∈ frs l, b ∈ X.fs) -> X.s₀.heap.FunFrames X.base l -> s.heap.FunFrames X.base l := by
  intro l
  induction l with
  | nil => intro _ _; trivial
  | cons env r ih =>
   intro hs hl
   obtain ⟨hk, ⟨L, o, hf, hn, ho, hd⟩, hr⟩ := hl
   have hL : L ∈ X.fs := hs L (by unfold frs; rw [List.filterMap_cons, hf]; exact List.mem_cons_self)
   obtain ⟨sl, e⟩ := I.base.slot L o ho (I.ok.frf L hL) hL fun z => I.ok.exfs L z hL
   exact ⟨hk, ⟨L, _, hf, hn, e, hd⟩, ih (fun b hb => hs b (by unfold frs; rw [List.filterMap_cons, hf]; exact List.mem_cons_of_mem _ hb)) hr⟩
 exact all X.outer (fun _ hb => hb) I.ok.funs
theorem Inv.stack (I : Inv X pins σ H s) : s.heap.FunFrames X.base X.stack := by
 rcases I.ok.stk with e | ⟨e, hf⟩
 ·rw [e]; exact I.funs
 ·rw [e]
  obtain ⟨m, hn, _⟩ := I.loc
  refine .cons (by rw [I.ok.kind]; decide) hf hn ?_ I.funs
  exact Heap.get?_none_of_le (Nat.le_trans I.ok.bsz I.ok.above)
theorem Inv.stkSub (I : Inv X pins σ H s) : ∀ b ∈ frs X.stack, b ∈ X.env.locals :: X.fs := fun b hb => by
 rcases I.ok.stk with e | ⟨e, hf⟩
 ·rw [e] at hb; exact List.mem_cons_of_mem _ hb
 ·rw [e] at hb
  unfold frs at hb
  rw [List.filterMap_cons, hf] at hb
  exact hb
theorem Inv.stkFree (I : Inv X pins σ H s) : ∀ b ∈ frs X.stack, H b = none := fun b hb => by
 rcases List.mem_cons.mp (I.stkSub b hb) with e | hb
 ·rw [e]; exact I.free
 ·obtain ⟨_, o, ho, _⟩ := I.ok.funs.mem hb
  exact I.base.free b o ho (I.ok.frf b hb) fun z => I.ok.exfs b z hb
theorem Inv.step {g' : Array GenState} {t' : Nat} {d' : Drawn} {ch : List Addr} (I : Inv X pins σ H s)
  (hch : ∀ b ∈ ch, (b ∈ X.ex ∨ X.s₀.heap.objs.size <= b) /\ b ≠ X.env.locals /\ (∀ x c, X.env.cells.lookup x = some c -> c ≠ b) /\ ∀ p ∈ X.pn ++ pins, p.1 ≠ b)
  (keep : ∀ b o, b ≠ X.env.locals -> b ∉ X.fs -> b ∉ ch -> s.heap.get? b = some o -> H b = none -> h'.get? b = some o)
  (slot : ∀ b o, b ≠ X.env.locals -> b ∈ X.fs -> b ∉ ch -> s.heap.get? b = some o -> H b = none -> ∃ sl, h'.get? b = some { o with slots := sl }) (free : ∀ b o, b ∉ ch -> s.heap.get? b = some o -> H b = none -> H' b = none)
  (there : ∀ b o, b ∉ ch -> s.heap.get? b = some o -> ∃ o', h'.get? b = some o')
  (tups : ∀ b xs, H b = some (.tup xs) -> H' b = some (.tup xs)) (frzs : ∀ b o u, H b = some (.frz o u) -> H' b = some (.frz o u)) (tbls : ∀ b ps, H b = some (.tbl ps) -> ∃ more, H' b = some (.tbl (ps ++ more)))
  (ns : ∀ m, s.heap.Ns X.env.locals m -> h'.Ns X.env.locals m) (hok : HOk X.prog X.w H' h') (hg : AllBare g') :
  Inv X pins σ H' { s with heap := h', gens := g', drawn := d', toks := t' } := by
 have neL : ∀ b o, X.s₀.heap.get? b = some o -> b ≠ X.env.locals := fun b o e => Nat.ne_of_lt (Nat.lt_of_lt_of_le (Heap.lt_size e) I.ok.above)
 have neC : ∀ b o, X.s₀.heap.get? b = some o -> b ∉ X.ex -> b ∉ ch := fun b o e hx hb => by
  rcases (hch b hb).1 with z | z
  ·exact hx z
  ·exact absurd (Nat.lt_of_lt_of_le (Heap.lt_size e) z) (Nat.lt_irrefl _)
 have cellK : ∀ x c, X.env.cells.lookup x = some c -> ∀ v, s.heap.IsCell c v -> h'.IsCell c v := fun x c e v ⟨o, ho, hd⟩ => by
  have nch : c ∉ ch := fun z => (hch c z).2.2.1 x c e rfl
  by_cases hc : c ∈ X.fs
  ·obtain ⟨sl, q⟩ := slot c o (I.cne x c e) hc nch ho (I.freeC x c e)
   exact ⟨_, q, hd⟩
  ·exact ⟨o, keep c o (I.cne x c e) hc nch ho (I.freeC x c e), hd⟩
 refine ⟨I.ok, I.os, hg, ⟨fun b o e n hb hx => ?_, fun b o e n hb hx => ?_, fun b o e n hx => ?_, fun b o e hx => ?_, fun b xs e => tups b xs (I.base.tups b xs e), fun b o xs e => frzs b o xs (I.base.frzs b o xs e), fun b ps e => ?_⟩, ?_, fun x c e => ?_, ?_, fun x c e => ?_, fun p hp => ?_, hok, I.len⟩
 ·exact keep b o (neL b o e) hb (neC b o e hx) (I.base.keep b o e n hb hx) (I.base.free b o e n hx)
 ·obtain ⟨sl, e1⟩ := I.base.slot b o e n hb hx
  obtain ⟨sl', e2⟩ := slot b _ (neL b o e) hb (neC b o e hx) e1 (I.base.free b o e n hx)
  exact ⟨sl', e2⟩
 ·obtain ⟨o', e1⟩ := I.base.there b o e hx
  exact free b o' (neC b o e hx) e1 (I.base.free b o e n hx)
 ·obtain ⟨o', e1⟩ := I.base.there b o e hx
  exact there b o' (neC b o e hx) e1
 ·obtain ⟨m1, e1⟩ := I.base.tbls b ps e
  obtain ⟨m2, e2⟩ := tbls b _ e1
  exact ⟨m1 ++ m2, by rw [e2, Array.append_assoc]⟩
 ·obtain ⟨m, hn, hl⟩ := I.loc
  refine ⟨m, ns m hn, fun i x v e1 e2 e3 => ?_⟩
  obtain ⟨u, r, l⟩ := hl i x v e1 e2 e3
  refine ⟨u, r, ?_⟩
  rcases l with l | ⟨k, c, e, z⟩
  ·exact .inl l
  ·exact .inr ⟨k, c, e, cellK x c e _ z⟩
 ·obtain ⟨v, z⟩ := I.cell x c e
  exact ⟨v, cellK x c e v z⟩
 ·obtain ⟨m, ⟨o, _, _, ho, _⟩, _⟩ := I.loc
  exact free _ o (fun z => (hch _ z).2.1 rfl) ho I.free
 ·obtain ⟨v, o, ho, hd⟩ := I.cell x c e
  exact free c o (fun z => (hch c z).2.2.1 x c e rfl) ho (I.freeC x c e)
 ·obtain ⟨e, n, ne, nf, d⟩ := I.pin p hp
  have nch : p.1 ∉ ch := fun z => (hch p.1 z).2.2.2 p hp rfl
  exact ⟨keep p.1 p.2 ne nf nch e n, free p.1 p.2 nch e n, ne, nf, d⟩
theorem Inv.un {t' : Nat} (I : Inv X pins σ H s) (u : Un X.fs [] H H' s.heap h') (hok : HOk X.prog X.w H' h') : Inv X pins σ H' { s with heap := h', toks := t' } := by
 obtain ⟨m, ⟨o, es, ep, ho, r⟩, _⟩ := id I.loc
 obtain ⟨sl, hL⟩ := u.any ho I.free (by simp)
 exact I.step (g' := s.gens) (d' := s.drawn) (ch := []) (fun _ z => nomatch z) (fun b o _ hb _ e n => u.keep b o e n hb (by simp)) (fun b o _ hb _ e n => u.slot b o e n hb (by simp)) (fun b o _ e n => u.free b o e n (by simp)) (fun b o _ e => u.there b o e (by simp)) u.tups u.frzs u.tbls (fun m' hm => by
  obtain ⟨o', es', ep', ho', r'⟩ := hm
  rw [ho] at ho'; cases ho'
  exact ⟨_, es', ep', hL, r'⟩) hok I.bare
theorem Inv.call {g' : Array GenState} {t' : Nat} {d' : Drawn} {ch : List Addr} (I : Inv X pins σ H s) (u : Un (frs X.stack) ch H H' s.heap h') (hok : HOk X.prog X.w H' h') (hg : AllBare g')
  (hch : ∀ b ∈ ch, (b ∈ X.ex ∨ X.s₀.heap.objs.size <= b) /\ b ≠ X.env.locals /\ (∀ x c, X.env.cells.lookup x = some c -> c ≠ b) /\ ∀ p ∈ X.pn ++ pins, p.1 ≠ b) :
  Inv X pins σ H' { s with heap := h', gens := g', drawn := d', toks := t' } := by
 obtain ⟨m, ⟨o, es, ep, ho, r⟩, _⟩ := id I.loc
 obtain ⟨sl, hL⟩ := u.any ho I.free fun z => (hch _ z).2.1 rfl
 exact I.step (ch := ch) hch (fun b o hL hb hc e n => u.keep b o e n (fun z => (List.mem_cons.mp (I.stkSub b z)).elim hL hb) hc) (fun b o _ _ hc e n => u.any e n hc) (fun b o hc e n => u.free b o e n hc) (fun b o hc e => u.there b o e hc) u.tups u.frzs u.tbls (fun m' hm => by
  obtain ⟨o', es', ep', ho', r'⟩ := hm
  rw [ho] at ho'; cases ho'
  exact ⟨_, es', ep', hL, r'⟩) hok hg
theorem Inv.turned {t' : Nat} {it : Addr} (I : Inv X pins σ H s) (k : ∀ b o, b ≠ it -> s.heap.get? b = some o -> h'.get? b = some o) (hn : H it = none) (hL : it ≠ X.env.locals)
  (h1 : it ∈ X.ex ∨ X.s₀.heap.objs.size <= it) (h2 : ∀ x c, X.env.cells.lookup x = some c -> c ≠ it) (h3 : ∀ p ∈ X.pn ++ pins, p.1 ≠ it) : Inv X pins σ H { s with heap := h', toks := t' } := by
 have nit : ∀ b u, H b = some u -> b ≠ it := fun b u e z => by rw [z, hn] at e; cases e
 refine I.step (g' := s.gens) (d' := s.drawn) (ch := [it]) (fun b hb => ?_) (fun b o _ _ hc e _ => k b o (fun z => hc (by simp [z])) e) (fun b o _ _ hc e _ => ⟨o.slots, k b o (fun z => hc (by simp [z])) e⟩) (fun _ _ _ _ n => n)
  (fun b o hc e => ⟨o, k b o (fun z => hc (by simp [z])) e⟩) (fun _ _ e => e) (fun _ _ _ e => e) (fun b ps e => ⟨#[], by rw [e]; simp⟩) (fun m hm => ?_) (fun b u e => ?_) I.bare
 ·have e : b = it := by simpa using hb
  subst e
  exact ⟨h1, hL, h2, h3⟩
 ·obtain ⟨o, es, ep, ho, r⟩ := hm
  exact ⟨o, es, ep, k _ o (Ne.symm hL) ho, r⟩
 ·refine (I.hok b u e).stay (fun c v hc q => k c v ?_ q) (fun _ q => q) fun _ _ q => q
  rcases hc with z | z
  ·rw [z]; exact nit b u e
  ·exact nit c _ z
theorem Inv.tok (I : Inv X pins σ H s) (t : Nat) : Inv X pins σ H { s with toks := t } := I.un (h' := s.heap) (t' := t) Un.refl I.hok
theorem Inv.kept {t' : Nat} (I : Inv X pins σ H s) (k : ∀ b u, s.heap.get? b = some u -> h'.get? b = some u) : Inv X pins σ H { s with heap := h', toks := t' } := I.un (Un.kept k) (I.hok.kept k)
theorem Inv.laid {a : Addr} {o : HO} {t' : Nat} (I : Inv X pins σ H s) (k : ∀ b u, s.heap.get? b = some u -> h'.get? b = some u) (hp : s.heap.objs.size <= a) (new : zaR X.prog X.w (upd H a o) h' a o) :
  Inv X pins σ (upd H a o) { s with heap := h', toks := t' } := I.un (Un.laid k hp (I.hok.fresh hp)) (I.hok.laid k hp new)
theorem Inv.write {x e : Addr} {o : HO} {t' : Nat} (I : Inv X pins σ H s) (mu : Mut (H x)) (he : e = x ∨ H e = some (.own x)) (k : ∀ b u, b ≠ e -> s.heap.get? b = some u -> h'.get? b = some u) (heo : ∃ u, h'.get? e = some u)
  (new : zaR X.prog X.w (upd H x o) h' x o) : Inv X pins σ (upd H x o) { s with heap := h', toks := t' } := I.un (Un.write mu he k heo) (I.hok.write mu he k heo new)
theorem Inv.pins_of {pins' : List (Addr × Obj)} (I : Inv X pins σ H s) (h : ∀ p ∈ pins', s.heap.get? p.1 = some p.2 /\ H p.1 = none /\ p.1 ≠ X.env.locals /\ p.1 ∉ X.fs /\ ∀ v, p.2.data ≠ .cell v) : Inv X pins' σ H s :=
 ⟨I.ok, I.os, I.bare, I.base, I.loc, I.cell, I.free, I.freeC, fun p hp => (List.mem_append.mp hp).elim (fun z => I.pin p (List.mem_append_left _ z)) (h p), I.hok, I.len⟩
theorem zdt {N : List Str} (hN : N.Nodup) {i j : Nat} {x : Str} (a : N[i]? = some x) (b : N[j]? = some x) : i = j := by
 obtain ⟨h1, e1⟩ := List.getElem?_eq_some_iff.mp a
 obtain ⟨h2, e2⟩ := List.getElem?_eq_some_iff.mp b
 exact (List.getElem_inj hN).mp (e1.trans e2.symm)
theorem zer {M : Model} {A : Around} {E : Value -> Shared -> Prop} {i : Nat} {x : Str} {v : V} {u : Value} {Q : Unit -> Shared -> Prop} (I : Inv X pins σ H s) (hN : X.N.Nodup) (hi : X.N[i]? = some x) (hx : Loc X.env.scope x) (r : RelV v u)
  (h : ∀ s', Inv X pins (σ.set i (some v)) H s' -> (∃ a, Heap.SameBut a s.heap s'.heap /\ (a = X.env.locals ∨ X.env.cells.lookup x = some a)) -> Q () s') (hf : X.fn x = true ∨ X.env.scope.names.lookup x = some .local := by first | exact .inl rfl | exact .inr rfl | assumption) : wpAny M A (storeName X.env x u) Q E s := by
 obtain ⟨m, hn, hl⟩ := id I.loc
 have hcls : (X.env.scope.kind == .class || (X.env.scope.kind == .module && X.env.locals != X.env.globals)) = false := by rw [I.ok.kind]; rfl
 have hiσ : i < σ.length := by rw [I.len]; exact (List.getElem?_eq_some_iff.mp hi).1
 have cne := I.cne
 have tracked : ∀ {a : Addr} {h' : Heap}, (∃ o, s.heap.get? a = some o /\ H a = none) -> Heap.SameBut a s.heap h' -> HOk X.prog X.w H h' := fun {a h'} ha hs b ob e => by
  obtain ⟨_, _, hfree⟩ := ha
  refine (I.hok b ob e).stay (fun c w' hc q => (hs.2 c ?_).trans q) (fun _ q => q) fun _ _ q => q
  rintro rfl
  rcases hc with rfl | hc
  ·rw [hfree] at e; cases e
  ·rw [hfree] at hc; cases hc
 rcases hx with hk | hk
 ·refine wpAny_storeName_local hk hn (fun h' hn' hs => ?_) hcls
  obtain ⟨oL, _, _, hoL, _⟩ := id hn
  refine h _ ⟨I.ok, I.os, I.bare, ⟨fun b o e n hb hx => ?_, fun b o e n hb hx => ?_, I.base.free, fun b o e hx => ?_, I.base.tups, I.base.frzs, I.base.tbls⟩, ⟨_, hn', fun j y v' e1 e2 e3 => ?_⟩, fun y c e => ?_, I.free, I.freeC, fun p hp => ?_, tracked ⟨oL, hoL, I.free⟩ hs, by simpa using I.len⟩ ⟨_, hs, .inl rfl⟩
  ·exact (hs.2 b (Nat.ne_of_lt (Nat.lt_of_lt_of_le (Heap.lt_size e) I.ok.above))).trans (I.base.keep b o e n hb hx)
  ·obtain ⟨sl, e1⟩ := I.base.slot b o e n hb hx
   exact ⟨sl, (hs.2 b (Nat.ne_of_lt (Nat.lt_of_lt_of_le (Heap.lt_size e) I.ok.above))).trans e1⟩
  ·obtain ⟨o', e1⟩ := I.base.there b o e hx
   exact ⟨o', (hs.2 b (Nat.ne_of_lt (Nat.lt_of_lt_of_le (Heap.lt_size e) I.ok.above))).trans e1⟩
  ·by_cases hj : j = i
   ·subst hj
    rw [hi] at e1; cases e1
    rw [List.getElem?_set_self hiσ] at e2
    cases e2
    exact ⟨u, r, .inl ⟨hk, by simp⟩⟩
   ·rw [List.getElem?_set_ne (Ne.symm hj)] at e2
    obtain ⟨u', r', q⟩ := hl j y v' e1 e2 e3
    refine ⟨u', r', ?_⟩
    rcases q with ⟨k, e⟩ | ⟨k, c, e, z⟩
    ·refine .inl ⟨k, ?_⟩
     have : y ≠ x := fun e => hj (zdt hN e1 (e ▸ hi))
     simp [this, e]
    ·exact .inr ⟨k, c, e, z.sameBut hs (cne y c e)⟩
  ·obtain ⟨w', z⟩ := I.cell y c e
   exact ⟨w', z.sameBut hs (cne y c e)⟩
  ·obtain ⟨e, n, ne, nf, d⟩ := I.pin p hp
   exact ⟨(hs.2 p.1 ne).trans e, n, ne, nf, d⟩
 ·have hfn : X.fn x = true := by
   rcases hf with z | z
   ·exact z
   ·rw [z] at hk; cases hk
  obtain ⟨c, hc⟩ := I.ok.has x (.inl hk)
  obtain ⟨w', z⟩ := I.cell x c hc
  refine wpAny_storeName_cell I.ok.kind hk hc z (fun h' hc' hs => ?_)
  obtain ⟨oc, hoc, hocd⟩ := id z
  refine h { s with heap := h' } ⟨I.ok, I.os, I.bare, ⟨fun b o e n hb hx => ?_, fun b o e n hb hx => ?_, I.base.free, fun b o e hx => ?_, I.base.tups, I.base.frzs, I.base.tbls⟩, ⟨m, hn.sameBut hs (Ne.symm (cne x c hc)), fun j y v' e1 e2 e3 => ?_⟩, fun y c' e => ?_, I.free, I.freeC, fun p hp => ?_, tracked ⟨oc, hoc, I.freeC x c hc⟩ hs, by simpa using I.len⟩ ⟨c, hs, .inr hc⟩
  ·exact (hs.2 b (Nat.ne_of_lt (Nat.lt_of_lt_of_le (Heap.lt_size e) (I.ok.cab x c hfn hc)))).trans (I.base.keep b o e n hb hx)
  ·obtain ⟨sl, e1⟩ := I.base.slot b o e n hb hx
   exact ⟨sl, (hs.2 b (Nat.ne_of_lt (Nat.lt_of_lt_of_le (Heap.lt_size e) (I.ok.cab x c hfn hc)))).trans e1⟩
  ·obtain ⟨o', e1⟩ := I.base.there b o e hx
   exact ⟨o', (hs.2 b (Nat.ne_of_lt (Nat.lt_of_lt_of_le (Heap.lt_size e) (I.ok.cab x c hfn hc)))).trans e1⟩
  ·by_cases hj : j = i
   ·subst hj
    rw [hi] at e1; cases e1
    rw [List.getElem?_set_self hiσ] at e2
    cases e2
    exact ⟨u, r, .inr ⟨.inl hk, c, hc, hc'⟩⟩
   ·rw [List.getElem?_set_ne (Ne.symm hj)] at e2
    obtain ⟨u', r', q⟩ := hl j y v' e1 e2 e3
    refine ⟨u', r', ?_⟩
    rcases q with q | ⟨k, c', e, z'⟩
    ·exact .inl q
    ·refine .inr ⟨k, c', e, z'.sameBut hs ?_⟩
     rintro rfl
     exact hj (zdt hN e1 (I.ok.inj _ _ _ e hc ▸ hi))
  ·by_cases hcc : c' = c
   ·subst hcc; exact ⟨_, hc'⟩
   ·obtain ⟨w2, z2⟩ := I.cell y c' e
    exact ⟨w2, z2.sameBut hs hcc⟩
  ·obtain ⟨e, n, ne, nf, d⟩ := I.pin p hp
   refine ⟨(hs.2 p.1 ?_).trans e, n, ne, nf, d⟩
   intro q
   rw [q, hoc] at e
   have q' : oc = p.2 := Option.some.inj e
   exact d w' (by rw [← q']; exact hocd)
theorem zbK {M : Model} {A : Around} {E : Value -> Shared -> Prop} {i : Nat} {x : Str} {v : V} {u : Value} {Q : Unit -> Shared -> Prop} (I : Inv X pins σ H s) (hN : X.N.Nodup) (hi : X.N[i]? = some x) (hx : Loc X.env.scope x) (r : RelV v u)
  (h : ∀ s', Inv X pins (σ.set i (some v)) H s' -> Q () s') (hf : X.fn x = true ∨ X.env.scope.names.lookup x = some .local := by first | exact .inl rfl | exact .inr rfl | assumption) : wpAny M A (storeName X.env x u) Q E s :=
 zer I hN hi hx r (fun s' I' _ => h s' I') hf
theorem Inv.call' {s' : Shared} {ch : List Addr} (I : Inv X pins σ H s) (ho : s'.os = s.os) (u : Un (frs X.stack) ch H H' s.heap s'.heap) (hok : HOk X.prog X.w H' s'.heap) (hg : AllBare s'.gens)
  (hch : ∀ b ∈ ch, (b ∈ X.ex ∨ X.s₀.heap.objs.size <= b) /\ b ≠ X.env.locals /\ (∀ x c, X.env.cells.lookup x = some c -> c ≠ b) /\ ∀ p ∈ X.pn ++ pins, p.1 ≠ b) : Inv X pins σ H' s' := by
 obtain ⟨h', g', d', t', o'⟩ := s'
 have e : o' = s.os := ho
 subst e
 exact I.call (g' := g') (t' := t') (d' := d') u hok hg hch
end
abbrev XK := Value -> Option Addr -> Hp -> Prop
abbrev St := List (Option V)
abbrev VK := V -> Hp -> Prop
abbrev TE := St -> Hp -> VK -> Prop
abbrev TT := St -> Hp -> (Bool -> Hp -> Prop) -> Prop
abbrev TA := St -> Hp -> (List V -> Hp -> Prop) -> Prop
structure Ends where
 nx : St -> Hp -> Prop
 rt : VK
 bk : St -> Hp -> Prop := fun _ _ => False
 ct : St -> Hp -> Prop := fun _ _ => False
abbrev TS := Ends -> St -> Hp -> Prop
def EP (X : Cx) (pins : List (Addr × Obj)) (σ : St) (Q : VK) (u : Value) (s' : Shared) : Prop := ∃ v H', Inv X pins σ H' s' /\ RelV v u /\ Q v H'
def TP (X : Cx) (pins : List (Addr × Obj)) (σ : St) (Q : Bool -> Hp -> Prop) (b : Bool) (s' : Shared) : Prop := ∃ H', Inv X pins σ H' s' /\ Q b H'
def AP (X : Cx) (pins : List (Addr × Obj)) (σ : St) (Q : List V -> Hp -> Prop) (us : List Value) (s' : Shared) : Prop := ∃ vs H', Inv X pins σ H' s' /\ Vals vs us /\ Q vs H'
def SP (X : Cx) (pins : List (Addr × Obj)) (D : Ends) (f : Flow) (s' : Shared) : Prop :=
 match f with
 | .next => ∃ σ' H', Inv X pins σ' H' s' /\ D.nx σ' H'
 | .brk => ∃ σ' H', Inv X pins σ' H' s' /\ D.bk σ' H'
 | .cont => ∃ σ' H', Inv X pins σ' H' s' /\ D.ct σ' H'
 | .ret u => ∃ v σ' H', Inv X pins σ' H' s' /\ RelV v u /\ D.rt v H'
def PE (X : Cx) (e : Expr) (t : TE) : Prop :=
 ∀ (pins : List (Addr × Obj)) (s : Shared) (σ : St) (H : Hp) (Q : VK), Inv X pins σ H s -> t σ H Q -> wpAny (model X.prog X.w) X.A (eval e X.env) (EP X pins σ Q) X.xe s
def PT (X : Cx) (e : Expr) (t : TT) : Prop :=
 ∀ (pins : List (Addr × Obj)) (s : Shared) (σ : St) (H : Hp) (Q : Bool -> Hp -> Prop), Inv X pins σ H s -> t σ H Q -> wpAny (model X.prog X.w) X.A (isTrue e X.env (eval e X.env)) (TP X pins σ Q) X.xe s
def PW (X : Cx) (e : Expr) (t : TT) : Prop :=
 ∀ (whole : Sem Value) (pins : List (Addr × Obj)) (s : Shared) (σ : St) (H : Hp) (Q : Bool -> Hp -> Prop), Inv X pins σ H s -> t σ H Q -> wpAny (model X.prog X.w) X.A (isTrue e X.env whole) (TP X pins σ Q) X.xe s
theorem PW.pt {X : Cx} {e : Expr} {t : TT} (h : PW X e t) : PT X e t := h _
def PA (X : Cx) (es : List Expr) (t : TA) : Prop :=
 ∀ (pos : Pos) (pins : List (Addr × Obj)) (s : Shared) (σ : St) (H : Hp) (Q : List V -> Hp -> Prop), Inv X pins σ H s -> t σ H Q -> wpAny (model X.prog X.w) X.A (spliced (backTo pos (starEach es X.env))) (AP X pins σ Q) X.xe s
def PS (X : Cx) (st : Stmt) (t : TS) : Prop :=
 ∀ (pins : List (Addr × Obj)) (s : Shared) (σ : St) (H : Hp) (D : Ends), Inv X pins σ H s -> t D σ H -> wpAny (model X.prog X.w) X.A (exec st X.env) (SP X pins D) X.xe s
def PSs (X : Cx) (st : List Stmt) (t : TS) : Prop :=
 ∀ (pins : List (Addr × Obj)) (s : Shared) (σ : St) (H : Hp) (D : Ends), Inv X pins σ H s -> t D σ H -> wpAny (model X.prog X.w) X.A (execs st X.env) (SP X pins D) X.xe s
theorem thn {α : Type} {t : Sem α} {Q Q' : α -> Shared -> Prop} {M : Model} {A : Around} {E : Value -> Shared -> Prop} {s : Shared} (h : wpAny M A t Q E s) (hQ : ∀ a s, Q a s -> Q' a s) : wpAny M A t Q' E s := wpAny_mono h hQ fun _ _ x => x
end L2
namespace L2
open PySem PySem.Spec PyProof.Rows
section
variable {X : Cx}
def tVar (i : Nat) : TE := fun σ H Q => ∃ v, σ[i]? = some (some v) /\ Q v H
def tC (v : V) : TE := fun _ H Q => Q v H
theorem zgD {i : Nat} {x : Str} {pos : Pos} (hN : X.N[i]? = some x) (hv : Vis X.env.scope x) (hd : (x == ("__debug__" : Str)) = false := by decide) (hcd : (x == ("__classdict__" : Str)) = false := by decide) : PE X (.Name x pos) (tVar i) := by
 intro pins s σ H Q I h
 obtain ⟨v, e, h⟩ := h
 obtain ⟨m, hn, hl⟩ := I.loc
 obtain ⟨u, r, l⟩ := hl i x v hN e hv
 have fin : EP X pins σ Q u s := ⟨v, H, I, r, h⟩
 rcases l with ⟨hk, hm⟩ | ⟨hk, c, hc, hcell⟩
 ·exact wpAny_Name (wpAny_loadName_local I.ok.kind hk hn hm fin) hd
 ·rcases hk with hk | hk
  ·exact wpAny_Name (wpAny_loadName_cell I.ok.kind hk hc hcell fin) hd
  ·exact wpAny_Name (wpAny_loadName_free I.ok.kind hk hc hcell fin hcd) hd
theorem zig {i j pos} : PE X (.Constant (.int i) j pos) (tC (.int i)) := fun _ _ _ H _ I h => wpAny_Constant_int ⟨.int i, H, I.tok _, ⟨_, rfl⟩, h⟩
theorem zjL {b j pos} : PE X (.Constant (.bool b) j pos) (tC (.bl b)) := fun _ _ _ H _ I h => Constant_bool ⟨.bl b, H, I, rfl, h⟩
theorem zih {j pos} : PE X (.Constant .none j pos) (tC .non) := fun _ _ _ H _ I h => Constant_none ⟨.non, H, I, rfl, h⟩
theorem zdu {x j pos} : PE X (.Constant (.str x) j pos) (tC (.str x)) := fun _ _ _ H _ I h => Calls.Constant_str ⟨.str x, H, I.tok _, ⟨_, rfl⟩, h⟩
def Gl (X : Cx) (x : Str) : Prop := X.env.kindOf x = some .globalImplicit
theorem zbA {E : Value -> Shared -> Prop} {pins : List (Addr × Obj)} {s : Shared} {σ : St} {H : Hp} {x : Str} {u : Value} {pos : Pos} {Q : Value -> Shared -> Prop} (I : Inv X pins σ H s) (hg : Gl X x) (hm : X.mg x = some u) (h : Q u s)
  (hd : (x == ("__debug__" : Str)) = false := by decide) : wpAny (model X.prog X.w) X.A (eval (.Name x pos) X.env) Q E s :=
 Calls.Name_function_global I.ok.kind hg (Calls.loadGlobal_global (by rw [I.ok.glob]; exact I.mod.glob.keeps I.bk) hm h) hd
theorem zb8 {E : Value -> Shared -> Prop} {pins : List (Addr × Obj)} {s : Shared} {σ : St} {H : Hp} {x : Str} {u : Value} {pos : Pos} {Q : Value -> Shared -> Prop} (I : Inv X pins σ H s) (hg : Gl X x) (hm : X.mg x = none) (hv : bootBuiltins x = some u) (h : Q u s)
  (hn : x ≠ "__name__" := by decide) (hd : (x == ("__debug__" : Str)) = false := by decide) : wpAny (model X.prog X.w) X.A (eval (.Name x pos) X.env) Q E s := by
 obtain ⟨mb, h1, h2⟩ := I.mod.blt
 exact Calls.Name_function_global I.ok.kind hg (Calls.loadGlobal_builtin (by rw [I.ok.glob]; exact I.mod.glob.keeps I.bk) hm (by rw [I.ok.blt]; exact h1.keeps I.bk) ((h2 x hn).trans hv) h) hd
theorem zc9 {x : Str} {v : V} {u : Value} {pos : Pos} (hg : Gl X x) (hm : X.mg x = some u) (r : RelV v u) (hd : (x == ("__debug__" : Str)) = false := by decide) : PE X (.Name x pos) (tC v) :=
 fun _ _ _ H _ I h => zbA I hg hm ⟨v, H, I, r, h⟩ hd
theorem zes {x : Str} {v : V} {u : Value} {pos : Pos} (hg : Gl X x) (hm : X.mg x = none) (hv : bootBuiltins x = some u) (r : RelV v u) (hn : x ≠ "__name__" := by decide) (hd : (x == ("__debug__" : Str)) = false := by decide) : PE X (.Name x pos) (tC v) :=
 fun _ _ _ H _ I h => zb8 I hg hm hv ⟨v, H, I, r, h⟩ hn hd
variable {a b : Expr} {ta tb : TE} {pos : Pos}
def PC (X : Cx) (op : CmpOp) (a b : Expr) (t : TE) : Prop :=
 ∀ (pins : List (Addr × Obj)) (s : Shared) (σ : St) (H : Hp) (Q : VK), Inv X pins σ H s -> t σ H Q ->
  wpAny (model X.prog X.w) X.A (eval a X.env) (fun v s₁ => wpAny (model X.prog X.w) X.A (eval b X.env) (fun u s₂ => wpAny (model X.prog X.w) X.A (compareOp op v u) (EP X pins σ Q) X.xe s₂) X.xe s₁) X.xe s
theorem zfF (b : Expr) {op : CmpOp} (h : op ≠ .In) (h2 : op ≠ .NotIn) : behindInMarks op b = false := by
 have e1 : (op == CmpOp.In) = false := by cases op <;> first | rfl | exact absurd rfl h
 have e2 : (op == CmpOp.NotIn) = false := by cases op <;> first | rfl | exact absurd rfl h2
 cases b <;> simp [behindInMarks, e1, e2]
def tIsN (ta : TE) : TE := fun σ H Q => ta σ H fun x H1 => Q (.bl (decide (x = .non))) H1
theorem RelV.none_iff {x : V} {v : Value} (r : RelV x v) : (v == Value.none) = decide (x = .non) := by
 cases x with
 | non => cases r; rfl
 | bl _ => cases r; rfl
 | int _ => obtain ⟨t, rfl⟩ := r; rfl
 | str _ => obtain ⟨t, rfl⟩ := r; rfl
 | byt _ => obtain ⟨t, rfl⟩ := r; rfl
 | flt _ => obtain ⟨t, rfl⟩ := r; rfl
 | ref _ => cases r; rfl
 | ty _ => cases r; rfl
theorem zii {j pos'} (ha : PE X a ta) : PC X .Is a (.Constant .none j pos') (tIsN ta) := by
 intro pins s σ H Q I h
 refine thn (ha pins s σ H _ I h) fun v s1 ⟨x, H1, I1, r1, q1⟩ => ?_
 exact Constant_none (is_none_gen ⟨.bl _, H1, I1, by rw [r1.none_iff]; rfl, q1⟩)
def tB (t : TE) : TT := fun σ H Q => t σ H fun x H1 => ∃ c, x = .bl c /\ Q c H1
theorem zij {op : CmpOp} {t : TE} (h : PC X op a b t) (h1 : behindInMarks op b = false := by first | exact zfF _ (by decide) (by decide) | rfl) : PT X (.Compare a [op] [b] pos) (tB t) := by
 intro pins s σ H Q I hw
 refine wpAny_isTrue_Compare1 (thn (h pins s σ H _ I hw) fun v s1 h1 => thn h1 fun u s2 h2 => thn h2 fun c s3 ⟨x, H1, I1, r1, q1⟩ => ?_) h1
 obtain ⟨d, rfl, q⟩ := q1
 cases r1
 exact wpAny_truthy_bool ⟨H1, I1, q⟩
theorem zik {e : Expr} {t : TE} (h : PE X e t) (he : ∀ whole, isTrue e X.env whole = (do let v ← whole; standAt e.pos; holding [v] (truthy v)) := by intro _; rfl) : PT X e (tB t) := by
 intro pins s σ H Q I hw
 refine isTrue_plain (thn (h pins s σ H _ I hw) fun v s1 ⟨x, H1, I1, r1, q1⟩ => ?_) (he _)
 obtain ⟨d, rfl, q⟩ := q1
 cases r1
 exact wpAny_truthy_bool ⟨H1, I1, q⟩
variable {tA tB' : TT} {rest : List Expr}
def tAnd (t u : TT) : TT := fun σ H Q => t σ H fun c H1 => if c = true then u σ H1 Q else Q false H1
def tOr (t u : TT) : TT := fun σ H Q => t σ H fun c H1 => if c = true then Q true H1 else u σ H1 Q
def tNot (t : TT) : TT := fun σ H Q => t σ H fun c H1 => Q (!c) H1
theorem zg3 (ha : PT X a tA) : PW X (.BoolOp .And [a] pos) tA := by
 intro wh pins s σ H Q I h
 refine isTrue_and (thn (ha pins s σ H Q I h) fun c s1 e => ?_)
 cases c with
 | true => exact isTrue_and_nil e
 | false => exact e
theorem zil (ha : PT X a tA) : PW X (.BoolOp .Or [a] pos) tA := by
 intro wh pins s σ H Q I h
 refine isTrue_or (thn (ha pins s σ H Q I h) fun c s1 e => ?_)
 cases c with
 | false => exact isTrue_or_nil e
 | true => exact e
theorem zim (ha : PT X a tA) (hb : PW X (.BoolOp .And (b :: rest) pos) tB') : PW X (.BoolOp .And (a :: b :: rest) pos) (tAnd tA tB') := by
 intro wh pins s σ H Q I h
 refine isTrue_and (thn (ha pins s σ H _ I h) fun c s1 ⟨H1, I1, q1⟩ => ?_)
 cases c with
 | true => exact hb wh pins s1 σ H1 Q I1 q1
 | false => exact ⟨H1, I1, q1⟩
theorem zjM (ha : PT X a tA) (hb : PW X (.BoolOp .Or (b :: rest) pos) tB') : PW X (.BoolOp .Or (a :: b :: rest) pos) (tOr tA tB') := by
 intro wh pins s σ H Q I h
 refine isTrue_or (thn (ha pins s σ H _ I h) fun c s1 ⟨H1, I1, q1⟩ => ?_)
 cases c with
 | true => exact ⟨H1, I1, q1⟩
 | false => exact hb wh pins s1 σ H1 Q I1 q1
theorem zin (ha : PT X a tA) : PT X (.UnaryOp .Not a pos) (tNot tA) := by
 intro pins s σ H Q I h
 exact isTrue_not (ha pins s σ H (fun c H1 => Q (!c) H1) I h)
def zjN (ta tb : TE) : TE := fun σ H Q => ta σ H fun x H1 => ∃ c, x = .bl c /\ if c = true then tb σ H1 Q else Q (.bl false) H1
def tOrV (ta tb : TE) : TE := fun σ H Q => ta σ H fun x H1 => ∃ c, x = .bl c /\ if c = true then Q (.bl true) H1 else tb σ H1 Q
theorem zio {op} {t : TE} (h : PE X a t) : PE X (.BoolOp op [a] pos) t := fun pins s σ H Q I hw => BoolOp_one (h pins s σ H Q I hw)
theorem ziq (ha : PE X a ta) (hb : PE X (.BoolOp .And (b :: rest) pos) tb) : PE X (.BoolOp .And (a :: b :: rest) pos) (zjN ta tb) := by
 intro pins s σ H Q I h
 refine BoolOp_and (thn (ha pins s σ H _ I h) fun v s1 ⟨x, H1, I1, r1, q1⟩ => ?_)
 obtain ⟨c, rfl, q1⟩ := q1
 cases r1
 refine wpAny_truthy_bool ?_
 cases c with
 | true => exact hb pins s1 σ H1 Q I1 q1
 | false => exact ⟨.bl false, H1, I1, rfl, q1⟩
theorem zjO (ha : PE X a ta) (hb : PE X (.BoolOp .Or (b :: rest) pos) tb) : PE X (.BoolOp .Or (a :: b :: rest) pos) (tOrV ta tb) := by
 intro pins s σ H Q I h
 refine BoolOp_or (thn (ha pins s σ H _ I h) fun v s1 ⟨x, H1, I1, r1, q1⟩ => ?_)
 obtain ⟨c, rfl, q1⟩ := q1
 cases r1
 refine wpAny_truthy_bool ?_
 cases c with
 | false => exact hb pins s1 σ H1 Q I1 q1
 | true => exact ⟨.bl true, H1, I1, rfl, q1⟩
end
end L2
namespace L2
open PySem PySem.Spec PyProof.Rows
def SqL (K : PySem.W.Frag) (H : Hp) (a : Addr) (xs : List V) : Prop :=
 Rd H a (.lst xs) ∨
  ∃ (o : Obj) (its : Array Value) (n : Nat), K.lookup a = some o /\ o.cls = .type "list" /\ o.dict = none /\ o.data = .seq its n /\ its.size <= sizeLine /\ Vals xs its.toList
def SqT (K : PySem.W.Frag) (H : Hp) (a : Addr) (xs : List V) : Prop :=
 Rd H a (.tup xs) ∨
  ∃ (o : Obj) (its : Array Value) (n : Nat), K.lookup a = some o /\ o.cls = .type "tuple" /\ o.data = .seq its n /\ its.size <= sizeLine /\ Vals xs its.toList
def absV : Value -> Option V
 | .none => some .non
 | .bool b => some (.bl b)
 | .int i _ => some (.int i)
 | .str x _ => some (.str x)
 | .bytes b _ => some (.byt b)
 | .float b _ => some (.flt b)
 | .ref a => some (.ref a)
 | .type n => some (.ty n)
 | _ => none
theorem RelV.abs {x : V} {u : Value} (r : RelV x u) : absV u = some x := by
 cases x with
 | non => cases r; rfl
 | bl _ => cases r; rfl
 | int _ => obtain ⟨t, rfl⟩ := r; rfl
 | str _ => obtain ⟨t, rfl⟩ := r; rfl
 | byt _ => obtain ⟨t, rfl⟩ := r; rfl
 | flt _ => obtain ⟨t, rfl⟩ := r; rfl
 | ref _ => cases r; rfl
 | ty _ => cases r; rfl
theorem RelV.inj {x y : V} {u : Value} (r : RelV x u) (q : RelV y u) : x = y := Option.some.inj (r.abs.symm.trans q.abs)
theorem Vals.inj : ∀ {xs ys : List V} {us : List Value}, Vals xs us -> Vals ys us -> xs = ys
 | _, _, _, .nil, .nil => rfl
 | _, _, _, .cons r t, .cons r' t' => by rw [r.inj r', Vals.inj t t']
section
variable {X : Cx} {pins : List (Addr × Obj)} {σ : St} {H : Hp} {s : Shared} {a : Addr} {xs ys : List V}
theorem SqL.of {K : PySem.W.Frag} (h : H a = some (.lst xs)) : SqL K H a xs := .inl (.inl h)
theorem SqT.of {K : PySem.W.Frag} (h : H a = some (.tup xs)) : SqT K H a xs := .inl (.inl h)
theorem Inv.list (I : Inv X pins σ H s) (h : SqL X.K H a xs) : ∃ its : List Value, Vals xs its /\ PlainL s.heap a its.toArray /\ xs.length <= sizeLine := by
 rcases h with h | ⟨o, its, n, hk, hc, hd, hs, hz, r⟩
 ·obtain ⟨z, its, n, r, e⟩ := h.ok I.hok
  exact ⟨its, r, ⟨_, n, e, rfl, rfl, rfl⟩, z⟩
 ·refine ⟨its.toList, r, ⟨o, n, I.kIn a o hk, hc, hd, by simpa using hs⟩, ?_⟩
  have e := r.length
  simp only [Array.length_toList] at e
  omega
theorem Inv.tuple (I : Inv X pins σ H s) (h : SqT X.K H a xs) : ∃ its : List Value, Vals xs its /\ IsTup s.heap a its.toArray /\ xs.length <= sizeLine := by
 rcases h with h | ⟨o, its, n, hk, hc, hs, hz, r⟩
 ·obtain ⟨z, its, r, p⟩ := h.ok I.hok
  exact ⟨its, r, p, z⟩
 ·refine ⟨its.toList, r, ⟨o, I.kIn a o hk, hc, n, by simpa using hs⟩, ?_⟩
  have e := r.length
  simp only [Array.length_toList] at e
  omega
theorem Inv.list_inj (I : Inv X pins σ H s) (h : SqL X.K H a xs) (h' : SqL X.K H a ys) : xs = ys := by
 obtain ⟨its, r, ⟨o, n, e, _, _, d⟩, _⟩ := I.list h
 obtain ⟨its', r', ⟨o', n', e', _, _, d'⟩, _⟩ := I.list h'
 rw [e] at e'; cases e'
 rw [d] at d'
 injection d' with d1 _
 have : its = its' := by simpa using congrArg Array.toList d1
 subst this
 exact r.inj r'
theorem Inv.tuple_inj (I : Inv X pins σ H s) (h : SqT X.K H a xs) (h' : SqT X.K H a ys) : xs = ys := by
 obtain ⟨its, r, ⟨o, e, _, n, d⟩, _⟩ := I.tuple h
 obtain ⟨its', r', ⟨o', e', _, n', d'⟩, _⟩ := I.tuple h'
 rw [e] at e'; cases e'
 rw [d] at d'
 injection d' with d1 _
 have : its = its' := by simpa using congrArg Array.toList d1
 subst this
 exact r.inj r'
end
abbrev Cx.wish (X : Cx) (E : Value -> Shared -> Prop) : Cx := { X with xe := E }
abbrev Cx.nox (X : Cx) : Cx := X.wish fun _ _ => False
theorem Cx.Ok.wish {X : Cx} (ok : X.Ok) (E : Value -> Shared -> Prop) : (X.wish E).Ok :=
 ⟨ok.mod, ok.kind, ok.glob, ok.blt, ok.above, ok.inj, ok.has, ok.cab, ok.hd, ok.frames, ok.stk, ok.exf, ok.bs, ok.bsz, ok.noex, ok.exfs, ok.funs, ok.frf⟩
theorem Cx.Ok.unwish {X : Cx} {E : Value -> Shared -> Prop} (ok : (X.wish E).Ok) : X.Ok :=
 ⟨ok.mod, ok.kind, ok.glob, ok.blt, ok.above, ok.inj, ok.has, ok.cab, ok.hd, ok.frames, ok.stk, ok.exf, ok.bs, ok.bsz, ok.noex, ok.exfs, ok.funs, ok.frf⟩
section
variable {X : Cx} {pins : List (Addr × Obj)} {σ : St} {H : Hp} {s : Shared} {E : Value -> Shared -> Prop}
theorem Inv.wish (I : Inv X pins σ H s) (E : Value -> Shared -> Prop) : Inv (X.wish E) pins σ H s := ⟨I.ok.wish E, I.os, I.bare, I.base, I.loc, I.cell, I.free, I.freeC, I.pin, I.hok, I.len⟩
theorem Inv.unwish (I : Inv (X.wish E) pins σ H s) : Inv X pins σ H s := ⟨I.ok.unwish, I.os, I.bare, I.base, I.loc, I.cell, I.free, I.freeC, I.pin, I.hok, I.len⟩
theorem SP.unwish {D : Ends} {f : Flow} {s' : Shared} (h : SP (X.wish E) pins D f s') : SP X pins D f s' := by
 cases f with
 | next => obtain ⟨σ', H', I, q⟩ := h; exact ⟨σ', H', I.unwish, q⟩
 | brk => obtain ⟨σ', H', I, q⟩ := h; exact ⟨σ', H', I.unwish, q⟩
 | cont => obtain ⟨σ', H', I, q⟩ := h; exact ⟨σ', H', I.unwish, q⟩
 | ret u => obtain ⟨v, σ', H', I, r, q⟩ := h; exact ⟨v, σ', H', I.unwish, r, q⟩
theorem PSs.nox {st : List Stmt} {t : TS} (h : PSs X.nox st t) : PSs X st t := fun pins s σ H D I hw =>
 wpAny_mono (h pins s σ H D (I.wish _) hw) (fun _ _ q => q.unwish) fun _ _ z => False.elim z
end
section
variable {X : Cx} {st : Stmt} {rest : List Stmt} {t u : TS} {e : Expr} {te : TE} {pos : Pos}
def zjP : TS := fun D σ H => D.nx σ H
def tSeq (t u : TS) : TS := fun D σ H => t { D with nx := u D } σ H
theorem zg4 : PSs X [] zjP := fun _ _ σ H _ I h => wpAny_execs_nil ⟨σ, H, I, h⟩
theorem zbL (h1 : PS X st t) (h2 : PSs X rest u) : PSs X (st :: rest) (tSeq t u) := by
 intro pins s σ H D I h
 refine wpAny_execs_cons (thn (h1 pins s σ H { D with nx := u D } I h) fun f s1 q => ?_)
 cases f with
 | next =>
  obtain ⟨σ', H', I', q⟩ := q
  exact h2 pins s1 σ' H' D I' q
 | ret v => exact q
 | brk => exact q
 | cont => exact q
theorem zci (h1 : PS X st t) : PSs X [st] t := by
 intro pins s σ H D I h
 refine wpAny_execs_cons (thn (h1 pins s σ H D I h) fun f s1 q => ?_)
 cases f with
 | next => exact wpAny_execs_nil q
 | ret v => exact q
 | brk => exact q
 | cont => exact q
theorem Inv.quiet {pins : List (Addr × Obj)} {σ : St} {H : Hp} {s : Shared} (I : Inv X pins σ H s) : interactive X.env = false := by simp [interactive, I.ok.kind]
def zfG (te : TE) : TS := fun D σ H => te σ H fun _ H1 => D.nx σ H1
theorem zbO (he : PE X e te) (hs : swapsWith e none pos.line X.env = pure false := by rfl) : PS X (.Expr e pos) (zfG te) := by
 intro pins s σ H D I h
 exact wpAny_Expr_any (thn (he pins s σ H _ I h) fun v s1 ⟨x, H1, I1, r1, q1⟩ => ⟨σ, H1, I1, q1⟩) I.quiet hs
def tRet (te : TE) : TS := fun D σ H => te σ H D.rt
theorem zir (he : PE X e te) : PS X (.Return (some e) pos) (tRet te) := by
 intro pins s σ H D I h
 exact wpAny_Return_some (thn (he pins s σ H _ I h) fun v s1 ⟨x, H1, I1, r1, q1⟩ => ⟨x, σ, H1, I1, r1, q1⟩)
def tIfS (c : TT) (t u : TS) : TS := fun D σ H => c σ H fun b H1 => if b = true then t D σ H1 else u D σ H1
theorem zjQ {c : Expr} {a b : List Stmt} {tc : TT} (hc : PT X c tc) (ha : PSs X a t) (hb : PSs X b u) : PS X (.If c a b pos) (tIfS tc t u) := by
 intro pins s σ H D I h
 refine wpAny_If (thn (hc pins s σ H _ I h) fun d s1 ⟨H1, I1, q1⟩ => ?_)
 cases d with
 | true => exact ha pins s1 σ H1 D I1 q1
 | false => exact hb pins s1 σ H1 D I1 q1
end
abbrev TG := V -> St -> Hp -> (St -> Hp -> Prop) -> Prop
abbrev TGs := List V -> St -> Hp -> (St -> Hp -> Prop) -> Prop
def PG (X : Cx) (target : Expr) (t : TG) : Prop :=
 ∀ (pins : List (Addr × Obj)) (s : Shared) (σ : St) (H : Hp) (v : V) (u : Value) (Q : St -> Hp -> Prop), Inv X pins σ H s -> RelV v u -> t v σ H Q ->
  wpAny (model X.prog X.w) X.A (assign target X.env u) (fun _ s' => ∃ σ' H', Inv X pins σ' H' s' /\ Q σ' H') X.xe s
def PGs (X : Cx) (ts : List Expr) (t : TGs) : Prop :=
 ∀ (pins : List (Addr × Obj)) (s : Shared) (σ : St) (H : Hp) (vs : List V) (us : List Value) (Q : St -> Hp -> Prop), Inv X pins σ H s -> Vals vs us -> t vs σ H Q ->
  wpAny (model X.prog X.w) X.A (assignInOrder ((assignEach ts X.env).map (·.2)) us) (fun _ s' => ∃ σ' H', Inv X pins σ' H' s' /\ Q σ' H') X.xe s
section
variable {X : Cx} {pos : Pos}
def zg5 (i : Nat) : TG := fun v σ H Q => Q (σ.set i (some v)) H
theorem zbP {i : Nat} {x : Str} (hN : X.N.Nodup) (hi : X.N[i]? = some x) (hx : Loc X.env.scope x) (hf : X.fn x = true ∨ X.env.scope.names.lookup x = some .local := by first | exact .inl rfl | exact .inr rfl | assumption) : PG X (.Name x pos) (zg5 i) := by
 intro pins s σ H v u Q I r h
 exact wpAny_assign_Name (zbK I hN hi hx r (fun s' I' => ⟨_, H, I', h⟩) hf)
def gNil : TGs := fun vs σ H Q => vs = [] /\ Q σ H
def zjR (t : TG) (u : TGs) : TGs := fun vs σ H Q => ∃ v r, vs = v :: r /\ t v σ H fun σ' H' => u r σ' H' Q
theorem zg6 : PGs X [] gNil := by
 intro pins s σ H vs us Q I r h
 obtain ⟨e, h⟩ := h
 subst e
 cases r
 exact assignInOrder_nil ⟨σ, H, I, h⟩
theorem zfH {e : Expr} {es : List Expr} {t : TG} {u : TGs} (h1 : PG X e t) (h2 : PGs X es u)
  (hs : (assignEach (e :: es) X.env).map (·.2) = assign e X.env :: (assignEach es X.env).map (·.2) := by rfl) : PGs X (e :: es) (zjR t u) := by
 intro pins s σ H vs us Q I r h
 obtain ⟨v, vr, e1, h⟩ := h
 subst e1
 cases r with
 | cons r rr =>
  rw [hs]
  refine assignInOrder_cons (thn (h1 pins s σ H _ _ _ I r h) fun _ s1 ⟨σ1, H1, I1, q1⟩ => ?_)
  exact h2 pins s1 σ1 H1 _ _ Q I1 rr q1
def gTup (K : PySem.W.Frag) (n : Nat) (t : TGs) : TG := fun v σ H Q => ∃ a xs, v = .ref a /\ SqT K H a xs /\ xs.length = n /\ t xs σ H Q
theorem zis {es : List Expr} {k : Nat} {t : TGs} {n : Nat} (hc : X.calm = true) (h : PGs X es t)
  (hn : (assignEach es X.env).length = n := by rfl) (hst : (assignEach es X.env).findIdx? (·.1) = none := by rfl) : PG X (.Tuple es k pos) (gTup X.K n t) := by
 intro pins s σ H v u Q I r hw
 obtain ⟨a, xs, e1, hq, hl, hw⟩ := hw
 subst e1
 cases r
 obtain ⟨its, rv, ht, hz⟩ := I.tuple hq
 refine assign_Tuple_tuple (I.ok.hd hc) ht (by simp [hn, ← hl, rv.length]) hst fun h' hx => ?_
 have I1 : Inv X pins σ H { s with heap := h' } := I.kept (t' := s.toks) fun b o e => hx b o (Nat.ne_of_lt (Heap.lt_size e)) e
 exact h pins _ σ H xs _ Q I1 (by simpa using rv) hw
def tAsg (te : TE) (g : TG) : TS := fun D σ H => te σ H fun x H1 => g x σ H1 D.nx
theorem zgE {i : Nat} {x : Str} {e : Expr} {te : TE} {pos' : Pos} (hN : X.N.Nodup) (hi : X.N[i]? = some x) (hx : Loc X.env.scope x) (he : PE X e te) (hs : swapsWith e (some (.Name x pos')) pos.line X.env = pure false := by rfl) (hf : X.fn x = true ∨ X.env.scope.names.lookup x = some .local := by first | exact .inl rfl | exact .inr rfl | assumption) :
  PS X (.Assign [.Name x pos'] e pos) (tAsg te (zg5 i)) := by
 intro pins s σ H D I h
 refine wpAny_Assign_Name (thn (he pins s σ H _ I h) fun v s1 ⟨y, H1, I1, r1, q1⟩ => ?_) hs
 exact zbK I1 hN hi hx r1 (fun s2 I2 => ⟨_, H1, I2, q1⟩) hf
end
section
variable {X : Cx} {pos : Pos}
end
structure It where
 go : Nat -> Hp -> Prop
 yld : Nat -> Hp -> V -> Hp -> Prop
 stop : Nat -> Hp -> Prop
def FpOk (X : Cx) (pins : List (Addr × Obj)) (H : Hp) (b : Addr) : Prop :=
 H b = none /\ b ≠ X.env.locals /\ b ∉ X.fs /\ (b ∈ X.ex ∨ X.s₀.heap.objs.size <= b) /\ (∀ x c, X.env.cells.lookup x = some c -> c ≠ b) /\ ∀ p ∈ X.pn ++ pins, p.1 ≠ b
theorem Inv.fpOk {X : Cx} {pins : List (Addr × Obj)} {σ : St} {H H' : Hp} {s : Shared} {b : Addr} (I : Inv X pins σ H s) (hb : s.heap.objs.size <= b) (hn : H' b = none) : FpOk X pins H' b := by
 refine ⟨hn, Nat.ne_of_gt (Nat.lt_of_lt_of_le I.lt hb), I.nofs hb, .inr (Nat.le_trans I.sz hb), fun x c e z => ?_, fun p hp z => ?_⟩
 ·obtain ⟨v, q⟩ := I.cell x c e
  exact absurd (Nat.lt_of_lt_of_le q.lt (by rw [z]; exact hb)) (Nat.lt_irrefl _)
 ·exact absurd (Nat.lt_of_lt_of_le (Heap.lt_size (I.pin p hp).1) (by rw [z]; exact hb)) (Nat.lt_irrefl _)
structure Turn (P : Program) (w : World) (K : PySem.W.Frag) (tg : Expr) (J : It) (fp : List Addr) (it : Addr) (tn : Nat -> Heap -> Prop) : Prop where
 mem : it ∈ fp
 obj : ∀ i h, tn i h -> ∀ b ∈ fp, ∃ o, h.get? b = some o /\ ∀ v, o.data ≠ .cell v
 keep : ∀ i h h', tn i h -> (∀ b ∈ fp, ∀ o, h.get? b = some o -> h'.get? b = some o) -> tn i h'
 item : ∀ (X : Cx), X.prog = P -> X.w = w -> X.K = K -> X.calm = true -> ∀ (i : Nat) (pins : List (Addr × Obj)) (s : Shared) (σ : St) (H : Hp) (E : Value -> Shared -> Prop), Inv X pins σ H s -> (∀ b ∈ fp, FpOk X pins H b) -> tn i s.heap -> J.go i H ->
  wpAny (model P w) X.A (pyNext (.ref it)) (fun r s1 => ∃ u, r = some u /\
   wpAny (model P w) X.A (letOwnedTupleGo tg (.ref it) u) (fun _ s2 => ∃ x H', Inv X pins σ H' s2 /\ RelV x u /\ J.yld i H x H' /\ tn (i + 1) s2.heap /\ ∀ b ∈ fp, H' b = none) E s1) E s
 done : ∀ (X : Cx), X.prog = P -> X.w = w -> X.K = K -> X.calm = true -> ∀ (i : Nat) (pins : List (Addr × Obj)) (s : Shared) (σ : St) (H : Hp) (E : Value -> Shared -> Prop), Inv X pins σ H s -> (∀ b ∈ fp, FpOk X pins H b) -> tn i s.heap -> J.stop i H ->
  wpAny (model P w) X.A (pyNext (.ref it)) (fun r s1 => r = none /\ Inv X pins σ H s1) E s
 self : ∀ (A : Around) (i : Nat) (s : Shared) (Q : Value -> Shared -> Prop) (E : Value -> Shared -> Prop), tn i s.heap -> Q (.ref it) s -> wpAny (model P w) A (pyIter (.ref it)) Q E s
abbrev TI := St -> Hp -> (It -> Hp -> Prop) -> Prop
def PIE (X : Cx) (pins : List (Addr × Obj)) (σ : St) (tg : Expr) (R : It -> Hp -> Prop) (itv : Value) (s2 : Shared) : Prop :=
 ∃ (it : Addr) (fp : List Addr) (tn : Nat -> Heap -> Prop) (J : It) (H' : Hp), itv = .ref it /\ Inv X pins σ H' s2 /\ Turn X.prog X.w X.K tg J fp it tn /\ tn 0 s2.heap /\ (∀ b ∈ fp, FpOk X pins H' b) /\ R J H'
def PI (X : Cx) (tg iter : Expr) (wi : TI) : Prop :=
 ∀ (pins : List (Addr × Obj)) (s : Shared) (σ : St) (H : Hp) (R : It -> Hp -> Prop), Inv X pins σ H s -> wi σ H R ->
  wpAny (model X.prog X.w) X.A (eval iter X.env) (fun v s1 => wpAny (model X.prog X.w) X.A (pyIter v) (PIE X pins σ tg R) X.xe s1) X.xe s
theorem zfI {M : Model} {A : Around} {E : Value -> Shared -> Prop} {s : Shared} {tg : Expr} {it : Addr} {u : Value} {o : Obj} {n : String} {vs : Array Value} {Q : Unit -> Shared -> Prop} (ho : s.heap.get? it = some o) (hc : o.cls = .type n) (hd : o.data = .fields vs)
  (hn : ["enumerate", "zip", "dict_itemiterator", "dict_reverseitemiterator", "odict_iterator", "itertools.zip_longest", "itertools.pairwise"].contains n = false) (hQ : Q () s) : wpAny M A (letOwnedTupleGo tg (.ref it) u) Q E s := by
 unfold letOwnedTupleGo
 cases tg <;> first
  | exact wpAny_pure hQ
  | (cases u <;> first
    | exact wpAny_pure hQ
    | (
      refine wpAny_bind (wpAny_load ho ?_)
      rw [hc, hd]
      show wpAny M A (if (["enumerate", "zip", "dict_itemiterator", "dict_reverseitemiterator", "odict_iterator", "itertools.zip_longest", "itertools.pairwise"].contains n && vs[0]? == some (rawInt _)) = true then _ else _) Q E s
      rw [if_neg (by intro h; rw [hn, Bool.false_and] at h; cases h)]
      exact wpAny_pure hQ))
def Itl (K : PySem.W.Frag) (a : Addr) : It :=
 ⟨fun i H => ∃ xs x, SqL K H a xs /\ xs[i]? = some x, fun i H x H' => H' = H /\ ∀ xs, SqL K H a xs -> xs[i]? = some x, fun i H => ∃ xs, SqL K H a xs /\ xs.length <= i⟩
def Itt (K : PySem.W.Frag) (a : Addr) : It :=
 ⟨fun i H => ∃ xs x, SqT K H a xs /\ xs[i]? = some x, fun i H x H' => H' = H /\ ∀ xs, SqT K H a xs -> xs[i]? = some x, fun i H => ∃ xs, SqT K H a xs /\ xs.length <= i⟩
def Itr (lo : Int) (n : Nat) : It := ⟨fun i _ => i < n, fun i H x H' => H' = H /\ x = .int (lo + i), fun i _ => n <= i⟩
theorem zet {P : Program} {w : World} {K : PySem.W.Frag} {tg : Expr} (a it : Addr) : Turn P w K tg (Itl K a) [it] it (fun i h => h.IsListIter it a i) where
 mem := by simp
 obj := fun i h st b hb => by
  have e : b = it := by simpa using hb
  subst e
  obtain ⟨o, e, c, d⟩ := st
  exact ⟨o, e, fun v z => by rw [d] at z; cases z⟩
 keep := fun i h h' st k => st.at fun o e => k it (by simp) o e
 item := by
  intro X hP hw hK hc i pins s σ H E I hf st hg
  subst hP hw hK
  obtain ⟨xs, x, hq, hx⟩ := hg
  obtain ⟨its, rv, p, hz⟩ := I.list hq
  obtain ⟨u, hu, ru⟩ := rv.get hx
  obtain ⟨f0, f1, f2, f3, f4, f5⟩ := hf it (by simp)
  refine wpAny_pyNext_list_item st p.isList (x := u) (by simpa using hu) fun h' st' sb => ?_
  have I1 : Inv X pins σ H { s with heap := h' } := I.turned (t' := s.toks) (fun b o hb e => (sb.2 b hb).trans e) f0 f1 f3 f4 f5
  obtain ⟨o, e, c, d⟩ := id st'
  exact ⟨u, rfl, zfI (s := { s with heap := h' }) e c d (by decide) ⟨x, H, I1, ru, ⟨rfl, fun ys hy => by rw [I.list_inj hy hq]; exact hx⟩, st', fun b hb => (hf b hb).1⟩⟩
 done := by
  intro X hP hw hK hc i pins s σ H E I hf st hg
  subst hP hw hK
  obtain ⟨xs, hq, hx⟩ := hg
  obtain ⟨its, rv, p, hz⟩ := I.list hq
  obtain ⟨f0, f1, f2, f3, f4, f5⟩ := hf it (by simp)
  have hl := rv.length
  exact wpAny_pyNext_list_end (I.ok.hd hc) st p.isList (by simp; omega) fun h' eb => ⟨rfl, I.turned (t' := s.toks) (fun b o hb e => eb b o hb e) f0 f1 f3 f4 f5⟩
 self := fun _ _ _ _ _ st h => wpAny_pyIter_listiter st h
theorem zdV {P : Program} {w : World} {K : PySem.W.Frag} {tg : Expr} (a it : Addr) : Turn P w K tg (Itt K a) [it] it (fun i h => h.IsTupleIter it a i) where
 mem := by simp
 obj := fun i h st b hb => by
  have e : b = it := by simpa using hb
  subst e
  obtain ⟨o, e, c, d⟩ := st
  exact ⟨o, e, fun v z => by rw [d] at z; cases z⟩
 keep := fun i h h' st k => st.at fun o e => k it (by simp) o e
 item := by
  intro X hP hw hK hc i pins s σ H E I hf st hg
  subst hP hw hK
  obtain ⟨xs, x, hq, hx⟩ := hg
  obtain ⟨its, rv, p, hz⟩ := I.tuple hq
  obtain ⟨u, hu, ru⟩ := rv.get hx
  obtain ⟨f0, f1, f2, f3, f4, f5⟩ := hf it (by simp)
  refine wpAny_pyNext_tuple_item st (show s.heap.IsTuple a its.toArray from p) (x := u) (by simpa using hu) fun h' st' sb => ?_
  have I1 : Inv X pins σ H { s with heap := h' } := I.turned (t' := s.toks) (fun b o hb e => (sb.2 b hb).trans e) f0 f1 f3 f4 f5
  obtain ⟨o, e, c, d⟩ := id st'
  exact ⟨u, rfl, zfI (s := { s with heap := h' }) e c d (by decide) ⟨x, H, I1, ru, ⟨rfl, fun ys hy => by rw [I.tuple_inj hy hq]; exact hx⟩, st', fun b hb => (hf b hb).1⟩⟩
 done := by
  intro X hP hw hK hc i pins s σ H E I hf st hg
  subst hP hw hK
  obtain ⟨xs, hq, hx⟩ := hg
  obtain ⟨its, rv, p, hz⟩ := I.tuple hq
  obtain ⟨f0, f1, f2, f3, f4, f5⟩ := hf it (by simp)
  have hl := rv.length
  exact wpAny_pyNext_tuple_end (I.ok.hd hc) st (show s.heap.IsTuple a its.toArray from p) (by simp; omega) fun h' eb => ⟨rfl, I.turned (t' := s.toks) (fun b o hb e => eb b o hb e) f0 f1 f3 f4 f5⟩
 self := fun _ _ _ _ _ st h => wpAny_pyIter_tupleiter st h
theorem zdW {P : Program} {w : World} {K : PySem.W.Frag} {tg : Expr} (it : Addr) (lo : Int) (n : Nat) : Turn P w K tg (Itr lo n) [it] it (fun i h => IsRangeIter h it (lo + (i : Nat) * 1) ((n : Int) - (i : Nat)) 1) where
 mem := by simp
 obj := fun i h st b hb => by
  have e : b = it := by simpa using hb
  subst e
  exact ⟨_, st, fun v z => by
   have z' : Data.fields _ = Data.cell v := z
   cases z'⟩
 keep := fun i h h' st k => k it (by simp) _ st
 item := by
  intro X hP hw hK hc i pins s σ H E I hf st hg
  subst hP hw hK
  obtain ⟨f0, f1, f2, f3, f4, f5⟩ := hf it (by simp)
  have W := Walks.range (prog := X.prog) (w := X.w) (I.ok.hd hc) it lo 1 n
  refine W.item i s _ _ hg st fun v h' tk hv st' kk => ?_
  obtain ⟨t, rfl⟩ := hv
  have I1 : Inv X pins σ H { s with heap := h', toks := tk } := I.turned (fun b o hb e => kk b o (by simpa using hb) e) f0 f1 f3 f4 f5
  refine ⟨_, rfl, zfI (s := { s with heap := h', toks := tk }) (n := "range_iterator") st' rfl rfl (by decide) ⟨.int (lo + i), H, I1, ⟨t, ?_⟩, ⟨rfl, rfl⟩, st', fun b hb => (hf b hb).1⟩⟩
  rw [Int.mul_one]
 done := by
  intro X hP hw hK hc i pins s σ H E I hf st hg
  subst hP hw hK
  obtain ⟨f0, f1, f2, f3, f4, f5⟩ := hf it (by simp)
  exact wpAny_pyNext_range_end (I.ok.hd hc) st (by have : n <= i := hg; omega) fun h' eb => ⟨rfl, I.turned (t' := s.toks) (fun b o hb e => eb b o hb e) f0 f1 f3 f4 f5⟩
 self := fun _ _ _ _ _ st h => wpAny_pyIter_rangeiter st h
end L2
namespace L2
open PySem PySem.Spec PyProof.Rows
section
variable {X : Cx} {tg : Expr}
theorem zfJ {pins : List (Addr × Obj)} {σ : St} {H : Hp} {s : Shared} {R : It -> Hp -> Prop} {E : Value -> Shared -> Prop} {lo hi : Int} {t u v : Tok} {tk : Nat} (I : Inv X pins σ H s) (h1 : -(2 ^ 62) <= lo) (h2 : lo < 2 ^ 62) (h3 : -(2 ^ 62) <= hi) (h4 : hi < 2 ^ 62)
  (q : R (Itr lo (hi - lo).toNat) H) : wpAny (model X.prog X.w) X.A (pyIter (.ref s.heap.objs.size)) (PIE X pins σ tg R) E { s with heap := s.heap.push { cls := .type "range", data := .fields #[.int lo t, .int hi u, .int 1 v] }, toks := tk } := by
 refine wpAny_pyIter_range (IsRange.new ..) (small_one h1 h2 h3 h4) ?_
 have I1 : Inv X pins σ H { s with heap := s.heap.push { cls := .type "range", data := .fields #[.int lo t, .int hi u, .int 1 v] }, toks := tk } := I.kept fun b o e => Heap.get?_push_of_some _ e
 refine ⟨(s.heap.push { cls := .type "range", data := .fields #[.int lo t, .int hi u, .int 1 v] }).objs.size, [(s.heap.push { cls := .type "range", data := .fields #[.int lo t, .int hi u, .int 1 v] }).objs.size], _, _, H, rfl,
  I1.kept (t' := tk) fun b o e => Heap.get?_push_of_some _ e, zdW _ lo (hi - lo).toNat, ?_, fun b hb => ?_, q⟩
 ·have e1 : lo + ((0 : Nat) : Int) * 1 = lo := by simp
  have e2 : (((hi - lo).toNat : Nat) : Int) - ((0 : Nat) : Int) = Builtin.Range.rangeSize lo hi 1 := by rw [rangeSize_one]; split <;> omega
  show IsRangeIter _ _ (lo + ((0 : Nat) : Int) * 1) ((((hi - lo).toNat : Nat) : Int) - ((0 : Nat) : Int)) 1
  rw [e1, e2]
  exact Heap.get?_push_size _ rfl
 ·have e : b = (s.heap.push { cls := .type "range", data := .fields #[.int lo t, .int hi u, .int 1 v] }).objs.size := by simpa using hb
  subst e
  exact I1.fpOk (Nat.le_refl _) (I1.hok.fresh (Nat.le_refl _))
def zjS (ta : TA) : TI := fun σ H R => ta σ H fun vs H1 => ∃ j : Int, vs = [.int j] /\ -(2 ^ 62) <= j /\ j < 2 ^ 62 /\ R (Itr 0 j.toNat) H1
theorem zeu {a : Expr} {ta : TA} {p pos : Pos} (hg : Gl X "range") (hm : X.mg "range" = none) (ha : PA X [a] ta) (hs : starEach [a] X.env = [(false, eval a X.env)] := by rfl) : PI X tg (.Call (.Name "range" p) [a] [] pos) (zjS ta) := by
 intro pins s σ H R I h
 refine Call_ (zb8 I hg hm boot_range (PyProof.Rows.callWith_type1 (thn (ha pos pins s σ H _ I h) fun us s1 ⟨vs, H1, I1, r1, q1⟩ => ?_) hs rfl))
 obtain ⟨j, e, q1, q2, q⟩ := q1
 subst e
 cases r1 with
 | cons r rr =>
  cases rr
  obtain ⟨t, rfl⟩ := r
  exact call_range_1 (zfJ I1 (by omega) (by omega) q1 q2 (by simpa using q))
def tFor (wi : TI) (g : TG) (tb : TS) : TS := fun D σ H => wi σ H fun J H1 => ∃ W : Nat -> Nat -> St -> Hp -> Prop, (∃ m, W 0 m σ H1) /\ ∀ i m σ H, W i m σ H ->
 (J.stop i H /\ D.nx σ H) ∨ (J.go i H /\ ∃ N : St -> Hp -> Prop, (∀ σ' H', N σ' H' -> ∃ m', m' < m /\ W (i + 1) m' σ' H') /\ ∀ x H', J.yld i H x H' -> g x σ H' fun σ2 H2 => tb { D with nx := N, ct := N, bk := D.nx } σ2 H2)
def zcB (fp : List Addr) (h : Heap) : List (Addr × Obj) := fp.filterMap fun b => (h.get? b).map fun o => (b, o)
theorem zbg {fp : List Addr} {h : Heap} {b : Addr} {o : Obj} (hb : b ∈ fp) (e : h.get? b = some o) : (b, o) ∈ zcB fp h := List.mem_filterMap.mpr ⟨b, hb, by rw [e]; rfl⟩
theorem zev {fp : List Addr} {h : Heap} {p : Addr × Obj} (hp : p ∈ zcB fp h) : p.1 ∈ fp /\ h.get? p.1 = some p.2 := by
 obtain ⟨b, hb, e⟩ := List.mem_filterMap.mp hp
 cases q : h.get? b with
 | none => rw [q] at e; cases e
 | some o =>
  rw [q] at e
  have e' : (b, o) = p := Option.some.inj e
  subst e'
  exact ⟨hb, q⟩
theorem Inv.pinned {pins : List (Addr × Obj)} {σ : St} {H : Hp} {s : Shared} {fp : List Addr} (I : Inv X pins σ H s) (hf : ∀ b ∈ fp, FpOk X pins H b) (ho : ∀ b ∈ fp, ∃ o, s.heap.get? b = some o /\ ∀ v, o.data ≠ .cell v) : Inv X (pins ++ zcB fp s.heap) σ H s :=
 I.pins_of fun p hp => (List.mem_append.mp hp).elim (fun z => I.pin p (List.mem_append_right _ z)) fun z => by
  obtain ⟨hb, e⟩ := zev z
  obtain ⟨f0, f1, f2, _⟩ := hf p.1 hb
  obtain ⟨o, e', d⟩ := ho p.1 hb
  rw [e] at e'; cases e'
  exact ⟨e, f0, f1, f2, d⟩
theorem Inv.unpinned {pins pl : List (Addr × Obj)} {σ : St} {H : Hp} {s : Shared} (I : Inv X (pins ++ pl) σ H s) : Inv X pins σ H s := I.pins_of fun p hp => I.pin p (List.mem_append_right _ (List.mem_append_left _ hp))
theorem zit {iter : Expr} {body : List Stmt} {wi : TI} {g : TG} {tb : TS} {pos : Pos} (hp : PassesOwn (model X.prog X.w) X.A X.env X.xe) (hc : X.calm = true) (hi : PI X tg iter wi) (hg : PG X tg g) (hb : PSs X body tb)
  (hs : ∀ x, foldedSetIterable iter X.env x = pure x := by intro _; rfl) : PS X (.For tg iter body [] pos) (tFor wi g tb) := by
 intro pins s σ H D I h
 refine wpAny_For (thn (hi pins s σ H _ I h) fun v s1 h1 => thn h1 fun itv s2 h2 => ?_) hs
 obtain ⟨it, fp, tn, J, H2, e, I2, T, st2, f2, W, ⟨m0, w0⟩, turn⟩ := h2
 subst e
 have stat : ∀ {H' : Hp}, (∀ b ∈ fp, H' b = none) -> ∀ b ∈ fp, FpOk X pins H' b := fun hn b hb => ⟨hn b hb, (f2 b hb).2⟩
 refine codeAny_forLoop_any (fun n s' => ∃ i σ' H', Inv X pins σ' H' s' /\ tn i s'.heap /\ (∀ b ∈ fp, H' b = none) /\ W i n σ' H') ?_ m0 ⟨0, σ, H2, I2, st2, fun b hb => (f2 b hb).1, w0⟩
 rintro n s3 ⟨i, σ3, H3, I3, st3, fr3, w3⟩
 rcases turn i n σ3 H3 w3 with ⟨stop, qn⟩ | ⟨go, N, hN, step⟩
 ·refine wpAny_passesOwn hp (thn (T.done X rfl rfl rfl hc i pins s3 σ3 H3 X.xe I3 (stat fr3) st3 stop) fun r s4 ⟨hr, I4⟩ => ?_)
  subst hr
  exact wpAny_execs_nil ⟨σ3, H3, I4, qn⟩
 ·refine wpAny_passesOwn hp (thn (T.item X rfl rfl rfl hc i pins s3 σ3 H3 X.xe I3 (stat fr3) st3 go) fun r s4 ⟨u, hr, h4⟩ => ?_)
  subst hr
  refine wpAny_passesOwn hp (thn h4 fun _ s5 ⟨x, H5, I5, r5, y5, st5, fr5⟩ => ?_)
  have I5' := I5.pinned (stat fr5) (T.obj _ _ st5)
  refine wpAny_passesOwn hp (thn (hg _ s5 σ3 H5 x u _ I5' r5 (step x H5 y5)) fun _ s6 ⟨σ6, H6, I6, q6⟩ => ?_)
  refine wpAny_passesOwn hp (thn (hb _ s6 σ6 H6 _ I6 q6) fun f s7 q7 => ?_)
  have again : ∀ {σ7 : St} {H7 : Hp}, Inv X (pins ++ zcB fp s5.heap) σ7 H7 s7 -> N σ7 H7 -> ∃ m, m < n /\ ∃ i σ' H', Inv X pins σ' H' s7 /\ tn i s7.heap /\ (∀ b ∈ fp, H' b = none) /\ W i m σ' H' := fun {σ7 H7} I7 n7 => by
   obtain ⟨m', hm, w7⟩ := hN σ7 H7 n7
   refine ⟨m', hm, i + 1, σ7, H7, I7.unpinned, T.keep _ _ _ st5 fun b hb o e => (I7.pin (b, o) (List.mem_append_right _ (List.mem_append_right _ (zbg hb e)))).1, fun b hb => ?_, w7⟩
   obtain ⟨o, e, d⟩ := T.obj _ _ st5 b hb
   exact (I7.pin (b, o) (List.mem_append_right _ (List.mem_append_right _ (zbg hb e)))).2.1
  cases f with
  | next => obtain ⟨σ7, H7, I7, n7⟩ := q7; exact again I7 n7
  | cont => obtain ⟨σ7, H7, I7, n7⟩ := q7; exact again I7 n7
  | brk => obtain ⟨σ7, H7, I7, q7⟩ := q7; exact ⟨σ7, H7, I7.unpinned, q7⟩
  | ret v => obtain ⟨x7, σ7, H7, I7, r7, q7⟩ := q7; exact ⟨x7, σ7, H7, I7.unpinned, r7, q7⟩
end
end L2
namespace L2
open PySem PySem.Spec PyProof.Rows
abbrev R2 := V -> V -> Hp -> VK -> Prop
def OpR (X : Cx) (f : Value -> Value -> Sem Value) (r : R2) : Prop :=
 ∀ (pins : List (Addr × Obj)) (s : Shared) (σ : St) (H : Hp) (x y : V) (v u : Value) (Q : VK), Inv X pins σ H s -> RelV x v -> RelV y u -> r x y H Q ->
  wpAny (model X.prog X.w) X.A (f v u) (EP X pins σ Q) X.xe s
def UnR (X : Cx) (f : Value -> Sem Value) (r : V -> Hp -> VK -> Prop) : Prop :=
 ∀ (pins : List (Addr × Obj)) (s : Shared) (σ : St) (H : Hp) (x : V) (v : Value) (Q : VK), Inv X pins σ H s -> RelV x v -> r x H Q ->
  wpAny (model X.prog X.w) X.A (f v) (EP X pins σ Q) X.xe s
def zcC (X : Cx) (f : Value) (r : List V -> Hp -> VK -> Prop) : Prop :=
 ∀ (pins : List (Addr × Obj)) (s : Shared) (σ : St) (H : Hp) (xs : List V) (us : List Value) (Q : VK), Inv X pins σ H s -> Vals xs us -> r xs H Q ->
  wpAny (model X.prog X.w) X.A (call f us) (EP X pins σ Q) X.xe s
def tOp (r : R2) (ta tb : TE) : TE := fun σ H Q => ta σ H fun x H1 => tb σ H1 fun y H2 => r x y H2 Q
def tUn (r : V -> Hp -> VK -> Prop) (ta : TE) : TE := fun σ H Q => ta σ H fun x H1 => r x H1 Q
def rI (C : Int -> Int -> Prop) (g : Int -> Int -> V) : R2 := fun x y H Q => ∃ i j, x = .int i /\ y = .int j /\ C i j /\ Q (g i j) H
def rI0 (g : Int -> Int -> V) : R2 := fun x y H Q => ∃ i j, x = .int i /\ y = .int j /\ Q (g i j) H
def rU (g : Int -> V) : V -> Hp -> VK -> Prop := fun x H Q => ∃ i, x = .int i /\ Q (g i) H
section
variable {X : Cx} {a b c : Expr} {ta tb tc : TE} {pos : Pos}
theorem binT (ha : PE X a ta) (hb : PE X b tb) {pins : List (Addr × Obj)} {s : Shared} {σ : St} {H : Hp} {R : V -> V -> Hp -> Prop} (I : Inv X pins σ H s)
  (h : ta σ H fun x H1 => tb σ H1 fun y H2 => R x y H2) {Q : Value -> Shared -> Prop} {f : Value -> Value -> Sem Value}
  (hf : ∀ v u s2 x y H2, Inv X pins σ H2 s2 -> RelV x v -> RelV y u -> R x y H2 -> wpAny (model X.prog X.w) X.A (f v u) Q X.xe s2) :
  wpAny (model X.prog X.w) X.A (eval a X.env) (fun v s₁ => wpAny (model X.prog X.w) X.A (eval b X.env) (fun u s₂ => wpAny (model X.prog X.w) X.A (f v u) Q X.xe s₂) X.xe s₁) X.xe s := by
 refine thn (ha pins s σ H _ I h) fun v s1 ⟨x, H1, I1, r1, q1⟩ => ?_
 refine thn (hb pins s1 σ H1 _ I1 q1) fun u s2 ⟨y, H2, I2, r2, q2⟩ => ?_
 exact hf v u s2 x y H2 I2 r1 r2 q2
theorem zjT {op : Operator} {r : R2} (ho : OpR X (binaryOp op) r) (ha : PE X a ta) (hb : PE X b tb) : PE X (.BinOp a op b pos) (tOp r ta tb) := by
 intro pins s σ H Q I h
 exact wpAny_BinOp (binT ha hb I h fun v u s2 x y H2 I2 rx ry q => ho pins s2 σ H2 x y v u Q I2 rx ry q)
theorem zjU {op : UnaryOp} {r : V -> Hp -> VK -> Prop} (ho : UnR X (unaryOp op) r) (ha : PE X a ta) : PE X (.UnaryOp op a pos) (tUn r ta) := by
 intro pins s σ H Q I h
 exact UnaryOp_ (thn (ha pins s σ H _ I h) fun v s1 ⟨x, H1, I1, r1, q1⟩ => ho pins s1 σ H1 x v Q I1 r1 q1)
theorem opI {f : Value -> Value -> Sem Value} {C : Int -> Int -> Prop} {g : Int -> Int -> Int}
  (rule : ∀ (i j : Int) (t u : Tok) (s : Shared) (Q : Value -> Shared -> Prop) (E : Value -> Shared -> Prop), C i j -> Q (.int (g i j) s.toks) { s with toks := s.toks + 1 } -> wpAny (model X.prog X.w) X.A (f (.int i t) (.int j u)) Q E s) :
  OpR X f (rI C fun i j => .int (g i j)) := by
 intro pins s σ H x y v u Q I rx ry h
 obtain ⟨i, j, rfl, rfl, hc, q⟩ := h
 obtain ⟨t, rfl⟩ := rx
 obtain ⟨t', rfl⟩ := ry
 exact rule i j t t' s _ _ hc ⟨.int (g i j), H, I.tok _, ⟨_, rfl⟩, q⟩
theorem opI0 {f : Value -> Value -> Sem Value} {g : Int -> Int -> Int}
  (rule : ∀ (i j : Int) (t u : Tok) (s : Shared) (Q : Value -> Shared -> Prop) (E : Value -> Shared -> Prop), Q (.int (g i j) s.toks) { s with toks := s.toks + 1 } -> wpAny (model X.prog X.w) X.A (f (.int i t) (.int j u)) Q E s) :
  OpR X f (rI0 fun i j => .int (g i j)) := by
 intro pins s σ H x y v u Q I rx ry h
 obtain ⟨i, j, rfl, rfl, q⟩ := h
 obtain ⟨t, rfl⟩ := rx
 obtain ⟨t', rfl⟩ := ry
 exact rule i j t t' s _ _ ⟨.int (g i j), H, I.tok _, ⟨_, rfl⟩, q⟩
theorem opB0 {f : Value -> Value -> Sem Value} {g : Int -> Int -> Bool}
  (rule : ∀ (i j : Int) (t u : Tok) (s : Shared) (Q : Value -> Shared -> Prop) (E : Value -> Shared -> Prop), Q (.bool (g i j)) s -> wpAny (model X.prog X.w) X.A (f (.int i t) (.int j u)) Q E s) :
  OpR X f (rI0 fun i j => .bl (g i j)) := by
 intro pins s σ H x y v u Q I rx ry h
 obtain ⟨i, j, rfl, rfl, q⟩ := h
 obtain ⟨t, rfl⟩ := rx
 obtain ⟨t', rfl⟩ := ry
 exact rule i j t t' s _ _ ⟨.bl (g i j), H, I, rfl, q⟩
def CPow (i j : Int) : Prop := 0 <= j /\ j <= 1000000 /\ i.natAbs < 2 ^ 64
def CMul (i j : Int) : Prop := (-(2 ^ 64) < i /\ i < 2 ^ 64) ∨ (-(2 ^ 64) < j /\ j < 2 ^ 64)
theorem CMul.ok {i j : Int} (h : CMul i j) : IntMulOk i j := by
 rcases h with ⟨h1, h2⟩ | ⟨h1, h2⟩
 ·exact .of_left (intBits_le_64 h1 h2)
 ·exact .of_right (intBits_le_64 h1 h2)
theorem ziu : OpR X (binaryOp .Add) (rI0 fun i j => .int (i + j)) := opI0 fun _ _ _ _ _ _ _ q => add_int q
theorem ziv : OpR X (binaryOp .Sub) (rI0 fun i j => .int (i - j)) := opI0 fun _ _ _ _ _ _ _ q => sub_int q
theorem ziw : OpR X (binaryOp .Mult) (rI CMul fun i j => .int (i * j)) := opI fun _ _ _ _ _ _ _ hc q => mul_int q hc.ok
theorem zix : OpR X (binaryOp .Mod) (rI (fun _ j => 0 < j) fun i j => .int (i % j)) := opI fun i j _ _ _ _ _ hc q => by
 have h1 : (0 : Int) < j := hc
 exact mod_int' (by omega) (by rw [Int.fmod_eq_emod_of_nonneg i (by omega)]; exact q)
theorem ziy : OpR X (binaryOp .Pow) (rI CPow fun i j => .int (i ^ j.toNat)) := opI fun _ _ _ _ _ _ _ hc q => pow_int_small hc.1 hc.2.1 hc.2.2 q
theorem unI {f : Value -> Sem Value} {g : Int -> Int}
  (rule : ∀ (i : Int) (t : Tok) (s : Shared) (Q : Value -> Shared -> Prop) (E : Value -> Shared -> Prop), Q (.int (g i) s.toks) { s with toks := s.toks + 1 } -> wpAny (model X.prog X.w) X.A (f (.int i t)) Q E s) :
  UnR X f (rU fun i => .int (g i)) := by
 intro pins s σ H x v Q I rx h
 obtain ⟨i, rfl, q⟩ := h
 obtain ⟨t, rfl⟩ := rx
 exact rule i t s _ _ ⟨.int (g i), H, I.tok _, ⟨_, rfl⟩, q⟩
theorem ziz : UnR X (unaryOp .USub) (rU fun i => .int (-i)) := unI fun _ _ _ _ _ q => neg_int q
end
section
variable {X : Cx} {a b c : Expr} {ta tb tc : TE} {pos : Pos}
theorem ziA {pins : List (Addr × Obj)} {σ : St} {H : Hp} {s : Shared} {Q : VK} {k k' : Bool} (I : Inv X pins σ H s) (q : Q (.bl k) H) (e : k = k') : EP X pins σ Q (.bool k') s := by
 subst e
 exact ⟨.bl k, H, I, rfl, q⟩
theorem zjV : OpR X (compareOp .LtE) (rI0 fun i j => .bl (decide (i <= j))) := opB0 fun _ _ _ _ _ _ _ q => le_int q
theorem zjW : OpR X (compareOp .Gt) (rI0 fun i j => .bl (decide (j < i))) := opB0 fun _ _ _ _ _ _ _ q => gt_int q
theorem zjX : OpR X (compareOp .GtE) (rI0 fun i j => .bl (decide (j <= i))) := opB0 fun _ _ _ _ _ _ _ q => ge_int q
theorem zew : OpR X (compareOp .In) (fun x y H Q => ∃ i j, x = .str i /\ y = .str j /\ Q (.bl (!(Builtin.Str.occurrences j i 0 j.length 1).isEmpty)) H) := by
 intro pins s σ H x y v u Q I rx ry h
 obtain ⟨i, j, rfl, rfl, q⟩ := h
 obtain ⟨t, rfl⟩ := rx
 obtain ⟨t', rfl⟩ := ry
 exact in_str (ziA I q rfl)
theorem OpR.or {f : Value -> Value -> Sem Value} {r r' : R2} (h : OpR X f r) (h' : OpR X f r') : OpR X f (fun x y H Q => r x y H Q ∨ r' x y H Q) := by
 intro pins s σ H x y v u Q I rx ry q
 rcases q with q | q
 ·exact h pins s σ H x y v u Q I rx ry q
 ·exact h' pins s σ H x y v u Q I rx ry q
theorem zaD (b : Expr) {op : CmpOp} (h : op ≠ .In := by decide) (h2 : op ≠ .NotIn := by decide) : behindInMarks op b = false := by
 have e1 : (op == CmpOp.In) = false := by cases op <;> first | rfl | exact absurd rfl h
 have e2 : (op == CmpOp.NotIn) = false := by cases op <;> first | rfl | exact absurd rfl h2
 cases b <;> simp [behindInMarks, e1, e2]
theorem zex {op : CmpOp} {r : R2} (ho : OpR X (compareOp op) r) (ha : PE X a ta) (hb : PE X b tb) (hm : behindInMarks op b = false) : PE X (.Compare a [op] [b] pos) (tOp r ta tb) := by
 intro pins s σ H Q I h
 exact wpAny_Compare1 (binT ha hb I h fun v u s2 x y H2 I2 rx ry q => ho pins s2 σ H2 x y v u Q I2 rx ry q) hm
def ziB (t : TE) : TT := fun σ H Q => t σ H fun x H' => ∃ k, x = .bl k /\ Q k H'
theorem zda {op : CmpOp} {r : R2} (ho : OpR X (compareOp op) r) (ha : PE X a ta) (hb : PE X b tb) (hm : behindInMarks op b = false) : PT X (.Compare a [op] [b] pos) (ziB (tOp r ta tb)) := by
 intro pins s σ H Q I h
 refine wpAny_isTrue_Compare1 (thn (ha pins s σ H _ I h) fun v s1 ⟨x, H1, I1, r1, q1⟩ => thn (hb pins s1 σ H1 _ I1 q1) fun u s2 ⟨y, H2, I2, r2, q2⟩ =>
  thn (ho pins s2 σ H2 x y v u _ I2 r1 r2 q2) fun c s3 ⟨z, H3, I3, r3, k, e, q3⟩ => ?_) hm
 subst e
 cases r3
 exact wpAny_truthy_bool ⟨H3, I3, q3⟩
def ziC (r r' : R2) (ta tb tc : TE) : TE := fun σ H Q => ta σ H fun x H1 => tb σ H1 fun y H2 => r x y H2 fun z H3 => ∃ k, z = .bl k /\
 (if k = true then tc σ H3 fun w' H4 => r' y w' H4 Q else Q (.bl false) H3)
theorem zfK {op op' : CmpOp} {r r' : R2} (ho : OpR X (compareOp op) r) (ho' : OpR X (compareOp op') r') (ha : PE X a ta) (hb : PE X b tb) (hc : PE X c tc)
  (hm : lastMarks [op, op'] [b, c] = false := by with_unfolding_all rfl) : PT X (.Compare a [op, op'] [b, c] pos) (ziB (ziC r r' ta tb tc)) := by
 intro pins s σ H Q I h
 refine isTrue_chain (thn (ha pins s σ H _ I h) fun v s1 ⟨x, H1, I1, r1, q1⟩ => test_link (thn (hb pins s1 σ H1 _ I1 q1) fun u s2 ⟨y, H2, I2, r2, q2⟩ =>
  thn (ho pins s2 σ H2 x y v u _ I2 r1 r2 q2) fun d s3 ⟨z, H3, I3, r3, k, e, q3⟩ => ?_)) hm
 subst e
 cases r3
 refine wpAny_truthy_bool ?_
 cases k with
 | false =>
  obtain ⟨k', e', q'⟩ := q3
  cases e'
  exact ite_ff ⟨H3, I3, q'⟩
 | true =>
  refine ite_tt (test_last (thn (hc pins s3 σ H3 _ I3 q3) fun w' s4 ⟨z', H4, I4, r4, q4⟩ => thn (ho' pins s4 σ H4 y z' u w' _ I4 r2 r4 q4) fun d' s5 ⟨z2, H5, I5, r5, k2, e2, q5⟩ => ?_))
  subst e2
  cases r5
  exact wpAny_truthy_bool ⟨H5, I5, q5⟩
theorem zdv : (sizeLine : Nat) < 2 ^ 63 := by rw [sizeLine_eq]; decide
theorem zdX : OpR X (binaryOp .Add) (fun x y H Q => ∃ i j, x = .str i /\ y = .str j /\ i.length + j.length <= sizeLine /\ Q (.str (i ++ j)) H) := by
 intro pins s σ H x y v u Q I rx ry h
 obtain ⟨i, j, rfl, rfl, hz, q⟩ := h
 obtain ⟨t, rfl⟩ := rx
 obtain ⟨t', rfl⟩ := ry
 exact add_str (fun t' tk => ⟨.str (i ++ j), H, I.tok _, ⟨_, rfl⟩, q⟩) hz
theorem ziD {x : V} {us : List Value} (r : Vals [x] us) : ∃ u, us = [u] /\ RelV x u := by
 cases r with
 | cons r1 r2 => cases r2; exact ⟨_, rfl, r1⟩
theorem ziE {x y : V} {us : List Value} (r : Vals [x, y] us) : ∃ u w', us = [u, w'] /\ RelV x u /\ RelV y w' := by
 cases r with
 | cons r1 r2 =>
  cases r2 with
  | cons r3 r4 => cases r4; exact ⟨_, _, rfl, r1, r3⟩
theorem zey (hc : X.calm = true) : zcC X (.builtin "max") (fun xs H Q => ∃ i j, xs = [.int i, .int j] /\ Q (.int (if j > i then j else i)) H) := by
 intro pins s σ H xs us Q I r h
 obtain ⟨i, j, rfl, q⟩ := h
 obtain ⟨u, w', rfl, ⟨t, rfl⟩, ⟨t', rfl⟩⟩ := ziE r
 refine max_two_ints (I.ok.hd hc) fun h' tk k => ⟨_, H, I.kept k, ?_, q⟩
 by_cases hj : j > i
 ·rw [if_pos hj, if_pos hj]; exact ⟨_, rfl⟩
 ·rw [if_neg hj, if_neg hj]; exact ⟨_, rfl⟩
def LenV (K : PySem.W.Frag) (x : V) (H : Hp) (n : Nat) : Prop :=
 match x with
 | .str y => y.length <= sizeLine /\ n = y.length
 | .byt y => y.size <= sizeLine /\ n = y.size
 | .ref p => (∃ xs, SqL K H p xs /\ n = xs.length) ∨ ∃ xs, SqT K H p xs /\ n = xs.length
 | _ => False
theorem zdw : zcC X (.builtin "len") (fun xs H Q => ∃ x n, xs = [x] /\ LenV X.K x H n /\ Q (.int n) H) := by
 intro pins s σ H xs us Q I r h
 obtain ⟨x, n, rfl, e, q⟩ := h
 obtain ⟨u, rfl, rx⟩ := ziD r
 have hl := zdv
 have hs : sizeLine = 16777216 := sizeLine_eq
 cases x with
 | str y =>
  obtain ⟨t, rfl⟩ := rx
  obtain ⟨hy, e'⟩ : y.length <= sizeLine /\ n = y.length := e
  subst e'
  exact len_str (by omega) ⟨.int _, H, I.tok _, ⟨_, rfl⟩, q⟩
 | byt y =>
  obtain ⟨t, rfl⟩ := rx
  obtain ⟨hy, e'⟩ : y.size <= sizeLine /\ n = y.size := e
  subst e'
  exact PySem.W.len_bytes (by omega) ⟨.int _, H, I.tok _, ⟨_, rfl⟩, q⟩
 | ref p =>
  cases rx
  have e' : (∃ xs, SqL X.K H p xs /\ n = xs.length) ∨ ∃ xs, SqT X.K H p xs /\ n = xs.length := e
  rcases e' with ⟨xs, hx, e'⟩ | ⟨xs, hx, e'⟩
  ·subst e'
   obtain ⟨its, r', pl, hz⟩ := I.list hx
   have hlen := r'.length
   exact Calls.call_len_list pl.isList (by simp only [List.size_toArray]; omega) ⟨.int xs.length, H, I.tok _, ⟨_, by simp only [List.size_toArray]; rw [hlen]⟩, q⟩
  ·subst e'
   obtain ⟨its, r', pl, hz⟩ := I.tuple hx
   have hlen := r'.length
   exact len_tuple pl (by simp only [List.size_toArray]; omega) ⟨.int xs.length, H, I.tok _, ⟨_, by simp only [List.size_toArray]; rw [hlen]⟩, q⟩
 | _ => exact (show False from e).elim
end
end L2
namespace L2
open PySem PySem.Spec PyProof.Rows
section
variable {prog : Program} {w : World} {A : Around} {E : Value -> Shared -> Prop} {s : Shared} {K : PySem.W.Frag} {x dx C f : Addr} {mA : Str -> Option Value} {name : Str} {v : Value}
end
def putF (f : Str) (v : V) : List (Str × V) -> List (Str × V)
 | [] => [(f, v)]
 | (g, x) :: r => if g = f then (g, v) :: r else (g, x) :: putF f v r
theorem zbm (f g : Str) (v : V) : ∀ fs : List (Str × V), (putF f v fs).lookup g = if g = f then some v else fs.lookup g
 | [] => by
  show List.lookup g [(f, v)] = _
  by_cases h : g = f
  ·have hb : (g == f) = true := beq_iff_eq.mpr h
   simp only [List.lookup, hb, if_pos h]
  ·have hb : (g == f) = false := beq_eq_false_iff_ne.mpr h
   simp only [List.lookup, hb, if_neg h]
 | (k, x) :: r => by
  have ih := zbm f g v r
  rw [show putF f v ((k, x) :: r) = (if k = f then (k, v) :: r else (k, x) :: putF f v r) from rfl]
  by_cases hk : k = f
  ·rw [if_pos hk]
   by_cases h : g = k
   ·have hb : (g == k) = true := beq_iff_eq.mpr h
    simp only [List.lookup, hb, if_pos (h.trans hk)]
   ·have hb : (g == k) = false := beq_eq_false_iff_ne.mpr h
    simp only [List.lookup, hb, if_neg (fun e : g = f => h (e.trans hk.symm))]
  ·rw [if_neg hk]
   by_cases h : g = k
   ·have hb : (g == k) = true := beq_iff_eq.mpr h
    simp only [List.lookup, hb, if_neg (fun e : g = f => hk (h.symm.trans e))]
   ·have hb : (g == k) = false := beq_eq_false_iff_ne.mpr h
    simp only [List.lookup, hb]
    exact ih
theorem zbQ (f : Str) (v : V) : ∀ fs : List (Str × V), f ∈ (putF f v fs).map (·.1) /\ ∀ g, g ∈ fs.map (·.1) -> g ∈ (putF f v fs).map (·.1)
 | [] => ⟨by simp [putF], fun g h => by simp at h⟩
 | (k, x) :: r => by
  obtain ⟨i1, i2⟩ := zbQ f v r
  rw [show putF f v ((k, x) :: r) = (if k = f then (k, v) :: r else (k, x) :: putF f v r) from rfl]
  by_cases hk : k = f
  ·rw [if_pos hk]
   subst hk
   exact ⟨by simp, fun g h => by simpa using h⟩
  ·rw [if_neg hk]
   refine ⟨?_, fun g h => ?_⟩
   ·rw [List.map_cons]
    exact List.mem_cons_of_mem _ i1
   ·rw [List.map_cons] at h ⊢
    rcases List.mem_cons.mp h with e | e
    ·exact List.mem_cons.mpr (.inl e)
    ·exact List.mem_cons_of_mem _ (i2 g e)
section
variable {P : Program} {w : World} {H H' : Hp} {h h' : Heap} {a C dx : Addr} {fs fs' : List (Str × V)}
end
section
variable {X : Cx} {pins : List (Addr × Obj)} {σ : St} {H : Hp} {s : Shared} {a C dx : Addr} {fs : List (Str × V)} {f : Str} {v : V} {A : Around} {E : Value -> Shared -> Prop}
theorem zg7 {prog : Program} {w : World} {env : Env} {e : Expr} {f : Str} {pos : Pos} {s : Shared} {Q : Value -> Shared -> Prop} (hb : attributeBase e f env (eval e env) = eval e env)
  (h : wpAny (model prog w) A (eval e env) (fun o s₁ => wpAny (model prog w) A (getAttr o f true) Q E s₁) E s) : wpAny (model prog w) A (eval (.Attribute e f pos) env) Q E s :=
 Attribute_any_ h (by rw [arm_eval_Attribute, hb])
end
section
variable {X : Cx} {o e value : Expr} {f : Str} {pos pos' tpos : Pos} {ta tv : TE}
end
section
variable {X : Cx} {pins : List (Addr × Obj)} {σ : St} {H : Hp} {s : Shared} {A : Around} {E : Value -> Shared -> Prop} {Q : Value -> Shared -> Prop} {c : Value} {b : Bool}
end
end L2
namespace L2
open PySem PySem.Spec PyProof.Rows
structure Room (k : Nat) (A : Around) : Prop where
 hd : A.handled = none
 dp : A.depth + 3 * k + 5 < recursionLimit
 un : A.units + 16 * k + 200 < cLine
 gd : A.guards = some []
theorem Room.mono {j k : Nat} {A : Around} (r : Room k A) (h : j <= k) : Room j A := ⟨r.hd, by have := r.dp; omega, by have := r.un; omega, r.gd⟩
theorem Room.deeper {k : Nat} {A : Around} (r : Room (k + 1) A) (env : Env) : Room k (A.deeper env) :=
 ⟨r.hd, by have := r.dp; show A.depth + 1 + 3 * k + 5 < _; omega, by have := r.un; show A.units + 3 + 16 * k + 200 < _; omega, r.gd⟩
theorem zdY {A : Around} {C : Addr} {us : List Value} {kw : List (Str × Value)} : (A.under (.builtin "type.__call__" ⟨.ref C :: us, kw⟩)).depth = A.depth + 1 := by
 first | rfl | simp [Around.under, Code.weight, Code.isCreation, Code.isGuard, Code.isCaller, Code.frames, Code.isFrame, guardIds]
theorem zdZ {A : Around} {C : Addr} {us : List Value} {kw : List (Str × Value)} : (A.under (.builtin "type.__call__" ⟨.ref C :: us, kw⟩)).units = A.units + 1 := by
 first | rfl | simp [Around.under, Code.cUnits, Code.frames, Code.isFrame]
theorem Room.make {k : Nat} {A : Around} (r : Room (k + 1) A) (C : Addr) (us : List Value) (kw : List (Str × Value)) : Room k (A.under (.builtin "type.__call__" ⟨.ref C :: us, kw⟩)) :=
 ⟨r.hd, by have := r.dp; rw [zdY]; omega, by have := r.un; rw [zdZ]; omega, (by first | exact r.gd | (simp [Around.under, guardIds]; exact r.gd))⟩
theorem Room.depth {k : Nat} {A : Around} (r : Room k A) : A.depth < recursionLimit := by have := r.dp; omega
theorem Room.units {k : Nat} {A : Around} (r : Room k A) : A.units + 64 < cLine := by have := r.un; omega
def tNil : TA := fun _ H Q => Q [] H
def zdb (ta : TE) (tr : TA) : TA := fun σ H Q => ta σ H fun x H1 => tr σ H1 fun xs H2 => Q (x :: xs) H2
section
variable {X : Cx} {e : Expr} {es : List Expr} {te : TE} {t : TA} {pos : Pos}
theorem zbs : PA X [] tNil := fun _ _ _ _ H Q I h => Calls.spliced_nil ⟨[], H, I, .nil, h⟩
theorem zaJ (ha : PE X e te) (hr : PA X es t) (hs : starEach (e :: es) X.env = (false, eval e X.env) :: starEach es X.env := by rfl) : PA X (e :: es) (zdb te t) := by
 intro pos pins s σ H Q I h
 rw [hs]
 show wpAny _ _ (spliced ((false, eval e X.env) :: backTo pos (starEach es X.env))) _ _ s
 refine Calls.spliced_cons (thn (ha pins s σ H _ I h) fun u s1 ⟨x, H1, I1, r1, q1⟩ => ?_)
 exact thn (hr pos pins s1 σ H1 _ I1 q1) fun us s2 ⟨xs, H2, I2, r2, q2⟩ => ⟨x :: xs, H2, I2, .cons r1 r2, q2⟩
def tTup (t : TA) : TE := fun σ H Q => t σ H fun xs H1 => xs.length <= sizeLine /\ ∀ p, H1 p = none -> Q (.ref p) (upd H1 p (.tup xs))
def tLst (t : TA) : TE := fun σ H Q => t σ H fun xs H1 => xs.length <= sizeLine /\ ∀ p, H1 p = none -> Q (.ref p) (upd H1 p (.lst xs))
theorem ziF {x1} (h : PA X es t) : PE X (.Tuple es x1 pos) (tTup t) := by
 intro pins s σ H Q I hq
 refine wpAny_Tuple_spliced (thn (h pos pins s σ H _ I hq) fun us s1 ⟨xs, H1, I1, r, z, q⟩ => ⟨by rw [← r.length]; exact z, ?_⟩)
 have hf : H1 s1.heap.objs.size = none := I1.hok.fresh (Nat.le_refl _)
 refine ⟨.ref s1.heap.objs.size, upd H1 s1.heap.objs.size (.tup xs), I1.laid (t' := s1.toks) (fun b u e => Heap.get?_push_of_some _ e) (Nat.le_refl _) ?_, rfl, q _ hf⟩
 exact ⟨z, us, r, ⟨_, Heap.get?_push_size _ rfl, rfl, _, rfl⟩⟩
theorem zgF (h : PA X es t) : PE X (.List es pos) (tLst t) := by
 intro pins s σ H Q I hq
 refine wpAny_List_spliced (thn (h pos pins s σ H _ I hq) fun us s1 ⟨xs, H1, I1, r, z, q⟩ => ⟨by rw [← r.length]; exact z, ?_⟩)
 have hf : H1 s1.heap.objs.size = none := I1.hok.fresh (Nat.le_refl _)
 refine ⟨.ref s1.heap.objs.size, upd H1 s1.heap.objs.size (.lst xs), I1.laid (t' := s1.toks) (fun b u e => Heap.get?_push_of_some _ e) (Nat.le_refl _) ?_, rfl, q _ hf⟩
 exact ⟨z, us, 0, r, Heap.get?_push_size _ rfl⟩
end
abbrev Sp := List V -> Hp -> VK -> XK -> Prop
abbrev CXT := List Env -> Hp -> Shared -> XK -> Value -> Shared -> Prop
structure Env0 (P : Program) (w : World) (K : PySem.W.Frag) (mg : Str -> Option Value) (base : Heap) (A : Around) (outer : List Env) (s : Shared) (H : Hp) : Prop where
 frames : A.frames = some outer
 mod : Mod K mg base
 bs : ∀ b o, base.get? b = some o -> s.heap.get? b = some o /\ H b = none
 bsz : base.objs.size <= s.heap.objs.size
 funs : s.heap.FunFrames base outer
 frf : ∀ b ∈ frs outer, H b = none
 hok : HOk P w H s.heap
 bare : AllBare s.gens
def CE (outer : List Env) (P : Program) (w : World) (H : Hp) (s : Shared) (Q : VK) (u : Value) (s' : Shared) : Prop :=
 ∃ v H', s'.os = s.os /\ AllBare s'.gens /\ Un (frs outer) [] H H' s.heap s'.heap /\ HOk P w H' s'.heap /\ RelV v u /\ Q v H'
def CR (CX : CXT) (outer : List Env) (P : Program) (w : World) (H : Hp) (s : Shared) (Q : VK) (E : XK) (r : Result) (s' : Shared) : Prop :=
 match r with
 | .ok (.ret u) => CE outer P w H s Q u s'
 | .ok _ => False
 | .error e => CX outer H s E e s'
structure FnOk (P : Program) (w : World) (K : PySem.W.Frag) (mg : Str -> Option Value) (base : Heap) (CX : CXT) (k : Nat) (f : Addr) (fd : FuncData) (ps : List Str) (sp : Sp) : Prop where
 len : ∀ vs H Q E, sp vs H Q E -> vs.length = ps.length
 run : ∀ (A : Around) (outer : List Env) (s : Shared) (H : Hp) (args : Args) (us : List Value) (vs : List V) (Q : VK) (E : XK), Room k A -> Env0 P w K mg base A outer s H -> BindsTo s fd args (ps.zip us) -> Vals vs us -> sp vs H Q E ->
  codeAny (model P w) A (.call (.ref f) args) (CR CX outer P w H s Q E) s
theorem Env0.make {P : Program} {w : World} {K : PySem.W.Frag} {mg : Str -> Option Value} {base : Heap} {A : Around} {outer : List Env} {s : Shared} {H : Hp} (e : Env0 P w K mg base A outer s H) (C : Addr) (us : List Value) (kw : List (Str × Value)) :
  Env0 P w K mg base (A.under (.builtin "type.__call__" ⟨.ref C :: us, kw⟩)) outer s H := ⟨by first | exact e.frames | (simpa [Around.under, Code.envs, Code.isFrame, pushEnvs] using e.frames), e.mod, e.bs, e.bsz, e.funs, e.frf, e.hok, e.bare⟩
section
variable {X : Cx} {pins : List (Addr × Obj)} {σ : St} {H : Hp} {s s' : Shared}
theorem Inv.env0 (I : Inv X pins σ H s) : Env0 X.prog X.w X.K X.mg X.base X.A X.stack s H :=
 ⟨I.ok.frames, I.ok.mod, I.bs, Nat.le_trans I.ok.bsz I.sz, I.stack, I.stkFree, I.hok, I.bare⟩
theorem Inv.after {Q : VK} {u : Value} (I : Inv X pins σ H s) (h : CE X.stack X.prog X.w H s Q u s') : EP X pins σ Q u s' := by
 obtain ⟨v, H', os, bare, un, hok, r, q⟩ := h
 obtain ⟨hh, g, d, t, os'⟩ := s'
 obtain rfl : os' = s.os := os
 exact ⟨v, H', I.call (h' := hh) (g' := g) (d' := d) (t' := t) (ch := []) un hok bare (fun b z => absurd z (by simp)), r, q⟩
end
def zfL (sp : Sp) (dvs : List V) (E : XK) (t : TA) : TE := fun σ H Q => t σ H fun vs H1 => sp (vs ++ dvs) H1 Q E
def za8 (K : PySem.W.Frag) (fd : FuncData) (ps : List Str) (ds : List Value) : Prop :=
 ∀ (s : Shared) (us : List Value), K.In s.heap -> (us ++ ds).length = ps.length -> BindsTo s fd ⟨us, []⟩ (ps.zip (us ++ ds))
theorem za8.all {K : PySem.W.Frag} {fd : FuncData} {ps : List Str} (h : ∀ us : List Value, us.length = ps.length -> bindArgs fd ⟨us, []⟩ = pure (ps.zip us)) : za8 K fd ps [] := fun s us _ hl => by
 rw [List.append_nil] at hl ⊢
 exact .of_eq (h us hl)
def zez (CX : CXT) (X : Cx) (E : XK) : Prop := ∀ (pins : List (Addr × Obj)) (σ : St) (H : Hp) (s : Shared) (e : Value) (s' : Shared), Inv X pins σ H s -> CX X.stack H s E e s' -> X.xe e s'
section
variable {X : Cx} {CX : CXT} {k : Nat} {f C : Addr} {fd : FuncData} {ps : List Str} {sp : Sp} {dvs : List V} {ds : List Value} {E : XK} {x m : Str} {p pos apos : Pos} {e o : Expr} {es : List Expr} {ta : TE} {t : TA}
theorem zgG {pins : List (Addr × Obj)} {σ : St} {H : Hp} {s : Shared} {Q : VK} {us : List Value} {vs : List V} (F : FnOk X.prog X.w X.K X.mg X.base CX k f fd ps sp) (hr : Room k X.A) (hb : za8 X.K fd ps ds) (hd : Vals dvs ds) (hx : zez CX X E)
  (I : Inv X pins σ H s) (r : Vals vs us) (h : sp (vs ++ dvs) H Q E) : wpAny (model X.prog X.w) X.A (call (.ref f) us) (EP X pins σ Q) X.xe s := by
 have r2 : Vals (vs ++ dvs) (us ++ ds) := r.append hd
 have hl : (us ++ ds).length = ps.length := by rw [← r2.length]; exact F.len _ _ _ _ h
 refine wpAny_call (codeAny_mono (F.run X.A X.stack s H ⟨us, []⟩ (us ++ ds) (vs ++ dvs) Q E hr I.env0 (hb s us I.kIn hl) r2 h) fun r s' hq => ?_)
 cases r with
 | error e => exact hx pins σ H s e s' I hq
 | ok fl =>
  cases fl with
  | ret u => exact I.after hq
  | next => exact False.elim hq
  | brk => exact False.elim hq
  | cont => exact False.elim hq
theorem zg8 (F : FnOk X.prog X.w X.K X.mg X.base CX k f fd ps sp) (hr : Room k X.A) (hg : Gl X x) (hm : X.mg x = some (.ref f)) (hk : PySem.W.keepIn X.K (.ref f) = true) (hb : za8 X.K fd ps ds) (hd : Vals dvs ds) (hx : zez CX X E)
  (ha : PA X (e :: es) t) (hdb : (x == ("__debug__" : Str)) = false := by decide) (he : starEach (e :: es) X.env = (false, eval e X.env) :: starEach es X.env := by rfl) (hpl : (backTo pos (starEach es X.env)).any (·.1) = false := by rfl) :
  PE X (.Call (.Name x p) (e :: es) [] pos) (zfL sp dvs E t) := by
 intro pins s σ H Q I h
 refine wpAny_Call_Name_kw (zbA I hg hm ?_ hdb)
 refine PySem.W.callWith_K (h₀ := X.base) I.ok.mod.kin hk (thn (ha pos pins s σ H _ I h) fun us s1 ⟨vs, H1, I1, r, q⟩ => ⟨I1.kIn, ?_⟩) he hpl
 exact zgG F hr hb hd hx I1 r q
end
section
variable {X : Cx} {CX : CXT} {k : Nat} {f C : Addr} {fd : FuncData} {ps ks : List Str} {sp : Sp} {E : XK} {x m : Str} {p pos apos kpos : Pos} {e o : Expr} {es : List Expr} {kws : List Keyword} {te ta : TE} {t tk : TA} {nm : Option Str}
variable {g : List Value -> List Value -> List Value} {gV : List V -> List V -> List V}
end
structure zbB (N P : List Str) (sc : Scope) : Prop where
 kind : sc.kind = .function
 co : sc.isCoroutine = false
 gen : sc.isGenerator = false
 nd : N.Nodup
 pre : N.take P.length = P
 par : ∀ x ∈ P, sc.names.lookup x = some .local ∨ sc.names.lookup x = some .cell
 nofree : ∀ y ∈ sc.names, y.2 ≠ .free
theorem zcD {kindOf : Str -> Option NameKind} {x : Str} : ∀ {binds : List (Str × Value)} {m : Str -> Option Value}, (∀ v, (x, v) ∉ binds) -> bindL kindOf binds m x = m x
 | [], _, _ => rfl
 | (n, v) :: r, m, h => by
  unfold bindL
  rw [zcD fun w hw => h w (List.mem_cons_of_mem _ hw)]
  split
  ·have : x ≠ n := by rintro rfl; exact h v List.mem_cons_self
   simp [this]
  ·rfl
theorem zcE {kindOf : Str -> Option NameKind} {x : Str} : ∀ {binds : List (Str × Value)} {m : Str -> Option Value}, (∀ v, (x, v) ∉ binds) -> bindC kindOf binds m x = m x
 | [], _, _ => rfl
 | (n, v) :: r, m, h => by
  unfold bindC
  rw [zcE fun w hw => h w (List.mem_cons_of_mem _ hw)]
  split
  ·rfl
  ·have : x ≠ n := by rintro rfl; exact h v List.mem_cons_self
   simp [this]
theorem zcF {kindOf : Str -> Option NameKind} {x : Str} {v : Value} : ∀ {P : List Str} {vs : List Value} {i : Nat} {m : Str -> Option Value}, P.Nodup -> P[i]? = some x -> vs[i]? = some v -> kindOf x = some .local ->
  bindL kindOf (P.zip vs) m x = some v
 | [], _, _, _, _, h, _, _ => by simp at h
 | _ :: _, [], _, _, _, _, h, _ => by simp at h
 | p :: P, w :: vs, 0, m, nd, h1, h2, hk => by
  simp at h1 h2; subst h1; subst h2
  show bindL kindOf ((p, w) :: P.zip vs) m p = _
  unfold bindL
  rw [zcD fun v hv => (List.nodup_cons.mp nd).1 (List.of_mem_zip hv).1, if_pos hk]
  simp
 | p :: P, w :: vs, i + 1, m, nd, h1, h2, hk => by
  show bindL kindOf ((p, w) :: P.zip vs) m x = _
  unfold bindL
  exact zcF (i := i) (List.nodup_cons.mp nd).2 (by simpa using h1) (by simpa using h2) hk
theorem zcG {kindOf : Str -> Option NameKind} {x : Str} {v : Value} : ∀ {P : List Str} {vs : List Value} {i : Nat} {m : Str -> Option Value}, P.Nodup -> P[i]? = some x -> vs[i]? = some v -> kindOf x ≠ some .local ->
  bindC kindOf (P.zip vs) m x = some v
 | [], _, _, _, _, h, _, _ => by simp at h
 | _ :: _, [], _, _, _, _, h, _ => by simp at h
 | p :: P, w :: vs, 0, m, nd, h1, h2, hk => by
  simp at h1 h2; subst h1; subst h2
  show bindC kindOf ((p, w) :: P.zip vs) m p = _
  unfold bindC
  rw [zcE fun v hv => (List.nodup_cons.mp nd).1 (List.of_mem_zip hv).1, if_neg hk]
  simp
 | p :: P, w :: vs, i + 1, m, nd, h1, h2, hk => by
  show bindC kindOf ((p, w) :: P.zip vs) m x = _
  unfold bindC
  exact zcG (i := i) (List.nodup_cons.mp nd).2 (by simpa using h1) (by simpa using h2) hk
def zbR (N : List Str) (vs : List V) : St := vs.map some ++ List.replicate (N.length - vs.length) none
def cxOf (CX : CXT) (P : Program) (w : World) (K : PySem.W.Frag) (mg : Str -> Option Value) (base : Heap) (N : List Str) (qual : Str) (scope : Scope) (f : Addr) (cd : Value) (A : Around) (outer : List Env) (s : Shared) (H : Hp) (E : XK) : Cx where
 prog := P
 w := w
 K := K
 mg := mg
 base := base
 A := A.deeper (envOfC qual scope s.heap.objs.size f cd)
 N := N
 s₀ := s
 H₀ := H
 env := envOfC qual scope s.heap.objs.size f cd
 outer := outer
 stack := envOfC qual scope s.heap.objs.size f cd :: outer
 ex := []
 calm := true
 fn := fun _ => true
 pn := []
 xe := fun e s' => wpAny (model P w) (A.deeper (envOfC qual scope s.heap.objs.size f cd)) (leaving (envOfC qual scope s.heap.objs.size f cd) e) (fun _ s'' => CX outer H s E e s'') (fun e' s'' => CX outer H s E e' s'') s'
theorem zdx {sc : Scope} {n : Nat} {x : Str} (h : sc.names.lookup x = some .cell) : ∃ c, (cellsFrom n sc.names []).lookup x = some c := by
 have q := PySem.W.cellsFrom_some sc.names n [] (.inl h)
 exact Option.isSome_iff_exists.mp q
theorem zeA {CX : CXT} {P : Program} {w : World} {K : PySem.W.Frag} {mg : Str -> Option Value} {base : Heap} {N ps : List Str} {qual : Str} {scope : Scope} {f : Addr} {cd : Value} {A : Around} {outer : List Env} {s s1 : Shared} {H : Hp} {E : XK} {us : List Value} {vs : List V}
  (S : zbB N ps scope) (hd : A.handled = none) (e0 : Env0 P w K mg base A outer s H) (hl : vs.length = ps.length) (r : Vals vs us)
  (x : InCallC s s.heap.objs.size (bindL (envOfC qual scope s.heap.objs.size f cd).kindOf (ps.zip us) fun _ => none) (cellsFrom (s.heap.objs.size + 1) scope.names []) (bindC (envOfC qual scope s.heap.objs.size f cd).kindOf (ps.zip us) fun _ => none) s1) :
  Inv (cxOf CX P w K mg base N qual scope f cd A outer s H E) [] (zbR N vs) H s1 := by
 have hpl : ps.length <= N.length := by have := congrArg List.length S.pre; rw [List.length_take] at this; omega
 obtain ⟨h1, tk, rfl, hk⟩ := x.done
 have noA : ∀ b : Addr, b ∉ (cxOf CX P w K mg base N qual scope f cd A outer s H E).ex := fun b z => absurd (show b ∈ ([] : List Addr) from z) (by simp)
 refine ⟨⟨e0.mod, S.kind, rfl, rfl, Nat.le_refl _, fun y z c h1 h2 => ?_, fun y hy => ?_, fun y c _ h => ?_, fun _ => hd, Around.frames_deeper e0.frames, .inr ⟨rfl, rfl⟩, fun b z => absurd z (noA b), e0.bs, e0.bsz, fun b _ _ => noA b, fun b z => absurd z (noA b), e0.funs, e0.frf⟩,
  rfl, e0.bare, Un.kept hk, ⟨_, x.toInCall.ns, fun i y v h1 h2 h3 => ?_⟩, fun y c h => ⟨_, x.cell y c h⟩, e0.hok.fresh (Nat.le_refl _), fun y c h => ?_, fun p hp => absurd (show p ∈ ([] : List (Addr × Obj)) from hp) (by simp), e0.hok.kept hk, ?_⟩
 ·exact name_of_addr x.apart (PySem.mem_of_lookup h1) (PySem.mem_of_lookup h2)
 ·have hy : scope.names.lookup y = some .cell ∨ scope.names.lookup y = some .free := hy
  rcases hy with hy | hy
  ·exact zdx hy
  ·exact absurd rfl (S.nofree _ (PySem.mem_of_lookup hy))
 ·exact Nat.le_of_lt (x.above y c (PySem.mem_of_lookup h))
 ·have hi : i < vs.length := by
   unfold zbR at h2
   by_cases hi : i < vs.length
   ·exact hi
   ·rw [List.getElem?_append_right (by simpa using hi)] at h2
    rw [List.getElem?_replicate] at h2
    split at h2 <;> cases h2
  have ha : vs[i]? = some v := by
   unfold zbR at h2
   rw [List.getElem?_append_left (by simpa using hi), List.getElem?_map] at h2
   cases e : vs[i]? with
   | none => rw [e] at h2; cases h2
   | some a => rw [e] at h2; cases h2; rfl
  obtain ⟨u, hu, rv⟩ := r.get ha
  have hp : ps[i]? = some y := by
   rw [← S.pre, List.getElem?_take_of_lt (by omega)]; exact h1
  have ndP : ps.Nodup := by rw [← S.pre]; exact S.nd.sublist (List.take_sublist _ _)
  refine ⟨u, rv, ?_⟩
  rcases S.par y (List.mem_of_getElem? hp) with k | k
  ·exact .inl ⟨k, zcF ndP hp hu k⟩
  ·obtain ⟨c, e⟩ := zdx (n := s.heap.objs.size + 1) k
   refine .inr ⟨.inl k, c, e, ?_⟩
   have q := x.cell y c e
   rw [zcG ndP hp hu (by show scope.names.lookup y ≠ _; rw [k]; decide)] at q
   exact q
 ·exact e0.hok.fresh (Nat.le_of_lt (x.above y c (PySem.mem_of_lookup h)))
 ·unfold zbR
  show _ = N.length
  rw [List.length_append, List.length_map, List.length_replicate]
  omega
theorem ziG {CX : CXT} {P : Program} {w : World} {K : PySem.W.Frag} {mg : Str -> Option Value} {base : Heap} {k : Nat} {f : Addr} {name qual : Str} {params : Arguments} {body : List Stmt} {scope : Scope} {dV kV doc pm cdv ct oc : Value} {an od : Option Addr}
  {osl : Array (Option Value)} {N ps : List Str} {sp : Sp} (lk : K.lookup f = some ⟨oc, od, .func (PySem.W.fnOf name qual params body scope dV kV doc pm an cdv ct), osl⟩) (hcd : PySem.W.codeIn K cdv qual = true) (S : zbB N ps scope)
  (len : ∀ vs H Q E, sp vs H Q E -> vs.length = ps.length)
  (hbody : ∀ (A : Around) (outer : List Env) (s : Shared) (H : Hp) (vs : List V) (Q : VK) (E : XK), Room k (A.deeper (envOfC qual scope s.heap.objs.size f cdv)) -> sp vs H Q E ->
   ∃ t, PSs (cxOf CX P w K mg base N qual scope f cdv A outer s H E) body t /\ t { nx := fun _ H' => Q .non H', rt := Q } (zbR N vs) H) :
  FnOk P w K mg base CX (k + 1) f (PySem.W.fnOf name qual params body scope dV kV doc pm an cdv ct) ps sp := by
 refine ⟨len, fun A outer s H args us vs Q E hr e0 hb r hsp => ?_⟩
 have hl := len _ _ _ _ hsp
 have KX : K.In s.heap := e0.mod.kin.keeps fun b o e => (e0.bs b o e).1
 have lim : s.heap.NoLimit := e0.mod.nolimit.keeps fun b o e => (e0.bs b o e).1
 have hkind : ∀ y ∈ ps.zip us, scope.names.lookup y.1 = some .local ∨ (scope.names.lookup y.1 = some .cell /\ ((cellsFrom (s.heap.objs.size + 1) scope.names []).lookup y.1).isSome = true) := fun ⟨n, v⟩ hy => by
  rcases S.par n (List.of_mem_zip hy).1 with q | q
  ·exact .inl q
  ·exact .inr ⟨q, PySem.W.cellsFrom_some _ _ _ (.inl q)⟩
 refine codeAny_call_function hr.depth (KX _ _ lk) rfl S.co S.gen rfl (PySem.W.codeRec_of KX hcd) (hb _ _ _ _ ?_)
 refine wpAny_newFunctionEnv_cells S.kind hkind fun env he s1 x => ?_
 subst he
 refine ⟨lim.keeps x.toInCall.keep, codeAny_func ?_⟩
 obtain ⟨t, ht, hq⟩ := hbody A outer s H vs Q E (hr.deeper _) hsp
 have I : Inv (cxOf CX P w K mg base N qual scope f cdv A outer s H E) [] (zbR N vs) H s1 := zeA S hr.hd e0 hl r x
 refine wpAny_mono (ht [] s1 (zbR N vs) H _ I hq) (fun fl s' hs => ?_) fun e s' hs => hs
 have fin : ∀ {σ' : St} {H' : Hp} {v : V} {u : Value}, Inv (cxOf CX P w K mg base N qual scope f cdv A outer s H E) [] σ' H' s' -> RelV v u -> Q v H' -> CE outer P w H s Q u s' :=
  fun {σ' H' v u} J rv q => ⟨v, H', J.os, J.bare, J.base, J.hok, rv, q⟩
 cases fl with
 | ret u =>
  obtain ⟨v, σ', H', J, rv, q⟩ := hs
  exact fin J rv q
 | next =>
  obtain ⟨σ', H', J, q⟩ := hs
  exact fin (v := V.non) (u := Value.none) J rfl q
 | brk =>
  obtain ⟨_, _, _, q⟩ := hs
  exact False.elim q
 | cont =>
  obtain ⟨_, _, _, q⟩ := hs
  exact False.elim q
end L2
namespace L2
open PySem PySem.Spec PyProof.Rows
section
variable {X : Cx} {x : Str} {p pos : Pos} {e : Expr} {es : List Expr} {t : TA} {id T : String} {r : List V -> Hp -> VK -> Prop}
def tCB (r : List V -> Hp -> VK -> Prop) (t : TA) : TE := fun σ H Q => t σ H fun vs H1 => r vs H1 Q
theorem zbt (hc : zcC X (.builtin id) r) (hg : Gl X x) (hm : X.mg x = none) (hv : bootBuiltins x = some (.builtin id)) (ha : PA X (e :: es) t) (hn : x ≠ "__name__" := by decide) (hdb : (x == ("__debug__" : Str)) = false := by decide)
  (he : starEach (e :: es) X.env = (false, eval e X.env) :: starEach es X.env := by rfl) (hpl : (backTo pos (starEach es X.env)).any (·.1) = false := by rfl) : PE X (.Call (.Name x p) (e :: es) [] pos) (tCB r t) := by
 intro pins s σ H Q I h
 refine wpAny_Call_Name_kw (zb8 I hg hm hv ?_ hn hdb)
 exact PyProof.Rows.callWith_builtin1 (thn (ha pos pins s σ H _ I h) fun us s1 ⟨vs, H1, I1, r1, q1⟩ => hc pins s1 σ H1 vs us Q I1 r1 q1) he hpl
theorem zeB (hc : zcC X (.type T) r) (hg : Gl X x) (hm : X.mg x = none) (hv : bootBuiltins x = some (.type T)) (ha : PA X (e :: es) t) (hn : x ≠ "__name__" := by decide) (hdb : (x == ("__debug__" : Str)) = false := by decide)
  (he : starEach (e :: es) X.env = (false, eval e X.env) :: starEach es X.env := by rfl) (hpl : (backTo pos (starEach es X.env)).any (·.1) = false := by rfl) : PE X (.Call (.Name x p) (e :: es) [] pos) (tCB r t) := by
 intro pins s σ H Q I h
 refine wpAny_Call_Name_kw (zb8 I hg hm hv ?_ hn hdb)
 exact PyProof.Rows.callWith_type1 (thn (ha pos pins s σ H _ I h) fun us s1 ⟨vs, H1, I1, r1, q1⟩ => hc pins s1 σ H1 vs us Q I1 r1 q1) he hpl
end
end L2
namespace HT
open PySem PyProof.Rows
section
open PySem.SeqAt
open PySem.AutoSeq1 (wpAny_loadPart')
open PySem.MeetsSeq PySem.MeetsSeq2 PySem.MeetsSeq3
end
section
variable {prog : Program} {w : World} {A : Around} {E : Value -> Shared -> Prop} {s : Shared}
def sIx (n d : Nat) : Option Int -> Nat
 | none => d
 | some v => if v < 0 then (v + (n : Int)).toNat else min v.toNat n
end
end HT
namespace L2
open PySem PySem.Spec PyProof.Rows
abbrev TO := St -> Hp -> (Option Int -> Hp -> Prop) -> Prop
def PO (X : Cx) (e : Option Expr) (t : TO) : Prop :=
 ∀ (pins : List (Addr × Obj)) (s : Shared) (σ : St) (H : Hp) (Q : Option Int -> Hp -> Prop), Inv X pins σ H s -> t σ H Q ->
  wpAny (model X.prog X.w) X.A (evalPart e X.env) (fun u s' => ∃ o H', Inv X pins σ H' s' /\ IsPart u o /\ Q o H') X.xe s
def zg9 : TO := fun _ H Q => Q none H
def zjY (t : TE) : TO := fun σ H Q => t σ H fun x H1 => ∃ i, x = .int i /\ Q (some i) H1
section
variable {X : Cx} {e : Expr} {te : TE} {lo hi : Option Expr} {tl th : TO} {pos p2 : Pos}
theorem zha : PO X none zg9 := by
 intro pins s σ H Q I h
 rw [evalPart_none]
 exact wpAny_pure ⟨none, H, I, .none, h⟩
theorem zhb (h : PE X e te) : PO X (some e) (zjY te) := by
 intro pins s σ H Q I hw
 rw [evalPart_some]
 refine thn (h pins s σ H _ I hw) fun u s1 ⟨x, H1, I1, r1, q1⟩ => ?_
 obtain ⟨i, rfl, q⟩ := q1
 obtain ⟨t, rfl⟩ := r1
 exact ⟨some i, H1, I1, .int i t, q⟩
def SlR (X : Cx) (r : V -> Option Int -> Option Int -> Hp -> VK -> Prop) : Prop :=
 ∀ (pins : List (Addr × Obj)) (s : Shared) (σ : St) (H : Hp) (x : V) (v vl vu : Value) (lo hi : Option Int) (sl : Addr) (Q : VK), Inv X pins σ H s -> RelV x v -> s.heap.IsSliceOf sl vl vu .none -> IsPart vl lo -> IsPart vu hi -> r x lo hi H Q ->
  ∃ T id, typeLookup (.type T) "__getitem__" = pure (some (.builtin id)) /\ s.TypeIs v T /\ wpAny (model X.prog X.w) X.A (getItem v (.ref sl)) (EP X pins σ Q) X.xe s
theorem SlR.or {r r' : V -> Option Int -> Option Int -> Hp -> VK -> Prop} (h : SlR X r) (h' : SlR X r') : SlR X (fun x lo hi H Q => r x lo hi H Q ∨ r' x lo hi H Q) := by
 intro pins s σ H x v vl vu lo hi sl Q I rx hs pl pu q
 rcases q with q | q
 ·exact h pins s σ H x v vl vu lo hi sl Q I rx hs pl pu q
 ·exact h' pins s σ H x v vl vu lo hi sl Q I rx hs pl pu q
def tSl (r : V -> Option Int -> Option Int -> Hp -> VK -> Prop) (te : TE) (tl th : TO) : TE := fun σ H Q => te σ H fun x H1 => tl σ H1 fun l H2 => th σ H2 fun u H3 => r x l u H3 Q
theorem zfM {r : V -> Option Int -> Option Int -> Hp -> VK -> Prop} (hr : SlR X r) (he : PE X e te) (hl : PO X lo tl) (hu : PO X hi th) : PE X (.Subscript e (.Slice lo hi none p2) pos) (tSl r te tl th) := by
 intro pins s σ H Q I h
 refine Subscript_ (thn (he pins s σ H _ I h) fun v s1 ⟨x, H1, I1, r1, q1⟩ => ?_)
 refine wpAny_Slice (thn (hl pins s1 σ H1 _ I1 q1) fun vl s2 ⟨l, H2, I2, pl, q2⟩ => thn (hu pins s2 σ H2 _ I2 q2) fun vu s3 ⟨u, H3, I3, pu, q3⟩ => ?_)
 rw [evalPart_none]
 refine wpAny_pure ?_
 have I4 : Inv X pins σ H3 { s3 with heap := s3.heap.push { cls := .type "slice", data := .fields #[vl, vu, .none] } } := I3.kept (t' := s3.toks) fun b ob q => Heap.get?_push_of_some _ q
 obtain ⟨T, id, hT, ht, hg⟩ := hr pins { s3 with heap := s3.heap.push { cls := .type "slice", data := .fields #[vl, vu, .none] } } σ H3 x v vl vu l u s3.heap.objs.size Q I4 r1 (Heap.IsSliceOf.new ..) pl pu q3
 show wpAny (model X.prog X.w) X.A (subscriptTail e (.Slice lo hi none p2) v (.ref s3.heap.objs.size)) (EP X pins σ Q) X.xe { s3 with heap := s3.heap.push { cls := .type "slice", data := .fields #[vl, vu, .none] } }
 exact tail_any (ops := [.ref s3.heap.objs.size, v]) ht hT hg (by with_unfolding_all rfl)
def cutV (xs : List V) (lo hi : Option Int) : List V := (xs.drop (HT.sIx xs.length 0 lo)).take (HT.sIx xs.length xs.length hi - HT.sIx xs.length 0 lo)
theorem zdc (xs : List V) (lo hi : Option Int) : (cutV xs lo hi).length <= xs.length := by
 unfold cutV
 rw [List.length_take, List.length_drop]
 omega
end
end L2
namespace L2
open PySem PySem.Spec PyProof.Rows
def ixN (n : Nat) (i : Int) : Option Nat := if 0 <= i then (if i < n then some i.toNat else none) else if -(n : Int) <= i then some (i + n).toNat else none
def atI {α : Type} (xs : List α) (i : Int) : Option α := (ixN xs.length i).bind fun j => xs[j]?
theorem zhc {n : Nat} {i : Int} {j : Nat} (h : ixN n i = some j) : seqIndex? i n = some j /\ j < n /\ -(n : Int) <= i /\ i < n := by
 unfold ixN at h
 by_cases h0 : 0 <= i
 ·rw [if_pos h0] at h
  by_cases h1 : i < n
  ·rw [if_pos h1] at h
   have e : i.toNat = j := Option.some.inj h
   exact ⟨by rw [seqIndex_of h0 h1, e], by omega, by omega, h1⟩
  ·rw [if_neg h1] at h; cases h
 ·rw [if_neg h0] at h
  by_cases h1 : -(n : Int) <= i
  ·rw [if_pos h1] at h
   have e : (i + n).toNat = j := Option.some.inj h
   exact ⟨by rw [seqIndex_neg (by omega) h1, e], by omega, h1, by omega⟩
  ·rw [if_neg h1] at h; cases h
theorem zdd {α : Type} {xs : List α} {i : Int} {v : α} (h : atI xs i = some v) : ∃ j, seqIndex? i xs.length = some j /\ xs[j]? = some v /\ j < xs.length /\ -(xs.length : Int) <= i /\ i < xs.length := by
 unfold atI at h
 cases e : ixN xs.length i with
 | none => rw [e] at h; cases h
 | some j =>
  rw [e] at h
  obtain ⟨h1, h2, h3, h4⟩ := zhc e
  exact ⟨j, h1, h, h2, h3, h4⟩
theorem zeC {α : Type} {xs : List α} {j : Nat} {v : α} (h : xs[j]? = some v) : atI xs (j : Int) = some v := by
 have hj : j < xs.length := (List.getElem?_eq_some_iff.mp h).1
 have e : ixN xs.length (j : Int) = some j := by
  unfold ixN
  rw [if_pos (by omega), if_pos (by omega)]; simp
 unfold atI; rw [e]; exact h
def zde (b : Expr) : Prop := ∀ o i, subscripted b false o i = operate [o, i] (getItem o i)
def IxR (X : Cx) (r : R2) : Prop :=
 ∀ (value slice : Expr) (pins : List (Addr × Obj)) (s : Shared) (σ : St) (H : Hp) (x y : V) (v u : Value) (Q : VK), Inv X pins σ H s -> RelV x v -> RelV y u -> r x y H Q ->
  subscripted slice false v u = operate [v, u] (getItem v u) -> wpAny (model X.prog X.w) X.A (subscriptTail value slice v u) (EP X pins σ Q) X.xe s
def MtR (X : Cx) (id : String) (r : V -> List V -> Hp -> VK -> Prop) : Prop :=
 ∀ (pins : List (Addr × Obj)) (s : Shared) (σ : St) (H : Hp) (x : V) (xs : List V) (v : Value) (us : List Value) (Q : VK), Inv X pins σ H s -> RelV x v -> Vals xs us -> r x xs H Q ->
  wpAny (model X.prog X.w) X.A (call (.builtin id) (v :: us)) (EP X pins σ Q) X.xe s
section
variable {X : Cx} {a b : Expr} {ta tb : TE} {pos : Pos}
theorem IxR.or {r r' : R2} (h : IxR X r) (h' : IxR X r') : IxR X (fun x y H Q => r x y H Q ∨ r' x y H Q) := by
 intro value slice pins s σ H x y v u Q I rx ry q hs
 rcases q with q | q
 ·exact h value slice pins s σ H x y v u Q I rx ry q hs
 ·exact h' value slice pins s σ H x y v u Q I rx ry q hs
theorem ziH {r : R2} (hr : IxR X r) (ha : PE X a ta) (hb : PE X b tb) (hs : zde b) : PE X (.Subscript a b pos) (tOp r ta tb) := by
 intro pins s σ H Q I h
 exact Subscript_ (binT ha hb I h fun v u s2 x y H2 I2 rx ry q => hr a b pins s2 σ H2 x y v u Q I2 rx ry q (hs _ _))
def rIxL (K : PySem.W.Frag) : R2 := fun x y H Q => ∃ p xs i v, x = .ref p /\ y = .int i /\ SqL K H p xs /\ atI xs i = some v /\ Q v H
def rIxT (K : PySem.W.Frag) : R2 := fun x y H Q => ∃ p xs i v, x = .ref p /\ y = .int i /\ SqT K H p xs /\ atI xs i = some v /\ Q v H
def rIxS : R2 := fun x y H Q => ∃ z i c, x = .str z /\ y = .int i /\ z.length <= sizeLine /\ atI z.cps.toList i = some c /\ Q (.str ⟨#[c]⟩) H
theorem zhd : IxR X (rIxL X.K) := by
 intro value slice pins s σ H x y v u Q I rx ry h hs
 obtain ⟨p, xs, i, z, rfl, rfl, hq, he, q⟩ := h
 cases rx
 obtain ⟨t, rfl⟩ := ry
 obtain ⟨its, r, pl, hz⟩ := I.list hq
 obtain ⟨j, h1, h2, h3, h4, h5⟩ := zdd he
 obtain ⟨w, ew, rw'⟩ := r.get h2
 have hl := r.length
 have hn := zdv
 have fin : EP X pins σ Q w s := ⟨z, H, I, rw', q⟩
 by_cases h0 : 0 <= i
 ·have hj : i.toNat = j := by
   rw [seqIndex_of h0 h5] at h1
   exact Option.some.inj h1
  exact item_listR pl.isList h0 (by omega) (by rw [hj]; simpa using ew) fin hs
 ·have hj : (i + (its.toArray.size : Int)).toNat = j := by
   rw [seqIndex_neg (by omega) h4] at h1
   rw [List.size_toArray, ← hl]
   exact Option.some.inj h1
  exact subscriptTail_builtinR (x := w) pl.isList.typeIs slot_list_getitem.lookup
   (wpAny_getItem_list_neg (Q := fun r s' => r = w /\ EP X pins σ Q r s') pl.isList (by omega) (by rw [List.size_toArray] <;> omega) (by omega) (by rw [hj]; simpa using ew) ⟨rfl, fin⟩) hs
theorem ziI : IxR X (rIxT X.K) := by
 intro value slice pins s σ H x y v u Q I rx ry h hs
 obtain ⟨p, xs, i, z, rfl, rfl, hq, he, q⟩ := h
 cases rx
 obtain ⟨t, rfl⟩ := ry
 obtain ⟨its, r, pl, hz⟩ := I.tuple hq
 obtain ⟨j, h1, h2, h3, h4, h5⟩ := zdd he
 obtain ⟨w, ew, rw'⟩ := r.get h2
 have hl := r.length
 have hn := zdv
 have fin : EP X pins σ Q w s := ⟨z, H, I, rw', q⟩
 exact subscriptTail_builtinR (x := w) pl.typeIs slot_tuple_getitem.lookup
  (getItem_tuple (j := j) (Q := fun r s' => r = w /\ EP X pins σ Q r s') pl (by omega) (by omega) (by rw [List.size_toArray, ← hl]; exact h1) (by simpa using ew) ⟨rfl, fin⟩) hs
theorem ziJ : IxR X rIxS := by
 intro value slice pins s σ H x y v u Q I rx ry h hs
 obtain ⟨z, i, c, rfl, rfl, hz, he, q⟩ := h
 obtain ⟨t, rfl⟩ := rx
 obtain ⟨t', rfl⟩ := ry
 obtain ⟨j, h1, h2, h3, h4, h5⟩ := zdd he
 have hl : z.cps.toList.length = z.length := by simp [Str.length]
 rw [hl] at h1 h4 h5
 have hn := zdv
 exact tail_any (typeIs_str s z t) slot_str_getitem.lookup (getItem_str (c := c) (by
  have e1 : decide (i < -(2 ^ 63 : Int)) = false := decide_eq_false (by omega)
  have e2 : decide (i ≥ 2 ^ 63) = false := decide_eq_false (by omega)
  rw [e1, e2, Bool.or_false]) (by rw [h1]; simpa using h2) ⟨.str ⟨#[c]⟩, H, I.tok _, ⟨_, rfl⟩, q⟩) hs
def rIx (K : PySem.W.Frag) : R2 := fun x y H Q => rIxL K x y H Q ∨ rIxT K x y H Q ∨ rIxS x y H Q
theorem zgH : IxR X (rIx X.K) := zhd.or (ziI.or ziJ)
theorem zcH (lo hi : Option Int) (n : Nat) : (sliceBounds lo hi none n).1 = ((HT.sIx n 0 lo : Nat) : Int) /\ (sliceBounds lo hi none n).2.1 = ((HT.sIx n n hi : Nat) : Int) /\ (sliceBounds lo hi none n).2.2 = 1 := by
 refine ⟨?_, ?_, rfl⟩
 ·cases lo with
  | none => simp [sliceBounds, HT.sIx]
  | some i =>
   simp only [sliceBounds, HT.sIx, Option.getD_none, show (1 : Int) > 0 by decide, if_true]
   by_cases h : i < 0
   ·simp only [h, if_true] <;> omega
   ·simp only [h, if_false] <;> omega
 ·cases hi with
  | none => simp [sliceBounds, HT.sIx]
  | some i =>
   simp only [sliceBounds, HT.sIx, Option.getD_none, show (1 : Int) > 0 by decide, if_true]
   by_cases h : i < 0
   ·simp only [h, if_true] <;> omega
   ·simp only [h, if_false] <;> omega
theorem zcj (its : List Value) (lo hi : Option Int) : slicePick its.toArray lo hi none = ((its.drop (HT.sIx its.length 0 lo)).take (HT.sIx its.length its.length hi - HT.sIx its.length 0 lo)).toArray := by
 obtain ⟨h1, h2, h3⟩ := zcH lo hi its.toArray.size
 unfold slicePick
 rw [h1, h2, h3]
 simp only [sliceRange_one, pick_run, List.size_toArray] <;> rfl
def rSlL (K : PySem.W.Frag) : V -> Option Int -> Option Int -> Hp -> VK -> Prop := fun x lo hi H Q => ∃ a xs, x = .ref a /\ SqL K H a xs /\ ∀ p, H p = none -> Q (.ref p) (upd H p (.lst (cutV xs lo hi)))
theorem zhe : SlR X (rSlL X.K) := by
 intro pins s σ H x v vl vu lo hi sl Q I rx hs pl pu h
 obtain ⟨a, xs, rfl, hx, q⟩ := h
 cases rx
 obtain ⟨its, r, ht, hz⟩ := I.list hx
 have hlen := r.length
 refine ⟨"list", _, slot_list_getitem.lookup, ht.isList.typeIs, ?_⟩
 refine wpAny_getItem_list_slice ht.isList hs pl pu .none (by simp) ?_ (by rw [List.size_toArray] <;> omega)
 rw [zcj, ← hlen]
 refine ⟨.ref s.heap.objs.size, _, I.laid (t' := s.toks) (o := .lst (cutV xs lo hi)) (fun b ob q => Heap.get?_push_of_some _ q) (Nat.le_refl _) ?_, rfl, q _ (I.hok.fresh (Nat.le_refl _))⟩
 exact ⟨Nat.le_trans (zdc xs lo hi) hz, _, 0, (r.drop (HT.sIx xs.length 0 lo)).take (HT.sIx xs.length xs.length hi - HT.sIx xs.length 0 lo), Heap.get?_push_size _ rfl⟩
def tyV (K : PySem.W.Frag) (T : String) (x : V) (H : Hp) : Prop := match x with
 | .str _ => T = "str"
 | .int _ => T = "int"
 | .ref p => (T = "list" /\ ∃ xs, SqL K H p xs) ∨ (T = "tuple" /\ ∃ o, K.lookup p = some o /\ o.cls = .type "tuple" /\ o.dict = none) ∨
   (T = "dict" /\ ((∃ kvs, H p = some (.dK kvs)) ∨ ∃ kvs, H p = some (.dT kvs))) ∨ (T = "set" /\ ∃ S n, H p = some (.set S n))
 | _ => False
theorem ziK {pins : List (Addr × Obj)} {σ : St} {H : Hp} {s : Shared} {T : String} {x : V} {v : Value} (I : Inv X pins σ H s) (r : RelV x v) (ty : tyV X.K T x H) :
  s.TypeIs v T /\ ∀ a, v = .ref a -> ∃ ob, s.heap.get? a = some ob /\ ob.dict = none := by
 cases x with
 | str z =>
  obtain ⟨t, rfl⟩ := r
  cases (show T = "str" from ty)
  exact ⟨typeIs_str s z t, fun _ e => nomatch e⟩
 | int i =>
  obtain ⟨t, rfl⟩ := r
  cases (show T = "int" from ty)
  exact ⟨typeIs_int s i t, fun _ e => nomatch e⟩
 | ref p =>
  cases r
  rcases ty with ⟨rfl, xs, hq⟩ | ⟨rfl, o, hk, hc, hd⟩ | ⟨rfl, hk⟩ | ⟨rfl, S, n, hk⟩
  ·obtain ⟨its, _, pl, _⟩ := I.list hq
   refine ⟨pl.isList.typeIs, fun a e => ?_⟩
   cases e
   obtain ⟨o, n, e, c, hd, _⟩ := pl
   exact ⟨o, e, hd⟩
  ·refine ⟨⟨o, I.kIn p o hk, hc⟩, fun a e => ?_⟩
   cases e
   exact ⟨o, I.kIn _ o hk, hd⟩
  ·have z : ∃ o, s.heap.get? p = some o /\ o.ExactDict := by
    rcases hk with ⟨kvs, hk⟩ | ⟨kvs, hk⟩
    ·obtain ⟨_, _, _, _, o, _, _, e, ex, _⟩ := I.hok p _ hk
     exact ⟨o, e, ex⟩
    ·obtain ⟨_, _, _, _, o, _, _, e, ex, _⟩ := I.hok p _ hk
     exact ⟨o, e, ex⟩
   obtain ⟨o, e, ex⟩ := z
   refine ⟨⟨o, e, ex.1⟩, fun a e2 => ?_⟩
   cases e2
   exact ⟨o, e, ex.2.1⟩
  ·obtain ⟨o, _, _, _, e, ex, _⟩ := I.hok p _ hk
   refine ⟨⟨o, e, ex.1⟩, fun a e2 => ?_⟩
   cases e2
   exact ⟨o, e, ex.2.1⟩
 | _ => exact False.elim ty
def tBM (K : PySem.W.Frag) (T : String) (r : V -> List V -> Hp -> VK -> Prop) (to : TE) (t : TA) : TE := fun σ H Q => to σ H fun x H1 => tyV K T x H1 /\ t σ H1 fun xs H2 => r x xs H2 Q
variable {o e : Expr} {es : List Expr} {to : TE} {t : TA} {name : Str} {apos cpos : Pos} {T id : String} {r : V -> List V -> Hp -> VK -> Prop}
theorem ziL (pa : PlainAttrs T) (slot : Slot T name id) (hty : typeOf (.builtin id) = pure (.type "method_descriptor")) (hm : MtR X id r) (ho : PE X o to) (ha : PA X (e :: es) t)
  (hbase : attributeBase o name X.env (eval o X.env) = eval o X.env := by rfl)
  (hfew : ((backTo cpos (starEach (e :: es) X.env)).all (fun x => !x.1) && (backToKw cpos (keywordEach [] X.env)).all (fun x => x.1.isSome)
   && decide ((e :: es).length + ([] : List Keyword).length + (if ([] : List Keyword).isEmpty then 0 else 1) < 30)) = true := by rfl)
  (hline : (apos.endLine == cpos.line) = true := by rfl) (hs : starEach (e :: es) X.env = (false, eval e X.env) :: starEach es X.env := by rfl) (hplain : (backTo cpos (starEach es X.env)).any (·.1) = false := by rfl) :
  PE X (.Call (.Attribute o name apos) (e :: es) [] cpos) (tBM X.K T r to t) := by
 intro pins s σ H Q I h
 refine wpAny_Call_method_late hbase hfew hline rfl (thn (ho pins s σ H _ I h) fun v s1 ⟨x, H1, I1, r1, ty, q1⟩ => ?_)
 obtain ⟨h1, h2⟩ := ziK I1 r1 ty
 refine ⟨T, id, pa, slot, hty, h1, h2, ?_⟩
 have hA := ha cpos pins s1 σ H1 _ I1 q1
 rw [hs] at hA ⊢
 refine Calls.callWith_builtin (by show (false || (backTo cpos (starEach es X.env)).any (·.1)) = false; rw [hplain] <;> rfl) (Calls.evalArgs_plain ?_)
 exact thn hA fun us s2 ⟨vs, H2, I2, r2, q2⟩ => hm pins s2 σ H2 x vs v us Q I2 r1 r2 q2
end
end L2
namespace L2
open PySem PySem.Spec PyProof.Rows
def MtM (X : Cx) (id : String) (r : V -> List V -> Hp -> VK -> Prop) : Prop :=
 ∀ (pins : List (Addr × Obj)) (s : Shared) (σ : St) (H : Hp) (x : V) (xs : List V) (v : Value) (us : List Value) (Q : VK), Inv X pins σ H s -> RelV x v -> Vals xs us -> r x xs H Q ->
  wpAny (model X.prog X.w) X.A (call (.builtin id) (v :: us)) (EP X pins σ Q) X.xe s
theorem Vals.one : ∀ {x : V} {us : List Value}, Vals [x] us -> ∃ u, us = [u] /\ RelV x u
 | _, _, .cons r .nil => ⟨_, rfl, r⟩
theorem Vals.rep {xs : List V} {us : List Value} (h : Vals xs us) : ∀ k : Nat, Vals (List.replicate k xs).flatten (List.replicate k us).flatten
 | 0 => .nil
 | k + 1 => by
  rw [List.replicate_succ, List.replicate_succ, List.flatten_cons, List.flatten_cons]
  exact Vals.append h (Vals.rep h k)
theorem zcI (its : List Value) : ∀ (k : Nat) (acc : List Value),
  List.foldl (fun x1 x2 => x1 ++ x2) acc.toArray (List.replicate k its.toArray) = (acc ++ (List.replicate k its).flatten).toArray
 | 0, acc => by simp
 | k + 1, acc => by
  have e : acc.toArray ++ its.toArray = (acc ++ its).toArray := by simp
  have e2 : (acc ++ its) ++ (List.replicate k its).flatten = acc ++ (List.replicate (k + 1) its).flatten := by
   rw [List.replicate_succ, List.flatten_cons, List.append_assoc]
  rw [← e2, ← zcI its k (acc ++ its), ← e, List.replicate_succ, List.foldl_cons]
section
variable {X : Cx} {pins : List (Addr × Obj)} {σ : St} {H : Hp} {s : Shared} {l b : Addr} {xs ys zs : List V}
theorem Inv.lset {its its' : List Value} {n : Nat} {f : Array Value -> Array Value} {t' : Nat} (I : Inv X pins σ H s) (hH : H l = some (.lst xs))
  (e : s.heap.get? l = some { cls := .type "list", data := .seq its.toArray n }) (hf : f its.toArray = its'.toArray) (hv : Vals ys its') (hz : ys.length <= sizeLine) :
  Inv X pins σ (upd H l (.lst ys)) { s with heap := s.heap.update l (Obj.mapSeq f), toks := t' } := by
 have q := PySem.IsL.update e f
 rw [hf] at q
 refine I.write (x := l) (e := l) (by rw [hH]; exact trivial) (.inl rfl) (fun b' u hb hu => (Heap.get?_update_other s.heap (Obj.mapSeq f) (Ne.symm hb)).trans hu) ⟨_, q⟩ ?_
 exact ⟨hz, its', _, hv, q⟩
theorem Inv.lnew {its : List Value} {t' : Nat} (I : Inv X pins σ H s) (hv : Vals ys its) (hz : ys.length <= sizeLine) :
  Inv X pins σ (upd H s.heap.objs.size (.lst ys)) { s with heap := s.heap.push { cls := .type "list", data := .seq its.toArray }, toks := t' } :=
 I.laid (fun _ _ q => Heap.get?_push_of_some _ q) (Nat.le_refl _) ⟨hz, its, 0, hv, Heap.get?_push_size _ rfl⟩
theorem Inv.fresh (I : Inv X pins σ H s) : H s.heap.objs.size = none := I.hok.fresh (Nat.le_refl _)
theorem Inv.lstM (I : Inv X pins σ H s) (hH : H l = some (.lst xs)) : xs.length <= sizeLine /\ ∃ (its : List Value) (n : Nat), Vals xs its /\ xs.length = its.length /\ s.heap.get? l = some { cls := .type "list", data := .seq its.toArray n } := by
 obtain ⟨z, its, n, r, e⟩ := I.hok l _ hH
 exact ⟨z, its, n, r, r.length, e⟩
theorem zfN {n : Nat} (h : n <= sizeLine) : Builtin.List.listTooLong n = false := by
 unfold Builtin.List.listTooLong
 exact decide_eq_false (by omega)
end
section
variable {X : Cx}
def zhf : V -> List V -> Hp -> VK -> Prop := fun x vs H Q => ∃ l xs y, x = .ref l /\ vs = [y] /\ H l = some (.lst xs) /\ xs.length < sizeLine /\ Q .non (upd H l (.lst (xs ++ [y])))
theorem zcJ : MtM X "list.append" zhf := by
 intro pins s σ H x vs v us Q I rx rv h
 obtain ⟨l, xs, y, rfl, rfl, hH, hz, q⟩ := h
 cases rx
 obtain ⟨u, rfl, ru⟩ := rv.one
 obtain ⟨z, its, n, r, hl, e⟩ := I.lstM hH
 refine call_meets F.slot_list_append ⟨_, e, rfl⟩ F.entry_list_append (F.args_list_append_2 _ _) (PySem.list_append l its.toArray n u (by rw [List.size_toArray]; omega)) ⟨e, ?_⟩
 refine ⟨.non, _, I.lset (its' := its ++ [u]) hH e (by simp) (r.append (.cons ru .nil)) ?_, rfl, q⟩
 rw [List.length_append, List.length_singleton]
 omega
theorem zhg {α : Type} (xs : List α) (k : Nat) : (List.replicate k xs).flatten.length = k * xs.length := by
 induction k with
 | zero => simp
 | succ k ih => rw [List.replicate_succ, List.flatten_cons, List.length_append, ih, Nat.succ_mul, Nat.add_comm]
end
section
variable {prog : Program} {w : World} {A : Around} {E : Value -> Shared -> Prop} {s : Shared}
set_option maxRecDepth 100000 in
end
section
variable {X : Cx}
end
end L2
namespace Att
open PySem PySem.W PySem.Calls PyProof.Rows
theorem zbS {P : Params} {h : Heap} : ∀ (ns : List Int) (vs : List Value), WellAll P h vs (ns.map WData.int) -> IntsAre vs ns := by
 intro ns
 induction ns with
 | nil =>
  intro vs w
  rw [List.map_nil] at w
  cases w
  exact .nil
 | cons n ns ih =>
  intro vs w
  rw [List.map_cons] at w
  cases w with
  | cons a b =>
   cases a
   exact .cons _ _ (ih _ b)
theorem zeD {l : OpenLaw} {n : Nat} (hn : l.most = some n) {P : Params} {h : Heap} {args : List WData} {vals : List Value}
  (hpre : l.row.toRowW.claim.pre args = true) (hwl : WellAll P h vals args) :
  ∃ a vs ns, vals = [Value.ref a] /\ args = [WData.list (ns.map WData.int)] /\ h.get? a = some { cls := .type "list", data := .seq vs.toArray } /\ IntsAre vs ns /\ ns.length <= n := by
 have hsh : WShape.hasAll [] args [.list .int] = true := (pre_splitW hpre).1
 have hc : l.pre.holds [] { args := args } = true := (pre_splitW hpre).2
 obtain ⟨d, r, rfl, h1, h2⟩ := hasAllW_cons hsh
 obtain rfl := hasAllW_nil h2
 obtain ⟨xs, rfl, h3⟩ := hasW_list h1
 obtain ⟨ns, rfl⟩ := items_int h3
 have hlen : ns.length <= n := by
  unfold OpenLaw.pre at hc
  have h4 : (WTm.not (.lt (.lit (.int (n : Int))) (.len (.arg 0)))).holds [] { args := [.list (ns.map .int)] } = true := by
   have h4 := (holds_andW hc).1
   rw [hn] at h4
   exact h4
  have h5 := condW_of h4 (w_not (w_lt w_lit (w_len_list (w_arg rfl))))
  rw [List.length_map] at h5
  refine Nat.le_of_not_lt fun q => ?_
  have q' : (n : Int) < ((ns.length : Nat) : Int) := by omega
  first
   | (rw [decide_eq_true q'] at h5; exact absurd h5 (by decide))
   | (simp at h5; omega)
 cases hwl with
 | cons w1 w2 =>
  cases w2
  cases w1 with
  | list ho hall => exact ⟨_, _, ns, rfl, rfl, ho, zbS ns _ hall, hlen⟩
theorem zeE (l : OpenLaw) (args : List WData) : l.row.toRowW.claim.post args (.bool true) args = true :=
 postW_of (r := l.row.toRowW) (X := (true == true))
  (show WShape.has [] (.bool true) .bool = true by first | rfl | decide | simp [WShape.has, WShape.arms, WShape.armsAll])
  (show (WTm.eq .res (.lit (.bool true))).value [] { args := args, res := some (.bool true), after := args } = some (.bool (true == true)) from w_eq_bool (w_res rfl) w_lit) rfl
theorem attach_call {l : OpenLaw} {n : Nat} {q : Program} {loose : List Str} {XP : (Str -> Option Value) -> Heap -> Prop} {YP : World -> Heap -> Prop} {d : DefRec}
  (hn : l.most = some n) (hdf : d.params.defaults = [])
  (call : ∀ (w : World) (s₀ s₁ : Shared) (mg mb : Str -> Option Value) (fa : Addr) (o : Obj) (pm cd doc : Value) (a : Addr) (vs : List Value) (ns : List Int),
   Ground q loose [] XP w s₀ mg mb s₁.heap -> YP w s₁.heap ->
   s₁.heap.get? fa = some o -> o.data = .func (docDef d.name d.params d.body d.scope pm cd doc) -> s₁.heap.CodeRec cd d.name -> mg d.name = some (.ref fa) ->
   s₁.heap.get? a = some { cls := .type "list", data := .seq vs.toArray } -> IntsAre vs ns -> ns.length <= n -> s₁.gens = #[] ->
   codeAny (model l.prog w) callerA (.call (.ref fa) ⟨[.ref a], []⟩) (fun r s' => r = .ok (.ret (.bool true)) /\ OldK s₁.heap s'.heap /\ s'.os = s₁.os /\ AllBare s'.gens) s₁) :
  WalkO q loose XP YP l.row.toRowW d [] (fun f vs => PySem.call f vs) := by
 intro w s₀ s₁ mg mb G Y fa o pm cd doc dV kV ho hd hcd hD hmg hg args vals as hpre hlay hrd hwl hlo
 obtain rfl : dV = .none := Dflts.none hD hdf
 obtain rfl : kV = .none := Dflts.noKw hD
 obtain ⟨a, vs, ns, rfl, rfl, hobj, hints, hlen⟩ := zeD hn hpre hwl
 refine enter_call (codeAny_mono (call w s₀ s₁ mg mb fa o pm cd doc a vs ns G Y ho (fd_plain hd) hcd hmg hobj hints hlen hg) fun r s' hq => ?_)
 obtain ⟨rfl, h2, h3, h4⟩ := hq
 exact ⟨.inl ⟨.bool true, .bool true, [], rfl, fun _ => rfl, .bool true, zeE l _, fun _ => ⟨List.Pairwise.nil, fun _ hm => (nomatch hm)⟩⟩, h2, h3, h4⟩
section
variable {prog : Program} {w : World} {A : Around} {E : Value -> Shared -> Prop} {s : Shared} {K : Frag}
end
end Att
namespace L2
open PySem PySem.Spec PyProof.Rows
theorem zcK : ∀ {vs : List Value} {ns : List Int}, IntsAre vs ns -> Vals (ns.map V.int) vs
 | _, _, .nil => .nil
 | _, _, .cons n t h => .cons ⟨t, rfl⟩ (zcK h)
def Only (H : Hp) : Prop := ∀ b, H b = none ∨ ∃ o xs, H b = some (.frz o (.lst xs))
theorem zfO {P : Program} {w : World} {K : PySem.W.Frag} {mg mb : Str -> Option Value} {CX : CXT} {k : Nat} {fa a : Addr} {fd : FuncData} {x : Str} {sp : Sp} {s₁ : Shared} {vs : List Value} {ns : List Int}
  (KX : K.In s₁.heap) (hns : s₁.heap.Ns mainGlobals mg) (hb : s₁.heap.Ns builtinsNs mb) (hbb : ∀ x : Str, x ≠ "__name__" -> mb x = bootBuiltins x) (hlim : s₁.heap.NoLimit) (hg : s₁.gens = #[])
  (ha : s₁.heap.get? a = some { cls := .type "list", data := .seq vs.toArray }) (hi : IntsAre vs ns) (hl : ns.length <= sizeLine) (hr : Room k callerA)
  (F : ∀ base : Heap, K.In base -> base.Ns mainGlobals mg -> FnOk P w K mg base CX k fa fd [x] sp) (hbind : ∀ (s : Shared) (u : Value), BindsTo s fd ⟨[u], []⟩ [(x, u)])
  (hsp : ∀ H : Hp, Only H -> SqL K H a (ns.map V.int) -> sp [.ref a] H (fun v _ => v = .bl true) fun _ _ _ => False)
  (hCX : ∀ H e s', CX [] H s₁ (fun _ _ _ => False) e s' -> False) :
  codeAny (model P w) callerA (.call (.ref fa) ⟨[.ref a], []⟩) (fun r s' => r = .ok (.ret (.bool true)) /\ OldK s₁.heap s'.heap /\ s'.os = s₁.os /\ AllBare s'.gens) s₁ := by
 have rv := zcK hi
 have lenV := hi.length
 have core : ∀ H : Hp, Only H -> SqL K H a (ns.map V.int) -> HOk P w H s₁.heap -> (∀ b, H b ≠ none -> b = a) -> (H a ≠ none -> K.lookup a = none) ->
   codeAny (model P w) callerA (.call (.ref fa) ⟨[.ref a], []⟩) (fun r s' => r = .ok (.ret (.bool true)) /\ OldK s₁.heap s'.heap /\ s'.os = s₁.os /\ AllBare s'.gens) s₁ := by
  intro H hO hS hok hA hK
  have base_of : ∀ {b : Addr} {o : Obj}, s₁.heap.get? b = some o -> H b = none -> (hidT s₁.heap H).get? b = some o := fun e n => zfE e n
  have noA : ∀ {b : Addr} {o : Obj} {es : Array DictEntry} {ep : Nat}, s₁.heap.get? b = some o -> o.data = .dict es ep -> H b = none := fun {b o es ep} e d => by
   cases q : H b with
   | none => rfl
   | some u =>
    have e' : b = a := hA b (by rw [q]; simp)
    subst e'
    rw [ha] at e; cases e
    have d' : Data.seq vs.toArray _ = Data.dict es ep := d
    cases d'
  have nsK : ∀ {b : Addr} {m : Str -> Option Value}, s₁.heap.Ns b m -> (hidT s₁.heap H).Ns b m := fun {b m} ⟨o, es, ep, e, d, r⟩ => ⟨o, es, ep, base_of e (noA e d), d, r⟩
  have hKb : K.In (hidT s₁.heap H) := fun b o e => base_of (KX b o e) (by
   cases q : H b with
   | none => rfl
   | some u =>
    have e' : b = a := hA b (by rw [q]; simp)
    subst e'
    rw [hK (by rw [q]; simp)] at e; cases e)
  have hM : Mod K mg (hidT s₁.heap H) := ⟨hKb, nsK hns, ⟨mb, nsK hb, hbb⟩, let ⟨mc, h1, h2⟩ := hlim; ⟨mc, nsK h1, h2⟩⟩
  have e0 : Env0 P w K mg (hidT s₁.heap H) callerA [] s₁ H := ⟨rfl, hM, fun b o e => zg2 e, Nat.le_of_eq (zeq _ _), trivial, fun b hb => absurd (show b ∈ ([] : List Addr) from hb) (by simp), hok, .of_eq hg⟩
  refine codeAny_mono ((F _ hKb (nsK hns)).run callerA [] s₁ H ⟨[.ref a], []⟩ [.ref a] [.ref a] _ _ hr e0 (hbind s₁ (.ref a)) (.cons rfl .nil) (hsp H hO hS)) fun r s' h => ?_
  cases r with
  | error e => exact (hCX H e s' h).elim
  | ok fl =>
   cases fl with
   | next => exact False.elim h
   | brk => exact False.elim h
   | cont => exact False.elim h
   | ret u =>
    obtain ⟨v, H', os, bare, un, hok', r', q⟩ := h
    have q' : v = .bl true := q
    subst q'
    obtain rfl : u = Value.bool true := r'
    refine ⟨rfl, OldK.of_keep fun b o e => ?_, os, bare⟩
    cases q : H b with
    | none => exact un.keep b o e q (by intro z; exact absurd (show b ∈ ([] : List Addr) from z) (by simp)) (by simp)
    | some u =>
     rcases hO b with z | ⟨ob, xs, z⟩
     ·rw [q] at z; cases z
     ·have z2 := un.frzs b ob _ z
      obtain ⟨e1, _⟩ := hok b _ z
      obtain ⟨e2, _⟩ := hok' b _ z2
      rw [e] at e1; cases e1
      exact e2
 cases hk : K.lookup a with
 | some o =>
  have e := KX a o hk
  rw [ha] at e
  cases e
  refine core (fun _ => none) (fun _ => .inl rfl) (.inr ⟨_, vs.toArray, _, hk, rfl, rfl, rfl, by rw [List.size_toArray, lenV]; exact hl, by simpa using rv⟩) (fun b u z => by have z' : (none : Option HO) = some u := z; cases z') (fun b z => absurd rfl z) fun z => absurd rfl z
 | none =>
  refine core (fun b => if b = a then some (.frz { cls := .type "list", data := .seq vs.toArray } (.lst (ns.map V.int))) else none) (fun b => ?_) (.inl (.inr ⟨{ cls := .type "list", data := .seq vs.toArray }, if_pos rfl⟩)) (fun b u z => ?_) (fun b z => ?_) fun _ => hk
  ·by_cases hb : b = a
   ·exact .inr ⟨_, _, if_pos hb⟩
   ·exact .inl (if_neg hb)
  ·by_cases hb : b = a
   ·have z' := (if_pos hb).symm.trans z
    cases z'
    subst hb
    exact ⟨ha, by rw [List.length_map]; exact hl, vs, _, rv, ha⟩
   ·have z' := (if_neg hb).symm.trans z
    cases z'
  ·by_cases hb : b = a
   ·exact hb
   ·exact absurd (if_neg hb) z
end L2
namespace L2
open PySem PySem.Spec PyProof.Rows
end L2
namespace L2
open PySem PySem.Spec PyProof.Rows
def zaS (s : Stmt) : Arguments := match s with
 | .FunctionDef _ a _ _ _ _ _ _ _ _ => a
 | _ => { posonlyargs := [], args := [], vararg := none, kwonlyargs := [], kw_defaults := [], kwarg := none, defaults := [] }
def zaA (s : Stmt) : List Stmt := match s with
 | .FunctionDef _ _ b _ _ _ _ _ _ _ => b
 | _ => []
def zag (s : Stmt) : Scope := match s with
 | .FunctionDef _ _ _ _ _ _ sc _ _ _ => sc
 | _ => { kind := .function, names := [], isGenerator := false, isCoroutine := false }
abbrev CX0 : CXT := fun _ _ _ _ _ _ => False
abbrev E0 : XK := fun _ _ _ => False
theorem ziM {X : Cx} : zez CX0 X E0 := fun _ _ _ _ _ _ _ h => h.elim
structure Fun (K : PySem.W.Frag) (x qual : Str) (st : Stmt) (f : Addr) (fd : FuncData) : Prop where
 ex : ∃ (oc : Value) (od : Option Addr) (kV doc pm : Value) (an : Option Addr) (cdv ct : Value) (osl : Array (Option Value)),
  fd = PySem.W.fnOf x qual (zaS st) (zaA st) (zag st) .none kV doc pm an cdv ct /\ K.lookup f = some ⟨oc, od, .func fd, osl⟩ /\ PySem.W.codeIn K cdv qual = true
 kp : PySem.W.keepIn K (.ref f) = true
section
variable {P : Program} {w : World} {K : PySem.W.Frag} {mg : Str -> Option Value} {base : Heap}
theorem Fun.ok {x qual : Str} {st : Stmt} {f : Addr} {fd : FuncData} {N ps : List Str} {k : Nat} {sp : Sp} (F : Fun K x qual st f fd) (S : zbB N ps (zag st)) (len : ∀ vs H Q E, sp vs H Q E -> vs.length = ps.length)
  (hbody : ∀ (cdv : Value) (A : Around) (outer : List Env) (s : Shared) (H : Hp) (vs : List V) (Q : VK) (E : XK), Room k (A.deeper (envOfC qual (zag st) s.heap.objs.size f cdv)) -> sp vs H Q E ->
   ∃ t, PSs (cxOf CX0 P w K mg base N qual (zag st) f cdv A outer s H E).nox (zaA st) t /\ t { nx := fun _ H' => Q .non H', rt := Q } (zbR N vs) H) : FnOk P w K mg base CX0 (k + 1) f fd ps sp := by
 obtain ⟨oc, od, kV, doc, pm, an, cdv, ct, osl, rfl, lk, hcd⟩ := F.ex
 refine ziG lk hcd S len fun A outer s H vs Q E hr hsp => ?_
 obtain ⟨t, h, q⟩ := hbody cdv A outer s H vs Q E hr hsp
 exact ⟨t, h.nox, q⟩
theorem Fun.binds {x qual : Str} {st : Stmt} {f : Addr} {fd : FuncData} {ps : List Str} (F : Fun K x qual st f fd)
  (h : ∀ (kV doc pm : Value) (an : Option Addr) (cdv ct : Value) (us : List Value), us.length = ps.length -> bindArgs (PySem.W.fnOf x qual (zaS st) (zaA st) (zag st) .none kV doc pm an cdv ct) ⟨us, []⟩ = pure (ps.zip us)) : za8 K fd ps [] := by
 obtain ⟨oc, od, kV, doc, pm, an, cdv, ct, osl, rfl, lk, hcd⟩ := F.ex
 exact .all (h kV doc pm an cdv ct)
end
section
variable {X : Cx}
end
def Same (H H' : Hp) : Prop := ∀ b o, H b = some o -> H' b = some o
theorem Same.refl (H : Hp) : Same H H := fun _ _ h => h
theorem Same.trans {H H1 H2 : Hp} (a : Same H H1) (b : Same H1 H2) : Same H H2 := fun c o h => b c o (a c o h)
theorem Same.free {H H' : Hp} (e : Same H H') {l : Addr} (h : H' l = Option.none) : H l = Option.none := by
 cases q : H l with
 | none => rfl
 | some o =>
  rw [e l o q] at h
  cases h
theorem Same.seq {K : PySem.W.Frag} {H H' : Hp} {a : Addr} {xs : List V} (e : Same H H') (h : SqL K H a xs) : SqL K H' a xs := by
 rcases h with (h | ⟨o, h⟩) | h
 ·exact .inl (.inl (e _ _ h))
 ·exact .inl (.inr ⟨o, e _ _ h⟩)
 ·exact .inr h
end L2
namespace L2
open PySem PySem.Spec PyProof.Rows
section
variable {X : Cx} {pins : List (Addr × Obj)} {σ : St} {H : Hp} {s : Shared} {h' : Heap}
theorem Inv.turnedNew {t' : Nat} {fp : List Addr} {p : Addr} {o : HO} (I : Inv X pins σ H s) (hf : ∀ b ∈ fp, FpOk X pins H b)
  (k : ∀ b o, b ∉ fp -> s.heap.get? b = some o -> h'.get? b = some o) (hp : s.heap.objs.size <= p) (new : zaR X.prog X.w (upd H p o) h' p o) :
  Inv X pins σ (upd H p o) { s with heap := h', toks := t' } := by
 have hn : H p = none := I.hok.fresh hp
 have trk : ∀ b u, H b = some u -> b ∉ fp := fun b u e z => by rw [(hf b z).1] at e; cases e
 refine I.step (g' := s.gens) (d' := s.drawn) (ch := fp) (fun b hb => ?_) (fun b o _ _ hc e _ => k b o hc e) (fun b o _ _ hc e _ => ⟨o.slots, k b o hc e⟩)
  (fun b o _ e n => by rw [zak (Nat.ne_of_lt (Nat.lt_of_lt_of_le (Heap.lt_size e) hp))]; exact n) (fun b o hc e => ⟨o, k b o hc e⟩)
  (fun b xs e => by rw [zak (zan e hn)]; exact e) (fun b ob u e => by rw [zak (zan e hn)]; exact e) (fun b ps e => ⟨#[], by rw [zak (zan e hn), e]; simp⟩)
  (fun m hm => ?_) (fun b u e => ?_) I.bare
 ·obtain ⟨_, f1, _, f3, f4, f5⟩ := hf b hb
  exact ⟨f3, f1, f4, f5⟩
 ·obtain ⟨ob, es, ep, ho, r⟩ := hm
  exact ⟨ob, es, ep, k _ ob (fun z => (hf _ z).2.1 rfl) ho, r⟩
 ·by_cases hb : b = p
  ·subst hb; rw [zai] at e; cases e; exact new
  ·rw [zak hb] at e
   refine (I.hok b u e).stay (fun c v hc q => k c v ?_ q) (fun c q => by rw [zak (zan q hn)]; exact q) fun c xs q => by rw [zak (zan q hn)]; exact q
   rcases hc with z | z
   ·rw [z]; exact trk b u e
   ·exact trk c _ z
theorem Inv.turnedL {t' : Nat} {fp : List Addr} (I : Inv X pins σ H s) (hf : ∀ b ∈ fp, FpOk X pins H b)
  (k : ∀ b o, b ∉ fp -> s.heap.get? b = some o -> h'.get? b = some o) : Inv X pins σ H { s with heap := h', toks := t' } := by
 have trk : ∀ b u, H b = some u -> b ∉ fp := fun b u e z => by rw [(hf b z).1] at e; cases e
 refine I.step (g' := s.gens) (d' := s.drawn) (ch := fp) (fun b hb => ?_) (fun b o _ _ hc e _ => k b o hc e) (fun b o _ _ hc e _ => ⟨o.slots, k b o hc e⟩)
  (fun _ _ _ _ n => n) (fun b o hc e => ⟨o, k b o hc e⟩) (fun _ _ e => e) (fun _ _ _ e => e) (fun b ps e => ⟨#[], by rw [e]; simp⟩) (fun m hm => ?_) (fun b u e => ?_) I.bare
 ·obtain ⟨_, f1, _, f3, f4, f5⟩ := hf b hb
  exact ⟨f3, f1, f4, f5⟩
 ·obtain ⟨ob, es, ep, ho, r⟩ := hm
  exact ⟨ob, es, ep, k _ ob (fun z => (hf _ z).2.1 rfl) ho, r⟩
 ·refine (I.hok b u e).stay (fun c v hc q => k c v ?_ q) (fun c q => q) fun c xs q => q
  rcases hc with z | z
  ·rw [z]; exact trk b u e
  ·exact trk c _ z
end
def Ite (K : PySem.W.Frag) (a : Addr) : It :=
 ⟨fun i H => ∃ xs x, SqL K H a xs /\ xs[i]? = some x,
  fun i H v H' => ∃ p x, H p = none /\ v = .ref p /\ (∀ xs, SqL K H a xs -> xs[i]? = some x) /\ H' = upd H p (.tup [.int i, x]),
  fun i H => ∃ xs, SqL K H a xs /\ xs.length <= i⟩
theorem zeF {P : Program} {w : World} {K : PySem.W.Frag} {elts : List Expr} {x1} {tp : Pos} (a e it : Addr) (hne : e ≠ it) :
  Turn P w K (.Tuple elts x1 tp) (Ite K a) [e, it] e (fun i h => (∃ old, IsEnum h e it i old) /\ h.IsListIter it a i) where
 mem := by simp
 obj := fun i h st b hb => by
  obtain ⟨⟨old, he⟩, o, ho, c, d⟩ := st
  have hb' : b = e ∨ b = it := by simpa using hb
  rcases hb' with rfl | rfl
  ·exact ⟨_, he, fun v z => by
    have z' : Data.fields _ = Data.cell v := z
    cases z'⟩
  ·exact ⟨o, ho, fun v z => by rw [d] at z; cases z⟩
 keep := fun i h h' st k => by
  obtain ⟨⟨old, he⟩, hi⟩ := st
  exact ⟨⟨old, k e (by simp) _ he⟩, hi.at fun o q => k it (by simp) o q⟩
 item := by
  intro X hP hw hK hc i pins s σ H E I hf st hg
  subst hP hw hK
  obtain ⟨⟨old, he⟩, hi⟩ := st
  obtain ⟨xs, x, hq, hx⟩ := hg
  obtain ⟨its, rv, p, hz⟩ := I.list hq
  obtain ⟨u, hu, ru⟩ := rv.get hx
  refine wpAny_pyNext_enum_item he hi p.isList (x := u) (by simpa using hu) hne fun h1 out hi1 ht hsz kk => ?_
  refine ⟨_, rfl, wpAny_letOwnedTupleGo_enum out fun h2 he2 hs2 => ?_⟩
  have hel : e < s.heap.objs.size := Heap.lt_size he
  have hs2' : Heap.SameBut e h1 h2 := hs2
  have ht2 : h2.get? s.heap.objs.size = some { cls := .type "tuple", data := .seq #[.int i s.toks, u] } := (hs2'.2 _ (Nat.ne_of_gt hel)).trans ht
  have kk2 : ∀ b o, b ∉ [e, it] -> s.heap.get? b = some o -> h2.get? b = some o := fun b o hb q => by
   have hbe : b ≠ e := fun z => hb (by simp [z])
   have hbi : b ≠ it := fun z => hb (by simp [z])
   exact (hs2'.2 b hbe).trans (kk b o hbe hbi q)
  have hn : H s.heap.objs.size = none := I.hok.fresh (Nat.le_refl _)
  have I2 : Inv X pins σ (upd H s.heap.objs.size (.tup [.int i, x])) { s with heap := h2, toks := s.toks + 1 } :=
   I.turnedNew (fp := [e, it]) hf kk2 (Nat.le_refl _) ⟨by show 2 <= sizeLine; decide, [.int i s.toks, u], .cons ⟨_, rfl⟩ (.cons ru .nil), ⟨_, ht2, rfl, _, rfl⟩⟩
  refine ⟨.ref s.heap.objs.size, _, I2, rfl, ⟨_, x, hn, rfl, fun ys hy => by rw [I.list_inj hy hq]; exact hx, rfl⟩, ⟨⟨u, ?_⟩, ?_⟩, fun b hb => ?_⟩
  ·have := he2
   simpa using this
  ·have hi2 : h2.IsListIter it a (i + 1) := hi1.at fun o q => (hs2'.2 it (Ne.symm hne)).trans q
   exact hi2
  ·have fr := (hf b hb)
   have hlt : b < s.heap.objs.size := by
    have hb' : b = e ∨ b = it := by simpa using hb
    rcases hb' with rfl | rfl
    ·exact hel
    ·obtain ⟨o, ho, _⟩ := hi; exact Heap.lt_size ho
   rw [zak (Nat.ne_of_lt hlt)]
   exact fr.1
 done := by
  intro X hP hw hK hc i pins s σ H E I hf st hg
  subst hP hw hK
  obtain ⟨⟨old, he⟩, hi⟩ := st
  obtain ⟨xs, hq, hx⟩ := hg
  obtain ⟨its, rv, p, hz⟩ := I.list hq
  have hl := rv.length
  exact wpAny_pyNext_enum_end (I.ok.hd hc) he hi p.isList (by simp; omega) fun h' eb => ⟨rfl, I.turnedL (t' := s.toks) hf fun b o hb q => eb b o (fun z => hb (by simp [z])) q⟩
 self := fun _ _ _ _ _ st h => by
  obtain ⟨⟨old, he⟩, _⟩ := st
  exact wpAny_pyIter_enum he h
section
variable {X : Cx}
def zjZ (K : PySem.W.Frag) (ta : TA) : TI := fun σ H R => ta σ H fun vs H1 => ∃ a xs, vs = [.ref a] /\ SqL K H1 a xs /\ R (Ite K a) H1
theorem zhh {a : Expr} {ta : TA} {p pos : Pos} {elts : List Expr} {x1} {tp : Pos} (hg : Gl X "enumerate") (hm : X.mg "enumerate" = none) (ha : PA X [a] ta)
  (hs : starEach [a] X.env = [(false, eval a X.env)] := by rfl) : PI X (.Tuple elts x1 tp) (.Call (.Name "enumerate" p) [a] [] pos) (zjZ X.K ta) := by
 intro pins s σ H R I h
 refine Call_ (zb8 I hg hm boot_enumerate (PyProof.Rows.callWith_type1 (thn (ha pos pins s σ H _ I h) fun us s1 ⟨vs, H1, I1, r1, q1⟩ => ?_) hs rfl))
 obtain ⟨l, xs, e, hq, q⟩ := q1
 subst e
 cases r1 with
 | cons r rr =>
  cases rr
  cases (show _ = Value.ref l from r)
  obtain ⟨its, rv, pl, hz⟩ := I1.list hq
  refine call_enumerate_list pl.isList fun h' he hi hsz kk => ?_
  have I2 : Inv X pins σ H1 { s1 with heap := h' } := I1.kept (t' := s1.toks) kk
  refine wpAny_pyIter_enum he ?_
  refine ⟨s1.heap.objs.size + 1, [s1.heap.objs.size + 1, s1.heap.objs.size], _, _, H1, rfl, I2, zeF l _ _ (Nat.succ_ne_self _), ⟨⟨_, he⟩, hi⟩, fun b hb => ?_, q⟩
  have hb' : b = s1.heap.objs.size + 1 ∨ b = s1.heap.objs.size := by simpa using hb
  rcases hb' with rfl | rfl
  ·exact I1.fpOk (Nat.le_succ _) (I1.hok.fresh (Nat.le_succ _))
  ·exact I1.fpOk (Nat.le_refl _) (I1.hok.fresh (Nat.le_refl _))
end
end L2
namespace L2
open PySem PySem.Spec PyProof.Rows
section
variable {κ : Type} [DecidableEq κ]
def putK (kvs : List (κ × V)) (k : κ) (v : V) : List (κ × V) :=
 if (kvs.any fun kv => decide (kv.1 = k)) = true then kvs.map (fun kv => if kv.1 = k then (kv.1, v) else kv) else kvs ++ [(k, v)]
theorem zdf (kvs : List (κ × V)) (k : κ) (v : V) : (putK kvs k v).length <= kvs.length + 1 := by
 unfold putK
 split
 ·rw [List.length_map]; omega
 ·rw [List.length_append, List.length_cons, List.length_nil]; omega
theorem KV.any {kvs : List (κ × V)} {vs : List (κ × Value)} (r : KV kvs vs) (k : κ) : (kvs.any fun kv => decide (kv.1 = k)) = vs.any fun kv => decide (kv.1 = k) := by
 unfold KV at r
 induction r with
 | nil => rfl
 | cons h t ih => rw [List.any_cons, List.any_cons, ih, h.1]
theorem KV.repl {kvs : List (κ × V)} {vs : List (κ × Value)} (r : KV kvs vs) (k : κ) {y : V} {u : Value} (ry : RelV y u) :
  KV (kvs.map fun kv => if kv.1 = k then (kv.1, y) else kv) (vs.map fun kv => if kv.1 = k then (kv.1, u) else kv) := by
 unfold KV at r ⊢
 induction r with
 | nil => exact .nil
 | @cons p q ps qs h t ih =>
  rw [List.map_cons, List.map_cons]
  refine .cons ?_ ih
  obtain ⟨h1, h2⟩ := h
  by_cases e : p.1 = k
  ·rw [if_pos e, if_pos (h1.symm.trans e)]; exact ⟨h1, ry⟩
  ·rw [if_neg e, if_neg (fun z => e (h1.trans z))]; exact ⟨h1, h2⟩
theorem KV.put {kvs : List (κ × V)} {vs : List (κ × Value)} (r : KV kvs vs) (k : κ) {y : V} {u : Value} (ry : RelV y u) : KV (putK kvs k y) (stored vs k u) := by
 unfold putK stored
 rw [r.any k]
 by_cases e : (vs.any fun kv => decide (kv.1 = k)) = true
 ·rw [if_pos e, if_pos e]; exact r.repl k ry
 ·rw [if_neg e, if_neg e]; exact Paired.snoc r ⟨rfl, ry⟩
end
theorem zj0 {P : Program} {w : World} {k : Key} {u : Value} (r : RelV (kV k) u) : (zaN P w).is k u = true := by
 cases k with
 | inl i => obtain ⟨t, e⟩ := (show ∃ t, u = Value.int i t from r); subst e; exact zc7 P w i t
 | inr x => obtain ⟨t, e⟩ := (show ∃ t, u = Value.str x t from r); subst e; exact zc8 P w x t
section
variable {P : Program} {w : World} {H : Hp} {h : Heap} {a : Addr}
theorem zj1 {u : HO} (ok : HOk P w H h) (e : Rd H a u) : zaR P w H h a u := e.ok ok
theorem zj2 {kvs : List (Key × V)} (ok : HOk P w H h) (e : Rd H a (.dK kvs)) : kvs.length <= sizeLine /\ (a == sysModules) = false /\ ∃ vs, KV kvs vs /\ h.DictOf (zaN P w) a vs :=
 show zaR P w H h a (.dK kvs) from zj1 ok e
theorem zj3 {kvs : List (Key × V)} (ok : HOk P w H h) (e : H a = some (.dK kvs)) : kvs.length <= sizeLine /\ (a == sysModules) = false /\ ∃ vs, KV kvs vs /\ h.DictOf (zaN P w) a vs := zj2 ok (.inl e)
end
section
variable {X : Cx} {pins : List (Addr × Obj)} {σ : St} {H : Hp} {s : Shared} {a : Addr} {y v : V} {u r : Value} {o : Option V} {A : Around} {E : Value -> Shared -> Prop}
theorem Inv.big (I : Inv X pins σ H s) : sysModules < s.heap.objs.size := by
 have h : mainGlobals < s.heap.objs.size := (I.mod.glob.keeps I.bk).lt
 exact Nat.lt_trans (by decide) h
theorem zhi {h' : Heap} {t' : Nat} {ob : HO} (I : Inv X pins σ H s) (mu : Mut (H a)) (hs : Heap.SameBut a s.heap h') (he : ∃ q, h'.get? a = some q) (new : zaR X.prog X.w (upd H a ob) h' a ob) :
  Inv X pins σ (upd H a ob) { s with heap := h', toks := t' } :=
 I.write (x := a) (e := a) mu (.inl rfl) (fun b q hb z => (hs.2 b hb).trans z) he new
theorem ziN {P : Program} {w : World} {H' : Hp} {h' : Heap} {kvs : List (Key × V)} {vs : List (Key × Value)} (z : kvs.length <= sizeLine) (hd : (a == sysModules) = false) (rel : KV kvs vs) (dd : h'.DictOf (zaN P w) a vs) :
  zaR P w H' h' a (.dK kvs) := ⟨z, hd, vs, rel, dd⟩
end
section
variable {X : Cx} {pins : List (Addr × Obj)} {σ : St} {H : Hp} {s : Shared} {a : Addr} {kvs : List (Key × V)} {k : Key} {u : Value} {A : Around} {E : Value -> Shared -> Prop}
end
section
variable {X : Cx} {o i e value : Expr} {pos pos' tpos : Pos} {td ty tv : TE}
end
theorem zck {P : Program} {w : World} {H : Hp} (h : Heap) (hb : sysModules < h.objs.size) : zaR P w H (h.push { cls := .type "dict", data := .dict #[] }) h.objs.size (.dK []) :=
 ⟨Nat.zero_le _, beq_eq_false_iff_ne.mpr (Ne.symm (Nat.ne_of_lt hb)), [], .nil, Heap.DictOf.new h⟩
section
variable {X : Cx} {pos : Pos}
end
def zdy : List (TE × TE) -> St -> Hp -> (List (V × V) -> Hp -> Prop) -> Prop
 | [], _, H, Q => Q [] H
 | (tk, tv) :: r, σ, H, Q => tk σ H fun x H1 => tv σ H1 fun y H2 => zdy r σ H2 fun ps H3 => Q ((x, y) :: ps) H3
abbrev VV : List (V × V) -> List (Value × Value) -> Prop := Paired fun p q => RelV p.1 q.1 /\ RelV p.2 q.2
def PPs (X : Cx) (pos : Pos) (keys : List (Option Expr)) (values : List Expr) (trs : List (TE × TE)) : Prop :=
 ∀ (pins : List (Addr × Obj)) (s : Shared) (σ : St) (H : Hp) (Q : List (V × V) -> Hp -> Prop), Inv X pins σ H s -> zdy trs σ H Q ->
  wpAny (model X.prog X.w) X.A (evalPairs (pairTrees keys values X.env pos)) (fun vs s' => ∃ ps H', Inv X pins σ H' s' /\ VV ps vs /\ Q ps H') X.xe s
theorem zhj {X : Cx} {pos : Pos} : PPs X pos [] [] [] := fun pins s σ H Q I h => pairTrees_nil_walk ⟨[], H, I, .nil, h⟩
theorem zfP {X : Cx} {pos : Pos} {k v : Expr} {ks : List (Option Expr)} {vs : List Expr} {tk tv : TE} {trs : List (TE × TE)} (hk : PE X k tk) (hv : PE X v tv) (hr : PPs X pos ks vs trs) :
  PPs X pos (some k :: ks) (v :: vs) ((tk, tv) :: trs) := fun pins s σ H Q I h =>
 pairTrees_cons_walk (thn (hk pins s σ H _ I h) fun u s1 ⟨x, H1, I1, rx, q1⟩ => thn (hv pins s1 σ H1 _ I1 q1) fun w2 s2 ⟨y, H2, I2, ry, q2⟩ =>
  thn (hr pins s2 σ H2 _ I2 q2) fun ws s3 ⟨ps, H3, I3, rel, q3⟩ => ⟨(x, y) :: ps, H3, I3, .cons ⟨rx, ry⟩ rel, q3⟩)
def zbG (kvs more : List (Key × V)) : List (Key × V) := more.foldl (fun acc kv => putK acc kv.1 kv.2) kvs
theorem KV.merge : ∀ {more : List (Key × V)} {rs : List (Key × Value)} {kvs : List (Key × V)} {vs : List (Key × Value)}, KV more rs -> KV kvs vs -> KV (zbG kvs more) (merged vs rs) := by
 intro more rs kvs vs r
 unfold KV at r
 induction r generalizing kvs vs with
 | nil => intro q; exact q
 | @cons p q ps qs h t ih =>
  intro r0
  have e : KV (putK kvs p.1 p.2) (stored vs q.1 q.2) := by
   have := r0.put p.1 h.2
   rw [← h.1]; exact this
  exact ih e
theorem zbu : ∀ (more kvs : List (Key × V)), (zbG kvs more).length <= kvs.length + more.length
 | [], kvs => by show kvs.length <= kvs.length + 0; omega
 | p :: r, kvs => by
  have h1 := zbu r (putK kvs p.1 p.2)
  have h2 := zdf kvs p.1 p.2
  show (zbG (putK kvs p.1 p.2) r).length <= _
  rw [List.length_cons]; omega
theorem zb9 {P : Program} {w : World} : ∀ {kvs : List (Key × V)} {ws : List (Value × Value)}, VV (kvs.map fun kv => (kV kv.1, kv.2)) ws -> ∃ rs, Carries (zaN P w) ws rs /\ KV kvs rs
 | [], _, r => by rw [List.map_nil] at r; cases r; exact ⟨[], True.intro, .nil⟩
 | p :: kvs, _, r => by
  rw [List.map_cons] at r
  cases r with
  | @cons a b as bs h t =>
   obtain ⟨rs, c, q⟩ := zb9 (P := P) (w := w) t
   obtain ⟨b1, b2⟩ := b
   exact ⟨(p.1, b2) :: rs, ⟨zj0 h.1, rfl, c⟩, .cons ⟨rfl, h.2⟩ q⟩
end L2
namespace L2
open PySem PySem.Spec
def Tail (bmB bm : List Value) : Prop := ∀ (X : String) (b : Bool), bmB.contains (.type X) = b -> bm.contains (.type X) = b
theorem Tail.base {bmB : List Value} : Tail bmB bmB := fun _ _ h => h
theorem Tail.own {bmB bm : List Value} {D : Addr} (T : Tail bmB bm) : Tail bmB (.ref D :: bm) := fun X b h => by rw [List.contains_cons, T X b h]; rfl
section
variable {prog : Program} {w : World} {A : Around} {E : Value -> Shared -> Prop} {h : Heap} {g : Array GenState} {d : Drawn} {t : Nat} {os : OsState} {R : Result -> Shared -> Prop}
variable {nm q : Str} {C N : Addr} {bs bm bmB : List Value} {hdct : Bool} {sn : List Str} {sub : List Value} {ab : Bool} {col : Option Bool} {dd : Option Addr} {k0 k1 k2 k3 k5 : Option Value} {B newId initId : String}
theorem zd0 {M : Model} (F : ExcBaseFacts B newId initId bmB) (T : Tail bmB bm) {rest : List Value} {Q : Unit -> Shared -> Prop} (hC : h.get? C = some (excClassObj nm q C N bs bm hdct sn sub ab col dd k0 k1 k2 k3 k5 newId))
  (hq : Q () ⟨h, g, d, t, os⟩) : wpAny M A (checkBuiltinCall newId ⟨.ref C :: rest, []⟩) Q E ⟨h, g, d, t, os⟩ := by
 have hcont : (Value.ref C :: bm).contains (.type B) = true := by rw [List.contains_cons, T _ _ F.hasB, Bool.or_true]
 have hstar := F.noStar
 simp only [checkBuiltinCall, F.newKind, F.newSplit, F.newRow]
 repeat (first | refine wpAny_loadPart_at hC ?_ | (refine wpAny_isSubtype_exc hC ?_; rw [hcont]) | refine wpAny_staticBase_exc hC ?_ | refine wpAny_madeBy_exc hC ?_ | simp only [bne_self_eq_false, Bool.false_eq_true, if_false] | wp_step)
 exact hq
theorem zfQ (F : ExcBaseFacts B newId initId bmB) (T : Tail bmB bm) {rest : List Value} (hC : h.get? C = some (excClassObj nm q C N bs bm hdct sn sub ab col dd k0 k1 k2 k3 k5 newId))
  (hq : R (.ok (.ret (.ref (h.objs.size + 1)))) ⟨(h.push { cls := .type "tuple", data := .seq rest.toArray }).push
   { cls := .ref C, data := .fields #[.ref h.objs.size, .none, .none, .none, .bool false, .none] }, g, d, t, os⟩) (hrest : rest.length <= sizeLine) :
  codeAny (model prog w) A (.builtin newId ⟨.ref C :: rest, []⟩) R ⟨h, g, d, t, os⟩ := by
 have hends := F.ends
 have hcB : (Value.ref C :: bm).contains (.type B) = true := by rw [List.contains_cons, T _ _ F.hasB, Bool.or_true]
 have hcA : (Value.ref C :: bm).contains (.type "AttributeError") = false := by rw [List.contains_cons, T _ _ F.noAttr]; rfl
 have hcN : (Value.ref C :: bm).contains (.type "NameError") = false := by rw [List.contains_cons, T _ _ F.noName]; rfl
 refine codeAny_builtinAt F.entry ?_
 unfold Builtin.«BaseException.__new__»
 refine wpAt_bind ?_
 show wpAt _ _ _ (stack >>= _) _ _ _
 refine wpAt_bind (wpAt_stack fun p below => wpAt_of_wpAny ?_)
 wp_walk
 refine wpAt_of_wpAny ?_
 rw [F.owner]
 repeat (first | with_reducible refine wpAny_madeHere_exc F.canon hC ?_ | with_reducible refine wpAny_loadPart_at hC ?_ | (with_reducible refine wpAny_isSubtype_exc hC ?_; first | rw [hcB] | rw [hcA] | rw [hcN]) | wp_step)
 show R _ _
 rw [Heap.size_push]
 exact hq
def zgI (M : Model) (C fI : Addr) (h : Heap) : Prop := ∀ (A : Around) (E : Value -> Shared -> Prop) (Q : Option Value -> Shared -> Prop) (h' : Heap) (g : Array GenState) (d : Drawn) (t : Nat) (os : OsState),
 (∀ b o, h.get? b = some o -> h'.get? b = some o) -> Q (some (.ref fI)) ⟨h', g, d, t, os⟩ -> wpAny M A (typeLookup (.ref C) "__init__") Q E ⟨h', g, d, t, os⟩
theorem zd1 (F : ExcBaseFacts B newId initId bmB) (T : Tail bmB bm) {rest : List Value} {fI : Addr} {oI : Obj} {Q : Fin -> Shared -> Prop}
  (hC : h.get? C = some (excClassObj nm q C N bs bm hdct sn sub ab col dd k0 k1 k2 k3 k5 newId)) (hi : zgI (model prog w) C fI h)
  (hfI : h.get? fI = some oI) (hfc : oI.cls = .type "function")
  (hq : ∀ h' e, Heap.MadeExcOf h h' e (.ref C) rest -> h.objs.size <= e ->
   wpAny (model prog w) A (call (.ref fI) (.ref e :: rest)) (fun r s' => r = .none /\ Q (.done (.ret (.ref e))) s') E ⟨h', g, d, t, os⟩) (hrest : rest.length <= sizeLine) :
  wpAny (model prog w) A (Builtin.«type.__call__» ⟨.ref C :: rest, []⟩) Q E ⟨h, g, d, t, os⟩ := by
 repeat (first | with_reducible refine wpAny_loadPart_at hC ?_ | with_reducible refine wpAny_madeBy_exc hC ?_ | wp_step)
 refine codeAny_call_builtin_code (Code.quiet_builtin _ F.quiet) (zd0 F T hC ?_)
 refine zfQ F T hC ?_ hrest
 show wpAny _ _ _ _ _ _
 have hC₁ := Heap.get?_push_of_some { cls := .ref C, data := .fields #[.ref h.objs.size, .none, .none, .none, .bool false, .none] }
  (Heap.get?_push_of_some { cls := .type "tuple", data := .seq rest.toArray } hC)
 have hfI₁ := Heap.get?_push_of_some { cls := .ref C, data := .fields #[.ref h.objs.size, .none, .none, .none, .bool false, .none] }
  (Heap.get?_push_of_some { cls := .type "tuple", data := .seq rest.toArray } hfI)
 have hget : ((h.push { cls := .type "tuple", data := .seq rest.toArray }).push
   { cls := .ref C, data := .fields #[.ref h.objs.size, .none, .none, .none, .bool false, .none] }).get? (h.objs.size + 1) = some
   { cls := .ref C, data := .fields #[.ref h.objs.size, .none, .none, .none, .bool false, .none] } := by heap_get
 have hcC : (Value.ref C :: bm).contains (.ref C) = true := by simp
 unfold isInstance
 repeat (first | with_reducible refine wpAny_loadPart_at hget ?_ | (with_reducible refine wpAny_isSubtype_exc hC₁ ?_; rw [hcC]) | wp_step)
 show wpAny _ _ (typeLookup (.ref C) _) _ _ _
 refine hi _ _ _ _ _ _ _ _ (fun b o hb => Heap.get?_push_of_some _ (Heap.get?_push_of_some _ hb)) ?_
 refine wpAny_holding (wpAny_bind ?_)
 unfold bindSpecial
 refine wpAny_bind (wpAny_typeOf (T := "function") ⟨_, hfI₁, hfc⟩ ?_)
 rw [if_pos (by decide)]
 refine wpAny_pure (wpAny_bind (wpAny_mono (hq _ (h.objs.size + 1) ⟨fun b o hb => Heap.get?_push_of_some _ (Heap.get?_push_of_some _ hb), Heap.get?_none_of_le (Nat.le_succ _), h.objs.size, hget, Heap.get?_none_of_le (Nat.le_refl _), ?_⟩ (Nat.le_succ _)) (fun r s' hr => ?_) fun _ _ x => x))
 ·exact Heap.get?_push_of_some _ (Heap.get?_push_at rfl rfl)
 ·obtain ⟨rfl, hQ⟩ := hr
  wp_walk
  exact hQ
theorem zeG (F : ExcBaseFacts B newId initId bmB) (T : Tail bmB bm) {rest : List Value} {fI : Addr} {oI : Obj} {Q : Value -> Shared -> Prop}
  (hC : h.get? C = some (excClassObj nm q C N bs bm hdct sn sub ab col dd k0 k1 k2 k3 k5 newId)) (hi : zgI (model prog w) C fI h)
  (hfI : h.get? fI = some oI) (hfc : oI.cls = .type "function")
  (hq : ∀ h' e, Heap.MadeExcOf h h' e (.ref C) rest -> h.objs.size <= e ->
   wpAny (model prog w) (A.under (.builtin "type.__call__" ⟨.ref C :: rest, []⟩)) (call (.ref fI) (.ref e :: rest)) (fun r s' => r = .none /\ Q (.ref e) s') E ⟨h', g, d, t, os⟩) (hrest : rest.length <= sizeLine) :
  wpAny (model prog w) A (call (.ref C) rest) Q E ⟨h, g, d, t, os⟩ := by
 have f1 := tc_lookup
 have f2 := tc_bind (.ref C)
 have hT : (⟨h, g, d, t, os⟩ : Shared).TypeIs (.ref C) "type" := ⟨_, hC, rfl⟩
 refine wpAny_call (codeAny_of_tree ?_)
 show wpAny _ _ (callAny (.ref C) _) _ _ _
 repeat (any_goals (first | assumption | with_reducible refine wpAny_loadPart_at hC ?_ | wp_step))
 refine ⟨rfl, ?_⟩
 refine codeAny_call_builtin_at (Code.quiet_builtin _ (by decide +kernel)) entry_typeCall (wpAny_check_type_call_sub hC (zd1 (hrest := hrest) F T hC hi hfI hfc fun h' e hm hz => ?_))
 exact hq h' e hm hz
end
end L2
namespace L2
open PySem PySem.Spec
def zaB (M : Model) (C : Addr) (name : Str) (r : Option Value) (h : Heap) : Prop := ∀ (A : Around) (E : Value -> Shared -> Prop) (Q : Option Value -> Shared -> Prop) (h' : Heap) (g : Array GenState) (d : Drawn) (t : Nat) (os : OsState),
 (∀ b o, h.get? b = some o -> h'.get? b = some o) -> Q r ⟨h', g, d, t, os⟩ -> wpAny M A (typeLookup (.ref C) name) Q E ⟨h', g, d, t, os⟩
theorem zaB.keeps {M : Model} {C : Addr} {name : Str} {r : Option Value} {h h' : Heap} (x : zaB M C name r h) (k : ∀ b o, h.get? b = some o -> h'.get? b = some o) : zaB M C name r h' :=
 fun A E Q h2 g d t os k2 q => x A E Q h2 g d t os (fun b o e => k2 b o (k b o e)) q
theorem zaB.at {M : Model} {A : Around} {E : Value -> Shared -> Prop} {Q : Option Value -> Shared -> Prop} {C : Addr} {name : Str} {r : Option Value} {h : Heap} {g : Array GenState} {d : Drawn} {t : Nat} {os : OsState} (x : zaB M C name r h) (q : Q r ⟨h, g, d, t, os⟩) : wpAny M A (typeLookup (.ref C) name) Q E ⟨h, g, d, t, os⟩ :=
 x A E Q h g d t os (fun _ _ e => e) q
section
variable {prog : Program} {w : World} {A : Around} {E : Value -> Shared -> Prop} {h : Heap} {g : Array GenState} {d : Drawn} {t : Nat} {os : OsState} {R : Result -> Shared -> Prop}
variable {nm q : Str} {C N x : Addr} {bs bm bmB : List Value} {hdct : Bool} {sn : List Str} {sub : List Value} {ab : Bool} {col : Option Bool} {dd : Option Addr} {k0 k1 k2 k3 k5 : Option Value} {B newId sa owner : String} {mN mA : Str -> Option Value} {name : Str} {v : Value}
def zbn (M : Model) (l : List Value) (name : Str) (r : Option Value) (h : Heap) : Prop := ∀ (A : Around) (E : Value -> Shared -> Prop) (Q : Option Value -> Shared -> Prop) (h' : Heap) (g : Array GenState) (d : Drawn) (t : Nat) (os : OsState),
 (∀ b o, h.get? b = some o -> h'.get? b = some o) -> Q r ⟨h', g, d, t, os⟩ -> wpAny M A (lookupAlong l name) Q E ⟨h', g, d, t, os⟩
theorem zbn.base {M : Model} {y : Option Value} (hm : mroOf (.type B) = pure bm) (hB : typeLookup (.type B) name = pure y) : zbn M bm name y h := fun A E Q h' g d t os k q => by
 rw [typeLookup_eq, hm] at hB
 have hrest : lookupAlong bm name = pure y := hB
 rw [hrest]
 exact wpAny_pure q
theorem zbn.hit {M : Model} {D : Addr} {c0 : Value} {dd' : Option Addr} {cd : ClassData} {sl : Array (Option Value)} (hD : h.get? D = some { cls := c0, dict := dd', data := .cls cd, slots := sl }) (hn : h.Ns cd.ns mN) (hi : mN name = some v) : zbn M (.ref D :: bm) name (some v) h := fun A E Q h' g d t os k q => by
 rw [lookupAlong_cons]
 refine wpAny_bind (wpAny_classOwn_cls (k _ _ hD) (hn.keeps k) ?_)
 rw [hi]
 exact wpAny_pure q
theorem zbn.miss {M : Model} {D : Addr} {r : Option Value} {c0 : Value} {dd' : Option Addr} {cd : ClassData} {sl : Array (Option Value)} (hD : h.get? D = some { cls := c0, dict := dd', data := .cls cd, slots := sl }) (hn : h.Ns cd.ns mN) (hi : mN name = none) (f : zbn M bm name r h) : zbn M (.ref D :: bm) name r h := fun A E Q h' g d t os k q => by
 rw [lookupAlong_cons]
 refine wpAny_bind (wpAny_classOwn_cls (k _ _ hD) (hn.keeps k) ?_)
 rw [hi]
 exact f A E Q h' g d t os k q
theorem zaB.of {M : Model} {r : Option Value} (hC : h.get? C = some (excClassObj nm q C N bs bm hdct sn sub ab col dd k0 k1 k2 k3 k5 newId)) (f : zbn M (.ref C :: bm) name r h) : zaB M C name r h := fun A E Q h' g d t os k q => by
 rw [typeLookup_eq]
 exact wpAny_bind (wpAny_mroOf_exc (k _ _ hC) (f A E Q h' g d t os k q))
theorem zeH {M : Model} {o : Obj} {nameV : Value} {Q : Unit -> Shared -> Prop} (SF : StoreFacts B bmB sa owner) (T : Tail bmB bm)
  (hC : h.get? C = some (excClassObj nm q C N bs bm hdct sn sub ab col dd k0 k1 k2 k3 k5 newId)) (hx : h.get? x = some o) (hc : o.cls = .ref C) (hq : Q () ⟨h, g, d, t, os⟩) :
  wpAny M A (checkBuiltinCall sa ⟨[.ref x, nameV, v], []⟩) Q E ⟨h, g, d, t, os⟩ := by
 have hcB : (Value.ref C :: bm).contains (.type owner) = true := by rw [List.contains_cons, T _ _ SF.hasOwner, Bool.or_true]
 have ha := SF.args (.ref x) nameV v
 simp only [checkBuiltinCall, SF.kind, SF.split]
 refine wpAny_bind ?_
 ·unfold isInstance
  repeat (first | (with_reducible refine wpAny_loadPart_at hx ?_; rw [hc]) | (with_reducible refine wpAny_isSubtype_exc hC ?_; rw [hcB]) | wp_step)
  cases hsig : Manifest.signature? sa with
  | none => exact wpAny_pure hq
  | some sig =>
   simp only [argsOk, hsig] at ha
   have h2 : Bind.checkArgs sa sig ⟨[.ref x, nameV, v], []⟩ = pure () := ha
   show wpAny M A (Bind.checkArgs sa sig ⟨[.ref x, nameV, v], []⟩) Q E _
   rw [h2]; exact wpAny_pure hq
theorem zcL {tk : Tok} {Q : PySem.Fin -> Shared -> Prop} {ns : List Str} (hpass : refuseLoop (.ref x) "__setattr__" bm = pure ())
  (hC : h.get? C = some (excClassObj nm q C N bs bm true sn sub ab col dd k0 k1 k2 k3 k5 newId)) (hf : zaB (model prog w) C name none h) (I : h.InstFk x C mA)
  (hq : ∀ h' tk', h'.InstFk x C (fun y => if y = name then some v else mA y) ->
   (∀ b o, b ≠ x -> (∀ o₀ dx, h.get? x = some o₀ -> o₀.dict = some dx -> b ≠ dx) -> h.get? b = some o -> h'.get? b = some o) ->
   (∀ o₀, h.get? x = some o₀ -> ∃ o₁, h'.get? x = some o₁ /\ o₁.cls = o₀.cls /\ o₁.data = o₀.data /\ o₁.slots = o₀.slots /\ ∀ dx, o₀.dict = some dx -> o₁.dict = some dx) -> (∀ o₀ o₁ dx, h.get? x = some o₀ -> o₀.dict = none -> h'.get? x = some o₁ -> o₁.dict = some dx -> h.objs.size <= dx) -> Q (.done (.ret .none)) ⟨h', g, d, tk', os⟩) (hw : PySem.Within mA ns) (hsz : ns.length <= 1000) :
  wpAny (model prog w) A (Builtin.«object.__setattr__» ⟨[.ref x, .str name tk, v], []⟩) Q E ⟨h, g, d, t, os⟩ := by
 obtain ⟨o, hx, hc, hnc, hd⟩ := I
 have hs2 : ns.length <= sizeLine := by rw [sizeLine_eq]; omega
 unfold Builtin.«object.__setattr__»
 repeat (first | rw [refuse_eq] | (rw [refuseLoop_ref, hpass]) | (with_reducible refine wpAny_loadPart_at hx ?_; rw [hc]) | with_reducible refine wpAny_mroOf_exc hC ?_ | with_reducible refine hf.at ?_ | wp_step)
 rcases hd with ⟨hdn, hmA⟩ | ⟨dx, hdx, hne, hns, hed⟩
 ·
  rw [hdn, if_neg (by simp [typeHasDict])]
  split
  ·rename_i hcd
   cases hcd
  split
  ·rename_i c hcd
   exact absurd hcd (hnc c)
  ·have hx₁ : (h.push { cls := .type "dict", data := .dict #[] }).get? x = some o := Heap.get?_push_of_some _ hx
   have hxs : x ≠ h.objs.size := Nat.ne_of_lt (Heap.lt_size hx)
   refine wpAny_bind (wpAny_alloc' ?_)
   refine wpAny_bind (wpAny_update' hx₁ ?_)
   refine wpAny_pure ?_
   have hgd : ((h.push { cls := .type "dict", data := .dict #[] }).update x fun o => { cls := o.cls, dict := some h.objs.size, data := o.data, slots := o.slots }).get? h.objs.size
     = some { cls := .type "dict", data := .dict #[] } :=
    (Heap.get?_update_ne _ _ _ _ hxs.symm).trans (Heap.get?_push_at rfl rfl)
   have hnd : ((h.push { cls := .type "dict", data := .dict #[] }).update x fun o => { cls := o.cls, dict := some h.objs.size, data := o.data, slots := o.slots }).Ns h.objs.size (fun _ => none) :=
    ⟨_, #[], _, hgd, rfl, fun e he => absurd he (by simp), fun _ => rfl⟩
   show wpAny _ _ (Builtin.ObjectAttr.storeInDict h.objs.size (.str name tk) name v) _ _ _
   unfold Builtin.ObjectAttr.storeInDict Builtin.ObjectAttr.newKeyGuard
   refine wpAny_bind (wpAny_pure (wpAny_bind (wpAny_nsSet1EFk (Heap.Ns1.of_empty hnd) fun h' hn' hs hkeepD => ?_)))
   obtain ⟨oD, esD, epD, hoD, hdD, hcD⟩ := hn'.count (PySem.Within.cons name v PySem.Within.nil)
   refine wpAny_bind (wpAny_lookBehind hoD (by rw [hdD]; exact pastItsLine_dict (Nat.le_trans hcD (by rw [List.length_cons, List.length_nil, sizeLine_eq]; omega))) ?_)
   wp_walk
   have hx' : h'.get? x = some { cls := o.cls, dict := some h.objs.size, data := o.data, slots := o.slots } := ?_
   refine hq h' _ ⟨{ cls := o.cls, dict := some h.objs.size, data := o.data, slots := o.slots }, hx', hc, hnc, .inr ⟨h.objs.size, rfl, hxs.symm, ?_, (let ⟨od', e', c', d'⟩ := hkeepD _ hgd; ⟨od', e', c', d'⟩)⟩⟩ (fun b ob hbx _ hb => ?_)
    (fun o₀ h₀ => by obtain rfl : o = o₀ := Option.some.inj (hx.symm.trans h₀); exact ⟨_, hx', rfl, rfl, rfl, fun dx e => by rw [hdn] at e; cases e⟩)
    (fun o₀ o₁ dx _ _ e1 e2 => by rw [hx'] at e1; cases e1; cases e2; exact Nat.le_refl _)
   ·obtain ⟨o', es, ep, e1, e2, e3, eu, e4⟩ := hn'
    exact ⟨o', es, ep, e1, e2, e3, eu, fun y => by rw [e4 y]; by_cases hy : y = name <;> simp [hy, hmA]⟩
   ·exact (hs.2 b (Nat.ne_of_lt (Heap.lt_size hb))).trans ((Heap.get?_update_ne _ _ _ _ hbx).trans (Heap.get?_push_of_some _ hb))
   ·refine (hs.2 x hxs).trans (Heap.get?_update_self _ hx₁ ?_)
    have hfr := (Heap.get?_some_iff.mp hx).2
    obtain ⟨oc, od, odt, osl⟩ := o
    cases odt <;> first | rfl | exact hfr
 ·
  rw [hdx]
  refine wpAny_pure ?_
  show wpAny _ _ (Builtin.ObjectAttr.storeInDict dx (.str name tk) name v) _ _ _
  unfold Builtin.ObjectAttr.storeInDict Builtin.ObjectAttr.newKeyGuard
  refine wpAny_bind (wpAny_pure (wpAny_bind (wpAny_nsSet1EFk hns fun h' hn' hs hkeepD => ?_)))
  obtain ⟨oD, esD, epD, hoD, hdD, hcD⟩ := hn'.count (PySem.Within.cons name v hw)
  refine wpAny_bind (wpAny_lookBehind hoD (by rw [hdD]; exact pastItsLine_dict (Nat.le_trans hcD (by rw [List.length_cons, sizeLine_eq]; omega))) ?_)
  wp_walk
  refine hq h' _ ⟨o, (hs.2 x hne.symm).trans hx, hc, hnc, .inr ⟨dx, hdx, hne, hn', (let ⟨od, e, c, dd⟩ := hed; let ⟨od', e', c', d'⟩ := hkeepD od e; ⟨od', e', c'.trans c, d'.trans dd⟩)⟩⟩ (fun b ob _ hbd hb => ?_)
   (fun o₀ h₀ => ⟨o₀, (hs.2 x hne.symm).trans h₀, rfl, rfl, rfl, fun _ e => e⟩)
   (fun o₀ o₁ dx' e0 e1 _ _ => by rw [hx] at e0; cases e0; rw [hdx] at e1; cases e1)
  exact (hs.2 b (hbd o dx hx hdx)).trans hb
theorem zbT {Q : Unit -> Shared -> Prop} {ns : List Str} (SF : StoreFacts B bmB sa owner) (T : Tail bmB bm) (hpass : refuseLoop (.ref x) "__setattr__" bm = pure ())
  (hC : h.get? C = some (excClassObj nm q C N bs bm true sn sub ab col dd k0 k1 k2 k3 k5 newId)) (hfs : zaB (model prog w) C "__setattr__" (some (.builtin sa)) h) (hf : zaB (model prog w) C name none h) (I : h.InstFk x C mA)
  (hq : ∀ h' tk', h'.InstFk x C (fun y => if y = name then some v else mA y) ->
   (∀ b o, b ≠ x -> (∀ o₀ dx, h.get? x = some o₀ -> o₀.dict = some dx -> b ≠ dx) -> h.get? b = some o -> h'.get? b = some o) ->
   (∀ o₀, h.get? x = some o₀ -> ∃ o₁, h'.get? x = some o₁ /\ o₁.cls = o₀.cls /\ o₁.data = o₀.data /\ o₁.slots = o₀.slots /\ ∀ dx, o₀.dict = some dx -> o₁.dict = some dx) -> (∀ o₀ o₁ dx, h.get? x = some o₀ -> o₀.dict = none -> h'.get? x = some o₁ -> o₁.dict = some dx -> h.objs.size <= dx) -> Q () ⟨h', g, d, tk', os⟩) (hw : PySem.Within mA ns) (hsz : ns.length <= 1000) :
  wpAny (model prog w) A (setAttr (.ref x) name v) Q E ⟨h, g, d, t, os⟩ := by
 obtain ⟨o, hx, hc, _⟩ := id I
 have f3 := SF.slot.bind (.ref x)
 unfold setAttr callSpecial? specialOf
 repeat (any_goals (first | assumption | (with_reducible refine wpAny_loadPart_at hx ?_; rw [hc]) | with_reducible refine hfs.at ?_ | wp_step))
 refine codeAny_call_builtin SF.slot.plain SF.entry (zeH SF T hC hx hc (zcL hpass hC hf I (fun h' tk' I' hk hsame hnew => ?_) hw hsz))
 repeat (any_goals (first | assumption | wp_step))
 exact hq h' tk' I' hk hsame hnew
theorem zcM {M : Model} {o : Obj} {nameV : Value} {Q : Unit -> Shared -> Prop} (T : Tail bmB bm) (hb : bmB.contains (.type "BaseException") = true) (hC : h.get? C = some (excClassObj nm q C N bs bm hdct sn sub ab col dd k0 k1 k2 k3 k5 newId))
  (hx : h.get? x = some o) (hc : o.cls = .ref C) (hq : Q () ⟨h, g, d, t, os⟩) : wpAny M A (checkBuiltinCall "BaseException.__getattribute__" ⟨[.ref x, nameV], []⟩) Q E ⟨h, g, d, t, os⟩ := by
 have hk : builtinKind "BaseException.__getattribute__" = some .slot := by decide +kernel
 have hsplit : splitId "BaseException.__getattribute__" = some ("BaseException", "__getattribute__") := by decide +kernel
 have hcB : (Value.ref C :: bm).contains (.type "BaseException") = true := by rw [List.contains_cons, T _ _ hb]; rfl
 have ha := PySem.F.args_bexc_ga (.ref x) nameV
 simp only [checkBuiltinCall, hk, hsplit]
 refine wpAny_bind ?_
 ·unfold isInstance
  repeat (first | (with_reducible refine wpAny_loadPart_at hx ?_; rw [hc]) | (with_reducible refine wpAny_isSubtype_exc hC ?_; rw [hcB]) | wp_step)
  exact hq
theorem zdg {tk : Tok} {Q : PySem.Fin -> Shared -> Prop} (hC : h.get? C = some (excClassObj nm q C N bs bm true sn sub ab col dd k0 k1 k2 k3 k5 newId)) (hf : zaB (model prog w) C name none h) (I : h.InstFk x C mA) (hv : mA name = some v) (hq : Q (.done (.ret v)) ⟨h, g, d, t, os⟩) :
  wpAny (model prog w) A (Builtin.«object.__getattribute__» ⟨[.ref x, .str name tk], []⟩) Q E ⟨h, g, d, t, os⟩ := by
 obtain ⟨o, hx, hc, hnc, hd⟩ := I
 rcases hd with ⟨_, hmA⟩ | ⟨dx, hdx, hne, hns, _⟩
 ·rw [hmA name] at hv; cases hv
 unfold Builtin.«object.__getattribute__»
 repeat (first | (with_reducible refine wpAny_loadPart_at hx ?_; rw [hc]) | with_reducible refine hf.at ?_ | wp_step)
 split
 ·rename_i c hcd
  exact absurd hcd (hnc c)
 unfold instanceDict
 repeat (first | (with_reducible refine wpAny_loadPart_at hx ?_; rw [hc]) | with_reducible refine wpAny_loadPart_at hC ?_ | wp_step)
 rw [hdx]
 repeat (first | (with_reducible refine wpAny_nsGet hns.ns ?_; rw [hv]) | wp_step)
 exact hq
theorem zd2 {expr : Bool} {Q : Value -> Shared -> Prop} (FB : ExcAttrFacts B) (T : Tail bmB bm) (hb : bmB.contains (.type "BaseException") = true) (hC : h.get? C = some (excClassObj nm q C N bs bm true sn sub ab col dd k0 k1 k2 k3 k5 newId))
  (fg : zaB (model prog w) C "__getattribute__" (some (.builtin "BaseException.__getattribute__")) h) (fa : zaB (model prog w) C "__getattr__" none h) (hf : zaB (model prog w) C name none h) (I : h.InstFk x C mA) (hv : mA name = some v) (hh : handedOut v = pure v) (hq : Q v ⟨h, g, d, t + 1, os⟩) :
  wpAny (model prog w) A (getAttr (.ref x) name expr) Q E ⟨h, g, d, t, os⟩ := by
 obtain ⟨o, hx, hc, _⟩ := id I
 have f3 := FB.ga.bind (.ref x)
 have hx0 : (expr && onTheHeap (Value.builtin "BaseException.__getattribute__")) = false := by cases expr <;> rfl
 have hx2 : (Value.builtin "BaseException.__getattribute__" == Value.builtin "object.__getattribute__") = false := by decide +kernel
 have hx1 : (onTheHeap (Value.ref C) && Value.builtin "BaseException.__getattribute__" == Value.builtin "object.__getattribute__") = false := by rw [hx2]; rfl
 unfold getAttr
 repeat (any_goals (first | assumption | (with_reducible refine wpAny_loadPart_at hx ?_; rw [hc]) | with_reducible refine fg.at ?_ | with_reducible refine fa.at ?_ | wp_step))
 refine codeAny_call_builtin FB.ga.plain PySem.F.entry_bexc_ga (zcM T hb hC hx hc (zdg hC hf I hv ?_))
 repeat (any_goals (first | assumption | wp_step))
end
end L2
namespace L2
open PySem PySem.Spec
theorem mapF {o : Obj} {vs : Array Value} (f : Array Value -> Array Value) (h : o.data = .fields vs) : Obj.mapFields f o = { o with data := .fields (f vs) } := by
 obtain ⟨c, d, dt, sl⟩ := o
 cases h
 rfl
def Tb (h : Heap) (e : Addr) (vs : Array Value) (fl : Value) : Prop := ∃ T oT ts, vs[1]? = some (.ref T) /\ T ≠ e /\ h.get? T = some oT /\ oT.data = .fields ts /\ ts[3]? = some fl
def Fly (h : Heap) (e : Addr) : Prop := ∃ oe vs, h.get? e = some oe /\ oe.data = .fields vs /\ (vs[1]? = some .none ∨ Tb h e vs .none)
structure zdz (fs : List Addr) (e : Addr) (h h' : Heap) : Prop where
 keep : ∀ b o, b ≠ e -> b ∉ fs -> h.get? b = some o -> h'.get? b = some o
 slot : ∀ b o, b ≠ e -> h.get? b = some o -> ∃ sl, h'.get? b = some { o with slots := sl }
 own : ∀ oe, h.get? e = some oe -> ∃ vs, h'.get? e = some { oe with data := .fields vs }
section
variable {M : Model} {A : Around} {E : Value -> Shared -> Prop} {s : Shared} {base : Heap} {env : Env} {outer : List Env} {L e : Addr}
theorem newEntry {oe : Obj} {vs : Array Value} {head : Value} {hadNext : Bool} {Q : Unit -> Shared -> Prop} (hfr : A.frames = some (env :: outer)) (hl : s.heap.FunFrames base (env :: outer)) (hf : env.frame = some L)
  (he : s.heap.get? e = some oe) (hd : oe.data = .fields vs) (hsz : 1 < vs.size)
  (h : ∀ h', zdz (frs (env :: outer)) e s.heap h' -> Fly h' e -> Q () { s with heap := h' }) :
  wpAny M A (do let a ← frameOf env; let pl ← entryPlaceOf L hadNext; let b ← EntryCells.newEntry head a .none (rawInt L) .none pl; setField (.ref e) 1 b) (fun _ s' => wpAny M A (setFlight (.ref e) none) Q E s') E s := by
 have hene : e ∉ (env :: outer).filterMap (·.frame) := fun hm => by
  obtain ⟨_, o, ho, hnf⟩ := hl.mem hm
  rw [he] at ho; injection ho with ho; subst ho; exact hnf vs hd
 refine wpAny_bind (wpAny_frameOf_fun hfr hl hf fun h₁ hs₁ => ?_)
 refine wpAny_bind (wpAny_entryPlaceOf fun pl hpl => ?_)
 unfold EntryCells.newEntry newFields
 refine wpAny_bind (wpAny_newObj_type ?_ (hpl.sizeOk5 _ _ _ _ _))
 have he₁ : h₁.get? e = some oe := (hs₁.2.1 e hene).trans he
 have he₂ := Heap.get?_push_of_some (h := h₁) { cls := .type "traceback", dict := none, data := .fields ([head, .ref L, .none, rawInt L, .none] ++ (if pl.isEmpty then List.replicate 6 Value.none else pl)).toArray } he₁
 refine wpAny_setField he₂ hd hsz ?_
 have hTe : h₁.objs.size ≠ e := Nat.ne_of_gt (Heap.lt_size he₁)
 have hd₃ := Obj.data_mapFields hd (·.setIfInBounds 1 (Value.ref h₁.objs.size))
 have he₃ := Heap.get?_update_self (Obj.mapFields (·.setIfInBounds 1 (Value.ref h₁.objs.size))) he₂ (Obj.isFreed_of_fields hd₃)
 have hT₃ := (Heap.get?_update_other (h₁.push { cls := .type "traceback", dict := none, data := .fields ([head, .ref L, .none, rawInt L, .none] ++ (if pl.isEmpty then List.replicate 6 Value.none else pl)).toArray })
  (Obj.mapFields (·.setIfInBounds 1 (Value.ref h₁.objs.size))) (Ne.symm hTe)).trans (Heap.get?_push_size h₁ rfl)
 unfold setFlight
 refine wpAny_bind (wpAny_field he₃ hd₃ (x := .ref h₁.objs.size) (by simp [hsz]) ?_)
 rw [if_pos (show (Value.ref h₁.objs.size != Value.none) = true from by simp)]
 refine wpAny_setField hT₃ rfl (by simp only [List.size_toArray, List.length_append, List.length_cons, List.length_nil] <;> omega) (h _ ?_ ?_)
 ·have keep : ∀ b o, b ≠ e -> h₁.get? b = some o ->
    (((h₁.push { cls := .type "traceback", dict := none, data := .fields ([head, .ref L, .none, rawInt L, .none] ++ (if pl.isEmpty then List.replicate 6 Value.none else pl)).toArray }).update e (Obj.mapFields (·.setIfInBounds 1 (Value.ref h₁.objs.size)))).update h₁.objs.size
     (Obj.mapFields (·.setIfInBounds 3 ((none : Option Addr).elim Value.none fun f => rawInt f)))).get? b = some o := fun b o hbe hb => by
   have hbT : h₁.objs.size ≠ b := Nat.ne_of_gt (Heap.lt_size hb)
   rw [Heap.get?_update_other _ _ hbT, Heap.get?_update_other _ _ (Ne.symm hbe)]
   exact Heap.get?_push_of_some _ hb
  refine ⟨fun b o hb hf hg => keep b o hb ((hs₁.2.1 b hf).trans hg), fun b o hb hg => ?_, fun oe' z => ?_⟩
  ·obtain ⟨sl, hs⟩ := hs₁.2.2 b o hg
   exact ⟨sl, keep b _ hb hs⟩
  ·rw [he] at z; cases z
   exact ⟨_, by rw [Heap.get?_update_other _ _ hTe, he₃, mapF _ hd]⟩
 ·refine ⟨_, _, ?_, hd₃, .inr ⟨h₁.objs.size, _, _, by simp [hsz], hTe, Heap.get?_update_self _ hT₃ (Obj.isFreed_of_fields (Obj.data_mapFields rfl _)), Obj.data_mapFields rfl _, by first | (simp; done) | (rcases hpl with rfl | ⟨_, _, _, _, _, _, _, rfl⟩ <;> simp)⟩⟩
  rw [Heap.get?_update_other _ _ hTe]; exact he₃
theorem note {Q : Unit -> Shared -> Prop} (hfr : A.frames = some (env :: outer)) (hl : s.heap.FunFrames base (env :: outer)) (hf : env.frame = some L) (x : Fly s.heap e)
  (h : ∀ h', zdz (frs (env :: outer)) e s.heap h' -> Fly h' e -> Q () { s with heap := h' }) : wpAny M A (noteFrame (.ref e) env) (fun _ s' => wpAny M A (setFlight (.ref e) none) Q E s') E s := by
 obtain ⟨oe, vs, he, hd, h1⟩ := x
 unfold noteFrame
 simp only [hf]
 rcases h1 with h1 | ⟨T, oT, ts, h1, hTe, hT, hdT, h3⟩
 ·refine wpAny_bind (wpAny_field he hd h1 ?_)
  rw [if_neg (by decide)]
  exact newEntry hfr hl hf he hd (Array.getElem?_eq_some_iff.mp h1).1 h
 ·refine wpAny_bind (wpAny_field he hd h1 ?_)
  rw [if_pos (show (Value.ref T != Value.none) = true from by simp)]
  refine wpAny_bind (wpAny_field hT hdT h3 ?_)
  rw [if_neg (show ¬ ((Value.none == rawInt L) = true) from by simp [rawInt])]
  obtain ⟨hs3, hv3⟩ := Array.getElem?_eq_some_iff.mp h3
  refine wpAny_bind (wpAny_setField hT hdT hs3 ?_)
  have same : ∀ b o, s.heap.get? b = some o -> (s.heap.update T (Obj.mapFields (·.setIfInBounds 3 Value.none))).get? b = some o := fun b o hb => by
   by_cases hbT : b = T
   ·subst hbT
    rw [hT] at hb; cases hb
    rw [Heap.get?_update_self _ hT (Obj.isFreed_of_fields (Obj.data_mapFields hdT _)), mapF _ hdT]
    have : ts.setIfInBounds 3 Value.none = ts := by
     apply Array.ext_getElem?
     intro i
     rw [Array.getElem?_setIfInBounds]
     split
     ·rename_i z
      subst z
      exact h3.symm
     ·rfl
    rw [this, ← hdT]
   ·rw [Heap.get?_update_other _ _ (Ne.symm hbT)]; exact hb
  exact newEntry hfr (hl.of_keeps fun b o hb hnf => ⟨o, same b o hb, rfl⟩) hf (same e oe he) hd (Array.getElem?_eq_some_iff.mp h1).1
   fun h' p t => h h' ⟨fun b o a c g => p.keep b o a c (same b o g), fun b o a g => p.slot b o a (same b o g), fun oe' z => p.own oe' (same e oe' z)⟩ t
theorem ziO {Q : Unit -> Shared -> Prop} (hfr : A.frames = some (env :: outer)) (hl : s.heap.FunFrames base (env :: outer)) (hf : env.frame = some L) (x : Fly s.heap e)
  (h : ∀ h', zdz (frs (env :: outer)) e s.heap h' -> Fly h' e -> Q () { s with heap := h' }) : wpAny M A (leaving env (.ref e)) Q E s := by
 unfold leaving
 exact wpAny_bind (note hfr hl hf x h)
end
end L2
namespace L2
open PySem PySem.Spec PyProof.Rows PySem.Calls PyProof.V
def XO (fr : Bool) (e C : Addr) (dd : Option Addr) : Heap -> Prop := fun h => ∃ vs sl, h.get? e = some { cls := .ref C, dict := dd, data := .fields vs, slots := sl } /\ (fr = true -> vs[1]? = some .none /\ ∃ t0, vs[0]? = some (.ref t0))
theorem XO.ok {P : Program} {w : World} {H : Hp} {h : Heap} {fr : Bool} {e C : Addr} {dd : Option Addr} (x : XO fr e C dd h) : zaR P w H h e (.ext (XO fr e C dd)) :=
 ⟨x, let ⟨_, _, q, _⟩ := x; ⟨_, q⟩, fun h1 h2 ⟨vs, sl, q, z⟩ k => ⟨vs, sl, k _ q, z⟩⟩
theorem XO.fly {h : Heap} {e C : Addr} {dd : Option Addr} (x : XO true e C dd h) : Fly h e := let ⟨vs, _, q, z⟩ := x; ⟨_, vs, q, rfl, .inl (z rfl).1⟩
theorem XO.old {h : Heap} {fr : Bool} {e C : Addr} {dd : Option Addr} (x : XO fr e C dd h) : XO false e C dd h := let ⟨vs, sl, q, _⟩ := x; ⟨vs, sl, q, fun z => nomatch z⟩
def CX1 (P : Program) (w : World) : CXT := fun outer H s E v s' => ∃ e C dd H', v = .ref e /\ s'.os = s.os /\ AllBare s'.gens /\ Un (frs outer) [] H H' s.heap s'.heap /\ HOk P w H' s'.heap /\ H' e = some (.ext (XO false e C dd)) /\ Fly s'.heap e /\ E (.ref e) none H'
section
variable {X : Cx} {pins : List (Addr × Obj)} {σ : St} {H : Hp} {s : Shared} {e C : Addr} {dd : Option Addr} {h' : Heap}
theorem Inv.passed (I : Inv X pins σ H s) (hx : H e = some (.ext (XO false e C dd))) (p : zdz (frs X.stack) e s.heap h') : Inv X pins σ H { s with heap := h' } := by
 have ne : ∀ b, H b = none -> b ≠ e := fun b n z => by rw [z, hx] at n; cases n
 refine I.call (g' := s.gens) (t' := s.toks) (d' := s.drawn) (ch := []) ⟨fun b o g n f _ => p.keep b o (ne b n) f g, fun b o g n _ _ => p.slot b o (ne b n) g, fun b o _ n _ => n, fun b o g _ => ?_, fun _ _ z => z, fun _ _ _ z => z, fun b ps z => ⟨#[], by rw [z]; simp⟩⟩ (fun a o q => ?_) I.bare fun b z => absurd z (by simp)
 ·by_cases hb : b = e
  ·subst hb
   obtain ⟨vs, z⟩ := p.own o g
   exact ⟨_, z⟩
  ·obtain ⟨sl, z⟩ := p.slot b o hb g
   exact ⟨_, z⟩
 ·by_cases ha : a = e
  ·subst ha
   rw [hx] at q; cases q
   obtain ⟨⟨vs, sl, g, _⟩, _, _⟩ := I.hok a _ hx
   obtain ⟨vs', z⟩ := p.own _ g
   exact XO.ok ⟨vs', sl, z, fun z => nomatch z⟩
  ·refine (I.hok a o q).stay (fun b u hb g => p.keep b u ?_ (fun z => ?_) g) (fun _ z => z) fun _ _ z => z
   ·rcases hb with rfl | hb
    ·exact ha
    ·rintro rfl; rw [hx] at hb; cases hb
   ·have n := I.stkFree b z
    rcases hb with rfl | hb
    ·rw [q] at n; cases n
    ·rw [hb] at n; cases n
def zb6 (X : Cx) (KX : V -> St -> Hp -> Prop) : Prop := ∀ (pins : List (Addr × Obj)) (σ : St) (H : Hp) (s : Shared) (e C : Addr) (dd : Option Addr), Inv X pins σ H s -> H e = some (.ext (XO false e C dd)) -> Fly s.heap e -> KX (.ref e) σ H -> X.xe (.ref e) s
theorem zfR {P : Program} {w : World} {K : PySem.W.Frag} {mg : Str -> Option Value} {base : Heap} {N : List Str} {qual : Str} {scope : Scope} {f : Addr} {cd : Value} {A : Around} {outer : List Env} {s₀ : Shared} {H₀ : Hp} {E : XK} :
  zb6 (cxOf (CX1 P w) P w K mg base N qual scope f cd A outer s₀ H₀ E) fun v _ H => ∃ e, v = .ref e /\ E (.ref e) none H := by
 intro pins σ H s e C dd I hx fl ⟨e', ee, hE⟩
 cases ee
 refine ziO (L := s₀.heap.objs.size) I.ok.frames I.stack rfl fl fun h' p fl' => ?_
 have I' := I.passed hx p
 exact ⟨e, C, dd, H, rfl, I'.os, I'.bare, I'.base, I'.hok, hx, fl', hE⟩
theorem zb6.pass {KX : V -> St -> Hp -> Prop} {E : XK} {v : Value} {s' : Shared} (hw : zb6 X KX) (I : Inv X pins σ H s) (h : CX1 X.prog X.w X.stack H s E v s') (hk : ∀ e H, E (.ref e) none H -> KX (.ref e) σ H) : X.xe v s' := by
 obtain ⟨e, C, dd, H', rfl, os, bare, un, hok, hx, fl, hE⟩ := h
 obtain ⟨hh, g, d, t, os'⟩ := s'
 obtain rfl : os' = s.os := os
 exact hw pins σ H' _ e C dd (I.call (h' := hh) (g' := g) (d' := d) (t' := t) (ch := []) un hok bare (fun b z => absurd z (by simp))) hx fl (hk e H' hE)
end
end L2
namespace L2
open PySem PySem.Spec PyProof.Rows PySem.Calls PyProof.V
abbrev VB : List Value := [.type "ValueError", .type "Exception", .type "BaseException", .type "object"]
structure XCls (M : Model) (base : Heap) (C : Addr) (bm : List Value) (fI : Addr) : Prop where
 obj : ∃ nm q N bs sn sub ab col dd k0 k1 k2 k3 k5, base.get? C = some (excClassObj nm q C N bs bm true sn sub ab col dd k0 k1 k2 k3 k5 "ValueError.__new__")
 tail : Tail VB bm
 init : zaB M C "__init__" (some (.ref fI)) base
 fn : ∃ o, base.get? fI = some o /\ o.cls = .type "function"
 sa : zaB M C "__setattr__" (some (.builtin "object.__setattr__")) base
 ga : zaB M C "__getattribute__" (some (.builtin "BaseException.__getattribute__")) base
 gh : zaB M C "__getattr__" none base
 cl : zaB M C "__class__" (some (.builtin "object.__class__")) base
 pass : ∀ v, refuseLoop v "__setattr__" bm = pure ()
section
variable {X : Cx} {k : Nat} {f C : Addr} {fd : FuncData} {ps : List Str} {sp : Sp} {x : Str} {p pos cpos : Pos} {e : Expr} {es : List Expr} {t : TA} {bm : List Value}
theorem zeI {pins : List (Addr × Obj)} {σ : St} {H : Hp} {s : Shared} {Q : VK} {us : List Value} {vs : List V} (M : XCls (model X.prog X.w) X.base C bm f) (F : FnOk X.prog X.w X.K X.mg X.base CX0 k f fd ps sp) (hr : Room (k + 1) X.A) (hb : za8 X.K fd ps [])
  (I : Inv X pins σ H s) (r : Vals vs us) (hl : us.length <= sizeLine)
  (h : ∀ a, H a = none -> sp (.ref a :: vs) (upd H a (.ext (XO true a C none))) (fun v H2 => v = .non /\ Q (.ref a) H2) E0) :
  wpAny (model X.prog X.w) X.A (call (.ref C) us) (EP X pins σ Q) X.xe s := by
 obtain ⟨nm, q, N, bs, sn, sub, ab, col, dd, k0, k1, k2, k3, k5, hC⟩ := M.obj
 obtain ⟨oI, hfI, hfc⟩ := M.fn
 obtain ⟨hp, g, d, tk, os⟩ := s
 refine zeG PySem.F.excBase_ValueError M.tail (I.bk _ _ hC) (fI := f) (M.init.keeps I.bk) (I.bk _ _ hfI) hfc (fun h' a made hz => ?_) hl
 obtain ⟨t', he, htn, ht⟩ := made.there
 have I2 : Inv X pins σ (upd H a (.ext (XO true a C none))) ⟨h', g, d, tk, os⟩ := I.laid (t' := tk) made.keeps hz (XO.ok ⟨_, _, he, fun _ => ⟨rfl, _, rfl⟩⟩)
 have hq := h a (I.hok.fresh hz)
 have r2 : Vals (V.ref a :: vs) (Value.ref a :: us) := .cons rfl r
 have hl2 : (Value.ref a :: us ++ []).length = ps.length := by
  have e := r2.length
  rw [F.len _ _ _ _ hq] at e
  rw [List.append_nil]
  exact e.symm
 refine wpAny_call (codeAny_mono (F.run _ X.stack _ _ ⟨Value.ref a :: us, []⟩ (Value.ref a :: us) _ _ E0 (hr.make C us []) (I2.env0.make C us []) (by have := hb _ (Value.ref a :: us) I2.kIn hl2; rwa [List.append_nil] at this) r2 hq) fun r s' hq' => ?_)
 cases r with
 | error e => exact hq'.elim
 | ok fl =>
  cases fl with
  | ret u =>
   obtain ⟨v, H', I3, rv, ev, q3⟩ := I2.after hq'
   subst ev
   exact ⟨rv, ⟨V.ref a, H', I3, rfl, q3⟩⟩
  | next => exact False.elim hq'
  | brk => exact False.elim hq'
  | cont => exact False.elim hq'
def tMkX (C : Addr) (sp : Sp) (t : TA) : TE := fun σ H Q => t σ H fun vs H1 => vs.length <= sizeLine /\ ∀ a, H1 a = none -> sp (.ref a :: vs) (upd H1 a (.ext (XO true a C none))) (fun v H2 => v = .non /\ Q (.ref a) H2) E0
theorem zdA (M : XCls (model X.prog X.w) X.base C bm f) (F : FnOk X.prog X.w X.K X.mg X.base CX0 k f fd ps sp) (hr : Room (k + 1) X.A) (hg : Gl X x) (hm : X.mg x = some (.ref C)) (hk : PySem.W.keepIn X.K (.ref C) = true) (hb : za8 X.K fd ps [])
  (ha : PA X (e :: es) t) (hdb : (x == ("__debug__" : Str)) = false := by decide) (he : starEach (e :: es) X.env = (false, eval e X.env) :: starEach es X.env := by rfl) (hpl : (backTo pos (starEach es X.env)).any (·.1) = false := by rfl) :
  PE X (.Call (.Name x p) (e :: es) [] pos) (tMkX C sp t) := by
 intro pins s σ H Q I h
 refine wpAny_Call_Name_kw (zbA I hg hm ?_ hdb)
 refine PySem.W.callWith_K (h₀ := X.base) I.ok.mod.kin hk (thn (ha pos pins s σ H _ I h) fun us s1 ⟨vs, H1, I1, r, hl, q⟩ => ⟨I1.kIn, ?_⟩) he hpl
 exact zeI M F hr hb I1 r (by show us.length <= sizeLine; rw [← r.length]; exact hl) q
def ziP (KC : Addr -> Prop) (te : TE) (KX : V -> St -> Hp -> Prop) : TS := fun _ σ H => te σ H fun v H2 => ∃ a C dd, v = .ref a /\ KC C /\ H2 a = some (.ext (XO true a C dd)) /\ KX (.ref a) σ (upd H2 a (.ext (XO false a C dd)))
theorem zeJ {M : Model} {A : Around} {E : Value -> Shared -> Prop} {env : Env} {s : Shared} {Q : Flow -> Shared -> Prop} {y : Sem Value}
  (hh : A.handled = none) (h : wpAny M A y (fun v s₁ => ∃ a C dd vs sl nm q N bs bm hdct sn sub ab col dd' k0 k1 k2 k3 k5 newId, v = .ref a /\ bm.contains (.type "BaseException") = true /\ s₁.heap.get? C = some (excClassObj nm q C N bs bm hdct sn sub ab col dd' k0 k1 k2 k3 k5 newId) /\
   s₁.heap.get? a = some { cls := .ref C, dict := dd, data := .fields vs, slots := sl } /\ vs[1]? = some .none /\ E (.ref a) s₁) E s) :
  wpAny M A (raiseStmt env (some y) none) Q E s := by
 unfold raiseStmt
 refine wpAny_bind (wpAny_mono h (fun v s₁ h₁ => ?_) fun _ _ x => x)
 obtain ⟨a, C, dd, vs, sl, nm, q, N, bs, bm, hdct, sn, sub, ab, col, dd', k0, k1, k2, k3, k5, newId, rfl, hbase, hC, he, h1, hE⟩ := h₁
 have hcB : (Value.ref C :: bm).contains (.type "BaseException") = true := by rw [List.contains_cons, hbase, Bool.or_true]
 obtain ⟨hp, g, d, tk, os⟩ := s₁
 repeat (first | with_reducible refine wpAny_field he rfl h1 ?_ | with_reducible refine wpAny_loadPart_at he ?_ | with_reducible refine wpAny_loadPart_at hC ?_ | (with_reducible refine wpAny_isSubtype_exc hC ?_; rw [hcB]) | wp_step)
 exact wpAny_raiseNew_none hh hE
theorem Inv.aged {pins : List (Addr × Obj)} {σ : St} {H : Hp} {s : Shared} {a C : Addr} {dd : Option Addr} (I : Inv X pins σ H s) (hx : H a = some (.ext (XO true a C dd))) : Inv X pins σ (upd H a (.ext (XO false a C dd))) s := by
 obtain ⟨x, _, _⟩ := I.hok a _ hx
 have := I.write (x := a) (e := a) (o := .ext (XO false a C dd)) (t' := s.toks) (h' := s.heap) (by rw [hx]; trivial) (.inl rfl) (fun _ _ _ q => q) (let ⟨_, _, q, _⟩ := x; ⟨_, q⟩) (XO.ok x.old)
 exact this
theorem zfS {KC : Addr -> Prop} {te : TE} {KX : V -> St -> Hp -> Prop} {exc : Expr} (hc : X.calm = true) (hcls : ∀ C, KC C -> ∃ bm fI, XCls (model X.prog X.w) X.base C bm fI) (hw : zb6 X KX) (ht : PE X exc te) : PS X (.Raise (some exc) none pos) (ziP KC te KX) := by
 intro pins s σ H D I h
 rw [arm_exec_Raise]
 refine wpAny_bind (wpAny_standAt ?_)
 show wpAny _ _ (raiseStmt X.env (some (do let v ← eval exc X.env; standAt pos; pure v)) none) _ _ _
 refine zeJ (I.ok.hd hc) (wpAny_bind (thn (ht pins s σ H _ I h) fun u s1 ⟨v, H2, I2, rv, a, C, dd, ev, kc, hx, kx⟩ => wpAny_bind (wpAny_standAt (wpAny_pure ?_))))
 subst ev
 obtain rfl : u = Value.ref a := rv
 obtain ⟨bm, fI, M⟩ := hcls C kc
 obtain ⟨nm, q, N, bs, sn, sub, ab, col, dd', k0, k1, k2, k3, k5, hC⟩ := M.obj
 obtain ⟨⟨vs, sl, g, z⟩, _, _⟩ := I2.hok a _ hx
 exact ⟨a, C, dd, vs, sl, nm, q, N, bs, bm, true, sn, sub, ab, col, dd', k0, k1, k2, k3, k5, _, rfl, M.tail _ _ rfl, I2.bk _ _ hC, g, (z rfl).1, hw pins σ _ s1 a C dd (I2.aged hx) zai (XO.fly ⟨vs, sl, g, z⟩) kx⟩
end
end L2
namespace L2
open PySem PySem.Spec PyProof.Rows PySem.Calls PyProof.V
section
variable {M : Model} {A : Around} {E : Value -> Shared -> Prop} {h : Heap} {g : Array GenState} {d : Drawn} {t : Nat} {os : OsState}
variable {nm q nm' q' : Str} {C N D N' a : Addr} {bs bm bs' bm' : List Value} {hdct hdct' : Bool} {sn sn' : List Str} {sub sub' : List Value} {ab ab' : Bool} {col col' : Option Bool} {dd dd' : Option Addr} {k0 k1 k2 k3 k5 j0 j1 j2 j3 j5 : Option Value} {newId newId' : String}
theorem zfT {o : Obj} {b : Bool} {Q : Bool -> Shared -> Prop} (hC : h.get? C = some (excClassObj nm q C N bs bm hdct sn sub ab col dd k0 k1 k2 k3 k5 newId)) (hD : h.get? D = some (excClassObj nm' q' D N' bs' bm' hdct' sn' sub' ab' col' dd' j0 j1 j2 j3 j5 newId'))
  (hbase : bm'.contains (.type "BaseException") = true) (ha : h.get? a = some o) (hc : o.cls = .ref C) (hb : (Value.ref C :: bm).contains (.ref D) = b) (hq : Q b ⟨h, g, d, t, os⟩) : wpAny M A (excMatches (.ref a) (.ref D)) Q E ⟨h, g, d, t, os⟩ := by
 have hcB : (Value.ref D :: bm').contains (.type "BaseException") = true := by rw [List.contains_cons, hbase, Bool.or_true]
 have f1 := tc_notTuple
 have f2 := tc_sub
 have hT : (⟨h, g, d, t, os⟩ : Shared).TypeIs (.ref D) "type" := ⟨_, hD, rfl⟩
 unfold excMatches
 repeat (any_goals (first | assumption | (with_reducible refine wpAny_loadPart_at ha ?_; rw [hc]) | with_reducible refine wpAny_loadPart_at hD ?_ | with_reducible refine wpAny_loadPart_at hC ?_ | (with_reducible refine wpAny_isSubtype_exc hD ?_; rw [hcB]) | (with_reducible refine wpAny_isSubtype_exc hC ?_; rw [hb]) | wp_step))
 cases b <;> (wp_walk; exact hq)
end
end L2
namespace L2
open PySem PySem.Spec PyProof.Rows PySem.Calls PyProof.V
def ziQ (sp : Sp) (KX : V -> St -> Hp -> Prop) (t : TA) : TE := fun σ H Q => t σ H fun vs H1 => sp vs H1 Q fun v _ H' => ∀ a, v = .ref a -> KX (.ref a) σ H'
section
variable {X : Cx} {k : Nat} {f : Addr} {fd : FuncData} {ps : List Str} {sp : Sp} {x n : Str} {p pos np hpos : Pos} {e : Expr} {es : List Expr} {t : TA} {KX : V -> St -> Hp -> Prop}
theorem zfU (F : FnOk X.prog X.w X.K X.mg X.base (CX1 X.prog X.w) k f fd ps sp) (hr : Room k X.A) (hg : Gl X x) (hm : X.mg x = some (.ref f)) (hk : PySem.W.keepIn X.K (.ref f) = true) (hb : za8 X.K fd ps []) (hw : zb6 X KX)
  (ha : PA X (e :: es) t) (hdb : (x == ("__debug__" : Str)) = false := by decide) (he : starEach (e :: es) X.env = (false, eval e X.env) :: starEach es X.env := by rfl) (hpl : (backTo pos (starEach es X.env)).any (·.1) = false := by rfl) :
  PE X (.Call (.Name x p) (e :: es) [] pos) (ziQ sp KX t) := by
 intro pins s σ H Q I h
 refine wpAny_Call_Name_kw (zbA I hg hm ?_ hdb)
 refine PySem.W.callWith_K (h₀ := X.base) I.ok.mod.kin hk (thn (ha pos pins s σ H _ I h) fun us s1 ⟨vs, H1, I1, r, q⟩ => ⟨I1.kIn, ?_⟩) he hpl
 have hl : (us ++ []).length = ps.length := by rw [List.append_nil, ← r.length]; exact F.len _ _ _ _ q
 refine wpAny_call (codeAny_mono (F.run X.A X.stack s1 H1 ⟨us, []⟩ us vs Q _ hr I1.env0 (by have := hb s1 us I1.kIn hl; rwa [List.append_nil] at this) r q) fun r s' hq => ?_)
 cases r with
 | error e => exact hw.pass (E := fun v _ H' => ∀ a, v = .ref a -> KX (.ref a) σ H') I1 hq fun a H' z => z a rfl
 | ok fl =>
  cases fl with
  | ret u => exact I1.after hq
  | next => exact False.elim hq
  | brk => exact False.elim hq
  | cont => exact False.elim hq
abbrev Cx.suite (X : Cx) (a : Addr) : Cx := { X with A := X.A.mark (some (.ref a)), calm := false, xe := fun _ _ => False }
theorem Cx.Ok.suite (ok : X.Ok) (a : Addr) : (X.suite a).Ok :=
 ⟨ok.mod, ok.kind, ok.glob, ok.blt, ok.above, ok.inj, ok.has, ok.cab, fun z => (nomatch z), ok.frames, ok.stk, ok.exf, ok.bs, ok.bsz, ok.noex, ok.exfs, ok.funs, ok.frf⟩
theorem Inv.suite {pins : List (Addr × Obj)} {σ : St} {H : Hp} {s : Shared} (I : Inv X pins σ H s) (a : Addr) : Inv (X.suite a) pins σ H s := ⟨I.ok.suite a, I.os, I.bare, I.base, I.loc, I.cell, I.free, I.freeC, I.pin, I.hok, I.len⟩
theorem Inv.unsuite {pins : List (Addr × Obj)} {σ σ' : St} {H H' : Hp} {s s' : Shared} {a : Addr} (I0 : Inv X pins σ H s) (I : Inv (X.suite a) pins σ' H' s') : Inv X pins σ' H' s' := ⟨I0.ok, I.os, I.bare, I.base, I.loc, I.cell, I.free, I.freeC, I.pin, I.hok, I.len⟩
theorem zbv {pins : List (Addr × Obj)} {σ : St} {H : Hp} {s : Shared} {i : Nat} {Q : Unit -> Shared -> Prop} {E : Value -> Shared -> Prop} {A : Around} (I : Inv X pins σ H s) (hN : X.N.Nodup) (hi : X.N[i]? = some n) (hl : X.env.kindOf n = some .local)
  (h : ∀ s', Inv X pins (σ.set i none) H s' -> Q () s') : wpAny (model X.prog X.w) A (do bindName X.env n .none; unbindBehindTheSuite X.env n pos) Q E s := by
 have hcls : (X.env.scope.kind == .class || (X.env.scope.kind == .module && X.env.locals != X.env.globals)) = false := by rw [I.ok.kind]; rfl
 refine wpAny_bind (wpAny_bindName (zbK (v := .non) (u := .none) I hN hi (.inl hl) rfl (fun s1 I1 => ?_) (.inr hl)))
 unfold unbindBehindTheSuite
 refine wpAny_onRaise ?_
 unfold unbindName
 refine wpAny_bind (wpAny_point (wpAny_bind ?_))
 unfold deleteName
 simp only [hl, hcls]
 rw [if_neg (by decide)]
 obtain ⟨m, hn, hlk⟩ := id I1.loc
 have hiσ : i < σ.length := by rw [I.len]; exact (List.getElem?_eq_some_iff.mp hi).1
 refine wpAny_bind (wpAny_nsDel_keeps hn fun h' v hn' hs => ?_)
 have hsome : (m n).isSome = true := by
  obtain ⟨u, _, l⟩ := hlk i n .non hi (by rw [List.getElem?_set_self hiσ]) (.inl hl)
  rcases l with ⟨_, l⟩ | ⟨k, _⟩
  ·rw [l]; rfl
  ·rcases k with k | k
   ·rw [hl] at k; cases k
   ·rw [hl] at k; cases k
 rw [hsome]
 simp only [if_true, Bool.not_true, Bool.false_eq_true, if_false]
 refine wpAny_pure (wpAny_point (h _ ?_))
 obtain ⟨oL, _, _, hoL, _⟩ := id hn
 have neL : ∀ b o, X.s₀.heap.get? b = some o -> b ≠ X.env.locals := fun b o e => Nat.ne_of_lt (Nat.lt_of_lt_of_le (Heap.lt_size e) I.ok.above)
 refine ⟨I1.ok, I1.os, I1.bare, ⟨fun b o e n hb hx => (hs.2 b (neL b o e)).trans (I1.base.keep b o e n hb hx), fun b o e n hb hx => ?_, I1.base.free, fun b o e hx => ?_, I1.base.tups, I1.base.frzs, I1.base.tbls⟩, ⟨_, hn', fun j y v' e1 e2 e3 => ?_⟩, fun y c e => ?_, I1.free, I1.freeC, fun p hp => ?_, fun b ob e => ?_, ?_⟩
 ·obtain ⟨sl, e1⟩ := I1.base.slot b o e n hb hx
  exact ⟨sl, (hs.2 b (neL b o e)).trans e1⟩
 ·obtain ⟨o', e1⟩ := I1.base.there b o e hx
  exact ⟨o', (hs.2 b (neL b o e)).trans e1⟩
 ·have hj : j ≠ i := by
   rintro rfl
   rw [List.getElem?_set_self hiσ] at e2
   cases e2
  rw [List.getElem?_set_ne (Ne.symm hj)] at e2
  obtain ⟨u', r', q⟩ := hlk j y v' e1 (by rw [List.getElem?_set_ne (Ne.symm hj)]; exact e2) e3
  have hy : y ≠ n := by
   rintro rfl
   obtain ⟨h1, h2⟩ := List.getElem?_eq_some_iff.mp e1
   obtain ⟨h3, h4⟩ := List.getElem?_eq_some_iff.mp hi
   exact hj ((List.getElem_inj hN).mp (h2.trans h4.symm))
  refine ⟨u', r', ?_⟩
  rcases q with ⟨q1, q2⟩ | ⟨k, c, e, z⟩
  ·exact .inl ⟨q1, (if_neg hy).trans q2⟩
  ·obtain ⟨o, ho, hd⟩ := z
   exact .inr ⟨k, c, e, o, (hs.2 c (I1.cne y c e)).trans ho, hd⟩
 ·obtain ⟨v', o, ho, hd⟩ := I1.cell y c e
  exact ⟨v', o, (hs.2 c (I1.cne y c e)).trans ho, hd⟩
 ·obtain ⟨a, b, c, d⟩ := I1.pin p hp
  exact ⟨(hs.2 _ c).trans a, b, c, d⟩
 ·refine (I1.hok b ob e).stay (fun c w' hc q => (hs.2 c ?_).trans q) (fun _ q => q) fun _ _ q => q
  rintro rfl
  rcases hc with rfl | hc
  ·rw [I1.free] at e; cases e
  ·rw [I1.free] at hc; cases hc
 ·rw [List.length_set]; exact I.len
theorem zd3 {M : Model} {A : Around} {E : Value -> Shared -> Prop} {s : Shared} {a : Addr} {Q : Unit -> Shared -> Prop} (fl : Fly s.heap a) (h : ∀ h', (∀ b o, s.heap.get? b = some o -> h'.get? b = some o) -> Q () { s with heap := h' }) : wpAny M A (setFlight (.ref a) none) Q E s := by
 obtain ⟨oe, vs, he, hd, h1⟩ := fl
 unfold setFlight
 rcases h1 with h1 | ⟨T, oT, ts, h1, hTe, hT, hdT, h3⟩
 ·refine wpAny_bind (wpAny_field he hd h1 ?_)
  rw [if_neg (by decide)]
  exact wpAny_pure (h s.heap fun _ _ q => q)
 ·obtain ⟨hs3, hv3⟩ := Array.getElem?_eq_some_iff.mp h3
  refine wpAny_bind (wpAny_field he hd h1 ?_)
  rw [if_pos (show (Value.ref T != Value.none) = true from by simp)]
  refine wpAny_setField hT hdT hs3 (h _ fun b o hb => ?_)
  by_cases hbT : b = T
  ·subst hbT
   rw [hT] at hb; cases hb
   rw [Heap.get?_update_self _ hT (Obj.isFreed_of_fields (Obj.data_mapFields hdT _)), mapF _ hdT]
   have : ts.setIfInBounds 3 Value.none = ts := Array.setIfInBounds_same _ _ _ h3
   show some { oT with data := .fields (ts.setIfInBounds 3 Value.none) } = _
   rw [this, ← hdT]
  ·rw [Heap.get?_update_other _ _ (Ne.symm hbT)]; exact hb
def tExc (KC : Addr -> List Value -> Prop) (D : Addr) (i : Nat) (ts : TS) (Dn : Ends) : V -> St -> Hp -> Prop := fun v σ H => ∃ a C dd bm, v = .ref a /\ KC C bm /\ H a = some (.ext (XO false a C dd)) /\ (Value.ref C :: bm).contains (.ref D) = true /\
 ts { nx := fun σ' H' => Dn.nx (σ'.set i none) H', rt := Dn.rt, bk := fun σ' H' => Dn.bk (σ'.set i none) H', ct := fun σ' H' => Dn.ct (σ'.set i none) H' } (σ.set i (some (.ref a))) H
def tTry (KC : Addr -> List Value -> Prop) (D : Addr) (i : Nat) (tb : (V -> St -> Hp -> Prop) -> TS) (ts : TS) : TS := fun Dn σ H => tb (tExc KC D i ts Dn) Dn σ H
abbrev Cx.tried (X : Cx) (W : Value -> Shared -> Prop) (pins : List (Addr × Obj)) : Cx := { X with xe := W, pn := X.pn ++ pins }
theorem Inv.tried {pins : List (Addr × Obj)} {σ : St} {H : Hp} {s : Shared} (I : Inv X pins σ H s) (W : Value -> Shared -> Prop) : Inv (X.tried W pins) [] σ H s :=
 ⟨⟨I.ok.mod, I.ok.kind, I.ok.glob, I.ok.blt, I.ok.above, I.ok.inj, I.ok.has, I.ok.cab, I.ok.hd, I.ok.frames, I.ok.stk, I.ok.exf, I.ok.bs, I.ok.bsz, I.ok.noex, I.ok.exfs, I.ok.funs, I.ok.frf⟩, I.os, I.bare, I.base, I.loc, I.cell, I.free, I.freeC, fun p hp => I.pin p (by simpa using hp), I.hok, I.len⟩
theorem Inv.untried {pins pins' : List (Addr × Obj)} {σ σ' : St} {H H' : Hp} {s s' : Shared} {W : Value -> Shared -> Prop} (I0 : Inv X pins σ H s) (I : Inv (X.tried W pins) pins' σ' H' s') : Inv X pins σ' H' s' :=
 ⟨I0.ok, I.os, I.bare, I.base, I.loc, I.cell, I.free, I.freeC, fun p hp => I.pin p (List.mem_append_left _ hp), I.hok, I.len⟩
theorem ziR {KC : Addr -> List Value -> Prop} {D fD : Addr} {bmD : List Value} {i : Nat} {tb : (V -> St -> Hp -> Prop) -> TS} {ts : TS} {body suite : List Stmt} {b₀ : Stmt} {st : List Env} (hstk : X.stack = X.env :: st) (hfr : X.env.frame = some X.env.locals)
  (hcls : ∀ C bm, KC C bm -> ∃ fI, XCls (model X.prog X.w) X.base C bm fI) (hD : XCls (model X.prog X.w) X.base D bmD fD) (hg : Gl X x) (hm : X.mg x = some (.ref D)) (hN : X.N.Nodup) (hi : X.N[i]? = some n) (hl : X.env.kindOf n = some .local)
  (hb : ∀ (KX : V -> St -> Hp -> Prop) (W : Value -> Shared -> Prop) (pn : List (Addr × Obj)), zb6 (X.tried W pn) KX -> PSs (X.tried W pn) body (tb KX)) (hs : ∀ a, PSs (X.suite a) (b₀ :: suite) ts) (hdb : (x == ("__debug__" : Str)) = false := by decide) :
  PS X (.Try body [.ExceptHandler (some (.Name x np)) (some n) (b₀ :: suite) hpos] [] [] pos) (tTry KC D i tb ts) := by
 intro pins s σ H Dn I h
 refine wpAny_Try_except ?_
 let W : Value -> Shared -> Prop := fun v s1 => ∃ a σ1 H1, v = .ref a /\ Inv X pins σ1 H1 s1 /\ Fly s1.heap a /\ tExc KC D i ts Dn (.ref a) σ1 H1
 have hw : zb6 (X.tried W pins) (tExc KC D i ts Dn) := fun pins' σ1 H1 s1 a C dd I1 hx fl hk => ⟨a, σ1, H1, rfl, I.untried I1, fl, hk⟩
 refine wpAny_mono (hb _ W pins hw [] s σ H Dn (I.tried W) h) (fun f s1 h1 => ?_) fun v s1 h1 => ?_
 ·cases f with
  | next =>
   obtain ⟨σ', H', I', q⟩ := h1
   exact wpAny_execs_nil ⟨σ', H', I.untried I', q⟩
  | brk => obtain ⟨σ', H', I', q⟩ := h1; exact ⟨σ', H', I.untried I', q⟩
  | cont => obtain ⟨σ', H', I', q⟩ := h1; exact ⟨σ', H', I.untried I', q⟩
  | ret u => obtain ⟨v, σ', H', I', r, q⟩ := h1; exact ⟨v, σ', H', I.untried I', r, q⟩
 ·obtain ⟨a, σ1, H1, rfl, I1, fl, a', C, dd, bm, ea, kc, hx, hm', q⟩ := h1
  cases ea
  obtain ⟨fI, XC⟩ := hcls C bm kc
  have hk := I1.ok.frames
  rw [hstk] at hk
  have hS := I1.stack
  rw [hstk] at hS
  refine note hk hS hfr fl fun h2 p2 fl2 => ?_
  rw [← hstk] at p2
  have I2 := I1.passed hx p2
  refine wpAny_handleBy_cons (codeAny_handlers_test ?_) (by intro q; cases q)
  refine zbA (I2.suite a) hg hm ?_ hdb
  obtain ⟨nm, qn, N, bs, sn, sub, ab, col, dd1, k0, k1, k2, k3, k5, hC⟩ := XC.obj
  obtain ⟨nm', qn', N', bs', sn', sub', ab', col', dd2, j0, j1, j2, j3, j5, hD'⟩ := hD.obj
  obtain ⟨⟨vs, sl, ga, _⟩, _, _⟩ := I2.hok a _ hx
  refine zfT (I2.bk _ _ hC) (I2.bk _ _ hD') (hD.tail _ _ rfl) ga rfl hm' ?_
  refine codeAny_handlers_suite_as (zd3 fl2 fun h3 k3 => ?_)
  have I3 := I2.kept (t' := s1.toks) k3
  refine zbK (v := .ref a) I3 hN hi (.inl hl) rfl (fun s4 I4 => ?_) (.inr hl)
  refine wpAny_mono (hs a pins s4 _ H1 _ (I4.suite a) q) (fun f s5 h5 => ?_) fun _ _ z => z.elim
  cases f with
  | next =>
   obtain ⟨σ', H', I', q'⟩ := h5
   exact zbv (I3.unsuite I') hN hi hl fun s6 I6 => ⟨_, H', I6, q'⟩
  | brk =>
   obtain ⟨σ', H', I', q'⟩ := h5
   exact zbv (I3.unsuite I') hN hi hl fun s6 I6 => ⟨_, H', I6, q'⟩
  | cont =>
   obtain ⟨σ', H', I', q'⟩ := h5
   exact zbv (I3.unsuite I') hN hi hl fun s6 I6 => ⟨_, H', I6, q'⟩
  | ret u =>
   obtain ⟨v, σ', H', I', r, q'⟩ := h5
   exact zbv (I3.unsuite I') hN hi hl fun s6 I6 => ⟨v, _, H', I6, r, q'⟩
end
end L2
namespace L2
open PySem PySem.Spec PyProof.Rows PySem.Calls PyProof.V
section
variable {prog : Program} {w : World} {A : Around} {E : Value -> Shared -> Prop} {h : Heap} {g : Array GenState} {d : Drawn} {t : Nat} {os : OsState}
variable {nm q : Str} {C N a : Addr} {bs bm bmB : List Value} {hdct : Bool} {sn : List Str} {sub : List Value} {ab : Bool} {col : Option Bool} {dd : Option Addr} {k0 k1 k2 k3 k5 : Option Value} {B newId initId nid : String}
theorem zdh (F : ExcBaseFacts B nid initId bmB) (T : Tail bmB bm) {M : Model} {oe : Obj} {rest : List Value} {Q : Unit -> Shared -> Prop}
  (hC : h.get? C = some (excClassObj nm q C N bs bm hdct sn sub ab col dd k0 k1 k2 k3 k5 newId)) (he : h.get? a = some oe) (hcls : oe.cls = .ref C) (hq : Q () ⟨h, g, d, t, os⟩) :
  wpAny M A (checkBuiltinCall initId ⟨.ref a :: rest, []⟩) Q E ⟨h, g, d, t, os⟩ := by
 have hcB : (Value.ref C :: bm).contains (.type B) = true := by rw [List.contains_cons, T _ _ F.hasB, Bool.or_true]
 have hshort := F.noStar
 simp only [checkBuiltinCall, F.initKind, F.initSplit, F.initRow]
 repeat (first | (with_reducible refine wpAny_loadPart_at he ?_; rw [hcls]) | with_reducible refine wpAny_loadPart_at hC ?_ | (with_reducible refine wpAny_isSubtype_exc hC ?_; rw [hcB]) | wp_step)
 refine wpAny_onRaise ?_
 rw [show ∀ (x1 x2 : String) (n : Nat), Bind.check ⟨.positional, "*", B, .self, [⟨"args", .varPos, false⟩]⟩ x1 x2 n (List.map (fun x => x.fst) ({ pos := Value.ref a :: rest } : Args).kw) = pure () from
  fun _ _ n => check_star_args _ _ _ _ _ _]
 exact wpAny_pure hq
theorem zd4 (F : ExcBaseFacts B nid initId bmB) (T : Tail bmB bm) {oe : Obj} {vs : Array Value} {u : Value} {Q : Value -> Shared -> Prop}
  (hC : h.get? C = some (excClassObj nm q C N bs bm hdct sn sub ab col dd k0 k1 k2 k3 k5 newId)) (he : h.get? a = some oe) (hcls : oe.cls = .ref C) (hd : oe.data = .fields vs) {t0 : Addr} (h0 : vs[0]? = some (.ref t0))
  (hq : ∀ h', (∀ b o, b ≠ a -> h.get? b = some o -> h'.get? b = some o) -> (∃ y, h'.get? a = some { oe with data := .fields (vs.setIfInBounds 0 (.ref y)) }) -> Q .none ⟨h', g, d, t, os⟩) :
  wpAny (model prog w) A (call (.builtin initId) [.ref a, u]) Q E ⟨h, g, d, t, os⟩ := by
 refine wpAny_call (codeAny_call_builtin F.init.plain F.initEntry (zdh F T hC he hcls ?_))
 have he₂ : (h.push { cls := .type "tuple", data := .seq #[u] }).get? a = some oe := Heap.get?_push_of_some _ he
 have hz : 0 < vs.size := (Array.getElem?_eq_some_iff.mp h0).1
 repeat (first | with_reducible refine wpAny_field he₂ hd h0 ?_ | with_reducible refine wpAny_setField he₂ hd hz ?_ | wp_step)
 have he₃ := Heap.get?_update_self (Obj.mapFields (·.setIfInBounds 0 (Value.ref h.objs.size))) he₂ (Obj.isFreed_of_fields (Obj.data_mapFields hd _))
 refine hq _ (fun b o hb g => ?_) ⟨_, by rw [he₃, mapF _ hd]⟩
 rw [Heap.get?_update_other _ _ (Ne.symm hb)]
 exact Heap.get?_push_of_some _ g
end
theorem zhk : PySem.W.handedIn (.builtin "ValueError.__init__") = true := by decide +kernel
theorem ziS {h : Heap} : PySem.W.Frag.In [] h := fun a o z => by cases z
theorem zeK : typeOf (.type "ValueError") = pure (.type "type") := by kernel_rfl
theorem zhl : Manifest.isStub "ValueError" = false := by decide +kernel
theorem zhm : PySem.W.findCls [] (.type "ValueError") (.type "type") "__init__" = some (.val (.builtin "ValueError.__init__")) := by kernel_rfl
section
variable {X : Cx} {k : Nat} {f D : Addr} {fd : FuncData} {ps : List Str} {sp : Sp} {x : Str} {p pos apos : Pos} {e : Expr} {es : List Expr} {t : TA}
def zgJ (KC : Addr -> List Value -> Prop) (t : TA) : TE := fun σ H Q => t σ H fun vs H1 => ∃ a C dd bm u, vs = [.ref a, u] /\ KC C bm /\ H1 a = some (.ext (XO true a C dd)) /\ Q .non H1
theorem zfV {KC : Addr -> List Value -> Prop} {pl : Sem Bool} (hcls : ∀ C bm, KC C bm -> ∃ fI, XCls (model X.prog X.w) X.base C bm fI) (hg : Gl X "ValueError") (hm : X.mg "ValueError" = none) (ha : PA X (e :: es) t)
  (hst : starEach (e :: es) X.env = (false, eval e X.env) :: starEach es X.env := by rfl) (hpl : (backTo pos (starEach es X.env)).any (·.1) = false := by rfl)
  (ht : eval (.Call (.Attribute (.Name "ValueError" p) "__init__" apos) (e :: es) [] pos) X.env = (do
   let ov ← eval (.Name "ValueError" p) X.env
   standAt apos.atName
   let (f, first) ← holding [ov] (getMethod ov "__init__" pl)
   callWith pos f first (backTo pos (starEach (e :: es) X.env)) (backToKw pos (keywordEach [] X.env))) := by rfl) :
  PE X (.Call (.Attribute (.Name "ValueError" p) "__init__" apos) (e :: es) [] pos) (zgJ KC t) := by
 intro pins s σ H Q I h
 have hB : bootBuiltins "ValueError" = some (.type "ValueError") := by decide +kernel
 refine PySem.W.methodCall_KW (pl := pl) (zb8 I hg hm hB ?_) ht
 obtain ⟨m, Fm⟩ := I.fr
 refine PySem.W.method_type (K := []) (v := .builtin "ValueError.__init__") Fm ziS zeK zhl zhm zhk ?_
 refine PyProof.Rows.callWith_builtin1 (thn (ha pos pins _ σ H _ (I.tok _) h) fun us s1 ⟨vs, H1, I1, r1, a, C, dd, bm, u, ev, kc, hx, q⟩ => ?_) hst hpl
 subst ev
 cases r1 with
 | cons ra r1 =>
 cases r1 with
 | cons ru r1 =>
 cases r1
 have ra' : _ = Value.ref a := ra
 subst ra'
 obtain ⟨fI, XC⟩ := hcls C bm kc
 obtain ⟨nm, qn, N, bs, sn, sub, ab, col, dd1, k0, k1, k2, k3, k5, hC⟩ := XC.obj
 obtain ⟨⟨vs, sl, ga, z⟩, _, _⟩ := I1.hok a _ hx
 obtain ⟨z1, t0, z0⟩ := z rfl
 obtain ⟨hp, g, d, tk, os⟩ := s1
 refine zd4 PySem.F.excBase_ValueError XC.tail (I1.bk _ _ hC) ga rfl rfl z0 fun h' k ⟨y, hy⟩ => ?_
 have hw := I1.write (x := a) (e := a) (o := .ext (XO true a C dd)) (t' := tk) (h' := h') (by rw [hx]; trivial) (.inl rfl) k ⟨_, hy⟩ (XO.ok ⟨_, sl, hy, fun _ => ⟨by rw [Array.getElem?_setIfInBounds_ne (by decide)]; exact z1, y, by simp [(Array.getElem?_eq_some_iff.mp z0).1]⟩⟩)
 have e : upd H1 a (.ext (XO true a C dd)) = H1 := by
  funext b
  by_cases hb : b = a
  ·subst hb; rw [zai, hx]
  ·rw [zak hb]
 rw [e] at hw
 exact ⟨.non, H1, hw, rfl, q⟩
end
end L2
namespace L2
open PySem PySem.Spec PyProof.Rows PySem.Calls PyProof.V
structure zeL (K : PySem.W.Frag) (D : Addr) (m : Str) (f : Addr) : Prop where
 ga : PySem.W.specialIn K (.ref D) "__getattribute__" = some (some (.builtin "type.__getattribute__"))
 rd : PySem.W.readsIn K D (.type "type") = true
 fd : PySem.W.findCls K (.ref D) (.type "type") m = some (.val (.ref f))
 kp : PySem.W.keepIn K (.ref f) = true
section
variable {X : Cx} {k : Nat} {f D : Addr} {fd : FuncData} {ps : List Str} {sp : Sp} {x m : Str} {p pos apos : Pos} {e : Expr} {es : List Expr} {t : TA}
theorem zdB {pl : Sem Bool} (M : zeL X.K D m f) (F : FnOk X.prog X.w X.K X.mg X.base CX0 k f fd ps sp) (hr : Room k X.A) (hb : za8 X.K fd ps []) (hg : Gl X x) (hm : X.mg x = some (.ref D)) (ha : PA X (e :: es) t)
  (hdb : (x == ("__debug__" : Str)) = false := by decide) (hst : starEach (e :: es) X.env = (false, eval e X.env) :: starEach es X.env := by rfl) (hpl : (backTo pos (starEach es X.env)).any (·.1) = false := by rfl)
  (ht : eval (.Call (.Attribute (.Name x p) m apos) (e :: es) [] pos) X.env = (do
   let ov ← eval (.Name x p) X.env
   standAt apos.atName
   let (f, first) ← holding [ov] (getMethod ov m pl)
   callWith pos f first (backTo pos (starEach (e :: es) X.env)) (backToKw pos (keywordEach [] X.env))) := by rfl) :
  PE X (.Call (.Attribute (.Name x p) m apos) (e :: es) [] pos) (zfL sp [] E0 t) := by
 intro pins s σ H Q I h
 refine PySem.W.methodCall_KW (pl := pl) (zbA I hg hm ?_ hdb) ht
 refine PySem.W.method_cls I.kIn M.ga (PySem.W.cls_value I.kIn M.rd M.fd rfl ?_)
 refine PySem.W.callWith_K (h₀ := X.base) I.ok.mod.kin M.kp (thn (ha pos pins _ σ H _ (I.tok _) h) fun us s1 ⟨vs, H1, I1, r, q⟩ => ⟨I1.kIn, ?_⟩) hst hpl
 exact zgG F hr hb .nil ziM I1 r q
end
def XD (dx : Addr) (fs : List (Str × V)) : Heap -> Prop := fun h => ∃ mA, h.Ns1 dx mA /\ h.ExactDictFk dx /\ (∀ f, RelO (fs.lookup f) (mA f)) /\ PySem.Within mA (fs.map (·.1))
theorem XD.ok {P : Program} {w : World} {H : Hp} {h : Heap} {dx : Addr} {fs : List (Str × V)} (x : XD dx fs h) : zaR P w H h dx (.ext (XD dx fs)) :=
 ⟨x, let ⟨_, ⟨o, _, _, q, _⟩, _⟩ := x; ⟨o, q⟩, fun h1 h2 ⟨mA, ⟨o, es, ep, q, c⟩, ⟨od, q2, c2⟩, r⟩ k => ⟨mA, ⟨o, es, ep, k _ q, c⟩, ⟨od, k _ q2, c2⟩, r⟩⟩
theorem XO.inst {h : Heap} {a C : Addr} {vs : Array Value} {sl : Array (Option Value)} (g : h.get? a = some { cls := .ref C, dict := none, data := .fields vs, slots := sl }) : h.InstFk a C fun _ => none :=
 ⟨_, g, rfl, fun _ z => (by cases z), .inl ⟨rfl, fun _ => rfl⟩⟩
section
variable {X : Cx} {pins : List (Addr × Obj)} {σ : St} {H : Hp} {s : Shared} {a C dx : Addr} {h' : Heap} {t' : Nat}
theorem Inv.xdict {fs : List (Str × V)} (I : Inv X pins σ H s) (hx : H a = some (.ext (XO true a C none))) (k : ∀ b o, b ≠ a -> s.heap.get? b = some o -> h'.get? b = some o) (hz : s.heap.objs.size <= dx) (h1 : XO true a C (some dx) h') (h2 : XD dx fs h') :
  Inv X pins σ (upd (upd H a (.ext (XO true a C (some dx)))) dx (.ext (XD dx fs))) { s with heap := h', toks := t' } := by
 have hn : H dx = none := I.hok.fresh hz
 have hne : dx ≠ a := fun z => by rw [z, hx] at hn; cases hn
 have ne : ∀ b, H b = none -> b ≠ a := fun b n z => by rw [z, hx] at n; cases n
 have nd : ∀ b o, s.heap.get? b = some o -> b ≠ dx := fun b o g z => by subst z; exact absurd (Heap.lt_size g) (Nat.not_lt.mpr hz)
 have oth : ∀ b, b ≠ a -> b ≠ dx -> upd (upd H a (.ext (XO true a C (some dx)))) dx (.ext (XD dx fs)) b = H b := fun b h1 h2 => by rw [zak h2, zak h1]
 have trk : ∀ b u, H b = some u -> b ≠ dx := fun b u q z => by rw [z, hn] at q; cases q
 have nota : ∀ b (u : HO), H b = some u -> (∀ φ, u ≠ .ext φ) -> b ≠ a := fun b u q n z => by rw [z, hx] at q; cases q; exact n _ rfl
 refine I.un (t' := t') ⟨fun b o g n _ _ => k b o (ne b n) g, fun b o g n _ _ => ⟨o.slots, k b o (ne b n) g⟩, fun b o g n _ => (oth b (ne b n) (nd b o g)).trans n, fun b o g _ => ?_, fun b xs q => ?_, fun b o u q => ?_, fun b ps q => ⟨#[], ?_⟩⟩ fun b u q => ?_
 ·by_cases hb : b = a
  ·subst hb; obtain ⟨_, _, z, _⟩ := h1; exact ⟨_, z⟩
  ·exact ⟨o, k b o hb g⟩
 ·exact (oth b (nota b _ q fun _ z => by cases z) (trk b _ q)).trans q
 ·exact (oth b (nota b _ q fun _ z => by cases z) (trk b _ q)).trans q
 ·rw [oth b (nota b _ q fun _ z => by cases z) (trk b _ q), q]; simp
 ·by_cases hb : b = dx
  ·subst hb; rw [zai] at q; cases q; exact XD.ok h2
  ·rw [zak hb] at q
   by_cases hb2 : b = a
   ·subst hb2; rw [zai] at q; cases q; exact XO.ok h1
   ·rw [zak hb2] at q
    refine (I.hok b u q).stay (fun c v hc g => k c v ?_ g) (fun c r => (oth c (nota c _ r fun _ z => by cases z) (trk c _ r)).trans r) fun c xs r => (oth c (nota c _ r fun _ z => by cases z) (trk c _ r)).trans r
    rcases hc with rfl | hc
    ·exact hb2
    ·exact nota c _ hc fun _ z => by cases z
end
def zfW (KC : Addr -> List Value -> Prop) (ta tv : TE) (f : Str) : TS := fun D σ H => tv σ H fun y H1 => ta σ H1 fun x H2 => ∃ a C bm, x = .ref a /\ KC C bm /\
 ((H2 a = some (.ext (XO true a C none)) /\ ∀ dx, H2 dx = none -> dx ≠ a -> D.nx σ (upd (upd H2 a (.ext (XO true a C (some dx)))) dx (.ext (XD dx [(f, y)])))) ∨
  ∃ dx fs, dx ≠ a /\ H2 a = some (.ext (XO true a C (some dx))) /\ H2 dx = some (.ext (XD dx fs)) /\ fs.length < 900 /\ D.nx σ (upd H2 dx (.ext (XD dx (putF f y fs)))))
section
variable {X : Cx} {o value : Expr} {f : Str} {pos pos' : Pos} {ta tv : TE} {KC : Addr -> List Value -> Prop}
theorem zdi (hcls : ∀ C bm, KC C bm -> ∃ fI, XCls (model X.prog X.w) X.base C bm fI) (hf : ∀ C bm, KC C bm -> zaB (model X.prog X.w) C f none X.base) (ha : PE X o ta) (hv : PE X value tv)
  (hs : swapsWith value (some (.Attribute o f pos')) pos.line X.env = pure false) : PS X (.Assign [.Attribute o f pos'] value pos) (zfW KC ta tv f) := by
 intro pins s σ H D I h
 refine plainObj_wpAny_Assign_Attribute (thn (hv pins s σ H _ I h) fun u s1 ⟨y, H1, I1, ry, q⟩ => thn (ha pins s1 σ H1 _ I1 q) fun ov s2 ⟨x, H2, I2, rx, a, C, bm, ex, kc, q2⟩ => ?_) hs
 subst ex
 obtain rfl : ov = Value.ref a := rx
 obtain ⟨fI, XC⟩ := hcls C bm kc
 obtain ⟨nm, qn, N, bs, sn, sub, ab, col, dd1, k0, k1, k2, k3, k5, hC⟩ := XC.obj
 obtain ⟨hp, g, d, tk, os⟩ := s2
 rcases q2 with ⟨hx, q2⟩ | ⟨dx, fs, hne, hx, hdx, hl, q2⟩
 ·obtain ⟨⟨vs, sl, ga, z⟩, _, _⟩ := I2.hok a _ hx
  refine zbT (ns := []) PySem.F.store_ValueError XC.tail (XC.pass _) (I2.bk _ _ hC) (XC.sa.keeps I2.bk) ((hf C bm kc).keeps I2.bk) (XO.inst ga) (fun h' tk' i' hk hsame hnew => ?_) PySem.Within.nil (by decide)
  obtain ⟨o1, g1, c1, d1, s1', _⟩ := hsame _ ga
  obtain ⟨o2, g2, _, _, dd⟩ := i'
  rw [g1] at g2
  cases g2
  rcases dd with ⟨_, dn⟩ | ⟨dx, hdx, hne, hns, hex⟩
  ·have := dn f; simp at this
  ·have hz := hnew _ _ dx ga rfl g1 hdx
   have o1e : o1 = { cls := .ref C, dict := some dx, data := .fields vs, slots := sl } := by
    obtain ⟨oc, od, odt, osl⟩ := o1
    cases c1; cases d1; cases s1'; cases hdx; rfl
   have I3 := I2.xdict (t' := tk') (dx := dx) (fs := [(f, y)]) hx (fun b ob hb gb => hk b ob hb (fun o₀ dx' e1 e2 => by rw [ga] at e1; cases e1; cases e2) gb) hz ⟨vs, sl, by rw [g1, o1e], z⟩
    ⟨_, hns, hex, fun g => ?_, fun g hg => ?_⟩
   ·exact ⟨σ, _, I3, q2 dx (I2.hok.fresh hz) hne⟩
   ·show RelO ((putF f y []).lookup g) (if g = f then some u else none)
    rw [zbm]
    by_cases e : g = f
    ·rw [if_pos e, if_pos e]; exact ry
    ·rw [if_neg e, if_neg e]; trivial
   ·show g ∈ [f]
    by_cases e : g = f
    ·rw [e]; simp
    ·exact absurd (if_neg e) hg
 ·obtain ⟨⟨vs, sl, ga, z⟩, _, _⟩ := I2.hok a _ hx
  obtain ⟨⟨mA, hns, hex, hr, hwi⟩, _, _⟩ := I2.hok dx _ hdx
  refine zbT (ns := fs.map (·.1)) PySem.F.store_ValueError XC.tail (XC.pass _) (I2.bk _ _ hC) (XC.sa.keeps I2.bk) ((hf C bm kc).keeps I2.bk) ⟨_, ga, rfl, fun _ z => (by cases z), .inr ⟨dx, rfl, hne, hns, hex⟩⟩ (fun h' tk' i' hk hsame hnew => ?_) hwi (by rw [List.length_map]; omega)
  obtain ⟨o1, g1, c1, d1, s1', dk⟩ := hsame _ ga
  have hd1 := dk dx rfl
  obtain ⟨o2, g2, _, _, dd⟩ := i'
  rw [g1] at g2
  cases g2
  rcases dd with ⟨dn, _⟩ | ⟨dx2, hdx2, hne2, hns2, hex2⟩
  ·rw [hd1] at dn; cases dn
  ·rw [hd1] at hdx2
   cases hdx2
   have o1e : o1 = { cls := .ref C, dict := some dx, data := .fields vs, slots := sl } := by
    obtain ⟨oc, od, odt, osl⟩ := o1
    cases c1; cases d1; cases s1'; cases hd1; rfl
   have I3 := I2.write (x := dx) (e := dx) (o := .ext (XD dx (putF f y fs))) (t' := tk') (h' := h') (by rw [hdx]; trivial) (.inl rfl) (fun b ob hb gb => by
    by_cases hba : b = a
    ·subst hba; rw [ga] at gb; cases gb; rw [g1, o1e]
    ·exact hk b ob hba (fun o₀ dx' e1 e2 => by rw [ga] at e1; cases e1; cases e2; exact hb) gb) (let ⟨o, _, _, q, _⟩ := hns2; ⟨o, q⟩) (XD.ok ⟨_, hns2, hex2, fun g => ?_, fun g hg => ?_⟩)
   ·exact ⟨σ, _, I3, q2⟩
   ·show RelO ((putF f y fs).lookup g) (if g = f then some u else mA g)
    rw [zbm]
    by_cases e : g = f
    ·rw [if_pos e, if_pos e]; exact ry
    ·rw [if_neg e, if_neg e]; exact hr g
   ·by_cases e : g = f
    ·rw [e]; exact (zbQ f y fs).1
    ·refine (zbQ f y fs).2 g (hwi g fun z => hg ?_)
     show (if g = f then some u else mA g) = none
     rw [if_neg e]; exact z
end
end L2
namespace L2
open PySem PySem.Spec PyProof.Rows PySem.Calls PyProof.V
inductive FmtV : V -> Str -> Prop
 | str (x : Str) (h : x.length <= sizeLine) : FmtV (.str x) x
 | int (i : Int) (h : i.natAbs.log2 < 1920) : FmtV (.int i) (toString i : String)
 | non : FmtV .non "None"
def tFmt (te : TE) : TE := fun σ H Q => te σ H fun v H1 => ∃ y, FmtV v y /\ Q (.str y) H1
def zeM : List TE -> Str -> TE
 | [], acc => fun _ H Q => acc.length <= sizeLine /\ Q (.str acc) H
 | te :: r, acc => fun σ H Q => te σ H fun v H1 => ∃ y, v = .str y /\ (acc ++ y).length <= sizeLine /\ zeM r (acc ++ y) σ H1 Q
inductive PEs (X : Cx) : List Expr -> List TE -> Prop
 | nil : PEs X [] []
 | cons {e : Expr} {es : List Expr} {t : TE} {ts : List TE} : PE X e t -> PEs X es ts -> PEs X (e :: es) (t :: ts)
section
variable {X : Cx} {value : Expr} {te : TE} {pos : Pos}
theorem zeN (h : PE X value te) : PE X (.FormattedValue value (-1) none pos) (tFmt te) := by
 intro pins s σ H Q I hq
 refine wpAny_FormattedValue_plain (thn (h pins s σ H _ I hq) fun u s1 ⟨v, H1, I1, rv, y, hy, q⟩ => ?_)
 cases hy with
 | str x hx =>
  obtain ⟨t, rfl⟩ := (show ∃ t, u = Value.str y t from rv)
  exact wpAny_formatField_str ⟨.str y, H1, I1, ⟨_, rfl⟩, q⟩ ⟨.str y, H1, I1.tok _, ⟨_, rfl⟩, q⟩ hx
 | int i hi =>
  obtain ⟨t, rfl⟩ := (show ∃ t, u = Value.int i t from rv)
  exact wpAny_formatField_int hi ⟨.str _, H1, I1.tok _, ⟨_, rfl⟩, q⟩
 | non =>
  obtain rfl : u = Value.none := rv
  exact wpAny_formatField_none ⟨.str _, H1, I1.tok _, ⟨_, rfl⟩, q⟩
theorem zdC {E : Value -> Shared -> Prop} : ∀ {es : List Expr} {ts : List TE} {acc : Str} {pins : List (Addr × Obj)} {s : Shared} {σ : St} {H : Hp} {Q : VK}, PEs X es ts -> Inv X pins σ H s -> zeM ts acc σ H Q ->
  Joins (model X.prog X.w) X.A X.xe (evalEach es X.env) acc (fun out s1 => out.length <= sizeLine /\ EP X pins σ Q (.str out s1.toks) { s1 with toks := s1.toks + 1 }) s
 | _, _, acc, pins, s, σ, H, Q, .nil, I, ⟨hl, q⟩ => ⟨hl, .str acc, H, I.tok _, ⟨_, rfl⟩, q⟩
 | _, _, acc, pins, s, σ, H, Q, .cons h r, I, hq => thn (h pins s σ H _ I hq) fun u s1 ⟨v, H1, I1, rv, y, ev, hl, q⟩ => by
  subst ev
  obtain ⟨t, rfl⟩ := (show ∃ t, u = Value.str y t from rv)
  exact ⟨y, t, rfl, hl, zdC (E := E) r I1 q⟩
theorem zcN {v1 v2 : Expr} {rest : List Expr} {ts : List TE} (h : PEs X (v1 :: v2 :: rest) ts) : PE X (.JoinedStr (v1 :: v2 :: rest) pos) (zeM ts Str.empty) := by
 intro pins s σ H Q I hq
 exact wpAny_JoinedStr (zdC (E := X.xe) h I hq)
end
end L2
namespace L2
open PySem PySem.Spec PyProof.Rows PySem.Calls PyProof.V
def zj4 (KC : Addr -> List Value -> Prop) (ta : TE) (f : Str) : TE := fun σ H Q => ta σ H fun x H1 => ∃ a C bm dx fs v fr, x = .ref a /\ KC C bm /\ H1 a = some (.ext (XO fr a C (some dx))) /\ H1 dx = some (.ext (XD dx fs)) /\ fs.lookup f = some v /\ Q v H1
theorem zd5 {v : V} {u : Value} (r : RelV v u) : handedOut u = pure u := by
 cases v with
 | non => obtain rfl : u = _ := r; rfl
 | bl b => obtain rfl : u = _ := r; rfl
 | int i => obtain ⟨t, rfl⟩ : ∃ t, u = _ := r; rfl
 | str x => obtain ⟨t, rfl⟩ : ∃ t, u = _ := r; rfl
 | byt b => obtain ⟨t, rfl⟩ : ∃ t, u = _ := r; rfl
 | flt b => obtain ⟨t, rfl⟩ : ∃ t, u = _ := r; rfl
 | ref a => obtain rfl : u = _ := r; rfl
 | ty n => obtain rfl : u = _ := r; rfl
section
variable {X : Cx} {e : Expr} {f : Str} {pos : Pos} {ta : TE} {KC : Addr -> List Value -> Prop}
theorem zhn (hcls : ∀ C bm, KC C bm -> ∃ fI, XCls (model X.prog X.w) X.base C bm fI) (hf : ∀ C bm, KC C bm -> zaB (model X.prog X.w) C f none X.base) (he : PE X e ta) (hb : attributeBase e f X.env (eval e X.env) = eval e X.env) : PE X (.Attribute e f pos) (zj4 KC ta f) := by
 intro pins s σ H Q I h
 refine zg7 hb (thn (he pins s σ H _ I h) fun u s1 ⟨x, H1, I1, rx, a, C, bm, dx, fs, v, fr, ex, kc, hx, hd, hl, q⟩ => ?_)
 subst ex
 obtain rfl : u = Value.ref a := rx
 obtain ⟨fI, XC⟩ := hcls C bm kc
 obtain ⟨nm, qn, N, bs, sn, sub, ab, col, dd1, k0, k1, k2, k3, k5, hC⟩ := XC.obj
 obtain ⟨⟨vs, sl, ga, _⟩, _, _⟩ := I1.hok a _ hx
 obtain ⟨⟨mA, hns, hex, hr, hwi⟩, _, _⟩ := I1.hok dx _ hd
 have hne : dx ≠ a := by
  rintro rfl
  obtain ⟨o, es, ep, g, d, _⟩ := hns
  rw [ga] at g; cases g; cases d
 have hr' := hr f
 rw [hl] at hr'
 cases hm : mA f with
 | none => rw [hm] at hr'; exact hr'.elim
 | some u =>
  rw [hm] at hr'
  have ru : RelV v u := hr'
  obtain ⟨hp, g, d, tk, os⟩ := s1
  exact zd2 PySem.F.excAttr_ValueError XC.tail rfl (I1.bk _ _ hC) (XC.ga.keeps I1.bk) (XC.gh.keeps I1.bk) ((hf C bm kc).keeps I1.bk) ⟨_, ga, rfl, fun _ z => (by cases z), .inr ⟨dx, rfl, hne, hns, hex⟩⟩ hm (zd5 ru) ⟨v, H1, I1.tok _, ru, q⟩
end
end L2
namespace L2
open PySem PySem.Spec
section
variable {prog : Program} {w : World} {A : Around} {E : Value -> Shared -> Prop} {h : Heap} {g : Array GenState} {d : Drawn} {t : Nat} {os : OsState} {R : Result -> Shared -> Prop}
variable {nm q : Str} {C N a : Addr} {bs bm bmB : List Value} {hdct : Bool} {sn : List Str} {sub : List Value} {ab : Bool} {col : Option Bool} {dd : Option Addr} {k0 k1 k2 k3 k5 : Option Value} {newId : String} {o : Obj}
theorem zd6 (T : Tail bmB bm) (ho : bmB.contains (.type "object") = true) (hC : h.get? C = some (excClassObj nm q C N bs bm hdct sn sub ab col dd k0 k1 k2 k3 k5 newId)) (hx : h.get? a = some o) (hc : o.cls = .ref C) (hq : R (.ok (.ret (.ref C))) ⟨h, g, d, t, os⟩) :
  codeAny (model prog w) A (.call (.builtin "getset_descriptor.__get__") ⟨[.builtin "object.__class__", .ref a, .ref C], []⟩) R ⟨h, g, d, t, os⟩ := by
 have hT5 : (⟨h, g, d, t, os⟩ : Shared).TypeIs (.builtin "object.__class__") "getset_descriptor" := PySem.F.typeOf_object_class
 have hcB : (Value.ref C :: bm).contains (.type (".".intercalate ("object.__class__".cutAt '.').dropLast)) = true := by
  rw [PySem.F.owner_object_class, List.contains_cons, T _ _ ho]; rfl
 refine codeAny_call_builtin PySem.F.slot_gs_get.plain PySem.F.entry_gs_get (PySem.F.slot_gs_get.check _ _ _ _ _ _ _ _ hT5 (PySem.F.args_gs_get _ _ _) ?_)
 repeat (any_goals (first | assumption | (with_reducible refine wpAny_loadPart_at hx ?_; rw [hc]) | (with_reducible refine wpAny_isSubtype_exc hC ?_; rw [hcB]) | wp_step))
 refine ⟨Code.quiet_builtin _ (by decide +kernel), codeAny_builtin PySem.F.entry_object_class ?_⟩
 unfold Builtin.«object.__class__»
 repeat (any_goals (first | assumption | (with_reducible refine wpAny_loadPart_at hx ?_; rw [hc]) | wp_step))
theorem zcO {tk : Tok} {Q : PySem.Fin -> Shared -> Prop} (T : Tail bmB bm) (ho : bmB.contains (.type "object") = true) (hC : h.get? C = some (excClassObj nm q C N bs bm hdct sn sub ab col dd k0 k1 k2 k3 k5 newId)) (fc : zaB (model prog w) C "__class__" (some (.builtin "object.__class__")) h) (hx : h.get? a = some o) (hc : o.cls = .ref C) (hq : Q (.done (.ret (.ref C))) ⟨h, g, d, t, os⟩) :
  wpAny (model prog w) A (Builtin.«object.__getattribute__» ⟨[.ref a, .str "__class__" tk], []⟩) Q E ⟨h, g, d, t, os⟩ := by
 have hT5 : (⟨h, g, d, t, os⟩ : Shared).TypeIs (.builtin "object.__class__") "getset_descriptor" := PySem.F.typeOf_object_class
 have f5 := PySem.F.typeOf_object_class
 have f6 := PySem.F.slot_gs_get.lookup
 have f7 := PySem.F.slot_gs_set.lookup
 repeat (any_goals (first | assumption | (with_reducible refine wpAny_loadPart_at hx ?_; rw [hc]) | with_reducible refine fc.at ?_ | wp_step))
 refine zd6 T ho hC hx hc ?_
 repeat (any_goals (first | assumption | wp_step))
theorem zbU {Q : Option Value -> Shared -> Prop} (FB : ExcAttrFacts "ValueError") (T : Tail VB bm) (hC : h.get? C = some (excClassObj nm q C N bs bm hdct sn sub ab col dd k0 k1 k2 k3 k5 newId)) (fc : zaB (model prog w) C "__class__" (some (.builtin "object.__class__")) h)
  (fg : zaB (model prog w) C "__getattribute__" (some (.builtin "BaseException.__getattribute__")) h) (fa : zaB (model prog w) C "__getattr__" none h) (hx : h.get? a = some o) (hc : o.cls = .ref C) (hq : Q (some (.ref C)) ⟨h, g, d, t + 1, os⟩) :
  wpAny (model prog w) A (getAttr? (.ref a) "__class__") Q E ⟨h, g, d, t, os⟩ := by
 have f3 := FB.ga.bind (.ref a)
 have hx0 : (false && onTheHeap (Value.builtin "BaseException.__getattribute__")) = false := rfl
 have hx2 : (Value.builtin "BaseException.__getattribute__" == Value.builtin "object.__getattribute__") = false := by decide +kernel
 have hx1 : (onTheHeap (Value.ref C) && Value.builtin "BaseException.__getattribute__" == Value.builtin "object.__getattribute__") = false := by rw [hx2]; rfl
 unfold getAttr? getAttrBy?
 refine wpAny_bind (wpAny_mkText (wpAny_bind (wpAny_attempt ?_)))
 repeat (any_goals (first | assumption | (with_reducible refine wpAny_loadPart_at hx ?_; rw [hc]) | with_reducible refine fg.at ?_ | with_reducible refine fa.at ?_ | wp_step))
 refine codeAny_call_builtin FB.ga.plain PySem.F.entry_bexc_ga (zcM T rfl hC hx hc (zcO T rfl hC fc hx hc ?_))
 repeat (any_goals (first | assumption | wp_step))
end
end L2
namespace L2
open PySem PySem.Spec PyProof.Rows
section
variable {prog : Program} {w : World} {A : Around} {E : Value -> Shared -> Prop} {h : Heap} {g : Array GenState} {d : Drawn} {t : Nat} {os : OsState}
variable {nm q nm' q' : Str} {C N D N' a : Addr} {bs bm bs' bm' : List Value} {hdct hdct' : Bool} {sn sn' : List Str} {sub sub' : List Value} {ab ab' : Bool} {col col' : Option Bool} {dd dd' : Option Addr} {k0 k1 k2 k3 k5 j0 j1 j2 j3 j5 : Option Value} {newId newId' : String} {o : Obj} {b : Bool}
theorem zho {Q : Value -> Shared -> Prop} (T : Tail VB bm) (hC : h.get? C = some (excClassObj nm q C N bs bm hdct sn sub ab col dd k0 k1 k2 k3 k5 newId)) (hD : h.get? D = some (excClassObj nm' q' D N' bs' bm' hdct' sn' sub' ab' col' dd' j0 j1 j2 j3 j5 newId'))
  (fc : zaB (model prog w) C "__class__" (some (.builtin "object.__class__")) h) (fg : zaB (model prog w) C "__getattribute__" (some (.builtin "BaseException.__getattribute__")) h) (fa : zaB (model prog w) C "__getattr__" none h)
  (hx : h.get? a = some o) (hc : o.cls = .ref C) (hb : (Value.ref C :: bm).contains (.ref D) = b) (hq : ∀ tk, Q (.bool b) ⟨h, g, d, tk, os⟩) : wpAny (model prog w) A (call (.builtin "isinstance") [.ref a, .ref D]) Q E ⟨h, g, d, t, os⟩ := by
 have hT : (⟨h, g, d, t, os⟩ : Shared).TypeIs (.ref D) "type" := ⟨_, hD, rfl⟩
 have f2 := tc_sub
 refine call_isinstance_of ?_ (fun z => nomatch z)
 unfold Builtin.«isinstance.nested»
 refine wpAny_bind ?_
 unfold typeOf
 refine wpAny_bind (wpAny_loadPart_at hx (wpAny_pure ?_))
 rw [hc]
 by_cases e : C = D
 ·subst e
  have hb1 : b = true := by rw [← hb]; simp
  subst hb1
  rw [if_pos (by simp)]
  exact wpAny_bind (wpAny_rule (wpAny_pure (hq t)))
 ·rw [if_neg (by simp [e])]
  refine wpAny_bind (wpAny_bind (wpAny_loadPart_at hD (wpAny_pure ?_)))
  rw [if_pos (show (Value.type "type" == Value.type "type") = true by decide)]
  k_delta "plainIsInstance"
  unfold isType isInstance
  repeat (first | (with_reducible refine wpAny_loadPart_at hx ?_; rw [hc]) | with_reducible refine wpAny_loadPart_at hD ?_ | with_reducible refine wpAny_loadPart_at hC ?_ | (with_reducible refine wpAny_isSubtype_exc hC ?_; rw [hb]) | wp_step)
  cases b with
  | true => wp_walk; exact hq t
  | false =>
   rw [if_neg (by decide)]
   refine wpAny_bind (zbU PySem.F.excAttr_ValueError T hC fc fg fa hx hc ?_)
   repeat (first | with_reducible refine wpAny_loadPart_at hC ?_ | (with_reducible refine wpAny_isSubtype_exc hC ?_; rw [hb]) | wp_step)
   exact hq _
theorem ziT {Q : Value -> Shared -> Prop} {X : String} (T : Tail VB bm) (hC : h.get? C = some (excClassObj nm q C N bs bm hdct sn sub ab col dd k0 k1 k2 k3 k5 newId)) (hX : typeOf (.type X) = pure (.type "type"))
  (fc : zaB (model prog w) C "__class__" (some (.builtin "object.__class__")) h) (fg : zaB (model prog w) C "__getattribute__" (some (.builtin "BaseException.__getattribute__")) h) (fa : zaB (model prog w) C "__getattr__" none h)
  (hx : h.get? a = some o) (hc : o.cls = .ref C) (hb : (Value.ref C :: bm).contains (.type X) = b) (hq : ∀ tk, Q (.bool b) ⟨h, g, d, tk, os⟩) : wpAny (model prog w) A (call (.builtin "isinstance") [.ref a, .type X]) Q E ⟨h, g, d, t, os⟩ := by
 refine call_isinstance_of ?_ (fun z => nomatch z)
 unfold Builtin.«isinstance.nested»
 refine wpAny_bind ?_
 have ty : ∀ {M : Model} {A : Around} {Q : Value -> Shared -> Prop} {E : Value -> Shared -> Prop}, Q (.ref C) ⟨h, g, d, t, os⟩ -> wpAny M A (typeOf (.ref a)) Q E ⟨h, g, d, t, os⟩ := fun q => by
  unfold typeOf
  refine wpAny_bind (wpAny_loadPart_at hx (wpAny_pure ?_))
  rw [hc]; exact q
 refine ty ?_
 rw [if_neg (by simp)]
 refine wpAny_bind (wpAny_of_eq hX ?_)
 rw [if_pos (show (Value.type "type" == Value.type "type") = true by decide)]
 k_delta "plainIsInstance"
 unfold isType isInstance
 repeat (first | (with_reducible refine wpAny_loadPart_at hx ?_; rw [hc]) | with_reducible refine wpAny_loadPart_at hC ?_ | (with_reducible refine wpAny_isSubtype_exc hC ?_; rw [hb]) | wp_step)
 cases b with
 | true => wp_walk; exact hq t
 | false =>
  rw [if_neg (by decide)]
  refine wpAny_bind (zbU PySem.F.excAttr_ValueError T hC fc fg fa hx hc ?_)
  repeat (first | with_reducible refine wpAny_loadPart_at hC ?_ | (with_reducible refine wpAny_isSubtype_exc hC ?_; rw [hb]) | wp_step)
  exact hq _
end
def rIsX (KC : Addr -> List Value -> Prop) : List V -> Hp -> VK -> Prop := fun xs H Q => ∃ a C dd bm fr c b, xs = [.ref a, c] /\ KC C bm /\ H a = some (.ext (XO fr a C dd)) /\
 ((∃ D bm', c = .ref D /\ KC D bm' /\ (Value.ref C :: bm).contains (.ref D) = b) ∨ ∃ T, c = .ty T /\ typeOf (.type T) = pure (.type "type") /\ (Value.ref C :: bm).contains (.type T) = b) /\ Q (.bl b) H
theorem zcl {X : Cx} {KC : Addr -> List Value -> Prop} (hcls : ∀ C bm, KC C bm -> ∃ fI, XCls (model X.prog X.w) X.base C bm fI) : zcC X (.builtin "isinstance") (rIsX KC) := by
 rintro pins s σ H xs us Q I r ⟨a, C, dd, bm, fr, c, b, rfl, kc, hx, hD, q⟩
 cases r with
 | cons ra r =>
 cases r with
 | cons rc r =>
 cases r
 have ra' : _ = Value.ref a := ra
 subst ra'
 obtain ⟨fI, XC⟩ := hcls C bm kc
 obtain ⟨nm, qn, N, bs, sn, sub, ab, col, dd1, k0, k1, k2, k3, k5, hC⟩ := XC.obj
 obtain ⟨⟨vs, sl, ga, _⟩, _, _⟩ := I.hok a _ hx
 obtain ⟨hp, g, d, tk, os⟩ := s
 rcases hD with ⟨D, bm', rfl, kd, hb⟩ | ⟨T, rfl, hT, hb⟩
 ·have rc' : _ = Value.ref D := rc
  subst rc'
  obtain ⟨fI', XD'⟩ := hcls D bm' kd
  obtain ⟨nm', qn', N', bs', sn', sub', ab', col', dd2, j0, j1, j2, j3, j5, hD'⟩ := XD'.obj
  exact zho XC.tail (I.bk _ _ hC) (I.bk _ _ hD') (XC.cl.keeps I.bk) (XC.ga.keeps I.bk) (XC.gh.keeps I.bk) ga rfl hb fun tk' => ⟨.bl b, H, I.tok tk', rfl, q⟩
 ·have rc' : _ = Value.type T := rc
  subst rc'
  exact ziT XC.tail (I.bk _ _ hC) hT (XC.cl.keeps I.bk) (XC.ga.keeps I.bk) (XC.gh.keeps I.bk) ga rfl hb fun tk' => ⟨.bl b, H, I.tok tk', rfl, q⟩
end L2
namespace L2
open PySem PySem.Spec PyProof.Rows
def zbo (KC : Addr -> List Value -> Prop) : Sp := fun vs H Q _ => ∃ a C dd bm x, vs = [.ref a, .str x] /\ KC C bm /\ H a = some (.ext (XO true a C dd)) /\ Q .non H
def zcm (KC : Addr -> List Value -> Prop) (fs : List Str) : Sp := fun vs H Q _ => ∃ a C bm us, vs = .ref a :: us /\ us.length = fs.length /\ KC C bm /\ H a = some (.ext (XO true a C none)) /\ (∀ u ∈ us, ∃ y, FmtV u y /\ y.length <= 4000) /\
 ∀ dx, H dx = none -> dx ≠ a -> Q .non (upd (upd H a (.ext (XO true a C (some dx)))) dx (.ext (XD dx (fs.zip us))))
end L2
namespace L2
open PySem PySem.Spec PyProof.Rows
def zaV (nm : Str) : List Str := if nm = "NoWishes" then ["part", "number"] else if nm = "NoAim" then ["part"] else if nm = "NoText" then ["row"] else []
def zfX (K : PySem.W.Frag) (nm : Str) : Option Addr := match PySem.W.nsIn K mainGlobals nm with | some (some (.ref C)) => some C | _ => none
def NmAt (K : PySem.W.Frag) (nm : Str) (C : Addr) : Prop := ∃ o cd, K.lookup C = some o /\ o.data = .cls cd /\ cd.name = nm
structure ClsK (K : PySem.W.Frag) (nm : Str) (C : Addr) (bm : List Value) : Prop where
 ad : zfX K nm = some C
 nmd : NmAt K nm C
 up : nm = "DealError" /\ bm = VB ∨ nm ≠ "DealError" /\ ∃ D, zfX K "DealError" = some D /\ bm = .ref D :: VB /\ NmAt K "DealError" D
 cls : ∀ (M : Model) (h : Heap), K.In h -> ∃ fI, XCls M h C bm fI
 fld : ∀ (M : Model) (h : Heap), K.In h -> ∀ f ∈ (["part", "number", "row"] : List Str), zaB M C f none h
def KC (K : PySem.W.Frag) : Addr -> List Value -> Prop := fun C bm => ∃ nm, ClsK K nm C bm
section
variable {K : PySem.W.Frag} {nm x : Str} {C D : Addr} {bm bm' : List Value}
theorem NmAt.ne (c : NmAt K nm C) (d : NmAt K x D) (h : x ≠ nm) : C ≠ D := fun e => by
 subst e
 obtain ⟨o, cd, h1, h2, h3⟩ := c
 obtain ⟨o', cd', g1, g2, g3⟩ := d
 rw [h1] at g1; cases g1
 rw [h2] at g2; cases g2
 exact h (g3.symm.trans h3)
theorem ClsK.has (c : ClsK K nm C bm) (d : ClsK K x D bm') : (Value.ref C :: bm).contains (.ref D) = (decide (x = nm) || decide (x = "DealError")) := by
 by_cases e : x = nm
 ·subst e
  have := c.ad.symm.trans d.ad
  cases this
  simp
 ·have ne := c.nmd.ne d.nmd e
  rw [decide_eq_false e, Bool.false_or]
  have h0 : (Value.ref D == Value.ref C) = false := by simp [Ne.symm ne]
  rw [List.contains_cons, h0, Bool.false_or]
  by_cases e2 : x = "DealError"
  ·subst e2
   rcases c.up with ⟨z, _⟩ | ⟨_, D', g, rfl, _⟩
   ·exact absurd z.symm e
   ·have := g.symm.trans d.ad
    cases this
    simp
  ·rw [decide_eq_false e2]
   rcases c.up with ⟨_, rfl⟩ | ⟨_, D', g, rfl, n⟩
   ·rfl
   ·have ne2 := n.ne d.nmd e2
    have h1 : (Value.ref D == Value.ref D') = false := by simp [Ne.symm ne2]
    rw [List.contains_cons, h1, Bool.false_or]
    rfl
theorem ClsK.ty (c : ClsK K nm C bm) (T : String) : (Value.ref C :: bm).contains (.type T) = VB.contains (.type T) := by
 rcases c.up with ⟨_, rfl⟩ | ⟨_, D', g, rfl, n⟩
 ·rfl
 ·rfl
end
section
variable {X : Cx} {e : Expr} {st : Stmt} {sts : List Stmt} {t : TE} {ts : TS}
theorem PE.kin (h : X.K.In X.base -> PE X e t) : PE X e t := fun pins s σ H Q I q => h I.ok.mod.kin pins s σ H Q I q
theorem PS.kin (h : X.K.In X.base -> PS X st ts) : PS X st ts := fun pins s σ H Q I q => h I.ok.mod.kin pins s σ H Q I q
theorem PSs.kin (h : X.K.In X.base -> PSs X sts ts) : PSs X sts ts := fun pins s σ H Q I q => h I.ok.mod.kin pins s σ H Q I q
theorem zcn (k : X.K.In X.base) : ∀ C bm, KC X.K C bm -> ∃ fI, XCls (model X.prog X.w) X.base C bm fI := fun _ _ ⟨_, c⟩ => c.cls _ _ k
end
def ziU (nm : Str) (us : List V) : Prop := (zaV nm = [] /\ ∃ x, us = [.str x]) ∨ (zaV nm ≠ [] /\ us.length = (zaV nm).length /\ ∀ u ∈ us, ∃ y, FmtV u y /\ y.length <= 4000)
def ziV (nm : Str) (C a : Addr) (us : List V) (H : Hp) (dd : Option Addr) (H' : Hp) : Prop :=
 (zaV nm = [] /\ dd = none /\ H' = H) ∨ (zaV nm ≠ [] /\ us.length = (zaV nm).length /\ ∃ dx, dd = some dx /\ H dx = none /\ dx ≠ a /\ H' = upd (upd H a (.ext (XO true a C (some dx)))) dx (.ext (XD dx ((zaV nm).zip us))))
def zeO (K : PySem.W.Frag) (nm : Str) (C : Addr) (sp : Sp) : Prop := ∀ a us H Q, H a = some (.ext (XO true a C none)) -> ziU nm us -> (∀ dd H', ziV nm C a us H dd H' -> Q .non H') -> sp (.ref a :: us) H Q E0
def MkX (P : Program) (w : World) (K : PySem.W.Frag) (mg : Str -> Option Value) (base : Heap) (nm : Str) (k : Nat) : Prop :=
 ∃ C bm f fd ps sp, mg nm = some (.ref C) /\ PySem.W.keepIn K (.ref C) = true /\ ClsK K nm C bm /\ (∀ (M : Model) (h : Heap), K.In h -> XCls M h C bm f) /\ FnOk P w K mg base CX0 k f fd ps sp /\ za8 K fd ps [] /\ zeO K nm C sp
theorem zdD {K : PySem.W.Frag} {nm : Str} {C : Addr} {bm : List Value} (c : ClsK K nm C bm) (hf : zaV nm = []) : zeO K nm C (zbo (KC K)) := fun a us H Q h ar q => by
 rcases ar with ⟨_, x, rfl⟩ | ⟨z, _⟩
 ·exact ⟨a, C, none, bm, x, rfl, ⟨nm, c⟩, h, q none H (.inl ⟨hf, rfl, rfl⟩)⟩
 ·exact absurd hf z
theorem zfY {K : PySem.W.Frag} {nm : Str} {C : Addr} {bm : List Value} (c : ClsK K nm C bm) (hf : zaV nm ≠ []) : zeO K nm C (zcm (KC K) (zaV nm)) := fun a us H Q h ar q => by
 rcases ar with ⟨z, _⟩ | ⟨_, hl, hu⟩
 ·exact absurd z hf
 ·exact ⟨a, C, bm, us, rfl, hl, ⟨nm, c⟩, h, hu, fun dx hd hne => q (some dx) _ (.inr ⟨hf, hl, dx, rfl, hd, hne, rfl⟩)⟩
end L2
namespace DL
open PySem PySem.Spec L2
open PyProof.Rows hiding St
abbrev D := PyData
abbrev XW := V -> St -> Hp -> Prop
abbrev KX0 : XW := fun _ _ _ => False
def XFs (G : Hp) (dd : Option Addr) (fs : List Str) (vs : List V) : Prop := match dd with
 | none => fs = [] /\ vs = []
 | some dx => fs.length = vs.length /\ G dx = some (.ext (XD dx (fs.zip vs)))
theorem XFs.mono {G G1 : Hp} {dd : Option Addr} {fs : List Str} {vs : List V} (e : Same G G1) (h : XFs G dd fs vs) : XFs G1 dd fs vs := by
 cases dd with
 | none => exact h
 | some dx => exact ⟨h.1, e _ _ h.2⟩
def kD : Key -> D
 | .inl i => .int i
 | .inr x => .str x
mutual
inductive Rep (K : PySem.W.Frag) (G : Hp) : V -> D -> Prop where
 | non : Rep K G .non .none
 | bl (b : Bool) : Rep K G (.bl b) (.bool b)
 | int (i : Int) : Rep K G (.int i) (.int i)
 | str (x : Str) : Rep K G (.str x) (.str x)
 | lst {a : Addr} {vs : List V} {ds : List D} (h : SqL K G a vs) (r : Reps K G vs ds) : Rep K G (.ref a) (.list ds)
 | tup {a : Addr} {vs : List V} {ds : List D} (h : SqT K G a vs) (r : Reps K G vs ds) : Rep K G (.ref a) (.tuple ds)
 | dic {a : Addr} (h : G a = some (.dK [])) : Rep K G (.ref a) (.dict [])
 | exc {a C : Addr} {dd : Option Addr} {bm : List Value} {nm : Str} {vs : List V} {ds : List D} (c : ClsK K nm C bm) (h : G a = some (.ext (XO false a C dd))) (hd : XFs G dd (zaV nm) vs) (r : Reps K G vs ds) : Rep K G (.ref a) (.dict [(.none, .tuple [.str nm, .list ds])])
 | dct {a : Addr} {ks : List Key} {vs : List V} {ds : List D} {kvs : List (D × D)} (e : kvs = (ks.map kD).zip ds) (hne : ks ≠ []) (hl : ks.length = ds.length) (h : G a = some (.dK (ks.zip vs))) (r : Reps K G vs ds) : Rep K G (.ref a) (.dict kvs)
inductive Reps (K : PySem.W.Frag) (G : Hp) : List V -> List D -> Prop where
 | nil : Reps K G [] []
 | cons {v : V} {d : D} {vs : List V} {ds : List D} (h : Rep K G v d) (t : Reps K G vs ds) : Reps K G (v :: vs) (d :: ds)
end
variable {K : PySem.W.Frag} {B G0 G G1 G2 H H1 H2 : Hp}
theorem zbV {a : Addr} {xs : List V} (e : Same G G1) (h : SqT K G a xs) : SqT K G1 a xs := by
 rcases h with (h | ⟨o, h⟩) | h
 ·exact .inl (.inl (e _ _ h))
 ·exact .inl (.inr ⟨o, e _ _ h⟩)
 ·exact .inr h
mutual
theorem Rep.mono (e : Same G G1) : ∀ {v : V} {d : D}, Rep K G v d -> Rep K G1 v d
 | _, _, .non => .non
 | _, _, .bl b => .bl b
 | _, _, .int i => .int i
 | _, _, .str x => .str x
 | _, _, .lst h r => .lst (e.seq h) (Reps.mono e r)
 | _, _, .tup h r => .tup (zbV e h) (Reps.mono e r)
 | _, _, .dic h => .dic (e _ _ h)
 | _, _, .exc c h hd r => .exc c (e _ _ h) (hd.mono e) (Reps.mono e r)
 | _, _, .dct z n l h r => .dct z n l (e _ _ h) (Reps.mono e r)
theorem Reps.mono (e : Same G G1) : ∀ {vs : List V} {ds : List D}, Reps K G vs ds -> Reps K G1 vs ds
 | _, _, .nil => .nil
 | _, _, .cons h t => .cons (Rep.mono e h) (Reps.mono e t)
end
theorem zfZ {ks : List Key} {ds : List D} (e : (ks.map kD).zip ds = []) (hne : ks ≠ []) (hl : ks.length = ds.length) : False := by
 cases ks with
 | nil => exact hne rfl
 | cons k r =>
  cases ds with
  | nil => cases hl
  | cons d s => cases e
theorem zeP {ks : List Key} {ds : List D} {d : D} {r : List (D × D)} (e : (.none, d) :: r = (ks.map kD).zip ds) : False := by
 cases ks with
 | nil => cases e
 | cons k ks =>
  cases ds with
  | nil => cases e
  | cons d ds =>
   rw [List.map_cons, List.zip_cons_cons] at e
   injection e with e1 _
   injection e1 with e2 _
   cases k <;> cases e2
section
variable {v : V} {vs ws : List V} {ds es : List D}
theorem Rep.bl_inv {b : Bool} (h : Rep K G v (.bool b)) : v = .bl b := by cases h; rfl
theorem Rep.int_inv {i : Int} (h : Rep K G v (.int i)) : v = .int i := by cases h; rfl
theorem Rep.str_inv {x : Str} (h : Rep K G v (.str x)) : v = .str x := by cases h; rfl
theorem Rep.lst_inv (h : Rep K G v (.list ds)) : ∃ a vs, v = .ref a /\ SqL K G a vs /\ Reps K G vs ds := by
 cases h with
 | lst h r => exact ⟨_, _, rfl, h, r⟩
theorem Rep.tup_inv (h : Rep K G v (.tuple ds)) : ∃ a vs, v = .ref a /\ SqT K G a vs /\ Reps K G vs ds := by
 cases h with
 | tup h r => exact ⟨_, _, rfl, h, r⟩
theorem Rep.dic_inv (h : Rep K G v (.dict [])) : ∃ a, v = .ref a /\ G a = some (.dK []) := by
 cases h with
 | dic h => exact ⟨_, rfl, h⟩
 | dct e hne hl _ _ => exact (zfZ e.symm hne hl).elim
theorem Rep.exc_inv {d : D} (h : Rep K G v (.dict [(.none, d)])) : ∃ a C dd bm nm vs ds, v = .ref a /\ d = .tuple [.str nm, .list ds] /\ ClsK K nm C bm /\ G a = some (.ext (XO false a C dd)) /\ XFs G dd (zaV nm) vs /\ Reps K G vs ds := by
 cases h with
 | exc c h hd r => exact ⟨_, _, _, _, _, _, _, rfl, rfl, c, h, hd, r⟩
 | dct e _ _ _ _ => exact (zeP e).elim
theorem Reps.length : ∀ {vs : List V} {ds : List D}, Reps K G vs ds -> vs.length = ds.length
 | _, _, .nil => rfl
 | _, _, .cons _ t => by rw [List.length_cons, List.length_cons, Reps.length t]
theorem Reps.get : ∀ {vs : List V} {ds : List D} {i : Nat} {d : D}, Reps K G vs ds -> ds[i]? = some d -> ∃ v, vs[i]? = some v /\ Rep K G v d
 | _, _, _, _, .nil, e => by simp at e
 | _, _, 0, _, .cons h _, e => by simp at e; subst e; exact ⟨_, rfl, h⟩
 | _, _, i + 1, d, .cons _ t, e => by
  obtain ⟨u, h1, h2⟩ := Reps.get (i := i) (d := d) t (by simpa using e)
  exact ⟨u, by simpa using h1, h2⟩
theorem Reps.append : ∀ {vs ws : List V} {ds es : List D}, Reps K G vs ds -> Reps K G ws es -> Reps K G (vs ++ ws) (ds ++ es)
 | _, _, _, _, .nil, s => s
 | _, _, _, _, .cons r t, s => .cons r (Reps.append t s)
theorem Reps.take : ∀ {vs : List V} {ds : List D} (n : Nat), Reps K G vs ds -> Reps K G (vs.take n) (ds.take n)
 | _, _, 0, _ => by rw [List.take_zero, List.take_zero]; exact .nil
 | _, _, _ + 1, .nil => .nil
 | _, _, n + 1, .cons r t => .cons r (Reps.take n t)
theorem Reps.drop : ∀ {vs : List V} {ds : List D} (n : Nat), Reps K G vs ds -> Reps K G (vs.drop n) (ds.drop n)
 | _, _, 0, r => r
 | _, _, _ + 1, .nil => .nil
 | _, _, n + 1, .cons _ t => Reps.drop n t
theorem Reps.ints : ∀ (ns : List Int), Reps K G (ns.map V.int) (ns.map PyData.int)
 | [] => .nil
 | n :: ns => .cons (.int n) (Reps.ints ns)
end
inductive MO where
 | l (vs : List V) | k (kvs : List (Key × V)) | t (kvs : List (List Key × V))
def MO.ho : MO -> HO
 | .l vs => .lst vs
 | .k kvs => .dK kvs
 | .t kvs => .dT kvs
structure Ext (G H G' H' : Hp) : Prop where
 h : Same H H'
 g : Same G G'
 gh : Same G' H'
 np : ∀ a (u : MO), H a = some u.ho -> G a = none -> G' a = none
theorem Ext.refl (e : Same G H) : Ext G H G H := ⟨.refl _, .refl _, e, fun _ _ _ q => q⟩
theorem Ext.trans {G' H' G'' H'' : Hp} (a : Ext G H G' H') (b : Ext G' H' G'' H'') : Ext G H G'' H'' :=
 ⟨a.h.trans b.h, a.g.trans b.g, b.gh, fun x o e q => b.np x o (a.h x _ e) (a.np x o e q)⟩
theorem zap {p : Addr} {o : HO} (h : H p = none) : Same H (upd H p o) := fun b u e => by rw [zak (zan e h)]; exact e
theorem Ext.new {p : Addr} {o : HO} (e : Same G H) (h : H p = none) : Ext G H (upd G p o) (upd H p o) := by
 have hg : G p = none := e.free h
 refine ⟨zap h, zap hg, fun b u q => ?_, fun a u q n => ?_⟩
 ·by_cases z : b = p
  ·subst z; rw [zai] at q ⊢; exact q
  ·rw [zak z] at q ⊢; exact e b u q
 ·rw [zak (zan q h)]; exact n
theorem Ext.hid {p : Addr} {o : HO} (e : Same G H) (h : H p = none) : Ext G H G (upd H p o) :=
 ⟨zap h, .refl _, e.trans (zap h), fun _ _ _ n => n⟩
inductive Sl where
 | pub (d : D) | own (ds : List D)
abbrev DEnv := List (Option Sl)
structure EOk (K : PySem.W.Frag) (B G0 G H : Hp) (σ : St) (ρ : DEnv) : Prop where
 bh : Same B H
 gh : Same G H
 g0 : Same G0 G
 np : ∀ a (u : MO), B a = some u.ho -> G0 a = none -> G a = none
 len : ρ.length = σ.length
 pub : ∀ (i : Nat) d, ρ[i]? = some (some (.pub d)) -> ∃ v, σ[i]? = some (some v) /\ Rep K G v d
 own : ∀ (i : Nat) ds, ρ[i]? = some (some (.own ds)) -> ∃ a vs, σ[i]? = some (some (.ref a)) /\ B a = none /\ G a = none /\ H a = some (.lst vs) /\ Reps K G vs ds
 sep : ∀ (i j : Nat) a ds es, ρ[i]? = some (some (.own ds)) -> ρ[j]? = some (some (.own es)) -> σ[i]? = some (some (.ref a)) -> σ[j]? = some (some (.ref a)) -> i = j
theorem EOk.ext {G' H' : Hp} {σ : St} {ρ : DEnv} (k : EOk K B G0 G H σ ρ) (e : Ext G H G' H') : EOk K B G0 G' H' σ ρ where
 bh := k.bh.trans e.h
 gh := e.gh
 g0 := k.g0.trans e.g
 np := fun a o q n => e.np a o (k.bh a _ q) (k.np a o q n)
 len := k.len
 pub := fun i d q => let ⟨v, h1, h2⟩ := k.pub i d q; ⟨v, h1, h2.mono e.g⟩
 own := fun i ds q => let ⟨a, vs, h1, h2, h3, h4, h5⟩ := k.own i ds q; ⟨a, vs, h1, h2, e.np a (.l _) h4 h3, e.h a _ h4, h5.mono e.g⟩
 sep := k.sep
theorem EOk.publish {σ : St} {ρ : DEnv} {i : Nat} {ds : List D} (k : EOk K B G0 G H σ ρ) (h : ρ[i]? = some (some (.own ds))) :
  ∃ a G', σ[i]? = some (some (.ref a)) /\ Same G G' /\ Rep K G' (.ref a) (.list ds) /\ EOk K B G0 G' H σ (ρ.set i (some (.pub (.list ds)))) := by
 obtain ⟨a, vs, h1, h2, h3, h4, h5⟩ := k.own i ds h
 have sg : Same G (upd G a (.lst vs)) := zap h3
 have hr : Rep K (upd G a (.lst vs)) (.ref a) (.list ds) := .lst (SqL.of zai) (h5.mono sg)
 refine ⟨a, upd G a (.lst vs), h1, sg, hr, ⟨k.bh, fun b u q => ?_, k.g0.trans sg, fun b o q n => ?_, by rw [List.length_set]; exact k.len, fun j d q => ?_, fun j es q => ?_, fun j l c es fs q1 q2 s1 s2 => ?_⟩⟩
 ·by_cases z : b = a
  ·subst z; rw [zai] at q; cases q; exact h4
  ·rw [zak z] at q; exact k.gh b u q
 ·have z : b ≠ a := fun z => by subst z; rw [h2] at q; cases q
  rw [zak z]; exact k.np b o q n
 ·by_cases z : i = j
  ·subst z
   have hl : i < ρ.length := (List.getElem?_eq_some_iff.mp h).1
   rw [List.getElem?_set_self hl] at q
   cases q
   exact ⟨.ref a, h1, hr⟩
  ·rw [List.getElem?_set_ne z] at q
   obtain ⟨v, g1, g2⟩ := k.pub j d q
   exact ⟨v, g1, g2.mono sg⟩
 ·by_cases z : i = j
  ·subst z
   have hl : i < ρ.length := (List.getElem?_eq_some_iff.mp h).1
   rw [List.getElem?_set_self hl] at q
   cases q
  ·rw [List.getElem?_set_ne z] at q
   obtain ⟨b, ws, g1, g2, g3, g4, g5⟩ := k.own j es q
   have zb : b ≠ a := fun e => z (k.sep i j a ds es h q h1 (by rw [← e]; exact g1))
   exact ⟨b, ws, g1, g2, by rw [zak zb]; exact g3, g4, g5.mono sg⟩
 ·have nz : ∀ {m : Nat} {ts : List D}, (ρ.set i (some (Sl.pub (.list ds))))[m]? = some (some (.own ts)) -> ρ[m]? = some (some (.own ts)) := fun {m ts} q => by
   by_cases z : i = m
   ·subst z
    have hl : i < ρ.length := (List.getElem?_eq_some_iff.mp h).1
    rw [List.getElem?_set_self hl] at q
    cases q
   ·rw [List.getElem?_set_ne z] at q; exact q
  exact k.sep j l c es fs (nz q1) (nz q2) s1 s2
end DL
namespace DL
open PySem PySem.Spec L2
open PyProof.Rows hiding St
inductive Res (α : Type) where
 | ok (a : α) (ρ : DEnv) | bad
abbrev M (α : Type) := DEnv -> Res α
def zac {α : Type} (a : α) : M α := fun ρ => .ok a ρ
def mOpt {α : Type} (o : Option α) : M α := fun ρ => match o with | some a => .ok a ρ | none => .bad
def zaf {α β : Type} (f : M α) (k : α -> M β) : M β := fun ρ => match f ρ with | .ok a ρ' => k a ρ' | .bad => .bad
section
variable (K : PySem.W.Frag) (B G0 : Hp)
def aft {α γ : Type} (R : Hp -> γ -> α -> Prop) (r : Res α) (G : Hp) (σ : St) (Q : γ -> Hp -> Prop) : Prop :=
 match r with
 | .ok d ρ' => ∀ v G' H', EOk K B G0 G' H' σ ρ' -> Same G G' -> R G' v d -> Q v H'
 | .bad => False
def tM {α γ : Type} (R : Hp -> γ -> α -> Prop) (f : M α) : St -> Hp -> (γ -> Hp -> Prop) -> Prop := fun σ H Q =>
 ∃ G ρ, EOk K B G0 G H σ ρ /\ aft K B G0 R (f ρ) G σ Q
abbrev tD (f : M D) : TE := tM K B G0 (Rep K) f
abbrev tDs (f : M (List D)) : TA := tM K B G0 (Reps K) f
abbrev tBo (f : M Bool) : TT := tM K B G0 (fun _ b c => b = c) f
abbrev tOi (f : M (Option Int)) : TO := tM K B G0 (fun _ b c => b = c) f
end
section
variable {K : PySem.W.Frag} {B G0 : Hp} {α β γ δ ε : Type} {R : Hp -> γ -> α -> Prop} {S : Hp -> δ -> β -> Prop} {T : Hp -> ε -> α -> Prop} {σ : St} {H : Hp}
theorem aft.mono {r : Res α} {G G' : Hp} {Q : γ -> Hp -> Prop} (e : Same G G') (h : aft K B G0 R r G σ Q) : aft K B G0 R r G' σ Q := by
 cases r with
 | ok d ρ => exact fun v G2 H2 k s q => h v G2 H2 k (e.trans s) q
 | bad => exact h
theorem aft.done {d : α} {ρ : DEnv} {G G' H H' : Hp} {v : γ} {Q : γ -> Hp -> Prop} (h : aft K B G0 R (.ok d ρ) G σ Q) (k : EOk K B G0 G H σ ρ) (e : Ext G H G' H') (r : R G' v d) : Q v H' :=
 h v G' H' (k.ext e) e.g r
theorem aft.now {d : α} {ρ : DEnv} {G H : Hp} {v : γ} {Q : γ -> Hp -> Prop} (h : aft K B G0 R (.ok d ρ) G σ Q) (k : EOk K B G0 G H σ ρ) (r : R G v d) : Q v H :=
 h v G H k (.refl _) r
theorem aft.opt {o : Option α} {ρ : DEnv} {G : Hp} {Q : γ -> Hp -> Prop} (h : aft K B G0 R (mOpt o ρ) G σ Q) : ∃ d, o = some d /\ aft K B G0 R (.ok d ρ) G σ Q := by
 cases o with
 | none => exact h.elim
 | some d => exact ⟨d, rfl, h⟩
theorem tM.bind {f : M α} {k : α -> M β} {Q : δ -> Hp -> Prop} (h : tM K B G0 S (zaf f k) σ H Q) :
  tM K B G0 R f σ H (fun v H1 => ∃ G ρ d, EOk K B G0 G H1 σ ρ /\ R G v d /\ aft K B G0 S (k d ρ) G σ Q) := by
 obtain ⟨G, ρ, e, a⟩ := h
 refine ⟨G, ρ, e, ?_⟩
 unfold zaf at a
 cases q : f ρ with
 | bad => rw [q] at a; exact a.elim
 | ok d ρ1 =>
  rw [q] at a
  exact fun v G' H' e' s r => ⟨G', ρ1, d, e', r, aft.mono s a⟩
theorem tM.bind2 {α' γ' : Type} {R' : Hp -> γ' -> α' -> Prop} {f : M α} {g : α -> M α'} {k : α -> α' -> M β} {Q : δ -> Hp -> Prop} (mo : ∀ G G' v d, Same G G' -> R G v d -> R G' v d)
  (h : tM K B G0 S (zaf f fun x => zaf (g x) fun y => k x y) σ H Q) :
  tM K B G0 R f σ H (fun v H1 => ∃ x, tM K B G0 R' (g x) σ H1 fun u H2 => ∃ G ρ y, EOk K B G0 G H2 σ ρ /\ R G v x /\ R' G u y /\ aft K B G0 S (k x y ρ) G σ Q) := by
 obtain ⟨G, ρ, e, a⟩ := tM.bind (R := R) h
 refine ⟨G, ρ, e, ?_⟩
 cases q : f ρ with
 | bad => rw [q] at a; exact a.elim
 | ok d ρ1 =>
  rw [q] at a
  intro v G' H' e' s r
  obtain ⟨G2, ρ2, d2, e2, r2, a2⟩ := a v G' H' e' s r
  refine ⟨d2, G2, ρ2, e2, ?_⟩
  unfold zaf at a2
  cases q2 : g d2 ρ2 with
  | bad => rw [q2] at a2; exact a2.elim
  | ok d3 ρ3 =>
   rw [q2] at a2
   exact fun u G3 H3 e3 s3 r3 => ⟨G3, ρ3, d3, e3, mo _ _ _ _ s3 r2, r3, aft.mono s3 a2⟩
end
theorem zeQ {K : PySem.W.Frag} (G G' : Hp) (v : V) (d : D) (e : Same G G') (r : Rep K G v d) : Rep K G' v d := r.mono e
theorem tM.two {K : PySem.W.Frag} {B G0 : Hp} {β δ : Type} {S : Hp -> δ -> β -> Prop} {σ : St} {H : Hp} {f g : M D} {k : D -> D -> M β} {Q : δ -> Hp -> Prop} {P : V -> V -> Hp -> Prop}
  (h : tM K B G0 S (zaf f fun x => zaf g fun y => k x y) σ H Q)
  (i : ∀ v u H2 G ρ x y, EOk K B G0 G H2 σ ρ -> Rep K G v x -> Rep K G u y -> aft K B G0 S (k x y ρ) G σ Q -> P v u H2) :
  tD K B G0 f σ H (fun v H1 => tD K B G0 g σ H1 fun u H2 => P v u H2) := by
 obtain ⟨G, ρ, e, a⟩ := tM.bind2 (R := Rep K) (R' := Rep K) zeQ h
 refine ⟨G, ρ, e, ?_⟩
 cases q : f ρ with
 | bad => rw [q] at a; exact a.elim
 | ok d ρ1 =>
  rw [q] at a
  intro v G' H' e' s r
  obtain ⟨x, G2, ρ2, e2, a2⟩ := a v G' H' e' s r
  refine ⟨G2, ρ2, e2, ?_⟩
  cases q2 : g ρ2 with
  | bad => rw [q2] at a2; exact a2.elim
  | ok d3 ρ3 =>
   rw [q2] at a2
   intro u G3 H3 e3 s3 r3
   obtain ⟨G4, ρ4, y, e4, r4, r5, a5⟩ := a2 u G3 H3 e3 s3 r3
   exact i v u H3 G4 ρ4 x y e4 r4 r5 a5
theorem tM.one {K : PySem.W.Frag} {B G0 : Hp} {α β γ δ : Type} {R : Hp -> γ -> α -> Prop} {S : Hp -> δ -> β -> Prop} {σ : St} {H : Hp} {f : M α} {k : α -> M β} {Q : δ -> Hp -> Prop} {P : γ -> Hp -> Prop}
  (h : tM K B G0 S (zaf f k) σ H Q) (i : ∀ v H2 G ρ x, EOk K B G0 G H2 σ ρ -> R G v x -> aft K B G0 S (k x ρ) G σ Q -> P v H2) : tM K B G0 R f σ H P := by
 obtain ⟨G, ρ, e, a⟩ := tM.bind (R := R) h
 refine ⟨G, ρ, e, ?_⟩
 cases q : f ρ with
 | bad => rw [q] at a; exact a.elim
 | ok d ρ1 =>
  rw [q] at a
  intro v G' H' e' s r
  obtain ⟨G2, ρ2, d2, e2, r2, a2⟩ := a v G' H' e' s r
  exact i v H' G2 ρ2 d2 e2 r2 a2
section
variable {X : Cx} {B G0 : Hp} {e a b : Expr} {pos : Pos}
theorem peof {t t' : TE} (h : PE X e t) (i : ∀ σ H Q, t' σ H Q -> t σ H Q) : PE X e t' := fun pins s σ H Q I q => h pins s σ H Q I (i σ H Q q)
theorem ptof {t t' : TT} (h : PT X e t) (i : ∀ σ H Q, t' σ H Q -> t σ H Q) : PT X e t' := fun pins s σ H Q I q => h pins s σ H Q I (i σ H Q q)
theorem paof {es : List Expr} {t t' : TA} (h : PA X es t) (i : ∀ σ H Q, t' σ H Q -> t σ H Q) : PA X es t' := fun ps pins s σ H Q I q => h ps pins s σ H Q I (i σ H Q q)
theorem poof {eo : Option Expr} {t t' : TO} (h : PO X eo t) (i : ∀ σ H Q, t' σ H Q -> t σ H Q) : PO X eo t' := fun pins s σ H Q I q => h pins s σ H Q I (i σ H Q q)
theorem psof {st : Stmt} {t t' : TS} (h : PS X st t) (i : ∀ D σ H, t' D σ H -> t D σ H) : PS X st t' := fun pins s σ H D I q => h pins s σ H D I (i D σ H q)
theorem ziW {st : List Stmt} {t t' : TS} (h : PSs X st t) (i : ∀ D σ H, t' D σ H -> t D σ H) : PSs X st t' := fun pins s σ H D I q => h pins s σ H D I (i D σ H q)
def dVar (i : Nat) : M D := fun ρ => match ρ[i]? with
 | some (some (.pub d)) => .ok d ρ
 | some (some (.own ds)) => .ok (.list ds) (ρ.set i (some (.pub (.list ds))))
 | _ => .bad
theorem zah {i : Nat} (h : PE X e (tVar i)) : PE X e (tD X.K B G0 (dVar i)) := peof h fun σ H Q ⟨G, ρ, k, a⟩ => by
 unfold dVar at a
 cases q : ρ[i]? with
 | none => rw [q] at a; exact a.elim
 | some o =>
  cases o with
  | none => rw [q] at a; exact a.elim
  | some sl =>
   cases sl with
   | pub d =>
    rw [q] at a
    obtain ⟨v, h1, h2⟩ := k.pub i d q
    exact ⟨v, h1, a.now k h2⟩
   | own ds =>
    rw [q] at a
    obtain ⟨ad, G', h1, h2, h3, h4⟩ := k.publish q
    exact ⟨.ref ad, h1, a (.ref ad) G' H h4 h2 h3⟩
theorem zdE {v : V} {d : D} (h : PE X e (tC v)) (r : ∀ G, Rep X.K G v d) : PE X e (tD X.K B G0 (zac d)) := peof h fun σ H Q ⟨G, ρ, k, a⟩ => a.now k (r G)
theorem zal {i : Int} {j} : PE X (.Constant (.int i) j pos) (tD X.K B G0 (zac (.int i))) := zdE zig fun _ => .int i
theorem zaE {i : Bool} {j} : PE X (.Constant (.bool i) j pos) (tD X.K B G0 (zac (.bool i))) := zdE zjL fun _ => .bl i
theorem zbp {j} : PE X (.Constant .none j pos) (tD X.K B G0 (zac .none)) := zdE zih fun _ => .non
theorem zat {x : Str} {j} : PE X (.Constant (.str x) j pos) (tD X.K B G0 (zac (.str x))) := zdE zdu fun _ => .str x
def dBin {β : Type} (op : D -> D -> Option β) (f g : M D) : M β := zaf f fun x => zaf g fun y => mOpt (op x y)
def OpD (X : Cx) (f : Value -> Value -> Sem Value) (op : D -> D -> Option D) : Prop :=
 ∃ r : R2, OpR X f r /\ ∀ v u G H x y d Q, Same G H -> Rep X.K G v x -> Rep X.K G u y -> op x y = some d -> (∀ w G' H', Ext G H G' H' -> Rep X.K G' w d -> Q w H') -> r v u H Q
theorem zaG {op : Operator} {p : D -> D -> Option D} {f g : M D} (o : OpD X (binaryOp op) p) (ha : PE X a (tD X.K B G0 f)) (hb : PE X b (tD X.K B G0 g)) : PE X (.BinOp a op b pos) (tD X.K B G0 (dBin p f g)) := by
 obtain ⟨r, h, i⟩ := o
 refine peof (zjT h ha hb) fun σ H Q q => ?_
 refine tM.two q fun v u H2 G ρ x y k rx ry a => ?_
 obtain ⟨d, e, a⟩ := a.opt
 exact i v u G H2 x y d Q k.gh rx ry e fun w G' H' ex rw => a.done k ex rw
theorem OpD.or {f : Value -> Value -> Sem Value} {p q : D -> D -> Option D} (h : OpD X f p) (h' : OpD X f q) : OpD X f (fun x y => (p x y).orElse fun _ => q x y) := by
 obtain ⟨r, h1, i1⟩ := h
 obtain ⟨r', h2, i2⟩ := h'
 refine ⟨_, h1.or h2, fun v u G H x y d Q s rx ry e k => ?_⟩
 dsimp only at e
 cases z : p x y with
 | some d' =>
  rw [z] at e
  have e' : d' = d := Option.some.inj e
  subst e'
  exact .inl (i1 v u G H x y d' Q s rx ry z k)
 | none =>
  rw [z] at e
  exact .inr (i2 v u G H x y d Q s rx ry e k)
def oII (g : Int -> Int -> Option D) : D -> D -> Option D
 | .int i, .int j => g i j
 | _, _ => none
theorem zeR {g : Int -> Int -> Option D} {x y d : D} (e : oII g x y = some d) : ∃ i j, x = .int i /\ y = .int j /\ g i j = some d := by
 unfold oII at e
 split at e
 ·exact ⟨_, _, rfl, rfl, e⟩
 ·cases e
theorem OpD.int {f : Value -> Value -> Sem Value} {C : Int -> Int -> Prop} {g : Int -> Int -> V} {p : Int -> Int -> Option D} (h : OpR X f (rI C g)) (i : ∀ i j d, p i j = some d -> C i j /\ ∀ G, Rep X.K G (g i j) d) : OpD X f (oII p) := by
 refine ⟨_, h, fun v u G H x y d Q s rx ry e k => ?_⟩
 obtain ⟨a, b, rfl, rfl, e⟩ := zeR e
 obtain ⟨c, r⟩ := i a b d e
 exact ⟨a, b, rx.int_inv, ry.int_inv, c, k _ G H (.refl s) (r G)⟩
theorem OpD.int0 {f : Value -> Value -> Sem Value} {g : Int -> Int -> V} {p : Int -> Int -> D} (h : OpR X f (rI0 g)) (i : ∀ i j G, Rep X.K G (g i j) (p i j)) : OpD X f (oII fun i j => some (p i j)) := by
 refine ⟨_, h, fun v u G H x y d Q s rx ry e k => ?_⟩
 obtain ⟨a, b, rfl, rfl, e⟩ := zeR e
 cases e
 exact ⟨a, b, rx.int_inv, ry.int_inv, k _ G H (.refl s) (i a b G)⟩
end
end DL
namespace DL
open PySem PySem.Spec L2
open PyProof.Rows hiding St
section
variable {X : Cx} {B G0 : Hp} {e a b c : Expr} {pos : Pos}
theorem ziX : OpD X (binaryOp .Add) (oII fun i j => some (.int (i + j))) := .int0 ziu fun _ _ _ => .int _
theorem ziY : OpD X (binaryOp .Sub) (oII fun i j => some (.int (i - j))) := .int0 ziv fun _ _ _ => .int _
def gMul (i j : Int) : Option D := if (-(2 ^ 64) < i /\ i < 2 ^ 64) ∨ (-(2 ^ 64) < j /\ j < 2 ^ 64) then some (.int (i * j)) else none
theorem zhp : OpD X (binaryOp .Mult) (oII gMul) := .int ziw fun i j d h => by
 unfold gMul at h
 split at h
 ·rename_i c
  cases h
  exact ⟨c, fun _ => .int _⟩
 ·cases h
def gMod (i j : Int) : Option D := if 0 < j then some (.int (i % j)) else none
theorem ziZ : OpD X (binaryOp .Mod) (oII gMod) := .int zix fun i j d h => by
 unfold gMod at h
 split at h
 ·rename_i c
  cases h
  exact ⟨c, fun _ => .int _⟩
 ·cases h
theorem zf0 : OpR X (binaryOp .FloorDiv) (rI (fun i j => 0 < j /\ j < 2 ^ 64) fun i j => .int (i / j)) := opI fun i j _ _ _ _ _ hc q => by
 have h1 : (0 : Int) < j := hc.1
 have h2 : j < 2 ^ 64 := hc.2
 refine floordiv_int (by omega) (by rw [Int.fdiv_eq_ediv_of_nonneg i (by omega)]; exact q) (.inl (PyProof.noPylong_of_log2 ?_))
 have h0 : j.natAbs ≠ 0 := by omega
 have : j.natAbs.log2 < 64 := (Nat.log2_lt h0).mpr (by omega)
 omega
def gDiv (i j : Int) : Option D := if 0 < j /\ j < 2 ^ 64 then some (.int (i / j)) else none
theorem zi0 : OpD X (binaryOp .FloorDiv) (oII gDiv) := .int zf0 fun i j d h => by
 unfold gDiv at h
 split at h
 ·rename_i c
  cases h
  exact ⟨c, fun _ => .int _⟩
 ·cases h
def gPow (i j : Int) : Option D := if 0 <= j /\ j <= 1000000 /\ i.natAbs < 2 ^ 64 then some (.int (i ^ j.toNat)) else none
theorem zi1 : OpD X (binaryOp .Pow) (oII gPow) := .int ziy fun i j d h => by
 unfold gPow at h
 split at h
 ·rename_i c
  cases h
  exact ⟨c, fun _ => .int _⟩
 ·cases h
theorem lim : (1000000 : Nat) <= sizeLine := by decide
def zf1 : D -> D -> Option D
 | .str x, .str y => if x.length + y.length <= 1000000 then some (.str (x ++ y)) else none
 | _, _ => none
theorem zhq : OpD X (binaryOp .Add) zf1 := by
 refine ⟨_, zdX, fun v u G H x y d Q s rx ry e k => ?_⟩
 unfold zf1 at e
 split at e
 ·split at e
  ·rename_i c
   cases e
   exact ⟨_, _, rx.str_inv, ry.str_inv, Nat.le_trans c lim, k _ G H (.refl s) (.str _)⟩
  ·cases e
 ·cases e
def zj5 (K : PySem.W.Frag) : R2 := fun x y H Q => ∃ l b xs zs, x = .ref l /\ y = .ref b /\ SqL K H l xs /\ SqL K H b zs /\ xs.length + zs.length <= sizeLine /\ ∀ p, H p = none -> Q (.ref p) (upd H p (.lst (xs ++ zs)))
theorem zhr : OpR X (binaryOp .Add) (zj5 X.K) := by
 intro pins s σ H x y v u Q I rx ry h
 obtain ⟨l, b, xs, zs, rfl, rfl, hH, hB, hz, q⟩ := h
 cases rx
 cases ry
 obtain ⟨its, r, ⟨⟨c1, d1, t1, s1⟩, n1, e1, ec1, ed1, et1⟩, z1⟩ := I.list hH
 obtain ⟨its2, r2, ⟨⟨c2, d2, t2, s2⟩, n2, e2, ec2, ed2, et2⟩, z2⟩ := I.list hB
 simp only at ec1 ed1 et1 ec2 ed2 et2
 subst ec1 ed1 et1 ec2 ed2 et2
 have hl := r.length
 have hl2 := r2.length
 refine concat_meets ⟨_, e1, rfl⟩ ⟨_, e2, rfl⟩ noFill_list_add seq_list_add PySem.F.slot_list_add PySem.F.entry_list_add (PySem.F.args_list_add_2 _ _) (list_addW l b its.toArray its2.toArray n1 n2 none none s1 s2 (by rw [List.size_toArray, List.size_toArray]; omega)) ⟨e1, e2, ?_⟩
 have ea : its.toArray ++ its2.toArray = (its ++ its2).toArray := by simp
 rw [ea]
 exact ⟨.ref _, _, I.lnew (t' := s.toks) (r.append r2) (by rw [List.length_append]; omega), rfl, q _ I.fresh⟩
theorem zj6 (a : Int) (t : Tok) (l : Addr) (items : Array Value) (n : Nat) (sl : Array (Option Value)) :
  Meets (Builtin.«int.__rmul__» ⟨[.int a t, .ref l], []⟩) (fun _ R s => s.heap.get? l = some { cls := .type "list", dict := none, data := .seq items n, slots := sl } /\ R (.ok (.ret Value.notImplemented)) s) :=
 .of_wp fun prog w A R s h => by obtain ⟨hp, g, d, tk, os⟩ := s; obtain ⟨hl, h⟩ := h; wp_walk; exact ⟨_, rfl, h⟩
theorem mulW (l : Addr) (items : Array Value) (n : Nat) (x : Int) (u : Tok) (sl : Array (Option Value)) (hc0 : ¬(!Builtin.List.listFitsIndex x) = true) (hc1 : ¬items.size * x.toNat > (2 ^ 63 - 1) / 8) (hc2 : ¬Builtin.List.listTooLong (items.size * x.toNat) = true) :
  Meets (Builtin.«list.__mul__» ⟨[.ref l, .int x u], []⟩) (fun _ R s => s.heap.get? l = some { cls := .type "list", dict := none, data := .seq items n, slots := sl } /\ R (.ok (.ret (Value.ref s.heap.objs.size))) { s with heap := s.heap.push { cls := Value.type "list", data := Data.seq (List.foldl (fun x1 x2 => x1 ++ x2) #[] (List.replicate (if items.isEmpty = true then 0 else x.toNat) items)) }, toks := s.toks }) :=
 .of_wp fun prog w A R s h => by
  obtain ⟨hp, g, d, tk, os⟩ := s; obtain ⟨hl, h⟩ := h
  have hsz := AutoListH.joined_fits hc2
  wp_walk; refine wpAny_ite_false (decide_eq_false (Nat.not_lt.mpr hsz)) ?_; wp_walk; exact ⟨_, rfl, h⟩
def zj7 (K : PySem.W.Frag) : R2 := fun x y H Q => ∃ l k xs, x = .ref l /\ y = .int k /\ SqL K H l xs /\ -(2 ^ 63) <= k /\ k < 2 ^ 63 /\ xs.length * k.toNat <= sizeLine /\
 ∀ p, H p = none -> Q (.ref p) (upd H p (.lst (List.replicate k.toNat xs).flatten))
theorem zhs : OpR X (binaryOp .Mult) (zj7 X.K) := by
 intro pins s σ H x y v u Q I rx ry h
 obtain ⟨l, k, xs, rfl, rfl, hH, h1, h2, hz, q⟩ := h
 cases rx
 obtain ⟨t, rfl⟩ := ry
 obtain ⟨its, r, ⟨⟨c1, d1, t1, sl⟩, n, e, ec1, ed1, et1⟩, z⟩ := I.list hH
 simp only at ec1 ed1 et1
 subst ec1 ed1 et1
 have hl := r.length
 have hlen : its.toArray.size * k.toNat <= sizeLine := by rw [List.size_toArray, ← hl]; exact hz
 have hcap : ¬ its.toArray.size * k.toNat > (2 ^ 63 - 1) / 8 := by
  have : (sizeLine : Nat) <= (2 ^ 63 - 1) / 8 := by decide
  omega
 have hfit : ¬ (!Builtin.List.listFitsIndex k) = true := by
  rw [fitsIndex_both h1 h2]
  exact Bool.false_ne_true
 have hlong : ¬ Builtin.List.listTooLong (its.toArray.size * k.toNat) = true := by
  rw [zfN hlen]
  exact Bool.false_ne_true
 have hnew : List.foldl (fun x1 x2 => x1 ++ x2) #[] (List.replicate (if its.toArray.isEmpty = true then 0 else k.toNat) its.toArray) = (List.replicate k.toNat its).flatten.toArray := by
  have f0 : ∀ m : Nat, List.foldl (fun x1 x2 => x1 ++ x2) #[] (List.replicate m its.toArray) = (List.replicate m its).flatten.toArray := fun m => by
   have := zcI its m []
   rw [List.nil_append] at this
   exact this
  rw [f0]
  cases its with
  | nil => simp
  | cons a r' => rw [if_neg (by simp)]
 refine wpAny_binaryOp_repeat_ref (T := "list") (U := "int") (by decide) ⟨_, e, rfl⟩ (fun s' => typeIs_int s' k t) noFill_list_mul F.fills_int_mul F.slot_int_rmul repeat_list F.slot_int_index.lookup
  (call_meets F.slot_int_rmul (typeIs_int s k t) F.entry_int_rmul (F.args_int_rmul_2 _ _) (zj6 k t l its.toArray n sl)
   ⟨e, rfl, ⟨_, e, rfl⟩, call_meets F.slot_list_mul ⟨_, e, rfl⟩ F.entry_list_mul (F.args_list_mul_2 _ _) (mulW l its.toArray n k t sl hfit hcap hlong) ⟨e, ?_⟩⟩)
 rw [hnew]
 exact ⟨.ref _, _, I.lnew (t' := s.toks) (r.rep k.toNat) (by rw [zhg, Nat.mul_comm]; exact hz), rfl, q _ I.fresh⟩
def zf2 : D -> D -> Option D
 | .list x, .list y => if x.length + y.length <= 1000000 then some (.list (x ++ y)) else none
 | _, _ => none
theorem zht : OpD X (binaryOp .Add) zf2 := by
 refine ⟨_, zhr, fun v u G H x y d Q s rx ry e k => ?_⟩
 unfold zf2 at e
 split at e
 ·split at e
  ·rename_i c
   cases e
   obtain ⟨l, vs, rfl, h1, r1⟩ := rx.lst_inv
   obtain ⟨b, ws, rfl, h2, r2⟩ := ry.lst_inv
   refine ⟨l, b, vs, ws, rfl, rfl, s.seq h1, s.seq h2, by rw [r1.length, r2.length]; exact Nat.le_trans c lim, fun p hp => k _ _ _ (Ext.new s hp) ?_⟩
   exact .lst (SqL.of zai) ((r1.append r2).mono (zap (s.free hp)))
  ·cases e
 ·cases e
theorem Reps.rep {K : PySem.W.Frag} {G : Hp} {vs : List V} {ds : List D} (r : Reps K G vs ds) : ∀ n : Nat, Reps K G (List.replicate n vs).flatten (List.replicate n ds).flatten
 | 0 => .nil
 | n + 1 => by rw [List.replicate_succ, List.replicate_succ, List.flatten_cons, List.flatten_cons]; exact r.append (r.rep n)
def zf3 : D -> D -> Option D
 | .list x, .int k => if -1000000 <= k /\ k <= 1000000 /\ x.length * k.toNat <= 1000000 then some (.list (List.replicate k.toNat x).flatten) else none
 | _, _ => none
theorem zhu : OpD X (binaryOp .Mult) zf3 := by
 refine ⟨_, zhs, fun v u G H x y d Q s rx ry e k => ?_⟩
 unfold zf3 at e
 split at e
 ·split at e
  ·rename_i c
   cases e
   obtain ⟨l, vs, rfl, h1, r1⟩ := rx.lst_inv
   refine ⟨l, _, vs, rfl, ry.int_inv, s.seq h1, by omega, by omega, by rw [r1.length]; exact Nat.le_trans c.2.2 lim, fun p hp => k _ _ _ (Ext.new s hp) ?_⟩
   exact .lst (SqL.of zai) ((r1.rep _).mono (zap (s.free hp)))
  ·cases e
 ·cases e
def oAdd : D -> D -> Option D
 | .int i, .int j => some (.int (i + j))
 | .str x, .str y => if x.length + y.length <= 1000000 then some (.str (x ++ y)) else none
 | .list x, .list y => if x.length + y.length <= 1000000 then some (.list (x ++ y)) else none
 | _, _ => none
def oSub : D -> D -> Option D
 | .int i, .int j => some (.int (i - j))
 | _, _ => none
def oMul : D -> D -> Option D
 | .int i, .int j => gMul i j
 | .list x, .int k => if -1000000 <= k /\ k <= 1000000 /\ x.length * k.toNat <= 1000000 then some (.list (List.replicate k.toNat x).flatten) else none
 | _, _ => none
def oMod : D -> D -> Option D
 | .int i, .int j => gMod i j
 | _, _ => none
def oDiv : D -> D -> Option D
 | .int i, .int j => gDiv i j
 | _, _ => none
def oPow : D -> D -> Option D
 | .int i, .int j => gPow i j
 | _, _ => none
theorem OpD.congr {f : Value -> Value -> Sem Value} {p q : D -> D -> Option D} (h : OpD X f p) (e : ∀ x y, q x y = p x y) : OpD X f q := by
 have : q = p := by funext x y; exact e x y
 rw [this]; exact h
theorem zbJ : OpD X (binaryOp .Add) oAdd := (ziX.or (zhq.or zht)).congr fun x y => by cases x <;> cases y <;> first | rfl | (simp only [oAdd, oII, zf1, zf2, Option.orElse]; done) | (simp only [oAdd, oII, zf1, zf2, Option.orElse]; split <;> rfl)
theorem zhv : OpD X (binaryOp .Sub) oSub := ziY.congr fun x y => by cases x <;> cases y <;> rfl
theorem zd7 : OpD X (binaryOp .Mult) oMul := (zhp.or zhu).congr fun x y => by
 cases x <;> cases y <;> first | rfl | (simp only [oMul, oII, zf3, Option.orElse]; done) | (simp only [oMul, oII, zf3, Option.orElse]; split <;> first | rfl | assumption)
theorem zco : OpD X (binaryOp .Mod) oMod := ziZ.congr fun x y => by cases x <;> cases y <;> rfl
theorem zi2 : OpD X (binaryOp .FloorDiv) oDiv := zi0.congr fun x y => by cases x <;> cases y <;> rfl
theorem zi3 : OpD X (binaryOp .Pow) oPow := zi1.congr fun x y => by cases x <;> cases y <;> rfl
end
end DL
namespace DL
open PySem PySem.Spec L2
open PyProof.Rows hiding St
section
variable {X : Cx} {B G0 : Hp} {e a b c : Expr} {pos : Pos}
def OpB (X : Cx) (f : Value -> Value -> Sem Value) (op : D -> D -> Option Bool) : Prop :=
 ∃ r : R2, OpR X f r /\ ∀ v u G H x y d Q, Same G H -> Rep X.K G v x -> Rep X.K G u y -> op x y = some d -> Q (.bl d) H -> r v u H Q
theorem OpB.or {f : Value -> Value -> Sem Value} {p q : D -> D -> Option Bool} (h : OpB X f p) (h' : OpB X f q) : OpB X f (fun x y => (p x y).orElse fun _ => q x y) := by
 obtain ⟨r, h1, i1⟩ := h
 obtain ⟨r', h2, i2⟩ := h'
 refine ⟨_, h1.or h2, fun v u G H x y d Q s rx ry e k => ?_⟩
 dsimp only at e
 cases z : p x y with
 | some d' =>
  rw [z] at e
  have e' : d' = d := Option.some.inj e
  subst e'
  exact .inl (i1 v u G H x y d' Q s rx ry z k)
 | none =>
  rw [z] at e
  exact .inr (i2 v u G H x y d Q s rx ry e k)
theorem OpB.congr {f : Value -> Value -> Sem Value} {p q : D -> D -> Option Bool} (h : OpB X f p) (e : ∀ x y, q x y = p x y) : OpB X f q := by
 have : q = p := by funext x y; exact e x y
 rw [this]; exact h
theorem zaM {op : CmpOp} {p : D -> D -> Option Bool} {f g : M D} (o : OpB X (compareOp op) p) (ha : PE X a (tD X.K B G0 f)) (hb : PE X b (tD X.K B G0 g)) (hm : behindInMarks op b = false) :
  PT X (.Compare a [op] [b] pos) (tBo X.K B G0 (dBin p f g)) := by
 obtain ⟨r, h, i⟩ := o
 refine ptof (zda h ha hb hm) fun σ H Q q => ?_
 refine tM.two q fun v u H2 G ρ x y k rx ry a => ?_
 obtain ⟨d, e, a⟩ := a.opt
 exact i v u G H2 x y d _ k.gh rx ry e ⟨d, rfl, a.now k rfl⟩
def mMap {α β : Type} (h : α -> β) (f : M α) : M β := zaf f fun x => zac (h x)
theorem tM.map {K : PySem.W.Frag} {α β γ δ : Type} {R : Hp -> γ -> α -> Prop} {S : Hp -> δ -> β -> Prop} {σ : St} {H : Hp} {h : α -> β} {f : M α} {Q : δ -> Hp -> Prop} (j : γ -> δ) (q : tM K B G0 S (mMap h f) σ H Q)
  (i : ∀ G v x, R G v x -> S G (j v) (h x)) : tM K B G0 R f σ H (fun v H' => Q (j v) H') :=
 tM.one (R := R) (f := f) q fun v H2 G ρ x k r a => aft.now (show aft K B G0 S (.ok (h x) ρ) G σ Q from a) k (i G v x r)
theorem tBo.val {K : PySem.W.Frag} {σ : St} {H : Hp} {f : M Bool} {Q : VK} (q : tD K B G0 (mMap PyData.bool f) σ H Q) : tBo K B G0 f σ H (fun b H' => Q (.bl b) H') :=
 tM.map (R := fun _ b c => b = c) V.bl q fun G v x e => by rw [e]; exact .bl x
theorem zbq {op : CmpOp} {p : D -> D -> Option Bool} {f g : M D} (o : OpB X (compareOp op) p) (ha : PE X a (tD X.K B G0 f)) (hb : PE X b (tD X.K B G0 g)) (hm : behindInMarks op b = false) :
  PE X (.Compare a [op] [b] pos) (tD X.K B G0 (mMap PyData.bool (dBin p f g))) := by
 obtain ⟨r, h, i⟩ := o
 refine peof (zex h ha hb hm) fun σ H Q q => ?_
 refine tM.two (tBo.val q) fun v u H2 G ρ x y k rx ry a => ?_
 obtain ⟨d, e, a⟩ := a.opt
 exact i v u G H2 x y d _ k.gh rx ry e (a.now k rfl)
def zgK (p q : D -> D -> Option Bool) (f g h : M D) : M Bool := zaf f fun x => zaf g fun y => zaf (mOpt (p x y)) fun t => if t = true then zaf h fun z => mOpt (q y z) else zac false
theorem zeS {op op' : CmpOp} {p q : D -> D -> Option Bool} {f g h : M D} (o : OpB X (compareOp op) p) (o' : OpB X (compareOp op') q) (ha : PE X a (tD X.K B G0 f)) (hb : PE X b (tD X.K B G0 g)) (hc : PE X c (tD X.K B G0 h))
  (hm : lastMarks [op, op'] [b, c] = false := by with_unfolding_all rfl) : PT X (.Compare a [op, op'] [b, c] pos) (tBo X.K B G0 (zgK p q f g h)) := by
 obtain ⟨r, h1, i⟩ := o
 obtain ⟨r', h2, i'⟩ := o'
 refine ptof (zfK h1 h2 ha hb hc hm) fun σ H Q w => ?_
 refine tM.two w fun v u H2 G ρ x y k rx ry a => ?_
 cases z : p x y with
 | none => rw [z] at a; exact a.elim
 | some t =>
  rw [z] at a
  refine i v u G H2 x y t _ k.gh rx ry z ⟨t, rfl, ?_⟩
  cases t with
  | false =>
   rw [if_neg Bool.false_ne_true]
   exact ⟨false, rfl, aft.now a k rfl⟩
  | true =>
   rw [if_pos rfl]
   refine ⟨G, ρ, k, ?_⟩
   have a4 : aft X.K B G0 (fun _ (b : Bool) c => b = c) ((zaf h fun z => mOpt (q y z)) ρ) G σ Q := a
   unfold zaf at a4
   cases z2 : h ρ with
   | bad => rw [z2] at a4; exact a4.elim
   | ok d ρ1 =>
    rw [z2] at a4
    intro w G5 H5 k5 s5 r5
    obtain ⟨t2, e2, a6⟩ := a4.opt
    exact i' u w G5 H5 y d t2 _ k5.gh (ry.mono s5) r5 e2 ⟨t2, rfl, a6 t2 G5 H5 k5 s5 rfl⟩
def oIB (g : Int -> Int -> Bool) : D -> D -> Option Bool
 | .int i, .int j => some (g i j)
 | _, _ => none
theorem OpB.int {f : Value -> Value -> Sem Value} {g : Int -> Int -> Bool} (h : OpR X f (rI0 fun i j => .bl (g i j))) : OpB X f (oIB g) := by
 refine ⟨_, h, fun v u G H x y d Q s rx ry e k => ?_⟩
 unfold oIB at e
 split at e
 ·cases e
  exact ⟨_, _, rx.int_inv, ry.int_inv, k⟩
 ·cases e
theorem B_le : OpB X (compareOp .LtE) (oIB fun i j => decide (i <= j)) := .int zjV
theorem B_gt : OpB X (compareOp .Gt) (oIB fun i j => decide (j < i)) := .int zjW
theorem B_ge : OpB X (compareOp .GtE) (oIB fun i j => decide (j <= i)) := .int zjX
mutual
theorem zaK {pins : List (Addr × Obj)} {s : Shared} {σ : St} {G H : Hp} (I : Inv X pins σ H s) (sg : Same G H) : ∀ {v : V} {d : D} {u : Value}, Rep X.K G v d -> RelV v u -> d.canLay0 = true -> ∃ as, Reads s.heap u d as
 | _, _, _, .non, r, _ => by cases r; exact ⟨_, .none⟩
 | _, _, _, .bl b, r, _ => by cases r; exact ⟨_, .bool b⟩
 | _, _, _, .int i, r, _ => by obtain ⟨t, rfl⟩ := r; exact ⟨_, .int i t⟩
 | _, _, _, .str x, r, _ => by obtain ⟨t, rfl⟩ := r; exact ⟨_, .str x t⟩
 | _, _, _, .lst h q, r, c => by
  cases r
  obtain ⟨its, rv, ⟨o, n, e, hc, _, hd⟩, hz⟩ := I.list (sg.seq h)
  obtain ⟨as, ra⟩ := readsAll_of I sg q rv (show PyData.canLayAll0 _ = true by simpa [PyData.canLay0] using c)
  exact ⟨_, .list e hc hd (by simpa using ra)⟩
 | _, _, _, .tup h q, r, c => by
  cases r
  obtain ⟨its, rv, p, hz⟩ := I.tuple (zbV sg h)
  obtain ⟨o, e, hc, n, hd⟩ := p
  obtain ⟨as, ra⟩ := readsAll_of I sg q rv (show PyData.canLayAll0 _ = true by simpa [PyData.canLay0] using c)
  exact ⟨_, .tuple e hc hd (by simpa using ra)⟩
 | _, _, _, .dic h, r, c => by simp [PyData.canLay0] at c
 | _, _, _, .exc _ _ _ _, r, c => by simp [PyData.canLay0] at c
 | _, _, _, .dct _ _ _ _ _, r, c => by simp [PyData.canLay0] at c
theorem readsAll_of {pins : List (Addr × Obj)} {s : Shared} {σ : St} {G H : Hp} (I : Inv X pins σ H s) (sg : Same G H) : ∀ {vs : List V} {ds : List D} {us : List Value}, Reps X.K G vs ds -> Vals vs us -> PyData.canLayAll0 ds = true -> ∃ as, ReadsAll s.heap us ds as
 | _, _, _, .nil, r, _ => by cases r; exact ⟨_, .nil⟩
 | _, _, _, .cons h t, r, c => by
  cases r with
  | cons r1 r2 =>
   have c' := c
   rw [PyData.canLayAll0, Bool.and_eq_true] at c'
   obtain ⟨as, ra⟩ := zaK I sg h r1 c'.1
   obtain ⟨bs, rb⟩ := readsAll_of I sg t r2 c'.2
   exact ⟨_, .cons ra rb⟩
end
def oEq (x y : D) : Option Bool := if x.canLay0 = true /\ y.canLay0 = true /\ x.depth <= 60 then some (PyData.eqv x y) else none
def oNe (x y : D) : Option Bool := if x.canLay0 = true /\ y.canLay0 = true /\ x.depth <= 60 then some (!PyData.eqv x y) else none
theorem B_eq (hu : X.A.units + 64 < cLine) : OpB X (compareOp .Eq) oEq := by
 refine ⟨fun v u H Q => ∃ G x y d, Same G H /\ Rep X.K G v x /\ Rep X.K G u y /\ oEq x y = some d /\ Q (.bl d) H, ?_, fun v u G H x y d Q s rx ry e k => ⟨G, x, y, d, s, rx, ry, e, k⟩⟩
 intro pins s σ H x y v u Q I rx ry ⟨G, dx, dy, d, sg, px, py, e, q⟩
 unfold oEq at e
 split at e
 ·rename_i c
  cases e
  obtain ⟨as, ra⟩ := zaK I sg px rx c.1
  obtain ⟨bs, rb⟩ := zaK I sg py ry c.2.1
  exact SeqAt.compareEq_reads ra rb c.1 c.2.1 (by have := c.2.2; omega) ⟨.bl _, H, I, rfl, q⟩
 ·cases e
theorem B_ne (hu : X.A.units + 64 < cLine) : OpB X (compareOp .NotEq) oNe := by
 refine ⟨fun v u H Q => ∃ G x y d, Same G H /\ Rep X.K G v x /\ Rep X.K G u y /\ oNe x y = some d /\ Q (.bl d) H, ?_, fun v u G H x y d Q s rx ry e k => ⟨G, x, y, d, s, rx, ry, e, k⟩⟩
 intro pins s σ H x y v u Q I rx ry ⟨G, dx, dy, d, sg, px, py, e, q⟩
 unfold oNe at e
 split at e
 ·rename_i c
  cases e
  obtain ⟨as, ra⟩ := zaK I sg px rx c.1
  obtain ⟨bs, rb⟩ := zaK I sg py ry c.2.1
  exact SeqAt.compareNe_reads ra rb c.1 c.2.1 (by have := c.2.2; omega) ⟨.bl _, H, I, rfl, q⟩
 ·cases e
def isNon : D -> Bool
 | .none => true
 | _ => false
theorem Rep.isNon {K : PySem.W.Frag} {G : Hp} {v : V} {d : D} (r : Rep K G v d) : DL.isNon d = decide (v = .non) := by
 cases r <;> simp [DL.isNon]
end
end DL
namespace DL
open PySem PySem.Spec L2
open PyProof.Rows hiding St
section
variable {X : Cx} {B G0 : Hp} {e a b c : Expr} {pos : Pos} {es rest : List Expr}
theorem tM.nx {K : PySem.W.Frag} {α β γ δ : Type} {R : Hp -> γ -> α -> Prop} {S : Hp -> δ -> β -> Prop} {σ : St} {G H : Hp} {ρ : DEnv} {f : M α} {g : α -> M β} {Q : δ -> Hp -> Prop} {P : γ -> Hp -> Prop}
  (k : EOk K B G0 G H σ ρ) (a : aft K B G0 S (zaf f g ρ) G σ Q) (i : ∀ v H' G' ρ' x, EOk K B G0 G' H' σ ρ' -> Same G G' -> R G' v x -> aft K B G0 S (g x ρ') G' σ Q -> P v H') : tM K B G0 R f σ H P := by
 refine ⟨G, ρ, k, ?_⟩
 unfold zaf at a
 cases q : f ρ with
 | bad => rw [q] at a; exact a.elim
 | ok d ρ1 =>
  rw [q] at a
  exact fun v G' H' e s r => i v H' G' ρ1 d e s r (aft.mono s a)
def mAnd (f g : M Bool) : M Bool := zaf f fun t => if t = true then g else zac false
def mOr (f g : M Bool) : M Bool := zaf f fun t => if t = true then zac true else g
def mNot (f : M Bool) : M Bool := mMap (fun t => !t) f
theorem zhw {K : PySem.W.Frag} {f g : M Bool} {σ : St} {H : Hp} {Q : Bool -> Hp -> Prop} (q : tBo K B G0 (mAnd f g) σ H Q) : tAnd (tBo K B G0 f) (tBo K B G0 g) σ H Q :=
 tM.one (R := fun _ b c => b = c) q fun v H2 G ρ x k r a => by
  have r : v = x := r
  subst r
  cases v with
  | true => exact ⟨G, ρ, k, a⟩
  | false => exact aft.now (v := false) a k rfl
theorem zi4 {K : PySem.W.Frag} {f g : M Bool} {σ : St} {H : Hp} {Q : Bool -> Hp -> Prop} (q : tBo K B G0 (mOr f g) σ H Q) : tOr (tBo K B G0 f) (tBo K B G0 g) σ H Q :=
 tM.one (R := fun _ b c => b = c) q fun v H2 G ρ x k r a => by
  have r : v = x := r
  subst r
  cases v with
  | false => exact ⟨G, ρ, k, a⟩
  | true => exact aft.now (v := true) a k rfl
theorem pwof {t t' : TT} (h : PW X e t) (i : ∀ σ H Q, t' σ H Q -> t σ H Q) : PW X e t' := fun wh pins s σ H Q I q => h wh pins s σ H Q I (i σ H Q q)
theorem zf4 {f : M Bool} (ha : PT X a (tBo X.K B G0 f)) : PW X (.BoolOp .And [a] pos) (tBo X.K B G0 f) := zg3 ha
theorem zaX {f : M Bool} (ha : PT X a (tBo X.K B G0 f)) : PW X (.BoolOp .Or [a] pos) (tBo X.K B G0 f) := zil ha
theorem zhx {f g : M Bool} (ha : PT X a (tBo X.K B G0 f)) (hb : PW X (.BoolOp .And (b :: rest) pos) (tBo X.K B G0 g)) : PW X (.BoolOp .And (a :: b :: rest) pos) (tBo X.K B G0 (mAnd f g)) := pwof (zim ha hb) fun _ _ _ q => zhw q
theorem za9 {f g : M Bool} (ha : PT X a (tBo X.K B G0 f)) (hb : PW X (.BoolOp .Or (b :: rest) pos) (tBo X.K B G0 g)) : PW X (.BoolOp .Or (a :: b :: rest) pos) (tBo X.K B G0 (mOr f g)) := pwof (zjM ha hb) fun _ _ _ q => zi4 q
theorem za4 {f : M Bool} (ha : PT X a (tBo X.K B G0 f)) : PT X (.UnaryOp .Not a pos) (tBo X.K B G0 (mNot f)) := ptof (zin ha) fun σ H Q q => tM.map (R := fun _ b c => b = c) (fun t => !t) q fun _ v x e => by rw [e]
def za0 (f : M D) : M Bool := zaf f fun x => match x with | .bool t => zac t | _ => fun _ => .bad
theorem zaY {f : M D} (h : PE X e (tD X.K B G0 f)) (he : ∀ whole, isTrue e X.env whole = (do let v ← whole; standAt e.pos; holding [v] (truthy v)) := by intro _; rfl) : PT X e (tBo X.K B G0 (za0 f)) :=
 ptof (zik h he) fun σ H Q q => tM.one (R := Rep X.K) q fun v H2 G ρ x k r a => by
  cases x with
  | bool t => exact ⟨t, r.bl_inv, aft.now (v := t) a k rfl⟩
  | _ => exact a.elim
def zf5 (f g : M D) : M D := zaf f fun x => match x with | .bool true => g | .bool false => zac (.bool false) | _ => fun _ => .bad
def mOrV (f g : M D) : M D := zaf f fun x => match x with | .bool true => zac (.bool true) | .bool false => g | _ => fun _ => .bad
theorem zdj {f g : M D} (ha : PE X a (tD X.K B G0 f)) (hb : PE X (.BoolOp .And (b :: rest) pos) (tD X.K B G0 g)) : PE X (.BoolOp .And (a :: b :: rest) pos) (tD X.K B G0 (zf5 f g)) :=
 peof (ziq ha hb) fun σ H Q q => tM.one (R := Rep X.K) q fun v H2 G ρ x k r a => by
  cases x with
  | bool t =>
   refine ⟨t, r.bl_inv, ?_⟩
   cases t with
   | true => exact ⟨G, ρ, k, a⟩
   | false => exact aft.now a k (.bl false)
  | _ => exact a.elim
theorem zi5 {f g : M D} (ha : PE X a (tD X.K B G0 f)) (hb : PE X (.BoolOp .Or (b :: rest) pos) (tD X.K B G0 g)) : PE X (.BoolOp .Or (a :: b :: rest) pos) (tD X.K B G0 (mOrV f g)) :=
 peof (zjO ha hb) fun σ H Q q => tM.one (R := Rep X.K) q fun v H2 G ρ x k r a => by
  cases x with
  | bool t =>
   refine ⟨t, r.bl_inv, ?_⟩
   cases t with
   | false => exact ⟨G, ρ, k, a⟩
   | true => exact aft.now a k (.bl true)
  | _ => exact a.elim
theorem zdk {op} {f : M D} (h : PE X a (tD X.K B G0 f)) : PE X (.BoolOp op [a] pos) (tD X.K B G0 f) := zio h
theorem zhy {f : M D} {j p2} (ha : PE X a (tD X.K B G0 f)) : PT X (.Compare a [.Is] [.Constant .none j p2] pos) (tBo X.K B G0 (mMap isNon f)) :=
 ptof (zij (zii ha)) fun σ H Q q => tM.one (R := Rep X.K) q fun v H2 G ρ x k r a => ⟨_, rfl, aft.now a k (by rw [r.isNon])⟩
def mNil : M (List D) := zac []
def zad (f : M D) (g : M (List D)) : M (List D) := zaf f fun x => zaf g fun xs => zac (x :: xs)
theorem zab : PA X [] (tDs X.K B G0 mNil) := paof zbs fun σ H Q ⟨G, ρ, k, a⟩ => aft.now a k .nil
theorem tM.twoA {K : PySem.W.Frag} {σ : St} {H : Hp} {f : M D} {g : M (List D)} {β δ : Type} {S : Hp -> δ -> β -> Prop} {k : D -> List D -> M β} {Q : δ -> Hp -> Prop} {P : V -> List V -> Hp -> Prop}
  (h : tM K B G0 S (zaf f fun x => zaf g fun y => k x y) σ H Q)
  (i : ∀ v u H2 G ρ x y, EOk K B G0 G H2 σ ρ -> Rep K G v x -> Reps K G u y -> aft K B G0 S (k x y ρ) G σ Q -> P v u H2) :
  tD K B G0 f σ H (fun v H1 => tDs K B G0 g σ H1 fun u H2 => P v u H2) := by
 obtain ⟨G, ρ, e, a⟩ := tM.bind2 (R := Rep K) (R' := Reps K) zeQ h
 refine ⟨G, ρ, e, ?_⟩
 cases q : f ρ with
 | bad => rw [q] at a; exact a.elim
 | ok d ρ1 =>
  rw [q] at a
  intro v G' H' e' s r
  obtain ⟨x, G2, ρ2, e2, a2⟩ := a v G' H' e' s r
  refine ⟨G2, ρ2, e2, ?_⟩
  cases q2 : g ρ2 with
  | bad => rw [q2] at a2; exact a2.elim
  | ok d3 ρ3 =>
   rw [q2] at a2
   intro u G3 H3 e3 s3 r3
   obtain ⟨G4, ρ4, y, e4, r4, r5, a5⟩ := a2 u G3 H3 e3 s3 r3
   exact i v u H3 G4 ρ4 x y e4 r4 r5 a5
theorem zaa {f : M D} {g : M (List D)} (ha : PE X e (tD X.K B G0 f)) (hr : PA X es (tDs X.K B G0 g)) (hs : starEach (e :: es) X.env = (false, eval e X.env) :: starEach es X.env := by rfl) :
  PA X (e :: es) (tDs X.K B G0 (zad f g)) := paof (zaJ ha hr hs) fun σ H Q q => tM.twoA q fun v u H2 G ρ x y k r1 r2 a => aft.now a k (.cons r1 r2)
def mTup (f : M (List D)) : M D := zaf f fun xs => if xs.length <= 1000000 then zac (.tuple xs) else fun _ => .bad
def mLst (f : M (List D)) : M D := zaf f fun xs => if xs.length <= 1000000 then zac (.list xs) else fun _ => .bad
theorem zaT {x1} {f : M (List D)} (h : PA X es (tDs X.K B G0 f)) : PE X (.Tuple es x1 pos) (tD X.K B G0 (mTup f)) :=
 peof (ziF h) fun σ H Q q => tM.one (R := Reps X.K) q fun v H2 G ρ x k r a => by
  split at a
  ·rename_i c
   refine ⟨by rw [r.length]; exact Nat.le_trans c lim, fun p hp => ?_⟩
   exact aft.done a k (Ext.new k.gh hp) (.tup (SqT.of zai) (r.mono (zap (k.gh.free hp))))
  ·exact a.elim
theorem zao {f : M (List D)} (h : PA X es (tDs X.K B G0 f)) : PE X (.List es pos) (tD X.K B G0 (mLst f)) :=
 peof (zgF h) fun σ H Q q => tM.one (R := Reps X.K) q fun v H2 G ρ x k r a => by
  split at a
  ·rename_i c
   refine ⟨by rw [r.length]; exact Nat.le_trans c lim, fun p hp => ?_⟩
   exact aft.done a k (Ext.new k.gh hp) (.lst (SqL.of zai) (r.mono (zap (k.gh.free hp))))
  ·exact a.elim
def oIx : D -> D -> Option D
 | .list xs, .int i => atI xs i
 | .tuple xs, .int i => atI xs i
 | .str z, .int i => if z.length <= 1000000 then (atI z.cps.toList i).map fun c => .str ⟨#[c]⟩ else none
 | _, _ => none
theorem Reps.atI {K : PySem.W.Frag} {G : Hp} {vs : List V} {ds : List D} {i : Int} {d : D} (r : Reps K G vs ds) (h : L2.atI ds i = some d) : ∃ v, L2.atI vs i = some v /\ Rep K G v d := by
 unfold L2.atI at h ⊢
 rw [r.length]
 cases z : ixN ds.length i with
 | none => rw [z] at h; cases h
 | some j =>
  rw [z] at h
  exact r.get (i := j) h
theorem zgL {K : PySem.W.Frag} {v u : V} {G H : Hp} {x y d : D} {Q : VK} (s : Same G H) (rx : Rep K G v x) (ry : Rep K G u y) (e : oIx x y = some d) (k : ∀ w, Rep K G w d -> Q w H) : rIx K v u H Q := by
 unfold oIx at e
 split at e
 ·obtain ⟨l, vs, rfl, h1, r1⟩ := rx.lst_inv
  obtain ⟨w, e1, r2⟩ := r1.atI e
  exact .inl ⟨l, vs, _, w, rfl, ry.int_inv, s.seq h1, e1, k w r2⟩
 ·obtain ⟨l, vs, rfl, h1, r1⟩ := rx.tup_inv
  obtain ⟨w, e1, r2⟩ := r1.atI e
  exact .inr (.inl ⟨l, vs, _, w, rfl, ry.int_inv, zbV s h1, e1, k w r2⟩)
 ·split at e
  ·rename_i z i hz
   cases q : L2.atI z.cps.toList i with
   | none => rw [q] at e; cases e
   | some ch =>
    rw [q] at e
    cases e
    exact .inr (.inr ⟨z, i, ch, rx.str_inv, ry.int_inv, Nat.le_trans hz lim, q, k _ (.str _)⟩)
  ·cases e
 ·cases e
theorem zgM {f g : M D} (ha : PE X a (tD X.K B G0 f)) (hb : PE X b (tD X.K B G0 g)) (hs : zde b) : PE X (.Subscript a b pos) (tD X.K B G0 (dBin oIx f g)) :=
 peof (ziH zgH ha hb hs) fun σ H Q q => tM.two q fun v u H2 G ρ x y k rx ry a => by
  obtain ⟨d, e, a⟩ := a.opt
  exact zgL k.gh rx ry e fun w r => a.now k r
def dIxN (i : Nat) (g : M D) : M D := fun ρ => match ρ[i]? with
 | some (some (.pub d)) => (zaf g fun y => mOpt (oIx d y)) ρ
 | some (some (.own _)) => (zaf g fun y => fun ρ' => match ρ'[i]? with | some (some (.own ds)) => mOpt (oIx (.list ds) y) ρ' | _ => .bad) ρ
 | _ => .bad
theorem zaC {i : Nat} {g : M D} (ha : PE X a (tVar i)) (hb : PE X b (tD X.K B G0 g)) (hs : zde b) : PE X (.Subscript a b pos) (tD X.K B G0 (dIxN i g)) :=
 peof (ziH zgH ha hb hs) fun σ H Q ⟨G, ρ, k, a⟩ => by
  unfold dIxN at a
  cases q : ρ[i]? with
  | none => rw [q] at a; exact a.elim
  | some o =>
   cases o with
   | none => rw [q] at a; exact a.elim
   | some sl =>
    cases sl with
    | pub d =>
     rw [q] at a
     obtain ⟨v, h1, h2⟩ := k.pub i d q
     refine ⟨v, h1, G, ρ, k, ?_⟩
     dsimp only [zaf] at a
     cases z : g ρ with
     | bad => rw [z] at a; exact a.elim
     | ok y ρ1 =>
      rw [z] at a
      intro u G' H' k' s' r'
      obtain ⟨d', e', a'⟩ := aft.opt a
      exact zgL k'.gh (h2.mono s') r' e' fun w r => a' w G' H' k' s' r
    | own ds =>
     rw [q] at a
     obtain ⟨ad, vs, h1, h2, h3, h4, h5⟩ := k.own i ds q
     refine ⟨.ref ad, h1, G, ρ, k, ?_⟩
     dsimp only [zaf] at a
     cases z : g ρ with
     | bad => rw [z] at a; exact a.elim
     | ok y ρ1 =>
      rw [z] at a
      dsimp only at a
      intro u G' H' k' s' r'
      cases z2 : ρ1[i]? with
      | none => rw [z2] at a; exact a.elim
      | some o2 =>
       cases o2 with
       | none => rw [z2] at a; exact a.elim
       | some sl2 =>
        cases sl2 with
        | pub d2 => rw [z2] at a; exact a.elim
        | own es2 =>
         rw [z2] at a
         obtain ⟨d', e', a'⟩ := aft.opt a
         obtain ⟨ad', vs', g1, g2, g3, g4, g5⟩ := k'.own i es2 z2
         rw [h1] at g1
         cases g1
         unfold oIx at e'
         cases y with
         | int j =>
          obtain ⟨w, e1, r2⟩ := g5.atI e'
          exact .inl ⟨ad, vs', j, w, rfl, r'.int_inv, SqL.of g4, e1, a' w G' H' k' s' r2⟩
         | _ => cases e'
def cutD (xs : List D) (lo hi : Option Int) : List D := (xs.drop (HT.sIx xs.length 0 lo)).take (HT.sIx xs.length xs.length hi - HT.sIx xs.length 0 lo)
theorem Reps.cut {K : PySem.W.Frag} {G : Hp} {vs : List V} {ds : List D} (r : Reps K G vs ds) (lo hi : Option Int) : Reps K G (cutV vs lo hi) (cutD ds lo hi) := by
 unfold cutV cutD
 rw [r.length]
 exact (r.drop _).take _
def zhz : D -> Option (Option Int)
 | .int i => some (some i)
 | _ => none
theorem zf6 : PO X none (tOi X.K B G0 (zac none)) := poof zha fun σ H Q ⟨G, ρ, k, a⟩ => aft.now a k rfl
theorem zf7 {f : M D} (h : PE X e (tD X.K B G0 f)) : PO X (some e) (tOi X.K B G0 (zaf f fun x => mOpt (zhz x))) := poof (zhb h) fun σ H Q q => tM.one (R := Rep X.K) q fun v H2 G ρ x k r a => by
 cases x with
 | int i => exact ⟨i, r.int_inv, aft.now (v := some i) a k rfl⟩
 | _ => exact a.elim
end
end DL
namespace DL
open PySem PySem.Spec L2
open PyProof.Rows hiding St
def excK : List (D × D) -> Bool
 | (.none, _) :: _ => true
 | _ => false
def tyOf : D -> String
 | .none => "NoneType"
 | .bool _ => "bool"
 | .int _ => "int"
 | .str _ => "str"
 | .list _ => "list"
 | .tuple _ => "tuple"
 | .dict kvs => if excK kvs = true then "" else "dict"
def isTy (d : D) (c : String) : Bool := tyOf d == c || (tyOf d == "bool" && c == "int")
def zd8 : D -> Bool
 | .dict kvs => excK kvs
 | _ => false
theorem zgN {ks : List Key} {ds : List D} : tyOf (.dict ((ks.map kD).zip ds)) = "dict" /\ zd8 (.dict ((ks.map kD).zip ds)) = false := by
 cases ks with
 | nil => exact ⟨rfl, rfl⟩
 | cons k ks =>
  cases ds with
  | nil => exact ⟨rfl, rfl⟩
  | cons d ds => cases k <;> exact ⟨rfl, rfl⟩
theorem zhA (K : PySem.W.Frag) (d : D) (c : String) (nx : zd8 d = false) (hc : c = "int" ∨ c = "bool" ∨ c = "str" ∨ c = "list" ∨ c = "tuple" ∨ c = "dict") : PySem.W.kitOne K (.type (tyOf d)) (.type c) = some (isTy d c) := by
 cases d with
 | dict kvs =>
  have e : tyOf (.dict kvs) = "dict" := by
   have nx : excK kvs = false := nx
   show (if excK kvs = true then "" else "dict") = _
   rw [nx]; rfl
  unfold isTy
  rw [e]
  rcases hc with rfl | rfl | rfl | rfl | rfl | rfl <;> rfl
 | _ => rcases hc with rfl | rfl | rfl | rfl | rfl | rfl <;> rfl
section
variable {X : Cx} {B G0 : Hp} {e a b c : Expr} {pos : Pos} {es rest : List Expr}
def zd9 (X : Cx) (f : Value) (p : List D -> Option D) : Prop :=
 ∃ r, zcC X f r /\ ∀ vs G H ds d Q, Same G H -> Reps X.K G vs ds -> p ds = some d -> (∀ w G' H', Ext G H G' H' -> Rep X.K G' w d -> Q w H') -> r vs H Q
def zdl (p : List D -> Option D) (f : M (List D)) : M D := zaf f fun xs => mOpt (p xs)
theorem zcP {x : Str} {p2 : Pos} {id : String} {p : List D -> Option D} {f : M (List D)} (hc : zd9 X (.builtin id) p) (hg : Gl X x) (hm : X.mg x = none) (hv : bootBuiltins x = some (.builtin id)) (ha : PA X (e :: es) (tDs X.K B G0 f)) (hn : x ≠ "__name__" := by decide) (hdb : (x == ("__debug__" : Str)) = false := by decide)
  (he : starEach (e :: es) X.env = (false, eval e X.env) :: starEach es X.env := by rfl) (hpl : (backTo pos (starEach es X.env)).any (·.1) = false := by rfl) : PE X (.Call (.Name x p2) (e :: es) [] pos) (tD X.K B G0 (zdl p f)) := by
 obtain ⟨r, h, i⟩ := hc
 refine peof (zbt h hg hm hv ha hn hdb he hpl) fun σ H Q q => tM.one (R := Reps X.K) q fun v H2 G ρ x k rr a => ?_
 obtain ⟨d, e, a⟩ := a.opt
 exact i v G H2 x d Q k.gh rr e fun w G' H' ex rw => a.done k ex rw
theorem zea {x : Str} {p2 : Pos} {T : String} {p : List D -> Option D} {f : M (List D)} (hc : zd9 X (.type T) p) (hg : Gl X x) (hm : X.mg x = none) (hv : bootBuiltins x = some (.type T)) (ha : PA X (e :: es) (tDs X.K B G0 f)) (hn : x ≠ "__name__" := by decide) (hdb : (x == ("__debug__" : Str)) = false := by decide)
  (he : starEach (e :: es) X.env = (false, eval e X.env) :: starEach es X.env := by rfl) (hpl : (backTo pos (starEach es X.env)).any (·.1) = false := by rfl) : PE X (.Call (.Name x p2) (e :: es) [] pos) (tD X.K B G0 (zdl p f)) := by
 obtain ⟨r, h, i⟩ := hc
 refine peof (zeB h hg hm hv ha hn hdb he hpl) fun σ H Q q => tM.one (R := Reps X.K) q fun v H2 G ρ x k rr a => ?_
 obtain ⟨d, e, a⟩ := a.opt
 exact i v G H2 x d Q k.gh rr e fun w G' H' ex rw => a.done k ex rw
theorem Reps.one_inv {K : PySem.W.Frag} {G : Hp} {vs : List V} {d : D} (r : Reps K G vs [d]) : ∃ v, vs = [v] /\ Rep K G v d := by
 cases r with
 | cons h t => cases t; exact ⟨_, rfl, h⟩
theorem Reps.two_inv {K : PySem.W.Frag} {G : Hp} {vs : List V} {d d' : D} (r : Reps K G vs [d, d']) : ∃ v v', vs = [v, v'] /\ Rep K G v d /\ Rep K G v' d' := by
 cases r with
 | cons h t =>
  obtain ⟨v', rfl, r'⟩ := t.one_inv
  exact ⟨_, v', rfl, h, r'⟩
def oLen : List D -> Option D
 | [.list xs] => some (.int xs.length)
 | [.tuple xs] => some (.int xs.length)
 | [.str z] => if z.length <= 1000000 then some (.int z.length) else none
 | _ => none
theorem zj8 : zd9 X (.builtin "len") oLen := by
 refine ⟨_, zdw, fun vs G H ds d Q s r e k => ?_⟩
 unfold oLen at e
 split at e
 ·cases e
  obtain ⟨v, rfl, q⟩ := r.one_inv
  obtain ⟨l, ws, rfl, h1, r1⟩ := q.lst_inv
  exact ⟨.ref l, ws.length, rfl, .inl ⟨ws, s.seq h1, rfl⟩, by rw [r1.length]; exact k _ G H (.refl s) (.int _)⟩
 ·cases e
  obtain ⟨v, rfl, q⟩ := r.one_inv
  obtain ⟨l, ws, rfl, h1, r1⟩ := q.tup_inv
  exact ⟨.ref l, ws.length, rfl, .inr ⟨ws, zbV s h1, rfl⟩, by rw [r1.length]; exact k _ G H (.refl s) (.int _)⟩
 ·split at e
  ·rename_i z hz
   cases e
   obtain ⟨v, rfl, q⟩ := r.one_inv
   exact ⟨.str z, z.length, by rw [q.str_inv], ⟨Nat.le_trans hz lim, rfl⟩, k _ G H (.refl s) (.int _)⟩
  ·cases e
 ·cases e
def zf8 : List D -> Option D
 | [.int i, .int j] => some (.int (if j > i then j else i))
 | _ => none
theorem zi6 (hc : X.calm = true) : zd9 X (.builtin "max") zf8 := by
 refine ⟨_, zey hc, fun vs G H ds d Q s r e k => ?_⟩
 unfold zf8 at e
 split at e
 ·cases e
  obtain ⟨v, v', rfl, r1, r2⟩ := r.two_inv
  exact ⟨_, _, by rw [r1.int_inv, r2.int_inv], k _ G H (.refl s) (.int _)⟩
 ·cases e
def zeb (i : Nat) : M D := fun ρ => match ρ[i]? with
 | some (some (.pub d)) => mOpt (oLen [d]) ρ
 | some (some (.own ds)) => .ok (.int ds.length) ρ
 | _ => .bad
theorem zdF {i : Nat} {p2 : Pos} (hg : Gl X "len") (hm : X.mg "len" = none) (ha : PE X e (tVar i)) (he : starEach [e] X.env = [(false, eval e X.env)] := by rfl) : PE X (.Call (.Name "len" p2) [e] [] pos) (tD X.K B G0 (zeb i)) := by
 refine peof (zbt zdw hg hm PySem.boot_len (zaJ ha zbs (by rw [he]; rfl)) (by decide) (by decide) (by rw [he]; rfl) rfl) fun σ H Q ⟨G, ρ, k, a⟩ => ?_
 unfold zeb at a
 cases q : ρ[i]? with
 | none => rw [q] at a; exact a.elim
 | some o =>
  cases o with
  | none => rw [q] at a; exact a.elim
  | some sl =>
   cases sl with
   | pub d =>
    rw [q] at a
    obtain ⟨v, h1, h2⟩ := k.pub i d q
    refine ⟨v, h1, ?_⟩
    obtain ⟨d', e', a'⟩ := aft.opt a
    obtain ⟨r, hr, ir⟩ := @zj8 X
    show ∃ x n, [v] = [x] /\ LenV X.K x H n /\ Q (.int n) H
    unfold oLen at e'
    split at e'
    ·rename_i xs he'
     injection he' with he1 he2
     subst he1
     cases e'
     obtain ⟨l, ws, rfl, g1, r1⟩ := h2.lst_inv
     exact ⟨.ref l, ws.length, rfl, .inl ⟨ws, k.gh.seq g1, rfl⟩, by rw [r1.length]; exact a'.now k (.int _)⟩
    ·rename_i xs he'
     injection he' with he1 he2
     subst he1
     cases e'
     obtain ⟨l, ws, rfl, g1, r1⟩ := h2.tup_inv
     exact ⟨.ref l, ws.length, rfl, .inr ⟨ws, zbV k.gh g1, rfl⟩, by rw [r1.length]; exact a'.now k (.int _)⟩
    ·rename_i z he'
     injection he' with he1 he2
     subst he1
     split at e'
     ·rename_i hz
      cases e'
      exact ⟨.str z, z.length, by rw [h2.str_inv], ⟨Nat.le_trans hz lim, rfl⟩, a'.now k (.int _)⟩
     ·cases e'
    ·cases e'
   | own ds =>
    rw [q] at a
    obtain ⟨ad, vs, h1, g2, g3, h4, h5⟩ := k.own i ds q
    exact ⟨.ref ad, h1, .ref ad, vs.length, rfl, .inl ⟨vs, SqL.of h4, rfl⟩, by rw [h5.length]; exact aft.now a k (.int _)⟩
theorem zhB {pins : List (Addr × Obj)} {s : Shared} {σ : St} {G H : Hp} {v : V} {u : Value} {d : D} {cv : Value} {t : Bool} {A : Around} {E : Value -> Shared -> Prop} {Q : Value -> Shared -> Prop} (I : Inv X pins σ H s) (sg : Same G H) (r : Rep X.K G v d) (rv : RelV v u) (nx : zd8 d = false)
  (ek : PySem.W.kitOne X.K (.type (tyOf d)) cv = some t) (h : ∀ tk, Q (.bool t) { s with toks := tk }) : wpAny (model X.prog X.w) A (call (.builtin "isinstance") [u, cv]) Q E s := by
 cases r with
 | non => cases rv; exact PySem.W.kia_one PySem.W.kitx_none I.kIn True.intro ek (fun z => nomatch z) h
 | bl y => cases rv; exact PySem.W.kia_one PySem.W.kitx_bool I.kIn True.intro ek (fun z => nomatch z) h
 | int i => obtain ⟨t', rfl⟩ := rv; exact PySem.W.kia_one PySem.W.kitx_int I.kIn True.intro ek (fun z => nomatch z) h
 | str y => obtain ⟨t', rfl⟩ := rv; exact PySem.W.kia_one PySem.W.kitx_str I.kIn True.intro ek (fun z => nomatch z) h
 | lst hl _ =>
  cases rv
  obtain ⟨its, r, ⟨o, n, e, hc, _, hd⟩, hz⟩ := I.list (sg.seq hl)
  exact PySem.W.kia_one PySem.W.kitx_list I.kIn ⟨o, e, hc⟩ ek (fun z => nomatch z) h
 | tup hl _ =>
  cases rv
  obtain ⟨its, r, p, hz⟩ := I.tuple (zbV sg hl)
  obtain ⟨o, e, hc, _⟩ := p
  exact PySem.W.kia_one PySem.W.kitx_tuple I.kIn ⟨o, e, hc⟩ ek (fun z => nomatch z) h
 | @dic ad hd =>
  cases rv
  obtain ⟨_, _, vs, _, p⟩ := (show zaR X.prog X.w H s.heap ad (.dK []) from I.hok ad _ (sg _ _ hd))
  obtain ⟨o, es, ep, h1, h2, _⟩ := p
  exact PySem.W.kia_one PySem.W.kitx_dict I.kIn ⟨o, h1, h2.1⟩ ek (fun z => nomatch z) h
 | exc _ _ _ _ => cases nx
 | @dct ad ks vs ds kvs e0 _ _ hd _ =>
  cases rv
  subst e0
  rw [zgN.1] at ek
  obtain ⟨_, _, vs, _, p⟩ := (show zaR X.prog X.w H s.heap ad (.dK (ks.zip _)) from I.hok ad _ (sg _ _ hd))
  obtain ⟨o, es, ep, h1, h2, _⟩ := p
  exact PySem.W.kia_one PySem.W.kitx_dict I.kIn ⟨o, h1, h2.1⟩ ek (fun z => nomatch z) h
theorem zhC (c : String) (hc : c = "int" ∨ c = "bool" ∨ c = "str" ∨ c = "list" ∨ c = "tuple" ∨ c = "dict") : typeOf (.type c) = pure (.type "type") := by
 rcases hc with rfl | rfl | rfl | rfl | rfl | rfl <;> kernel_rfl
theorem zf9 : zcC X (.builtin "isinstance") (fun xs H Q => ∃ v c G d, xs = [v, .ty c] /\ Same G H /\ Rep X.K G v d /\ (c = "int" ∨ c = "bool" ∨ c = "str" ∨ c = "list" ∨ c = "tuple" ∨ c = "dict") /\ Q (.bl (isTy d c)) H) := by
 intro pins s σ H xs us Q I r h
 obtain ⟨v, c, G, d, rfl, sg, rp, hc, q⟩ := h
 obtain ⟨u, w', rfl, r1, r2⟩ := ziE r
 cases (show w' = Value.type c from r2)
 by_cases nx : zd8 d = true
 ·cases rp with
  | @exc a C dd bm nm vs ds ck hx hd rr =>
   refine zcl (zcn I.ok.mod.kin) pins s σ H [.ref a, .ty c] [u, .type c] Q I r ⟨a, C, dd, bm, false, .ty c, false, rfl, ⟨nm, ck⟩, sg _ _ hx, .inr ⟨c, rfl, zhC c hc, ?_⟩, ?_⟩
   ·rw [ck.ty]; rcases hc with rfl | rfl | rfl | rfl | rfl | rfl <;> rfl
   ·have e : isTy (.dict [(.none, .tuple [.str nm, .list ds])]) c = false := by rcases hc with rfl | rfl | rfl | rfl | rfl | rfl <;> rfl
    rw [e] at q; exact q
  | dct e _ _ _ _ => subst e; rw [zgN.2] at nx; cases nx
  | _ => cases nx
 ·have nx : zd8 d = false := by simpa using nx
  exact zhB I sg rp r1 nx (zhA X.K d c nx hc) fun tk => ⟨.bl _, H, I.tok tk, rfl, q⟩
theorem zaO : bootBuiltins "isinstance" = some (.builtin "isinstance") := by decide +kernel
theorem zca {f : M D} {p2 p3 : Pos} {c : String} (hc : c = "int" ∨ c = "bool" ∨ c = "str" ∨ c = "list" ∨ c = "tuple" ∨ c = "dict") (hg : Gl X "isinstance") (hm : X.mg "isinstance" = none) (hg2 : Gl X (Str.ofString c)) (hm2 : X.mg (Str.ofString c) = none)
  (hv2 : bootBuiltins (Str.ofString c) = some (.type c)) (ha : PE X e (tD X.K B G0 f)) (hn2 : (Str.ofString c) ≠ "__name__") (hd2 : ((Str.ofString c) == ("__debug__" : Str)) = false)
  (hs : starEach [e, .Name (Str.ofString c) p3] X.env = (false, eval e X.env) :: starEach [.Name (Str.ofString c) p3] X.env := by rfl)
  (hs2 : starEach [.Name (Str.ofString c) p3] X.env = [(false, eval (.Name (Str.ofString c) p3) X.env)] := by rfl) :
  PE X (.Call (.Name "isinstance" p2) [e, .Name (Str.ofString c) p3] [] pos) (tD X.K B G0 (mMap (fun d => .bool (isTy d c)) f)) := by
 refine peof (zbt zf9 hg hm zaO (zaJ ha (zaJ (zes (v := .ty c) hg2 hm2 hv2 rfl hn2 hd2) zbs (by rw [hs2]; rfl)) hs) (by decide) (by decide) hs (by rw [hs2]; rfl)) fun σ H Q q => ?_
 refine tM.one (R := Rep X.K) q fun v H2 G ρ x k r a => ?_
 exact ⟨v, c, G, x, rfl, k.gh, r, hc, aft.now a k (.bl _)⟩
end
end DL
namespace DL
open PySem PySem.Spec L2
open PyProof.Rows hiding St
def spD (K : PySem.W.Frag) (n : Nat) (F : List D -> Option D) : Sp := fun vs H Q _ => ∃ G ds d, vs.length = n /\ Same G H /\ Reps K G vs ds /\ F ds = some d /\ ∀ v G' H', Ext G H G' H' -> Rep K G' v d -> Q v H'
section
variable {K : PySem.W.Frag} {B G0 G H : Hp} {σ : St} {ρ : DEnv}
theorem EOk.exit (k : EOk K B G0 G H σ ρ) : Ext G0 B G H := ⟨k.bh, k.g0, k.gh, k.np⟩
theorem zau {α : Type} {l : List α} {i : Nat} {x y : α} (h : (l.set i x)[i]? = some y) : y = x := by
 by_cases hl : i < l.length
 ·rw [List.getElem?_set_self hl] at h; cases h; rfl
 ·rw [List.getElem?_eq_none (by rw [List.length_set]; omega)] at h; cases h
theorem EOk.setPub {i : Nat} {v : V} {d : D} (k : EOk K B G0 G H σ ρ) (r : Rep K G v d) (hi : i < ρ.length) : EOk K B G0 G H (σ.set i (some v)) (ρ.set i (some (.pub d))) where
 bh := k.bh
 gh := k.gh
 g0 := k.g0
 np := k.np
 len := by rw [List.length_set, List.length_set]; exact k.len
 pub := fun j d' q => by
  by_cases z : i = j
  ·subst z
   have := zau q
   cases this
   exact ⟨v, List.getElem?_set_self (by rw [← k.len]; exact hi), r⟩
  ·rw [List.getElem?_set_ne z] at q ⊢
   exact k.pub j d' q
 own := fun j ds q => by
  by_cases z : i = j
  ·subst z
   have := zau q
   cases this
  ·rw [List.getElem?_set_ne z] at q ⊢
   exact k.own j ds q
 sep := fun j l c es fs q1 q2 s1 s2 => by
  have z1 : i ≠ j := fun z => by subst z; have := zau q1; cases this
  have z2 : i ≠ l := fun z => by subst z; have := zau q2; cases this
  rw [List.getElem?_set_ne z1] at q1 s1
  rw [List.getElem?_set_ne z2] at q2 s2
  exact k.sep j l c es fs q1 q2 s1 s2
structure NewL (K : PySem.W.Frag) (B G H : Hp) (σ : St) (ρ : DEnv) (a : Addr) (vs : List V) (ds : List D) : Prop where
 b : B a = none
 g : G a = none
 h : H a = some (.lst vs)
 r : Reps K G vs ds
 f : ∀ (j : Nat) es, ρ[j]? = some (some (.own es)) -> σ[j]? ≠ some (some (.ref a))
theorem EOk.setOwn {i : Nat} {a : Addr} {vs : List V} {ds : List D} (k : EOk K B G0 G H σ ρ) (n : NewL K B G H σ ρ a vs ds) (hi : i < ρ.length) : EOk K B G0 G H (σ.set i (some (.ref a))) (ρ.set i (some (.own ds))) where
 bh := k.bh
 gh := k.gh
 g0 := k.g0
 np := k.np
 len := by rw [List.length_set, List.length_set]; exact k.len
 pub := fun j d' q => by
  by_cases z : i = j
  ·subst z
   have := zau q
   cases this
  ·rw [List.getElem?_set_ne z] at q ⊢
   exact k.pub j d' q
 own := fun j es q => by
  by_cases z : i = j
  ·subst z
   have := zau q
   cases this
   exact ⟨a, vs, List.getElem?_set_self (by rw [← k.len]; exact hi), n.b, n.g, n.h, n.r⟩
  ·rw [List.getElem?_set_ne z] at q ⊢
   exact k.own j es q
 sep := fun j l c es fs q1 q2 s1 s2 => by
  have hs : i < σ.length := by rw [← k.len]; exact hi
  by_cases z1 : i = j
  ·subst z1
   rw [List.getElem?_set_self hs] at s1
   cases s1
   by_cases z2 : i = l
   ·exact z2
   ·rw [List.getElem?_set_ne z2] at q2 s2
    exact absurd s2 (n.f l fs q2)
  ·by_cases z2 : i = l
   ·subst z2
    rw [List.getElem?_set_self hs] at s2
    cases s2
    rw [List.getElem?_set_ne z1] at q1 s1
    exact absurd s1 (n.f j es q1)
   ·rw [List.getElem?_set_ne z1] at q1 s1
    rw [List.getElem?_set_ne z2] at q2 s2
    exact k.sep j l c es fs q1 q2 s1 s2
theorem EOk.change {i : Nat} {a : Addr} {vs : List V} {ds es : List D} (k : EOk K B G0 G H σ ρ) (q : ρ[i]? = some (some (.own ds))) (ha : σ[i]? = some (some (.ref a))) (r : Reps K G vs es) :
  EOk K B G0 G (upd H a (.lst vs)) σ (ρ.set i (some (.own es))) := by
 obtain ⟨a', ws, h1, h2, h3, h4, h5⟩ := k.own i ds q
 rw [ha] at h1
 cases h1
 have hi : i < ρ.length := (List.getElem?_eq_some_iff.mp q).1
 refine ⟨fun b o e => ?_, fun b o e => ?_, k.g0, k.np, by rw [List.length_set]; exact k.len, fun j d' e => ?_, fun j fs e => ?_, fun j l c fs gs q1 q2 s1 s2 => ?_⟩
 ·rw [zak (zan e h2)]; exact k.bh b o e
 ·rw [zak (zan e h3)]; exact k.gh b o e
 ·by_cases z : i = j
  ·subst z
   have := zau e
   cases this
  ·rw [List.getElem?_set_ne z] at e
   exact k.pub j d' e
 ·by_cases z : i = j
  ·subst z
   have := zau e
   cases this
   exact ⟨a, vs, ha, h2, h3, zai, r⟩
  ·rw [List.getElem?_set_ne z] at e
   obtain ⟨c, us, g1, g2, g3, g4, g5⟩ := k.own j fs e
   have zc : c ≠ a := fun w => z (k.sep i j a ds fs q e ha (by rw [← w]; exact g1))
   exact ⟨c, us, g1, g2, g3, by rw [zak zc]; exact g4, g5⟩
 ·have f : ∀ {m : Nat} {ts : List D}, (ρ.set i (some (Sl.own es)))[m]? = some (some (.own ts)) -> ∃ ts', ρ[m]? = some (some (.own ts')) := fun {m ts} e => by
   by_cases z : i = m
   ·subst z; exact ⟨ds, q⟩
   ·rw [List.getElem?_set_ne z] at e; exact ⟨ts, e⟩
  obtain ⟨f1, w1⟩ := f q1
  obtain ⟨f2, w2⟩ := f q2
  exact k.sep j l c f1 f2 w1 w2 s1 s2
end
inductive Out where
 | nx (ρ : DEnv) | rt (d : D) | bk (ρ : DEnv) | ct (ρ : DEnv) | ex (ρ : DEnv) (d : D) | bad
abbrev SM := DEnv -> Out
section
variable (K : PySem.W.Frag) (B G0 : Hp) (KX : XW)
def aftS (o : Out) (G1 : Hp) (Dn : Ends) : Prop :=
 match o with
 | .nx ρ => ∀ σ G H, EOk K B G0 G H σ ρ -> Same G1 G -> Dn.nx σ H
 | .bk ρ => ∀ σ G H, EOk K B G0 G H σ ρ -> Same G1 G -> Dn.bk σ H
 | .ct ρ => ∀ σ G H, EOk K B G0 G H σ ρ -> Same G1 G -> Dn.ct σ H
 | .rt d => ∀ v G H, Ext G0 B G H -> Rep K G v d -> Dn.rt v H
 | .ex ρ d => ∀ v σ G H, EOk K B G0 G H σ ρ -> Same G1 G -> Rep K G v d -> KX v σ H
 | .bad => False
def tS (g : SM) : TS := fun Dn σ H => ∃ G ρ, EOk K B G0 G H σ ρ /\ aftS K B G0 KX (g ρ) G Dn
def sB {α : Type} (f : M α) (g : α -> SM) : SM := fun ρ => match f ρ with | .ok a ρ' => g a ρ' | .bad => .bad
end
section
variable {X : Cx} {B G0 : Hp} {KX : XW} {e a b c : Expr} {pos : Pos} {es rest : List Expr} {st : Stmt} {sts sts2 : List Stmt}
theorem aftS.mono {K : PySem.W.Frag} {o : Out} {G G' : Hp} {Dn : Ends} (e : Same G G') (h : aftS K B G0 KX o G Dn) : aftS K B G0 KX o G' Dn := by
 cases o with
 | nx ρ => exact fun σ G2 H2 k s => h σ G2 H2 k (e.trans s)
 | bk ρ => exact fun σ G2 H2 k s => h σ G2 H2 k (e.trans s)
 | ct ρ => exact fun σ G2 H2 k s => h σ G2 H2 k (e.trans s)
 | rt d => exact h
 | ex ρ d => exact fun v σ G2 H2 k s r => h v σ G2 H2 k (e.trans s) r
 | bad => exact h
theorem tS.bnd {K : PySem.W.Frag} {α γ : Type} {R : Hp -> γ -> α -> Prop} {f : M α} {g : α -> SM} {Dn : Ends} {σ : St} {H : Hp} {P : γ -> Hp -> Prop} (q : tS K B G0 KX (sB f g) Dn σ H)
  (i : ∀ v H' G' ρ' x, EOk K B G0 G' H' σ ρ' -> R G' v x -> aftS K B G0 KX (g x ρ') G' Dn -> P v H') : tM K B G0 R f σ H P := by
 obtain ⟨G, ρ, k, a⟩ := q
 refine ⟨G, ρ, k, ?_⟩
 unfold sB at a
 cases z : f ρ with
 | bad => rw [z] at a; exact a.elim
 | ok d ρ1 =>
  rw [z] at a
  exact fun v G' H' e s r => i v H' G' ρ1 d e r (aftS.mono s a)
def sNx : SM := fun ρ => .nx ρ
def sSeq (g h : SM) : SM := fun ρ => match g ρ with | .nx ρ' => h ρ' | o => o
theorem zaW : PSs X [] (tS X.K B G0 KX sNx) := ziW zg4 fun D σ H ⟨G, ρ, k, a⟩ => a σ G H k (.refl _)
theorem zam {g h : SM} (h1 : PS X st (tS X.K B G0 KX g)) (h2 : PSs X sts (tS X.K B G0 KX h)) : PSs X (st :: sts) (tS X.K B G0 KX (sSeq g h)) := ziW (zbL h1 h2) fun D σ H ⟨G, ρ, k, a⟩ => by
 refine ⟨G, ρ, k, ?_⟩
 unfold sSeq at a
 cases z : g ρ with
 | nx ρ1 => rw [z] at a; exact fun σ' G' H' k' s' => ⟨G', ρ1, k', aftS.mono s' a⟩
 | rt d => rw [z] at a; exact a
 | bk ρ1 => rw [z] at a; exact a
 | ct ρ1 => rw [z] at a; exact a
 | ex ρ1 d => rw [z] at a; exact a
 | bad => rw [z] at a; exact a.elim
theorem zaw {g : SM} (h1 : PS X st (tS X.K B G0 KX g)) : PSs X [st] (tS X.K B G0 KX g) := zci h1
def sRet (f : M D) : SM := sB f fun d _ => .rt d
theorem zaI {f : M D} (h : PE X e (tD X.K B G0 f)) : PS X (.Return (some e) pos) (tS X.K B G0 KX (sRet f)) := psof (zir h) fun D σ H q => tS.bnd (R := Rep X.K) q fun v H' G' ρ' x k r a => a v G' H' k.exit r
def sIf (f : M Bool) (g h : SM) : SM := sB f fun t => if t = true then g else h
theorem zbr {f : M Bool} {g h : SM} (hc : PT X c (tBo X.K B G0 f)) (ha : PSs X sts (tS X.K B G0 KX g)) (hb : PSs X sts2 (tS X.K B G0 KX h)) : PS X (.If c sts sts2 pos) (tS X.K B G0 KX (sIf f g h)) :=
 psof (zjQ hc ha hb) fun D σ H q => tS.bnd (R := fun _ b c => b = c) q fun v H' G' ρ' x k r a => by
  have r : v = x := r
  subst r
  cases v with
  | true => exact ⟨G', ρ', k, a⟩
  | false => exact ⟨G', ρ', k, a⟩
def tG (K : PySem.W.Frag) (B G0 : Hp) (s : D -> DEnv -> Option DEnv) : TG := fun v σ H Q => ∃ G ρ d ρ', EOk K B G0 G H σ ρ /\ Rep K G v d /\ s d ρ = some ρ' /\ ∀ σ' G' H', EOk K B G0 G' H' σ' ρ' -> Same G G' -> Q σ' H'
def tGs (K : PySem.W.Frag) (B G0 : Hp) (s : List D -> DEnv -> Option DEnv) : TGs := fun v σ H Q => ∃ G ρ d ρ', EOk K B G0 G H σ ρ /\ Reps K G v d /\ s d ρ = some ρ' /\ ∀ σ' G' H', EOk K B G0 G' H' σ' ρ' -> Same G G' -> Q σ' H'
theorem pgof {t t' : TG} (h : PG X e t) (i : ∀ v σ H Q, t' v σ H Q -> t v σ H Q) : PG X e t' := fun pins s σ H v u Q I r q => h pins s σ H v u Q I r (i v σ H Q q)
theorem zi7 {t t' : TGs} (h : PGs X es t) (i : ∀ v σ H Q, t' v σ H Q -> t v σ H Q) : PGs X es t' := fun pins s σ H v u Q I r q => h pins s σ H v u Q I r (i v σ H Q q)
def gN (i : Nat) : D -> DEnv -> Option DEnv := fun d ρ => if i < ρ.length then some (ρ.set i (some (.pub d))) else none
theorem zbW {i : Nat} (h : PG X e (zg5 i)) : PG X e (tG X.K B G0 (gN i)) := pgof h fun v σ H Q ⟨G, ρ, d, ρ', k, r, e, q⟩ => by
 unfold gN at e
 split at e
 ·rename_i hi
  cases e
  exact q _ G H (k.setPub r hi) (.refl _)
 ·cases e
def gN0 : List D -> DEnv -> Option DEnv := fun d ρ => match d with | [] => some ρ | _ => none
def gNC (s : D -> DEnv -> Option DEnv) (t : List D -> DEnv -> Option DEnv) : List D -> DEnv -> Option DEnv := fun ds ρ => match ds with | d :: r => (s d ρ).bind (t r) | [] => none
theorem zi8 : PGs X [] (tGs X.K B G0 gN0) := zi7 zg6 fun v σ H Q ⟨G, ρ, d, ρ', k, r, e, q⟩ => by
 cases r with
 | nil => cases e; exact ⟨rfl, q σ G H k (.refl _)⟩
 | cons _ _ => cases e
theorem zeT {s : D -> DEnv -> Option DEnv} {t : List D -> DEnv -> Option DEnv} (h1 : PG X e (tG X.K B G0 s)) (h2 : PGs X es (tGs X.K B G0 t))
  (hs : (assignEach (e :: es) X.env).map (·.2) = assign e X.env :: (assignEach es X.env).map (·.2) := by rfl) : PGs X (e :: es) (tGs X.K B G0 (gNC s t)) := zi7 (zfH h1 h2 hs) fun v σ H Q ⟨G, ρ, d, ρ', k, r, e, q⟩ => by
 cases r with
 | nil => cases e
 | @cons w dw ws dws rw rt =>
  unfold gNC at e
  dsimp only at e
  cases z : s dw ρ with
  | none => rw [z] at e; cases e
  | some ρ1 =>
   rw [z] at e
   refine ⟨w, ws, rfl, G, ρ, dw, ρ1, k, rw, z, fun σ' G' H' k' s' => ?_⟩
   exact ⟨G', ρ1, dws, ρ', k', rt.mono s', e, fun σ2 G2 H2 k2 s2 => q σ2 G2 H2 k2 (s'.trans s2)⟩
def gT (n : Nat) (t : List D -> DEnv -> Option DEnv) : D -> DEnv -> Option DEnv := fun d ρ => match d with | .tuple ds => if ds.length = n then t ds ρ else none | _ => none
theorem zi9 {k1 : Nat} {t : List D -> DEnv -> Option DEnv} {n : Nat} (hc : X.calm = true) (h : PGs X es (tGs X.K B G0 t))
  (hn : (assignEach es X.env).length = n := by rfl) (hst : (assignEach es X.env).findIdx? (·.1) = none := by rfl) : PG X (.Tuple es k1 pos) (tG X.K B G0 (gT n t)) := pgof (zis hc h hn hst) fun v σ H Q ⟨G, ρ, d, ρ', k, r, e, q⟩ => by
 unfold gT at e
 split at e
 ·split at e
  ·rename_i hl
   obtain ⟨ad, vs, rfl, h1, r1⟩ := r.tup_inv
   exact ⟨ad, vs, rfl, zbV k.gh h1, by rw [r1.length]; exact hl, G, ρ, _, ρ', k, r1, e, q⟩
  ·cases e
 ·cases e
def sAsg (f : M D) (s : D -> DEnv -> Option DEnv) : SM := sB f fun d ρ => match s d ρ with | some ρ' => .nx ρ' | none => .bad
def sSet (i : Nat) (f : M D) : SM := sAsg f (gN i)
theorem zaH {i : Nat} {x : Str} {f : M D} {p2 : Pos} (hN : X.N.Nodup) (hi : X.N[i]? = some x) (hx : Loc X.env.scope x) (he : PE X e (tD X.K B G0 f)) (hs : swapsWith e (some (.Name x p2)) pos.line X.env = pure false := by rfl)
  (hf : X.fn x = true ∨ X.env.scope.names.lookup x = some .local := by first | exact .inl rfl | exact .inr rfl | assumption) : PS X (.Assign [.Name x p2] e pos) (tS X.K B G0 KX (sSet i f)) :=
 psof (zgE hN hi hx he hs hf) fun D σ H q => tS.bnd (R := Rep X.K) q fun v H' G' ρ' x k r a => by
  unfold gN at a
  split at a
  ·rename_i ρ2 hz
   split at hz
   ·rename_i hi2
    cases hz
    exact a _ G' H' (k.setPub r hi2) (.refl _)
   ·cases hz
  ·exact a.elim
def tL (K : PySem.W.Frag) (B G0 : Hp) (f : M (List D)) : TE := fun σ H Q => ∃ G ρ, EOk K B G0 G H σ ρ /\ match f ρ with
 | .ok ds ρ' => ∀ a vs G' H', EOk K B G0 G' H' σ ρ' -> Same G G' -> NewL K B G' H' σ ρ' a vs ds -> Q (.ref a) H'
 | .bad => False
def zcp (i : Nat) (f : M (List D)) : SM := sB f fun ds ρ => if i < ρ.length then .nx (ρ.set i (some (.own ds))) else .bad
theorem zbX {i : Nat} {x : Str} {f : M (List D)} {p2 : Pos} (hN : X.N.Nodup) (hi : X.N[i]? = some x) (hx : Loc X.env.scope x) (he : PE X e (tL X.K B G0 f)) (hs : swapsWith e (some (.Name x p2)) pos.line X.env = pure false := by rfl)
  (hf : X.fn x = true ∨ X.env.scope.names.lookup x = some .local := by first | exact .inl rfl | exact .inr rfl | assumption) : PS X (.Assign [.Name x p2] e pos) (tS X.K B G0 KX (zcp i f)) :=
 psof (zgE hN hi hx he hs hf) fun D σ H ⟨G, ρ, k, a⟩ => by
  refine ⟨G, ρ, k, ?_⟩
  unfold zcp sB at a
  cases z : f ρ with
  | bad => rw [z] at a; exact a.elim
  | ok ds ρ1 =>
   rw [z] at a
   intro ad vs G' H' k' s' n
   dsimp only at a
   split at a
   ·rename_i hl
    exact a _ G' H' (k'.setOwn n hl) s'
   ·exact a.elim
theorem NewL.of {K : PySem.W.Frag} {G H : Hp} {σ : St} {ρ : DEnv} {p : Addr} {vs : List V} {ds : List D} (k : EOk K B G0 G H σ ρ) (hp : H p = none) (r : Reps K G vs ds) : NewL K B G (upd H p (.lst vs)) σ ρ p vs ds where
 b := k.bh.free hp
 g := k.gh.free hp
 h := zai
 r := r
 f := fun j es q z => by
  obtain ⟨a, ws, h1, h2, h3, h4, h5⟩ := k.own j es q
  rw [z] at h1
  cases h1
  rw [hp] at h4; cases h4
theorem zbY {f : M (List D)} (h : PA X es (tDs X.K B G0 f)) : PE X (.List es pos) (tL X.K B G0 (zaf f fun xs => if xs.length <= 1000000 then zac xs else fun _ => .bad)) :=
 peof (zgF h) fun σ H Q ⟨G, ρ, k, a⟩ => by
  refine ⟨G, ρ, k, ?_⟩
  unfold zaf at a
  cases z : f ρ with
  | bad => rw [z] at a; exact a.elim
  | ok ds ρ1 =>
   rw [z] at a
   dsimp only at a
   intro v G' H' k' s' r
   by_cases c : ds.length <= 1000000
   ·rw [if_pos c] at a
    refine ⟨by rw [r.length]; exact Nat.le_trans c lim, fun p hp => ?_⟩
    exact a p v G' _ (k'.ext (Ext.hid k'.gh hp)) s' (NewL.of k' hp r)
   ·rw [if_neg c] at a; exact a.elim
def sApp (i : Nat) (f : M D) : SM := fun ρ0 => match ρ0[i]? with
 | some (some (.own _)) => sB f (fun d ρ => match ρ[i]? with
  | some (some (.own ds)) => if ds.length < 1000000 then .nx (ρ.set i (some (.own (ds ++ [d])))) else .bad
  | _ => .bad) ρ0
 | _ => .bad
theorem zgO {i : Nat} {f : M D} {o : Expr} {apos cpos : Pos} (ho : PE X o (tVar i)) (he : PE X e (tD X.K B G0 f))
  (hbase : attributeBase o "append" X.env (eval o X.env) = eval o X.env := by rfl)
  (hfew : ((backTo cpos (starEach [e] X.env)).all (fun x => !x.1) && (backToKw cpos (keywordEach [] X.env)).all (fun x => x.1.isSome)
   && decide ([e].length + ([] : List Keyword).length + (if ([] : List Keyword).isEmpty then 0 else 1) < 30)) = true := by rfl)
  (hline : (apos.endLine == cpos.line) = true := by rfl) (hs : starEach [e] X.env = [(false, eval e X.env)] := by rfl)
  (hsw : swapsWith (.Call (.Attribute o "append" apos) [e] [] cpos) none pos.line X.env = pure false := by rfl) :
  PS X (.Expr (.Call (.Attribute o "append" apos) [e] [] cpos) pos) (tS X.K B G0 KX (sApp i f)) :=
 psof (zbO (ziL PySem.F.plainAttrs_list PySem.F.slot_list_append PySem.F.type_list_append zcJ ho (zaJ he zbs (by rw [hs]; rfl)) hbase hfew hline (by rw [hs]; rfl) rfl) hsw) fun D σ H ⟨G, ρ, k, a⟩ => by
  unfold sApp at a
  cases q0 : ρ[i]? with
  | none => rw [q0] at a; exact a.elim
  | some o0 =>
   cases o0 with
   | none => rw [q0] at a; exact a.elim
   | some sl0 =>
    cases sl0 with
    | pub d => rw [q0] at a; exact a.elim
    | own ds0 =>
     rw [q0] at a
     obtain ⟨ad, vs0, h1, h2, h3, h4, h5⟩ := k.own i ds0 q0
     refine ⟨.ref ad, h1, .inl ⟨rfl, _, SqL.of h4⟩, G, ρ, k, ?_⟩
     unfold sB at a
     cases z : f ρ with
     | bad => rw [z] at a; exact a.elim
     | ok d ρ1 =>
      rw [z] at a
      dsimp only at a
      intro v G' H' k' s' r'
      cases q : ρ1[i]? with
      | none => rw [q] at a; exact a.elim
      | some o =>
       cases o with
       | none => rw [q] at a; exact a.elim
       | some sl =>
        cases sl with
        | pub d => rw [q] at a; exact a.elim
        | own ds =>
         rw [q] at a
         dsimp only at a
         split at a
         ·rename_i hl
          obtain ⟨ad', vs, g1, g2, g3, g4, g5⟩ := k'.own i ds q
          rw [h1] at g1
          cases g1
          refine ⟨ad, vs, v, rfl, rfl, g4, by rw [g5.length]; exact Nat.lt_of_lt_of_le hl lim, ?_⟩
          exact a σ G' _ (k'.change q h1 (g5.append (.cons r' .nil))) s'
         ·exact a.elim
end
end DL
namespace DL
open PySem PySem.Spec L2
open PyProof.Rows hiding St
structure zcq (K : PySem.W.Frag) (J : It) (ds : List D) (G1 : Hp) : Prop where
 go : ∀ i G H, Same G1 G -> Same G H -> i < ds.length -> J.go i H
 stop : ∀ i G H, Same G1 G -> Same G H -> ds.length <= i -> J.stop i H
 yld : ∀ i G H x H' d, Same G1 G -> Same G H -> ds[i]? = some d -> J.yld i H x H' -> ∃ G', Ext G H G' H' /\ Rep K G' x d
def iD (K : PySem.W.Frag) (B G0 : Hp) (f : M (List D)) : TI := fun σ H R => ∃ G ρ, EOk K B G0 G H σ ρ /\ match f ρ with
 | .ok ds ρ' => ∀ J G' H', EOk K B G0 G' H' σ ρ' -> Same G G' -> zcq K J ds G' -> R J H'
 | .bad => False
section
variable {X : Cx} {B G0 : Hp} {KX : XW} {e a b c tg : Expr} {pos : Pos} {es rest : List Expr} {st : Stmt} {sts sts2 : List Stmt}
theorem piof {t t' : TI} (h : PI X tg e t) (i : ∀ σ H R, t' σ H R -> t σ H R) : PI X tg e t' := fun pins s σ H R I q => h pins s σ H R I (i σ H R q)
theorem tM.toI {K : PySem.W.Frag} {α γ : Type} {R0 : Hp -> γ -> α -> Prop} {f : M α} {g : α -> M (List D)} {σ : St} {H : Hp} {R : It -> Hp -> Prop} {P : γ -> Hp -> Prop} (q : iD K B G0 (zaf f g) σ H R)
  (i : ∀ v H' G' ρ' x, EOk K B G0 G' H' σ ρ' -> R0 G' v x -> (match g x ρ' with
   | .ok ds ρ2 => ∀ J G2 H2, EOk K B G0 G2 H2 σ ρ2 -> Same G' G2 -> zcq K J ds G2 -> R J H2
   | .bad => False) -> P v H') : tM K B G0 R0 f σ H P := by
 obtain ⟨G, ρ, k, a⟩ := q
 refine ⟨G, ρ, k, ?_⟩
 unfold zaf at a
 cases z : f ρ with
 | bad => rw [z] at a; exact a.elim
 | ok d ρ1 =>
  rw [z] at a
  intro v G' H' e s r
  refine i v H' G' ρ1 d e r ?_
  dsimp only at a
  cases z2 : g d ρ1 with
  | bad => rw [z2] at a; exact a.elim
  | ok ds ρ2 =>
   rw [z2] at a
   exact fun J G2 H2 k2 s2 it => a J G2 H2 k2 (s.trans s2) it
theorem zec {K : PySem.W.Frag} {G1 : Hp} {ad : Addr} {vs : List V} {ds : List D} (h : SqL K G1 ad vs) (r : Reps K G1 vs ds) : zcq K (Itl K ad) ds G1 where
 go := fun i G H s1 s2 hi => by
  have hi' : i < vs.length := by rw [r.length]; exact hi
  exact ⟨vs, vs[i], (s1.trans s2).seq h, List.getElem?_eq_getElem hi'⟩
 stop := fun i G H s1 s2 hi => ⟨vs, (s1.trans s2).seq h, by rw [r.length]; exact hi⟩
 yld := fun i G H x H' d s1 s2 e y => by
  obtain ⟨rfl, y⟩ := y
  obtain ⟨v, e1, r1⟩ := r.get e
  have := y vs ((s1.trans s2).seq h)
  rw [e1] at this
  cases this
  exact ⟨G, .refl s2, r1.mono s1⟩
def zba (lo hi : Int) : List D := (List.range (hi - lo).toNat).map fun (k : Nat) => .int (lo + k)
theorem zaP (lo hi : Int) : (zba lo hi).length = (hi - lo).toNat := by unfold zba; rw [List.length_map, List.length_range]
theorem zdm {K : PySem.W.Frag} {G1 : Hp} (lo hi : Int) : zcq K (Itr lo (hi - lo).toNat) (zba lo hi) G1 where
 go := fun i G H s1 s2 h => by rw [zaP] at h; exact h
 stop := fun i G H s1 s2 h => by rw [zaP] at h; exact h
 yld := fun i G H x H' d s1 s2 e y => by
  obtain ⟨rfl, rfl⟩ := y
  unfold zba at e
  rw [List.getElem?_map] at e
  have hi : i < (List.range (hi - lo).toNat).length := by
   refine Nat.lt_of_not_le fun z => ?_
   rw [List.getElem?_eq_none z] at e
   cases e
  rw [List.getElem?_eq_getElem hi, List.getElem_range] at e
  cases e
  exact ⟨G, .refl s2, .int _⟩
def zed : List D -> Option (List D)
 | [.int j] => if j <= 1000000 /\ -1000000 <= j then some (zba 0 j) else none
 | _ => none
def zeU (f : M (List D)) : M (List D) := zaf f fun x => mOpt (zed x)
theorem zcQ {f : M (List D)} {p2 : Pos} (hg : Gl X "range") (hm : X.mg "range" = none) (ha : PA X [a] (tDs X.K B G0 f)) (hs : starEach [a] X.env = [(false, eval a X.env)] := by rfl) :
  PI X tg (.Call (.Name "range" p2) [a] [] pos) (iD X.K B G0 (zeU f)) := piof (zeu hg hm ha hs) fun σ H R q => tM.toI (R0 := Reps X.K) q fun v H' G' ρ' x k r a => by
 cases z : zed x with
 | none => rw [z] at a; exact a.elim
 | some ds =>
  rw [z] at a
  unfold zed at z
  split at z
  ·split at z
   ·rename_i j c
    cases z
    obtain ⟨w, rfl, r'⟩ := r.one_inv
    refine ⟨j, by rw [r'.int_inv], by omega, by omega, ?_⟩
    have it := zdm (K := X.K) (G1 := G') 0 j
    rw [Int.sub_zero] at it
    exact a _ G' H' k (.refl _) it
   ·cases z
  ·cases z
def zbZ (n : Nat) : List D -> List D
 | [] => []
 | d :: r => .tuple [.int n, d] :: zbZ (n + 1) r
theorem zbb : ∀ (n : Nat) (ds : List D), (zbZ n ds).length = ds.length
 | _, [] => rfl
 | n, d :: r => by rw [zbZ, List.length_cons, List.length_cons, zbb]
theorem zcR : ∀ (n : Nat) (ds : List D) (i : Nat), (zbZ n ds)[i]? = ds[i]?.map fun d => .tuple [.int ((n + i : Nat) : Int), d]
 | _, [], i => by simp [zbZ]
 | n, d :: r, 0 => by simp [zbZ]
 | n, d :: r, i + 1 => by
  rw [zbZ, List.getElem?_cons_succ, List.getElem?_cons_succ, zcR (n + 1) r i]
  have : n + 1 + i = n + (i + 1) := by omega
  rw [this]
theorem zee {K : PySem.W.Frag} {G1 : Hp} {ad : Addr} {vs : List V} {ds : List D} (h : SqL K G1 ad vs) (r : Reps K G1 vs ds) : zcq K (Ite K ad) (zbZ 0 ds) G1 where
 go := fun i G H s1 s2 hi => by
  rw [zbb] at hi
  have hi' : i < vs.length := by rw [r.length]; exact hi
  exact ⟨vs, vs[i], (s1.trans s2).seq h, List.getElem?_eq_getElem hi'⟩
 stop := fun i G H s1 s2 hi => by
  rw [zbb] at hi
  exact ⟨vs, (s1.trans s2).seq h, by rw [r.length]; exact hi⟩
 yld := fun i G H x H' d s1 s2 e y => by
  obtain ⟨p, v, hp, rfl, y, rfl⟩ := y
  rw [zcR] at e
  cases z : ds[i]? with
  | none => rw [z] at e; cases e
  | some d0 =>
   rw [z] at e
   cases e
   obtain ⟨w, e1, r1⟩ := r.get z
   have := y vs ((s1.trans s2).seq h)
   rw [e1] at this
   cases this
   refine ⟨upd G p (.tup [.int i, v]), Ext.new s2 hp, .tup (SqT.of zai) (.cons ?_ (.cons ((r1.mono s1).mono (zap (s2.free hp))) .nil))⟩
   rw [Nat.zero_add]
   exact .int _
def zeV : List D -> Option (List D)
 | [.list ds] => some (zbZ 0 ds)
 | _ => none
def zga (f : M (List D)) : M (List D) := zaf f fun x => mOpt (zeV x)
theorem zhD {f : M (List D)} {p2 : Pos} {elts : List Expr} {x1} {tp : Pos} (hg : Gl X "enumerate") (hm : X.mg "enumerate" = none) (ha : PA X [a] (tDs X.K B G0 f)) (hs : starEach [a] X.env = [(false, eval a X.env)] := by rfl) :
  PI X (.Tuple elts x1 tp) (.Call (.Name "enumerate" p2) [a] [] pos) (iD X.K B G0 (zga f)) := piof (zhh hg hm ha hs) fun σ H R q => tM.toI (R0 := Reps X.K) q fun v H' G' ρ' x k r a => by
 cases z : zeV x with
 | none => rw [z] at a; exact a.elim
 | some ds =>
  rw [z] at a
  unfold zeV at z
  split at z
  ·cases z
   obtain ⟨w, rfl, r'⟩ := r.one_inv
   obtain ⟨ad, vs, rfl, h1, r1⟩ := r'.lst_inv
   exact ⟨ad, vs, rfl, k.gh.seq h1, a _ G' H' k (.refl _) (zee h1 r1)⟩
  ·cases z
def zcS (s : D -> DEnv -> Option DEnv) (g : SM) : List D -> SM
 | [], ρ => .nx ρ
 | d :: r, ρ => match s d ρ with
  | none => .bad
  | some ρ1 => match g ρ1 with
   | .nx ρ2 => zcS s g r ρ2
   | .ct ρ2 => zcS s g r ρ2
   | .bk ρ2 => .nx ρ2
   | .rt d => .rt d
   | .ex ρ2 d => .ex ρ2 d
   | .bad => .bad
def sFor (f : M (List D)) (s : D -> DEnv -> Option DEnv) (g : SM) : SM := sB f fun ds => zcS s g ds
theorem zgP {iter : Expr} {body : List Stmt} {f : M (List D)} {s : D -> DEnv -> Option DEnv} {g : SM} (hp : PassesOwn (model X.prog X.w) X.A X.env X.xe) (hc : X.calm = true) (hi : PI X tg iter (iD X.K B G0 f)) (hg : PG X tg (tG X.K B G0 s)) (hb : PSs X body (tS X.K B G0 KX g))
  (hs : ∀ x, foldedSetIterable iter X.env x = pure x := by intro _; rfl) : PS X (.For tg iter body [] pos) (tS X.K B G0 KX (sFor f s g)) :=
 psof (zit hp hc hi hg hb hs) fun Dn σ H ⟨G, ρ, k, a⟩ => by
  refine ⟨G, ρ, k, ?_⟩
  unfold sFor sB at a
  cases z : f ρ with
  | bad => rw [z] at a; exact a.elim
  | ok ds ρ1 =>
   rw [z] at a
   dsimp only at a ⊢
   intro J G1 H1 k1 s1 it
   refine ⟨fun i m σ' H' => m = ds.length - i /\ ∃ G' ρ', EOk X.K B G0 G' H' σ' ρ' /\ Same G1 G' /\ aftS X.K B G0 KX (zcS s g (ds.drop i) ρ') G' Dn, ⟨ds.length, by omega, G1, ρ1, k1, .refl _, by rw [List.drop_zero]; exact aftS.mono s1 a⟩, ?_⟩
   rintro i m σ' H' ⟨rfl, G', ρ', k', s', a'⟩
   by_cases hi : i < ds.length
   ·right
    refine ⟨it.go i G' H' s' k'.gh hi, fun σ2 H2 => ∃ G2 ρ2, EOk X.K B G0 G2 H2 σ2 ρ2 /\ Same G1 G2 /\ aftS X.K B G0 KX (zcS s g (ds.drop (i + 1)) ρ2) G2 Dn, fun σ2 H2 h2 => ⟨ds.length - (i + 1), by omega, rfl, h2⟩, fun x H2 y => ?_⟩
    obtain ⟨G2, ex, rx⟩ := it.yld i G' H' x H2 ds[i] s' k'.gh (List.getElem?_eq_getElem hi) y
    rw [List.drop_eq_getElem_cons hi, zcS] at a'
    cases z2 : s ds[i] ρ' with
    | none => rw [z2] at a'; exact a'.elim
    | some ρ2 =>
     rw [z2] at a'
     dsimp only at a'
     refine ⟨G2, ρ', ds[i], ρ2, k'.ext ex, rx, z2, fun σ3 G3 H3 k3 s3 => ⟨G3, ρ2, k3, ?_⟩⟩
     have s13 : Same G1 G3 := (s'.trans ex.g).trans s3
     cases z3 : g ρ2 with
     | nx ρ3 => rw [z3] at a'; exact fun σ4 G4 H4 k4 s4 => ⟨G4, ρ3, k4, s13.trans s4, aftS.mono ((ex.g.trans s3).trans s4) a'⟩
     | ct ρ3 => rw [z3] at a'; exact fun σ4 G4 H4 k4 s4 => ⟨G4, ρ3, k4, s13.trans s4, aftS.mono ((ex.g.trans s3).trans s4) a'⟩
     | bk ρ3 => rw [z3] at a'; exact fun σ4 G4 H4 k4 s4 => a' σ4 G4 H4 k4 ((ex.g.trans s3).trans s4)
     | rt d => rw [z3] at a'; exact a'
     | ex ρ3 d => rw [z3] at a'; exact fun v σ4 G4 H4 k4 s4 r4 => a' v σ4 G4 H4 k4 ((ex.g.trans s3).trans s4) r4
     | bad => rw [z3] at a'; exact a'.elim
   ·left
    rw [List.drop_eq_nil_of_le (by omega)] at a'
    exact ⟨it.stop i G' H' s' k'.gh (by omega), a' σ' G' H' k' (.refl _)⟩
theorem zgb {k : Nat} {f : Addr} {fd : FuncData} {ps : List Str} {F : List D -> Option D} {g : M (List D)} {x : Str} {p2 : Pos} {n : Nat} (FK : FnOk X.prog X.w X.K X.mg X.base CX0 k f fd ps (spD X.K n F)) (hr : Room k X.A) (hg : Gl X x) (hm : X.mg x = some (.ref f)) (hk : PySem.W.keepIn X.K (.ref f) = true)
  (hb : za8 X.K fd ps []) (ha : PA X (e :: es) (tDs X.K B G0 g)) (hn : (e :: es).length = n) (hdb : (x == ("__debug__" : Str)) = false := by decide) (he : starEach (e :: es) X.env = (false, eval e X.env) :: starEach es X.env := by rfl) (hpl : (backTo pos (starEach es X.env)).any (·.1) = false := by rfl) :
  PE X (.Call (.Name x p2) (e :: es) [] pos) (tD X.K B G0 (zaf g fun xs => if xs.length = n then mOpt (F xs) else fun _ => .bad)) :=
 peof (zg8 FK hr hg hm hk hb .nil ziM ha hdb he hpl) fun σ H Q q => tM.one (R := Reps X.K) q fun v H2 G ρ ds k r a => by
  split at a
  ·rename_i hl
   obtain ⟨d, e, a⟩ := a.opt
   exact ⟨G, ds, d, by rw [List.append_nil, r.length]; exact hl, k.gh, by rw [List.append_nil]; exact r, e, fun w G' H' ex rw => a.done k ex rw⟩
  ·exact a.elim
end
def za1 (N : List Str) (ds : List D) : DEnv := (ds.map fun d => some (Sl.pub d)) ++ List.replicate (N.length - ds.length) none
theorem zdG {K : PySem.W.Frag} {N : List Str} {G H : Hp} {vs : List V} {ds : List D} (s : Same G H) (r : Reps K G vs ds) : EOk K H G G H (L2.zbR N vs) (za1 N ds) where
 bh := .refl _
 gh := s
 g0 := .refl _
 np := fun _ _ _ n => n
 len := by unfold L2.zbR za1; rw [List.length_append, List.length_append, List.length_map, List.length_map, List.length_replicate, List.length_replicate, r.length]
 pub := fun i d q => by
  unfold za1 at q
  unfold L2.zbR
  by_cases hi : i < ds.length
  ·rw [List.getElem?_append_left (by rw [List.length_map]; exact hi), List.getElem?_map] at q
   cases z : ds[i]? with
   | none => rw [z] at q; cases q
   | some d' =>
    rw [z] at q
    cases q
    obtain ⟨v, e1, r1⟩ := r.get z
    refine ⟨v, ?_, r1⟩
    rw [List.getElem?_append_left (by rw [List.length_map, r.length]; exact hi), List.getElem?_map, e1]
    rfl
  ·rw [List.getElem?_append_right (by rw [List.length_map]; omega), List.getElem?_replicate] at q
   split at q <;> cases q
 own := fun i es q => by
  unfold za1 at q
  by_cases hi : i < ds.length
  ·rw [List.getElem?_append_left (by rw [List.length_map]; exact hi), List.getElem?_map] at q
   cases z : ds[i]? with
   | none => rw [z] at q; cases q
   | some d' => rw [z] at q; cases q
  ·rw [List.getElem?_append_right (by rw [List.length_map]; omega), List.getElem?_replicate] at q
   split at q <;> cases q
 sep := fun i j a es fs q _ _ _ => by
  unfold za1 at q
  by_cases hi : i < ds.length
  ·rw [List.getElem?_append_left (by rw [List.length_map]; exact hi), List.getElem?_map] at q
   cases z : ds[i]? with
   | none => rw [z] at q; cases q
   | some d' => rw [z] at q; cases q
  ·rw [List.getElem?_append_right (by rw [List.length_map]; omega), List.getElem?_replicate] at q
   split at q <;> cases q
def runD (N : List Str) (g : SM) (ds : List D) : Option D := match g (za1 N ds) with
 | .rt d => some d
 | .nx _ => some .none
 | _ => none
theorem okD {P : Program} {w : World} {K : PySem.W.Frag} {mg : Str -> Option Value} {base : Heap} {x qual : Str} {st : Stmt} {f : Addr} {fd : FuncData} {N ps : List Str} {k n : Nat} {g : SM} (F : Fun K x qual st f fd) (S : zbB N ps (zag st)) (hn : ps.length = n)
  (der : ∀ (cdv : Value) (A : Around) (outer : List Env) (s : Shared) (H : Hp) (E : XK) (B G0 : Hp), Room k (A.deeper (envOfC qual (zag st) s.heap.objs.size f cdv)) ->
   PSs (cxOf CX0 P w K mg base N qual (zag st) f cdv A outer s H E).nox (zaA st) (tS K B G0 KX0 g)) : FnOk P w K mg base CX0 (k + 1) f fd ps (spD K n (runD N g)) := by
 refine F.ok S (fun vs H Q E h => ?_) (fun cdv A outer s H vs Q E hr h => ?_)
 ·obtain ⟨_, _, _, hl, _⟩ := h
  rw [hl, hn]
 ·obtain ⟨G, ds, d, hl, sg, r, hF, q⟩ := h
  refine ⟨_, der cdv A outer s H E H G hr, G, za1 N ds, zdG sg r, ?_⟩
  unfold runD at hF
  cases z : g (za1 N ds) with
  | rt d' =>
   rw [z] at hF
   cases hF
   exact fun v G' H' ex rr => q v G' H' ex rr
  | nx ρ =>
   rw [z] at hF
   cases hF
   exact fun σ' G' H' k' _ => q .non G' H' k'.exit .non
  | bk ρ => rw [z] at hF; cases hF
  | ct ρ => rw [z] at hF; cases hF
  | ex ρ d => rw [z] at hF; cases hF
  | bad => rw [z] at hF; cases hF
end DL
namespace DL
open PySem PySem.Spec L2
open PyProof.Rows hiding St
section
variable {X : Cx} {B G0 : Hp} {e a b c tg : Expr} {pos : Pos} {es rest : List Expr}
def oNeg : D -> Option D
 | .int i => some (.int (-i))
 | _ => none
def dNeg (f : M D) : M D := zaf f fun x => mOpt (oNeg x)
theorem zhE {f : M D} (h : PE X a (tD X.K B G0 f)) : PE X (.UnaryOp .USub a pos) (tD X.K B G0 (dNeg f)) :=
 peof (zjU ziz h) fun σ H Q q => tM.one (R := Rep X.K) q fun v H2 G ρ x k r a => by
  cases x with
  | int i => exact ⟨i, r.int_inv, aft.now a k (.int _)⟩
  | _ => exact a.elim
end
def Def (P : Program) (w : World) (K : PySem.W.Frag) (mg : Str -> Option Value) (base : Heap) (x : Str) (k n : Nat) (F : List D -> Option D) : Prop :=
 ∃ (f : Addr) (fd : FuncData) (ps : List Str), mg x = some (.ref f) /\ PySem.W.keepIn K (.ref f) = true /\ za8 K fd ps [] /\ FnOk P w K mg base CX0 k f fd ps (spD K n F)
def dFun (n : Nat) (F : List D -> Option D) (g : M (List D)) : M D := zaf g fun xs => if xs.length = n then mOpt (F xs) else fun _ => .bad
section
variable {X : Cx} {B G0 : Hp} {e : Expr} {pos : Pos} {es : List Expr}
theorem zhF {k n : Nat} {F : List D -> Option D} {g : M (List D)} {x : Str} {p2 : Pos} (d : Def X.prog X.w X.K X.mg X.base x k n F) (hr : Room k X.A) (hg : Gl X x) (ha : PA X (e :: es) (tDs X.K B G0 g)) (hn : (e :: es).length = n := by rfl)
  (hdb : (x == ("__debug__" : Str)) = false := by decide) (he : starEach (e :: es) X.env = (false, eval e X.env) :: starEach es X.env := by rfl) (hpl : (backTo pos (starEach es X.env)).any (·.1) = false := by rfl) :
  PE X (.Call (.Name x p2) (e :: es) [] pos) (tD X.K B G0 (dFun n F g)) := by
 obtain ⟨f, fd, ps, h1, h2, h3, h4⟩ := d
 exact zgb h4 hr hg h1 h2 h3 ha hn hdb he hpl
end
theorem Def.mk {P : Program} {w : World} {K : PySem.W.Frag} {mg : Str -> Option Value} {base : Heap} {x : Str} {k n : Nat} {F : List D -> Option D} {st : Stmt} {f : Addr} {fd : FuncData} {ps : List Str} (hm : mg x = some (.ref f)) (FU : Fun K x x st f fd) (hb : za8 K fd ps []) (ok : FnOk P w K mg base CX0 k f fd ps (spD K n F)) :
  Def P w K mg base x k n F := ⟨f, fd, ps, hm, FU.kp, hb, ok⟩
theorem zja {K : PySem.W.Frag} {H : Hp} {a : Addr} {ns : List Int} {F : List D -> Option D} {E : XK} (hS : SqL K H a (ns.map V.int)) (h : F [.list (ns.map PyData.int)] = some (.bool true)) : spD K 1 F [.ref a] H (fun v _ => v = .bl true) E :=
 ⟨H, [.list (ns.map PyData.int)], .bool true, rfl, .refl _, .cons (.lst hS (Reps.ints ns)) .nil, h, fun _ _ _ _ r => r.bl_inv⟩
end DL
namespace L2
open PySem PySem.Spec PyProof.Rows
theorem mem_of_lookup {x : Str} {k : NameKind} : ∀ {l : List (Str × NameKind)}, l.lookup x = some k -> (x, k) ∈ l
 | [], h => by cases h
 | (y, j) :: r, h => by
  rw [List.lookup_cons] at h
  split at h
  ·rename_i e
   cases h
   have : x = y := by simpa using e
   rw [this]; exact List.mem_cons_self
  ·exact List.mem_cons_of_mem _ (mem_of_lookup h)
theorem zbC {env : Env} : ∀ (l : List (Str × NameKind)) (acc : List (Str × Addr)), (∀ y ∈ l, y.2 = .free -> ∃ c, env.cells.lookup y.1 = some c) ->
  ∃ cl, (forIn l acc (fun x r => if (x.2 == NameKind.free) = true then (do let a ← cellOf env x.1; pure (ForInStep.yield ((x.1, a) :: r))) else pure (ForInStep.yield r)) : Sem (List (Str × Addr))) = pure cl /\
   (∀ x c, cl.lookup x = some c -> acc.lookup x = some c ∨ env.cells.lookup x = some c) /\ (∀ y ∈ l, y.2 = .free -> ∃ c, cl.lookup y.1 = some c) /\ (∀ x c, acc.lookup x = some c -> ∃ c', cl.lookup x = some c')
 | [], acc, _ => ⟨acc, rfl, fun _ _ h => .inl h, fun _ h => absurd h (by simp), fun x c h => ⟨c, h⟩⟩
 | (n, k) :: r, acc, h => by
  by_cases hk : k = .free
  ·subst hk
   obtain ⟨c, hc⟩ := h (n, .free) List.mem_cons_self rfl
   obtain ⟨cl, e, p1, p2, p3⟩ := zbC r ((n, c) :: acc) fun y hy => h y (List.mem_cons_of_mem _ hy)
   have hco : cellOf env n = pure c := by unfold cellOf; rw [hc]
   have key : ∀ x c', ((n, c) :: acc).lookup x = some c' -> acc.lookup x = some c' ∨ env.cells.lookup x = some c' := fun x c' q => by
    rw [List.lookup_cons] at q
    split at q
    ·rename_i e1
     cases q
     have : x = n := by simpa using e1
     subst this
     exact .inr hc
    ·exact .inl q
   have own : ((n, c) :: acc).lookup n = some c := by rw [List.lookup_cons]; simp
   refine ⟨cl, ?_, fun x c' q => ?_, fun y hy hf => ?_, fun x c' q => ?_⟩
   ·rw [List.forIn_cons]
    have : (if (((n, NameKind.free) : Str × NameKind).2 == NameKind.free) = true then (do let a ← cellOf env n; pure (ForInStep.yield ((n, a) :: acc))) else pure (ForInStep.yield acc) : Sem _) = pure (ForInStep.yield ((n, c) :: acc)) := by
     rw [if_pos (show ((n, NameKind.free).snd == NameKind.free) = true from rfl), hco]; rfl
    refine Eq.trans ?_ e
    dsimp only at this ⊢
    rw [this]
    rfl
   ·rcases p1 x c' q with z | z
    ·exact key x c' z
    ·exact .inr z
   ·rcases List.mem_cons.mp hy with z | z
    ·subst z
     exact p3 n c own
    ·exact p2 y z hf
   ·by_cases hx : x = n
    ·subst hx; exact p3 x c own
    ·refine p3 x c' ?_
     have hb : (x == n) = false := by simpa using hx
     rw [List.lookup_cons, hb]
     exact q
  ·obtain ⟨cl, e, p1, p2, p3⟩ := zbC r acc fun y hy => h y (List.mem_cons_of_mem _ hy)
   refine ⟨cl, ?_, p1, fun y hy hf => ?_, p3⟩
   ·rw [List.forIn_cons]
    have hb : (k == NameKind.free) = false := by cases k <;> first | rfl | exact absurd rfl hk
    refine Eq.trans ?_ e
    dsimp only
    rw [hb, if_neg (by decide)]
    rfl
   ·rcases List.mem_cons.mp hy with z | z
    ·subst z; exact absurd hf hk
    ·exact p2 y z hf
theorem zef {scope : Scope} {env : Env} (h : ∀ y ∈ scope.names, y.2 = .free -> ∃ c, env.cells.lookup y.1 = some c) :
  ∃ cl, closureFor scope env = pure cl /\ (∀ x c, cl.lookup x = some c -> env.cells.lookup x = some c) /\ ∀ y ∈ scope.names, y.2 = .free -> ∃ c, cl.lookup y.1 = some c := by
 obtain ⟨cl, e, p1, p2, _⟩ := zbC scope.names [] h
 refine ⟨cl, ?_, fun x c q => (p1 x c q).elim (fun z => by cases z) id, p2⟩
 have e2 : ((forIn scope.names [] (fun x r => if (x.2 == NameKind.free) = true then (do let a ← cellOf env x.1; pure (ForInStep.yield ((x.1, a) :: r))) else pure (ForInStep.yield r)) : Sem (List (Str × Addr))) >>= fun s => pure s) = pure cl := by
  rw [e]; rfl
 exact e2
theorem zb0 {env : Env} {x : Str} {k : NameKind} : ∀ {names : List (Str × NameKind)}, (names.map fun (n, k) => if (k == NameKind.free && env.scope.kind == .function && env.kindOf n == some .cell) then (n, NameKind.cell) else (n, k)).lookup x = some k ->
  names.lookup x = some k ∨ (names.lookup x = some .free /\ k = .cell)
 | [], h => by cases h
 | (n, j) :: r, h => by
  have ih := @zb0 env x k r
  have h : List.lookup x ((if (j == NameKind.free && env.scope.kind == .function && env.kindOf n == some .cell) = true then (n, NameKind.cell) else (n, j)) :: _) = some k := h
  cases hx : x == n with
  | true =>
   by_cases hc : (j == NameKind.free && env.scope.kind == .function && env.kindOf n == some .cell) = true
   ·rw [if_pos hc] at h
    simp only [List.lookup_cons, hx] at h ⊢
    cases h
    simp only [Bool.and_eq_true] at hc
    have : j = .free := by have := hc.1.1; cases j <;> first | rfl | cases this
    subst this
    exact .inr ⟨rfl, rfl⟩
   ·rw [if_neg hc] at h
    simp only [List.lookup_cons, hx] at h ⊢
    exact .inl h
  | false =>
   by_cases hc : (j == NameKind.free && env.scope.kind == .function && env.kindOf n == some .cell) = true
   ·rw [if_pos hc] at h
    simp only [List.lookup_cons, hx] at h ⊢
    exact ih h
   ·rw [if_neg hc] at h
    simp only [List.lookup_cons, hx] at h ⊢
    exact ih h
theorem zbH {env : Env} {x : Str} : ∀ {names : List (Str × NameKind)}, names.lookup x = some .free ->
  (names.map fun (n, k) => if (k == NameKind.free && env.scope.kind == .function && env.kindOf n == some .cell) then (n, NameKind.cell) else (n, k)).lookup x = some .free ∨
  (names.map fun (n, k) => if (k == NameKind.free && env.scope.kind == .function && env.kindOf n == some .cell) then (n, NameKind.cell) else (n, k)).lookup x = some .cell
 | [], h => by cases h
 | (n, j) :: r, h => by
  have ih := @zbH env x r
  show List.lookup x ((if (j == NameKind.free && env.scope.kind == .function && env.kindOf n == some .cell) = true then (n, NameKind.cell) else (n, j)) :: _) = _ ∨ List.lookup x ((if (j == NameKind.free && env.scope.kind == .function && env.kindOf n == some .cell) = true then (n, NameKind.cell) else (n, j)) :: _) = _
  cases hx : x == n with
  | true =>
   simp only [List.lookup_cons, hx] at h
   cases h
   by_cases hc : (NameKind.free == NameKind.free && env.scope.kind == .function && env.kindOf n == some .cell) = true
   ·rw [if_pos hc]; simp [List.lookup_cons, hx]
   ·rw [if_neg hc]; simp [List.lookup_cons, hx]
  | false =>
   simp only [List.lookup_cons, hx] at h
   by_cases hc : (j == NameKind.free && env.scope.kind == .function && env.kindOf n == some .cell) = true
   ·rw [if_pos hc]; simp only [List.lookup_cons, hx]; exact ih h
   ·rw [if_neg hc]; simp only [List.lookup_cons, hx]; exact ih h
theorem zcb {env : Env} {x : Str} : ∀ {names : List (Str × NameKind)}, names.lookup x = some .globalImplicit ->
  (names.map fun (n, k) => if (k == NameKind.free && env.scope.kind == .function && env.kindOf n == some .cell) then (n, NameKind.cell) else (n, k)).lookup x = some .globalImplicit
 | [], h => by cases h
 | (n, j) :: r, h => by
  have ih := @zcb env x r
  show List.lookup x ((if (j == NameKind.free && env.scope.kind == .function && env.kindOf n == some .cell) = true then (n, NameKind.cell) else (n, j)) :: _) = _
  cases hx : x == n with
  | true =>
   simp only [List.lookup_cons, hx] at h
   cases h
   rw [if_neg (by simp)]
   simp [List.lookup_cons, hx]
  | false =>
   simp only [List.lookup_cons, hx] at h
   by_cases hc : (j == NameKind.free && env.scope.kind == .function && env.kindOf n == some .cell) = true
   ·rw [if_pos hc]; simp only [List.lookup_cons, hx]; exact ih h
   ·rw [if_neg hc]; simp only [List.lookup_cons, hx]; exact ih h
def Cx.blk (X : Cx) (N' : List Str) (scope : Scope) (cl : List (Str × Addr)) (C : Addr) (s₀ : Shared) (H₀ : Hp) (ex : List Addr) : Cx :=
 { X with N := N', s₀ := s₀, H₀ := H₀, env := compEnvC scope cl C X.env, outer := X.stack, ex := ex, fn := fun _ => false, xe := fun _ _ => False }
section
variable {X : Cx} {N' : List Str} {scope : Scope} {cl : List (Str × Addr)} {C : Addr} {s₀ : Shared} {H₀ : Hp} {ex : List Addr} {x : Str}
theorem zhG (h : scope.names.lookup x = some .local ∨ scope.names.lookup x = some .free) : Vis (X.blk N' scope cl C s₀ H₀ ex).env.scope x := by
 rcases h with h | h
 ·exact .inl (lookup_relabel_local h)
 ·rcases zbH (env := X.env) h with z | z
  ·exact .inr (.inr z)
  ·exact .inr (.inl z)
theorem zeW (h : scope.names.lookup x = some .local) : Loc (X.blk N' scope cl C s₀ H₀ ex).env.scope x := .inl (lookup_relabel_local h)
theorem zgQ (h : scope.names.lookup x = some .local) : (X.blk N' scope cl C s₀ H₀ ex).env.scope.names.lookup x = some .local := lookup_relabel_local h
theorem zjb (h : scope.names.lookup x = some .globalImplicit) : Gl (X.blk N' scope cl C s₀ H₀ ex) x := zcb h
end
def zbw (names : List (Str × NameKind)) (N N2 : List Str) (k : Nat) : Bool :=
 N2.length == N.length + k && (List.range N2.length).all fun i => match N2[i]? with
  | none => true
  | some x => match names.lookup x with
   | some .free => N[i]? == some x
   | some .local => decide (N.length <= i) && decide (i < N.length + k)
   | some .cell => false
   | _ => true
theorem zcT {names : List (Str × NameKind)} {N N2 : List Str} {k : Nat} (h : zbw names N N2 k = true) :
  N2.length = N.length + k /\ ∀ (i : Nat) x, N2[i]? = some x -> (names.lookup x = some .free -> N[i]? = some x) /\ (names.lookup x = some .local -> N.length <= i /\ i < N.length + k) := by
 unfold zbw at h
 simp only [Bool.and_eq_true, beq_iff_eq, List.all_eq_true, List.mem_range] at h
 refine ⟨h.1, fun i x e => ?_⟩
 have hi := (List.getElem?_eq_some_iff.mp e).1
 have := h.2 i hi
 rw [e] at this
 refine ⟨fun q => ?_, fun q => ?_⟩
 ·simp only [q] at this
  simpa using this
 ·simp only [q] at this
  simpa using this
end L2
namespace L2
open PySem PySem.Spec PyProof.Rows
theorem Inv.enter {X : Cx} {pins : List (Addr × Obj)} {σ : St} {H : Hp} {s3 : Shared} (I : Inv X pins σ H s3) {scope : Scope} {cl : List (Str × Addr)} {N2 : List Str} {k : Nat} {h' : Heap} {fp : List Addr} {t' : Nat} {m0 : Str -> Option Value}
  (hb : zbw scope.names X.N N2 k = true) (hkind : scope.kind = .function) (hcell : ∀ y ∈ scope.names, y.2 ≠ .cell)
  (hfree : ∀ y ∈ scope.names, y.2 = .free -> X.env.scope.names.lookup y.1 = some .cell ∨ X.env.scope.names.lookup y.1 = some .free)
  (cl1 : ∀ x c, cl.lookup x = some c -> X.env.cells.lookup x = some c) (cl2 : ∀ y ∈ scope.names, y.2 = .free -> ∃ c, cl.lookup y.1 = some c)
  (hn : h'.Ns s3.heap.objs.size m0) (hk : ∀ b o, s3.heap.get? b = some o -> h'.get? b = some o) (hf : ∀ b ∈ fp, FpOk X pins H b) (hfo : ∀ b ∈ fp, ∃ o, s3.heap.get? b = some o) :
  Inv (X.blk N2 scope cl s3.heap.objs.size s3 H fp) pins (σ ++ List.replicate k none) H { s3 with heap := h', toks := t' } := by
 obtain ⟨hl, hN⟩ := zcT hb
 have lt : ∀ b o, s3.heap.get? b = some o -> b ≠ s3.heap.objs.size := fun b o e => Nat.ne_of_lt (Heap.lt_size e)
 have ofl : ∀ x, scope.names.lookup x = some .free -> (x, NameKind.free) ∈ scope.names := fun x h => mem_of_lookup h
 have kinv : ∀ x kk, (X.blk N2 scope cl s3.heap.objs.size s3 H fp).env.scope.names.lookup x = some kk -> scope.names.lookup x = some kk ∨ (scope.names.lookup x = some .free /\ kk = .cell) := fun x kk h => zb0 (env := X.env) h
 have isfree : ∀ x, (X.blk N2 scope cl s3.heap.objs.size s3 H fp).env.scope.names.lookup x = some .cell ∨ (X.blk N2 scope cl s3.heap.objs.size s3 H fp).env.scope.names.lookup x = some .free -> scope.names.lookup x = some .free := fun x h => by
  rcases h with h | h
  ·rcases kinv x _ h with z | z
   ·exact absurd rfl (hcell _ (mem_of_lookup z))
   ·exact z.1
  ·rcases kinv x _ h with z | z
   ·exact z
   ·exact z.1
 have ok : (X.blk N2 scope cl s3.heap.objs.size s3 H fp).Ok :=
  {
   mod := I.ok.mod
   kind := hkind
   glob := I.ok.glob
   blt := I.ok.blt
   above := Nat.le_refl _
   inj := fun x y c a b => I.ok.inj x y c (cl1 x c a) (cl1 y c b)
   has := fun x h => cl2 (x, .free) (ofl x (isfree x h)) rfl
   cab := fun x c h => by cases h
   hd := I.ok.hd
   frames := I.ok.frames
   stk := .inl rfl
   exf := fun b hb => ⟨let ⟨o, e⟩ := hfo b hb; lt b o e, fun x c e => (hf b hb).2.2.2.2.1 x c (cl1 x c e)⟩
   bs := I.bs
   bsz := Nat.le_trans I.ok.bsz I.sz
   noex := fun b o e hb => by
    rcases (hf b hb).2.2.2.1 with z | z
    ·exact I.ok.noex b o e z
    ·exact absurd (Nat.lt_of_lt_of_le (Heap.lt_size e) (Nat.le_trans I.ok.bsz z)) (Nat.lt_irrefl _)
   exfs := fun b hb hx => by
    rcases List.mem_cons.mp (I.stkSub b hx) with z | z
    ·exact (hf b hb).2.1 z
    ·exact (hf b hb).2.2.1 z
   funs := I.stack
   frf := I.stkFree }
 refine ⟨ok, rfl, I.bare, Un.kept hk, ⟨m0, hn, fun i x v e1 e2 e3 => ?_⟩, fun x c e => ?_, I.hok.fresh (Nat.le_refl _), fun x c e => I.freeC x c (cl1 x c e), fun p hp => ?_, I.hok.kept hk, ?_⟩
 ·have nl : scope.names.lookup x ≠ some .local := fun z => by
   obtain ⟨g1, g2⟩ := (hN i x e1).2 z
   rw [← I.len] at g1 g2
   rw [List.getElem?_append_right g1, List.getElem?_replicate] at e2
   split at e2 <;> cases e2
  have fr : scope.names.lookup x = some .free := by
   rcases e3 with z | z | z
   ·rcases kinv x _ z with q | q
    ·exact absurd q nl
    ·cases q.2
   ·exact isfree x (.inl z)
   ·exact isfree x (.inr z)
  have eN := (hN i x e1).1 fr
  have hi : i < σ.length := by rw [I.len]; exact (List.getElem?_eq_some_iff.mp eN).1
  rw [List.getElem?_append_left hi] at e2
  obtain ⟨m, hm, hlk⟩ := I.loc
  have hkd := hfree _ (ofl x fr) rfl
  obtain ⟨u, r, l⟩ := hlk i x v eN e2 (.inr hkd)
  refine ⟨u, r, .inr ⟨?_, ?_⟩⟩
  ·rcases e3 with z | z | z
   ·rcases kinv x _ z with q | q
    ·exact absurd q nl
    ·cases q.2
   ·exact .inl z
   ·exact .inr z
  ·rcases l with l | ⟨_, c, ec, z⟩
   ·have : X.env.scope.names.lookup x = some .local := l.1
    rcases hkd with q | q <;> (dsimp only at q; rw [this] at q; cases q)
   ·obtain ⟨c', ec'⟩ := cl2 _ (ofl x fr) rfl
    have := cl1 _ _ ec'
    dsimp only at this ec'
    rw [ec] at this
    cases this
    obtain ⟨o, ho, hd⟩ := z
    exact ⟨c, ec', o, hk c o ho, hd⟩
 ·obtain ⟨v, o, ho, hd⟩ := I.cell x c (cl1 x c e)
  exact ⟨v, o, hk c o ho, hd⟩
 ·obtain ⟨e, n, ne, nf, d⟩ := I.pin p hp
  refine ⟨hk _ _ e, n, lt _ _ e, fun z => ?_, d⟩
  rcases List.mem_cons.mp (I.stkSub _ z) with q | q
  ·exact ne q
  ·exact nf q
 ·rw [List.length_append, List.length_replicate, I.len]
  exact hl.symm
section
variable {prog : Program} {w : World} {A : Around} {R : Result -> Shared -> Prop} {s : Shared}
end
end L2
namespace L2
open PySem PySem.Spec PyProof.Rows
abbrev nox : Value -> Shared -> Prop := fun _ _ => False
def zcr (prog : Program) (w : World) (A : Around) (tg : Expr) (ifs : List Expr) (env : Env) (it : Value) (code : Code) (W : (Shared -> Prop) -> Shared -> Prop) : Prop :=
 ∀ (R : Result -> Shared -> Prop) (I : Nat -> Shared -> Prop) (n : Nat) (s : Shared), I n s ->
  (∀ n s, I n s -> wpAny (model prog w) A (pyNext it) (fun r s₁ => match r with
   | none => R (.ok .next) s₁
   | some v => wpAny (model prog w) A (letOwnedTupleGo tg it v) (fun _ s₁' => wpAny (model prog w) A (assign tg env v) (fun _ s₂ =>
     wpAny (model prog w) A (forIn ifs true fun c r => if r = true then do let ok ← isTrue c env (eval c env); pure (ForInStep.yield ok) else pure (ForInStep.yield r)) (fun ok s₃ =>
      if ok = true then W (fun s₅ => ∃ m, m < n /\ I m s₅) s₃ else ∃ m, m < n /\ I m s₃) nox s₂) nox s₁') nox s₁) nox s) -> codeAny (model prog w) A code R s
section
variable {prog : Program} {w : World} {A : Around} {elt tg i : Expr} {ifs : List Expr} {gens : List Comprehension} {scope : Scope} {pos : Pos} {it acc : Value} {env : Env} {j : Nat}
theorem zeX (hg : gens[j]? = some ⟨tg, i, ifs, 0⟩) (hn : gens[j + 1]? = none) : zcr prog w A tg ifs env it (.compLoop (.ListComp elt gens scope pos) j it acc env)
  (fun Q s => wpAny (model prog w) A (eval elt env) (fun x s₄ => wpAny (model prog w) A (call (.builtin "list.append") [acc, x]) (fun _ s₅ => Q s₅) nox s₄) nox s) := by
 intro R I n s h turn
 refine codeAny_loop rfl I (fun n s hI => ?_) n h
 show wpAny _ A ((compTurn (.ListComp elt gens scope pos) j it acc env).onRaise (fun x => do noteFrame x env; theTreesLotGoes x)) _ _ s
 refine wpAny_noted ?_
 unfold compTurn
 dsimp only
 simp only [hg, hn]
 refine wpAny_bind (wpAny_standAt (wpAny_bind (wpAny_mono (turn n s hI) (fun r s₁ h₁ => ?_) fun _ _ h' => h'.elim)))
 cases r with
 | none => exact wpAny_pure h₁
 | some v =>
  refine wpAny_bind (wpAny_mono h₁ (fun _ s₁' h₁' => ?_) fun _ _ h' => h'.elim)
  refine wpAny_bind (wpAny_mono h₁' (fun _ s₂ h₂ => wpAny_bind (wpAny_mono h₂ (fun ok s₃ h₃ => ?_) fun _ _ h' => h'.elim)) fun _ _ h' => h'.elim)
  cases ok with
  | false => exact wpAny_pure ⟨rfl, h₃⟩
  | true => exact wpAny_bind (wpAny_bind (wpAny_mono h₃ (fun x s₄ h₄ => wpAny_bind (wpAny_mono h₄ (fun _ s₅ h₅ => wpAny_pure (wpAny_pure ⟨rfl, h₅⟩)) fun _ _ h' => h'.elim)) fun _ _ h' => h'.elim))
end
end L2
namespace DL
open PySem PySem.Spec L2
open PyProof.Rows hiding St
def zj9 : Option Sl -> Option Sl
 | some (.own _) => none
 | x => x
def za2 (ρ : DEnv) : DEnv := ρ.map zj9
theorem zeY {ρ : DEnv} {i : Nat} {d : D} (h : (za2 ρ)[i]? = some (some (.pub d))) : ρ[i]? = some (some (.pub d)) := by
 unfold za2 at h
 rw [List.getElem?_map] at h
 cases e : ρ[i]? with
 | none => rw [e] at h; cases h
 | some o =>
  rw [e] at h
  cases o with
  | none => cases h
  | some sl => cases sl with
   | pub d' => cases h; rfl
   | own ds => cases h
theorem za3 {ρ : DEnv} {i : Nat} {ds : List D} (h : (za2 ρ)[i]? = some (some (.own ds))) : False := by
 unfold za2 at h
 rw [List.getElem?_map] at h
 cases e : ρ[i]? with
 | none => rw [e] at h; cases h
 | some o =>
  rw [e] at h
  cases o with
  | none => cases h
  | some sl => cases sl with
   | pub d' => cases h
   | own ds => cases h
def zcs (s : D -> DEnv -> Option DEnv) (t : M Bool) (g : M D) : List D -> DEnv -> List D -> Option (List D)
 | [], _, es => some es
 | d :: r, ρ, es => match s d ρ with
  | none => none
  | some ρ1 => match t ρ1 with
   | .bad => none
   | .ok b ρ2 => if b = true then (match g ρ2 with
     | .bad => none
     | .ok e ρ3 => if es.length < 1000000 then zcs s t g r (za2 ρ3) (es ++ [e]) else none)
    else zcs s t g r (za2 ρ2) es
def zhH (f : M (List D)) (k : Nat) (s : D -> DEnv -> Option DEnv) (t : M Bool) (g : M D) : M (List D) := fun ρ => match f ρ with
 | .bad => .bad
 | .ok ds ρ1 => match zcs s t g ds (za2 ρ1 ++ List.replicate k none) [] with
  | none => .bad
  | some es => .ok es ρ1
def PIfs (X : Cx) (ifs : List Expr) (t : TT) : Prop :=
 ∀ (pins : List (Addr × Obj)) (s : Shared) (σ : St) (H : Hp) (Q : Bool -> Hp -> Prop), Inv X pins σ H s -> t σ H Q ->
  wpAny (model X.prog X.w) X.A (forIn ifs true fun c r => if r = true then do let ok ← isTrue c X.env (eval c X.env); pure (ForInStep.yield ok) else pure (ForInStep.yield r)) (TP X pins σ Q) X.xe s
section
variable {X : Cx} {B G0 : Hp}
theorem zhI : PIfs X [] (tBo X.K B G0 (zac true)) := fun pins s σ H Q I ⟨G, ρ, k, a⟩ => wpAny_tests_nil ⟨H, I, a true G H k (.refl _) rfl⟩
theorem zhJ {c : Expr} {t : M Bool} (h : PT X c (tBo X.K B G0 t)) : PIfs X [c] (tBo X.K B G0 t) := fun pins s σ H Q I q => wpAny_tests_one (h pins s σ H Q I q)
theorem EOk.rebase {K : PySem.W.Frag} {G H : Hp} {σ : St} {ρ : DEnv} (k : EOk K B G0 G H σ ρ) : EOk K H G G H σ (za2 ρ) where
 bh := .refl _
 gh := k.gh
 g0 := .refl _
 np := fun _ _ _ n => n
 len := by unfold za2; rw [List.length_map]; exact k.len
 pub := fun i d q => k.pub i d (zeY q)
 own := fun i ds q => (za3 q).elim
 sep := fun i j a ds es q => (za3 q).elim
theorem EOk.more {K : PySem.W.Frag} {G H : Hp} {σ : St} {ρ : DEnv} (k : EOk K H G G H σ (za2 ρ)) (n : Nat) : EOk K H G G H (σ ++ List.replicate n none) (za2 ρ ++ List.replicate n none) where
 bh := .refl _
 gh := k.gh
 g0 := .refl _
 np := fun _ _ _ n => n
 len := by rw [List.length_append, List.length_append, k.len, List.length_replicate, List.length_replicate]
 pub := fun i d q => by
  by_cases hi : i < (za2 ρ).length
  ·rw [List.getElem?_append_left hi] at q
   rw [List.getElem?_append_left (by rw [← k.len]; exact hi)]
   exact k.pub i d q
  ·rw [List.getElem?_append_right (Nat.le_of_not_lt hi), List.getElem?_replicate] at q
   split at q <;> cases q
 own := fun i ds q => by
  by_cases hi : i < (za2 ρ).length
  ·rw [List.getElem?_append_left hi] at q
   exact (za3 q).elim
  ·rw [List.getElem?_append_right (Nat.le_of_not_lt hi), List.getElem?_replicate] at q
   split at q <;> cases q
 sep := fun i j a ds es q => by
  by_cases hi : i < (za2 ρ).length
  ·rw [List.getElem?_append_left hi] at q
   exact (za3 q).elim
  ·rw [List.getElem?_append_right (Nat.le_of_not_lt hi), List.getElem?_replicate] at q
   split at q <;> cases q
theorem EOk.beside {K : PySem.W.Frag} {G H : Hp} {σ : St} {ρ : DEnv} {a : Addr} {o : HO} (k : EOk K B G0 G H σ ρ) (hg : G a = none) : EOk K (upd H a o) G G (upd H a o) σ (za2 ρ) where
 bh := .refl _
 gh := fun b u e => by rw [zak (fun z => by subst z; rw [hg] at e; cases e)]; exact k.gh b u e
 g0 := .refl _
 np := fun _ _ _ n => n
 len := k.rebase.len
 pub := k.rebase.pub
 own := fun i ds q => (za3 q).elim
 sep := fun i j a ds es q => (za3 q).elim
theorem lim1 : 1000000 <= sizeLine := lim
def zka : Option Sl -> Option Sl
 | some (.own ds) => some (.pub (.list ds))
 | x => x
def zbx (ρ : DEnv) : DEnv := ρ.map zka
theorem zeZ {ρ : DEnv} {i : Nat} {d : D} (h : (zbx ρ)[i]? = some (some (.pub d))) : ρ[i]? = some (some (.pub d)) ∨ ∃ ds, d = .list ds /\ ρ[i]? = some (some (.own ds)) := by
 unfold zbx at h
 rw [List.getElem?_map] at h
 cases e : ρ[i]? with
 | none => rw [e] at h; cases h
 | some o =>
  rw [e] at h
  cases o with
  | none => cases h
  | some sl => cases sl with
   | pub d' => cases h; exact .inl rfl
   | own ds => cases h; exact .inr ⟨ds, rfl, rfl⟩
theorem zcU {ρ : DEnv} {i : Nat} {ds : List D} (h : (zbx ρ)[i]? = some (some (.own ds))) : False := by
 unfold zbx at h
 rw [List.getElem?_map] at h
 cases e : ρ[i]? with
 | none => rw [e] at h; cases h
 | some o =>
  rw [e] at h
  cases o with
  | none => cases h
  | some sl => cases sl with
   | pub d' => cases h
   | own ds => cases h
def flat : D -> Bool
 | .none => true | .bool _ => true | .int _ => true | .str _ => true | _ => false
theorem Rep.flat {K : PySem.W.Frag} {G G' : Hp} {v : V} {d : D} (r : Rep K G v d) (h : DL.flat d = true) : Rep K G' v d := by
 cases r with
 | non => exact .non
 | bl b => exact .bl b
 | int i => exact .int i
 | str x => exact .str x
 | lst _ _ => cases h
 | tup _ _ => cases h
 | dic _ => cases h
 | exc _ _ _ _ => cases h
 | dct _ _ _ _ _ => cases h
theorem Reps.flat {K : PySem.W.Frag} {G G' : Hp} : ∀ {vs : List V} {ds : List D}, Reps K G vs ds -> ds.all DL.flat = true -> Reps K G' vs ds
 | _, _, .nil, _ => .nil
 | _, _, .cons r t, h => by
  rw [List.all_cons, Bool.and_eq_true] at h
  exact .cons (r.flat h.1) (Reps.flat t h.2)
theorem EOk.lend {K : PySem.W.Frag} {B G0 G H : Hp} {σ : St} {ρ : DEnv} {D : Addr} {o : HO} (k : EOk K B G0 G H σ ρ) (hD : H D = none) (n : Nat) : EOk K (upd H D o) H H (upd H D o) (σ ++ List.replicate n none) (zbx ρ ++ List.replicate n none) where
 bh := .refl _
 gh := zap hD
 g0 := .refl _
 np := fun _ _ _ n => n
 len := by unfold zbx; rw [List.length_append, List.length_append, List.length_map, k.len, List.length_replicate, List.length_replicate]
 pub := fun i d q => by
  have hl : (zbx ρ).length = ρ.length := by unfold zbx; rw [List.length_map]
  by_cases hi : i < (zbx ρ).length
  ·rw [List.getElem?_append_left hi] at q
   rw [List.getElem?_append_left (by rw [← k.len, ← hl]; exact hi)]
   rcases zeZ q with e | ⟨ds, rfl, e⟩
   ·obtain ⟨v, h1, h2⟩ := k.pub i d e
    exact ⟨v, h1, h2.mono k.gh⟩
   ·obtain ⟨a, vs, h1, h2, h3, h4, h5⟩ := k.own i ds e
    exact ⟨.ref a, h1, .lst (SqL.of h4) (h5.mono k.gh)⟩
  ·rw [List.getElem?_append_right (Nat.le_of_not_lt hi), List.getElem?_replicate] at q
   split at q <;> cases q
 own := fun i ds q => by
  by_cases hi : i < (zbx ρ).length
  ·rw [List.getElem?_append_left hi] at q
   exact (zcU q).elim
  ·rw [List.getElem?_append_right (Nat.le_of_not_lt hi), List.getElem?_replicate] at q
   split at q <;> cases q
 sep := fun i j a ds es q => by
  by_cases hi : i < (zbx ρ).length
  ·rw [List.getElem?_append_left hi] at q
   exact (zcU q).elim
  ·rw [List.getElem?_append_right (Nat.le_of_not_lt hi), List.getElem?_replicate] at q
   split at q <;> cases q
def ze0 (f : M (List D)) (k : Nat) (s : D -> DEnv -> Option DEnv) (t : M Bool) (g : M D) : M (List D) := fun ρ => match f ρ with
 | .bad => .bad
 | .ok ds ρ1 => match zcs s t g ds (zbx ρ1 ++ List.replicate k none) [] with
  | none => .bad
  | some es => if es.all flat = true then .ok es ρ1 else .bad
end
abbrev RdB := DEnv -> List D -> Option (List D × DEnv)
def rL (g : M D) : RdB := fun ρ es => match g ρ with
 | .bad => none
 | .ok e ρ3 => if es.length < 1000000 then some (es ++ [e], za2 ρ3) else none
def cT (s : D -> DEnv -> Option DEnv) (t : M Bool) (rd : RdB) : List D -> DEnv -> List D -> Option (List D × DEnv)
 | [], ρ, es => some (es, ρ)
 | d :: r, ρ, es => match s d ρ with
  | none => none
  | some ρ1 => match t ρ1 with
   | .bad => none
   | .ok b ρ2 => if b = true then (match rd ρ2 es with
     | none => none
     | some (es', ρ') => cT s t rd r ρ' es')
    else cT s t rd r (za2 ρ2) es
structure Left (Y : Cx) (D' : Addr) (pins : List (Addr × Obj)) (H G : Hp) (es' : List D) (ρ' : DEnv) (σ' : St) (H' G' : Hp) (vs' : List V) (s' : Shared) : Prop where
 inv : Inv Y pins σ' H' s'
 eok : EOk Y.K H' G' G' H' σ' ρ'
 hh : ∀ a o, a ≠ D' -> H a = some o -> H' a = some o
 gg : Same G G'
 np : ∀ a (u : MO), a ≠ D' -> H a = some u.ho -> G a = none -> G' a = none
 hd : H' D' = some (.lst vs')
 gd : G' D' = none
 rp : Reps Y.K G' vs' es'
def zhK (Y : Cx) (D' : Addr) (W : (Shared -> Prop) -> Shared -> Prop) (rd : RdB) : Prop :=
 ∀ (pins : List (Addr × Obj)) (sh : Shared) (σ : St) (B1 G1 H G : Hp) (ρ ρ' : DEnv) (vs : List V) (es es' : List D) (Q : Shared -> Prop),
  Inv Y pins σ H sh -> EOk Y.K B1 G1 G H σ ρ -> B1 D' = some (.lst vs) -> G1 D' = none -> Reps Y.K G1 vs es -> rd ρ es = some (es', ρ') ->
  (∀ σ' H' G' vs' s', Left Y D' pins B1 G1 es' ρ' σ' H' G' vs' s' -> Q s') -> W Q sh
section
variable {Y : Cx} {D' : Addr}
theorem ze1 {elt : Expr} {g : M D} (hx : Y.xe = nox) (he : ∀ B1 G1, PE Y elt (tD Y.K B1 G1 g)) :
  zhK Y D' (fun Q s => wpAny (model Y.prog Y.w) Y.A (eval elt Y.env) (fun x s₄ => wpAny (model Y.prog Y.w) Y.A (call (.builtin "list.append") [.ref D', x]) (fun _ s₅ => Q s₅) nox s₄) nox s) (rL g) := by
 intro pins sh σ B1 G1 H G ρ ρ' vs es es' Q I k hD gD r z fin
 unfold rL at z
 cases zg : g ρ with
 | bad => rw [zg] at z; cases z
 | ok e ρ4 =>
 rw [zg] at z
 dsimp only at z
 split at z
 ·rename_i hle
  cases z
  have h := he B1 G1 pins sh σ H (fun v H8 => ∃ G8, EOk Y.K B1 G1 G8 H8 σ ρ4 /\ Rep Y.K G8 v e) I ⟨G, ρ, k, by unfold aft; rw [zg]; exact fun v G8 H8 k8 _ q => ⟨G8, k8, q⟩⟩
  rw [hx] at h
  refine thn h fun ev s8 ⟨v, H8, I8, rv, G8, k8, r8⟩ => ?_
  have h2 := zcJ pins s8 σ H8 (.ref D') [v] (.ref D') [ev] (fun _ H9 => H9 = upd H8 D' (.lst (vs ++ [v]))) I8 rfl (.cons rv .nil) ⟨D', vs, v, rfl, rfl, k8.bh _ _ hD, by have := lim1; rw [r.length]; omega, rfl⟩
  rw [hx] at h2
  refine thn h2 fun _ s9 ⟨_, H9, I9, _, e9⟩ => ?_
  subst e9
  have g8 := k8.np _ (.l _) hD gD
  exact fin σ _ G8 _ s9 ⟨I9, k8.beside g8, fun a o z q => by rw [zak z]; exact k8.bh a o q, k8.g0, fun a o _ q w => k8.np a o q w, zai, g8, (r.mono k8.g0).append (.cons r8 .nil)⟩
 ·cases z
theorem zgc {tg : Expr} {ifs : List Expr} {code : Code} {W : (Shared -> Prop) -> Shared -> Prop} {s : D -> DEnv -> Option DEnv} {t : M Bool} {rd : RdB} {it : Addr} (hx : Y.xe = nox) (hc : Y.calm = true) (rule : zcr Y.prog Y.w Y.A tg ifs Y.env (.ref it) code W)
  (hg : ∀ B1 G1, PG Y tg (tG Y.K B1 G1 s)) (ht : ∀ B1 G1, PIfs Y ifs (tBo Y.K B1 G1 t)) (hb : zhK Y D' W rd)
  {pins : List (Addr × Obj)} {sh : Shared} {σ : St} {H G : Hp} {ρ ρF : DEnv} {fp : List Addr} {tn : Nat -> Heap -> Prop} {J : It} {ds es esF : List D} {vs : List V} {R : Result -> Shared -> Prop}
  (I : Inv Y pins σ H sh) (T : Turn Y.prog Y.w Y.K tg J fp it tn) (st : tn 0 sh.heap) (hf : ∀ b ∈ fp, FpOk Y pins H b)
  (k : EOk Y.K H G G H σ ρ) (its : zcq Y.K J ds G) (hD : H D' = some (.lst vs)) (gD : G D' = none) (r : Reps Y.K G vs es) (zl : cT s t rd ds ρ es = some (esF, ρF))
  (hfin : ∀ σ' H' G' vs' s', Left Y D' pins H G esF ρF σ' H' G' vs' s' -> R (.ok .next) s') : codeAny (model Y.prog Y.w) Y.A code R sh := by
 have stat : ∀ {H' : Hp}, (∀ b ∈ fp, H' b = none) -> ∀ b ∈ fp, FpOk Y pins H' b := fun hn b hb => ⟨hn b hb, (hf b hb).2⟩
 refine rule R (fun n s' => ∃ i σ' H' G' ρ' vs' es', n = ds.length - i /\ tn i s'.heap /\ (∀ b ∈ fp, H' b = none) /\ Left Y D' pins H G es' ρ' σ' H' G' vs' s' /\ cT s t rd (ds.drop i) ρ' es' = some (esF, ρF)) ds.length sh
  ⟨0, σ, H, G, ρ, vs, es, rfl, st, fun b hb => (hf b hb).1, ⟨I, k, fun _ _ _ q => q, .refl _, fun _ _ _ _ n => n, hD, gD, r⟩, by rw [List.drop_zero]; exact zl⟩ ?_
 rintro n s' ⟨i, σ', H', G', ρ', vs', es', rfl, tn', fr', ⟨I', k', sh', sg', np', hD', gD', r'⟩, zc⟩
 by_cases hlt : i < ds.length
 ·rw [List.drop_eq_getElem_cons hlt, cT] at zc
  cases zs : s ds[i] ρ' with
  | none => rw [zs] at zc; cases zc
  | some ρ2 =>
  rw [zs] at zc
  dsimp only at zc
  cases zt : t ρ2 with
  | bad => rw [zt] at zc; cases zc
  | ok b ρ3 =>
  rw [zt] at zc
  dsimp only at zc
  refine thn (T.item Y rfl rfl rfl hc i pins s' σ' H' nox I' (stat fr') tn' (its.go i G' H' sg' k'.gh hlt)) fun rr s4 ⟨u, hr, h4⟩ => ?_
  subst hr
  refine thn h4 fun _ s5 ⟨x, H5, I5, r5, y5, st5, fr5⟩ => ?_
  obtain ⟨G5, e5, rx⟩ := its.yld i G' H' x H5 ds[i] sg' k'.gh (List.getElem?_eq_getElem hlt) y5
  have h6 := hg H' G' _ s5 σ' H5 x u (fun σ6 H6 => ∃ G6, EOk Y.K H' G' G6 H6 σ6 ρ2) (I5.pinned (stat fr5) (T.obj _ _ st5)) r5 ⟨G5, ρ', ds[i], ρ2, k'.ext e5, rx, zs, fun σ6 G6 H6 k6 _ => ⟨G6, k6⟩⟩
  rw [hx] at h6
  refine thn h6 fun _ s6 ⟨σ6, H6, I6, G6, k6⟩ => ?_
  have h7 := ht H' G' _ s6 σ6 H6 (fun c H7 => c = b /\ ∃ G7, EOk Y.K H' G' G7 H7 σ6 ρ3) I6 ⟨G6, ρ2, k6, by unfold aft; rw [zt]; exact fun c G7 H7 k7 _ q => ⟨q, G7, k7⟩⟩
  rw [hx] at h7
  refine thn h7 fun ok s7 ⟨H7, I7, hb7, G7, k7⟩ => ?_
  subst hb7
  have again : ∀ {H9 : Hp} {σ9 : St} {s9 : Shared}, Inv Y (pins ++ zcB fp s5.heap) σ9 H9 s9 -> Inv Y pins σ9 H9 s9 /\ tn (i + 1) s9.heap /\ ∀ b ∈ fp, H9 b = none := fun {H9 σ9 s9} I9 => by
   refine ⟨I9.unpinned, T.keep _ _ _ st5 fun b hb o e => (I9.pin (b, o) (List.mem_append_right _ (List.mem_append_right _ (zbg hb e)))).1, fun b hb => ?_⟩
   obtain ⟨o, e, d⟩ := T.obj _ _ st5 b hb
   exact (I9.pin (b, o) (List.mem_append_right _ (List.mem_append_right _ (zbg hb e)))).2.1
  have lt : ds.length - (i + 1) < ds.length - i := Nat.sub_lt_sub_left hlt (Nat.lt_succ_self i)
  cases ok with
  | false =>
   rw [if_neg (by decide)] at zc ⊢
   obtain ⟨J1, J2, J3⟩ := again I7
   exact ⟨_, lt, i + 1, σ6, H7, G7, za2 ρ3, vs', es', rfl, J2, J3, ⟨J1, k7.rebase, fun a o z q => k7.bh a o (sh' a o z q), sg'.trans k7.g0, fun a o z q w => k7.np a o (sh' a _ z q) (np' a o z q w), k7.bh _ _ hD', k7.np _ (.l _) hD' gD', r'.mono k7.g0⟩, zc⟩
  | true =>
   rw [if_pos rfl] at zc ⊢
   cases ze : rd ρ3 es' with
   | none => rw [ze] at zc; cases zc
   | some pr =>
   obtain ⟨es1, ρ5⟩ := pr
   rw [ze] at zc
   refine hb _ s7 σ6 H' G' H7 G7 ρ3 ρ5 vs' es' es1 _ I7 k7 hD' gD' r' ze fun σ9 H9 G9 vs9 s9 L => ?_
   obtain ⟨J1, J2, J3⟩ := again L.inv
   exact ⟨_, lt, i + 1, σ9, H9, G9, ρ5, vs9, es1, rfl, J2, J3, ⟨J1, L.eok, fun a o z q => L.hh a o z (sh' a o z q), sg'.trans L.gg, fun a o z q w => L.np a o z (sh' a _ z q) (np' a o z q w), L.hd, L.gd, L.rp⟩, zc⟩
 ·rw [List.drop_eq_nil_of_le (Nat.le_of_not_lt hlt), cT] at zc
  cases zc
  refine thn (T.done Y rfl rfl rfl hc i pins s' σ' H' nox I' (stat fr') tn' (its.stop i G' H' sg' k'.gh (Nat.le_of_not_lt hlt))) fun rr s4 ⟨hr, I6⟩ => ?_
  subst hr
  exact hfin σ' H' G' vs' s4 ⟨I6, k', sh', sg', np', hD', gD', r'⟩
end
end DL
namespace DL
open PySem PySem.Spec L2
open PyProof.Rows hiding St
def zjc (Y : Cx) (e : Expr) (j : Nat) (tg : Expr) (ifs : List Expr) (rd : RdB) : Prop :=
 ∀ (D' : Addr) (it : Value), ∃ W, zcr Y.prog Y.w Y.A tg ifs Y.env it (.compLoop e j it (.ref D') Y.env) W /\ zhK Y D' W rd
section
variable {Y : Cx} {elt tg i : Expr} {ifs : List Expr} {gens : List Comprehension} {scope : Scope} {pos : Pos} {j : Nat}
theorem zcV {g : M D} (hx : Y.xe = nox) (hg : gens[j]? = some ⟨tg, i, ifs, 0⟩) (hn : gens[j + 1]? = none) (he : ∀ B1 G1, PE Y elt (tD Y.K B1 G1 g)) : zjc Y (.ListComp elt gens scope pos) j tg ifs (rL g) :=
 fun _ _ => ⟨_, zeX hg hn, ze1 hx he⟩
end
def envB (l : Bool) (ρ : DEnv) : DEnv := match l with | true => zbx ρ | false => za2 ρ
theorem entry {K : PySem.W.Frag} {B G0 G1 H2 : Hp} {σ : St} {ρ1 : DEnv} {D : Addr} (l : Bool) (k1 : EOk K B G0 G1 H2 σ ρ1) (hfr : H2 D = none) (n : Nat) :
  ∃ Gb, EOk K (upd H2 D (.lst [])) Gb Gb (upd H2 D (.lst [])) (σ ++ List.replicate n none) (envB l ρ1 ++ List.replicate n none) /\ Same G1 Gb /\ Gb D = none /\
   ∀ (G' H' : Hp) vs es, (l = true -> es.all flat = true) -> Same Gb G' -> Same H2 H' -> Same G' H' -> (∀ a (u : MO), H2 a = some u.ho -> Gb a = none -> G' a = none) -> G' D = none -> Reps K G' vs es -> ∃ Gf, Ext G1 H2 Gf H' /\ Gf D = none /\ Reps K Gf vs es := by
 have gD : G1 D = none := k1.gh.free hfr
 cases l with
 | false => exact ⟨G1, (k1.beside gD).more n, .refl _, gD, fun G' H' vs es _ g h gh np d r => ⟨G', ⟨h, g, gh, np⟩, d, r⟩⟩
 | true => exact ⟨H2, k1.lend hfr n, k1.gh, hfr, fun G' H' vs es fl _ h _ _ _ r => ⟨G1, ⟨h, .refl _, k1.gh.trans h, fun _ _ _ n => n⟩, gD, r.flat (fl rfl)⟩⟩
def dCG (l : Bool) (f : M (List D)) (k : Nat) (s : D -> DEnv -> Option DEnv) (t : M Bool) (rd : RdB) : M (List D) := fun ρ => match f ρ with
 | .bad => .bad
 | .ok ds ρ1 => match cT s t rd ds (envB l ρ1 ++ List.replicate k none) [] with
  | none => .bad
  | some (es, _) => if l = true -> es.all flat = true then .ok es ρ1 else .bad
theorem zhL {l : Bool} {f : M (List D)} {k : Nat} {s : D -> DEnv -> Option DEnv} {t : M Bool} {rd : RdB} {ρ ρ' : DEnv} {es : List D} (h : dCG l f k s t rd ρ = .ok es ρ') : ∃ ds ρF, f ρ = .ok ds ρ' /\ cT s t rd ds (envB l ρ' ++ List.replicate k none) [] = some (es, ρF) /\ (l = true -> es.all flat = true) := by
 unfold dCG at h
 cases zf : f ρ with
 | bad => rw [zf] at h; cases h
 | ok ds ρ1 =>
 rw [zf] at h
 dsimp only at h
 cases zl : cT s t rd ds (envB l ρ1 ++ List.replicate k none) [] with
 | none => rw [zl] at h; cases h
 | some pr =>
 obtain ⟨esF, ρF⟩ := pr
 rw [zl] at h
 dsimp only at h
 split at h
 ·rename_i hf
  cases h
  exact ⟨ds, ρF, rfl, zl, hf⟩
 ·cases h
section
variable {X : Cx} {B G0 : Hp} {KX : XW}
def PBlk (X : Cx) (N2 : List Str) (scope : Scope) (e tg : Expr) (ifs : List Expr) (s : D -> DEnv -> Option DEnv) (t : M Bool) (rd : RdB) : Prop :=
 ∀ (cl : List (Str × Addr)) (C : Addr) (s₀ : Shared) (H₀ : Hp) (ex : List Addr), (∀ B' G', PG (X.blk N2 scope cl C s₀ H₀ ex) tg (tG X.K B' G' s)) /\ (∀ B' G', PIfs (X.blk N2 scope cl C s₀ H₀ ex) ifs (tBo X.K B' G' t)) /\ zjc (X.blk N2 scope cl C s₀ H₀ ex) e 0 tg ifs rd
structure zgd (SC scope : Scope) (N1 N2 : List Str) (k : Nat) : Prop where
 b : zbw scope.names N1 N2 k = true
 kind : scope.kind = .function
 cell : ∀ y ∈ scope.names, y.2 ≠ .cell
 names : ∀ y ∈ scope.names, y.2 = .local -> scope.names.lookup y.1 = some .local
 free : ∀ y ∈ scope.names, y.2 = .free -> SC.names.lookup y.1 = some .cell ∨ SC.names.lookup y.1 = some .free
theorem zge {l : Bool} {tg elt iter : Expr} {ifs : List Expr} {gs : List Comprehension} {scope : Scope} {pos pos' : Pos} {N2 : List Str} {k : Nat} {f : M (List D)} {s : D -> DEnv -> Option DEnv} {t : M Bool} {rd : RdB} {use : Option (Value -> Sem Unit)} {Qc : Value -> Shared -> Prop} (hc : X.calm = true)
  (hi : PI X tg iter (iD X.K B G0 f)) (hblk : PBlk X N2 scope (.ListComp elt (⟨tg, iter, ifs, 0⟩ :: gs) scope pos) tg ifs s t rd) (hb : zgd X.env.scope scope X.N N2 k) (hs : ∀ x, foldedSetIterable iter X.env x = pure x)
  {pins : List (Addr × Obj)} {s0 : Shared} {σ : St} {G H : Hp} {ρ ρ1 ρF : DEnv} {ds esF : List D} (I : Inv X pins σ H s0) (k0 : EOk X.K B G0 G H σ ρ) (zf : f ρ = .ok ds ρ1) (zl : cT s t rd ds (envB l ρ1 ++ List.replicate k none) [] = some (esF, ρF)) (hfl : l = true -> esF.all flat = true)
  (hfin : ∀ (C D : Addr) (vs : List V) (G' H' : Hp) (s4 : Shared) (m : Str -> Option Value), Inv X pins σ H' s4 -> s4.heap.Ns C m -> H' C = none -> C ≠ X.env.locals -> X.s₀.heap.objs.size <= C -> (∀ x c, X.env.cells.lookup x = some c -> c ≠ C) -> (∀ p ∈ X.pn ++ pins, p.1 ≠ C) ->
   EOk X.K B G0 G' H' σ ρ1 -> Same G G' -> NewL X.K B G' H' σ ρ1 D vs esF -> compPost (model X.prog X.w) X.A X.xe use Qc (.ref D) C (.ok .next) s4) :
  wpAny (model X.prog X.w) X.A (comprehension (.ListComp elt (⟨tg, iter, ifs, 0⟩ :: gs) scope pos) scope X.env pos' (newList []) false (eval iter X.env) use) Qc X.xe s0 := by
 obtain ⟨cl, hcl, cl1, cl2⟩ := zef (scope := scope) (env := X.env) fun y hy hf => I.ok.has y.1 (hb.free y hy hf)
 refine wpAny_comprehension_free (use := use) rfl hs hcl hb.kind hb.names (thn (hi pins s0 σ H (fun J H1 => ∃ G1, EOk X.K B G0 G1 H1 σ ρ1 /\ Same G G1 /\ zcq X.K J ds G1) I ⟨G, ρ, k0, by rw [zf]; exact fun J G1 H1 k1 s1 it => ⟨G1, k1, s1, it⟩⟩) fun v s1 h1 => thn h1 fun itv s2 h2 => ?_)
 obtain ⟨it, fp, tn, J, H2, rfl, I2, T, st2, f2, G1, k1, sg1, its⟩ := h2
 refine wpAny_newObj_type (wpAny_newFunctionEnv hb.cell (by intro y hy; simp at hy) (fun h₁ hns₁ hsb₁ => ?_) hb.kind)
 dsimp only at hns₁ hsb₁ ⊢
 have hfr : H2 s2.heap.objs.size = none := I2.hok.fresh (Nat.le_refl _)
 have I3 : Inv X pins σ (upd H2 s2.heap.objs.size (.lst [])) { s2 with heap := s2.heap.push { cls := .type "list", dict := none, data := .seq ([] : List Value).toArray } } :=
  I2.laid (t' := s2.toks) (fun b u e => Heap.get?_push_of_some _ e) (Nat.le_refl _) ⟨Nat.zero_le _, [], 0, .nil, Heap.get?_push_size _ rfl⟩
 generalize hP : s2.heap.push { cls := .type "list", dict := none, data := .seq ([] : List Value).toArray } = P at I3 hns₁ hsb₁ ⊢
 have old : ∀ b o, s2.heap.get? b = some o -> P.get? b = some o := fun b o e => hP ▸ Heap.get?_push_of_some _ e
 have kept : ∀ b o, P.get? b = some o -> h₁.get? b = some o := fun b o e => hsb₁.extBut b o (Nat.ne_of_lt (Heap.lt_size e)) (Heap.get?_push_of_some _ e)
 have fpo : ∀ b ∈ fp, ∃ o, s2.heap.get? b = some o := fun b hb => let ⟨o, e, _⟩ := T.obj _ _ st2 b hb; ⟨o, e⟩
 have fpD : ∀ b ∈ fp, b ≠ s2.heap.objs.size := fun b hb => let ⟨o, e⟩ := fpo b hb; Nat.ne_of_lt (Heap.lt_size e)
 have f3 : ∀ b ∈ fp, FpOk X pins (upd H2 s2.heap.objs.size (.lst [])) b := fun b hb => ⟨by rw [zak (fpD b hb)]; exact (f2 b hb).1, (f2 b hb).2⟩
 have I4 := I3.enter (scope := scope) (cl := cl) (N2 := N2) (k := k) (fp := fp) (t' := s2.toks + ([] : List (Str × Value)).length) hb.b hb.kind hb.cell hb.free cl1 cl2 hns₁ kept f3 (fun b hb => let ⟨o, e⟩ := fpo b hb; ⟨o, old b o e⟩)
 dsimp only at I4
 obtain ⟨Gb, kb, sgb, gbD, ex⟩ := entry l k1 hfr k
 have sH : Same H2 (upd H2 s2.heap.objs.size (.lst [])) := zap hfr
 have hD3 : upd H2 s2.heap.objs.size (.lst []) s2.heap.objs.size = some (.lst []) := zai
 generalize upd H2 s2.heap.objs.size (.lst []) = H3 at I3 I4 f3 kb sH hD3
 generalize s2.heap.objs.size = D at *
 have tn0 : tn 0 h₁ := T.keep 0 _ _ st2 fun b hb o e => kept b o (old b o e)
 have stat : ∀ b ∈ fp, FpOk (X.blk N2 scope cl P.objs.size { s2 with heap := P } H3 fp) pins H3 b := fun b hb => by
  obtain ⟨z0, z1, z2, z3, z4, z5⟩ := f3 b hb
  obtain ⟨o, e⟩ := fpo b hb
  refine ⟨z0, Nat.ne_of_lt (Heap.lt_size (old b o e)), fun z => ?_, .inl hb, fun x c q => z4 x c (cl1 x c q), z5⟩
  rcases List.mem_cons.mp (I3.stkSub b z) with q | q
  ·exact z1 q
  ·exact z2 q
 have neD : ∀ a o, H2 a = some o -> a ≠ D := fun a o q z => by subst z; rw [hfr] at q; cases q
 obtain ⟨hg, ht, hcl'⟩ := hblk cl P.objs.size { s2 with heap := P } H3 fp
 obtain ⟨W, rule, body⟩ := hcl' D (.ref it)
 have loop := zgc (Y := X.blk N2 scope cl P.objs.size { s2 with heap := P } H3 fp) (D' := D) (R := compPost (model X.prog X.w) X.A X.xe use Qc (.ref D) P.objs.size) rfl hc rule hg ht body I4 T tn0 stat kb
  ⟨fun i G H s1 s2 hi => its.go i G H (sgb.trans s1) s2 hi, fun i G H s1 s2 hi => its.stop i G H (sgb.trans s1) s2 hi, fun i G H x H' d s1 s2 e y => its.yld i G H x H' d (sgb.trans s1) s2 e y⟩ hD3 gbD .nil zl fun σ' H' G' vs' s4 L => by
   obtain ⟨m, hm, _⟩ := id L.inv.loc
   have I7 : Inv X pins σ H' s4 := I3.call' (ch := fp) L.inv.os L.inv.base L.inv.hok L.inv.bare fun b hb => ⟨(f3 b hb).2.2.2.1, (f3 b hb).2.1, (f3 b hb).2.2.2.2.1, (f3 b hb).2.2.2.2.2⟩
   obtain ⟨Gf, eF, dF, rF⟩ := ex G' H' vs' esF hfl L.gg (fun a o q => L.hh a o (neD a o q) (sH a o q)) L.eok.gh (fun a o q z => L.np a o (neD a _ q) (sH a _ q) z) L.gd L.rp
   refine hfin P.objs.size D vs' Gf H' s4 m I7 hm L.inv.free (Nat.ne_of_gt I3.lt) I3.sz (fun x c e z => by obtain ⟨_, q⟩ := I3.cell x c e; exact absurd q.lt (by rw [z]; exact Nat.lt_irrefl _)) (fun p hp z => by have := Heap.lt_size (I3.pin p hp).1; exact absurd this (by rw [z]; exact Nat.lt_irrefl _))
    (k1.ext eF) (sg1.trans eF.g) ⟨k1.bh.free hfr, dF, L.hd, rF, fun j es' q z => ?_⟩
   obtain ⟨a', ws, h1', h2', h3', h4', h5'⟩ := k1.own j es' q
   rw [z] at h1'
   cases h1'
   rw [hfr] at h4'; cases h4'
 exact codeAny_compStart_list loop (T.self X.A 0 _ _ _ tn0 loop)
theorem zkb {l : Bool} {tg elt iter : Expr} {ifs : List Expr} {gs : List Comprehension} {scope : Scope} {pos : Pos} {N2 : List Str} {k : Nat} {f : M (List D)} {s : D -> DEnv -> Option DEnv} {t : M Bool} {rd : RdB} (hc : X.calm = true)
  (hi : PI X tg iter (iD X.K B G0 f)) (hblk : PBlk X N2 scope (.ListComp elt (⟨tg, iter, ifs, 0⟩ :: gs) scope pos) tg ifs s t rd) (hb : zgd X.env.scope scope X.N N2 k) (hs : ∀ x, foldedSetIterable iter X.env x = pure x := by intro _; rfl) :
  PE X (.ListComp elt (⟨tg, iter, ifs, 0⟩ :: gs) scope pos) (tL X.K B G0 (dCG l f k s t rd)) := by
 intro pins s0 σ H Q I ⟨G, ρ, k0, a⟩
 cases z : dCG l f k s t rd ρ with
 | bad => rw [z] at a; exact a.elim
 | ok es ρ1 =>
 rw [z] at a
 obtain ⟨ds, ρF, zf, zl, hfl⟩ := zhL z
 rw [eval_ListComp]
 refine zge hc hi hblk hb hs I k0 zf zl hfl fun C D vs G' H' s4 m I7 hm hC hL hz hcl hp k' s' n => ?_
 exact ⟨m, hm, fun h' sb => ⟨.ref D, H', I7.turned (t' := s4.toks) (it := C) (fun b o hb e => (sb.2 b hb).trans e) hC hL (.inr hz) hcl hp, rfl, a D vs G' H' k' s' n⟩⟩
theorem zkc {K : PySem.W.Frag} {f f' : M (List D)} (h : ∀ ρ es ρ', f ρ = .ok es ρ' -> f' ρ = .ok es ρ') {σ : St} {H : Hp} {Q : VK} (q : tL K B G0 f σ H Q) : tL K B G0 f' σ H Q := by
 obtain ⟨G, ρ, k, a⟩ := q
 refine ⟨G, ρ, k, ?_⟩
 cases z : f ρ with
 | bad => rw [z] at a; exact a.elim
 | ok es ρ' => rw [z] at a; rw [h ρ es ρ' z]; exact a
end
theorem zbM {s : D -> DEnv -> Option DEnv} {t : M Bool} {g : M D} : ∀ {ds : List D} {ρ : DEnv} {es esF : List D}, zcs s t g ds ρ es = some esF -> ∃ ρF, cT s t (rL g) ds ρ es = some (esF, ρF)
 | [], ρ, es, esF, h => by rw [zcs] at h; cases h; exact ⟨ρ, rfl⟩
 | d :: r, ρ, es, esF, h => by
  rw [zcs] at h
  rw [cT]
  cases zs : s d ρ with
  | none => rw [zs] at h; cases h
  | some ρ1 =>
  rw [zs] at h
  dsimp only at h ⊢
  cases zt : t ρ1 with
  | bad => rw [zt] at h; cases h
  | ok b ρ2 =>
  rw [zt] at h
  dsimp only at h ⊢
  cases b with
  | false => exact zbM (ds := r) h
  | true =>
   rw [if_pos rfl] at h ⊢
   unfold rL
   cases zg : g ρ2 with
   | bad => rw [zg] at h; cases h
   | ok e ρ3 =>
   rw [zg] at h
   dsimp only at h ⊢
   split at h
   ·rename_i hl
    rw [if_pos hl]
    exact zbM (ds := r) h
   ·cases h
theorem zgf {f : M (List D)} {k : Nat} {s : D -> DEnv -> Option DEnv} {t : M Bool} {g : M D} (ρ : DEnv) (es : List D) (ρ' : DEnv) (h : zhH f k s t g ρ = .ok es ρ') : dCG false f k s t (rL g) ρ = .ok es ρ' := by
 unfold zhH at h
 unfold dCG
 cases zf : f ρ with
 | bad => rw [zf] at h; cases h
 | ok ds ρ1 =>
 rw [zf] at h
 dsimp only [envB] at h ⊢
 cases zl : zcs s t g ds (za2 ρ1 ++ List.replicate k none) [] with
 | none => rw [zl] at h; cases h
 | some esF =>
 rw [zl] at h
 cases h
 obtain ⟨ρF, e⟩ := zbM zl
 rw [e]
 exact if_pos fun z => by cases z
theorem ze2 {f : M (List D)} {k : Nat} {s : D -> DEnv -> Option DEnv} {t : M Bool} {g : M D} (ρ : DEnv) (es : List D) (ρ' : DEnv) (h : ze0 f k s t g ρ = .ok es ρ') : dCG true f k s t (rL g) ρ = .ok es ρ' := by
 unfold ze0 at h
 unfold dCG
 cases zf : f ρ with
 | bad => rw [zf] at h; cases h
 | ok ds ρ1 =>
 rw [zf] at h
 dsimp only [envB] at h ⊢
 cases zl : zcs s t g ds (zbx ρ1 ++ List.replicate k none) [] with
 | none => rw [zl] at h; cases h
 | some esF =>
 rw [zl] at h
 dsimp only at h
 split at h
 ·rename_i hf
  cases h
  obtain ⟨ρF, e⟩ := zbM zl
  rw [e]
  exact if_pos fun _ => hf
 ·cases h
end DL
namespace DL
open PySem PySem.Spec L2
open PyProof.Rows hiding St
def zdH (q : Option NameKind -> Bool) (SC scope : Scope) (N1 N2 : List Str) (k : Nat) : Bool :=
 zbw scope.names N1 N2 k && decide (scope.kind = .function) && scope.names.all fun y => match y.2 with
  | .cell => false
  | .local => decide (scope.names.lookup y.1 = some .local)
  | .free => q (SC.names.lookup y.1)
  | _ => true
def zjd : Option NameKind -> Bool
 | some .cell => true | some .free => true | _ => false
theorem zeg {q : Option NameKind -> Bool} {SC SC' scope : Scope} {N1 N2 : List Str} {k : Nat} (h : zdH q SC scope N1 N2 k = true) (f : ∀ x, q (SC.names.lookup x) = true -> SC'.names.lookup x = some .cell ∨ SC'.names.lookup x = some .free) : zgd SC' scope N1 N2 k := by
 unfold zdH at h
 rw [Bool.and_eq_true, Bool.and_eq_true, List.all_eq_true] at h
 obtain ⟨⟨h1, h2⟩, h3⟩ := h
 refine ⟨h1, of_decide_eq_true h2, fun y hy e => ?_, fun y hy e => ?_, fun y hy e => ?_⟩
 ·have := h3 y hy; rw [e] at this; cases this
 ·have := h3 y hy; rw [e] at this; exact of_decide_eq_true this
 ·have := h3 y hy; rw [e] at this; exact f _ this
theorem zhM {SC scope : Scope} {N1 N2 : List Str} {k : Nat} (h : zdH zjd SC scope N1 N2 k = true) : zgd SC scope N1 N2 k := zeg h fun x e => by
 cases z : SC.names.lookup x with
 | none => rw [z] at e; cases e
 | some y => rw [z] at e; cases y <;> first | exact .inl rfl | exact .inr rfl | cases e
section
variable {X : Cx} {B G0 : Hp} {KX : XW}
theorem zje {l : Bool} {tg elt iter : Expr} {ifs : List Expr} {gs : List Comprehension} {scope : Scope} {pos : Pos} {f : M (List D)} {s : D -> DEnv -> Option DEnv} {t : M Bool} {rd : RdB} {F : M (List D)} (SC : Scope) (N1 N2 : List Str) (k : Nat) (le : ∀ ρ es ρ', F ρ = .ok es ρ' -> dCG l f k s t rd ρ = .ok es ρ') (hc : X.calm = true)
  (hi : PI X tg iter (iD X.K B G0 f)) (hblk : PBlk X N2 scope (.ListComp elt (⟨tg, iter, ifs, 0⟩ :: gs) scope pos) tg ifs s t rd) (h1 : X.env.scope = SC) (h2 : X.N = N1) (hb : zdH zjd SC scope N1 N2 k = true) (hs : ∀ x, foldedSetIterable iter X.env x = pure x := by intro _; rfl) :
  PE X (.ListComp elt (⟨tg, iter, ifs, 0⟩ :: gs) scope pos) (tL X.K B G0 F) :=
 peof (zkb hc hi hblk (by rw [h1, h2]; exact zhM hb) hs) fun _ _ _ q => zkc le q
end
end DL
namespace DL
open PySem PySem.Spec L2
open PyProof.Rows hiding St
section
variable {X : Cx} {B G0 : Hp} {e a b c tg : Expr} {pos : Pos} {es rest : List Expr}
theorem EOk.given {K : PySem.W.Frag} {G H : Hp} {σ : St} {ρ : DEnv} {a : Addr} {vs : List V} {ds : List D} (k : EOk K B G0 G H σ ρ) (n : NewL K B G H σ ρ a vs ds) : EOk K B G0 (upd G a (.lst vs)) H σ ρ where
 bh := k.bh
 gh := fun b u q => by
  by_cases z : b = a
  ·subst z; rw [zai] at q; cases q; exact n.h
  ·rw [zak z] at q; exact k.gh b u q
 g0 := k.g0.trans (zap n.g)
 np := fun b o q z => by
  have zb : b ≠ a := fun z => by subst z; rw [n.b] at q; cases q
  rw [zak zb]; exact k.np b o q z
 len := k.len
 pub := fun i d q => let ⟨v, h1, h2⟩ := k.pub i d q; ⟨v, h1, h2.mono (zap n.g)⟩
 own := fun i ds q => by
  obtain ⟨b, ws, h1, h2, h3, h4, h5⟩ := k.own i ds q
  have zb : b ≠ a := fun z => by subst z; exact n.f i ds q h1
  exact ⟨b, ws, h1, h2, by rw [zak zb]; exact h3, h4, h5.mono (zap n.g)⟩
 sep := k.sep
theorem ze3 {f : M (List D)} (h : PE X e (tL X.K B G0 f)) : PE X e (tD X.K B G0 (mMap PyData.list f)) :=
 peof h fun σ H Q ⟨G, ρ, k, a⟩ => by
  refine ⟨G, ρ, k, ?_⟩
  unfold mMap zaf at a
  cases z : f ρ with
  | bad => rw [z] at a; exact a.elim
  | ok ds ρ1 =>
   rw [z] at a
   intro ad vs G' H' k' s' n
   exact a (.ref ad) _ H' (k'.given n) (s'.trans (zap n.g)) (.lst (SqL.of zai) (n.r.mono (zap n.g)))
theorem zgg (hc : X.calm = true) : zcC X (.builtin "all") (fun xs H Q => ∃ l, ∃ bs : List Bool, xs = [.ref l] /\ SqL X.K H l (bs.map V.bl) /\ Q (.bl (bs.all id)) H) := by
 intro pins s σ H xs us Q I rx h
 obtain ⟨l, bs, rfl, hq, q⟩ := h
 obtain ⟨u, rfl, ru⟩ := rx.one
 cases ru
 obtain ⟨its, rv, p, hz⟩ := I.list hq
 have hl := p.isList
 have hlt : l < s.heap.objs.size := by obtain ⟨_, e, _⟩ := id hl; exact Heap.lt_size e
 have key : ∀ (i : Nat) v, its.toArray[i]? = some v -> ∃ t, bs[i]? = some t /\ v = .bool t := fun i v e => by
  have e : its[i]? = some v := by simpa using e
  have hi : i < bs.length := by
   have := (List.getElem?_eq_some_iff.mp e).1
   have h2 := rv.length
   rw [List.length_map] at h2
   omega
  obtain ⟨u, e2, r2⟩ := rv.get (i := i) (x := .bl bs[i]) (by rw [List.getElem?_map, List.getElem?_eq_getElem hi]; rfl)
  rw [e] at e2
  cases e2
  exact ⟨bs[i], List.getElem?_eq_getElem hi, r2⟩
 refine call_all_walk (wpAny_pyIter_list hl ?_)
 refine ⟨s.heap.objs.size, [s.heap.objs.size, l], [s.heap.objs.size], its.toArray.size, _, _, fun i => (bs[i]?).getD true, rfl, Walks.list (A := X.A.in1) (I.ok.hd hc) _ l (Nat.ne_of_lt hlt) its.toArray,
  ⟨⟨_, Heap.get?_push_size _ rfl, rfl, rfl⟩, hl.push _⟩, fun i v s' Q' E' hP hQ => ?_, fun h' tk hk => ?_⟩
 ·obtain ⟨b, e, rfl⟩ := key i v hP
  simp only [e, Option.getD_some] at hQ
  exact wpAny_truthy_bool hQ
 ·have hn : its.toArray.size = bs.length := by have := rv.length; rw [List.length_map] at this; simp; omega
  have e : ((List.range its.toArray.size).all fun i => (bs[i]?).getD true) = bs.all id := by
   rw [hn, Bool.eq_iff_iff, List.all_eq_true, List.all_eq_true]
   constructor
   ·intro h b hb
    obtain ⟨i, hi, e⟩ := List.getElem_of_mem hb
    have := h i (List.mem_range.mpr hi)
    simp only [List.getElem?_eq_getElem hi, Option.getD_some, e] at this
    exact this
   ·intro h i hi
    have hi' := List.mem_range.mp hi
    simp only [List.getElem?_eq_getElem hi', Option.getD_some]
    exact h _ (List.getElem_mem hi')
  rw [e]
  exact ⟨.bl (bs.all id), H, I.kept (t' := tk) fun b x e => hk b x (fun hm => by rw [List.mem_singleton.mp hm] at e; exact Nat.lt_irrefl _ (Heap.lt_size e)) (Heap.get?_push_of_some _ e), rfl, q⟩
def zbD : List D -> Option (List Bool)
 | [] => some []
 | .bool b :: r => (zbD r).map (b :: ·)
 | _ => none
theorem zbI {K : PySem.W.Frag} {G : Hp} : ∀ {vs : List V} {ds : List D} {bs : List Bool}, Reps K G vs ds -> zbD ds = some bs -> vs = bs.map V.bl
 | _, _, bs, .nil, e => by cases e; rfl
 | _, _, bs, .cons (d := d) r t, e => by
  cases d with
  | bool b =>
   unfold zbD at e
   cases z : zbD _ with
   | none => rw [z] at e; cases e
   | some cs =>
    rw [z] at e
    cases e
    rw [r.bl_inv, zbI t z]; rfl
  | _ => cases e
def oAll : List D -> Option D
 | [.list ds] => (zbD ds).map fun bs => .bool (bs.all id)
 | _ => none
theorem zkd (hc : X.calm = true) : zd9 X (.builtin "all") oAll := by
 refine ⟨_, zgg hc, fun vs G H ds d Q s r e k => ?_⟩
 unfold oAll at e
 split at e
 ·rename_i ds
  cases z : zbD ds with
  | none => rw [z] at e; cases e
  | some bs =>
   rw [z] at e
   cases e
   obtain ⟨v, rfl, q⟩ := r.one_inv
   obtain ⟨l, ws, rfl, h1, r1⟩ := q.lst_inv
   have hw := zbI r1 z
   subst hw
   exact ⟨l, bs, rfl, s.seq h1, k _ G H (.refl s) (.bl _)⟩
 ·cases e
def Its (x : Str) : It := ⟨fun i _ => i < x.cps.size, fun i H v H' => H' = H /\ ∃ c, x.cps[i]? = some c /\ v = .str ⟨#[c]⟩, fun i _ => x.cps.size <= i⟩
theorem zgh {P : Program} {w : World} {K : PySem.W.Frag} {tg : Expr} (x : Str) (t : Tok) (it : Addr) : Turn P w K tg (Its x) [it] it (fun i h => h.IsStrIter it (strIterType x) x t i) where
 mem := by simp
 obj := fun i h st b hb => by
  have e : b = it := by simpa using hb
  subst e
  obtain ⟨o, e, c, d⟩ := st
  exact ⟨o, e, fun v z => by rw [d] at z; cases z⟩
 keep := fun i h h' st k => by
  obtain ⟨o, e, c, d⟩ := st
  exact ⟨o, k it (by simp) o e, c, d⟩
 item := by
  intro X hP hw hK hc i pins s σ H E I hf st hg
  subst hP hw hK
  obtain ⟨f0, f1, f2, f3, f4, f5⟩ := hf it (by simp)
  have hx : x.cps[i]? = some x.cps[i] := Array.getElem?_eq_getElem hg
  have fin : ∀ h' tk (T : String), strIterType x = T -> h'.IsStrIter it T x t (i + 1) -> Heap.SameBut it s.heap h' -> ["enumerate", "zip", "dict_itemiterator", "dict_reverseitemiterator", "odict_iterator", "itertools.zip_longest", "itertools.pairwise"].contains T = false ->
    ∃ u, some (Value.str ⟨#[x.cps[i]]⟩ s.toks) = some u /\ wpAny (model X.prog X.w) X.A (letOwnedTupleGo tg (.ref it) u) (fun _ s2 => ∃ v H', Inv X pins σ H' s2 /\ RelV v u /\ (Its x).yld i H v H' /\ s2.heap.IsStrIter it (strIterType x) x t (i + 1) /\ ∀ b ∈ [it], H' b = none) E { s with heap := h', toks := tk } := by
   intro h' tk T eT st' sb hn
   have I1 : Inv X pins σ H { s with heap := h', toks := tk } := I.turned (t' := tk) (fun b o hb e => (sb.2 b hb).trans e) f0 f1 f3 f4 f5
   obtain ⟨o, e, c, d⟩ := id st'
   refine ⟨_, rfl, zfI (s := { s with heap := h', toks := tk }) e c d hn ⟨.str ⟨#[x.cps[i]]⟩, H, I1, ⟨_, rfl⟩, ⟨rfl, _, hx, rfl⟩, by rw [eT]; exact st', fun b hb => (hf b hb).1⟩⟩
  cases ha : x.cps.all (· < 128) with
  | true =>
   have eT : strIterType x = "str_ascii_iterator" := by simp [strIterType, ha]
   rw [eT] at st
   exact wpAny_pyNext_ascii_item st hx fun h' st' sb => fin h' _ _ eT st' sb (by decide)
  | false =>
   have eT : strIterType x = "str_iterator" := by simp [strIterType, ha]
   rw [eT] at st
   exact wpAny_pyNext_wide_item st hx fun h' st' sb => fin h' _ _ eT st' sb (by decide)
 done := by
  intro X hP hw hK hc i pins s σ H E I hf st hg
  subst hP hw hK
  obtain ⟨f0, f1, f2, f3, f4, f5⟩ := hf it (by simp)
  have hx : x.cps[i]? = none := Array.getElem?_eq_none hg
  cases ha : x.cps.all (· < 128) with
  | true =>
   have eT : strIterType x = "str_ascii_iterator" := by simp [strIterType, ha]
   rw [eT] at st
   exact wpAny_pyNext_ascii_end (I.ok.hd hc) st hx fun h' eb => ⟨rfl, I.turned (t' := s.toks) (fun b o hb e => eb b o hb e) f0 f1 f3 f4 f5⟩
  | false =>
   have eT : strIterType x = "str_iterator" := by simp [strIterType, ha]
   rw [eT] at st
   exact wpAny_pyNext_wide_end (I.ok.hd hc) st hx fun h' eb => ⟨rfl, I.turned (t' := s.toks) (fun b o hb e => eb b o hb e) f0 f1 f3 f4 f5⟩
 self := fun A i s Q E st h => by
  cases ha : x.cps.all (· < 128) with
  | true =>
   have eT : strIterType x = "str_ascii_iterator" := by simp [strIterType, ha]
   rw [eT] at st
   exact wpAny_pyIter_striter_ascii st h
  | false =>
   have eT : strIterType x = "str_iterator" := by simp [strIterType, ha]
   rw [eT] at st
   exact wpAny_pyIter_striter_wide st h
def iAny (K : PySem.W.Frag) (tl : TE) : TI := fun σ H R => tl σ H fun x H1 => (∃ a, x = .ref a /\ (∃ xs, SqL K H1 a xs) /\ R (Itl K a) H1) ∨ (∃ a, x = .ref a /\ (∃ xs, SqT K H1 a xs) /\ R (Itt K a) H1) ∨ ∃ z, x = .str z /\ R (Its z) H1
theorem zjf {l : Expr} {tl : TE} (hl : PE X l tl) : PI X tg l (iAny X.K tl) := by
 intro pins s σ H R I h
 refine thn (hl pins s σ H _ I h) fun v s1 ⟨x, H1, I1, r1, q1⟩ => ?_
 have fpOk : ∀ b ∈ [s1.heap.objs.size], FpOk X pins H1 b := fun b hb => by
  have e : b = s1.heap.objs.size := by simpa using hb
  subst e
  exact I1.fpOk (Nat.le_refl _) (I1.hok.fresh (Nat.le_refl _))
 rcases q1 with ⟨a, e, ⟨xs, hq⟩, q⟩ | ⟨a, e, ⟨xs, hq⟩, q⟩ | ⟨z, e, q⟩
 ·subst e
  cases r1
  obtain ⟨its, rv, p, hz⟩ := I1.list hq
  refine wpAny_pyIter_list p.isList ?_
  exact ⟨s1.heap.objs.size, [s1.heap.objs.size], _, _, H1, rfl, I1.kept (t' := s1.toks) fun b o e => Heap.get?_push_of_some _ e, zet a _, ⟨_, Heap.get?_push_size _ rfl, rfl, rfl⟩, fpOk, q⟩
 ·subst e
  cases r1
  obtain ⟨its, rv, p, hz⟩ := I1.tuple hq
  refine wpAny_pyIter_tuple p ?_
  exact ⟨s1.heap.objs.size, [s1.heap.objs.size], _, _, H1, rfl, I1.kept (t' := s1.toks) fun b o e => Heap.get?_push_of_some _ e, zdV a _, ⟨_, Heap.get?_push_size _ rfl, rfl, rfl⟩, fpOk, q⟩
 ·subst e
  obtain ⟨t, rfl⟩ := r1
  refine wpAny_pyIter_strU ?_
  exact ⟨s1.heap.objs.size, [s1.heap.objs.size], _, _, H1, rfl, I1.kept (t' := s1.toks) fun b o e => Heap.get?_push_of_some _ e, zgh z t _, ⟨_, Heap.get?_push_size _ rfl, rfl, rfl⟩, fpOk, q⟩
def zcW (z : Str) : List D := z.cps.toList.map fun c => .str ⟨#[c]⟩
def zhN : D -> Option (List D)
 | .list ds => some ds
 | .tuple ds => some ds
 | .str z => some (zcW z)
 | _ => none
theorem zdn {K : PySem.W.Frag} {G1 : Hp} {ad : Addr} {vs : List V} {ds : List D} (h : SqT K G1 ad vs) (r : Reps K G1 vs ds) : zcq K (Itt K ad) ds G1 where
 go := fun i G H s1 s2 hi => by
  have hi' : i < vs.length := by rw [r.length]; exact hi
  exact ⟨vs, vs[i], zbV (s1.trans s2) h, List.getElem?_eq_getElem hi'⟩
 stop := fun i G H s1 s2 hi => ⟨vs, zbV (s1.trans s2) h, by rw [r.length]; exact hi⟩
 yld := fun i G H x H' d s1 s2 e y => by
  obtain ⟨rfl, y⟩ := y
  obtain ⟨v, e1, r1⟩ := r.get e
  have := y vs (zbV (s1.trans s2) h)
  rw [e1] at this
  cases this
  exact ⟨G, .refl s2, r1.mono s1⟩
theorem ze4 {K : PySem.W.Frag} {G1 : Hp} {z : Str} : zcq K (Its z) (zcW z) G1 where
 go := fun i G H s1 s2 hi => by unfold zcW at hi; simpa [Its] using hi
 stop := fun i G H s1 s2 hi => by unfold zcW at hi; simpa [Its] using hi
 yld := fun i G H x H' d s1 s2 e y => by
  obtain ⟨rfl, c, hc, rfl⟩ := y
  unfold zcW at e
  rw [List.getElem?_map] at e
  have : z.cps.toList[i]? = some c := by simpa using hc
  rw [this] at e
  cases e
  exact ⟨G, .refl s2, .str _⟩
def zgR (f : M D) : M (List D) := zaf f fun x => mOpt (zhN x)
theorem zjg {f : M D} (h : PE X e (tD X.K B G0 f)) : PI X tg e (iD X.K B G0 (zgR f)) := piof (zjf h) fun σ H R q => tM.toI (R0 := Rep X.K) q fun v H' G' ρ' x k r a => by
 cases x with
 | list ds =>
  obtain ⟨ad, vs, rfl, h1, r1⟩ := r.lst_inv
  exact .inl ⟨ad, rfl, ⟨vs, k.gh.seq h1⟩, a _ G' H' k (.refl _) (zec h1 r1)⟩
 | tuple ds =>
  obtain ⟨ad, vs, rfl, h1, r1⟩ := r.tup_inv
  exact .inr (.inl ⟨ad, rfl, ⟨vs, zbV k.gh h1⟩, a _ G' H' k (.refl _) (zdn h1 r1)⟩)
 | str z =>
  have := r.str_inv
  subst this
  exact .inr (.inr ⟨z, rfl, a _ G' H' k (.refl _) ze4⟩)
 | _ => exact a.elim
theorem Inv.big {pins : List (Addr × Obj)} {σ : St} {H : Hp} {s : Shared} (I : Inv X pins σ H s) : sysModules < s.heap.objs.size := by
 have h : mainGlobals < s.heap.objs.size := (I.mod.glob.keeps I.bk).lt
 exact Nat.lt_trans (by decide) h
theorem zck {P : Program} {w : World} {H : Hp} (h : Heap) (hb : sysModules < h.objs.size) : zaR P w H (h.push { cls := .type "dict", data := .dict #[] }) h.objs.size (.dK []) :=
 ⟨Nat.zero_le _, beq_eq_false_iff_ne.mpr (Ne.symm (Nat.ne_of_lt hb)), [], .nil, Heap.DictOf.new h⟩
theorem zhO : PE X (.Dict [] [] pos) (fun σ H Q => ∀ d, H d = none -> Q (.ref d) (upd H d (.dK []))) := fun pins s σ H Q I h =>
 wpAny_Dict_empty ⟨.ref s.heap.objs.size, _, I.laid (a := s.heap.objs.size) (o := .dK []) (t' := s.toks) (fun _ _ q => Heap.get?_push_of_some _ q) (Nat.le_refl _) (zck s.heap (Inv.big I)), rfl, h _ (I.hok.fresh (Nat.le_refl _))⟩
theorem ze5 : PE X (.Dict [] [] pos) (tD X.K B G0 (zac (.dict []))) := peof zhO fun σ H Q ⟨G, ρ, k, a⟩ d hd => aft.done a k (Ext.new k.gh hd) (.dic zai)
def inS (i j : Str) : Bool := !(Builtin.Str.occurrences j i 0 j.length 1).isEmpty
def oInS : D -> D -> Option Bool
 | .str i, .str j => some (inS i j)
 | _, _ => none
theorem zke : OpB X (compareOp .In) oInS := ⟨_, zew, fun v u G H x y d Q s rx ry e k => by
 unfold oInS at e
 split at e
 ·cases e
  have := rx.str_inv; subst this
  have := ry.str_inv; subst this
  exact ⟨_, _, rfl, rfl, k⟩
 ·cases e⟩
theorem zkf {x : Str} {i : Int} (hg : Gl X x) (hm : ∃ t, X.mg x = some (.int i t)) (hd : (x == ("__debug__" : Str)) = false := by decide) : PE X (.Name x pos) (tD X.K B G0 (zac (.int i))) := by
 obtain ⟨t, hm⟩ := hm
 exact peof (zc9 (v := .int i) hg hm ⟨t, rfl⟩ hd) fun σ H Q ⟨G, ρ, k, a⟩ => aft.now a k (.int _)
theorem zkg {x : Str} {z : Str} (hg : Gl X x) (hm : ∃ t, X.mg x = some (.str z t)) (hd : (x == ("__debug__" : Str)) = false := by decide) : PE X (.Name x pos) (tD X.K B G0 (zac (.str z))) := by
 obtain ⟨t, hm⟩ := hm
 exact peof (zc9 (v := .str z) hg hm ⟨t, rfl⟩ hd) fun σ H Q ⟨G, ρ, k, a⟩ => aft.now a k (.str _)
end
end DL
namespace DL
open PySem PySem.Spec L2
open PyProof.Rows hiding St
section
variable {X : Cx} {B G0 : Hp} {KX : XW} {e o a b c tg i : Expr} {pos p2 : Pos} {es rest : List Expr} {te to ti : TE}
def cutS (z : Str) (lo hi : Option Int) : Str := if (Builtin.Str.strSliceIndices lo hi 1 z.length).length = z.length then z else ⟨((Builtin.Str.strSliceIndices lo hi 1 z.length).filterMap (z.cps[·]?)).toArray⟩
theorem zjh : SlR X (fun x lo hi H Q => ∃ z, x = .str z /\ (cutS z lo hi).length <= sizeLine /\ Q (.str (cutS z lo hi)) H) := by
 intro pins s σ H x v vl vu lo hi sl Q I rx hs pl pu h
 obtain ⟨z, rfl, hz, q⟩ := h
 obtain ⟨t, rfl⟩ := rx
 refine ⟨"str", _, F.slot_str_getitem.lookup, typeIs_str s z t, ?_⟩
 obtain ⟨l, el, e1⟩ : ∃ l : Option (Int × Tok), vl = partValue l /\ l.map (·.1) = lo := by
  cases pl with
  | none => exact ⟨none, rfl, rfl⟩
  | int k t' => exact ⟨some (k, t'), rfl, rfl⟩
 obtain ⟨u, eu, e2⟩ : ∃ u : Option (Int × Tok), vu = partValue u /\ u.map (·.1) = hi := by
  cases pu with
  | none => exact ⟨none, rfl, rfl⟩
  | int k t' => exact ⟨some (k, t'), rfl, rfl⟩
 subst el eu
 refine wpAny_getItem_str_slice (l := l) (u := u) (st := none) hs rfl ?_
 unfold sliceMade slicePicked
 rw [e1, e2]
 unfold cutS at hz q
 by_cases hw : (Builtin.Str.strSliceIndices lo hi 1 z.length).length = z.length
 ·rw [if_pos hw] at hz q
  rw [if_pos (by simp [hw])]
  exact ⟨.str z, H, I, ⟨t, rfl⟩, q⟩
 ·rw [if_neg hw] at hz q
  rw [if_neg (by simp [hw])]
  exact ⟨hz, .str _, H, I.tok _, ⟨_, rfl⟩, q⟩
end
end DL
namespace DL
open PySem PySem.Spec L2
open PyProof.Rows hiding St
section
variable {X : Cx} {B G0 : Hp} {KX : XW} {e o a b c tg i : Expr} {pos p2 : Pos} {es rest : List Expr} {te to ti : TE}
theorem pvb (i : Nat) {x : Str} {pos : Pos} {N' : List Str} {scope : Scope} {cl : List (Str × Addr)} {C : Addr} {s₀ : Shared} {H₀ : Hp} {ex : List Addr} (hN : N'[i]? = some x := by rfl)
  (h : scope.names.lookup x = some .local ∨ scope.names.lookup x = some .free := by first | exact .inl rfl | exact .inr rfl) (hd : (x == ("__debug__" : Str)) = false := by decide) (hcd : (x == ("__classdict__" : Str)) = false := by decide) :
  PE (X.blk N' scope cl C s₀ H₀ ex) (.Name x pos) (tVar i) := zgD hN (zhG h) hd hcd
def oSlA : D -> Option Int -> Option Int -> Option D
 | .list xs, lo, hi => some (.list (DL.cutD xs lo hi))
 | .str z, lo, hi => if (cutS z lo hi).length <= 1000000 then some (.str (cutS z lo hi)) else none
 | _, _, _ => none
def dSlA (f : M D) (lo hi : M (Option Int)) : M D := zaf f fun x => zaf lo fun l => zaf hi fun h => mOpt (oSlA x l h)
theorem zeh {lo hi : Option Expr} {f : M D} {l h : M (Option Int)} (he : PE X e (tD X.K B G0 f)) (hl : PO X lo (tOi X.K B G0 l)) (hu : PO X hi (tOi X.K B G0 h)) :
  PE X (.Subscript e (.Slice lo hi none p2) pos) (tD X.K B G0 (dSlA f l h)) :=
 peof (zfM (zhe.or zjh) he hl hu) fun σ H Q q => by
  refine tM.one (R := Rep X.K) q fun v H2 G ρ x k r a => ?_
  refine tM.nx (R := fun _ b c => b = c) k a fun l' H3 G3 ρ3 xl k3 s3 r3 a3 => ?_
  refine tM.nx (R := fun _ b c => b = c) k3 a3 fun h' H4 G4 ρ4 xh k4 s4 r4 a4 => ?_
  have r3 : l' = xl := r3
  have r4 : h' = xh := r4
  subst r3 r4
  unfold mOpt oSlA at a4
  cases x with
  | list xs =>
   obtain ⟨ad, vs, rfl, h1, r1⟩ := ((r.mono s3).mono s4).lst_inv
   exact .inl ⟨ad, vs, rfl, k4.gh.seq h1, fun p hp => aft.done a4 k4 (Ext.new k4.gh hp) (.lst (SqL.of zai) ((r1.cut l' h').mono (zap (k4.gh.free hp))))⟩
  | str z =>
   dsimp only at a4
   have := r.str_inv; subst this
   by_cases hc : (cutS z l' h').length <= 1000000
   ·rw [if_pos hc] at a4
    exact .inr ⟨z, rfl, Nat.le_trans hc lim, aft.now a4 k4 (.str _)⟩
   ·rw [if_neg hc] at a4; exact a4.elim
  | _ => exact a4.elim
end
end DL
namespace DL
open PySem PySem.Spec L2
open PyProof.Rows hiding St
section
variable {X : Cx} {B G0 : Hp} {e o a b c tg : Expr} {pos p2 : Pos} {es rest : List Expr} {te to ti : TE}
def zb7 {β : Type} (p : D -> D -> Option β) (i : Nat) (g : M D) : M β := fun ρ => match ρ[i]? with
 | some (some (.pub d)) => (zaf g fun y => mOpt (p d y)) ρ
 | some (some (.own _)) => (zaf g fun y => fun ρ' => match ρ'[i]? with | some (some (.own ds)) => mOpt (p (.list ds) y) ρ' | _ => .bad) ρ
 | _ => .bad
theorem zji {K : PySem.W.Frag} {σ : St} {H : Hp} {p : D -> D -> Option Bool} {r : R2} {i : Nat} {g : M D} {Q : Bool -> Hp -> Prop} {QV : VK} (hq : ∀ t H3, Q t H3 -> QV (.bl t) H3) (hr : ∀ v u G H x y d Q, Same G H -> Rep K G v x -> Rep K G u y -> p x y = some d -> Q (.bl d) H -> r v u H Q)
  (q : tBo K B G0 (zb7 p i g) σ H Q) : tVar i σ H fun x H1 => tD K B G0 g σ H1 fun y H2 => r x y H2 QV := by
 obtain ⟨G, ρ, k, a⟩ := q
 unfold zb7 at a
 cases q : ρ[i]? with
 | none => rw [q] at a; exact a.elim
 | some o =>
  cases o with
  | none => rw [q] at a; exact a.elim
  | some sl =>
   cases sl with
   | pub d =>
    rw [q] at a
    obtain ⟨v, h1, h2⟩ := k.pub i d q
    refine ⟨v, h1, G, ρ, k, ?_⟩
    dsimp only [zaf] at a
    cases z : g ρ with
    | bad => rw [z] at a; exact a.elim
    | ok y ρ1 =>
     rw [z] at a
     intro u G' H' k' s' r'
     obtain ⟨d', e', a'⟩ := aft.opt a
     exact hr v u G' H' d y d' _ k'.gh (h2.mono s') r' e' (hq _ _ (a' d' G' H' k' s' rfl))
   | own ds =>
    rw [q] at a
    obtain ⟨ad, vs, h1, h2, h3, h4, h5⟩ := k.own i ds q
    refine ⟨.ref ad, h1, G, ρ, k, ?_⟩
    dsimp only [zaf] at a
    cases z : g ρ with
    | bad => rw [z] at a; exact a.elim
    | ok y ρ1 =>
     rw [z] at a
     dsimp only at a
     intro u G' H' k' s' r'
     cases q1 : ρ1[i]? with
     | none => rw [q1] at a; exact a.elim
     | some oo =>
      cases oo with
      | none => rw [q1] at a; exact a.elim
      | some sl1 =>
       cases sl1 with
       | pub d1 => rw [q1] at a; exact a.elim
       | own ds1 =>
        rw [q1] at a
        dsimp only at a
        obtain ⟨ad', ws, g1, g2, g3, g4, g5⟩ := k'.own i ds1 q1
        rw [h1] at g1
        cases g1
        obtain ⟨d', e', a'⟩ := aft.opt a
        have sg : Same G' (upd G' ad (.lst ws)) := zap g3
        have sh : Same (upd G' ad (.lst ws)) H' := fun b o q => by
         by_cases z : b = ad
         ·subst z; rw [zai] at q; cases q; exact g4
         ·rw [zak z] at q; exact k'.gh b o q
        exact hr (.ref ad) u _ H' (.list ds1) y d' _ sh (.lst (SqL.of zai) (g5.mono sg)) (r'.mono sg) e' (hq _ _ (a' d' G' H' k' s' rfl))
theorem ze6 {op : CmpOp} {p : D -> D -> Option Bool} {i : Nat} {g : M D} (o : OpB X (compareOp op) p) (ha : PE X a (tVar i)) (hb : PE X b (tD X.K B G0 g)) (hm : behindInMarks op b = false) :
  PT X (.Compare a [op] [b] pos) (tBo X.K B G0 (zb7 p i g)) := by
 obtain ⟨r, h, j⟩ := o
 exact ptof (zda h ha hb hm) fun σ H Q q => zji (fun t H3 z => ⟨t, rfl, z⟩) j q
theorem ze7 {op : CmpOp} {p : D -> D -> Option Bool} {i : Nat} {g : M D} (o : OpB X (compareOp op) p) (ha : PE X a (tVar i)) (hb : PE X b (tD X.K B G0 g)) (hm : behindInMarks op b = false) :
  PE X (.Compare a [op] [b] pos) (tD X.K B G0 (mMap PyData.bool (zb7 p i g))) := by
 obtain ⟨r, h, j⟩ := o
 exact peof (zex h ha hb hm) fun σ H Q q => zji (fun t H3 z => z) j (tBo.val q)
end
end DL
namespace L2
open PySem PySem.Spec PyProof.Rows
section
variable {X : Cx}
end
end L2
namespace DL
open PySem PySem.Spec L2
open PyProof.Rows hiding St
section
variable {X : Cx} {B G0 : Hp} {e a b c tg : Expr} {pos : Pos} {es rest : List Expr}
end
end DL
namespace DL
open PySem PySem.Spec L2
open PyProof.Rows hiding St
section
variable {X : Cx} {B G0 : Hp} {e o a b c tg : Expr} {pos p2 p3 : Pos} {es rest : List Expr} {te to ti : TE}
def oIn : D -> D -> Option Bool
 | .str i, .str j => some (inS i j)
 | x, .list xs => if x.canLay0 = true /\ PyData.canLayAll0 xs = true /\ x.depth <= 60 then some (xs.any fun y => PyData.eqv y x) else none
 | x, .tuple xs => if x.canLay0 = true /\ PyData.canLayAll0 xs = true /\ x.depth <= 60 then some (xs.any fun y => PyData.eqv y x) else none
 | _, _ => none
def oInQ (x y : D) : Option Bool := match y with
 | .list xs => if x.canLay0 = true /\ PyData.canLayAll0 xs = true /\ x.depth <= 60 then some (xs.any fun y => PyData.eqv y x) else none
 | .tuple xs => if x.canLay0 = true /\ PyData.canLayAll0 xs = true /\ x.depth <= 60 then some (xs.any fun y => PyData.eqv y x) else none
 | _ => none
theorem zkh (hu : X.A.units + 64 < cLine) : OpB X (compareOp .In) oInQ := by
 refine ⟨fun v u H Q => ∃ G x y d, Same G H /\ Rep X.K G v x /\ Rep X.K G u y /\ oInQ x y = some d /\ Q (.bl d) H, ?_, fun v u G H x y d Q s rx ry e k => ⟨G, x, y, d, s, rx, ry, e, k⟩⟩
 intro pins s σ H x y v u Q I rx ry ⟨G, dx, dy, d, sg, px, py, e, q⟩
 unfold oInQ at e
 split at e
 ·split at e
  ·rename_i c
   cases e
   obtain ⟨as, ra⟩ := zaK I sg px rx c.1
   obtain ⟨bs, rb⟩ := zaK I sg py ry (show PyData.canLayAll0 _ = true from c.2.1)
   exact SeqAt.in_list_reads rb ra c.2.1 c.1 (by have := c.2.2; omega) ⟨.bl _, H, I, rfl, q⟩
  ·cases e
 ·split at e
  ·rename_i c
   cases e
   obtain ⟨as, ra⟩ := zaK I sg px rx c.1
   obtain ⟨bs, rb⟩ := zaK I sg py ry (show PyData.canLayAll0 _ = true from c.2.1)
   exact SeqAt.in_tuple_reads rb ra c.2.1 c.1 (by have := c.2.2; omega) ⟨.bl _, H, I, rfl, q⟩
  ·cases e
 ·cases e
theorem B_in (hu : X.A.units + 64 < cLine) : OpB X (compareOp .In) oIn := (zke.or (zkh hu)).congr fun x y => by
 cases x <;> cases y <;> rfl
end
end DL
namespace DL
open PySem PySem.Spec L2
open PyProof.Rows hiding St
section
variable {X : Cx} {B G0 : Hp} {e o a b c tg : Expr} {pos p2 p3 p4 : Pos} {es rest : List Expr} {te to ti : TE}
end
end DL
namespace L2
open PySem PySem.Spec PyProof.Rows
section
variable {X : Cx} {tg : Expr}
end
end L2
namespace DL
open PySem PySem.Spec L2
open PyProof.Rows hiding St
section
variable {X : Cx} {B G0 : Hp} {e a b c tg : Expr} {pos : Pos} {es rest : List Expr}
end
end DL
namespace L2
open PySem PySem.Spec PyProof.Rows
section
variable {prog : Program} {w : World} {A : Around} {E : Value -> Shared -> Prop} {s : Shared} {M : Model} {env : Env}
end
end L2
namespace L2
open PySem PySem.Spec PyProof.Rows
section
variable {prog : Program} {w : World} {A : Around} {E : Value -> Shared -> Prop} {s : Shared}
end
end L2
namespace L2
open PySem PySem.Spec PyProof.Rows
section
variable {X : Cx}
end
end L2
namespace DL
open PySem PySem.Spec L2
open PyProof.Rows hiding St
section
variable {X : Cx} {B G0 : Hp} {e a b c tg : Expr} {pos : Pos} {es rest : List Expr}
end
end DL
namespace DL
open PySem PySem.Spec L2
open PyProof.Rows hiding St
section
variable {X : Cx}
end
end DL
namespace DL
open PySem PySem.Spec L2
open PyProof.Rows hiding St
section
variable {X : Cx} {B G0 : Hp} {e o : Expr} {es : List Expr}
end
end DL
namespace DL
open PySem PySem.Spec L2
open PyProof.Rows hiding St
section
variable {prog : Program} {w : World} {A : Around} {R : Result -> Shared -> Prop} {h0 : Heap} {l I S : Addr} {rs : List (Addr × List Value)}
end
section
variable {prog : Program} {w : World} {A : Around} {E : Value -> Shared -> Prop} {s : Shared} {l z : Addr} {rs : List (Addr × List Value)}
end
end DL
namespace DL
open PySem PySem.Spec L2
open PyProof.Rows hiding St
section
variable {X : Cx} {pins : List (Addr × Obj)} {σ : St} {H : Hp} {s : Shared}
end
end DL
namespace DL
open PySem PySem.Spec L2
open PyProof.Rows hiding St
section
variable {X : Cx}
end
end DL
namespace DL
open PySem PySem.Spec L2
open PyProof.Rows hiding St
@[simp] theorem mBind_ok {α β : Type} {f : M α} {k : α -> M β} {ρ ρ' : DEnv} {x : α} (h : f ρ = .ok x ρ') : zaf f k ρ = k x ρ' := by unfold zaf; rw [h]
theorem zcX {s : D -> DEnv -> Option DEnv} {g : SM} {P : Nat -> DEnv -> Prop} {R : Out -> Prop} : ∀ (ds : List D) (n : Nat) (ρ : DEnv), P n ρ ->
  (∀ i d ρ, ds[i]? = some d -> P (n + i) ρ -> ∃ ρ1, s d ρ = some ρ1 /\ ((∃ ρ2, (g ρ1 = .nx ρ2 ∨ g ρ1 = .ct ρ2) /\ P (n + i + 1) ρ2) ∨ (∃ x, g ρ1 = .rt x /\ R (.rt x)) ∨ (∃ ρ2, g ρ1 = .bk ρ2 /\ R (.nx ρ2)) ∨ ∃ ρ2 x, g ρ1 = .ex ρ2 x /\ R (.ex ρ2 x))) -> (∀ ρ, P (n + ds.length) ρ -> R (.nx ρ)) -> R (zcS s g ds ρ)
 | [], n, ρ, h, _, f => f ρ h
 | d :: r, n, ρ, h, st, f => by
  obtain ⟨ρ1, e1, e2⟩ := st 0 d ρ rfl h
  rw [zcS, e1]
  dsimp only
  rcases e2 with ⟨ρ2, e2, h2⟩ | ⟨x, e2, h2⟩ | ⟨ρ2, e2, h2⟩ | ⟨ρ2, x, e2, h2⟩
  ·have goal := zcX (R := R) r (n + 1) ρ2 h2 (fun i d' ρ3 q p => by
    have e : n + 1 + i = n + (i + 1) := by omega
    rw [e] at p ⊢
    exact st (i + 1) d' ρ3 (by simpa using q) p) (fun ρ3 p => f ρ3 (by
    have e : n + 1 + r.length = n + (d :: r).length := by rw [List.length_cons]; omega
    rw [e] at p
    exact p))
   rcases e2 with e2 | e2 <;> (rw [e2]; exact goal)
  ·rw [e2]; exact h2
  ·rw [e2]; exact h2
  ·rw [e2]; exact h2
theorem zei {lo hi : Int} {i : Nat} {d : D} (h : (zba lo hi)[i]? = some d) : d = .int (lo + i) /\ (i : Int) < hi - lo := by
 have hl : i < (zba lo hi).length := (List.getElem?_eq_some_iff.mp h).1
 rw [zaP] at hl
 unfold zba at h
 rw [List.getElem?_map, List.getElem?_eq_getElem (by rw [List.length_range]; exact hl), List.getElem_range] at h
 cases h
 exact ⟨rfl, by omega⟩
theorem ze8 {α : Type} {xs : List α} {i : Int} {v : α} (h0 : 0 <= i) (h : xs[i.toNat]? = some v) : atI xs i = some v := by
 have := zeC (xs := xs) (j := i.toNat) h
 rw [Int.toNat_of_nonneg h0] at this
 exact this
end DL
namespace DL
open PySem PySem.Spec L2
open PyProof.Rows hiding St
section
variable {α β : Type} {ρ ρ1 ρ2 ρ3 ρ' : DEnv} {f g h : M D}
theorem zaj {a : α} : zac a ρ = .ok a ρ := rfl
theorem zax : mNil ρ = .ok [] ρ := rfl
theorem zbc {o : Option α} {a : α} (h : o = some a) : mOpt o ρ = .ok a ρ := by subst h; rfl
theorem zas {f : M α} {k : α -> M β} {x : α} {r : Res β} (h : f ρ = .ok x ρ1) (h2 : k x ρ1 = r) : zaf f k ρ = r := by unfold zaf; rw [h]; exact h2
theorem zgS {f : M α} {k : α -> β} {x : α} (h : f ρ = .ok x ρ1) : mMap k f ρ = .ok (k x) ρ1 := by unfold mMap zaf; rw [h]; rfl
theorem za5 {i : Nat} {d : D} (h : ρ[i]? = some (some (.pub d))) : dVar i ρ = .ok d ρ := by unfold dVar; rw [h]
theorem zdo {i : Nat} {ds : List D} (h : ρ[i]? = some (some (.own ds))) (h2 : ρ.set i (some (.pub (.list ds))) = ρ') : dVar i ρ = .ok (.list ds) ρ' := by unfold dVar; rw [h]; subst h2; rfl
theorem za6 {op : D -> D -> Option β} {x y : D} {r : β} (h1 : f ρ = .ok x ρ1) (h2 : g ρ1 = .ok y ρ2) (h3 : op x y = some r) : dBin op f g ρ = .ok r ρ2 := by
 unfold dBin; exact zas h1 (zas h2 (zbc h3))
theorem zae {g : M (List D)} {x : D} {xs : List D} (h1 : f ρ = .ok x ρ1) (h2 : g ρ1 = .ok xs ρ2) : zad f g ρ = .ok (x :: xs) ρ2 := by
 unfold zad; exact zas h1 (zas h2 rfl)
theorem zbd {g : M (List D)} {xs : List D} (h1 : g ρ = .ok xs ρ1) (h2 : xs.length <= 1000000) : mTup g ρ = .ok (.tuple xs) ρ1 := by
 unfold mTup; exact zas h1 (by rw [if_pos h2]; rfl)
theorem zby {g : M (List D)} {xs : List D} (h1 : g ρ = .ok xs ρ1) (h2 : xs.length <= 1000000) : mLst g ρ = .ok (.list xs) ρ1 := by
 unfold mLst; exact zas h1 (by rw [if_pos h2]; rfl)
theorem zct {g : M (List D)} {xs : List D} (h1 : g ρ = .ok xs ρ1) (h2 : xs.length <= 1000000) : (zaf g fun xs => if xs.length <= 1000000 then zac xs else fun _ => .bad) ρ = .ok xs ρ1 :=
 zas h1 (by rw [if_pos h2]; rfl)
theorem zcu {i : Nat} {d y r : D} (h : ρ[i]? = some (some (.pub d))) (h1 : g ρ = .ok y ρ1) (h2 : oIx d y = some r) : dIxN i g ρ = .ok r ρ1 := by
 unfold dIxN; rw [h]; exact zas h1 (zbc h2)
theorem zgT {i : Nat} {ds es : List D} {y r : D} (h : ρ[i]? = some (some (.own ds))) (h1 : g ρ = .ok y ρ1) (h3 : ρ1[i]? = some (some (.own es))) (h2 : oIx (.list es) y = some r) : dIxN i g ρ = .ok r ρ1 := by
 unfold dIxN; rw [h]; exact zas h1 (by rw [h3]; exact zbc h2)
theorem zhP {p : List D -> Option D} {g : M (List D)} {xs : List D} {r : D} (h1 : g ρ = .ok xs ρ1) (h2 : p xs = some r) : zdl p g ρ = .ok r ρ1 := by
 unfold zdl; exact zas h1 (zbc h2)
theorem zcY {n : Nat} {F : List D -> Option D} {g : M (List D)} {xs : List D} {r : D} (h1 : g ρ = .ok xs ρ1) (h2 : xs.length = n) (h3 : F xs = some r) : dFun n F g ρ = .ok r ρ1 := by
 unfold dFun; exact zas h1 (by rw [if_pos h2]; exact zbc h3)
theorem zjj {i : Int} (h1 : f ρ = .ok (.int i) ρ1) : dNeg f ρ = .ok (.int (-i)) ρ1 := by
 unfold dNeg; exact zas h1 rfl
theorem zhQ {i : Nat} {d r : D} (h : ρ[i]? = some (some (.pub d))) (h2 : oLen [d] = some r) : zeb i ρ = .ok r ρ := by
 unfold zeb; rw [h]; exact zbc h2
theorem zhR {g : M (List D)} {i : Int} {r : List D} (h1 : g ρ = .ok [.int i] ρ1) (h2 : zed [.int i] = some r) : zeU g ρ = .ok r ρ1 := by
 unfold zeU; exact zas h1 (zbc h2)
theorem ze9 {g : M (List D)} {xs r : List D} (h1 : g ρ = .ok xs ρ1) (h2 : zeV xs = some r) : zga g ρ = .ok r ρ1 := by
 unfold zga; exact zas h1 (zbc h2)
theorem zfa {i : Int} (h1 : f ρ = .ok (.int i) ρ1) : (zaf f fun x => mOpt (zhz x)) ρ = .ok (some i) ρ1 := zas h1 rfl
theorem zdI {f : M Bool} {t : Bool} (h1 : f ρ = .ok t ρ1) : mNot f ρ = .ok (!t) ρ1 := zgS h1
theorem zbN {t : Bool} (h1 : f ρ = .ok (.bool t) ρ1) : za0 f ρ = .ok t ρ1 := by unfold za0; exact zas h1 rfl
theorem zjk {f g : M Bool} {t u : Bool} (h1 : f ρ = .ok t ρ) (h2 : t = true -> g ρ = .ok u ρ) : mAnd f g ρ = .ok (t && u) ρ := by
 unfold mAnd; refine zas h1 ?_
 cases t with
 | true => rw [if_pos rfl]; exact h2 rfl
 | false => rfl
theorem zfb {i j : Int} : oAdd (.int i) (.int j) = some (.int (i + j)) := rfl
theorem zcv {x y : List D} (h : x.length + y.length <= 1000000) : oAdd (.list x) (.list y) = some (.list (x ++ y)) := by unfold oAdd; exact if_pos h
theorem zdp {i j : Int} : oSub (.int i) (.int j) = some (.int (i - j)) := rfl
theorem zgi {i j : Int} (h1 : -18446744073709551616 < i) (h2 : i < 18446744073709551616) : oMul (.int i) (.int j) = some (.int (i * j)) := by unfold oMul gMul; exact if_pos (.inl ⟨by omega, by omega⟩)
theorem zgj {i j : Int} (h1 : -18446744073709551616 < j) (h2 : j < 18446744073709551616) : oMul (.int i) (.int j) = some (.int (i * j)) := by unfold oMul gMul; exact if_pos (.inr ⟨by omega, by omega⟩)
theorem zcw {i j : Int} (h : 0 < j) : oMod (.int i) (.int j) = some (.int (i % j)) := by unfold oMod gMod; exact if_pos h
theorem zhS {i j : Int} (h : 0 < j) (h2 : j < 18446744073709551616) : oDiv (.int i) (.int j) = some (.int (i / j)) := by unfold oDiv gDiv; exact if_pos ⟨h, h2⟩
theorem zhT {i j : Int} (h : 0 <= j /\ j <= 1000000 /\ i.natAbs < 2 ^ 64) : oPow (.int i) (.int j) = some (.int (i ^ j.toNat)) := by unfold oPow gPow; exact if_pos h
theorem zjl {p : Int -> Int -> Bool} {i j : Int} : oIB p (.int i) (.int j) = some (p i j) := rfl
theorem zgk {xs : List D} : oLen [.list xs] = some (.int xs.length) := rfl
theorem zhU {i j : Int} : zf8 [.int i, .int j] = some (.int (if j > i then j else i)) := rfl
theorem zgl {j : Int} (h1 : j <= 1000000) (h2 : -1000000 <= j) : zed [.int j] = some (zba 0 j) := by unfold zed; exact if_pos ⟨h1, h2⟩
theorem zdJ {xs : List D} : zeV [.list xs] = some (zbZ 0 xs) := rfl
theorem zcZ {i : Nat} {d : D} (h1 : f ρ = .ok d ρ1) (h2 : i < ρ1.length) (h3 : ρ1.set i (some (.pub d)) = ρ') : sSet i f ρ = .nx ρ' := by
 unfold sSet sAsg sB gN; rw [h1]; dsimp only; rw [if_pos h2]; subst h3; rfl
theorem zcx {i : Nat} {f : M (List D)} {ds : List D} (h1 : f ρ = .ok ds ρ1) (h2 : i < ρ1.length) (h3 : ρ1.set i (some (.own ds)) = ρ') : zcp i f ρ = .nx ρ' := by
 unfold zcp sB; rw [h1]; dsimp only; rw [if_pos h2]; subst h3; rfl
theorem zjm {i : Nat} {d : D} {ds0 ds : List D} (h0 : ρ[i]? = some (some (.own ds0))) (h1 : f ρ = .ok d ρ1) (h2 : ρ1[i]? = some (some (.own ds))) (h3 : ds.length < 1000000) (h4 : ρ1.set i (some (.own (ds ++ [d]))) = ρ') : sApp i f ρ = .nx ρ' := by
 unfold sApp sB; rw [h0]; dsimp only; rw [h1]; dsimp only; rw [h2]; dsimp only; rw [if_pos h3]; subst h4; rfl
theorem tg_N {i : Nat} {d : D} (h : i < ρ.length) (h2 : ρ.set i (some (.pub d)) = ρ') : gN i d ρ = some ρ' := by unfold gN; rw [if_pos h, h2]
theorem tg_0 : gN0 [] ρ = some ρ := rfl
theorem tg_C {s : D -> DEnv -> Option DEnv} {t : List D -> DEnv -> Option DEnv} {d : D} {r : List D} (h1 : s d ρ = some ρ1) (h2 : t r ρ1 = some ρ') : gNC s t (d :: r) ρ = some ρ' := by unfold gNC; dsimp only; rw [h1]; exact h2
theorem tg_T {n : Nat} {t : List D -> DEnv -> Option DEnv} {ds : List D} (h1 : ds.length = n) (h2 : t ds ρ = some ρ') : gT n t (.tuple ds) ρ = some ρ' := by unfold gT; dsimp only; rw [if_pos h1]; exact h2
structure Ho (g : SM) (ρ : DEnv) (Q : Out -> Prop) : Prop where
 out : Q (g ρ)
def zki (h : SM) (Q : Out -> Prop) : Out -> Prop
 | .nx ρ' => Ho h ρ' Q
 | o => Q o
structure zjn (h : SM) (Q : Out -> Prop) (o : Out) : Prop where
 out : zki h Q o
variable {Q : Out -> Prop} {s t u : SM}
theorem zfc (h : Ho s ρ (zjn t Q)) : Ho (sSeq s t) ρ Q := by
 have h := h.out.out
 constructor
 unfold sSeq
 cases e : s ρ with
 | nx o => rw [e] at h; exact h.out
 | _ => rw [e] at h; exact h
theorem zbe (h1 : s ρ = .nx ρ1) (h2 : Ho t ρ1 Q) : Ho (sSeq s t) ρ Q := by
 constructor; unfold sSeq; rw [h1]; exact h2.out
theorem zhV {o : Out} (h1 : s ρ = o) (h2 : Q o) : Ho s ρ Q := by constructor; rw [h1]; exact h2
theorem zjo (h : Q (.nx ρ)) : Ho sNx ρ Q := ⟨h⟩
theorem zdq {o : DEnv} (h : Ho t o Q) : zjn t Q (.nx o) := ⟨h⟩
theorem zhW {f : M Bool} {b : Bool} (h1 : f ρ = .ok b ρ1) (h2 : b = true -> Ho s ρ1 Q) (h3 : b = false -> Ho t ρ1 Q) : Ho (sIf f s t) ρ Q := by
 constructor; unfold sIf sB; rw [h1]; dsimp only
 cases b with
 | true => rw [if_pos rfl]; exact (h2 rfl).out
 | false => rw [if_neg (by decide)]; exact (h3 rfl).out
theorem zgU {d : D} (h1 : f ρ = .ok d ρ1) (h2 : Q (.rt d)) : Ho (sRet f) ρ Q := by constructor; unfold sRet sB; rw [h1]; exact h2
theorem zhX {P : Out -> Prop} (h : Ho s ρ P) (k : ∀ o, P o -> Q o) : Ho s ρ Q := ⟨k _ h.out⟩
def zkj (I : DEnv -> Prop) (Q : Out -> Prop) : Out -> Prop
 | .nx ρ | .ct ρ => I ρ
 | .bk ρ => Q (.nx ρ)
 | .rt d => Q (.rt d)
 | .ex ρ d => Q (.ex ρ d)
 | .bad => False
structure zhY (I : DEnv -> Prop) (Q : Out -> Prop) (o : Out) : Prop where
 out : zkj I Q o
theorem zdr {I : DEnv -> Prop} (h : I ρ) : zhY I Q (.nx ρ) := ⟨h⟩
theorem zgV {f : M (List D)} {tg : D -> DEnv -> Option DEnv} {ds : List D} (I : Nat -> DEnv -> Prop) (h1 : f ρ = .ok ds ρ1) (h0 : I 0 ρ1)
  (hst : ∀ i d ρ, ds[i]? = some d -> I i ρ -> ∃ ρ2, tg d ρ = some ρ2 /\ Ho s ρ2 (zhY (I (i + 1)) Q)) (hend : ∀ ρ, I ds.length ρ -> Q (.nx ρ)) : Ho (sFor f tg s) ρ Q := by
 constructor; unfold sFor sB; rw [h1]; dsimp only
 refine zcX (P := I) (R := Q) ds 0 ρ1 h0 (fun i d ρ e p => ?_) (fun ρ p => hend ρ (by rw [Nat.zero_add] at p; exact p))
 rw [Nat.zero_add] at p
 obtain ⟨ρ2, e2, q⟩ := hst i d ρ e p
 refine ⟨ρ2, e2, ?_⟩
 rw [Nat.zero_add]
 have q := q.out.out
 cases z : s ρ2 with
 | nx o => rw [z] at q; exact .inl ⟨o, .inl rfl, q⟩
 | ct o => rw [z] at q; exact .inl ⟨o, .inr rfl, q⟩
 | rt o => rw [z] at q; exact .inr (.inl ⟨o, rfl, q⟩)
 | bk o => rw [z] at q; exact .inr (.inr (.inl ⟨o, rfl, q⟩))
 | ex o x => rw [z] at q; exact .inr (.inr (.inr ⟨o, x, rfl, q⟩))
 | bad => rw [z] at q; exact q.elim
theorem zgW {N : List Str} {ds : List D} {P : D -> Prop} (h0 : za1 N ds = ρ) (h : Ho s ρ fun o => ∃ d, o = .rt d /\ P d) : ∃ d, runD N s ds = some d /\ P d := by
 subst h0
 obtain ⟨d, e, p⟩ := h.out
 refine ⟨d, ?_, p⟩
 unfold runD; rw [e]
theorem zjp {N : List Str} {ds : List D} {d : D} (h0 : za1 N ds = ρ) (h : Ho s ρ fun o => o = .rt d) : runD N s ds = some d := by
 obtain ⟨d', e, p⟩ := zgW (P := fun x => x = d) h0 (zhX h fun o e => ⟨d, e, rfl⟩)
 rw [e, p]
end
end DL
namespace DL
open PySem PySem.Spec L2
open PyProof.Rows hiding St
section
variable {α β : Type} {ρ ρ1 ρ2 ρ3 ρ' : DEnv} {f g h : M D}
theorem zgX {l u : M (Option Int)} {x r : D} {a b : Option Int} (h1 : f ρ = .ok x ρ1) (h2 : l ρ1 = .ok a ρ2) (h3 : u ρ2 = .ok b ρ3) (h4 : oSlA x a b = some r) : dSlA f l u ρ = .ok r ρ3 := by
 unfold dSlA; exact zas h1 (zas h2 (zas h3 (zbc h4)))
theorem zgY {f g : M Bool} {u : Bool} (h1 : f ρ = .ok false ρ1) (h2 : g ρ1 = .ok u ρ2) : mOr f g ρ = .ok u ρ2 := by unfold mOr; exact zas h1 (by rw [if_neg (by decide)]; exact h2)
theorem zhZ {p : D -> D -> Option β} {i : Nat} {d y : D} {r : β} (h : ρ[i]? = some (some (.pub d))) (h1 : g ρ = .ok y ρ1) (h2 : p d y = some r) : zb7 p i g ρ = .ok r ρ1 := by
 unfold zb7; rw [h]; exact zas h1 (zbc h2)
theorem zdK {xs : List D} {a b : Option Int} : oSlA (.list xs) a b = some (.list (DL.cutD xs a b)) := rfl
end
end DL
namespace DL
open PySem PySem.Spec L2
open PyProof.Rows hiding St
section
variable {α β : Type} {ρ ρ1 ρ2 ρ3 ρ4 ρ' : DEnv} {f g h : M D} {s : SM}
end
end DL
namespace DL
open PySem PySem.Spec L2
open PyProof.Rows hiding St
section
variable {ρ ρ1 : DEnv}
end
end DL
namespace DL
open PySem PySem.Spec L2
open PyProof.Rows hiding St
section
variable {X : Cx} {B G0 : Hp} {KX : XW} {e o a b c tg i : Expr} {pos p2 : Pos} {es rest : List Expr}
end
section
variable {X : Cx} {B G0 : Hp} {KX : XW}
end
end DL
namespace DL
open PySem PySem.Spec L2
open PyProof.Rows hiding St
section
variable {X : Cx} {B G0 : Hp} {e o a b c tg i : Expr} {pos p2 : Pos} {es rest : List Expr}
end
end DL
namespace DL
open PySem PySem.Spec PySem.W PyProof.Rows
section
variable {key : Nat -> Int} {p : Array Nat}
section
variable {N : Nat} (hN : 0 < N)
include hN
end
end
end DL
namespace DL
open PySem PySem.Spec PySem.W PyProof.Rows
section
variable {prog : Program} {w : World} {A : Around} {E : Value -> Shared -> Prop} {s : Shared}
end
end DL
namespace DL
open PySem PySem.Spec PySem.W PyProof.Rows
section
variable {prog : Program} {w : World} {A : Around} {E : Value -> Shared -> Prop} {s : Shared}
end
end DL
namespace DL
open PySem PySem.Spec L2
open PyProof.Rows hiding St
section
variable {X : Cx}
end
end DL
namespace DL
open PySem PySem.Spec L2
open PyProof.Rows hiding St
section
variable {X : Cx}
end
end DL
namespace DL
open PySem PySem.Spec L2
open PyProof.Rows hiding St
section
variable {X : Cx} {B G0 : Hp} {e o a b c tg : Expr} {pos p2 : Pos} {es rest : List Expr} {te to ti : TE}
def zfd {β : Type} (p : D -> D -> Option β) (f : M D) (j : Nat) : M β := zaf f fun x => fun ρ => match ρ[j]? with
 | some (some (.pub d)) => mOpt (p x d) ρ
 | some (some (.own ds)) => mOpt (p x (.list ds)) ρ
 | _ => .bad
theorem zkk {K : PySem.W.Frag} {σ : St} {H : Hp} {p : D -> D -> Option Bool} {r : R2} {j : Nat} {f : M D} {Q : Bool -> Hp -> Prop} {QV : VK} (hq : ∀ t H3, Q t H3 -> QV (.bl t) H3)
  (hr : ∀ v u G H x y d Q, Same G H -> Rep K G v x -> Rep K G u y -> p x y = some d -> Q (.bl d) H -> r v u H Q)
  (q : tBo K B G0 (zfd p f j) σ H Q) : tD K B G0 f σ H fun x H1 => tVar j σ H1 fun y H2 => r x y H2 QV := by
 refine tM.one (R := Rep K) q fun v H2 G ρ x k rx a => ?_
 cases z : ρ[j]? with
 | none => rw [z] at a; exact a.elim
 | some o =>
  cases o with
  | none => rw [z] at a; exact a.elim
  | some sl =>
   cases sl with
   | pub d =>
    rw [z] at a
    dsimp only at a
    obtain ⟨d', e', a'⟩ := aft.opt a
    obtain ⟨u, h1, h2⟩ := k.pub j d z
    exact ⟨u, h1, hr v u G H2 x d d' _ k.gh rx h2 e' (hq _ _ (a' d' G H2 k (.refl _) rfl))⟩
   | own ds =>
    rw [z] at a
    dsimp only at a
    obtain ⟨d', e', a'⟩ := aft.opt a
    obtain ⟨ad, vs, h1, h2, h3, h4, h5⟩ := k.own j ds z
    exact ⟨.ref ad, h1, hr v (.ref ad) H2 H2 x (.list ds) d' _ (.refl _) (rx.mono k.gh) (.lst (SqL.of h4) (h5.mono k.gh)) e' (hq _ _ (a' d' G H2 k (.refl _) rfl))⟩
theorem zh0 {op : CmpOp} {p : D -> D -> Option Bool} {j : Nat} {f : M D} (o : OpB X (compareOp op) p) (ha : PE X a (tD X.K B G0 f)) (hb : PE X b (tVar j)) (hm : behindInMarks op b = false) :
  PT X (.Compare a [op] [b] pos) (tBo X.K B G0 (zfd p f j)) := by
 obtain ⟨r, h, i⟩ := o
 exact ptof (zda h ha hb hm) fun σ H Q q => zkk (fun t H3 z => ⟨t, rfl, z⟩) i q
theorem zgm {β : Type} {p : D -> D -> Option β} {f : M D} {j : Nat} {ρ ρ1 : DEnv} {x : D} {ds : List D} {r : β} (h1 : f ρ = .ok x ρ1) (h2 : ρ1[j]? = some (some (.own ds))) (h3 : p x (.list ds) = some r) : zfd p f j ρ = .ok r ρ1 := by
 unfold zfd; exact zas h1 (by rw [h2]; exact zbc h3)
end
end DL
namespace DL
open PySem PySem.Spec L2
open PyProof.Rows hiding St
section
variable {X : Cx} {B G0 : Hp} {e o a b c tg : Expr} {pos p2 : Pos} {es rest : List Expr}
end
end DL
namespace HT
open PySem PyProof.Rows
section
open PySem.SeqAt
open PySem.AutoSeq1 (wpAny_loadPart')
open PySem.MeetsSeq PySem.MeetsSeq2 PySem.MeetsSeq3
end
section
variable {prog : Program} {w : World} {A : Around} {E : Value -> Shared -> Prop} {s : Shared}
end
end HT
namespace DL
open PySem PySem.Spec L2
open PyProof.Rows hiding St
section
variable {X : Cx}
end
end DL
namespace DL
open PySem PySem.Spec L2
open PyProof.Rows hiding St
section
variable {X : Cx}
end
end DL
namespace DL
open PySem
theorem lz0 {P : List Value -> Prop} {us : List Value} (hl : us.length = 0) (h : P []) : P us := by
 cases us with
 | nil => exact h
 | cons a r => cases hl
theorem lzS {P : List Value -> Prop} {us : List Value} {n : Nat} (hl : us.length = n + 1) (h : ∀ a r, r.length = n -> P (a :: r)) : P us := by
 cases us with
 | nil => cases hl
 | cons a r => exact h a r (Nat.succ.inj hl)
theorem lz1 {P : List Value -> Prop} {us : List Value} (hl : us.length = 1) (h : ∀ a, P [a]) : P us := lzS hl fun a r e => lz0 (P := fun r => P (a :: r)) e (h a)
theorem lz2 {P : List Value -> Prop} {us : List Value} (hl : us.length = 2) (h : ∀ a b, P [a, b]) : P us := lzS hl fun a r e => lz1 (P := fun r => P (a :: r)) e (h a)
theorem lz3 {P : List Value -> Prop} {us : List Value} (hl : us.length = 3) (h : ∀ a b c, P [a, b, c]) : P us := lzS hl fun a r e => lz2 (P := fun r => P (a :: r)) e (h a)
theorem bz1 {fd : FuncData} {ps : List Str} {us : List Value} (hl : us.length = 1) (h : ∀ a, bindArgs fd { pos := [a] } = pure (ps.zip [a])) : bindArgs fd { pos := us } = pure (ps.zip us) := lz1 (P := fun us => bindArgs fd { pos := us } = pure (ps.zip us)) hl h
theorem bz2 {fd : FuncData} {ps : List Str} {us : List Value} (hl : us.length = 2) (h : ∀ a b, bindArgs fd { pos := [a, b] } = pure (ps.zip [a, b])) : bindArgs fd { pos := us } = pure (ps.zip us) := lz2 (P := fun us => bindArgs fd { pos := us } = pure (ps.zip us)) hl h
theorem bz3 {fd : FuncData} {ps : List Str} {us : List Value} (hl : us.length = 3) (h : ∀ a b c, bindArgs fd { pos := [a, b, c] } = pure (ps.zip [a, b, c])) : bindArgs fd { pos := us } = pure (ps.zip us) := lz3 (P := fun us => bindArgs fd { pos := us } = pure (ps.zip us)) hl h
end DL
namespace DL
open PySem PySem.Spec L2
open PyProof.Rows hiding St
def whole (h : Heap) : PySem.W.Frag := (List.range h.objs.size).filterMap fun a => (h.get? a).map fun o => (a, o)
theorem zc0 {g : Addr -> Option Obj} {x : Addr} : ∀ l : List Addr, (l.filterMap fun a => (g a).map fun o => (a, o)).lookup x = if x ∈ l then g x else none
 | [] => rfl
 | y :: l => by
  have ih := zc0 (g := g) (x := x) l
  by_cases e : x = y
  ·subst e
   rw [if_pos List.mem_cons_self]
   cases z : g x with
   | none => rw [List.filterMap_cons_none (by rw [z]; rfl), ih, z]; split <;> rfl
   | some o => rw [List.filterMap_cons_some (by rw [z]; rfl), List.lookup_cons, beq_self_eq_true]
  ·have m : (x ∈ y :: l) = (x ∈ l) := by simp [List.mem_cons, e]
   have b : (x == y) = false := by simpa using e
   have ih' : (if x ∈ y :: l then g x else none) = _ := (by simp only [m]; exact ih.symm)
   rw [ih']
   cases z : g y with
   | none => rw [List.filterMap_cons_none (by rw [z]; rfl)]
   | some o => rw [List.filterMap_cons_some (by rw [z]; rfl), List.lookup_cons, b]
theorem zaq {h : Heap} {a : Addr} : (whole h).lookup a = h.get? a := by
 unfold whole
 rw [zc0]
 split
 ·rfl
 ·rename_i n
  cases z : h.get? a with
  | none => rfl
  | some o => exact absurd (List.mem_range.mpr (Heap.lt_size z)) n
theorem zgn (h : Heap) : (whole h).In h := fun a o e => by rw [zaq] at e; exact e
def zkl (st : Stmt) : Option DefRec := match st with
 | .FunctionDef name a b _ _ _ sc _ _ pos => some ⟨name, a, b, sc, pos⟩
 | _ => none
def zdL (st : Stmt) : Option Str := match st with
 | .FunctionDef name _ _ _ _ _ _ _ _ _ => some name
 | _ => none
def zkm (st : Stmt) : Pos := match st with
 | .FunctionDef _ _ _ _ _ _ _ _ _ pos => pos
 | _ => ⟨0, 0, 0, 0⟩
abbrev stAt (p : Program) (i : Nat) : Stmt := p.main.body.getD i (.Pass ⟨0, 0, 0, 0⟩)
def zcc (p : Program) (ix : List Nat) : List DefRec := ix.filterMap fun i => zkl (stAt p i)
section
variable {p q : Program} {loose : List Str} {mean : ExcName -> Option Value} {mg mb : Str -> Option Value} {h : Heap} {w : World}
theorem zfe {ix : List Nat} (T : Top q loose mean mg mb h) (e : recsOf q = zcc p ix) (i : Nat) (x : Str) (hi : ix.contains i = true) (hn : zdL (stAt p i) = some x) : ∃ f fd, mg x = some (.ref f) /\ Fun (whole h) x x (stAt p i) f fd := by
 cases hs : stAt p i with
 | FunctionDef name a b _ _ _ sc _ _ pos =>
  rw [hs] at hn
  cases hn
  have hd : (⟨x, a, b, sc, pos⟩ : DefRec) ∈ recsOf q := by
   rw [e]
   exact List.mem_filterMap.mpr ⟨i, by simpa using hi, by rw [hs]; rfl⟩
  obtain ⟨f, ⟨oc, od, dt, osl⟩, pm, cd, doc, h1, h2, h3, h4⟩ := T.fn _ hd
  have h3 : dt = _ := h3
  subst h3
  refine ⟨f, _, h1, ⟨⟨oc, od, .none, doc, pm, _, cd, _, osl, rfl, by rw [zaq]; exact h2, ?_⟩, ?_⟩⟩
  ·obtain ⟨c, ⟨_, _, dc, _⟩, vs, t, rfl, g1, g2, g3⟩ := h4
   have g2 : dc = _ := g2
   subst g2
   unfold PySem.W.codeIn
   dsimp only
   rw [zaq, g1]
   dsimp only
   have g4 : vs.toList[1]? = some (.str x t) := by rw [Array.getElem?_toList]; exact g3
   cases hv : vs.toList with
   | nil => rw [hv] at g4; cases g4
   | cons v0 r =>
    rw [hv] at g4
    cases r with
    | nil => cases g4
    | cons v1 r => cases g4; exact beq_self_eq_true _
  ·unfold PySem.W.keepIn
   dsimp only
   rw [zaq, h2]
 | _ => rw [hs] at hn; cases hn
theorem zff {K : PySem.W.Frag} {x qual y : Str} {st : Stmt} {f : Addr} {fd : FuncData} (F : Fun K x qual st f fd)
  (hb : ∀ (kV doc pm : Value) (an : Option Addr) (cdv ct v : Value), bindArgs (PySem.W.fnOf x qual (zaS st) (zaA st) (zag st) .none kV doc pm an cdv ct) ⟨[v], []⟩ = pure [(y, v)]) (s : Shared) (v : Value) : BindsTo s fd ⟨[v], []⟩ [(y, v)] := by
 obtain ⟨oc, od, kV, doc, pm, an, cdv, ct, osl, rfl, lk, hcd⟩ := F.ex
 exact .of_eq (hb kV doc pm an cdv ct v)
def zgo (q : Program) (loose : List Str) (x : Str) : Bool :=
 !startupNames.contains x && !loose.contains x && !((recsOf q).map (·.name)).contains x && !((litsOf q).map (·.1)).contains x && !((clssOf q loose).map (·.name)).contains x
theorem zaU (T : Top q loose mean mg mb h) {xs : List Str} (e : xs.all (zgo q loose) = true) {x : Str} (hx : x ∈ xs) : mg x = none := by
 have := List.all_eq_true.mp e x hx
 unfold zgo at this
 simp only [Bool.and_eq_true, Bool.not_eq_true', List.contains_eq_mem, decide_eq_false_iff_not] at this
 exact T.free x this.1.1.1.1 this.1.1.1.2 this.1.1.2 this.1.2 this.2
theorem zfg (T : Top q loose mean mg mb h) {x : Str} {i : Int} (e : valOf q x = some (.int i)) : ∃ t, mg x = some (.int i t) := by
 obtain ⟨v, h1, h2⟩ := T.const x _ e
 have := h2 h
 cases this
 exact ⟨_, h1⟩
theorem zfh (T : Top q loose mean mg mb h) {x z : Str} (e : valOf q x = some (.str z)) : ∃ t, mg x = some (.str z t) := by
 obtain ⟨v, h1, h2⟩ := T.const x _ e
 have := h2 h
 cases this
 exact ⟨_, h1⟩
end
def scOk (sc : Scope) (N gl : List Str) : Bool := (N.all fun x => match sc.names.lookup x with | some .local => true | some .cell => true | _ => false) && gl.all fun x => match sc.names.lookup x with | some .globalImplicit => true | _ => false
def fnB (sc : Scope) (N gl : List Str) : Bool := decide (sc.kind = .function) && !sc.isCoroutine && !sc.isGenerator && decide N.Nodup && (sc.names.all fun y => match y.2 with | .free => false | _ => true) && scOk sc N gl
structure FnNm (sc : Scope) (N gl : List Str) : Prop where
 kind : sc.kind = .function
 co : sc.isCoroutine = false
 gen : sc.isGenerator = false
 nd : N.Nodup
 nofree : ∀ y ∈ sc.names, y.2 ≠ .free
 nm : ∀ x ∈ N, sc.names.lookup x = some .local ∨ sc.names.lookup x = some .cell
 gl : ∀ x ∈ gl, sc.names.lookup x = some .globalImplicit
theorem za7 {sc : Scope} {N gl : List Str} (H : fnB sc N gl = true) : FnNm sc N gl := by
 unfold fnB scOk at H
 simp only [Bool.and_eq_true, decide_eq_true_eq, Bool.not_eq_true', List.all_eq_true] at H
 obtain ⟨⟨⟨⟨⟨h1, h2⟩, h3⟩, h4⟩, h5⟩, h6, h7⟩ := H
 refine ⟨h1, h2, h3, h4, fun y hy e => ?_, fun x hx => ?_, fun x hx => ?_⟩
 ·have := h5 y hy; rw [e] at this; cases this
 ·have := h6 x hx
  split at this
  ·rename_i e; exact .inl e
  ·rename_i e; exact .inr e
  ·cases this
 ·have := h7 x hx
  split at this
  ·rename_i e; exact e
  ·cases this
section
variable {sc : Scope} {N gl : List Str} {x : Str}
theorem nq (H : FnNm sc N gl) : N.Nodup := H.nd
theorem fq (H : FnNm sc N gl) (n : Nat) : zbB N (N.take n) sc := ⟨H.kind, H.co, H.gen, H.nd, by rw [List.length_take, List.take_eq_take_iff]; omega, fun x hx => H.nm x (List.mem_of_mem_take hx), H.nofree⟩
theorem lq (H : FnNm sc N gl) (i : Nat) (h : N[i]? = some x := by rfl) : L2.Loc sc x := H.nm x (List.mem_of_getElem? h)
theorem gq (H : FnNm sc N gl) (i : Nat) (h : gl[i]? = some x := by rfl) : sc.names.lookup x = some .globalImplicit := H.gl x (List.mem_of_getElem? h)
theorem pq {X : Cx} {pos : Pos} (H : FnNm X.env.scope X.N gl) (i : Nat) (h : X.N[i]? = some x := by rfl) (hd : (x == ("__debug__" : Str)) = false := by decide) (hc : (x == ("__classdict__" : Str)) = false := by decide) : PE X (.Name x pos) (tVar i) :=
 zgD h ((H.nm x (List.mem_of_getElem? h)).elim .inl fun z => .inr (.inl z)) hd hc
end
theorem zej {q p : Program} {loose : List Str} {mean : ExcName -> Option Value} {mg mb : Str -> Option Value} {h : Heap} {ix : List Nat} (P : Program) (w : World) (base : Heap) {ps : List Str} {k n : Nat} {F : List D -> Option D} (T : Top q loose mean mg mb h) (e : recsOf q = zcc p ix) (i : Nat) (x : Str) (hi : ix.contains i = true) (hn : zdL (stAt p i) = some x)
  (ok : ∀ {f : Addr} {fd : FuncData}, Fun (whole h) x x (stAt p i) f fd -> FnOk P w (whole h) mg base CX0 k f fd ps (spD (whole h) n F))
  (hb : ∀ (kV doc pm : Value) (an : Option Addr) (cdv ct : Value) (us : List Value), us.length = ps.length -> bindArgs (PySem.W.fnOf x x (zaS (stAt p i)) (zaA (stAt p i)) (zag (stAt p i)) .none kV doc pm an cdv ct) ⟨us, []⟩ = pure (ps.zip us)) : Def P w (whole h) mg base x k n F := by
 obtain ⟨f, fd, m, FU⟩ := zfe T e i x hi hn
 exact Def.mk m FU (FU.binds hb) (ok FU)
section
variable {X : Cx} {B G0 : Hp} {e : Expr} {pos : Pos} {es : List Expr}
theorem pdf {k kk n : Nat} {F : List D -> Option D} {g : M (List D)} {x : Str} {p2 : Pos} (d : Def X.prog X.w X.K X.mg X.base x k n F) (hr : Room kk X.A) (hg : Gl X x) (ha : PA X (e :: es) (tDs X.K B G0 g)) (hk : k <= kk := by decide) (hn : (e :: es).length = n := by rfl)
  (hdb : (x == ("__debug__" : Str)) = false := by decide) (he : starEach (e :: es) X.env = (false, eval e X.env) :: starEach es X.env := by rfl) (hpl : (backTo pos (starEach es X.env)).any (·.1) = false := by rfl) :
  PE X (.Call (.Name x p2) (e :: es) [] pos) (tD X.K B G0 (dFun n F g)) := zhF d (hr.mono hk) hg ha hn hdb he hpl
end
theorem zkn {q p : Program} {loose : List Str} {mean : ExcName -> Option Value} {mg mb : Str -> Option Value} {h : Heap} {ix : List Nat} {P : Program} {w : World} {k : Nat} {F : List D -> Option D} {y : Str} {fa : Addr} (T : Top q loose mean mg mb h) (e : recsOf q = zcc p ix) (i : Nat) (x : Str) (hi : ix.contains i = true) (hn : zdL (stAt p i) = some x) (hfa : mg x = some (.ref fa))
  (hb : ∀ (kV doc pm : Value) (an : Option Addr) (cdv ct v : Value), bindArgs (PySem.W.fnOf x x (zaS (stAt p i)) (zaA (stAt p i)) (zag (stAt p i)) .none kV doc pm an cdv ct) ⟨[v], []⟩ = pure [(y, v)])
  (ok : ∀ (base : Heap) {f : Addr} {fd : FuncData}, Fun (whole h) x x (stAt p i) f fd -> FnOk P w (whole h) mg base CX0 k f fd [y] (spD (whole h) 1 F)) :
  ∃ fd : FuncData, (∀ (s : Shared) (v : Value), BindsTo s fd ⟨[v], []⟩ [(y, v)]) /\ ∀ base : Heap, FnOk P w (whole h) mg base CX0 k fa fd [y] (spD (whole h) 1 F) := by
 obtain ⟨f, fd, m, FU⟩ := zfe T e i x hi hn
 cases hfa.symm.trans m
 exact ⟨fd, zff FU hb, fun base => ok base FU⟩
end DL
namespace DL
open PySem PySem.Spec L2
open PyProof.Rows hiding St
def zfi : D -> Bool
 | .str x => decide (x.length <= 1000)
 | .int i => decide (0 <= i) && decide (i < 10 ^ 10)
 | .none => true
 | _ => false
def zc1 (nm : Str) (ds : List D) : Option (List D) := match zaV nm with
 | [] => (match ds with | [.str _] => some [] | _ => none)
 | f :: fs => if ds.length = (f :: fs).length /\ ds.all zfi = true then some ds else none
abbrev exD (nm : Str) (ds : List D) : D := .dict [(.none, .tuple [.str nm, .list ds])]
section
variable {K : PySem.W.Frag} {G H H' : Hp} {nm : Str} {C a : Addr} {bm : List Value} {vs : List V} {ds fs : List D} {dd : Option Addr}
theorem zjq {v : V} {d : D} (r : Rep K G v d) (h : zfi d = true) : ∃ y, FmtV v y /\ y.length <= 4000 := by
 cases r with
 | non => exact ⟨_, .non, by decide⟩
 | bl b => cases h
 | int i =>
  unfold zfi at h
  simp only [Bool.and_eq_true, decide_eq_true_eq] at h
  have h64 : i.natAbs < 2 ^ 64 := by have := h.2; have := h.1; omega
  refine ⟨_, .int i ?_, Nat.le_trans (toString_length_le h.1 (by decide : 0 < 10) h.2) (by decide)⟩
  by_cases z : i.natAbs = 0
  ·rw [z]; decide
  ·have := (Nat.log2_lt z).mpr h64
   omega
 | str x =>
  unfold zfi at h
  have h := of_decide_eq_true h
  exact ⟨x, .str x (Nat.le_trans h (by decide)), Nat.le_trans h (by decide)⟩
 | lst _ _ => cases h
 | tup _ _ => cases h
 | dic _ => cases h
 | exc _ _ _ _ => cases h
 | dct _ _ _ _ _ => cases h
theorem zfj : ∀ {vs : List V} {ds : List D}, Reps K G vs ds -> ds.all zfi = true -> ∀ u ∈ vs, ∃ y, FmtV u y /\ y.length <= 4000
 | _, _, .nil, _, u, hu => by cases hu
 | _, _, .cons r t, h, u, hu => by
  rw [List.all_cons, Bool.and_eq_true] at h
  rcases List.mem_cons.mp hu with rfl | hu
  ·exact zjq r h.1
  ·exact zfj t h.2 u hu
theorem zdM (r : Reps K G vs ds) (e : zc1 nm ds = some fs) : ziU nm vs := by
 unfold zc1 at e
 split at e
 ·rename_i hf
  split at e
  ·obtain ⟨v, rfl, q⟩ := r.one_inv
   exact .inl ⟨hf, _, by rw [q.str_inv]⟩
  ·cases e
 ·rename_i f l hf
  split at e
  ·rename_i c
   refine .inr ⟨by rw [hf]; simp, by rw [r.length, hf]; exact c.1, zfj r c.2⟩
  ·cases e
theorem zfk (c : ClsK K nm C bm) (s : Same G H) (ha : H a = none) (r : Reps K G vs ds) (e : zc1 nm ds = some fs) (p : ziV nm C a vs (upd H a (.ext (XO true a C none))) dd H') :
  ∃ G', Ext G H G' (upd H' a (.ext (XO false a C dd))) /\ Rep K G' (.ref a) (exD nm fs) /\ H' a = some (.ext (XO true a C dd)) := by
 unfold zc1 at e
 rcases p with ⟨hf, rfl, rfl⟩ | ⟨hf, hl, dx, rfl, hd, hne, rfl⟩
 ·rw [hf] at e
  dsimp only at e
  split at e
  ·cases e
   refine ⟨upd G a (.ext (XO false a C none)), ?_, .exc (vs := []) c zai ⟨hf, rfl⟩ .nil, zai⟩
   rw [zep]
   exact Ext.new s ha
  ·cases e
 ·split at e
  ·rename_i hf'; exact absurd hf' hf
  ·rename_i f l hf'
   split at e
   ·cases e
    have hd' : H dx = none := by rw [zak hne] at hd; exact hd
    have eH : upd (upd (upd (upd H a (.ext (XO true a C none))) a (.ext (XO true a C (some dx)))) dx (.ext (XD dx ((zaV nm).zip vs)))) a (.ext (XO false a C (some dx))) = upd (upd H a (.ext (XO false a C (some dx)))) dx (.ext (XD dx ((zaV nm).zip vs))) := by
     funext b
     by_cases h1 : b = a
     ·subst h1; rw [zai, zak (Ne.symm hne), zai]
     ·rw [zak h1]
      by_cases h2 : b = dx
      ·subst h2; rw [zai, zai]
      ·rw [zak h2, zak h1, zak h1, zak h2, zak h1]
    have x1 : Ext G H (upd G a (.ext (XO false a C (some dx)))) (upd H a (.ext (XO false a C (some dx)))) := Ext.new s ha
    have hd2 : upd H a (.ext (XO false a C (some dx))) dx = none := by rw [zak hne]; exact hd'
    have x2 := x1.trans (Ext.new (o := .ext (XD dx ((zaV nm).zip vs))) x1.gh hd2)
    exact ⟨_, by rw [eH]; exact x2, .exc (dd := some dx) (vs := vs) c (by rw [zak (Ne.symm hne)]; exact zai) ⟨hl.symm, zai⟩ (r.mono x2.g), by rw [zak (Ne.symm hne)]; exact zai⟩
   ·cases e
end
def zfl (nm : Str) (g : M (List D)) : SM := sB g fun ds ρ => match zc1 nm ds with | some fs => .ex ρ (exD nm fs) | none => .bad
section
variable {X : Cx} {B G0 : Hp} {KX : XW} {e a b c : Expr} {pos p2 cpos : Pos} {es : List Expr} {st : Stmt} {sts : List Stmt} {nm x : Str} {k kk n : Nat}
theorem zgp {g : M (List D)} (mk : MkX X.prog X.w X.K X.mg X.base nm k) (hr : Room kk X.A) (hc : X.calm = true) (hw : zb6 X KX) (hg : Gl X nm) (ha : PA X (e :: es) (tDs X.K B G0 g)) (hk : k + 1 <= kk := by decide)
  (hdb : (nm == ("__debug__" : Str)) = false := by decide) (he : starEach (e :: es) X.env = (false, eval e X.env) :: starEach es X.env := by rfl) (hpl : (backTo cpos (starEach es X.env)).any (·.1) = false := by rfl) :
  PS X (.Raise (some (.Call (.Name nm p2) (e :: es) [] cpos)) none pos) (tS X.K B G0 KX (zfl nm g)) := PS.kin fun kin => by
 obtain ⟨C, bm, f, fd, ps, sp, hm, hkp, ck, xc, F, hb, hsp⟩ := mk
 refine psof (zfS (KC := fun C' => C' = C) hc (fun C' z => by subst z; exact ⟨bm, f, xc _ _ kin⟩) hw (zdA (xc _ _ kin) F (hr.mono hk) hg hm hkp hb ha hdb he hpl)) fun Dn σ H q => ?_
 refine tS.bnd (R := Reps X.K) q fun vs H1 G1 ρ1 ds k1 r a => ?_
 cases z : zc1 nm ds with
 | none => rw [z] at a; exact a.elim
 | some fs =>
  rw [z] at a
  have ar := zdM r z
  refine ⟨?_, fun ad had => hsp ad vs _ _ zai ar fun dd H' p => ⟨rfl, ?_⟩⟩
  ·rcases ar with ⟨_, x, rfl⟩ | ⟨_, hl, _⟩
   ·exact (show 1 <= sizeLine by decide)
   ·rw [hl]
    unfold zaV
    split
    ·decide
    ·split
     ·decide
     ·split <;> decide
  ·obtain ⟨G', ex, rp, hx⟩ := zfk ck k1.gh had r z p
   exact ⟨ad, C, dd, rfl, rfl, hx, a (.ref ad) σ G' _ (k1.ext ex) ex.g rp⟩
inductive XR where
 | val (d : D) | exc (d : D)
def spX (K : PySem.W.Frag) (n : Nat) (F : List D -> Option XR) : Sp := fun vs H Q E => ∃ G ds r, vs.length = n /\ Same G H /\ Reps K G vs ds /\ F ds = some r /\ match r with
 | .val d => ∀ v G' H', Ext G H G' H' -> Rep K G' v d -> Q v H'
 | .exc d => ∀ ad G' H', Ext G H G' H' -> Rep K G' (.ref ad) d -> E (.ref ad) none H'
def DefX (P : Program) (w : World) (K : PySem.W.Frag) (mg : Str -> Option Value) (base : Heap) (x : Str) (k n : Nat) (F : List D -> Option XR) : Prop :=
 ∃ (f : Addr) (fd : FuncData) (ps : List Str), mg x = some (.ref f) /\ PySem.W.keepIn K (.ref f) = true /\ za8 K fd ps [] /\ FnOk P w K mg base (CX1 P w) k f fd ps (spX K n F)
def aftX (K : PySem.W.Frag) (B G0 : Hp) (KX : XW) (r : Res XR) (G : Hp) (σ : St) (Q : VK) : Prop := match r with
 | .ok (.val d) ρ => ∀ v G' H', EOk K B G0 G' H' σ ρ -> Same G G' -> Rep K G' v d -> Q v H'
 | .ok (.exc d) ρ => ∀ v G' H', EOk K B G0 G' H' σ ρ -> Same G G' -> Rep K G' v d -> KX v σ H'
 | .bad => False
def tX (K : PySem.W.Frag) (B G0 : Hp) (KX : XW) (f : M XR) : TE := fun σ H Q => ∃ G ρ, EOk K B G0 G H σ ρ /\ aftX K B G0 KX (f ρ) G σ Q
def zh1 (n : Nat) (F : List D -> Option XR) (g : M (List D)) : M XR := zaf g fun xs => if xs.length = n then mOpt (F xs) else fun _ => .bad
theorem zgq {F : List D -> Option XR} {g : M (List D)} (d : DefX X.prog X.w X.K X.mg X.base x k n F) (hr : Room kk X.A) (hw : zb6 X KX) (hg : Gl X x) (ha : PA X (e :: es) (tDs X.K B G0 g)) (hk : k <= kk := by decide) (hn : (e :: es).length = n := by rfl)
  (hdb : (x == ("__debug__" : Str)) = false := by decide) (he : starEach (e :: es) X.env = (false, eval e X.env) :: starEach es X.env := by rfl) (hpl : (backTo pos (starEach es X.env)).any (·.1) = false := by rfl) :
  PE X (.Call (.Name x p2) (e :: es) [] pos) (tX X.K B G0 KX (zh1 n F g)) := by
 obtain ⟨f, fd, ps, h1, h2, h3, h4⟩ := d
 refine peof (zfU h4 (hr.mono hk) hg h1 h2 h3 hw ha hdb he hpl) fun σ H Q ⟨G, ρ, k0, a⟩ => ?_
 refine ⟨G, ρ, k0, ?_⟩
 unfold zh1 zaf at a
 cases z : g ρ with
 | bad => rw [z] at a; exact a.elim
 | ok xs ρ1 =>
  rw [z] at a
  dsimp only at a
  intro vs G1 H1 k1 s1 r
  by_cases hl : xs.length = n
  ·rw [if_pos hl] at a
   cases zF : F xs with
   | none => rw [zF] at a; exact a.elim
   | some rr =>
    rw [zF] at a
    refine ⟨G1, xs, rr, by rw [r.length]; exact hl, k1.gh, r, zF, ?_⟩
    cases rr with
    | val d => exact fun v G' H' ex rv => a v G' H' (k1.ext ex) (s1.trans ex.g) rv
    | exc d =>
     intro ad' G' H' ex rv ad ev
     cases ev
     exact a _ G' H' (k1.ext ex) (s1.trans ex.g) rv
  ·rw [if_neg hl] at a; exact a.elim
def sX (f : M XR) (g : D -> SM) : SM := fun ρ => match f ρ with
 | .ok (.val d) ρ' => g d ρ'
 | .ok (.exc d) ρ' => .ex ρ' d
 | .bad => .bad
theorem tS.bndX {K : PySem.W.Frag} {f : M XR} {g : D -> SM} {Dn : Ends} {σ : St} {H : Hp} {P : V -> Hp -> Prop} (q : tS K B G0 KX (sX f g) Dn σ H)
  (i : ∀ v H' G' ρ' x, EOk K B G0 G' H' σ ρ' -> Rep K G' v x -> aftS K B G0 KX (g x ρ') G' Dn -> P v H') : tX K B G0 KX f σ H P := by
 obtain ⟨G, ρ, k, a⟩ := q
 refine ⟨G, ρ, k, ?_⟩
 unfold sX at a
 cases z : f ρ with
 | bad => rw [z] at a; exact a.elim
 | ok r ρ1 =>
  rw [z] at a
  cases r with
  | val d => exact fun v G' H' e s r => i v H' G' ρ1 d e r (aftS.mono s a)
  | exc d => exact fun v G' H' e s r => a v σ G' H' e s r
theorem zgr {f : M XR} (h : PE X e (tX X.K B G0 KX f)) (hs : swapsWith e none pos.line X.env = pure false := by rfl) : PS X (.Expr e pos) (tS X.K B G0 KX (sX f fun _ ρ => .nx ρ)) := psof (zbO h hs) fun D σ H q => tS.bndX q fun v H' G' ρ' x k r a => a σ G' H' k (.refl _)
def runX (N : List Str) (g : SM) (ds : List D) : Option XR := match g (za1 N ds) with
 | .rt d => some (.val d)
 | .nx _ => some (.val .none)
 | .ex _ d => if zd8 d = true then some (.exc d) else none
 | _ => none
abbrev kxE (E : XK) : XW := fun v _ H => ∃ e, v = .ref e /\ E (.ref e) none H
theorem okX {P : Program} {w : World} {K : PySem.W.Frag} {mg : Str -> Option Value} {base : Heap} {x qual : Str} {st : Stmt} {f : Addr} {fd : FuncData} {N ps : List Str} {k n : Nat} {g : SM} (F : Fun K x qual st f fd) (S : zbB N ps (zag st)) (hn : ps.length = n)
  (der : ∀ (cdv : Value) (A : Around) (outer : List Env) (s : Shared) (H : Hp) (E : XK) (B G0 : Hp), Room k (A.deeper (envOfC qual (zag st) s.heap.objs.size f cdv)) ->
   PSs (cxOf (CX1 P w) P w K mg base N qual (zag st) f cdv A outer s H E) (zaA st) (tS K B G0 (kxE E) g)) : FnOk P w K mg base (CX1 P w) (k + 1) f fd ps (spX K n (runX N g)) := by
 obtain ⟨oc, od, kV, doc, pm, an, cdv, ct, osl, rfl, lk, hcd⟩ := F.ex
 refine ziG lk hcd S (fun vs H Q E h => ?_) fun A outer s H vs Q E hr h => ?_
 ·obtain ⟨_, _, _, hl, _⟩ := h
  rw [hl, hn]
 ·obtain ⟨G, ds, r, hl, sg, rp, hF, q⟩ := h
  refine ⟨_, der cdv A outer s H E H G hr, G, za1 N ds, zdG sg rp, ?_⟩
  unfold runX at hF
  cases z : g (za1 N ds) with
  | rt d' =>
   rw [z] at hF
   cases hF
   exact fun v G' H' ex rr => q v G' H' ex rr
  | nx ρ =>
   rw [z] at hF
   cases hF
   exact fun σ' G' H' k' _ => q .non G' H' k'.exit .non
  | ex ρ d =>
   rw [z] at hF
   dsimp only at hF
   split at hF
   ·rename_i hx
    cases hF
    intro v σ' G' H' k' _ rv
    obtain ⟨ad, rfl⟩ : ∃ ad, v = .ref ad := by
     cases rv with
     | exc _ _ _ _ => exact ⟨_, rfl⟩
     | dct _ _ _ _ _ => exact ⟨_, rfl⟩
     | _ => cases hx
    exact ⟨ad, rfl, q ad G' H' k'.exit rv⟩
   ·cases hF
  | bk ρ => rw [z] at hF; cases hF
  | ct ρ => rw [z] at hF; cases hF
  | bad => rw [z] at hF; cases hF
end
end DL
namespace DL
open PySem PySem.Spec L2
open PyProof.Rows hiding St
section
variable {K : PySem.W.Frag} {B G0 G H : Hp} {σ : St} {ρ : DEnv}
theorem EOk.unset {i : Nat} (k : EOk K B G0 G H σ ρ) : EOk K B G0 G H (σ.set i none) (ρ.set i none) where
 bh := k.bh
 gh := k.gh
 g0 := k.g0
 np := k.np
 len := by rw [List.length_set, List.length_set]; exact k.len
 pub := fun j d' q => by
  by_cases z : i = j
  ·subst z
   have := zau q
   cases this
  ·rw [List.getElem?_set_ne z] at q ⊢
   exact k.pub j d' q
 own := fun j ds q => by
  by_cases z : i = j
  ·subst z
   have := zau q
   cases this
  ·rw [List.getElem?_set_ne z] at q ⊢
   exact k.own j ds q
 sep := fun j l c es fs q1 q2 s1 s2 => by
  have z1 : i ≠ j := fun z => by subst z; have := zau q1; cases this
  have z2 : i ≠ l := fun z => by subst z; have := zau q2; cases this
  rw [List.getElem?_set_ne z1] at q1 s1
  rw [List.getElem?_set_ne z2] at q2 s2
  exact k.sep j l c es fs q1 q2 s1 s2
end
def CK (K : PySem.W.Frag) (mg : Str -> Option Value) (x : Str) : Prop := ∃ D bm, mg x = some (.ref D) /\ ClsK K x D bm
def zdN (x : Str) : D -> Bool
 | .dict [(.none, .tuple [.str nm, _])] => decide (x = nm) || decide (x = "DealError")
 | _ => false
def sTry (i : Nat) (x : Str) (g h : SM) : SM := fun ρ => match g ρ with
 | .ex ρ1 d => if zdN x d = true /\ i < ρ1.length then (match h (ρ1.set i (some (.pub d))) with
  | .nx ρ2 => .nx (ρ2.set i none)
  | .bk ρ2 => .bk (ρ2.set i none)
  | .ct ρ2 => .ct (ρ2.set i none)
  | .rt d2 => .rt d2
  | _ => .bad) else .bad
 | o => o
section
variable {X : Cx} {B G0 : Hp} {KX : XW} {e a b c : Expr} {pos p2 cpos np hpos : Pos} {es : List Expr} {x n : Str} {k kk : Nat}
theorem zfm {K : PySem.W.Frag} {G : Hp} {v : V} {d : D} {D' : Addr} {bmD : List Value} (r : Rep K G v d) (h : zdN x d = true) (cD : ClsK K x D' bmD) :
  ∃ a C dd bm, v = .ref a /\ KC K C bm /\ G a = some (.ext (XO false a C dd)) /\ (Value.ref C :: bm).contains (.ref D') = true := by
 unfold zdN at h
 split at h
 ·obtain ⟨a, C, dd, bm, nm', vs, ds, rfl, e0, c, hx, _, _⟩ := r.exc_inv
  cases e0
  exact ⟨a, C, dd, bm, rfl, ⟨_, c⟩, hx, by rw [c.has cD]; exact h⟩
 ·cases h
theorem zjr {i : Nat} {g h : SM} {body suite : List Stmt} {b₀ : Stmt} {st : List Env} (cD : CK X.K X.mg x) (hg : Gl X x) (hN : X.N.Nodup) (hi : X.N[i]? = some n) (hl : X.env.kindOf n = some .local)
  (hb : ∀ (KX' : XW) (W : Value -> Shared -> Prop) (pn : List (Addr × Obj)), zb6 (X.tried W pn) KX' -> PSs (X.tried W pn) body (tS X.K B G0 KX' g)) (hs : ∀ a, PSs (X.suite a) (b₀ :: suite) (tS X.K B G0 KX0 h))
  (hstk : X.stack = X.env :: st := by rfl) (hfr : X.env.frame = some X.env.locals := by rfl) (hdb : (x == ("__debug__" : Str)) = false := by decide) :
  PS X (.Try body [.ExceptHandler (some (.Name x np)) (some n) (b₀ :: suite) hpos] [] [] pos) (tS X.K B G0 KX (sTry i x g h)) := PS.kin fun kin => by
 obtain ⟨D', bmD, hm, ck⟩ := cD
 obtain ⟨fD, xD⟩ := ck.cls (model X.prog X.w) X.base kin
 refine psof (ziR (KC := KC X.K) (tb := fun KX' => tS X.K B G0 KX' g) (ts := tS X.K B G0 KX0 h) hstk hfr (zcn kin) xD hg hm hN hi hl hb hs hdb) fun Dn σ H ⟨G, ρ, k, a⟩ => ?_
 refine ⟨G, ρ, k, ?_⟩
 unfold sTry at a
 cases z : g ρ with
 | nx ρ1 => rw [z] at a; exact a
 | rt d => rw [z] at a; exact a
 | bk ρ1 => rw [z] at a; exact a
 | ct ρ1 => rw [z] at a; exact a
 | bad => rw [z] at a; exact a.elim
 | ex ρ1 d =>
  rw [z] at a
  dsimp only at a
  intro v σ1 G1 H1 k1 s1 r
  by_cases hc : zdN x d = true /\ i < ρ1.length
  ·rw [if_pos hc] at a
   obtain ⟨ad, C, dd, bm, rfl, kc, hx, hct⟩ := zfm r hc.1 ck
   refine ⟨ad, C, dd, bm, rfl, kc, k1.gh _ _ hx, hct, G1, _, k1.setPub r hc.2, ?_⟩
   cases z2 : h (ρ1.set i (some (.pub d))) with
   | nx ρ2 => rw [z2] at a; exact fun σ2 G2 H2 k2 s2 => a _ G2 H2 k2.unset (s1.trans s2)
   | bk ρ2 => rw [z2] at a; exact fun σ2 G2 H2 k2 s2 => a _ G2 H2 k2.unset (s1.trans s2)
   | ct ρ2 => rw [z2] at a; exact fun σ2 G2 H2 k2 s2 => a _ G2 H2 k2.unset (s1.trans s2)
   | rt d2 => rw [z2] at a; exact a
   | ex _ _ => rw [z2] at a; exact a.elim
   | bad => rw [z2] at a; exact a.elim
  ·rw [if_neg hc] at a; exact a.elim
def oIsX (x : Str) : D -> Option D
 | .dict [(.none, .tuple [.str nm, _])] => some (.bool (decide (x = nm) || decide (x = "DealError")))
 | _ => none
theorem zaL {f : M D} {p3 : Pos} (cD : CK X.K X.mg x) (hg : Gl X "isinstance") (hm : X.mg "isinstance" = none) (hg2 : Gl X x) (ha : PE X e (tD X.K B G0 f)) (hdb : (x == ("__debug__" : Str)) = false := by decide)
  (hs : starEach [e, .Name x p3] X.env = (false, eval e X.env) :: starEach [.Name x p3] X.env := by rfl)
  (hs2 : starEach [.Name x p3] X.env = [(false, eval (.Name x p3) X.env)] := by rfl) :
  PE X (.Call (.Name "isinstance" p2) [e, .Name x p3] [] pos) (tD X.K B G0 (zaf f fun d => mOpt (oIsX x d))) := PE.kin fun kin => by
 obtain ⟨D', bmD, hm2, ck⟩ := cD
 refine peof (zbt (zcl (zcn kin)) hg hm zaO (zaJ ha (zaJ (zc9 (v := .ref D') hg2 hm2 rfl hdb) zbs (by rw [hs2]; rfl)) hs) (by decide) (by decide) hs (by rw [hs2]; rfl)) fun σ H Q q => ?_
 refine tM.one (R := Rep X.K) q fun v H2 G ρ d k r a => ?_
 obtain ⟨d', e', a'⟩ := aft.opt a
 unfold oIsX at e'
 split at e'
 ·obtain ⟨ad, C, dd, bm, nm', vs, ds, rfl, e0, c, hx, _, _⟩ := r.exc_inv
  cases e0
  cases e'
  exact ⟨ad, C, dd, bm, false, .ref D', _, rfl, ⟨_, c⟩, k.gh _ _ hx, .inl ⟨D', bmD, rfl, ⟨_, ck⟩, c.has ck⟩, a'.now k (.bl _)⟩
 ·cases e'
def oIsV : D -> Option D
 | .dict [(.none, _)] => some (.bool true)
 | _ => none
theorem zh2 : bootBuiltins "ValueError" = some (.type "ValueError") := by decide +kernel
theorem zh3 {f : M D} {p3 : Pos} (hg : Gl X "isinstance") (hm : X.mg "isinstance" = none) (hg2 : Gl X "ValueError") (hm2 : X.mg "ValueError" = none) (ha : PE X e (tD X.K B G0 f))
  (hs : starEach [e, .Name "ValueError" p3] X.env = (false, eval e X.env) :: starEach [.Name "ValueError" p3] X.env := by rfl)
  (hs2 : starEach [.Name "ValueError" p3] X.env = [(false, eval (.Name "ValueError" p3) X.env)] := by rfl) :
  PE X (.Call (.Name "isinstance" p2) [e, .Name "ValueError" p3] [] pos) (tD X.K B G0 (zaf f fun d => mOpt (oIsV d))) := PE.kin fun kin => by
 refine peof (zbt (zcl (zcn kin)) hg hm zaO (zaJ ha (zaJ (zes (v := .ty "ValueError") hg2 hm2 zh2 rfl (by decide) (by decide)) zbs (by rw [hs2]; rfl)) hs) (by decide) (by decide) hs (by rw [hs2]; rfl)) fun σ H Q q => ?_
 refine tM.one (R := Rep X.K) q fun v H2 G ρ d k r a => ?_
 obtain ⟨d', e', a'⟩ := aft.opt a
 unfold oIsV at e'
 split at e'
 ·obtain ⟨ad, C, dd, bm, nm', vs, ds, rfl, e0, c, hx, _, _⟩ := r.exc_inv
  cases e0
  cases e'
  exact ⟨ad, C, dd, bm, false, .ty "ValueError", true, rfl, ⟨_, c⟩, k.gh _ _ hx, .inr ⟨"ValueError", rfl, zeK, by rw [c.ty]; rfl⟩, a'.now k (.bl _)⟩
 ·cases e'
def oFld (f : Str) : D -> Option D
 | .dict [(.none, .tuple [.str nm, .list ds])] => ((zaV nm).zip ds).lookup f
 | _ => none
theorem zcd {K : PySem.W.Frag} {G : Hp} {f : Str} : ∀ {fs : List Str} {vs : List V} {ds : List D} {d : D}, Reps K G vs ds -> (fs.zip ds).lookup f = some d -> f ∈ fs /\ ∃ v, (fs.zip vs).lookup f = some v /\ Rep K G v d
 | [], vs, ds, d, _, e => by simp at e
 | g :: fs, _, _, d, .nil, e => by simp at e
 | g :: fs, _, _, d, @Reps.cons _ _ v d0 vs ds r t, e => by
  rw [List.zip_cons_cons, List.lookup_cons] at e
  rw [List.zip_cons_cons, List.lookup_cons]
  cases z : f == g with
  | true =>
   rw [z] at e
   cases e
   exact ⟨by rw [beq_iff_eq.mp z]; exact List.mem_cons_self, v, rfl, r⟩
  | false =>
   rw [z] at e
   obtain ⟨h1, h2⟩ := zcd t e
   exact ⟨List.mem_cons_of_mem _ h1, h2⟩
theorem zbh {f : M D} {fl : Str} (he : PE X e (tD X.K B G0 f)) (hb : attributeBase e fl X.env (eval e X.env) = eval e X.env := by rfl) (hq : fl ∈ (["part", "number", "row"] : List Str) := by decide) :
  PE X (.Attribute e fl pos) (tD X.K B G0 (zaf f fun d => mOpt (oFld fl d))) := PE.kin fun kin => by
 refine peof (zhn (zcn kin) (fun C bm ⟨nm, c⟩ => c.fld _ _ kin fl hq) he hb) fun σ H Q q => ?_
 refine tM.one (R := Rep X.K) q fun v H2 G ρ d k r a => ?_
 obtain ⟨d', e', a'⟩ := aft.opt a
 unfold oFld at e'
 split at e'
 ·obtain ⟨ad, C, dd, bm, nm', vs, ds, rfl, rfl', c, hx, hd, rr⟩ := r.exc_inv
  cases rfl'
  obtain ⟨hm, w, e1, rw⟩ := zcd rr e'
  cases dd with
  | none => rw [hd.1] at hm; cases hm
  | some dx => exact ⟨ad, C, bm, dx, _, w, false, rfl, ⟨_, c⟩, k.gh _ _ hx, k.gh _ _ hd.2, e1, a'.now k rw⟩
 ·cases e'
def oMkX (nm : Str) (ds : List D) : Option D := (zc1 nm ds).map (exD nm)
end
end DL
namespace DL
open PySem PySem.Spec L2
open PyProof.Rows hiding St
def zgs (o : Expr) (name : Str) (apos : Pos) (args : List Expr) (pos : Pos) : Prop := ∀ env : Env, ∃ pl : Sem Bool, eval (.Call (.Attribute o name apos) args [] pos) env = (do
   let ov ← eval o env
   standAt apos.atName
   let (f, first) ← holding [ov] (getMethod ov name pl)
   callWith pos f first (backTo pos (starEach args env)) (backToKw pos (keywordEach [] env)))
section
variable {P : Program} {w : World} {K : PySem.W.Frag} {mg : Str -> Option Value} {base : Heap} {st : Stmt} {f f0 D : Addr} {fd fd0 : FuncData} {q : Str} {p1 p2 p3 p4 p5 p6 p7 p8 p9 r1 r2 r3 r4 r5 r6 r7 r8 r9 q1 q2 : Pos} {j1 j2 : Nat}
theorem zh4 (F : Fun K "__init__" q st f fd) (hn : FnNm (zag st) ["self", "text"] ["ValueError"]) (hm : mg "ValueError" = none)
  (hb : zaA st = [.Expr (.Call (.Attribute (.Name "ValueError" p1) "__init__" p2) [.Name "self" p3, .Name "text" p4] [] p5) p6])
  (ht : zgs (.Name "ValueError" p1) "__init__" p2 [.Name "self" p3, .Name "text" p4] p5) :
  FnOk P w K mg base CX0 1 f fd ["self", "text"] (zbo (KC K)) := by
 refine F.ok (fq hn 2) (fun vs H Q E ⟨a, C, dd, bm, x, e, _⟩ => by rw [e]; rfl) fun cdv A outer s H vs Q E hr ⟨a, C, dd, bm, x, e, kc, hx, hq⟩ => ?_
 subst e
 rw [hb]
 obtain ⟨pl, ht⟩ := ht (cxOf CX0 P w K mg base ["self", "text"] q (zag st) f cdv A outer s H E).nox.env
 refine ⟨zfG (zgJ (KC K) (zdb (tVar 0) (zdb (tVar 1) tNil))), PSs.kin fun kin => zci (zbO (zfV (pl := pl) (zcn kin) (gq hn 0) hm (zaJ (pq hn 0) (zaJ (pq hn 1) zbs)) (ht := ht))), ?_⟩
 exact ⟨_, rfl, _, rfl, a, C, dd, bm, _, rfl, kc, hx, hq⟩
theorem zaz (x y : Str) : (x ++ y).length = x.length + y.length := by
 show (x.cps ++ y.cps).size = x.cps.size + y.cps.size
 exact Array.size_append
theorem zh5 {t1 t2 : Str} (M : zeL K D "__init__" f0) (F0 : FnOk P w K mg base CX0 1 f0 fd0 ["self", "text"] (zbo (KC K))) (hb0 : za8 K fd0 ["self", "text"] []) (hm : mg "DealError" = some (.ref D))
  (F : Fun K "__init__" q st f fd) (hn : FnNm (zag st) ["self", "part", "number"] ["DealError"])
  (hb : zaA st = [.Expr (.Call (.Attribute (.Name "DealError" p1) "__init__" p2) [.Name "self" p3, .JoinedStr [.Constant (.str t1) j1 p4, .FormattedValue (.Name "part" p5) (-1) none p6, .Constant (.str t2) j2 p7, .FormattedValue (.Name "number" p8) (-1) none p9] r1] [] r2) r3,
   .Assign [.Attribute (.Name "self" r4) "part" r5] (.Name "part" r6) r7, .Assign [.Attribute (.Name "self" r8) "number" r9] (.Name "number" q1) q2])
  (ht : zgs (.Name "DealError" p1) "__init__" p2 [.Name "self" p3, .JoinedStr [.Constant (.str t1) j1 p4, .FormattedValue (.Name "part" p5) (-1) none p6, .Constant (.str t2) j2 p7, .FormattedValue (.Name "number" p8) (-1) none p9] r1] r2)
  (hl1 : t1.length <= 1000) (hl2 : t2.length <= 1000) :
  FnOk P w K mg base CX0 2 f fd ["self", "part", "number"] (zcm (KC K) ["part", "number"]) := by
 refine F.ok (fq hn 3) (fun vs H Q E ⟨a, C, bm, us, e, hl, _⟩ => by rw [e, List.length_cons, hl]; rfl) fun cdv A outer s H vs Q E hr ⟨a, C, bm, us, e, hl, kc, hx, hf, hq⟩ => ?_
 subst e
 match us, hl with
 | [u1, u2], _ =>
 rw [hb]
 obtain ⟨pl, ht⟩ := ht (cxOf CX0 P w K mg base ["self", "part", "number"] q (zag st) f cdv A outer s H E).nox.env
 obtain ⟨y1, f1, g1⟩ := hf u1 (by simp)
 obtain ⟨y2, f2, g2⟩ := hf u2 (by simp)
 refine ⟨tSeq (zfG (zfL (zbo (KC K)) [] E0 (zdb (tVar 0) (zdb (zeM [tC (.str t1), tFmt (tVar 1), tC (.str t2), tFmt (tVar 2)] Str.empty) tNil)))) (tSeq (zfW (KC K) (tVar 0) (tVar 1) "part") (zfW (KC K) (tVar 0) (tVar 2) "number")),
  PSs.kin fun kin => zbL (zbO (zdB (pl := pl) M F0 hr hb0 (gq hn 0) hm (zaJ (pq hn 0) (zaJ (zcN (.cons zdu (.cons (zeN (pq hn 1)) (.cons zdu (.cons (zeN (pq hn 2)) .nil))))) zbs)) (ht := ht)))
   (zbL (zdi (zcn kin) (fun C bm ⟨nm, c⟩ => c.fld _ _ kin "part" (by decide)) (pq hn 0) (pq hn 1) rfl) (zci (zdi (zcn kin) (fun C bm ⟨nm, c⟩ => c.fld _ _ kin "number" (by decide)) (pq hn 0) (pq hn 2) rfl))), ?_⟩
 have e0 : (Str.empty : Str).length = 0 := rfl
 have lz : (10000 : Nat) <= sizeLine := by decide
 refine ⟨_, rfl, t1, rfl, by rw [zaz]; omega, _, rfl, y1, f1, _, rfl, by rw [zaz, zaz]; omega, t2, rfl, by rw [zaz, zaz, zaz]; omega, _, rfl, y2, f2, _, rfl, by rw [zaz, zaz, zaz, zaz]; omega, by rw [zaz, zaz, zaz, zaz]; omega, ?_⟩
 refine ⟨a, C, none, bm, _, rfl, kc, hx, ?_⟩
 refine ⟨_, rfl, _, rfl, a, C, bm, rfl, kc, .inl ⟨hx, fun dx hd hne => ?_⟩⟩
 refine ⟨_, rfl, _, rfl, a, C, bm, rfl, kc, .inr ⟨dx, _, hne, by rw [zak (Ne.symm hne)]; exact zai, zai, (show 1 < 900 by decide), ?_⟩⟩
 rw [zep]
 exact hq dx hd hne
theorem zfn {t1 g : Str} (M : zeL K D "__init__" f0) (F0 : FnOk P w K mg base CX0 1 f0 fd0 ["self", "text"] (zbo (KC K))) (hb0 : za8 K fd0 ["self", "text"] []) (hm : mg "DealError" = some (.ref D))
  (F : Fun K "__init__" q st f fd) (hn : FnNm (zag st) ["self", g] ["DealError"]) (hg : g ∈ (["part", "number", "row"] : List Str)) (hd1 : (g == ("__debug__" : Str)) = false := by decide) (hd2 : (g == ("__classdict__" : Str)) = false := by decide)
  (hb : zaA st = [.Expr (.Call (.Attribute (.Name "DealError" p1) "__init__" p2) [.Name "self" p3, .JoinedStr [.Constant (.str t1) j1 p4, .FormattedValue (.Name g p5) (-1) none p6] r1] [] r2) r3,
   .Assign [.Attribute (.Name "self" r4) g r5] (.Name g r6) r7])
  (ht : zgs (.Name "DealError" p1) "__init__" p2 [.Name "self" p3, .JoinedStr [.Constant (.str t1) j1 p4, .FormattedValue (.Name g p5) (-1) none p6] r1] r2)
  (hl1 : t1.length <= 1000) :
  FnOk P w K mg base CX0 2 f fd ["self", g] (zcm (KC K) [g]) := by
 refine F.ok (fq hn 2) (fun vs H Q E ⟨a, C, bm, us, e, hl, _⟩ => by rw [e, List.length_cons, hl]; rfl) fun cdv A outer s H vs Q E hr ⟨a, C, bm, us, e, hl, kc, hx, hf, hq⟩ => ?_
 subst e
 match us, hl with
 | [u1], _ =>
 rw [hb]
 obtain ⟨pl, ht⟩ := ht (cxOf CX0 P w K mg base ["self", g] q (zag st) f cdv A outer s H E).nox.env
 obtain ⟨y1, f1, g1⟩ := hf u1 (by simp)
 have v1 : ∀ {pos : Pos}, PE (cxOf CX0 P w K mg base ["self", g] q (zag st) f cdv A outer s H E).nox (.Name g pos) (tVar 1) := pq hn 1 rfl hd1 hd2
 refine ⟨tSeq (zfG (zfL (zbo (KC K)) [] E0 (zdb (tVar 0) (zdb (zeM [tC (.str t1), tFmt (tVar 1)] Str.empty) tNil)))) (zfW (KC K) (tVar 0) (tVar 1) g),
  PSs.kin fun kin => zbL (zbO (zdB (pl := pl) M F0 hr hb0 (gq hn 0) hm (zaJ (pq hn 0) (zaJ (zcN (.cons zdu (.cons (zeN v1) .nil))) zbs)) (ht := ht)))
   (zci (zdi (zcn kin) (fun C bm ⟨nm, c⟩ => c.fld _ _ kin g hg) (pq hn 0) v1 rfl)), ?_⟩
 have e0 : (Str.empty : Str).length = 0 := rfl
 have lz : (10000 : Nat) <= sizeLine := by decide
 refine ⟨_, rfl, t1, rfl, by rw [zaz]; omega, _, rfl, y1, f1, _, rfl, by rw [zaz, zaz]; omega, by rw [zaz, zaz]; omega, ?_⟩
 refine ⟨a, C, none, bm, _, rfl, kc, hx, ?_⟩
 exact ⟨_, rfl, _, rfl, a, C, bm, rfl, kc, .inl ⟨hx, fun dx hd hne => hq dx hd hne⟩⟩
end
end DL
namespace DL
open PySem PySem.Spec L2
open PyProof.Rows hiding St
structure XSt (h : Heap) (nm : Str) (own : Option Stmt) (C N : Addr) (bm : List Value) (mN : Str -> Option Value) : Prop where
 ad : h.nsMap mainGlobals nm = some (.ref C)
 obj : ∃ q bs sn sub ab col dd k0 k1 k2 k3 k5, h.get? C = some (excClassObj nm q C N bs bm true sn sub ab col dd k0 k1 k2 k3 k5 "ValueError.__new__")
 ns : h.Ns N mN
 quiet : ∀ x ∈ zem, mN x = none
 up : nm = "DealError" /\ bm = VB ∨ nm ≠ "DealError" /\ ∃ D, h.nsMap mainGlobals "DealError" = some (.ref D) /\ bm = .ref D :: VB
 init : match own with
  | none => mN "__init__" = none
  | some st => ∃ f o pm cd doc, mN "__init__" = some (.ref f) /\ h.get? f = some o /\ o.cls = .type "function" /\ o.data = .func (methDef "__init__" (zcz nm) (zaS st) (zaA st) (zag st) pm cd doc) /\ h.CodeRec cd (zcz nm)
section
variable {h h' : Heap} {nm : Str} {own : Option Stmt} {C N : Addr} {bm : List Value} {mN : Str -> Option Value}
theorem zb1 {a : Addr} {x : Str} {v : Value} (e : h.nsMap a x = some v) (k : ∀ b o, h.get? b = some o -> h'.get? b = some o) : h'.nsMap a x = some v := by
 unfold Heap.nsMap at e ⊢
 cases z : h.get? a with
 | none => rw [z] at e; cases e
 | some o => rw [k _ _ z]; rw [z] at e; exact e
theorem XSt.keeps (x : XSt h nm own C N bm mN) (k : ∀ b o, h.get? b = some o -> h'.get? b = some o) : XSt h' nm own C N bm mN where
 ad := zb1 x.ad k
 obj := let ⟨q, bs, sn, sub, ab, col, dd, k0, k1, k2, k3, k5, e⟩ := x.obj; ⟨q, bs, sn, sub, ab, col, dd, k0, k1, k2, k3, k5, k _ _ e⟩
 ns := x.ns.keeps k
 quiet := x.quiet
 up := x.up.imp id fun ⟨a, D, b, c⟩ => ⟨a, D, zb1 b k, c⟩
 init := by
  have z := x.init
  cases own with
  | none => exact z
  | some st =>
   obtain ⟨f, o, pm, cd, doc, h1, h2, h3, h4, h5⟩ := z
   exact ⟨f, o, pm, cd, doc, h1, k _ _ h2, h3, h4, h5.keeps k⟩
theorem dA (st : Stmt) : zia st = zaS st := by cases st <;> rfl
theorem dB (st : Stmt) : zib st = zaA st := by cases st <;> rfl
theorem dS (st : Stmt) : zgC st = zag st := by cases st <;> rfl
structure XYP (p : Program) (l : XL0) (h : Heap) : Prop where
 st : ∃ mc, h.Ns cStatics mc /\ mc "thirdparty.any" = none
 cl : ∀ c ∈ l, ∃ C N bm mN, XSt h c.1 (c.2.map fun i => zaQ (stAt p i)) C N bm mN
theorem XYP.keeps {p : Program} {l : XL0} (x : XYP p l h) (k : ∀ b o, h.get? b = some o -> h'.get? b = some o) : XYP p l h' :=
 ⟨let ⟨mc, a, b⟩ := x.st; ⟨mc, a.keeps k, b⟩, fun c hc => let ⟨C, N, bm, mN, z⟩ := x.cl c hc; ⟨C, N, bm, mN, z.keeps k⟩⟩
theorem zjs {st : Stmt} {n : Bool} (b : xB h nm n = true) (hown : own = none -> n = false) (hs : ∀ st, own = some st -> xSh h nm = some (true, shOf nm st)) : ∃ C N bm mN, XSt h nm own C N bm mN := by
 unfold xB at b
 split at b
 ·rename_i C hC
  split at b
  ·rename_i t dd cd sl ho
   simp only [Bool.and_eq_true, Bool.not_eq_true', beq_iff_eq, Bool.or_eq_true, List.all_eq_true, Option.isNone_iff_eq_none] at b
   obtain ⟨⟨⟨⟨⟨⟨⟨⟨b1, b2⟩, b3⟩, b4⟩, b5⟩, b6⟩, b7⟩, b8⟩, b9⟩ := b
   obtain ⟨cn, cb, cm, cns, cq, chd, csn, csub, cab, ccol, cdel⟩ := cd
   simp only at b2 b3 b4 b6 b7 b8 b9
   subst b1 b2 b3 b4
   split at b5
   ·rename_i k0 k1 k2 k3 k4 k5 hsl
    have b5 := of_decide_eq_true b5
    subst b5
    have hsl' : sl = #[k0, k1, k2, k3, some (.builtin "ValueError.__new__"), k5] := by
     rw [← Array.toList_inj, hsl]
    subst hsl'
    have key : ∃ bm, cm = .ref C :: bm /\ (cn = "DealError" /\ bm = VB ∨ cn ≠ "DealError" /\ ∃ D, h.nsMap mainGlobals "DealError" = some (.ref D) /\ bm = .ref D :: VB) := by
     split at b9
     ·rename_i e
      exact ⟨VB, of_decide_eq_true b9, .inl ⟨e, rfl⟩⟩
     ·rename_i e
      split at b9
      ·rename_i D hD
       exact ⟨.ref D :: VB, of_decide_eq_true b9, .inr ⟨e, D, hD, rfl⟩⟩
      ·cases b9
    obtain ⟨bm, rfl, up⟩ := key
    refine ⟨C, cns, bm, h.nsMap cns, hC, ⟨_, _, _, _, _, _, _, _, _, _, _, _, ho⟩, .of_isNs b6, b7, up, ?_⟩
    cases own with
    | none =>
     rcases b8 with b8 | b8
     ·rw [hown rfl] at b8; cases b8
     ·exact b8
    | some st =>
     have e := hs st rfl
     unfold xSh at e
     rw [hC] at e
     dsimp only at e
     rw [ho] at e
     dsimp only at e
     split at e
     ·rename_i a o fd sh hf hsh
      simp only [Option.some.injEq, Prod.mk.injEq, decide_eq_true_eq] at e
      obtain ⟨e1, rfl⟩ := e
      obtain ⟨g1, g2, g3⟩ := Heap.fnAt_spec hf
      unfold Heap.shapeAt at hsh
      rw [hf] at hsh
      obtain ⟨n, q, ps, b, sc, g, cl, df, kd, doc, pm, an, code, ct, bi⟩ := fd
      simp only [Option.map_some, shOf, dA, dB, dS, Option.some.injEq, FnShape.mk.injEq] at hsh
      obtain ⟨rfl, rfl, rfl, rfl, rfl, rfl, rfl, rfl, rfl, rfl, rfl, rfl, hc⟩ := hsh
      exact ⟨a, o, pm, code, doc, g1, g2, e1, g3, .of_ok hc⟩
     ·cases e
   ·cases b5
  ·cases b
 ·cases b
theorem zjt {p : Program} {l : XL0} {s : Shared} (e : xSeen l s = xGood p l) : XYP p l s.heap := by
 unfold xSeen xGood at e
 obtain ⟨e1, e2⟩ := Prod.mk.inj e
 obtain ⟨e1, e3⟩ := Bool.and_eq_true_iff.mp e1
 refine ⟨⟨_, .of_isNs e1, Option.isNone_iff_eq_none.mp e3⟩, fun c hc => ?_⟩
 have q := List.map_inj_left.mp e2 c hc
 obtain ⟨q1, q2⟩ := Prod.mk.inj q
 refine zjs (st := .Pass ⟨0, 0, 0, 0⟩) q1 (fun z => ?_) fun st z => ?_
 ·cases hz : c.2 with
  | none => rfl
  | some i => rw [hz] at z; cases z
 ·cases hz : c.2 with
  | none => rw [hz] at z; cases z
  | some i =>
   rw [hz] at z q2
   cases z
   exact q2
end
end DL
namespace DL
open PySem PySem.Spec L2
open PyProof.Rows hiding St
theorem zgZ : mroOf (.type "ValueError") = pure VB := by kernel_rfl
theorem zko : typeLookup (.type "ValueError") "__setattr__" = pure (some (.builtin "object.__setattr__")) := by kernel_rfl
theorem zkp : typeLookup (.type "ValueError") "__getattribute__" = pure (some (.builtin "BaseException.__getattribute__")) := by kernel_rfl
theorem zkq : typeLookup (.type "ValueError") "__getattr__" = pure none := by kernel_rfl
theorem zkr : typeLookup (.type "ValueError") "__class__" = pure (some (.builtin "object.__class__")) := by kernel_rfl
theorem zh6 : typeLookup (.type "ValueError") "part" = pure none := by kernel_rfl
theorem zfo : typeLookup (.type "ValueError") "number" = pure none := by kernel_rfl
theorem zju : typeLookup (.type "ValueError") "row" = pure none := by kernel_rfl
theorem zfp (v : Value) : refuseLoop v "__setattr__" VB = pure () := by kernel_rfl
section
variable {h h' : Heap} {nm : Str} {own ownD : Option Stmt} {C N D ND : Addr} {bm : List Value} {mN mD : Str -> Option Value} {M : Model}
theorem XSt.along (x : XSt h nm own C N bm mN) (xD : XSt h "DealError" ownD D ND VB mD) {y : Str} {r : Option Value} (hy : y ∈ zem) (hB : typeLookup (.type "ValueError") y = pure r) : zaB M C y r h := by
 obtain ⟨q, bs, sn, sub, ab, col, dd, k0, k1, k2, k3, k5, e⟩ := x.obj
 obtain ⟨q', bs', sn', sub', ab', col', dd', k0', k1', k2', k3', k5', e'⟩ := xD.obj
 refine zaB.of e (zbn.miss e x.ns (x.quiet y hy) ?_)
 rcases x.up with ⟨_, rfl⟩ | ⟨_, D', hD', rfl⟩
 ·exact zbn.base zgZ hB
 ·have := hD'.symm.trans xD.ad
  cases this
  exact zbn.miss e' xD.ns (xD.quiet y hy) (zbn.base zgZ hB)
theorem XSt.tail (x : XSt h nm own C N bm mN) : Tail VB bm := by
 rcases x.up with ⟨_, rfl⟩ | ⟨_, D', _, rfl⟩
 ·exact Tail.base
 ·exact Tail.own Tail.base
def zgt (h : Heap) (own ownD : Option Stmt) (mN mD : Str -> Option Value) (nm : Str) (f : Addr) : Prop := match own with
 | some _ => mN "__init__" = some (.ref f)
 | none => mD "__init__" = some (.ref f)
theorem XSt.xcls (x : XSt h nm own C N bm mN) {std : Stmt} (xD : XSt h "DealError" (some std) D ND VB mD) {f : Addr} (hf : zgt h own (some std) mN mD nm f) : XCls M h C bm f := by
 have hD := xD.init
 obtain ⟨fD, oD, pmD, cdD, docD, g1, g2, g3, g4, g5⟩ := hD
 obtain ⟨q, bs, sn, sub, ab, col, dd, k0, k1, k2, k3, k5, e⟩ := id x.obj
 obtain ⟨q', bs', sn', sub', ab', col', dd', k0', k1', k2', k3', k5', e'⟩ := id xD.obj
 have fin : zaB M C "__init__" (some (.ref f)) h /\ ∃ o, h.get? f = some o /\ o.cls = .type "function" := by
  have z := x.init
  unfold zgt at hf
  cases own with
  | some st =>
   obtain ⟨f', o, pm, cd, doc, h1, h2, h3, h4, h5⟩ := z
   have hf : mN "__init__" = some (.ref f) := hf
   rw [h1] at hf
   cases hf
   exact ⟨zaB.of e (zbn.hit e x.ns h1), o, h2, h3⟩
  | none =>
   have hf : mD "__init__" = some (.ref f) := hf
   have z : mN "__init__" = none := z
   rw [g1] at hf
   cases hf
   refine ⟨zaB.of e (zbn.miss e x.ns z ?_), oD, g2, g3⟩
   rcases x.up with ⟨hn, rfl⟩ | ⟨_, D', hD', rfl⟩
   ·subst hn
    have := x.ad.symm.trans xD.ad
    cases this
    rw [e] at e'
    cases e'
    have := x.ns.eq_nsMap.trans xD.ns.eq_nsMap.symm
    rw [this] at z
    rw [g1] at z
    cases z
   ·have := hD'.symm.trans xD.ad
    cases this
    exact zbn.hit e' xD.ns g1
 refine ⟨⟨nm, q, N, bs, sn, sub, ab, col, dd, k0, k1, k2, k3, k5, e⟩, x.tail, fin.1, fin.2, x.along xD (by decide) zko, x.along xD (by decide) zkp, x.along xD (by decide) zkq, x.along xD (by decide) zkr, fun v => ?_⟩
 rcases x.up with ⟨_, rfl⟩ | ⟨_, D', _, rfl⟩
 ·exact zfp v
 ·rw [refuseLoop_ref]; exact zfp v
theorem zav (k : (whole h).In h') : ∀ b o, h.get? b = some o -> h'.get? b = some o := fun b o e => k b o (by rw [zaq]; exact e)
theorem zbE {mA : Str -> Option Value} {a : Addr} (n : h.Ns a mA) (y : Str) : PySem.W.nsIn (whole h) a y = some (mA y) := by
 obtain ⟨⟨oc, od, dt, os⟩, es, ep, ho, hd, hk, hf⟩ := n
 have hd : dt = _ := hd
 subst hd
 unfold PySem.W.nsIn
 rw [zaq, ho]
 dsimp only
 have := hf y
 unfold nsFind findBy at this
 rw [← Array.find?_toList] at this
 dsimp only at this
 rw [← this]
 cases z : es.toList.find? (·.key.isStr y) with
 | some e => rfl
 | none =>
  dsimp only
  rw [if_neg]
  ·rfl
  ·rw [List.any_eq_true]
   rintro ⟨e, he, hr⟩
   obtain ⟨n, t, hk⟩ := hk e (Array.mem_toList_iff.mp he)
   unfold DictEntry.refKey at hr
   rw [hk] at hr
   cases hr
theorem XSt.nmd (x : XSt h nm own C N bm mN) : NmAt (whole h) nm C := by
 obtain ⟨q, bs, sn, sub, ab, col, dd, k0, k1, k2, k3, k5, e⟩ := x.obj
 exact ⟨_, _, by rw [zaq]; exact e, rfl, rfl⟩
theorem zb2 {mg : Str -> Option Value} (n : h.Ns mainGlobals mg) (e : h.nsMap mainGlobals nm = some (.ref C)) : zfX (whole h) nm = some C := by
 unfold zfX
 rw [zbE n, n.eq_nsMap, e]
theorem XSt.clsK {mg : Str -> Option Value} (n : h.Ns mainGlobals mg) (x : XSt h nm own C N bm mN) {std : Stmt} (xD : XSt h "DealError" (some std) D ND VB mD) {f : Addr} (hf : zgt h own (some std) mN mD nm f) : ClsK (whole h) nm C bm where
 ad := zb2 n x.ad
 nmd := x.nmd
 up := x.up.imp id fun ⟨a, D', b, c⟩ => ⟨a, D', zb2 n b, c, by
  have := b.symm.trans xD.ad
  cases this
  exact xD.nmd⟩
 cls := fun M h' k => ⟨f, (x.keeps (zav k)).xcls (xD.keeps (zav k)) (by
  unfold zgt at hf ⊢
  cases own <;> exact hf)⟩
 fld := fun M h' k y hy => by
  have z := x.keeps (zav k)
  have zD := xD.keeps (zav k)
  simp only [List.mem_cons, List.not_mem_nil, or_false] at hy
  rcases hy with rfl | rfl | rfl
  ·exact z.along zD (by decide) zh6
  ·exact z.along zD (by decide) zfo
  ·exact z.along zD (by decide) zju
theorem XSt.keep (x : XSt h nm own C N bm mN) : PySem.W.keepIn (whole h) (.ref C) = true := by
 obtain ⟨q, bs, sn, sub, ab, col, dd, k0, k1, k2, k3, k5, e⟩ := x.obj
 unfold PySem.W.keepIn
 dsimp only
 rw [zaq, e]
 dsimp only
 unfold PySem.W.specialIn PySem.W.typeIn
 dsimp only
 rw [zaq, e]
 kernel_rfl
theorem XSt.fun {st : Stmt} (x : XSt h nm (some st) C N bm mN) : ∃ f fd, mN "__init__" = some (.ref f) /\ Fun (whole h) "__init__" (zcz nm) st f fd := by
 obtain ⟨f, ⟨oc, od, dt, osl⟩, pm, cd, doc, h1, h2, h3, h4, h5⟩ := x.init
 have h4 : dt = _ := h4
 subst h4
 refine ⟨f, _, h1, ⟨⟨oc, od, .none, doc, pm, _, cd, _, osl, rfl, by rw [zaq]; exact h2, ?_⟩, ?_⟩⟩
 ·obtain ⟨c, ⟨_, _, dc, _⟩, vs, t, rfl, g1, g2, g3⟩ := h5
  have g2 : dc = _ := g2
  subst g2
  unfold PySem.W.codeIn
  dsimp only
  rw [zaq, g1]
  dsimp only
  have g4 : vs.toList[1]? = some (.str (zcz nm) t) := by rw [Array.getElem?_toList]; exact g3
  cases hv : vs.toList with
  | nil => rw [hv] at g4; cases g4
  | cons v0 r =>
   rw [hv] at g4
   cases r with
   | nil => cases g4
   | cons v1 r => cases g4; exact beq_self_eq_true _
 ·unfold PySem.W.keepIn
  dsimp only
  rw [zaq, h2]
theorem tf1 {K : PySem.W.Frag} : PySem.W.findIn K (.type "type") "__init__" = some (some (.builtin "type.__init__")) := by kernel_rfl
theorem tf2 {K : PySem.W.Frag} : PySem.W.specialIn K (.builtin "type.__init__") "__get__" = some (some (.builtin "wrapper_descriptor.__get__")) := by kernel_rfl
theorem tf3 {K : PySem.W.Frag} : PySem.W.takesIn K (.builtin "type.__init__") = some false := by kernel_rfl
theorem tf4 {K : PySem.W.Frag} : PySem.W.findIn K (.type "type") "__getattribute__" = some (some (.builtin "type.__getattribute__")) := by kernel_rfl
theorem tf5 {K : PySem.W.Frag} : PySem.W.subIn K (.type "type") (.type "type") = some true := by kernel_rfl
theorem XSt.clsFn {st : Stmt} (x : XSt h "DealError" (some st) D ND VB mD) (hs : ∃ mc, h.Ns cStatics mc /\ mc "thirdparty.any" = none) {f : Addr} (hf : mD "__init__" = some (.ref f)) : zeL (whole h) D "__init__" f := by
 obtain ⟨f', o, pm, cd, doc, h1, h2, h3, h4, h5⟩ := x.init
 rw [h1] at hf
 cases hf
 obtain ⟨q, bs, sn, sub, ab, col, dd, k0, k1, k2, k3, k5, e⟩ := x.obj
 obtain ⟨mc, hc1, hc2⟩ := hs
 have tD : PySem.W.typeIn (whole h) (.ref D) = some (.type "type") := by
  unfold PySem.W.typeIn
  dsimp only
  rw [zaq, e]
  rfl
 have tf : PySem.W.typeIn (whole h) (.ref f) = some (.type "function") := by
  unfold PySem.W.typeIn
  dsimp only
  rw [zaq, h2]
  exact congrArg some h3
 refine ⟨?_, ?_, ?_, ?_⟩
 ·unfold PySem.W.specialIn
  rw [tD]
  exact tf4 (K := whole h)
 ·unfold PySem.W.readsIn
  rw [zbE hc1, hc2, tD, tf4, tf5]
  rfl
 ·unfold PySem.W.findCls
  rw [tf1]
  dsimp only [Option.bind_some]
  rw [tf2]
  dsimp only [Option.bind_some]
  rw [tf3]
  dsimp only [Option.bind_some]
  have hfi : PySem.W.findIn (whole h) (.ref D) "__init__" = some (some (.ref f)) := by
   unfold PySem.W.findIn
   dsimp only
   rw [zaq, e]
   dsimp only
   unfold PySem.W.alongIn PySem.W.ownIn
   dsimp only
   rw [zaq, e]
   dsimp only
   rw [zbE x.ns, h1]
  rw [hfi]
  dsimp only [Option.bind_some]
  rw [if_neg (show ¬ Builtin.heldUnderItsOwnName "__init__" (.ref f) = true from fun z => by cases z), tf]
  rfl
 ·unfold PySem.W.keepIn
  dsimp only
  rw [zaq, h2]
  obtain ⟨oc, od, dt, osl⟩ := o
  have h4 : dt = _ := h4
  subst h4
  rfl
end
end DL
namespace DL
open PySem PySem.Spec L2
open PyProof.Rows hiding St
section
variable {h : Heap} {mg : Str -> Option Value} {p : Program} {l : XL0} {i j : Nat} {c : Str × Option Nat} {p1 p2 p3 p4 p5 p6 p7 p8 p9 r1 r2 r3 r4 r5 r6 r7 r8 r9 q1 q2 : Pos} {j1 j2 : Nat}
structure Root (p : Program) (h : Heap) (mg : Str -> Option Value) (i : Nat) (D f : Addr) (fd : FuncData) : Prop where
 at' : mg "DealError" = some (.ref D)
 ex : ∃ ND mD, XSt h "DealError" (some (zaQ (stAt p i))) D ND VB mD /\ mD "__init__" = some (.ref f)
 cf : zeL (whole h) D "__init__" f
 bd : za8 (whole h) fd ["self", "text"] []
 ok : ∀ (P : Program) (w : World) (base : Heap), FnOk P w (whole h) mg base CX0 1 f fd ["self", "text"] (zbo (KC (whole h)))
theorem XSt.root {own : Option Stmt} {C N : Addr} {bm : List Value} {mN : Str -> Option Value} (x : XSt h "DealError" own C N bm mN) : bm = VB := by
 rcases x.up with ⟨_, rfl⟩ | ⟨z, _⟩
 ·rfl
 ·exact absurd rfl z
theorem zh7 (n : h.Ns mainGlobals mg) (Y : XYP p l h) (hD : (((("DealError" : Str), some i) : Str × Option Nat) ∈ l)) (hm : mg "ValueError" = none) (hn : FnNm (zag (zaQ (stAt p i))) ["self", "text"] ["ValueError"])
  (hb : zaA (zaQ (stAt p i)) = [.Expr (.Call (.Attribute (.Name "ValueError" p1) "__init__" p2) [.Name "self" p3, .Name "text" p4] [] p5) p6])
  (ht : zgs (.Name "ValueError" p1) "__init__" p2 [.Name "self" p3, .Name "text" p4] p5)
  (hbz : ∀ (kV doc pm : Value) (an : Option Addr) (cdv ct : Value) (us : List Value), us.length = (["self", "text"] : List Str).length -> bindArgs (PySem.W.fnOf "__init__" (zcz "DealError") (zaS (zaQ (stAt p i))) (zaA (zaQ (stAt p i))) (zag (zaQ (stAt p i))) .none kV doc pm an cdv ct) ⟨us, []⟩ = pure ((["self", "text"] : List Str).zip us)) :
  ∃ D f fd, Root p h mg i D f fd := by
 obtain ⟨D, ND, bm, mD, x⟩ := Y.cl _ hD
 have := x.root
 subst this
 obtain ⟨f, fd, hf, FU⟩ := XSt.fun (st := zaQ (stAt p i)) x
 exact ⟨D, f, fd, by rw [n.eq_nsMap]; exact x.ad, ⟨ND, mD, x, hf⟩, XSt.clsFn (st := zaQ (stAt p i)) x Y.st hf, FU.binds hbz, fun P w base => zh4 FU hn hm hb ht⟩
theorem zbz (n : h.Ns mainGlobals mg) (Y : XYP p l h) {D f : Addr} {fd : FuncData} (R : Root p h mg i D f fd) (hc : c ∈ l) : CK (whole h) mg c.1 := by
 obtain ⟨C, N, bm, mN, x⟩ := Y.cl _ hc
 obtain ⟨ND, mD, xD, hf⟩ := R.ex
 cases hz : c.2 with
 | none =>
  rw [hz] at x
  exact ⟨C, bm, by rw [n.eq_nsMap]; exact x.ad, XSt.clsK n x xD (f := f) hf⟩
 | some k =>
  rw [hz] at x
  obtain ⟨f', o, pm, cd, doc, h1, h2⟩ := x.init
  exact ⟨C, bm, by rw [n.eq_nsMap]; exact x.ad, XSt.clsK n x xD (f := f') h1⟩
theorem zbi (n : h.Ns mainGlobals mg) (Y : XYP p l h) {D f : Addr} {fd : FuncData} (R : Root p h mg i D f fd) {nm : Str} (hc : (nm, none) ∈ l) (hf : zaV nm = []) (P : Program) (w : World) (base : Heap) : MkX P w (whole h) mg base nm 1 := by
 obtain ⟨C, N, bm, mN, x⟩ := Y.cl _ hc
 obtain ⟨ND, mD, xD, hi⟩ := R.ex
 have ck := XSt.clsK n x xD (f := f) hi
 exact ⟨C, bm, f, fd, _, _, by rw [n.eq_nsMap]; exact x.ad, x.keep, ck, fun M h' k => (x.keeps (zav k)).xcls (xD.keeps (zav k)) hi, R.ok P w base, R.bd, zdD ck hf⟩
theorem zjv (n : h.Ns mainGlobals mg) {D f : Addr} {fd : FuncData} (R : Root p h mg i D f fd) (P : Program) (w : World) (base : Heap) : MkX P w (whole h) mg base "DealError" 1 := by
 obtain ⟨ND, mD, xD, hi⟩ := R.ex
 have ck := XSt.clsK n xD xD (f := f) hi
 exact ⟨D, VB, f, fd, _, _, R.at', xD.keep, ck, fun M h' k => (xD.keeps (zav k)).xcls (xD.keeps (zav k)) hi, R.ok P w base, R.bd, zdD ck rfl⟩
theorem zfq (n : h.Ns mainGlobals mg) (Y : XYP p l h) {D f : Addr} {fd : FuncData} (R : Root p h mg i D f fd) {nm : Str} (hc : (nm, some j) ∈ l) (hf : zaV nm ≠ []) {ps : List Str} (P : Program) (w : World) (base : Heap)
  (hbz : ∀ (kV doc pm : Value) (an : Option Addr) (cdv ct : Value) (us : List Value), us.length = ps.length -> bindArgs (PySem.W.fnOf "__init__" (zcz nm) (zaS (zaQ (stAt p j))) (zaA (zaQ (stAt p j))) (zag (zaQ (stAt p j))) .none kV doc pm an cdv ct) ⟨us, []⟩ = pure (ps.zip us))
  (ok : ∀ {f' : Addr} {fd' : FuncData}, Fun (whole h) "__init__" (zcz nm) (zaQ (stAt p j)) f' fd' -> FnOk P w (whole h) mg base CX0 2 f' fd' ps (zcm (KC (whole h)) (zaV nm))) : MkX P w (whole h) mg base nm 2 := by
 obtain ⟨C, N, bm, mN, x⟩ := Y.cl _ hc
 obtain ⟨ND, mD, xD, hi⟩ := R.ex
 obtain ⟨f', fd', hf', FU⟩ := XSt.fun (st := zaQ (stAt p j)) x
 have ck := XSt.clsK n x xD (f := f') hf'
 exact ⟨C, bm, f', fd', _, _, by rw [n.eq_nsMap]; exact x.ad, x.keep, ck, fun M h' k => (x.keeps (zav k)).xcls (xD.keeps (zav k)) hf', ok FU, FU.binds hbz, zfY ck hf⟩
end
theorem zjw {q p : Program} {loose : List Str} {mean : ExcName -> Option Value} {mg mb : Str -> Option Value} {h : Heap} {ix : List Nat} (P : Program) (w : World) (base : Heap) {ps : List Str} {k n : Nat} {F : List D -> Option XR} (T : Top q loose mean mg mb h) (e : recsOf q = zcc p ix) (i : Nat) (x : Str) (hi : ix.contains i = true) (hn : zdL (stAt p i) = some x)
  (ok : ∀ {f : Addr} {fd : FuncData}, Fun (whole h) x x (stAt p i) f fd -> FnOk P w (whole h) mg base (CX1 P w) k f fd ps (spX (whole h) n F))
  (hb : ∀ (kV doc pm : Value) (an : Option Addr) (cdv ct : Value) (us : List Value), us.length = ps.length -> bindArgs (PySem.W.fnOf x x (zaS (stAt p i)) (zaA (stAt p i)) (zag (stAt p i)) .none kV doc pm an cdv ct) ⟨us, []⟩ = pure (ps.zip us)) : DefX P w (whole h) mg base x k n F := by
 obtain ⟨f, fd, m, FU⟩ := zfe T e i x hi hn
 exact ⟨f, fd, ps, m, FU.kp, FU.binds hb, ok FU⟩
theorem zfr {l : PySem.W.OpenLaw} {n k : Nat} {q : Program} {loose : List Str} {XP : (Str -> Option Value) -> Heap -> Prop} {YP : World -> Heap -> Prop} {d : DefRec} {F : List D -> Option D} {x : Str}
  (hn : l.most = some n) (hn2 : n <= sizeLine) (hdf : d.params.defaults = []) (hr : Room k callerA)
  (hF : ∀ (w : World) (s₀ : Shared) (mg mb : Str -> Option Value) (fa : Addr) (h : Heap), PySem.W.Ground q loose [] XP w s₀ mg mb h -> YP w h -> mg d.name = some (.ref fa) ->
   ∃ fd : FuncData, (∀ (s : Shared) (u : Value), BindsTo s fd ⟨[u], []⟩ [(x, u)]) /\ ∀ base : Heap, FnOk l.prog w (whole h) mg base CX0 k fa fd [x] (spD (whole h) 1 F))
  (hl : ∀ ns : List Int, ns.length <= n -> F [.list (ns.map PyData.int)] = some (.bool true)) :
  PySem.W.WalkO q loose XP YP l.row.toRowW d [] (fun f vs => PySem.call f vs) := by
 refine Att.attach_call hn hdf fun w s₀ s₁ mg mb fa o pm cd doc a vs ns G Y ho hd hcd hmg hobj hints hlen hg => ?_
 obtain ⟨fd, hb, hF⟩ := hF w s₀ mg mb fa _ G Y hmg
 exact zfO (zgn _) G.T.g G.T.b G.T.builtins G.T.nolimit hg hobj hints (Nat.le_trans hlen hn2) hr (fun base _ _ => hF base) hb (fun H hO hS => zja hS (hl ns hlen)) fun H e s' z => z
end DL
namespace DL
open PySem PySem.Spec L2
open PyProof.Rows hiding St
section
variable {α β : Type} {ρ ρ1 ρ2 ρ3 ρ' : DEnv} {f : M D} {s t : SM} {Q : Out -> Prop} {d : D} {ds fs : List D} {nm x : Str} {o : Out}
end
end DL
namespace DL
open PySem PySem.Spec L2
open PyProof.Rows hiding St
section
variable {X : Cx} {B G0 : Hp} {KX : XW} {e o a b c : Expr} {pos p2 : Pos} {es rest : List Expr}
def MtS (X : Cx) (id : String) (p : Str -> Str -> Option D) : Prop := ∃ r, MtR X id r /\ ∀ z y d H Q, p z y = some d -> (∀ v, (∀ G, Rep X.K G v d) -> Q v H) -> r (.str z) [.str y] H Q
def zjx (p : Str -> Str -> Option D) (x : D) (xs : List D) : Option D := match x, xs with
 | .str z, [.str y] => p z y
 | _, _ => none
def zjy (p : Str -> Str -> Option D) (f : M D) (g : M (List D)) : M D := zaf f fun x => match x with
 | .str z => zaf g fun xs => mOpt (zjx p (.str z) xs)
 | _ => fun _ => .bad
theorem zgu {name : Str} {id : String} {p : Str -> Str -> Option D} {apos cpos : Pos} {f : M D} {g : M (List D)} (slot : Slot "str" name id) (hty : typeOf (.builtin id) = pure (.type "method_descriptor")) (hm : MtS X id p) (ho : PE X o (tD X.K B G0 f)) (ha : PA X (e :: es) (tDs X.K B G0 g))
  (hbase : attributeBase o name X.env (eval o X.env) = eval o X.env := by rfl)
  (hfew : ((backTo cpos (starEach (e :: es) X.env)).all (fun x => !x.1) && (backToKw cpos (keywordEach [] X.env)).all (fun x => x.1.isSome)
   && decide ((e :: es).length + ([] : List Keyword).length + (if ([] : List Keyword).isEmpty then 0 else 1) < 30)) = true := by rfl)
  (hline : (apos.endLine == cpos.line) = true := by rfl) (hs : starEach (e :: es) X.env = (false, eval e X.env) :: starEach es X.env := by rfl) (hplain : (backTo cpos (starEach es X.env)).any (·.1) = false := by rfl) :
  PE X (.Call (.Attribute o name apos) (e :: es) [] cpos) (tD X.K B G0 (zjy p f g)) := by
 obtain ⟨r, hr, ir⟩ := hm
 refine peof (ziL F.plainAttrs_str slot hty hr ho ha hbase hfew hline hs hplain) fun σ H Q q => ?_
 refine tM.one (R := Rep X.K) q fun v H2 G ρ x k rx a => ?_
 cases x with
 | str z =>
  have := rx.str_inv; subst this
  refine ⟨rfl, ?_⟩
  refine tM.nx (R := Reps X.K) k a fun xs H3 G3 ρ3 ds k3 s3 r3 a3 => ?_
  obtain ⟨d, e1, a4⟩ := aft.opt a3
  unfold zjx at e1
  split at e1
  ·rename_i z' y e2
   cases e2
   obtain ⟨w, rfl, q⟩ := r3.one_inv
   have := q.str_inv; subst this
   exact ir _ _ _ _ _ e1 fun v hv => a4.now k3 (hv G3)
  ·cases e1
 | _ => exact a.elim
theorem zjz : MtS X "str.removeprefix" (fun z y => if z.length <= 1000000 then some (.str (Txt.removeprefix z y)) else none) := by
 refine ⟨fun x vs H Q => ∃ z y, x = .str z /\ vs = [.str y] /\ z.length <= sizeLine /\ Q (.str (Txt.removeprefix z y)) H, ?_, fun z y d H Q e k => ?_⟩
 ·intro pins s σ H x xs v us Q I rx rs h
  obtain ⟨z, y, rfl, rfl, hz, q⟩ := h
  obtain ⟨t, rfl⟩ := (show ∃ t, v = Value.str z t from rx)
  obtain ⟨u, rfl, t2, rfl⟩ := ziD rs
  refine call_gives F.slot_str_removeprefix (typeIs_str _ _ _) F.entry_str_removeprefix (F.args_str_removeprefix_2 _ _) (gives_str_removeprefix z y t t2) (post_affix hz _ fun t' k' => ⟨.str _, H, I.tok _, ⟨_, rfl⟩, q⟩)
 ·dsimp only at e
  split at e
  ·rename_i hz
   cases e
   exact ⟨z, y, rfl, rfl, Nat.le_trans hz lim, k _ fun _ => .str _⟩
  ·cases e
end
end DL
namespace L2
open PySem PySem.Spec PyProof.Rows
def zjA (trs : Addr -> List (TE × TE)) : TE := fun σ H Q => ∀ p, H p = none -> zdy (trs p) σ (upd H p (.dK [])) fun ps H2 => H2 p = some (.dK []) /\ ∃ kvs : List (Key × V), ps = kvs.map (fun kv => (kV kv.1, kv.2)) /\ kvs.length <= 15 /\ Q (.ref p) (upd H2 p (.dK (zbG [] kvs)))
theorem zgv {X : Cx} {pos : Pos} {keys : List (Option Expr)} {values : List Expr} {trs : Addr -> List (TE × TE)} (h : ∀ p, PPs X pos keys values (trs p)) (hall : keys.all (·.isSome) = true) (hl : keys.length = values.length) (h0 : keys ≠ [])
  (h15 : keys.length <= 15) : PE X (.Dict keys values pos) (zjA trs) := by
 intro pins s σ H Q I q
 have hn := I.hok.fresh (Nat.le_refl s.heap.objs.size)
 have I1 := I.laid (a := s.heap.objs.size) (o := .dK []) (h' := s.heap.push { cls := .type "dict", data := .dict #[] }) (t' := s.toks) (fun _ _ q => Heap.get?_push_of_some _ q) (Nat.le_refl _) (zck s.heap I.big)
 refine wpAny_Dict_walk (knd := zaN X.prog X.w) hall hl h0 h15 (thn (h _ pins _ σ _ _ I1 (q _ hn)) fun ws s2 ⟨ps, H2, I2, rel, e, kvs, ep, lk, q2⟩ => ?_)
 subst ep
 obtain ⟨rs, c, rk⟩ := zb9 (P := X.prog) (w := X.w) rel
 obtain ⟨z, hd, vs0, r0, dd⟩ := zj3 I2.hok e
 cases r0
 refine ⟨rs, c, dd, fun h' dd' hs => ⟨.ref s.heap.objs.size, _, ?_, rfl, q2⟩⟩
 have hz : (zbG [] kvs).length <= sizeLine := by
  have h1 := zbu kvs []
  rw [List.length_nil] at h1
  rw [sizeLine_eq]; omega
 have he : ∃ q, h'.get? s.heap.objs.size = some q := let ⟨q, _, _, hq, _⟩ := dd'; ⟨q, hq⟩
 exact zhi I2 (by rw [e]; exact True.intro) hs he (ziN hz hd (rk.merge .nil) dd')
theorem zgw {kvs : List (Key × V)} {k : Key} {v : V} (h : k ∉ kvs.map (·.1)) : putK kvs k v = kvs ++ [(k, v)] := by
 unfold putK
 rw [if_neg]
 intro z
 rw [List.any_eq_true] at z
 obtain ⟨p, hp, e⟩ := z
 exact h (by rw [← of_decide_eq_true e]; exact List.mem_map.mpr ⟨p, hp, rfl⟩)
theorem zce : ∀ (more kvs : List (Key × V)), ((kvs ++ more).map (·.1)).Nodup -> zbG kvs more = kvs ++ more
 | [], kvs, _ => by rw [List.append_nil]; rfl
 | p :: r, kvs, h => by
  have hn : p.1 ∉ kvs.map (·.1) := by
   rw [List.map_append, List.nodup_append] at h
   exact fun z => h.2.2 _ z p.1 (List.mem_map.mpr ⟨p, List.mem_cons_self, rfl⟩) rfl
  show zbG (putK kvs p.1 p.2) r = _
  rw [zgw hn, zce r (kvs ++ [(p.1, p.2)]) (by rw [List.append_assoc]; exact h), List.append_assoc]
  rfl
end L2
namespace DL
open PySem PySem.Spec L2
open PyProof.Rows hiding St
theorem zfs {α β γ : Type} (f : α -> γ) : ∀ (ks : List α) (vs : List (γ × β)), vs.map (·.1) = ks.map f -> vs = (ks.zip (vs.map (·.2))).map (fun kv => (f kv.1, kv.2))
 | [], [], _ => rfl
 | k :: ks, (a, b) :: vs, h => by
  rw [List.map_cons, List.map_cons] at h
  injection h with h1 h2
  have h1 : a = f k := h1
  rw [List.map_cons, List.zip_cons_cons, List.map_cons, ← zfs f ks vs h2, h1]
theorem zdO {α β : Type} : ∀ (ps : List (α × β)), (ps.map (·.1)).zip (ps.map (·.2)) = ps
 | [] => rfl
 | p :: r => by rw [List.map_cons, List.map_cons, List.zip_cons_cons, zdO r]
def zcf : List (M D × M D) -> M (List (D × D))
 | [] => zac []
 | (f, g) :: r => zaf f fun x => zaf g fun y => zaf (zcf r) fun ps => zac ((x, y) :: ps)
def zjB : D -> Option Key
 | .int i => some (.inl i)
 | .str x => some (.inr x)
 | _ => none
def zdP : List D -> Option (List Key)
 | [] => some []
 | d :: r => match zjB d, zdP r with
  | some k, some ks => some (k :: ks)
  | _, _ => none
def zjC (ps : List (D × D)) : Option D := match zdP (ps.map (·.1)) with
 | some ks => if ks.Nodup /\ ks.length <= 15 /\ ks ≠ [] then some (.dict ps) else none
 | none => none
def zft (prs : List (M D × M D)) : M D := zaf (zcf prs) fun ps => mOpt (zjC ps)
def zks (K : PySem.W.Frag) (G : Hp) (vs : List (V × V)) (ps : List (D × D)) : Prop := Reps K G (vs.map (·.1)) (ps.map (·.1)) /\ Reps K G (vs.map (·.2)) (ps.map (·.2))
section
variable {K : PySem.W.Frag} {B G0 G H : Hp} {σ : St} {ρ : DEnv}
theorem zgx {d : D} {k : Key} (h : zjB d = some k) : d = kD k := by
 cases d with
 | int i => cases h; rfl
 | str x => cases h; rfl
 | _ => cases h
theorem zc2 : ∀ {ds : List D} {ks : List Key}, zdP ds = some ks -> ds = ks.map kD
 | [], _, h => by cases h; rfl
 | d :: r, ks, h => by
  unfold zdP at h
  split at h
  ·rename_i k ks' h1 h2
   cases h
   rw [List.map_cons, ← zgx h1, ← zc2 h2]
  ·cases h
theorem Rep.key_inv {v : V} {k : Key} (r : Rep K G v (kD k)) : v = kV k := by
 cases k with
 | inl i => exact r.int_inv
 | inr x => exact r.str_inv
theorem Reps.keys_inv : ∀ {vs : List V} {ks : List Key}, Reps K G vs (ks.map kD) -> vs = ks.map kV
 | _, [], .nil => rfl
 | _, k :: ks, .cons h t => by rw [h.key_inv, Reps.keys_inv t]; rfl
theorem zc3 : ∀ {prs : List (M D × M D)} {G H : Hp} {ρ : DEnv} {Q : List (V × V) -> Hp -> Prop}, EOk K B G0 G H σ ρ ->
  (match zcf prs ρ with
   | .ok ps ρ' => ∀ vs G' H', EOk K B G0 G' H' σ ρ' -> Same G G' -> zks K G' vs ps -> Q vs H'
   | .bad => False) -> zdy (prs.map fun p => (tD K B G0 p.1, tD K B G0 p.2)) σ H Q
 | [], G, H, ρ, Q, k, a => a [] G H k (.refl _) ⟨.nil, .nil⟩
 | (f, g) :: r, G, H, ρ, Q, k, a => by
  refine ⟨G, ρ, k, ?_⟩
  unfold zcf zaf at a
  show aft K B G0 (Rep K) (f ρ) G σ _
  cases z : f ρ with
  | bad => rw [z] at a; exact a.elim
  | ok x ρ1 =>
   rw [z] at a
   dsimp only at a
   intro v G1 H1 k1 s1 r1
   refine ⟨G1, ρ1, k1, ?_⟩
   show aft K B G0 (Rep K) (g ρ1) G1 σ _
   cases z2 : g ρ1 with
   | bad => rw [z2] at a; exact a.elim
   | ok y ρ2 =>
    rw [z2] at a
    dsimp only at a
    intro u G2 H2 k2 s2 r2
    refine zc3 (prs := r) k2 ?_
    cases z3 : zcf r ρ2 with
    | bad => rw [z3] at a; exact a.elim
    | ok ps ρ3 =>
     rw [z3] at a
     intro vs G3 H3 k3 s3 r3
     exact a ((v, u) :: vs) G3 H3 k3 ((s1.trans s2).trans s3) ⟨.cons ((r1.mono s2).mono s3) r3.1, .cons (r2.mono s3) r3.2⟩
theorem EOk.under {p : Addr} (k : EOk K B G0 G H σ ρ) (hp : H p = none) : EOk K (upd B p (.dK [])) G0 G (upd H p (.dK [])) σ ρ where
 bh := fun b o q => by
  by_cases z : b = p
  ·subst z; rw [zai] at q ⊢; exact q
  ·rw [zak z] at q ⊢; exact k.bh b o q
 gh := k.gh.trans (zap hp)
 g0 := k.g0
 np := fun a u q n => by
  by_cases z : a = p
  ·subst z; exact k.gh.free hp
  ·rw [zak z] at q; exact k.np a u q n
 len := k.len
 pub := k.pub
 own := fun i ds q => by
  obtain ⟨a, vs, h1, h2, h3, h4, h5⟩ := k.own i ds q
  have z : a ≠ p := zan h4 hp
  exact ⟨a, vs, h1, by rw [zak z]; exact h2, h3, by rw [zak z]; exact h4, h5⟩
 sep := k.sep
theorem EOk.filled {p : Addr} {u : HO} (k : EOk K (upd B p (.dK [])) G0 G H σ ρ) (hb : B p = none) (h0 : G0 p = none) : EOk K B G0 (upd G p u) (upd H p u) σ ρ /\ Same G (upd G p u) /\ H p = some (.dK []) := by
 have hG : G p = none := k.np p (.k []) zai h0
 have hH : H p = some (.dK []) := k.bh p _ zai
 have sg : Same G (upd G p u) := zap hG
 refine ⟨⟨fun b o q => ?_, fun b o q => ?_, k.g0.trans sg, fun a w q n => ?_, k.len, fun i d q => ?_, fun i ds q => ?_, k.sep⟩, sg, hH⟩
 ·have z : b ≠ p := zan q hb
  rw [zak z]; exact k.bh b o (by rw [zak z]; exact q)
 ·by_cases z : b = p
  ·subst z; rw [zai] at q ⊢; exact q
  ·rw [zak z] at q ⊢; exact k.gh b o q
 ·have z : a ≠ p := zan q hb
  rw [zak z]; exact k.np a w (by rw [zak z]; exact q) n
 ·obtain ⟨v, h1, h2⟩ := k.pub i d q
  exact ⟨v, h1, h2.mono sg⟩
 ·obtain ⟨a, vs, h1, h2, h3, h4, h5⟩ := k.own i ds q
  have z : a ≠ p := fun e => by subst e; rw [zai] at h2; cases h2
  exact ⟨a, vs, h1, by rw [zak z] at h2; exact h2, by rw [zak z]; exact h3, by rw [zak z]; exact h4, h5.mono sg⟩
end
section
variable {X : Cx} {B G0 : Hp} {KX : XW} {e o a b c : Expr} {pos p2 : Pos} {es rest : List Expr}
structure DPs (X : Cx) (pos : Pos) (G0 : Hp) (keys : List (Option Expr)) (values : List Expr) (prs : List (M D × M D)) : Prop where
 out : ∀ B', PPs X pos keys values (prs.map fun p => (tD X.K B' G0 p.1, tD X.K B' G0 p.2))
theorem zfu : DPs X pos G0 [] [] [] := ⟨fun _ => zhj⟩
theorem zdQ {k v : Expr} {ks : List (Option Expr)} {vs : List Expr} {f g : M D} {prs : List (M D × M D)} (hk : ∀ B', PE X k (tD X.K B' G0 f)) (hv : ∀ B', PE X v (tD X.K B' G0 g)) (hr : DPs X pos G0 ks vs prs) : DPs X pos G0 (some k :: ks) (v :: vs) ((f, g) :: prs) :=
 ⟨fun B' => zfP (hk B') (hv B') (hr.out B')⟩
theorem zdR {keys : List (Option Expr)} {values : List Expr} {prs : List (M D × M D)} (h : DPs X pos G0 keys values prs) (hall : keys.all (·.isSome) = true := by rfl) (hl : keys.length = values.length := by rfl) (h0 : keys ≠ [] := by simp) (h15 : keys.length <= 15 := by decide) :
  PE X (.Dict keys values pos) (tD X.K B G0 (zft prs)) := by
 refine peof (zgv (trs := fun p => prs.map fun f => (tD X.K (upd B p (.dK [])) G0 f.1, tD X.K (upd B p (.dK [])) G0 f.2)) (fun p => h.out _) hall hl h0 h15) fun σ H Q ⟨G, ρ, k, a⟩ p hp => ?_
 refine zc3 (k.under hp) ?_
 unfold zft zaf at a
 cases z : zcf prs ρ with
 | bad => rw [z] at a; exact a.elim
 | ok ps ρ1 =>
  rw [z] at a
  intro vs G1 H1 k1 s1 r1
  obtain ⟨d, e1, a1⟩ := aft.opt a
  unfold zjC at e1
  split at e1
  ·rename_i ks hk
   split at e1
   ·rename_i hc
    cases e1
    have ek := zc2 hk
    have hv := r1.1
    rw [ek] at hv
    have hv := hv.keys_inv
    have hlen : ks.length = ps.length := by have := congrArg List.length ek; simpa using this.symm
    have hlv : vs.length = ks.length := by have := congrArg List.length hv; simpa using this
    have evs : vs = (ks.zip (vs.map (·.2))).map (fun kv => (kV kv.1, kv.2)) := by
     exact zfs kV ks vs hv
    obtain ⟨f1, f2, f3⟩ := k1.filled (u := .dK (ks.zip (vs.map (·.2)))) (k.bh.free hp) (k.g0.free (k.gh.free hp))
    refine ⟨f3, ks.zip (vs.map (·.2)), evs, ?_, ?_⟩
    ·rw [List.length_zip, List.length_map]; omega
    ·have em : zbG [] (ks.zip (vs.map (·.2))) = ks.zip (vs.map (·.2)) := by
      rw [zce _ [] ?_, List.nil_append]
      rw [List.nil_append, List.map_fst_zip (by rw [List.length_map]; omega)]
      exact hc.1
     rw [em]
     refine a1 (.ref p) _ _ f1 (s1.trans f2) (.dct (ks := ks) (vs := vs.map (·.2)) (ds := ps.map (·.2)) ?_ hc.2.2 (by rw [List.length_map]; exact hlen) zai (r1.2.mono f2))
     rw [← ek, zdO]
   ·cases e1
  ·cases e1
end
end DL
namespace DL
open PySem PySem.Spec L2
open PyProof.Rows hiding St
section
variable {X : Cx} {B G0 : Hp} {KX : XW} {e o a b c : Expr} {pos p2 cpos : Pos} {es rest : List Expr}
theorem zaF {nm : Str} {k kk : Nat} {g : M (List D)} (mk : MkX X.prog X.w X.K X.mg X.base nm k) (hr : Room kk X.A) (hg : Gl X nm) (ha : PA X (e :: es) (tDs X.K B G0 g)) (hk : k + 1 <= kk := by decide)
  (hdb : (nm == ("__debug__" : Str)) = false := by decide) (he : starEach (e :: es) X.env = (false, eval e X.env) :: starEach es X.env := by rfl) (hpl : (backTo cpos (starEach es X.env)).any (·.1) = false := by rfl) :
  PE X (.Call (.Name nm p2) (e :: es) [] cpos) (tD X.K B G0 (zaf g fun ds => mOpt (oMkX nm ds))) := PE.kin fun kin => by
 obtain ⟨C, bm, f, fd, ps, sp, hm, hkp, ck, xc, F, hb, hsp⟩ := mk
 intro pins s σ H Q I q
 refine thn (zdA (xc _ _ kin) F (hr.mono hk) hg hm hkp hb ha hdb he hpl pins s σ H (fun v H2 => ∃ a dd, v = .ref a /\ H2 a = some (.ext (XO true a C dd)) /\ Q (.ref a) (upd H2 a (.ext (XO false a C dd)))) I ?_) fun u s1 ⟨v, H2, I2, rv, a, dd, ev, hx, hq⟩ => ?_
 ·refine tM.one (R := Reps X.K) q fun vs H1 G1 ρ1 ds k1 r a => ?_
  obtain ⟨d, e1, a1⟩ := aft.opt a
  unfold oMkX at e1
  cases z : zc1 nm ds with
  | none => rw [z] at e1; cases e1
  | some fs =>
   rw [z] at e1
   cases e1
   have ar := zdM r z
   refine ⟨?_, fun ad had => hsp ad vs _ _ zai ar fun dd H' p => ⟨rfl, ?_⟩⟩
   ·rcases ar with ⟨_, x, rfl⟩ | ⟨_, hl, _⟩
    ·exact (show 1 <= sizeLine by decide)
    ·rw [hl]
     unfold zaV
     split
     ·decide
     ·split
      ·decide
      ·split <;> decide
   ·obtain ⟨G', ex, rp, hx⟩ := zfk ck k1.gh had r z p
    exact ⟨ad, dd, rfl, hx, a1.done k1 ex rp⟩
 ·subst ev
  exact ⟨.ref a, _, I2.aged hx, rv, hq⟩
end
end DL
namespace DL
open PySem PySem.Spec L2
open PyProof.Rows hiding St
section
variable {X : Cx}
def zh8 : List D -> Option D
 | [.str z] => if z.length <= 640 then (PySem.intText? z).map .int else none
 | _ => none
theorem zjD : zd9 X (.type "int") zh8 := by
 refine ⟨fun vs H Q => ∃ z n, vs = [.str z] /\ z.length <= 640 /\ PySem.intText? z = some n /\ Q (.int n) H, ?_, fun vs G H ds d Q s r e k => ?_⟩
 ·intro pins s σ H vs us Q I r h
  obtain ⟨z, n, rfl, hl, hn, q⟩ := h
  cases r with
  | cons rx rr =>
   cases rr
   obtain ⟨t, rfl⟩ := rx
   exact PySem.W.KIN.call_text hn hl ⟨.int n, H, I.tok _, ⟨_, rfl⟩, q⟩
 ·unfold zh8 at e
  split at e
  ·obtain ⟨v, rfl, q⟩ := r.one_inv
   rw [q.str_inv]
   split at e
   ·rename_i hl
    obtain ⟨n, hn, rfl⟩ := Option.map_eq_some_iff.mp e
    exact ⟨_, n, rfl, hl, hn, k _ G H (.refl s) (.int _)⟩
   ·cases e
  ·cases e
end
end DL
namespace DL
open PySem PySem.Spec L2 PySem.SeqAt PySem.AutoSeq1
open PyProof.Rows hiding St
theorem zc4 {prog : Program} {w : World} {A : Around} {E : Value -> Shared -> Prop} {s : Shared} {l b : Addr} {o o2 : Obj} {es es2 : Array DictEntry} {n n2 : Nat} {id : String} {Q : Bool -> Shared -> Prop}
  (hl0 : (l == sysModules) = false) (hb0 : (b == sysModules) = false) (ho : s.heap.get? l = some o) (hd : o.data = .dict es n) (ho2 : s.heap.get? b = some o2) (hd2 : o2.data = .dict es2 n2) (hsz : es.size = es2.size)
  (hp : ∀ i (h : i < es.size), ∃ j, ∃ h2 : j < es2.size, (∀ (A : Around) (E : Value -> Shared -> Prop) (Q : Option Nat -> Shared -> Prop), Q (some j) s -> wpAny (model prog w) A (dictFind b es[i].key es[i].hash) Q E s) /\ EqAt A s es[i].val es2[j].val true)
  (h : Q true s) : wpAny (model prog w) A (Builtin.Dict.samePairs id l b) Q E s := by
 unfold Builtin.Dict.samePairs
 unfold Builtin.Dict.showsAll
 rw [if_neg (by rw [hl0]; exact Bool.false_ne_true), if_neg (by rw [hb0]; exact Bool.false_ne_true)]
 refine wpAny_bind (wpAny_pure ?_)
 refine wpAny_bind (wpAny_pure ?_)
 refine wpAny_bind (wpAny_dictEntries ho hd ?_)
 refine wpAny_bind (wpAny_dictEntries ho2 hd2 ?_)
 rw [if_neg (by rw [hsz]; simp)]
 refine wpAny_bind (wpAny_dictEpoch ho hd ?_)
 refine wpAny_bind ?_
 rw [Std.Legacy.Range.forIn_eq_forIn_range']
 simp only [Std.Legacy.Range.size, Nat.sub_zero, Nat.add_sub_cancel, Nat.div_one]
 refine wpAny_forIn_list _ (fun rest' r s' => ∃ i, rest' = List.range' i (es.size - i) /\ i <= es.size /\ r = (none, ()) /\ s' = s) _ ?_ ?_ _ _ ⟨0, by simp, Nat.zero_le _, rfl, rfl⟩
 ·rintro x rest' _ s' ⟨i, hr, hi, rfl, rfl⟩
  have hlt : i < es.size := by
   rcases Nat.lt_or_ge i es.size with h | h
   ·exact h
   ·rw [Nat.sub_eq_zero_of_le h] at hr; simp at hr
  obtain ⟨rfl, hrest⟩ : x = i /\ rest' = List.range' (i + 1) (es.size - (i + 1)) := by
   have e : es.size - i = (es.size - (i + 1)) + 1 := by omega
   rw [e, List.range'_succ] at hr
   injection hr with h1 h2
   exact ⟨h1, h2⟩
  obtain ⟨j, h2, hf, he⟩ := hp x hlt
  refine wpAny_bind (wpAny_dictEntries ho hd ?_)
  rw [Array.getElem?_eq_getElem hlt]
  refine wpAny_bind (wpAny_holding (wpAny_bind (hf _ _ _ ?_)))
  refine wpAny_bind (wpAny_dictEntries ho2 hd2 ?_)
  rw [Array.getElem?_eq_getElem h2]
  refine wpAny_holding (he prog w _ _ ?_)
  rw [if_neg (by simp)]
  refine wpAny_bind (wpAny_dictEpoch ho hd ?_)
  rw [if_neg (by simp)]
  exact wpAny_pure ⟨x + 1, hrest, hlt, rfl, rfl⟩
 ·rintro _ s' ⟨i, hr, hi, rfl, rfl⟩
  exact wpAny_pure h
theorem zfv (l b : Addr) (es es2 : Array DictEntry) (n n2 : Nat) (dd dd2 : Option Addr) (sl sl2 : Array (Option Value)) (hl0 : (l == sysModules) = false) (hb0 : (b == sysModules) = false) (hsz : es.size = es2.size) :
  Meets (Builtin.«dict.__eq__» ⟨[.ref l, .ref b], []⟩)
   (fun A R s => s.heap.get? l = some { cls := .type "dict", dict := dd, data := .dict es n, slots := sl } /\ s.heap.get? b = some { cls := .type "dict", dict := dd2, data := .dict es2 n2, slots := sl2 } /\
    (∀ prog w i (h : i < es.size), ∃ j, ∃ h2 : j < es2.size, (∀ (A : Around) (E : Value -> Shared -> Prop) (Q : Option Nat -> Shared -> Prop), Q (some j) s -> wpAny (model prog w) A (dictFind b es[i].key es[i].hash) Q E s) /\ EqAt A.in1 s es[i].val es2[j].val true) /\
    R (.ok (.ret (.bool true))) s) :=
 .of_wp fun prog w A R s h => by
  obtain ⟨hp, g, d, tk, os⟩ := s; obtain ⟨hl, hb, he, h⟩ := h
  have f2 := PySem.F.sub_dict_dict
  wp_walk using wpAny_loadPart' hl, wpAny_loadPart' hb, zc4 hl0 hb0 hl rfl hb rfl hsz (he prog w)
  exact ⟨_, rfl, h⟩
theorem zgy {prog : Program} {w : World} {A : Around} {E : Value -> Shared -> Prop} {s : Shared} {b : Addr} {o : Obj} {x : Str} {t u : Tok} {hh h2 : Int} {v2 : Value} {n : Nat} {Q : Option Nat -> Shared -> Prop}
  (ho : s.heap.get? b = some o) (hd : o.data = .dict #[⟨h2, .str x u, v2⟩] n) (h : Q (some 0) s) : wpAny (model prog w) A (dictFind b (.str x t) hh) Q E s := by
 unfold dictFind
 try with_reducible refine wpAny_holding ?_
 refine wpAny_bind (wpAny_dictEntries ho hd ?_)
 dsimp only
 rw [if_pos (by simp [isExactStrKey])]
 unfold foundByValue
 have hf : (#[(⟨h2, .str x u, v2⟩ : DictEntry)].findIdx? fun e => e.key.isStr x) = some 0 := by
  simp [Value.isStr]
 rw [hf]
 dsimp only
 rw [show (#[(⟨h2, .str x u, v2⟩ : DictEntry)])[0]? = some ⟨h2, .str x u, v2⟩ from rfl]
 dsimp only
 refine wpAny_bind (wpAny_dictEpoch ho hd ?_)
 refine wpAny_bind (EqAt.str_str x u x t prog w _ _ ?_)
 refine wpAny_bind (wpAny_dictEpoch ho hd ?_)
 rw [if_neg (by simp), if_pos (by simp)]
 exact wpAny_bind (wpAny_rule (wpAny_pure h))
theorem RcAt.dicts1 {A : Around} {s : Shared} {l b : Addr} {o o2 : Obj} {n n2 : Nat} {es es2 : Array DictEntry} (hl0 : (l == sysModules) = false) (hb0 : (b == sysModules) = false)
  (ho : s.heap.get? l = some o) (hc : o.cls = .type "dict") (hd : o.data = .dict es n) (ho2 : s.heap.get? b = some o2) (hc2 : o2.cls = .type "dict") (hd2 : o2.data = .dict es2 n2)
  (hk : (es = #[] /\ es2 = #[]) ∨ ∃ x h1 t1 v1 h2 t2 v2, es = #[⟨h1, .str x t1, v1⟩] /\ es2 = #[⟨h2, .str x t2, v2⟩] /\ EqAt A.in1 s v1 v2 true) (hu : A.units < cLine) : RcAt A s (.ref l) (.ref b) true := fun prog w E Q h => by
 obtain ⟨cls, dd, data, sl⟩ := o
 obtain ⟨cls2, dd2, data2, sl2⟩ := o2
 simp only at hc hd hc2 hd2
 subst hc hd hc2 hd2
 have hsz : es.size = es2.size := by
  rcases hk with ⟨rfl, rfl⟩ | ⟨x, h1, t1, v1, h2, t2, v2, rfl, rfl, _⟩ <;> rfl
 refine richCompare_meets_room (op := .Eq) ⟨_, ho, rfl⟩ ⟨_, ho2, rfl⟩ F.slot_dict_eq F.entry_dict_eq (F.args_dict_eq_2 _ _) (zfv l b es es2 n n2 dd dd2 sl sl2 hl0 hb0 hsz)
  ⟨ho, ho2, ?_, show Value.bool true ≠ Value.notImplemented /\ Q (.bool true) s from ⟨(fun x => nomatch x), h⟩⟩ hu
 intro prog w i hi
 rcases hk with ⟨rfl, rfl⟩ | ⟨x, h1, t1, v1, h2, t2, v2, rfl, rfl, he⟩
 ·exact absurd hi (by simp)
 ·have : i = 0 := by
   have : i < 1 := hi
   omega
  subst this
  exact ⟨0, Nat.one_pos, fun A E Q q => zgy ho2 rfl q, he⟩
def layE (x y : D) : Bool := PyData.canLay0 x && PyData.canLay0 y && decide (PyData.depth x <= 50) && PyData.eqv x y
def eqOk : D -> D -> Bool
 | .dict [], .dict [] => true
 | .dict [(.str k, v)], .dict [(.str k', v')] => decide (k = k') && layE v v'
 | x, y => layE x y
def oNeV : D -> D -> Option Bool
 | .list xs, .list ys => if xs.length = ys.length /\ (xs.zip ys).all (fun p => eqOk p.1 p.2) = true then some false else none
 | _, _ => none
section
variable {X : Cx} {pins : List (Addr × Obj)} {s : Shared} {σ : L2.St} {G H : Hp} {A : Around}
theorem zg0 (I : Inv X pins σ H s) (sg : Same G H) (hu : A.units + 60 < cLine) {v w : V} {x y : D} {a b : Value} (rv : Rep X.K G v x) (ra : RelV v a) (rw' : Rep X.K G w y) (rb : RelV w b) (h : layE x y = true) : EqAt A s a b true := by
 unfold layE at h
 simp only [Bool.and_eq_true, decide_eq_true_eq] at h
 obtain ⟨⟨⟨h1, h2⟩, h3⟩, h4⟩ := h
 obtain ⟨as, r1⟩ := zaK I sg rv ra h1
 obtain ⟨bs, r2⟩ := zaK I sg rw' rb h2
 have := SeqAt.eqAt_reads x y A s a b as bs r1 r2 h1 h2 (by omega)
 rw [h4] at this
 exact this
theorem zcy (I : Inv X pins σ H s) {a : Addr} {kvs : List (Key × V)} (h : H a = some (.dK kvs)) : (a == sysModules) = false /\ ∃ o es n vs, s.heap.get? a = some o /\ o.cls = .type "dict" /\ o.data = .dict es n /\ KV kvs vs /\ Pairs (zaN X.prog X.w) es.toList vs := by
 obtain ⟨_, h0, vs, kv, o, es, ep, e1, e2, e3, _, e5, _⟩ := (show kvs.length <= sizeLine /\ (a == sysModules) = false /\ ∃ vs, KV kvs vs /\ s.heap.DictOf (zaN X.prog X.w) a vs from I.hok a _ h)
 exact ⟨h0, o, es, ep, vs, e1, e2.1, e3, kv, e5⟩
end
theorem Rep.one_inv1 {K : PySem.W.Frag} {G : Hp} {v : V} {k : Str} {d : D} (h : Rep K G v (.dict [(.str k, d)])) : ∃ a w, v = .ref a /\ G a = some (.dK [(.inr k, w)]) /\ Rep K G w d := by
 cases h with
 | @dct ad ks vs ds _ e hne hl h r =>
  match ks, ds, r, e, hl, h with
  | [], _, _, _, _, _ => exact absurd rfl hne
  | k0 :: ks, [], _, _, hl, _ => simp at hl
  | k0 :: k1 :: ks, d0 :: d1 :: ds, _, e, _, _ => simp at e
  | [k0], d0 :: d1 :: ds, _, _, hl, _ => simp at hl
  | k0 :: k1 :: ks, [d0], _, _, hl, _ => simp at hl
  | [k0], [d0], .cons r0 .nil, e, _, h =>
   have e : [(PyData.str k, d)] = [(kD k0, d0)] := e
   injection e with e _
   injection e with e1 e2
   subst e2
   cases k0 with
   | inl i => cases e1
   | inr x =>
    have e1 : PyData.str k = .str x := e1
    injection e1 with e1
    subst e1
    exact ⟨ad, _, rfl, h, r0⟩
section
variable {X : Cx} {pins : List (Addr × Obj)} {s : Shared} {σ : L2.St} {G H : Hp} {A : Around}
theorem zc5 {a b : Addr} (hu : A.units < cLine) (h : RcAt A s (.ref a) (.ref b) true) : EqAt A s (.ref a) (.ref b) true := by
 by_cases e : a = b
 ·subst e; exact EqAt.same _
 ·exact EqAt.of_refs e h
theorem zh9 (I : Inv X pins σ H s) (sg : Same G H) (hu : A.units + 62 < cLine) {v w : V} {x y : D} {a b : Value} (rv : Rep X.K G v x) (ra : RelV v a) (rw' : Rep X.K G w y) (rb : RelV w b) (h : eqOk x y = true) : EqAt A s a b true := by
 unfold eqOk at h
 split at h
 ·obtain ⟨p, rfl, hp⟩ := rv.dic_inv
  obtain ⟨q, rfl, hq⟩ := rw'.dic_inv
  cases ra
  cases rb
  obtain ⟨p0, o, es, n, vs, e1, e2, e3, kv, ps⟩ := zcy I (sg _ _ hp)
  obtain ⟨q0, o2, es2, n2, vs2, f1, f2, f3, kv2, ps2⟩ := zcy I (sg _ _ hq)
  cases kv
  cases kv2
  have z1 : es = #[] := by
   cases hz : es.toList with
   | nil => simpa using hz
   | cons c r => rw [hz] at ps; cases ps
  have z2 : es2 = #[] := by
   cases hz : es2.toList with
   | nil => simpa using hz
   | cons c r => rw [hz] at ps2; cases ps2
  exact zc5 (by omega) (RcAt.dicts1 p0 q0 e1 e2 e3 f1 f2 f3 (.inl ⟨z1, z2⟩) (by omega))
 ·rename_i k v1 k' v2
  simp only [Bool.and_eq_true, decide_eq_true_eq] at h
  obtain ⟨rfl, h⟩ := h
  obtain ⟨p, pv, rfl, hp, rp⟩ := rv.one_inv1
  obtain ⟨q, qv, rfl, hq, rq⟩ := rw'.one_inv1
  cases ra
  cases rb
  obtain ⟨p0, o, es, n, vs, e1, e2, e3, kv, ps⟩ := zcy I (sg _ _ hp)
  obtain ⟨q0, o2, es2, n2, vs2, f1, f2, f3, kv2, ps2⟩ := zcy I (sg _ _ hq)
  cases kv with
  | cons c1 c2 =>
  cases c2
  cases kv2 with
  | cons c3 c4 =>
  cases c4
  cases hz : es.toList with
  | nil => rw [hz] at ps; cases ps
  | cons e er =>
  rw [hz] at ps
  cases ps with
  | cons s1 s2 s3 =>
  cases er with
  | cons _ _ => cases s3
  | nil =>
  cases hz2 : es2.toList with
  | nil => rw [hz2] at ps2; cases ps2
  | cons e' er' =>
  rw [hz2] at ps2
  cases ps2 with
  | cons t1 t2 t3 =>
  cases er' with
  | cons _ _ => cases t3
  | nil =>
  have z1 : es = #[e] := by rw [← Array.toArray_toList (xs := es), hz]
  have z2 : es2 = #[e'] := by rw [← Array.toArray_toList (xs := es2), hz2]
  obtain ⟨hh, ek, ev⟩ := e
  obtain ⟨hh', ek', ev'⟩ := e'
  have s1 : zcA _ ek = true := s1
  have t1 : zcA _ ek' = true := t1
  rw [← c1.1] at s1
  rw [← c3.1] at t1
  rcases zar s1 with ⟨i, t, q1, _⟩ | ⟨x1, t, q1, rfl⟩
  ·cases q1
  rcases zar t1 with ⟨i, t', q2, _⟩ | ⟨x2, t', q2, rfl⟩
  ·cases q2
  injection q1 with q1
  injection q2 with q2
  subst q1
  subst q2
  have s2 : ev = _ := s2
  have t2 : ev' = _ := t2
  subst s2 t2
  exact zc5 (by omega) (RcAt.dicts1 p0 q0 e1 e2 e3 f1 f2 f3 (.inr ⟨_, _, _, _, _, _, _, z1, z2, zg0 I sg (by rw [Around.in1_units]; omega) rp c1.2 rq c3.2 h⟩) (by omega))
 ·exact zg0 I sg (by omega) rv ra rw' rb h
end
theorem zdS {X : Cx} {pins : List (Addr × Obj)} {s : Shared} {σ : L2.St} {G H : Hp} {A : Around} (I : Inv X pins σ H s) (sg : Same G H) (hu : A.units + 62 < cLine) : ∀ {vs ws : List V} {xs ys : List D} {us us' : List Value}, Reps X.K G vs xs -> Reps X.K G ws ys -> Vals vs us -> Vals ws us' -> (xs.zip ys).all (fun p => eqOk p.1 p.2) = true -> ∀ j (h1 : j < us.length) (h2 : j < us'.length), EqAt A s us[j] us'[j] true
 | _, _, _, _, _, _, .nil, _, b1, _, _, j, h1, _ => by cases b1; exact absurd h1 (by simp)
 | _, _, _, _, _, _, .cons _ _, .nil, _, b2, _, j, _, h2 => by cases b2; exact absurd h2 (by simp)
 | _, _, _, _, _, _, .cons q1 t1, .cons q2 t2, b1, b2, ha, j, h1, h2 => by
  cases b1 with
  | cons b1 b1' =>
  cases b2 with
  | cons b2 b2' =>
  rw [List.zip_cons_cons, List.all_cons, Bool.and_eq_true] at ha
  cases j with
  | zero => exact zh9 I sg hu q1 b1 q2 b2 ha.1
  | succ j => exact zdS I sg hu t1 t2 b1' b2' ha.2 j (by simpa using h1) (by simpa using h2)
theorem zkt {X : Cx} (hu : X.A.units + 64 < cLine) : OpB X (compareOp .NotEq) oNeV := by
 refine ⟨fun v u H Q => ∃ G x y d, Same G H /\ Rep X.K G v x /\ Rep X.K G u y /\ oNeV x y = some d /\ Q (.bl d) H, ?_, fun v u G H x y d Q s rx ry e k => ⟨G, x, y, d, s, rx, ry, e, k⟩⟩
 intro pins s σ H x y v u Q I rx ry ⟨G, dx, dy, d, sg, px, py, e, q⟩
 unfold oNeV at e
 split at e
 ·rename_i xs ys
  split at e
  ·rename_i c
   cases e
   obtain ⟨l, vs, rfl, h1, r1⟩ := px.lst_inv
   obtain ⟨m, ws, rfl, h2, r2⟩ := py.lst_inv
   cases rx
   cases ry
   obtain ⟨its, r, p, z⟩ := I.list (sg.seq h1)
   obtain ⟨its2, r', p2, z2⟩ := I.list (sg.seq h2)
   have hsz : its.toArray.size = its2.toArray.size := by
    rw [List.size_toArray, List.size_toArray, ← r.length, ← r'.length, r1.length, r2.length, c.1]
   have := SeqAt.RcNeAt.lists (A := X.A) (e := fun _ => true) p.isList p2.isList hsz (by omega) (fun j h1 h2 => by
    have := zdS (A := X.A.in1) I sg (by rw [Around.in1_units]; omega) r1 r2 r r' c.2 j (by simpa using h1) (by simpa using h2)
    simpa using this) X.prog X.w X.xe
   refine this _ ?_
   have hf : (!(List.range its.toArray.size).all fun _ => true) = false := by simp
   rw [hf]
   exact ⟨.bl false, H, I, rfl, q⟩
  ·cases e
 ·cases e
end DL
namespace W
open PySem PySem.Spec L2 DL
open PyProof.Rows hiding St
def top (i : Nat) : Stmt := PySem.Challenge.pw_wishdeal_k04_refusals.main.body.getD i (.Pass ⟨0, 0, 0, 0⟩)
abbrev GG (s : Stmt) (x : Str) : Prop := (zag s).names.lookup x = some NameKind.globalImplicit
abbrev VV (s : Stmt) (x : Str) : Prop := L2.Vis (zag s) x
abbrev LL (s : Stmt) (x : Str) : Prop := L2.Loc (zag s) x
theorem vk {s : Stmt} {x : Str} (h : (zag s).names.lookup x = some .local ∨ (zag s).names.lookup x = some .cell ∨ (zag s).names.lookup x = some .free) : VV s x := h
theorem lk {s : Stmt} {x : Str} (h : (zag s).names.lookup x = some .local ∨ (zag s).names.lookup x = some .cell) : LL s x := h
structure Txt (K : PySem.W.Frag) (mg : Str -> Option Value) : Prop where
 b_ValueError : mg "ValueError" = none
 b_all : mg "all" = none
 b_bool : mg "bool" = none
 b_enumerate : mg "enumerate" = none
 b_int : mg "int" = none
 b_isinstance : mg "isinstance" = none
 b_len : mg "len" = none
 b_max : mg "max" = none
 b_range : mg "range" = none
 b_str : mg "str" = none
 c_FIGURES : ∃ t, mg "FIGURES" = some (Value.str "0123456789" t)
 c_MOST_FIGURES : ∃ t, mg "MOST_FIGURES" = some (Value.int 60 t)
 x_DealError : CK K mg "DealError"
 x_NoAim : CK K mg "NoAim"
 x_NoBook : CK K mg "NoBook"
 x_NoChange : CK K mg "NoChange"
 x_NoDeed : CK K mg "NoDeed"
 x_NoJoin : CK K mg "NoJoin"
 x_NoName : CK K mg "NoName"
 x_NoNumbering : CK K mg "NoNumbering"
 x_NoPlace : CK K mg "NoPlace"
 x_NoRow : CK K mg "NoRow"
 x_NoText : CK K mg "NoText"
 x_NoWay : CK K mg "NoWay"
 x_NoWishes : CK K mg "NoWishes"
 x_TooMany : CK K mg "TooMany"
abbrev Sad : Stmt := top 22
abbrev N_ad : List Str := ["_law_error", "_law_kinds"]
theorem Had : FnNm (zag Sad) N_ad ["range", "isinstance", "DealError", "ValueError", "TooMany", "NoName", "NoRow", "NoDeed", "NoBook", "NoJoin", "NoNumbering", "NoChange", "NoPlace", "NoWay", "NoText", "NoAim", "NoWishes"] := za7 (by decide +kernel)
def g_ad : SM :=
 sSeq (zcp 1 (zaf (zad (zaf (dVar 0) fun d => mOpt (oIsX "NoWishes" d)) (zad (zaf (dVar 0) fun d => mOpt (oIsX "NoAim" d)) (mNil))) fun xs => if xs.length <= 1000000 then zac xs else fun _ => .bad))
 (sSeq (sSet 1 (dBin oAdd (dVar 1) (mLst (zad (zaf (dVar 0) fun d => mOpt (oIsX "NoText" d)) (zad (zaf (dVar 0) fun d => mOpt (oIsX "NoWay" d)) (mNil))))))
 (sSeq (sSet 1 (dBin oAdd (dVar 1) (mLst (zad (zaf (dVar 0) fun d => mOpt (oIsX "NoPlace" d)) (zad (zaf (dVar 0) fun d => mOpt (oIsX "NoChange" d)) (mNil))))))
 (sSeq (sSet 1 (dBin oAdd (dVar 1) (mLst (zad (zaf (dVar 0) fun d => mOpt (oIsX "NoNumbering" d)) (zad (zaf (dVar 0) fun d => mOpt (oIsX "NoJoin" d)) (mNil))))))
 (sSeq (sSet 1 (dBin oAdd (dVar 1) (mLst (zad (zaf (dVar 0) fun d => mOpt (oIsX "NoBook" d)) (zad (zaf (dVar 0) fun d => mOpt (oIsX "NoDeed" d)) (mNil))))))
 (sSeq (sSet 1 (dBin oAdd (dVar 1) (mLst (zad (zaf (dVar 0) fun d => mOpt (oIsX "NoRow" d)) (zad (zaf (dVar 0) fun d => mOpt (oIsX "NoName" d)) (mNil))))))
 (sSeq (sSet 1 (dBin oAdd (dVar 1) (mLst (zad (zaf (dVar 0) fun d => mOpt (oIsX "TooMany" d)) (mNil)))))
 (sSeq (sIf (mOr (mNot (za0 (zaf (dVar 0) fun d => mOpt (oIsX "DealError" d)))) (mNot (za0 (zaf (dVar 0) fun d => mOpt (oIsV d)))))
 (sRet (zac .none))
 (sNx))
 (sRet (mMap PyData.list (ze0 (zeU (zad (zac (.int 13)) (mNil))) 1 (gN 2) (za0 (dIxN 1 (dVar 2))) (dVar 2)))))))))))
def F_ad : List D -> Option D := runD N_ad g_ad
abbrev Saa : Stmt := top 18
abbrev N_aa : List Str := ["thing", "figures"]
theorem Haa : FnNm (zag Saa) N_aa ["all", "len", "MOST_FIGURES", "isinstance", "str"] := za7 (by decide +kernel)
def g_aa : SM :=
 sSeq (sIf (mNot (za0 (mMap (fun d => .bool (isTy d "str")) (dVar 0))))
 (sRet (zac (.bool false)))
 (sNx))
 (sSeq (sSet 1 (zjy (fun z y => if z.length <= 1000000 then some (.str (Txt.removeprefix z y)) else none) (dVar 0) (zad (zac (.str "-")) (mNil))))
 (sSeq (sIf (mNot (zgK (oIB fun i j => decide (i <= j)) (oIB fun i j => decide (i <= j)) (zac (.int 1)) (zeb 1) (zac (.int 60))))
 (sRet (zac (.bool false)))
 (sNx))
 (sSeq (sIf (mNot (za0 (zdl oAll (zad (mMap PyData.list (zhH (zgR (dVar 1)) 1 (gN 2) (zac true) (mMap PyData.bool (zb7 oIn 2 (zac (.str "0123456789")))))) (mNil)))))
 (sRet (zac (.bool false)))
 (sNx))
 (sRet (mOrV (mMap PyData.bool (dBin oNe (dIxN 1 (zac (.int 0))) (zac (.str "0")))) (mMap PyData.bool (zb7 oEq 0 (zac (.str "0")))))))))
def F_aa : List D -> Option D := runD N_aa g_aa
abbrev zbj : Stmt := top 19
abbrev zbk : List Str := ["text"]
theorem zay : FnNm (zag zbj) zbk ["int", "is_written_number", "NoText"] := za7 (by decide +kernel)
def zbl : SM :=
 sSeq (sIf (mNot (za0 (dFun 1 F_aa (zad (dVar 0) (mNil)))))
 (zfl "NoText" (zad (zac (.int 0)) (mNil)))
 (sNx))
 (sRet (zdl zh8 (zad (dVar 0) (mNil))))
def zaZ : List D -> Option XR := runX zbk zbl
abbrev Sag : Stmt := top 25
abbrev N_ag : List Str := ["_law_thing", "_law_kept", "e"]
theorem Hag : FnNm (zag Sag) N_ag ["_law_refusal", "isinstance", "bool", "read_number", "DealError"] := za7 (by decide +kernel)
def g_ag : SM :=
 sSeq (sSet 1 (zac .none))
 (sSeq (sTry 2 "DealError" (sX (zh1 1 zaZ (zad (dVar 0) (mNil))) fun _ ρ => .nx ρ) (sSet 1 (dVar 2)))
 (sSeq (sIf (mOr (mMap isNon (dVar 1)) (mOr (dBin oNe (dFun 1 F_ad (zad (dVar 1) (mNil))) (mLst (zad (zac (.int 2)) (mNil)))) (za0 (mMap (fun d => .bool (isTy d "bool")) (zaf (dVar 1) fun d => mOpt (oFld "row" d))))))
 (sRet (zac (.bool false)))
 (sNx))
 (sRet (mMap PyData.bool (dBin oEq (zaf (dVar 1) fun d => mOpt (oFld "row" d)) (zac (.int 0)))))))
def F_ag : List D -> Option D := runD N_ag g_ag
abbrev Sae : Stmt := top 23
abbrev N_ae : List Str := ["_law_wrong", "_law_part", "_law_row"]
theorem Hae : FnNm (zag Sae) N_ae ["TooMany", "_law_refusal", "DealError", "NoRow", "NoName", "NoBook", "NoDeed", "NoNumbering", "NoJoin", "NoPlace", "NoChange", "NoText", "NoWay", "NoWishes", "NoAim"] := za7 (by decide +kernel)
def g_ae : SM :=
 sSeq (sIf (mOr (dBin oNe (dFun 1 F_ad (zad (zaf (zad (dIxN 0 (zac (.int 0))) (zad (dIxN 0 (zac (.int 1))) (mNil))) fun ds => mOpt (oMkX "NoWishes" ds)) (mNil))) (mLst (zad (zac (.int 0)) (mNil)))) (dBin oNe (dFun 1 F_ad (zad (zaf (zad (dVar 1) (mNil)) fun ds => mOpt (oMkX "NoAim" ds)) (mNil))) (mLst (zad (zac (.int 1)) (mNil)))))
 (sRet (zac (.bool false)))
 (sNx))
 (sSeq (sIf (mOr (dBin oNe (dFun 1 F_ad (zad (zaf (zad (dVar 2) (mNil)) fun ds => mOpt (oMkX "NoText" ds)) (mNil))) (mLst (zad (zac (.int 2)) (mNil)))) (dBin oNe (dFun 1 F_ad (zad (zaf (zad (zac (.str "no way")) (mNil)) fun ds => mOpt (oMkX "NoWay" ds)) (mNil))) (mLst (zad (zac (.int 3)) (mNil)))))
 (sRet (zac (.bool false)))
 (sNx))
 (sSeq (sIf (mOr (dBin oNe (dFun 1 F_ad (zad (zaf (zad (zac (.str "no place")) (mNil)) fun ds => mOpt (oMkX "NoPlace" ds)) (mNil))) (mLst (zad (zac (.int 4)) (mNil)))) (dBin oNe (dFun 1 F_ad (zad (zaf (zad (zac (.str "no change")) (mNil)) fun ds => mOpt (oMkX "NoChange" ds)) (mNil))) (mLst (zad (zac (.int 5)) (mNil)))))
 (sRet (zac (.bool false)))
 (sNx))
 (sSeq (sIf (mOr (dBin oNe (dFun 1 F_ad (zad (zaf (zad (zac (.str "no numbering")) (mNil)) fun ds => mOpt (oMkX "NoNumbering" ds)) (mNil))) (mLst (zad (zac (.int 6)) (mNil)))) (dBin oNe (dFun 1 F_ad (zad (zaf (zad (zac (.str "no join")) (mNil)) fun ds => mOpt (oMkX "NoJoin" ds)) (mNil))) (mLst (zad (zac (.int 7)) (mNil)))))
 (sRet (zac (.bool false)))
 (sNx))
 (sSeq (sIf (mOr (dBin oNe (dFun 1 F_ad (zad (zaf (zad (zac (.str "no book")) (mNil)) fun ds => mOpt (oMkX "NoBook" ds)) (mNil))) (mLst (zad (zac (.int 8)) (mNil)))) (dBin oNe (dFun 1 F_ad (zad (zaf (zad (zac (.str "no deed")) (mNil)) fun ds => mOpt (oMkX "NoDeed" ds)) (mNil))) (mLst (zad (zac (.int 9)) (mNil)))))
 (sRet (zac (.bool false)))
 (sNx))
 (sSeq (sIf (mOr (dBin oNe (dFun 1 F_ad (zad (zaf (zad (zac (.str "no row")) (mNil)) fun ds => mOpt (oMkX "NoRow" ds)) (mNil))) (mLst (zad (zac (.int 10)) (mNil)))) (dBin oNe (dFun 1 F_ad (zad (zaf (zad (zac (.str "no name")) (mNil)) fun ds => mOpt (oMkX "NoName" ds)) (mNil))) (mLst (zad (zac (.int 11)) (mNil)))))
 (sRet (zac (.bool false)))
 (sNx))
 (sRet (zf5 (mMap PyData.bool (dBin oEq (dFun 1 F_ad (zad (zaf (zad (zac (.str "too many")) (mNil)) fun ds => mOpt (oMkX "TooMany" ds)) (mNil))) (mLst (zad (zac (.int 12)) (mNil))))) (mMap PyData.bool (dBin oEq (dFun 1 F_ad (zad (zaf (zad (zac (.str "refused")) (mNil)) fun ds => mOpt (oMkX "DealError" ds)) (mNil))) (mLst (mNil)))))))))))
def F_ae : List D -> Option D := runD N_ae g_ae
abbrev Saf : Stmt := top 24
abbrev N_af : List Str := ["_law_wrong", "_law_part", "_law_row", "_law_one", "_law_other", "_law_third"]
theorem Haf : FnNm (zag Saf) N_af ["NoText", "NoAim", "NoWishes"] := za7 (by decide +kernel)
def g_af : SM :=
 sSeq (sSet 3 (zaf (zad (dIxN 0 (zac (.int 0))) (zad (dIxN 0 (zac (.int 1))) (mNil))) fun ds => mOpt (oMkX "NoWishes" ds)))
 (sSeq (sSet 4 (zaf (zad (dVar 1) (mNil)) fun ds => mOpt (oMkX "NoAim" ds)))
 (sSeq (sSet 5 (zaf (zad (dVar 2) (mNil)) fun ds => mOpt (oMkX "NoText" ds)))
 (sRet (zf5 (mMap PyData.bool (dBin oEq (mTup (zad (zaf (dVar 3) fun d => mOpt (oFld "part" d)) (zad (zaf (dVar 3) fun d => mOpt (oFld "number" d)) (mNil)))) (dVar 0))) (zf5 (mMap PyData.bool (dBin oEq (zaf (dVar 4) fun d => mOpt (oFld "part" d)) (dVar 1))) (mMap PyData.bool (dBin oEq (zaf (dVar 5) fun d => mOpt (oFld "row" d)) (dVar 2))))))))
def F_af : List D -> Option D := runD N_af g_af
abbrev Sac : Stmt := top 21
abbrev N_ac : List Str := ["_law_cell", "_law_salt", "_law_sizes", "_law_number", "_law_left", "_law_found", "_law_k", "_law_one"]
theorem Hac : FnNm (zag Sac) N_ac ["len", "range", "max"] := za7 (by decide +kernel)
def zds : SM :=
 sIf (mAnd (zb7 (oIB fun i j => decide (j <= i)) 3 (dBin oPow (zac (.int 10)) (zac (.int 18)))) (zb7 (oIB fun i j => decide (j < i)) 4 (zac (.int 0))))
 (sSeq (sApp 5 (dBin oMod (dVar 4) (dIxN 2 (dVar 6))))
 (sSet 4 (dBin oDiv (dVar 4) (dIxN 2 (dVar 6)))))
 (sSeq (sSet 7 (dBin oMod (dBin oAdd (dBin oAdd (dBin oAdd (dVar 3) (dBin oMul (zac (.int 7919)) (dVar 1))) (dBin oMul (dBin oMul (zac (.int 101)) (dVar 6)) (dVar 6))) (dVar 6)) (zac (.int 2147483647))))
 (sSeq (sSet 7 (dBin oMod (dBin oMul (dVar 7) (zac (.int 48271))) (zac (.int 2147483647))))
 (sSeq (sSet 7 (dBin oMod (dBin oMul (dBin oMod (dBin oMul (dVar 7) (dVar 7)) (zac (.int 2147483629))) (zac (.int 48271))) (zac (.int 2147483647))))
 (sApp 5 (dBin oMod (dBin oDiv (dVar 7) (zac (.int 16))) (dIxN 2 (dVar 6)))))))
def g_ac : SM :=
 sSeq (sSet 3 (zdl zf8 (zad (dVar 0) (zad (dBin oSub (dNeg (zac (.int 1))) (dVar 0)) (mNil)))))
 (sSeq (sSet 4 (dVar 3))
 (sSeq (zcp 5 (zaf (mNil) fun xs => if xs.length <= 1000000 then zac xs else fun _ => .bad))
 (sSeq (sFor (zeU (zad (zeb 2) (mNil))) (gN 6) zds)
 (sRet (dVar 5)))))
def F_ac : List D -> Option D := runD N_ac g_ac
abbrev Sah : Stmt := top 26
abbrev N_ah : List Str := ["_law_script", "_law_at", "_law_cell", "_law_digits", "_law_some", "_law_wrong", "_law_part", "_law_far", "_law_things", "_law_kept"]
theorem Hah : FnNm (zag Sah) N_ah ["enumerate", "_law_refused", "_law_apart", "_law_has", "_law_numbers"] := za7 (by decide +kernel)
def zfw : SM :=
 sSeq (sSet 3 (dFun 3 F_ac (zad (dVar 2) (zad (dBin oAdd (zac (.int 500)) (dVar 1)) (zad (mLst (zad (zac (.int 6)) (zad (zac (.int 8)) (zad (zac (.int 12)) (zad (dBin oPow (zac (.int 10)) (zac (.int 18))) (mNil)))))) (mNil))))))
 (sSeq (zcp 4 (zaf (zad (mTup (zad (zac (.str "wishes")) (zad (zac .none) (mNil)))) (zad (mTup (zad (zac (.str "copies")) (zad (zac .none) (mNil)))) (zad (mTup (zad (zac (.str "lists")) (zad (zac .none) (mNil)))) (zad (mTup (zad (zac (.str "copies")) (zad (dBin oMod (dIxN 3 (zac (.int 1))) (zac (.int 6))) (mNil)))) (mNil))))) fun xs => if xs.length <= 1000000 then zac xs else fun _ => .bad))
 (sSeq (sSet 5 (dBin oIx (dBin oAdd (dVar 4) (mLst (zad (mTup (zad (zac (.str "lists")) (zad (dBin oMod (dIxN 3 (zac (.int 1))) (zac (.int 7))) (mNil)))) (zad (mTup (zad (zac (.str "lists")) (zad (zac (.int 0)) (mNil)))) (mNil))))) (dIxN 3 (zac (.int 0)))))
 (sSeq (sSet 6 (dBin oIx (mLst (zad (zac (.str "aim")) (zad (zac (.str "order")) (zad (zac (.str "old")) (zad (zac (.str "turns")) (mNil)))))) (dBin oMod (dIxN 3 (zac (.int 1))) (zac (.int 4)))))
 (sSeq (sIf (mOr (mNot (za0 (dFun 3 F_ae (zad (dVar 5) (zad (dVar 6) (zad (dIxN 3 (zac (.int 1))) (mNil))))))) (mNot (za0 (dFun 3 F_af (zad (dVar 5) (zad (dVar 6) (zad (dIxN 3 (zac (.int 1))) (mNil))))))))
 (sRet (zac (.bool false)))
 (sNx))
 (sSeq (sSet 7 (dIxN 3 (zac (.int 3))))
 (sSeq (zcp 8 (zaf (zad (zac .none) (zad (zac (.bool true)) (zad (zac (.bool false)) (zad (dVar 7) (zad (dBin oSub (zac (.int 0)) (dVar 7)) (zad (mLst (zad (zac (.str "1")) (mNil))) (zad (mTup (zad (zac (.str "1")) (mNil))) (zad (zac (.dict [])) (zad (mLst (mNil)) (zad (mTup (mNil)) (zad (zac (.int 0)) (zad (zft [(zac (.str "1"), zac (.int 1))]) (mNil))))))))))))) fun xs => if xs.length <= 1000000 then zac xs else fun _ => .bad))
 (sSeq (zcp 9 (zaf (zad (zac .none) (zad (zac (.bool true)) (zad (zac (.bool false)) (zad (dVar 7) (zad (dBin oSub (zac (.int 0)) (dVar 7)) (zad (mLst (zad (zac (.str "1")) (mNil))) (zad (mTup (zad (zac (.str "1")) (mNil))) (zad (zac (.dict [])) (zad (mLst (mNil)) (zad (mTup (mNil)) (zad (zac (.int 0)) (zad (zft [(zac (.str "1"), zac (.int 1))]) (mNil))))))))))))) fun xs => if xs.length <= 1000000 then zac xs else fun _ => .bad))
 (sIf (mOr (mNot (za0 (dFun 1 F_ag (zad (dIxN 8 (dIxN 3 (zac (.int 2)))) (mNil))))) (zfd oNeV (dVar 8) 9))
 (sRet (zac (.bool false)))
 (sNx)))))))))
def g_ah : SM :=
 sSeq (sFor (zga (zad (dBin oAdd (mLst (zad (zac (.int 1)) (mNil))) (dSlA (dVar 0) (zac none) (zaf (zac (.int 39)) fun x => mOpt (zhz x)))) (mNil))) (gT 2 (gNC (gN 1) (gNC (gN 2) (gN0)))) zfw)
 (sRet (zac (.bool true)))
def F_ah : List D -> Option D := runD N_ah g_ah
section
variable {P : Program} {w : World} {K : PySem.W.Frag} {mg : Str -> Option Value} {base : Heap} {f : Addr} {fd : FuncData} (T : Txt K mg)
include T
theorem Kad (F : Fun K "_law_refusal" "_law_refusal" Sad f fd) : FnOk P w K mg base CX0 1 f fd ["_law_error"] (spD K 1 F_ad) :=
 okD (k := 0) (g := g_ad) F (fq Had 1) rfl fun cdv A outer s H E B G0 hr =>
 have hu := hr.units
 have hgd := hr.gd
 (zam (zbX (i := 1) (nq Had) rfl (lq Had 1) (zbY (zaa (zaL T.x_NoWishes (gq Had 1) T.b_isinstance (gq Had 16) (zah (pq Had 0))) (zaa (zaL T.x_NoAim (gq Had 1) T.b_isinstance (gq Had 15) (zah (pq Had 0))) zab))))
 (zam (zaH (i := 1) (nq Had) rfl (lq Had 1) (zaG zbJ (zah (pq Had 1)) (zao (zaa (zaL T.x_NoText (gq Had 1) T.b_isinstance (gq Had 14) (zah (pq Had 0))) (zaa (zaL T.x_NoWay (gq Had 1) T.b_isinstance (gq Had 13) (zah (pq Had 0))) zab)))))
 (zam (zaH (i := 1) (nq Had) rfl (lq Had 1) (zaG zbJ (zah (pq Had 1)) (zao (zaa (zaL T.x_NoPlace (gq Had 1) T.b_isinstance (gq Had 12) (zah (pq Had 0))) (zaa (zaL T.x_NoChange (gq Had 1) T.b_isinstance (gq Had 11) (zah (pq Had 0))) zab)))))
 (zam (zaH (i := 1) (nq Had) rfl (lq Had 1) (zaG zbJ (zah (pq Had 1)) (zao (zaa (zaL T.x_NoNumbering (gq Had 1) T.b_isinstance (gq Had 10) (zah (pq Had 0))) (zaa (zaL T.x_NoJoin (gq Had 1) T.b_isinstance (gq Had 9) (zah (pq Had 0))) zab)))))
 (zam (zaH (i := 1) (nq Had) rfl (lq Had 1) (zaG zbJ (zah (pq Had 1)) (zao (zaa (zaL T.x_NoBook (gq Had 1) T.b_isinstance (gq Had 8) (zah (pq Had 0))) (zaa (zaL T.x_NoDeed (gq Had 1) T.b_isinstance (gq Had 7) (zah (pq Had 0))) zab)))))
 (zam (zaH (i := 1) (nq Had) rfl (lq Had 1) (zaG zbJ (zah (pq Had 1)) (zao (zaa (zaL T.x_NoRow (gq Had 1) T.b_isinstance (gq Had 6) (zah (pq Had 0))) (zaa (zaL T.x_NoName (gq Had 1) T.b_isinstance (gq Had 5) (zah (pq Had 0))) zab)))))
 (zam (zaH (i := 1) (nq Had) rfl (lq Had 1) (zaG zbJ (zah (pq Had 1)) (zao (zaa (zaL T.x_TooMany (gq Had 1) T.b_isinstance (gq Had 4) (zah (pq Had 0))) zab))))
 (zam (zbr (PW.pt (za9 (za4 (zaY (zaL T.x_DealError (gq Had 1) T.b_isinstance (gq Had 2) (zah (pq Had 0))))) (zaX (za4 (zaY (zh3 (gq Had 1) T.b_isinstance (gq Had 3) T.b_ValueError (zah (pq Had 0))))))))
 (zaw (zaI zbp))
 zaW)
 (zaw (zaI (ze3 (zje (zag Sad) N_ad ["_law_error", "_law_kinds", "_law_k"] 1 ze2 rfl (zcQ (gq Had 0) T.b_range (zaa zal zab)) (fun cl C s0 H0 ex => ⟨fun B' G' => (zbW (zbP (i := 2) (show (["_law_error", "_law_kinds", "_law_k"] : List Str).Nodup by decide +kernel) rfl (zeW rfl) (.inr (zgQ rfl)))), fun B' G' => (zhJ (zaY (zaC (pvb 1) (zah (pvb 2)) (fun _ _ => rfl)))), (zcV rfl rfl rfl fun B' G' => (zah (pvb 2)))⟩) rfl rfl (by decide +kernel)))))))))))))
theorem Kaa (F : Fun K "is_written_number" "is_written_number" Saa f fd) : FnOk P w K mg base CX0 1 f fd ["thing"] (spD K 1 F_aa) :=
 okD (k := 0) (g := g_aa) F (fq Haa 1) rfl fun cdv A outer s H E B G0 hr =>
 have hu := hr.units
 have hgd := hr.gd
 (zam (zbr (za4 (zaY (zca (c := "str") (by decide) (gq Haa 3) T.b_isinstance (gq Haa 4) T.b_str (by decide +kernel) (zah (pq Haa 0)) (by decide) (by decide))))
 (zaw (zaI zaE))
 zaW)
 (zam (zaH (i := 1) (nq Haa) rfl (lq Haa 1) (zgu PySem.F.slot_str_removeprefix PySem.F.type_str_removeprefix zjz (zah (pq Haa 0)) (zaa zat zab)))
 (zam (zbr (za4 (zeS B_le B_le zal (zdF (gq Haa 1) T.b_len (pq Haa 1)) (zkf (gq Haa 2) T.c_MOST_FIGURES)))
 (zaw (zaI zaE))
 zaW)
 (zam (zbr (za4 (zaY (zcP (zkd rfl) (gq Haa 0) T.b_all PyProof.Rows.boot_all (zaa (ze3 (zje (zag Saa) N_aa ["thing", "figures", "sign"] 1 zgf rfl (zjg (zah (pq Haa 1))) (fun cl C s0 H0 ex => ⟨fun B' G' => (zbW (zbP (i := 2) (show (["thing", "figures", "sign"] : List Str).Nodup by decide +kernel) rfl (zeW rfl) (.inr (zgQ rfl)))), fun B' G' => zhI, (zcV rfl rfl rfl fun B' G' => (ze7 (B_in hu) (pvb 2) (zkg (zjb rfl) T.c_FIGURES) rfl))⟩) rfl rfl (by decide +kernel))) zab))))
 (zaw (zaI zaE))
 zaW)
 (zaw (zaI (zi5 (zbq (B_ne hu) (zaC (pq Haa 1) zal (fun _ _ => rfl)) zat (zaD _)) (zdk (ze7 (B_eq hu) (pq Haa 0) zat (zaD _))))))))))
theorem zb3 (d_aa : Def P w K mg base "is_written_number" 1 1 F_aa) (m_NoText : MkX P w K mg base "NoText" 2) (F : Fun K "read_number" "read_number" zbj f fd) : FnOk P w K mg base (CX1 P w) 4 f fd ["text"] (spX K 1 zaZ) :=
 okX (k := 3) (g := zbl) F (fq zay 1) rfl fun cdv A outer s H E B G0 hr =>
 have hu := hr.units
 have hgd := hr.gd
 (zam (zbr (za4 (zaY (pdf d_aa hr (gq zay 1) (zaa (zah (pq zay 0)) zab))))
 (zaw (zgp m_NoText hr rfl zfR (gq zay 2) (zaa zal zab)))
 zaW)
 (zaw (zaI (zea zjD (gq zay 0) T.b_int PyProof.Rows.boot_int (zaa (zah (pq zay 0)) zab)))))
theorem Kag (d_ad : Def P w K mg base "_law_refusal" 1 1 F_ad) (dX_read_number : DefX P w K mg base "read_number" 4 1 zaZ) (F : Fun K "_law_refused" "_law_refused" Sag f fd) : FnOk P w K mg base CX0 5 f fd ["_law_thing"] (spD K 1 F_ag) :=
 okD (k := 4) (g := g_ag) F (fq Hag 1) rfl fun cdv A outer s H E B G0 hr =>
 have hu := hr.units
 have hgd := hr.gd
 (zam (zaH (i := 1) (nq Hag) rfl (lq Hag 1) zbp)
 (zam (zjr (i := 2) T.x_DealError (gq Hag 4) (nq Hag) rfl rfl (fun KX' W pn hw => (zaw (zgr (zgq dX_read_number hr hw (gq Hag 3) (zaa (zah (pq Hag 0)) zab))))) (fun a => (zaw (zaH (i := 1) (nq Hag) rfl (lq Hag 1) (zah (pq Hag 2))))))
 (zam (zbr (PW.pt (za9 (zhy (zah (pq Hag 1))) (za9 (zaM (B_ne hu) (pdf d_ad hr (gq Hag 0) (zaa (zah (pq Hag 1)) zab)) (zao (zaa zal zab)) (zaD _)) (zaX (zaY (zca (c := "bool") (by decide) (gq Hag 1) T.b_isinstance (gq Hag 2) T.b_bool (by decide +kernel) (zbh (zah (pq Hag 1))) (by decide) (by decide)))))))
 (zaw (zaI zaE))
 zaW)
 (zaw (zaI (zbq (B_eq hu) (zbh (zah (pq Hag 1))) zal (zaD _)))))))
theorem Kae (d_ad : Def P w K mg base "_law_refusal" 1 1 F_ad) (m_TooMany : MkX P w K mg base "TooMany" 1) (m_DealError : MkX P w K mg base "DealError" 1) (m_NoRow : MkX P w K mg base "NoRow" 1) (m_NoName : MkX P w K mg base "NoName" 1) (m_NoBook : MkX P w K mg base "NoBook" 1) (m_NoDeed : MkX P w K mg base "NoDeed" 1) (m_NoNumbering : MkX P w K mg base "NoNumbering" 1) (m_NoJoin : MkX P w K mg base "NoJoin" 1) (m_NoPlace : MkX P w K mg base "NoPlace" 1) (m_NoChange : MkX P w K mg base "NoChange" 1) (m_NoText : MkX P w K mg base "NoText" 2) (m_NoWay : MkX P w K mg base "NoWay" 1) (m_NoWishes : MkX P w K mg base "NoWishes" 2) (m_NoAim : MkX P w K mg base "NoAim" 2) (F : Fun K "_law_apart" "_law_apart" Sae f fd) : FnOk P w K mg base CX0 4 f fd ["_law_wrong", "_law_part", "_law_row"] (spD K 3 F_ae) :=
 okD (k := 3) (g := g_ae) F (fq Hae 3) rfl fun cdv A outer s H E B G0 hr =>
 have hu := hr.units
 have hgd := hr.gd
 (zam (zbr (PW.pt (za9 (zaM (B_ne hu) (pdf d_ad hr (gq Hae 1) (zaa (zaF m_NoWishes hr (gq Hae 13) (zaa (zaC (pq Hae 0) zal (fun _ _ => rfl)) (zaa (zaC (pq Hae 0) zal (fun _ _ => rfl)) zab))) zab)) (zao (zaa zal zab)) (zaD _)) (zaX (zaM (B_ne hu) (pdf d_ad hr (gq Hae 1) (zaa (zaF m_NoAim hr (gq Hae 14) (zaa (zah (pq Hae 1)) zab)) zab)) (zao (zaa zal zab)) (zaD _)))))
 (zaw (zaI zaE))
 zaW)
 (zam (zbr (PW.pt (za9 (zaM (B_ne hu) (pdf d_ad hr (gq Hae 1) (zaa (zaF m_NoText hr (gq Hae 11) (zaa (zah (pq Hae 2)) zab)) zab)) (zao (zaa zal zab)) (zaD _)) (zaX (zaM (B_ne hu) (pdf d_ad hr (gq Hae 1) (zaa (zaF m_NoWay hr (gq Hae 12) (zaa zat zab)) zab)) (zao (zaa zal zab)) (zaD _)))))
 (zaw (zaI zaE))
 zaW)
 (zam (zbr (PW.pt (za9 (zaM (B_ne hu) (pdf d_ad hr (gq Hae 1) (zaa (zaF m_NoPlace hr (gq Hae 9) (zaa zat zab)) zab)) (zao (zaa zal zab)) (zaD _)) (zaX (zaM (B_ne hu) (pdf d_ad hr (gq Hae 1) (zaa (zaF m_NoChange hr (gq Hae 10) (zaa zat zab)) zab)) (zao (zaa zal zab)) (zaD _)))))
 (zaw (zaI zaE))
 zaW)
 (zam (zbr (PW.pt (za9 (zaM (B_ne hu) (pdf d_ad hr (gq Hae 1) (zaa (zaF m_NoNumbering hr (gq Hae 7) (zaa zat zab)) zab)) (zao (zaa zal zab)) (zaD _)) (zaX (zaM (B_ne hu) (pdf d_ad hr (gq Hae 1) (zaa (zaF m_NoJoin hr (gq Hae 8) (zaa zat zab)) zab)) (zao (zaa zal zab)) (zaD _)))))
 (zaw (zaI zaE))
 zaW)
 (zam (zbr (PW.pt (za9 (zaM (B_ne hu) (pdf d_ad hr (gq Hae 1) (zaa (zaF m_NoBook hr (gq Hae 5) (zaa zat zab)) zab)) (zao (zaa zal zab)) (zaD _)) (zaX (zaM (B_ne hu) (pdf d_ad hr (gq Hae 1) (zaa (zaF m_NoDeed hr (gq Hae 6) (zaa zat zab)) zab)) (zao (zaa zal zab)) (zaD _)))))
 (zaw (zaI zaE))
 zaW)
 (zam (zbr (PW.pt (za9 (zaM (B_ne hu) (pdf d_ad hr (gq Hae 1) (zaa (zaF m_NoRow hr (gq Hae 3) (zaa zat zab)) zab)) (zao (zaa zal zab)) (zaD _)) (zaX (zaM (B_ne hu) (pdf d_ad hr (gq Hae 1) (zaa (zaF m_NoName hr (gq Hae 4) (zaa zat zab)) zab)) (zao (zaa zal zab)) (zaD _)))))
 (zaw (zaI zaE))
 zaW)
 (zaw (zaI (zdj (zbq (B_eq hu) (pdf d_ad hr (gq Hae 1) (zaa (zaF m_TooMany hr (gq Hae 0) (zaa zat zab)) zab)) (zao (zaa zal zab)) (zaD _)) (zdk (zbq (B_eq hu) (pdf d_ad hr (gq Hae 1) (zaa (zaF m_DealError hr (gq Hae 2) (zaa zat zab)) zab)) (zao zab) (zaD _))))))))))))
theorem Kaf (m_NoText : MkX P w K mg base "NoText" 2) (m_NoAim : MkX P w K mg base "NoAim" 2) (m_NoWishes : MkX P w K mg base "NoWishes" 2) (F : Fun K "_law_has" "_law_has" Saf f fd) : FnOk P w K mg base CX0 4 f fd ["_law_wrong", "_law_part", "_law_row"] (spD K 3 F_af) :=
 okD (k := 3) (g := g_af) F (fq Haf 3) rfl fun cdv A outer s H E B G0 hr =>
 have hu := hr.units
 have hgd := hr.gd
 (zam (zaH (i := 3) (nq Haf) rfl (lq Haf 3) (zaF m_NoWishes hr (gq Haf 2) (zaa (zaC (pq Haf 0) zal (fun _ _ => rfl)) (zaa (zaC (pq Haf 0) zal (fun _ _ => rfl)) zab))))
 (zam (zaH (i := 4) (nq Haf) rfl (lq Haf 4) (zaF m_NoAim hr (gq Haf 1) (zaa (zah (pq Haf 1)) zab)))
 (zam (zaH (i := 5) (nq Haf) rfl (lq Haf 5) (zaF m_NoText hr (gq Haf 0) (zaa (zah (pq Haf 2)) zab)))
 (zaw (zaI (zdj (zbq (B_eq hu) (zaT (zaa (zbh (zah (pq Haf 3))) (zaa (zbh (zah (pq Haf 3))) zab))) (zah (pq Haf 0)) (zaD _)) (zdj (zbq (B_eq hu) (zbh (zah (pq Haf 4))) (zah (pq Haf 1)) (zaD _)) (zdk (zbq (B_eq hu) (zbh (zah (pq Haf 5))) (zah (pq Haf 2)) (zaD _))))))))))
theorem Kac (F : Fun K "_law_numbers" "_law_numbers" Sac f fd) : FnOk P w K mg base CX0 1 f fd ["_law_cell", "_law_salt", "_law_sizes"] (spD K 3 F_ac) :=
 okD (k := 0) (g := g_ac) F (fq Hac 3) rfl fun cdv A outer s H E B G0 hr =>
 have hu := hr.units
 have hgd := hr.gd
 (zam (zaH (i := 3) (nq Hac) rfl (lq Hac 3) (zcP (zi6 rfl) (gq Hac 2) T.b_max boot_max (zaa (zah (pq Hac 0)) (zaa (zaG zhv (zhE zal) (zah (pq Hac 0))) zab))))
 (zam (zaH (i := 4) (nq Hac) rfl (lq Hac 4) (zah (pq Hac 3)))
 (zam (zbX (i := 5) (nq Hac) rfl (lq Hac 5) (zbY zab))
 (zam (zgP PassesOwn.never rfl (zcQ (gq Hac 1) T.b_range (zaa (zdF (gq Hac 0) T.b_len (pq Hac 2)) zab)) (zbW (zbP (i := 6) (nq Hac) rfl (lq Hac 6)))
 (zaw (zbr (PW.pt (zhx (ze6 B_ge (pq Hac 3) (zaG zi3 zal zal) (zaD _)) (zf4 (ze6 B_gt (pq Hac 4) zal (zaD _)))))
 (zam (zgO (pq Hac 5) (zaG zco (zah (pq Hac 4)) (zaC (pq Hac 2) (zah (pq Hac 6)) (fun _ _ => rfl))))
 (zaw (zaH (i := 4) (nq Hac) rfl (lq Hac 4) (zaG zi2 (zah (pq Hac 4)) (zaC (pq Hac 2) (zah (pq Hac 6)) (fun _ _ => rfl))))))
 (zam (zaH (i := 7) (nq Hac) rfl (lq Hac 7) (zaG zco (zaG zbJ (zaG zbJ (zaG zbJ (zah (pq Hac 3)) (zaG zd7 zal (zah (pq Hac 1)))) (zaG zd7 (zaG zd7 zal (zah (pq Hac 6))) (zah (pq Hac 6)))) (zah (pq Hac 6))) zal))
 (zam (zaH (i := 7) (nq Hac) rfl (lq Hac 7) (zaG zco (zaG zd7 (zah (pq Hac 7)) zal) zal))
 (zam (zaH (i := 7) (nq Hac) rfl (lq Hac 7) (zaG zco (zaG zd7 (zaG zco (zaG zd7 (zah (pq Hac 7)) (zah (pq Hac 7))) zal) zal) zal))
 (zaw (zgO (pq Hac 5) (zaG zco (zaG zi2 (zah (pq Hac 7)) zal) (zaC (pq Hac 2) (zah (pq Hac 6)) (fun _ _ => rfl)))))))))))
 (zaw (zaI (zah (pq Hac 5))))))))
theorem Kah (d_ag : Def P w K mg base "_law_refused" 5 1 F_ag) (d_ae : Def P w K mg base "_law_apart" 4 3 F_ae) (d_af : Def P w K mg base "_law_has" 4 3 F_af) (d_ac : Def P w K mg base "_law_numbers" 1 3 F_ac) (F : Fun K "law" "law" Sah f fd) : FnOk P w K mg base CX0 6 f fd ["_law_script"] (spD K 1 F_ah) :=
 okD (k := 5) (g := g_ah) F (fq Hah 1) rfl fun cdv A outer s H E B G0 hr =>
 have hu := hr.units
 have hgd := hr.gd
 (zam (zgP PassesOwn.never rfl (zhD (gq Hah 0) T.b_enumerate (zaa (zaG zbJ (zao (zaa zal zab)) (zeh (zah (pq Hah 0)) zf6 (zf7 zal))) zab)) (zi9 rfl (zeT (zbW (zbP (i := 1) (nq Hah) rfl (lq Hah 1))) (zeT (zbW (zbP (i := 2) (nq Hah) rfl (lq Hah 2))) zi8)))
 (zam (zaH (i := 3) (nq Hah) rfl (lq Hah 3) (pdf d_ac hr (gq Hah 4) (zaa (zah (pq Hah 2)) (zaa (zaG zbJ zal (zah (pq Hah 1))) (zaa (zao (zaa zal (zaa zal (zaa zal (zaa (zaG zi3 zal zal) zab))))) zab)))))
 (zam (zbX (i := 4) (nq Hah) rfl (lq Hah 4) (zbY (zaa (zaT (zaa zat (zaa zbp zab))) (zaa (zaT (zaa zat (zaa zbp zab))) (zaa (zaT (zaa zat (zaa zbp zab))) (zaa (zaT (zaa zat (zaa (zaG zco (zaC (pq Hah 3) zal (fun _ _ => rfl)) zal) zab))) zab))))))
 (zam (zaH (i := 5) (nq Hah) rfl (lq Hah 5) (zgM (zaG zbJ (zah (pq Hah 4)) (zao (zaa (zaT (zaa zat (zaa (zaG zco (zaC (pq Hah 3) zal (fun _ _ => rfl)) zal) zab))) (zaa (zaT (zaa zat (zaa zal zab))) zab)))) (zaC (pq Hah 3) zal (fun _ _ => rfl)) (fun _ _ => rfl)))
 (zam (zaH (i := 6) (nq Hah) rfl (lq Hah 6) (zgM (zao (zaa zat (zaa zat (zaa zat (zaa zat zab))))) (zaG zco (zaC (pq Hah 3) zal (fun _ _ => rfl)) zal) (fun _ _ => rfl)))
 (zam (zbr (PW.pt (za9 (za4 (zaY (pdf d_ae hr (gq Hah 2) (zaa (zah (pq Hah 5)) (zaa (zah (pq Hah 6)) (zaa (zaC (pq Hah 3) zal (fun _ _ => rfl)) zab)))))) (zaX (za4 (zaY (pdf d_af hr (gq Hah 3) (zaa (zah (pq Hah 5)) (zaa (zah (pq Hah 6)) (zaa (zaC (pq Hah 3) zal (fun _ _ => rfl)) zab)))))))))
 (zaw (zaI zaE))
 zaW)
 (zam (zaH (i := 7) (nq Hah) rfl (lq Hah 7) (zaC (pq Hah 3) zal (fun _ _ => rfl)))
 (zam (zbX (i := 8) (nq Hah) rfl (lq Hah 8) (by refine zbY ?_; (refine zaa ?_ ?_; (exact zbp); (refine zaa ?_ ?_; (exact zaE); (refine zaa ?_ ?_; (exact zaE); (refine zaa ?_ ?_; (exact (zah (pq Hah 7))); (refine zaa ?_ ?_; (exact (zaG zhv zal (zah (pq Hah 7)))); (refine zaa ?_ ?_; (refine zao ?_; (refine zaa ?_ ?_; (exact zat); (exact zab))); (refine zaa ?_ ?_; (refine zaT ?_; (refine zaa ?_ ?_; (exact zat); (exact zab))); (refine zaa ?_ ?_; (exact ze5); (refine zaa ?_ ?_; (refine zao ?_; (exact zab)); (refine zaa ?_ ?_; (refine zaT ?_; (exact zab)); (refine zaa ?_ ?_; (exact zal); (refine zaa ?_ ?_; (refine zdR ?_; refine zdQ (fun B' => ?_) (fun B' => ?_) zfu; (exact zat); (exact zal)); (exact zab)))))))))))))))
 (zam (zbX (i := 9) (nq Hah) rfl (lq Hah 9) (by refine zbY ?_; (refine zaa ?_ ?_; (exact zbp); (refine zaa ?_ ?_; (exact zaE); (refine zaa ?_ ?_; (exact zaE); (refine zaa ?_ ?_; (exact (zah (pq Hah 7))); (refine zaa ?_ ?_; (exact (zaG zhv zal (zah (pq Hah 7)))); (refine zaa ?_ ?_; (refine zao ?_; (refine zaa ?_ ?_; (exact zat); (exact zab))); (refine zaa ?_ ?_; (refine zaT ?_; (refine zaa ?_ ?_; (exact zat); (exact zab))); (refine zaa ?_ ?_; (exact ze5); (refine zaa ?_ ?_; (refine zao ?_; (exact zab)); (refine zaa ?_ ?_; (refine zaT ?_; (exact zab)); (refine zaa ?_ ?_; (exact zal); (refine zaa ?_ ?_; (refine zdR ?_; refine zdQ (fun B' => ?_) (fun B' => ?_) zfu; (exact zat); (exact zal)); (exact zab)))))))))))))))
 (zaw (zbr (PW.pt (za9 (za4 (zaY (pdf d_ag hr (gq Hah 1) (zaa (zaC (pq Hah 8) (zaC (pq Hah 3) zal (fun _ _ => rfl)) (fun _ _ => rfl)) zab)))) (zaX (zh0 (zkt hu) (zah (pq Hah 8)) (pq Hah 9) (zaD _)))))
 (zaw (zaI zaE))
 zaW)))))))))))
 (zaw (zaI zaE)))
end
theorem zbf : recsOf q0 = zcc p0 ixL := by
 show recsOf (PySem.W.view PySem.Challenge.pw_wishdeal_k04_refusals zch) = zcc PySem.Challenge.pw_wishdeal_k04_refusals ixL
 rw [PySem.W.Fast.te3399658132070893891, PySem.W.Fast.te7224268869025231559]
 kernel_rfl
theorem zb4 : (["ValueError", "all", "bool", "enumerate", "int", "isinstance", "len", "max", "range", "str"] : List Str).all (zgo q0 (PySem.W.looseW q0 [])) = true := by
 show List.all _ (zgo (PySem.W.view PySem.Challenge.pw_wishdeal_k04_refusals zch) (PySem.W.looseW (PySem.W.view PySem.Challenge.pw_wishdeal_k04_refusals zch) [])) = true
 k_qdec
theorem zek : valOf q0 "FIGURES" = some (.str "0123456789") := by
 show valOf (PySem.W.view PySem.Challenge.pw_wishdeal_k04_refusals zch) _ = _
 rw [PySem.W.Fast.te1987589406359920131, PySem.W.Fast.te7224268869025231559]
 kernel_rfl
theorem zb5 : valOf q0 "MOST_FIGURES" = some (.int 60) := by
 show valOf (PySem.W.view PySem.Challenge.pw_wishdeal_k04_refusals zch) _ = _
 rw [PySem.W.Fast.te1987589406359920131, PySem.W.Fast.te7224268869025231559]
 kernel_rfl
theorem zjE {l : PySem.W.OpenLaw} {w : World} {s0 : Shared} {mg mb : Str -> Option Value} {fa : Addr} {h : Heap} {XP : (Str -> Option Value) -> Heap -> Prop} (G : PySem.W.Ground q0 [] [] XP w s0 mg mb h) (Y : XYP p0 clsL h) (hfa : mg "law" = some (.ref fa)) :
  ∃ fd : FuncData, (∀ (s : Shared) (v : Value), BindsTo s fd ⟨[v], []⟩ [("_law_script", v)]) /\ ∀ base : Heap, FnOk l.prog w (whole h) mg base CX0 6 fa fd ["_law_script"] (spD (whole h) 1 F_ah) := by
 obtain ⟨D0, f0, fd0, R⟩ := zh7 (i := 1) G.T.g Y (.head _) (zaU G.T zb4 (.head _)) (za7 (by decide +kernel)) rfl (fun _ => ⟨_, rfl⟩) (fun _ _ _ _ _ _ us hl => bz2 (us := us) hl fun _ _ => rfl)
 have T : Txt (whole h) mg := ⟨zaU G.T zb4 (.head _), zaU G.T zb4 (.tail _ (.head _)), zaU G.T zb4 (.tail _ (.tail _ (.head _))), zaU G.T zb4 (.tail _ (.tail _ (.tail _ (.head _)))), zaU G.T zb4 (.tail _ (.tail _ (.tail _ (.tail _ (.head _))))), zaU G.T zb4 (.tail _ (.tail _ (.tail _ (.tail _ (.tail _ (.head _)))))), zaU G.T zb4 (.tail _ (.tail _ (.tail _ (.tail _ (.tail _ (.tail _ (.head _))))))), zaU G.T zb4 (.tail _ (.tail _ (.tail _ (.tail _ (.tail _ (.tail _ (.tail _ (.head _)))))))), zaU G.T zb4 (.tail _ (.tail _ (.tail _ (.tail _ (.tail _ (.tail _ (.tail _ (.tail _ (.head _))))))))), zaU G.T zb4 (.tail _ (.tail _ (.tail _ (.tail _ (.tail _ (.tail _ (.tail _ (.tail _ (.tail _ (.head _)))))))))), zfh G.T zek, zfg G.T zb5, zbz (c := ("DealError", some 1)) G.T.g Y R (.head _), zbz (c := ("NoAim", some 3)) G.T.g Y R (.tail _ (.tail _ (.head _))), zbz (c := ("NoBook", none)) G.T.g Y R (.tail _ (.tail _ (.tail _ (.tail _ (.tail _ (.tail _ (.tail _ (.tail _ (.tail _ (.head _)))))))))), zbz (c := ("NoChange", none)) G.T.g Y R (.tail _ (.tail _ (.tail _ (.tail _ (.tail _ (.tail _ (.head _))))))), zbz (c := ("NoDeed", none)) G.T.g Y R (.tail _ (.tail _ (.tail _ (.tail _ (.tail _ (.tail _ (.tail _ (.tail _ (.tail _ (.tail _ (.head _))))))))))), zbz (c := ("NoJoin", none)) G.T.g Y R (.tail _ (.tail _ (.tail _ (.tail _ (.tail _ (.tail _ (.tail _ (.tail _ (.head _))))))))), zbz (c := ("NoName", none)) G.T.g Y R (.tail _ (.tail _ (.tail _ (.tail _ (.tail _ (.tail _ (.tail _ (.tail _ (.tail _ (.tail _ (.tail _ (.tail _ (.head _))))))))))))), zbz (c := ("NoNumbering", none)) G.T.g Y R (.tail _ (.tail _ (.tail _ (.tail _ (.tail _ (.tail _ (.tail _ (.head _)))))))), zbz (c := ("NoPlace", none)) G.T.g Y R (.tail _ (.tail _ (.tail _ (.tail _ (.tail _ (.head _)))))), zbz (c := ("NoRow", none)) G.T.g Y R (.tail _ (.tail _ (.tail _ (.tail _ (.tail _ (.tail _ (.tail _ (.tail _ (.tail _ (.tail _ (.tail _ (.head _)))))))))))), zbz (c := ("NoText", some 4)) G.T.g Y R (.tail _ (.tail _ (.tail _ (.head _)))), zbz (c := ("NoWay", none)) G.T.g Y R (.tail _ (.tail _ (.tail _ (.tail _ (.head _))))), zbz (c := ("NoWishes", some 2)) G.T.g Y R (.tail _ (.head _)), zbz (c := ("TooMany", none)) G.T.g Y R (.tail _ (.tail _ (.tail _ (.tail _ (.tail _ (.tail _ (.tail _ (.tail _ (.tail _ (.tail _ (.tail _ (.tail _ (.tail _ (.head _))))))))))))))⟩
 refine zkn G.T zbf 26 "law" rfl rfl hfa (fun _ _ _ _ _ _ _ => rfl) fun base => ?_
 have m_NoText := zfq (nm := "NoText") (j := 4) (ps := ["self", "row"]) G.T.g Y R (.tail _ (.tail _ (.tail _ (.head _)))) (by decide) l.prog w base (fun _ _ _ _ _ _ us hl => bz2 (us := us) hl fun _ _ => rfl) (fun FU => zfn R.cf (R.ok l.prog w base) R.bd R.at' FU (za7 (by decide +kernel)) (by decide) (by decide) (by decide) rfl (fun _ => ⟨_, rfl⟩) (by decide))
 have m_TooMany := zbi (nm := "TooMany") G.T.g Y R (.tail _ (.tail _ (.tail _ (.tail _ (.tail _ (.tail _ (.tail _ (.tail _ (.tail _ (.tail _ (.tail _ (.tail _ (.tail _ (.head _)))))))))))))) rfl l.prog w base
 have m_DealError := zjv G.T.g R l.prog w base
 have m_NoRow := zbi (nm := "NoRow") G.T.g Y R (.tail _ (.tail _ (.tail _ (.tail _ (.tail _ (.tail _ (.tail _ (.tail _ (.tail _ (.tail _ (.tail _ (.head _)))))))))))) rfl l.prog w base
 have m_NoName := zbi (nm := "NoName") G.T.g Y R (.tail _ (.tail _ (.tail _ (.tail _ (.tail _ (.tail _ (.tail _ (.tail _ (.tail _ (.tail _ (.tail _ (.tail _ (.head _))))))))))))) rfl l.prog w base
 have m_NoBook := zbi (nm := "NoBook") G.T.g Y R (.tail _ (.tail _ (.tail _ (.tail _ (.tail _ (.tail _ (.tail _ (.tail _ (.tail _ (.head _)))))))))) rfl l.prog w base
 have m_NoDeed := zbi (nm := "NoDeed") G.T.g Y R (.tail _ (.tail _ (.tail _ (.tail _ (.tail _ (.tail _ (.tail _ (.tail _ (.tail _ (.tail _ (.head _))))))))))) rfl l.prog w base
 have m_NoNumbering := zbi (nm := "NoNumbering") G.T.g Y R (.tail _ (.tail _ (.tail _ (.tail _ (.tail _ (.tail _ (.tail _ (.head _)))))))) rfl l.prog w base
 have m_NoJoin := zbi (nm := "NoJoin") G.T.g Y R (.tail _ (.tail _ (.tail _ (.tail _ (.tail _ (.tail _ (.tail _ (.tail _ (.head _))))))))) rfl l.prog w base
 have m_NoPlace := zbi (nm := "NoPlace") G.T.g Y R (.tail _ (.tail _ (.tail _ (.tail _ (.tail _ (.head _)))))) rfl l.prog w base
 have m_NoChange := zbi (nm := "NoChange") G.T.g Y R (.tail _ (.tail _ (.tail _ (.tail _ (.tail _ (.tail _ (.head _))))))) rfl l.prog w base
 have m_NoWay := zbi (nm := "NoWay") G.T.g Y R (.tail _ (.tail _ (.tail _ (.tail _ (.head _))))) rfl l.prog w base
 have m_NoWishes := zfq (nm := "NoWishes") (j := 2) (ps := ["self", "part", "number"]) G.T.g Y R (.tail _ (.head _)) (by decide) l.prog w base (fun _ _ _ _ _ _ us hl => bz3 (us := us) hl fun _ _ _ => rfl) (fun FU => zh5 R.cf (R.ok l.prog w base) R.bd R.at' FU (za7 (by decide +kernel)) rfl (fun _ => ⟨_, rfl⟩) (by decide) (by decide))
 have m_NoAim := zfq (nm := "NoAim") (j := 3) (ps := ["self", "part"]) G.T.g Y R (.tail _ (.tail _ (.head _))) (by decide) l.prog w base (fun _ _ _ _ _ _ us hl => bz2 (us := us) hl fun _ _ => rfl) (fun FU => zfn R.cf (R.ok l.prog w base) R.bd R.at' FU (za7 (by decide +kernel)) (by decide) (by decide) (by decide) rfl (fun _ => ⟨_, rfl⟩) (by decide))
 have d_ad := zej l.prog w base G.T zbf 22 "_law_refusal" rfl rfl (fun F => Kad T  F) fun _ _ _ _ _ _ us hl => bz1 (us := us) hl fun _ => rfl
 have d_aa := zej l.prog w base G.T zbf 18 "is_written_number" rfl rfl (fun F => Kaa T  F) fun _ _ _ _ _ _ us hl => bz1 (us := us) hl fun _ => rfl
 have dX_read_number := zjw l.prog w base G.T zbf 19 "read_number" rfl rfl (fun F => zb3 T d_aa m_NoText F) fun _ _ _ _ _ _ us hl => bz1 (us := us) hl fun _ => rfl
 have d_ag := zej l.prog w base G.T zbf 25 "_law_refused" rfl rfl (fun F => Kag T d_ad dX_read_number F) fun _ _ _ _ _ _ us hl => bz1 (us := us) hl fun _ => rfl
 have d_ae := zej l.prog w base G.T zbf 23 "_law_apart" rfl rfl (fun F => Kae T d_ad m_TooMany m_DealError m_NoRow m_NoName m_NoBook m_NoDeed m_NoNumbering m_NoJoin m_NoPlace m_NoChange m_NoText m_NoWay m_NoWishes m_NoAim F) fun _ _ _ _ _ _ us hl => bz3 (us := us) hl fun _ _ _ => rfl
 have d_af := zej l.prog w base G.T zbf 24 "_law_has" rfl rfl (fun F => Kaf T m_NoText m_NoAim m_NoWishes F) fun _ _ _ _ _ _ us hl => bz3 (us := us) hl fun _ _ _ => rfl
 have d_ac := zej l.prog w base G.T zbf 21 "_law_numbers" rfl rfl (fun F => Kac T  F) fun _ _ _ _ _ _ us hl => bz3 (us := us) hl fun _ _ _ => rfl
 exact fun {_ _} F => Kah T d_ag d_ae d_af d_ac F
abbrev d_ah : DefRec := ⟨"law", zaS Sah, zaA Sah, zag Sah, zkm Sah⟩
theorem walk {XP : (Str -> Option Value) -> Heap -> Prop} (hlaw : ∀ ns : List Int, ns.length <= 63 -> F_ah [.list (ns.map PyData.int)] = some (.bool true)) : PySem.W.WalkO q0 [] XP (fun _ h => XYP p0 clsL h) (PySem.Challenge.rw_wishdeal_k04_refusals).row.toRowW d_ah [] (fun f vs => PySem.call f vs) :=
 zfr (n := 63) (k := 6) (x := "_law_script") rfl (by decide) rfl ⟨rfl, by decide, by decide, rfl⟩ (fun _ _ _ _ _ _ G Y hm => zjE G Y hm) hlaw
end W
namespace W
open PySem PySem.Spec L2 DL
open PyProof.Rows hiding St
theorem asm {α : Type} {a b : α} (h : a = b) : a = b := h
theorem zjF {i : Nat} {x : Option Sl} {ρ ρ' : DEnv} (h : ρ.set i x = ρ') : ρ.set i x = ρ' := h
theorem zjG {i : Nat} {ρ : DEnv} {x : Option (Option Sl)} (h : ρ[i]? = x) : ρ[i]? = x := h
theorem asmN {ds : List D} {n : Nat} (h : ds.length < n) : ds.length < n := h
theorem zku {ds : List D} {n : Nat} (h : ds.length <= n) : ds.length <= n := h
theorem zjH {i : Nat} {ρ : DEnv} (h : i < ρ.length) : i < ρ.length := h
local macro_rules | `(tactic| walk_at "set") => `(tactic| first | (simp only [List.set_cons_succ, List.set_cons_zero]; done) | (simp only [List.set_cons_succ, List.set_cons_zero]; rfl) | rfl)
local macro_rules | `(tactic| walk_at "side") => `(tactic| first | assumption | omega | (simp only [List.length_cons, List.length_nil, List.length_map, List.length_append]; omega))
local macro_rules | `(tactic| walk_at "st1") => `(tactic| first
 | with_reducible apply zcZ
 | with_reducible apply zcx
 | ((with_reducible apply zjm); exact rfl)
 | with_reducible apply st_asg
 | with_reducible apply st_setI
 | with_reducible apply st_drop
 | with_reducible exact st_nx)
local macro_rules | `(tactic| walk_at "ev1") => `(tactic| first
 | with_reducible exact zaj
 | with_reducible exact zax
 | ((with_reducible apply za5); exact rfl)
 | with_reducible apply za6
 | with_reducible apply zae
 | with_reducible apply zgX
 | with_reducible apply ev_zip
 | ((with_reducible apply ev_listO); exact rfl)
 | with_reducible apply ev_items
 | ((with_reducible apply zhZ); exact rfl)
 | ((with_reducible apply ev_binKO); exact rfl)
 | with_reducible apply ev_join
 | with_reducible apply zgS
 | ((with_reducible apply zcu); exact rfl)
 | with_reducible apply zhP
 | with_reducible apply zjj
 | ((with_reducible apply zhQ); exact rfl)
 | ((with_reducible apply ev_lenO); exact rfl)
 | with_reducible apply zhR
 | with_reducible apply ev_rng2
 | with_reducible apply ev_rng3
 | with_reducible apply ev_enum1
 | with_reducible apply ev_count
 | with_reducible apply ev_index
 | with_reducible apply ze9
 | with_reducible apply ev_iter
 | with_reducible apply ev_sl
 | with_reducible apply zfa
 | with_reducible apply zdI
 | with_reducible apply zbN
 | with_reducible apply zbd
 | with_reducible apply zby
 | with_reducible apply zct
 | ((with_reducible apply zdo); exact rfl; walk_at "set")
 | ((with_reducible apply zgT); exact rfl)
 | with_reducible apply zcY
 | ((with_reducible apply asm); (with_reducible assumption))
 | with_reducible exact zfb
 | with_reducible exact zdp
 | with_reducible exact zjl
 | with_reducible exact zhU
 | with_reducible exact vop_min
 | with_reducible exact zgk
 | with_reducible exact vop_lenT
 | with_reducible exact vop_sl
 | with_reducible exact zdK
 | with_reducible exact vop_itL
 | with_reducible exact vop_itT
 | with_reducible exact vop_itS
 | with_reducible exact vop_inS
 | with_reducible exact vop_ninS
 | with_reducible exact vop_iter
 | with_reducible exact zdJ
 | with_reducible exact vop_enum1
 | with_reducible exact vop_neI
 | with_reducible exact vop_sumI
 | with_reducible exact vop_neT
 | with_reducible exact vop_eqT
 | with_reducible exact vop_eqI
 | ((with_reducible apply zcw); walk_at "side")
 | ((with_reducible apply zhS) <;> walk_at "side")
 | ((with_reducible apply zgj) <;> walk_at "side")
 | ((with_reducible apply zgi) <;> walk_at "side")
 | ((with_reducible apply zcv); walk_at "side")
 | ((with_reducible apply zjH); exact of_decide_eq_true rfl)
 | ((with_reducible apply zbe); walk_at "st1")
 | ((with_reducible apply zhV); walk_at "st1")
 | walk_at "st1"
 | ((with_reducible apply zjG); exact rfl)
 | ((with_reducible apply asmN); walk_at "side")
 | ((with_reducible apply zku); walk_at "side")
 | with_reducible apply zgU
 | ((with_reducible apply zjF); walk_at "set")
 | ((with_reducible apply zjH); exact of_decide_eq_true rfl)
 | with_reducible apply tg_N
 | with_reducible exact tg_0
 | with_reducible apply tg_C
 | ((with_reducible apply tg_T); exact rfl)
 | ((with_reducible apply asmE); exact rfl))
local macro_rules | `(tactic| walk_at "ev") => `(tactic| repeat' walk_at "ev1")
theorem zcg {sizes found : List Int} {z d : Int} (h : ∀ (j : Nat) d z, found[j]? = some d -> sizes[j]? = some z -> 0 <= d /\ d < z) (hz : sizes[found.length]? = some z) (h0 : 0 <= d /\ d < z) :
  ∀ (j : Nat) d' z', (found ++ [d])[j]? = some d' -> sizes[j]? = some z' -> 0 <= d' /\ d' < z' := by
 intro j d' z' e1 e2
 by_cases hj : j < found.length
 ·rw [List.getElem?_append_left hj] at e1
  exact h j d' z' e1 e2
 ·by_cases hj2 : j = found.length
  ·subst hj2
   rw [hz] at e2
   cases e2
   rw [List.getElem?_append_right (Nat.le_refl _), Nat.sub_self, List.getElem?_cons_zero] at e1
   cases e1
   exact h0
  ·rw [List.getElem?_eq_none (by rw [List.length_append, List.length_singleton]; omega)] at e1
   cases e1
def inv (c s : Int) (sizes : List Int) (n : Int) (i : Nat) (ρ : DEnv) : Prop := ∃ left found x6 x7, ρ = [some (Sl.pub (.int c)), some (.pub (.int s)), some (.pub (.list (sizes.map .int))), some (.pub (.int n)), some (.pub (.int left)), some (.own ((found : List Int).map .int)), x6, x7] /\
 found.length = i /\ ∀ (j : Nat) d z, found[j]? = some d -> sizes[j]? = some z -> 0 <= d /\ d < z
theorem zfx {c s n : Int} {sizes : List Int} (hs : ∀ x ∈ sizes, 0 < x /\ x < 18446744073709551616) (hl : sizes.length <= 1000) {i : Nat} {d : D} {ρ : DEnv} {Q : Out -> Prop} (hi : (zba 0 sizes.length)[i]? = some d) (h : inv c s sizes n i ρ) :
  ∃ ρ2, gN 6 d ρ = some ρ2 /\ Ho zds ρ2 (zhY (inv c s sizes n (i + 1)) Q) := by
 obtain ⟨left, found, x6, x7, rfl, hf, hfd⟩ := h
 obtain ⟨rfl, hlt⟩ := zei hi
 obtain ⟨z, hz⟩ : ∃ z, sizes[i]? = some z := ⟨sizes[i]'(by omega), List.getElem?_eq_getElem _⟩
 obtain ⟨z1, z2⟩ := hs z (List.mem_of_getElem? hz)
 have hix : oIx (.list (sizes.map PyData.int)) (.int (0 + (i : Int))) = some (.int z) := by
  rw [Int.zero_add]
  exact zeC (by rw [List.getElem?_map, hz]; rfl)
 generalize hk : (0 : Int) + (i : Int) = k at hix ⊢
 have hk1 : k < 18446744073709551616 := by omega
 have hk2 : -18446744073709551616 < k := by omega
 have hlen : (found.map PyData.int).length < 1000000 := by rw [List.length_map]; omega
 have pw : oPow (.int 10) (.int 18) = some (.int 1000000000000000000) := by rw [zhT (by decide)]; rfl
 refine ⟨_, tg_N (of_decide_eq_true rfl) (by walk_at "set"), ?_⟩
 unfold zds
 apply zhW
 case h1 =>
  apply zjk
  case h1 => walk_at "ev"
  case h2 => intro _; walk_at "ev"
 case h2 =>
  intro _
  walk_at "ev"
  refine zdr ?_
  exact ⟨_, found ++ [left % z], _, _, by rw [List.map_append]; rfl, by rw [List.length_append, hf]; rfl, zcg hfd (by rw [hf]; exact hz) ⟨Int.emod_nonneg _ (by omega), Int.emod_lt_of_pos _ z1⟩⟩
 case h3 =>
  intro _
  walk_at "ev"
  refine zdr ?_
  exact ⟨_, found ++ [_ % z], _, _, by rw [List.map_append]; rfl, by rw [List.length_append, hf]; rfl, zcg hfd (by rw [hf]; exact hz) ⟨Int.emod_nonneg _ (by omega), Int.emod_lt_of_pos _ z1⟩⟩
theorem zc6 (c s : Int) {sizes : List Int} (hs : ∀ x ∈ sizes, 0 < x /\ x < 18446744073709551616) (hl : sizes.length <= 1000) :
  ∃ r, F_ac [.int c, .int s, .list (sizes.map PyData.int)] = some r /\ ∃ ds : List Int, r = .list (ds.map .int) /\ ds.length = sizes.length /\ ∀ (j : Nat) d z, ds[j]? = some d -> sizes[j]? = some z -> 0 <= d /\ d < z := by
 refine zgW (ρ := [some (.pub (.int c)), some (.pub (.int s)), some (.pub (.list (sizes.map PyData.int))), none, none, none, none, none]) rfl ?_
 unfold g_ac
 walk_at "ev"
 apply zfc
 apply zgV (ds := zba 0 sizes.length) (inv c s sizes (if -1 - c > c then -1 - c else c))
 case h1 =>
  walk_at "ev"
  rw [List.length_map]
  exact zgl (by omega) (by omega)
 case h0 => exact ⟨_, [], none, none, rfl, rfl, fun j d z e => by cases e⟩
 case hst => exact fun i d ρ e h => zfx hs hl e h
 case hend =>
  rintro ρ ⟨left, found, x6, x7, rfl, hf, hfd⟩
  refine zdq ?_
  walk_at "ev"
  rw [zaP] at hf
  exact ⟨_, rfl, found, rfl, by omega, hfd⟩
mutual
theorem zdT : ∀ (d : PyData), d.canLay0 = true -> PyData.eqv d d = true
 | .none, _ => rfl
 | .bool b, _ => by cases b <;> rfl
 | .int i, _ => by simp [PyData.eqv]
 | .str s, _ => by simp [PyData.eqv]
 | .list xs, h => eqvAll_refl xs h
 | .tuple xs, h => eqvAll_refl xs h
 | .dict _, h => by cases h
theorem eqvAll_refl : ∀ (xs : List PyData), PyData.canLayAll0 xs = true -> PyData.eqvAll xs xs = true
 | [], _ => rfl
 | x :: r, h => by
  have h : (PyData.canLay0 x && PyData.canLayAll0 r) = true := h
  rw [Bool.and_eq_true] at h
  show (PyData.eqv x x && PyData.eqvAll r r) = true
  rw [zdT x h.1, eqvAll_refl r h.2]; rfl
end
theorem zdU {d : D} : ∀ {xs : List D} {k i : Nat}, (zbZ k xs)[i]? = some d -> ∃ x, xs[i]? = some x /\ d = .tuple [.int ((k + i : Nat) : Int), x]
 | [], k, i, h => by cases h
 | x :: r, k, 0, h => by
  cases h
  exact ⟨x, rfl, rfl⟩
 | x :: r, k, i + 1, h => by
  obtain ⟨y, e, q⟩ := zdU (xs := r) (k := k + 1) (i := i) h
  exact ⟨y, e, by rw [q]; congr 4; omega⟩
section
variable {cs : List Int} {ls : List (List (List Int))} {ws : List (Option Int)} {a : Nat} {o had : Option Int} {rs : List (List Int)} {t : Int}
end
theorem zgz {xs : List D} {a b : Option Int} : (DL.cutD xs a b).length <= xs.length := by
 unfold DL.cutD
 rw [List.length_take, List.length_drop]
 omega
theorem zgA {xs : List D} {a b : Option Int} {x : D} (h : x ∈ DL.cutD xs a b) : x ∈ xs := by
 unfold DL.cutD at h
 exact List.mem_of_mem_drop (List.mem_of_mem_take h)
theorem zfy {ns : List Int} {n : Int} {a b : Option Int} {i : Nat} {x : D} (h : (PyData.int n :: DL.cutD (ns.map PyData.int) a b)[i]? = some x) : ∃ c : Int, x = .int c := by
 have hm := List.mem_of_getElem? h
 rcases List.mem_cons.mp hm with rfl | hm
 ·exact ⟨n, rfl⟩
 ·obtain ⟨c, _, rfl⟩ := List.mem_map.mp (zgA hm)
  exact ⟨c, rfl⟩
theorem zfz {ns : List Int} {n : Int} {a b : Option Int} (h : ns.length <= 1000) : oAdd (.list [.int n]) (.list (DL.cutD (ns.map PyData.int) a b)) = some (.list (PyData.int n :: DL.cutD (ns.map PyData.int) a b)) := zcv (by
 have := zgz (xs := ns.map PyData.int) (a := a) (b := b)
 rw [List.length_map] at this
 show 1 + _ <= _
 omega)
theorem ixm {xs : List D} {i : Int} {n : Nat} (h0 : 0 <= i) (h1 : i < n) (hl : xs.length = n) : ∃ d, oIx (.list xs) (.int i) = some d /\ d ∈ xs := by
 have hi : i.toNat < xs.length := by omega
 exact ⟨xs[i.toNat], ze8 h0 (List.getElem?_eq_getElem hi), List.getElem_mem hi⟩
def ws04 (d1 : Int) : List D := [.tuple [.str "wishes", .none], .tuple [.str "copies", .none], .tuple [.str "lists", .none], .tuple [.str "copies", .int (d1 % 6)], .tuple [.str "lists", .int (d1 % 7)], .tuple [.str "lists", .int 0]]
def ps04 : List D := [.str "aim", .str "order", .str "old", .str "turns"]
def isT : Option D -> Bool
 | some (.bool true) => true
 | _ => false
theorem zg1 {o : Option D} (h : isT o = true) : o = some (.bool true) := by
 unfold isT at h
 split at h
 ·rfl
 ·cases h
theorem zkv : ∀ (a : Fin 6) (b : Fin 8), (isT (F_ae [(ws04 ((b : Nat) : Int)).getD a .none, ps04.getD ((b : Nat) % 4) .none, .int ((b : Nat) : Int)]) && isT (F_af [(ws04 ((b : Nat) : Int)).getD a .none, ps04.getD ((b : Nat) % 4) .none, .int ((b : Nat) : Int)])) = true := by decide +kernel
def th04 (f : Int) : List D := [.none, .bool true, .bool false, .int f, .int (0 - f), .list [.str "1"], .tuple [.str "1"], .dict [], .list [], .tuple [], .int 0, .dict [(.str "1", .int 1)]]
theorem zfA {f : Int} {d : D} (h : d ∈ th04 f) : F_ag [d] = some (.bool true) := by
 unfold th04 at h
 simp only [List.mem_cons, List.not_mem_nil, or_false] at h
 rcases h with rfl | rfl | rfl | rfl | rfl | rfl | rfl | rfl | rfl | rfl | rfl | rfl <;> kernel_rfl
theorem zfB {d : D} (h1 : PyData.canLay0 d = true) (h2 : PyData.depth d <= 50) : layE d d = true := by
 unfold layE
 rw [h1, zdT _ h1, decide_eq_true h2]; rfl
theorem ne04 (f : Int) : oNeV (.list (th04 f)) (.list (th04 f)) = some false := by
 unfold oNeV
 dsimp only
 refine if_pos ⟨rfl, ?_⟩
 unfold th04
 simp only [List.zip_cons_cons, List.zip_nil_right, List.all_cons, List.all_nil, Bool.and_true, Bool.and_eq_true]
 refine ⟨?_, ?_, ?_, ?_, ?_, ?_, ?_, ?_, ?_, ?_, ?_, ?_⟩
 case refine_8 => rfl
 case refine_12 => kernel_rfl
 all_goals
  show layE _ _ = true
  exact zfB (by kernel_rfl) (by simp [PyData.depth, PyData.depthAll])
theorem zgB : ∀ ns : List Int, ns.length <= 63 -> F_ah [.list (ns.map PyData.int)] = some (.bool true) := by
 intro ns hns
 refine zjp (ρ := [some (.pub (.list (ns.map PyData.int))), none, none, none, none, none, none, none, none, none]) rfl ?_
 unfold g_ah
 let S : Option Sl := some (.pub (.list (ns.map PyData.int)))
 apply zfc
 apply zgV (fun _ ρ => ∃ x1 x2 x3 x4 x5 x6 x7 x8 x9, ρ = [S, x1, x2, x3, x4, x5, x6, x7, x8, x9])
 case h1 => exact ze9 (zae (za6 (zby (zae zaj zax) (of_decide_eq_true rfl)) (zgX (za5 rfl) zaj (zfa zaj) zdK) (zfz (by omega))) zax) zdJ
 case h0 => exact ⟨_, _, _, _, _, _, _, _, _, rfl⟩
 case hst =>
  rintro i d ρ hi ⟨x1, x2, x3, x4, x5, x6, x7, x8, x9, rfl⟩
  obtain ⟨x, hx, rfl⟩ := zdU hi
  obtain ⟨c, rfl⟩ := zfy hx
  rw [Nat.zero_add]
  refine ⟨_, tg_T rfl (tg_C (tg_N (of_decide_eq_true rfl) rfl) (tg_C (tg_N (of_decide_eq_true rfl) rfl) tg_0)), ?_⟩
  unfold zfw
  obtain ⟨r, hr, ds, rfl, hl, hb⟩ := zc6 c (500 + (i : Int)) (sizes := [6, 8, 12, 1000000000000000000]) (by decide) (by decide)
  match ds, hl with
  | [d0, d1, d2, d3], _ =>
  have b0 := hb 0 d0 6 rfl rfl
  have b1 := hb 1 d1 8 rfl rfl
  have b2 := hb 2 d2 12 rfl rfl
  have hp : oPow (.int 10) (.int 18) = some (.int 1000000000000000000) := by kernel_rfl
  let I : Option Sl := some (.pub (.int i))
  let C : Option Sl := some (.pub (.int c))
  let Dg : Option Sl := some (.pub (.list ([d0, d1, d2, d3].map PyData.int)))
  have j0 : oIx (.list ([d0, d1, d2, d3].map PyData.int)) (.int 0) = some (.int d0) := rfl
  have j1 : oIx (.list ([d0, d1, d2, d3].map PyData.int)) (.int 1) = some (.int d1) := rfl
  have j2 : oIx (.list ([d0, d1, d2, d3].map PyData.int)) (.int 2) = some (.int d2) := rfl
  have j3 : oIx (.list ([d0, d1, d2, d3].map PyData.int)) (.int 3) = some (.int d3) := rfl
  refine zbe (ρ1 := [S, I, C, Dg, x4, x5, x6, x7, x8, x9]) (zcZ (zcY (zae (za5 rfl) (zae (za6 zaj (za5 rfl) zfb) (zae (zby (zae zaj (zae zaj (zae zaj (zae (za6 zaj zaj hp) zax)))) (of_decide_eq_true rfl)) zax))) rfl hr) (of_decide_eq_true rfl) rfl) ?_
  let W : List D := [.tuple [.str "wishes", .none], .tuple [.str "copies", .none], .tuple [.str "lists", .none], .tuple [.str "copies", .int (d1 % 6)]]
  refine zbe (ρ1 := [S, I, C, Dg, some (.own W), x5, x6, x7, x8, x9]) (zcx (zct (zae (zbd (zae zaj (zae zaj zax)) (of_decide_eq_true rfl)) (zae (zbd (zae zaj (zae zaj zax)) (of_decide_eq_true rfl)) (zae (zbd (zae zaj (zae zaj zax)) (of_decide_eq_true rfl)) (zae (zbd (zae zaj (zae (za6 (zcu rfl zaj j1) zaj (zcw (by decide))) zax)) (of_decide_eq_true rfl)) zax)))) (of_decide_eq_true rfl)) (of_decide_eq_true rfl) rfl) ?_
  have hw : oIx (.list (ws04 d1)) (.int d0) = some ((ws04 d1).getD d0.toNat .none) := ze8 b0.1 (by
   have : d0.toNat < (ws04 d1).length := by show d0.toNat < 6; omega
   rw [List.getElem?_eq_getElem this, List.getD_eq_getElem?_getD, List.getElem?_eq_getElem this]; rfl)
  have hm0 := Int.emod_nonneg d1 (show (4 : Int) ≠ 0 by decide)
  have hm1 := Int.emod_lt_of_pos d1 (show (0 : Int) < 4 by decide)
  have hpt : oIx (.list ps04) (.int (d1 % 4)) = some (ps04.getD (d1 % 4).toNat .none) := ze8 hm0 (by
   have : (d1 % 4).toNat < ps04.length := by show (d1 % 4).toNat < 4; omega
   rw [List.getElem?_eq_getElem this, List.getD_eq_getElem?_getD, List.getElem?_eq_getElem this]; rfl)
  obtain ⟨n0, hn0, rfl⟩ : ∃ n : Nat, n < 6 /\ d0 = n := ⟨d0.toNat, by omega, by omega⟩
  obtain ⟨n1, hn1, rfl⟩ : ∃ n : Nat, n < 8 /\ d1 = n := ⟨d1.toNat, by omega, by omega⟩
  have e4 : (((n1 : Int) % 4).toNat) = n1 % 4 := by omega
  have hfin := zkv ⟨n0, hn0⟩ ⟨n1, hn1⟩
  rw [Bool.and_eq_true] at hfin
  have hap := zg1 hfin.1
  have hhs := zg1 hfin.2
  rw [Int.toNat_natCast] at hw
  rw [e4] at hpt
  dsimp only at hap hhs
  generalize (ws04 (n1 : Int)).getD n0 .none = wx at hw hap hhs
  generalize ps04.getD (n1 % 4) .none = px at hpt hap hhs
  refine zbe (ρ1 := [S, I, C, Dg, some (.pub (.list W)), some (.pub wx), x6, x7, x8, x9]) (zcZ (za6 (za6 (zdo rfl rfl) (zby (zae (zbd (zae zaj (zae (za6 (zcu rfl zaj j1) zaj (zcw (by decide))) zax)) (of_decide_eq_true rfl)) (zae (zbd (zae zaj (zae zaj zax)) (of_decide_eq_true rfl)) zax)) (of_decide_eq_true rfl)) (zcv (of_decide_eq_true rfl))) (zcu rfl zaj j0) hw) (of_decide_eq_true rfl) rfl) ?_
  refine zbe (ρ1 := [S, I, C, Dg, some (.pub (.list W)), some (.pub wx), some (.pub px), x7, x8, x9]) (zcZ (za6 (zby (zae zaj (zae zaj (zae zaj (zae zaj zax)))) (of_decide_eq_true rfl)) (za6 (zcu rfl zaj j1) zaj (zcw (by decide))) hpt) (of_decide_eq_true rfl) rfl) ?_
  apply zfc
  refine zhW (b := false) (zgY (zdI (zbN (zcY (zae (za5 rfl) (zae (za5 rfl) (zae (zcu rfl zaj j1) zax))) rfl hap))) (zdI (zbN (zcY (zae (za5 rfl) (zae (za5 rfl) (zae (zcu rfl zaj j1) zax))) rfl hhs)))) (fun z => by cases z) fun _ => zjo (zdq ?_)
  refine zbe (ρ1 := [S, I, C, Dg, some (.pub (.list W)), some (.pub wx), some (.pub px), some (.pub (.int d3)), x8, x9]) (zcZ (zcu rfl zaj j3) (of_decide_eq_true rfl) rfl) ?_
  have hdd : zft [(zac (.str "1"), zac (.int 1))] = zac (.dict [(.str "1", .int 1)]) := by
   funext ρ
   kernel_rfl
  rw [hdd]
  refine zbe (ρ1 := [S, I, C, Dg, some (.pub (.list W)), some (.pub wx), some (.pub px), some (.pub (.int d3)), some (.own (th04 d3)), x9]) (zcx (zct (zae zaj (zae zaj (zae zaj (zae (za5 rfl) (zae (za6 zaj (za5 rfl) zdp) (zae (zby (zae zaj zax) (of_decide_eq_true rfl)) (zae (zbd (zae zaj zax) (of_decide_eq_true rfl)) (zae zaj (zae (zby zax (of_decide_eq_true rfl)) (zae (zbd zax (of_decide_eq_true rfl)) (zae zaj (zae zaj zax)))))))))))) (of_decide_eq_true rfl)) (of_decide_eq_true rfl) rfl) ?_
  refine zbe (ρ1 := [S, I, C, Dg, some (.pub (.list W)), some (.pub wx), some (.pub px), some (.pub (.int d3)), some (.own (th04 d3)), some (.own (th04 d3))]) (zcx (zct (zae zaj (zae zaj (zae zaj (zae (za5 rfl) (zae (za6 zaj (za5 rfl) zdp) (zae (zby (zae zaj zax) (of_decide_eq_true rfl)) (zae (zbd (zae zaj zax) (of_decide_eq_true rfl)) (zae zaj (zae (zby zax (of_decide_eq_true rfl)) (zae (zbd zax (of_decide_eq_true rfl)) (zae zaj (zae zaj zax)))))))))))) (of_decide_eq_true rfl)) (of_decide_eq_true rfl) rfl) ?_
  obtain ⟨w, hwi, hwm⟩ := ixm (xs := th04 d3) (n := 12) b2.1 b2.2 rfl
  exact zhW (b := false) (zgY (zdI (zbN (zcY (zae (zgT rfl (zcu rfl zaj j2) rfl hwi) zax) rfl (zfA hwm)))) (zgm (zdo rfl rfl) rfl (ne04 d3))) (fun z => by cases z) fun _ => zjo (zdr ⟨_, _, _, _, _, _, _, _, _, rfl⟩)
 case hend =>
  rintro ρ ⟨x1, x2, x3, x4, x5, x6, x7, x8, x9, rfl⟩
  exact zdq (zgU zaj rfl)
end W
open PySem PySem.W PyProof.Rows
set_option maxRecDepth 100000 in
set_option maxHeartbeats 0 in
theorem PySem.Challenge.cw_wishdeal_k04_refusals_holds : PySem.Challenge.rw_wishdeal_k04_refusals.Holds := by
 w_on; o_law
 refine holds_open (q := W.q0) (loose := []) (Xt := fun s => xlAt W.q0 [] s && recOk [] s) (XP := XL W.q0 []) (Yf := DL.xSeen W.clsL) (Ya := fun _ => DL.xGood W.p0 W.clsL) (YP := fun _ h => DL.XYP W.p0 W.clsL h) (N := 6886) (d := W.d_ah) (kwd := [])
  W.zjK (fun _ _ e => DL.zjt e) (fun _ _ _ y k => y.keeps k) (fun s e => xl_of s (Bool.and_eq_true_iff.mp e).1) XL.keeps (by rfl) (by rfl) (by rfl)
  (fun s e => recFacts_of (Bool.and_eq_true_iff.mp e).2) (by rfl) (by assumption) (by decide +kernel) ⟨rfl, rfl, rfl, rfl, rfl, by decide +kernel⟩ ?hw (W.walk W.zgB)
 case hw => w_witness2

