import PyProof.Rows.All
import Wide.All
import OpenK.AllK
import Wide.FinOn
import Lean
import PyProof.EqAt
import PyProof.EqKinds
import PyProof.TupleCall
import PyProof.EnumMake
import PyProof.ZipIter
import PyProof.NeData
import PyProof.P3In
import PyProof.StrWalks
import PyProof.ConsumeWalk
import PyProof.SliceStr2
import PyProof.MeetsStr
import KE.KItem
import KE.KUnpack
import KE.KRevSl
import PyProof.Rows.SetFrom
import PyProof.SetRoads
import PyProof.Rows.Range3
import PyProof.CallType
import PyProof.Rows.CallKwBuiltin
import PyProof.Rows.MinMaxN
import PyProof.SumWalkG
import PyProof.Rows.SeqMore
import PyProof.Rows.SortWalk
import PyProof.Rows.SumAny
import PyProof.Rows.SeqMore2
import KE.KSortTup
import PyProof.Rows.SortShellK
import PyProof.ReprRoads
import PyProof.ReprBulk
import PyProof.CallFns
import PyProof.NeKinds
import PySem.Challenge.RW_wishdeal_k22_a_better_one
set_option Elab.async false
set_option linter.all false
set_option maxRecDepth 100000
namespace L2
open PySem PySem.Spec PyProof.Rows
abbrev Key := Sum Int Str
def znj : Key -> Value -> Bool
  | .inl k, v => Value.isInt k v
  | .inr x, v => Value.isStrOf x v
def keyH (w : World) : Key -> Int
  | .inl k => hashInt k
  | .inr x => hashStr w x
theorem zbr : ∀ {k : Key} {v : Value}, znj k v = true -> (∃ i t, k = Sum.inl i /\ v = Value.int i t) ∨ (∃ x t, k = Sum.inr x /\ v = Value.str x t)
  | .inl i, v, h => by
    obtain ⟨t, e⟩ := Value.isInt_shape (k := i) (v := v) h
    exact .inl ⟨i, t, rfl, e⟩
  | .inr x, v, h => by
    obtain ⟨t, e⟩ := Value.isStrOf_shape (x := x) (v := v) h
    exact .inr ⟨x, t, rfl, e⟩
theorem znk (a b : Int) : decide ((Sum.inl a : Key) = Sum.inl b) = (a == b) := by
  by_cases e : a = b
  · subst e; simp
  · have h : ¬ (Sum.inl a : Key) = Sum.inl b := fun q => e (Sum.inl.inj q)
    rw [decide_eq_false h]
    exact (beq_eq_false_iff_ne.mpr e).symm
theorem znl (a b : Str) : decide ((Sum.inr a : Key) = Sum.inr b) = decide (a = b) := by
  by_cases e : a = b
  · subst e; simp
  · have h : ¬ (Sum.inr a : Key) = Sum.inr b := fun q => e (Sum.inr.inj q)
    rw [decide_eq_false h, decide_eq_false e]
theorem znm (a : Int) (b : Str) : decide ((Sum.inl a : Key) = Sum.inr b) = false := decide_eq_false (fun q => nomatch q)
theorem znn (a : Str) (b : Int) : decide ((Sum.inr a : Key) = Sum.inl b) = false := decide_eq_false (fun q => nomatch q)
def ziy (prog : Program) (w : World) : PySem.KeyKind prog w Key where
  is := znj
  hash := keyH w
  inj := fun v a b ha hb => by
    rcases zbr ha with ⟨i, t, rfl, rfl⟩ | ⟨x, t, rfl, rfl⟩
    · rcases zbr hb with ⟨j, u, rfl, e⟩ | ⟨y, u, rfl, e⟩
      · injection e with e1 _; rw [e1]
      · exact nomatch e
    · rcases zbr hb with ⟨j, u, rfl, e⟩ | ⟨y, u, rfl, e⟩
      · exact nomatch e
      · injection e with e1 _; rw [e1]
  byValue := fun k v h => by
    rcases zbr h with ⟨i, t, rfl, rfl⟩ | ⟨x, t, rfl, rfl⟩ <;> rfl
  pyHash := fun hv h => by
    rcases zbr hv with ⟨i, t, rfl, rfl⟩ | ⟨x, t, rfl, rfl⟩
    · exact wpAny_pyHash_int h
    · exact wpAny_pyHash_str h
  eqBool := fun hu hv h => by
    rcases zbr hu with ⟨i, t, rfl, rfl⟩ | ⟨x, t, rfl, rfl⟩
    · rcases zbr hv with ⟨j, u, rfl, rfl⟩ | ⟨y, u, rfl, rfl⟩
      · rw [znk] at h; exact wpAny_eqBool_int h
      · rw [znm] at h; exact SeqAt.EqAt.int_str i t y u _ _ _ _ h
    · rcases zbr hv with ⟨j, u, rfl, rfl⟩ | ⟨y, u, rfl, rfl⟩
      · rw [znn] at h; exact SeqAt.EqAt.str_int x t j u _ _ _ _ h
      · rw [znl] at h; exact wpAny_eqBool_str h
  «strs» := fun k x t v h => by
    rcases zbr h with ⟨i, u, rfl, e⟩ | ⟨y, u, rfl, e⟩
    · exact nomatch e
    · injection e with e1 _
      subst e1
      cases v <;> rfl
end L2
namespace L2
open PySem PySem.Spec PyProof.Rows
inductive V where
  | non | bl (b : Bool) | int (i : Int) | str (x : Str) | byt (b : Array UInt8) | flt (b : UInt64) | ref (a : Addr) | ty (n : String)
  deriving DecidableEq
def RelV : V -> Value -> Prop
  | .non, u => u = Value.none
  | .bl b, u => u = Value.bool b
  | .int i, u => ∃ t, u = Value.int i t
  | .str x, u => ∃ t, u = Value.str x t
  | .byt b, u => ∃ t, u = Value.bytes b t
  | .flt b, u => ∃ t, u = Value.float b t
  | .ref a, u => u = Value.ref a
  | .ty n, u => u = Value.type n
abbrev Vals : List V -> List Value -> Prop := Paired RelV
theorem Vals.length {xs : List V} {us : List Value} (r : Vals xs us) : xs.length = us.length := Paired.length r
theorem Vals.get : ∀ {xs : List V} {us : List Value} {i : Nat} {x : V}, Vals xs us -> xs[i]? = some x -> ∃ u, us[i]? = some u /\ RelV x u
  | _, _, _, _, .nil, e => by simp at e
  | _, _, 0, _, .cons r _, e => by simp at e; subst e; exact ⟨_, rfl, r⟩
  | _, _, i + 1, x, .cons _ t, e => by
    obtain ⟨u, h1, h2⟩ := Vals.get (i := i) (x := x) t (by simpa using e)
    exact ⟨u, by simpa using h1, h2⟩
theorem Vals.set {x : V} {u : Value} (r : RelV x u) : ∀ {xs : List V} {us : List Value} (i : Nat), Vals xs us -> Vals (xs.set i x) (us.set i u)
  | _, _, _, .nil => .nil
  | _, _, 0, .cons _ t => .cons r t
  | _, _, i + 1, .cons q t => .cons q (Vals.set r i t)
theorem Vals.append : ∀ {xs ys : List V} {us ws : List Value}, Vals xs us -> Vals ys ws -> Vals (xs ++ ys) (us ++ ws)
  | _, _, _, _, .nil, s => s
  | _, _, _, _, .cons r t, s => .cons r (Vals.append t s)
theorem Vals.take : ∀ {xs : List V} {us : List Value} (n : Nat), Vals xs us -> Vals (xs.take n) (us.take n)
  | _, _, 0, _ => .nil
  | _, _, _ + 1, .nil => .nil
  | _, _, n + 1, .cons r t => .cons r (Vals.take n t)
theorem Vals.drop : ∀ {xs : List V} {us : List Value} (n : Nat), Vals xs us -> Vals (xs.drop n) (us.drop n)
  | _, _, 0, r => r
  | _, _, _ + 1, .nil => .nil
  | _, _, n + 1, .cons _ t => Vals.drop n t
def RelO : Option V -> Option Value -> Prop
  | some v, some u => RelV v u
  | none, none => True
  | _, _ => False
def KV {κ : Type} : List (κ × V) -> List (κ × Value) -> Prop := Paired fun (p : κ × V) (q : κ × Value) => p.1 = q.1 /\ RelV p.2 q.2
def kV : Key -> V
  | .inl i => .int i
  | .inr x => .str x
inductive HO where
    | lst (xs : List V)
    | tup (xs : List V)
    | dK (kvs : List (Key × V)) | dT (kvs : List (List Key × V))
    | set (S : Int -> Bool) (n : Nat)
    | ins (C dx : Addr) (fs : List (Str × V))
    | own (x : Addr)
    | xd (fs : List (Str × V))
    | met (f x : Addr)
    | rng (lo hi : Int)
    | frz (o : Obj) (u : HO)
    | tbl (ps : Array Value)
    | ext (φ : Heap -> Prop)
abbrev Hp := Addr -> Option HO
def upd (H : Hp) (a : Addr) (o : HO) : Hp := fun b => if b = a then some o else H b
theorem zaH {H : Hp} {a : Addr} {o : HO} : upd H a o a = some o := by unfold upd; rw [if_pos rfl]
theorem zaM {H : Hp} {a b : Addr} {o : HO} (h : b ≠ a) : upd H a o b = H b := by unfold upd; rw [if_neg h]
theorem za2 {H : Hp} {a b : Addr} {o : HO} (h : H a = some o) (h' : H b = none) : a ≠ b := by
  intro e; subst e; rw [h] at h'; cases h'
section
variable (P : Program) (w : World)
def zct (H : Hp) (h : Heap) (a : Addr) : HO -> Prop
  | .lst xs => xs.length <= sizeLine /\ ∃ (its : List Value) (n : Nat), Vals xs its /\ h.get? a = some { cls := .type "list", data := .seq its.toArray n }
  | .tup xs => xs.length <= sizeLine /\ ∃ its : List Value, Vals xs its /\ IsTup h a its.toArray
  | .dK kvs => kvs.length <= sizeLine /\ (a == sysModules) = false /\ ∃ vs, KV kvs vs /\ h.DictOf (ziy P w) a vs
  | .dT kvs => kvs.length <= sizeLine /\ (a == sysModules) = false /\ ∃ xs : List (List Key × Addr × Value),
      Paired (fun (p : List Key × V) (q : List Key × Addr × Value) => p.1 = q.1 /\ H q.2.1 = some (.tup (p.1.map kV)) /\ RelV p.2 q.2.2) kvs xs /\
      ∃ o es ep, h.get? a = some o /\ o.ExactDict /\ o.data = .dict es ep /\ es.toList = xs.map (entryOfKey (tupleKind (ziy P w))) /\ (xs.map (·.1)).Nodup
  | .set S n => h.SetOf (intKind P w) a S n
  | .ins C dx fs => H dx = some (.own a) /\ fs.length <= 1000 /\ dx ≠ a /\ h.get? a = some (PySem.W.instObj C dx) /\
      ∃ mA, h.Ns1 dx mA /\ (∀ f, RelO (fs.lookup f) (mA f)) /\ PySem.Within mA (fs.map (·.1))
  | .own _ => ∃ o, h.get? a = some o
  | .xd fs => ∃ mA, h.Ns1 a mA /\ ∀ f, RelO (fs.lookup f) (mA f)
  | .rng lo hi => ∃ t u v, h.get? a = some { cls := .type "range", data := .fields #[.int lo t, .int hi u, .int 1 v] }
  | .frz o u => h.get? a = some o /\ zct H h a u
  | .tbl ps => h.get? a = some { cls := .none, data := .fields ps }
  | .met f x => h.get? a = some (PySem.W.methodObj (.ref f) (.ref x))
  | .ext φ => φ h /\ (∃ o, h.get? a = some o) /\ ∀ h1 h2 : Heap, φ h1 -> (∀ o, h1.get? a = some o -> h2.get? a = some o) -> φ h2
def HOk (H : Hp) (h : Heap) : Prop := ∀ a o, H a = some o -> zct P w H h a o
end
section
variable {P : Program} {w : World} {H H' : Hp} {h h' : Heap} {a : Addr} {o : HO}
theorem zct.lt (x : zct P w H h a o) : a < h.objs.size := by
  cases o with
  | lst xs => obtain ⟨_, _, _, _, e⟩ := x; exact Heap.lt_size e
  | tup xs => obtain ⟨_, _, _, p⟩ := x; exact p.lt
  | dK kvs => obtain ⟨_, _, _, _, o, _, _, e, _⟩ := x; exact Heap.lt_size e
  | dT kvs => obtain ⟨_, _, _, _, o, _, _, e, _⟩ := x; exact Heap.lt_size e
  | set S n => obtain ⟨o, _, _, _, e, _⟩ := x; exact Heap.lt_size e
  | ins C dx fs => obtain ⟨_, _, _, e, _⟩ := x; exact Heap.lt_size e
  | own y => obtain ⟨_, e⟩ := x; exact Heap.lt_size e
  | xd fs => obtain ⟨_, ⟨_, _, _, e, _⟩, _⟩ := x; exact Heap.lt_size e
  | rng lo hi => obtain ⟨_, _, _, e⟩ := x; exact Heap.lt_size e
  | frz ob u => obtain ⟨e, _⟩ := x; exact Heap.lt_size e
  | tbl ps => exact Heap.lt_size (show h.get? a = some _ from x)
  | met f y => exact Heap.lt_size (show h.get? a = some _ from x)
  | ext φ => obtain ⟨_, ⟨_, e⟩, _⟩ := x; exact Heap.lt_size e
theorem Paired.mapP {α β : Type} {F G : α -> β -> Prop} : ∀ {l₁ : List α} {l₂ : List β}, Paired F l₁ l₂ -> (∀ a b, F a b -> G a b) -> Paired G l₁ l₂
  | _, _, .nil, _ => .nil
  | _, _, .cons r t, f => .cons (f _ _ r) (Paired.mapP t f)
theorem zct.stay (x : zct P w H h a o) (k : ∀ b u, (b = a ∨ H b = some (.own a)) -> h.get? b = some u -> h'.get? b = some u)
    (ho : ∀ b, H b = some (.own a) -> H' b = some (.own a)) (ht : ∀ b xs, H b = some (.tup xs) -> H' b = some (.tup xs)) : zct P w H' h' a o := by
  induction o with
  | lst xs => obtain ⟨z, its, n, r, e⟩ := x; exact ⟨z, its, n, r, k _ _ (.inl rfl) e⟩
  | tup xs => obtain ⟨z, its, r, ob, e, c⟩ := x; exact ⟨z, its, r, ob, k _ _ (.inl rfl) e, c⟩
  | dK kvs => obtain ⟨z, y, vs, r, ob, es, ep, e, c⟩ := x; exact ⟨z, y, vs, r, ob, es, ep, k _ _ (.inl rfl) e, c⟩
  | dT kvs =>
    obtain ⟨z, y, xs, r, ob, es, ep, e, c⟩ := x
    exact ⟨z, y, xs, Paired.mapP r fun p q z => ⟨z.1, ht _ _ z.2.1, z.2.2⟩, ob, es, ep, k _ _ (.inl rfl) e, c⟩
  | set S n => obtain ⟨ob, es, ep, t, e, c⟩ := x; exact ⟨ob, es, ep, t, k _ _ (.inl rfl) e, c⟩
  | ins C dx fs =>
    obtain ⟨d, z, ne, e, mA, ⟨od, es, ep, e2, c⟩, r⟩ := x
    exact ⟨ho _ d, z, ne, k _ _ (.inl rfl) e, mA, ⟨od, es, ep, k _ _ (.inr d) e2, c⟩, r⟩
  | own y => obtain ⟨ob, e⟩ := x; exact ⟨ob, k _ _ (.inl rfl) e⟩
  | xd fs => obtain ⟨mA, ⟨od, es, ep, e, c⟩, r⟩ := x; exact ⟨mA, ⟨od, es, ep, k _ _ (.inl rfl) e, c⟩, r⟩
  | rng lo hi => obtain ⟨t, u, v, e⟩ := x; exact ⟨t, u, v, k _ _ (.inl rfl) e⟩
  | frz ob u ih => obtain ⟨e, q⟩ := x; exact ⟨k _ _ (.inl rfl) e, ih q⟩
  | tbl ps =>
    have e : h.get? a = some { cls := .none, data := .fields ps } := x
    show h'.get? a = some { cls := .none, data := .fields ps }
    exact k a _ (.inl rfl) e
  | met f y =>
    have e : h.get? a = some (PySem.W.methodObj (.ref f) (.ref y)) := x
    show h'.get? a = some (PySem.W.methodObj (.ref f) (.ref y))
    exact k a _ (.inl rfl) e
  | ext φ => obtain ⟨p, ⟨o, e⟩, st⟩ := x; exact ⟨st _ _ p fun o q => k _ _ (.inl rfl) q, ⟨o, k _ _ (.inl rfl) e⟩, st⟩
theorem HOk.lt (x : HOk P w H h) (e : H a = some o) : a < h.objs.size := (x a o e).lt
theorem HOk.fresh (x : HOk P w H h) (e : h.objs.size <= a) : H a = none := by
  cases q : H a with
  | none => rfl
  | some u => exact absurd (Nat.lt_of_lt_of_le (x.lt q) e) (Nat.lt_irrefl _)
theorem HOk.kept (x : HOk P w H h) (k : ∀ b u, h.get? b = some u -> h'.get? b = some u) : HOk P w H h' := fun a o e =>
  (x a o e).stay (fun b u _ q => k b u q) (fun _ q => q) fun _ _ q => q
theorem HOk.laid (x : HOk P w H h) (k : ∀ b u, h.get? b = some u -> h'.get? b = some u) (hp : h.objs.size <= a) (new : zct P w (upd H a o) h' a o) : HOk P w (upd H a o) h' := fun b u e => by
  have hn := x.fresh hp
  by_cases hb : b = a
  · subst hb; rw [zaH] at e; cases e; exact new
  · rw [zaM hb] at e
    exact (x b u e).stay (fun c v _ q => k c v q) (fun c q => by rw [zaM (za2 q hn)]; exact q) fun c xs q => by rw [zaM (za2 q hn)]; exact q
end
def Rd (H : Hp) (a : Addr) (u : HO) : Prop := H a = some u ∨ ∃ o, H a = some (.frz o u)
theorem Rd.ok {P : Program} {w : World} {H : Hp} {h : Heap} {a : Addr} {u : HO} (r : Rd H a u) (x : HOk P w H h) : zct P w H h a u := by
  rcases r with r | ⟨o, r⟩
  · exact x a u r
  · obtain ⟨_, q⟩ := x a _ r
    exact q
def Mut : Option HO -> Prop
  | some (.lst _) => True
  | some (.dK _) => True
  | some (.dT _) => True
  | some (.set _ _) => True
  | some (.ins _ _ _) => True
  | some (.ext _) => True
  | _ => False
section
variable {P : Program} {w : World} {H : Hp} {h h' : Heap} {x e : Addr} {o' : HO}
theorem HOk.write (ok : HOk P w H h) (mu : Mut (H x)) (he : e = x ∨ H e = some (.own x)) (k : ∀ b u, b ≠ e -> h.get? b = some u -> h'.get? b = some u) (heo : ∃ u, h'.get? e = some u)
    (new : zct P w (upd H x o') h' x o') : HOk P w (upd H x o') h' := fun b u q => by
  have nown : ∀ c y, H c = some (.own y) -> c ≠ x := fun c y r z => by subst z; rw [r] at mu; exact mu
  have ntup : ∀ c xs, H c = some (.tup xs) -> c ≠ x := fun c xs r z => by subst z; rw [r] at mu; exact mu
  by_cases hb : b = x
  · subst hb; rw [zaH] at q; cases q; exact new
  · rw [zaM hb] at q
    by_cases hbe : b = e
    · have q' : H b = some (.own x) := by
        rcases he with z | z
        · exact absurd (hbe.trans z) hb
        · rw [hbe]; exact z
      rw [q] at q'; cases q'
      obtain ⟨v, hv⟩ := heo
      exact ⟨v, by rw [hbe]; exact hv⟩
    · refine (ok b u q).stay (fun c v hc r => k c v ?_ r) (fun c r => by rw [zaM (nown c b r)]; exact r) fun c xs r => by rw [zaM (ntup c xs r)]; exact r
      rcases hc with rfl | hc
      · exact hbe
      · rintro rfl
        rcases he with z | z
        · exact nown c b hc z
        · rw [hc] at z; cases z; exact hb rfl
end
structure Un (fs ex : List Addr) (H H' : Hp) (h h' : Heap) : Prop where
  keep : ∀ b o, h.get? b = some o -> H b = none -> b ∉ fs -> b ∉ ex -> h'.get? b = some o
  slot : ∀ b o, h.get? b = some o -> H b = none -> b ∈ fs -> b ∉ ex -> ∃ sl, h'.get? b = some { o with slots := sl }
  free : ∀ b o, h.get? b = some o -> H b = none -> b ∉ ex -> H' b = none
  there : ∀ b o, h.get? b = some o -> b ∉ ex -> ∃ o', h'.get? b = some o'
  tups : ∀ b xs, H b = some (.tup xs) -> H' b = some (.tup xs)
  frzs : ∀ b o u, H b = some (.frz o u) -> H' b = some (.frz o u)
  tbls : ∀ b ps, H b = some (.tbl ps) -> ∃ more, H' b = some (.tbl (ps ++ more))
section
variable {fs fs' ex ex' : List Addr} {H H1 H2 : Hp} {h h1 h2 h' : Heap} {a x e : Addr} {o : HO}
theorem Un.any (u : Un fs ex H H1 h h1) {b : Addr} {ob : Obj} (q : h.get? b = some ob) (n : H b = none) (hx : b ∉ ex) : ∃ sl, h1.get? b = some { ob with slots := sl } := by
  by_cases hb : b ∈ fs
  · exact u.slot b ob q n hb hx
  · exact ⟨ob.slots, u.keep b ob q n hb hx⟩
theorem Un.kept (k : ∀ b u, h.get? b = some u -> h'.get? b = some u) : Un fs ex H H h h' :=
  ⟨fun b ob q _ _ _ => k b ob q, fun b ob q _ _ _ => ⟨ob.slots, k b ob q⟩, fun _ _ _ n _ => n, fun b ob q _ => ⟨ob, k b ob q⟩, fun _ _ q => q, fun _ _ _ q => q, fun _ ps q => ⟨#[], by rw [q]; simp⟩⟩
theorem Un.refl : Un fs ex H H h h := Un.kept fun _ _ q => q
theorem Un.laid (k : ∀ b u, h.get? b = some u -> h'.get? b = some u) (hp : h.objs.size <= a) (hn : H a = none) : Un fs ex H (upd H a o) h h' where
  keep := fun b u q _ _ _ => k b u q
  slot := fun b u q _ _ _ => ⟨u.slots, k b u q⟩
  free := fun b u q n _ => by rw [zaM (Nat.ne_of_lt (Nat.lt_of_lt_of_le (Heap.lt_size q) hp))]; exact n
  there := fun b u q _ => ⟨u, k b u q⟩
  tups := fun b xs q => by rw [zaM (za2 q hn)]; exact q
  frzs := fun b u xs q => by rw [zaM (za2 q hn)]; exact q
  tbls := fun b ps q => ⟨#[], by rw [zaM (za2 q hn), q]; simp⟩
theorem Un.write (mu : Mut (H x)) (he : e = x ∨ H e = some (.own x)) (k : ∀ b u, b ≠ e -> h.get? b = some u -> h'.get? b = some u) (heo : ∃ u, h'.get? e = some u) : Un fs ex H (upd H x o) h h' := by
  have hx : ∀ b, H b = none -> b ≠ x := fun b n z => by subst z; rw [n] at mu; exact mu
  have hb : ∀ b, H b = none -> b ≠ e := fun b n z => by
    subst z
    rcases he with r | r
    · exact hx b n r
    · rw [n] at r; cases r
  have hm : ∀ b u, H b = some u -> ¬ Mut (some u) -> b ≠ x := fun b u q nm z => by subst z; rw [q] at mu; exact nm mu
  refine ⟨fun b u q n _ _ => k b u (hb b n) q, fun b u q n _ _ => ⟨u.slots, k b u (hb b n) q⟩, fun b u q n _ => by rw [zaM (hx b n)]; exact n, fun b u q _ => ?_,
    fun b xs q => by rw [zaM (hm b _ q fun z => z)]; exact q, fun b u xs q => by rw [zaM (hm b _ q fun z => z)]; exact q, fun b ps q => ⟨#[], by rw [zaM (hm b _ q fun z => z), q]; simp⟩⟩
  by_cases hbe : b = e
  · subst hbe; exact heo
  · exact ⟨u, k b u hbe q⟩
end
def trk (h : Heap) (H : Hp) : List Addr := (List.range h.objs.size).filter fun a => (H a).isSome
def hidT (h : Heap) (H : Hp) : Heap := PySem.W.hideAll h (trk h H)
theorem ziz (h : Heap) (H : Hp) : (hidT h H).objs.size = h.objs.size := PySem.W.hideAll_size _ _
theorem zkh {h : Heap} {H : Hp} {b : Addr} {o : Obj} (e : h.get? b = some o) (n : H b = none) : (hidT h H).get? b = some o :=
  PySem.W.hideAll_get _ e fun hm => by
    have q : (H b).isSome = true := (List.mem_filter.mp hm).2
    rw [n] at q; simp at q
theorem zlY {h : Heap} {H : Hp} {b : Addr} {o : Obj} (e : (hidT h H).get? b = some o) : h.get? b = some o /\ H b = none := by
  have e' : h.get? b = some o := PySem.W.of_hideAll (trk h H) e
  refine ⟨e', ?_⟩
  cases q : H b with
  | none => rfl
  | some x =>
    have hm : b ∈ trk h H := List.mem_filter.mpr ⟨List.mem_range.mpr (Heap.lt_size e'), by simp [q]⟩
    have z : (hidT h H).get? b = none := PySem.W.hideAll_none (trk h H) hm
    rw [z] at e; cases e
end L2
namespace L2
open PySem PySem.Spec PyProof.Rows
structure Mod (K : PySem.W.Frag) (mg : Str -> Option Value) (base : Heap) : Prop where
  kin : K.In base
  glob : base.Ns mainGlobals mg
  blt : ∃ mb, base.Ns builtinsNs mb /\ ∀ x : Str, x ≠ "__name__" -> mb x = bootBuiltins x
  nolimit : base.NoLimit
structure Cx where
  prog : Program
  w : World
  K : PySem.W.Frag
  mg : Str -> Option Value
  base : Heap
  A : Around
  N : List Str
  s₀ : Shared
  H₀ : Hp
  env : Env
  outer : List Env
  stack : List Env
  ex : List Addr
  fn : Str -> Bool
  calm : Bool
  pn : List (Addr × Obj)
  xe : Value -> Shared -> Prop
def frs (l : List Env) : List Addr := l.filterMap (·.frame)
abbrev Cx.fs (X : Cx) : List Addr := frs X.outer
def Vis (sc : Scope) (x : Str) : Prop := sc.names.lookup x = some .local ∨ sc.names.lookup x = some .cell ∨ sc.names.lookup x = some .free
def Loc (sc : Scope) (x : Str) : Prop := sc.names.lookup x = some .local ∨ sc.names.lookup x = some .cell
def Look (env : Env) (h : Heap) (m : Str -> Option Value) (x : Str) (u : Value) : Prop :=
  (env.kindOf x = some .local /\ m x = some u) ∨ ((env.kindOf x = some .cell ∨ env.kindOf x = some .free) /\ ∃ c, env.cells.lookup x = some c /\ h.IsCell c (some u))
structure Cx.Ok (X : Cx) : Prop where
  mod : Mod X.K X.mg X.base
  kind : X.env.scope.kind = .function
  glob : X.env.globals = mainGlobals
  blt : X.env.builtins = builtinsNs
  above : X.s₀.heap.objs.size <= X.env.locals
  inj : ∀ x y c, X.env.cells.lookup x = some c -> X.env.cells.lookup y = some c -> x = y
  has : ∀ x, (X.env.kindOf x = some .cell ∨ X.env.kindOf x = some .free) -> ∃ c, X.env.cells.lookup x = some c
  cab : ∀ x c, X.fn x = true -> X.env.cells.lookup x = some c -> X.s₀.heap.objs.size <= c
  hd : X.calm = true -> X.A.handled = none
  frames : X.A.frames = some X.stack
  stk : X.stack = X.outer ∨ (X.stack = X.env :: X.outer /\ X.env.frame = some X.env.locals)
  exf : ∀ b ∈ X.ex, b ≠ X.env.locals /\ ∀ x c, X.env.cells.lookup x = some c -> c ≠ b
  bs : ∀ b o, X.base.get? b = some o -> X.s₀.heap.get? b = some o /\ X.H₀ b = none
  bsz : X.base.objs.size <= X.s₀.heap.objs.size
  noex : ∀ b o, X.base.get? b = some o -> b ∉ X.ex
  exfs : ∀ b ∈ X.ex, b ∉ X.fs
  funs : X.s₀.heap.FunFrames X.base X.outer
  frf : ∀ b ∈ X.fs, X.H₀ b = none
structure Inv (X : Cx) (pins : List (Addr × Obj)) (σ : List (Option V)) (H : Hp) (s : Shared) : Prop where
  ok : X.Ok
  os : s.os = X.s₀.os
  bare : AllBare s.gens
  base : Un X.fs X.ex X.H₀ H X.s₀.heap s.heap
  loc : ∃ m, s.heap.Ns X.env.locals m /\ ∀ (i : Nat) (x : Str) (v : V), X.N[i]? = some x -> σ[i]? = some (some v) -> Vis X.env.scope x -> ∃ u, RelV v u /\ Look X.env s.heap m x u
  cell : ∀ x c, X.env.cells.lookup x = some c -> ∃ v, s.heap.IsCell c v
  free : H X.env.locals = none
  freeC : ∀ x c, X.env.cells.lookup x = some c -> H c = none
  pin : ∀ p ∈ X.pn ++ pins, s.heap.get? p.1 = some p.2 /\ H p.1 = none /\ p.1 ≠ X.env.locals /\ p.1 ∉ X.fs /\ ∀ v, p.2.data ≠ .cell v
  hok : HOk X.prog X.w H s.heap
  len : σ.length = X.N.length
section
variable {X : Cx} {pins : List (Addr × Obj)} {σ : List (Option V)} {H H' : Hp} {s : Shared} {h' : Heap}
theorem Cx.Ok.nofr (ok : X.Ok) {b : Addr} {o : Obj} (e : X.base.get? b = some o) : b ∉ X.fs := fun hb => by
  have := (ok.funs.mem hb).1
  rw [e] at this; cases this
theorem Inv.bs (I : Inv X pins σ H s) : ∀ b o, X.base.get? b = some o -> s.heap.get? b = some o /\ H b = none := fun b o e =>
  ⟨I.base.keep b o (I.ok.bs b o e).1 (I.ok.bs b o e).2 (I.ok.nofr e) (I.ok.noex b o e), I.base.free b o (I.ok.bs b o e).1 (I.ok.bs b o e).2 (I.ok.noex b o e)⟩
theorem Inv.bk (I : Inv X pins σ H s) : ∀ b o, X.base.get? b = some o -> s.heap.get? b = some o := fun b o e => (I.bs b o e).1
theorem Inv.mod (I : Inv X pins σ H s) : Mod X.K X.mg X.base := I.ok.mod
theorem Inv.kIn (I : Inv X pins σ H s) : X.K.In s.heap := I.ok.mod.kin.keeps I.bk
theorem Inv.lt (I : Inv X pins σ H s) : X.env.locals < s.heap.objs.size := let ⟨_, hn, _⟩ := I.loc; hn.lt
theorem Inv.sz (I : Inv X pins σ H s) : X.s₀.heap.objs.size <= s.heap.objs.size := Nat.le_trans I.ok.above (Nat.le_of_lt I.lt)
theorem Inv.nofs (I : Inv X pins σ H s) {a : Addr} (h : s.heap.objs.size <= a) : a ∉ X.fs := fun hb => by
  obtain ⟨_, o, ho, _⟩ := I.ok.funs.mem hb
  exact absurd (Nat.lt_of_lt_of_le (Heap.lt_size ho) (Nat.le_trans I.sz h)) (Nat.lt_irrefl _)
theorem Inv.cne (I : Inv X pins σ H s) : ∀ x c, X.env.cells.lookup x = some c -> c ≠ X.env.locals := fun x c e z => by
  obtain ⟨v, o, ho, hd⟩ := I.cell x c e
  obtain ⟨m, ⟨o', es, ep, ho', hd', _⟩, _⟩ := I.loc
  rw [z, ho'] at ho; cases ho; rw [hd'] at hd; cases hd
theorem Inv.funs (I : Inv X pins σ H s) : s.heap.FunFrames X.base X.outer := by
  have all : ∀ (l : List Env), (∀ b ∈ frs l, b ∈ X.fs) -> X.s₀.heap.FunFrames X.base l -> s.heap.FunFrames X.base l := by
    intro l
    induction l with
    | nil => intro _ _; trivial
    | cons env r ih =>
      intro hs hl
      obtain ⟨hk, ⟨L, o, hf, hn, ho, hd⟩, hr⟩ := hl
      have hL : L ∈ X.fs := hs L (by unfold frs; rw [List.filterMap_cons, hf]; exact List.mem_cons_self)
      obtain ⟨sl, e⟩ := I.base.slot L o ho (I.ok.frf L hL) hL fun z => I.ok.exfs L z hL
      exact ⟨hk, ⟨L, _, hf, hn, e, hd⟩, ih (fun b hb => hs b (by unfold frs; rw [List.filterMap_cons, hf]; exact List.mem_cons_of_mem _ hb)) hr⟩
  exact all X.outer (fun _ hb => hb) I.ok.funs
theorem Inv.stack (I : Inv X pins σ H s) : s.heap.FunFrames X.base X.stack := by
  rcases I.ok.stk with e | ⟨e, hf⟩
  · rw [e]; exact I.funs
  · rw [e]
    obtain ⟨m, hn, _⟩ := I.loc
    refine .cons (by rw [I.ok.kind]; decide) hf hn ?_ I.funs
    exact Heap.get?_none_of_le (Nat.le_trans I.ok.bsz I.ok.above)
theorem Inv.stkSub (I : Inv X pins σ H s) : ∀ b ∈ frs X.stack, b ∈ X.env.locals :: X.fs := fun b hb => by
  rcases I.ok.stk with e | ⟨e, hf⟩
  · rw [e] at hb; exact List.mem_cons_of_mem _ hb
  · rw [e] at hb
    unfold frs at hb
    rw [List.filterMap_cons, hf] at hb
    exact hb
theorem Inv.stkFree (I : Inv X pins σ H s) : ∀ b ∈ frs X.stack, H b = none := fun b hb => by
  rcases List.mem_cons.mp (I.stkSub b hb) with e | hb
  · rw [e]; exact I.free
  · obtain ⟨_, o, ho, _⟩ := I.ok.funs.mem hb
    exact I.base.free b o ho (I.ok.frf b hb) fun z => I.ok.exfs b z hb
theorem Inv.step {g' : Array GenState} {t' : Nat} {d' : Drawn} {ch : List Addr} (I : Inv X pins σ H s)
    (hch : ∀ b ∈ ch, (b ∈ X.ex ∨ X.s₀.heap.objs.size <= b) /\ b ≠ X.env.locals /\ (∀ x c, X.env.cells.lookup x = some c -> c ≠ b) /\ ∀ p ∈ X.pn ++ pins, p.1 ≠ b)
    (keep : ∀ b o, b ≠ X.env.locals -> b ∉ X.fs -> b ∉ ch -> s.heap.get? b = some o -> H b = none -> h'.get? b = some o)
    (slot : ∀ b o, b ≠ X.env.locals -> b ∈ X.fs -> b ∉ ch -> s.heap.get? b = some o -> H b = none -> ∃ sl, h'.get? b = some { o with slots := sl }) (free : ∀ b o, b ∉ ch -> s.heap.get? b = some o -> H b = none -> H' b = none)
    (there : ∀ b o, b ∉ ch -> s.heap.get? b = some o -> ∃ o', h'.get? b = some o')
    (tups : ∀ b xs, H b = some (.tup xs) -> H' b = some (.tup xs)) (frzs : ∀ b o u, H b = some (.frz o u) -> H' b = some (.frz o u)) (tbls : ∀ b ps, H b = some (.tbl ps) -> ∃ more, H' b = some (.tbl (ps ++ more)))
    (ns : ∀ m, s.heap.Ns X.env.locals m -> h'.Ns X.env.locals m) (hok : HOk X.prog X.w H' h') (hg : AllBare g') :
    Inv X pins σ H' { s with heap := h', gens := g', drawn := d', toks := t' } := by
  have neL : ∀ b o, X.s₀.heap.get? b = some o -> b ≠ X.env.locals := fun b o e => Nat.ne_of_lt (Nat.lt_of_lt_of_le (Heap.lt_size e) I.ok.above)
  have neC : ∀ b o, X.s₀.heap.get? b = some o -> b ∉ X.ex -> b ∉ ch := fun b o e hx hb => by
    rcases (hch b hb).1 with z | z
    · exact hx z
    · exact absurd (Nat.lt_of_lt_of_le (Heap.lt_size e) z) (Nat.lt_irrefl _)
  have cellK : ∀ x c, X.env.cells.lookup x = some c -> ∀ v, s.heap.IsCell c v -> h'.IsCell c v := fun x c e v ⟨o, ho, hd⟩ => by
    have nch : c ∉ ch := fun z => (hch c z).2.2.1 x c e rfl
    by_cases hc : c ∈ X.fs
    · obtain ⟨sl, q⟩ := slot c o (I.cne x c e) hc nch ho (I.freeC x c e)
      exact ⟨_, q, hd⟩
    · exact ⟨o, keep c o (I.cne x c e) hc nch ho (I.freeC x c e), hd⟩
  refine ⟨I.ok, I.os, hg, ⟨fun b o e n hb hx => ?_, fun b o e n hb hx => ?_, fun b o e n hx => ?_, fun b o e hx => ?_, fun b xs e => tups b xs (I.base.tups b xs e), fun b o xs e => frzs b o xs (I.base.frzs b o xs e), fun b ps e => ?_⟩, ?_, fun x c e => ?_, ?_, fun x c e => ?_, fun p hp => ?_, hok, I.len⟩
  · exact keep b o (neL b o e) hb (neC b o e hx) (I.base.keep b o e n hb hx) (I.base.free b o e n hx)
  · obtain ⟨sl, e1⟩ := I.base.slot b o e n hb hx
    obtain ⟨sl', e2⟩ := slot b _ (neL b o e) hb (neC b o e hx) e1 (I.base.free b o e n hx)
    exact ⟨sl', e2⟩
  · obtain ⟨o', e1⟩ := I.base.there b o e hx
    exact free b o' (neC b o e hx) e1 (I.base.free b o e n hx)
  · obtain ⟨o', e1⟩ := I.base.there b o e hx
    exact there b o' (neC b o e hx) e1
  · obtain ⟨m1, e1⟩ := I.base.tbls b ps e
    obtain ⟨m2, e2⟩ := tbls b _ e1
    exact ⟨m1 ++ m2, by rw [e2, Array.append_assoc]⟩
  · obtain ⟨m, hn, hl⟩ := I.loc
    refine ⟨m, ns m hn, fun i x v e1 e2 e3 => ?_⟩
    obtain ⟨u, r, l⟩ := hl i x v e1 e2 e3
    refine ⟨u, r, ?_⟩
    rcases l with l | ⟨k, c, e, z⟩
    · exact .inl l
    · exact .inr ⟨k, c, e, cellK x c e _ z⟩
  · obtain ⟨v, z⟩ := I.cell x c e
    exact ⟨v, cellK x c e v z⟩
  · obtain ⟨m, ⟨o, _, _, ho, _⟩, _⟩ := I.loc
    exact free _ o (fun z => (hch _ z).2.1 rfl) ho I.free
  · obtain ⟨v, o, ho, hd⟩ := I.cell x c e
    exact free c o (fun z => (hch c z).2.2.1 x c e rfl) ho (I.freeC x c e)
  · obtain ⟨e, n, ne, nf, d⟩ := I.pin p hp
    have nch : p.1 ∉ ch := fun z => (hch p.1 z).2.2.2 p hp rfl
    exact ⟨keep p.1 p.2 ne nf nch e n, free p.1 p.2 nch e n, ne, nf, d⟩
theorem Inv.un {t' : Nat} (I : Inv X pins σ H s) (u : Un X.fs [] H H' s.heap h') (hok : HOk X.prog X.w H' h') : Inv X pins σ H' { s with heap := h', toks := t' } := by
  obtain ⟨m, ⟨o, es, ep, ho, r⟩, _⟩ := id I.loc
  obtain ⟨sl, hL⟩ := u.any ho I.free (by simp)
  exact I.step (g' := s.gens) (d' := s.drawn) (ch := []) (fun _ z => nomatch z) (fun b o _ hb _ e n => u.keep b o e n hb (by simp)) (fun b o _ hb _ e n => u.slot b o e n hb (by simp)) (fun b o _ e n => u.free b o e n (by simp)) (fun b o _ e => u.there b o e (by simp)) u.tups u.frzs u.tbls (fun m' hm => by
    obtain ⟨o', es', ep', ho', r'⟩ := hm
    rw [ho] at ho'; cases ho'
    exact ⟨_, es', ep', hL, r'⟩) hok I.bare
theorem Inv.call {g' : Array GenState} {t' : Nat} {d' : Drawn} {ch : List Addr} (I : Inv X pins σ H s) (u : Un (frs X.stack) ch H H' s.heap h') (hok : HOk X.prog X.w H' h') (hg : AllBare g')
    (hch : ∀ b ∈ ch, (b ∈ X.ex ∨ X.s₀.heap.objs.size <= b) /\ b ≠ X.env.locals /\ (∀ x c, X.env.cells.lookup x = some c -> c ≠ b) /\ ∀ p ∈ X.pn ++ pins, p.1 ≠ b) :
    Inv X pins σ H' { s with heap := h', gens := g', drawn := d', toks := t' } := by
  obtain ⟨m, ⟨o, es, ep, ho, r⟩, _⟩ := id I.loc
  obtain ⟨sl, hL⟩ := u.any ho I.free fun z => (hch _ z).2.1 rfl
  exact I.step (ch := ch) hch (fun b o hL hb hc e n => u.keep b o e n (fun z => (List.mem_cons.mp (I.stkSub b z)).elim hL hb) hc) (fun b o _ _ hc e n => u.any e n hc) (fun b o hc e n => u.free b o e n hc) (fun b o hc e => u.there b o e hc) u.tups u.frzs u.tbls (fun m' hm => by
    obtain ⟨o', es', ep', ho', r'⟩ := hm
    rw [ho] at ho'; cases ho'
    exact ⟨_, es', ep', hL, r'⟩) hok hg
theorem Inv.turned {t' : Nat} {it : Addr} (I : Inv X pins σ H s) (k : ∀ b o, b ≠ it -> s.heap.get? b = some o -> h'.get? b = some o) (hn : H it = none) (hL : it ≠ X.env.locals)
    (h1 : it ∈ X.ex ∨ X.s₀.heap.objs.size <= it) (h2 : ∀ x c, X.env.cells.lookup x = some c -> c ≠ it) (h3 : ∀ p ∈ X.pn ++ pins, p.1 ≠ it) : Inv X pins σ H { s with heap := h', toks := t' } := by
  have nit : ∀ b u, H b = some u -> b ≠ it := fun b u e z => by rw [z, hn] at e; cases e
  refine I.step (g' := s.gens) (d' := s.drawn) (ch := [it]) (fun b hb => ?_) (fun b o _ _ hc e _ => k b o (fun z => hc (by simp [z])) e) (fun b o _ _ hc e _ => ⟨o.slots, k b o (fun z => hc (by simp [z])) e⟩) (fun _ _ _ _ n => n)
    (fun b o hc e => ⟨o, k b o (fun z => hc (by simp [z])) e⟩) (fun _ _ e => e) (fun _ _ _ e => e) (fun b ps e => ⟨#[], by rw [e]; simp⟩) (fun m hm => ?_) (fun b u e => ?_) I.bare
  · have e : b = it := by simpa using hb
    subst e
    exact ⟨h1, hL, h2, h3⟩
  · obtain ⟨o, es, ep, ho, r⟩ := hm
    exact ⟨o, es, ep, k _ o (Ne.symm hL) ho, r⟩
  · refine (I.hok b u e).stay (fun c v hc q => k c v ?_ q) (fun _ q => q) fun _ _ q => q
    rcases hc with z | z
    · rw [z]; exact nit b u e
    · exact nit c _ z
theorem Inv.tok (I : Inv X pins σ H s) (t : Nat) : Inv X pins σ H { s with toks := t } := I.un (h' := s.heap) (t' := t) Un.refl I.hok
theorem Inv.kept {t' : Nat} (I : Inv X pins σ H s) (k : ∀ b u, s.heap.get? b = some u -> h'.get? b = some u) : Inv X pins σ H { s with heap := h', toks := t' } := I.un (Un.kept k) (I.hok.kept k)
theorem Inv.laid {a : Addr} {o : HO} {t' : Nat} (I : Inv X pins σ H s) (k : ∀ b u, s.heap.get? b = some u -> h'.get? b = some u) (hp : s.heap.objs.size <= a) (new : zct X.prog X.w (upd H a o) h' a o) :
    Inv X pins σ (upd H a o) { s with heap := h', toks := t' } := I.un (Un.laid k hp (I.hok.fresh hp)) (I.hok.laid k hp new)
theorem Inv.write {x e : Addr} {o : HO} {t' : Nat} (I : Inv X pins σ H s) (mu : Mut (H x)) (he : e = x ∨ H e = some (.own x)) (k : ∀ b u, b ≠ e -> s.heap.get? b = some u -> h'.get? b = some u) (heo : ∃ u, h'.get? e = some u)
    (new : zct X.prog X.w (upd H x o) h' x o) : Inv X pins σ (upd H x o) { s with heap := h', toks := t' } := I.un (Un.write mu he k heo) (I.hok.write mu he k heo new)
theorem Inv.pins_of {pins' : List (Addr × Obj)} (I : Inv X pins σ H s) (h : ∀ p ∈ pins', s.heap.get? p.1 = some p.2 /\ H p.1 = none /\ p.1 ≠ X.env.locals /\ p.1 ∉ X.fs /\ ∀ v, p.2.data ≠ .cell v) : Inv X pins' σ H s :=
  ⟨I.ok, I.os, I.bare, I.base, I.loc, I.cell, I.free, I.freeC, fun p hp => (List.mem_append.mp hp).elim (fun z => I.pin p (List.mem_append_left _ z)) (h p), I.hok, I.len⟩
theorem zhh {N : List Str} (hN : N.Nodup) {i j : Nat} {x : Str} (a : N[i]? = some x) (b : N[j]? = some x) : i = j := by
  obtain ⟨h1, e1⟩ := List.getElem?_eq_some_iff.mp a
  obtain ⟨h2, e2⟩ := List.getElem?_eq_some_iff.mp b
  exact (List.getElem_inj hN).mp (e1.trans e2.symm)
theorem zd4 {M : Model} {A : Around} {E : Value -> Shared -> Prop} {i : Nat} {x : Str} {v : V} {u : Value} {Q : Unit -> Shared -> Prop} (I : Inv X pins σ H s) (hN : X.N.Nodup) (hi : X.N[i]? = some x) (hx : Loc X.env.scope x) (r : RelV v u)
    (h : ∀ s', Inv X pins (σ.set i (some v)) H s' -> (∃ a, Heap.SameBut a s.heap s'.heap /\ (a = X.env.locals ∨ X.env.cells.lookup x = some a)) -> Q () s') (hf : X.fn x = true ∨ X.env.scope.names.lookup x = some .local := by first | exact .inl rfl | exact .inr rfl | assumption) : wpAny M A (storeName X.env x u) Q E s := by
  obtain ⟨m, hn, hl⟩ := id I.loc
  have hcls : (X.env.scope.kind == .class || (X.env.scope.kind == .module && X.env.locals != X.env.globals)) = false := by rw [I.ok.kind]; rfl
  have hiσ : i < σ.length := by rw [I.len]; exact (List.getElem?_eq_some_iff.mp hi).1
  have cne := I.cne
  have tracked : ∀ {a : Addr} {h' : Heap}, (∃ o, s.heap.get? a = some o /\ H a = none) -> Heap.SameBut a s.heap h' -> HOk X.prog X.w H h' := fun {a h'} ha hs b ob e => by
    obtain ⟨_, _, hfree⟩ := ha
    refine (I.hok b ob e).stay (fun c w' hc q => (hs.2 c ?_).trans q) (fun _ q => q) fun _ _ q => q
    rintro rfl
    rcases hc with rfl | hc
    · rw [hfree] at e; cases e
    · rw [hfree] at hc; cases hc
  rcases hx with hk | hk
  · refine wpAny_storeName_local hk hn (fun h' hn' hs => ?_) hcls
    obtain ⟨oL, _, _, hoL, _⟩ := id hn
    refine h _ ⟨I.ok, I.os, I.bare, ⟨fun b o e n hb hx => ?_, fun b o e n hb hx => ?_, I.base.free, fun b o e hx => ?_, I.base.tups, I.base.frzs, I.base.tbls⟩, ⟨_, hn', fun j y v' e1 e2 e3 => ?_⟩, fun y c e => ?_, I.free, I.freeC, fun p hp => ?_, tracked ⟨oL, hoL, I.free⟩ hs, by simpa using I.len⟩ ⟨_, hs, .inl rfl⟩
    · exact (hs.2 b (Nat.ne_of_lt (Nat.lt_of_lt_of_le (Heap.lt_size e) I.ok.above))).trans (I.base.keep b o e n hb hx)
    · obtain ⟨sl, e1⟩ := I.base.slot b o e n hb hx
      exact ⟨sl, (hs.2 b (Nat.ne_of_lt (Nat.lt_of_lt_of_le (Heap.lt_size e) I.ok.above))).trans e1⟩
    · obtain ⟨o', e1⟩ := I.base.there b o e hx
      exact ⟨o', (hs.2 b (Nat.ne_of_lt (Nat.lt_of_lt_of_le (Heap.lt_size e) I.ok.above))).trans e1⟩
    · by_cases hj : j = i
      · subst hj
        rw [hi] at e1; cases e1
        rw [List.getElem?_set_self hiσ] at e2
        cases e2
        exact ⟨u, r, .inl ⟨hk, by simp⟩⟩
      · rw [List.getElem?_set_ne (Ne.symm hj)] at e2
        obtain ⟨u', r', q⟩ := hl j y v' e1 e2 e3
        refine ⟨u', r', ?_⟩
        rcases q with ⟨k, e⟩ | ⟨k, c, e, z⟩
        · refine .inl ⟨k, ?_⟩
          have : y ≠ x := fun e => hj (zhh hN e1 (e ▸ hi))
          simp [this, e]
        · exact .inr ⟨k, c, e, z.sameBut hs (cne y c e)⟩
    · obtain ⟨w', z⟩ := I.cell y c e
      exact ⟨w', z.sameBut hs (cne y c e)⟩
    · obtain ⟨e, n, ne, nf, d⟩ := I.pin p hp
      exact ⟨(hs.2 p.1 ne).trans e, n, ne, nf, d⟩
  · have hfn : X.fn x = true := by
      rcases hf with z | z
      · exact z
      · rw [z] at hk; cases hk
    obtain ⟨c, hc⟩ := I.ok.has x (.inl hk)
    obtain ⟨w', z⟩ := I.cell x c hc
    refine wpAny_storeName_cell I.ok.kind hk hc z (fun h' hc' hs => ?_)
    obtain ⟨oc, hoc, hocd⟩ := id z
    refine h { s with heap := h' } ⟨I.ok, I.os, I.bare, ⟨fun b o e n hb hx => ?_, fun b o e n hb hx => ?_, I.base.free, fun b o e hx => ?_, I.base.tups, I.base.frzs, I.base.tbls⟩, ⟨m, hn.sameBut hs (Ne.symm (cne x c hc)), fun j y v' e1 e2 e3 => ?_⟩, fun y c' e => ?_, I.free, I.freeC, fun p hp => ?_, tracked ⟨oc, hoc, I.freeC x c hc⟩ hs, by simpa using I.len⟩ ⟨c, hs, .inr hc⟩
    · exact (hs.2 b (Nat.ne_of_lt (Nat.lt_of_lt_of_le (Heap.lt_size e) (I.ok.cab x c hfn hc)))).trans (I.base.keep b o e n hb hx)
    · obtain ⟨sl, e1⟩ := I.base.slot b o e n hb hx
      exact ⟨sl, (hs.2 b (Nat.ne_of_lt (Nat.lt_of_lt_of_le (Heap.lt_size e) (I.ok.cab x c hfn hc)))).trans e1⟩
    · obtain ⟨o', e1⟩ := I.base.there b o e hx
      exact ⟨o', (hs.2 b (Nat.ne_of_lt (Nat.lt_of_lt_of_le (Heap.lt_size e) (I.ok.cab x c hfn hc)))).trans e1⟩
    · by_cases hj : j = i
      · subst hj
        rw [hi] at e1; cases e1
        rw [List.getElem?_set_self hiσ] at e2
        cases e2
        exact ⟨u, r, .inr ⟨.inl hk, c, hc, hc'⟩⟩
      · rw [List.getElem?_set_ne (Ne.symm hj)] at e2
        obtain ⟨u', r', q⟩ := hl j y v' e1 e2 e3
        refine ⟨u', r', ?_⟩
        rcases q with q | ⟨k, c', e, z'⟩
        · exact .inl q
        · refine .inr ⟨k, c', e, z'.sameBut hs ?_⟩
          rintro rfl
          exact hj (zhh hN e1 (I.ok.inj _ _ _ e hc ▸ hi))
    · by_cases hcc : c' = c
      · subst hcc; exact ⟨_, hc'⟩
      · obtain ⟨w2, z2⟩ := I.cell y c' e
        exact ⟨w2, z2.sameBut hs hcc⟩
    · obtain ⟨e, n, ne, nf, d⟩ := I.pin p hp
      refine ⟨(hs.2 p.1 ?_).trans e, n, ne, nf, d⟩
      intro q
      rw [q, hoc] at e
      have q' : oc = p.2 := Option.some.inj e
      exact d w' (by rw [← q']; exact hocd)
theorem zhi {M : Model} {A : Around} {E : Value -> Shared -> Prop} {i : Nat} {x : Str} {v : V} {u : Value} {Q : Unit -> Shared -> Prop} (I : Inv X pins σ H s) (hN : X.N.Nodup) (hi : X.N[i]? = some x) (hx : Loc X.env.scope x) (r : RelV v u)
    (h : ∀ s', Inv X pins (σ.set i (some v)) H s' -> Q () s') (hf : X.fn x = true ∨ X.env.scope.names.lookup x = some .local := by first | exact .inl rfl | exact .inr rfl | assumption) : wpAny M A (storeName X.env x u) Q E s :=
  zd4 I hN hi hx r (fun s' I' _ => h s' I') hf
theorem Inv.call' {s' : Shared} {ch : List Addr} (I : Inv X pins σ H s) (ho : s'.os = s.os) (u : Un (frs X.stack) ch H H' s.heap s'.heap) (hok : HOk X.prog X.w H' s'.heap) (hg : AllBare s'.gens)
    (hch : ∀ b ∈ ch, (b ∈ X.ex ∨ X.s₀.heap.objs.size <= b) /\ b ≠ X.env.locals /\ (∀ x c, X.env.cells.lookup x = some c -> c ≠ b) /\ ∀ p ∈ X.pn ++ pins, p.1 ≠ b) : Inv X pins σ H' s' := by
  obtain ⟨h', g', d', t', o'⟩ := s'
  have e : o' = s.os := ho
  subst e
  exact I.call (g' := g') (t' := t') (d' := d') u hok hg hch
end
abbrev XK := Value -> Option Addr -> Hp -> Prop
abbrev St := List (Option V)
abbrev VK := V -> Hp -> Prop
abbrev TE := St -> Hp -> VK -> Prop
abbrev TT := St -> Hp -> (Bool -> Hp -> Prop) -> Prop
abbrev TA := St -> Hp -> (List V -> Hp -> Prop) -> Prop
structure Ends where
  nx : St -> Hp -> Prop
  rt : VK
  bk : St -> Hp -> Prop := fun _ _ => False
  ct : St -> Hp -> Prop := fun _ _ => False
abbrev TS := Ends -> St -> Hp -> Prop
def EP (X : Cx) (pins : List (Addr × Obj)) (σ : St) (Q : VK) (u : Value) (s' : Shared) : Prop := ∃ v H', Inv X pins σ H' s' /\ RelV v u /\ Q v H'
def TP (X : Cx) (pins : List (Addr × Obj)) (σ : St) (Q : Bool -> Hp -> Prop) (b : Bool) (s' : Shared) : Prop := ∃ H', Inv X pins σ H' s' /\ Q b H'
def AP (X : Cx) (pins : List (Addr × Obj)) (σ : St) (Q : List V -> Hp -> Prop) (us : List Value) (s' : Shared) : Prop := ∃ vs H', Inv X pins σ H' s' /\ Vals vs us /\ Q vs H'
def SP (X : Cx) (pins : List (Addr × Obj)) (D : Ends) (f : Flow) (s' : Shared) : Prop :=
  match f with
  | .next => ∃ σ' H', Inv X pins σ' H' s' /\ D.nx σ' H'
  | .brk => ∃ σ' H', Inv X pins σ' H' s' /\ D.bk σ' H'
  | .cont => ∃ σ' H', Inv X pins σ' H' s' /\ D.ct σ' H'
  | .ret u => ∃ v σ' H', Inv X pins σ' H' s' /\ RelV v u /\ D.rt v H'
def PE (X : Cx) (e : Expr) (t : TE) : Prop :=
  ∀ (pins : List (Addr × Obj)) (s : Shared) (σ : St) (H : Hp) (Q : VK), Inv X pins σ H s -> t σ H Q -> wpAny (model X.prog X.w) X.A (eval e X.env) (EP X pins σ Q) X.xe s
def PT (X : Cx) (e : Expr) (t : TT) : Prop :=
  ∀ (pins : List (Addr × Obj)) (s : Shared) (σ : St) (H : Hp) (Q : Bool -> Hp -> Prop), Inv X pins σ H s -> t σ H Q -> wpAny (model X.prog X.w) X.A (isTrue e X.env (eval e X.env)) (TP X pins σ Q) X.xe s
def PW (X : Cx) (e : Expr) (t : TT) : Prop :=
  ∀ (whole : Sem Value) (pins : List (Addr × Obj)) (s : Shared) (σ : St) (H : Hp) (Q : Bool -> Hp -> Prop), Inv X pins σ H s -> t σ H Q -> wpAny (model X.prog X.w) X.A (isTrue e X.env whole) (TP X pins σ Q) X.xe s
theorem PW.pt {X : Cx} {e : Expr} {t : TT} (h : PW X e t) : PT X e t := h _
def PA (X : Cx) (es : List Expr) (t : TA) : Prop :=
  ∀ (pos : Pos) (pins : List (Addr × Obj)) (s : Shared) (σ : St) (H : Hp) (Q : List V -> Hp -> Prop), Inv X pins σ H s -> t σ H Q -> wpAny (model X.prog X.w) X.A (spliced (backTo pos (starEach es X.env))) (AP X pins σ Q) X.xe s
def PS (X : Cx) (st : Stmt) (t : TS) : Prop :=
  ∀ (pins : List (Addr × Obj)) (s : Shared) (σ : St) (H : Hp) (D : Ends), Inv X pins σ H s -> t D σ H -> wpAny (model X.prog X.w) X.A (exec st X.env) (SP X pins D) X.xe s
def PSs (X : Cx) (st : List Stmt) (t : TS) : Prop :=
  ∀ (pins : List (Addr × Obj)) (s : Shared) (σ : St) (H : Hp) (D : Ends), Inv X pins σ H s -> t D σ H -> wpAny (model X.prog X.w) X.A (execs st X.env) (SP X pins D) X.xe s
theorem thn {α : Type} {t : Sem α} {Q Q' : α -> Shared -> Prop} {M : Model} {A : Around} {E : Value -> Shared -> Prop} {s : Shared} (h : wpAny M A t Q E s) (hQ : ∀ a s, Q a s -> Q' a s) : wpAny M A t Q' E s := wpAny_mono h hQ fun _ _ x => x
end L2
namespace L2
open PySem PySem.Spec PyProof.Rows
section
variable {X : Cx}
def tVar (i : Nat) : TE := fun σ H Q => ∃ v, σ[i]? = some (some v) /\ Q v H
def tC (v : V) : TE := fun _ H Q => Q v H
theorem zlC {i : Nat} {x : Str} {pos : Pos} (hN : X.N[i]? = some x) (hv : Vis X.env.scope x) (hd : (x == ("__debug__" : Str)) = false := by decide) (hcd : (x == ("__classdict__" : Str)) = false := by decide) : PE X (.Name x pos) (tVar i) := by
  intro pins s σ H Q I h
  obtain ⟨v, e, h⟩ := h
  obtain ⟨m, hn, hl⟩ := I.loc
  obtain ⟨u, r, l⟩ := hl i x v hN e hv
  have fin : EP X pins σ Q u s := ⟨v, H, I, r, h⟩
  rcases l with ⟨hk, hm⟩ | ⟨hk, c, hc, hcell⟩
  · exact wpAny_Name (wpAny_loadName_local I.ok.kind hk hn hm fin) hd
  · rcases hk with hk | hk
    · exact wpAny_Name (wpAny_loadName_cell I.ok.kind hk hc hcell fin) hd
    · exact wpAny_Name (wpAny_loadName_free I.ok.kind hk hc hcell fin hcd) hd
theorem zno {i j pos} : PE X (.Constant (.int i) j pos) (tC (.int i)) := fun _ _ _ H _ I h => wpAny_Constant_int ⟨.int i, H, I.tok _, ⟨_, rfl⟩, h⟩
theorem zpn {b j pos} : PE X (.Constant (.bool b) j pos) (tC (.bl b)) := fun _ _ _ H _ I h => Constant_bool ⟨.bl b, H, I, rfl, h⟩
theorem znp {j pos} : PE X (.Constant .none j pos) (tC .non) := fun _ _ _ H _ I h => Constant_none ⟨.non, H, I, rfl, h⟩
theorem znq {x j pos} : PE X (.Constant (.str x) j pos) (tC (.str x)) := fun _ _ _ H _ I h => Calls.Constant_str ⟨.str x, H, I.tok _, ⟨_, rfl⟩, h⟩
def Gl (X : Cx) (x : Str) : Prop := X.env.kindOf x = some .globalImplicit
theorem ziA {E : Value -> Shared -> Prop} {pins : List (Addr × Obj)} {s : Shared} {σ : St} {H : Hp} {x : Str} {u : Value} {pos : Pos} {Q : Value -> Shared -> Prop} (I : Inv X pins σ H s) (hg : Gl X x) (hm : X.mg x = some u) (h : Q u s)
    (hd : (x == ("__debug__" : Str)) = false := by decide) : wpAny (model X.prog X.w) X.A (eval (.Name x pos) X.env) Q E s :=
  Calls.Name_function_global I.ok.kind hg (Calls.loadGlobal_global (by rw [I.ok.glob]; exact I.mod.glob.keeps I.bk) hm h) hd
theorem zdI {E : Value -> Shared -> Prop} {pins : List (Addr × Obj)} {s : Shared} {σ : St} {H : Hp} {x : Str} {u : Value} {pos : Pos} {Q : Value -> Shared -> Prop} (I : Inv X pins σ H s) (hg : Gl X x) (hm : X.mg x = none) (hv : bootBuiltins x = some u) (h : Q u s)
    (hn : x ≠ "__name__" := by decide) (hd : (x == ("__debug__" : Str)) = false := by decide) : wpAny (model X.prog X.w) X.A (eval (.Name x pos) X.env) Q E s := by
  obtain ⟨mb, h1, h2⟩ := I.mod.blt
  exact Calls.Name_function_global I.ok.kind hg (Calls.loadGlobal_builtin (by rw [I.ok.glob]; exact I.mod.glob.keeps I.bk) hm (by rw [I.ok.blt]; exact h1.keeps I.bk) ((h2 x hn).trans hv) h) hd
theorem ziB {x : Str} {v : V} {u : Value} {pos : Pos} (hg : Gl X x) (hm : X.mg x = some u) (r : RelV v u) (hd : (x == ("__debug__" : Str)) = false := by decide) : PE X (.Name x pos) (tC v) :=
  fun _ _ _ H _ I h => ziA I hg hm ⟨v, H, I, r, h⟩ hd
theorem zlZ {x : Str} {v : V} {u : Value} {pos : Pos} (hg : Gl X x) (hm : X.mg x = none) (hv : bootBuiltins x = some u) (r : RelV v u) (hn : x ≠ "__name__" := by decide) (hd : (x == ("__debug__" : Str)) = false := by decide) : PE X (.Name x pos) (tC v) :=
  fun _ _ _ H _ I h => zdI I hg hm hv ⟨v, H, I, r, h⟩ hn hd
variable {a b : Expr} {ta tb : TE} {pos : Pos}
def PC (X : Cx) (op : CmpOp) (a b : Expr) (t : TE) : Prop :=
  ∀ (pins : List (Addr × Obj)) (s : Shared) (σ : St) (H : Hp) (Q : VK), Inv X pins σ H s -> t σ H Q ->
    wpAny (model X.prog X.w) X.A (eval a X.env) (fun v s₁ => wpAny (model X.prog X.w) X.A (eval b X.env) (fun u s₂ => wpAny (model X.prog X.w) X.A (compareOp op v u) (EP X pins σ Q) X.xe s₂) X.xe s₁) X.xe s
theorem zhj (b : Expr) {op : CmpOp} (h : op ≠ .In) (h2 : op ≠ .NotIn) : behindInMarks op b = false := by
  have e1 : (op == CmpOp.In) = false := by cases op <;> first | rfl | exact absurd rfl h
  have e2 : (op == CmpOp.NotIn) = false := by cases op <;> first | rfl | exact absurd rfl h2
  cases b <;> simp [behindInMarks, e1, e2]
def tIsN (ta : TE) : TE := fun σ H Q => ta σ H fun x H1 => Q (.bl (decide (x = .non))) H1
def zpo (ta : TE) : TE := fun σ H Q => ta σ H fun x H1 => Q (.bl (!decide (x = .non))) H1
theorem RelV.none_iff {x : V} {v : Value} (r : RelV x v) : (v == Value.none) = decide (x = .non) := by
  cases x with
  | non => cases r; rfl
  | bl _ => cases r; rfl
  | int _ => obtain ⟨t, rfl⟩ := r; rfl
  | str _ => obtain ⟨t, rfl⟩ := r; rfl
  | byt _ => obtain ⟨t, rfl⟩ := r; rfl
  | flt _ => obtain ⟨t, rfl⟩ := r; rfl
  | ref _ => cases r; rfl
  | ty _ => cases r; rfl
theorem zlD {j pos'} (ha : PE X a ta) : PC X .Is a (.Constant .none j pos') (tIsN ta) := by
  intro pins s σ H Q I h
  refine thn (ha pins s σ H _ I h) fun v s1 ⟨x, H1, I1, r1, q1⟩ => ?_
  exact Constant_none (is_none_gen ⟨.bl _, H1, I1, by rw [r1.none_iff]; rfl, q1⟩)
theorem zl0 {j pos'} (ha : PE X a ta) : PC X .IsNot a (.Constant .none j pos') (zpo ta) := by
  intro pins s σ H Q I h
  refine thn (ha pins s σ H _ I h) fun v s1 ⟨x, H1, I1, r1, q1⟩ => ?_
  exact Constant_none (isnot_none_gen ⟨.bl _, H1, I1, by rw [r1.none_iff]; rfl, q1⟩)
def tB (t : TE) : TT := fun σ H Q => t σ H fun x H1 => ∃ c, x = .bl c /\ Q c H1
theorem znr {op : CmpOp} {t : TE} (h : PC X op a b t) (h1 : behindInMarks op b = false := by first | exact zhj _ (by decide) (by decide) | rfl) : PE X (.Compare a [op] [b] pos) t := fun pins s σ H Q I hw => wpAny_Compare1 (h pins s σ H Q I hw) h1
theorem zlE {op : CmpOp} {t : TE} (h : PC X op a b t) (h1 : behindInMarks op b = false := by first | exact zhj _ (by decide) (by decide) | rfl) : PT X (.Compare a [op] [b] pos) (tB t) := by
  intro pins s σ H Q I hw
  refine wpAny_isTrue_Compare1 (thn (h pins s σ H _ I hw) fun v s1 h1 => thn h1 fun u s2 h2 => thn h2 fun c s3 ⟨x, H1, I1, r1, q1⟩ => ?_) h1
  obtain ⟨d, rfl, q⟩ := q1
  cases r1
  exact wpAny_truthy_bool ⟨H1, I1, q⟩
theorem zns {e : Expr} {t : TE} (h : PE X e t) (he : ∀ whole, isTrue e X.env whole = (do let v ← whole; standAt e.pos; holding [v] (truthy v)) := by intro _; rfl) : PT X e (tB t) := by
  intro pins s σ H Q I hw
  refine isTrue_plain (thn (h pins s σ H _ I hw) fun v s1 ⟨x, H1, I1, r1, q1⟩ => ?_) (he _)
  obtain ⟨d, rfl, q⟩ := q1
  cases r1
  exact wpAny_truthy_bool ⟨H1, I1, q⟩
variable {tA tB' : TT} {rest : List Expr}
def tAnd (t u : TT) : TT := fun σ H Q => t σ H fun c H1 => if c = true then u σ H1 Q else Q false H1
def tOr (t u : TT) : TT := fun σ H Q => t σ H fun c H1 => if c = true then Q true H1 else u σ H1 Q
def tNot (t : TT) : TT := fun σ H Q => t σ H fun c H1 => Q (!c) H1
theorem zl1 (ha : PT X a tA) : PW X (.BoolOp .And [a] pos) tA := by
  intro wh pins s σ H Q I h
  refine isTrue_and (thn (ha pins s σ H Q I h) fun c s1 e => ?_)
  cases c with
  | true => exact isTrue_and_nil e
  | false => exact e
theorem znt (ha : PT X a tA) : PW X (.BoolOp .Or [a] pos) tA := by
  intro wh pins s σ H Q I h
  refine isTrue_or (thn (ha pins s σ H Q I h) fun c s1 e => ?_)
  cases c with
  | false => exact isTrue_or_nil e
  | true => exact e
theorem znu (ha : PT X a tA) (hb : PW X (.BoolOp .And (b :: rest) pos) tB') : PW X (.BoolOp .And (a :: b :: rest) pos) (tAnd tA tB') := by
  intro wh pins s σ H Q I h
  refine isTrue_and (thn (ha pins s σ H _ I h) fun c s1 ⟨H1, I1, q1⟩ => ?_)
  cases c with
  | true => exact hb wh pins s1 σ H1 Q I1 q1
  | false => exact ⟨H1, I1, q1⟩
theorem zpp (ha : PT X a tA) (hb : PW X (.BoolOp .Or (b :: rest) pos) tB') : PW X (.BoolOp .Or (a :: b :: rest) pos) (tOr tA tB') := by
  intro wh pins s σ H Q I h
  refine isTrue_or (thn (ha pins s σ H _ I h) fun c s1 ⟨H1, I1, q1⟩ => ?_)
  cases c with
  | true => exact ⟨H1, I1, q1⟩
  | false => exact hb wh pins s1 σ H1 Q I1 q1
theorem znv (ha : PT X a tA) : PT X (.UnaryOp .Not a pos) (tNot tA) := by
  intro pins s σ H Q I h
  exact isTrue_not (ha pins s σ H (fun c H1 => Q (!c) H1) I h)
def zpq (ta tb : TE) : TE := fun σ H Q => ta σ H fun x H1 => ∃ c, x = .bl c /\ if c = true then tb σ H1 Q else Q (.bl false) H1
def tOrV (ta tb : TE) : TE := fun σ H Q => ta σ H fun x H1 => ∃ c, x = .bl c /\ if c = true then Q (.bl true) H1 else tb σ H1 Q
def zpr (ta : TE) : TE := fun σ H Q => ta σ H fun x H1 => ∃ c, x = .bl c /\ Q (.bl (!c)) H1
theorem znw {op} {t : TE} (h : PE X a t) : PE X (.BoolOp op [a] pos) t := fun pins s σ H Q I hw => BoolOp_one (h pins s σ H Q I hw)
theorem znx (ha : PE X a ta) (hb : PE X (.BoolOp .And (b :: rest) pos) tb) : PE X (.BoolOp .And (a :: b :: rest) pos) (zpq ta tb) := by
  intro pins s σ H Q I h
  refine BoolOp_and (thn (ha pins s σ H _ I h) fun v s1 ⟨x, H1, I1, r1, q1⟩ => ?_)
  obtain ⟨c, rfl, q1⟩ := q1
  cases r1
  refine wpAny_truthy_bool ?_
  cases c with
  | true => exact hb pins s1 σ H1 Q I1 q1
  | false => exact ⟨.bl false, H1, I1, rfl, q1⟩
theorem zps (ha : PE X a ta) (hb : PE X (.BoolOp .Or (b :: rest) pos) tb) : PE X (.BoolOp .Or (a :: b :: rest) pos) (tOrV ta tb) := by
  intro pins s σ H Q I h
  refine BoolOp_or (thn (ha pins s σ H _ I h) fun v s1 ⟨x, H1, I1, r1, q1⟩ => ?_)
  obtain ⟨c, rfl, q1⟩ := q1
  cases r1
  refine wpAny_truthy_bool ?_
  cases c with
  | false => exact hb pins s1 σ H1 Q I1 q1
  | true => exact ⟨.bl true, H1, I1, rfl, q1⟩
theorem zny (ha : PE X a ta) : PE X (.UnaryOp .Not a pos) (zpr ta) := by
  intro pins s σ H Q I h
  refine UnaryOp_ (thn (ha pins s σ H _ I h) fun v s1 ⟨x, H1, I1, r1, q1⟩ => ?_)
  obtain ⟨c, rfl, q1⟩ := q1
  cases r1
  exact not_of (wpAny_truthy_bool ⟨.bl (!c), H1, I1, rfl, q1⟩)
def tIf (t : TT) (ta tb : TE) : TE := fun σ H Q => t σ H fun c H1 => if c = true then ta σ H1 Q else tb σ H1 Q
theorem zki {c : Expr} (hc : PT X c tA) (ha : PE X a ta) (hb : PE X b tb) : PE X (.IfExp c a b pos) (tIf tA ta tb) := by
  intro pins s σ H Q I h
  refine wpAny_IfExp (thn (hc pins s σ H _ I h) fun d s1 ⟨H1, I1, q1⟩ => ?_)
  cases d with
  | true => exact ha pins s1 σ H1 Q I1 q1
  | false => exact hb pins s1 σ H1 Q I1 q1
end
end L2
namespace L2
open PySem PySem.Spec PyProof.Rows
def SqL (K : PySem.W.Frag) (H : Hp) (a : Addr) (xs : List V) : Prop :=
  Rd H a (.lst xs) ∨
    ∃ (o : Obj) (its : Array Value) (n : Nat), K.lookup a = some o /\ o.cls = .type "list" /\ o.dict = none /\ o.data = .seq its n /\ its.size <= sizeLine /\ Vals xs its.toList
def SqT (K : PySem.W.Frag) (H : Hp) (a : Addr) (xs : List V) : Prop :=
  Rd H a (.tup xs) ∨
    ∃ (o : Obj) (its : Array Value) (n : Nat), K.lookup a = some o /\ o.cls = .type "tuple" /\ o.data = .seq its n /\ its.size <= sizeLine /\ Vals xs its.toList
def absV : Value -> Option V
  | .none => some .non
  | .bool b => some (.bl b)
  | .int i _ => some (.int i)
  | .str x _ => some (.str x)
  | .bytes b _ => some (.byt b)
  | .float b _ => some (.flt b)
  | .ref a => some (.ref a)
  | .type n => some (.ty n)
  | _ => none
theorem RelV.abs {x : V} {u : Value} (r : RelV x u) : absV u = some x := by
  cases x with
  | non => cases r; rfl
  | bl _ => cases r; rfl
  | int _ => obtain ⟨t, rfl⟩ := r; rfl
  | str _ => obtain ⟨t, rfl⟩ := r; rfl
  | byt _ => obtain ⟨t, rfl⟩ := r; rfl
  | flt _ => obtain ⟨t, rfl⟩ := r; rfl
  | ref _ => cases r; rfl
  | ty _ => cases r; rfl
theorem RelV.inj {x y : V} {u : Value} (r : RelV x u) (q : RelV y u) : x = y := Option.some.inj (r.abs.symm.trans q.abs)
theorem Vals.inj : ∀ {xs ys : List V} {us : List Value}, Vals xs us -> Vals ys us -> xs = ys
  | _, _, _, .nil, .nil => rfl
  | _, _, _, .cons r t, .cons r' t' => by rw [r.inj r', Vals.inj t t']
section
variable {X : Cx} {pins : List (Addr × Obj)} {σ : St} {H : Hp} {s : Shared} {a : Addr} {xs ys : List V}
theorem SqL.of {K : PySem.W.Frag} (h : H a = some (.lst xs)) : SqL K H a xs := .inl (.inl h)
theorem SqT.of {K : PySem.W.Frag} (h : H a = some (.tup xs)) : SqT K H a xs := .inl (.inl h)
theorem Inv.list (I : Inv X pins σ H s) (h : SqL X.K H a xs) : ∃ its : List Value, Vals xs its /\ PlainL s.heap a its.toArray /\ xs.length <= sizeLine := by
  rcases h with h | ⟨o, its, n, hk, hc, hd, hs, hz, r⟩
  · obtain ⟨z, its, n, r, e⟩ := h.ok I.hok
    exact ⟨its, r, ⟨_, n, e, rfl, rfl, rfl⟩, z⟩
  · refine ⟨its.toList, r, ⟨o, n, I.kIn a o hk, hc, hd, by simpa using hs⟩, ?_⟩
    have e := r.length
    simp only [Array.length_toList] at e
    omega
theorem Inv.tuple (I : Inv X pins σ H s) (h : SqT X.K H a xs) : ∃ its : List Value, Vals xs its /\ IsTup s.heap a its.toArray /\ xs.length <= sizeLine := by
  rcases h with h | ⟨o, its, n, hk, hc, hs, hz, r⟩
  · obtain ⟨z, its, r, p⟩ := h.ok I.hok
    exact ⟨its, r, p, z⟩
  · refine ⟨its.toList, r, ⟨o, I.kIn a o hk, hc, n, by simpa using hs⟩, ?_⟩
    have e := r.length
    simp only [Array.length_toList] at e
    omega
theorem Inv.list_inj (I : Inv X pins σ H s) (h : SqL X.K H a xs) (h' : SqL X.K H a ys) : xs = ys := by
  obtain ⟨its, r, ⟨o, n, e, _, _, d⟩, _⟩ := I.list h
  obtain ⟨its', r', ⟨o', n', e', _, _, d'⟩, _⟩ := I.list h'
  rw [e] at e'; cases e'
  rw [d] at d'
  injection d' with d1 _
  have : its = its' := by simpa using congrArg Array.toList d1
  subst this
  exact r.inj r'
theorem Inv.tuple_inj (I : Inv X pins σ H s) (h : SqT X.K H a xs) (h' : SqT X.K H a ys) : xs = ys := by
  obtain ⟨its, r, ⟨o, e, _, n, d⟩, _⟩ := I.tuple h
  obtain ⟨its', r', ⟨o', e', _, n', d'⟩, _⟩ := I.tuple h'
  rw [e] at e'; cases e'
  rw [d] at d'
  injection d' with d1 _
  have : its = its' := by simpa using congrArg Array.toList d1
  subst this
  exact r.inj r'
end
abbrev Cx.wish (X : Cx) (E : Value -> Shared -> Prop) : Cx := { X with xe := E }
abbrev Cx.nox (X : Cx) : Cx := X.wish fun _ _ => False
theorem Cx.Ok.wish {X : Cx} (ok : X.Ok) (E : Value -> Shared -> Prop) : (X.wish E).Ok :=
  ⟨ok.mod, ok.kind, ok.glob, ok.blt, ok.above, ok.inj, ok.has, ok.cab, ok.hd, ok.frames, ok.stk, ok.exf, ok.bs, ok.bsz, ok.noex, ok.exfs, ok.funs, ok.frf⟩
theorem Cx.Ok.unwish {X : Cx} {E : Value -> Shared -> Prop} (ok : (X.wish E).Ok) : X.Ok :=
  ⟨ok.mod, ok.kind, ok.glob, ok.blt, ok.above, ok.inj, ok.has, ok.cab, ok.hd, ok.frames, ok.stk, ok.exf, ok.bs, ok.bsz, ok.noex, ok.exfs, ok.funs, ok.frf⟩
section
variable {X : Cx} {pins : List (Addr × Obj)} {σ : St} {H : Hp} {s : Shared} {E : Value -> Shared -> Prop}
theorem Inv.wish (I : Inv X pins σ H s) (E : Value -> Shared -> Prop) : Inv (X.wish E) pins σ H s := ⟨I.ok.wish E, I.os, I.bare, I.base, I.loc, I.cell, I.free, I.freeC, I.pin, I.hok, I.len⟩
theorem Inv.unwish (I : Inv (X.wish E) pins σ H s) : Inv X pins σ H s := ⟨I.ok.unwish, I.os, I.bare, I.base, I.loc, I.cell, I.free, I.freeC, I.pin, I.hok, I.len⟩
theorem SP.unwish {D : Ends} {f : Flow} {s' : Shared} (h : SP (X.wish E) pins D f s') : SP X pins D f s' := by
  cases f with
  | next => obtain ⟨σ', H', I, q⟩ := h; exact ⟨σ', H', I.unwish, q⟩
  | brk => obtain ⟨σ', H', I, q⟩ := h; exact ⟨σ', H', I.unwish, q⟩
  | cont => obtain ⟨σ', H', I, q⟩ := h; exact ⟨σ', H', I.unwish, q⟩
  | ret u => obtain ⟨v, σ', H', I, r, q⟩ := h; exact ⟨v, σ', H', I.unwish, r, q⟩
theorem PSs.nox {st : List Stmt} {t : TS} (h : PSs X.nox st t) : PSs X st t := fun pins s σ H D I hw =>
  wpAny_mono (h pins s σ H D (I.wish _) hw) (fun _ _ q => q.unwish) fun _ _ z => False.elim z
end
section
variable {X : Cx} {st : Stmt} {rest : List Stmt} {t u : TS} {e : Expr} {te : TE} {pos : Pos}
def zpt : TS := fun D σ H => D.nx σ H
def tSeq (t u : TS) : TS := fun D σ H => t { D with nx := u D } σ H
theorem zl2 : PSs X [] zpt := fun _ _ σ H _ I h => wpAny_execs_nil ⟨σ, H, I, h⟩
theorem zkj (h1 : PS X st t) (h2 : PSs X rest u) : PSs X (st :: rest) (tSeq t u) := by
  intro pins s σ H D I h
  refine wpAny_execs_cons (thn (h1 pins s σ H { D with nx := u D } I h) fun f s1 q => ?_)
  cases f with
  | next =>
    obtain ⟨σ', H', I', q⟩ := q
    exact h2 pins s1 σ' H' D I' q
  | ret v => exact q
  | brk => exact q
  | cont => exact q
theorem zl3 (h1 : PS X st t) : PSs X [st] t := by
  intro pins s σ H D I h
  refine wpAny_execs_cons (thn (h1 pins s σ H D I h) fun f s1 q => ?_)
  cases f with
  | next => exact wpAny_execs_nil q
  | ret v => exact q
  | brk => exact q
  | cont => exact q
theorem Inv.quiet {pins : List (Addr × Obj)} {σ : St} {H : Hp} {s : Shared} (I : Inv X pins σ H s) : interactive X.env = false := by simp [interactive, I.ok.kind]
def zpu (te : TE) : TS := fun D σ H => te σ H fun _ H1 => D.nx σ H1
theorem ziC (he : PE X e te) (hs : swapsWith e none pos.line X.env = pure false := by rfl) : PS X (.Expr e pos) (zpu te) := by
  intro pins s σ H D I h
  exact wpAny_Expr_any (thn (he pins s σ H _ I h) fun v s1 ⟨x, H1, I1, r1, q1⟩ => ⟨σ, H1, I1, q1⟩) I.quiet hs
def tRet (te : TE) : TS := fun D σ H => te σ H D.rt
theorem znz (he : PE X e te) : PS X (.Return (some e) pos) (tRet te) := by
  intro pins s σ H D I h
  exact wpAny_Return_some (thn (he pins s σ H _ I h) fun v s1 ⟨x, H1, I1, r1, q1⟩ => ⟨x, σ, H1, I1, r1, q1⟩)
def tIfS (c : TT) (t u : TS) : TS := fun D σ H => c σ H fun b H1 => if b = true then t D σ H1 else u D σ H1
theorem zpv {c : Expr} {a b : List Stmt} {tc : TT} (hc : PT X c tc) (ha : PSs X a t) (hb : PSs X b u) : PS X (.If c a b pos) (tIfS tc t u) := by
  intro pins s σ H D I h
  refine wpAny_If (thn (hc pins s σ H _ I h) fun d s1 ⟨H1, I1, q1⟩ => ?_)
  cases d with
  | true => exact ha pins s1 σ H1 D I1 q1
  | false => exact hb pins s1 σ H1 D I1 q1
end
abbrev TG := V -> St -> Hp -> (St -> Hp -> Prop) -> Prop
abbrev TGs := List V -> St -> Hp -> (St -> Hp -> Prop) -> Prop
def PG (X : Cx) (target : Expr) (t : TG) : Prop :=
  ∀ (pins : List (Addr × Obj)) (s : Shared) (σ : St) (H : Hp) (v : V) (u : Value) (Q : St -> Hp -> Prop), Inv X pins σ H s -> RelV v u -> t v σ H Q ->
    wpAny (model X.prog X.w) X.A (assign target X.env u) (fun _ s' => ∃ σ' H', Inv X pins σ' H' s' /\ Q σ' H') X.xe s
def PGs (X : Cx) (ts : List Expr) (t : TGs) : Prop :=
  ∀ (pins : List (Addr × Obj)) (s : Shared) (σ : St) (H : Hp) (vs : List V) (us : List Value) (Q : St -> Hp -> Prop), Inv X pins σ H s -> Vals vs us -> t vs σ H Q ->
    wpAny (model X.prog X.w) X.A (assignInOrder ((assignEach ts X.env).map (·.2)) us) (fun _ s' => ∃ σ' H', Inv X pins σ' H' s' /\ Q σ' H') X.xe s
abbrev TSet := V -> V -> V -> Hp -> (Hp -> Prop) -> Prop
def PSet (X : Cx) (t : TSet) : Prop :=
  ∀ (pins : List (Addr × Obj)) (s : Shared) (σ : St) (H : Hp) (o i v : V) (ov iv u : Value) (Q : Hp -> Prop), Inv X pins σ H s -> RelV o ov -> RelV i iv -> RelV v u -> t o i v H Q ->
    wpAny (model X.prog X.w) X.A (setItem ov iv u) (fun _ s' => ∃ H', Inv X pins σ H' s' /\ Q H') X.xe s
abbrev TIp := V -> V -> Hp -> VK -> Prop
def PIp (X : Cx) (op : Operator) (t : TIp) : Prop :=
  ∀ (pins : List (Addr × Obj)) (s : Shared) (σ : St) (H : Hp) (x y : V) (v u : Value) (Q : VK), Inv X pins σ H s -> RelV x v -> RelV y u -> t x y H Q ->
    wpAny (model X.prog X.w) X.A (inplaceOp op v u) (EP X pins σ Q) X.xe s
section
variable {X : Cx} {pos : Pos}
def zl4 (i : Nat) : TG := fun v σ H Q => Q (σ.set i (some v)) H
theorem zan {i : Nat} {x : Str} (hN : X.N.Nodup) (hi : X.N[i]? = some x) (hx : Loc X.env.scope x) (hf : X.fn x = true ∨ X.env.scope.names.lookup x = some .local := by first | exact .inl rfl | exact .inr rfl | assumption) : PG X (.Name x pos) (zl4 i) := by
  intro pins s σ H v u Q I r h
  exact wpAny_assign_Name (zhi I hN hi hx r (fun s' I' => ⟨_, H, I', h⟩) hf)
def gNil : TGs := fun vs σ H Q => vs = [] /\ Q σ H
def zpw (t : TG) (u : TGs) : TGs := fun vs σ H Q => ∃ v r, vs = v :: r /\ t v σ H fun σ' H' => u r σ' H' Q
theorem zl5 : PGs X [] gNil := by
  intro pins s σ H vs us Q I r h
  obtain ⟨e, h⟩ := h
  subst e
  cases r
  exact assignInOrder_nil ⟨σ, H, I, h⟩
theorem zkk {e : Expr} {es : List Expr} {t : TG} {u : TGs} (h1 : PG X e t) (h2 : PGs X es u)
    (hs : (assignEach (e :: es) X.env).map (·.2) = assign e X.env :: (assignEach es X.env).map (·.2) := by rfl) : PGs X (e :: es) (zpw t u) := by
  intro pins s σ H vs us Q I r h
  obtain ⟨v, vr, e1, h⟩ := h
  subst e1
  cases r with
  | cons r rr =>
    rw [hs]
    refine assignInOrder_cons (thn (h1 pins s σ H _ _ _ I r h) fun _ s1 ⟨σ1, H1, I1, q1⟩ => ?_)
    exact h2 pins s1 σ1 H1 _ _ Q I1 rr q1
def gTup (K : PySem.W.Frag) (n : Nat) (t : TGs) : TG := fun v σ H Q => ∃ a xs, v = .ref a /\ SqT K H a xs /\ xs.length = n /\ t xs σ H Q
theorem znA {es : List Expr} {k : Nat} {t : TGs} {n : Nat} (hc : X.calm = true) (h : PGs X es t)
    (hn : (assignEach es X.env).length = n := by rfl) (hst : (assignEach es X.env).findIdx? (·.1) = none := by rfl) : PG X (.Tuple es k pos) (gTup X.K n t) := by
  intro pins s σ H v u Q I r hw
  obtain ⟨a, xs, e1, hq, hl, hw⟩ := hw
  subst e1
  cases r
  obtain ⟨its, rv, ht, hz⟩ := I.tuple hq
  refine assign_Tuple_tuple (I.ok.hd hc) ht (by simp [hn, ← hl, rv.length]) hst fun h' hx => ?_
  have I1 : Inv X pins σ H { s with heap := h' } := I.kept (t' := s.toks) fun b o e => hx b o (Nat.ne_of_lt (Heap.lt_size e)) e
  exact h pins _ σ H xs _ Q I1 (by simpa using rv) hw
def tAsg (te : TE) (g : TG) : TS := fun D σ H => te σ H fun x H1 => g x σ H1 D.nx
theorem znB {tg e : Expr} {te : TE} {g : TG} (he : PE X e te) (hg : PG X tg g) (hs : swapsWithSole [tg] e pos.line X.env = pure false := by rfl) (hw : swappedStores [tg] e X.env = pure none := by rfl)
    (h1 : (assignEach [tg] X.env).map (·.2) = [assign tg X.env] := by rfl) : PS X (.Assign [tg] e pos) (tAsg te g) := by
  intro pins s σ H D I h
  refine wpAny_Assign_stores (thn (he pins s σ H _ I h) fun v s1 ⟨x, H1, I1, r1, q1⟩ => ?_) hs hw
  rw [h1]
  exact thn (hg pins s1 σ H1 x v _ I1 r1 q1) fun _ s2 q => q
theorem zlF {i : Nat} {x : Str} {e : Expr} {te : TE} {pos' : Pos} (hN : X.N.Nodup) (hi : X.N[i]? = some x) (hx : Loc X.env.scope x) (he : PE X e te) (hs : swapsWith e (some (.Name x pos')) pos.line X.env = pure false := by rfl) (hf : X.fn x = true ∨ X.env.scope.names.lookup x = some .local := by first | exact .inl rfl | exact .inr rfl | assumption) :
    PS X (.Assign [.Name x pos'] e pos) (tAsg te (zl4 i)) := by
  intro pins s σ H D I h
  refine wpAny_Assign_Name (thn (he pins s σ H _ I h) fun v s1 ⟨y, H1, I1, r1, q1⟩ => ?_) hs
  exact zhi I1 hN hi hx r1 (fun s2 I2 => ⟨_, H1, I2, q1⟩) hf
def zpx (to ti te : TE) (tget : V -> V -> Hp -> VK -> Prop) (tip : TIp) (tset : TSet) : TS := fun D σ H => to σ H fun o H1 => ti σ H1 fun i H2 => tget o i H2 fun x H3 => te σ H3 fun y H4 => tip x y H4 fun z H5 => tset o i z H5 fun H6 => D.nx σ H6
def PGet (X : Cx) (t : V -> V -> Hp -> VK -> Prop) : Prop :=
  ∀ (pins : List (Addr × Obj)) (s : Shared) (σ : St) (H : Hp) (o i : V) (ov iv : Value) (Q : VK), Inv X pins σ H s -> RelV o ov -> RelV i iv -> t o i H Q ->
    wpAny (model X.prog X.w) X.A (getItem ov iv) (EP X pins σ Q) X.xe s
theorem zl6 {o i e : Expr} {to ti te : TE} {tget : V -> V -> Hp -> VK -> Prop} {tip : TIp} {tset : TSet} {op : Operator} {tpos : Pos} (ho : PE X o to) (hi : PE X i ti) (hg : PGet X tget) (he : PE X e te) (hp : PIp X op tip) (hs : PSet X tset)
    (ha : ∀ ov iv new, augStore i ov iv new = (do holding [new, ov, iv] (setItem ov iv new); release [new, ov, iv] []; pure .next) := by intros; rfl) : PS X (.AugAssign (.Subscript o i tpos) op e pos) (zpx to ti te tget tip tset) := by
  intro pins s σ H D I h
  refine wpAny_AugAssign_SubscriptAny (thn (ho pins s σ H _ I h) fun ov s1 ⟨x1, H1, I1, r1, q1⟩ => ?_) ha
  refine thn (hi pins s1 σ H1 _ I1 q1) fun iv s2 ⟨x2, H2, I2, r2, q2⟩ => ?_
  refine thn (hg pins s2 σ H2 x1 x2 ov iv _ I2 r1 r2 q2) fun old s3 ⟨x3, H3, I3, r3, q3⟩ => ?_
  refine thn (he pins s3 σ H3 _ I3 q3) fun v s4 ⟨x4, H4, I4, r4, q4⟩ => ?_
  refine thn (hp pins s4 σ H4 x3 x4 old v _ I4 r3 r4 q4) fun new s5 ⟨x5, H5, I5, r5, q5⟩ => ?_
  exact thn (hs pins s5 σ H5 x1 x2 x5 ov iv new _ I5 r1 r2 r5 q5) fun _ s6 ⟨H6, I6, q6⟩ => ⟨σ, H6, I6, q6⟩
def ipI (f : Int -> Int -> Int) : TIp := fun x y H Q => ∃ i j, x = .int i /\ y = .int j /\ Q (.int (f i j)) H
theorem znC : PIp X .Add (ipI fun i j => i + j) := by
  intro pins s σ H x y v u Q I r1 r2 h
  obtain ⟨i, j, e1, e2, q⟩ := h
  subst e1; subst e2
  obtain ⟨t, rfl⟩ := r1
  obtain ⟨t', rfl⟩ := r2
  exact iadd_int ⟨.int _, H, I.tok _, ⟨_, rfl⟩, q⟩
end
section
variable {X : Cx} {pos : Pos}
def znD (c : TT) (tb : TS) : TS := fun D σ H => ∃ W : Nat -> St -> Hp -> Prop, (∃ m, W m σ H) /\ ∀ m σ H, W m σ H ->
  c σ H fun b H1 => if b = true then ∃ N : St -> Hp -> Prop, (∀ σ' H', N σ' H' -> ∃ m', m' < m /\ W m' σ' H') /\ tb { D with nx := N, ct := N, bk := D.nx } σ H1 else D.nx σ H1
theorem zkl {c : Expr} {body : List Stmt} {tc : TT} {tb : TS} (hp : PassesOwn (model X.prog X.w) X.A X.env X.xe) (hc : PT X c tc) (hb : PSs X body tb) : PS X (.While c body [] pos) (znD tc tb) := by
  intro pins s σ H D I h
  obtain ⟨W, ⟨m0, w0⟩, turn⟩ := h
  refine wpAny_While (codeAny_whileLoop (fun n s' => ∃ σ' H', Inv X pins σ' H' s' /\ W n σ' H') ?_ m0 ⟨σ, H, I, w0⟩)
  rintro n s1 ⟨σ1, H1, I1, w1⟩
  refine wpAny_passesOwn hp (thn (hc pins s1 σ1 H1 _ I1 (turn n σ1 H1 w1)) fun b s2 ⟨H2, I2, q2⟩ => ?_)
  cases b with
  | true =>
    obtain ⟨N, hN, q2⟩ := q2
    rw [if_pos rfl]
    refine wpAny_passesOwn hp (thn (hb pins s2 σ1 H2 _ I2 q2) fun f s3 q3 => ?_)
    cases f with
    | next =>
      obtain ⟨σ3, H3, I3, n3⟩ := q3
      obtain ⟨m', hm, w3⟩ := hN σ3 H3 n3
      exact ⟨m', hm, σ3, H3, I3, w3⟩
    | cont =>
      obtain ⟨σ3, H3, I3, n3⟩ := q3
      obtain ⟨m', hm, w3⟩ := hN σ3 H3 n3
      exact ⟨m', hm, σ3, H3, I3, w3⟩
    | brk => exact q3
    | ret v => exact q3
  | false =>
    rw [if_neg Bool.false_ne_true]
    exact wpAny_execs_nil ⟨σ1, H2, I2, q2⟩
end
structure It where
  go : Nat -> Hp -> Prop
  yld : Nat -> Hp -> V -> Hp -> Prop
  stop : Nat -> Hp -> Prop
def FpOk (X : Cx) (pins : List (Addr × Obj)) (H : Hp) (b : Addr) : Prop :=
  H b = none /\ b ≠ X.env.locals /\ b ∉ X.fs /\ (b ∈ X.ex ∨ X.s₀.heap.objs.size <= b) /\ (∀ x c, X.env.cells.lookup x = some c -> c ≠ b) /\ ∀ p ∈ X.pn ++ pins, p.1 ≠ b
theorem Inv.fpOk {X : Cx} {pins : List (Addr × Obj)} {σ : St} {H H' : Hp} {s : Shared} {b : Addr} (I : Inv X pins σ H s) (hb : s.heap.objs.size <= b) (hn : H' b = none) : FpOk X pins H' b := by
  refine ⟨hn, Nat.ne_of_gt (Nat.lt_of_lt_of_le I.lt hb), I.nofs hb, .inr (Nat.le_trans I.sz hb), fun x c e z => ?_, fun p hp z => ?_⟩
  · obtain ⟨v, q⟩ := I.cell x c e
    exact absurd (Nat.lt_of_lt_of_le q.lt (by rw [z]; exact hb)) (Nat.lt_irrefl _)
  · exact absurd (Nat.lt_of_lt_of_le (Heap.lt_size (I.pin p hp).1) (by rw [z]; exact hb)) (Nat.lt_irrefl _)
structure Turn (P : Program) (w : World) (K : PySem.W.Frag) (tg : Expr) (J : It) (fp : List Addr) (it : Addr) (tn : Nat -> Heap -> Prop) : Prop where
  mem : it ∈ fp
  obj : ∀ i h, tn i h -> ∀ b ∈ fp, ∃ o, h.get? b = some o /\ ∀ v, o.data ≠ .cell v
  keep : ∀ i h h', tn i h -> (∀ b ∈ fp, ∀ o, h.get? b = some o -> h'.get? b = some o) -> tn i h'
  item : ∀ (X : Cx), X.prog = P -> X.w = w -> X.K = K -> X.calm = true -> ∀ (i : Nat) (pins : List (Addr × Obj)) (s : Shared) (σ : St) (H : Hp) (E : Value -> Shared -> Prop), Inv X pins σ H s -> (∀ b ∈ fp, FpOk X pins H b) -> tn i s.heap -> J.go i H ->
    wpAny (model P w) X.A (pyNext (.ref it)) (fun r s1 => ∃ u, r = some u /\
      wpAny (model P w) X.A (letOwnedTupleGo tg (.ref it) u) (fun _ s2 => ∃ x H', Inv X pins σ H' s2 /\ RelV x u /\ J.yld i H x H' /\ tn (i + 1) s2.heap /\ ∀ b ∈ fp, H' b = none) E s1) E s
  done : ∀ (X : Cx), X.prog = P -> X.w = w -> X.K = K -> X.calm = true -> ∀ (i : Nat) (pins : List (Addr × Obj)) (s : Shared) (σ : St) (H : Hp) (E : Value -> Shared -> Prop), Inv X pins σ H s -> (∀ b ∈ fp, FpOk X pins H b) -> tn i s.heap -> J.stop i H ->
    wpAny (model P w) X.A (pyNext (.ref it)) (fun r s1 => r = none /\ Inv X pins σ H s1) E s
  self : ∀ (A : Around) (i : Nat) (s : Shared) (Q : Value -> Shared -> Prop) (E : Value -> Shared -> Prop), tn i s.heap -> Q (.ref it) s -> wpAny (model P w) A (pyIter (.ref it)) Q E s
abbrev TI := St -> Hp -> (It -> Hp -> Prop) -> Prop
def PIE (X : Cx) (pins : List (Addr × Obj)) (σ : St) (tg : Expr) (R : It -> Hp -> Prop) (itv : Value) (s2 : Shared) : Prop :=
  ∃ (it : Addr) (fp : List Addr) (tn : Nat -> Heap -> Prop) (J : It) (H' : Hp), itv = .ref it /\ Inv X pins σ H' s2 /\ Turn X.prog X.w X.K tg J fp it tn /\ tn 0 s2.heap /\ (∀ b ∈ fp, FpOk X pins H' b) /\ R J H'
def PI (X : Cx) (tg iter : Expr) (wi : TI) : Prop :=
  ∀ (pins : List (Addr × Obj)) (s : Shared) (σ : St) (H : Hp) (R : It -> Hp -> Prop), Inv X pins σ H s -> wi σ H R ->
    wpAny (model X.prog X.w) X.A (eval iter X.env) (fun v s1 => wpAny (model X.prog X.w) X.A (pyIter v) (PIE X pins σ tg R) X.xe s1) X.xe s
theorem zkm {M : Model} {A : Around} {E : Value -> Shared -> Prop} {s : Shared} {tg : Expr} {it : Addr} {u : Value} {o : Obj} {n : String} {vs : Array Value} {Q : Unit -> Shared -> Prop} (ho : s.heap.get? it = some o) (hc : o.cls = .type n) (hd : o.data = .fields vs)
    (hn : ["enumerate", "zip", "dict_itemiterator", "dict_reverseitemiterator", "odict_iterator", "itertools.zip_longest", "itertools.pairwise"].contains n = false) (hQ : Q () s) : wpAny M A (letOwnedTupleGo tg (.ref it) u) Q E s := by
  unfold letOwnedTupleGo
  cases tg <;> first
    | exact wpAny_pure hQ
    | (cases u <;> first
        | exact wpAny_pure hQ
        | (refine wpAny_bind (wpAny_load ho ?_)
           rw [hc, hd]
           show wpAny M A (if (["enumerate", "zip", "dict_itemiterator", "dict_reverseitemiterator", "odict_iterator", "itertools.zip_longest", "itertools.pairwise"].contains n && vs[0]? == some (rawInt _)) = true then _ else _) Q E s
           rw [if_neg (by intro h; rw [hn, Bool.false_and] at h; cases h)]
           exact wpAny_pure hQ))
def Itl (K : PySem.W.Frag) (a : Addr) : It :=
  ⟨fun i H => ∃ xs x, SqL K H a xs /\ xs[i]? = some x, fun i H x H' => H' = H /\ ∀ xs, SqL K H a xs -> xs[i]? = some x, fun i H => ∃ xs, SqL K H a xs /\ xs.length <= i⟩
def Itt (K : PySem.W.Frag) (a : Addr) : It :=
  ⟨fun i H => ∃ xs x, SqT K H a xs /\ xs[i]? = some x, fun i H x H' => H' = H /\ ∀ xs, SqT K H a xs -> xs[i]? = some x, fun i H => ∃ xs, SqT K H a xs /\ xs.length <= i⟩
def Itr (lo : Int) (n : Nat) : It := ⟨fun i _ => i < n, fun i H x H' => H' = H /\ x = .int (lo + i), fun i _ => n <= i⟩
theorem ziD {P : Program} {w : World} {K : PySem.W.Frag} {tg : Expr} (a it : Addr) : Turn P w K tg (Itl K a) [it] it (fun i h => h.IsListIter it a i) where
  mem := by simp
  obj := fun i h st b hb => by
    have e : b = it := by simpa using hb
    subst e
    obtain ⟨o, e, c, d⟩ := st
    exact ⟨o, e, fun v z => by rw [d] at z; cases z⟩
  keep := fun i h h' st k => st.at fun o e => k it (by simp) o e
  item := by
    intro X hP hw hK hc i pins s σ H E I hf st hg
    subst hP hw hK
    obtain ⟨xs, x, hq, hx⟩ := hg
    obtain ⟨its, rv, p, hz⟩ := I.list hq
    obtain ⟨u, hu, ru⟩ := rv.get hx
    obtain ⟨f0, f1, f2, f3, f4, f5⟩ := hf it (by simp)
    refine wpAny_pyNext_list_item st p.isList (x := u) (by simpa using hu) fun h' st' sb => ?_
    have I1 : Inv X pins σ H { s with heap := h' } := I.turned (t' := s.toks) (fun b o hb e => (sb.2 b hb).trans e) f0 f1 f3 f4 f5
    obtain ⟨o, e, c, d⟩ := id st'
    exact ⟨u, rfl, zkm (s := { s with heap := h' }) e c d (by decide) ⟨x, H, I1, ru, ⟨rfl, fun ys hy => by rw [I.list_inj hy hq]; exact hx⟩, st', fun b hb => (hf b hb).1⟩⟩
  done := by
    intro X hP hw hK hc i pins s σ H E I hf st hg
    subst hP hw hK
    obtain ⟨xs, hq, hx⟩ := hg
    obtain ⟨its, rv, p, hz⟩ := I.list hq
    obtain ⟨f0, f1, f2, f3, f4, f5⟩ := hf it (by simp)
    have hl := rv.length
    exact wpAny_pyNext_list_end (I.ok.hd hc) st p.isList (by simp; omega) fun h' eb => ⟨rfl, I.turned (t' := s.toks) (fun b o hb e => eb b o hb e) f0 f1 f3 f4 f5⟩
  self := fun _ _ _ _ _ st h => wpAny_pyIter_listiter st h
theorem zhQ {P : Program} {w : World} {K : PySem.W.Frag} {tg : Expr} (a it : Addr) : Turn P w K tg (Itt K a) [it] it (fun i h => h.IsTupleIter it a i) where
  mem := by simp
  obj := fun i h st b hb => by
    have e : b = it := by simpa using hb
    subst e
    obtain ⟨o, e, c, d⟩ := st
    exact ⟨o, e, fun v z => by rw [d] at z; cases z⟩
  keep := fun i h h' st k => st.at fun o e => k it (by simp) o e
  item := by
    intro X hP hw hK hc i pins s σ H E I hf st hg
    subst hP hw hK
    obtain ⟨xs, x, hq, hx⟩ := hg
    obtain ⟨its, rv, p, hz⟩ := I.tuple hq
    obtain ⟨u, hu, ru⟩ := rv.get hx
    obtain ⟨f0, f1, f2, f3, f4, f5⟩ := hf it (by simp)
    refine wpAny_pyNext_tuple_item st (show s.heap.IsTuple a its.toArray from p) (x := u) (by simpa using hu) fun h' st' sb => ?_
    have I1 : Inv X pins σ H { s with heap := h' } := I.turned (t' := s.toks) (fun b o hb e => (sb.2 b hb).trans e) f0 f1 f3 f4 f5
    obtain ⟨o, e, c, d⟩ := id st'
    exact ⟨u, rfl, zkm (s := { s with heap := h' }) e c d (by decide) ⟨x, H, I1, ru, ⟨rfl, fun ys hy => by rw [I.tuple_inj hy hq]; exact hx⟩, st', fun b hb => (hf b hb).1⟩⟩
  done := by
    intro X hP hw hK hc i pins s σ H E I hf st hg
    subst hP hw hK
    obtain ⟨xs, hq, hx⟩ := hg
    obtain ⟨its, rv, p, hz⟩ := I.tuple hq
    obtain ⟨f0, f1, f2, f3, f4, f5⟩ := hf it (by simp)
    have hl := rv.length
    exact wpAny_pyNext_tuple_end (I.ok.hd hc) st (show s.heap.IsTuple a its.toArray from p) (by simp; omega) fun h' eb => ⟨rfl, I.turned (t' := s.toks) (fun b o hb e => eb b o hb e) f0 f1 f3 f4 f5⟩
  self := fun _ _ _ _ _ st h => wpAny_pyIter_tupleiter st h
theorem zhR {P : Program} {w : World} {K : PySem.W.Frag} {tg : Expr} (it : Addr) (lo : Int) (n : Nat) : Turn P w K tg (Itr lo n) [it] it (fun i h => IsRangeIter h it (lo + (i : Nat) * 1) ((n : Int) - (i : Nat)) 1) where
  mem := by simp
  obj := fun i h st b hb => by
    have e : b = it := by simpa using hb
    subst e
    exact ⟨_, st, fun v z => by
      have z' : Data.fields _ = Data.cell v := z
      cases z'⟩
  keep := fun i h h' st k => k it (by simp) _ st
  item := by
    intro X hP hw hK hc i pins s σ H E I hf st hg
    subst hP hw hK
    obtain ⟨f0, f1, f2, f3, f4, f5⟩ := hf it (by simp)
    have W := Walks.range (prog := X.prog) (w := X.w) (I.ok.hd hc) it lo 1 n
    refine W.item i s _ _ hg st fun v h' tk hv st' kk => ?_
    obtain ⟨t, rfl⟩ := hv
    have I1 : Inv X pins σ H { s with heap := h', toks := tk } := I.turned (fun b o hb e => kk b o (by simpa using hb) e) f0 f1 f3 f4 f5
    refine ⟨_, rfl, zkm (s := { s with heap := h', toks := tk }) (n := "range_iterator") st' rfl rfl (by decide) ⟨.int (lo + i), H, I1, ⟨t, ?_⟩, ⟨rfl, rfl⟩, st', fun b hb => (hf b hb).1⟩⟩
    rw [Int.mul_one]
  done := by
    intro X hP hw hK hc i pins s σ H E I hf st hg
    subst hP hw hK
    obtain ⟨f0, f1, f2, f3, f4, f5⟩ := hf it (by simp)
    exact wpAny_pyNext_range_end (I.ok.hd hc) st (by have : n <= i := hg; omega) fun h' eb => ⟨rfl, I.turned (t' := s.toks) (fun b o hb e => eb b o hb e) f0 f1 f3 f4 f5⟩
  self := fun _ _ _ _ _ st h => wpAny_pyIter_rangeiter st h
end L2
namespace L2
open PySem PySem.Spec PyProof.Rows
section
variable {X : Cx} {tg : Expr}
theorem zhk {pins : List (Addr × Obj)} {σ : St} {H : Hp} {s : Shared} {R : It -> Hp -> Prop} {E : Value -> Shared -> Prop} {lo hi : Int} {t u v : Tok} {tk : Nat} (I : Inv X pins σ H s) (h1 : -(2 ^ 62) <= lo) (h2 : lo < 2 ^ 62) (h3 : -(2 ^ 62) <= hi) (h4 : hi < 2 ^ 62)
    (q : R (Itr lo (hi - lo).toNat) H) : wpAny (model X.prog X.w) X.A (pyIter (.ref s.heap.objs.size)) (PIE X pins σ tg R) E { s with heap := s.heap.push { cls := .type "range", data := .fields #[.int lo t, .int hi u, .int 1 v] }, toks := tk } := by
  refine wpAny_pyIter_range (IsRange.new ..) (small_one h1 h2 h3 h4) ?_
  have I1 : Inv X pins σ H { s with heap := s.heap.push { cls := .type "range", data := .fields #[.int lo t, .int hi u, .int 1 v] }, toks := tk } := I.kept fun b o e => Heap.get?_push_of_some _ e
  refine ⟨(s.heap.push { cls := .type "range", data := .fields #[.int lo t, .int hi u, .int 1 v] }).objs.size, [(s.heap.push { cls := .type "range", data := .fields #[.int lo t, .int hi u, .int 1 v] }).objs.size], _, _, H, rfl,
    I1.kept (t' := tk) fun b o e => Heap.get?_push_of_some _ e, zhR _ lo (hi - lo).toNat, ?_, fun b hb => ?_, q⟩
  · have e1 : lo + ((0 : Nat) : Int) * 1 = lo := by simp
    have e2 : (((hi - lo).toNat : Nat) : Int) - ((0 : Nat) : Int) = Builtin.Range.rangeSize lo hi 1 := by rw [rangeSize_one]; split <;> omega
    show IsRangeIter _ _ (lo + ((0 : Nat) : Int) * 1) ((((hi - lo).toNat : Nat) : Int) - ((0 : Nat) : Int)) 1
    rw [e1, e2]
    exact Heap.get?_push_size _ rfl
  · have e : b = (s.heap.push { cls := .type "range", data := .fields #[.int lo t, .int hi u, .int 1 v] }).objs.size := by simpa using hb
    subst e
    exact I1.fpOk (Nat.le_refl _) (I1.hok.fresh (Nat.le_refl _))
def zpy (ta : TA) : TI := fun σ H R => ta σ H fun vs H1 => ∃ j : Int, vs = [.int j] /\ -(2 ^ 62) <= j /\ j < 2 ^ 62 /\ R (Itr 0 j.toNat) H1
def zpz (ta : TA) : TI := fun σ H R => ta σ H fun vs H1 => ∃ i j : Int, vs = [.int i, .int j] /\ (-(2 ^ 62) <= i /\ i < 2 ^ 62 /\ -(2 ^ 62) <= j /\ j < 2 ^ 62) /\ R (Itr i (j - i).toNat) H1
theorem ziE {a : Expr} {ta : TA} {p pos : Pos} (hg : Gl X "range") (hm : X.mg "range" = none) (ha : PA X [a] ta) (hs : starEach [a] X.env = [(false, eval a X.env)] := by rfl) : PI X tg (.Call (.Name "range" p) [a] [] pos) (zpy ta) := by
  intro pins s σ H R I h
  refine Call_ (zdI I hg hm boot_range (PyProof.Rows.callWith_type1 (thn (ha pos pins s σ H _ I h) fun us s1 ⟨vs, H1, I1, r1, q1⟩ => ?_) hs rfl))
  obtain ⟨j, e, q1, q2, q⟩ := q1
  subst e
  cases r1 with
  | cons r rr =>
    cases rr
    obtain ⟨t, rfl⟩ := r
    exact call_range_1 (zhk I1 (by omega) (by omega) q1 q2 (by simpa using q))
theorem ziF {a b : Expr} {ta : TA} {p pos : Pos} (hg : Gl X "range") (hm : X.mg "range" = none) (ha : PA X [a, b] ta) (hs : starEach [a, b] X.env = [(false, eval a X.env), (false, eval b X.env)] := by rfl) (hs2 : starEach [b] X.env = [(false, eval b X.env)] := by rfl) :
    PI X tg (.Call (.Name "range" p) [a, b] [] pos) (zpz ta) := by
  intro pins s σ H R I h
  refine Call_ (zdI I hg hm boot_range (PyProof.Rows.callWith_type1 (thn (ha pos pins s σ H _ I h) fun us s1 ⟨vs, H1, I1, r1, q1⟩ => ?_) (by rw [hs, hs2]) (by rw [hs2]; rfl)))
  obtain ⟨i, j, e, ⟨q1, q2, q3, q4⟩, q⟩ := q1
  subst e
  cases r1 with
  | cons r rr =>
    cases rr with
    | cons r' rr =>
      cases rr
      obtain ⟨t, rfl⟩ := r
      obtain ⟨t', rfl⟩ := r'
      exact call_range_2 (zhk I1 q1 q2 q3 q4 q)
def tFor (wi : TI) (g : TG) (tb : TS) : TS := fun D σ H => wi σ H fun J H1 => ∃ W : Nat -> Nat -> St -> Hp -> Prop, (∃ m, W 0 m σ H1) /\ ∀ i m σ H, W i m σ H ->
  (J.stop i H /\ D.nx σ H) ∨ (J.go i H /\ ∃ N : St -> Hp -> Prop, (∀ σ' H', N σ' H' -> ∃ m', m' < m /\ W (i + 1) m' σ' H') /\ ∀ x H', J.yld i H x H' -> g x σ H' fun σ2 H2 => tb { D with nx := N, ct := N, bk := D.nx } σ2 H2)
def zdJ (fp : List Addr) (h : Heap) : List (Addr × Obj) := fp.filterMap fun b => (h.get? b).map fun o => (b, o)
theorem zbd {fp : List Addr} {h : Heap} {b : Addr} {o : Obj} (hb : b ∈ fp) (e : h.get? b = some o) : (b, o) ∈ zdJ fp h := List.mem_filterMap.mpr ⟨b, hb, by rw [e]; rfl⟩
theorem ziG {fp : List Addr} {h : Heap} {p : Addr × Obj} (hp : p ∈ zdJ fp h) : p.1 ∈ fp /\ h.get? p.1 = some p.2 := by
  obtain ⟨b, hb, e⟩ := List.mem_filterMap.mp hp
  cases q : h.get? b with
  | none => rw [q] at e; cases e
  | some o =>
    rw [q] at e
    have e' : (b, o) = p := Option.some.inj e
    subst e'
    exact ⟨hb, q⟩
theorem Inv.pinned {pins : List (Addr × Obj)} {σ : St} {H : Hp} {s : Shared} {fp : List Addr} (I : Inv X pins σ H s) (hf : ∀ b ∈ fp, FpOk X pins H b) (ho : ∀ b ∈ fp, ∃ o, s.heap.get? b = some o /\ ∀ v, o.data ≠ .cell v) : Inv X (pins ++ zdJ fp s.heap) σ H s :=
  I.pins_of fun p hp => (List.mem_append.mp hp).elim (fun z => I.pin p (List.mem_append_right _ z)) fun z => by
    obtain ⟨hb, e⟩ := ziG z
    obtain ⟨f0, f1, f2, _⟩ := hf p.1 hb
    obtain ⟨o, e', d⟩ := ho p.1 hb
    rw [e] at e'; cases e'
    exact ⟨e, f0, f1, f2, d⟩
theorem Inv.unpinned {pins pl : List (Addr × Obj)} {σ : St} {H : Hp} {s : Shared} (I : Inv X (pins ++ pl) σ H s) : Inv X pins σ H s := I.pins_of fun p hp => I.pin p (List.mem_append_right _ (List.mem_append_left _ hp))
theorem znE {iter : Expr} {body : List Stmt} {wi : TI} {g : TG} {tb : TS} {pos : Pos} (hp : PassesOwn (model X.prog X.w) X.A X.env X.xe) (hc : X.calm = true) (hi : PI X tg iter wi) (hg : PG X tg g) (hb : PSs X body tb)
    (hs : ∀ x, foldedSetIterable iter X.env x = pure x := by intro _; rfl) : PS X (.For tg iter body [] pos) (tFor wi g tb) := by
  intro pins s σ H D I h
  refine wpAny_For (thn (hi pins s σ H _ I h) fun v s1 h1 => thn h1 fun itv s2 h2 => ?_) hs
  obtain ⟨it, fp, tn, J, H2, e, I2, T, st2, f2, W, ⟨m0, w0⟩, turn⟩ := h2
  subst e
  have stat : ∀ {H' : Hp}, (∀ b ∈ fp, H' b = none) -> ∀ b ∈ fp, FpOk X pins H' b := fun hn b hb => ⟨hn b hb, (f2 b hb).2⟩
  refine codeAny_forLoop_any (fun n s' => ∃ i σ' H', Inv X pins σ' H' s' /\ tn i s'.heap /\ (∀ b ∈ fp, H' b = none) /\ W i n σ' H') ?_ m0 ⟨0, σ, H2, I2, st2, fun b hb => (f2 b hb).1, w0⟩
  rintro n s3 ⟨i, σ3, H3, I3, st3, fr3, w3⟩
  rcases turn i n σ3 H3 w3 with ⟨stop, qn⟩ | ⟨go, N, hN, step⟩
  · refine wpAny_passesOwn hp (thn (T.done X rfl rfl rfl hc i pins s3 σ3 H3 X.xe I3 (stat fr3) st3 stop) fun r s4 ⟨hr, I4⟩ => ?_)
    subst hr
    exact wpAny_execs_nil ⟨σ3, H3, I4, qn⟩
  · refine wpAny_passesOwn hp (thn (T.item X rfl rfl rfl hc i pins s3 σ3 H3 X.xe I3 (stat fr3) st3 go) fun r s4 ⟨u, hr, h4⟩ => ?_)
    subst hr
    refine wpAny_passesOwn hp (thn h4 fun _ s5 ⟨x, H5, I5, r5, y5, st5, fr5⟩ => ?_)
    have I5' := I5.pinned (stat fr5) (T.obj _ _ st5)
    refine wpAny_passesOwn hp (thn (hg _ s5 σ3 H5 x u _ I5' r5 (step x H5 y5)) fun _ s6 ⟨σ6, H6, I6, q6⟩ => ?_)
    refine wpAny_passesOwn hp (thn (hb _ s6 σ6 H6 _ I6 q6) fun f s7 q7 => ?_)
    have again : ∀ {σ7 : St} {H7 : Hp}, Inv X (pins ++ zdJ fp s5.heap) σ7 H7 s7 -> N σ7 H7 -> ∃ m, m < n /\ ∃ i σ' H', Inv X pins σ' H' s7 /\ tn i s7.heap /\ (∀ b ∈ fp, H' b = none) /\ W i m σ' H' := fun {σ7 H7} I7 n7 => by
      obtain ⟨m', hm, w7⟩ := hN σ7 H7 n7
      refine ⟨m', hm, i + 1, σ7, H7, I7.unpinned, T.keep _ _ _ st5 fun b hb o e => (I7.pin (b, o) (List.mem_append_right _ (List.mem_append_right _ (zbd hb e)))).1, fun b hb => ?_, w7⟩
      obtain ⟨o, e, d⟩ := T.obj _ _ st5 b hb
      exact (I7.pin (b, o) (List.mem_append_right _ (List.mem_append_right _ (zbd hb e)))).2.1
    cases f with
    | next => obtain ⟨σ7, H7, I7, n7⟩ := q7; exact again I7 n7
    | cont => obtain ⟨σ7, H7, I7, n7⟩ := q7; exact again I7 n7
    | brk => obtain ⟨σ7, H7, I7, q7⟩ := q7; exact ⟨σ7, H7, I7.unpinned, q7⟩
    | ret v => obtain ⟨x7, σ7, H7, I7, r7, q7⟩ := q7; exact ⟨x7, σ7, H7, I7.unpinned, r7, q7⟩
end
end L2
namespace L2
open PySem PySem.Spec PyProof.Rows
abbrev R2 := V -> V -> Hp -> VK -> Prop
def OpR (X : Cx) (f : Value -> Value -> Sem Value) (r : R2) : Prop :=
  ∀ (pins : List (Addr × Obj)) (s : Shared) (σ : St) (H : Hp) (x y : V) (v u : Value) (Q : VK), Inv X pins σ H s -> RelV x v -> RelV y u -> r x y H Q ->
    wpAny (model X.prog X.w) X.A (f v u) (EP X pins σ Q) X.xe s
def UnR (X : Cx) (f : Value -> Sem Value) (r : V -> Hp -> VK -> Prop) : Prop :=
  ∀ (pins : List (Addr × Obj)) (s : Shared) (σ : St) (H : Hp) (x : V) (v : Value) (Q : VK), Inv X pins σ H s -> RelV x v -> r x H Q ->
    wpAny (model X.prog X.w) X.A (f v) (EP X pins σ Q) X.xe s
def zc1 (X : Cx) (f : Value) (r : List V -> Hp -> VK -> Prop) : Prop :=
  ∀ (pins : List (Addr × Obj)) (s : Shared) (σ : St) (H : Hp) (xs : List V) (us : List Value) (Q : VK), Inv X pins σ H s -> Vals xs us -> r xs H Q ->
    wpAny (model X.prog X.w) X.A (call f us) (EP X pins σ Q) X.xe s
def tOp (r : R2) (ta tb : TE) : TE := fun σ H Q => ta σ H fun x H1 => tb σ H1 fun y H2 => r x y H2 Q
def tUn (r : V -> Hp -> VK -> Prop) (ta : TE) : TE := fun σ H Q => ta σ H fun x H1 => r x H1 Q
def rI (C : Int -> Int -> Prop) (g : Int -> Int -> V) : R2 := fun x y H Q => ∃ i j, x = .int i /\ y = .int j /\ C i j /\ Q (g i j) H
def rI0 (g : Int -> Int -> V) : R2 := fun x y H Q => ∃ i j, x = .int i /\ y = .int j /\ Q (g i j) H
def rU (g : Int -> V) : V -> Hp -> VK -> Prop := fun x H Q => ∃ i, x = .int i /\ Q (g i) H
section
variable {X : Cx} {a b c : Expr} {ta tb tc : TE} {pos : Pos}
theorem binT (ha : PE X a ta) (hb : PE X b tb) {pins : List (Addr × Obj)} {s : Shared} {σ : St} {H : Hp} {R : V -> V -> Hp -> Prop} (I : Inv X pins σ H s)
    (h : ta σ H fun x H1 => tb σ H1 fun y H2 => R x y H2) {Q : Value -> Shared -> Prop} {f : Value -> Value -> Sem Value}
    (hf : ∀ v u s2 x y H2, Inv X pins σ H2 s2 -> RelV x v -> RelV y u -> R x y H2 -> wpAny (model X.prog X.w) X.A (f v u) Q X.xe s2) :
    wpAny (model X.prog X.w) X.A (eval a X.env) (fun v s₁ => wpAny (model X.prog X.w) X.A (eval b X.env) (fun u s₂ => wpAny (model X.prog X.w) X.A (f v u) Q X.xe s₂) X.xe s₁) X.xe s := by
  refine thn (ha pins s σ H _ I h) fun v s1 ⟨x, H1, I1, r1, q1⟩ => ?_
  refine thn (hb pins s1 σ H1 _ I1 q1) fun u s2 ⟨y, H2, I2, r2, q2⟩ => ?_
  exact hf v u s2 x y H2 I2 r1 r2 q2
theorem znF {op : Operator} {r : R2} (ho : OpR X (binaryOp op) r) (ha : PE X a ta) (hb : PE X b tb) : PE X (.BinOp a op b pos) (tOp r ta tb) := by
  intro pins s σ H Q I h
  exact wpAny_BinOp (binT ha hb I h fun v u s2 x y H2 I2 rx ry q => ho pins s2 σ H2 x y v u Q I2 rx ry q)
theorem zpA {op : UnaryOp} {r : V -> Hp -> VK -> Prop} (ho : UnR X (unaryOp op) r) (ha : PE X a ta) : PE X (.UnaryOp op a pos) (tUn r ta) := by
  intro pins s σ H Q I h
  exact UnaryOp_ (thn (ha pins s σ H _ I h) fun v s1 ⟨x, H1, I1, r1, q1⟩ => ho pins s1 σ H1 x v Q I1 r1 q1)
theorem opI {f : Value -> Value -> Sem Value} {C : Int -> Int -> Prop} {g : Int -> Int -> Int}
    (rule : ∀ (i j : Int) (t u : Tok) (s : Shared) (Q : Value -> Shared -> Prop) (E : Value -> Shared -> Prop), C i j -> Q (.int (g i j) s.toks) { s with toks := s.toks + 1 } -> wpAny (model X.prog X.w) X.A (f (.int i t) (.int j u)) Q E s) :
    OpR X f (rI C fun i j => .int (g i j)) := by
  intro pins s σ H x y v u Q I rx ry h
  obtain ⟨i, j, rfl, rfl, hc, q⟩ := h
  obtain ⟨t, rfl⟩ := rx
  obtain ⟨t', rfl⟩ := ry
  exact rule i j t t' s _ _ hc ⟨.int (g i j), H, I.tok _, ⟨_, rfl⟩, q⟩
theorem opI0 {f : Value -> Value -> Sem Value} {g : Int -> Int -> Int}
    (rule : ∀ (i j : Int) (t u : Tok) (s : Shared) (Q : Value -> Shared -> Prop) (E : Value -> Shared -> Prop), Q (.int (g i j) s.toks) { s with toks := s.toks + 1 } -> wpAny (model X.prog X.w) X.A (f (.int i t) (.int j u)) Q E s) :
    OpR X f (rI0 fun i j => .int (g i j)) := by
  intro pins s σ H x y v u Q I rx ry h
  obtain ⟨i, j, rfl, rfl, q⟩ := h
  obtain ⟨t, rfl⟩ := rx
  obtain ⟨t', rfl⟩ := ry
  exact rule i j t t' s _ _ ⟨.int (g i j), H, I.tok _, ⟨_, rfl⟩, q⟩
theorem opB0 {f : Value -> Value -> Sem Value} {g : Int -> Int -> Bool}
    (rule : ∀ (i j : Int) (t u : Tok) (s : Shared) (Q : Value -> Shared -> Prop) (E : Value -> Shared -> Prop), Q (.bool (g i j)) s -> wpAny (model X.prog X.w) X.A (f (.int i t) (.int j u)) Q E s) :
    OpR X f (rI0 fun i j => .bl (g i j)) := by
  intro pins s σ H x y v u Q I rx ry h
  obtain ⟨i, j, rfl, rfl, q⟩ := h
  obtain ⟨t, rfl⟩ := rx
  obtain ⟨t', rfl⟩ := ry
  exact rule i j t t' s _ _ ⟨.bl (g i j), H, I, rfl, q⟩
def CPow (i j : Int) : Prop := 0 <= j /\ j <= 1000000 /\ i.natAbs < 2 ^ 64
def CMul (i j : Int) : Prop := (-(2 ^ 64) < i /\ i < 2 ^ 64) ∨ (-(2 ^ 64) < j /\ j < 2 ^ 64)
theorem CMul.ok {i j : Int} (h : CMul i j) : IntMulOk i j := by
  rcases h with ⟨h1, h2⟩ | ⟨h1, h2⟩
  · exact .of_left (intBits_le_64 h1 h2)
  · exact .of_right (intBits_le_64 h1 h2)
theorem znG : OpR X (binaryOp .Add) (rI0 fun i j => .int (i + j)) := opI0 fun _ _ _ _ _ _ _ q => add_int q
theorem znH : OpR X (binaryOp .Sub) (rI0 fun i j => .int (i - j)) := opI0 fun _ _ _ _ _ _ _ q => sub_int q
theorem znI : OpR X (binaryOp .Mult) (rI CMul fun i j => .int (i * j)) := opI fun _ _ _ _ _ _ _ hc q => mul_int q hc.ok
theorem znJ : OpR X (binaryOp .Mod) (rI (fun _ j => 0 < j) fun i j => .int (i % j)) := opI fun i j _ _ _ _ _ hc q => by
  have h1 : (0 : Int) < j := hc
  exact mod_int' (by omega) (by rw [Int.fmod_eq_emod_of_nonneg i (by omega)]; exact q)
theorem znK : OpR X (binaryOp .Pow) (rI CPow fun i j => .int (i ^ j.toNat)) := opI fun _ _ _ _ _ _ _ hc q => pow_int_small hc.1 hc.2.1 hc.2.2 q
theorem unI {f : Value -> Sem Value} {g : Int -> Int}
    (rule : ∀ (i : Int) (t : Tok) (s : Shared) (Q : Value -> Shared -> Prop) (E : Value -> Shared -> Prop), Q (.int (g i) s.toks) { s with toks := s.toks + 1 } -> wpAny (model X.prog X.w) X.A (f (.int i t)) Q E s) :
    UnR X f (rU fun i => .int (g i)) := by
  intro pins s σ H x v Q I rx h
  obtain ⟨i, rfl, q⟩ := h
  obtain ⟨t, rfl⟩ := rx
  exact rule i t s _ _ ⟨.int (g i), H, I.tok _, ⟨_, rfl⟩, q⟩
theorem znL : UnR X (unaryOp .USub) (rU fun i => .int (-i)) := unI fun _ _ _ _ _ q => neg_int q
end
section
variable {X : Cx} {a b c : Expr} {ta tb tc : TE} {pos : Pos}
theorem zlG {pins : List (Addr × Obj)} {σ : St} {H : Hp} {s : Shared} {Q : VK} {k k' : Bool} (I : Inv X pins σ H s) (q : Q (.bl k) H) (e : k = k') : EP X pins σ Q (.bool k') s := by
  subst e
  exact ⟨.bl k, H, I, rfl, q⟩
theorem zpB : OpR X (compareOp .Lt) (rI0 fun i j => .bl (decide (i < j))) := opB0 fun _ _ _ _ _ _ _ q => lt_int q
theorem zpC : OpR X (compareOp .LtE) (rI0 fun i j => .bl (decide (i <= j))) := opB0 fun _ _ _ _ _ _ _ q => le_int q
theorem zpD : OpR X (compareOp .Gt) (rI0 fun i j => .bl (decide (j < i))) := opB0 fun _ _ _ _ _ _ _ q => gt_int q
theorem zpE : OpR X (compareOp .GtE) (rI0 fun i j => .bl (decide (j <= i))) := opB0 fun _ _ _ _ _ _ _ q => ge_int q
theorem ziH : OpR X (compareOp .In) (fun x y H Q => ∃ i j, x = .str i /\ y = .str j /\ Q (.bl (!(Builtin.Str.occurrences j i 0 j.length 1).isEmpty)) H) := by
  intro pins s σ H x y v u Q I rx ry h
  obtain ⟨i, j, rfl, rfl, q⟩ := h
  obtain ⟨t, rfl⟩ := rx
  obtain ⟨t', rfl⟩ := ry
  exact in_str (zlG I q rfl)
theorem zfw : OpR X (compareOp .NotIn) (fun x y H Q => ∃ i j, x = .str i /\ y = .str j /\ Q (.bl (!(!(Builtin.Str.occurrences j i 0 j.length 1).isEmpty))) H) := by
  intro pins s σ H x y v u Q I rx ry h
  obtain ⟨i, j, rfl, rfl, q⟩ := h
  obtain ⟨t, rfl⟩ := rx
  obtain ⟨t', rfl⟩ := ry
  exact notIn_str (zlG I q rfl)
theorem OpR.or {f : Value -> Value -> Sem Value} {r r' : R2} (h : OpR X f r) (h' : OpR X f r') : OpR X f (fun x y H Q => r x y H Q ∨ r' x y H Q) := by
  intro pins s σ H x y v u Q I rx ry q
  rcases q with q | q
  · exact h pins s σ H x y v u Q I rx ry q
  · exact h' pins s σ H x y v u Q I rx ry q
theorem zaR (b : Expr) {op : CmpOp} (h : op ≠ .In := by decide) (h2 : op ≠ .NotIn := by decide) : behindInMarks op b = false := by
  have e1 : (op == CmpOp.In) = false := by cases op <;> first | rfl | exact absurd rfl h
  have e2 : (op == CmpOp.NotIn) = false := by cases op <;> first | rfl | exact absurd rfl h2
  cases b <;> simp [behindInMarks, e1, e2]
theorem ziI {op : CmpOp} {r : R2} (ho : OpR X (compareOp op) r) (ha : PE X a ta) (hb : PE X b tb) (hm : behindInMarks op b = false) : PE X (.Compare a [op] [b] pos) (tOp r ta tb) := by
  intro pins s σ H Q I h
  exact wpAny_Compare1 (binT ha hb I h fun v u s2 x y H2 I2 rx ry q => ho pins s2 σ H2 x y v u Q I2 rx ry q) hm
def znM (t : TE) : TT := fun σ H Q => t σ H fun x H' => ∃ k, x = .bl k /\ Q k H'
theorem zgt {op : CmpOp} {r : R2} (ho : OpR X (compareOp op) r) (ha : PE X a ta) (hb : PE X b tb) (hm : behindInMarks op b = false) : PT X (.Compare a [op] [b] pos) (znM (tOp r ta tb)) := by
  intro pins s σ H Q I h
  refine wpAny_isTrue_Compare1 (thn (ha pins s σ H _ I h) fun v s1 ⟨x, H1, I1, r1, q1⟩ => thn (hb pins s1 σ H1 _ I1 q1) fun u s2 ⟨y, H2, I2, r2, q2⟩ =>
    thn (ho pins s2 σ H2 x y v u _ I2 r1 r2 q2) fun c s3 ⟨z, H3, I3, r3, k, e, q3⟩ => ?_) hm
  subst e
  cases r3
  exact wpAny_truthy_bool ⟨H3, I3, q3⟩
def zlH (r r' : R2) (ta tb tc : TE) : TE := fun σ H Q => ta σ H fun x H1 => tb σ H1 fun y H2 => r x y H2 fun z H3 => ∃ k, z = .bl k /\
  (if k = true then tc σ H3 fun w' H4 => r' y w' H4 Q else Q (.bl false) H3)
theorem zkn {op op' : CmpOp} {r r' : R2} (ho : OpR X (compareOp op) r) (ho' : OpR X (compareOp op') r') (ha : PE X a ta) (hb : PE X b tb) (hc : PE X c tc)
    (hm : lastMarks [op, op'] [b, c] = false := by with_unfolding_all rfl) : PE X (.Compare a [op, op'] [b, c] pos) (zlH r r' ta tb tc) := by
  intro pins s σ H Q I h
  refine Compare_chain (thn (ha pins s σ H _ I h) fun v s1 ⟨x, H1, I1, r1, q1⟩ => chain_link (thn (hb pins s1 σ H1 _ I1 q1) fun u s2 ⟨y, H2, I2, r2, q2⟩ =>
    thn (ho pins s2 σ H2 x y v u _ I2 r1 r2 q2) fun d s3 ⟨z, H3, I3, r3, k, e, q3⟩ => ?_)) hm
  subst e
  cases r3
  refine wpAny_truthy_bool ?_
  cases k with
  | false => exact ite_ff ⟨.bl false, H3, I3, rfl, q3⟩
  | true => exact ite_tt (chain_last (thn (hc pins s3 σ H3 _ I3 q3) fun w' s4 ⟨z', H4, I4, r4, q4⟩ => ho' pins s4 σ H4 y z' u w' Q I4 r2 r4 q4))
theorem zko {op op' : CmpOp} {r r' : R2} (ho : OpR X (compareOp op) r) (ho' : OpR X (compareOp op') r') (ha : PE X a ta) (hb : PE X b tb) (hc : PE X c tc)
    (hm : lastMarks [op, op'] [b, c] = false := by with_unfolding_all rfl) : PT X (.Compare a [op, op'] [b, c] pos) (znM (zlH r r' ta tb tc)) := by
  intro pins s σ H Q I h
  refine isTrue_chain (thn (ha pins s σ H _ I h) fun v s1 ⟨x, H1, I1, r1, q1⟩ => test_link (thn (hb pins s1 σ H1 _ I1 q1) fun u s2 ⟨y, H2, I2, r2, q2⟩ =>
    thn (ho pins s2 σ H2 x y v u _ I2 r1 r2 q2) fun d s3 ⟨z, H3, I3, r3, k, e, q3⟩ => ?_)) hm
  subst e
  cases r3
  refine wpAny_truthy_bool ?_
  cases k with
  | false =>
    obtain ⟨k', e', q'⟩ := q3
    cases e'
    exact ite_ff ⟨H3, I3, q'⟩
  | true =>
    refine ite_tt (test_last (thn (hc pins s3 σ H3 _ I3 q3) fun w' s4 ⟨z', H4, I4, r4, q4⟩ => thn (ho' pins s4 σ H4 y z' u w' _ I4 r2 r4 q4) fun d' s5 ⟨z2, H5, I5, r5, k2, e2, q5⟩ => ?_))
    subst e2
    cases r5
    exact wpAny_truthy_bool ⟨H5, I5, q5⟩
theorem zeG : (sizeLine : Nat) < 2 ^ 63 := by rw [sizeLine_eq]; decide
theorem zhS : OpR X (binaryOp .Add) (fun x y H Q => ∃ i j, x = .str i /\ y = .str j /\ i.length + j.length <= sizeLine /\ Q (.str (i ++ j)) H) := by
  intro pins s σ H x y v u Q I rx ry h
  obtain ⟨i, j, rfl, rfl, hz, q⟩ := h
  obtain ⟨t, rfl⟩ := rx
  obtain ⟨t', rfl⟩ := ry
  exact add_str (fun t' tk => ⟨.str (i ++ j), H, I.tok _, ⟨_, rfl⟩, q⟩) hz
theorem zkp {x : V} {us : List Value} (r : Vals [x] us) : ∃ u, us = [u] /\ RelV x u := by
  cases r with
  | cons r1 r2 => cases r2; exact ⟨_, rfl, r1⟩
theorem zl7 {x y : V} {us : List Value} (r : Vals [x, y] us) : ∃ u w', us = [u, w'] /\ RelV x u /\ RelV y w' := by
  cases r with
  | cons r1 r2 =>
    cases r2 with
    | cons r3 r4 => cases r4; exact ⟨_, _, rfl, r1, r3⟩
theorem ziJ (hc : X.calm = true) : zc1 X (.builtin "max") (fun xs H Q => ∃ i j, xs = [.int i, .int j] /\ Q (.int (if j > i then j else i)) H) := by
  intro pins s σ H xs us Q I r h
  obtain ⟨i, j, rfl, q⟩ := h
  obtain ⟨u, w', rfl, ⟨t, rfl⟩, ⟨t', rfl⟩⟩ := zl7 r
  refine max_two_ints (I.ok.hd hc) fun h' tk k => ⟨_, H, I.kept k, ?_, q⟩
  by_cases hj : j > i
  · rw [if_pos hj, if_pos hj]; exact ⟨_, rfl⟩
  · rw [if_neg hj, if_neg hj]; exact ⟨_, rfl⟩
theorem ziK : zc1 X (.type "int") (fun xs H Q => (∃ i, xs = [.int i] /\ Q (.int i) H) ∨ ∃ k, xs = [.bl k] /\ Q (.int (if k then 1 else 0)) H) := by
  intro pins s σ H xs us Q I r h
  rcases h with ⟨i, rfl, q⟩ | ⟨k, rfl, q⟩
  · obtain ⟨u, rfl, t, rfl⟩ := zkp r
    exact call_int_int ⟨.int i, H, I, ⟨_, rfl⟩, q⟩
  · obtain ⟨u, rfl, r1⟩ := zkp r
    cases r1
    exact call_int_bool ⟨.int (if k then 1 else 0), H, I.tok _, ⟨_, rfl⟩, q⟩
def LenV (K : PySem.W.Frag) (x : V) (H : Hp) (n : Nat) : Prop :=
  match x with
  | .str y => y.length <= sizeLine /\ n = y.length
  | .byt y => y.size <= sizeLine /\ n = y.size
  | .ref p => (∃ xs, SqL K H p xs /\ n = xs.length) ∨ ∃ xs, SqT K H p xs /\ n = xs.length
  | _ => False
theorem zhl : zc1 X (.builtin "len") (fun xs H Q => ∃ x n, xs = [x] /\ LenV X.K x H n /\ Q (.int n) H) := by
  intro pins s σ H xs us Q I r h
  obtain ⟨x, n, rfl, e, q⟩ := h
  obtain ⟨u, rfl, rx⟩ := zkp r
  have hl := zeG
  have hs : sizeLine = 16777216 := sizeLine_eq
  cases x with
  | str y =>
    obtain ⟨t, rfl⟩ := rx
    obtain ⟨hy, e'⟩ : y.length <= sizeLine /\ n = y.length := e
    subst e'
    exact len_str (by omega) ⟨.int _, H, I.tok _, ⟨_, rfl⟩, q⟩
  | byt y =>
    obtain ⟨t, rfl⟩ := rx
    obtain ⟨hy, e'⟩ : y.size <= sizeLine /\ n = y.size := e
    subst e'
    exact PySem.W.len_bytes (by omega) ⟨.int _, H, I.tok _, ⟨_, rfl⟩, q⟩
  | ref p =>
    cases rx
    have e' : (∃ xs, SqL X.K H p xs /\ n = xs.length) ∨ ∃ xs, SqT X.K H p xs /\ n = xs.length := e
    rcases e' with ⟨xs, hx, e'⟩ | ⟨xs, hx, e'⟩
    · subst e'
      obtain ⟨its, r', pl, hz⟩ := I.list hx
      have hlen := r'.length
      exact Calls.call_len_list pl.isList (by simp only [List.size_toArray]; omega) ⟨.int xs.length, H, I.tok _, ⟨_, by simp only [List.size_toArray]; rw [hlen]⟩, q⟩
    · subst e'
      obtain ⟨its, r', pl, hz⟩ := I.tuple hx
      have hlen := r'.length
      exact len_tuple pl (by simp only [List.size_toArray]; omega) ⟨.int xs.length, H, I.tok _, ⟨_, by simp only [List.size_toArray]; rw [hlen]⟩, q⟩
  | _ => exact (show False from e).elim
end
end L2
namespace L2
open PySem PySem.Spec PyProof.Rows
section
variable {prog : Program} {w : World} {A : Around} {E : Value -> Shared -> Prop} {s : Shared} {K : PySem.W.Frag} {x dx C f : Addr} {mA : Str -> Option Value} {name : Str} {v : Value}
end
section
variable {P : Program} {w : World} {H H' : Hp} {h h' : Heap} {a C dx : Addr} {fs fs' : List (Str × V)}
end
section
variable {X : Cx} {pins : List (Addr × Obj)} {σ : St} {H : Hp} {s : Shared} {a C dx : Addr} {fs : List (Str × V)} {f : Str} {v : V} {A : Around} {E : Value -> Shared -> Prop}
end
section
variable {X : Cx} {o e value : Expr} {f : Str} {pos pos' tpos : Pos} {ta tv : TE}
end
section
variable {X : Cx} {pins : List (Addr × Obj)} {σ : St} {H : Hp} {s : Shared} {A : Around} {E : Value -> Shared -> Prop} {Q : Value -> Shared -> Prop} {c : Value} {b : Bool}
end
end L2
namespace L2
open PySem PySem.Spec PyProof.Rows
structure Room (k : Nat) (A : Around) : Prop where
  hd : A.handled = none
  dp : A.depth + 3 * k + 5 < recursionLimit
  un : A.units + 16 * k + 200 < cLine
  gd : A.guards = some []
theorem Room.mono {j k : Nat} {A : Around} (r : Room k A) (h : j <= k) : Room j A := ⟨r.hd, by have := r.dp; omega, by have := r.un; omega, r.gd⟩
theorem Room.deeper {k : Nat} {A : Around} (r : Room (k + 1) A) (env : Env) : Room k (A.deeper env) :=
  ⟨r.hd, by have := r.dp; show A.depth + 1 + 3 * k + 5 < _; omega, by have := r.un; show A.units + 3 + 16 * k + 200 < _; omega, r.gd⟩
theorem Room.depth {k : Nat} {A : Around} (r : Room k A) : A.depth < recursionLimit := by have := r.dp; omega
theorem Room.units {k : Nat} {A : Around} (r : Room k A) : A.units + 64 < cLine := by have := r.un; omega
def tNil : TA := fun _ H Q => Q [] H
def zpF (ta : TE) (tr : TA) : TA := fun σ H Q => ta σ H fun x H1 => tr σ H1 fun xs H2 => Q (x :: xs) H2
section
variable {X : Cx} {e : Expr} {es : List Expr} {te : TE} {t : TA} {pos : Pos}
theorem zd5 : PA X [] tNil := fun _ _ _ _ H Q I h => Calls.spliced_nil ⟨[], H, I, .nil, h⟩
theorem zcu (ha : PE X e te) (hr : PA X es t) (hs : starEach (e :: es) X.env = (false, eval e X.env) :: starEach es X.env := by rfl) : PA X (e :: es) (zpF te t) := by
  intro pos pins s σ H Q I h
  rw [hs]
  show wpAny _ _ (spliced ((false, eval e X.env) :: backTo pos (starEach es X.env))) _ _ s
  refine Calls.spliced_cons (thn (ha pins s σ H _ I h) fun u s1 ⟨x, H1, I1, r1, q1⟩ => ?_)
  exact thn (hr pos pins s1 σ H1 _ I1 q1) fun us s2 ⟨xs, H2, I2, r2, q2⟩ => ⟨x :: xs, H2, I2, .cons r1 r2, q2⟩
def tTup (t : TA) : TE := fun σ H Q => t σ H fun xs H1 => xs.length <= sizeLine /\ ∀ p, H1 p = none -> Q (.ref p) (upd H1 p (.tup xs))
def tLst (t : TA) : TE := fun σ H Q => t σ H fun xs H1 => xs.length <= sizeLine /\ ∀ p, H1 p = none -> Q (.ref p) (upd H1 p (.lst xs))
theorem znN {x1} (h : PA X es t) : PE X (.Tuple es x1 pos) (tTup t) := by
  intro pins s σ H Q I hq
  refine wpAny_Tuple_spliced (thn (h pos pins s σ H _ I hq) fun us s1 ⟨xs, H1, I1, r, z, q⟩ => ⟨by rw [← r.length]; exact z, ?_⟩)
  have hf : H1 s1.heap.objs.size = none := I1.hok.fresh (Nat.le_refl _)
  refine ⟨.ref s1.heap.objs.size, upd H1 s1.heap.objs.size (.tup xs), I1.laid (t' := s1.toks) (fun b u e => Heap.get?_push_of_some _ e) (Nat.le_refl _) ?_, rfl, q _ hf⟩
  exact ⟨z, us, r, ⟨_, Heap.get?_push_size _ rfl, rfl, _, rfl⟩⟩
theorem zlI (h : PA X es t) : PE X (.List es pos) (tLst t) := by
  intro pins s σ H Q I hq
  refine wpAny_List_spliced (thn (h pos pins s σ H _ I hq) fun us s1 ⟨xs, H1, I1, r, z, q⟩ => ⟨by rw [← r.length]; exact z, ?_⟩)
  have hf : H1 s1.heap.objs.size = none := I1.hok.fresh (Nat.le_refl _)
  refine ⟨.ref s1.heap.objs.size, upd H1 s1.heap.objs.size (.lst xs), I1.laid (t' := s1.toks) (fun b u e => Heap.get?_push_of_some _ e) (Nat.le_refl _) ?_, rfl, q _ hf⟩
  exact ⟨z, us, 0, r, Heap.get?_push_size _ rfl⟩
end
abbrev Sp := List V -> Hp -> VK -> XK -> Prop
abbrev CXT := List Env -> Hp -> Shared -> XK -> Value -> Shared -> Prop
structure Env0 (P : Program) (w : World) (K : PySem.W.Frag) (mg : Str -> Option Value) (base : Heap) (A : Around) (outer : List Env) (s : Shared) (H : Hp) : Prop where
  frames : A.frames = some outer
  mod : Mod K mg base
  bs : ∀ b o, base.get? b = some o -> s.heap.get? b = some o /\ H b = none
  bsz : base.objs.size <= s.heap.objs.size
  funs : s.heap.FunFrames base outer
  frf : ∀ b ∈ frs outer, H b = none
  hok : HOk P w H s.heap
  bare : AllBare s.gens
def CE (outer : List Env) (P : Program) (w : World) (H : Hp) (s : Shared) (Q : VK) (u : Value) (s' : Shared) : Prop :=
  ∃ v H', s'.os = s.os /\ AllBare s'.gens /\ Un (frs outer) [] H H' s.heap s'.heap /\ HOk P w H' s'.heap /\ RelV v u /\ Q v H'
def CR (CX : CXT) (outer : List Env) (P : Program) (w : World) (H : Hp) (s : Shared) (Q : VK) (E : XK) (r : Result) (s' : Shared) : Prop :=
  match r with
  | .ok (.ret u) => CE outer P w H s Q u s'
  | .ok _ => False
  | .error e => CX outer H s E e s'
structure FnOk (P : Program) (w : World) (K : PySem.W.Frag) (mg : Str -> Option Value) (base : Heap) (CX : CXT) (k : Nat) (f : Addr) (fd : FuncData) (ps : List Str) (sp : Sp) : Prop where
  len : ∀ vs H Q E, sp vs H Q E -> vs.length = ps.length
  run : ∀ (A : Around) (outer : List Env) (s : Shared) (H : Hp) (args : Args) (us : List Value) (vs : List V) (Q : VK) (E : XK), Room k A -> Env0 P w K mg base A outer s H -> BindsTo s fd args (ps.zip us) -> Vals vs us -> sp vs H Q E ->
    codeAny (model P w) A (.call (.ref f) args) (CR CX outer P w H s Q E) s
section
variable {X : Cx} {pins : List (Addr × Obj)} {σ : St} {H : Hp} {s s' : Shared}
theorem Inv.env0 (I : Inv X pins σ H s) : Env0 X.prog X.w X.K X.mg X.base X.A X.stack s H :=
  ⟨I.ok.frames, I.ok.mod, I.bs, Nat.le_trans I.ok.bsz I.sz, I.stack, I.stkFree, I.hok, I.bare⟩
theorem Inv.after {Q : VK} {u : Value} (I : Inv X pins σ H s) (h : CE X.stack X.prog X.w H s Q u s') : EP X pins σ Q u s' := by
  obtain ⟨v, H', os, bare, un, hok, r, q⟩ := h
  obtain ⟨hh, g, d, t, os'⟩ := s'
  obtain rfl : os' = s.os := os
  exact ⟨v, H', I.call (h' := hh) (g' := g) (d' := d) (t' := t) (ch := []) un hok bare (fun b z => absurd z (by simp)), r, q⟩
end
def zpG (sp : Sp) (dvs : List V) (E : XK) (t : TA) : TE := fun σ H Q => t σ H fun vs H1 => sp (vs ++ dvs) H1 Q E
def zfx (K : PySem.W.Frag) (fd : FuncData) (ps : List Str) (ds : List Value) : Prop :=
  ∀ (s : Shared) (us : List Value), K.In s.heap -> (us ++ ds).length = ps.length -> BindsTo s fd ⟨us, []⟩ (ps.zip (us ++ ds))
theorem zfx.all {K : PySem.W.Frag} {fd : FuncData} {ps : List Str} (h : ∀ us : List Value, us.length = ps.length -> bindArgs fd ⟨us, []⟩ = pure (ps.zip us)) : zfx K fd ps [] := fun s us _ hl => by
  rw [List.append_nil] at hl ⊢
  exact .of_eq (h us hl)
def ziL (CX : CXT) (X : Cx) (E : XK) : Prop := ∀ (pins : List (Addr × Obj)) (σ : St) (H : Hp) (s : Shared) (e : Value) (s' : Shared), Inv X pins σ H s -> CX X.stack H s E e s' -> X.xe e s'
section
variable {X : Cx} {CX : CXT} {k : Nat} {f C : Addr} {fd : FuncData} {ps : List Str} {sp : Sp} {dvs : List V} {ds : List Value} {E : XK} {x m : Str} {p pos apos : Pos} {e o : Expr} {es : List Expr} {ta : TE} {t : TA}
theorem znO {pins : List (Addr × Obj)} {σ : St} {H : Hp} {s : Shared} {Q : VK} {us : List Value} {vs : List V} (F : FnOk X.prog X.w X.K X.mg X.base CX k f fd ps sp) (hr : Room k X.A) (hb : zfx X.K fd ps ds) (hd : Vals dvs ds) (hx : ziL CX X E)
    (I : Inv X pins σ H s) (r : Vals vs us) (h : sp (vs ++ dvs) H Q E) : wpAny (model X.prog X.w) X.A (call (.ref f) us) (EP X pins σ Q) X.xe s := by
  have r2 : Vals (vs ++ dvs) (us ++ ds) := r.append hd
  have hl : (us ++ ds).length = ps.length := by rw [← r2.length]; exact F.len _ _ _ _ h
  refine wpAny_call (codeAny_mono (F.run X.A X.stack s H ⟨us, []⟩ (us ++ ds) (vs ++ dvs) Q E hr I.env0 (hb s us I.kIn hl) r2 h) fun r s' hq => ?_)
  cases r with
  | error e => exact hx pins σ H s e s' I hq
  | ok fl =>
    cases fl with
    | ret u => exact I.after hq
    | next => exact False.elim hq
    | brk => exact False.elim hq
    | cont => exact False.elim hq
theorem ziM (F : FnOk X.prog X.w X.K X.mg X.base CX k f fd ps sp) (hr : Room k X.A) (hg : Gl X x) (hm : X.mg x = some (.ref f)) (hk : PySem.W.keepIn X.K (.ref f) = true) (hb : zfx X.K fd ps ds) (hd : Vals dvs ds) (hx : ziL CX X E)
    (ha : PA X (e :: es) t) (hdb : (x == ("__debug__" : Str)) = false := by decide) (he : starEach (e :: es) X.env = (false, eval e X.env) :: starEach es X.env := by rfl) (hpl : (backTo pos (starEach es X.env)).any (·.1) = false := by rfl) :
    PE X (.Call (.Name x p) (e :: es) [] pos) (zpG sp dvs E t) := by
  intro pins s σ H Q I h
  refine wpAny_Call_Name_kw (ziA I hg hm ?_ hdb)
  refine PySem.W.callWith_K (h₀ := X.base) I.ok.mod.kin hk (thn (ha pos pins s σ H _ I h) fun us s1 ⟨vs, H1, I1, r, q⟩ => ⟨I1.kIn, ?_⟩) he hpl
  exact znO F hr hb hd hx I1 r q
end
section
variable {X : Cx} {CX : CXT} {k : Nat} {f C : Addr} {fd : FuncData} {ps ks : List Str} {sp : Sp} {E : XK} {x m : Str} {p pos apos kpos : Pos} {e o : Expr} {es : List Expr} {kws : List Keyword} {te ta : TE} {t tk : TA} {nm : Option Str}
variable {g : List Value -> List Value -> List Value} {gV : List V -> List V -> List V}
end
structure zaF (N P : List Str) (sc : Scope) : Prop where
  kind : sc.kind = .function
  co : sc.isCoroutine = false
  gen : sc.isGenerator = false
  nd : N.Nodup
  pre : N.take P.length = P
  par : ∀ x ∈ P, sc.names.lookup x = some .local ∨ sc.names.lookup x = some .cell
  nofree : ∀ y ∈ sc.names, y.2 ≠ .free
theorem zfy {kindOf : Str -> Option NameKind} {x : Str} : ∀ {binds : List (Str × Value)} {m : Str -> Option Value}, (∀ v, (x, v) ∉ binds) -> bindL kindOf binds m x = m x
  | [], _, _ => rfl
  | (n, v) :: r, m, h => by
    unfold bindL
    rw [zfy fun w hw => h w (List.mem_cons_of_mem _ hw)]
    split
    · have : x ≠ n := by rintro rfl; exact h v List.mem_cons_self
      simp [this]
    · rfl
theorem zfz {kindOf : Str -> Option NameKind} {x : Str} : ∀ {binds : List (Str × Value)} {m : Str -> Option Value}, (∀ v, (x, v) ∉ binds) -> bindC kindOf binds m x = m x
  | [], _, _ => rfl
  | (n, v) :: r, m, h => by
    unfold bindC
    rw [zfz fun w hw => h w (List.mem_cons_of_mem _ hw)]
    split
    · rfl
    · have : x ≠ n := by rintro rfl; exact h v List.mem_cons_self
      simp [this]
theorem zfA {kindOf : Str -> Option NameKind} {x : Str} {v : Value} : ∀ {P : List Str} {vs : List Value} {i : Nat} {m : Str -> Option Value}, P.Nodup -> P[i]? = some x -> vs[i]? = some v -> kindOf x = some .local ->
    bindL kindOf (P.zip vs) m x = some v
  | [], _, _, _, _, h, _, _ => by simp at h
  | _ :: _, [], _, _, _, _, h, _ => by simp at h
  | p :: P, w :: vs, 0, m, nd, h1, h2, hk => by
    simp at h1 h2; subst h1; subst h2
    show bindL kindOf ((p, w) :: P.zip vs) m p = _
    unfold bindL
    rw [zfy fun v hv => (List.nodup_cons.mp nd).1 (List.of_mem_zip hv).1, if_pos hk]
    simp
  | p :: P, w :: vs, i + 1, m, nd, h1, h2, hk => by
    show bindL kindOf ((p, w) :: P.zip vs) m x = _
    unfold bindL
    exact zfA (i := i) (List.nodup_cons.mp nd).2 (by simpa using h1) (by simpa using h2) hk
theorem zfB {kindOf : Str -> Option NameKind} {x : Str} {v : Value} : ∀ {P : List Str} {vs : List Value} {i : Nat} {m : Str -> Option Value}, P.Nodup -> P[i]? = some x -> vs[i]? = some v -> kindOf x ≠ some .local ->
    bindC kindOf (P.zip vs) m x = some v
  | [], _, _, _, _, h, _, _ => by simp at h
  | _ :: _, [], _, _, _, _, h, _ => by simp at h
  | p :: P, w :: vs, 0, m, nd, h1, h2, hk => by
    simp at h1 h2; subst h1; subst h2
    show bindC kindOf ((p, w) :: P.zip vs) m p = _
    unfold bindC
    rw [zfz fun v hv => (List.nodup_cons.mp nd).1 (List.of_mem_zip hv).1, if_neg hk]
    simp
  | p :: P, w :: vs, i + 1, m, nd, h1, h2, hk => by
    show bindC kindOf ((p, w) :: P.zip vs) m x = _
    unfold bindC
    exact zfB (i := i) (List.nodup_cons.mp nd).2 (by simpa using h1) (by simpa using h2) hk
def zd6 (N : List Str) (vs : List V) : St := vs.map some ++ List.replicate (N.length - vs.length) none
def cxOf (CX : CXT) (P : Program) (w : World) (K : PySem.W.Frag) (mg : Str -> Option Value) (base : Heap) (N : List Str) (qual : Str) (scope : Scope) (f : Addr) (cd : Value) (A : Around) (outer : List Env) (s : Shared) (H : Hp) (E : XK) : Cx where
  prog := P
  w := w
  K := K
  mg := mg
  base := base
  A := A.deeper (envOfC qual scope s.heap.objs.size f cd)
  N := N
  s₀ := s
  H₀ := H
  env := envOfC qual scope s.heap.objs.size f cd
  outer := outer
  stack := envOfC qual scope s.heap.objs.size f cd :: outer
  ex := []
  calm := true
  fn := fun _ => true
  pn := []
  xe := fun e s' => wpAny (model P w) (A.deeper (envOfC qual scope s.heap.objs.size f cd)) (leaving (envOfC qual scope s.heap.objs.size f cd) e) (fun _ s'' => CX outer H s E e s'') (fun e' s'' => CX outer H s E e' s'') s'
theorem zhm {sc : Scope} {n : Nat} {x : Str} (h : sc.names.lookup x = some .cell) : ∃ c, (cellsFrom n sc.names []).lookup x = some c := by
  have q := PySem.W.cellsFrom_some sc.names n [] (.inl h)
  exact Option.isSome_iff_exists.mp q
theorem ziN {CX : CXT} {P : Program} {w : World} {K : PySem.W.Frag} {mg : Str -> Option Value} {base : Heap} {N ps : List Str} {qual : Str} {scope : Scope} {f : Addr} {cd : Value} {A : Around} {outer : List Env} {s s1 : Shared} {H : Hp} {E : XK} {us : List Value} {vs : List V}
    (S : zaF N ps scope) (hd : A.handled = none) (e0 : Env0 P w K mg base A outer s H) (hl : vs.length = ps.length) (r : Vals vs us)
    (x : InCallC s s.heap.objs.size (bindL (envOfC qual scope s.heap.objs.size f cd).kindOf (ps.zip us) fun _ => none) (cellsFrom (s.heap.objs.size + 1) scope.names []) (bindC (envOfC qual scope s.heap.objs.size f cd).kindOf (ps.zip us) fun _ => none) s1) :
    Inv (cxOf CX P w K mg base N qual scope f cd A outer s H E) [] (zd6 N vs) H s1 := by
  have hpl : ps.length <= N.length := by have := congrArg List.length S.pre; rw [List.length_take] at this; omega
  obtain ⟨h1, tk, rfl, hk⟩ := x.done
  have noA : ∀ b : Addr, b ∉ (cxOf CX P w K mg base N qual scope f cd A outer s H E).ex := fun b z => absurd (show b ∈ ([] : List Addr) from z) (by simp)
  refine ⟨⟨e0.mod, S.kind, rfl, rfl, Nat.le_refl _, fun y z c h1 h2 => ?_, fun y hy => ?_, fun y c _ h => ?_, fun _ => hd, Around.frames_deeper e0.frames, .inr ⟨rfl, rfl⟩, fun b z => absurd z (noA b), e0.bs, e0.bsz, fun b _ _ => noA b, fun b z => absurd z (noA b), e0.funs, e0.frf⟩,
    rfl, e0.bare, Un.kept hk, ⟨_, x.toInCall.ns, fun i y v h1 h2 h3 => ?_⟩, fun y c h => ⟨_, x.cell y c h⟩, e0.hok.fresh (Nat.le_refl _), fun y c h => ?_, fun p hp => absurd (show p ∈ ([] : List (Addr × Obj)) from hp) (by simp), e0.hok.kept hk, ?_⟩
  · exact name_of_addr x.apart (PySem.mem_of_lookup h1) (PySem.mem_of_lookup h2)
  · have hy : scope.names.lookup y = some .cell ∨ scope.names.lookup y = some .free := hy
    rcases hy with hy | hy
    · exact zhm hy
    · exact absurd rfl (S.nofree _ (PySem.mem_of_lookup hy))
  · exact Nat.le_of_lt (x.above y c (PySem.mem_of_lookup h))
  · have hi : i < vs.length := by
      unfold zd6 at h2
      by_cases hi : i < vs.length
      · exact hi
      · rw [List.getElem?_append_right (by simpa using hi)] at h2
        rw [List.getElem?_replicate] at h2
        split at h2 <;> cases h2
    have ha : vs[i]? = some v := by
      unfold zd6 at h2
      rw [List.getElem?_append_left (by simpa using hi), List.getElem?_map] at h2
      cases e : vs[i]? with
      | none => rw [e] at h2; cases h2
      | some a => rw [e] at h2; cases h2; rfl
    obtain ⟨u, hu, rv⟩ := r.get ha
    have hp : ps[i]? = some y := by
      rw [← S.pre, List.getElem?_take_of_lt (by omega)]; exact h1
    have ndP : ps.Nodup := by rw [← S.pre]; exact S.nd.sublist (List.take_sublist _ _)
    refine ⟨u, rv, ?_⟩
    rcases S.par y (List.mem_of_getElem? hp) with k | k
    · exact .inl ⟨k, zfA ndP hp hu k⟩
    · obtain ⟨c, e⟩ := zhm (n := s.heap.objs.size + 1) k
      refine .inr ⟨.inl k, c, e, ?_⟩
      have q := x.cell y c e
      rw [zfB ndP hp hu (by show scope.names.lookup y ≠ _; rw [k]; decide)] at q
      exact q
  · exact e0.hok.fresh (Nat.le_of_lt (x.above y c (PySem.mem_of_lookup h)))
  · unfold zd6
    show _ = N.length
    rw [List.length_append, List.length_map, List.length_replicate]
    omega
theorem zpH {CX : CXT} {P : Program} {w : World} {K : PySem.W.Frag} {mg : Str -> Option Value} {base : Heap} {k : Nat} {f : Addr} {name qual : Str} {params : Arguments} {body : List Stmt} {scope : Scope} {dV kV doc pm cdv ct oc : Value} {an od : Option Addr}
    {osl : Array (Option Value)} {N ps : List Str} {sp : Sp} (lk : K.lookup f = some ⟨oc, od, .func (PySem.W.fnOf name qual params body scope dV kV doc pm an cdv ct), osl⟩) (hcd : PySem.W.codeIn K cdv qual = true) (S : zaF N ps scope)
    (len : ∀ vs H Q E, sp vs H Q E -> vs.length = ps.length)
    (hbody : ∀ (A : Around) (outer : List Env) (s : Shared) (H : Hp) (vs : List V) (Q : VK) (E : XK), Room k (A.deeper (envOfC qual scope s.heap.objs.size f cdv)) -> sp vs H Q E ->
      ∃ t, PSs (cxOf CX P w K mg base N qual scope f cdv A outer s H E) body t /\ t { nx := fun _ H' => Q .non H', rt := Q } (zd6 N vs) H) :
    FnOk P w K mg base CX (k + 1) f (PySem.W.fnOf name qual params body scope dV kV doc pm an cdv ct) ps sp := by
  refine ⟨len, fun A outer s H args us vs Q E hr e0 hb r hsp => ?_⟩
  have hl := len _ _ _ _ hsp
  have KX : K.In s.heap := e0.mod.kin.keeps fun b o e => (e0.bs b o e).1
  have lim : s.heap.NoLimit := e0.mod.nolimit.keeps fun b o e => (e0.bs b o e).1
  have hkind : ∀ y ∈ ps.zip us, scope.names.lookup y.1 = some .local ∨ (scope.names.lookup y.1 = some .cell /\ ((cellsFrom (s.heap.objs.size + 1) scope.names []).lookup y.1).isSome = true) := fun ⟨n, v⟩ hy => by
    rcases S.par n (List.of_mem_zip hy).1 with q | q
    · exact .inl q
    · exact .inr ⟨q, PySem.W.cellsFrom_some _ _ _ (.inl q)⟩
  refine codeAny_call_function hr.depth (KX _ _ lk) rfl S.co S.gen rfl (PySem.W.codeRec_of KX hcd) (hb _ _ _ _ ?_)
  refine wpAny_newFunctionEnv_cells S.kind hkind fun env he s1 x => ?_
  subst he
  refine ⟨lim.keeps x.toInCall.keep, codeAny_func ?_⟩
  obtain ⟨t, ht, hq⟩ := hbody A outer s H vs Q E (hr.deeper _) hsp
  have I : Inv (cxOf CX P w K mg base N qual scope f cdv A outer s H E) [] (zd6 N vs) H s1 := ziN S hr.hd e0 hl r x
  refine wpAny_mono (ht [] s1 (zd6 N vs) H _ I hq) (fun fl s' hs => ?_) fun e s' hs => hs
  have fin : ∀ {σ' : St} {H' : Hp} {v : V} {u : Value}, Inv (cxOf CX P w K mg base N qual scope f cdv A outer s H E) [] σ' H' s' -> RelV v u -> Q v H' -> CE outer P w H s Q u s' :=
    fun {σ' H' v u} J rv q => ⟨v, H', J.os, J.bare, J.base, J.hok, rv, q⟩
  cases fl with
  | ret u =>
    obtain ⟨v, σ', H', J, rv, q⟩ := hs
    exact fin J rv q
  | next =>
    obtain ⟨σ', H', J, q⟩ := hs
    exact fin (v := V.non) (u := Value.none) J rfl q
  | brk =>
    obtain ⟨_, _, _, q⟩ := hs
    exact False.elim q
  | cont =>
    obtain ⟨_, _, _, q⟩ := hs
    exact False.elim q
end L2
namespace L2
open PySem PySem.Spec PyProof.Rows
section
variable {X : Cx} {x : Str} {p pos : Pos} {e : Expr} {es : List Expr} {t : TA} {id T : String} {r : List V -> Hp -> VK -> Prop}
def tCB (r : List V -> Hp -> VK -> Prop) (t : TA) : TE := fun σ H Q => t σ H fun vs H1 => r vs H1 Q
theorem zdX (hc : zc1 X (.builtin id) r) (hg : Gl X x) (hm : X.mg x = none) (hv : bootBuiltins x = some (.builtin id)) (ha : PA X (e :: es) t) (hn : x ≠ "__name__" := by decide) (hdb : (x == ("__debug__" : Str)) = false := by decide)
    (he : starEach (e :: es) X.env = (false, eval e X.env) :: starEach es X.env := by rfl) (hpl : (backTo pos (starEach es X.env)).any (·.1) = false := by rfl) : PE X (.Call (.Name x p) (e :: es) [] pos) (tCB r t) := by
  intro pins s σ H Q I h
  refine wpAny_Call_Name_kw (zdI I hg hm hv ?_ hn hdb)
  exact PyProof.Rows.callWith_builtin1 (thn (ha pos pins s σ H _ I h) fun us s1 ⟨vs, H1, I1, r1, q1⟩ => hc pins s1 σ H1 vs us Q I1 r1 q1) he hpl
theorem zde (hc : zc1 X (.type T) r) (hg : Gl X x) (hm : X.mg x = none) (hv : bootBuiltins x = some (.type T)) (ha : PA X (e :: es) t) (hn : x ≠ "__name__" := by decide) (hdb : (x == ("__debug__" : Str)) = false := by decide)
    (he : starEach (e :: es) X.env = (false, eval e X.env) :: starEach es X.env := by rfl) (hpl : (backTo pos (starEach es X.env)).any (·.1) = false := by rfl) : PE X (.Call (.Name x p) (e :: es) [] pos) (tCB r t) := by
  intro pins s σ H Q I h
  refine wpAny_Call_Name_kw (zdI I hg hm hv ?_ hn hdb)
  exact PyProof.Rows.callWith_type1 (thn (ha pos pins s σ H _ I h) fun us s1 ⟨vs, H1, I1, r1, q1⟩ => hc pins s1 σ H1 vs us Q I1 r1 q1) he hpl
end
end L2
namespace HT
open PySem PyProof.Rows
def zcn : List Int -> List Int -> Bool
  | [], [] => false
  | [], _ :: _ => true
  | _ :: _, [] => false
  | x :: xs, y :: ys => if x = y then zcn xs ys else decide (x < y)
theorem zdy (x y : Int) (xs ys : List Int) : zcn (x :: xs) (y :: ys) = if x = y then zcn xs ys else decide (x < y) := rfl
theorem zkq (A : Around) (s : Shared) (a : Int) (t : Tok) (c : Int) (u : Tok) : ∃ e, SeqAt.EqAt A s (.int a t) (.int c u) e /\ (e = true ↔ a = c) :=
  ⟨(a == c), SeqAt.EqAt.int_int a t c u, by simp⟩
section
open PySem.SeqAt
open PySem.AutoSeq1 (wpAny_loadPart')
open PySem.MeetsSeq PySem.MeetsSeq2 PySem.MeetsSeq3
end
section
variable {prog : Program} {w : World} {A : Around} {E : Value -> Shared -> Prop} {s : Shared}
def sIx (n d : Nat) : Option Int -> Nat
  | none => d
  | some v => if v < 0 then (v + (n : Int)).toNat else min v.toNat n
end
end HT
namespace L2
open PySem PySem.Spec PyProof.Rows
abbrev TO := St -> Hp -> (Option Int -> Hp -> Prop) -> Prop
def PO (X : Cx) (e : Option Expr) (t : TO) : Prop :=
  ∀ (pins : List (Addr × Obj)) (s : Shared) (σ : St) (H : Hp) (Q : Option Int -> Hp -> Prop), Inv X pins σ H s -> t σ H Q ->
    wpAny (model X.prog X.w) X.A (evalPart e X.env) (fun u s' => ∃ o H', Inv X pins σ H' s' /\ IsPart u o /\ Q o H') X.xe s
def zl8 : TO := fun _ H Q => Q none H
def zpI (t : TE) : TO := fun σ H Q => t σ H fun x H1 => ∃ i, x = .int i /\ Q (some i) H1
theorem zeH {ns : List Int} : ∀ {us : List Value}, Vals (ns.map V.int) us -> IntsAre us ns := by
  induction ns with
  | nil => intro us r; rw [List.map_nil] at r; cases r; exact .nil
  | cons n ns ih =>
    intro us r
    rw [List.map_cons] at r
    cases r with
    | cons r1 r2 =>
      obtain ⟨t, e⟩ := r1
      subst e
      exact .cons n t (ih r2)
section
variable {X : Cx} {e : Expr} {te : TE} {lo hi : Option Expr} {tl th : TO} {pos p2 : Pos}
theorem zl9 : PO X none zl8 := by
  intro pins s σ H Q I h
  rw [evalPart_none]
  exact wpAny_pure ⟨none, H, I, .none, h⟩
theorem zma (h : PE X e te) : PO X (some e) (zpI te) := by
  intro pins s σ H Q I hw
  rw [evalPart_some]
  refine thn (h pins s σ H _ I hw) fun u s1 ⟨x, H1, I1, r1, q1⟩ => ?_
  obtain ⟨i, rfl, q⟩ := q1
  obtain ⟨t, rfl⟩ := r1
  exact ⟨some i, H1, I1, .int i t, q⟩
def SlR (X : Cx) (r : V -> Option Int -> Option Int -> Hp -> VK -> Prop) : Prop :=
  ∀ (pins : List (Addr × Obj)) (s : Shared) (σ : St) (H : Hp) (x : V) (v vl vu : Value) (lo hi : Option Int) (sl : Addr) (Q : VK), Inv X pins σ H s -> RelV x v -> s.heap.IsSliceOf sl vl vu .none -> IsPart vl lo -> IsPart vu hi -> r x lo hi H Q ->
    ∃ T id, typeLookup (.type T) "__getitem__" = pure (some (.builtin id)) /\ s.TypeIs v T /\ wpAny (model X.prog X.w) X.A (getItem v (.ref sl)) (EP X pins σ Q) X.xe s
theorem SlR.or {r r' : V -> Option Int -> Option Int -> Hp -> VK -> Prop} (h : SlR X r) (h' : SlR X r') : SlR X (fun x lo hi H Q => r x lo hi H Q ∨ r' x lo hi H Q) := by
  intro pins s σ H x v vl vu lo hi sl Q I rx hs pl pu q
  rcases q with q | q
  · exact h pins s σ H x v vl vu lo hi sl Q I rx hs pl pu q
  · exact h' pins s σ H x v vl vu lo hi sl Q I rx hs pl pu q
def tSl (r : V -> Option Int -> Option Int -> Hp -> VK -> Prop) (te : TE) (tl th : TO) : TE := fun σ H Q => te σ H fun x H1 => tl σ H1 fun l H2 => th σ H2 fun u H3 => r x l u H3 Q
theorem zkr {r : V -> Option Int -> Option Int -> Hp -> VK -> Prop} (hr : SlR X r) (he : PE X e te) (hl : PO X lo tl) (hu : PO X hi th) : PE X (.Subscript e (.Slice lo hi none p2) pos) (tSl r te tl th) := by
  intro pins s σ H Q I h
  refine Subscript_ (thn (he pins s σ H _ I h) fun v s1 ⟨x, H1, I1, r1, q1⟩ => ?_)
  refine wpAny_Slice (thn (hl pins s1 σ H1 _ I1 q1) fun vl s2 ⟨l, H2, I2, pl, q2⟩ => thn (hu pins s2 σ H2 _ I2 q2) fun vu s3 ⟨u, H3, I3, pu, q3⟩ => ?_)
  rw [evalPart_none]
  refine wpAny_pure ?_
  have I4 : Inv X pins σ H3 { s3 with heap := s3.heap.push { cls := .type "slice", data := .fields #[vl, vu, .none] } } := I3.kept (t' := s3.toks) fun b ob q => Heap.get?_push_of_some _ q
  obtain ⟨T, id, hT, ht, hg⟩ := hr pins { s3 with heap := s3.heap.push { cls := .type "slice", data := .fields #[vl, vu, .none] } } σ H3 x v vl vu l u s3.heap.objs.size Q I4 r1 (Heap.IsSliceOf.new ..) pl pu q3
  show wpAny (model X.prog X.w) X.A (subscriptTail e (.Slice lo hi none p2) v (.ref s3.heap.objs.size)) (EP X pins σ Q) X.xe { s3 with heap := s3.heap.push { cls := .type "slice", data := .fields #[vl, vu, .none] } }
  exact tail_any (ops := [.ref s3.heap.objs.size, v]) ht hT hg (by with_unfolding_all rfl)
def cutV (xs : List V) (lo hi : Option Int) : List V := (xs.drop (HT.sIx xs.length 0 lo)).take (HT.sIx xs.length xs.length hi - HT.sIx xs.length 0 lo)
theorem zgu (xs : List V) (lo hi : Option Int) : (cutV xs lo hi).length <= xs.length := by
  unfold cutV
  rw [List.length_take, List.length_drop]
  omega
end
end L2
namespace L2
open PySem PySem.Spec PyProof.Rows
def ixN (n : Nat) (i : Int) : Option Nat := if 0 <= i then (if i < n then some i.toNat else none) else if -(n : Int) <= i then some (i + n).toNat else none
def atI {α : Type} (xs : List α) (i : Int) : Option α := (ixN xs.length i).bind fun j => xs[j]?
theorem zgv {n : Nat} {i : Int} {j : Nat} (h : ixN n i = some j) : seqIndex? i n = some j /\ j < n /\ -(n : Int) <= i /\ i < n := by
  unfold ixN at h
  by_cases h0 : 0 <= i
  · rw [if_pos h0] at h
    by_cases h1 : i < n
    · rw [if_pos h1] at h
      have e : i.toNat = j := Option.some.inj h
      exact ⟨by rw [seqIndex_of h0 h1, e], by omega, by omega, h1⟩
    · rw [if_neg h1] at h; cases h
  · rw [if_neg h0] at h
    by_cases h1 : -(n : Int) <= i
    · rw [if_pos h1] at h
      have e : (i + n).toNat = j := Option.some.inj h
      exact ⟨by rw [seqIndex_neg (by omega) h1, e], by omega, h1, by omega⟩
    · rw [if_neg h1] at h; cases h
theorem ze1 {α : Type} {xs : List α} {i : Int} {v : α} (h : atI xs i = some v) : ∃ j, seqIndex? i xs.length = some j /\ xs[j]? = some v /\ j < xs.length /\ -(xs.length : Int) <= i /\ i < xs.length := by
  unfold atI at h
  cases e : ixN xs.length i with
  | none => rw [e] at h; cases h
  | some j =>
    rw [e] at h
    obtain ⟨h1, h2, h3, h4⟩ := zgv e
    exact ⟨j, h1, h, h2, h3, h4⟩
theorem zaO {α : Type} {xs : List α} {j : Nat} {v : α} (h : xs[j]? = some v) : atI xs (j : Int) = some v := by
  have hj : j < xs.length := (List.getElem?_eq_some_iff.mp h).1
  have e : ixN xs.length (j : Int) = some j := by
    unfold ixN
    rw [if_pos (by omega), if_pos (by omega)]; simp
  unfold atI; rw [e]; exact h
def zgw (b : Expr) : Prop := ∀ o i, subscripted b false o i = operate [o, i] (getItem o i)
def IxR (X : Cx) (r : R2) : Prop :=
  ∀ (value slice : Expr) (pins : List (Addr × Obj)) (s : Shared) (σ : St) (H : Hp) (x y : V) (v u : Value) (Q : VK), Inv X pins σ H s -> RelV x v -> RelV y u -> r x y H Q ->
    subscripted slice false v u = operate [v, u] (getItem v u) -> wpAny (model X.prog X.w) X.A (subscriptTail value slice v u) (EP X pins σ Q) X.xe s
def MtR (X : Cx) (id : String) (r : V -> List V -> Hp -> VK -> Prop) : Prop :=
  ∀ (pins : List (Addr × Obj)) (s : Shared) (σ : St) (H : Hp) (x : V) (xs : List V) (v : Value) (us : List Value) (Q : VK), Inv X pins σ H s -> RelV x v -> Vals xs us -> r x xs H Q ->
    wpAny (model X.prog X.w) X.A (call (.builtin id) (v :: us)) (EP X pins σ Q) X.xe s
section
variable {X : Cx} {a b : Expr} {ta tb : TE} {pos : Pos}
theorem IxR.or {r r' : R2} (h : IxR X r) (h' : IxR X r') : IxR X (fun x y H Q => r x y H Q ∨ r' x y H Q) := by
  intro value slice pins s σ H x y v u Q I rx ry q hs
  rcases q with q | q
  · exact h value slice pins s σ H x y v u Q I rx ry q hs
  · exact h' value slice pins s σ H x y v u Q I rx ry q hs
theorem znP {r : R2} (hr : IxR X r) (ha : PE X a ta) (hb : PE X b tb) (hs : zgw b) : PE X (.Subscript a b pos) (tOp r ta tb) := by
  intro pins s σ H Q I h
  exact Subscript_ (binT ha hb I h fun v u s2 x y H2 I2 rx ry q => hr a b pins s2 σ H2 x y v u Q I2 rx ry q (hs _ _))
def rIxL (K : PySem.W.Frag) : R2 := fun x y H Q => ∃ p xs i v, x = .ref p /\ y = .int i /\ SqL K H p xs /\ atI xs i = some v /\ Q v H
def rIxT (K : PySem.W.Frag) : R2 := fun x y H Q => ∃ p xs i v, x = .ref p /\ y = .int i /\ SqT K H p xs /\ atI xs i = some v /\ Q v H
def rIxS : R2 := fun x y H Q => ∃ z i c, x = .str z /\ y = .int i /\ z.length <= sizeLine /\ atI z.cps.toList i = some c /\ Q (.str ⟨#[c]⟩) H
theorem zmb : IxR X (rIxL X.K) := by
  intro value slice pins s σ H x y v u Q I rx ry h hs
  obtain ⟨p, xs, i, z, rfl, rfl, hq, he, q⟩ := h
  cases rx
  obtain ⟨t, rfl⟩ := ry
  obtain ⟨its, r, pl, hz⟩ := I.list hq
  obtain ⟨j, h1, h2, h3, h4, h5⟩ := ze1 he
  obtain ⟨w, ew, rw'⟩ := r.get h2
  have hl := r.length
  have hn := zeG
  have fin : EP X pins σ Q w s := ⟨z, H, I, rw', q⟩
  by_cases h0 : 0 <= i
  · have hj : i.toNat = j := by
      rw [seqIndex_of h0 h5] at h1
      exact Option.some.inj h1
    exact item_listR pl.isList h0 (by omega) (by rw [hj]; simpa using ew) fin hs
  · have hj : (i + (its.toArray.size : Int)).toNat = j := by
      rw [seqIndex_neg (by omega) h4] at h1
      rw [List.size_toArray, ← hl]
      exact Option.some.inj h1
    exact subscriptTail_builtinR (x := w) pl.isList.typeIs slot_list_getitem.lookup
      (wpAny_getItem_list_neg (Q := fun r s' => r = w /\ EP X pins σ Q r s') pl.isList (by omega) (by rw [List.size_toArray] <;> omega) (by omega) (by rw [hj]; simpa using ew) ⟨rfl, fin⟩) hs
theorem znQ : IxR X (rIxT X.K) := by
  intro value slice pins s σ H x y v u Q I rx ry h hs
  obtain ⟨p, xs, i, z, rfl, rfl, hq, he, q⟩ := h
  cases rx
  obtain ⟨t, rfl⟩ := ry
  obtain ⟨its, r, pl, hz⟩ := I.tuple hq
  obtain ⟨j, h1, h2, h3, h4, h5⟩ := ze1 he
  obtain ⟨w, ew, rw'⟩ := r.get h2
  have hl := r.length
  have hn := zeG
  have fin : EP X pins σ Q w s := ⟨z, H, I, rw', q⟩
  exact subscriptTail_builtinR (x := w) pl.typeIs slot_tuple_getitem.lookup
    (getItem_tuple (j := j) (Q := fun r s' => r = w /\ EP X pins σ Q r s') pl (by omega) (by omega) (by rw [List.size_toArray, ← hl]; exact h1) (by simpa using ew) ⟨rfl, fin⟩) hs
theorem znR : IxR X rIxS := by
  intro value slice pins s σ H x y v u Q I rx ry h hs
  obtain ⟨z, i, c, rfl, rfl, hz, he, q⟩ := h
  obtain ⟨t, rfl⟩ := rx
  obtain ⟨t', rfl⟩ := ry
  obtain ⟨j, h1, h2, h3, h4, h5⟩ := ze1 he
  have hl : z.cps.toList.length = z.length := by simp [Str.length]
  rw [hl] at h1 h4 h5
  have hn := zeG
  exact tail_any (typeIs_str s z t) slot_str_getitem.lookup (getItem_str (c := c) (by
    have e1 : decide (i < -(2 ^ 63 : Int)) = false := decide_eq_false (by omega)
    have e2 : decide (i ≥ 2 ^ 63) = false := decide_eq_false (by omega)
    rw [e1, e2, Bool.or_false]) (by rw [h1]; simpa using h2) ⟨.str ⟨#[c]⟩, H, I.tok _, ⟨_, rfl⟩, q⟩) hs
def rIx (K : PySem.W.Frag) : R2 := fun x y H Q => rIxL K x y H Q ∨ rIxT K x y H Q ∨ rIxS x y H Q
theorem zlJ : IxR X (rIx X.K) := zmb.or (znQ.or znR)
theorem zhT (its : List Value) (n j : Nat) (u : Value) : Obj.mapSeq (·.setIfInBounds j u) { cls := .type "list", data := .seq its.toArray n } = { cls := .type "list", data := .seq (its.set j u).toArray n } := by
  simp [Obj.mapSeq]
theorem Inv.lst {pins : List (Addr × Obj)} {σ : St} {H : Hp} {s : Shared} {p : Addr} {xs : List V} (I : Inv X pins σ H s) (h : H p = some (.lst xs)) :
    ∃ (its : List Value) (n : Nat), Vals xs its /\ s.heap.get? p = some { cls := .type "list", data := .seq its.toArray n } /\ xs.length <= sizeLine := by
  obtain ⟨z, its, n, r, e⟩ := I.hok p _ h
  exact ⟨its, n, r, e, z⟩
theorem Inv.lstUpd {pins : List (Addr × Obj)} {σ : St} {H : Hp} {s : Shared} {p : Addr} {xs ys : List V} {its its' : List Value} {n n' : Nat} {f : Obj -> Obj} (I : Inv X pins σ H s) (h : H p = some (.lst xs))
    (ho : s.heap.get? p = some { cls := .type "list", data := .seq its.toArray n }) (hf : f { cls := .type "list", data := .seq its.toArray n } = { cls := .type "list", data := .seq its'.toArray n' }) (r : Vals ys its') (hz : ys.length <= sizeLine) (t : Nat) :
    Inv X pins σ (upd H p (.lst ys)) { s with heap := s.heap.update p f, toks := t } := by
  have e : (s.heap.update p f).get? p = some { cls := .type "list", data := .seq its'.toArray n' } := by
    rw [Heap.get?_update_self f ho (by rw [hf] <;> rfl), hf]
  refine I.write (x := p) (e := p) (by rw [h]; trivial) (.inl rfl) (fun b u hb q => (Heap.get?_update_other _ _ (Ne.symm hb)).trans q) ⟨_, e⟩ ?_
  exact ⟨hz, its', n', r, e⟩
def zpJ : V -> V -> V -> Hp -> (Hp -> Prop) -> Prop := fun o i v H Q => ∃ p xs k j, o = .ref p /\ i = .int k /\ H p = some (.lst xs) /\ ixN xs.length k = some j /\ Q (upd H p (.lst (xs.set j v)))
theorem zks : PSet X zpJ := by
  intro pins s σ H o i v ov iv u Q I ro ri rv h
  obtain ⟨p, xs, k, j, rfl, rfl, hp, hj, q⟩ := h
  cases ro
  obtain ⟨t, rfl⟩ := ri
  obtain ⟨its, n, r, ho, hz⟩ := I.lst hp
  obtain ⟨h1, h2, h3, h4⟩ := zgv hj
  have hl := r.length
  have hn := zeG
  have I' : Inv X pins σ (upd H p (.lst (xs.set j v))) { s with heap := s.heap.update p (Obj.mapSeq (·.setIfInBounds j u)) } :=
    I.lstUpd hp ho (zhT its n j u) (r.set rv j) (by rw [List.length_set]; exact hz) s.toks
  by_cases h0 : 0 <= k
  · have hk : k.toNat = j := by
      rw [seqIndex_of h0 h4] at h1
      exact Option.some.inj h1
    exact PySem.W.ki_setAt ho h0 (by omega) (by rw [List.size_toArray, ← hl]; exact h4) (by rw [hk]; exact ⟨_, I', q⟩)
  · have hk : (k + (its.toArray.size : Int)).toNat = j := by
      rw [seqIndex_neg (by omega) h3] at h1
      rw [List.size_toArray, ← hl]
      exact Option.some.inj h1
    exact PySem.W.ki_setBack ho (by omega) (by rw [List.size_toArray, ← hl]; exact h3) (by omega) (by rw [hk]; exact ⟨_, I', q⟩)
theorem zfC (lo hi : Option Int) (n : Nat) : (sliceBounds lo hi none n).1 = ((HT.sIx n 0 lo : Nat) : Int) /\ (sliceBounds lo hi none n).2.1 = ((HT.sIx n n hi : Nat) : Int) /\ (sliceBounds lo hi none n).2.2 = 1 := by
  refine ⟨?_, ?_, rfl⟩
  · cases lo with
    | none => simp [sliceBounds, HT.sIx]
    | some i =>
      simp only [sliceBounds, HT.sIx, Option.getD_none, show (1 : Int) > 0 by decide, if_true]
      by_cases h : i < 0
      · simp only [h, if_true] <;> omega
      · simp only [h, if_false] <;> omega
  · cases hi with
    | none => simp [sliceBounds, HT.sIx]
    | some i =>
      simp only [sliceBounds, HT.sIx, Option.getD_none, show (1 : Int) > 0 by decide, if_true]
      by_cases h : i < 0
      · simp only [h, if_true] <;> omega
      · simp only [h, if_false] <;> omega
theorem ze2 (its : List Value) (lo hi : Option Int) : slicePick its.toArray lo hi none = ((its.drop (HT.sIx its.length 0 lo)).take (HT.sIx its.length its.length hi - HT.sIx its.length 0 lo)).toArray := by
  obtain ⟨h1, h2, h3⟩ := zfC lo hi its.toArray.size
  unfold slicePick
  rw [h1, h2, h3]
  simp only [sliceRange_one, pick_run, List.size_toArray] <;> rfl
def rSlL (K : PySem.W.Frag) : V -> Option Int -> Option Int -> Hp -> VK -> Prop := fun x lo hi H Q => ∃ a xs, x = .ref a /\ SqL K H a xs /\ ∀ p, H p = none -> Q (.ref p) (upd H p (.lst (cutV xs lo hi)))
theorem zmc : SlR X (rSlL X.K) := by
  intro pins s σ H x v vl vu lo hi sl Q I rx hs pl pu h
  obtain ⟨a, xs, rfl, hx, q⟩ := h
  cases rx
  obtain ⟨its, r, ht, hz⟩ := I.list hx
  have hlen := r.length
  refine ⟨"list", _, slot_list_getitem.lookup, ht.isList.typeIs, ?_⟩
  refine wpAny_getItem_list_slice ht.isList hs pl pu .none (by simp) ?_ (by rw [List.size_toArray] <;> omega)
  rw [ze2, ← hlen]
  refine ⟨.ref s.heap.objs.size, _, I.laid (t' := s.toks) (o := .lst (cutV xs lo hi)) (fun b ob q => Heap.get?_push_of_some _ q) (Nat.le_refl _) ?_, rfl, q _ (I.hok.fresh (Nat.le_refl _))⟩
  exact ⟨Nat.le_trans (zgu xs lo hi) hz, _, 0, (r.drop (HT.sIx xs.length 0 lo)).take (HT.sIx xs.length xs.length hi - HT.sIx xs.length 0 lo), Heap.get?_push_size _ rfl⟩
theorem zdK : zc1 X (.type "list") (fun xs H Q => ∃ p ys, xs = [.ref p] /\ (SqL X.K H p ys ∨ SqT X.K H p ys) /\ ∀ l, H l = none -> Q (.ref l) (upd H l (.lst ys))) := by
  intro pins s σ H xs us Q I r h
  obtain ⟨p, ys, rfl, hq, q⟩ := h
  obtain ⟨u, rfl, rx⟩ := zkp r
  cases rx
  have fin : ∀ (its : List Value), Vals ys its -> ys.length <= sizeLine -> ∀ (h' : Heap) (c' : Nat), (∀ b o', s.heap.get? b = some o' -> h'.get? b = some o') ->
      h'.get? s.heap.objs.size = some { cls := .type "list", dict := none, data := .seq its.toArray c', slots := #[] } -> EP X pins σ Q (.ref s.heap.objs.size) { s with heap := h' } := fun its r' hz h' c' kp e =>
    ⟨.ref s.heap.objs.size, _, I.laid (t' := s.toks) kp (Nat.le_refl _) (show zct X.prog X.w _ h' _ (.lst ys) from ⟨hz, its, c', r', e⟩), rfl, q _ (I.hok.fresh (Nat.le_refl _))⟩
  rcases hq with hq | hq
  · obtain ⟨its, r', pl, hz⟩ := I.list hq
    have hlen := r'.length
    obtain ⟨o, ho, hc, n, hd⟩ := pl.isList
    exact call_list_seq p (.inl rfl) ho hc hd (fun h' c' kp e => fin its r' hz h' c' kp e) (by simp only [List.size_toArray] <;> omega)
  · obtain ⟨its, r', pl, hz⟩ := I.tuple hq
    have hlen := r'.length
    obtain ⟨o, ho, hc, n, hd⟩ := pl
    exact call_list_seq p (.inr rfl) ho hc hd (fun h' c' kp e => fin its r' hz h' c' kp e) (by simp only [List.size_toArray] <;> omega)
def tyV (K : PySem.W.Frag) (T : String) (x : V) (H : Hp) : Prop := match x with
  | .str _ => T = "str"
  | .int _ => T = "int"
  | .ref p => (T = "list" /\ ∃ xs, SqL K H p xs) ∨ (T = "tuple" /\ ∃ o, K.lookup p = some o /\ o.cls = .type "tuple" /\ o.dict = none) ∨
      (T = "dict" /\ ((∃ kvs, H p = some (.dK kvs)) ∨ ∃ kvs, H p = some (.dT kvs))) ∨ (T = "set" /\ ∃ S n, H p = some (.set S n))
  | _ => False
theorem znS {pins : List (Addr × Obj)} {σ : St} {H : Hp} {s : Shared} {T : String} {x : V} {v : Value} (I : Inv X pins σ H s) (r : RelV x v) (ty : tyV X.K T x H) :
    s.TypeIs v T /\ ∀ a, v = .ref a -> ∃ ob, s.heap.get? a = some ob /\ ob.dict = none := by
  cases x with
  | str z =>
    obtain ⟨t, rfl⟩ := r
    cases (show T = "str" from ty)
    exact ⟨typeIs_str s z t, fun _ e => nomatch e⟩
  | int i =>
    obtain ⟨t, rfl⟩ := r
    cases (show T = "int" from ty)
    exact ⟨typeIs_int s i t, fun _ e => nomatch e⟩
  | ref p =>
    cases r
    rcases ty with ⟨rfl, xs, hq⟩ | ⟨rfl, o, hk, hc, hd⟩ | ⟨rfl, hk⟩ | ⟨rfl, S, n, hk⟩
    · obtain ⟨its, _, pl, _⟩ := I.list hq
      refine ⟨pl.isList.typeIs, fun a e => ?_⟩
      cases e
      obtain ⟨o, n, e, c, hd, _⟩ := pl
      exact ⟨o, e, hd⟩
    · refine ⟨⟨o, I.kIn p o hk, hc⟩, fun a e => ?_⟩
      cases e
      exact ⟨o, I.kIn _ o hk, hd⟩
    · have z : ∃ o, s.heap.get? p = some o /\ o.ExactDict := by
        rcases hk with ⟨kvs, hk⟩ | ⟨kvs, hk⟩
        · obtain ⟨_, _, _, _, o, _, _, e, ex, _⟩ := I.hok p _ hk
          exact ⟨o, e, ex⟩
        · obtain ⟨_, _, _, _, o, _, _, e, ex, _⟩ := I.hok p _ hk
          exact ⟨o, e, ex⟩
      obtain ⟨o, e, ex⟩ := z
      refine ⟨⟨o, e, ex.1⟩, fun a e2 => ?_⟩
      cases e2
      exact ⟨o, e, ex.2.1⟩
    · obtain ⟨o, _, _, _, e, ex, _⟩ := I.hok p _ hk
      refine ⟨⟨o, e, ex.1⟩, fun a e2 => ?_⟩
      cases e2
      exact ⟨o, e, ex.2.1⟩
  | _ => exact False.elim ty
def tBM (K : PySem.W.Frag) (T : String) (r : V -> List V -> Hp -> VK -> Prop) (to : TE) (t : TA) : TE := fun σ H Q => to σ H fun x H1 => tyV K T x H1 /\ t σ H1 fun xs H2 => r x xs H2 Q
variable {o e : Expr} {es : List Expr} {to : TE} {t : TA} {name : Str} {apos cpos : Pos} {T id : String} {r : V -> List V -> Hp -> VK -> Prop}
theorem znT (pa : PlainAttrs T) (slot : Slot T name id) (hty : typeOf (.builtin id) = pure (.type "method_descriptor")) (hm : MtR X id r) (ho : PE X o to) (ha : PA X (e :: es) t)
    (hbase : attributeBase o name X.env (eval o X.env) = eval o X.env := by rfl)
    (hfew : ((backTo cpos (starEach (e :: es) X.env)).all (fun x => !x.1) && (backToKw cpos (keywordEach [] X.env)).all (fun x => x.1.isSome)
      && decide ((e :: es).length + ([] : List Keyword).length + (if ([] : List Keyword).isEmpty then 0 else 1) < 30)) = true := by rfl)
    (hline : (apos.endLine == cpos.line) = true := by rfl) (hs : starEach (e :: es) X.env = (false, eval e X.env) :: starEach es X.env := by rfl) (hplain : (backTo cpos (starEach es X.env)).any (·.1) = false := by rfl) :
    PE X (.Call (.Attribute o name apos) (e :: es) [] cpos) (tBM X.K T r to t) := by
  intro pins s σ H Q I h
  refine wpAny_Call_method_late hbase hfew hline rfl (thn (ho pins s σ H _ I h) fun v s1 ⟨x, H1, I1, r1, ty, q1⟩ => ?_)
  obtain ⟨h1, h2⟩ := znS I1 r1 ty
  refine ⟨T, id, pa, slot, hty, h1, h2, ?_⟩
  have hA := ha cpos pins s1 σ H1 _ I1 q1
  rw [hs] at hA ⊢
  refine Calls.callWith_builtin (by show (false || (backTo cpos (starEach es X.env)).any (·.1)) = false; rw [hplain] <;> rfl) (Calls.evalArgs_plain ?_)
  exact thn hA fun us s2 ⟨vs, H2, I2, r2, q2⟩ => hm pins s2 σ H2 x vs v us Q I2 r1 r2 q2
end
end L2
namespace L2
open PySem PySem.Spec PyProof.Rows
def MtM (X : Cx) (id : String) (r : V -> List V -> Hp -> VK -> Prop) : Prop :=
  ∀ (pins : List (Addr × Obj)) (s : Shared) (σ : St) (H : Hp) (x : V) (xs : List V) (v : Value) (us : List Value) (Q : VK), Inv X pins σ H s -> RelV x v -> Vals xs us -> r x xs H Q ->
    wpAny (model X.prog X.w) X.A (call (.builtin id) (v :: us)) (EP X pins σ Q) X.xe s
theorem Vals.one : ∀ {x : V} {us : List Value}, Vals [x] us -> ∃ u, us = [u] /\ RelV x u
  | _, _, .cons r .nil => ⟨_, rfl, r⟩
theorem Vals.two : ∀ {x y : V} {us : List Value}, Vals [x, y] us -> ∃ u v, us = [u, v] /\ RelV x u /\ RelV y v
  | _, _, _, .cons r (.cons q .nil) => ⟨_, _, rfl, r, q⟩
theorem Vals.reverse {xs : List V} {us : List Value} (h : Vals xs us) : Vals xs.reverse us.reverse := by
  induction h with
  | nil => exact .nil
  | cons r t ih => rw [List.reverse_cons, List.reverse_cons]; exact Vals.append ih (.cons r .nil)
theorem Vals.rep {xs : List V} {us : List Value} (h : Vals xs us) : ∀ k : Nat, Vals (List.replicate k xs).flatten (List.replicate k us).flatten
  | 0 => .nil
  | k + 1 => by
    rw [List.replicate_succ, List.replicate_succ, List.flatten_cons, List.flatten_cons]
    exact Vals.append h (Vals.rep h k)
theorem zfD (its : List Value) : ∀ (k : Nat) (acc : List Value),
    List.foldl (fun x1 x2 => x1 ++ x2) acc.toArray (List.replicate k its.toArray) = (acc ++ (List.replicate k its).flatten).toArray
  | 0, acc => by simp
  | k + 1, acc => by
    have e : acc.toArray ++ its.toArray = (acc ++ its).toArray := by simp
    have e2 : (acc ++ its) ++ (List.replicate k its).flatten = acc ++ (List.replicate (k + 1) its).flatten := by
      rw [List.replicate_succ, List.flatten_cons, List.append_assoc]
    rw [← e2, ← zfD its k (acc ++ its), ← e, List.replicate_succ, List.foldl_cons]
section
variable {X : Cx} {pins : List (Addr × Obj)} {σ : St} {H : Hp} {s : Shared} {l b : Addr} {xs ys zs : List V}
theorem Inv.lset {its its' : List Value} {n : Nat} {f : Array Value -> Array Value} {t' : Nat} (I : Inv X pins σ H s) (hH : H l = some (.lst xs))
    (e : s.heap.get? l = some { cls := .type "list", data := .seq its.toArray n }) (hf : f its.toArray = its'.toArray) (hv : Vals ys its') (hz : ys.length <= sizeLine) :
    Inv X pins σ (upd H l (.lst ys)) { s with heap := s.heap.update l (Obj.mapSeq f), toks := t' } := by
  have q := PySem.IsL.update e f
  rw [hf] at q
  refine I.write (x := l) (e := l) (by rw [hH]; exact trivial) (.inl rfl) (fun b' u hb hu => (Heap.get?_update_other s.heap (Obj.mapSeq f) (Ne.symm hb)).trans hu) ⟨_, q⟩ ?_
  exact ⟨hz, its', _, hv, q⟩
theorem Inv.lnew {its : List Value} {t' : Nat} (I : Inv X pins σ H s) (hv : Vals ys its) (hz : ys.length <= sizeLine) :
    Inv X pins σ (upd H s.heap.objs.size (.lst ys)) { s with heap := s.heap.push { cls := .type "list", data := .seq its.toArray }, toks := t' } :=
  I.laid (fun _ _ q => Heap.get?_push_of_some _ q) (Nat.le_refl _) ⟨hz, its, 0, hv, Heap.get?_push_size _ rfl⟩
theorem Inv.fresh (I : Inv X pins σ H s) : H s.heap.objs.size = none := I.hok.fresh (Nat.le_refl _)
theorem Inv.lstM (I : Inv X pins σ H s) (hH : H l = some (.lst xs)) : xs.length <= sizeLine /\ ∃ (its : List Value) (n : Nat), Vals xs its /\ xs.length = its.length /\ s.heap.get? l = some { cls := .type "list", data := .seq its.toArray n } := by
  obtain ⟨z, its, n, r, e⟩ := I.hok l _ hH
  exact ⟨z, its, n, r, r.length, e⟩
theorem zkt {n : Nat} (h : n <= sizeLine) : Builtin.List.listTooLong n = false := by
  unfold Builtin.List.listTooLong
  exact decide_eq_false (by omega)
end
section
variable {X : Cx}
def zmd : V -> List V -> Hp -> VK -> Prop := fun x vs H Q => ∃ l xs y, x = .ref l /\ vs = [y] /\ H l = some (.lst xs) /\ xs.length < sizeLine /\ Q .non (upd H l (.lst (xs ++ [y])))
theorem zdf : MtM X "list.append" zmd := by
  intro pins s σ H x vs v us Q I rx rv h
  obtain ⟨l, xs, y, rfl, rfl, hH, hz, q⟩ := h
  cases rx
  obtain ⟨u, rfl, ru⟩ := rv.one
  obtain ⟨z, its, n, r, hl, e⟩ := I.lstM hH
  refine call_meets F.slot_list_append ⟨_, e, rfl⟩ F.entry_list_append (F.args_list_append_2 _ _) (PySem.list_append l its.toArray n u (by rw [List.size_toArray]; omega)) ⟨e, ?_⟩
  refine ⟨.non, _, I.lset (its' := its ++ [u]) hH e (by simp) (r.append (.cons ru .nil)) ?_, rfl, q⟩
  rw [List.length_append, List.length_singleton]
  omega
theorem zme {α : Type} (xs : List α) (k : Nat) : (List.replicate k xs).flatten.length = k * xs.length := by
  induction k with
  | zero => simp
  | succ k ih => rw [List.replicate_succ, List.flatten_cons, List.length_append, ih, Nat.succ_mul, Nat.add_comm]
end
section
variable {prog : Program} {w : World} {A : Around} {E : Value -> Shared -> Prop} {s : Shared}
set_option maxRecDepth 100000 in
end
section
variable {X : Cx}
end
end L2
namespace Att
open PySem PySem.W PySem.Calls PyProof.Rows
theorem zd7 {P : Params} {h : Heap} : ∀ (ns : List Int) (vs : List Value), WellAll P h vs (ns.map WData.int) -> IntsAre vs ns := by
  intro ns
  induction ns with
  | nil =>
    intro vs w
    rw [List.map_nil] at w
    cases w
    exact .nil
  | cons n ns ih =>
    intro vs w
    rw [List.map_cons] at w
    cases w with
    | cons a b =>
      cases a
      exact .cons _ _ (ih _ b)
theorem ziO {l : OpenLaw} {n : Nat} (hn : l.most = some n) {P : Params} {h : Heap} {args : List WData} {vals : List Value}
    (hpre : l.row.toRowW.claim.pre args = true) (hwl : WellAll P h vals args) :
    ∃ a vs ns, vals = [Value.ref a] /\ args = [WData.list (ns.map WData.int)] /\ h.get? a = some { cls := .type "list", data := .seq vs.toArray } /\ IntsAre vs ns /\ ns.length <= n := by
  have hsh : WShape.hasAll [] args [.list .int] = true := (pre_splitW hpre).1
  have hc : l.pre.holds [] { args := args } = true := (pre_splitW hpre).2
  obtain ⟨d, r, rfl, h1, h2⟩ := hasAllW_cons hsh
  obtain rfl := hasAllW_nil h2
  obtain ⟨xs, rfl, h3⟩ := hasW_list h1
  obtain ⟨ns, rfl⟩ := items_int h3
  have hlen : ns.length <= n := by
    unfold OpenLaw.pre at hc
    have h4 : (WTm.not (.lt (.lit (.int (n : Int))) (.len (.arg 0)))).holds [] { args := [.list (ns.map .int)] } = true := by
      have h4 := (holds_andW hc).1
      rw [hn] at h4
      exact h4
    have h5 := condW_of h4 (w_not (w_lt w_lit (w_len_list (w_arg rfl))))
    rw [List.length_map] at h5
    refine Nat.le_of_not_lt fun q => ?_
    have q' : (n : Int) < ((ns.length : Nat) : Int) := by omega
    first
      | (rw [decide_eq_true q'] at h5; exact absurd h5 (by decide))
      | (simp at h5; omega)
  cases hwl with
  | cons w1 w2 =>
    cases w2
    cases w1 with
    | list ho hall => exact ⟨_, _, ns, rfl, rfl, ho, zd7 ns _ hall, hlen⟩
theorem ziP (l : OpenLaw) (args : List WData) : l.row.toRowW.claim.post args (.bool true) args = true :=
  postW_of (r := l.row.toRowW) (X := (true == true))
    (show WShape.has [] (.bool true) .bool = true by first | rfl | decide | simp [WShape.has, WShape.arms, WShape.armsAll])
    (show (WTm.eq .res (.lit (.bool true))).value [] { args := args, res := some (.bool true), after := args } = some (.bool (true == true)) from w_eq_bool (w_res rfl) w_lit) rfl
theorem attach_call {l : OpenLaw} {n : Nat} {q : Program} {loose : List Str} {XP : (Str -> Option Value) -> Heap -> Prop} {YP : World -> Heap -> Prop} {d : DefRec}
    (hn : l.most = some n) (hdf : d.params.defaults = [])
    (call : ∀ (w : World) (s₀ s₁ : Shared) (mg mb : Str -> Option Value) (fa : Addr) (o : Obj) (pm cd doc : Value) (a : Addr) (vs : List Value) (ns : List Int),
      Ground q loose [] XP w s₀ mg mb s₁.heap -> YP w s₁.heap ->
      s₁.heap.get? fa = some o -> o.data = .func (docDef d.name d.params d.body d.scope pm cd doc) -> s₁.heap.CodeRec cd d.name -> mg d.name = some (.ref fa) ->
      s₁.heap.get? a = some { cls := .type "list", data := .seq vs.toArray } -> IntsAre vs ns -> ns.length <= n -> s₁.gens = #[] ->
      codeAny (model l.prog w) callerA (.call (.ref fa) ⟨[.ref a], []⟩) (fun r s' => r = .ok (.ret (.bool true)) /\ OldK s₁.heap s'.heap /\ s'.os = s₁.os /\ AllBare s'.gens) s₁) :
    WalkO q loose XP YP l.row.toRowW d [] (fun f vs => PySem.call f vs) := by
  intro w s₀ s₁ mg mb G Y fa o pm cd doc dV kV ho hd hcd hD hmg hg args vals as hpre hlay hrd hwl hlo
  obtain rfl : dV = .none := Dflts.none hD hdf
  obtain rfl : kV = .none := Dflts.noKw hD
  obtain ⟨a, vs, ns, rfl, rfl, hobj, hints, hlen⟩ := ziO hn hpre hwl
  refine enter_call (codeAny_mono (call w s₀ s₁ mg mb fa o pm cd doc a vs ns G Y ho (fd_plain hd) hcd hmg hobj hints hlen hg) fun r s' hq => ?_)
  obtain ⟨rfl, h2, h3, h4⟩ := hq
  exact ⟨.inl ⟨.bool true, .bool true, [], rfl, fun _ => rfl, .bool true, ziP l _, fun _ => ⟨List.Pairwise.nil, fun _ hm => (nomatch hm)⟩⟩, h2, h3, h4⟩
section
variable {prog : Program} {w : World} {A : Around} {E : Value -> Shared -> Prop} {s : Shared} {K : Frag}
end
end Att
namespace L2
open PySem PySem.Spec PyProof.Rows
theorem zcd : ∀ {vs : List Value} {ns : List Int}, IntsAre vs ns -> Vals (ns.map V.int) vs
  | _, _, .nil => .nil
  | _, _, .cons n t h => .cons ⟨t, rfl⟩ (zcd h)
def Only (H : Hp) : Prop := ∀ b, H b = none ∨ ∃ o xs, H b = some (.frz o (.lst xs))
theorem zku {P : Program} {w : World} {K : PySem.W.Frag} {mg mb : Str -> Option Value} {CX : CXT} {k : Nat} {fa a : Addr} {fd : FuncData} {x : Str} {sp : Sp} {s₁ : Shared} {vs : List Value} {ns : List Int}
    (KX : K.In s₁.heap) (hns : s₁.heap.Ns mainGlobals mg) (hb : s₁.heap.Ns builtinsNs mb) (hbb : ∀ x : Str, x ≠ "__name__" -> mb x = bootBuiltins x) (hlim : s₁.heap.NoLimit) (hg : s₁.gens = #[])
    (ha : s₁.heap.get? a = some { cls := .type "list", data := .seq vs.toArray }) (hi : IntsAre vs ns) (hl : ns.length <= sizeLine) (hr : Room k callerA)
    (F : ∀ base : Heap, K.In base -> base.Ns mainGlobals mg -> FnOk P w K mg base CX k fa fd [x] sp) (hbind : ∀ (s : Shared) (u : Value), BindsTo s fd ⟨[u], []⟩ [(x, u)])
    (hsp : ∀ H : Hp, Only H -> SqL K H a (ns.map V.int) -> sp [.ref a] H (fun v _ => v = .bl true) fun _ _ _ => False)
    (hCX : ∀ H e s', CX [] H s₁ (fun _ _ _ => False) e s' -> False) :
    codeAny (model P w) callerA (.call (.ref fa) ⟨[.ref a], []⟩) (fun r s' => r = .ok (.ret (.bool true)) /\ OldK s₁.heap s'.heap /\ s'.os = s₁.os /\ AllBare s'.gens) s₁ := by
  have rv := zcd hi
  have lenV := hi.length
  have core : ∀ H : Hp, Only H -> SqL K H a (ns.map V.int) -> HOk P w H s₁.heap -> (∀ b, H b ≠ none -> b = a) -> (H a ≠ none -> K.lookup a = none) ->
      codeAny (model P w) callerA (.call (.ref fa) ⟨[.ref a], []⟩) (fun r s' => r = .ok (.ret (.bool true)) /\ OldK s₁.heap s'.heap /\ s'.os = s₁.os /\ AllBare s'.gens) s₁ := by
    intro H hO hS hok hA hK
    have base_of : ∀ {b : Addr} {o : Obj}, s₁.heap.get? b = some o -> H b = none -> (hidT s₁.heap H).get? b = some o := fun e n => zkh e n
    have noA : ∀ {b : Addr} {o : Obj} {es : Array DictEntry} {ep : Nat}, s₁.heap.get? b = some o -> o.data = .dict es ep -> H b = none := fun {b o es ep} e d => by
      cases q : H b with
      | none => rfl
      | some u =>
        have e' : b = a := hA b (by rw [q]; simp)
        subst e'
        rw [ha] at e; cases e
        have d' : Data.seq vs.toArray _ = Data.dict es ep := d
        cases d'
    have nsK : ∀ {b : Addr} {m : Str -> Option Value}, s₁.heap.Ns b m -> (hidT s₁.heap H).Ns b m := fun {b m} ⟨o, es, ep, e, d, r⟩ => ⟨o, es, ep, base_of e (noA e d), d, r⟩
    have hKb : K.In (hidT s₁.heap H) := fun b o e => base_of (KX b o e) (by
      cases q : H b with
      | none => rfl
      | some u =>
        have e' : b = a := hA b (by rw [q]; simp)
        subst e'
        rw [hK (by rw [q]; simp)] at e; cases e)
    have hM : Mod K mg (hidT s₁.heap H) := ⟨hKb, nsK hns, ⟨mb, nsK hb, hbb⟩, let ⟨mc, h1, h2⟩ := hlim; ⟨mc, nsK h1, h2⟩⟩
    have e0 : Env0 P w K mg (hidT s₁.heap H) callerA [] s₁ H := ⟨rfl, hM, fun b o e => zlY e, Nat.le_of_eq (ziz _ _), trivial, fun b hb => absurd (show b ∈ ([] : List Addr) from hb) (by simp), hok, .of_eq hg⟩
    refine codeAny_mono ((F _ hKb (nsK hns)).run callerA [] s₁ H ⟨[.ref a], []⟩ [.ref a] [.ref a] _ _ hr e0 (hbind s₁ (.ref a)) (.cons rfl .nil) (hsp H hO hS)) fun r s' h => ?_
    cases r with
    | error e => exact (hCX H e s' h).elim
    | ok fl =>
      cases fl with
      | next => exact False.elim h
      | brk => exact False.elim h
      | cont => exact False.elim h
      | ret u =>
        obtain ⟨v, H', os, bare, un, hok', r', q⟩ := h
        have q' : v = .bl true := q
        subst q'
        obtain rfl : u = Value.bool true := r'
        refine ⟨rfl, OldK.of_keep fun b o e => ?_, os, bare⟩
        cases q : H b with
        | none => exact un.keep b o e q (by intro z; exact absurd (show b ∈ ([] : List Addr) from z) (by simp)) (by simp)
        | some u =>
          rcases hO b with z | ⟨ob, xs, z⟩
          · rw [q] at z; cases z
          · have z2 := un.frzs b ob _ z
            obtain ⟨e1, _⟩ := hok b _ z
            obtain ⟨e2, _⟩ := hok' b _ z2
            rw [e] at e1; cases e1
            exact e2
  cases hk : K.lookup a with
  | some o =>
    have e := KX a o hk
    rw [ha] at e
    cases e
    refine core (fun _ => none) (fun _ => .inl rfl) (.inr ⟨_, vs.toArray, _, hk, rfl, rfl, rfl, by rw [List.size_toArray, lenV]; exact hl, by simpa using rv⟩) (fun b u z => by have z' : (none : Option HO) = some u := z; cases z') (fun b z => absurd rfl z) fun z => absurd rfl z
  | none =>
    refine core (fun b => if b = a then some (.frz { cls := .type "list", data := .seq vs.toArray } (.lst (ns.map V.int))) else none) (fun b => ?_) (.inl (.inr ⟨{ cls := .type "list", data := .seq vs.toArray }, if_pos rfl⟩)) (fun b u z => ?_) (fun b z => ?_) fun _ => hk
    · by_cases hb : b = a
      · exact .inr ⟨_, _, if_pos hb⟩
      · exact .inl (if_neg hb)
    · by_cases hb : b = a
      · have z' := (if_pos hb).symm.trans z
        cases z'
        subst hb
        exact ⟨ha, by rw [List.length_map]; exact hl, vs, _, rv, ha⟩
      · have z' := (if_neg hb).symm.trans z
        cases z'
    · by_cases hb : b = a
      · exact hb
      · exact absurd (if_neg hb) z
end L2
namespace L2
open PySem PySem.Spec PyProof.Rows
theorem zmf {l : PySem.W.OpenLaw} {n k : Nat} {q : Program} {loose : List Str} {XP : (Str -> Option Value) -> Heap -> Prop} {YP : World -> Heap -> Prop} {d : DefRec} {K : Params -> PySem.W.Frag} {CX : World -> CXT} {sp : World -> Sp} {x : Str}
    (hn : l.most = some n) (hn2 : n <= sizeLine) (hdf : d.params.defaults = []) (hr : Room k callerA)
    (hY : ∀ (w : World) (h : Heap), YP w h -> (K w.params).In h)
    (F : ∀ (w : World) (mg : Str -> Option Value) (fa : Addr) (h : Heap), (K w.params).In h -> h.Ns mainGlobals mg -> mg d.name = some (.ref fa) ->
      ∃ fd : FuncData, (∀ (s : Shared) (u : Value), BindsTo s fd ⟨[u], []⟩ [(x, u)]) /\
        ∀ base : Heap, (K w.params).In base -> base.Ns mainGlobals mg -> FnOk l.prog w (K w.params) mg base (CX w) k fa fd [x] (sp w))
    (hsp : ∀ (w : World) (H : Hp) (a : Addr) (ns : List Int), ns.length <= n -> Only H -> SqL (K w.params) H a (ns.map V.int) -> sp w [.ref a] H (fun v _ => v = .bl true) fun _ _ _ => False)
    (hCX : ∀ (w : World) (H : Hp) (s : Shared) (e : Value) (s' : Shared), CX w [] H s (fun _ _ _ => False) e s' -> False) :
    PySem.W.WalkO q loose XP YP l.row.toRowW d [] (fun f vs => PySem.call f vs) := by
  refine Att.attach_call hn hdf fun w s₀ s₁ mg mb fa o pm cd doc a vs ns G Y ho hd hcd hmg hobj hints hlen hg => ?_
  have KX := hY w _ Y
  obtain ⟨fd, hb, hF⟩ := F w mg fa _ KX G.T.g hmg
  exact zku KX G.T.g G.T.b G.T.builtins G.T.nolimit hg hobj hints (Nat.le_trans hlen hn2) hr hF hb (fun H hO hS => hsp w H a ns hlen hO hS) fun H e s' => hCX w H s₁ e s'
end L2
namespace L2
open PySem PySem.Spec PyProof.Rows
def zaB (s : Stmt) : Arguments := match s with
  | .FunctionDef _ a _ _ _ _ _ _ _ _ => a
  | _ => { posonlyargs := [], args := [], vararg := none, kwonlyargs := [], kw_defaults := [], kwarg := none, defaults := [] }
def zay (s : Stmt) : List Stmt := match s with
  | .FunctionDef _ _ b _ _ _ _ _ _ _ => b
  | _ => []
def zag (s : Stmt) : Scope := match s with
  | .FunctionDef _ _ _ _ _ _ sc _ _ _ => sc
  | _ => { kind := .function, names := [], isGenerator := false, isCoroutine := false }
abbrev CX0 : CXT := fun _ _ _ _ _ _ => False
abbrev E0 : XK := fun _ _ _ => False
theorem znU {X : Cx} : ziL CX0 X E0 := fun _ _ _ _ _ _ _ h => h.elim
structure Fun (K : PySem.W.Frag) (x qual : Str) (st : Stmt) (f : Addr) (fd : FuncData) : Prop where
  ex : ∃ (oc : Value) (od : Option Addr) (kV doc pm : Value) (an : Option Addr) (cdv ct : Value) (osl : Array (Option Value)),
    fd = PySem.W.fnOf x qual (zaB st) (zay st) (zag st) .none kV doc pm an cdv ct /\ K.lookup f = some ⟨oc, od, .func fd, osl⟩ /\ PySem.W.codeIn K cdv qual = true
  kp : PySem.W.keepIn K (.ref f) = true
section
variable {P : Program} {w : World} {K : PySem.W.Frag} {mg : Str -> Option Value} {base : Heap}
theorem Fun.ok {x qual : Str} {st : Stmt} {f : Addr} {fd : FuncData} {N ps : List Str} {k : Nat} {sp : Sp} (F : Fun K x qual st f fd) (S : zaF N ps (zag st)) (len : ∀ vs H Q E, sp vs H Q E -> vs.length = ps.length)
    (hbody : ∀ (cdv : Value) (A : Around) (outer : List Env) (s : Shared) (H : Hp) (vs : List V) (Q : VK) (E : XK), Room k (A.deeper (envOfC qual (zag st) s.heap.objs.size f cdv)) -> sp vs H Q E ->
      ∃ t, PSs (cxOf CX0 P w K mg base N qual (zag st) f cdv A outer s H E).nox (zay st) t /\ t { nx := fun _ H' => Q .non H', rt := Q } (zd6 N vs) H) : FnOk P w K mg base CX0 (k + 1) f fd ps sp := by
  obtain ⟨oc, od, kV, doc, pm, an, cdv, ct, osl, rfl, lk, hcd⟩ := F.ex
  refine zpH lk hcd S len fun A outer s H vs Q E hr hsp => ?_
  obtain ⟨t, h, q⟩ := hbody cdv A outer s H vs Q E hr hsp
  exact ⟨t, h.nox, q⟩
theorem Fun.binds {x qual : Str} {st : Stmt} {f : Addr} {fd : FuncData} {ps : List Str} (F : Fun K x qual st f fd)
    (h : ∀ (kV doc pm : Value) (an : Option Addr) (cdv ct : Value) (us : List Value), us.length = ps.length -> bindArgs (PySem.W.fnOf x qual (zaB st) (zay st) (zag st) .none kV doc pm an cdv ct) ⟨us, []⟩ = pure (ps.zip us)) : zfx K fd ps [] := by
  obtain ⟨oc, od, kV, doc, pm, an, cdv, ct, osl, rfl, lk, hcd⟩ := F.ex
  exact .all (h kV doc pm an cdv ct)
theorem zaV {x qual : Str} {st : Stmt} {f : Addr} {oc : Value} {od an : Option Addr} {osl : Array (Option Value)} {kV doc pm cdv ct : Value} (l : K.lookup f = some ⟨oc, od, .func (PySem.W.fnOf x qual (zaB st) (zay st) (zag st) .none kV doc pm an cdv ct), osl⟩)
    (c : PySem.W.codeIn K cdv qual = true) (k : PySem.W.keepIn K (.ref f) = true) : Fun K x qual st f (PySem.W.fnOf x qual (zaB st) (zay st) (zag st) .none kV doc pm an cdv ct) := ⟨⟨oc, od, kV, doc, pm, an, cdv, ct, osl, rfl, l, c⟩, k⟩
end
section
variable {X : Cx}
theorem pv (i : Nat) {x : Str} {pos : Pos} (hN : X.N[i]? = some x := by rfl) (hv : Vis X.env.scope x := by first | exact Or.inl rfl | exact Or.inr (Or.inl rfl) | exact Or.inr (Or.inr rfl)) (hd : (x == ("__debug__" : Str)) = false := by decide)
    (hcd : (x == ("__classdict__" : Str)) = false := by decide) : PE X (.Name x pos) (tVar i) := zlC hN hv hd hcd
end
def Same (H H' : Hp) : Prop := ∀ b o, H b = some o -> H' b = some o
theorem Same.refl (H : Hp) : Same H H := fun _ _ h => h
theorem Same.trans {H H1 H2 : Hp} (a : Same H H1) (b : Same H1 H2) : Same H H2 := fun c o h => b c o (a c o h)
theorem Same.free {H H' : Hp} (e : Same H H') {l : Addr} (h : H' l = Option.none) : H l = Option.none := by
  cases q : H l with
  | none => rfl
  | some o =>
    rw [e l o q] at h
    cases h
theorem Same.seq {K : PySem.W.Frag} {H H' : Hp} {a : Addr} {xs : List V} (e : Same H H') (h : SqL K H a xs) : SqL K H' a xs := by
  rcases h with (h | ⟨o, h⟩) | h
  · exact .inl (.inl (e _ _ h))
  · exact .inl (.inr ⟨o, e _ _ h⟩)
  · exact .inr h
end L2
set_option Elab.async false
set_option linter.all false
set_option maxRecDepth 100000
set_option maxHeartbeats 4000000
namespace L2
open PySem PySem.Spec PyProof.Rows
section
variable {X : Cx} {pins : List (Addr × Obj)} {σ : St} {H : Hp} {s : Shared} {h' : Heap}
theorem Inv.turnedNew {t' : Nat} {fp : List Addr} {p : Addr} {o : HO} (I : Inv X pins σ H s) (hf : ∀ b ∈ fp, FpOk X pins H b)
    (k : ∀ b o, b ∉ fp -> s.heap.get? b = some o -> h'.get? b = some o) (hp : s.heap.objs.size <= p) (new : zct X.prog X.w (upd H p o) h' p o) :
    Inv X pins σ (upd H p o) { s with heap := h', toks := t' } := by
  have hn : H p = none := I.hok.fresh hp
  have trk : ∀ b u, H b = some u -> b ∉ fp := fun b u e z => by rw [(hf b z).1] at e; cases e
  refine I.step (g' := s.gens) (d' := s.drawn) (ch := fp) (fun b hb => ?_) (fun b o _ _ hc e _ => k b o hc e) (fun b o _ _ hc e _ => ⟨o.slots, k b o hc e⟩)
    (fun b o _ e n => by rw [zaM (Nat.ne_of_lt (Nat.lt_of_lt_of_le (Heap.lt_size e) hp))]; exact n) (fun b o hc e => ⟨o, k b o hc e⟩)
    (fun b xs e => by rw [zaM (za2 e hn)]; exact e) (fun b ob u e => by rw [zaM (za2 e hn)]; exact e) (fun b ps e => ⟨#[], by rw [zaM (za2 e hn), e]; simp⟩)
    (fun m hm => ?_) (fun b u e => ?_) I.bare
  · obtain ⟨_, f1, _, f3, f4, f5⟩ := hf b hb
    exact ⟨f3, f1, f4, f5⟩
  · obtain ⟨ob, es, ep, ho, r⟩ := hm
    exact ⟨ob, es, ep, k _ ob (fun z => (hf _ z).2.1 rfl) ho, r⟩
  · by_cases hb : b = p
    · subst hb; rw [zaH] at e; cases e; exact new
    · rw [zaM hb] at e
      refine (I.hok b u e).stay (fun c v hc q => k c v ?_ q) (fun c q => by rw [zaM (za2 q hn)]; exact q) fun c xs q => by rw [zaM (za2 q hn)]; exact q
      rcases hc with z | z
      · rw [z]; exact trk b u e
      · exact trk c _ z
theorem Inv.turnedL {t' : Nat} {fp : List Addr} (I : Inv X pins σ H s) (hf : ∀ b ∈ fp, FpOk X pins H b)
    (k : ∀ b o, b ∉ fp -> s.heap.get? b = some o -> h'.get? b = some o) : Inv X pins σ H { s with heap := h', toks := t' } := by
  have trk : ∀ b u, H b = some u -> b ∉ fp := fun b u e z => by rw [(hf b z).1] at e; cases e
  refine I.step (g' := s.gens) (d' := s.drawn) (ch := fp) (fun b hb => ?_) (fun b o _ _ hc e _ => k b o hc e) (fun b o _ _ hc e _ => ⟨o.slots, k b o hc e⟩)
    (fun _ _ _ _ n => n) (fun b o hc e => ⟨o, k b o hc e⟩) (fun _ _ e => e) (fun _ _ _ e => e) (fun b ps e => ⟨#[], by rw [e]; simp⟩) (fun m hm => ?_) (fun b u e => ?_) I.bare
  · obtain ⟨_, f1, _, f3, f4, f5⟩ := hf b hb
    exact ⟨f3, f1, f4, f5⟩
  · obtain ⟨ob, es, ep, ho, r⟩ := hm
    exact ⟨ob, es, ep, k _ ob (fun z => (hf _ z).2.1 rfl) ho, r⟩
  · refine (I.hok b u e).stay (fun c v hc q => k c v ?_ q) (fun c q => q) fun c xs q => q
    rcases hc with z | z
    · rw [z]; exact trk b u e
    · exact trk c _ z
end
def Ite (K : PySem.W.Frag) (a : Addr) : It :=
  ⟨fun i H => ∃ xs x, SqL K H a xs /\ xs[i]? = some x,
   fun i H v H' => ∃ p x, H p = none /\ v = .ref p /\ (∀ xs, SqL K H a xs -> xs[i]? = some x) /\ H' = upd H p (.tup [.int i, x]),
   fun i H => ∃ xs, SqL K H a xs /\ xs.length <= i⟩
theorem ziQ {P : Program} {w : World} {K : PySem.W.Frag} {elts : List Expr} {x1} {tp : Pos} (a e it : Addr) (hne : e ≠ it) :
    Turn P w K (.Tuple elts x1 tp) (Ite K a) [e, it] e (fun i h => (∃ old, IsEnum h e it i old) /\ h.IsListIter it a i) where
  mem := by simp
  obj := fun i h st b hb => by
    obtain ⟨⟨old, he⟩, o, ho, c, d⟩ := st
    have hb' : b = e ∨ b = it := by simpa using hb
    rcases hb' with rfl | rfl
    · exact ⟨_, he, fun v z => by
        have z' : Data.fields _ = Data.cell v := z
        cases z'⟩
    · exact ⟨o, ho, fun v z => by rw [d] at z; cases z⟩
  keep := fun i h h' st k => by
    obtain ⟨⟨old, he⟩, hi⟩ := st
    exact ⟨⟨old, k e (by simp) _ he⟩, hi.at fun o q => k it (by simp) o q⟩
  item := by
    intro X hP hw hK hc i pins s σ H E I hf st hg
    subst hP hw hK
    obtain ⟨⟨old, he⟩, hi⟩ := st
    obtain ⟨xs, x, hq, hx⟩ := hg
    obtain ⟨its, rv, p, hz⟩ := I.list hq
    obtain ⟨u, hu, ru⟩ := rv.get hx
    refine wpAny_pyNext_enum_item he hi p.isList (x := u) (by simpa using hu) hne fun h1 out hi1 ht hsz kk => ?_
    refine ⟨_, rfl, wpAny_letOwnedTupleGo_enum out fun h2 he2 hs2 => ?_⟩
    have hel : e < s.heap.objs.size := Heap.lt_size he
    have hs2' : Heap.SameBut e h1 h2 := hs2
    have ht2 : h2.get? s.heap.objs.size = some { cls := .type "tuple", data := .seq #[.int i s.toks, u] } := (hs2'.2 _ (Nat.ne_of_gt hel)).trans ht
    have kk2 : ∀ b o, b ∉ [e, it] -> s.heap.get? b = some o -> h2.get? b = some o := fun b o hb q => by
      have hbe : b ≠ e := fun z => hb (by simp [z])
      have hbi : b ≠ it := fun z => hb (by simp [z])
      exact (hs2'.2 b hbe).trans (kk b o hbe hbi q)
    have hn : H s.heap.objs.size = none := I.hok.fresh (Nat.le_refl _)
    have I2 : Inv X pins σ (upd H s.heap.objs.size (.tup [.int i, x])) { s with heap := h2, toks := s.toks + 1 } :=
      I.turnedNew (fp := [e, it]) hf kk2 (Nat.le_refl _) ⟨by show 2 <= sizeLine; decide, [.int i s.toks, u], .cons ⟨_, rfl⟩ (.cons ru .nil), ⟨_, ht2, rfl, _, rfl⟩⟩
    refine ⟨.ref s.heap.objs.size, _, I2, rfl, ⟨_, x, hn, rfl, fun ys hy => by rw [I.list_inj hy hq]; exact hx, rfl⟩, ⟨⟨u, ?_⟩, ?_⟩, fun b hb => ?_⟩
    · have := he2
      simpa using this
    · have hi2 : h2.IsListIter it a (i + 1) := hi1.at fun o q => (hs2'.2 it (Ne.symm hne)).trans q
      exact hi2
    · have fr := (hf b hb)
      have hlt : b < s.heap.objs.size := by
        have hb' : b = e ∨ b = it := by simpa using hb
        rcases hb' with rfl | rfl
        · exact hel
        · obtain ⟨o, ho, _⟩ := hi; exact Heap.lt_size ho
      rw [zaM (Nat.ne_of_lt hlt)]
      exact fr.1
  done := by
    intro X hP hw hK hc i pins s σ H E I hf st hg
    subst hP hw hK
    obtain ⟨⟨old, he⟩, hi⟩ := st
    obtain ⟨xs, hq, hx⟩ := hg
    obtain ⟨its, rv, p, hz⟩ := I.list hq
    have hl := rv.length
    exact wpAny_pyNext_enum_end (I.ok.hd hc) he hi p.isList (by simp; omega) fun h' eb => ⟨rfl, I.turnedL (t' := s.toks) hf fun b o hb q => eb b o (fun z => hb (by simp [z])) q⟩
  self := fun _ _ _ _ _ st h => by
    obtain ⟨⟨old, he⟩, _⟩ := st
    exact wpAny_pyIter_enum he h
section
variable {X : Cx}
def zpK (K : PySem.W.Frag) (ta : TA) : TI := fun σ H R => ta σ H fun vs H1 => ∃ a xs, vs = [.ref a] /\ SqL K H1 a xs /\ R (Ite K a) H1
theorem zmg {a : Expr} {ta : TA} {p pos : Pos} {elts : List Expr} {x1} {tp : Pos} (hg : Gl X "enumerate") (hm : X.mg "enumerate" = none) (ha : PA X [a] ta)
    (hs : starEach [a] X.env = [(false, eval a X.env)] := by rfl) : PI X (.Tuple elts x1 tp) (.Call (.Name "enumerate" p) [a] [] pos) (zpK X.K ta) := by
  intro pins s σ H R I h
  refine Call_ (zdI I hg hm boot_enumerate (PyProof.Rows.callWith_type1 (thn (ha pos pins s σ H _ I h) fun us s1 ⟨vs, H1, I1, r1, q1⟩ => ?_) hs rfl))
  obtain ⟨l, xs, e, hq, q⟩ := q1
  subst e
  cases r1 with
  | cons r rr =>
    cases rr
    cases (show _ = Value.ref l from r)
    obtain ⟨its, rv, pl, hz⟩ := I1.list hq
    refine call_enumerate_list pl.isList fun h' he hi hsz kk => ?_
    have I2 : Inv X pins σ H1 { s1 with heap := h' } := I1.kept (t' := s1.toks) kk
    refine wpAny_pyIter_enum he ?_
    refine ⟨s1.heap.objs.size + 1, [s1.heap.objs.size + 1, s1.heap.objs.size], _, _, H1, rfl, I2, ziQ l _ _ (Nat.succ_ne_self _), ⟨⟨_, he⟩, hi⟩, fun b hb => ?_, q⟩
    have hb' : b = s1.heap.objs.size + 1 ∨ b = s1.heap.objs.size := by simpa using hb
    rcases hb' with rfl | rfl
    · exact I1.fpOk (Nat.le_succ _) (I1.hok.fresh (Nat.le_succ _))
    · exact I1.fpOk (Nat.le_refl _) (I1.hok.fresh (Nat.le_refl _))
end
end L2
set_option Elab.async false
set_option linter.all false
set_option maxRecDepth 100000
set_option maxHeartbeats 4000000
namespace DL
open PySem PySem.Spec L2
open PyProof.Rows hiding St
abbrev D := PyData
mutual
inductive Rep (K : PySem.W.Frag) (G : Hp) : V -> D -> Prop where
  | non : Rep K G .non .none
  | bl (b : Bool) : Rep K G (.bl b) (.bool b)
  | int (i : Int) : Rep K G (.int i) (.int i)
  | str (x : Str) : Rep K G (.str x) (.str x)
  | lst {a : Addr} {vs : List V} {ds : List D} (h : SqL K G a vs) (r : Reps K G vs ds) : Rep K G (.ref a) (.list ds)
  | tup {a : Addr} {vs : List V} {ds : List D} (h : SqT K G a vs) (r : Reps K G vs ds) : Rep K G (.ref a) (.tuple ds)
  | dic {a : Addr} (h : G a = some (.dK [])) : Rep K G (.ref a) (.dict [])
inductive Reps (K : PySem.W.Frag) (G : Hp) : List V -> List D -> Prop where
  | nil : Reps K G [] []
  | cons {v : V} {d : D} {vs : List V} {ds : List D} (h : Rep K G v d) (t : Reps K G vs ds) : Reps K G (v :: vs) (d :: ds)
end
variable {K : PySem.W.Frag} {B G0 G G1 G2 H H1 H2 : Hp}
theorem zdg {a : Addr} {xs : List V} (e : Same G G1) (h : SqT K G a xs) : SqT K G1 a xs := by
  rcases h with (h | ⟨o, h⟩) | h
  · exact .inl (.inl (e _ _ h))
  · exact .inl (.inr ⟨o, e _ _ h⟩)
  · exact .inr h
mutual
theorem Rep.mono (e : Same G G1) : ∀ {v : V} {d : D}, Rep K G v d -> Rep K G1 v d
  | _, _, .non => .non
  | _, _, .bl b => .bl b
  | _, _, .int i => .int i
  | _, _, .str x => .str x
  | _, _, .lst h r => .lst (e.seq h) (Reps.mono e r)
  | _, _, .tup h r => .tup (zdg e h) (Reps.mono e r)
  | _, _, .dic h => .dic (e _ _ h)
theorem Reps.mono (e : Same G G1) : ∀ {vs : List V} {ds : List D}, Reps K G vs ds -> Reps K G1 vs ds
  | _, _, .nil => .nil
  | _, _, .cons h t => .cons (Rep.mono e h) (Reps.mono e t)
end
section
variable {v : V} {vs ws : List V} {ds es : List D}
theorem Rep.bl_inv {b : Bool} (h : Rep K G v (.bool b)) : v = .bl b := by cases h; rfl
theorem Rep.int_inv {i : Int} (h : Rep K G v (.int i)) : v = .int i := by cases h; rfl
theorem Rep.str_inv {x : Str} (h : Rep K G v (.str x)) : v = .str x := by cases h; rfl
theorem Rep.lst_inv (h : Rep K G v (.list ds)) : ∃ a vs, v = .ref a /\ SqL K G a vs /\ Reps K G vs ds := by
  cases h with
  | lst h r => exact ⟨_, _, rfl, h, r⟩
theorem Rep.tup_inv (h : Rep K G v (.tuple ds)) : ∃ a vs, v = .ref a /\ SqT K G a vs /\ Reps K G vs ds := by
  cases h with
  | tup h r => exact ⟨_, _, rfl, h, r⟩
theorem Reps.length : ∀ {vs : List V} {ds : List D}, Reps K G vs ds -> vs.length = ds.length
  | _, _, .nil => rfl
  | _, _, .cons _ t => by rw [List.length_cons, List.length_cons, Reps.length t]
theorem Reps.get : ∀ {vs : List V} {ds : List D} {i : Nat} {d : D}, Reps K G vs ds -> ds[i]? = some d -> ∃ v, vs[i]? = some v /\ Rep K G v d
  | _, _, _, _, .nil, e => by simp at e
  | _, _, 0, _, .cons h _, e => by simp at e; subst e; exact ⟨_, rfl, h⟩
  | _, _, i + 1, d, .cons _ t, e => by
    obtain ⟨u, h1, h2⟩ := Reps.get (i := i) (d := d) t (by simpa using e)
    exact ⟨u, by simpa using h1, h2⟩
theorem Reps.append : ∀ {vs ws : List V} {ds es : List D}, Reps K G vs ds -> Reps K G ws es -> Reps K G (vs ++ ws) (ds ++ es)
  | _, _, _, _, .nil, s => s
  | _, _, _, _, .cons r t, s => .cons r (Reps.append t s)
theorem Reps.take : ∀ {vs : List V} {ds : List D} (n : Nat), Reps K G vs ds -> Reps K G (vs.take n) (ds.take n)
  | _, _, 0, _ => by rw [List.take_zero, List.take_zero]; exact .nil
  | _, _, _ + 1, .nil => .nil
  | _, _, n + 1, .cons r t => .cons r (Reps.take n t)
theorem Reps.drop : ∀ {vs : List V} {ds : List D} (n : Nat), Reps K G vs ds -> Reps K G (vs.drop n) (ds.drop n)
  | _, _, 0, r => r
  | _, _, _ + 1, .nil => .nil
  | _, _, n + 1, .cons _ t => Reps.drop n t
theorem Reps.reverse : ∀ {vs : List V} {ds : List D}, Reps K G vs ds -> Reps K G vs.reverse ds.reverse
  | _, _, .nil => .nil
  | _, _, .cons r t => by rw [List.reverse_cons, List.reverse_cons]; exact Reps.append (Reps.reverse t) (.cons r .nil)
theorem Reps.set {v : V} {d : D} (r : Rep K G v d) : ∀ {vs : List V} {ds : List D} (i : Nat), Reps K G vs ds -> Reps K G (vs.set i v) (ds.set i d)
  | _, _, _, .nil => .nil
  | _, _, 0, .cons _ t => .cons r t
  | _, _, i + 1, .cons q t => .cons q (Reps.set r i t)
theorem Reps.ints : ∀ (ns : List Int), Reps K G (ns.map V.int) (ns.map PyData.int)
  | [] => .nil
  | n :: ns => .cons (.int n) (Reps.ints ns)
end
structure Ext (G H G' H' : Hp) : Prop where
  h : Same H H'
  g : Same G G'
  gh : Same G' H'
  np : ∀ a o, H a = some o -> G a = none -> G' a = none
theorem Ext.refl (e : Same G H) : Ext G H G H := ⟨.refl _, .refl _, e, fun _ _ _ q => q⟩
theorem zaK {p : Addr} {o : HO} (h : H p = none) : Same H (upd H p o) := fun b u e => by rw [zaM (za2 e h)]; exact e
theorem Ext.new {p : Addr} {o : HO} (e : Same G H) (h : H p = none) : Ext G H (upd G p o) (upd H p o) := by
  have hg : G p = none := e.free h
  refine ⟨zaK h, zaK hg, fun b u q => ?_, fun a u q n => ?_⟩
  · by_cases z : b = p
    · subst z; rw [zaH] at q ⊢; exact q
    · rw [zaM z] at q ⊢; exact e b u q
  · rw [zaM (za2 q h)]; exact n
theorem Ext.hid {p : Addr} {o : HO} (e : Same G H) (h : H p = none) : Ext G H G (upd H p o) :=
  ⟨zaK h, .refl _, e.trans (zaK h), fun _ _ _ n => n⟩
inductive Sl where
  | pub (d : D) | own (ds : List D)
abbrev DEnv := List (Option Sl)
structure EOk (K : PySem.W.Frag) (B G0 G H : Hp) (σ : St) (ρ : DEnv) : Prop where
  bh : Same B H
  gh : Same G H
  g0 : Same G0 G
  np : ∀ a o, B a = some o -> G0 a = none -> G a = none
  len : ρ.length = σ.length
  pub : ∀ (i : Nat) d, ρ[i]? = some (some (.pub d)) -> ∃ v, σ[i]? = some (some v) /\ Rep K G v d
  own : ∀ (i : Nat) ds, ρ[i]? = some (some (.own ds)) -> ∃ a vs, σ[i]? = some (some (.ref a)) /\ B a = none /\ G a = none /\ H a = some (.lst vs) /\ Reps K G vs ds
  sep : ∀ (i j : Nat) a ds es, ρ[i]? = some (some (.own ds)) -> ρ[j]? = some (some (.own es)) -> σ[i]? = some (some (.ref a)) -> σ[j]? = some (some (.ref a)) -> i = j
theorem EOk.ext {G' H' : Hp} {σ : St} {ρ : DEnv} (k : EOk K B G0 G H σ ρ) (e : Ext G H G' H') : EOk K B G0 G' H' σ ρ where
  bh := k.bh.trans e.h
  gh := e.gh
  g0 := k.g0.trans e.g
  np := fun a o q n => e.np a o (k.bh a o q) (k.np a o q n)
  len := k.len
  pub := fun i d q => let ⟨v, h1, h2⟩ := k.pub i d q; ⟨v, h1, h2.mono e.g⟩
  own := fun i ds q => let ⟨a, vs, h1, h2, h3, h4, h5⟩ := k.own i ds q; ⟨a, vs, h1, h2, e.np a _ h4 h3, e.h a _ h4, h5.mono e.g⟩
  sep := k.sep
theorem EOk.publish {σ : St} {ρ : DEnv} {i : Nat} {ds : List D} (k : EOk K B G0 G H σ ρ) (h : ρ[i]? = some (some (.own ds))) :
    ∃ a G', σ[i]? = some (some (.ref a)) /\ Same G G' /\ Rep K G' (.ref a) (.list ds) /\ EOk K B G0 G' H σ (ρ.set i (some (.pub (.list ds)))) := by
  obtain ⟨a, vs, h1, h2, h3, h4, h5⟩ := k.own i ds h
  have sg : Same G (upd G a (.lst vs)) := zaK h3
  have hr : Rep K (upd G a (.lst vs)) (.ref a) (.list ds) := .lst (SqL.of zaH) (h5.mono sg)
  refine ⟨a, upd G a (.lst vs), h1, sg, hr, ⟨k.bh, fun b u q => ?_, k.g0.trans sg, fun b o q n => ?_, by rw [List.length_set]; exact k.len, fun j d q => ?_, fun j es q => ?_, fun j l c es fs q1 q2 s1 s2 => ?_⟩⟩
  · by_cases z : b = a
    · subst z; rw [zaH] at q; cases q; exact h4
    · rw [zaM z] at q; exact k.gh b u q
  · have z : b ≠ a := fun z => by subst z; rw [h2] at q; cases q
    rw [zaM z]; exact k.np b o q n
  · by_cases z : i = j
    · subst z
      have hl : i < ρ.length := (List.getElem?_eq_some_iff.mp h).1
      rw [List.getElem?_set_self hl] at q
      cases q
      exact ⟨.ref a, h1, hr⟩
    · rw [List.getElem?_set_ne z] at q
      obtain ⟨v, g1, g2⟩ := k.pub j d q
      exact ⟨v, g1, g2.mono sg⟩
  · by_cases z : i = j
    · subst z
      have hl : i < ρ.length := (List.getElem?_eq_some_iff.mp h).1
      rw [List.getElem?_set_self hl] at q
      cases q
    · rw [List.getElem?_set_ne z] at q
      obtain ⟨b, ws, g1, g2, g3, g4, g5⟩ := k.own j es q
      have zb : b ≠ a := fun e => z (k.sep i j a ds es h q h1 (by rw [← e]; exact g1))
      exact ⟨b, ws, g1, g2, by rw [zaM zb]; exact g3, g4, g5.mono sg⟩
  · have nz : ∀ {m : Nat} {ts : List D}, (ρ.set i (some (Sl.pub (.list ds))))[m]? = some (some (.own ts)) -> ρ[m]? = some (some (.own ts)) := fun {m ts} q => by
      by_cases z : i = m
      · subst z
        have hl : i < ρ.length := (List.getElem?_eq_some_iff.mp h).1
        rw [List.getElem?_set_self hl] at q
        cases q
      · rw [List.getElem?_set_ne z] at q; exact q
    exact k.sep j l c es fs (nz q1) (nz q2) s1 s2
end DL
set_option Elab.async false
set_option linter.all false
set_option maxRecDepth 100000
set_option maxHeartbeats 4000000
namespace DL
open PySem PySem.Spec L2
open PyProof.Rows hiding St
inductive Res (α : Type) where
  | ok (a : α) (ρ : DEnv) | bad
abbrev M (α : Type) := DEnv -> Res α
def zah {α : Type} (a : α) : M α := fun ρ => .ok a ρ
def mOpt {α : Type} (o : Option α) : M α := fun ρ => match o with | some a => .ok a ρ | none => .bad
def zas {α β : Type} (f : M α) (k : α -> M β) : M β := fun ρ => match f ρ with | .ok a ρ' => k a ρ' | .bad => .bad
section
variable (K : PySem.W.Frag) (B G0 : Hp)
def aft {α γ : Type} (R : Hp -> γ -> α -> Prop) (r : Res α) (G : Hp) (σ : St) (Q : γ -> Hp -> Prop) : Prop :=
  match r with
  | .ok d ρ' => ∀ v G' H', EOk K B G0 G' H' σ ρ' -> Same G G' -> R G' v d -> Q v H'
  | .bad => False
def tM {α γ : Type} (R : Hp -> γ -> α -> Prop) (f : M α) : St -> Hp -> (γ -> Hp -> Prop) -> Prop := fun σ H Q =>
  ∃ G ρ, EOk K B G0 G H σ ρ /\ aft K B G0 R (f ρ) G σ Q
abbrev tD (f : M D) : TE := tM K B G0 (Rep K) f
abbrev tDs (f : M (List D)) : TA := tM K B G0 (Reps K) f
abbrev tBo (f : M Bool) : TT := tM K B G0 (fun _ b c => b = c) f
abbrev tOi (f : M (Option Int)) : TO := tM K B G0 (fun _ b c => b = c) f
end
section
variable {K : PySem.W.Frag} {B G0 : Hp} {α β γ δ ε : Type} {R : Hp -> γ -> α -> Prop} {S : Hp -> δ -> β -> Prop} {T : Hp -> ε -> α -> Prop} {σ : St} {H : Hp}
theorem aft.mono {r : Res α} {G G' : Hp} {Q : γ -> Hp -> Prop} (e : Same G G') (h : aft K B G0 R r G σ Q) : aft K B G0 R r G' σ Q := by
  cases r with
  | ok d ρ => exact fun v G2 H2 k s q => h v G2 H2 k (e.trans s) q
  | bad => exact h
theorem aft.done {d : α} {ρ : DEnv} {G G' H H' : Hp} {v : γ} {Q : γ -> Hp -> Prop} (h : aft K B G0 R (.ok d ρ) G σ Q) (k : EOk K B G0 G H σ ρ) (e : Ext G H G' H') (r : R G' v d) : Q v H' :=
  h v G' H' (k.ext e) e.g r
theorem aft.now {d : α} {ρ : DEnv} {G H : Hp} {v : γ} {Q : γ -> Hp -> Prop} (h : aft K B G0 R (.ok d ρ) G σ Q) (k : EOk K B G0 G H σ ρ) (r : R G v d) : Q v H :=
  h v G H k (.refl _) r
theorem aft.opt {o : Option α} {ρ : DEnv} {G : Hp} {Q : γ -> Hp -> Prop} (h : aft K B G0 R (mOpt o ρ) G σ Q) : ∃ d, o = some d /\ aft K B G0 R (.ok d ρ) G σ Q := by
  cases o with
  | none => exact h.elim
  | some d => exact ⟨d, rfl, h⟩
theorem tM.bind {f : M α} {k : α -> M β} {Q : δ -> Hp -> Prop} (h : tM K B G0 S (zas f k) σ H Q) :
    tM K B G0 R f σ H (fun v H1 => ∃ G ρ d, EOk K B G0 G H1 σ ρ /\ R G v d /\ aft K B G0 S (k d ρ) G σ Q) := by
  obtain ⟨G, ρ, e, a⟩ := h
  refine ⟨G, ρ, e, ?_⟩
  unfold zas at a
  cases q : f ρ with
  | bad => rw [q] at a; exact a.elim
  | ok d ρ1 =>
    rw [q] at a
    exact fun v G' H' e' s r => ⟨G', ρ1, d, e', r, aft.mono s a⟩
theorem tM.bind2 {α' γ' : Type} {R' : Hp -> γ' -> α' -> Prop} {f : M α} {g : α -> M α'} {k : α -> α' -> M β} {Q : δ -> Hp -> Prop} (mo : ∀ G G' v d, Same G G' -> R G v d -> R G' v d)
    (h : tM K B G0 S (zas f fun x => zas (g x) fun y => k x y) σ H Q) :
    tM K B G0 R f σ H (fun v H1 => ∃ x, tM K B G0 R' (g x) σ H1 fun u H2 => ∃ G ρ y, EOk K B G0 G H2 σ ρ /\ R G v x /\ R' G u y /\ aft K B G0 S (k x y ρ) G σ Q) := by
  obtain ⟨G, ρ, e, a⟩ := tM.bind (R := R) h
  refine ⟨G, ρ, e, ?_⟩
  cases q : f ρ with
  | bad => rw [q] at a; exact a.elim
  | ok d ρ1 =>
    rw [q] at a
    intro v G' H' e' s r
    obtain ⟨G2, ρ2, d2, e2, r2, a2⟩ := a v G' H' e' s r
    refine ⟨d2, G2, ρ2, e2, ?_⟩
    unfold zas at a2
    cases q2 : g d2 ρ2 with
    | bad => rw [q2] at a2; exact a2.elim
    | ok d3 ρ3 =>
      rw [q2] at a2
      exact fun u G3 H3 e3 s3 r3 => ⟨G3, ρ3, d3, e3, mo _ _ _ _ s3 r2, r3, aft.mono s3 a2⟩
end
theorem ziR {K : PySem.W.Frag} (G G' : Hp) (v : V) (d : D) (e : Same G G') (r : Rep K G v d) : Rep K G' v d := r.mono e
theorem tM.two {K : PySem.W.Frag} {B G0 : Hp} {β δ : Type} {S : Hp -> δ -> β -> Prop} {σ : St} {H : Hp} {f g : M D} {k : D -> D -> M β} {Q : δ -> Hp -> Prop} {P : V -> V -> Hp -> Prop}
    (h : tM K B G0 S (zas f fun x => zas g fun y => k x y) σ H Q)
    (i : ∀ v u H2 G ρ x y, EOk K B G0 G H2 σ ρ -> Rep K G v x -> Rep K G u y -> aft K B G0 S (k x y ρ) G σ Q -> P v u H2) :
    tD K B G0 f σ H (fun v H1 => tD K B G0 g σ H1 fun u H2 => P v u H2) := by
  obtain ⟨G, ρ, e, a⟩ := tM.bind2 (R := Rep K) (R' := Rep K) ziR h
  refine ⟨G, ρ, e, ?_⟩
  cases q : f ρ with
  | bad => rw [q] at a; exact a.elim
  | ok d ρ1 =>
    rw [q] at a
    intro v G' H' e' s r
    obtain ⟨x, G2, ρ2, e2, a2⟩ := a v G' H' e' s r
    refine ⟨G2, ρ2, e2, ?_⟩
    cases q2 : g ρ2 with
    | bad => rw [q2] at a2; exact a2.elim
    | ok d3 ρ3 =>
      rw [q2] at a2
      intro u G3 H3 e3 s3 r3
      obtain ⟨G4, ρ4, y, e4, r4, r5, a5⟩ := a2 u G3 H3 e3 s3 r3
      exact i v u H3 G4 ρ4 x y e4 r4 r5 a5
theorem tM.one {K : PySem.W.Frag} {B G0 : Hp} {α β γ δ : Type} {R : Hp -> γ -> α -> Prop} {S : Hp -> δ -> β -> Prop} {σ : St} {H : Hp} {f : M α} {k : α -> M β} {Q : δ -> Hp -> Prop} {P : γ -> Hp -> Prop}
    (h : tM K B G0 S (zas f k) σ H Q) (i : ∀ v H2 G ρ x, EOk K B G0 G H2 σ ρ -> R G v x -> aft K B G0 S (k x ρ) G σ Q -> P v H2) : tM K B G0 R f σ H P := by
  obtain ⟨G, ρ, e, a⟩ := tM.bind (R := R) h
  refine ⟨G, ρ, e, ?_⟩
  cases q : f ρ with
  | bad => rw [q] at a; exact a.elim
  | ok d ρ1 =>
    rw [q] at a
    intro v G' H' e' s r
    obtain ⟨G2, ρ2, d2, e2, r2, a2⟩ := a v G' H' e' s r
    exact i v H' G2 ρ2 d2 e2 r2 a2
section
variable {X : Cx} {B G0 : Hp} {e a b : Expr} {pos : Pos}
theorem peof {t t' : TE} (h : PE X e t) (i : ∀ σ H Q, t' σ H Q -> t σ H Q) : PE X e t' := fun pins s σ H Q I q => h pins s σ H Q I (i σ H Q q)
theorem ptof {t t' : TT} (h : PT X e t) (i : ∀ σ H Q, t' σ H Q -> t σ H Q) : PT X e t' := fun pins s σ H Q I q => h pins s σ H Q I (i σ H Q q)
theorem paof {es : List Expr} {t t' : TA} (h : PA X es t) (i : ∀ σ H Q, t' σ H Q -> t σ H Q) : PA X es t' := fun ps pins s σ H Q I q => h ps pins s σ H Q I (i σ H Q q)
theorem poof {eo : Option Expr} {t t' : TO} (h : PO X eo t) (i : ∀ σ H Q, t' σ H Q -> t σ H Q) : PO X eo t' := fun pins s σ H Q I q => h pins s σ H Q I (i σ H Q q)
theorem psof {st : Stmt} {t t' : TS} (h : PS X st t) (i : ∀ D σ H, t' D σ H -> t D σ H) : PS X st t' := fun pins s σ H D I q => h pins s σ H D I (i D σ H q)
theorem znV {st : List Stmt} {t t' : TS} (h : PSs X st t) (i : ∀ D σ H, t' D σ H -> t D σ H) : PSs X st t' := fun pins s σ H D I q => h pins s σ H D I (i D σ H q)
def dVar (i : Nat) : M D := fun ρ => match ρ[i]? with
  | some (some (.pub d)) => .ok d ρ
  | some (some (.own ds)) => .ok (.list ds) (ρ.set i (some (.pub (.list ds))))
  | _ => .bad
theorem zac {i : Nat} (h : PE X e (tVar i)) : PE X e (tD X.K B G0 (dVar i)) := peof h fun σ H Q ⟨G, ρ, k, a⟩ => by
  unfold dVar at a
  cases q : ρ[i]? with
  | none => rw [q] at a; exact a.elim
  | some o =>
    cases o with
    | none => rw [q] at a; exact a.elim
    | some sl =>
      cases sl with
      | pub d =>
        rw [q] at a
        obtain ⟨v, h1, h2⟩ := k.pub i d q
        exact ⟨v, h1, a.now k h2⟩
      | own ds =>
        rw [q] at a
        obtain ⟨ad, G', h1, h2, h3, h4⟩ := k.publish q
        exact ⟨.ref ad, h1, a (.ref ad) G' H h4 h2 h3⟩
theorem zhn {v : V} {d : D} (h : PE X e (tC v)) (r : ∀ G, Rep X.K G v d) : PE X e (tD X.K B G0 (zah d)) := peof h fun σ H Q ⟨G, ρ, k, a⟩ => a.now k (r G)
theorem zal {i : Int} {j} : PE X (.Constant (.int i) j pos) (tD X.K B G0 (zah (.int i))) := zhn zno fun _ => .int i
theorem zbH {i : Bool} {j} : PE X (.Constant (.bool i) j pos) (tD X.K B G0 (zah (.bool i))) := zhn zpn fun _ => .bl i
theorem ze3 {j} : PE X (.Constant .none j pos) (tD X.K B G0 (zah .none)) := zhn znp fun _ => .non
theorem zcJ {x : Str} {j} : PE X (.Constant (.str x) j pos) (tD X.K B G0 (zah (.str x))) := zhn znq fun _ => .str x
def dBin {β : Type} (op : D -> D -> Option β) (f g : M D) : M β := zas f fun x => zas g fun y => mOpt (op x y)
def OpD (X : Cx) (f : Value -> Value -> Sem Value) (op : D -> D -> Option D) : Prop :=
  ∃ r : R2, OpR X f r /\ ∀ v u G H x y d Q, Same G H -> Rep X.K G v x -> Rep X.K G u y -> op x y = some d -> (∀ w G' H', Ext G H G' H' -> Rep X.K G' w d -> Q w H') -> r v u H Q
theorem zaJ {op : Operator} {p : D -> D -> Option D} {f g : M D} (o : OpD X (binaryOp op) p) (ha : PE X a (tD X.K B G0 f)) (hb : PE X b (tD X.K B G0 g)) : PE X (.BinOp a op b pos) (tD X.K B G0 (dBin p f g)) := by
  obtain ⟨r, h, i⟩ := o
  refine peof (znF h ha hb) fun σ H Q q => ?_
  refine tM.two q fun v u H2 G ρ x y k rx ry a => ?_
  obtain ⟨d, e, a⟩ := a.opt
  exact i v u G H2 x y d Q k.gh rx ry e fun w G' H' ex rw => a.done k ex rw
theorem OpD.or {f : Value -> Value -> Sem Value} {p q : D -> D -> Option D} (h : OpD X f p) (h' : OpD X f q) : OpD X f (fun x y => (p x y).orElse fun _ => q x y) := by
  obtain ⟨r, h1, i1⟩ := h
  obtain ⟨r', h2, i2⟩ := h'
  refine ⟨_, h1.or h2, fun v u G H x y d Q s rx ry e k => ?_⟩
  dsimp only at e
  cases z : p x y with
  | some d' =>
    rw [z] at e
    have e' : d' = d := Option.some.inj e
    subst e'
    exact .inl (i1 v u G H x y d' Q s rx ry z k)
  | none =>
    rw [z] at e
    exact .inr (i2 v u G H x y d Q s rx ry e k)
def oII (g : Int -> Int -> Option D) : D -> D -> Option D
  | .int i, .int j => g i j
  | _, _ => none
theorem ziS {g : Int -> Int -> Option D} {x y d : D} (e : oII g x y = some d) : ∃ i j, x = .int i /\ y = .int j /\ g i j = some d := by
  unfold oII at e
  split at e
  · exact ⟨_, _, rfl, rfl, e⟩
  · cases e
theorem OpD.int {f : Value -> Value -> Sem Value} {C : Int -> Int -> Prop} {g : Int -> Int -> V} {p : Int -> Int -> Option D} (h : OpR X f (rI C g)) (i : ∀ i j d, p i j = some d -> C i j /\ ∀ G, Rep X.K G (g i j) d) : OpD X f (oII p) := by
  refine ⟨_, h, fun v u G H x y d Q s rx ry e k => ?_⟩
  obtain ⟨a, b, rfl, rfl, e⟩ := ziS e
  obtain ⟨c, r⟩ := i a b d e
  exact ⟨a, b, rx.int_inv, ry.int_inv, c, k _ G H (.refl s) (r G)⟩
theorem OpD.int0 {f : Value -> Value -> Sem Value} {g : Int -> Int -> V} {p : Int -> Int -> D} (h : OpR X f (rI0 g)) (i : ∀ i j G, Rep X.K G (g i j) (p i j)) : OpD X f (oII fun i j => some (p i j)) := by
  refine ⟨_, h, fun v u G H x y d Q s rx ry e k => ?_⟩
  obtain ⟨a, b, rfl, rfl, e⟩ := ziS e
  cases e
  exact ⟨a, b, rx.int_inv, ry.int_inv, k _ G H (.refl s) (i a b G)⟩
end
end DL
set_option Elab.async false
set_option linter.all false
set_option maxRecDepth 100000
set_option maxHeartbeats 4000000
namespace DL
open PySem PySem.Spec L2
open PyProof.Rows hiding St
section
variable {X : Cx} {B G0 : Hp} {e a b c : Expr} {pos : Pos}
theorem znW : OpD X (binaryOp .Add) (oII fun i j => some (.int (i + j))) := .int0 znG fun _ _ _ => .int _
theorem znX : OpD X (binaryOp .Sub) (oII fun i j => some (.int (i - j))) := .int0 znH fun _ _ _ => .int _
def gMul (i j : Int) : Option D := if (-(2 ^ 64) < i /\ i < 2 ^ 64) ∨ (-(2 ^ 64) < j /\ j < 2 ^ 64) then some (.int (i * j)) else none
theorem zmh : OpD X (binaryOp .Mult) (oII gMul) := .int znI fun i j d h => by
  unfold gMul at h
  split at h
  · rename_i c
    cases h
    exact ⟨c, fun _ => .int _⟩
  · cases h
def gMod (i j : Int) : Option D := if 0 < j then some (.int (i % j)) else none
theorem znY : OpD X (binaryOp .Mod) (oII gMod) := .int znJ fun i j d h => by
  unfold gMod at h
  split at h
  · rename_i c
    cases h
    exact ⟨c, fun _ => .int _⟩
  · cases h
theorem zkv : OpR X (binaryOp .FloorDiv) (rI (fun i j => 0 < j /\ j < 2 ^ 64) fun i j => .int (i / j)) := opI fun i j _ _ _ _ _ hc q => by
  have h1 : (0 : Int) < j := hc.1
  have h2 : j < 2 ^ 64 := hc.2
  refine floordiv_int (by omega) (by rw [Int.fdiv_eq_ediv_of_nonneg i (by omega)]; exact q) (.inl (PyProof.noPylong_of_log2 ?_))
  have h0 : j.natAbs ≠ 0 := by omega
  have : j.natAbs.log2 < 64 := (Nat.log2_lt h0).mpr (by omega)
  omega
def gDiv (i j : Int) : Option D := if 0 < j /\ j < 2 ^ 64 then some (.int (i / j)) else none
theorem znZ : OpD X (binaryOp .FloorDiv) (oII gDiv) := .int zkv fun i j d h => by
  unfold gDiv at h
  split at h
  · rename_i c
    cases h
    exact ⟨c, fun _ => .int _⟩
  · cases h
def gPow (i j : Int) : Option D := if 0 <= j /\ j <= 1000000 /\ i.natAbs < 2 ^ 64 then some (.int (i ^ j.toNat)) else none
theorem zn0 : OpD X (binaryOp .Pow) (oII gPow) := .int znK fun i j d h => by
  unfold gPow at h
  split at h
  · rename_i c
    cases h
    exact ⟨c, fun _ => .int _⟩
  · cases h
theorem lim : (1000000 : Nat) <= sizeLine := by decide
def zkw : D -> D -> Option D
  | .str x, .str y => if x.length + y.length <= 1000000 then some (.str (x ++ y)) else none
  | _, _ => none
theorem zmi : OpD X (binaryOp .Add) zkw := by
  refine ⟨_, zhS, fun v u G H x y d Q s rx ry e k => ?_⟩
  unfold zkw at e
  split at e
  · split at e
    · rename_i c
      cases e
      exact ⟨_, _, rx.str_inv, ry.str_inv, Nat.le_trans c lim, k _ G H (.refl s) (.str _)⟩
    · cases e
  · cases e
def zpL (K : PySem.W.Frag) : R2 := fun x y H Q => ∃ l b xs zs, x = .ref l /\ y = .ref b /\ SqL K H l xs /\ SqL K H b zs /\ xs.length + zs.length <= sizeLine /\ ∀ p, H p = none -> Q (.ref p) (upd H p (.lst (xs ++ zs)))
theorem zmj : OpR X (binaryOp .Add) (zpL X.K) := by
  intro pins s σ H x y v u Q I rx ry h
  obtain ⟨l, b, xs, zs, rfl, rfl, hH, hB, hz, q⟩ := h
  cases rx
  cases ry
  obtain ⟨its, r, ⟨⟨c1, d1, t1, s1⟩, n1, e1, ec1, ed1, et1⟩, z1⟩ := I.list hH
  obtain ⟨its2, r2, ⟨⟨c2, d2, t2, s2⟩, n2, e2, ec2, ed2, et2⟩, z2⟩ := I.list hB
  simp only at ec1 ed1 et1 ec2 ed2 et2
  subst ec1 ed1 et1 ec2 ed2 et2
  have hl := r.length
  have hl2 := r2.length
  refine concat_meets ⟨_, e1, rfl⟩ ⟨_, e2, rfl⟩ noFill_list_add seq_list_add PySem.F.slot_list_add PySem.F.entry_list_add (PySem.F.args_list_add_2 _ _) (list_addW l b its.toArray its2.toArray n1 n2 none none s1 s2 (by rw [List.size_toArray, List.size_toArray]; omega)) ⟨e1, e2, ?_⟩
  have ea : its.toArray ++ its2.toArray = (its ++ its2).toArray := by simp
  rw [ea]
  exact ⟨.ref _, _, I.lnew (t' := s.toks) (r.append r2) (by rw [List.length_append]; omega), rfl, q _ I.fresh⟩
theorem zpM (a : Int) (t : Tok) (l : Addr) (items : Array Value) (n : Nat) (sl : Array (Option Value)) :
    Meets (Builtin.«int.__rmul__» ⟨[.int a t, .ref l], []⟩) (fun _ R s => s.heap.get? l = some { cls := .type "list", dict := none, data := .seq items n, slots := sl } /\ R (.ok (.ret Value.notImplemented)) s) :=
  .of_wp fun prog w A R s h => by obtain ⟨hp, g, d, tk, os⟩ := s; obtain ⟨hl, h⟩ := h; wp_walk; exact ⟨_, rfl, h⟩
theorem mulW (l : Addr) (items : Array Value) (n : Nat) (x : Int) (u : Tok) (sl : Array (Option Value)) (hc0 : ¬(!Builtin.List.listFitsIndex x) = true) (hc1 : ¬items.size * x.toNat > (2 ^ 63 - 1) / 8) (hc2 : ¬Builtin.List.listTooLong (items.size * x.toNat) = true) :
    Meets (Builtin.«list.__mul__» ⟨[.ref l, .int x u], []⟩) (fun _ R s => s.heap.get? l = some { cls := .type "list", dict := none, data := .seq items n, slots := sl } /\ R (.ok (.ret (Value.ref s.heap.objs.size))) { s with heap := s.heap.push { cls := Value.type "list", data := Data.seq (List.foldl (fun x1 x2 => x1 ++ x2) #[] (List.replicate (if items.isEmpty = true then 0 else x.toNat) items)) }, toks := s.toks }) :=
  .of_wp fun prog w A R s h => by
    obtain ⟨hp, g, d, tk, os⟩ := s; obtain ⟨hl, h⟩ := h
    have hsz := AutoListH.joined_fits hc2
    wp_walk; refine wpAny_ite_false (decide_eq_false (Nat.not_lt.mpr hsz)) ?_; wp_walk; exact ⟨_, rfl, h⟩
def zpN (K : PySem.W.Frag) : R2 := fun x y H Q => ∃ l k xs, x = .ref l /\ y = .int k /\ SqL K H l xs /\ -(2 ^ 63) <= k /\ k < 2 ^ 63 /\ xs.length * k.toNat <= sizeLine /\
  ∀ p, H p = none -> Q (.ref p) (upd H p (.lst (List.replicate k.toNat xs).flatten))
theorem ziT : OpR X (binaryOp .Mult) (zpN X.K) := by
  intro pins s σ H x y v u Q I rx ry h
  obtain ⟨l, k, xs, rfl, rfl, hH, h1, h2, hz, q⟩ := h
  cases rx
  obtain ⟨t, rfl⟩ := ry
  obtain ⟨its, r, ⟨⟨c1, d1, t1, sl⟩, n, e, ec1, ed1, et1⟩, z⟩ := I.list hH
  simp only at ec1 ed1 et1
  subst ec1 ed1 et1
  have hl := r.length
  have hlen : its.toArray.size * k.toNat <= sizeLine := by rw [List.size_toArray, ← hl]; exact hz
  have hcap : ¬ its.toArray.size * k.toNat > (2 ^ 63 - 1) / 8 := by
    have : (sizeLine : Nat) <= (2 ^ 63 - 1) / 8 := by decide
    omega
  have hfit : ¬ (!Builtin.List.listFitsIndex k) = true := by
    rw [fitsIndex_both h1 h2]
    exact Bool.false_ne_true
  have hlong : ¬ Builtin.List.listTooLong (its.toArray.size * k.toNat) = true := by
    rw [zkt hlen]
    exact Bool.false_ne_true
  have hnew : List.foldl (fun x1 x2 => x1 ++ x2) #[] (List.replicate (if its.toArray.isEmpty = true then 0 else k.toNat) its.toArray) = (List.replicate k.toNat its).flatten.toArray := by
    have f0 : ∀ m : Nat, List.foldl (fun x1 x2 => x1 ++ x2) #[] (List.replicate m its.toArray) = (List.replicate m its).flatten.toArray := fun m => by
      have := zfD its m []
      rw [List.nil_append] at this
      exact this
    rw [f0]
    cases its with
    | nil => simp
    | cons a r' => rw [if_neg (by simp)]
  refine wpAny_binaryOp_repeat_ref (T := "list") (U := "int") (by decide) ⟨_, e, rfl⟩ (fun s' => typeIs_int s' k t) noFill_list_mul F.fills_int_mul F.slot_int_rmul repeat_list F.slot_int_index.lookup
    (call_meets F.slot_int_rmul (typeIs_int s k t) F.entry_int_rmul (F.args_int_rmul_2 _ _) (zpM k t l its.toArray n sl)
      ⟨e, rfl, ⟨_, e, rfl⟩, call_meets F.slot_list_mul ⟨_, e, rfl⟩ F.entry_list_mul (F.args_list_mul_2 _ _) (mulW l its.toArray n k t sl hfit hcap hlong) ⟨e, ?_⟩⟩)
  rw [hnew]
  exact ⟨.ref _, _, I.lnew (t' := s.toks) (r.rep k.toNat) (by rw [zme, Nat.mul_comm]; exact hz), rfl, q _ I.fresh⟩
def zkx : D -> D -> Option D
  | .list x, .list y => if x.length + y.length <= 1000000 then some (.list (x ++ y)) else none
  | _, _ => none
theorem zmk : OpD X (binaryOp .Add) zkx := by
  refine ⟨_, zmj, fun v u G H x y d Q s rx ry e k => ?_⟩
  unfold zkx at e
  split at e
  · split at e
    · rename_i c
      cases e
      obtain ⟨l, vs, rfl, h1, r1⟩ := rx.lst_inv
      obtain ⟨b, ws, rfl, h2, r2⟩ := ry.lst_inv
      refine ⟨l, b, vs, ws, rfl, rfl, s.seq h1, s.seq h2, by rw [r1.length, r2.length]; exact Nat.le_trans c lim, fun p hp => k _ _ _ (Ext.new s hp) ?_⟩
      exact .lst (SqL.of zaH) ((r1.append r2).mono (zaK (s.free hp)))
    · cases e
  · cases e
theorem Reps.rep {K : PySem.W.Frag} {G : Hp} {vs : List V} {ds : List D} (r : Reps K G vs ds) : ∀ n : Nat, Reps K G (List.replicate n vs).flatten (List.replicate n ds).flatten
  | 0 => .nil
  | n + 1 => by rw [List.replicate_succ, List.replicate_succ, List.flatten_cons, List.flatten_cons]; exact r.append (r.rep n)
def zky : D -> D -> Option D
  | .list x, .int k => if -1000000 <= k /\ k <= 1000000 /\ x.length * k.toNat <= 1000000 then some (.list (List.replicate k.toNat x).flatten) else none
  | _, _ => none
theorem zml : OpD X (binaryOp .Mult) zky := by
  refine ⟨_, ziT, fun v u G H x y d Q s rx ry e k => ?_⟩
  unfold zky at e
  split at e
  · split at e
    · rename_i c
      cases e
      obtain ⟨l, vs, rfl, h1, r1⟩ := rx.lst_inv
      refine ⟨l, _, vs, rfl, ry.int_inv, s.seq h1, by omega, by omega, by rw [r1.length]; exact Nat.le_trans c.2.2 lim, fun p hp => k _ _ _ (Ext.new s hp) ?_⟩
      exact .lst (SqL.of zaH) ((r1.rep _).mono (zaK (s.free hp)))
    · cases e
  · cases e
def oAdd : D -> D -> Option D
  | .int i, .int j => some (.int (i + j))
  | .str x, .str y => if x.length + y.length <= 1000000 then some (.str (x ++ y)) else none
  | .list x, .list y => if x.length + y.length <= 1000000 then some (.list (x ++ y)) else none
  | _, _ => none
def oSub : D -> D -> Option D
  | .int i, .int j => some (.int (i - j))
  | _, _ => none
def oMul : D -> D -> Option D
  | .int i, .int j => gMul i j
  | .list x, .int k => if -1000000 <= k /\ k <= 1000000 /\ x.length * k.toNat <= 1000000 then some (.list (List.replicate k.toNat x).flatten) else none
  | _, _ => none
def oMod : D -> D -> Option D
  | .int i, .int j => gMod i j
  | _, _ => none
def oDiv : D -> D -> Option D
  | .int i, .int j => gDiv i j
  | _, _ => none
def oPow : D -> D -> Option D
  | .int i, .int j => gPow i j
  | _, _ => none
theorem OpD.congr {f : Value -> Value -> Sem Value} {p q : D -> D -> Option D} (h : OpD X f p) (e : ∀ x y, q x y = p x y) : OpD X f q := by
  have : q = p := by funext x y; exact e x y
  rw [this]; exact h
theorem zbA : OpD X (binaryOp .Add) oAdd := (znW.or (zmi.or zmk)).congr fun x y => by cases x <;> cases y <;> first | rfl | (simp only [oAdd, oII, zkw, zkx, Option.orElse]; done) | (simp only [oAdd, oII, zkw, zkx, Option.orElse]; split <;> rfl)
theorem zfE : OpD X (binaryOp .Sub) oSub := znX.congr fun x y => by cases x <;> cases y <;> rfl
theorem zdz : OpD X (binaryOp .Mult) oMul := (zmh.or zml).congr fun x y => by
  cases x <;> cases y <;> first | rfl | (simp only [oMul, oII, zky, Option.orElse]; done) | (simp only [oMul, oII, zky, Option.orElse]; split <;> first | rfl | assumption)
theorem zdV : OpD X (binaryOp .Mod) oMod := znY.congr fun x y => by cases x <;> cases y <;> rfl
theorem zn1 : OpD X (binaryOp .FloorDiv) oDiv := znZ.congr fun x y => by cases x <;> cases y <;> rfl
theorem zpO : OpD X (binaryOp .Pow) oPow := zn0.congr fun x y => by cases x <;> cases y <;> rfl
end
end DL
set_option Elab.async false
set_option linter.all false
set_option maxRecDepth 100000
set_option maxHeartbeats 4000000
namespace DL
open PySem PySem.Spec L2
open PyProof.Rows hiding St
section
variable {X : Cx} {B G0 : Hp} {e a b c : Expr} {pos : Pos}
def OpB (X : Cx) (f : Value -> Value -> Sem Value) (op : D -> D -> Option Bool) : Prop :=
  ∃ r : R2, OpR X f r /\ ∀ v u G H x y d Q, Same G H -> Rep X.K G v x -> Rep X.K G u y -> op x y = some d -> Q (.bl d) H -> r v u H Q
theorem OpB.or {f : Value -> Value -> Sem Value} {p q : D -> D -> Option Bool} (h : OpB X f p) (h' : OpB X f q) : OpB X f (fun x y => (p x y).orElse fun _ => q x y) := by
  obtain ⟨r, h1, i1⟩ := h
  obtain ⟨r', h2, i2⟩ := h'
  refine ⟨_, h1.or h2, fun v u G H x y d Q s rx ry e k => ?_⟩
  dsimp only at e
  cases z : p x y with
  | some d' =>
    rw [z] at e
    have e' : d' = d := Option.some.inj e
    subst e'
    exact .inl (i1 v u G H x y d' Q s rx ry z k)
  | none =>
    rw [z] at e
    exact .inr (i2 v u G H x y d Q s rx ry e k)
theorem OpB.congr {f : Value -> Value -> Sem Value} {p q : D -> D -> Option Bool} (h : OpB X f p) (e : ∀ x y, q x y = p x y) : OpB X f q := by
  have : q = p := by funext x y; exact e x y
  rw [this]; exact h
theorem zb7 {op : CmpOp} {p : D -> D -> Option Bool} {f g : M D} (o : OpB X (compareOp op) p) (ha : PE X a (tD X.K B G0 f)) (hb : PE X b (tD X.K B G0 g)) (hm : behindInMarks op b = false) :
    PT X (.Compare a [op] [b] pos) (tBo X.K B G0 (dBin p f g)) := by
  obtain ⟨r, h, i⟩ := o
  refine ptof (zgt h ha hb hm) fun σ H Q q => ?_
  refine tM.two q fun v u H2 G ρ x y k rx ry a => ?_
  obtain ⟨d, e, a⟩ := a.opt
  exact i v u G H2 x y d _ k.gh rx ry e ⟨d, rfl, a.now k rfl⟩
def mMap {α β : Type} (h : α -> β) (f : M α) : M β := zas f fun x => zah (h x)
theorem tM.map {K : PySem.W.Frag} {α β γ δ : Type} {R : Hp -> γ -> α -> Prop} {S : Hp -> δ -> β -> Prop} {σ : St} {H : Hp} {h : α -> β} {f : M α} {Q : δ -> Hp -> Prop} (j : γ -> δ) (q : tM K B G0 S (mMap h f) σ H Q)
    (i : ∀ G v x, R G v x -> S G (j v) (h x)) : tM K B G0 R f σ H (fun v H' => Q (j v) H') :=
  tM.one (R := R) (f := f) q fun v H2 G ρ x k r a => aft.now (show aft K B G0 S (.ok (h x) ρ) G σ Q from a) k (i G v x r)
theorem tBo.val {K : PySem.W.Frag} {σ : St} {H : Hp} {f : M Bool} {Q : VK} (q : tD K B G0 (mMap PyData.bool f) σ H Q) : tBo K B G0 f σ H (fun b H' => Q (.bl b) H') :=
  tM.map (R := fun _ b c => b = c) V.bl q fun G v x e => by rw [e]; exact .bl x
theorem zgx {op : CmpOp} {p : D -> D -> Option Bool} {f g : M D} (o : OpB X (compareOp op) p) (ha : PE X a (tD X.K B G0 f)) (hb : PE X b (tD X.K B G0 g)) (hm : behindInMarks op b = false) :
    PE X (.Compare a [op] [b] pos) (tD X.K B G0 (mMap PyData.bool (dBin p f g))) := by
  obtain ⟨r, h, i⟩ := o
  refine peof (ziI h ha hb hm) fun σ H Q q => ?_
  refine tM.two (tBo.val q) fun v u H2 G ρ x y k rx ry a => ?_
  obtain ⟨d, e, a⟩ := a.opt
  exact i v u G H2 x y d _ k.gh rx ry e (a.now k rfl)
def zdL (p q : D -> D -> Option Bool) (f g h : M D) : M Bool := zas f fun x => zas g fun y => zas (mOpt (p x y)) fun t => if t = true then zas h fun z => mOpt (q y z) else zah false
theorem zfF {op op' : CmpOp} {p q : D -> D -> Option Bool} {f g h : M D} (o : OpB X (compareOp op) p) (o' : OpB X (compareOp op') q) (ha : PE X a (tD X.K B G0 f)) (hb : PE X b (tD X.K B G0 g)) (hc : PE X c (tD X.K B G0 h))
    (hm : lastMarks [op, op'] [b, c] = false := by with_unfolding_all rfl) : PT X (.Compare a [op, op'] [b, c] pos) (tBo X.K B G0 (zdL p q f g h)) := by
  obtain ⟨r, h1, i⟩ := o
  obtain ⟨r', h2, i'⟩ := o'
  refine ptof (zko h1 h2 ha hb hc hm) fun σ H Q w => ?_
  refine tM.two w fun v u H2 G ρ x y k rx ry a => ?_
  cases z : p x y with
  | none => rw [z] at a; exact a.elim
  | some t =>
    rw [z] at a
    refine i v u G H2 x y t _ k.gh rx ry z ⟨t, rfl, ?_⟩
    cases t with
    | false =>
      rw [if_neg Bool.false_ne_true]
      exact ⟨false, rfl, aft.now a k rfl⟩
    | true =>
      rw [if_pos rfl]
      refine ⟨G, ρ, k, ?_⟩
      have a4 : aft X.K B G0 (fun _ (b : Bool) c => b = c) ((zas h fun z => mOpt (q y z)) ρ) G σ Q := a
      unfold zas at a4
      cases z2 : h ρ with
      | bad => rw [z2] at a4; exact a4.elim
      | ok d ρ1 =>
        rw [z2] at a4
        intro w G5 H5 k5 s5 r5
        obtain ⟨t2, e2, a6⟩ := a4.opt
        exact i' u w G5 H5 y d t2 _ k5.gh (ry.mono s5) r5 e2 ⟨t2, rfl, a6 t2 G5 H5 k5 s5 rfl⟩
theorem zfG {op op' : CmpOp} {p q : D -> D -> Option Bool} {f g h : M D} (o : OpB X (compareOp op) p) (o' : OpB X (compareOp op') q) (ha : PE X a (tD X.K B G0 f)) (hb : PE X b (tD X.K B G0 g)) (hc : PE X c (tD X.K B G0 h))
    (hm : lastMarks [op, op'] [b, c] = false := by with_unfolding_all rfl) : PE X (.Compare a [op, op'] [b, c] pos) (tD X.K B G0 (mMap PyData.bool (zdL p q f g h))) := by
  obtain ⟨r, h1, i⟩ := o
  obtain ⟨r', h2, i'⟩ := o'
  refine peof (zkn h1 h2 ha hb hc hm) fun σ H Q w => ?_
  refine tM.two (tBo.val w) fun v u H2 G ρ x y k rx ry a => ?_
  cases z : p x y with
  | none => rw [z] at a; exact a.elim
  | some t =>
    rw [z] at a
    refine i v u G H2 x y t _ k.gh rx ry z ⟨t, rfl, ?_⟩
    cases t with
    | false =>
      rw [if_neg Bool.false_ne_true]
      exact aft.now (v := false) a k rfl
    | true =>
      rw [if_pos rfl]
      refine ⟨G, ρ, k, ?_⟩
      have a4 : aft X.K B G0 (fun _ (b : Bool) c => b = c) ((zas h fun z => mOpt (q y z)) ρ) G σ (fun b H' => Q (.bl b) H') := a
      unfold zas at a4
      cases z2 : h ρ with
      | bad => rw [z2] at a4; exact a4.elim
      | ok d ρ1 =>
        rw [z2] at a4
        intro w G5 H5 k5 s5 r5
        obtain ⟨t2, e2, a6⟩ := a4.opt
        exact i' u w G5 H5 y d t2 _ k5.gh (ry.mono s5) r5 e2 (a6 t2 G5 H5 k5 s5 rfl)
def oIB (g : Int -> Int -> Bool) : D -> D -> Option Bool
  | .int i, .int j => some (g i j)
  | _, _ => none
theorem OpB.int {f : Value -> Value -> Sem Value} {g : Int -> Int -> Bool} (h : OpR X f (rI0 fun i j => .bl (g i j))) : OpB X f (oIB g) := by
  refine ⟨_, h, fun v u G H x y d Q s rx ry e k => ?_⟩
  unfold oIB at e
  split at e
  · cases e
    exact ⟨_, _, rx.int_inv, ry.int_inv, k⟩
  · cases e
theorem B_lt : OpB X (compareOp .Lt) (oIB fun i j => decide (i < j)) := .int zpB
theorem B_le : OpB X (compareOp .LtE) (oIB fun i j => decide (i <= j)) := .int zpC
theorem B_gt : OpB X (compareOp .Gt) (oIB fun i j => decide (j < i)) := .int zpD
theorem B_ge : OpB X (compareOp .GtE) (oIB fun i j => decide (j <= i)) := .int zpE
mutual
theorem zbl {pins : List (Addr × Obj)} {s : Shared} {σ : St} {G H : Hp} (I : Inv X pins σ H s) (sg : Same G H) : ∀ {v : V} {d : D} {u : Value}, Rep X.K G v d -> RelV v u -> d.canLay0 = true -> ∃ as, Reads s.heap u d as
  | _, _, _, .non, r, _ => by cases r; exact ⟨_, .none⟩
  | _, _, _, .bl b, r, _ => by cases r; exact ⟨_, .bool b⟩
  | _, _, _, .int i, r, _ => by obtain ⟨t, rfl⟩ := r; exact ⟨_, .int i t⟩
  | _, _, _, .str x, r, _ => by obtain ⟨t, rfl⟩ := r; exact ⟨_, .str x t⟩
  | _, _, _, .lst h q, r, c => by
    cases r
    obtain ⟨its, rv, ⟨o, n, e, hc, _, hd⟩, hz⟩ := I.list (sg.seq h)
    obtain ⟨as, ra⟩ := readsAll_of I sg q rv (show PyData.canLayAll0 _ = true by simpa [PyData.canLay0] using c)
    exact ⟨_, .list e hc hd (by simpa using ra)⟩
  | _, _, _, .tup h q, r, c => by
    cases r
    obtain ⟨its, rv, p, hz⟩ := I.tuple (zdg sg h)
    obtain ⟨o, e, hc, n, hd⟩ := p
    obtain ⟨as, ra⟩ := readsAll_of I sg q rv (show PyData.canLayAll0 _ = true by simpa [PyData.canLay0] using c)
    exact ⟨_, .tuple e hc hd (by simpa using ra)⟩
  | _, _, _, .dic h, r, c => by simp [PyData.canLay0] at c
theorem readsAll_of {pins : List (Addr × Obj)} {s : Shared} {σ : St} {G H : Hp} (I : Inv X pins σ H s) (sg : Same G H) : ∀ {vs : List V} {ds : List D} {us : List Value}, Reps X.K G vs ds -> Vals vs us -> PyData.canLayAll0 ds = true -> ∃ as, ReadsAll s.heap us ds as
  | _, _, _, .nil, r, _ => by cases r; exact ⟨_, .nil⟩
  | _, _, _, .cons h t, r, c => by
    cases r with
    | cons r1 r2 =>
      have c' := c
      rw [PyData.canLayAll0, Bool.and_eq_true] at c'
      obtain ⟨as, ra⟩ := zbl I sg h r1 c'.1
      obtain ⟨bs, rb⟩ := readsAll_of I sg t r2 c'.2
      exact ⟨_, .cons ra rb⟩
end
def oEq (x y : D) : Option Bool := if x.canLay0 = true /\ y.canLay0 = true /\ x.depth <= 60 then some (PyData.eqv x y) else none
def oNe (x y : D) : Option Bool := if x.canLay0 = true /\ y.canLay0 = true /\ x.depth <= 60 then some (!PyData.eqv x y) else none
theorem B_eq (hu : X.A.units + 64 < cLine) : OpB X (compareOp .Eq) oEq := by
  refine ⟨fun v u H Q => ∃ G x y d, Same G H /\ Rep X.K G v x /\ Rep X.K G u y /\ oEq x y = some d /\ Q (.bl d) H, ?_, fun v u G H x y d Q s rx ry e k => ⟨G, x, y, d, s, rx, ry, e, k⟩⟩
  intro pins s σ H x y v u Q I rx ry ⟨G, dx, dy, d, sg, px, py, e, q⟩
  unfold oEq at e
  split at e
  · rename_i c
    cases e
    obtain ⟨as, ra⟩ := zbl I sg px rx c.1
    obtain ⟨bs, rb⟩ := zbl I sg py ry c.2.1
    exact SeqAt.compareEq_reads ra rb c.1 c.2.1 (by have := c.2.2; omega) ⟨.bl _, H, I, rfl, q⟩
  · cases e
theorem B_ne (hu : X.A.units + 64 < cLine) : OpB X (compareOp .NotEq) oNe := by
  refine ⟨fun v u H Q => ∃ G x y d, Same G H /\ Rep X.K G v x /\ Rep X.K G u y /\ oNe x y = some d /\ Q (.bl d) H, ?_, fun v u G H x y d Q s rx ry e k => ⟨G, x, y, d, s, rx, ry, e, k⟩⟩
  intro pins s σ H x y v u Q I rx ry ⟨G, dx, dy, d, sg, px, py, e, q⟩
  unfold oNe at e
  split at e
  · rename_i c
    cases e
    obtain ⟨as, ra⟩ := zbl I sg px rx c.1
    obtain ⟨bs, rb⟩ := zbl I sg py ry c.2.1
    exact SeqAt.compareNe_reads ra rb c.1 c.2.1 (by have := c.2.2; omega) ⟨.bl _, H, I, rfl, q⟩
  · cases e
def isNon : D -> Bool
  | .none => true
  | _ => false
theorem Rep.isNon {K : PySem.W.Frag} {G : Hp} {v : V} {d : D} (r : Rep K G v d) : DL.isNon d = decide (v = .non) := by
  cases r <;> simp [DL.isNon]
end
end DL
set_option Elab.async false
set_option linter.all false
set_option maxRecDepth 100000
set_option maxHeartbeats 4000000
namespace DL
open PySem PySem.Spec L2
open PyProof.Rows hiding St
section
variable {X : Cx} {B G0 : Hp} {e a b c : Expr} {pos : Pos} {es rest : List Expr}
theorem tM.nx {K : PySem.W.Frag} {α β γ δ : Type} {R : Hp -> γ -> α -> Prop} {S : Hp -> δ -> β -> Prop} {σ : St} {G H : Hp} {ρ : DEnv} {f : M α} {g : α -> M β} {Q : δ -> Hp -> Prop} {P : γ -> Hp -> Prop}
    (k : EOk K B G0 G H σ ρ) (a : aft K B G0 S (zas f g ρ) G σ Q) (i : ∀ v H' G' ρ' x, EOk K B G0 G' H' σ ρ' -> Same G G' -> R G' v x -> aft K B G0 S (g x ρ') G' σ Q -> P v H') : tM K B G0 R f σ H P := by
  refine ⟨G, ρ, k, ?_⟩
  unfold zas at a
  cases q : f ρ with
  | bad => rw [q] at a; exact a.elim
  | ok d ρ1 =>
    rw [q] at a
    exact fun v G' H' e s r => i v H' G' ρ1 d e s r (aft.mono s a)
def mAnd (f g : M Bool) : M Bool := zas f fun t => if t = true then g else zah false
def mOr (f g : M Bool) : M Bool := zas f fun t => if t = true then zah true else g
def mNot (f : M Bool) : M Bool := mMap (fun t => !t) f
theorem zmm {K : PySem.W.Frag} {f g : M Bool} {σ : St} {H : Hp} {Q : Bool -> Hp -> Prop} (q : tBo K B G0 (mAnd f g) σ H Q) : tAnd (tBo K B G0 f) (tBo K B G0 g) σ H Q :=
  tM.one (R := fun _ b c => b = c) q fun v H2 G ρ x k r a => by
    have r : v = x := r
    subst r
    cases v with
    | true => exact ⟨G, ρ, k, a⟩
    | false => exact aft.now (v := false) a k rfl
theorem zn2 {K : PySem.W.Frag} {f g : M Bool} {σ : St} {H : Hp} {Q : Bool -> Hp -> Prop} (q : tBo K B G0 (mOr f g) σ H Q) : tOr (tBo K B G0 f) (tBo K B G0 g) σ H Q :=
  tM.one (R := fun _ b c => b = c) q fun v H2 G ρ x k r a => by
    have r : v = x := r
    subst r
    cases v with
    | false => exact ⟨G, ρ, k, a⟩
    | true => exact aft.now (v := true) a k rfl
theorem pwof {t t' : TT} (h : PW X e t) (i : ∀ σ H Q, t' σ H Q -> t σ H Q) : PW X e t' := fun wh pins s σ H Q I q => h wh pins s σ H Q I (i σ H Q q)
theorem zdY {f : M Bool} (ha : PT X a (tBo X.K B G0 f)) : PW X (.BoolOp .And [a] pos) (tBo X.K B G0 f) := zl1 ha
theorem zcm {f : M Bool} (ha : PT X a (tBo X.K B G0 f)) : PW X (.BoolOp .Or [a] pos) (tBo X.K B G0 f) := znt ha
theorem ze4 {f g : M Bool} (ha : PT X a (tBo X.K B G0 f)) (hb : PW X (.BoolOp .And (b :: rest) pos) (tBo X.K B G0 g)) : PW X (.BoolOp .And (a :: b :: rest) pos) (tBo X.K B G0 (mAnd f g)) := pwof (znu ha hb) fun _ _ _ q => zmm q
theorem zc5 {f g : M Bool} (ha : PT X a (tBo X.K B G0 f)) (hb : PW X (.BoolOp .Or (b :: rest) pos) (tBo X.K B G0 g)) : PW X (.BoolOp .Or (a :: b :: rest) pos) (tBo X.K B G0 (mOr f g)) := pwof (zpp ha hb) fun _ _ _ q => zn2 q
theorem zba {f : M Bool} (ha : PT X a (tBo X.K B G0 f)) : PT X (.UnaryOp .Not a pos) (tBo X.K B G0 (mNot f)) := ptof (znv ha) fun σ H Q q => tM.map (R := fun _ b c => b = c) (fun t => !t) q fun _ v x e => by rw [e]
def zbk (f : M D) : M Bool := zas f fun x => match x with | .bool t => zah t | _ => fun _ => .bad
theorem zbh {f : M D} (h : PE X e (tD X.K B G0 f)) (he : ∀ whole, isTrue e X.env whole = (do let v ← whole; standAt e.pos; holding [v] (truthy v)) := by intro _; rfl) : PT X e (tBo X.K B G0 (zbk f)) :=
  ptof (zns h he) fun σ H Q q => tM.one (R := Rep X.K) q fun v H2 G ρ x k r a => by
    cases x with
    | bool t => exact ⟨t, r.bl_inv, aft.now (v := t) a k rfl⟩
    | _ => exact a.elim
def ze5 (f g : M D) : M D := zas f fun x => match x with | .bool true => g | .bool false => zah (.bool false) | _ => fun _ => .bad
def mOrV (f g : M D) : M D := zas f fun x => match x with | .bool true => zah (.bool true) | .bool false => g | _ => fun _ => .bad
def ziU (f : M D) : M D := zas f fun x => match x with | .bool t => zah (.bool (!t)) | _ => fun _ => .bad
theorem zdA {f g : M D} (ha : PE X a (tD X.K B G0 f)) (hb : PE X (.BoolOp .And (b :: rest) pos) (tD X.K B G0 g)) : PE X (.BoolOp .And (a :: b :: rest) pos) (tD X.K B G0 (ze5 f g)) :=
  peof (znx ha hb) fun σ H Q q => tM.one (R := Rep X.K) q fun v H2 G ρ x k r a => by
    cases x with
    | bool t =>
      refine ⟨t, r.bl_inv, ?_⟩
      cases t with
      | true => exact ⟨G, ρ, k, a⟩
      | false => exact aft.now a k (.bl false)
    | _ => exact a.elim
theorem zlK {f g : M D} (ha : PE X a (tD X.K B G0 f)) (hb : PE X (.BoolOp .Or (b :: rest) pos) (tD X.K B G0 g)) : PE X (.BoolOp .Or (a :: b :: rest) pos) (tD X.K B G0 (mOrV f g)) :=
  peof (zps ha hb) fun σ H Q q => tM.one (R := Rep X.K) q fun v H2 G ρ x k r a => by
    cases x with
    | bool t =>
      refine ⟨t, r.bl_inv, ?_⟩
      cases t with
      | false => exact ⟨G, ρ, k, a⟩
      | true => exact aft.now a k (.bl true)
    | _ => exact a.elim
theorem zcN {op} {f : M D} (h : PE X a (tD X.K B G0 f)) : PE X (.BoolOp op [a] pos) (tD X.K B G0 f) := znw h
theorem ziV {f : M D} (ha : PE X a (tD X.K B G0 f)) : PE X (.UnaryOp .Not a pos) (tD X.K B G0 (ziU f)) :=
  peof (zny ha) fun σ H Q q => tM.one (R := Rep X.K) q fun v H2 G ρ x k r a => by
    cases x with
    | bool t => exact ⟨t, r.bl_inv, aft.now a k (.bl _)⟩
    | _ => exact a.elim
def mIf {α : Type} (f : M Bool) (g h : M α) : M α := zas f fun t => if t = true then g else h
theorem ziW {f : M Bool} {g h : M D} (hc : PT X c (tBo X.K B G0 f)) (ha : PE X a (tD X.K B G0 g)) (hb : PE X b (tD X.K B G0 h)) : PE X (.IfExp c a b pos) (tD X.K B G0 (mIf f g h)) :=
  peof (zki hc ha hb) fun σ H Q q => tM.one (R := fun _ b c => b = c) q fun v H2 G ρ x k r a => by
    have r : v = x := r
    subst r
    cases v with
    | true => exact ⟨G, ρ, k, a⟩
    | false => exact ⟨G, ρ, k, a⟩
theorem zgy {f : M D} {j p2} (ha : PE X a (tD X.K B G0 f)) : PT X (.Compare a [.Is] [.Constant .none j p2] pos) (tBo X.K B G0 (mMap isNon f)) :=
  ptof (zlE (zlD ha)) fun σ H Q q => tM.one (R := Rep X.K) q fun v H2 G ρ x k r a => ⟨_, rfl, aft.now a k (by rw [r.isNon])⟩
theorem zcv {f : M D} {j p2} (ha : PE X a (tD X.K B G0 f)) : PT X (.Compare a [.IsNot] [.Constant .none j p2] pos) (tBo X.K B G0 (mMap (fun d => !isNon d) f)) :=
  ptof (zlE (zl0 ha)) fun σ H Q q => tM.one (R := Rep X.K) q fun v H2 G ρ x k r a => ⟨_, rfl, aft.now a k (by dsimp only; rw [r.isNon])⟩
theorem zmn {f : M D} {j p2} (ha : PE X a (tD X.K B G0 f)) : PE X (.Compare a [.Is] [.Constant .none j p2] pos) (tD X.K B G0 (mMap (fun d => .bool (isNon d)) f)) :=
  peof (znr (zlD ha)) fun σ H Q q => tM.one (R := Rep X.K) q fun v H2 G ρ x k r a => aft.now a k (by dsimp only; rw [r.isNon]; exact .bl _)
def mNil : M (List D) := zah []
def zaf (f : M D) (g : M (List D)) : M (List D) := zas f fun x => zas g fun xs => zah (x :: xs)
theorem zai : PA X [] (tDs X.K B G0 mNil) := paof zd5 fun σ H Q ⟨G, ρ, k, a⟩ => aft.now a k .nil
theorem tM.twoA {K : PySem.W.Frag} {σ : St} {H : Hp} {f : M D} {g : M (List D)} {β δ : Type} {S : Hp -> δ -> β -> Prop} {k : D -> List D -> M β} {Q : δ -> Hp -> Prop} {P : V -> List V -> Hp -> Prop}
    (h : tM K B G0 S (zas f fun x => zas g fun y => k x y) σ H Q)
    (i : ∀ v u H2 G ρ x y, EOk K B G0 G H2 σ ρ -> Rep K G v x -> Reps K G u y -> aft K B G0 S (k x y ρ) G σ Q -> P v u H2) :
    tD K B G0 f σ H (fun v H1 => tDs K B G0 g σ H1 fun u H2 => P v u H2) := by
  obtain ⟨G, ρ, e, a⟩ := tM.bind2 (R := Rep K) (R' := Reps K) ziR h
  refine ⟨G, ρ, e, ?_⟩
  cases q : f ρ with
  | bad => rw [q] at a; exact a.elim
  | ok d ρ1 =>
    rw [q] at a
    intro v G' H' e' s r
    obtain ⟨x, G2, ρ2, e2, a2⟩ := a v G' H' e' s r
    refine ⟨G2, ρ2, e2, ?_⟩
    cases q2 : g ρ2 with
    | bad => rw [q2] at a2; exact a2.elim
    | ok d3 ρ3 =>
      rw [q2] at a2
      intro u G3 H3 e3 s3 r3
      obtain ⟨G4, ρ4, y, e4, r4, r5, a5⟩ := a2 u G3 H3 e3 s3 r3
      exact i v u H3 G4 ρ4 x y e4 r4 r5 a5
theorem zaa {f : M D} {g : M (List D)} (ha : PE X e (tD X.K B G0 f)) (hr : PA X es (tDs X.K B G0 g)) (hs : starEach (e :: es) X.env = (false, eval e X.env) :: starEach es X.env := by rfl) :
    PA X (e :: es) (tDs X.K B G0 (zaf f g)) := paof (zcu ha hr hs) fun σ H Q q => tM.twoA q fun v u H2 G ρ x y k r1 r2 a => aft.now a k (.cons r1 r2)
def mTup (f : M (List D)) : M D := zas f fun xs => if xs.length <= 1000000 then zah (.tuple xs) else fun _ => .bad
def mLst (f : M (List D)) : M D := zas f fun xs => if xs.length <= 1000000 then zah (.list xs) else fun _ => .bad
theorem ze6 {x1} {f : M (List D)} (h : PA X es (tDs X.K B G0 f)) : PE X (.Tuple es x1 pos) (tD X.K B G0 (mTup f)) :=
  peof (znN h) fun σ H Q q => tM.one (R := Reps X.K) q fun v H2 G ρ x k r a => by
    split at a
    · rename_i c
      refine ⟨by rw [r.length]; exact Nat.le_trans c lim, fun p hp => ?_⟩
      exact aft.done a k (Ext.new k.gh hp) (.tup (SqT.of zaH) (r.mono (zaK (k.gh.free hp))))
    · exact a.elim
theorem zbb {f : M (List D)} (h : PA X es (tDs X.K B G0 f)) : PE X (.List es pos) (tD X.K B G0 (mLst f)) :=
  peof (zlI h) fun σ H Q q => tM.one (R := Reps X.K) q fun v H2 G ρ x k r a => by
    split at a
    · rename_i c
      refine ⟨by rw [r.length]; exact Nat.le_trans c lim, fun p hp => ?_⟩
      exact aft.done a k (Ext.new k.gh hp) (.lst (SqL.of zaH) (r.mono (zaK (k.gh.free hp))))
    · exact a.elim
def oIx : D -> D -> Option D
  | .list xs, .int i => atI xs i
  | .tuple xs, .int i => atI xs i
  | .str z, .int i => if z.length <= 1000000 then (atI z.cps.toList i).map fun c => .str ⟨#[c]⟩ else none
  | _, _ => none
theorem Reps.atI {K : PySem.W.Frag} {G : Hp} {vs : List V} {ds : List D} {i : Int} {d : D} (r : Reps K G vs ds) (h : L2.atI ds i = some d) : ∃ v, L2.atI vs i = some v /\ Rep K G v d := by
  unfold L2.atI at h ⊢
  rw [r.length]
  cases z : ixN ds.length i with
  | none => rw [z] at h; cases h
  | some j =>
    rw [z] at h
    exact r.get (i := j) h
theorem zlL {K : PySem.W.Frag} {v u : V} {G H : Hp} {x y d : D} {Q : VK} (s : Same G H) (rx : Rep K G v x) (ry : Rep K G u y) (e : oIx x y = some d) (k : ∀ w, Rep K G w d -> Q w H) : rIx K v u H Q := by
  unfold oIx at e
  split at e
  · obtain ⟨l, vs, rfl, h1, r1⟩ := rx.lst_inv
    obtain ⟨w, e1, r2⟩ := r1.atI e
    exact .inl ⟨l, vs, _, w, rfl, ry.int_inv, s.seq h1, e1, k w r2⟩
  · obtain ⟨l, vs, rfl, h1, r1⟩ := rx.tup_inv
    obtain ⟨w, e1, r2⟩ := r1.atI e
    exact .inr (.inl ⟨l, vs, _, w, rfl, ry.int_inv, zdg s h1, e1, k w r2⟩)
  · split at e
    · rename_i z i hz
      cases q : L2.atI z.cps.toList i with
      | none => rw [q] at e; cases e
      | some ch =>
        rw [q] at e
        cases e
        exact .inr (.inr ⟨z, i, ch, rx.str_inv, ry.int_inv, Nat.le_trans hz lim, q, k _ (.str _)⟩)
    · cases e
  · cases e
theorem zdM {f g : M D} (ha : PE X a (tD X.K B G0 f)) (hb : PE X b (tD X.K B G0 g)) (hs : zgw b) : PE X (.Subscript a b pos) (tD X.K B G0 (dBin oIx f g)) :=
  peof (znP zlJ ha hb hs) fun σ H Q q => tM.two q fun v u H2 G ρ x y k rx ry a => by
    obtain ⟨d, e, a⟩ := a.opt
    exact zlL k.gh rx ry e fun w r => a.now k r
def dIxN (i : Nat) (g : M D) : M D := fun ρ => match ρ[i]? with
  | some (some (.pub d)) => (zas g fun y => mOpt (oIx d y)) ρ
  | some (some (.own _)) => (zas g fun y => fun ρ' => match ρ'[i]? with | some (some (.own ds)) => mOpt (oIx (.list ds) y) ρ' | _ => .bad) ρ
  | _ => .bad
theorem zaz {i : Nat} {g : M D} (ha : PE X a (tVar i)) (hb : PE X b (tD X.K B G0 g)) (hs : zgw b) : PE X (.Subscript a b pos) (tD X.K B G0 (dIxN i g)) :=
  peof (znP zlJ ha hb hs) fun σ H Q ⟨G, ρ, k, a⟩ => by
    unfold dIxN at a
    cases q : ρ[i]? with
    | none => rw [q] at a; exact a.elim
    | some o =>
      cases o with
      | none => rw [q] at a; exact a.elim
      | some sl =>
        cases sl with
        | pub d =>
          rw [q] at a
          obtain ⟨v, h1, h2⟩ := k.pub i d q
          refine ⟨v, h1, G, ρ, k, ?_⟩
          dsimp only [zas] at a
          cases z : g ρ with
          | bad => rw [z] at a; exact a.elim
          | ok y ρ1 =>
            rw [z] at a
            intro u G' H' k' s' r'
            obtain ⟨d', e', a'⟩ := aft.opt a
            exact zlL k'.gh (h2.mono s') r' e' fun w r => a' w G' H' k' s' r
        | own ds =>
          rw [q] at a
          obtain ⟨ad, vs, h1, h2, h3, h4, h5⟩ := k.own i ds q
          refine ⟨.ref ad, h1, G, ρ, k, ?_⟩
          dsimp only [zas] at a
          cases z : g ρ with
          | bad => rw [z] at a; exact a.elim
          | ok y ρ1 =>
            rw [z] at a
            dsimp only at a
            intro u G' H' k' s' r'
            cases z2 : ρ1[i]? with
            | none => rw [z2] at a; exact a.elim
            | some o2 =>
              cases o2 with
              | none => rw [z2] at a; exact a.elim
              | some sl2 =>
                cases sl2 with
                | pub d2 => rw [z2] at a; exact a.elim
                | own es2 =>
                  rw [z2] at a
                  obtain ⟨d', e', a'⟩ := aft.opt a
                  obtain ⟨ad', vs', g1, g2, g3, g4, g5⟩ := k'.own i es2 z2
                  rw [h1] at g1
                  cases g1
                  unfold oIx at e'
                  cases y with
                  | int j =>
                    obtain ⟨w, e1, r2⟩ := g5.atI e'
                    exact .inl ⟨ad, vs', j, w, rfl, r'.int_inv, SqL.of g4, e1, a' w G' H' k' s' r2⟩
                  | _ => cases e'
def cutD (xs : List D) (lo hi : Option Int) : List D := (xs.drop (HT.sIx xs.length 0 lo)).take (HT.sIx xs.length xs.length hi - HT.sIx xs.length 0 lo)
theorem Reps.cut {K : PySem.W.Frag} {G : Hp} {vs : List V} {ds : List D} (r : Reps K G vs ds) (lo hi : Option Int) : Reps K G (cutV vs lo hi) (cutD ds lo hi) := by
  unfold cutV cutD
  rw [r.length]
  exact (r.drop _).take _
def zc2 : D -> Option (Option Int)
  | .int i => some (some i)
  | _ => none
theorem zcw : PO X none (tOi X.K B G0 (zah none)) := poof zl9 fun σ H Q ⟨G, ρ, k, a⟩ => aft.now a k rfl
theorem zbN {f : M D} (h : PE X e (tD X.K B G0 f)) : PO X (some e) (tOi X.K B G0 (zas f fun x => mOpt (zc2 x))) := poof (zma h) fun σ H Q q => tM.one (R := Rep X.K) q fun v H2 G ρ x k r a => by
  cases x with
  | int i => exact ⟨i, r.int_inv, aft.now (v := some i) a k rfl⟩
  | _ => exact a.elim
end
end DL
set_option Elab.async false
set_option linter.all false
set_option maxRecDepth 100000
set_option maxHeartbeats 4000000
namespace DL
open PySem PySem.Spec L2
open PyProof.Rows hiding St
def tyOf : D -> String
  | .none => "NoneType"
  | .bool _ => "bool"
  | .int _ => "int"
  | .str _ => "str"
  | .list _ => "list"
  | .tuple _ => "tuple"
  | .dict _ => "dict"
def isTy (d : D) (c : String) : Bool := tyOf d == c || (tyOf d == "bool" && c == "int")
theorem zmo (K : PySem.W.Frag) (d : D) (c : String) (hc : c = "int" ∨ c = "bool" ∨ c = "str" ∨ c = "list" ∨ c = "tuple" ∨ c = "dict") : PySem.W.kitOne K (.type (tyOf d)) (.type c) = some (isTy d c) := by
  rcases hc with rfl | rfl | rfl | rfl | rfl | rfl <;> cases d <;> rfl
section
variable {X : Cx} {B G0 : Hp} {e a b c : Expr} {pos : Pos} {es rest : List Expr}
def zc3 (X : Cx) (f : Value) (p : List D -> Option D) : Prop :=
  ∃ r, zc1 X f r /\ ∀ vs G H ds d Q, Same G H -> Reps X.K G vs ds -> p ds = some d -> (∀ w G' H', Ext G H G' H' -> Rep X.K G' w d -> Q w H') -> r vs H Q
def zbU (p : List D -> Option D) (f : M (List D)) : M D := zas f fun xs => mOpt (p xs)
theorem zaX {x : Str} {p2 : Pos} {id : String} {p : List D -> Option D} {f : M (List D)} (hc : zc3 X (.builtin id) p) (hg : Gl X x) (hm : X.mg x = none) (hv : bootBuiltins x = some (.builtin id)) (ha : PA X (e :: es) (tDs X.K B G0 f)) (hn : x ≠ "__name__" := by decide) (hdb : (x == ("__debug__" : Str)) = false := by decide)
    (he : starEach (e :: es) X.env = (false, eval e X.env) :: starEach es X.env := by rfl) (hpl : (backTo pos (starEach es X.env)).any (·.1) = false := by rfl) : PE X (.Call (.Name x p2) (e :: es) [] pos) (tD X.K B G0 (zbU p f)) := by
  obtain ⟨r, h, i⟩ := hc
  refine peof (zdX h hg hm hv ha hn hdb he hpl) fun σ H Q q => tM.one (R := Reps X.K) q fun v H2 G ρ x k rr a => ?_
  obtain ⟨d, e, a⟩ := a.opt
  exact i v G H2 x d Q k.gh rr e fun w G' H' ex rw => a.done k ex rw
theorem zhU {x : Str} {p2 : Pos} {T : String} {p : List D -> Option D} {f : M (List D)} (hc : zc3 X (.type T) p) (hg : Gl X x) (hm : X.mg x = none) (hv : bootBuiltins x = some (.type T)) (ha : PA X (e :: es) (tDs X.K B G0 f)) (hn : x ≠ "__name__" := by decide) (hdb : (x == ("__debug__" : Str)) = false := by decide)
    (he : starEach (e :: es) X.env = (false, eval e X.env) :: starEach es X.env := by rfl) (hpl : (backTo pos (starEach es X.env)).any (·.1) = false := by rfl) : PE X (.Call (.Name x p2) (e :: es) [] pos) (tD X.K B G0 (zbU p f)) := by
  obtain ⟨r, h, i⟩ := hc
  refine peof (zde h hg hm hv ha hn hdb he hpl) fun σ H Q q => tM.one (R := Reps X.K) q fun v H2 G ρ x k rr a => ?_
  obtain ⟨d, e, a⟩ := a.opt
  exact i v G H2 x d Q k.gh rr e fun w G' H' ex rw => a.done k ex rw
theorem Reps.nil_inv {K : PySem.W.Frag} {G : Hp} {vs : List V} (r : Reps K G vs []) : vs = [] := by cases r; rfl
theorem Reps.one_inv {K : PySem.W.Frag} {G : Hp} {vs : List V} {d : D} (r : Reps K G vs [d]) : ∃ v, vs = [v] /\ Rep K G v d := by
  cases r with
  | cons h t => cases t; exact ⟨_, rfl, h⟩
theorem Reps.two_inv {K : PySem.W.Frag} {G : Hp} {vs : List V} {d d' : D} (r : Reps K G vs [d, d']) : ∃ v v', vs = [v, v'] /\ Rep K G v d /\ Rep K G v' d' := by
  cases r with
  | cons h t =>
    obtain ⟨v', rfl, r'⟩ := t.one_inv
    exact ⟨_, v', rfl, h, r'⟩
def oLen : List D -> Option D
  | [.list xs] => some (.int xs.length)
  | [.tuple xs] => some (.int xs.length)
  | [.str z] => if z.length <= 1000000 then some (.int z.length) else none
  | _ => none
theorem zfH : zc3 X (.builtin "len") oLen := by
  refine ⟨_, zhl, fun vs G H ds d Q s r e k => ?_⟩
  unfold oLen at e
  split at e
  · cases e
    obtain ⟨v, rfl, q⟩ := r.one_inv
    obtain ⟨l, ws, rfl, h1, r1⟩ := q.lst_inv
    exact ⟨.ref l, ws.length, rfl, .inl ⟨ws, s.seq h1, rfl⟩, by rw [r1.length]; exact k _ G H (.refl s) (.int _)⟩
  · cases e
    obtain ⟨v, rfl, q⟩ := r.one_inv
    obtain ⟨l, ws, rfl, h1, r1⟩ := q.tup_inv
    exact ⟨.ref l, ws.length, rfl, .inr ⟨ws, zdg s h1, rfl⟩, by rw [r1.length]; exact k _ G H (.refl s) (.int _)⟩
  · split at e
    · rename_i z hz
      cases e
      obtain ⟨v, rfl, q⟩ := r.one_inv
      exact ⟨.str z, z.length, by rw [q.str_inv], ⟨Nat.le_trans hz lim, rfl⟩, k _ G H (.refl s) (.int _)⟩
    · cases e
  · cases e
def zkz : List D -> Option D
  | [.int i, .int j] => some (.int (if j > i then j else i))
  | _ => none
theorem zn3 (hc : X.calm = true) : zc3 X (.builtin "max") zkz := by
  refine ⟨_, ziJ hc, fun vs G H ds d Q s r e k => ?_⟩
  unfold zkz at e
  split at e
  · cases e
    obtain ⟨v, v', rfl, r1, r2⟩ := r.two_inv
    exact ⟨_, _, by rw [r1.int_inv, r2.int_inv], k _ G H (.refl s) (.int _)⟩
  · cases e
def zbJ (i : Nat) : M D := fun ρ => match ρ[i]? with
  | some (some (.pub d)) => mOpt (oLen [d]) ρ
  | some (some (.own ds)) => .ok (.int ds.length) ρ
  | _ => .bad
theorem zaS {i : Nat} {p2 : Pos} (hg : Gl X "len") (hm : X.mg "len" = none) (ha : PE X e (tVar i)) (he : starEach [e] X.env = [(false, eval e X.env)] := by rfl) : PE X (.Call (.Name "len" p2) [e] [] pos) (tD X.K B G0 (zbJ i)) := by
  refine peof (zdX zhl hg hm PySem.boot_len (zcu ha zd5 (by rw [he]; rfl)) (by decide) (by decide) (by rw [he]; rfl) rfl) fun σ H Q ⟨G, ρ, k, a⟩ => ?_
  unfold zbJ at a
  cases q : ρ[i]? with
  | none => rw [q] at a; exact a.elim
  | some o =>
    cases o with
    | none => rw [q] at a; exact a.elim
    | some sl =>
      cases sl with
      | pub d =>
        rw [q] at a
        obtain ⟨v, h1, h2⟩ := k.pub i d q
        refine ⟨v, h1, ?_⟩
        obtain ⟨d', e', a'⟩ := aft.opt a
        obtain ⟨r, hr, ir⟩ := @zfH X
        show ∃ x n, [v] = [x] /\ LenV X.K x H n /\ Q (.int n) H
        unfold oLen at e'
        split at e'
        · rename_i xs he'
          injection he' with he1 he2
          subst he1
          cases e'
          obtain ⟨l, ws, rfl, g1, r1⟩ := h2.lst_inv
          exact ⟨.ref l, ws.length, rfl, .inl ⟨ws, k.gh.seq g1, rfl⟩, by rw [r1.length]; exact a'.now k (.int _)⟩
        · rename_i xs he'
          injection he' with he1 he2
          subst he1
          cases e'
          obtain ⟨l, ws, rfl, g1, r1⟩ := h2.tup_inv
          exact ⟨.ref l, ws.length, rfl, .inr ⟨ws, zdg k.gh g1, rfl⟩, by rw [r1.length]; exact a'.now k (.int _)⟩
        · rename_i z he'
          injection he' with he1 he2
          subst he1
          split at e'
          · rename_i hz
            cases e'
            exact ⟨.str z, z.length, by rw [h2.str_inv], ⟨Nat.le_trans hz lim, rfl⟩, a'.now k (.int _)⟩
          · cases e'
        · cases e'
      | own ds =>
        rw [q] at a
        obtain ⟨ad, vs, h1, g2, g3, h4, h5⟩ := k.own i ds q
        exact ⟨.ref ad, h1, .ref ad, vs.length, rfl, .inl ⟨vs, SqL.of h4, rfl⟩, by rw [h5.length]; exact aft.now a k (.int _)⟩
theorem zmp {pins : List (Addr × Obj)} {s : Shared} {σ : St} {G H : Hp} {v : V} {u : Value} {d : D} {cv : Value} {t : Bool} {A : Around} {E : Value -> Shared -> Prop} {Q : Value -> Shared -> Prop} (I : Inv X pins σ H s) (sg : Same G H) (r : Rep X.K G v d) (rv : RelV v u)
    (ek : PySem.W.kitOne X.K (.type (tyOf d)) cv = some t) (h : ∀ tk, Q (.bool t) { s with toks := tk }) : wpAny (model X.prog X.w) A (call (.builtin "isinstance") [u, cv]) Q E s := by
  cases r with
  | non => cases rv; exact PySem.W.kia_one PySem.W.kitx_none I.kIn True.intro ek (fun z => nomatch z) h
  | bl y => cases rv; exact PySem.W.kia_one PySem.W.kitx_bool I.kIn True.intro ek (fun z => nomatch z) h
  | int i => obtain ⟨t', rfl⟩ := rv; exact PySem.W.kia_one PySem.W.kitx_int I.kIn True.intro ek (fun z => nomatch z) h
  | str y => obtain ⟨t', rfl⟩ := rv; exact PySem.W.kia_one PySem.W.kitx_str I.kIn True.intro ek (fun z => nomatch z) h
  | lst hl _ =>
    cases rv
    obtain ⟨its, r, ⟨o, n, e, hc, _, hd⟩, hz⟩ := I.list (sg.seq hl)
    exact PySem.W.kia_one PySem.W.kitx_list I.kIn ⟨o, e, hc⟩ ek (fun z => nomatch z) h
  | tup hl _ =>
    cases rv
    obtain ⟨its, r, p, hz⟩ := I.tuple (zdg sg hl)
    obtain ⟨o, e, hc, _⟩ := p
    exact PySem.W.kia_one PySem.W.kitx_tuple I.kIn ⟨o, e, hc⟩ ek (fun z => nomatch z) h
  | @dic ad hd =>
    cases rv
    obtain ⟨_, _, vs, _, p⟩ := (show zct X.prog X.w H s.heap ad (.dK []) from I.hok ad _ (sg _ _ hd))
    obtain ⟨o, es, ep, h1, h2, _⟩ := p
    exact PySem.W.kia_one PySem.W.kitx_dict I.kIn ⟨o, h1, h2.1⟩ ek (fun z => nomatch z) h
theorem zkA : zc1 X (.builtin "isinstance") (fun xs H Q => ∃ v c G d, xs = [v, .ty c] /\ Same G H /\ Rep X.K G v d /\ (c = "int" ∨ c = "bool" ∨ c = "str" ∨ c = "list" ∨ c = "tuple" ∨ c = "dict") /\ Q (.bl (isTy d c)) H) := by
  intro pins s σ H xs us Q I r h
  obtain ⟨v, c, G, d, rfl, sg, rp, hc, q⟩ := h
  obtain ⟨u, w', rfl, r1, r2⟩ := zl7 r
  cases (show w' = Value.type c from r2)
  exact zmp I sg rp r1 (zmo X.K d c hc) fun tk => ⟨.bl _, H, I.tok tk, rfl, q⟩
theorem zdW : bootBuiltins "isinstance" = some (.builtin "isinstance") := by decide +kernel
theorem zaY {f : M D} {p2 p3 : Pos} {c : String} (hc : c = "int" ∨ c = "bool" ∨ c = "str" ∨ c = "list" ∨ c = "tuple" ∨ c = "dict") (hg : Gl X "isinstance") (hm : X.mg "isinstance" = none) (hg2 : Gl X (Str.ofString c)) (hm2 : X.mg (Str.ofString c) = none)
    (hv2 : bootBuiltins (Str.ofString c) = some (.type c)) (ha : PE X e (tD X.K B G0 f)) (hn2 : (Str.ofString c) ≠ "__name__") (hd2 : ((Str.ofString c) == ("__debug__" : Str)) = false)
    (hs : starEach [e, .Name (Str.ofString c) p3] X.env = (false, eval e X.env) :: starEach [.Name (Str.ofString c) p3] X.env := by rfl)
    (hs2 : starEach [.Name (Str.ofString c) p3] X.env = [(false, eval (.Name (Str.ofString c) p3) X.env)] := by rfl) :
    PE X (.Call (.Name "isinstance" p2) [e, .Name (Str.ofString c) p3] [] pos) (tD X.K B G0 (mMap (fun d => .bool (isTy d c)) f)) := by
  refine peof (zdX zkA hg hm zdW (zcu ha (zcu (zlZ (v := .ty c) hg2 hm2 hv2 rfl hn2 hd2) zd5 (by rw [hs2]; rfl)) hs) (by decide) (by decide) hs (by rw [hs2]; rfl)) fun σ H Q q => ?_
  refine tM.one (R := Rep X.K) q fun v H2 G ρ x k r a => ?_
  exact ⟨v, c, G, x, rfl, k.gh, r, hc, aft.now a k (.bl _)⟩
end
end DL
set_option Elab.async false
set_option linter.all false
set_option maxRecDepth 100000
set_option maxHeartbeats 4000000
namespace DL
open PySem PySem.Spec L2
open PyProof.Rows hiding St
def spD (K : PySem.W.Frag) (n : Nat) (F : List D -> Option D) : Sp := fun vs H Q _ => ∃ G ds d, vs.length = n /\ Same G H /\ Reps K G vs ds /\ F ds = some d /\ ∀ v G' H', Ext G H G' H' -> Rep K G' v d -> Q v H'
section
variable {K : PySem.W.Frag} {B G0 G H : Hp} {σ : St} {ρ : DEnv}
theorem EOk.exit (k : EOk K B G0 G H σ ρ) : Ext G0 B G H := ⟨k.bh, k.g0, k.gh, k.np⟩
theorem zbR {α : Type} {l : List α} {i : Nat} {x y : α} (h : (l.set i x)[i]? = some y) : y = x := by
  by_cases hl : i < l.length
  · rw [List.getElem?_set_self hl] at h; cases h; rfl
  · rw [List.getElem?_eq_none (by rw [List.length_set]; omega)] at h; cases h
theorem EOk.setPub {i : Nat} {v : V} {d : D} (k : EOk K B G0 G H σ ρ) (r : Rep K G v d) (hi : i < ρ.length) : EOk K B G0 G H (σ.set i (some v)) (ρ.set i (some (.pub d))) where
  bh := k.bh
  gh := k.gh
  g0 := k.g0
  np := k.np
  len := by rw [List.length_set, List.length_set]; exact k.len
  pub := fun j d' q => by
    by_cases z : i = j
    · subst z
      have := zbR q
      cases this
      exact ⟨v, List.getElem?_set_self (by rw [← k.len]; exact hi), r⟩
    · rw [List.getElem?_set_ne z] at q ⊢
      exact k.pub j d' q
  own := fun j ds q => by
    by_cases z : i = j
    · subst z
      have := zbR q
      cases this
    · rw [List.getElem?_set_ne z] at q ⊢
      exact k.own j ds q
  sep := fun j l c es fs q1 q2 s1 s2 => by
    have z1 : i ≠ j := fun z => by subst z; have := zbR q1; cases this
    have z2 : i ≠ l := fun z => by subst z; have := zbR q2; cases this
    rw [List.getElem?_set_ne z1] at q1 s1
    rw [List.getElem?_set_ne z2] at q2 s2
    exact k.sep j l c es fs q1 q2 s1 s2
structure NewL (K : PySem.W.Frag) (B G H : Hp) (σ : St) (ρ : DEnv) (a : Addr) (vs : List V) (ds : List D) : Prop where
  b : B a = none
  g : G a = none
  h : H a = some (.lst vs)
  r : Reps K G vs ds
  f : ∀ (j : Nat) es, ρ[j]? = some (some (.own es)) -> σ[j]? ≠ some (some (.ref a))
theorem EOk.setOwn {i : Nat} {a : Addr} {vs : List V} {ds : List D} (k : EOk K B G0 G H σ ρ) (n : NewL K B G H σ ρ a vs ds) (hi : i < ρ.length) : EOk K B G0 G H (σ.set i (some (.ref a))) (ρ.set i (some (.own ds))) where
  bh := k.bh
  gh := k.gh
  g0 := k.g0
  np := k.np
  len := by rw [List.length_set, List.length_set]; exact k.len
  pub := fun j d' q => by
    by_cases z : i = j
    · subst z
      have := zbR q
      cases this
    · rw [List.getElem?_set_ne z] at q ⊢
      exact k.pub j d' q
  own := fun j es q => by
    by_cases z : i = j
    · subst z
      have := zbR q
      cases this
      exact ⟨a, vs, List.getElem?_set_self (by rw [← k.len]; exact hi), n.b, n.g, n.h, n.r⟩
    · rw [List.getElem?_set_ne z] at q ⊢
      exact k.own j es q
  sep := fun j l c es fs q1 q2 s1 s2 => by
    have hs : i < σ.length := by rw [← k.len]; exact hi
    by_cases z1 : i = j
    · subst z1
      rw [List.getElem?_set_self hs] at s1
      cases s1
      by_cases z2 : i = l
      · exact z2
      · rw [List.getElem?_set_ne z2] at q2 s2
        exact absurd s2 (n.f l fs q2)
    · by_cases z2 : i = l
      · subst z2
        rw [List.getElem?_set_self hs] at s2
        cases s2
        rw [List.getElem?_set_ne z1] at q1 s1
        exact absurd s1 (n.f j es q1)
      · rw [List.getElem?_set_ne z1] at q1 s1
        rw [List.getElem?_set_ne z2] at q2 s2
        exact k.sep j l c es fs q1 q2 s1 s2
theorem EOk.change {i : Nat} {a : Addr} {vs : List V} {ds es : List D} (k : EOk K B G0 G H σ ρ) (q : ρ[i]? = some (some (.own ds))) (ha : σ[i]? = some (some (.ref a))) (r : Reps K G vs es) :
    EOk K B G0 G (upd H a (.lst vs)) σ (ρ.set i (some (.own es))) := by
  obtain ⟨a', ws, h1, h2, h3, h4, h5⟩ := k.own i ds q
  rw [ha] at h1
  cases h1
  have hi : i < ρ.length := (List.getElem?_eq_some_iff.mp q).1
  refine ⟨fun b o e => ?_, fun b o e => ?_, k.g0, k.np, by rw [List.length_set]; exact k.len, fun j d' e => ?_, fun j fs e => ?_, fun j l c fs gs q1 q2 s1 s2 => ?_⟩
  · rw [zaM (za2 e h2)]; exact k.bh b o e
  · rw [zaM (za2 e h3)]; exact k.gh b o e
  · by_cases z : i = j
    · subst z
      have := zbR e
      cases this
    · rw [List.getElem?_set_ne z] at e
      exact k.pub j d' e
  · by_cases z : i = j
    · subst z
      have := zbR e
      cases this
      exact ⟨a, vs, ha, h2, h3, zaH, r⟩
    · rw [List.getElem?_set_ne z] at e
      obtain ⟨c, us, g1, g2, g3, g4, g5⟩ := k.own j fs e
      have zc : c ≠ a := fun w => z (k.sep i j a ds fs q e ha (by rw [← w]; exact g1))
      exact ⟨c, us, g1, g2, g3, by rw [zaM zc]; exact g4, g5⟩
  · have f : ∀ {m : Nat} {ts : List D}, (ρ.set i (some (Sl.own es)))[m]? = some (some (.own ts)) -> ∃ ts', ρ[m]? = some (some (.own ts')) := fun {m ts} e => by
      by_cases z : i = m
      · subst z; exact ⟨ds, q⟩
      · rw [List.getElem?_set_ne z] at e; exact ⟨ts, e⟩
    obtain ⟨f1, w1⟩ := f q1
    obtain ⟨f2, w2⟩ := f q2
    exact k.sep j l c f1 f2 w1 w2 s1 s2
end
inductive Out where
  | nx (ρ : DEnv) | rt (d : D) | bk (ρ : DEnv) | ct (ρ : DEnv) | bad
abbrev SM := DEnv -> Out
section
variable (K : PySem.W.Frag) (B G0 : Hp)
def aftS (o : Out) (G1 : Hp) (Dn : Ends) : Prop :=
  match o with
  | .nx ρ => ∀ σ G H, EOk K B G0 G H σ ρ -> Same G1 G -> Dn.nx σ H
  | .bk ρ => ∀ σ G H, EOk K B G0 G H σ ρ -> Same G1 G -> Dn.bk σ H
  | .ct ρ => ∀ σ G H, EOk K B G0 G H σ ρ -> Same G1 G -> Dn.ct σ H
  | .rt d => ∀ v G H, Ext G0 B G H -> Rep K G v d -> Dn.rt v H
  | .bad => False
def tS (g : SM) : TS := fun Dn σ H => ∃ G ρ, EOk K B G0 G H σ ρ /\ aftS K B G0 (g ρ) G Dn
def sB {α : Type} (f : M α) (g : α -> SM) : SM := fun ρ => match f ρ with | .ok a ρ' => g a ρ' | .bad => .bad
end
section
variable {X : Cx} {B G0 : Hp} {e a b c : Expr} {pos : Pos} {es rest : List Expr} {st : Stmt} {sts sts2 : List Stmt}
theorem aftS.mono {K : PySem.W.Frag} {o : Out} {G G' : Hp} {Dn : Ends} (e : Same G G') (h : aftS K B G0 o G Dn) : aftS K B G0 o G' Dn := by
  cases o with
  | nx ρ => exact fun σ G2 H2 k s => h σ G2 H2 k (e.trans s)
  | bk ρ => exact fun σ G2 H2 k s => h σ G2 H2 k (e.trans s)
  | ct ρ => exact fun σ G2 H2 k s => h σ G2 H2 k (e.trans s)
  | rt d => exact h
  | bad => exact h
theorem tS.bnd {K : PySem.W.Frag} {α γ : Type} {R : Hp -> γ -> α -> Prop} {f : M α} {g : α -> SM} {Dn : Ends} {σ : St} {H : Hp} {P : γ -> Hp -> Prop} (q : tS K B G0 (sB f g) Dn σ H)
    (i : ∀ v H' G' ρ' x, EOk K B G0 G' H' σ ρ' -> R G' v x -> aftS K B G0 (g x ρ') G' Dn -> P v H') : tM K B G0 R f σ H P := by
  obtain ⟨G, ρ, k, a⟩ := q
  refine ⟨G, ρ, k, ?_⟩
  unfold sB at a
  cases z : f ρ with
  | bad => rw [z] at a; exact a.elim
  | ok d ρ1 =>
    rw [z] at a
    exact fun v G' H' e s r => i v H' G' ρ1 d e r (aftS.mono s a)
def sNx : SM := fun ρ => .nx ρ
def sSeq (g h : SM) : SM := fun ρ => match g ρ with | .nx ρ' => h ρ' | o => o
theorem zaQ : PSs X [] (tS X.K B G0 sNx) := znV zl2 fun D σ H ⟨G, ρ, k, a⟩ => a σ G H k (.refl _)
theorem zaj {g h : SM} (h1 : PS X st (tS X.K B G0 g)) (h2 : PSs X sts (tS X.K B G0 h)) : PSs X (st :: sts) (tS X.K B G0 (sSeq g h)) := znV (zkj h1 h2) fun D σ H ⟨G, ρ, k, a⟩ => by
  refine ⟨G, ρ, k, ?_⟩
  unfold sSeq at a
  cases z : g ρ with
  | nx ρ1 => rw [z] at a; exact fun σ' G' H' k' s' => ⟨G', ρ1, k', aftS.mono s' a⟩
  | rt d => rw [z] at a; exact a
  | bk ρ1 => rw [z] at a; exact a
  | ct ρ1 => rw [z] at a; exact a
  | bad => rw [z] at a; exact a.elim
theorem zam {g : SM} (h1 : PS X st (tS X.K B G0 g)) : PSs X [st] (tS X.K B G0 g) := zl3 h1
def zc6 : SM := fun _ => .bad
theorem zca : PS X st (tS X.K B G0 zc6) := fun _ _ _ _ _ _ ⟨_, _, _, a⟩ => a.elim
def sRet (f : M D) : SM := sB f fun d _ => .rt d
theorem zaD {f : M D} (h : PE X e (tD X.K B G0 f)) : PS X (.Return (some e) pos) (tS X.K B G0 (sRet f)) := psof (znz h) fun D σ H q => tS.bnd (R := Rep X.K) q fun v H' G' ρ' x k r a => a v G' H' k.exit r
def zd8 (f : M D) : SM := sB f fun _ ρ => .nx ρ
theorem zcO {f : M D} (h : PE X e (tD X.K B G0 f)) (hs : swapsWith e none pos.line X.env = pure false := by rfl) : PS X (.Expr e pos) (tS X.K B G0 (zd8 f)) := psof (ziC h hs) fun D σ H q => tS.bnd (R := Rep X.K) q fun v H' G' ρ' x k r a => a σ G' H' k (.refl _)
def sIf (f : M Bool) (g h : SM) : SM := sB f fun t => if t = true then g else h
theorem zbe {f : M Bool} {g h : SM} (hc : PT X c (tBo X.K B G0 f)) (ha : PSs X sts (tS X.K B G0 g)) (hb : PSs X sts2 (tS X.K B G0 h)) : PS X (.If c sts sts2 pos) (tS X.K B G0 (sIf f g h)) :=
  psof (zpv hc ha hb) fun D σ H q => tS.bnd (R := fun _ b c => b = c) q fun v H' G' ρ' x k r a => by
    have r : v = x := r
    subst r
    cases v with
    | true => exact ⟨G', ρ', k, a⟩
    | false => exact ⟨G', ρ', k, a⟩
def tG (K : PySem.W.Frag) (B G0 : Hp) (s : D -> DEnv -> Option DEnv) : TG := fun v σ H Q => ∃ G ρ d ρ', EOk K B G0 G H σ ρ /\ Rep K G v d /\ s d ρ = some ρ' /\ ∀ σ' G' H', EOk K B G0 G' H' σ' ρ' -> Same G G' -> Q σ' H'
def tGs (K : PySem.W.Frag) (B G0 : Hp) (s : List D -> DEnv -> Option DEnv) : TGs := fun v σ H Q => ∃ G ρ d ρ', EOk K B G0 G H σ ρ /\ Reps K G v d /\ s d ρ = some ρ' /\ ∀ σ' G' H', EOk K B G0 G' H' σ' ρ' -> Same G G' -> Q σ' H'
theorem pgof {t t' : TG} (h : PG X e t) (i : ∀ v σ H Q, t' v σ H Q -> t v σ H Q) : PG X e t' := fun pins s σ H v u Q I r q => h pins s σ H v u Q I r (i v σ H Q q)
theorem zn4 {t t' : TGs} (h : PGs X es t) (i : ∀ v σ H Q, t' v σ H Q -> t v σ H Q) : PGs X es t' := fun pins s σ H v u Q I r q => h pins s σ H v u Q I r (i v σ H Q q)
def gN (i : Nat) : D -> DEnv -> Option DEnv := fun d ρ => if i < ρ.length then some (ρ.set i (some (.pub d))) else none
theorem zao {i : Nat} (h : PG X e (zl4 i)) : PG X e (tG X.K B G0 (gN i)) := pgof h fun v σ H Q ⟨G, ρ, d, ρ', k, r, e, q⟩ => by
  unfold gN at e
  split at e
  · rename_i hi
    cases e
    exact q _ G H (k.setPub r hi) (.refl _)
  · cases e
def gN0 : List D -> DEnv -> Option DEnv := fun d ρ => match d with | [] => some ρ | _ => none
def gNC (s : D -> DEnv -> Option DEnv) (t : List D -> DEnv -> Option DEnv) : List D -> DEnv -> Option DEnv := fun ds ρ => match ds with | d :: r => (s d ρ).bind (t r) | [] => none
theorem zbV : PGs X [] (tGs X.K B G0 gN0) := zn4 zl5 fun v σ H Q ⟨G, ρ, d, ρ', k, r, e, q⟩ => by
  cases r with
  | nil => cases e; exact ⟨rfl, q σ G H k (.refl _)⟩
  | cons _ _ => cases e
theorem zaC {s : D -> DEnv -> Option DEnv} {t : List D -> DEnv -> Option DEnv} (h1 : PG X e (tG X.K B G0 s)) (h2 : PGs X es (tGs X.K B G0 t))
    (hs : (assignEach (e :: es) X.env).map (·.2) = assign e X.env :: (assignEach es X.env).map (·.2) := by rfl) : PGs X (e :: es) (tGs X.K B G0 (gNC s t)) := zn4 (zkk h1 h2 hs) fun v σ H Q ⟨G, ρ, d, ρ', k, r, e, q⟩ => by
  cases r with
  | nil => cases e
  | @cons w dw ws dws rw rt =>
    unfold gNC at e
    dsimp only at e
    cases z : s dw ρ with
    | none => rw [z] at e; cases e
    | some ρ1 =>
      rw [z] at e
      refine ⟨w, ws, rfl, G, ρ, dw, ρ1, k, rw, z, fun σ' G' H' k' s' => ?_⟩
      exact ⟨G', ρ1, dws, ρ', k', rt.mono s', e, fun σ2 G2 H2 k2 s2 => q σ2 G2 H2 k2 (s'.trans s2)⟩
def gT (n : Nat) (t : List D -> DEnv -> Option DEnv) : D -> DEnv -> Option DEnv := fun d ρ => match d with | .tuple ds => if ds.length = n then t ds ρ else none | _ => none
theorem zbW {k1 : Nat} {t : List D -> DEnv -> Option DEnv} {n : Nat} (hc : X.calm = true) (h : PGs X es (tGs X.K B G0 t))
    (hn : (assignEach es X.env).length = n := by rfl) (hst : (assignEach es X.env).findIdx? (·.1) = none := by rfl) : PG X (.Tuple es k1 pos) (tG X.K B G0 (gT n t)) := pgof (znA hc h hn hst) fun v σ H Q ⟨G, ρ, d, ρ', k, r, e, q⟩ => by
  unfold gT at e
  split at e
  · split at e
    · rename_i hl
      obtain ⟨ad, vs, rfl, h1, r1⟩ := r.tup_inv
      exact ⟨ad, vs, rfl, zdg k.gh h1, by rw [r1.length]; exact hl, G, ρ, _, ρ', k, r1, e, q⟩
    · cases e
  · cases e
def sAsg (f : M D) (s : D -> DEnv -> Option DEnv) : SM := sB f fun d ρ => match s d ρ with | some ρ' => .nx ρ' | none => .bad
theorem zd9 {tg : Expr} {f : M D} {s : D -> DEnv -> Option DEnv} (he : PE X e (tD X.K B G0 f)) (hg : PG X tg (tG X.K B G0 s)) (hs : swapsWithSole [tg] e pos.line X.env = pure false := by rfl) (hw : swappedStores [tg] e X.env = pure none := by rfl)
    (h1 : (assignEach [tg] X.env).map (·.2) = [assign tg X.env] := by rfl) : PS X (.Assign [tg] e pos) (tS X.K B G0 (sAsg f s)) :=
  psof (znB he hg hs hw h1) fun D σ H q => tS.bnd (R := Rep X.K) q fun v H' G' ρ' x k r a => by
    cases z : s x ρ' with
    | none => rw [z] at a; exact a.elim
    | some ρ2 => rw [z] at a; exact ⟨G', ρ', x, ρ2, k, r, z, fun σ2 G2 H2 k2 s2 => a σ2 G2 H2 k2 s2⟩
def sSet (i : Nat) (f : M D) : SM := sAsg f (gN i)
theorem zaP {i : Nat} {x : Str} {f : M D} {p2 : Pos} (hN : X.N.Nodup) (hi : X.N[i]? = some x) (hx : Loc X.env.scope x) (he : PE X e (tD X.K B G0 f)) (hs : swapsWith e (some (.Name x p2)) pos.line X.env = pure false := by rfl)
    (hf : X.fn x = true ∨ X.env.scope.names.lookup x = some .local := by first | exact .inl rfl | exact .inr rfl | assumption) : PS X (.Assign [.Name x p2] e pos) (tS X.K B G0 (sSet i f)) :=
  psof (zlF hN hi hx he hs hf) fun D σ H q => tS.bnd (R := Rep X.K) q fun v H' G' ρ' x k r a => by
    unfold gN at a
    split at a
    · rename_i ρ2 hz
      split at hz
      · rename_i hi2
        cases hz
        exact a _ G' H' (k.setPub r hi2) (.refl _)
      · cases hz
    · exact a.elim
def tL (K : PySem.W.Frag) (B G0 : Hp) (f : M (List D)) : TE := fun σ H Q => ∃ G ρ, EOk K B G0 G H σ ρ /\ match f ρ with
  | .ok ds ρ' => ∀ a vs G' H', EOk K B G0 G' H' σ ρ' -> Same G G' -> NewL K B G' H' σ ρ' a vs ds -> Q (.ref a) H'
  | .bad => False
def zbK (i : Nat) (f : M (List D)) : SM := sB f fun ds ρ => if i < ρ.length then .nx (ρ.set i (some (.own ds))) else .bad
theorem zce {i : Nat} {x : Str} {f : M (List D)} {p2 : Pos} (hN : X.N.Nodup) (hi : X.N[i]? = some x) (hx : Loc X.env.scope x) (he : PE X e (tL X.K B G0 f)) (hs : swapsWith e (some (.Name x p2)) pos.line X.env = pure false := by rfl)
    (hf : X.fn x = true ∨ X.env.scope.names.lookup x = some .local := by first | exact .inl rfl | exact .inr rfl | assumption) : PS X (.Assign [.Name x p2] e pos) (tS X.K B G0 (zbK i f)) :=
  psof (zlF hN hi hx he hs hf) fun D σ H ⟨G, ρ, k, a⟩ => by
    refine ⟨G, ρ, k, ?_⟩
    unfold zbK sB at a
    cases z : f ρ with
    | bad => rw [z] at a; exact a.elim
    | ok ds ρ1 =>
      rw [z] at a
      intro ad vs G' H' k' s' n
      dsimp only at a
      split at a
      · rename_i hl
        exact a _ G' H' (k'.setOwn n hl) s'
      · exact a.elim
theorem NewL.of {K : PySem.W.Frag} {G H : Hp} {σ : St} {ρ : DEnv} {p : Addr} {vs : List V} {ds : List D} (k : EOk K B G0 G H σ ρ) (hp : H p = none) (r : Reps K G vs ds) : NewL K B G (upd H p (.lst vs)) σ ρ p vs ds where
  b := k.bh.free hp
  g := k.gh.free hp
  h := zaH
  r := r
  f := fun j es q z => by
    obtain ⟨a, ws, h1, h2, h3, h4, h5⟩ := k.own j es q
    rw [z] at h1
    cases h1
    rw [hp] at h4; cases h4
theorem zcP {f : M (List D)} (h : PA X es (tDs X.K B G0 f)) : PE X (.List es pos) (tL X.K B G0 (zas f fun xs => if xs.length <= 1000000 then zah xs else fun _ => .bad)) :=
  peof (zlI h) fun σ H Q ⟨G, ρ, k, a⟩ => by
    refine ⟨G, ρ, k, ?_⟩
    unfold zas at a
    cases z : f ρ with
    | bad => rw [z] at a; exact a.elim
    | ok ds ρ1 =>
      rw [z] at a
      dsimp only at a
      intro v G' H' k' s' r
      by_cases c : ds.length <= 1000000
      · rw [if_pos c] at a
        refine ⟨by rw [r.length]; exact Nat.le_trans c lim, fun p hp => ?_⟩
        exact a p v G' _ (k'.ext (Ext.hid k'.gh hp)) s' (NewL.of k' hp r)
      · rw [if_neg c] at a; exact a.elim
def sApp (i : Nat) (f : M D) : SM := fun ρ0 => match ρ0[i]? with
  | some (some (.own _)) => sB f (fun d ρ => match ρ[i]? with
    | some (some (.own ds)) => if ds.length < 1000000 then .nx (ρ.set i (some (.own (ds ++ [d])))) else .bad
    | _ => .bad) ρ0
  | _ => .bad
theorem zdN {i : Nat} {f : M D} {o : Expr} {apos cpos : Pos} (ho : PE X o (tVar i)) (he : PE X e (tD X.K B G0 f)) 
    (hbase : attributeBase o "append" X.env (eval o X.env) = eval o X.env := by rfl)
    (hfew : ((backTo cpos (starEach [e] X.env)).all (fun x => !x.1) && (backToKw cpos (keywordEach [] X.env)).all (fun x => x.1.isSome)
      && decide ([e].length + ([] : List Keyword).length + (if ([] : List Keyword).isEmpty then 0 else 1) < 30)) = true := by rfl)
    (hline : (apos.endLine == cpos.line) = true := by rfl) (hs : starEach [e] X.env = [(false, eval e X.env)] := by rfl)
    (hsw : swapsWith (.Call (.Attribute o "append" apos) [e] [] cpos) none pos.line X.env = pure false := by rfl) :
    PS X (.Expr (.Call (.Attribute o "append" apos) [e] [] cpos) pos) (tS X.K B G0 (sApp i f)) :=
  psof (ziC (znT PySem.F.plainAttrs_list PySem.F.slot_list_append PySem.F.type_list_append zdf ho (zcu he zd5 (by rw [hs]; rfl)) hbase hfew hline (by rw [hs]; rfl) rfl) hsw) fun D σ H ⟨G, ρ, k, a⟩ => by
    unfold sApp at a
    cases q0 : ρ[i]? with
    | none => rw [q0] at a; exact a.elim
    | some o0 =>
      cases o0 with
      | none => rw [q0] at a; exact a.elim
      | some sl0 =>
        cases sl0 with
        | pub d => rw [q0] at a; exact a.elim
        | own ds0 =>
          rw [q0] at a
          obtain ⟨ad, vs0, h1, h2, h3, h4, h5⟩ := k.own i ds0 q0
          refine ⟨.ref ad, h1, .inl ⟨rfl, _, SqL.of h4⟩, G, ρ, k, ?_⟩
          unfold sB at a
          cases z : f ρ with
          | bad => rw [z] at a; exact a.elim
          | ok d ρ1 =>
            rw [z] at a
            dsimp only at a
            intro v G' H' k' s' r'
            cases q : ρ1[i]? with
            | none => rw [q] at a; exact a.elim
            | some o =>
              cases o with
              | none => rw [q] at a; exact a.elim
              | some sl =>
                cases sl with
                | pub d => rw [q] at a; exact a.elim
                | own ds =>
                  rw [q] at a
                  dsimp only at a
                  split at a
                  · rename_i hl
                    obtain ⟨ad', vs, g1, g2, g3, g4, g5⟩ := k'.own i ds q
                    rw [h1] at g1
                    cases g1
                    refine ⟨ad, vs, v, rfl, rfl, g4, by rw [g5.length]; exact Nat.lt_of_lt_of_le hl lim, ?_⟩
                    exact a σ G' _ (k'.change q h1 (g5.append (.cons r' .nil))) s'
                  · exact a.elim
end
end DL
set_option Elab.async false
set_option linter.all false
set_option maxRecDepth 100000
set_option maxHeartbeats 4000000
namespace DL
open PySem PySem.Spec L2
open PyProof.Rows hiding St
structure zdh (K : PySem.W.Frag) (J : It) (ds : List D) (G1 : Hp) : Prop where
  go : ∀ i G H, Same G1 G -> Same G H -> i < ds.length -> J.go i H
  stop : ∀ i G H, Same G1 G -> Same G H -> ds.length <= i -> J.stop i H
  yld : ∀ i G H x H' d, Same G1 G -> Same G H -> ds[i]? = some d -> J.yld i H x H' -> ∃ G', Ext G H G' H' /\ Rep K G' x d
def iD (K : PySem.W.Frag) (B G0 : Hp) (f : M (List D)) : TI := fun σ H R => ∃ G ρ, EOk K B G0 G H σ ρ /\ match f ρ with
  | .ok ds ρ' => ∀ J G' H', EOk K B G0 G' H' σ ρ' -> Same G G' -> zdh K J ds G' -> R J H'
  | .bad => False
section
variable {X : Cx} {B G0 : Hp} {e a b c tg : Expr} {pos : Pos} {es rest : List Expr} {st : Stmt} {sts sts2 : List Stmt}
theorem piof {t t' : TI} (h : PI X tg e t) (i : ∀ σ H R, t' σ H R -> t σ H R) : PI X tg e t' := fun pins s σ H R I q => h pins s σ H R I (i σ H R q)
theorem tM.toI {K : PySem.W.Frag} {α γ : Type} {R0 : Hp -> γ -> α -> Prop} {f : M α} {g : α -> M (List D)} {σ : St} {H : Hp} {R : It -> Hp -> Prop} {P : γ -> Hp -> Prop} (q : iD K B G0 (zas f g) σ H R)
    (i : ∀ v H' G' ρ' x, EOk K B G0 G' H' σ ρ' -> R0 G' v x -> (match g x ρ' with
      | .ok ds ρ2 => ∀ J G2 H2, EOk K B G0 G2 H2 σ ρ2 -> Same G' G2 -> zdh K J ds G2 -> R J H2
      | .bad => False) -> P v H') : tM K B G0 R0 f σ H P := by
  obtain ⟨G, ρ, k, a⟩ := q
  refine ⟨G, ρ, k, ?_⟩
  unfold zas at a
  cases z : f ρ with
  | bad => rw [z] at a; exact a.elim
  | ok d ρ1 =>
    rw [z] at a
    intro v G' H' e s r
    refine i v H' G' ρ1 d e r ?_
    dsimp only at a
    cases z2 : g d ρ1 with
    | bad => rw [z2] at a; exact a.elim
    | ok ds ρ2 =>
      rw [z2] at a
      exact fun J G2 H2 k2 s2 it => a J G2 H2 k2 (s.trans s2) it
theorem zhV {K : PySem.W.Frag} {G1 : Hp} {ad : Addr} {vs : List V} {ds : List D} (h : SqL K G1 ad vs) (r : Reps K G1 vs ds) : zdh K (Itl K ad) ds G1 where
  go := fun i G H s1 s2 hi => by
    have hi' : i < vs.length := by rw [r.length]; exact hi
    exact ⟨vs, vs[i], (s1.trans s2).seq h, List.getElem?_eq_getElem hi'⟩
  stop := fun i G H s1 s2 hi => ⟨vs, (s1.trans s2).seq h, by rw [r.length]; exact hi⟩
  yld := fun i G H x H' d s1 s2 e y => by
    obtain ⟨rfl, y⟩ := y
    obtain ⟨v, e1, r1⟩ := r.get e
    have := y vs ((s1.trans s2).seq h)
    rw [e1] at this
    cases this
    exact ⟨G, .refl s2, r1.mono s1⟩
def zbE (lo hi : Int) : List D := (List.range (hi - lo).toNat).map fun (k : Nat) => .int (lo + k)
theorem zbs (lo hi : Int) : (zbE lo hi).length = (hi - lo).toNat := by unfold zbE; rw [List.length_map, List.length_range]
theorem zea {K : PySem.W.Frag} {G1 : Hp} (lo hi : Int) : zdh K (Itr lo (hi - lo).toNat) (zbE lo hi) G1 where
  go := fun i G H s1 s2 h => by rw [zbs] at h; exact h
  stop := fun i G H s1 s2 h => by rw [zbs] at h; exact h
  yld := fun i G H x H' d s1 s2 e y => by
    obtain ⟨rfl, rfl⟩ := y
    unfold zbE at e
    rw [List.getElem?_map] at e
    have hi : i < (List.range (hi - lo).toNat).length := by
      refine Nat.lt_of_not_le fun z => ?_
      rw [List.getElem?_eq_none z] at e
      cases e
    rw [List.getElem?_eq_getElem hi, List.getElem_range] at e
    cases e
    exact ⟨G, .refl s2, .int _⟩
def zhW : List D -> Option (List D)
  | [.int j] => if j <= 1000000 /\ -1000000 <= j then some (zbE 0 j) else none
  | _ => none
def zhX : List D -> Option (List D)
  | [.int i, .int j] => if j <= 1000000 /\ -1000000 <= j /\ i <= 1000000 /\ -1000000 <= i then some (zbE i j) else none
  | _ => none
def zgz (f : M (List D)) : M (List D) := zas f fun x => mOpt (zhW x)
def ziX (f : M (List D)) : M (List D) := zas f fun x => mOpt (zhX x)
theorem zdi {f : M (List D)} {p2 : Pos} (hg : Gl X "range") (hm : X.mg "range" = none) (ha : PA X [a] (tDs X.K B G0 f)) (hs : starEach [a] X.env = [(false, eval a X.env)] := by rfl) :
    PI X tg (.Call (.Name "range" p2) [a] [] pos) (iD X.K B G0 (zgz f)) := piof (ziE hg hm ha hs) fun σ H R q => tM.toI (R0 := Reps X.K) q fun v H' G' ρ' x k r a => by
  cases z : zhW x with
  | none => rw [z] at a; exact a.elim
  | some ds =>
    rw [z] at a
    unfold zhW at z
    split at z
    · split at z
      · rename_i j c
        cases z
        obtain ⟨w, rfl, r'⟩ := r.one_inv
        refine ⟨j, by rw [r'.int_inv], by omega, by omega, ?_⟩
        have it := zea (K := X.K) (G1 := G') 0 j
        rw [Int.sub_zero] at it
        exact a _ G' H' k (.refl _) it
      · cases z
    · cases z
theorem zfI {f : M (List D)} {p2 : Pos} (hg : Gl X "range") (hm : X.mg "range" = none) (ha : PA X [a, b] (tDs X.K B G0 f)) (hs : starEach [a, b] X.env = [(false, eval a X.env), (false, eval b X.env)] := by rfl) (hs2 : starEach [b] X.env = [(false, eval b X.env)] := by rfl) :
    PI X tg (.Call (.Name "range" p2) [a, b] [] pos) (iD X.K B G0 (ziX f)) := piof (ziF hg hm ha hs hs2) fun σ H R q => tM.toI (R0 := Reps X.K) q fun v H' G' ρ' x k r a => by
  cases z : zhX x with
  | none => rw [z] at a; exact a.elim
  | some ds =>
    rw [z] at a
    unfold zhX at z
    split at z
    · split at z
      · rename_i i j c
        cases z
        obtain ⟨w, w', rfl, r1, r2⟩ := r.two_inv
        refine ⟨i, j, by rw [r1.int_inv, r2.int_inv], ⟨by omega, by omega, by omega, by omega⟩, ?_⟩
        exact a _ G' H' k (.refl _) (zea i j)
      · cases z
    · cases z
def zc4 (n : Nat) : List D -> List D
  | [] => []
  | d :: r => .tuple [.int n, d] :: zc4 (n + 1) r
theorem zaW : ∀ (n : Nat) (ds : List D), (zc4 n ds).length = ds.length
  | _, [] => rfl
  | n, d :: r => by rw [zc4, List.length_cons, List.length_cons, zaW]
theorem zeb : ∀ (n : Nat) (ds : List D) (i : Nat), (zc4 n ds)[i]? = ds[i]?.map fun d => .tuple [.int ((n + i : Nat) : Int), d]
  | _, [], i => by simp [zc4]
  | n, d :: r, 0 => by simp [zc4]
  | n, d :: r, i + 1 => by
    rw [zc4, List.getElem?_cons_succ, List.getElem?_cons_succ, zeb (n + 1) r i]
    have : n + 1 + i = n + (i + 1) := by omega
    rw [this]
theorem zhY {K : PySem.W.Frag} {G1 : Hp} {ad : Addr} {vs : List V} {ds : List D} (h : SqL K G1 ad vs) (r : Reps K G1 vs ds) : zdh K (Ite K ad) (zc4 0 ds) G1 where
  go := fun i G H s1 s2 hi => by
    rw [zaW] at hi
    have hi' : i < vs.length := by rw [r.length]; exact hi
    exact ⟨vs, vs[i], (s1.trans s2).seq h, List.getElem?_eq_getElem hi'⟩
  stop := fun i G H s1 s2 hi => by
    rw [zaW] at hi
    exact ⟨vs, (s1.trans s2).seq h, by rw [r.length]; exact hi⟩
  yld := fun i G H x H' d s1 s2 e y => by
    obtain ⟨p, v, hp, rfl, y, rfl⟩ := y
    rw [zeb] at e
    cases z : ds[i]? with
    | none => rw [z] at e; cases e
    | some d0 =>
      rw [z] at e
      cases e
      obtain ⟨w, e1, r1⟩ := r.get z
      have := y vs ((s1.trans s2).seq h)
      rw [e1] at this
      cases this
      refine ⟨upd G p (.tup [.int i, v]), Ext.new s2 hp, .tup (SqT.of zaH) (.cons ?_ (.cons ((r1.mono s1).mono (zaK (s2.free hp))) .nil))⟩
      rw [Nat.zero_add]
      exact .int _
def ziY : List D -> Option (List D)
  | [.list ds] => some (zc4 0 ds)
  | _ => none
def zeC (f : M (List D)) : M (List D) := zas f fun x => mOpt (ziY x)
theorem zda {f : M (List D)} {p2 : Pos} {elts : List Expr} {x1} {tp : Pos} (hg : Gl X "enumerate") (hm : X.mg "enumerate" = none) (ha : PA X [a] (tDs X.K B G0 f)) (hs : starEach [a] X.env = [(false, eval a X.env)] := by rfl) :
    PI X (.Tuple elts x1 tp) (.Call (.Name "enumerate" p2) [a] [] pos) (iD X.K B G0 (zeC f)) := piof (zmg hg hm ha hs) fun σ H R q => tM.toI (R0 := Reps X.K) q fun v H' G' ρ' x k r a => by
  cases z : ziY x with
  | none => rw [z] at a; exact a.elim
  | some ds =>
    rw [z] at a
    unfold ziY at z
    split at z
    · cases z
      obtain ⟨w, rfl, r'⟩ := r.one_inv
      obtain ⟨ad, vs, rfl, h1, r1⟩ := r'.lst_inv
      exact ⟨ad, vs, rfl, k.gh.seq h1, a _ G' H' k (.refl _) (zhY h1 r1)⟩
    · cases z
def zfJ (s : D -> DEnv -> Option DEnv) (g : SM) : List D -> SM
  | [], ρ => .nx ρ
  | d :: r, ρ => match s d ρ with
    | none => .bad
    | some ρ1 => match g ρ1 with
      | .nx ρ2 => zfJ s g r ρ2
      | .ct ρ2 => zfJ s g r ρ2
      | .bk ρ2 => .nx ρ2
      | .rt d => .rt d
      | .bad => .bad
def sFor (f : M (List D)) (s : D -> DEnv -> Option DEnv) (g : SM) : SM := sB f fun ds => zfJ s g ds
theorem zb8 {iter : Expr} {body : List Stmt} {f : M (List D)} {s : D -> DEnv -> Option DEnv} {g : SM} (hp : PassesOwn (model X.prog X.w) X.A X.env X.xe) (hc : X.calm = true) (hi : PI X tg iter (iD X.K B G0 f)) (hg : PG X tg (tG X.K B G0 s)) (hb : PSs X body (tS X.K B G0 g))
    (hs : ∀ x, foldedSetIterable iter X.env x = pure x := by intro _; rfl) : PS X (.For tg iter body [] pos) (tS X.K B G0 (sFor f s g)) :=
  psof (znE hp hc hi hg hb hs) fun Dn σ H ⟨G, ρ, k, a⟩ => by
    refine ⟨G, ρ, k, ?_⟩
    unfold sFor sB at a
    cases z : f ρ with
    | bad => rw [z] at a; exact a.elim
    | ok ds ρ1 =>
      rw [z] at a
      dsimp only at a ⊢
      intro J G1 H1 k1 s1 it
      refine ⟨fun i m σ' H' => m = ds.length - i /\ ∃ G' ρ', EOk X.K B G0 G' H' σ' ρ' /\ Same G1 G' /\ aftS X.K B G0 (zfJ s g (ds.drop i) ρ') G' Dn, ⟨ds.length, by omega, G1, ρ1, k1, .refl _, by rw [List.drop_zero]; exact aftS.mono s1 a⟩, ?_⟩
      rintro i m σ' H' ⟨rfl, G', ρ', k', s', a'⟩
      by_cases hi : i < ds.length
      · right
        refine ⟨it.go i G' H' s' k'.gh hi, fun σ2 H2 => ∃ G2 ρ2, EOk X.K B G0 G2 H2 σ2 ρ2 /\ Same G1 G2 /\ aftS X.K B G0 (zfJ s g (ds.drop (i + 1)) ρ2) G2 Dn, fun σ2 H2 h2 => ⟨ds.length - (i + 1), by omega, rfl, h2⟩, fun x H2 y => ?_⟩
        obtain ⟨G2, ex, rx⟩ := it.yld i G' H' x H2 ds[i] s' k'.gh (List.getElem?_eq_getElem hi) y
        rw [List.drop_eq_getElem_cons hi, zfJ] at a'
        cases z2 : s ds[i] ρ' with
        | none => rw [z2] at a'; exact a'.elim
        | some ρ2 =>
          rw [z2] at a'
          dsimp only at a'
          refine ⟨G2, ρ', ds[i], ρ2, k'.ext ex, rx, z2, fun σ3 G3 H3 k3 s3 => ⟨G3, ρ2, k3, ?_⟩⟩
          have s13 : Same G1 G3 := (s'.trans ex.g).trans s3
          cases z3 : g ρ2 with
          | nx ρ3 => rw [z3] at a'; exact fun σ4 G4 H4 k4 s4 => ⟨G4, ρ3, k4, s13.trans s4, aftS.mono ((ex.g.trans s3).trans s4) a'⟩
          | ct ρ3 => rw [z3] at a'; exact fun σ4 G4 H4 k4 s4 => ⟨G4, ρ3, k4, s13.trans s4, aftS.mono ((ex.g.trans s3).trans s4) a'⟩
          | bk ρ3 => rw [z3] at a'; exact fun σ4 G4 H4 k4 s4 => a' σ4 G4 H4 k4 ((ex.g.trans s3).trans s4)
          | rt d => rw [z3] at a'; exact a'
          | bad => rw [z3] at a'; exact a'.elim
      · left
        rw [List.drop_eq_nil_of_le (by omega)] at a'
        exact ⟨it.stop i G' H' s' k'.gh (by omega), a' σ' G' H' k' (.refl _)⟩
theorem zkB {k : Nat} {f : Addr} {fd : FuncData} {ps : List Str} {F : List D -> Option D} {g : M (List D)} {x : Str} {p2 : Pos} {n : Nat} (FK : FnOk X.prog X.w X.K X.mg X.base CX0 k f fd ps (spD X.K n F)) (hr : Room k X.A) (hg : Gl X x) (hm : X.mg x = some (.ref f)) (hk : PySem.W.keepIn X.K (.ref f) = true)
    (hb : zfx X.K fd ps []) (ha : PA X (e :: es) (tDs X.K B G0 g)) (hn : (e :: es).length = n) (hdb : (x == ("__debug__" : Str)) = false := by decide) (he : starEach (e :: es) X.env = (false, eval e X.env) :: starEach es X.env := by rfl) (hpl : (backTo pos (starEach es X.env)).any (·.1) = false := by rfl) :
    PE X (.Call (.Name x p2) (e :: es) [] pos) (tD X.K B G0 (zas g fun xs => if xs.length = n then mOpt (F xs) else fun _ => .bad)) :=
  peof (ziM FK hr hg hm hk hb .nil znU ha hdb he hpl) fun σ H Q q => tM.one (R := Reps X.K) q fun v H2 G ρ ds k r a => by
    split at a
    · rename_i hl
      obtain ⟨d, e, a⟩ := a.opt
      exact ⟨G, ds, d, by rw [List.append_nil, r.length]; exact hl, k.gh, by rw [List.append_nil]; exact r, e, fun w G' H' ex rw => a.done k ex rw⟩
    · exact a.elim
end
def zcQ (N : List Str) (ds : List D) : DEnv := (ds.map fun d => some (Sl.pub d)) ++ List.replicate (N.length - ds.length) none
theorem zkC {K : PySem.W.Frag} {N : List Str} {G H : Hp} {vs : List V} {ds : List D} (s : Same G H) (r : Reps K G vs ds) : EOk K H G G H (L2.zd6 N vs) (zcQ N ds) where
  bh := .refl _
  gh := s
  g0 := .refl _
  np := fun _ _ _ n => n
  len := by unfold L2.zd6 zcQ; rw [List.length_append, List.length_append, List.length_map, List.length_map, List.length_replicate, List.length_replicate, r.length]
  pub := fun i d q => by
    unfold zcQ at q
    unfold L2.zd6
    by_cases hi : i < ds.length
    · rw [List.getElem?_append_left (by rw [List.length_map]; exact hi), List.getElem?_map] at q
      cases z : ds[i]? with
      | none => rw [z] at q; cases q
      | some d' =>
        rw [z] at q
        cases q
        obtain ⟨v, e1, r1⟩ := r.get z
        refine ⟨v, ?_, r1⟩
        rw [List.getElem?_append_left (by rw [List.length_map, r.length]; exact hi), List.getElem?_map, e1]
        rfl
    · rw [List.getElem?_append_right (by rw [List.length_map]; omega), List.getElem?_replicate] at q
      split at q <;> cases q
  own := fun i es q => by
    unfold zcQ at q
    by_cases hi : i < ds.length
    · rw [List.getElem?_append_left (by rw [List.length_map]; exact hi), List.getElem?_map] at q
      cases z : ds[i]? with
      | none => rw [z] at q; cases q
      | some d' => rw [z] at q; cases q
    · rw [List.getElem?_append_right (by rw [List.length_map]; omega), List.getElem?_replicate] at q
      split at q <;> cases q
  sep := fun i j a es fs q _ _ _ => by
    unfold zcQ at q
    by_cases hi : i < ds.length
    · rw [List.getElem?_append_left (by rw [List.length_map]; exact hi), List.getElem?_map] at q
      cases z : ds[i]? with
      | none => rw [z] at q; cases q
      | some d' => rw [z] at q; cases q
    · rw [List.getElem?_append_right (by rw [List.length_map]; omega), List.getElem?_replicate] at q
      split at q <;> cases q
def runD (N : List Str) (g : SM) (ds : List D) : Option D := match g (zcQ N ds) with
  | .rt d => some d
  | .nx _ => some .none
  | _ => none
theorem okD {P : Program} {w : World} {K : PySem.W.Frag} {mg : Str -> Option Value} {base : Heap} {x qual : Str} {st : Stmt} {f : Addr} {fd : FuncData} {N ps : List Str} {k n : Nat} {g : SM} (F : Fun K x qual st f fd) (S : zaF N ps (zag st)) (hn : ps.length = n)
    (der : ∀ (cdv : Value) (A : Around) (outer : List Env) (s : Shared) (H : Hp) (E : XK) (B G0 : Hp), Room k (A.deeper (envOfC qual (zag st) s.heap.objs.size f cdv)) ->
      PSs (cxOf CX0 P w K mg base N qual (zag st) f cdv A outer s H E).nox (zay st) (tS K B G0 g)) : FnOk P w K mg base CX0 (k + 1) f fd ps (spD K n (runD N g)) := by
  refine F.ok S (fun vs H Q E h => ?_) (fun cdv A outer s H vs Q E hr h => ?_)
  · obtain ⟨_, _, _, hl, _⟩ := h
    rw [hl, hn]
  · obtain ⟨G, ds, d, hl, sg, r, hF, q⟩ := h
    refine ⟨_, der cdv A outer s H E H G hr, G, zcQ N ds, zkC sg r, ?_⟩
    unfold runD at hF
    cases z : g (zcQ N ds) with
    | rt d' =>
      rw [z] at hF
      cases hF
      exact fun v G' H' ex rr => q v G' H' ex rr
    | nx ρ =>
      rw [z] at hF
      cases hF
      exact fun σ' G' H' k' _ => q .non G' H' k'.exit .non
    | bk ρ => rw [z] at hF; cases hF
    | ct ρ => rw [z] at hF; cases hF
    | bad => rw [z] at hF; cases hF
end DL
set_option Elab.async false
set_option linter.all false
set_option maxRecDepth 100000
set_option maxHeartbeats 4000000
namespace DL
open PySem PySem.Spec L2
open PyProof.Rows hiding St
section
variable {X : Cx} {B G0 : Hp} {e a b c tg : Expr} {pos : Pos} {es rest : List Expr}
def oNeg : D -> Option D
  | .int i => some (.int (-i))
  | _ => none
def dNeg (f : M D) : M D := zas f fun x => mOpt (oNeg x)
theorem zcx {f : M D} (h : PE X a (tD X.K B G0 f)) : PE X (.UnaryOp .USub a pos) (tD X.K B G0 (dNeg f)) :=
  peof (zpA znL h) fun σ H Q q => tM.one (R := Rep X.K) q fun v H2 G ρ x k r a => by
    cases x with
    | int i => exact ⟨i, r.int_inv, aft.now a k (.int _)⟩
    | _ => exact a.elim
end
def Def (P : Program) (w : World) (K : PySem.W.Frag) (mg : Str -> Option Value) (base : Heap) (x : Str) (k n : Nat) (F : List D -> Option D) : Prop :=
  ∃ (f : Addr) (fd : FuncData) (ps : List Str), mg x = some (.ref f) /\ PySem.W.keepIn K (.ref f) = true /\ zfx K fd ps [] /\ FnOk P w K mg base CX0 k f fd ps (spD K n F)
def dFun (n : Nat) (F : List D -> Option D) (g : M (List D)) : M D := zas g fun xs => if xs.length = n then mOpt (F xs) else fun _ => .bad
section
variable {X : Cx} {B G0 : Hp} {e : Expr} {pos : Pos} {es : List Expr}
theorem zaq {k n : Nat} {F : List D -> Option D} {g : M (List D)} {x : Str} {p2 : Pos} (d : Def X.prog X.w X.K X.mg X.base x k n F) (hr : Room k X.A) (hg : Gl X x) (ha : PA X (e :: es) (tDs X.K B G0 g)) (hn : (e :: es).length = n := by rfl)
    (hdb : (x == ("__debug__" : Str)) = false := by decide) (he : starEach (e :: es) X.env = (false, eval e X.env) :: starEach es X.env := by rfl) (hpl : (backTo pos (starEach es X.env)).any (·.1) = false := by rfl) :
    PE X (.Call (.Name x p2) (e :: es) [] pos) (tD X.K B G0 (dFun n F g)) := by
  obtain ⟨f, fd, ps, h1, h2, h3, h4⟩ := d
  exact zkB h4 hr hg h1 h2 h3 ha hn hdb he hpl
end
theorem Def.mk {P : Program} {w : World} {K : PySem.W.Frag} {mg : Str -> Option Value} {base : Heap} {x : Str} {k n : Nat} {F : List D -> Option D} {st : Stmt} {f : Addr} {fd : FuncData} {ps : List Str} (hm : mg x = some (.ref f)) (FU : Fun K x x st f fd) (hb : zfx K fd ps []) (ok : FnOk P w K mg base CX0 k f fd ps (spD K n F)) :
    Def P w K mg base x k n F := ⟨f, fd, ps, hm, FU.kp, hb, ok⟩
theorem zn5 {K : PySem.W.Frag} {H : Hp} {a : Addr} {ns : List Int} {F : List D -> Option D} {E : XK} (hS : SqL K H a (ns.map V.int)) (h : F [.list (ns.map PyData.int)] = some (.bool true)) : spD K 1 F [.ref a] H (fun v _ => v = .bl true) E :=
  ⟨H, [.list (ns.map PyData.int)], .bool true, rfl, .refl _, .cons (.lst hS (Reps.ints ns)) .nil, h, fun _ _ _ _ r => r.bl_inv⟩
end DL
set_option Elab.async false
set_option linter.all false
set_option maxRecDepth 100000
set_option maxHeartbeats 4000000
namespace L2
open PySem PySem.Spec PyProof.Rows
theorem mem_of_lookup {x : Str} {k : NameKind} : ∀ {l : List (Str × NameKind)}, l.lookup x = some k -> (x, k) ∈ l
  | [], h => by cases h
  | (y, j) :: r, h => by
    rw [List.lookup_cons] at h
    split at h
    · rename_i e
      cases h
      have : x = y := by simpa using e
      rw [this]; exact List.mem_cons_self
    · exact List.mem_cons_of_mem _ (mem_of_lookup h)
theorem zdB {env : Env} : ∀ (l : List (Str × NameKind)) (acc : List (Str × Addr)), (∀ y ∈ l, y.2 = .free -> ∃ c, env.cells.lookup y.1 = some c) ->
    ∃ cl, (forIn l acc (fun x r => if (x.2 == NameKind.free) = true then (do let a ← cellOf env x.1; pure (ForInStep.yield ((x.1, a) :: r))) else pure (ForInStep.yield r)) : Sem (List (Str × Addr))) = pure cl /\
      (∀ x c, cl.lookup x = some c -> acc.lookup x = some c ∨ env.cells.lookup x = some c) /\ (∀ y ∈ l, y.2 = .free -> ∃ c, cl.lookup y.1 = some c) /\ (∀ x c, acc.lookup x = some c -> ∃ c', cl.lookup x = some c')
  | [], acc, _ => ⟨acc, rfl, fun _ _ h => .inl h, fun _ h => absurd h (by simp), fun x c h => ⟨c, h⟩⟩
  | (n, k) :: r, acc, h => by
    by_cases hk : k = .free
    · subst hk
      obtain ⟨c, hc⟩ := h (n, .free) List.mem_cons_self rfl
      obtain ⟨cl, e, p1, p2, p3⟩ := zdB r ((n, c) :: acc) fun y hy => h y (List.mem_cons_of_mem _ hy)
      have hco : cellOf env n = pure c := by unfold cellOf; rw [hc]
      have key : ∀ x c', ((n, c) :: acc).lookup x = some c' -> acc.lookup x = some c' ∨ env.cells.lookup x = some c' := fun x c' q => by
        rw [List.lookup_cons] at q
        split at q
        · rename_i e1
          cases q
          have : x = n := by simpa using e1
          subst this
          exact .inr hc
        · exact .inl q
      have own : ((n, c) :: acc).lookup n = some c := by rw [List.lookup_cons]; simp
      refine ⟨cl, ?_, fun x c' q => ?_, fun y hy hf => ?_, fun x c' q => ?_⟩
      · rw [List.forIn_cons]
        have : (if (((n, NameKind.free) : Str × NameKind).2 == NameKind.free) = true then (do let a ← cellOf env n; pure (ForInStep.yield ((n, a) :: acc))) else pure (ForInStep.yield acc) : Sem _) = pure (ForInStep.yield ((n, c) :: acc)) := by
          rw [if_pos (show ((n, NameKind.free).snd == NameKind.free) = true from rfl), hco]; rfl
        refine Eq.trans ?_ e
        dsimp only at this ⊢
        rw [this]
        rfl
      · rcases p1 x c' q with z | z
        · exact key x c' z
        · exact .inr z
      · rcases List.mem_cons.mp hy with z | z
        · subst z
          exact p3 n c own
        · exact p2 y z hf
      · by_cases hx : x = n
        · subst hx; exact p3 x c own
        · refine p3 x c' ?_
          have hb : (x == n) = false := by simpa using hx
          rw [List.lookup_cons, hb]
          exact q
    · obtain ⟨cl, e, p1, p2, p3⟩ := zdB r acc fun y hy => h y (List.mem_cons_of_mem _ hy)
      refine ⟨cl, ?_, p1, fun y hy hf => ?_, p3⟩
      · rw [List.forIn_cons]
        have hb : (k == NameKind.free) = false := by cases k <;> first | rfl | exact absurd rfl hk
        refine Eq.trans ?_ e
        dsimp only
        rw [hb, if_neg (by decide)]
        rfl
      · rcases List.mem_cons.mp hy with z | z
        · subst z; exact absurd hf hk
        · exact p2 y z hf
theorem zdC {scope : Scope} {env : Env} (h : ∀ y ∈ scope.names, y.2 = .free -> ∃ c, env.cells.lookup y.1 = some c) :
    ∃ cl, closureFor scope env = pure cl /\ (∀ x c, cl.lookup x = some c -> env.cells.lookup x = some c) /\ ∀ y ∈ scope.names, y.2 = .free -> ∃ c, cl.lookup y.1 = some c := by
  obtain ⟨cl, e, p1, p2, _⟩ := zdB scope.names [] h
  refine ⟨cl, ?_, fun x c q => (p1 x c q).elim (fun z => by cases z) id, p2⟩
  have e2 : ((forIn scope.names [] (fun x r => if (x.2 == NameKind.free) = true then (do let a ← cellOf env x.1; pure (ForInStep.yield ((x.1, a) :: r))) else pure (ForInStep.yield r)) : Sem (List (Str × Addr))) >>= fun s => pure s) = pure cl := by
    rw [e]; rfl
  exact e2
theorem zec {env : Env} {x : Str} {k : NameKind} : ∀ {names : List (Str × NameKind)}, (names.map fun (n, k) => if (k == NameKind.free && env.scope.kind == .function && env.kindOf n == some .cell) then (n, NameKind.cell) else (n, k)).lookup x = some k ->
    names.lookup x = some k ∨ (names.lookup x = some .free /\ k = .cell)
  | [], h => by cases h
  | (n, j) :: r, h => by
    have ih := @zec env x k r
    have h : List.lookup x ((if (j == NameKind.free && env.scope.kind == .function && env.kindOf n == some .cell) = true then (n, NameKind.cell) else (n, j)) :: _) = some k := h
    cases hx : x == n with
    | true =>
      by_cases hc : (j == NameKind.free && env.scope.kind == .function && env.kindOf n == some .cell) = true
      · rw [if_pos hc] at h
        simp only [List.lookup_cons, hx] at h ⊢
        cases h
        simp only [Bool.and_eq_true] at hc
        have : j = .free := by have := hc.1.1; cases j <;> first | rfl | cases this
        subst this
        exact .inr ⟨rfl, rfl⟩
      · rw [if_neg hc] at h
        simp only [List.lookup_cons, hx] at h ⊢
        exact .inl h
    | false =>
      by_cases hc : (j == NameKind.free && env.scope.kind == .function && env.kindOf n == some .cell) = true
      · rw [if_pos hc] at h
        simp only [List.lookup_cons, hx] at h ⊢
        exact ih h
      · rw [if_neg hc] at h
        simp only [List.lookup_cons, hx] at h ⊢
        exact ih h
theorem zdO {env : Env} {x : Str} : ∀ {names : List (Str × NameKind)}, names.lookup x = some .free ->
    (names.map fun (n, k) => if (k == NameKind.free && env.scope.kind == .function && env.kindOf n == some .cell) then (n, NameKind.cell) else (n, k)).lookup x = some .free ∨
    (names.map fun (n, k) => if (k == NameKind.free && env.scope.kind == .function && env.kindOf n == some .cell) then (n, NameKind.cell) else (n, k)).lookup x = some .cell
  | [], h => by cases h
  | (n, j) :: r, h => by
    have ih := @zdO env x r
    show List.lookup x ((if (j == NameKind.free && env.scope.kind == .function && env.kindOf n == some .cell) = true then (n, NameKind.cell) else (n, j)) :: _) = _ ∨ List.lookup x ((if (j == NameKind.free && env.scope.kind == .function && env.kindOf n == some .cell) = true then (n, NameKind.cell) else (n, j)) :: _) = _
    cases hx : x == n with
    | true =>
      simp only [List.lookup_cons, hx] at h
      cases h
      by_cases hc : (NameKind.free == NameKind.free && env.scope.kind == .function && env.kindOf n == some .cell) = true
      · rw [if_pos hc]; simp [List.lookup_cons, hx]
      · rw [if_neg hc]; simp [List.lookup_cons, hx]
    | false =>
      simp only [List.lookup_cons, hx] at h
      by_cases hc : (j == NameKind.free && env.scope.kind == .function && env.kindOf n == some .cell) = true
      · rw [if_pos hc]; simp only [List.lookup_cons, hx]; exact ih h
      · rw [if_neg hc]; simp only [List.lookup_cons, hx]; exact ih h
theorem zeI {env : Env} {x : Str} : ∀ {names : List (Str × NameKind)}, names.lookup x = some .globalImplicit ->
    (names.map fun (n, k) => if (k == NameKind.free && env.scope.kind == .function && env.kindOf n == some .cell) then (n, NameKind.cell) else (n, k)).lookup x = some .globalImplicit
  | [], h => by cases h
  | (n, j) :: r, h => by
    have ih := @zeI env x r
    show List.lookup x ((if (j == NameKind.free && env.scope.kind == .function && env.kindOf n == some .cell) = true then (n, NameKind.cell) else (n, j)) :: _) = _
    cases hx : x == n with
    | true =>
      simp only [List.lookup_cons, hx] at h
      cases h
      rw [if_neg (by simp)]
      simp [List.lookup_cons, hx]
    | false =>
      simp only [List.lookup_cons, hx] at h
      by_cases hc : (j == NameKind.free && env.scope.kind == .function && env.kindOf n == some .cell) = true
      · rw [if_pos hc]; simp only [List.lookup_cons, hx]; exact ih h
      · rw [if_neg hc]; simp only [List.lookup_cons, hx]; exact ih h
def Cx.blk (X : Cx) (N' : List Str) (scope : Scope) (cl : List (Str × Addr)) (C : Addr) (s₀ : Shared) (H₀ : Hp) (ex : List Addr) : Cx :=
  { X with N := N', s₀ := s₀, H₀ := H₀, env := compEnvC scope cl C X.env, outer := X.stack, ex := ex, fn := fun _ => false, xe := fun _ _ => False }
section
variable {X : Cx} {N' : List Str} {scope : Scope} {cl : List (Str × Addr)} {C : Addr} {s₀ : Shared} {H₀ : Hp} {ex : List Addr} {x : Str}
theorem zmq (h : scope.names.lookup x = some .local ∨ scope.names.lookup x = some .free) : Vis (X.blk N' scope cl C s₀ H₀ ex).env.scope x := by
  rcases h with h | h
  · exact .inl (lookup_relabel_local h)
  · rcases zdO (env := X.env) h with z | z
    · exact .inr (.inr z)
    · exact .inr (.inl z)
theorem za1 (h : scope.names.lookup x = some .local) : Loc (X.blk N' scope cl C s₀ H₀ ex).env.scope x := .inl (lookup_relabel_local h)
theorem zbq (h : scope.names.lookup x = some .local) : (X.blk N' scope cl C s₀ H₀ ex).env.scope.names.lookup x = some .local := lookup_relabel_local h
theorem zdj (h : scope.names.lookup x = some .globalImplicit) : Gl (X.blk N' scope cl C s₀ H₀ ex) x := zeI h
end
def zbz (names : List (Str × NameKind)) (N N2 : List Str) (k : Nat) : Bool :=
  N2.length == N.length + k && (List.range N2.length).all fun i => match N2[i]? with
    | none => true
    | some x => match names.lookup x with
      | some .free => N[i]? == some x
      | some .local => decide (N.length <= i) && decide (i < N.length + k)
      | some .cell => false
      | _ => true
theorem zfK {names : List (Str × NameKind)} {N N2 : List Str} {k : Nat} (h : zbz names N N2 k = true) :
    N2.length = N.length + k /\ ∀ (i : Nat) x, N2[i]? = some x -> (names.lookup x = some .free -> N[i]? = some x) /\ (names.lookup x = some .local -> N.length <= i /\ i < N.length + k) := by
  unfold zbz at h
  simp only [Bool.and_eq_true, beq_iff_eq, List.all_eq_true, List.mem_range] at h
  refine ⟨h.1, fun i x e => ?_⟩
  have hi := (List.getElem?_eq_some_iff.mp e).1
  have := h.2 i hi
  rw [e] at this
  refine ⟨fun q => ?_, fun q => ?_⟩
  · simp only [q] at this
    simpa using this
  · simp only [q] at this
    simpa using this
end L2
set_option Elab.async false
set_option linter.all false
set_option maxRecDepth 100000
set_option maxHeartbeats 4000000
namespace L2
open PySem PySem.Spec PyProof.Rows
theorem Inv.enter {X : Cx} {pins : List (Addr × Obj)} {σ : St} {H : Hp} {s3 : Shared} (I : Inv X pins σ H s3) {scope : Scope} {cl : List (Str × Addr)} {N2 : List Str} {k : Nat} {h' : Heap} {fp : List Addr} {t' : Nat} {m0 : Str -> Option Value}
    (hb : zbz scope.names X.N N2 k = true) (hkind : scope.kind = .function) (hcell : ∀ y ∈ scope.names, y.2 ≠ .cell)
    (hfree : ∀ y ∈ scope.names, y.2 = .free -> X.env.scope.names.lookup y.1 = some .cell ∨ X.env.scope.names.lookup y.1 = some .free)
    (cl1 : ∀ x c, cl.lookup x = some c -> X.env.cells.lookup x = some c) (cl2 : ∀ y ∈ scope.names, y.2 = .free -> ∃ c, cl.lookup y.1 = some c)
    (hn : h'.Ns s3.heap.objs.size m0) (hk : ∀ b o, s3.heap.get? b = some o -> h'.get? b = some o) (hf : ∀ b ∈ fp, FpOk X pins H b) (hfo : ∀ b ∈ fp, ∃ o, s3.heap.get? b = some o) :
    Inv (X.blk N2 scope cl s3.heap.objs.size s3 H fp) pins (σ ++ List.replicate k none) H { s3 with heap := h', toks := t' } := by
  obtain ⟨hl, hN⟩ := zfK hb
  have lt : ∀ b o, s3.heap.get? b = some o -> b ≠ s3.heap.objs.size := fun b o e => Nat.ne_of_lt (Heap.lt_size e)
  have ofl : ∀ x, scope.names.lookup x = some .free -> (x, NameKind.free) ∈ scope.names := fun x h => mem_of_lookup h
  have kinv : ∀ x kk, (X.blk N2 scope cl s3.heap.objs.size s3 H fp).env.scope.names.lookup x = some kk -> scope.names.lookup x = some kk ∨ (scope.names.lookup x = some .free /\ kk = .cell) := fun x kk h => zec (env := X.env) h
  have isfree : ∀ x, (X.blk N2 scope cl s3.heap.objs.size s3 H fp).env.scope.names.lookup x = some .cell ∨ (X.blk N2 scope cl s3.heap.objs.size s3 H fp).env.scope.names.lookup x = some .free -> scope.names.lookup x = some .free := fun x h => by
    rcases h with h | h
    · rcases kinv x _ h with z | z
      · exact absurd rfl (hcell _ (mem_of_lookup z))
      · exact z.1
    · rcases kinv x _ h with z | z
      · exact z
      · exact z.1
  have ok : (X.blk N2 scope cl s3.heap.objs.size s3 H fp).Ok :=
    { mod := I.ok.mod
      kind := hkind
      glob := I.ok.glob
      blt := I.ok.blt
      above := Nat.le_refl _
      inj := fun x y c a b => I.ok.inj x y c (cl1 x c a) (cl1 y c b)
      has := fun x h => cl2 (x, .free) (ofl x (isfree x h)) rfl
      cab := fun x c h => by cases h
      hd := I.ok.hd
      frames := I.ok.frames
      stk := .inl rfl
      exf := fun b hb => ⟨let ⟨o, e⟩ := hfo b hb; lt b o e, fun x c e => (hf b hb).2.2.2.2.1 x c (cl1 x c e)⟩
      bs := I.bs
      bsz := Nat.le_trans I.ok.bsz I.sz
      noex := fun b o e hb => by
        rcases (hf b hb).2.2.2.1 with z | z
        · exact I.ok.noex b o e z
        · exact absurd (Nat.lt_of_lt_of_le (Heap.lt_size e) (Nat.le_trans I.ok.bsz z)) (Nat.lt_irrefl _)
      exfs := fun b hb hx => by
        rcases List.mem_cons.mp (I.stkSub b hx) with z | z
        · exact (hf b hb).2.1 z
        · exact (hf b hb).2.2.1 z
      funs := I.stack
      frf := I.stkFree }
  refine ⟨ok, rfl, I.bare, Un.kept hk, ⟨m0, hn, fun i x v e1 e2 e3 => ?_⟩, fun x c e => ?_, I.hok.fresh (Nat.le_refl _), fun x c e => I.freeC x c (cl1 x c e), fun p hp => ?_, I.hok.kept hk, ?_⟩
  · have nl : scope.names.lookup x ≠ some .local := fun z => by
      obtain ⟨g1, g2⟩ := (hN i x e1).2 z
      rw [← I.len] at g1 g2
      rw [List.getElem?_append_right g1, List.getElem?_replicate] at e2
      split at e2 <;> cases e2
    have fr : scope.names.lookup x = some .free := by
      rcases e3 with z | z | z
      · rcases kinv x _ z with q | q
        · exact absurd q nl
        · cases q.2
      · exact isfree x (.inl z)
      · exact isfree x (.inr z)
    have eN := (hN i x e1).1 fr
    have hi : i < σ.length := by rw [I.len]; exact (List.getElem?_eq_some_iff.mp eN).1
    rw [List.getElem?_append_left hi] at e2
    obtain ⟨m, hm, hlk⟩ := I.loc
    have hkd := hfree _ (ofl x fr) rfl
    obtain ⟨u, r, l⟩ := hlk i x v eN e2 (.inr hkd)
    refine ⟨u, r, .inr ⟨?_, ?_⟩⟩
    · rcases e3 with z | z | z
      · rcases kinv x _ z with q | q
        · exact absurd q nl
        · cases q.2
      · exact .inl z
      · exact .inr z
    · rcases l with l | ⟨_, c, ec, z⟩
      · have : X.env.scope.names.lookup x = some .local := l.1
        rcases hkd with q | q <;> (dsimp only at q; rw [this] at q; cases q)
      · obtain ⟨c', ec'⟩ := cl2 _ (ofl x fr) rfl
        have := cl1 _ _ ec'
        dsimp only at this ec'
        rw [ec] at this
        cases this
        obtain ⟨o, ho, hd⟩ := z
        exact ⟨c, ec', o, hk c o ho, hd⟩
  · obtain ⟨v, o, ho, hd⟩ := I.cell x c (cl1 x c e)
    exact ⟨v, o, hk c o ho, hd⟩
  · obtain ⟨e, n, ne, nf, d⟩ := I.pin p hp
    refine ⟨hk _ _ e, n, lt _ _ e, fun z => ?_, d⟩
    rcases List.mem_cons.mp (I.stkSub _ z) with q | q
    · exact ne q
    · exact nf q
  · rw [List.length_append, List.length_replicate, I.len]
    exact hl.symm
section
variable {prog : Program} {w : World} {A : Around} {R : Result -> Shared -> Prop} {s : Shared}
theorem zed {elt target iter : Expr} {ifs : List Expr} {scope : Scope} {pos : Pos} {it acc : Value} {env : Env} (I : Nat -> Shared -> Prop)
    (turn : ∀ n s, I n s -> wpAny (model prog w) A (pyNext it) (fun r s₁ => match r with
      | none => R (.ok .next) s₁
      | some v => wpAny (model prog w) A (letOwnedTupleGo target it v) (fun _ s₁' => wpAny (model prog w) A (assign target env v) (fun _ s₂ =>
          wpAny (model prog w) A (forIn ifs true fun c r => if r = true then do let ok ← isTrue c env (eval c env); pure (ForInStep.yield ok) else pure (ForInStep.yield r)) (fun ok s₃ =>
            if ok = true then wpAny (model prog w) A (eval elt env) (fun x s₄ =>
              wpAny (model prog w) A (call (.builtin "list.append") [acc, x]) (fun _ s₅ => ∃ m, m < n /\ I m s₅) (fun _ _ => False) s₄) (fun _ _ => False) s₃
            else ∃ m, m < n /\ I m s₃) (fun _ _ => False) s₂) (fun _ _ => False) s₁') (fun _ _ => False) s₁) (fun _ _ => False) s)
    (n : Nat) (h : I n s) :
    codeAny (model prog w) A (.compLoop (.ListComp elt [⟨target, iter, ifs, 0⟩] scope pos) 0 it acc env) R s := by
  refine codeAny_loop rfl I (fun n s hI => ?_) n h
  show wpAny _ A ((compTurn (.ListComp elt [⟨target, iter, ifs, 0⟩] scope pos) 0 it acc env).onRaise (fun x => do noteFrame x env; theTreesLotGoes x)) _ _ s
  refine wpAny_noted ?_
  rw [compTurn_list]
  refine wpAny_bind (wpAny_standAt (wpAny_bind (wpAny_mono (turn n s hI) (fun r s₁ h₁ => ?_) fun _ _ h' => h'.elim)))
  cases r with
  | none => exact wpAny_pure h₁
  | some v =>
    refine wpAny_bind (wpAny_mono h₁ (fun _ s₁' h₁' => ?_) fun _ _ h' => h'.elim)
    refine wpAny_bind (wpAny_mono h₁' (fun _ s₂ h₂ => wpAny_bind (wpAny_mono h₂ (fun ok s₃ h₃ => ?_) fun _ _ h' => h'.elim)) fun _ _ h' => h'.elim)
    cases ok with
    | false => exact wpAny_pure ⟨rfl, h₃⟩
    | true =>
      exact wpAny_bind (wpAny_bind (wpAny_mono h₃ (fun x s₄ h₄ => wpAny_bind (wpAny_mono h₄ (fun _ s₅ h₅ => wpAny_pure (wpAny_pure ⟨rfl, h₅⟩)) fun _ _ h' => h'.elim)) fun _ _ h' => h'.elim))
end
end L2
set_option Elab.async false
set_option linter.all false
set_option maxRecDepth 100000
set_option maxHeartbeats 4000000
namespace DL
open PySem PySem.Spec L2
open PyProof.Rows hiding St
def zeD : Option Sl -> Option Sl
  | some (.own _) => none
  | x => x
def zaL (ρ : DEnv) : DEnv := ρ.map zeD
theorem ziZ {ρ : DEnv} {i : Nat} {d : D} (h : (zaL ρ)[i]? = some (some (.pub d))) : ρ[i]? = some (some (.pub d)) := by
  unfold zaL at h
  rw [List.getElem?_map] at h
  cases e : ρ[i]? with
  | none => rw [e] at h; cases h
  | some o =>
    rw [e] at h
    cases o with
    | none => cases h
    | some sl => cases sl with
      | pub d' => cases h; rfl
      | own ds => cases h
theorem zco {ρ : DEnv} {i : Nat} {ds : List D} (h : (zaL ρ)[i]? = some (some (.own ds))) : False := by
  unfold zaL at h
  rw [List.getElem?_map] at h
  cases e : ρ[i]? with
  | none => rw [e] at h; cases h
  | some o =>
    rw [e] at h
    cases o with
    | none => cases h
    | some sl => cases sl with
      | pub d' => cases h
      | own ds => cases h
def za4 (s : D -> DEnv -> Option DEnv) (t : M Bool) (g : M D) : List D -> DEnv -> List D -> Option (List D)
  | [], _, es => some es
  | d :: r, ρ, es => match s d ρ with
    | none => none
    | some ρ1 => match t ρ1 with
      | .bad => none
      | .ok b ρ2 => if b = true then (match g ρ2 with
          | .bad => none
          | .ok e ρ3 => if es.length < 1000000 then za4 s t g r (zaL ρ3) (es ++ [e]) else none)
        else za4 s t g r (zaL ρ2) es
def zbL (f : M (List D)) (k : Nat) (s : D -> DEnv -> Option DEnv) (t : M Bool) (g : M D) : M (List D) := fun ρ => match f ρ with
  | .bad => .bad
  | .ok ds ρ1 => match za4 s t g ds (zaL ρ1 ++ List.replicate k none) [] with
    | none => .bad
    | some es => .ok es ρ1
def PIfs (X : Cx) (ifs : List Expr) (t : TT) : Prop :=
  ∀ (pins : List (Addr × Obj)) (s : Shared) (σ : St) (H : Hp) (Q : Bool -> Hp -> Prop), Inv X pins σ H s -> t σ H Q ->
    wpAny (model X.prog X.w) X.A (forIn ifs true fun c r => if r = true then do let ok ← isTrue c X.env (eval c X.env); pure (ForInStep.yield ok) else pure (ForInStep.yield r)) (TP X pins σ Q) X.xe s
section
variable {X : Cx} {B G0 : Hp}
theorem zbB : PIfs X [] (tBo X.K B G0 (zah true)) := fun pins s σ H Q I ⟨G, ρ, k, a⟩ => wpAny_tests_nil ⟨H, I, a true G H k (.refl _) rfl⟩
theorem zee {c : Expr} {t : M Bool} (h : PT X c (tBo X.K B G0 t)) : PIfs X [c] (tBo X.K B G0 t) := fun pins s σ H Q I q => wpAny_tests_one (h pins s σ H Q I q)
theorem EOk.rebase {K : PySem.W.Frag} {G H : Hp} {σ : St} {ρ : DEnv} (k : EOk K B G0 G H σ ρ) : EOk K H G G H σ (zaL ρ) where
  bh := .refl _
  gh := k.gh
  g0 := .refl _
  np := fun _ _ _ n => n
  len := by unfold zaL; rw [List.length_map]; exact k.len
  pub := fun i d q => k.pub i d (ziZ q)
  own := fun i ds q => (zco q).elim
  sep := fun i j a ds es q => (zco q).elim
theorem EOk.more {K : PySem.W.Frag} {G H : Hp} {σ : St} {ρ : DEnv} (k : EOk K H G G H σ (zaL ρ)) (n : Nat) : EOk K H G G H (σ ++ List.replicate n none) (zaL ρ ++ List.replicate n none) where
  bh := .refl _
  gh := k.gh
  g0 := .refl _
  np := fun _ _ _ n => n
  len := by rw [List.length_append, List.length_append, k.len, List.length_replicate, List.length_replicate]
  pub := fun i d q => by
    by_cases hi : i < (zaL ρ).length
    · rw [List.getElem?_append_left hi] at q
      rw [List.getElem?_append_left (by rw [← k.len]; exact hi)]
      exact k.pub i d q
    · rw [List.getElem?_append_right (Nat.le_of_not_lt hi), List.getElem?_replicate] at q
      split at q <;> cases q
  own := fun i ds q => by
    by_cases hi : i < (zaL ρ).length
    · rw [List.getElem?_append_left hi] at q
      exact (zco q).elim
    · rw [List.getElem?_append_right (Nat.le_of_not_lt hi), List.getElem?_replicate] at q
      split at q <;> cases q
  sep := fun i j a ds es q => by
    by_cases hi : i < (zaL ρ).length
    · rw [List.getElem?_append_left hi] at q
      exact (zco q).elim
    · rw [List.getElem?_append_right (Nat.le_of_not_lt hi), List.getElem?_replicate] at q
      split at q <;> cases q
theorem EOk.beside {K : PySem.W.Frag} {G H : Hp} {σ : St} {ρ : DEnv} {a : Addr} {o : HO} (k : EOk K B G0 G H σ ρ) (hg : G a = none) : EOk K (upd H a o) G G (upd H a o) σ (zaL ρ) where
  bh := .refl _
  gh := fun b u e => by rw [zaM (fun z => by subst z; rw [hg] at e; cases e)]; exact k.gh b u e
  g0 := .refl _
  np := fun _ _ _ n => n
  len := k.rebase.len
  pub := k.rebase.pub
  own := fun i ds q => (zco q).elim
  sep := fun i j a ds es q => (zco q).elim
theorem lim1 : 1000000 <= sizeLine := lim
theorem zho {tg elt iter : Expr} {ifs : List Expr} {scope : Scope} {pos pos' : Pos} {N2 : List Str} {k : Nat} {f : M (List D)} {s : D -> DEnv -> Option DEnv} {t : M Bool} {g : M D} {use : Option (Value -> Sem Unit)} {Qc : Value -> Shared -> Prop} (hc : X.calm = true)
    (hi : PI X tg iter (iD X.K B G0 f))
    (hblk : ∀ (cl : List (Str × Addr)) (C : Addr) (s₀ : Shared) (H₀ : Hp) (ex : List Addr) (B' G' : Hp), PG (X.blk N2 scope cl C s₀ H₀ ex) tg (tG X.K B' G' s) /\ PIfs (X.blk N2 scope cl C s₀ H₀ ex) ifs (tBo X.K B' G' t) /\ PE (X.blk N2 scope cl C s₀ H₀ ex) elt (tD X.K B' G' g))
    (hb : zbz scope.names X.N N2 k = true) (hkind : scope.kind = .function) (hcell : ∀ y ∈ scope.names, y.2 ≠ .cell)
    (hnames : ∀ y ∈ scope.names, y.2 = .local -> scope.names.lookup y.1 = some .local)
    (hfree : ∀ y ∈ scope.names, y.2 = .free -> X.env.scope.names.lookup y.1 = some .cell ∨ X.env.scope.names.lookup y.1 = some .free)
    (hs : ∀ x, foldedSetIterable iter X.env x = pure x)
    {pins : List (Addr × Obj)} {s0 : Shared} {σ : St} {G H : Hp} {ρ ρ1 : DEnv} {ds esF : List D} (I : Inv X pins σ H s0) (k0 : EOk X.K B G0 G H σ ρ) (zf : f ρ = .ok ds ρ1) (zl : za4 s t g ds (zaL ρ1 ++ List.replicate k none) [] = some esF)
    (hfin : ∀ (C D : Addr) (vs : List V) (G' H' : Hp) (s4 : Shared) (m : Str -> Option Value), Inv X pins σ H' s4 -> s4.heap.Ns C m -> H' C = none -> C ≠ X.env.locals -> X.s₀.heap.objs.size <= C -> (∀ x c, X.env.cells.lookup x = some c -> c ≠ C) -> (∀ p ∈ X.pn ++ pins, p.1 ≠ C) ->
      EOk X.K B G0 G' H' σ ρ1 -> Same G G' -> NewL X.K B G' H' σ ρ1 D vs esF -> compPost (model X.prog X.w) X.A X.xe use Qc (.ref D) C (.ok .next) s4) :
    wpAny (model X.prog X.w) X.A (comprehension (.ListComp elt [⟨tg, iter, ifs, 0⟩] scope pos) scope X.env pos' (newList []) false (eval iter X.env) use) Qc X.xe s0 := by
  obtain ⟨cl, hcl, cl1, cl2⟩ := zdC (scope := scope) (env := X.env) fun y hy hf => I.ok.has y.1 (hfree y hy hf)
  refine wpAny_comprehension_free (use := use) rfl hs hcl hkind hnames (thn (hi pins s0 σ H (fun J H1 => ∃ G1, EOk X.K B G0 G1 H1 σ ρ1 /\ Same G G1 /\ zdh X.K J ds G1) I ⟨G, ρ, k0, by rw [zf]; exact fun J G1 H1 k1 s1 it => ⟨G1, k1, s1, it⟩⟩) fun v s1 h1 => thn h1 fun itv s2 h2 => ?_)
  obtain ⟨it, fp, tn, J, H2, rfl, I2, T, st2, f2, G1, k1, sg1, its⟩ := h2
  refine wpAny_newObj_type (wpAny_newFunctionEnv hcell (by intro y hy; simp at hy) (fun h₁ hns₁ hsb₁ => ?_) hkind)
  dsimp only at hns₁ hsb₁ ⊢
  have hfr : H2 s2.heap.objs.size = none := I2.hok.fresh (Nat.le_refl _)
  have I3 : Inv X pins σ (upd H2 s2.heap.objs.size (.lst [])) { s2 with heap := s2.heap.push { cls := .type "list", dict := none, data := .seq ([] : List Value).toArray } } :=
    I2.laid (t' := s2.toks) (fun b u e => Heap.get?_push_of_some _ e) (Nat.le_refl _) ⟨Nat.zero_le _, [], 0, .nil, Heap.get?_push_size _ rfl⟩
  generalize hP : s2.heap.push { cls := .type "list", dict := none, data := .seq ([] : List Value).toArray } = P at I3 hns₁ hsb₁ ⊢
  have sD : s2.heap.objs.size <= P.objs.size := by rw [← hP, Heap.size_push]; exact Nat.le_succ _
  have old : ∀ b o, s2.heap.get? b = some o -> P.get? b = some o := fun b o e => hP ▸ Heap.get?_push_of_some _ e
  have kept : ∀ b o, P.get? b = some o -> h₁.get? b = some o := fun b o e => hsb₁.extBut b o (Nat.ne_of_lt (Heap.lt_size e)) (Heap.get?_push_of_some _ e)
  have fpo : ∀ b ∈ fp, ∃ o, s2.heap.get? b = some o := fun b hb => let ⟨o, e, _⟩ := T.obj _ _ st2 b hb; ⟨o, e⟩
  have fpD : ∀ b ∈ fp, b ≠ s2.heap.objs.size := fun b hb => let ⟨o, e⟩ := fpo b hb; Nat.ne_of_lt (Heap.lt_size e)
  have f3 : ∀ b ∈ fp, FpOk X pins (upd H2 s2.heap.objs.size (.lst [])) b := fun b hb => ⟨by rw [zaM (fpD b hb)]; exact (f2 b hb).1, (f2 b hb).2⟩
  have I4 := I3.enter (scope := scope) (cl := cl) (N2 := N2) (k := k) (fp := fp) (t' := s2.toks + ([] : List (Str × Value)).length) hb hkind hcell hfree cl1 cl2 hns₁ kept f3 (fun b hb => let ⟨o, e⟩ := fpo b hb; ⟨o, old b o e⟩)
  dsimp only at I4
  generalize hH3 : upd H2 s2.heap.objs.size (.lst []) = H3 at I3 I4 f3
  generalize hD : s2.heap.objs.size = D at *
  have sH : Same H2 H3 := by rw [← hH3]; exact zaK hfr
  have gD : G1 D = none := k1.gh.free hfr
  have kb : EOk X.K H3 G1 G1 H3 (σ ++ List.replicate k none) (zaL ρ1 ++ List.replicate k none) := by
    have := (k1.beside (a := D) (o := .lst []) gD).more k
    rw [hH3] at this
    exact this
  have tn0 : tn 0 h₁ := T.keep 0 _ _ st2 fun b hb o e => kept b o (old b o e)
  have stat : ∀ {H' : Hp}, (∀ b ∈ fp, H' b = none) -> ∀ b ∈ fp, FpOk (X.blk N2 scope cl P.objs.size { s2 with heap := P } H3 fp) pins H' b := fun hn b hb => by
    obtain ⟨z0, z1, z2, z3, z4, z5⟩ := f3 b hb
    obtain ⟨o, e⟩ := fpo b hb
    refine ⟨hn b hb, Nat.ne_of_lt (Heap.lt_size (old b o e)), fun z => ?_, .inl hb, fun x c q => z4 x c (cl1 x c q), z5⟩
    rcases List.mem_cons.mp (I3.stkSub b z) with q | q
    · exact z1 q
    · exact z2 q
  have loop : codeAny (model X.prog X.w) X.A (.compLoop (.ListComp elt [⟨tg, iter, ifs, 0⟩] scope pos) 0 (.ref it) (.ref D) (compEnvC scope cl P.objs.size X.env))
      (compPost (model X.prog X.w) X.A X.xe use Qc (.ref D) P.objs.size) { s2 with heap := h₁, toks := s2.toks + ([] : List (Str × Value)).length } := by
    refine zed (fun n s' => ∃ i σ' H' G' ρ' vs es, n = ds.length - i /\ Inv (X.blk N2 scope cl P.objs.size { s2 with heap := P } H3 fp) pins σ' H' s' /\ tn i s'.heap /\ (∀ b ∈ fp, H' b = none) /\ EOk X.K H' G' G' H' σ' ρ' /\ Same H2 H' /\ Same G1 G' /\
      (∀ a o, H2 a = some o -> G1 a = none -> G' a = none) /\ H' D = some (.lst vs) /\ G' D = none /\ Reps X.K G' vs es /\ za4 s t g (ds.drop i) ρ' es = some esF) ?_ ds.length
      ⟨0, _, H3, G1, _, [], [], rfl, I4, tn0, fun b hb => (f3 b hb).1, kb, sH, .refl _, fun _ _ _ n => n, by rw [← hH3]; exact zaH, gD, .nil, by rw [List.drop_zero]; exact zl⟩
    rintro n s' ⟨i, σ', H', G', ρ', vs, es, rfl, I', tn', fr', k', sh', sg', np', hD', gD', r', zc⟩
    by_cases hlt : i < ds.length
    · rw [List.drop_eq_getElem_cons hlt, za4] at zc
      cases zs : s ds[i] ρ' with
      | none => rw [zs] at zc; cases zc
      | some ρ2 =>
      rw [zs] at zc
      dsimp only at zc
      cases zt : t ρ2 with
      | bad => rw [zt] at zc; cases zc
      | ok b ρ3 =>
      rw [zt] at zc
      dsimp only at zc
      refine thn (T.item (X.blk N2 scope cl P.objs.size { s2 with heap := P } H3 fp) rfl rfl rfl hc i pins s' σ' H' (fun _ _ => False) I' (stat fr') tn' (its.go i G' H' sg' k'.gh hlt)) fun r s4 ⟨u, hr, h4⟩ => ?_
      subst hr
      refine thn h4 fun _ s5 ⟨x, H5, I5, r5, y5, st5, fr5⟩ => ?_
      obtain ⟨G5, e5, rx⟩ := its.yld i G' H' x H5 ds[i] sg' k'.gh (List.getElem?_eq_getElem hlt) y5
      have k5 := k'.ext e5
      have I5' := I5.pinned (stat fr5) (T.obj _ _ st5)
      obtain ⟨hg, ht, he⟩ := hblk cl P.objs.size { s2 with heap := P } H3 fp H' G'
      refine thn (hg _ s5 σ' H5 x u (fun σ6 H6 => ∃ G6, EOk X.K H' G' G6 H6 σ6 ρ2) I5' r5 ⟨G5, ρ', ds[i], ρ2, k5, rx, zs, fun σ6 G6 H6 k6 _ => ⟨G6, k6⟩⟩) fun _ s6 ⟨σ6, H6, I6, G6, k6⟩ => ?_
      refine thn (ht _ s6 σ6 H6 (fun c H7 => c = b /\ ∃ G7, EOk X.K H' G' G7 H7 σ6 ρ3) I6 ⟨G6, ρ2, k6, by unfold aft; rw [zt]; exact fun c G7 H7 k7 _ q => ⟨q, G7, k7⟩⟩) fun ok s7 ⟨H7, I7, hb7, G7, k7⟩ => ?_
      subst hb7
      have again : ∀ {H9 : Hp} {s9 : Shared}, Inv (X.blk N2 scope cl P.objs.size { s2 with heap := P } H3 fp) (pins ++ zdJ fp s5.heap) σ6 H9 s9 -> Inv (X.blk N2 scope cl P.objs.size { s2 with heap := P } H3 fp) pins σ6 H9 s9 /\ tn (i + 1) s9.heap /\ ∀ b ∈ fp, H9 b = none := fun {H9 s9} I9 => by
        refine ⟨I9.unpinned, T.keep _ _ _ st5 fun b hb o e => (I9.pin (b, o) (List.mem_append_right _ (List.mem_append_right _ (zbd hb e)))).1, fun b hb => ?_⟩
        obtain ⟨o, e, d⟩ := T.obj _ _ st5 b hb
        exact (I9.pin (b, o) (List.mem_append_right _ (List.mem_append_right _ (zbd hb e)))).2.1
      cases ok with
      | false =>
        rw [if_neg (by decide)] at zc ⊢
        obtain ⟨J1, J2, J3⟩ := again I7
        exact ⟨ds.length - (i + 1), by omega, i + 1, σ6, H7, G7, zaL ρ3, vs, es, rfl, J1, J2, J3, k7.rebase, sh'.trans k7.bh, sg'.trans k7.g0, fun a o q z => k7.np a o (sh' a o q) (np' a o q z), k7.bh _ _ hD', k7.np _ _ hD' gD', r'.mono k7.g0, zc⟩
      | true =>
        rw [if_pos rfl] at zc ⊢
        cases zg : g ρ3 with
        | bad => rw [zg] at zc; cases zc
        | ok e ρ4 =>
        rw [zg] at zc
        dsimp only at zc
        by_cases hle : es.length < 1000000
        · rw [if_pos hle] at zc
          refine thn (he _ s7 σ6 H7 (fun v H8 => ∃ G8, EOk X.K H' G' G8 H8 σ6 ρ4 /\ Rep X.K G8 v e) I7 ⟨G7, ρ3, k7, by unfold aft; rw [zg]; exact fun v G8 H8 k8 _ q => ⟨G8, k8, q⟩⟩) fun ev s8 ⟨v, H8, I8, rv, G8, k8, r8⟩ => ?_
          have h8 := k8.bh _ _ hD'
          have g8 := k8.np _ _ hD' gD'
          refine thn (zdf _ s8 σ6 H8 (.ref D) [v] (.ref D) [ev] (fun _ H9 => H9 = upd H8 D (.lst (vs ++ [v]))) I8 rfl (.cons rv .nil) ⟨D, vs, v, rfl, rfl, h8, by have := lim1; rw [r'.length]; omega, rfl⟩) fun _ s9 ⟨_, H9, I9, _, e9⟩ => ?_
          subst e9
          obtain ⟨J1, J2, J3⟩ := again I9
          refine ⟨ds.length - (i + 1), by omega, i + 1, σ6, _, G8, zaL ρ4, vs ++ [v], es ++ [e], rfl, J1, J2, J3, k8.beside g8, fun a o q => ?_, sg'.trans k8.g0, fun a o q z => k8.np a o (sh' a o q) (np' a o q z), zaH, g8, (r'.mono k8.g0).append (.cons r8 .nil), zc⟩
          rw [zaM (fun z => by subst z; rw [hfr] at q; cases q)]
          exact k8.bh a o (sh' a o q)
        · rw [if_neg hle] at zc; cases zc
    · rw [List.drop_eq_nil_of_le (Nat.le_of_not_lt hlt), za4] at zc
      cases zc
      refine thn (T.done (X.blk N2 scope cl P.objs.size { s2 with heap := P } H3 fp) rfl rfl rfl hc i pins s' σ' H' (fun _ _ => False) I' (stat fr') tn' (its.stop i G' H' sg' k'.gh (Nat.le_of_not_lt hlt))) fun r s4 ⟨hr, I6⟩ => ?_
      subst hr
      obtain ⟨m, hm, _⟩ := id I6.loc
      have I7 : Inv X pins σ H' s4 := I3.call' (ch := fp) I6.os I6.base I6.hok I6.bare fun b hb => ⟨(f3 b hb).2.2.2.1, (f3 b hb).2.1, (f3 b hb).2.2.2.2.1, (f3 b hb).2.2.2.2.2⟩
      refine hfin P.objs.size D vs G' H' s4 m I7 hm I6.free (Nat.ne_of_gt I3.lt) I3.sz (fun x c e z => by obtain ⟨_, q⟩ := I3.cell x c e; exact absurd q.lt (by rw [z]; exact Nat.lt_irrefl _)) (fun p hp z => by have := Heap.lt_size (I3.pin p hp).1; exact absurd this (by rw [z]; exact Nat.lt_irrefl _))
        (k1.ext ⟨sh', sg', k'.gh, np'⟩) (sg1.trans sg') ⟨k1.bh.free hfr, gD', hD', r', fun j es' q z => ?_⟩
      obtain ⟨a', ws, h1', h2', h3', h4', h5'⟩ := k1.own j es' q
      rw [z] at h1'
      cases h1'
      rw [hfr] at h4'; cases h4'
  exact codeAny_compStart_list loop (T.self X.A 0 _ _ _ tn0 loop)
theorem zfL {f : M (List D)} {k : Nat} {s : D -> DEnv -> Option DEnv} {t : M Bool} {g : M D} {ρ ρ' : DEnv} {es : List D} (h : zbL f k s t g ρ = .ok es ρ') : ∃ ds, f ρ = .ok ds ρ' /\ za4 s t g ds (zaL ρ' ++ List.replicate k none) [] = some es := by
  unfold zbL at h
  cases zf : f ρ with
  | bad => rw [zf] at h; cases h
  | ok ds ρ1 =>
  rw [zf] at h
  dsimp only at h
  cases zl : za4 s t g ds (zaL ρ1 ++ List.replicate k none) [] with
  | none => rw [zl] at h; cases h
  | some esF =>
  rw [zl] at h
  cases h
  exact ⟨ds, rfl, zl⟩
theorem zkD {tg elt iter : Expr} {ifs : List Expr} {scope : Scope} {pos : Pos} {N2 : List Str} {k : Nat} {f : M (List D)} {s : D -> DEnv -> Option DEnv} {t : M Bool} {g : M D} (hc : X.calm = true)
    (hi : PI X tg iter (iD X.K B G0 f))
    (hblk : ∀ (cl : List (Str × Addr)) (C : Addr) (s₀ : Shared) (H₀ : Hp) (ex : List Addr) (B' G' : Hp), PG (X.blk N2 scope cl C s₀ H₀ ex) tg (tG X.K B' G' s) /\ PIfs (X.blk N2 scope cl C s₀ H₀ ex) ifs (tBo X.K B' G' t) /\ PE (X.blk N2 scope cl C s₀ H₀ ex) elt (tD X.K B' G' g))
    (hb : zbz scope.names X.N N2 k = true) (hkind : scope.kind = .function) (hcell : ∀ y ∈ scope.names, y.2 ≠ .cell)
    (hnames : ∀ y ∈ scope.names, y.2 = .local -> scope.names.lookup y.1 = some .local)
    (hfree : ∀ y ∈ scope.names, y.2 = .free -> X.env.scope.names.lookup y.1 = some .cell ∨ X.env.scope.names.lookup y.1 = some .free)
    (hs : ∀ x, foldedSetIterable iter X.env x = pure x := by intro _; rfl) :
    PE X (.ListComp elt [⟨tg, iter, ifs, 0⟩] scope pos) (tL X.K B G0 (zbL f k s t g)) := by
  intro pins s0 σ H Q I ⟨G, ρ, k0, a⟩
  cases z : zbL f k s t g ρ with
  | bad => rw [z] at a; exact a.elim
  | ok es ρ1 =>
  rw [z] at a
  obtain ⟨ds, zf, zl⟩ := zfL z
  rw [eval_ListComp]
  refine zho hc hi hblk hb hkind hcell hnames hfree hs I k0 zf zl fun C D vs G' H' s4 m I7 hm hC hL hz hcl hp k' s' n => ?_
  exact ⟨m, hm, fun h' sb => ⟨.ref D, H', I7.turned (t' := s4.toks) (it := C) (fun b o hb e => (sb.2 b hb).trans e) hC hL (.inr hz) hcl hp, rfl, a D vs G' H' k' s' n⟩⟩
theorem zmr {y : Str} {j : Nat} {py : Pos} {spos : Pos} {tg elt iter : Expr} {ifs : List Expr} {scope : Scope} {pos : Pos} {N2 : List Str} {k : Nat} {f : M (List D)} {s : D -> DEnv -> Option DEnv} {t : M Bool} {g : M D} (hN : X.N.Nodup) (hj : X.N[j]? = some y) (hy : X.env.scope.names.lookup y = some .local) (hc : X.calm = true)
    (hi : PI X tg iter (iD X.K B G0 f))
    (hblk : ∀ (cl : List (Str × Addr)) (C : Addr) (s₀ : Shared) (H₀ : Hp) (ex : List Addr) (B' G' : Hp), PG (X.blk N2 scope cl C s₀ H₀ ex) tg (tG X.K B' G' s) /\ PIfs (X.blk N2 scope cl C s₀ H₀ ex) ifs (tBo X.K B' G' t) /\ PE (X.blk N2 scope cl C s₀ H₀ ex) elt (tD X.K B' G' g))
    (hb : zbz scope.names X.N N2 k = true) (hkind : scope.kind = .function) (hcell : ∀ y ∈ scope.names, y.2 ≠ .cell)
    (hnames : ∀ y ∈ scope.names, y.2 = .local -> scope.names.lookup y.1 = some .local)
    (hfree : ∀ y ∈ scope.names, y.2 = .free -> X.env.scope.names.lookup y.1 = some .cell ∨ X.env.scope.names.lookup y.1 = some .free)
    (hs : ∀ x, foldedSetIterable iter X.env x = pure x := by intro _; rfl)
    (hsw : swapsWith (.ListComp elt [⟨tg, iter, ifs, 0⟩] scope pos) (some (.Name y py)) spos.line X.env = pure true := by rfl) :
    PS X (.Assign [.Name y py] (.ListComp elt [⟨tg, iter, ifs, 0⟩] scope pos) spos) (tS X.K B G0 (zbK j (zbL f k s t g))) := by
  intro pins s0 σ H Dn I ⟨G, ρ, k0, a⟩
  unfold zbK sB at a
  cases z : zbL f k s t g ρ with
  | bad => rw [z] at a; exact a.elim
  | ok es ρ1 =>
  rw [z] at a
  dsimp only at a
  by_cases hl : j < ρ1.length
  · rw [if_pos hl] at a
    obtain ⟨ds, zf, zl⟩ := zfL z
    rw [exec_Assign_Name_used _ _ _ _ hsw]
    refine wpAny_bind (wpAny_standAt (wpAny_bind ?_))
    show wpAny _ X.A (do let _ ← comprehension (.ListComp elt [⟨tg, iter, ifs, 0⟩] scope pos) scope X.env _ (newList []) false (eval iter X.env) (some (assign (.Name y py) X.env))) _ _ s0
    refine wpAny_bind (wpAny_mono (zho (use := some (assign (.Name y py) X.env)) (Qc := fun _ s' => SP X pins Dn .next s') hc hi hblk hb hkind hcell hnames hfree hs I k0 zf zl fun C D vs G' H' s4 m I7 hm hC hL hz hcl hp k' s' n => ?_) (fun _ s' hq => wpAny_pure (wpAny_pure hq)) fun _ _ e => e)
    show wpAny _ X.A (assign (.Name y py) X.env (.ref D)) _ _ s4
    refine wpAny_assign_Name (zd4 I7 hN hj (.inl hy) (v := .ref D) rfl (fun s5 I8 ⟨ad, sb, hx⟩ => ?_) (.inr hy))
    have hCa : C ≠ ad := by
      rcases hx with e | e
      · rw [e]; exact hL
      · exact Ne.symm (hcl y ad e)
    refine ⟨m, hm.sameBut sb hCa, fun h' sb' => ⟨_, H', I8.turned (t' := s5.toks) (it := C) (fun b o hb e => (sb'.2 b hb).trans e) hC hL (.inr hz) hcl hp, ?_⟩⟩
    exact a _ G' H' (k'.setOwn n hl) s'
  · rw [if_neg hl] at a; exact a.elim
end
end DL
set_option Elab.async false
set_option linter.all false
set_option maxRecDepth 100000
set_option maxHeartbeats 4000000
namespace DL
open PySem PySem.Spec L2
open PyProof.Rows hiding St
section
variable {X : Cx} {B G0 : Hp} {e a b c tg : Expr} {pos : Pos} {es rest : List Expr}
theorem EOk.given {K : PySem.W.Frag} {G H : Hp} {σ : St} {ρ : DEnv} {a : Addr} {vs : List V} {ds : List D} (k : EOk K B G0 G H σ ρ) (n : NewL K B G H σ ρ a vs ds) : EOk K B G0 (upd G a (.lst vs)) H σ ρ where
  bh := k.bh
  gh := fun b u q => by
    by_cases z : b = a
    · subst z; rw [zaH] at q; cases q; exact n.h
    · rw [zaM z] at q; exact k.gh b u q
  g0 := k.g0.trans (zaK n.g)
  np := fun b o q z => by
    have zb : b ≠ a := fun z => by subst z; rw [n.b] at q; cases q
    rw [zaM zb]; exact k.np b o q z
  len := k.len
  pub := fun i d q => let ⟨v, h1, h2⟩ := k.pub i d q; ⟨v, h1, h2.mono (zaK n.g)⟩
  own := fun i ds q => by
    obtain ⟨b, ws, h1, h2, h3, h4, h5⟩ := k.own i ds q
    have zb : b ≠ a := fun z => by subst z; exact n.f i ds q h1
    exact ⟨b, ws, h1, h2, by rw [zaM zb]; exact h3, h4, h5.mono (zaK n.g)⟩
  sep := k.sep
theorem zbm {f : M (List D)} (h : PE X e (tL X.K B G0 f)) : PE X e (tD X.K B G0 (mMap PyData.list f)) :=
  peof h fun σ H Q ⟨G, ρ, k, a⟩ => by
    refine ⟨G, ρ, k, ?_⟩
    unfold mMap zas at a
    cases z : f ρ with
    | bad => rw [z] at a; exact a.elim
    | ok ds ρ1 =>
      rw [z] at a
      intro ad vs G' H' k' s' n
      exact a (.ref ad) _ H' (k'.given n) (s'.trans (zaK n.g)) (.lst (SqL.of zaH) (n.r.mono (zaK n.g)))
theorem zkE (hc : X.calm = true) : zc1 X (.builtin "all") (fun xs H Q => ∃ l, ∃ bs : List Bool, xs = [.ref l] /\ SqL X.K H l (bs.map V.bl) /\ Q (.bl (bs.all id)) H) := by
  intro pins s σ H xs us Q I rx h
  obtain ⟨l, bs, rfl, hq, q⟩ := h
  obtain ⟨u, rfl, ru⟩ := rx.one
  cases ru
  obtain ⟨its, rv, p, hz⟩ := I.list hq
  have hl := p.isList
  have hlt : l < s.heap.objs.size := by obtain ⟨_, e, _⟩ := id hl; exact Heap.lt_size e
  have key : ∀ (i : Nat) v, its.toArray[i]? = some v -> ∃ t, bs[i]? = some t /\ v = .bool t := fun i v e => by
    have e : its[i]? = some v := by simpa using e
    have hi : i < bs.length := by
      have := (List.getElem?_eq_some_iff.mp e).1
      have h2 := rv.length
      rw [List.length_map] at h2
      omega
    obtain ⟨u, e2, r2⟩ := rv.get (i := i) (x := .bl bs[i]) (by rw [List.getElem?_map, List.getElem?_eq_getElem hi]; rfl)
    rw [e] at e2
    cases e2
    exact ⟨bs[i], List.getElem?_eq_getElem hi, r2⟩
  refine call_all_walk (wpAny_pyIter_list hl ?_)
  refine ⟨s.heap.objs.size, [s.heap.objs.size, l], [s.heap.objs.size], its.toArray.size, _, _, fun i => (bs[i]?).getD true, rfl, Walks.list (A := X.A.in1) (I.ok.hd hc) _ l (Nat.ne_of_lt hlt) its.toArray,
    ⟨⟨_, Heap.get?_push_size _ rfl, rfl, rfl⟩, hl.push _⟩, fun i v s' Q' E' hP hQ => ?_, fun h' tk hk => ?_⟩
  · obtain ⟨b, e, rfl⟩ := key i v hP
    simp only [e, Option.getD_some] at hQ
    exact wpAny_truthy_bool hQ
  · have hn : its.toArray.size = bs.length := by have := rv.length; rw [List.length_map] at this; simp; omega
    have e : ((List.range its.toArray.size).all fun i => (bs[i]?).getD true) = bs.all id := by
      rw [hn, Bool.eq_iff_iff, List.all_eq_true, List.all_eq_true]
      constructor
      · intro h b hb
        obtain ⟨i, hi, e⟩ := List.getElem_of_mem hb
        have := h i (List.mem_range.mpr hi)
        simp only [List.getElem?_eq_getElem hi, Option.getD_some, e] at this
        exact this
      · intro h i hi
        have hi' := List.mem_range.mp hi
        simp only [List.getElem?_eq_getElem hi', Option.getD_some]
        exact h _ (List.getElem_mem hi')
    rw [e]
    exact ⟨.bl (bs.all id), H, I.kept (t' := tk) fun b x e => hk b x (fun hm => by rw [List.mem_singleton.mp hm] at e; exact Nat.lt_irrefl _ (Heap.lt_size e)) (Heap.get?_push_of_some _ e), rfl, q⟩
def zcR : List D -> Option (List Bool)
  | [] => some []
  | .bool b :: r => (zcR r).map (b :: ·)
  | _ => none
theorem zdP {K : PySem.W.Frag} {G : Hp} : ∀ {vs : List V} {ds : List D} {bs : List Bool}, Reps K G vs ds -> zcR ds = some bs -> vs = bs.map V.bl
  | _, _, bs, .nil, e => by cases e; rfl
  | _, _, bs, .cons (d := d) r t, e => by
    cases d with
    | bool b =>
      unfold zcR at e
      cases z : zcR _ with
      | none => rw [z] at e; cases e
      | some cs =>
        rw [z] at e
        cases e
        rw [r.bl_inv, zdP t z]; rfl
    | _ => cases e
def oAll : List D -> Option D
  | [.list ds] => (zcR ds).map fun bs => .bool (bs.all id)
  | _ => none
theorem zkF (hc : X.calm = true) : zc3 X (.builtin "all") oAll := by
  refine ⟨_, zkE hc, fun vs G H ds d Q s r e k => ?_⟩
  unfold oAll at e
  split at e
  · rename_i ds
    cases z : zcR ds with
    | none => rw [z] at e; cases e
    | some bs =>
      rw [z] at e
      cases e
      obtain ⟨v, rfl, q⟩ := r.one_inv
      obtain ⟨l, ws, rfl, h1, r1⟩ := q.lst_inv
      have hw := zdP r1 z
      subst hw
      exact ⟨l, bs, rfl, s.seq h1, k _ G H (.refl s) (.bl _)⟩
  · cases e
def Its (x : Str) : It := ⟨fun i _ => i < x.cps.size, fun i H v H' => H' = H /\ ∃ c, x.cps[i]? = some c /\ v = .str ⟨#[c]⟩, fun i _ => x.cps.size <= i⟩
theorem zkG {P : Program} {w : World} {K : PySem.W.Frag} {tg : Expr} (x : Str) (t : Tok) (it : Addr) : Turn P w K tg (Its x) [it] it (fun i h => h.IsStrIter it (strIterType x) x t i) where
  mem := by simp
  obj := fun i h st b hb => by
    have e : b = it := by simpa using hb
    subst e
    obtain ⟨o, e, c, d⟩ := st
    exact ⟨o, e, fun v z => by rw [d] at z; cases z⟩
  keep := fun i h h' st k => by
    obtain ⟨o, e, c, d⟩ := st
    exact ⟨o, k it (by simp) o e, c, d⟩
  item := by
    intro X hP hw hK hc i pins s σ H E I hf st hg
    subst hP hw hK
    obtain ⟨f0, f1, f2, f3, f4, f5⟩ := hf it (by simp)
    have hx : x.cps[i]? = some x.cps[i] := Array.getElem?_eq_getElem hg
    have fin : ∀ h' tk (T : String), strIterType x = T -> h'.IsStrIter it T x t (i + 1) -> Heap.SameBut it s.heap h' -> ["enumerate", "zip", "dict_itemiterator", "dict_reverseitemiterator", "odict_iterator", "itertools.zip_longest", "itertools.pairwise"].contains T = false ->
        ∃ u, some (Value.str ⟨#[x.cps[i]]⟩ s.toks) = some u /\ wpAny (model X.prog X.w) X.A (letOwnedTupleGo tg (.ref it) u) (fun _ s2 => ∃ v H', Inv X pins σ H' s2 /\ RelV v u /\ (Its x).yld i H v H' /\ s2.heap.IsStrIter it (strIterType x) x t (i + 1) /\ ∀ b ∈ [it], H' b = none) E { s with heap := h', toks := tk } := by
      intro h' tk T eT st' sb hn
      have I1 : Inv X pins σ H { s with heap := h', toks := tk } := I.turned (t' := tk) (fun b o hb e => (sb.2 b hb).trans e) f0 f1 f3 f4 f5
      obtain ⟨o, e, c, d⟩ := id st'
      refine ⟨_, rfl, zkm (s := { s with heap := h', toks := tk }) e c d hn ⟨.str ⟨#[x.cps[i]]⟩, H, I1, ⟨_, rfl⟩, ⟨rfl, _, hx, rfl⟩, by rw [eT]; exact st', fun b hb => (hf b hb).1⟩⟩
    cases ha : x.cps.all (· < 128) with
    | true =>
      have eT : strIterType x = "str_ascii_iterator" := by simp [strIterType, ha]
      rw [eT] at st
      exact wpAny_pyNext_ascii_item st hx fun h' st' sb => fin h' _ _ eT st' sb (by decide)
    | false =>
      have eT : strIterType x = "str_iterator" := by simp [strIterType, ha]
      rw [eT] at st
      exact wpAny_pyNext_wide_item st hx fun h' st' sb => fin h' _ _ eT st' sb (by decide)
  done := by
    intro X hP hw hK hc i pins s σ H E I hf st hg
    subst hP hw hK
    obtain ⟨f0, f1, f2, f3, f4, f5⟩ := hf it (by simp)
    have hx : x.cps[i]? = none := Array.getElem?_eq_none hg
    cases ha : x.cps.all (· < 128) with
    | true =>
      have eT : strIterType x = "str_ascii_iterator" := by simp [strIterType, ha]
      rw [eT] at st
      exact wpAny_pyNext_ascii_end (I.ok.hd hc) st hx fun h' eb => ⟨rfl, I.turned (t' := s.toks) (fun b o hb e => eb b o hb e) f0 f1 f3 f4 f5⟩
    | false =>
      have eT : strIterType x = "str_iterator" := by simp [strIterType, ha]
      rw [eT] at st
      exact wpAny_pyNext_wide_end (I.ok.hd hc) st hx fun h' eb => ⟨rfl, I.turned (t' := s.toks) (fun b o hb e => eb b o hb e) f0 f1 f3 f4 f5⟩
  self := fun A i s Q E st h => by
    cases ha : x.cps.all (· < 128) with
    | true =>
      have eT : strIterType x = "str_ascii_iterator" := by simp [strIterType, ha]
      rw [eT] at st
      exact wpAny_pyIter_striter_ascii st h
    | false =>
      have eT : strIterType x = "str_iterator" := by simp [strIterType, ha]
      rw [eT] at st
      exact wpAny_pyIter_striter_wide st h
def iAny (K : PySem.W.Frag) (tl : TE) : TI := fun σ H R => tl σ H fun x H1 => (∃ a, x = .ref a /\ (∃ xs, SqL K H1 a xs) /\ R (Itl K a) H1) ∨ (∃ a, x = .ref a /\ (∃ xs, SqT K H1 a xs) /\ R (Itt K a) H1) ∨ ∃ z, x = .str z /\ R (Its z) H1
theorem zn6 {l : Expr} {tl : TE} (hl : PE X l tl) : PI X tg l (iAny X.K tl) := by
  intro pins s σ H R I h
  refine thn (hl pins s σ H _ I h) fun v s1 ⟨x, H1, I1, r1, q1⟩ => ?_
  have fpOk : ∀ b ∈ [s1.heap.objs.size], FpOk X pins H1 b := fun b hb => by
    have e : b = s1.heap.objs.size := by simpa using hb
    subst e
    exact I1.fpOk (Nat.le_refl _) (I1.hok.fresh (Nat.le_refl _))
  rcases q1 with ⟨a, e, ⟨xs, hq⟩, q⟩ | ⟨a, e, ⟨xs, hq⟩, q⟩ | ⟨z, e, q⟩
  · subst e
    cases r1
    obtain ⟨its, rv, p, hz⟩ := I1.list hq
    refine wpAny_pyIter_list p.isList ?_
    exact ⟨s1.heap.objs.size, [s1.heap.objs.size], _, _, H1, rfl, I1.kept (t' := s1.toks) fun b o e => Heap.get?_push_of_some _ e, ziD a _, ⟨_, Heap.get?_push_size _ rfl, rfl, rfl⟩, fpOk, q⟩
  · subst e
    cases r1
    obtain ⟨its, rv, p, hz⟩ := I1.tuple hq
    refine wpAny_pyIter_tuple p ?_
    exact ⟨s1.heap.objs.size, [s1.heap.objs.size], _, _, H1, rfl, I1.kept (t' := s1.toks) fun b o e => Heap.get?_push_of_some _ e, zhQ a _, ⟨_, Heap.get?_push_size _ rfl, rfl, rfl⟩, fpOk, q⟩
  · subst e
    obtain ⟨t, rfl⟩ := r1
    refine wpAny_pyIter_strU ?_
    exact ⟨s1.heap.objs.size, [s1.heap.objs.size], _, _, H1, rfl, I1.kept (t' := s1.toks) fun b o e => Heap.get?_push_of_some _ e, zkG z t _, ⟨_, Heap.get?_push_size _ rfl, rfl, rfl⟩, fpOk, q⟩
def zfM (z : Str) : List D := z.cps.toList.map fun c => .str ⟨#[c]⟩
def zgA : D -> Option (List D)
  | .list ds => some ds
  | .tuple ds => some ds
  | .str z => some (zfM z)
  | _ => none
theorem zgB {K : PySem.W.Frag} {G1 : Hp} {ad : Addr} {vs : List V} {ds : List D} (h : SqT K G1 ad vs) (r : Reps K G1 vs ds) : zdh K (Itt K ad) ds G1 where
  go := fun i G H s1 s2 hi => by
    have hi' : i < vs.length := by rw [r.length]; exact hi
    exact ⟨vs, vs[i], zdg (s1.trans s2) h, List.getElem?_eq_getElem hi'⟩
  stop := fun i G H s1 s2 hi => ⟨vs, zdg (s1.trans s2) h, by rw [r.length]; exact hi⟩
  yld := fun i G H x H' d s1 s2 e y => by
    obtain ⟨rfl, y⟩ := y
    obtain ⟨v, e1, r1⟩ := r.get e
    have := y vs (zdg (s1.trans s2) h)
    rw [e1] at this
    cases this
    exact ⟨G, .refl s2, r1.mono s1⟩
theorem zi0 {K : PySem.W.Frag} {G1 : Hp} {z : Str} : zdh K (Its z) (zfM z) G1 where
  go := fun i G H s1 s2 hi => by unfold zfM at hi; simpa [Its] using hi
  stop := fun i G H s1 s2 hi => by unfold zfM at hi; simpa [Its] using hi
  yld := fun i G H x H' d s1 s2 e y => by
    obtain ⟨rfl, c, hc, rfl⟩ := y
    unfold zfM at e
    rw [List.getElem?_map] at e
    have : z.cps.toList[i]? = some c := by simpa using hc
    rw [this] at e
    cases e
    exact ⟨G, .refl s2, .str _⟩
def za3 (f : M D) : M (List D) := zas f fun x => mOpt (zgA x)
theorem zbS {f : M D} (h : PE X e (tD X.K B G0 f)) : PI X tg e (iD X.K B G0 (za3 f)) := piof (zn6 h) fun σ H R q => tM.toI (R0 := Rep X.K) q fun v H' G' ρ' x k r a => by
  cases x with
  | list ds =>
    obtain ⟨ad, vs, rfl, h1, r1⟩ := r.lst_inv
    exact .inl ⟨ad, rfl, ⟨vs, k.gh.seq h1⟩, a _ G' H' k (.refl _) (zhV h1 r1)⟩
  | tuple ds =>
    obtain ⟨ad, vs, rfl, h1, r1⟩ := r.tup_inv
    exact .inr (.inl ⟨ad, rfl, ⟨vs, zdg k.gh h1⟩, a _ G' H' k (.refl _) (zgB h1 r1)⟩)
  | str z =>
    have := r.str_inv
    subst this
    exact .inr (.inr ⟨z, rfl, a _ G' H' k (.refl _) zi0⟩)
  | _ => exact a.elim
def inS (i j : Str) : Bool := !(Builtin.Str.occurrences j i 0 j.length 1).isEmpty
def oInS : D -> D -> Option Bool
  | .str i, .str j => some (inS i j)
  | _, _ => none
def zn7 : D -> D -> Option Bool
  | .str i, .str j => some (!inS i j)
  | _, _ => none
theorem zpP : OpB X (compareOp .In) oInS := ⟨_, ziH, fun v u G H x y d Q s rx ry e k => by
  unfold oInS at e
  split at e
  · cases e
    have := rx.str_inv; subst this
    have := ry.str_inv; subst this
    exact ⟨_, _, rfl, rfl, k⟩
  · cases e⟩
theorem zn8 : OpB X (compareOp .NotIn) zn7 := ⟨_, zfw, fun v u G H x y d Q s rx ry e k => by
  unfold zn7 at e
  split at e
  · cases e
    have := rx.str_inv; subst this
    have := ry.str_inv; subst this
    exact ⟨_, _, rfl, rfl, k⟩
  · cases e⟩
theorem zkH {x : Str} {i : Int} (hg : Gl X x) (hm : ∃ t, X.mg x = some (.int i t)) (hd : (x == ("__debug__" : Str)) = false := by decide) : PE X (.Name x pos) (tD X.K B G0 (zah (.int i))) := by
  obtain ⟨t, hm⟩ := hm
  exact peof (ziB (v := .int i) hg hm ⟨t, rfl⟩ hd) fun σ H Q ⟨G, ρ, k, a⟩ => aft.now a k (.int _)
end
end DL
set_option Elab.async false
set_option linter.all false
set_option maxRecDepth 100000
set_option maxHeartbeats 4000000
namespace DL
open PySem PySem.Spec L2
open PyProof.Rows hiding St
section
variable {X : Cx} {B G0 : Hp} {e o a b c tg i : Expr} {pos p2 : Pos} {es rest : List Expr} {te to ti : TE}
def zn9 (te to ti : TE) : TS := fun D σ H => te σ H fun v H1 => to σ H1 fun x H2 => ti σ H2 fun k H3 => ∃ l xs n, x = .ref l /\ H3 l = some (.lst xs) /\ k = .int n /\ 0 <= n /\ n < xs.length /\ D.nx σ (upd H3 l (.lst (xs.set n.toNat v)))
theorem zkI (he : PE X e te) (ho : PE X o to) (hi : PE X i ti) (hs : swapsWith e (some (.Subscript o i p2)) pos.line X.env = pure false := by rfl) : PS X (.Assign [.Subscript o i p2] e pos) (zn9 te to ti) := by
  intro pins s σ H D I h
  refine wpAny_Assign_Subscript (thn (he pins s σ H _ I h) fun v s1 ⟨x, H1, I1, r1, q1⟩ => thn (ho pins s1 σ H1 _ I1 q1) fun ov s2 ⟨y, H2, I2, r2, q2⟩ => thn (hi pins s2 σ H2 _ I2 q2) fun iv s3 ⟨k, H3, I3, r3, q3⟩ => ?_) hs
  obtain ⟨l, xs, n, rfl, hl, rfl, h0, h1, q⟩ := q3
  cases r2
  obtain ⟨t, rfl⟩ := r3
  obtain ⟨z, its, m, r, hlen, ee⟩ := I3.lstM hl
  refine PySem.W.ki_setAt (items := its.toArray) (n := m) ee h0 (by have : sizeLine < 2 ^ 63 := by decide
                                                                    omega) (by simp; omega) ?_
  refine ⟨σ, _, I3.lset (t' := s3.toks) (its := its) (its' := its.set n.toNat v) (f := (·.setIfInBounds n.toNat v)) hl ee (by simp) (r.set r1 n.toNat) (by rw [List.length_set]; exact z), q⟩
def zgC (j : Nat) (g f : M D) : SM := sB f fun d ρ1 => match ρ1[j]? with
  | some (some (.own _)) => sB g (fun y ρ2 => match y with
    | .int k => (match ρ2[j]? with
      | some (some (.own ds)) => if 0 <= k /\ k < ds.length then .nx (ρ2.set j (some (.own (ds.set k.toNat d)))) else .bad
      | _ => .bad)
    | _ => .bad) ρ1
  | _ => .bad
theorem ze7 {j : Nat} {f g : M D} (he : PE X e (tD X.K B G0 f)) (ho : PE X o (tVar j)) (hi : PE X i (tD X.K B G0 g)) (hs : swapsWith e (some (.Subscript o i p2)) pos.line X.env = pure false := by rfl) :
    PS X (.Assign [.Subscript o i p2] e pos) (tS X.K B G0 (zgC j g f)) :=
  psof (zkI he ho hi hs) fun D σ H q => tS.bnd (R := Rep X.K) q fun v H1 G1 ρ1 d k r a => by
    cases q0 : ρ1[j]? with
    | none => rw [q0] at a; exact a.elim
    | some o0 =>
      cases o0 with
      | none => rw [q0] at a; exact a.elim
      | some sl0 =>
        cases sl0 with
        | pub d => rw [q0] at a; exact a.elim
        | own ds0 =>
          rw [q0] at a
          obtain ⟨ad, vs0, h1, h2, h3, h4, h5⟩ := k.own j ds0 q0
          refine ⟨.ref ad, h1, G1, ρ1, k, ?_⟩
          dsimp only at a
          unfold sB at a
          cases z : g ρ1 with
          | bad => rw [z] at a; exact a.elim
          | ok y ρ2 =>
            rw [z] at a
            dsimp only at a
            intro kv G' H' k' s' r'
            cases y with
            | int n =>
              dsimp only at a
              cases q : ρ2[j]? with
              | none => rw [q] at a; exact a.elim
              | some oo =>
                cases oo with
                | none => rw [q] at a; exact a.elim
                | some sl =>
                  cases sl with
                  | pub d => rw [q] at a; exact a.elim
                  | own ds =>
                    rw [q] at a
                    dsimp only at a
                    split at a
                    · rename_i hn
                      obtain ⟨ad', vs, g1, g2, g3, g4, g5⟩ := k'.own j ds q
                      rw [h1] at g1
                      cases g1
                      refine ⟨ad, vs, n, rfl, g4, r'.int_inv, hn.1, by rw [g5.length]; exact hn.2, ?_⟩
                      exact a σ G' _ (k'.change q h1 (g5.set (r.mono s') n.toNat)) s'
                    · exact a.elim
            | _ => exact a.elim
def cutS (z : Str) (lo hi : Option Int) : Str := if (Builtin.Str.strSliceIndices lo hi 1 z.length).length = z.length then z else ⟨((Builtin.Str.strSliceIndices lo hi 1 z.length).filterMap (z.cps[·]?)).toArray⟩
theorem zoa : SlR X (fun x lo hi H Q => ∃ z, x = .str z /\ (cutS z lo hi).length <= sizeLine /\ Q (.str (cutS z lo hi)) H) := by
  intro pins s σ H x v vl vu lo hi sl Q I rx hs pl pu h
  obtain ⟨z, rfl, hz, q⟩ := h
  obtain ⟨t, rfl⟩ := rx
  refine ⟨"str", _, F.slot_str_getitem.lookup, typeIs_str s z t, ?_⟩
  obtain ⟨l, el, e1⟩ : ∃ l : Option (Int × Tok), vl = partValue l /\ l.map (·.1) = lo := by
    cases pl with
    | none => exact ⟨none, rfl, rfl⟩
    | int k t' => exact ⟨some (k, t'), rfl, rfl⟩
  obtain ⟨u, eu, e2⟩ : ∃ u : Option (Int × Tok), vu = partValue u /\ u.map (·.1) = hi := by
    cases pu with
    | none => exact ⟨none, rfl, rfl⟩
    | int k t' => exact ⟨some (k, t'), rfl, rfl⟩
  subst el eu
  refine wpAny_getItem_str_slice (l := l) (u := u) (st := none) hs rfl ?_
  unfold sliceMade slicePicked
  rw [e1, e2]
  unfold cutS at hz q
  by_cases hw : (Builtin.Str.strSliceIndices lo hi 1 z.length).length = z.length
  · rw [if_pos hw] at hz q
    rw [if_pos (by simp [hw])]
    exact ⟨.str z, H, I, ⟨t, rfl⟩, q⟩
  · rw [if_neg hw] at hz q
    rw [if_neg (by simp [hw])]
    exact ⟨hz, .str _, H, I.tok _, ⟨_, rfl⟩, q⟩
end
end DL
set_option Elab.async false
set_option linter.all false
set_option maxRecDepth 100000
set_option maxHeartbeats 4000000
namespace DL
open PySem PySem.Spec L2
open PyProof.Rows hiding St
section
variable {X : Cx} {B G0 : Hp} {e o a b c tg i : Expr} {pos p2 : Pos} {es rest : List Expr} {te to ti : TE}
theorem pvb (i : Nat) {x : Str} {pos : Pos} {N' : List Str} {scope : Scope} {cl : List (Str × Addr)} {C : Addr} {s₀ : Shared} {H₀ : Hp} {ex : List Addr} (hN : N'[i]? = some x := by rfl)
    (h : scope.names.lookup x = some .local ∨ scope.names.lookup x = some .free := by first | exact .inl rfl | exact .inr rfl) (hd : (x == ("__debug__" : Str)) = false := by decide) (hcd : (x == ("__classdict__" : Str)) = false := by decide) :
    PE (X.blk N' scope cl C s₀ H₀ ex) (.Name x pos) (tVar i) := zlC hN (zmq h) hd hcd
theorem zbw {tg elt iter : Expr} {ifs : List Expr} {scope : Scope} {pos : Pos} (SC : Scope) (N1 N2 : List Str) (k : Nat) {f : M (List D)} {s : D -> DEnv -> Option DEnv} {t : M Bool} {g : M D} (hc : X.calm = true)
    (hi : PI X tg iter (iD X.K B G0 f))
    (hblk : ∀ (cl : List (Str × Addr)) (C : Addr) (s₀ : Shared) (H₀ : Hp) (ex : List Addr) (B' G' : Hp), PG (X.blk N2 scope cl C s₀ H₀ ex) tg (tG X.K B' G' s) /\ PIfs (X.blk N2 scope cl C s₀ H₀ ex) ifs (tBo X.K B' G' t) /\ PE (X.blk N2 scope cl C s₀ H₀ ex) elt (tD X.K B' G' g))
    (h1 : X.env.scope = SC) (h2 : X.N = N1) (hb : zbz scope.names N1 N2 k = true) (hkind : scope.kind = .function) (hcell : ∀ y ∈ scope.names, y.2 ≠ .cell)
    (hnames : ∀ y ∈ scope.names, y.2 = .local -> scope.names.lookup y.1 = some .local)
    (hfree : ∀ y ∈ scope.names, y.2 = .free -> SC.names.lookup y.1 = some .cell ∨ SC.names.lookup y.1 = some .free)
    (hs : ∀ x, foldedSetIterable iter X.env x = pure x := by intro _; rfl) :
    PE X (.ListComp elt [⟨tg, iter, ifs, 0⟩] scope pos) (tL X.K B G0 (zbL f k s t g)) :=
  zkD hc hi hblk (by rw [h2]; exact hb) hkind hcell hnames (by rw [h1]; exact hfree) hs
theorem zcy {y : Str} {j : Nat} {py : Pos} {spos : Pos} {tg elt iter : Expr} {ifs : List Expr} {scope : Scope} {pos : Pos} (SC : Scope) (N1 N2 : List Str) (k : Nat) {f : M (List D)} {s : D -> DEnv -> Option DEnv} {t : M Bool} {g : M D} (hN : X.N.Nodup) (hj : X.N[j]? = some y) (hy : X.env.scope.names.lookup y = some .local) (hc : X.calm = true)
    (hi : PI X tg iter (iD X.K B G0 f))
    (hblk : ∀ (cl : List (Str × Addr)) (C : Addr) (s₀ : Shared) (H₀ : Hp) (ex : List Addr) (B' G' : Hp), PG (X.blk N2 scope cl C s₀ H₀ ex) tg (tG X.K B' G' s) /\ PIfs (X.blk N2 scope cl C s₀ H₀ ex) ifs (tBo X.K B' G' t) /\ PE (X.blk N2 scope cl C s₀ H₀ ex) elt (tD X.K B' G' g))
    (h1 : X.env.scope = SC) (h2 : X.N = N1) (hb : zbz scope.names N1 N2 k = true) (hkind : scope.kind = .function) (hcell : ∀ y ∈ scope.names, y.2 ≠ .cell)
    (hnames : ∀ y ∈ scope.names, y.2 = .local -> scope.names.lookup y.1 = some .local)
    (hfree : ∀ y ∈ scope.names, y.2 = .free -> SC.names.lookup y.1 = some .cell ∨ SC.names.lookup y.1 = some .free)
    (hs : ∀ x, foldedSetIterable iter X.env x = pure x := by intro _; rfl)
    (hsw : swapsWith (.ListComp elt [⟨tg, iter, ifs, 0⟩] scope pos) (some (.Name y py)) spos.line X.env = pure true := by rfl) :
    PS X (.Assign [.Name y py] (.ListComp elt [⟨tg, iter, ifs, 0⟩] scope pos) spos) (tS X.K B G0 (zbK j (zbL f k s t g))) :=
  zmr hN hj hy hc hi hblk (by rw [h2]; exact hb) hkind hcell hnames (by rw [h1]; exact hfree) hs hsw
def oSlA : D -> Option Int -> Option Int -> Option D
  | .list xs, lo, hi => some (.list (DL.cutD xs lo hi))
  | .str z, lo, hi => if (cutS z lo hi).length <= 1000000 then some (.str (cutS z lo hi)) else none
  | _, _, _ => none
def dSlA (f : M D) (lo hi : M (Option Int)) : M D := zas f fun x => zas lo fun l => zas hi fun h => mOpt (oSlA x l h)
theorem zcp {lo hi : Option Expr} {f : M D} {l h : M (Option Int)} (he : PE X e (tD X.K B G0 f)) (hl : PO X lo (tOi X.K B G0 l)) (hu : PO X hi (tOi X.K B G0 h)) :
    PE X (.Subscript e (.Slice lo hi none p2) pos) (tD X.K B G0 (dSlA f l h)) :=
  peof (zkr (zmc.or zoa) he hl hu) fun σ H Q q => by
    refine tM.one (R := Rep X.K) q fun v H2 G ρ x k r a => ?_
    refine tM.nx (R := fun _ b c => b = c) k a fun l' H3 G3 ρ3 xl k3 s3 r3 a3 => ?_
    refine tM.nx (R := fun _ b c => b = c) k3 a3 fun h' H4 G4 ρ4 xh k4 s4 r4 a4 => ?_
    have r3 : l' = xl := r3
    have r4 : h' = xh := r4
    subst r3 r4
    unfold mOpt oSlA at a4
    cases x with
    | list xs =>
      obtain ⟨ad, vs, rfl, h1, r1⟩ := ((r.mono s3).mono s4).lst_inv
      exact .inl ⟨ad, vs, rfl, k4.gh.seq h1, fun p hp => aft.done a4 k4 (Ext.new k4.gh hp) (.lst (SqL.of zaH) ((r1.cut l' h').mono (zaK (k4.gh.free hp))))⟩
    | str z =>
      dsimp only at a4
      have := r.str_inv; subst this
      by_cases hc : (cutS z l' h').length <= 1000000
      · rw [if_pos hc] at a4
        exact .inr ⟨z, rfl, Nat.le_trans hc lim, aft.now a4 k4 (.str _)⟩
      · rw [if_neg hc] at a4; exact a4.elim
    | _ => exact a4.elim
end
end DL
set_option Elab.async false
set_option linter.all false
set_option maxRecDepth 100000
set_option maxHeartbeats 4000000
namespace DL
open PySem PySem.Spec L2
open PyProof.Rows hiding St
section
variable {X : Cx} {B G0 : Hp} {e o a b c tg : Expr} {pos p2 : Pos} {es rest : List Expr} {te to ti : TE}
def zbf {β : Type} (p : D -> D -> Option β) (i : Nat) (g : M D) : M β := fun ρ => match ρ[i]? with
  | some (some (.pub d)) => (zas g fun y => mOpt (p d y)) ρ
  | some (some (.own _)) => (zas g fun y => fun ρ' => match ρ'[i]? with | some (some (.own ds)) => mOpt (p (.list ds) y) ρ' | _ => .bad) ρ
  | _ => .bad
theorem zob {K : PySem.W.Frag} {σ : St} {H : Hp} {p : D -> D -> Option Bool} {r : R2} {i : Nat} {g : M D} {Q : Bool -> Hp -> Prop} {QV : VK} (hq : ∀ t H3, Q t H3 -> QV (.bl t) H3) (hr : ∀ v u G H x y d Q, Same G H -> Rep K G v x -> Rep K G u y -> p x y = some d -> Q (.bl d) H -> r v u H Q)
    (q : tBo K B G0 (zbf p i g) σ H Q) : tVar i σ H fun x H1 => tD K B G0 g σ H1 fun y H2 => r x y H2 QV := by
  obtain ⟨G, ρ, k, a⟩ := q
  unfold zbf at a
  cases q : ρ[i]? with
  | none => rw [q] at a; exact a.elim
  | some o =>
    cases o with
    | none => rw [q] at a; exact a.elim
    | some sl =>
      cases sl with
      | pub d =>
        rw [q] at a
        obtain ⟨v, h1, h2⟩ := k.pub i d q
        refine ⟨v, h1, G, ρ, k, ?_⟩
        dsimp only [zas] at a
        cases z : g ρ with
        | bad => rw [z] at a; exact a.elim
        | ok y ρ1 =>
          rw [z] at a
          intro u G' H' k' s' r'
          obtain ⟨d', e', a'⟩ := aft.opt a
          exact hr v u G' H' d y d' _ k'.gh (h2.mono s') r' e' (hq _ _ (a' d' G' H' k' s' rfl))
      | own ds =>
        rw [q] at a
        obtain ⟨ad, vs, h1, h2, h3, h4, h5⟩ := k.own i ds q
        refine ⟨.ref ad, h1, G, ρ, k, ?_⟩
        dsimp only [zas] at a
        cases z : g ρ with
        | bad => rw [z] at a; exact a.elim
        | ok y ρ1 =>
          rw [z] at a
          dsimp only at a
          intro u G' H' k' s' r'
          cases q1 : ρ1[i]? with
          | none => rw [q1] at a; exact a.elim
          | some oo =>
            cases oo with
            | none => rw [q1] at a; exact a.elim
            | some sl1 =>
              cases sl1 with
              | pub d1 => rw [q1] at a; exact a.elim
              | own ds1 =>
                rw [q1] at a
                dsimp only at a
                obtain ⟨ad', ws, g1, g2, g3, g4, g5⟩ := k'.own i ds1 q1
                rw [h1] at g1
                cases g1
                obtain ⟨d', e', a'⟩ := aft.opt a
                have sg : Same G' (upd G' ad (.lst ws)) := zaK g3
                have sh : Same (upd G' ad (.lst ws)) H' := fun b o q => by
                  by_cases z : b = ad
                  · subst z; rw [zaH] at q; cases q; exact g4
                  · rw [zaM z] at q; exact k'.gh b o q
                exact hr (.ref ad) u _ H' (.list ds1) y d' _ sh (.lst (SqL.of zaH) (g5.mono sg)) (r'.mono sg) e' (hq _ _ (a' d' G' H' k' s' rfl))
theorem zbt {op : CmpOp} {p : D -> D -> Option Bool} {i : Nat} {g : M D} (o : OpB X (compareOp op) p) (ha : PE X a (tVar i)) (hb : PE X b (tD X.K B G0 g)) (hm : behindInMarks op b = false) :
    PT X (.Compare a [op] [b] pos) (tBo X.K B G0 (zbf p i g)) := by
  obtain ⟨r, h, j⟩ := o
  exact ptof (zgt h ha hb hm) fun σ H Q q => zob (fun t H3 z => ⟨t, rfl, z⟩) j q
theorem zcz {op : CmpOp} {p : D -> D -> Option Bool} {i : Nat} {g : M D} (o : OpB X (compareOp op) p) (ha : PE X a (tVar i)) (hb : PE X b (tD X.K B G0 g)) (hm : behindInMarks op b = false) :
    PE X (.Compare a [op] [b] pos) (tD X.K B G0 (mMap PyData.bool (zbf p i g))) := by
  obtain ⟨r, h, j⟩ := o
  exact peof (ziI h ha hb hm) fun σ H Q q => zob (fun t H3 z => z) j (tBo.val q)
end
end DL
set_option Elab.async false
set_option linter.all false
set_option maxRecDepth 100000
set_option maxHeartbeats 4000000
namespace L2
open PySem PySem.Spec PyProof.Rows
def Itz (K : PySem.W.Frag) (a b : Addr) : It :=
  ⟨fun i H => ∃ xs x ys y, SqL K H a xs /\ xs[i]? = some x /\ SqL K H b ys /\ ys[i]? = some y,
   fun i H v H' => ∃ p x y, H p = none /\ v = .ref p /\ (∀ xs, SqL K H a xs -> xs[i]? = some x) /\ (∀ ys, SqL K H b ys -> ys[i]? = some y) /\ H' = upd H p (.tup [x, y]),
   fun i H => ∃ xs ys, SqL K H a xs /\ SqL K H b ys /\ (xs.length <= i ∨ ys.length <= i)⟩
theorem zkJ {P : Program} {w : World} {K : PySem.W.Frag} {elts : List Expr} {x1} {tp : Pos} (a b z TI TO i1 i2 : Addr) (Dz : ZipApart z TI TO i1 i2 a b) :
    Turn P w K (.Tuple elts x1 tp) (Itz K a b) [z, TI, TO, i1, i2] z (fun i h => IsZip h z TI TO .none /\ IsPair h TI (.ref i1) (.ref i2) /\ (∃ c d, IsPair h TO c d) /\ h.IsListIter i1 a i /\ h.IsListIter i2 b i) where
  mem := by simp
  obj := fun i h st c hc => by
    obtain ⟨h1, h2, ⟨c0, d0, h3⟩, ⟨o4, h4, _, d4⟩, ⟨o5, h5, _, d5⟩⟩ := st
    have hc' : c = z ∨ c = TI ∨ c = TO ∨ c = i1 ∨ c = i2 := by simpa using hc
    rcases hc' with rfl | rfl | rfl | rfl | rfl
    · exact ⟨_, h1, fun v q => by have q' : Data.fields _ = Data.cell v := q; cases q'⟩
    · exact ⟨_, h2, fun v q => by have q' : Data.seq _ _ = Data.cell v := q; cases q'⟩
    · exact ⟨_, h3, fun v q => by have q' : Data.seq _ _ = Data.cell v := q; cases q'⟩
    · exact ⟨o4, h4, fun v q => by rw [d4] at q; cases q⟩
    · exact ⟨o5, h5, fun v q => by rw [d5] at q; cases q⟩
  keep := fun i h h' st k => by
    obtain ⟨h1, h2, ⟨c0, d0, h3⟩, h4, h5⟩ := st
    exact ⟨k z (by simp) _ h1, k TI (by simp) _ h2, ⟨c0, d0, k TO (by simp) _ h3⟩, h4.at fun o q => k i1 (by simp) o q, h5.at fun o q => k i2 (by simp) o q⟩
  item := by
    intro X hP hw hK hc i pins s σ H E I hf st hg
    subst hP hw hK
    obtain ⟨h1, h2, ⟨c0, d0, h3⟩, h4, h5⟩ := st
    obtain ⟨xs, x, ys, y, hq, hx, hq', hy⟩ := hg
    obtain ⟨its, rv, p, hz⟩ := I.list hq
    obtain ⟨its', rv', p', hz'⟩ := I.list hq'
    obtain ⟨u, hu, ru⟩ := rv.get hx
    obtain ⟨u', hu', ru'⟩ := rv'.get hy
    refine wpAny_pyNext_zip_item Dz h1 h2 h3 h4 h5 p.isList p'.isList (x := u) (y := u') (by simpa using hu) (by simpa using hu') fun h' g1 g3 g4 g5 gp gs gk => ?_
    refine ⟨_, rfl, wpAny_letOwnedTupleGo_zip g1 fun h2' gz sb => ?_⟩
    have hzl : z < s.heap.objs.size := Heap.lt_size h1
    have sb' : Heap.SameBut z h' h2' := sb
    have gp2 : h2'.get? s.heap.objs.size = some { cls := .type "tuple", data := .seq #[u, u'] } := (sb'.2 _ (Nat.ne_of_gt hzl)).trans gp
    have kk : ∀ c o, c ∉ [z, TI, TO, i1, i2] -> s.heap.get? c = some o -> h2'.get? c = some o := fun c o hc q => by
      have n1 : c ≠ z := fun e => hc (by simp [e])
      have n3 : c ≠ TO := fun e => hc (by simp [e])
      have n4 : c ≠ i1 := fun e => hc (by simp [e])
      have n5 : c ≠ i2 := fun e => hc (by simp [e])
      exact (sb'.2 c n1).trans (gk c o n1 n3 n4 n5 q)
    have hn : H s.heap.objs.size = none := I.hok.fresh (Nat.le_refl _)
    have I2 : Inv X pins σ (upd H s.heap.objs.size (.tup [x, y])) { s with heap := h2' } :=
      I.turnedNew (t' := s.toks) (fp := [z, TI, TO, i1, i2]) hf kk (Nat.le_refl _) ⟨by show 2 <= sizeLine; decide, [u, u'], .cons ru (.cons ru' .nil), ⟨_, gp2, rfl, _, rfl⟩⟩
    have gTI : IsPair h' TI (.ref i1) (.ref i2) := gk TI _ Dz.TIz Dz.TITO Dz.TIi1 Dz.TIi2 h2
    refine ⟨.ref s.heap.objs.size, _, I2, rfl, ⟨_, x, y, hn, rfl, fun ws hw => by rw [I.list_inj hw hq]; exact hx, fun ws hw => by rw [I.list_inj hw hq']; exact hy, rfl⟩,
      ⟨gz, (sb'.2 _ Dz.TIz).trans gTI, ⟨u, u', (sb'.2 _ Dz.TOz).trans g3⟩, g4.at fun o q => (sb'.2 _ Dz.i1z).trans q, g5.at fun o q => (sb'.2 _ Dz.i2z).trans q⟩, fun c hc => ?_⟩
    have hlt : c < s.heap.objs.size := by
      have hc' : c = z ∨ c = TI ∨ c = TO ∨ c = i1 ∨ c = i2 := by simpa using hc
      rcases hc' with rfl | rfl | rfl | rfl | rfl
      · exact hzl
      · exact Heap.lt_size h2
      · exact Heap.lt_size h3
      · obtain ⟨o, ho, _⟩ := h4; exact Heap.lt_size ho
      · obtain ⟨o, ho, _⟩ := h5; exact Heap.lt_size ho
    rw [zaM (Nat.ne_of_lt hlt)]
    exact (hf c hc).1
  done := by
    intro X hP hw hK hc i pins s σ H E I hf st hg
    subst hP hw hK
    obtain ⟨h1, h2, ⟨c0, d0, h3⟩, h4, h5⟩ := st
    obtain ⟨xs, ys, hq, hq', hx⟩ := hg
    obtain ⟨its, rv, p, hz⟩ := I.list hq
    obtain ⟨its', rv', p', hz'⟩ := I.list hq'
    have hl := rv.length
    have hl' := rv'.length
    refine wpAny_pyNext_zip_end (I.ok.hd hc) Dz h1 h2 h3 h4 h5 p.isList p'.isList ?_ fun h' eb => ⟨rfl, I.turnedL (t' := s.toks) hf fun c o hb q => eb c o (fun e => hb (by simp [e])) (fun e => hb (by simp [e])) (fun e => hb (by simp [e])) (fun e => hb (by simp [e])) q⟩
    rcases hx with hx | hx
    · exact .inl (by simp; omega)
    · exact .inr (by simp; omega)
  self := fun _ _ _ _ _ st h => wpAny_pyIter_zip st.1 h
section
variable {X : Cx}
def iZip (K : PySem.W.Frag) (ta : TA) : TI := fun σ H R => ta σ H fun vs H1 => ∃ a b xs ys, vs = [.ref a, .ref b] /\ SqL K H1 a xs /\ SqL K H1 b ys /\ R (Itz K a b) H1
theorem zoc {a b : Expr} {ta : TA} {p pos : Pos} {elts : List Expr} {x1} {tp : Pos} (hg : Gl X "zip") (hm : X.mg "zip" = none) (ha : PA X [a, b] ta)
    (hs : starEach [a, b] X.env = [(false, eval a X.env), (false, eval b X.env)] := by rfl) (hs2 : starEach [b] X.env = [(false, eval b X.env)] := by rfl) : PI X (.Tuple elts x1 tp) (.Call (.Name "zip" p) [a, b] [] pos) (iZip X.K ta) := by
  intro pins s σ H R I h
  refine Call_ (zdI I hg hm boot_zip (PyProof.Rows.callWith_type1 (thn (ha pos pins s σ H _ I h) fun us s1 ⟨vs, H1, I1, r1, q1⟩ => ?_) (by rw [hs, hs2]) (by rw [hs2]; rfl)))
  obtain ⟨l1, l2, xs, ys, e, hq, hq', q⟩ := q1
  subst e
  cases r1 with
  | cons r rr =>
    cases rr with
    | cons r' rr =>
      cases rr
      cases (show _ = Value.ref l1 from r)
      cases (show _ = Value.ref l2 from r')
      obtain ⟨its, rv, pl, hz⟩ := I1.list hq
      obtain ⟨its', rv', pl', hz'⟩ := I1.list hq'
      have n1 : l1 < s1.heap.objs.size := by obtain ⟨_, e, _⟩ := id pl.isList; exact Heap.lt_size e
      have n2 : l2 < s1.heap.objs.size := by obtain ⟨_, e, _⟩ := id pl'.isList; exact Heap.lt_size e
      have ne : ∀ i j : Nat, i ≠ j -> s1.heap.objs.size + i ≠ s1.heap.objs.size + j := fun i j h e => h (Nat.add_left_cancel e)
      have m1 : ∀ m : Nat, l1 ≠ s1.heap.objs.size + m := fun m => Nat.ne_of_lt (Nat.lt_of_lt_of_le n1 (Nat.le_add_right _ _))
      have m2 : ∀ m : Nat, l2 ≠ s1.heap.objs.size + m := fun m => Nat.ne_of_lt (Nat.lt_of_lt_of_le n2 (Nat.le_add_right _ _))
      refine call_zip_2 pl.isList pl'.isList fun h' g1 g2 g3 g4 g5 gs kk => ?_
      have I2 : Inv X pins σ H1 { s1 with heap := h' } := I1.kept (t' := s1.toks) kk
      refine wpAny_pyIter_zip g1 ?_
      refine ⟨s1.heap.objs.size + 4, [s1.heap.objs.size + 4, s1.heap.objs.size + 2, s1.heap.objs.size + 3, s1.heap.objs.size, s1.heap.objs.size + 1], _, _, H1, rfl, I2,
        zkJ l1 l2 (s1.heap.objs.size + 4) (s1.heap.objs.size + 2) (s1.heap.objs.size + 3) s1.heap.objs.size (s1.heap.objs.size + 1) ⟨ne 2 4 (by decide), ne 3 4 (by decide), ne 0 4 (by decide), ne 1 4 (by decide), ne 2 3 (by decide), ne 2 0 (by decide), ne 2 1 (by decide), ne 3 0 (by decide), ne 3 1 (by decide), ne 0 1 (by decide), m1 4, m1 3, m1 0, m1 1, m2 4, m2 3, m2 0, m2 1⟩, ⟨g1, g2, ⟨_, _, g3⟩, g4, g5⟩, fun c hc => ?_, q⟩
      have hc' : s1.heap.objs.size <= c := by
        have hc' : c = s1.heap.objs.size + 4 ∨ c = s1.heap.objs.size + 2 ∨ c = s1.heap.objs.size + 3 ∨ c = s1.heap.objs.size ∨ c = s1.heap.objs.size + 1 := by simpa using hc
        rcases hc' with rfl | rfl | rfl | rfl | rfl <;> first | exact Nat.le_add_right _ _ | exact Nat.le_refl _
      exact I1.fpOk hc' (I1.hok.fresh hc')
end
end L2
namespace DL
open PySem PySem.Spec L2
open PyProof.Rows hiding St
section
variable {X : Cx} {B G0 : Hp} {e a b c tg : Expr} {pos : Pos} {es rest : List Expr}
def zipD (xs ys : List D) : List D := (xs.zip ys).map fun p => .tuple [p.1, p.2]
theorem zi1 {K : PySem.W.Frag} {G1 : Hp} {a b : Addr} {vs ws : List V} {ds es : List D} (h : SqL K G1 a vs) (h' : SqL K G1 b ws) (r : Reps K G1 vs ds) (r' : Reps K G1 ws es) : zdh K (Itz K a b) (zipD ds es) G1 where
  go := fun i G H s1 s2 hi => by
    unfold zipD at hi
    rw [List.length_map, List.length_zip] at hi
    have hi1 : i < vs.length := by rw [r.length]; omega
    have hi2 : i < ws.length := by rw [r'.length]; omega
    exact ⟨vs, vs[i], ws, ws[i], (s1.trans s2).seq h, List.getElem?_eq_getElem hi1, (s1.trans s2).seq h', List.getElem?_eq_getElem hi2⟩
  stop := fun i G H s1 s2 hi => by
    unfold zipD at hi
    rw [List.length_map, List.length_zip] at hi
    refine ⟨vs, ws, (s1.trans s2).seq h, (s1.trans s2).seq h', ?_⟩
    rw [r.length, r'.length]
    omega
  yld := fun i G H x H' d s1 s2 e y => by
    obtain ⟨p, u, v, hp, rfl, y1, y2, rfl⟩ := y
    have z1 := y1 vs ((s1.trans s2).seq h)
    have z2 := y2 ws ((s1.trans s2).seq h')
    unfold zipD at e
    rw [List.getElem?_map] at e
    cases q : (ds.zip es)[i]? with
    | none => rw [q] at e; cases e
    | some pr =>
      rw [q] at e
      cases e
      rw [List.getElem?_zip_eq_some] at q
      obtain ⟨u', e1, r1⟩ := r.get q.1
      obtain ⟨v', e2, r2⟩ := r'.get q.2
      rw [z1] at e1
      rw [z2] at e2
      cases e1
      cases e2
      exact ⟨upd G p (.tup [u, v]), Ext.new s2 hp, .tup (SqT.of zaH) (.cons ((r1.mono s1).mono (zaK (s2.free hp))) (.cons ((r2.mono s1).mono (zaK (s2.free hp))) .nil))⟩
def oZip : List D -> Option (List D)
  | [.list xs, .list ys] => some (zipD xs ys)
  | _ => none
theorem zkK {x l : List D} (h : oZip x = some l) : ∃ xs ys, x = [.list xs, .list ys] /\ l = zipD xs ys := by
  unfold oZip at h
  split at h
  · cases h; exact ⟨_, _, rfl, rfl⟩
  · cases h
def dZip (f : M (List D)) : M (List D) := zas f fun x => mOpt (oZip x)
theorem zhp {f : M (List D)} {p2 : Pos} {elts : List Expr} {x1} {tp : Pos} (hg : Gl X "zip") (hm : X.mg "zip" = none) (ha : PA X [a, b] (tDs X.K B G0 f)) (hs : starEach [a, b] X.env = [(false, eval a X.env), (false, eval b X.env)] := by rfl) (hs2 : starEach [b] X.env = [(false, eval b X.env)] := by rfl) :
    PI X (.Tuple elts x1 tp) (.Call (.Name "zip" p2) [a, b] [] pos) (iD X.K B G0 (dZip f)) := piof (zoc hg hm ha hs hs2) fun σ H R q => tM.toI (R0 := Reps X.K) q fun v H' G' ρ' x k r a => by
  cases z : oZip x with
  | none => rw [z] at a; exact a.elim
  | some l =>
    rw [z] at a
    obtain ⟨xs, ys, rfl, rfl⟩ := zkK z
    cases r with
    | cons r1 rr =>
      cases rr with
      | cons r2 rr =>
        cases rr
        obtain ⟨l1, vs, rfl, h1, q1⟩ := r1.lst_inv
        obtain ⟨l2, ws, rfl, h2, q2⟩ := r2.lst_inv
        exact ⟨l1, l2, vs, ws, rfl, k.gh.seq h1, k.gh.seq h2, a _ G' H' k (.refl _) (zi1 h1 h2 q1 q2)⟩
end
end DL
set_option Elab.async false
set_option linter.all false
set_option maxRecDepth 100000
set_option maxHeartbeats 4000000
namespace DL
open PySem PySem.Spec L2
open PyProof.Rows hiding St
section
variable {X : Cx} {B G0 : Hp} {e o a b c tg : Expr} {pos p2 p3 : Pos} {es rest : List Expr} {te to ti : TE}
def oIn : D -> D -> Option Bool
  | .str i, .str j => some (inS i j)
  | x, .list xs => if x.canLay0 = true /\ PyData.canLayAll0 xs = true /\ x.depth <= 60 then some (xs.any fun y => PyData.eqv y x) else none
  | x, .tuple xs => if x.canLay0 = true /\ PyData.canLayAll0 xs = true /\ x.depth <= 60 then some (xs.any fun y => PyData.eqv y x) else none
  | _, _ => none
def oNin (x y : D) : Option Bool := (oIn x y).map fun t => !t
def oInQ (x y : D) : Option Bool := match y with
  | .list xs => if x.canLay0 = true /\ PyData.canLayAll0 xs = true /\ x.depth <= 60 then some (xs.any fun y => PyData.eqv y x) else none
  | .tuple xs => if x.canLay0 = true /\ PyData.canLayAll0 xs = true /\ x.depth <= 60 then some (xs.any fun y => PyData.eqv y x) else none
  | _ => none
theorem zpQ (hu : X.A.units + 64 < cLine) : OpB X (compareOp .In) oInQ := by
  refine ⟨fun v u H Q => ∃ G x y d, Same G H /\ Rep X.K G v x /\ Rep X.K G u y /\ oInQ x y = some d /\ Q (.bl d) H, ?_, fun v u G H x y d Q s rx ry e k => ⟨G, x, y, d, s, rx, ry, e, k⟩⟩
  intro pins s σ H x y v u Q I rx ry ⟨G, dx, dy, d, sg, px, py, e, q⟩
  unfold oInQ at e
  split at e
  · split at e
    · rename_i c
      cases e
      obtain ⟨as, ra⟩ := zbl I sg px rx c.1
      obtain ⟨bs, rb⟩ := zbl I sg py ry (show PyData.canLayAll0 _ = true from c.2.1)
      exact SeqAt.in_list_reads rb ra c.2.1 c.1 (by have := c.2.2; omega) ⟨.bl _, H, I, rfl, q⟩
    · cases e
  · split at e
    · rename_i c
      cases e
      obtain ⟨as, ra⟩ := zbl I sg px rx c.1
      obtain ⟨bs, rb⟩ := zbl I sg py ry (show PyData.canLayAll0 _ = true from c.2.1)
      exact SeqAt.in_tuple_reads rb ra c.2.1 c.1 (by have := c.2.2; omega) ⟨.bl _, H, I, rfl, q⟩
    · cases e
  · cases e
theorem zod (hu : X.A.units + 64 < cLine) : OpB X (compareOp .NotIn) (fun x y => (oInQ x y).map fun t => !t) := by
  refine ⟨fun v u H Q => ∃ G x y d, Same G H /\ Rep X.K G v x /\ Rep X.K G u y /\ (oInQ x y).map (fun t => !t) = some d /\ Q (.bl d) H, ?_, fun v u G H x y d Q s rx ry e k => ⟨G, x, y, d, s, rx, ry, e, k⟩⟩
  intro pins s σ H x y v u Q I rx ry ⟨G, dx, dy, d, sg, px, py, e, q⟩
  unfold oInQ at e
  split at e
  · split at e
    · rename_i c
      cases e
      obtain ⟨as, ra⟩ := zbl I sg px rx c.1
      obtain ⟨bs, rb⟩ := zbl I sg py ry (show PyData.canLayAll0 _ = true from c.2.1)
      exact SeqAt.notIn_list_reads rb ra c.2.1 c.1 (by have := c.2.2; omega) ⟨.bl _, H, I, rfl, q⟩
    · cases e
  · split at e
    · rename_i c
      cases e
      obtain ⟨as, ra⟩ := zbl I sg px rx c.1
      obtain ⟨bs, rb⟩ := zbl I sg py ry (show PyData.canLayAll0 _ = true from c.2.1)
      exact SeqAt.notIn_tuple_reads rb ra c.2.1 c.1 (by have := c.2.2; omega) ⟨.bl _, H, I, rfl, q⟩
    · cases e
  · cases e
theorem B_in (hu : X.A.units + 64 < cLine) : OpB X (compareOp .In) oIn := (zpP.or (zpQ hu)).congr fun x y => by
  cases x <;> cases y <;> rfl
theorem zpR (hu : X.A.units + 64 < cLine) : OpB X (compareOp .NotIn) oNin := (zn8.or (zod hu)).congr fun x y => by
  cases x <;> cases y <;> rfl
theorem zi2 {tl th ts : TO} {lo hi : Option Expr} {st : Expr} (he : PE X e te) (hl : PO X lo tl) (hu : PO X hi th) (hst : PO X (some st) ts) : PE X (.Subscript e (.Slice lo hi (some st) p2) pos)
    (fun σ H Q => te σ H fun x H1 => tl σ H1 fun l H2 => th σ H2 fun u H3 => ts σ H3 fun t H4 => ∃ a xs, x = .ref a /\ SqL X.K H4 a xs /\ l = none /\ u = none /\ t = some (-1) /\ ∀ p, H4 p = none -> Q (.ref p) (upd H4 p (.lst xs.reverse))) := by
  intro pins s σ H Q I h
  refine Subscript_ (thn (he pins s σ H _ I h) fun v s1 ⟨x, H1, I1, r1, q1⟩ => ?_)
  refine wpAny_Slice (thn (hl pins s1 σ H1 _ I1 q1) fun vl s2 ⟨l, H2, I2, pl, q2⟩ => thn (hu pins s2 σ H2 _ I2 q2) fun vu s3 ⟨u, H3, I3, pu, q3⟩ => thn (hst pins s3 σ H3 _ I3 q3) fun vt s4 ⟨t, H4, I4, pt, q4⟩ => ?_)
  obtain ⟨a, xs, rfl, hx, rfl, rfl, rfl, q⟩ := q4
  cases r1
  have I5 : Inv X pins σ H4 { s4 with heap := s4.heap.push { cls := .type "slice", data := .fields #[vl, vu, vt] } } := I4.kept (t' := s4.toks) fun b ob q => Heap.get?_push_of_some _ q
  obtain ⟨its, r, ht, hz⟩ := I5.list hx
  have hlen := r.length
  have hg : wpAny (model X.prog X.w) X.A (getItem (.ref a) (.ref s4.heap.objs.size)) (EP X pins σ Q) X.xe { s4 with heap := s4.heap.push { cls := .type "slice", data := .fields #[vl, vu, vt] } } := by
    refine wpAny_getItem_list_slice ht.isList (Heap.IsSliceOf.new ..) pl pu pt (by simp) ?_ (by rw [List.size_toArray] <;> omega)
    rw [PySem.W.krv_pick]
    refine ⟨.ref _, _, I5.laid (t' := s4.toks) (o := .lst xs.reverse) (fun b ob q => Heap.get?_push_of_some _ q) (Nat.le_refl _) ?_, rfl, q _ (I5.hok.fresh (Nat.le_refl _))⟩
    exact ⟨by rw [List.length_reverse]; exact hz, its.reverse, 0, r.reverse, Heap.get?_push_size _ rfl⟩
  show wpAny (model X.prog X.w) X.A (subscriptTail e (.Slice lo hi (some st) p2) (.ref a) (.ref s4.heap.objs.size)) (EP X pins σ Q) X.xe { s4 with heap := s4.heap.push { cls := .type "slice", data := .fields #[vl, vu, vt] } }
  exact tail_any (ops := [.ref a, .ref s4.heap.objs.size]) ht.isList.typeIs slot_list_getitem.lookup hg (by with_unfolding_all rfl)
def oRev : D -> Option Int -> Option Int -> Option Int -> Option D
  | .list xs, none, none, some i => if i = -1 then some (.list xs.reverse) else none
  | _, _, _, _ => none
def dRev (f : M D) (lo hi st : M (Option Int)) : M D := zas f fun x => zas lo fun l => zas hi fun h => zas st fun t => mOpt (oRev x l h t)
theorem zgD {lo hi : Option Expr} {st : Expr} {f : M D} {l h t : M (Option Int)} (he : PE X e (tD X.K B G0 f)) (hl : PO X lo (tOi X.K B G0 l)) (hu : PO X hi (tOi X.K B G0 h)) (hst : PO X (some st) (tOi X.K B G0 t)) :
    PE X (.Subscript e (.Slice lo hi (some st) p2) pos) (tD X.K B G0 (dRev f l h t)) :=
  peof (zi2 he hl hu hst) fun σ H Q q => by
    refine tM.one (R := Rep X.K) q fun v H2 G ρ x k r a => ?_
    refine tM.nx (R := fun _ b c => b = c) k a fun l' H3 G3 ρ3 xl k3 s3 r3 a3 => ?_
    refine tM.nx (R := fun _ b c => b = c) k3 a3 fun h' H4 G4 ρ4 xh k4 s4 r4 a4 => ?_
    refine tM.nx (R := fun _ b c => b = c) k4 a4 fun t' H5 G5 ρ5 xt k5 s5 r5 a5 => ?_
    have r3 : l' = xl := r3
    have r4 : h' = xh := r4
    have r5 : t' = xt := r5
    subst r3 r4 r5
    cases x with
    | list xs =>
      cases l' with
      | some _ => exact a5.elim
      | none =>
      cases h' with
      | some _ => exact a5.elim
      | none =>
      cases t' with
      | none => exact a5.elim
      | some i =>
      obtain ⟨ad, vs, rfl, h1, r1⟩ := (((r.mono s3).mono s4).mono s5).lst_inv
      by_cases hi : i = -1
      · subst hi
        exact ⟨ad, vs, rfl, k5.gh.seq h1, rfl, rfl, rfl, fun p hp => aft.done a5 k5 (Ext.new k5.gh hp) (.lst (SqL.of zaH) (r1.reverse.mono (zaK (k5.gh.free hp))))⟩
      · unfold mOpt oRev at a5
        dsimp only at a5
        rw [if_neg hi] at a5
        exact a5.elim
    | _ => 
      unfold mOpt oRev at a5
      exact a5.elim
def zcK : List D -> Option (List D)
  | [.list xs] => some xs
  | [.tuple xs] => some xs
  | _ => none
theorem zfN {x l : List D} (h : zcK x = some l) : x = [.list l] ∨ x = [.tuple l] := by
  unfold zcK at h
  split at h
  · cases h; exact .inl rfl
  · cases h; exact .inr rfl
  · cases h
theorem zeJ : bootBuiltins "list" = some (.type "list") := by decide +kernel
theorem zhq {f : M (List D)} (hg : Gl X "list") (hm : X.mg "list" = none) (ha : PA X [a] (tDs X.K B G0 f)) (he : starEach [a] X.env = (false, eval a X.env) :: starEach [] X.env := by rfl) :
    PE X (.Call (.Name "list" p2) [a] [] pos) (tL X.K B G0 (zas f fun xs => mOpt (zcK xs))) :=
  peof (zde zdK hg hm zeJ ha (by decide) (by decide) he rfl) fun σ H Q ⟨G, ρ, k, q⟩ => by
    refine ⟨G, ρ, k, ?_⟩
    unfold zas at q
    cases z : f ρ with
    | bad => rw [z] at q; exact q.elim
    | ok xs ρ1 =>
      rw [z] at q
      dsimp only [mOpt] at q
      intro vs G' H' k' s' r
      cases z2 : zcK xs with
      | none => rw [z2] at q; exact q.elim
      | some l =>
        rw [z2] at q
        rcases zfN z2 with rfl | rfl
        · obtain ⟨v, rfl, q1⟩ := r.one_inv
          obtain ⟨p, ws, rfl, h1, r1⟩ := q1.lst_inv
          exact ⟨p, ws, rfl, .inl (k'.gh.seq h1), fun ad hp => q ad ws G' _ (k'.ext (Ext.hid k'.gh hp)) s' (NewL.of k' hp r1)⟩
        · obtain ⟨v, rfl, q1⟩ := r.one_inv
          obtain ⟨p, ws, rfl, h1, r1⟩ := q1.tup_inv
          exact ⟨p, ws, rfl, .inr (zdg k'.gh h1), fun ad hp => q ad ws G' _ (k'.ext (Ext.hid k'.gh hp)) s' (NewL.of k' hp r1)⟩
def zcf (i : Nat) : M (List D) := fun ρ => match ρ[i]? with
  | some (some (.pub d)) => mOpt (zcK [d]) ρ
  | some (some (.own ds)) => .ok ds ρ
  | _ => .bad
theorem zcg {i : Nat} (hg : Gl X "list") (hm : X.mg "list" = none) (ho : PE X a (tVar i)) (he : starEach [a] X.env = (false, eval a X.env) :: starEach [] X.env := by rfl) :
    PE X (.Call (.Name "list" p2) [a] [] pos) (tL X.K B G0 (zcf i)) :=
  peof (zde zdK hg hm zeJ (zcu ho zd5 he) (by decide) (by decide) he rfl) fun σ H Q ⟨G, ρ, k, q⟩ => by
    unfold zcf at q
    cases z : ρ[i]? with
    | none => rw [z] at q; exact q.elim
    | some oo =>
      cases oo with
      | none => rw [z] at q; exact q.elim
      | some sl =>
        cases sl with
        | own ds =>
          rw [z] at q
          dsimp only at q
          obtain ⟨ad, vs, h1, h2, h3, h4, h5⟩ := k.own i ds z
          exact ⟨.ref ad, h1, ad, vs, rfl, .inl (SqL.of h4), fun l hp => q l vs G _ (k.ext (Ext.hid k.gh hp)) (.refl _) (NewL.of k hp h5)⟩
        | pub d =>
          rw [z] at q
          dsimp only [mOpt] at q
          obtain ⟨v, h1, h2⟩ := k.pub i d z
          cases z2 : zcK [d] with
          | none => rw [z2] at q; exact q.elim
          | some l =>
            rw [z2] at q
            dsimp only at q
            rcases zfN z2 with e | e
            · cases e
              obtain ⟨p, ws, rfl, g1, r1⟩ := h2.lst_inv
              exact ⟨_, h1, p, ws, rfl, .inl (k.gh.seq g1), fun ad hp => q ad ws G _ (k.ext (Ext.hid k.gh hp)) (.refl _) (NewL.of k hp r1)⟩
            · cases e
              obtain ⟨p, ws, rfl, g1, r1⟩ := h2.tup_inv
              exact ⟨_, h1, p, ws, rfl, .inr (zdg k.gh g1), fun ad hp => q ad ws G _ (k.ext (Ext.hid k.gh hp)) (.refl _) (NewL.of k hp r1)⟩
def zi3 : List D -> Option D
  | [.int i] => some (.int i)
  | [.bool b] => some (.int (if b then 1 else 0))
  | _ => none
theorem zoe : zc3 X (.type "int") zi3 := by
  refine ⟨_, ziK, fun vs G H ds d Q s r e k => ?_⟩
  unfold zi3 at e
  split at e
  · cases e
    obtain ⟨v, rfl, q⟩ := r.one_inv
    rw [q.int_inv]
    exact .inl ⟨_, rfl, k _ G H (.refl s) (.int _)⟩
  · cases e
    obtain ⟨v, rfl, q⟩ := r.one_inv
    rw [q.bl_inv]
    exact .inr ⟨_, rfl, k _ G H (.refl s) (.int _)⟩
  · cases e
theorem zpS {x : Str} {zs : List Str} (hg : Gl X x) (hm : ∃ ad o its n, X.mg x = some (.ref ad) /\ X.K.lookup ad = some o /\ o.cls = .type "tuple" /\ o.data = .seq its n /\ its.size <= sizeLine /\ Vals (zs.map V.str) its.toList) (hd : (x == ("__debug__" : Str)) = false := by decide) :
    PE X (.Name x pos) (tD X.K B G0 (zah (.tuple (zs.map PyData.str)))) := by
  obtain ⟨ad, o, its, n, hm, h1, h2, h3, h4, h5⟩ := hm
  refine peof (ziB (v := .ref ad) hg hm rfl hd) fun σ H Q ⟨G, ρ, k, a⟩ => aft.now a k (.tup (.inr ⟨o, its, n, h1, h2, h3, h4, h5⟩) ?_)
  have : ∀ zs : List Str, Reps X.K G (zs.map V.str) (zs.map PyData.str) := fun zs => by
    induction zs with
    | nil => exact .nil
    | cons z r ih => exact .cons (.str _) ih
  exact this zs
end
end DL
set_option Elab.async false
set_option linter.all false
set_option maxRecDepth 100000
set_option maxHeartbeats 4000000
namespace L2
open PySem PySem.Spec PyProof.Rows
theorem zgE (elt t0 i0 t1 i1 : Expr) (ifs0 ifs1 : List Expr) (scope : Scope) (pos : Pos) (it acc : Value) (env : Env) :
    compTurn (.ListComp elt [⟨t0, i0, ifs0, 0⟩, ⟨t1, i1, ifs1, 0⟩] scope pos) 1 it acc env = (do
      standAt i1.pos
      match ← pyNext it with
      | none => pure (.done .next)
      | some v =>
        letOwnedTupleGo t1 it v
        assign t1 env v
        let mut ok := true
        for c in ifs1 do
          if ok then ok ← isTrue c env (eval c env)
        if ok then
          (do let _ ← call (.builtin "list.append") [acc, ← eval elt env])
        again (.compLoop (.ListComp elt [⟨t0, i0, ifs0, 0⟩, ⟨t1, i1, ifs1, 0⟩] scope pos) 1 it acc env)) := by rfl
theorem zfO (elt t0 i0 t1 i1 : Expr) (ifs0 ifs1 : List Expr) (scope : Scope) (pos : Pos) (it acc : Value) (env : Env) :
    compTurn (.ListComp elt [⟨t0, i0, ifs0, 0⟩, ⟨t1, i1, ifs1, 0⟩] scope pos) 0 it acc env = (do
      standAt i0.pos
      match ← pyNext it with
      | none => pure (.done .next)
      | some v =>
        letOwnedTupleGo t0 it v
        assign t0 env v
        let mut ok := true
        for c in ifs0 do
          if ok then ok ← isTrue c env (eval c env)
        if ok then
          let x ← eval i1 env
          standAt i1.pos
          let x ← foldedSetIterable i1 env x
          let it1 ← holding [x] (pyIter x)
          let _ ← runOwn (.compStart (.ListComp elt [⟨t0, i0, ifs0, 0⟩, ⟨t1, i1, ifs1, 0⟩] scope pos) 1 it1 acc env) env
          again (.compLoop (.ListComp elt [⟨t0, i0, ifs0, 0⟩, ⟨t1, i1, ifs1, 0⟩] scope pos) 0 it acc env)
        else again (.compLoop (.ListComp elt [⟨t0, i0, ifs0, 0⟩, ⟨t1, i1, ifs1, 0⟩] scope pos) 0 it acc env)) := by rfl
section
variable {prog : Program} {w : World} {A : Around} {R : Result -> Shared -> Prop} {s : Shared}
theorem zgF {elt t0 i0 t1 i1 : Expr} {ifs0 ifs1 : List Expr} {scope : Scope} {pos : Pos} {it acc : Value} {env : Env} (I : Nat -> Shared -> Prop)
    (turn : ∀ n s, I n s -> wpAny (model prog w) A (pyNext it) (fun r s₁ => match r with
      | none => R (.ok .next) s₁
      | some v => wpAny (model prog w) A (letOwnedTupleGo t1 it v) (fun _ s₁' => wpAny (model prog w) A (assign t1 env v) (fun _ s₂ =>
          wpAny (model prog w) A (forIn ifs1 true fun c r => if r = true then do let ok ← isTrue c env (eval c env); pure (ForInStep.yield ok) else pure (ForInStep.yield r)) (fun ok s₃ =>
            if ok = true then wpAny (model prog w) A (eval elt env) (fun x s₄ =>
              wpAny (model prog w) A (call (.builtin "list.append") [acc, x]) (fun _ s₅ => ∃ m, m < n /\ I m s₅) (fun _ _ => False) s₄) (fun _ _ => False) s₃
            else ∃ m, m < n /\ I m s₃) (fun _ _ => False) s₂) (fun _ _ => False) s₁') (fun _ _ => False) s₁) (fun _ _ => False) s)
    (n : Nat) (h : I n s) :
    codeAny (model prog w) A (.compLoop (.ListComp elt [⟨t0, i0, ifs0, 0⟩, ⟨t1, i1, ifs1, 0⟩] scope pos) 1 it acc env) R s := by
  refine codeAny_loop rfl I (fun n s hI => ?_) n h
  show wpAny _ A ((compTurn (.ListComp elt [⟨t0, i0, ifs0, 0⟩, ⟨t1, i1, ifs1, 0⟩] scope pos) 1 it acc env).onRaise (fun x => do noteFrame x env; theTreesLotGoes x)) _ _ s
  refine wpAny_noted ?_
  rw [zgE]
  refine wpAny_bind (wpAny_standAt (wpAny_bind (wpAny_mono (turn n s hI) (fun r s₁ h₁ => ?_) fun _ _ h' => h'.elim)))
  cases r with
  | none => exact wpAny_pure h₁
  | some v =>
    refine wpAny_bind (wpAny_mono h₁ (fun _ s₁' h₁' => ?_) fun _ _ h' => h'.elim)
    refine wpAny_bind (wpAny_mono h₁' (fun _ s₂ h₂ => wpAny_bind (wpAny_mono h₂ (fun ok s₃ h₃ => ?_) fun _ _ h' => h'.elim)) fun _ _ h' => h'.elim)
    cases ok with
    | false => exact wpAny_pure ⟨rfl, h₃⟩
    | true =>
      exact wpAny_bind (wpAny_bind (wpAny_mono h₃ (fun x s₄ h₄ => wpAny_bind (wpAny_mono h₄ (fun _ s₅ h₅ => wpAny_pure (wpAny_pure ⟨rfl, h₅⟩)) fun _ _ h' => h'.elim)) fun _ _ h' => h'.elim))
theorem zfP {elt t0 i0 t1 i1 : Expr} {ifs0 ifs1 : List Expr} {scope : Scope} {pos : Pos} {it acc : Value} {env : Env} (I : Nat -> Shared -> Prop)
    (hs : ∀ x, foldedSetIterable i1 env x = pure x)
    (turn : ∀ n s, I n s -> wpAny (model prog w) A (pyNext it) (fun r s₁ => match r with
      | none => R (.ok .next) s₁
      | some v => wpAny (model prog w) A (letOwnedTupleGo t0 it v) (fun _ s₁' => wpAny (model prog w) A (assign t0 env v) (fun _ s₂ =>
          wpAny (model prog w) A (forIn ifs0 true fun c r => if r = true then do let ok ← isTrue c env (eval c env); pure (ForInStep.yield ok) else pure (ForInStep.yield r)) (fun ok s₃ =>
            if ok = true then wpAny (model prog w) A (eval i1 env) (fun x s₄ =>
              wpAny (model prog w) A (pyIter x) (fun it1 s₅ => codeAny (model prog w) A (.compStart (.ListComp elt [⟨t0, i0, ifs0, 0⟩, ⟨t1, i1, ifs1, 0⟩] scope pos) 1 it1 acc env)
                (fun r s₆ => match r with | .ok _ => ∃ m, m < n /\ I m s₆ | .error _ => False) s₅) (fun _ _ => False) s₄) (fun _ _ => False) s₃
            else ∃ m, m < n /\ I m s₃) (fun _ _ => False) s₂) (fun _ _ => False) s₁') (fun _ _ => False) s₁) (fun _ _ => False) s)
    (n : Nat) (h : I n s) :
    codeAny (model prog w) A (.compLoop (.ListComp elt [⟨t0, i0, ifs0, 0⟩, ⟨t1, i1, ifs1, 0⟩] scope pos) 0 it acc env) R s := by
  refine codeAny_loop rfl I (fun n s hI => ?_) n h
  show wpAny _ A ((compTurn (.ListComp elt [⟨t0, i0, ifs0, 0⟩, ⟨t1, i1, ifs1, 0⟩] scope pos) 0 it acc env).onRaise (fun x => do noteFrame x env; theTreesLotGoes x)) _ _ s
  refine wpAny_noted ?_
  rw [zfO]
  refine wpAny_bind (wpAny_standAt (wpAny_bind (wpAny_mono (turn n s hI) (fun r s₁ h₁ => ?_) fun _ _ h' => h'.elim)))
  cases r with
  | none => exact wpAny_pure h₁
  | some v =>
    refine wpAny_bind (wpAny_mono h₁ (fun _ s₁' h₁' => ?_) fun _ _ h' => h'.elim)
    refine wpAny_bind (wpAny_mono h₁' (fun _ s₂ h₂ => wpAny_bind (wpAny_mono h₂ (fun ok s₃ h₃ => ?_) fun _ _ h' => h'.elim)) fun _ _ h' => h'.elim)
    cases ok with
    | false => exact wpAny_pure ⟨rfl, h₃⟩
    | true =>
      refine wpAny_bind (wpAny_mono h₃ (fun x s₄ h₄ => wpAny_bind (wpAny_standAt (wpAny_bind (wpAny_of_eq (hs x) (wpAny_bind (wpAny_holding (wpAny_mono h₄ (fun it1 s₅ h₅ => ?_) fun _ _ h' => h'.elim))))))) fun _ _ h' => h'.elim)
      refine wpAny_bind (wpAny_runOwn (codeAny_mono h₅ fun r s₆ h₆ => ?_))
      cases r with
      | ok f => exact wpAny_pure ⟨rfl, h₆⟩
      | error x => exact h₆.elim
end
end L2
set_option Elab.async false
set_option linter.all false
set_option maxRecDepth 100000
set_option maxHeartbeats 4000000
namespace L2
open PySem PySem.Spec PyProof.Rows
section
variable {prog : Program} {w : World} {A : Around} {R : Result -> Shared -> Prop} {s : Shared}
theorem zfQ {elt t0 i0 t1 i1 : Expr} {ifs0 ifs1 : List Expr} {scope : Scope} {pos : Pos} {it acc : Value} {env : Env}
    (h0 : codeAny (model prog w) A (.compLoop (.ListComp elt [⟨t0, i0, ifs0, 0⟩, ⟨t1, i1, ifs1, 0⟩] scope pos) 1 it acc env) R s)
    (h : wpAny (model prog w) A (pyIter it) (fun it' s' => codeAny (model prog w) A (.compLoop (.ListComp elt [⟨t0, i0, ifs0, 0⟩, ⟨t1, i1, ifs1, 0⟩] scope pos) 1 it' acc env) R s') (fun _ _ => False) s) :
    codeAny (model prog w) A (.compStart (.ListComp elt [⟨t0, i0, ifs0, 0⟩, ⟨t1, i1, ifs1, 0⟩] scope pos) 1 it acc env) R s := by
  refine codeAny_of_tree ?_
  show wpAny _ _ ((compStart (.ListComp elt [⟨t0, i0, ifs0, 0⟩, ⟨t1, i1, ifs1, 0⟩] scope pos) 1 it acc env).onRaise (fun x => do noteFrame x env; standAt theWindowsPlace)) _ _ s
  refine wpAny_notedAt ?_
  unfold compStart
  show wpAny _ _ (ask >>= _) _ _ s
  refine wpAny_bind (wpAny_askSetting (wpAny_ite ?_))
  split
  · first
      | exact wpAny_bind (wpAny_pure (wpAny_pure (And.intro rfl h0)))
      | exact wpAny_pure (And.intro rfl h0)
  · first
      | exact wpAny_bind (wpAny_rule (wpAny_bind (wpAny_standAt (wpAny_bind (wpAny_mono h (fun it' s' h' => wpAny_pure (And.intro rfl h')) fun _ _ x => x.elim)))))
      | (refine wpAny_bind (wpAny_rule ?_); show wpAny _ _ (standAt i1.pos >>= _) _ _ s; exact wpAny_bind (wpAny_standAt (wpAny_bind (wpAny_mono h (fun it' s' h' => wpAny_pure (And.intro rfl h')) fun _ _ x => x.elim))))
end
end L2
namespace DL
open PySem PySem.Spec L2
open PyProof.Rows hiding St
def zcS (s : D -> DEnv -> Option DEnv) (t : M Bool) (g : M D) : List D -> DEnv -> List D -> Option (List D × DEnv)
  | [], ρ, es => some (es, ρ)
  | d :: r, ρ, es => match s d ρ with
    | none => none
    | some ρ1 => match t ρ1 with
      | .bad => none
      | .ok b ρ2 => if b = true then (match g ρ2 with
          | .bad => none
          | .ok e ρ3 => if es.length < 1000000 then zcS s t g r (zaL ρ3) (es ++ [e]) else none)
        else zcS s t g r (zaL ρ2) es
def zci (s0 : D -> DEnv -> Option DEnv) (t0 : M Bool) (f1 : M (List D)) (s1 : D -> DEnv -> Option DEnv) (t1 : M Bool) (g : M D) : List D -> DEnv -> List D -> Option (List D)
  | [], _, es => some es
  | d :: r, ρ, es => match s0 d ρ with
    | none => none
    | some ρ1 => match t0 ρ1 with
      | .bad => none
      | .ok b ρ2 => if b = true then (match f1 ρ2 with
          | .bad => none
          | .ok ds ρ3 => match zcS s1 t1 g ds (zaL ρ3) es with
            | none => none
            | some (es', ρ4) => zci s0 t0 f1 s1 t1 g r ρ4 es')
        else zci s0 t0 f1 s1 t1 g r (zaL ρ2) es
section
variable {X : Cx} {B G0 : Hp} {N2 : List Str} {scope : Scope} {cl : List (Str × Addr)} {C : Addr} {s₀ : Shared} {H₀ : Hp} {ex : List Addr}
theorem zi4 {elt tg0 i0 tg1 i1 : Expr} {ifs0 ifs1 : List Expr} {scope' : Scope} {pos : Pos} {s : D -> DEnv -> Option DEnv} {t : M Bool} {g : M D} (hc : X.calm = true)
    (hblk : ∀ (B' G' : Hp), PG (X.blk N2 scope cl C s₀ H₀ ex) tg1 (tG X.K B' G' s) /\ PIfs (X.blk N2 scope cl C s₀ H₀ ex) ifs1 (tBo X.K B' G' t) /\ PE (X.blk N2 scope cl C s₀ H₀ ex) elt (tD X.K B' G' g))
    {pins : List (Addr × Obj)} {sh : Shared} {σ : St} {H G : Hp} {ρ ρF : DEnv} {it D' : Addr} {fp : List Addr} {tn : Nat -> Heap -> Prop} {J : It} {ds es esF : List D} {vs : List V} {R : Result -> Shared -> Prop}
    (I : Inv (X.blk N2 scope cl C s₀ H₀ ex) pins σ H sh) (T : Turn X.prog X.w X.K tg1 J fp it tn) (st : tn 0 sh.heap) (hf : ∀ b ∈ fp, FpOk (X.blk N2 scope cl C s₀ H₀ ex) pins H b)
    (k : EOk X.K H G G H σ ρ) (its : zdh X.K J ds G) (hD : H D' = some (.lst vs)) (gD : G D' = none) (r : Reps X.K G vs es) (zl : zcS s t g ds ρ es = some (esF, ρF))
    (hfin : ∀ σ' H' G' vs' s', Inv (X.blk N2 scope cl C s₀ H₀ ex) pins σ' H' s' -> EOk X.K H' G' G' H' σ' ρF -> (∀ a o, a ≠ D' -> H a = some o -> H' a = some o) -> Same G G' -> (∀ a o, a ≠ D' -> H a = some o -> G a = none -> G' a = none) -> H' D' = some (.lst vs') -> G' D' = none -> Reps X.K G' vs' esF -> R (.ok .next) s') :
    codeAny (model X.prog X.w) X.A (.compLoop (.ListComp elt [⟨tg0, i0, ifs0, 0⟩, ⟨tg1, i1, ifs1, 0⟩] scope' pos) 1 (.ref it) (.ref D') (X.blk N2 scope cl C s₀ H₀ ex).env) R sh := by
  have stat : ∀ {H' : Hp}, (∀ b ∈ fp, H' b = none) -> ∀ b ∈ fp, FpOk (X.blk N2 scope cl C s₀ H₀ ex) pins H' b := fun hn b hb => ⟨hn b hb, (hf b hb).2⟩
  refine zgF (fun n s' => ∃ i σ' H' G' ρ' vs' es', n = ds.length - i /\ Inv (X.blk N2 scope cl C s₀ H₀ ex) pins σ' H' s' /\ tn i s'.heap /\ (∀ b ∈ fp, H' b = none) /\ EOk X.K H' G' G' H' σ' ρ' /\ (∀ a o, a ≠ D' -> H a = some o -> H' a = some o) /\ Same G G' /\
    (∀ a o, a ≠ D' -> H a = some o -> G a = none -> G' a = none) /\ H' D' = some (.lst vs') /\ G' D' = none /\ Reps X.K G' vs' es' /\ zcS s t g (ds.drop i) ρ' es' = some (esF, ρF)) ?_ ds.length
    ⟨0, σ, H, G, ρ, vs, es, rfl, I, st, fun b hb => (hf b hb).1, k, fun _ _ _ q => q, .refl _, fun _ _ _ _ n => n, hD, gD, r, by rw [List.drop_zero]; exact zl⟩
  rintro n s' ⟨i, σ', H', G', ρ', vs', es', rfl, I', tn', fr', k', sh', sg', np', hD', gD', r', zc⟩
  by_cases hlt : i < ds.length
  · rw [List.drop_eq_getElem_cons hlt, zcS] at zc
    cases zs : s ds[i] ρ' with
    | none => rw [zs] at zc; cases zc
    | some ρ2 =>
    rw [zs] at zc
    dsimp only at zc
    cases zt : t ρ2 with
    | bad => rw [zt] at zc; cases zc
    | ok b ρ3 =>
    rw [zt] at zc
    dsimp only at zc
    refine thn (T.item (X.blk N2 scope cl C s₀ H₀ ex) rfl rfl rfl hc i pins s' σ' H' (fun _ _ => False) I' (stat fr') tn' (its.go i G' H' sg' k'.gh hlt)) fun rr s4 ⟨u, hr, h4⟩ => ?_
    subst hr
    refine thn h4 fun _ s5 ⟨x, H5, I5, r5, y5, st5, fr5⟩ => ?_
    obtain ⟨G5, e5, rx⟩ := its.yld i G' H' x H5 ds[i] sg' k'.gh (List.getElem?_eq_getElem hlt) y5
    have k5 := k'.ext e5
    have I5' := I5.pinned (stat fr5) (T.obj _ _ st5)
    obtain ⟨hg, ht, he⟩ := hblk H' G'
    refine thn (hg _ s5 σ' H5 x u (fun σ6 H6 => ∃ G6, EOk X.K H' G' G6 H6 σ6 ρ2) I5' r5 ⟨G5, ρ', ds[i], ρ2, k5, rx, zs, fun σ6 G6 H6 k6 _ => ⟨G6, k6⟩⟩) fun _ s6 ⟨σ6, H6, I6, G6, k6⟩ => ?_
    refine thn (ht _ s6 σ6 H6 (fun c H7 => c = b /\ ∃ G7, EOk X.K H' G' G7 H7 σ6 ρ3) I6 ⟨G6, ρ2, k6, by unfold aft; rw [zt]; exact fun c G7 H7 k7 _ q => ⟨q, G7, k7⟩⟩) fun ok s7 ⟨H7, I7, hb7, G7, k7⟩ => ?_
    subst hb7
    have again : ∀ {H9 : Hp} {s9 : Shared}, Inv (X.blk N2 scope cl C s₀ H₀ ex) (pins ++ zdJ fp s5.heap) σ6 H9 s9 -> Inv (X.blk N2 scope cl C s₀ H₀ ex) pins σ6 H9 s9 /\ tn (i + 1) s9.heap /\ ∀ b ∈ fp, H9 b = none := fun {H9 s9} I9 => by
      refine ⟨I9.unpinned, T.keep _ _ _ st5 fun b hb o e => (I9.pin (b, o) (List.mem_append_right _ (List.mem_append_right _ (zbd hb e)))).1, fun b hb => ?_⟩
      obtain ⟨o, e, d⟩ := T.obj _ _ st5 b hb
      exact (I9.pin (b, o) (List.mem_append_right _ (List.mem_append_right _ (zbd hb e)))).2.1
    cases ok with
    | false =>
      rw [if_neg (by decide)] at zc ⊢
      obtain ⟨J1, J2, J3⟩ := again I7
      exact ⟨ds.length - (i + 1), by omega, i + 1, σ6, H7, G7, zaL ρ3, vs', es', rfl, J1, J2, J3, k7.rebase, fun a o z q => k7.bh a o (sh' a o z q), sg'.trans k7.g0, fun a o z q w => k7.np a o (sh' a o z q) (np' a o z q w), k7.bh _ _ hD', k7.np _ _ hD' gD', r'.mono k7.g0, zc⟩
    | true =>
      rw [if_pos rfl] at zc ⊢
      cases zg : g ρ3 with
      | bad => rw [zg] at zc; cases zc
      | ok e ρ4 =>
      rw [zg] at zc
      dsimp only at zc
      by_cases hle : es'.length < 1000000
      · rw [if_pos hle] at zc
        refine thn (he _ s7 σ6 H7 (fun v H8 => ∃ G8, EOk X.K H' G' G8 H8 σ6 ρ4 /\ Rep X.K G8 v e) I7 ⟨G7, ρ3, k7, by unfold aft; rw [zg]; exact fun v G8 H8 k8 _ q => ⟨G8, k8, q⟩⟩) fun ev s8 ⟨v, H8, I8, rv, G8, k8, r8⟩ => ?_
        have h8 := k8.bh _ _ hD'
        have g8 := k8.np _ _ hD' gD'
        refine thn (zdf _ s8 σ6 H8 (.ref D') [v] (.ref D') [ev] (fun _ H9 => H9 = upd H8 D' (.lst (vs' ++ [v]))) I8 rfl (.cons rv .nil) ⟨D', vs', v, rfl, rfl, h8, by have := lim1; rw [r'.length]; omega, rfl⟩) fun _ s9 ⟨_, H9, I9, _, e9⟩ => ?_
        subst e9
        obtain ⟨J1, J2, J3⟩ := again I9
        exact ⟨ds.length - (i + 1), by omega, i + 1, σ6, _, G8, zaL ρ4, vs' ++ [v], es' ++ [e], rfl, J1, J2, J3, k8.beside g8, fun a o z q => by rw [zaM z]; exact k8.bh a o (sh' a o z q), sg'.trans k8.g0, fun a o z q w => k8.np a o (sh' a o z q) (np' a o z q w), zaH, g8, (r'.mono k8.g0).append (.cons r8 .nil), zc⟩
      · rw [if_neg hle] at zc; cases zc
  · rw [List.drop_eq_nil_of_le (Nat.le_of_not_lt hlt), zcS] at zc
    cases zc
    refine thn (T.done (X.blk N2 scope cl C s₀ H₀ ex) rfl rfl rfl hc i pins s' σ' H' (fun _ _ => False) I' (stat fr') tn' (its.stop i G' H' sg' k'.gh (Nat.le_of_not_lt hlt))) fun rr s4 ⟨hr, I6⟩ => ?_
    subst hr
    exact hfin σ' H' G' vs' s4 I6 k' sh' sg' np' hD' gD' r'
end
end DL
set_option Elab.async false
set_option linter.all false
set_option maxRecDepth 100000
set_option maxHeartbeats 4000000
namespace DL
open PySem PySem.Spec L2
open PyProof.Rows hiding St
section
variable {X : Cx} {B G0 : Hp}
theorem zi5 {tg tg1 elt iter i1 : Expr} {ifs ifs1 : List Expr} {scope : Scope} {pos pos' : Pos} {N2 : List Str} {k : Nat} {f : M (List D)} {s s1' : D -> DEnv -> Option DEnv} {t t1' : M Bool} {f1 : M (List D)} {g : M D} {use : Option (Value -> Sem Unit)} {Qc : Value -> Shared -> Prop} (hc : X.calm = true)
    (hi : PI X tg iter (iD X.K B G0 f))
    (hblk : ∀ (cl : List (Str × Addr)) (C : Addr) (s₀ : Shared) (H₀ : Hp) (ex : List Addr) (B' G' : Hp), PG (X.blk N2 scope cl C s₀ H₀ ex) tg (tG X.K B' G' s) /\ PIfs (X.blk N2 scope cl C s₀ H₀ ex) ifs (tBo X.K B' G' t) /\ PI (X.blk N2 scope cl C s₀ H₀ ex) tg1 i1 (iD X.K B' G' f1) /\ PG (X.blk N2 scope cl C s₀ H₀ ex) tg1 (tG X.K B' G' s1') /\ PIfs (X.blk N2 scope cl C s₀ H₀ ex) ifs1 (tBo X.K B' G' t1') /\ PE (X.blk N2 scope cl C s₀ H₀ ex) elt (tD X.K B' G' g))
    (hb : zbz scope.names X.N N2 k = true) (hkind : scope.kind = .function) (hcell : ∀ y ∈ scope.names, y.2 ≠ .cell)
    (hnames : ∀ y ∈ scope.names, y.2 = .local -> scope.names.lookup y.1 = some .local)
    (hfree : ∀ y ∈ scope.names, y.2 = .free -> X.env.scope.names.lookup y.1 = some .cell ∨ X.env.scope.names.lookup y.1 = some .free)
    (hs : ∀ x, foldedSetIterable iter X.env x = pure x) (hs1 : ∀ (cl : List (Str × Addr)) (C : Addr) (x : Value), foldedSetIterable i1 (compEnvC scope cl C X.env) x = pure x)
    {pins : List (Addr × Obj)} {s0 : Shared} {σ : St} {G H : Hp} {ρ ρ1 : DEnv} {ds esF : List D} (I : Inv X pins σ H s0) (k0 : EOk X.K B G0 G H σ ρ) (zf : f ρ = .ok ds ρ1) (zl : zci s t f1 s1' t1' g ds (zaL ρ1 ++ List.replicate k none) [] = some esF)
    (hfin : ∀ (C D : Addr) (vs : List V) (G' H' : Hp) (s4 : Shared) (m : Str -> Option Value), Inv X pins σ H' s4 -> s4.heap.Ns C m -> H' C = none -> C ≠ X.env.locals -> X.s₀.heap.objs.size <= C -> (∀ x c, X.env.cells.lookup x = some c -> c ≠ C) -> (∀ p ∈ X.pn ++ pins, p.1 ≠ C) ->
      EOk X.K B G0 G' H' σ ρ1 -> Same G G' -> NewL X.K B G' H' σ ρ1 D vs esF -> compPost (model X.prog X.w) X.A X.xe use Qc (.ref D) C (.ok .next) s4) :
    wpAny (model X.prog X.w) X.A (comprehension (.ListComp elt [⟨tg, iter, ifs, 0⟩, ⟨tg1, i1, ifs1, 0⟩] scope pos) scope X.env pos' (newList []) false (eval iter X.env) use) Qc X.xe s0 := by
  obtain ⟨cl, hcl, cl1, cl2⟩ := zdC (scope := scope) (env := X.env) fun y hy hf => I.ok.has y.1 (hfree y hy hf)
  refine wpAny_comprehension_free (use := use) rfl hs hcl hkind hnames (thn (hi pins s0 σ H (fun J H1 => ∃ G1, EOk X.K B G0 G1 H1 σ ρ1 /\ Same G G1 /\ zdh X.K J ds G1) I ⟨G, ρ, k0, by rw [zf]; exact fun J G1 H1 k1 s1 it => ⟨G1, k1, s1, it⟩⟩) fun v s1 h1 => thn h1 fun itv s2 h2 => ?_)
  obtain ⟨it, fp, tn, J, H2, rfl, I2, T, st2, f2, G1, k1, sg1, its⟩ := h2
  refine wpAny_newObj_type (wpAny_newFunctionEnv hcell (by intro y hy; simp at hy) (fun h₁ hns₁ hsb₁ => ?_) hkind)
  dsimp only at hns₁ hsb₁ ⊢
  have hfr : H2 s2.heap.objs.size = none := I2.hok.fresh (Nat.le_refl _)
  have I3 : Inv X pins σ (upd H2 s2.heap.objs.size (.lst [])) { s2 with heap := s2.heap.push { cls := .type "list", dict := none, data := .seq ([] : List Value).toArray } } :=
    I2.laid (t' := s2.toks) (fun b u e => Heap.get?_push_of_some _ e) (Nat.le_refl _) ⟨Nat.zero_le _, [], 0, .nil, Heap.get?_push_size _ rfl⟩
  generalize hP : s2.heap.push { cls := .type "list", dict := none, data := .seq ([] : List Value).toArray } = P at I3 hns₁ hsb₁ ⊢
  have sD : s2.heap.objs.size <= P.objs.size := by rw [← hP, Heap.size_push]; exact Nat.le_succ _
  have old : ∀ b o, s2.heap.get? b = some o -> P.get? b = some o := fun b o e => hP ▸ Heap.get?_push_of_some _ e
  have kept : ∀ b o, P.get? b = some o -> h₁.get? b = some o := fun b o e => hsb₁.extBut b o (Nat.ne_of_lt (Heap.lt_size e)) (Heap.get?_push_of_some _ e)
  have fpo : ∀ b ∈ fp, ∃ o, s2.heap.get? b = some o := fun b hb => let ⟨o, e, _⟩ := T.obj _ _ st2 b hb; ⟨o, e⟩
  have fpD : ∀ b ∈ fp, b ≠ s2.heap.objs.size := fun b hb => let ⟨o, e⟩ := fpo b hb; Nat.ne_of_lt (Heap.lt_size e)
  have f3 : ∀ b ∈ fp, FpOk X pins (upd H2 s2.heap.objs.size (.lst [])) b := fun b hb => ⟨by rw [zaM (fpD b hb)]; exact (f2 b hb).1, (f2 b hb).2⟩
  have I4 := I3.enter (scope := scope) (cl := cl) (N2 := N2) (k := k) (fp := fp) (t' := s2.toks + ([] : List (Str × Value)).length) hb hkind hcell hfree cl1 cl2 hns₁ kept f3 (fun b hb => let ⟨o, e⟩ := fpo b hb; ⟨o, old b o e⟩)
  dsimp only at I4
  generalize hH3 : upd H2 s2.heap.objs.size (.lst []) = H3 at I3 I4 f3
  generalize hD : s2.heap.objs.size = D at *
  have sH : Same H2 H3 := by rw [← hH3]; exact zaK hfr
  have gD : G1 D = none := k1.gh.free hfr
  have kb : EOk X.K H3 G1 G1 H3 (σ ++ List.replicate k none) (zaL ρ1 ++ List.replicate k none) := by
    have := (k1.beside (a := D) (o := .lst []) gD).more k
    rw [hH3] at this
    exact this
  have tn0 : tn 0 h₁ := T.keep 0 _ _ st2 fun b hb o e => kept b o (old b o e)
  have stat : ∀ {H' : Hp}, (∀ b ∈ fp, H' b = none) -> ∀ b ∈ fp, FpOk (X.blk N2 scope cl P.objs.size { s2 with heap := P } H3 fp) pins H' b := fun hn b hb => by
    obtain ⟨z0, z1, z2, z3, z4, z5⟩ := f3 b hb
    obtain ⟨o, e⟩ := fpo b hb
    refine ⟨hn b hb, Nat.ne_of_lt (Heap.lt_size (old b o e)), fun z => ?_, .inl hb, fun x c q => z4 x c (cl1 x c q), z5⟩
    rcases List.mem_cons.mp (I3.stkSub b z) with q | q
    · exact z1 q
    · exact z2 q
  have loop : codeAny (model X.prog X.w) X.A (.compLoop (.ListComp elt [⟨tg, iter, ifs, 0⟩, ⟨tg1, i1, ifs1, 0⟩] scope pos) 0 (.ref it) (.ref D) (compEnvC scope cl P.objs.size X.env))
      (compPost (model X.prog X.w) X.A X.xe use Qc (.ref D) P.objs.size) { s2 with heap := h₁, toks := s2.toks + ([] : List (Str × Value)).length } := by
    refine zfP (fun n s' => ∃ i σ' H' G' ρ' vs es, n = ds.length - i /\ Inv (X.blk N2 scope cl P.objs.size { s2 with heap := P } H3 fp) pins σ' H' s' /\ tn i s'.heap /\ (∀ b ∈ fp, H' b = none) /\ EOk X.K H' G' G' H' σ' ρ' /\ Same H2 H' /\ Same G1 G' /\
      (∀ a o, H2 a = some o -> G1 a = none -> G' a = none) /\ H' D = some (.lst vs) /\ G' D = none /\ Reps X.K G' vs es /\ zci s t f1 s1' t1' g (ds.drop i) ρ' es = some esF) (hs1 cl P.objs.size) ?_ ds.length
      ⟨0, _, H3, G1, _, [], [], rfl, I4, tn0, fun b hb => (f3 b hb).1, kb, sH, .refl _, fun _ _ _ n => n, by rw [← hH3]; exact zaH, gD, .nil, by rw [List.drop_zero]; exact zl⟩
    rintro n s' ⟨i, σ', H', G', ρ', vs, es, rfl, I', tn', fr', k', sh', sg', np', hD', gD', r', zc⟩
    by_cases hlt : i < ds.length
    · rw [List.drop_eq_getElem_cons hlt, zci] at zc
      cases zs : s ds[i] ρ' with
      | none => rw [zs] at zc; cases zc
      | some ρ2 =>
      rw [zs] at zc
      dsimp only at zc
      cases zt : t ρ2 with
      | bad => rw [zt] at zc; cases zc
      | ok b ρ3 =>
      rw [zt] at zc
      dsimp only at zc
      refine thn (T.item (X.blk N2 scope cl P.objs.size { s2 with heap := P } H3 fp) rfl rfl rfl hc i pins s' σ' H' (fun _ _ => False) I' (stat fr') tn' (its.go i G' H' sg' k'.gh hlt)) fun r s4 ⟨u, hr, h4⟩ => ?_
      subst hr
      refine thn h4 fun _ s5 ⟨x, H5, I5, r5, y5, st5, fr5⟩ => ?_
      obtain ⟨G5, e5, rx⟩ := its.yld i G' H' x H5 ds[i] sg' k'.gh (List.getElem?_eq_getElem hlt) y5
      have k5 := k'.ext e5
      have I5' := I5.pinned (stat fr5) (T.obj _ _ st5)
      obtain ⟨hg, ht, hi1, _⟩ := hblk cl P.objs.size { s2 with heap := P } H3 fp H' G'
      refine thn (hg _ s5 σ' H5 x u (fun σ6 H6 => ∃ G6, EOk X.K H' G' G6 H6 σ6 ρ2) I5' r5 ⟨G5, ρ', ds[i], ρ2, k5, rx, zs, fun σ6 G6 H6 k6 _ => ⟨G6, k6⟩⟩) fun _ s6 ⟨σ6, H6, I6, G6, k6⟩ => ?_
      refine thn (ht _ s6 σ6 H6 (fun c H7 => c = b /\ ∃ G7, EOk X.K H' G' G7 H7 σ6 ρ3) I6 ⟨G6, ρ2, k6, by unfold aft; rw [zt]; exact fun c G7 H7 k7 _ q => ⟨q, G7, k7⟩⟩) fun ok s7 ⟨H7, I7, hb7, G7, k7⟩ => ?_
      subst hb7
      have again : ∀ {H9 : Hp} {s9 : Shared}, Inv (X.blk N2 scope cl P.objs.size { s2 with heap := P } H3 fp) (pins ++ zdJ fp s5.heap) σ6 H9 s9 -> Inv (X.blk N2 scope cl P.objs.size { s2 with heap := P } H3 fp) pins σ6 H9 s9 /\ tn (i + 1) s9.heap /\ ∀ b ∈ fp, H9 b = none := fun {H9 s9} I9 => by
        refine ⟨I9.unpinned, T.keep _ _ _ st5 fun b hb o e => (I9.pin (b, o) (List.mem_append_right _ (List.mem_append_right _ (zbd hb e)))).1, fun b hb => ?_⟩
        obtain ⟨o, e, d⟩ := T.obj _ _ st5 b hb
        exact (I9.pin (b, o) (List.mem_append_right _ (List.mem_append_right _ (zbd hb e)))).2.1
      cases ok with
      | false =>
        rw [if_neg (by decide)] at zc ⊢
        obtain ⟨J1, J2, J3⟩ := again I7
        exact ⟨ds.length - (i + 1), by omega, i + 1, σ6, H7, G7, zaL ρ3, vs, es, rfl, J1, J2, J3, k7.rebase, sh'.trans k7.bh, sg'.trans k7.g0, fun a o q z => k7.np a o (sh' a o q) (np' a o q z), k7.bh _ _ hD', k7.np _ _ hD' gD', r'.mono k7.g0, zc⟩
      | true =>
        rw [if_pos rfl] at zc ⊢
        cases zg : f1 ρ3 with
        | bad => rw [zg] at zc; cases zc
        | ok ds1 ρ4 =>
        rw [zg] at zc
        dsimp only at zc
        cases ze : zcS s1' t1' g ds1 (zaL ρ4) es with
        | none => rw [ze] at zc; cases zc
        | some pr =>
        obtain ⟨es1, ρ5⟩ := pr
        rw [ze] at zc
        dsimp only at zc
        refine thn (hi1 _ s7 σ6 H7 (fun J1 H8 => ∃ G8, EOk X.K H' G' G8 H8 σ6 ρ4 /\ zdh X.K J1 ds1 G8) I7 ⟨G7, ρ3, k7, by rw [zg]; exact fun J1 G8 H8 k8 _ q => ⟨G8, k8, q⟩⟩) fun xv s8 h8 => ?_
        refine thn h8 fun itv s9 h9 => ?_
        obtain ⟨it1, fp1, tn1, J1, H9, rfl, I9, T1, st9, f9, G9, k9, its9⟩ := h9
        have d9 := k9.bh _ _ hD'
        have g9 := k9.np _ _ hD' gD'
        have loop1 : codeAny (model X.prog X.w) X.A (.compLoop (.ListComp elt [⟨tg, iter, ifs, 0⟩, ⟨tg1, i1, ifs1, 0⟩] scope pos) 1 (.ref it1) (.ref D) (compEnvC scope cl P.objs.size X.env))
            (fun r s₆ => match r with | .ok _ => ∃ m, m < ds.length - i /\ ∃ i σ' H' G' ρ' vs es, m = ds.length - i /\ Inv (X.blk N2 scope cl P.objs.size { s2 with heap := P } H3 fp) pins σ' H' s₆ /\ tn i s₆.heap /\ (∀ b ∈ fp, H' b = none) /\ EOk X.K H' G' G' H' σ' ρ' /\ Same H2 H' /\ Same G1 G' /\
      (∀ a o, H2 a = some o -> G1 a = none -> G' a = none) /\ H' D = some (.lst vs) /\ G' D = none /\ Reps X.K G' vs es /\ zci s t f1 s1' t1' g (ds.drop i) ρ' es = some esF | .error _ => False) s9 := by
          refine zi4 (X := X) (N2 := N2) (scope := scope) (cl := cl) (C := P.objs.size) (s₀ := { s2 with heap := P }) (H₀ := H3) (ex := fp) hc (fun B' G' => (hblk cl P.objs.size { s2 with heap := P } H3 fp B' G').2.2.2) I9 T1 st9 f9 k9.rebase its9 d9 g9 (r'.mono k9.g0) ze ?_
          intro σT HT GT vsT sT IT kT shT sgT npT hDT gDT rT
          obtain ⟨J1', J2', J3'⟩ : Inv (X.blk N2 scope cl P.objs.size { s2 with heap := P } H3 fp) pins σT HT sT /\ tn (i + 1) sT.heap /\ ∀ b ∈ fp, HT b = none := by
            refine ⟨IT.unpinned, T.keep _ _ _ st5 fun b hb o e => (IT.pin (b, o) (List.mem_append_right _ (List.mem_append_right _ (zbd hb e)))).1, fun b hb => ?_⟩
            obtain ⟨o, e, d⟩ := T.obj _ _ st5 b hb
            exact (IT.pin (b, o) (List.mem_append_right _ (List.mem_append_right _ (zbd hb e)))).2.1
          have neD : ∀ a o, H2 a = some o -> a ≠ D := fun a o q z => by subst z; rw [hfr] at q; cases q
          exact ⟨ds.length - (i + 1), by omega, i + 1, σT, HT, GT, ρ5, vsT, es1, rfl, J1', J2', J3', kT, fun a o q => shT a o (neD a o q) (k9.bh a o (sh' a o q)), (sg'.trans k9.g0).trans sgT, fun a o q z => npT a o (neD a o q) (k9.bh a o (sh' a o q)) (k9.np a o (sh' a o q) (np' a o q z)), hDT, gDT, rT, zc⟩
        exact zfQ loop1 (T1.self X.A 0 _ _ _ st9 loop1)
    · rw [List.drop_eq_nil_of_le (Nat.le_of_not_lt hlt), zci] at zc
      cases zc
      refine thn (T.done (X.blk N2 scope cl P.objs.size { s2 with heap := P } H3 fp) rfl rfl rfl hc i pins s' σ' H' (fun _ _ => False) I' (stat fr') tn' (its.stop i G' H' sg' k'.gh (Nat.le_of_not_lt hlt))) fun r s4 ⟨hr, I6⟩ => ?_
      subst hr
      obtain ⟨m, hm, _⟩ := id I6.loc
      have I7 : Inv X pins σ H' s4 := I3.call' (ch := fp) I6.os I6.base I6.hok I6.bare fun b hb => ⟨(f3 b hb).2.2.2.1, (f3 b hb).2.1, (f3 b hb).2.2.2.2.1, (f3 b hb).2.2.2.2.2⟩
      refine hfin P.objs.size D vs G' H' s4 m I7 hm I6.free (Nat.ne_of_gt I3.lt) I3.sz (fun x c e z => by obtain ⟨_, q⟩ := I3.cell x c e; exact absurd q.lt (by rw [z]; exact Nat.lt_irrefl _)) (fun p hp z => by have := Heap.lt_size (I3.pin p hp).1; exact absurd this (by rw [z]; exact Nat.lt_irrefl _))
        (k1.ext ⟨sh', sg', k'.gh, np'⟩) (sg1.trans sg') ⟨k1.bh.free hfr, gD', hD', r', fun j es' q z => ?_⟩
      obtain ⟨a', ws, h1', h2', h3', h4', h5'⟩ := k1.own j es' q
      rw [z] at h1'
      cases h1'
      rw [hfr] at h4'; cases h4'
  exact codeAny_compStart_list loop (T.self X.A 0 _ _ _ tn0 loop)
end
end DL
set_option Elab.async false
set_option linter.all false
set_option maxRecDepth 100000
set_option maxHeartbeats 4000000
namespace DL
open PySem PySem.Spec L2
open PyProof.Rows hiding St
def zef (f : M (List D)) (k : Nat) (s : D -> DEnv -> Option DEnv) (t : M Bool) (f1 : M (List D)) (s1' : D -> DEnv -> Option DEnv) (t1' : M Bool) (g : M D) : M (List D) := fun ρ => match f ρ with
  | .bad => .bad
  | .ok ds ρ1 => match zci s t f1 s1' t1' g ds (zaL ρ1 ++ List.replicate k none) [] with
    | none => .bad
    | some es => .ok es ρ1
section
variable {X : Cx} {B G0 : Hp}
theorem zhZ {f : M (List D)} {k : Nat} {s s1' : D -> DEnv -> Option DEnv} {t t1' : M Bool} {f1 : M (List D)} {g : M D} {ρ ρ' : DEnv} {es : List D} (h : zef f k s t f1 s1' t1' g ρ = .ok es ρ') : ∃ ds, f ρ = .ok ds ρ' /\ zci s t f1 s1' t1' g ds (zaL ρ' ++ List.replicate k none) [] = some es := by
  unfold zef at h
  cases zf : f ρ with
  | bad => rw [zf] at h; cases h
  | ok ds ρ1 =>
  rw [zf] at h
  dsimp only at h
  cases zl : zci s t f1 s1' t1' g ds (zaL ρ1 ++ List.replicate k none) [] with
  | none => rw [zl] at h; cases h
  | some esF =>
  rw [zl] at h
  cases h
  exact ⟨ds, rfl, zl⟩
theorem zkL {y : Str} {j : Nat} {py : Pos} {spos : Pos} {tg tg1 elt iter i1 : Expr} {ifs ifs1 : List Expr} {scope : Scope} {pos : Pos} {N2 : List Str} {k : Nat} {f : M (List D)} {s s1' : D -> DEnv -> Option DEnv} {t t1' : M Bool} {f1 : M (List D)} {g : M D} (hN : X.N.Nodup) (hj : X.N[j]? = some y) (hy : X.env.scope.names.lookup y = some .local) (hc : X.calm = true)
    (hi : PI X tg iter (iD X.K B G0 f))
    (hblk : ∀ (cl : List (Str × Addr)) (C : Addr) (s₀ : Shared) (H₀ : Hp) (ex : List Addr) (B' G' : Hp), PG (X.blk N2 scope cl C s₀ H₀ ex) tg (tG X.K B' G' s) /\ PIfs (X.blk N2 scope cl C s₀ H₀ ex) ifs (tBo X.K B' G' t) /\ PI (X.blk N2 scope cl C s₀ H₀ ex) tg1 i1 (iD X.K B' G' f1) /\ PG (X.blk N2 scope cl C s₀ H₀ ex) tg1 (tG X.K B' G' s1') /\ PIfs (X.blk N2 scope cl C s₀ H₀ ex) ifs1 (tBo X.K B' G' t1') /\ PE (X.blk N2 scope cl C s₀ H₀ ex) elt (tD X.K B' G' g))
    (SC : Scope) (N1 : List Str) (h1 : X.env.scope = SC) (h2 : X.N = N1) (hb' : zbz scope.names N1 N2 k = true) (hkind : scope.kind = .function) (hcell : ∀ y ∈ scope.names, y.2 ≠ .cell)
    (hnames : ∀ y ∈ scope.names, y.2 = .local -> scope.names.lookup y.1 = some .local)
    (hfree' : ∀ y ∈ scope.names, y.2 = .free -> SC.names.lookup y.1 = some .cell ∨ SC.names.lookup y.1 = some .free)
    (hs : ∀ x, foldedSetIterable iter X.env x = pure x := by intro _; rfl) (hs1 : ∀ (cl : List (Str × Addr)) (C : Addr) (x : Value), foldedSetIterable i1 (compEnvC scope cl C X.env) x = pure x := by intro _ _ _; rfl)
    (hsw : swapsWith (.ListComp elt [⟨tg, iter, ifs, 0⟩, ⟨tg1, i1, ifs1, 0⟩] scope pos) (some (.Name y py)) spos.line X.env = pure true := by rfl) :
    PS X (.Assign [.Name y py] (.ListComp elt [⟨tg, iter, ifs, 0⟩, ⟨tg1, i1, ifs1, 0⟩] scope pos) spos) (tS X.K B G0 (zbK j (zef f k s t f1 s1' t1' g))) := by
  have hb : zbz scope.names X.N N2 k = true := by rw [h2]; exact hb'
  have hfree : ∀ y ∈ scope.names, y.2 = .free -> X.env.scope.names.lookup y.1 = some .cell ∨ X.env.scope.names.lookup y.1 = some .free := by rw [h1]; exact hfree'
  intro pins s0 σ H Dn I ⟨G, ρ, k0, a⟩
  unfold zbK sB at a
  cases z : zef f k s t f1 s1' t1' g ρ with
  | bad => rw [z] at a; exact a.elim
  | ok es ρ1 =>
  rw [z] at a
  dsimp only at a
  by_cases hl : j < ρ1.length
  · rw [if_pos hl] at a
    obtain ⟨ds, zf, zl⟩ := zhZ z
    rw [exec_Assign_Name_used _ _ _ _ hsw]
    refine wpAny_bind (wpAny_standAt (wpAny_bind ?_))
    show wpAny _ X.A (do let _ ← comprehension (.ListComp elt [⟨tg, iter, ifs, 0⟩, ⟨tg1, i1, ifs1, 0⟩] scope pos) scope X.env _ (newList []) false (eval iter X.env) (some (assign (.Name y py) X.env))) _ _ s0
    refine wpAny_bind (wpAny_mono (zi5 (use := some (assign (.Name y py) X.env)) (Qc := fun _ s' => SP X pins Dn .next s') hc hi hblk hb hkind hcell hnames hfree hs hs1 I k0 zf zl fun C D vs G' H' s4 m I7 hm hC hL hz hcl hp k' s' n => ?_) (fun _ s' hq => wpAny_pure (wpAny_pure hq)) fun _ _ e => e)
    show wpAny _ X.A (assign (.Name y py) X.env (.ref D)) _ _ s4
    refine wpAny_assign_Name (zd4 I7 hN hj (.inl hy) (v := .ref D) rfl (fun s5 I8 ⟨ad, sb, hx⟩ => ?_) (.inr hy))
    have hCa : C ≠ ad := by
      rcases hx with e | e
      · rw [e]; exact hL
      · exact Ne.symm (hcl y ad e)
    refine ⟨m, hm.sameBut sb hCa, fun h' sb' => ⟨_, H', I8.turned (t' := s5.toks) (it := C) (fun b o hb e => (sb'.2 b hb).trans e) hC hL (.inr hz) hcl hp, ?_⟩⟩
    exact a _ G' H' (k'.setOwn n hl) s'
  · rw [if_neg hl] at a; exact a.elim
end
end DL
set_option Elab.async false
set_option linter.all false
set_option maxRecDepth 100000
set_option maxHeartbeats 4000000
namespace DL
open PySem PySem.Spec L2
open PyProof.Rows hiding St
section
variable {X : Cx} {B G0 : Hp} {e o a b c tg : Expr} {pos p2 p3 p4 : Pos} {es rest : List Expr} {te to ti : TE}
theorem zcd : ∀ {ns : List Int} {us : List Value}, Vals (ns.map V.int) us -> PyProof.Rows.IntsAre us ns
  | [], _, .nil => .nil
  | n :: ns, _, .cons h t => by
    obtain ⟨tk, rfl⟩ := h
    exact .cons n tk (zcd t)
def zeg (ns : List Int) : Nat := (PyProof.Rows.firstMet (fun i => ns.getD i 0) ns.length).length
theorem zi6 (hc : X.calm = true) : zc1 X (.type "set") (fun xs H Q => ∃ l, ∃ ns : List Int, xs = [.ref l] /\ SqL X.K H l (ns.map V.int) /\ ns.length + 1 < 4096 /\ ∀ S p, H p = none -> Q (.ref p) (upd H p (.set S (zeg ns)))) := by
  intro pins s σ H xs us Q I rx h
  obtain ⟨l, ns, rfl, hq, hb, q⟩ := h
  obtain ⟨u, rfl, ru⟩ := rx.one
  cases ru
  obtain ⟨its, rv, p, hz⟩ := I.list hq
  have hi := zcd rv
  have hn : its.toArray.size = ns.length := by have := rv.length; rw [List.length_map] at this; simp; omega
  refine call_set_list (I.ok.hd hc) p.isList (ns := ns) (by simpa using hi) (by rw [hn]; exact hb) fun h' tk hS hk => ?_
  rw [hn] at hS
  refine ⟨.ref s.heap.objs.size, _, I.laid (t' := tk) (fun b o e => hk b o (Heap.lt_size e) e) (Nat.le_refl _) (show zct X.prog X.w _ h' _ (.set _ (zeg ns)) from hS), rfl, q _ _ (I.hok.fresh (Nat.le_refl _))⟩
theorem zi7 : zc1 X (.builtin "len") (fun xs H Q => ∃ p S n, xs = [.ref p] /\ H p = some (.set S n) /\ Q (.int n) H) := by
  intro pins s σ H xs us Q I rx h
  obtain ⟨p, S, n, rfl, hp, q⟩ := h
  obtain ⟨u, rfl, ru⟩ := rx.one
  cases ru
  obtain ⟨o, es, ep, t, h1, h2, h3, h4, h5, h6, h7, h8⟩ := (show s.heap.SetOf (intKind X.prog X.w) p S n from I.hok p _ hp)
  have hsb : scanBound = 4096 := rfl
  refine call_len_set h1 h2 h3 h7 (by omega) ?_
  rw [h8]
  exact ⟨.int n, H, I.tok _, ⟨_, rfl⟩, q⟩
def zbX : List D -> Option (List Int)
  | [] => some []
  | .int i :: r => (zbX r).map (i :: ·)
  | _ => none
theorem zbY {K : PySem.W.Frag} {G : Hp} : ∀ {vs : List V} {ds : List D} {ns : List Int}, Reps K G vs ds -> zbX ds = some ns -> vs = ns.map V.int
  | _, _, ns, .nil, e => by cases e; rfl
  | _, _, ns, .cons (d := d) r t, e => by
    cases d with
    | int b =>
      unfold zbX at e
      cases z : zbX _ with
      | none => rw [z] at e; cases e
      | some cs =>
        rw [z] at e
        cases e
        rw [r.int_inv, zbY t z]; rfl
    | _ => cases e
theorem zcc (ns : List Int) : zbX (ns.map PyData.int) = some ns := by
  induction ns with
  | nil => rfl
  | cons b r ih => rw [List.map_cons, zbX, ih]; rfl
def zcA : List D -> Option D
  | [.list ds] => (match zbX ds with
    | some ns => if ns.length + 1 < 4096 then some (.int (zeg ns)) else none
    | none => none)
  | _ => none
theorem zgG {xs : List D} {d : D} (h : zcA xs = some d) : ∃ ds ns, xs = [.list ds] /\ zbX ds = some ns /\ ns.length + 1 < 4096 /\ d = .int (zeg ns) := by
  unfold zcA at h
  split at h
  · rename_i ds
    cases z : zbX ds with
    | none => rw [z] at h; cases h
    | some ns =>
      rw [z] at h
      dsimp only at h
      split at h
      · rename_i c
        cases h
        exact ⟨ds, ns, rfl, z, c, rfl⟩
      · cases h
  · cases h
theorem zi8 : bootBuiltins "set" = some (.type "set") := by decide +kernel
theorem zeK {f : M (List D)} (hc : X.calm = true) (hg : Gl X "len") (hm : X.mg "len" = none) (hg2 : Gl X "set") (hm2 : X.mg "set" = none) (ha : PA X [a] (tDs X.K B G0 f)) (he : starEach [a] X.env = (false, eval a X.env) :: starEach [] X.env := by rfl)
    (he2 : starEach [.Call (.Name "set" p2) [a] [] p3] X.env = (false, eval (.Call (.Name "set" p2) [a] [] p3) X.env) :: starEach [] X.env := by rfl) :
    PE X (.Call (.Name "len" p4) [.Call (.Name "set" p2) [a] [] p3] [] pos) (tD X.K B G0 (zbU zcA f)) :=
  peof (zdX zi7 hg hm boot_len (zcu (zde (zi6 hc) hg2 hm2 zi8 ha (by decide) (by decide) he rfl) zd5 he2) (by decide) (by decide) he2 rfl) fun σ H Q q => tM.one (R := Reps X.K) q fun vs H2 G ρ x k r a => by
    obtain ⟨d, e, a⟩ := a.opt
    obtain ⟨ds, ns, rfl, z, c, rfl⟩ := zgG e
    obtain ⟨v, rfl, q1⟩ := r.one_inv
    obtain ⟨l, ws, rfl, h1, r1⟩ := q1.lst_inv
    have := zbY r1 z
    subst this
    refine ⟨l, ns, rfl, k.gh.seq h1, c, fun S p hp => ⟨p, S, zeg ns, rfl, zaH, ?_⟩⟩
    exact aft.done a k (Ext.hid k.gh hp) (.int _)
end
end DL
set_option Elab.async false
set_option linter.all false
set_option maxRecDepth 100000
set_option maxHeartbeats 4000000
namespace L2
open PySem PySem.Spec PyProof.Rows
section
variable {X : Cx} {tg : Expr}
end
end L2
namespace DL
open PySem PySem.Spec L2
open PyProof.Rows hiding St
section
variable {X : Cx} {B G0 : Hp} {e a b c tg : Expr} {pos : Pos} {es rest : List Expr}
end
end DL
set_option Elab.async false
set_option linter.all false
set_option maxRecDepth 100000
set_option maxHeartbeats 4000000
namespace L2
open PySem PySem.Spec PyProof.Rows
section
variable {prog : Program} {w : World} {A : Around} {E : Value -> Shared -> Prop} {s : Shared} {M : Model} {env : Env}
theorem zms {pos : Pos} {T : String} {args : List (Bool × Sem Value)} {kws : List (Option Str × Sem Value)} {Q : Value -> Shared -> Prop} (hp : args.any (·.1) = false) (hk : kws.any (·.1.isNone) = false)
    (h : wpAny M A (evalArgs (.type T) true args kws) (fun a s1 => wpAny M A (call (.type T) a.pos a.kw) Q E s1) E s) : wpAny M A (callWith pos (.type T) [] args kws) Q E s := by
  unfold callWith
  refine wpAny_bind (wpAny_holding (wpAny_mono h (fun a s1 h1 => wpAny_bind (wpAny_standAt ?_)) fun _ _ z => z))
  simp only [hp, hk, Bool.false_or]
  refine wpAny_bind (wpAny_pure ?_)
  exact wpAny_bind (wpAny_mono h1 (fun r s2 hr => wpAny_bind (wpAny_holding (wpAny_point (wpAny_pure hr)))) fun _ _ z => z)
theorem zkM (l : Addr) (t : Tok) (items : Array Value) (n : Nat) (dct : Option Addr) (sl : Array (Option Value)) :
    Meets (Builtin.«enumerate.__new__» ⟨[.type "enumerate", .ref l], [("start", .int 1 t)]⟩) (fun _ R s => s.heap.get? l = some ⟨.type "list", dct, .seq items n, sl⟩ /\
      R (.ok (.ret (.ref (s.heap.push { cls := .type "list_iterator", data := .fields #[.ref l, .int 0 0] }).objs.size))) { s with heap := (s.heap.push { cls := .type "list_iterator", data := .fields #[.ref l, .int 0 0] }).push { cls := .type "enumerate", data := .fields #[.none, .bool false, .ref s.heap.objs.size, rawInt 1, .none, .none] } }) :=
  .of_wp fun prog w A R s h => by
    obtain ⟨hp, g, d, tk, os⟩ := s
    obtain ⟨hl, h⟩ := h
    have hsub := sub_enumerate
    have hL : Heap.IsList (Shared.heap ⟨hp, g, d, tk, os⟩) l items := ⟨_, hl, rfl, n, rfl⟩
    wp_walk using AutoSeq1.wpAny_loadPart' hl
    refine wpAny_stack_any fun st => (wpAny_pure ?_)
    split
    · rename_i c _ _ _ _ _
      cases (c == Value.type "enumerate") <;> (wp_walk using (AutoSeq1.wpAny_loadPart' hl), (wpAny_pyIter_list hL)) <;> exact ⟨_, rfl, h⟩
    · (wp_walk using (AutoSeq1.wpAny_loadPart' hl), (wpAny_pyIter_list hL)); exact ⟨_, rfl, h⟩
theorem ze8 {T newId initId : String} {Bn Bi : Builtin} {args : List Value} {kw : List (Str × Value)} {S : PySem.Spec} {Q Q1 : Value -> Shared -> Prop} (ft : TypeCalled T newId initId)
    (hct : checkTypeCall T ⟨args, kw⟩ = pure ()) (hcn : checkBuiltinCall newId ⟨.type T :: args, kw⟩ = pure ()) (eN : entryFor table newId = some Bn) (eI : entryFor table initId = some Bi)
    (g : Meets (Bn ⟨.type T :: args, kw⟩) S) (h : S A.in1 (wants Q1 E) s)
    (hnext : ∀ obj s1, Q1 obj s1 -> s1.TypeIs obj T /\ argsOk initId ⟨obj :: args, kw⟩ /\ ∃ Si, Meets (Bi ⟨obj :: args, kw⟩) Si /\ Si A.in1 (wants (fun r s2 => r = .none /\ Q obj s2) E) s1) :
    wpAny (model prog w) A (call (.type T) args kw) Q E s := by
  obtain ⟨c, tl, hmro⟩ := ft.mro
  have hmade := ft.made
  have hsub := ft.sub
  refine wpAny_call (codeAny_of_tree ?_)
  show wpAny _ _ (callAny (.type T) _) _ _ _
  refine wpAny_pure ⟨Code.quiet_builtin _ (by decide +kernel), (codeAny_builtin F.entry_type_call ?_)⟩
  rw [Around.under_plain (weight_type_call_type T args kw) (units_type_call_type T args kw)]
  have h1 := ft.notType
  have h2 := ft.canCreate
  repeat' (any_goals (first | wp_step | assumption))
  refine codeAny_mono (codeAny_call_builtin ft.plain eN (wpAny_of_eq hcn (g prog w A.in1 _ s h))) fun r s1 hr => ?_
  match r, hr with
  | .error e, hr => exact hr
  | .ok (.ret obj), hr =>
    obtain ⟨hT, hok, Si, gi, hsi⟩ := hnext _ _ hr
    have hli := ft.init.lookup
    have hbi := ft.init.bind obj
    repeat' (any_goals (first | wp_step | assumption))
    refine codeAny_mono (codeAny_call_builtin ft.init.plain eI (ft.init.check _ _ _ _ _ _ _ _ hT hok (gi prog w A.in1 _ s1 hsi))) fun r2 s2 hr2 => ?_
    match r2, hr2 with
    | .error e, hr2 => exact hr2
    | .ok (.ret r), hr2 =>
      obtain ⟨rfl, hq⟩ := hr2
      repeat' (any_goals (first | wp_step | assumption))
    | .ok .next, hr2 => exact hr2.elim
    | .ok .brk, hr2 => exact hr2.elim
    | .ok .cont, hr2 => exact hr2.elim
  | .ok .next, hr => exact hr.elim
  | .ok .brk, hr => exact hr.elim
  | .ok .cont, hr => exact hr.elim
theorem zgH {T newId : String} {self : Value} {rest : List Value} {kw : List (Str × Value)} (hl : typeLookup (.type T) "__init__" = pure (some (.builtin "object.__init__")))
    (hm : Bind.madeBy (.type T) = pure (some newId)) (hne : (some newId != some "object.__new__") = true) :
    Meets (Builtin.«object.__init__» ⟨self :: rest, kw⟩) (fun _ R s => s.TypeIs self T /\ R (.ok (.ret .none)) s) := by
  refine .of_wp fun prog w A R s hs => ?_
  obtain ⟨hT, hq⟩ := hs
  cases rest with
  | nil =>
    cases kw with
    | nil => exact wpAny_pure ⟨_, rfl, hq⟩
    | cons k kw => (repeat' (any_goals (first | wp_step | assumption))); exact ⟨_, rfl, hq⟩
  | cons a rest => (repeat' (any_goals (first | wp_step | assumption))); exact ⟨_, rfl, hq⟩
theorem zgI (a : Value) (t : Tok) : checkTypeCall "enumerate" ⟨[a], [("start", .int 1 t)]⟩ = pure () := by kernel_rfl
theorem zh0 (a : Value) (t : Tok) : checkBuiltinCall "enumerate.__new__" ⟨[.type "enumerate", a], [("start", .int 1 t)]⟩ = pure () := by kernel_rfl
theorem zgJ (o a : Value) (t : Tok) : argsOk "object.__init__" ⟨[o, a], [("start", .int 1 t)]⟩ := by unfold argsOk; kernel_rfl
theorem zh1 {l : Addr} {items : Array Value} {t : Tok} {Q : Value -> Shared -> Prop} (hL : s.heap.IsList l items)
    (h : ∀ h', IsEnum h' (s.heap.objs.size + 1) s.heap.objs.size 1 .none -> h'.IsListIter s.heap.objs.size l 0 -> (∀ b o, s.heap.get? b = some o -> h'.get? b = some o) -> Q (.ref (s.heap.objs.size + 1)) { s with heap := h' }) :
    wpAny (model prog w) A (call (.type "enumerate") [.ref l] [("start", .int 1 t)]) Q E s := by
  obtain ⟨⟨c, dct, dt, sl⟩, hl, hc, n, hd⟩ := hL
  replace hc : c = .type "list" := hc
  replace hd : dt = .seq items n := hd
  subst hc hd
  have hz : (s.heap.push { cls := .type "list_iterator", data := .fields #[.ref l, .int 0 0] }).objs.size = s.heap.objs.size + 1 := Heap.size_push ..
  have he : IsEnum ((s.heap.push { cls := .type "list_iterator", data := .fields #[.ref l, .int 0 0] }).push { cls := .type "enumerate", data := .fields #[.none, .bool false, .ref s.heap.objs.size, rawInt 1, .none, .none] }) (s.heap.objs.size + 1) s.heap.objs.size 1 .none := by
    rw [← hz]; exact Heap.get?_push_size _ rfl
  refine ze8 F.called_enumerate (zgI _ t) (zh0 _ t) F.entry_enumerate_new F.entry_object_init (zkM l t items n dct sl) (Q1 := fun obj s1 => s1.TypeIs obj "enumerate" /\ Q obj s1) ⟨hl, ?_⟩ fun obj s1 hq =>
    ⟨hq.1, zgJ obj _ t, _, zgH F.called_enumerate.init.lookup F.called_enumerate.made (by decide), hq.1, rfl, hq.2⟩
  show _ /\ _
  rw [hz]
  exact ⟨⟨_, he, rfl⟩, h _ he ⟨_, Heap.get?_push_of_some _ (Heap.get?_push_size _ rfl), rfl, rfl⟩ fun b o x => Heap.get?_push_of_some _ (Heap.get?_push_of_some _ x)⟩
end
end L2
set_option Elab.async false
set_option linter.all false
set_option maxRecDepth 100000
set_option maxHeartbeats 4000000
namespace L2
open PySem PySem.Spec PyProof.Rows
section
variable {prog : Program} {w : World} {A : Around} {E : Value -> Shared -> Prop} {s : Shared}
theorem zi9 {en it l : Addr} {i : Nat} {j : Int} {items : Array Value} {x old : Value} {Q : Option Value -> Shared -> Prop} (st : IsEnum s.heap en it j old) (li : s.heap.IsListIter it l i) (ls : s.heap.IsList l items)
    (at_ : items[i]? = some x) (ne : en ≠ it)
    (k : ∀ h', IsEnumOut h' en it (j + 1) x s.heap.objs.size -> h'.IsListIter it l (i + 1) -> h'.get? s.heap.objs.size = some { cls := .type "tuple", data := .seq #[.int j s.toks, x] } -> (∀ b o, b ≠ en -> b ≠ it -> s.heap.get? b = some o -> h'.get? b = some o) ->
      Q (some (.ref s.heap.objs.size)) { s with heap := h', toks := s.toks + 1 }) : wpAny (model prog w) A (pyNext (.ref en)) Q E s := by
  have ty : s.TypeIs (.ref en) "enumerate" := ⟨_, st, rfl⟩
  have lt : en < s.heap.objs.size := Heap.lt_size st
  unfold pyNext
  refine wpAny_bind (wpAny_attempt (wpAny_callSpecial?_slot (name := Str.ofString "__next__") ty F.slot_enumerate_next (wpAny_call_entry F.slot_enumerate_next ty F.entry_enumerate_next ?_ (F.args_enumerate_next_1 _))))
  show wpAny _ _ (field (.ref en) 2 >>= _) _ _ s
  refine wpAny_bind (wpAny_field st rfl (x := .ref it) rfl ?_)
  refine wpAny_bind (wpAny_nextOf_list_item li ls at_ fun m1 li1 c1 => ?_)
  have c1 : Heap.SameBut it s.heap m1 := c1
  have st1 : IsEnum m1 en it j old := (c1.2 en ne).trans st
  show wpAny _ _ (field (.ref en) 3 >>= _) _ _ { s with heap := m1 }
  refine wpAny_bind (wpAny_field st1 rfl (x := rawInt j) rfl ?_)
  show wpAny _ _ (field (.ref en) 4 >>= _) _ _ { s with heap := m1 }
  refine wpAny_bind (wpAny_field st1 rfl (x := .none) rfl ?_)
  show wpAny _ _ (mkInt j >>= _) _ _ { s with heap := m1 }
  refine wpAny_bind (wpAny_mkInt ?_)
  show wpAny _ _ (setField (.ref en) 3 (rawInt (j + 1)) >>= _) _ _ { s with heap := m1, toks := s.toks + 1 }
  refine wpAny_bind (wpAny_setField_rec st1 (by simp) fun m2 st2 c2 => ?_)
  have c2 : Heap.SameBut en m1 m2 := c2
  have st2 : IsEnum m2 en it (j + 1) old := st2
  show wpAny _ _ (setField (.ref en) 4 .none >>= _) _ _ { s with heap := m2, toks := s.toks + 1 }
  refine wpAny_bind (wpAny_setField_rec st2 (by simp) fun m3 st3 c3 => ?_)
  have c3 : Heap.SameBut en m2 m3 := c3
  have st3 : IsEnum m3 en it (j + 1) old := st3
  show wpAny _ _ (newTuple [.int j s.toks, x] >>= _) _ _ { s with heap := m3, toks := s.toks + 1 }
  refine wpAny_bind (wpAny_newTuple ?_)
  have z3 : m3.objs.size = s.heap.objs.size := c3.1.trans (c2.1.trans c1.1)
  have st4 : IsEnum (m3.push { cls := .type "tuple", data := .seq #[.int j s.toks, x] }) en it (j + 1) old := Heap.get?_push_of_some _ (show IsEnum m3 en it (j + 1) old from st3)
  have tp4 : (m3.push { cls := .type "tuple", data := .seq #[.int j s.toks, x] }).get? s.heap.objs.size = some { cls := .type "tuple", data := .seq #[.int j s.toks, x] } := by rw [← z3]; exact Heap.get?_push_size _ rfl
  have kp4 : ∀ b o, b ≠ en -> b ≠ it -> s.heap.get? b = some o -> (m3.push { cls := .type "tuple", data := .seq #[.int j s.toks, x] }).get? b = some o := fun b o n1 n2 q => Heap.get?_push_of_some _ ((c3.2 b n1).trans ((c2.2 b n1).trans ((c1.2 b n2).trans q)))
  have li4 : (m3.push { cls := .type "tuple", data := .seq #[.int j s.toks, x] }).IsListIter it l (i + 1) := by
    obtain ⟨o, q, r⟩ := li1
    exact ⟨o, Heap.get?_push_of_some _ ((c3.2 it (Ne.symm ne)).trans ((c2.2 it (Ne.symm ne)).trans q)), r⟩
  generalize m3.push { cls := .type "tuple", data := .seq #[.int j s.toks, x] } = m4 at st4 tp4 kp4 li4
  show wpAny _ _ (Builtin.SmallTypes.ownedTupleIsFree (.ref en) >>= _) _ _ { s with heap := m4, toks := s.toks + 1 }
  rw [z3]
  refine wpAny_bind ?_
  unfold Builtin.SmallTypes.ownedTupleIsFree Builtin.SmallTypes.ownedTupleHandOut
  refine wpAny_bind (wpAny_field st4 rfl (x := .none) rfl (wpAny_pure ?_))
  simp only [if_true]
  refine wpAny_bind (wpAny_rule (wpAny_bind (wpAny_field st4 rfl (x := old) rfl (wpAny_bind (wpAny_setField_rec st4 (by simp) fun m5 st5 c5 => ?_)))))
  have c5 : Heap.SameBut en m4 m5 := c5
  have st5 : IsEnum m5 en it (j + 1) x := st5
  refine wpAny_bind (wpAny_bind (wpAny_setField_rec st5 (by simp) fun m6 st6 c6 => ?_))
  have c6 : Heap.SameBut en m5 m6 := c6
  have st6 : IsEnumOut m6 en it (j + 1) x s.heap.objs.size := st6
  refine wpAny_setField_rec st6 (by simp) fun m7 st7 c7 => ?_
  have c7 : Heap.SameBut en m6 m7 := c7
  have st7 : IsEnumOut m7 en it (j + 1) x s.heap.objs.size := st7
  have up : ∀ b, b ≠ en -> m7.get? b = m4.get? b := fun b n => (c7.2 b n).trans ((c6.2 b n).trans (c5.2 b n))
  refine wpAny_bind (wpAny_letGo (wpAny_pure ⟨_, rfl, wpAny_pure (k m7 st7 ?_ ((up _ (Nat.ne_of_gt lt)).trans tp4) fun b o n1 n2 q => (up b n1).trans (kp4 b o n1 n2 q))⟩))
  obtain ⟨o, q, r⟩ := li4
  exact ⟨o, (up it (Ne.symm ne)).trans q, r⟩
theorem zja {en it l : Addr} {i : Nat} {j : Int} {items : Array Value} {old : Value} {Q : Option Value -> Shared -> Prop} (hh : A.handled = none) (st : IsEnum s.heap en it j old) (li : s.heap.IsListIter it l i) (ls : s.heap.IsList l items)
    (at_ : items[i]? = none) (k : ∀ h', Heap.ExtBut it s.heap h' -> Q none { s with heap := h' }) : wpAny (model prog w) A (pyNext (.ref en)) Q E s := by
  have ty : s.TypeIs (.ref en) "enumerate" := ⟨_, st, rfl⟩
  unfold pyNext
  refine wpAny_bind (wpAny_attempt (wpAny_callSpecial?_slot (name := Str.ofString "__next__") ty F.slot_enumerate_next (wpAny_call_entry F.slot_enumerate_next ty F.entry_enumerate_next ?_ (F.args_enumerate_next_1 _))))
  show wpAny _ _ (field (.ref en) 2 >>= _) _ _ s
  refine wpAny_bind (wpAny_field st rfl (x := .ref it) rfl (wpAny_bind (m := Builtin.SmallTypes.nextOf (.ref it)) (wpAny_nextOf_list_end hh li ls at_ fun h' z c y => ?_)))
  obtain ⟨o, q, t⟩ := y
  exact wpAny_bind (wpAny_isInstance (T := "StopIteration") (b := true) ⟨o, q, t⟩ isSubtype_stop (wpAny_pure (k _ c)))
end
end L2
set_option Elab.async false
set_option linter.all false
set_option maxRecDepth 100000
set_option maxHeartbeats 4000000
namespace L2
open PySem PySem.Spec PyProof.Rows
def Ite1 (K : PySem.W.Frag) (a : Addr) : It :=
  ⟨fun i H => ∃ xs x, SqL K H a xs /\ xs[i]? = some x,
   fun i H v H' => ∃ p x, H p = none /\ v = .ref p /\ (∀ xs, SqL K H a xs -> xs[i]? = some x) /\ H' = upd H p (.tup [.int (1 + (i : Int)), x]),
   fun i H => ∃ xs, SqL K H a xs /\ xs.length <= i⟩
theorem zh2 {P : Program} {w : World} {K : PySem.W.Frag} {elts : List Expr} {x1} {tp : Pos} (a e it : Addr) (hne : e ≠ it) :
    Turn P w K (.Tuple elts x1 tp) (Ite1 K a) [e, it] e (fun i h => (∃ old, IsEnum h e it (1 + (i : Int)) old) /\ h.IsListIter it a i) where
  mem := by simp
  obj := fun i h st b hb => by
    obtain ⟨⟨old, he⟩, o, ho, c, d⟩ := st
    have hb' : b = e ∨ b = it := by simpa using hb
    rcases hb' with rfl | rfl
    · exact ⟨_, he, fun v z => by
        have z' : Data.fields _ = Data.cell v := z
        cases z'⟩
    · exact ⟨o, ho, fun v z => by rw [d] at z; cases z⟩
  keep := fun i h h' st k => by
    obtain ⟨⟨old, he⟩, hi⟩ := st
    exact ⟨⟨old, k e (by simp) _ he⟩, hi.at fun o q => k it (by simp) o q⟩
  item := by
    intro X hP hw hK hc i pins s σ H E I hf st hg
    subst hP hw hK
    obtain ⟨⟨old, he⟩, hi⟩ := st
    obtain ⟨xs, x, hq, hx⟩ := hg
    obtain ⟨its, rv, p, hz⟩ := I.list hq
    obtain ⟨u, hu, ru⟩ := rv.get hx
    refine zi9 he hi p.isList (x := u) (by simpa using hu) hne fun h1 out hi1 ht kk => ?_
    refine ⟨_, rfl, wpAny_letOwnedTupleGo_enum out fun h2 he2 hs2 => ?_⟩
    have hel : e < s.heap.objs.size := Heap.lt_size he
    have hs2' : Heap.SameBut e h1 h2 := hs2
    have ht2 : h2.get? s.heap.objs.size = some { cls := .type "tuple", data := .seq #[.int (1 + (i : Int)) s.toks, u] } := (hs2'.2 _ (Nat.ne_of_gt hel)).trans ht
    have kk2 : ∀ b o, b ∉ [e, it] -> s.heap.get? b = some o -> h2.get? b = some o := fun b o hb q => by
      have hbe : b ≠ e := fun z => hb (by simp [z])
      have hbi : b ≠ it := fun z => hb (by simp [z])
      exact (hs2'.2 b hbe).trans (kk b o hbe hbi q)
    have hn : H s.heap.objs.size = none := I.hok.fresh (Nat.le_refl _)
    have I2 : Inv X pins σ (upd H s.heap.objs.size (.tup [.int (1 + (i : Int)), x])) { s with heap := h2, toks := s.toks + 1 } :=
      I.turnedNew (fp := [e, it]) hf kk2 (Nat.le_refl _) ⟨by show 2 <= sizeLine; decide, [.int (1 + (i : Int)) s.toks, u], .cons ⟨_, rfl⟩ (.cons ru .nil), ⟨_, ht2, rfl, _, rfl⟩⟩
    refine ⟨.ref s.heap.objs.size, _, I2, rfl, ⟨_, x, hn, rfl, fun ys hy => by rw [I.list_inj hy hq]; exact hx, rfl⟩, ⟨⟨u, ?_⟩, ?_⟩, fun b hb => ?_⟩
    · have e2 : (1 + ((i + 1 : Nat) : Int)) = 1 + (i : Int) + 1 := by omega
      rw [e2]; exact he2
    · exact hi1.at fun o q => (hs2'.2 it (Ne.symm hne)).trans q
    · have hlt : b < s.heap.objs.size := by
        have hb' : b = e ∨ b = it := by simpa using hb
        rcases hb' with rfl | rfl
        · exact hel
        · obtain ⟨o, ho, _⟩ := hi; exact Heap.lt_size ho
      rw [zaM (Nat.ne_of_lt hlt)]
      exact (hf b hb).1
  done := by
    intro X hP hw hK hc i pins s σ H E I hf st hg
    subst hP hw hK
    obtain ⟨⟨old, he⟩, hi⟩ := st
    obtain ⟨xs, hq, hx⟩ := hg
    obtain ⟨its, rv, p, hz⟩ := I.list hq
    have hl := rv.length
    exact zja (I.ok.hd hc) he hi p.isList (by simp; omega) fun h' eb => ⟨rfl, I.turnedL (t' := s.toks) hf fun b o hb q => eb b o (fun z => hb (by simp [z])) q⟩
  self := fun _ _ _ _ _ st h => by
    obtain ⟨⟨old, he⟩, _⟩ := st
    exact wpAny_pyIter_enum he h
section
variable {X : Cx}
theorem zkN {a : Expr} {ta : TA} {p pos k1 k2 : Pos} {j} {elts : List Expr} {x1} {tp : Pos} (hg : Gl X "enumerate") (hm : X.mg "enumerate" = none) (ha : PA X [a] ta)
    (hs : backTo pos (starEach [a] X.env) = (false, eval a X.env) :: backTo pos (starEach [] X.env) := by rfl) (hpl : (backTo pos (starEach [a] X.env)).any (·.1) = false := by rfl) :
    PI X (.Tuple elts x1 tp) (.Call (.Name "enumerate" p) [a] [⟨some "start", .Constant (.int 1) j k1, k2⟩] pos) (fun σ H R => ta σ H fun vs H1 => ∃ a xs, vs = [.ref a] /\ SqL X.K H1 a xs /\ R (Ite1 X.K a) H1) := by
  intro pins s σ H R I h
  refine wpAny_Call_Name_kw (zdI I hg hm boot_enumerate (zms hpl rfl ?_))
  rw [hs]
  refine evalArgs_kwB rfl ?_
  rw [← hs]
  refine thn (ha pos pins s σ H _ I h) fun us s1 ⟨vs, H1, I1, r1, q1⟩ => ?_
  refine kws_cons (wpAny_Constant_int (kws_nil ?_))
  obtain ⟨l, xs, e, hq, q⟩ := q1
  subst e
  cases r1 with
  | cons r rr =>
    cases rr
    cases (show _ = Value.ref l from r)
    have I1' := I1.tok (s1.toks + 1)
    obtain ⟨its, rv, pl, hz⟩ := I1'.list hq
    refine zh1 pl.isList fun h' he hi kk => ?_
    have I2 : Inv X pins σ H1 { s1 with heap := h', toks := s1.toks + 1 } := I1'.kept (t' := s1.toks + 1) kk
    refine wpAny_pyIter_enum he ?_
    refine ⟨s1.heap.objs.size + 1, [s1.heap.objs.size + 1, s1.heap.objs.size], _, _, H1, rfl, I2, zh2 l _ _ (Nat.succ_ne_self _), ⟨⟨_, he⟩, hi⟩, fun b hb => ?_, q⟩
    have hb' : b = s1.heap.objs.size + 1 ∨ b = s1.heap.objs.size := by simpa using hb
    rcases hb' with rfl | rfl
    · exact I1.fpOk (Nat.le_succ _) (I1.hok.fresh (Nat.le_succ _))
    · exact I1.fpOk (Nat.le_refl _) (I1.hok.fresh (Nat.le_refl _))
end
end L2
namespace DL
open PySem PySem.Spec L2
open PyProof.Rows hiding St
section
variable {X : Cx} {B G0 : Hp} {e a b c tg : Expr} {pos : Pos} {es rest : List Expr}
theorem zgK {K : PySem.W.Frag} {G1 : Hp} {ad : Addr} {vs : List V} {ds : List D} (h : SqL K G1 ad vs) (r : Reps K G1 vs ds) : zdh K (Ite1 K ad) (zc4 1 ds) G1 where
  go := fun i G H s1 s2 hi => by
    rw [zaW] at hi
    have hi' : i < vs.length := by rw [r.length]; exact hi
    exact ⟨vs, vs[i], (s1.trans s2).seq h, List.getElem?_eq_getElem hi'⟩
  stop := fun i G H s1 s2 hi => by
    rw [zaW] at hi
    exact ⟨vs, (s1.trans s2).seq h, by rw [r.length]; exact hi⟩
  yld := fun i G H x H' d s1 s2 e y => by
    obtain ⟨p, v, hp, rfl, y1, rfl⟩ := y
    have z1 := y1 vs ((s1.trans s2).seq h)
    rw [zeb] at e
    cases q : ds[i]? with
    | none => rw [q] at e; cases e
    | some dd =>
      rw [q] at e
      cases e
      obtain ⟨v', e1, r1⟩ := r.get q
      rw [z1] at e1
      cases e1
      refine ⟨upd G p (.tup [.int (1 + (i : Int)), v]), Ext.new s2 hp, .tup (SqT.of zaH) (.cons ?_ (.cons ((r1.mono s1).mono (zaK (s2.free hp))) .nil))⟩
      have : ((1 + i : Nat) : Int) = 1 + (i : Int) := by omega
      rw [this]
      exact .int _
def zeL : List D -> Option (List D)
  | [.list ds] => some (zc4 1 ds)
  | _ => none
def zhr (f : M (List D)) : M (List D) := zas f fun x => mOpt (zeL x)
theorem zh3 {x l : List D} (h : zeL x = some l) : ∃ ds, x = [.list ds] /\ l = zc4 1 ds := by
  unfold zeL at h
  split at h
  · cases h; exact ⟨_, rfl, rfl⟩
  · cases h
theorem zkO {f : M (List D)} {p2 k1 k2 : Pos} {j} {elts : List Expr} {x1} {tp : Pos} (hg : Gl X "enumerate") (hm : X.mg "enumerate" = none) (ha : PA X [a] (tDs X.K B G0 f))
    (hs : backTo pos (starEach [a] X.env) = (false, eval a X.env) :: backTo pos (starEach [] X.env) := by rfl) (hpl : (backTo pos (starEach [a] X.env)).any (·.1) = false := by rfl) :
    PI X (.Tuple elts x1 tp) (.Call (.Name "enumerate" p2) [a] [⟨some "start", .Constant (.int 1) j k1, k2⟩] pos) (iD X.K B G0 (zhr f)) := piof (zkN hg hm ha hs hpl) fun σ H R q => tM.toI (R0 := Reps X.K) q fun v H' G' ρ' x k r a => by
  cases z : zeL x with
  | none => rw [z] at a; exact a.elim
  | some l =>
    rw [z] at a
    obtain ⟨ds, rfl, rfl⟩ := zh3 z
    obtain ⟨v, rfl, q⟩ := r.one_inv
    obtain ⟨l, ws, rfl, h1, r1⟩ := q.lst_inv
    exact ⟨l, ws, rfl, k.gh.seq h1, a _ G' H' k (.refl _) (zgK h1 r1)⟩
end
end DL
set_option Elab.async false
set_option linter.all false
set_option maxRecDepth 100000
set_option maxHeartbeats 4000000
namespace DL
open PySem PySem.Spec L2
open PyProof.Rows hiding St
section
variable {X : Cx}
def most : List Int -> Int
  | [] => 0
  | [n] => n
  | n :: r => if most r > n then most r else n
theorem zdZ : ∀ {ns : List Int}, 0 < ns.length -> most ns ∈ ns
  | [n], _ => List.mem_singleton.2 rfl
  | n :: m :: r, _ => by
    have ih := zdZ (ns := m :: r) (Nat.succ_pos _)
    unfold most
    split
    · exact List.mem_cons_of_mem _ ih
    · exact List.mem_cons_self ..
theorem zgL : ∀ {ns : List Int} {a : Int}, a ∈ ns -> a <= most ns
  | [n], a, h => by rw [List.mem_singleton.1 h]; exact Int.le_refl _
  | n :: m :: r, a, h => by
    have ih : ∀ b, b ∈ m :: r -> b <= most (m :: r) := fun b hb => zgL hb
    unfold most
    rcases List.mem_cons.1 h with e | h
    · subst e; split <;> omega
    · have := ih a h; split <;> omega
theorem zmt {ns : List Int} {M : Int} (h1 : M ∈ ns) (h2 : ∀ a, a ∈ ns -> a <= M) : most ns = M :=
  Int.le_antisymm (h2 _ (zdZ (List.length_pos_of_mem h1))) (zgL h1)
theorem zjb (hc : X.calm = true) : zc1 X (.builtin "max") (fun xs H Q => ∃ l, ∃ ns : List Int, xs = [.ref l] /\ SqL X.K H l (ns.map V.int) /\ 0 < ns.length /\ Q (.int (most ns)) H) := by
  intro pins s σ H xs us Q I rx h
  obtain ⟨l, ns, rfl, hq, hb, q⟩ := h
  obtain ⟨u, rfl, ru⟩ := rx.one
  cases ru
  obtain ⟨its, rv, p, hz⟩ := I.list hq
  have hi := zcd rv
  obtain ⟨ys, e⟩ := hi.allInts.items
  have hns : ns = ys.toList.map (·.1) := by
    rw [← hi.numsOf, ← nums_intItems, ← e]
  have hsz : 0 < ys.size := by
    rw [hns, List.length_map, Array.length_toList] at hb; exact hb
  have hl := p.isList
  rw [e] at hl
  refine max_intList (I.ok.hd hc) hl hsz fun v h' tk hv hk => ?_
  obtain ⟨t, rfl⟩ := intItems_at hv
  obtain ⟨h1, h2⟩ := argBest_gt (numAt ys) (ys.size - 1)
  refine ⟨.int (most ns), H, I.kept hk, ⟨t, ?_⟩, q⟩
  rw [zmt (M := _) ?_ ?_]
  · rw [hns, numAt_eq]; exact getD_mem (by rw [List.length_map, Array.length_toList]; omega)
  · intro a ha
    rw [hns] at ha
    obtain ⟨j, hj, rfl⟩ := mem_getD ha
    rw [List.length_map, Array.length_toList] at hj
    rw [← numAt_eq]; exact h2 j (by omega)
def zgM : List D -> Option D
  | [.list ds] => (match zbX ds with
    | some ns => if 0 < ns.length then some (.int (most ns)) else none
    | none => none)
  | _ => none
theorem zjc {xs : List D} {d : D} (h : zgM xs = some d) : ∃ ds ns, xs = [.list ds] /\ zbX ds = some ns /\ 0 < ns.length /\ d = .int (most ns) := by
  unfold zgM at h
  split at h
  · rename_i ds
    cases z : zbX ds with
    | none => rw [z] at h; cases h
    | some ns =>
      rw [z] at h
      dsimp only at h
      split at h
      · rename_i c
        cases h
        exact ⟨ds, ns, rfl, z, c, rfl⟩
      · cases h
  · cases h
theorem zlM (hc : X.calm = true) : zc3 X (.builtin "max") zgM := by
  refine ⟨_, zjb hc, fun vs G H ds d Q s r e k => ?_⟩
  obtain ⟨ds, ns, rfl, z, c, rfl⟩ := zjc e
  obtain ⟨v, rfl, q1⟩ := r.one_inv
  obtain ⟨l, ws, rfl, h1, r1⟩ := q1.lst_inv
  have := zbY r1 z
  subst this
  exact ⟨l, ns, rfl, s.seq h1, c, k _ G H (.refl s) (.int _)⟩
theorem zhs {ns : List Int} (h : 0 < ns.length) : zgM [.list (ns.map .int)] = some (.int (most ns)) := by
  unfold zgM
  simp only [zcc, if_pos h]
end
end DL
set_option Elab.async false
set_option linter.all false
set_option maxRecDepth 100000
set_option maxHeartbeats 4000000
namespace DL
open PySem PySem.Spec L2
open PyProof.Rows hiding St
section
variable {X : Cx} {B G0 : Hp} {e o : Expr} {es : List Expr}
theorem zgN {h : Heap} {vs : List Value} {xs : List D} {as : List Addr} {d : D} (rs : ReadsAll h vs xs as) (hxs : PyData.canLayAll0 xs = true) :
    vs.countP (fun y => PyData.eqv (SeqAt.readOf h y) d) = xs.countP (fun y => PyData.eqv y d) := by
  have key : xs = vs.map (SeqAt.readOf h) := (SeqAt.readsAll_map xs vs as hxs rs).symm
  rw [key, List.countP_map]
  rfl
def zcB (y x : D) : Option D := match y with
  | .list ds => if x.canLay0 = true /\ PyData.canLayAll0 ds = true /\ x.depth <= 60 then some (.int (ds.countP fun y => PyData.eqv y x)) else none
  | _ => none
theorem zkP (hu : X.A.units + 64 < cLine) : MtR X "list.count" (fun v vs H Q => ∃ G u y x d, vs = [u] /\ Same G H /\ Rep X.K G v y /\ Rep X.K G u x /\ zcB y x = some (.int d) /\ Q (.int d) H) := by
  intro pins s σ H x xs v us Q I rx rs h
  obtain ⟨G, u, dy, dx, d, rfl, sg, py, px, e, q⟩ := h
  obtain ⟨w, rfl, rw'⟩ := rs.one
  unfold zcB at e
  split at e
  · rename_i ds
    split at e
    · rename_i c
      obtain ⟨bs, rb⟩ := zbl I sg py rx (show PyData.canLayAll0 _ = true from c.2.1)
      obtain ⟨as, ra⟩ := zbl I sg px rw' c.1
      cases rb with
      | list h1 h2 h3 h4 =>
        rename_i l ob its cs n
        obtain ⟨cls, dd, data, sl⟩ := ob
        simp only at h2 h3
        subst h2 h3
        refine call_meets F.slot_list_count ⟨_, h1, rfl⟩ F.entry_list_count (F.args_list_count_2 _ _) (SeqAt.list_countAt _ _ _ dd sl _ (fun y => PyData.eqv (SeqAt.readOf s.heap y) dx)) ⟨h1, SeqAt.items_eqAt h4 ra c.2.1 c.1 (by have := c.2.2; omega), ?_⟩
        rw [zgN h4 c.2.1]
        cases e
        exact ⟨.int _, H, I.tok _, ⟨_, rfl⟩, q⟩
    · cases e
  · cases e
def ze9 (y : D) (xs : List D) : Option D := match xs with
  | [x] => zcB y x
  | _ => none
theorem zgO {ds xs : List D} {d : D} (h : ze9 (.list ds) xs = some d) : ∃ x n, xs = [x] /\ d = .int n /\ zcB (.list ds) x = some (.int n) := by
  unfold ze9 at h
  split at h
  · rename_i x
    have h' := h
    unfold zcB at h
    dsimp only at h
    split at h
    · cases h; exact ⟨x, _, rfl, rfl, h'⟩
    · cases h
  · cases h
def zeh (f : M D) (g : M (List D)) : M D := zas f fun y => zas g fun xs => mOpt (match y with | .list ds => ze9 (.list ds) xs | _ => none)
theorem zei {apos cpos : Pos} {f : M D} {g : M (List D)} (hu : X.A.units + 64 < cLine) (ho : PE X o (tD X.K B G0 f)) (ha : PA X (e :: es) (tDs X.K B G0 g))
    (hbase : attributeBase o "count" X.env (eval o X.env) = eval o X.env := by rfl)
    (hfew : ((backTo cpos (starEach (e :: es) X.env)).all (fun x => !x.1) && (backToKw cpos (keywordEach [] X.env)).all (fun x => x.1.isSome)
      && decide ((e :: es).length + ([] : List Keyword).length + (if ([] : List Keyword).isEmpty then 0 else 1) < 30)) = true := by rfl)
    (hline : (apos.endLine == cpos.line) = true := by rfl) (hs : starEach (e :: es) X.env = (false, eval e X.env) :: starEach es X.env := by rfl) (hplain : (backTo cpos (starEach es X.env)).any (·.1) = false := by rfl) :
    PE X (.Call (.Attribute o "count" apos) (e :: es) [] cpos) (tD X.K B G0 (zeh f g)) :=
  peof (znT F.plainAttrs_list F.slot_list_count F.type_list_count (zkP hu) ho ha hbase hfew hline hs hplain) fun σ H Q q => by
    refine tM.one (R := Rep X.K) q fun v H2 G ρ y k r a => ?_
    cases y with
    | list ds =>
      obtain ⟨l, ws, rfl, h1, r1⟩ := r.lst_inv
      refine ⟨.inl ⟨rfl, ws, k.gh.seq h1⟩, ?_⟩
      refine tM.nx (R := Reps X.K) k a fun xs H3 G3 ρ3 es k3 s3 r3 a3 => ?_
      obtain ⟨d, e, a3⟩ := a3.opt
      obtain ⟨x, n, rfl, rfl, e'⟩ := zgO e
      obtain ⟨u, rfl, ru⟩ := r3.one_inv
      exact ⟨G3, u, .list ds, x, n, rfl, k3.gh, r.mono s3, ru, e', aft.now a3 k3 (.int _)⟩
    | _ =>
      unfold zas at a
      cases z : g ρ with
      | bad => rw [z] at a; exact a.elim
      | ok xs ρ1 => rw [z] at a; exact a.elim
theorem zd0 {f : M D} {g : M (List D)} {ρ ρ1 ρ2 : DEnv} {ds : List D} {x d : D} (h1 : f ρ = .ok (.list ds) ρ1) (h2 : g ρ1 = .ok [x] ρ2) (h3 : zcB (.list ds) x = some d) : zeh f g ρ = .ok d ρ2 := by
  unfold zeh zas
  rw [h1]
  dsimp only
  rw [h2]
  dsimp only [ze9]
  rw [h3]
  rfl
end
end DL
set_option Elab.async false
set_option linter.all false
set_option maxRecDepth 100000
set_option maxHeartbeats 4000000
namespace DL
open PySem PySem.Spec L2
open PyProof.Rows hiding St
section
variable {prog : Program} {w : World} {A : Around} {R : Result -> Shared -> Prop} {h0 : Heap} {l I S : Addr} {rs : List (Addr × List Value)}
def Kept (h h' : Heap) : Prop := ∀ b o, h.get? b = some o -> h'.get? b = some o
def Ls1 (h : Heap) (a : Addr) (its : List Value) (sl : Array (Option Value)) : Prop := ∃ n, h.get? a = some { cls := .type "list", dict := none, data := .seq its.toArray n, slots := sl }
def Ls (h : Heap) (a : Addr) (its : List Value) : Prop := ∃ n sl, h.get? a = some { cls := .type "list", dict := none, data := .seq its.toArray n, slots := sl }
theorem Ls.kept {h h' : Heap} {a : Addr} {its : List Value} (x : Ls h a its) (k : Kept h h') : Ls h' a its := by
  obtain ⟨n, sl, e⟩ := x; exact ⟨n, sl, k _ _ e⟩
theorem zh4 (hh : A.in1.handled = none) (hI : h0.objs.size <= I) (hS : h0.objs.size <= S) (hIS : S ≠ I) (hl : h0.IsList l (rs.map fun p => Value.ref p.1).toArray) (hr : ∀ p ∈ rs, Ls h0 p.1 p.2) :
    ∀ (k i : Nat) (s : Shared) (t : Addr) (acc : List Value) (c : Nat) (sl : Array (Option Value)), rs.length - i = k -> i <= rs.length -> Kept h0 s.heap -> s.heap.IsListIter I l i ->
      s.heap.get? S = some { cls := .type "list", dict := none, data := .seq #[.ref t] c, slots := #[] } -> t ≠ S -> t ≠ I -> Ls1 s.heap t acc sl -> acc.length + ((rs.drop i).map (·.2)).flatten.length <= sizeLine ->
      (∀ p h' tk sl', Kept h0 h' -> Ls1 h' p (acc ++ ((rs.drop i).map (·.2)).flatten) sl' -> (p = t /\ i = rs.length /\ sl' = sl ∨ h0.objs.size <= p /\ sl' = #[]) -> R (.ok (.ret (.ref p))) { s with heap := h', toks := tk }) ->
      codeAny (model prog w) A (.builtin "sum.loop" ⟨[.ref I, .ref S, rawInt 2, rawInt 0], []⟩) R s := by
  intro k
  induction k with
  | zero =>
    intro i s t acc c sl hk hi hK hit hSS htS htI ht hz hR
    have hin : i = rs.length := by omega
    subst hin
    refine codeAny_builtin F.entry_sum_loop ?_
    rw [Around.under_plainId F.plain_sum_loop _]
    show wpAny _ A.in1 (seqItems? (.ref S) >>= _) _ _ s
    refine wpAny_bind (wpAny_seqItems hSS rfl ?_)
    show wpAny _ A.in1 (tryCatch (pyNext (.ref I)) _ >>= _) _ _ s
    have hl' : s.heap.IsList l (rs.map fun p => Value.ref p.1).toArray := by
      obtain ⟨o, e, r⟩ := hl; exact ⟨o, hK _ _ e, r⟩
    refine wpAny_bind (wpAny_tryCatch (wpAny_pyNext_list_end hh hit hl' (by simp) fun h' ex => ?_))
    refine wpAny_pure (hR t h' s.toks sl (fun b o e => ?_) ?_ (.inl ⟨rfl, rfl, rfl⟩))
    · exact ex b o (Nat.ne_of_lt (Nat.lt_of_lt_of_le (Heap.lt_size e) hI)) (hK b o e)
    · obtain ⟨n, e⟩ := ht
      rw [List.drop_length, List.map_nil, List.flatten_nil, List.append_nil]
      exact ⟨n, ex _ _ htI e⟩
  | succ k ih =>
    intro i s t acc c sl hk hi hK hit hSS htS htI ht hz hR
    have hlt : i < rs.length := by omega
    refine codeAny_builtin F.entry_sum_loop ?_
    rw [Around.under_plainId F.plain_sum_loop _]
    show wpAny _ A.in1 (seqItems? (.ref S) >>= _) _ _ s
    refine wpAny_bind (wpAny_seqItems hSS rfl ?_)
    show wpAny _ A.in1 (tryCatch (pyNext (.ref I)) _ >>= _) _ _ s
    have hl' : s.heap.IsList l (rs.map fun p => Value.ref p.1).toArray := by
      obtain ⟨o, e, r⟩ := hl; exact ⟨o, hK _ _ e, r⟩
    refine wpAny_bind (wpAny_tryCatch (wpAny_pyNext_list_item (x := .ref (rs[i]'hlt).1) hit hl' (by simp [hlt]) fun h' hit' sb => ?_))
    show wpAny _ A.in1 ((holding [Value.ref (rs[i]'hlt).1] (binaryOp .Add (.ref t) (.ref (rs[i]'hlt).1))).attempt >>= _) _ _ _
    refine wpAny_bind (wpAny_attempt (wpAny_holding ?_))
    have hm : rs[i]'hlt ∈ rs := List.getElem_mem hlt
    have hd : rs.drop i = rs[i]'hlt :: rs.drop (i + 1) := List.drop_eq_getElem_cons hlt
    have hK' : Kept h0 h' := fun b o e => (sb.2 b (Nat.ne_of_lt (Nat.lt_of_lt_of_le (Heap.lt_size e) hI))).trans (hK b o e)
    obtain ⟨n1, e1⟩ := ht
    have e1' := (sb.2 t htI).trans e1
    obtain ⟨n2, s2, e2⟩ := (hr _ hm).kept hK'
    have hSS' := (sb.2 S hIS).trans hSS
    rw [hd, List.map_cons, List.flatten_cons, List.length_append] at hz
    refine concat_meets ⟨_, e1', rfl⟩ ⟨_, e2, rfl⟩ noFill_list_add seq_list_add PySem.F.slot_list_add PySem.F.entry_list_add (PySem.F.args_list_add_2 _ _) (list_addW t _ acc.toArray _ n1 n2 none none sl s2 (by rw [List.size_toArray, List.size_toArray]; omega)) ⟨e1', e2, ?_⟩
    have hlS : S < h'.objs.size := Heap.lt_size hSS'
    have hlI : I < h'.objs.size := by obtain ⟨o, e, _⟩ := hit'; exact Heap.lt_size e
    have ea : acc.toArray ++ (rs[i]'hlt).2.toArray = (acc ++ (rs[i]'hlt).2).toArray := by simp
    rw [ea]
    have hP : ∀ b o, h'.get? b = some o -> (h'.push { cls := Value.type "list", data := Data.seq (acc ++ (rs[i]'hlt).2).toArray }).get? b = some o := fun b o e => Heap.get?_push_of_some _ e
    have hS1 := hP _ _ hSS'
    have hNew : (h'.push { cls := Value.type "list", data := Data.seq (acc ++ (rs[i]'hlt).2).toArray }).get? h'.objs.size = some { cls := Value.type "list", data := Data.seq (acc ++ (rs[i]'hlt).2).toArray } := Heap.get?_push_size _ rfl
    show wpAny _ A.in1 (updateSeq S (fun _ => #[.ref h'.objs.size]) >>= _) _ _ _
    refine wpAny_bind (wpAny_updateSeq hS1 rfl ?_)
    have hS2 := Heap.get?_update_self (Obj.mapSeq fun _ => #[Value.ref h'.objs.size]) hS1 rfl
    refine wpAny_bind (wpAny_letGo ?_)
    refine wpAny_bind (wpAny_updateSeq hS2 rfl (wpAny_pure ⟨plainId_quiet F.plain_sum_loop _, ?_⟩))
    have oth : ∀ b o, b ≠ S -> (h'.push { cls := Value.type "list", data := Data.seq (acc ++ (rs[i]'hlt).2).toArray }).get? b = some o -> (((h'.push { cls := Value.type "list", data := Data.seq (acc ++ (rs[i]'hlt).2).toArray }).update S (Obj.mapSeq fun x => #[Value.ref h'.objs.size])).update S (Obj.mapSeq fun x => #[Value.ref h'.objs.size])).get? b = some o := fun b o hb e => (Heap.get?_update_other _ _ (Ne.symm hb)).trans ((Heap.get?_update_other _ _ (Ne.symm hb)).trans e)
    refine ih (i + 1) _ h'.objs.size (acc ++ (rs[i]'hlt).2) _ #[] (by omega) hlt ?_ ?_ (Heap.get?_update_self _ hS2 rfl) (Nat.ne_of_gt hlS) (Nat.ne_of_gt hlI) ?_ (by rw [List.length_append]; omega) fun p h'' tk sl' hk'' hp hq => ?_
    · exact fun b o e => oth b o (Nat.ne_of_lt (Nat.lt_of_lt_of_le (Heap.lt_size e) hS)) (hP b o (hK' b o e))
    · obtain ⟨o, e, r⟩ := hit'
      exact ⟨o, oth I o (Ne.symm hIS) (hP I o e), r⟩
    · exact ⟨_, oth _ _ (Nat.ne_of_gt hlS) hNew⟩
    · refine hR p h'' tk sl' hk'' ?_ (.inr ?_)
      · rw [hd, List.map_cons, List.flatten_cons, ← List.append_assoc]; exact hp
      · rcases hq with ⟨rfl, -, e⟩ | hq
        · exact ⟨Nat.le_of_lt (Nat.lt_of_le_of_lt hS hlS), e⟩
        · exact hq
end
section
variable {prog : Program} {w : World} {A : Around} {E : Value -> Shared -> Prop} {s : Shared} {l z : Addr} {rs : List (Addr × List Value)}
theorem zjd (a b : Value) : argsOk "sum" ⟨[a, b], []⟩ := by unfold argsOk; kernel_rfl
theorem zh5 {Q : Value -> Shared -> Prop} (hh : A.handled = none) (hl : s.heap.IsList l (rs.map fun p => Value.ref p.1).toArray) (hr : ∀ p ∈ rs, Ls s.heap p.1 p.2) (hz : Ls s.heap z []) (hb : (rs.map (·.2)).flatten.length <= sizeLine)
    (h : ∀ p h' tk sl', Kept s.heap h' -> Ls1 h' p (rs.map (·.2)).flatten sl' -> (p = z /\ rs = [] ∨ s.heap.objs.size <= p /\ sl' = #[]) -> Q (.ref p) { s with heap := h', toks := tk }) :
    wpAny (model prog w) A (call (.builtin "sum") [.ref l, .ref z]) Q E s := by
  refine call_function_tree F.kind_sum F.plain_sum F.entry_sum (zjd _ _) ?_
  unfold Builtin.«sum»
  simp only [List.length_cons, List.length_nil]
  rw [if_neg (by decide)]
  refine wpAny_bind (wpAny_of_eq (show Builtin.Builtins.bindParams "sum" ["start"] 0 ⟨[.ref z], []⟩ = pure [some (.ref z)] from rfl) ?_)
  refine wpAny_bind (wpAny_pyIter_list hl ?_)
  refine wpAny_bind (wpAny_pure ?_)
  obtain ⟨n, sl, ez⟩ := id hz
  have ty : ∀ h : Heap, h.get? z = some { cls := .type "list", dict := none, data := .seq [].toArray n, slots := sl } -> ({ s with heap := h } : Shared).TypeIs (.ref z) "list" := fun h e => ⟨_, e, rfl⟩
  have ez' : (s.heap.push { cls := .type "list_iterator", data := .fields #[.ref l, .int 0 0] }).get? z = _ := Heap.get?_push_of_some _ ez
  simp only [List.forIn_cons, List.forIn_nil]
  refine wpAny_bind (wpAny_bind (wpAny_bind (wpAny_isInstance (T := "list") (b := false) (ty _ ez') F.sub_list_str ?_)))
  simp only [Bool.false_eq_true, if_false]
  refine wpAny_pure (wpAny_bind (wpAny_bind (wpAny_isInstance (T := "list") (b := false) (ty _ ez') F.sub_list_bytes ?_)))
  simp only [Bool.false_eq_true, if_false]
  refine wpAny_pure (wpAny_bind (wpAny_bind (wpAny_isInstance (T := "list") (b := false) (ty _ ez') F.sub_list_bytearray ?_)))
  simp only [Bool.false_eq_true, if_false]
  refine wpAny_pure (wpAny_pure ?_)
  refine wpAny_bind (wpAny_newObj_type ?_)
  have hzs := Heap.lt_size ez
  have s1 : (s.heap.push { cls := .type "list_iterator", data := .fields #[.ref l, .int 0 0] }).objs.size = s.heap.objs.size + 1 := Heap.size_push ..
  have k2 : Kept s.heap ((s.heap.push { cls := .type "list_iterator", data := .fields #[.ref l, .int 0 0] }).push { cls := .type "list", data := .seq #[.ref z] }) := fun b o e => Heap.get?_push_of_some _ (Heap.get?_push_of_some _ e)
  refine wpAny_pure ⟨plainId_quiet F.plain_sum_loop _, zh4 (h0 := s.heap) (l := l) (I := s.heap.objs.size) (S := (s.heap.push { cls := .type "list_iterator", data := .fields #[.ref l, .int 0 0] }).objs.size) (rs := rs) hh (Nat.le_refl _) (by rw [s1]; exact Nat.le_succ _) (by rw [s1]; exact Nat.succ_ne_self _) hl hr rs.length 0 _ z [] 0 sl rfl (Nat.zero_le _)
    k2 ⟨_, Heap.get?_push_of_some _ (Heap.get?_push_size _ rfl), rfl, rfl⟩ (Heap.get?_push_size _ rfl) (by rw [s1]; exact Nat.ne_of_lt (Nat.lt_succ_of_lt hzs)) (Nat.ne_of_lt hzs) ⟨n, k2 _ _ ez⟩ (by simpa using hb) fun p h' tk sl' hk hp hq => ?_⟩
  exact h p h' tk sl' hk (by simpa using hp) (hq.imp (fun e => ⟨e.1, List.eq_nil_of_length_eq_zero e.2.1.symm⟩) id)
end
end DL
set_option Elab.async false
set_option linter.all false
set_option maxRecDepth 100000
set_option maxHeartbeats 4000000
namespace DL
open PySem PySem.Spec L2
open PyProof.Rows hiding St
section
variable {X : Cx} {pins : List (Addr × Obj)} {σ : St} {H : Hp} {s : Shared}
theorem zje (I : Inv X pins σ H s) : ∀ {rs : List (Addr × List V)}, (∀ p ∈ rs, SqL X.K H p.1 p.2) ->
    ∃ ts : List (Addr × List Value), (ts.map fun p => Value.ref p.1) = (rs.map fun p => Value.ref p.1) /\ (∀ p ∈ ts, Ls s.heap p.1 p.2) /\ Vals (rs.map (·.2)).flatten (ts.map (·.2)).flatten
  | [], _ => ⟨[], rfl, (fun _ h => by cases h), (show Vals [] [] from Paired.nil)⟩
  | p :: rs, h => by
    obtain ⟨ts, e, hl, hv⟩ := zje I fun q hq => h q (List.mem_cons_of_mem _ hq)
    obtain ⟨its, rv, ⟨⟨c1, d1, t1, sl⟩, n, e1, ec, ed, et⟩, z⟩ := I.list (h p (List.mem_cons_self ..))
    simp only at ec ed et
    subst ec ed et
    refine ⟨(p.1, its) :: ts, by rw [List.map_cons, List.map_cons, e], fun q hq => ?_, ?_⟩
    · rcases List.mem_cons.1 hq with rfl | hq
      · exact ⟨n, sl, e1⟩
      · exact hl q hq
    · rw [List.map_cons, List.map_cons, List.flatten_cons, List.flatten_cons]
      exact rv.append hv
theorem zfR : ∀ {as : List Addr} {us : List Value}, Vals (as.map V.ref) us -> us = as.map Value.ref
  | [], _, .nil => rfl
  | a :: as, _, .cons h t => by
    cases h
    rw [zfR t]; rfl
theorem zjf (hc : X.calm = true) : zc1 X (.builtin "sum") (fun xs H Q => ∃ l z, ∃ rs : List (Addr × List V), xs = [.ref l, .ref z] /\ SqL X.K H l (rs.map fun p => V.ref p.1) /\ (∀ p ∈ rs, SqL X.K H p.1 p.2) /\ SqL X.K H z [] /\ (rs.map (·.2)).flatten.length <= sizeLine /\
    (rs = [] -> Q (.ref z) H) /\ ∀ p, H p = none -> Q (.ref p) (upd H p (.lst (rs.map (·.2)).flatten))) := by
  intro pins s σ H xs us Q I rx h
  obtain ⟨l, z, rs, rfl, hq, hr, hz, hb, q0, q⟩ := h
  obtain ⟨u, u', rfl, ru, ru'⟩ := zl7 rx
  cases ru
  cases ru'
  obtain ⟨its, rv, pl, -⟩ := I.list hq
  obtain ⟨ts, e, hl, hv⟩ := zje I hr
  have ei : its = ts.map fun p => Value.ref p.1 := by
    rw [e]
    have := zfR (as := rs.map (·.1)) (us := its) (by rw [List.map_map]; exact rv)
    rw [this, List.map_map]; rfl
  subst ei
  obtain ⟨zi, rz, ⟨⟨c1, d1, t1, sl⟩, n, e1, ec, ed, et⟩, -⟩ := I.list hz
  cases rz
  simp only at ec ed et
  subst ec ed et
  have hlen := hv.length
  refine zh5 (I.ok.hd hc) pl.isList hl ⟨n, sl, e1⟩ (by omega) fun p h' tk sl' hk hp hq => ?_
  rcases hq with ⟨rfl, rfl⟩ | ⟨hp', rfl⟩
  · have hr0 : rs = [] := by
      cases rs with
      | nil => rfl
      | cons a b => cases e
    exact ⟨.ref _, H, I.kept hk, rfl, q0 hr0⟩
  · obtain ⟨m, ep⟩ := hp
    exact ⟨.ref p, _, I.laid (t' := tk) hk hp' (show zct X.prog X.w _ h' _ (.lst _) from ⟨hb, _, m, hv, ep⟩), rfl, q p (I.hok.fresh hp')⟩
def zdk : List D -> Option (List (List D))
  | [] => some []
  | .list xs :: r => (zdk r).map (xs :: ·)
  | _ => none
theorem zej {K : PySem.W.Frag} {G : Hp} : ∀ {vs : List V} {ds : List D} {ls : List (List D)}, Reps K G vs ds -> zdk ds = some ls ->
    ∃ rs : List (Addr × List V), vs = (rs.map fun p => V.ref p.1) /\ (∀ p ∈ rs, SqL K G p.1 p.2) /\ Reps K G (rs.map (·.2)).flatten ls.flatten /\ rs.length = ls.length
  | _, _, ls, .nil, e => by cases e; exact ⟨[], rfl, (fun _ h => by cases h), .nil, rfl⟩
  | _, _, ls, .cons (d := d) r t, e => by
    cases d with
    | list xs =>
      unfold zdk at e
      cases z : zdk _ with
      | none => rw [z] at e; cases e
      | some cs =>
        rw [z] at e
        cases e
        obtain ⟨rs, rfl, h1, h2, h3⟩ := zej t z
        obtain ⟨a, ws, rfl, h, rr⟩ := r.lst_inv
        refine ⟨(a, ws) :: rs, rfl, fun p hp => ?_, ?_, congrArg (· + 1) h3⟩
        · rcases List.mem_cons.1 hp with rfl | hp
          · exact h
          · exact h1 p hp
        · rw [List.map_cons, List.flatten_cons, List.flatten_cons]
          exact rr.append h2
    | _ => cases e
theorem zh6 (ls : List (List D)) : zdk (ls.map PyData.list) = some ls := by
  induction ls with
  | nil => rfl
  | cons b r ih => rw [List.map_cons, zdk, ih]; rfl
def zh7 : List D -> Option D
  | [.list ds, .list []] => (match zdk ds with
    | some ls => if ls.flatten.length <= 1000000 then some (.list ls.flatten) else none
    | none => none)
  | _ => none
theorem zjg {xs : List D} {d : D} (h : zh7 xs = some d) : ∃ ds ls, xs = [.list ds, .list []] /\ zdk ds = some ls /\ ls.flatten.length <= 1000000 /\ d = .list ls.flatten := by
  unfold zh7 at h
  split at h
  · rename_i ds
    cases z : zdk ds with
    | none => rw [z] at h; cases h
    | some ls =>
      rw [z] at h
      dsimp only at h
      split at h
      · rename_i c
        cases h
        exact ⟨ds, ls, rfl, z, c, rfl⟩
      · cases h
  · cases h
theorem zof (hc : X.calm = true) : zc3 X (.builtin "sum") zh7 := by
  refine ⟨_, zjf hc, fun vs G H ds d Q s r e k => ?_⟩
  obtain ⟨ds, ls, rfl, z, c, rfl⟩ := zjg e
  obtain ⟨v, v', rfl, q1, q2⟩ := r.two_inv
  obtain ⟨l, ws, rfl, h1, r1⟩ := q1.lst_inv
  obtain ⟨a, ws2, rfl, h2, r2⟩ := q2.lst_inv
  have := r2.nil_inv
  subst this
  obtain ⟨rs, rfl, g1, g2, g3⟩ := zej r1 z
  refine ⟨l, a, rs, rfl, s.seq h1, fun p hp => s.seq (g1 p hp), s.seq h2, ?_, fun e0 => ?_, fun p hp => ?_⟩
  · rw [g2.length]; exact Nat.le_trans c lim
  · subst e0
    have : ls = [] := List.eq_nil_of_length_eq_zero g3.symm
    subst this
    exact k _ G H (.refl s) (.lst h2 .nil)
  · exact k _ _ _ (.new s hp) (.lst (SqL.of zaH) (g2.mono (zaK (s.free hp))))
end
end DL
set_option Elab.async false
set_option linter.all false
set_option maxRecDepth 100000
set_option maxHeartbeats 4000000
namespace DL
open PySem PySem.Spec L2
open PyProof.Rows hiding St
section
variable {X : Cx}
def zch (ns : List Int) : List Int := ns.mergeSort fun a b => decide (a <= b)
theorem zbT (ns : List Int) : (zch ns).Perm ns := List.mergeSort_perm ..
theorem zjh (ns : List Int) : (zch ns).Pairwise (· <= ·) := by
  have := List.pairwise_mergeSort (le := fun a b : Int => decide (a <= b)) (by intro a b c; simp; omega) (by intro a b; simp; omega) ns
  exact this.imp (by simp)
theorem zji : ∀ {a b : List Int}, a.Perm b -> a.Pairwise (· <= ·) -> b.Pairwise (· <= ·) -> a = b
  | [], b, p, _, _ => by rw [List.nil_perm.1 p]
  | x :: a, [], p, _, _ => by have := p.length_eq; simp at this
  | x :: a, y :: b, p, ha, hb => by
    have hx : y <= x := by
      rcases List.mem_cons.1 (p.mem_iff.1 (List.mem_cons_self ..)) with e | e
      · exact Int.le_of_eq e.symm
      · exact (List.pairwise_cons.1 hb).1 x e
    have hy : x <= y := by
      rcases List.mem_cons.1 (p.mem_iff.2 (List.mem_cons_self ..)) with e | e
      · exact Int.le_of_eq e.symm
      · exact (List.pairwise_cons.1 ha).1 y e
    have e := Int.le_antisymm hy hx
    subst e
    rw [zji (List.Perm.cons_inv p) (List.pairwise_cons.1 ha).2 (List.pairwise_cons.1 hb).2]
theorem zfS : ∀ {us : List Value} {ns : List Int}, PyProof.Rows.IntsAre us ns -> Vals (ns.map V.int) us
  | _, _, .nil => Paired.nil
  | _, _, .cons n t h => Paired.cons ⟨t, rfl⟩ (zfS h)
theorem zh8 : zc1 X (.builtin "sorted") (fun xs H Q => ∃ l, ∃ ns : List Int, xs = [.ref l] /\ SqL X.K H l (ns.map V.int) /\ ns.length < 64 /\ ∀ p, H p = none -> Q (.ref p) (upd H p (.lst ((zch ns).map V.int)))) := by
  intro pins s σ H xs us Q I rx h
  obtain ⟨l, ns, rfl, hq, hb, q⟩ := h
  obtain ⟨u, rfl, ru⟩ := rx.one
  cases ru
  obtain ⟨its, rv, p, hz⟩ := I.list hq
  have hi := zcd rv
  have hn : its.length = ns.length := by have := rv.length; rw [List.length_map] at this; omega
  refine sorted_ints p.isList hi (by omega) fun out ns' a1 a2 a3 => ?_
  obtain ⟨e, he⟩ := sortedAll_at s.heap its out
  have en : ns' = zch ns := zji (a2.trans (zbT ns).symm) a3 (zjh ns)
  subst en
  refine ⟨.ref (s.heap.objs.size + 1), _, I.laid (t' := s.toks) (fun b o => sortedAll_old) (Nat.le_succ _) (show zct X.prog X.w _ _ _ (.lst ((zch ns).map V.int)) from ⟨?_, out.toList, e, zfS a1, he⟩), rfl, q _ (I.hok.fresh (Nat.le_succ _))⟩
  rw [List.length_map, (zbT ns).length_eq]
  rw [List.length_map] at hz
  exact hz
def zeM : List D -> Option D
  | [.list ds] => (match zbX ds with
    | some ns => if ns.length < 64 then some (.list ((zch ns).map .int)) else none
    | none => none)
  | _ => none
theorem zh9 {xs : List D} {d : D} (h : zeM xs = some d) : ∃ ds ns, xs = [.list ds] /\ zbX ds = some ns /\ ns.length < 64 /\ d = .list ((zch ns).map .int) := by
  unfold zeM at h
  split at h
  · rename_i ds
    cases z : zbX ds with
    | none => rw [z] at h; cases h
    | some ns =>
      rw [z] at h
      dsimp only at h
      split at h
      · rename_i c
        cases h
        exact ⟨ds, ns, rfl, z, c, rfl⟩
      · cases h
  · cases h
theorem zfT {K : PySem.W.Frag} {G : Hp} : ∀ ns : List Int, Reps K G (ns.map V.int) (ns.map PyData.int)
  | [] => .nil
  | n :: r => .cons (.int n) (zfT r)
theorem zmu : zc3 X (.builtin "sorted") zeM := by
  refine ⟨_, zh8, fun vs G H ds d Q s r e k => ?_⟩
  obtain ⟨ds, ns, rfl, z, c, rfl⟩ := zh9 e
  obtain ⟨v, rfl, q1⟩ := r.one_inv
  obtain ⟨l, ws, rfl, h1, r1⟩ := q1.lst_inv
  have := zbY r1 z
  subst this
  exact ⟨l, ns, rfl, s.seq h1, c, fun p hp => k _ _ _ (.new s hp) (.lst (SqL.of zaH) (zfT _))⟩
theorem zjj {ns : List Int} (h : ns.length < 64) : zeM [.list (ns.map .int)] = some (.list ((zch ns).map .int)) := by
  unfold zeM
  simp only [zcc, if_pos h]
end
end DL
set_option Elab.async false
set_option linter.all false
set_option maxRecDepth 100000
set_option maxHeartbeats 4000000
namespace DL
open PySem PySem.Spec L2
open PyProof.Rows hiding St
@[simp] theorem mBind_ok {α β : Type} {f : M α} {k : α -> M β} {ρ ρ' : DEnv} {x : α} (h : f ρ = .ok x ρ') : zas f k ρ = k x ρ' := by unfold zas; rw [h]
theorem zfU {s : D -> DEnv -> Option DEnv} {g : SM} {P : Nat -> DEnv -> Prop} {R : Out -> Prop} : ∀ (ds : List D) (n : Nat) (ρ : DEnv), P n ρ ->
    (∀ i d ρ, ds[i]? = some d -> P (n + i) ρ -> ∃ ρ1, s d ρ = some ρ1 /\ ((∃ ρ2, (g ρ1 = .nx ρ2 ∨ g ρ1 = .ct ρ2) /\ P (n + i + 1) ρ2) ∨ (∃ x, g ρ1 = .rt x /\ R (.rt x)) ∨ ∃ ρ2, g ρ1 = .bk ρ2 /\ R (.nx ρ2))) -> (∀ ρ, P (n + ds.length) ρ -> R (.nx ρ)) -> R (zfJ s g ds ρ)
  | [], n, ρ, h, _, f => f ρ h
  | d :: r, n, ρ, h, st, f => by
    obtain ⟨ρ1, e1, e2⟩ := st 0 d ρ rfl h
    rw [zfJ, e1]
    dsimp only
    rcases e2 with ⟨ρ2, e2, h2⟩ | ⟨x, e2, h2⟩ | ⟨ρ2, e2, h2⟩
    · have goal := zfU (R := R) r (n + 1) ρ2 h2 (fun i d' ρ3 q p => by
        have e : n + 1 + i = n + (i + 1) := by omega
        rw [e] at p ⊢
        exact st (i + 1) d' ρ3 (by simpa using q) p) (fun ρ3 p => f ρ3 (by
        have e : n + 1 + r.length = n + (d :: r).length := by rw [List.length_cons]; omega
        rw [e] at p
        exact p))
      rcases e2 with e2 | e2 <;> (rw [e2]; exact goal)
    · rw [e2]; exact h2
    · rw [e2]; exact h2
theorem zcq {lo hi : Int} {i : Nat} {d : D} (h : (zbE lo hi)[i]? = some d) : d = .int (lo + i) /\ (i : Int) < hi - lo := by
  have hl : i < (zbE lo hi).length := (List.getElem?_eq_some_iff.mp h).1
  rw [zbs] at hl
  unfold zbE at h
  rw [List.getElem?_map, List.getElem?_eq_getElem (by rw [List.length_range]; exact hl), List.getElem_range] at h
  cases h
  exact ⟨rfl, by omega⟩
theorem zog {α : Type} {xs : List α} {i : Int} {v : α} (h0 : 0 <= i) (h : xs[i.toNat]? = some v) : atI xs i = some v := by
  have := zaO (xs := xs) (j := i.toNat) h
  rw [Int.toNat_of_nonneg h0] at this
  exact this
end DL
set_option Elab.async false
set_option linter.all false
set_option maxRecDepth 100000
set_option maxHeartbeats 4000000
namespace DL
open PySem PySem.Spec L2
open PyProof.Rows hiding St
section
variable {α β : Type} {ρ ρ1 ρ2 ρ3 ρ' : DEnv} {f g h : M D}
theorem zae {a : α} : zah a ρ = .ok a ρ := rfl
theorem zak : mNil ρ = .ok [] ρ := rfl
theorem zbF {o : Option α} {a : α} (h : o = some a) : mOpt o ρ = .ok a ρ := by subst h; rfl
theorem zax {f : M α} {k : α -> M β} {x : α} {r : Res β} (h : f ρ = .ok x ρ1) (h2 : k x ρ1 = r) : zas f k ρ = r := by unfold zas; rw [h]; exact h2
theorem zau {f : M α} {k : α -> β} {x : α} (h : f ρ = .ok x ρ1) : mMap k f ρ = .ok (k x) ρ1 := by unfold mMap zas; rw [h]; rfl
theorem zad {i : Nat} {d : D} (h : ρ[i]? = some (some (.pub d))) : dVar i ρ = .ok d ρ := by unfold dVar; rw [h]
theorem zbi {i : Nat} {ds : List D} (h : ρ[i]? = some (some (.own ds))) (h2 : ρ.set i (some (.pub (.list ds))) = ρ') : dVar i ρ = .ok (.list ds) ρ' := by unfold dVar; rw [h]; subst h2; rfl
theorem zar {op : D -> D -> Option β} {x y : D} {r : β} (h1 : f ρ = .ok x ρ1) (h2 : g ρ1 = .ok y ρ2) (h3 : op x y = some r) : dBin op f g ρ = .ok r ρ2 := by
  unfold dBin; exact zax h1 (zax h2 (zbF h3))
theorem zab {g : M (List D)} {x : D} {xs : List D} (h1 : f ρ = .ok x ρ1) (h2 : g ρ1 = .ok xs ρ2) : zaf f g ρ = .ok (x :: xs) ρ2 := by
  unfold zaf; exact zax h1 (zax h2 rfl)
theorem zeN {g : M (List D)} {xs : List D} (h1 : g ρ = .ok xs ρ1) (h2 : xs.length <= 1000000) : mTup g ρ = .ok (.tuple xs) ρ1 := by
  unfold mTup; exact zax h1 (by rw [if_pos h2]; rfl)
theorem zbx {g : M (List D)} {xs : List D} (h1 : g ρ = .ok xs ρ1) (h2 : xs.length <= 1000000) : mLst g ρ = .ok (.list xs) ρ1 := by
  unfold mLst; exact zax h1 (by rw [if_pos h2]; rfl)
theorem zcC {g : M (List D)} {xs : List D} (h1 : g ρ = .ok xs ρ1) (h2 : xs.length <= 1000000) : (zas g fun xs => if xs.length <= 1000000 then zah xs else fun _ => .bad) ρ = .ok xs ρ1 := 
  zax h1 (by rw [if_pos h2]; rfl)
theorem zbo {i : Nat} {d y r : D} (h : ρ[i]? = some (some (.pub d))) (h1 : g ρ = .ok y ρ1) (h2 : oIx d y = some r) : dIxN i g ρ = .ok r ρ1 := by
  unfold dIxN; rw [h]; exact zax h1 (zbF h2)
theorem zeO {i : Nat} {ds es : List D} {y r : D} (h : ρ[i]? = some (some (.own ds))) (h1 : g ρ = .ok y ρ1) (h3 : ρ1[i]? = some (some (.own es))) (h2 : oIx (.list es) y = some r) : dIxN i g ρ = .ok r ρ1 := by
  unfold dIxN; rw [h]; exact zax h1 (by rw [h3]; exact zbF h2)
theorem zbj {p : List D -> Option D} {g : M (List D)} {xs : List D} {r : D} (h1 : g ρ = .ok xs ρ1) (h2 : p xs = some r) : zbU p g ρ = .ok r ρ1 := by
  unfold zbU; exact zax h1 (zbF h2)
theorem zaw {n : Nat} {F : List D -> Option D} {g : M (List D)} {xs : List D} {r : D} (h1 : g ρ = .ok xs ρ1) (h2 : xs.length = n) (h3 : F xs = some r) : dFun n F g ρ = .ok r ρ1 := by
  unfold dFun; exact zax h1 (by rw [if_pos h2]; exact zbF h3)
theorem zdl {i : Int} (h1 : f ρ = .ok (.int i) ρ1) : dNeg f ρ = .ok (.int (-i)) ρ1 := by
  unfold dNeg; exact zax h1 rfl
theorem za5 {i : Nat} {d r : D} (h : ρ[i]? = some (some (.pub d))) (h2 : oLen [d] = some r) : zbJ i ρ = .ok r ρ := by
  unfold zbJ; rw [h]; exact zbF h2
theorem zjk {i : Nat} {ds : List D} (h : ρ[i]? = some (some (.own ds))) : zbJ i ρ = .ok (.int ds.length) ρ := by
  unfold zbJ; rw [h]
theorem zfa {g : M (List D)} {i : Int} {r : List D} (h1 : g ρ = .ok [.int i] ρ1) (h2 : zhW [.int i] = some r) : zgz g ρ = .ok r ρ1 := by
  unfold zgz; exact zax h1 (zbF h2)
theorem zgP {g : M (List D)} {i j : Int} {r : List D} (h1 : g ρ = .ok [.int i, .int j] ρ1) (h2 : zhX [.int i, .int j] = some r) : ziX g ρ = .ok r ρ1 := by
  unfold ziX; exact zax h1 (zbF h2)
theorem zcT {g : M (List D)} {xs r : List D} (h1 : g ρ = .ok xs ρ1) (h2 : ziY xs = some r) : zeC g ρ = .ok r ρ1 := by
  unfold zeC; exact zax h1 (zbF h2)
theorem zbZ {i : Int} (h1 : f ρ = .ok (.int i) ρ1) : (zas f fun x => mOpt (zc2 x)) ρ = .ok (some i) ρ1 := zax h1 rfl
theorem zb9 {f : M Bool} {t : Bool} (h1 : f ρ = .ok t ρ1) : mNot f ρ = .ok (!t) ρ1 := zau h1
theorem zbu {t : Bool} (h1 : f ρ = .ok (.bool t) ρ1) : zbk f ρ = .ok t ρ1 := by unfold zbk; exact zax h1 rfl
theorem zoh {f g : M Bool} {t u : Bool} (h1 : f ρ = .ok t ρ) (h2 : t = true -> g ρ = .ok u ρ) : mAnd f g ρ = .ok (t && u) ρ := by
  unfold mAnd; refine zax h1 ?_
  cases t with
  | true => rw [if_pos rfl]; exact h2 rfl
  | false => rfl
theorem zdD {t u : Bool} (h1 : f ρ = .ok (.bool t) ρ) (h2 : t = true -> g ρ = .ok (.bool u) ρ) : ze5 f g ρ = .ok (.bool (t && u)) ρ := by
  unfold ze5; refine zax h1 ?_
  cases t with
  | true => exact h2 rfl
  | false => rfl
theorem zjl {t u : Bool} (h1 : f ρ = .ok (.bool t) ρ) (h2 : t = false -> g ρ = .ok (.bool u) ρ) : mOrV f g ρ = .ok (.bool (t || u)) ρ := by
  unfold mOrV; refine zax h1 ?_
  cases t with
  | false => exact h2 rfl
  | true => rfl
theorem zjm {t : Bool} (h1 : f ρ = .ok (.bool t) ρ1) : ziU f ρ = .ok (.bool (!t)) ρ1 := by unfold ziU; exact zax h1 rfl
theorem zoi {f : M Bool} {g h : M α} {r : Res α} (h1 : f ρ = .ok true ρ1) (h2 : g ρ1 = r) : mIf f g h ρ = r := by unfold mIf; exact zax h1 (by rw [if_pos rfl]; exact h2)
theorem zoj {f : M Bool} {g h : M α} {r : Res α} (h1 : f ρ = .ok false ρ1) (h2 : h ρ1 = r) : mIf f g h ρ = r := by unfold mIf; exact zax h1 (by rw [if_neg (by decide)]; exact h2)
theorem zd1 {p q : D -> D -> Option Bool} {x y z : D} {t u : Bool} (h1 : f ρ = .ok x ρ) (h2 : g ρ = .ok y ρ) (h3 : p x y = some t) (h4 : t = true -> h ρ = .ok z ρ) (h5 : t = true -> q y z = some u) : zdL p q f g h ρ = .ok (t && u) ρ := by
  unfold zdL
  refine zax h1 (zax h2 (zax (zbF h3) ?_))
  cases t with
  | true => rw [if_pos rfl]; exact zax (h4 rfl) (zbF (h5 rfl))
  | false => rfl
theorem za6 {i j : Int} : oAdd (.int i) (.int j) = some (.int (i + j)) := rfl
theorem zbO {x y : List D} (h : x.length + y.length <= 1000000) : oAdd (.list x) (.list y) = some (.list (x ++ y)) := by unfold oAdd; exact if_pos h
theorem zcU {i j : Int} : oSub (.int i) (.int j) = some (.int (i - j)) := rfl
theorem zfb {i j : Int} (h1 : -18446744073709551616 < i) (h2 : i < 18446744073709551616) : oMul (.int i) (.int j) = some (.int (i * j)) := by unfold oMul gMul; exact if_pos (.inl ⟨by omega, by omega⟩)
theorem zkQ {i j : Int} (h1 : -18446744073709551616 < j) (h2 : j < 18446744073709551616) : oMul (.int i) (.int j) = some (.int (i * j)) := by unfold oMul gMul; exact if_pos (.inr ⟨by omega, by omega⟩)
theorem zcW {x : List D} {k : Int} (h : -1000000 <= k /\ k <= 1000000 /\ x.length * k.toNat <= 1000000) : oMul (.list x) (.int k) = some (.list (List.replicate k.toNat x).flatten) := by unfold oMul; exact if_pos h
theorem zdb {i j : Int} (h : 0 < j) : oMod (.int i) (.int j) = some (.int (i % j)) := by unfold oMod gMod; exact if_pos h
theorem zmv {i j : Int} (h : 0 < j) (h2 : j < 18446744073709551616) : oDiv (.int i) (.int j) = some (.int (i / j)) := by unfold oDiv gDiv; exact if_pos ⟨h, h2⟩
theorem zmw {i j : Int} (h : 0 <= j /\ j <= 1000000 /\ i.natAbs < 2 ^ 64) : oPow (.int i) (.int j) = some (.int (i ^ j.toNat)) := by unfold oPow gPow; exact if_pos h
theorem zok {p : Int -> Int -> Bool} {i j : Int} : oIB p (.int i) (.int j) = some (p i j) := rfl
theorem zcD {i j : Int} : oEq (.int i) (.int j) = some (decide (i = j)) := by
  unfold oEq; rw [if_pos ⟨rfl, rfl, by simp [PyData.depth]⟩]; congr 1
theorem zaT {xs : List D} : oLen [.list xs] = some (.int xs.length) := rfl
theorem zmx {i j : Int} : zkz [.int i, .int j] = some (.int (if j > i then j else i)) := rfl
theorem zd2 {j : Int} (h1 : j <= 1000000) (h2 : -1000000 <= j) : zhW [.int j] = some (zbE 0 j) := by unfold zhW; exact if_pos ⟨h1, h2⟩
theorem zht {i j : Int} (h1 : j <= 1000000) (h2 : -1000000 <= j) (h3 : i <= 1000000) (h4 : -1000000 <= i) : zhX [.int i, .int j] = some (zbE i j) := by unfold zhX; exact if_pos ⟨h1, h2, h3, h4⟩
theorem zcj {xs : List D} : ziY [.list xs] = some (zc4 0 xs) := rfl
theorem zaZ {i : Nat} {d : D} (h1 : f ρ = .ok d ρ1) (h2 : i < ρ1.length) (h3 : ρ1.set i (some (.pub d)) = ρ') : sSet i f ρ = .nx ρ' := by
  unfold sSet sAsg sB gN; rw [h1]; dsimp only; rw [if_pos h2]; subst h3; rfl
theorem zbn {i : Nat} {f : M (List D)} {ds : List D} (h1 : f ρ = .ok ds ρ1) (h2 : i < ρ1.length) (h3 : ρ1.set i (some (.own ds)) = ρ') : zbK i f ρ = .nx ρ' := by
  unfold zbK sB; rw [h1]; dsimp only; rw [if_pos h2]; subst h3; rfl
theorem zdm {i : Nat} {d : D} {ds0 ds : List D} (h0 : ρ[i]? = some (some (.own ds0))) (h1 : f ρ = .ok d ρ1) (h2 : ρ1[i]? = some (some (.own ds))) (h3 : ds.length < 1000000) (h4 : ρ1.set i (some (.own (ds ++ [d]))) = ρ') : sApp i f ρ = .nx ρ' := by
  unfold sApp sB; rw [h0]; dsimp only; rw [h1]; dsimp only; rw [h2]; dsimp only; rw [if_pos h3]; subst h4; rfl
theorem zdQ {d : D} {s : D -> DEnv -> Option DEnv} (h1 : f ρ = .ok d ρ1) (h2 : s d ρ1 = some ρ') : sAsg f s ρ = .nx ρ' := by
  unfold sAsg sB; rw [h1]; dsimp only; rw [h2]
theorem zcE {d : D} (h1 : f ρ = .ok d ρ1) : zd8 f ρ = .nx ρ1 := by unfold zd8 sB; rw [h1]
theorem tg_N {i : Nat} {d : D} (h : i < ρ.length) (h2 : ρ.set i (some (.pub d)) = ρ') : gN i d ρ = some ρ' := by unfold gN; rw [if_pos h, h2]
theorem tg_0 : gN0 [] ρ = some ρ := rfl
theorem tg_C {s : D -> DEnv -> Option DEnv} {t : List D -> DEnv -> Option DEnv} {d : D} {r : List D} (h1 : s d ρ = some ρ1) (h2 : t r ρ1 = some ρ') : gNC s t (d :: r) ρ = some ρ' := by unfold gNC; dsimp only; rw [h1]; exact h2
theorem tg_T {n : Nat} {t : List D -> DEnv -> Option DEnv} {ds : List D} (h1 : ds.length = n) (h2 : t ds ρ = some ρ') : gT n t (.tuple ds) ρ = some ρ' := by unfold gT; dsimp only; rw [if_pos h1]; exact h2
structure Ho (g : SM) (ρ : DEnv) (Q : Out -> Prop) : Prop where
  out : Q (g ρ)
def zpT (h : SM) (Q : Out -> Prop) : Out -> Prop
  | .nx ρ' => Ho h ρ' Q
  | o => Q o
structure zmy (h : SM) (Q : Out -> Prop) (o : Out) : Prop where
  out : zpT h Q o
variable {Q : Out -> Prop} {s t u : SM}
theorem zaG (h : Ho s ρ (zmy t Q)) : Ho (sSeq s t) ρ Q := by
  have h := h.out.out
  constructor
  unfold sSeq
  cases e : s ρ with
  | nx o => rw [e] at h; exact h.out
  | _ => rw [e] at h; exact h
theorem zap (h1 : s ρ = .nx ρ1) (h2 : Ho t ρ1 Q) : Ho (sSeq s t) ρ Q := by
  constructor; unfold sSeq; rw [h1]; exact h2.out
theorem za7 {o : Out} (h1 : s ρ = o) (h2 : Q o) : Ho s ρ Q := by constructor; rw [h1]; exact h2
theorem zbc (h : Q (.nx ρ)) : Ho sNx ρ Q := ⟨h⟩
theorem zat {o : DEnv} (h : Ho t o Q) : zmy t Q (.nx o) := ⟨h⟩
theorem zbP {d : D} (h : Q (.rt d)) : zmy t Q (.rt d) := ⟨h⟩
theorem zaU {f : M Bool} {b : Bool} (h1 : f ρ = .ok b ρ1) (h2 : b = true -> Ho s ρ1 Q) (h3 : b = false -> Ho t ρ1 Q) : Ho (sIf f s t) ρ Q := by
  constructor; unfold sIf sB; rw [h1]; dsimp only
  cases b with
  | true => rw [if_pos rfl]; exact (h2 rfl).out
  | false => rw [if_neg (by decide)]; exact (h3 rfl).out
theorem zaI {d : D} (h1 : f ρ = .ok d ρ1) (h2 : Q (.rt d)) : Ho (sRet f) ρ Q := by constructor; unfold sRet sB; rw [h1]; exact h2
theorem zjn {P : Out -> Prop} (h : Ho s ρ P) (k : ∀ o, P o -> Q o) : Ho s ρ Q := ⟨k _ h.out⟩
def zpU (I : DEnv -> Prop) (Q : Out -> Prop) : Out -> Prop
  | .nx ρ | .ct ρ => I ρ
  | .bk ρ => Q (.nx ρ)
  | .rt d => Q (.rt d)
  | .bad => False
structure zfV (I : DEnv -> Prop) (Q : Out -> Prop) (o : Out) : Prop where
  out : zpU I Q o
theorem za8 {I : DEnv -> Prop} (h : I ρ) : zfV I Q (.nx ρ) := ⟨h⟩
theorem zcF {I : DEnv -> Prop} {d : D} (h : Q (.rt d)) : zfV I Q (.rt d) := ⟨h⟩
theorem zb1 {f : M (List D)} {tg : D -> DEnv -> Option DEnv} {ds : List D} (I : Nat -> DEnv -> Prop) (h1 : f ρ = .ok ds ρ1) (h0 : I 0 ρ1)
    (hst : ∀ i d ρ, ds[i]? = some d -> I i ρ -> ∃ ρ2, tg d ρ = some ρ2 /\ Ho s ρ2 (zfV (I (i + 1)) Q)) (hend : ∀ ρ, I ds.length ρ -> Q (.nx ρ)) : Ho (sFor f tg s) ρ Q := by
  constructor; unfold sFor sB; rw [h1]; dsimp only
  refine zfU (P := I) (R := Q) ds 0 ρ1 h0 (fun i d ρ e p => ?_) (fun ρ p => hend ρ (by rw [Nat.zero_add] at p; exact p))
  rw [Nat.zero_add] at p
  obtain ⟨ρ2, e2, q⟩ := hst i d ρ e p
  refine ⟨ρ2, e2, ?_⟩
  rw [Nat.zero_add]
  have q := q.out.out
  cases z : s ρ2 with
  | nx o => rw [z] at q; exact .inl ⟨o, .inl rfl, q⟩
  | ct o => rw [z] at q; exact .inl ⟨o, .inr rfl, q⟩
  | rt o => rw [z] at q; exact .inr (.inl ⟨o, rfl, q⟩)
  | bk o => rw [z] at q; exact .inr (.inr ⟨o, rfl, q⟩)
  | bad => rw [z] at q; exact q.elim
theorem zek {N : List Str} {ds : List D} {P : D -> Prop} (h0 : zcQ N ds = ρ) (h : Ho s ρ fun o => ∃ d, o = .rt d /\ P d) : ∃ d, runD N s ds = some d /\ P d := by
  subst h0
  obtain ⟨d, e, p⟩ := h.out
  refine ⟨d, ?_, p⟩
  unfold runD; rw [e]
theorem za9 {N : List Str} {ds : List D} {d : D} (h0 : zcQ N ds = ρ) (h : Ho s ρ fun o => o = .rt d) : runD N s ds = some d := by
  obtain ⟨d', e, p⟩ := zek (P := fun x => x = d) h0 (zjn h fun o e => ⟨d, e, rfl⟩)
  rw [e, p]
end
end DL
set_option Elab.async false
set_option linter.all false
set_option maxRecDepth 100000
set_option maxHeartbeats 4000000
namespace DL
open PySem PySem.Spec L2
open PyProof.Rows hiding St
section
variable {α β : Type} {ρ ρ1 ρ2 ρ3 ρ' : DEnv} {f g h : M D}
theorem zeP {l u : M (Option Int)} {x r : D} {a b : Option Int} (h1 : f ρ = .ok x ρ1) (h2 : l ρ1 = .ok a ρ2) (h3 : u ρ2 = .ok b ρ3) (h4 : oSlA x a b = some r) : dSlA f l u ρ = .ok r ρ3 := by
  unfold dSlA; exact zax h1 (zax h2 (zax h3 (zbF h4)))
theorem zc7 {f g : M Bool} {u : Bool} (h1 : f ρ = .ok false ρ1) (h2 : g ρ1 = .ok u ρ2) : mOr f g ρ = .ok u ρ2 := by unfold mOr; exact zax h1 (by rw [if_neg (by decide)]; exact h2)
theorem zgQ {f g : M Bool} (h1 : f ρ = .ok false ρ1) : mAnd f g ρ = .ok false ρ1 := by unfold mAnd; exact zax h1 rfl
theorem zgR {f g : M Bool} {u : Bool} (h1 : f ρ = .ok true ρ1) (h2 : g ρ1 = .ok u ρ2) : mAnd f g ρ = .ok u ρ2 := by unfold mAnd; exact zax h1 (by rw [if_pos rfl]; exact h2)
theorem zck {c : String} {d : D} {t : Bool} (h : f ρ = .ok d ρ1) (ht : (!isTy d c) = t) : mNot (zbk (mMap (fun d => .bool (isTy d c)) f)) ρ = .ok t ρ1 := by
  subst ht; exact zb9 (zbu (zau (k := fun d => PyData.bool (isTy d c)) h))
theorem za0 {x : D} {r : List D} (h1 : f ρ = .ok x ρ1) (h2 : zgA x = some r) : za3 f ρ = .ok r ρ1 := by
  unfold za3; exact zax h1 (zbF h2)
theorem zaN {p : D -> D -> Option β} {i : Nat} {d y : D} {r : β} (h : ρ[i]? = some (some (.pub d))) (h1 : g ρ = .ok y ρ1) (h2 : p d y = some r) : zbf p i g ρ = .ok r ρ1 := by
  unfold zbf; rw [h]; exact zax h1 (zbF h2)
theorem zfc {p : D -> D -> Option β} {i : Nat} {ds es : List D} {y : D} {r : β} (h : ρ[i]? = some (some (.own ds))) (h1 : g ρ = .ok y ρ1) (h3 : ρ1[i]? = some (some (.own es))) (h2 : p (.list es) y = some r) : zbf p i g ρ = .ok r ρ1 := by
  unfold zbf; rw [h]; exact zax h1 (by rw [h3]; exact zbF h2)
theorem zbv {f : M (List D)} {k : Nat} {s : D -> DEnv -> Option DEnv} {t : M Bool} {ds es : List D} (h1 : f ρ = .ok ds ρ1) (h2 : za4 s t g ds (zaL ρ1 ++ List.replicate k none) [] = some es) : zbL f k s t g ρ = .ok es ρ1 := by
  unfold zbL; rw [h1]; dsimp only; rw [h2]
theorem zb2 {s : D -> DEnv -> Option DEnv} {t : M Bool} (p : D -> Bool) (q : D -> D) (I : DEnv -> Prop) : ∀ (ds : List D) (ρ : DEnv) (es : List D), (∀ d ∈ ds, ∀ ρ, I ρ -> ∃ ρ1, s d ρ = some ρ1 /\ t ρ1 = .ok (p d) ρ1 /\ (p d = true -> g ρ1 = .ok (q d) ρ1) /\ I (zaL ρ1)) -> I ρ -> es.length + ds.length <= 1000000 ->
    za4 s t g ds ρ es = some (es ++ (ds.filter p).map q)
  | [], ρ, es, _, _, _ => by rw [za4]; simp
  | d :: r, ρ, es, st, h0, hz => by
    obtain ⟨ρ1, e1, e2, e3, h1⟩ := st d List.mem_cons_self ρ h0
    have ih := fun es' hz' => zb2 p q I r (zaL ρ1) es' (fun d' hd => st d' (List.mem_cons_of_mem _ hd)) h1 hz'
    rw [List.length_cons] at hz
    rw [za4, e1]
    dsimp only
    rw [e2]
    dsimp only
    cases hp : p d with
    | true =>
      rw [if_pos rfl, e3 hp]
      dsimp only
      rw [if_pos (by omega), ih _ (by rw [List.length_append, List.length_singleton]; omega), List.filter_cons_of_pos hp, List.map_cons, List.append_assoc]
      rfl
    | false =>
      rw [if_neg (by decide), ih _ (by omega), List.filter_cons_of_neg (by rw [hp]; decide)]
theorem zel {j : Nat} {d : D} {k : Int} {ds0 ds : List D} (h1 : f ρ = .ok d ρ1) (h0 : ρ1[j]? = some (some (.own ds0))) (h2 : g ρ1 = .ok (.int k) ρ2) (h3 : ρ2[j]? = some (some (.own ds))) (h4 : 0 <= k /\ k < ds.length) (h5 : ρ2.set j (some (.own (ds.set k.toNat d))) = ρ') : zgC j g f ρ = .nx ρ' := by
  unfold zgC sB; rw [h1]; dsimp only; rw [h0]; dsimp only; rw [h2]; dsimp only; rw [h3]; dsimp only; rw [if_pos h4]; subst h5; rfl
theorem zcX {xs : List D} {a b : Option Int} : oSlA (.list xs) a b = some (.list (DL.cutD xs a b)) := rfl
theorem zbI {xs : List D} : zgA (.list xs) = some xs := rfl
theorem zgS (bs : List Bool) : zcR (bs.map PyData.bool) = some bs := by
  induction bs with
  | nil => rfl
  | cons b r ih => rw [List.map_cons, zcR, ih]; rfl
theorem zmz {bs : List Bool} : oAll [.list (bs.map PyData.bool)] = some (.bool (bs.all id)) := by unfold oAll; dsimp only; rw [zgS]; rfl
end
end DL
set_option Elab.async false
set_option linter.all false
set_option maxRecDepth 100000
set_option maxHeartbeats 4000000
namespace DL
open PySem PySem.Spec L2
open PyProof.Rows hiding St
section
variable {α β : Type} {ρ ρ1 ρ2 ρ3 ρ4 ρ' : DEnv} {f g h : M D} {s : SM}
theorem zfW {g : M (List D)} {xs r : List D} (h1 : g ρ = .ok xs ρ1) (h2 : oZip xs = some r) : dZip g ρ = .ok r ρ1 := by unfold dZip; exact zax h1 (zbF h2)
theorem zjo {l u t : M (Option Int)} {xs : List D} (h1 : f ρ = .ok (.list xs) ρ1) (h2 : l ρ1 = .ok none ρ2) (h3 : u ρ2 = .ok none ρ3) (h4 : t ρ3 = .ok (some (-1)) ρ4) : dRev f l u t ρ = .ok (.list xs.reverse) ρ4 := by
  unfold dRev; exact zax h1 (zax h2 (zax h3 (zax h4 (zbF (by unfold oRev; exact if_pos rfl)))))
theorem zcG {i : Nat} {d : D} {ds : List D} (h : ρ[i]? = some (some (.pub d))) (h2 : zcK [d] = some ds) : zcf i ρ = .ok ds ρ := by unfold zcf; rw [h]; exact zbF h2
theorem zfX {N : List Str} {ds : List D} (h0 : zcQ N ds = ρ) (h : Ho s ρ fun o => ∃ ρ', o = .nx ρ') : runD N s ds = some .none := by
  subst h0
  obtain ⟨ρ', e⟩ := h.out
  unfold runD; rw [e]
theorem zcV {i j : Int} : oNe (.int i) (.int j) = some (!decide (i = j)) := by
  unfold oNe; rw [if_pos ⟨rfl, rfl, by simp [PyData.depth]⟩]; congr 1
theorem zfd {xs : List Int} {j : Nat} {v : Int} : (xs.map PyData.int).set j (.int v) = (xs.set j v).map PyData.int := by rw [List.map_set]
theorem zfe {xs : List Int} {a b : Int} (ha : 0 <= a) (hb : 0 <= b) (hl : b <= xs.length) : DL.cutD (xs.map PyData.int) (some a) (some b) = ((xs.drop a.toNat).take (b.toNat - a.toNat)).map PyData.int := by
  unfold DL.cutD HT.sIx
  dsimp only
  rw [if_neg (by omega), if_neg (by omega), List.length_map, List.map_take, List.map_drop]
  have e2 : min b.toNat xs.length = b.toNat := by omega
  rw [e2]
  by_cases hab : a.toNat <= xs.length
  · have e1 : min a.toNat xs.length = a.toNat := by omega
    rw [e1]
  · have e3 : b.toNat - a.toNat = 0 := by omega
    have e4 : b.toNat - min a.toNat xs.length = 0 := by omega
    rw [e3, e4, List.take_zero, List.take_zero]
theorem zem {xs ys : List Int} : zipD (xs.map PyData.int) (ys.map PyData.int) = (xs.zip ys).map fun p => .tuple [.int p.1, .int p.2] := by
  unfold zipD
  rw [List.zip_map, List.map_map]
  rfl
end
end DL
set_option Elab.async false
set_option linter.all false
set_option maxRecDepth 100000
set_option maxHeartbeats 4000000
namespace DL
open PySem PySem.Spec L2
open PyProof.Rows hiding St
section
variable {ρ ρ1 : DEnv}
theorem zff {g : M (List D)} {xs r : List D} (h1 : g ρ = .ok xs ρ1) (h2 : zeL xs = some r) : zhr g ρ = .ok r ρ1 := by
  unfold zhr; exact zax h1 (zbF h2)
theorem zen {xs : List D} : zeL [.list xs] = some (zc4 1 xs) := rfl
end
end DL
set_option Elab.async false
set_option linter.all false
set_option maxRecDepth 100000
set_option maxHeartbeats 4000000
namespace DL
open PySem PySem.Spec L2
open PyProof.Rows hiding St
def zmA : Option Sl -> Option Sl
  | some (.own ds) => some (.pub (.list ds))
  | x => x
def zcL (ρ : DEnv) : DEnv := ρ.map zmA
theorem zjp {ρ : DEnv} {i : Nat} {d : D} (h : (zcL ρ)[i]? = some (some (.pub d))) : ρ[i]? = some (some (.pub d)) ∨ ∃ ds, d = .list ds /\ ρ[i]? = some (some (.own ds)) := by
  unfold zcL at h
  rw [List.getElem?_map] at h
  cases e : ρ[i]? with
  | none => rw [e] at h; cases h
  | some o =>
    rw [e] at h
    cases o with
    | none => cases h
    | some sl => cases sl with
      | pub d' => cases h; exact .inl rfl
      | own ds => cases h; exact .inr ⟨ds, rfl, rfl⟩
theorem zfY {ρ : DEnv} {i : Nat} {ds : List D} (h : (zcL ρ)[i]? = some (some (.own ds))) : False := by
  unfold zcL at h
  rw [List.getElem?_map] at h
  cases e : ρ[i]? with
  | none => rw [e] at h; cases h
  | some o =>
    rw [e] at h
    cases o with
    | none => cases h
    | some sl => cases sl with
      | pub d' => cases h
      | own ds => cases h
def flat : D -> Bool
  | .none => true | .bool _ => true | .int _ => true | .str _ => true | _ => false
theorem Rep.flat {K : PySem.W.Frag} {G G' : Hp} {v : V} {d : D} (r : Rep K G v d) (h : DL.flat d = true) : Rep K G' v d := by
  cases r with
  | non => exact .non
  | bl b => exact .bl b
  | int i => exact .int i
  | str x => exact .str x
  | lst _ _ => cases h
  | tup _ _ => cases h
  | dic _ => cases h
theorem Reps.flat {K : PySem.W.Frag} {G G' : Hp} : ∀ {vs : List V} {ds : List D}, Reps K G vs ds -> ds.all DL.flat = true -> Reps K G' vs ds
  | _, _, .nil, _ => .nil
  | _, _, .cons r t, h => by
    rw [List.all_cons, Bool.and_eq_true] at h
    exact .cons (r.flat h.1) (Reps.flat t h.2)
theorem EOk.lend {K : PySem.W.Frag} {B G0 G H : Hp} {σ : St} {ρ : DEnv} {D : Addr} {o : HO} (k : EOk K B G0 G H σ ρ) (hD : H D = none) (n : Nat) : EOk K (upd H D o) H H (upd H D o) (σ ++ List.replicate n none) (zcL ρ ++ List.replicate n none) where
  bh := .refl _
  gh := zaK hD
  g0 := .refl _
  np := fun _ _ _ n => n
  len := by unfold zcL; rw [List.length_append, List.length_append, List.length_map, k.len, List.length_replicate, List.length_replicate]
  pub := fun i d q => by
    have hl : (zcL ρ).length = ρ.length := by unfold zcL; rw [List.length_map]
    by_cases hi : i < (zcL ρ).length
    · rw [List.getElem?_append_left hi] at q
      rw [List.getElem?_append_left (by rw [← k.len, ← hl]; exact hi)]
      rcases zjp q with e | ⟨ds, rfl, e⟩
      · obtain ⟨v, h1, h2⟩ := k.pub i d e
        exact ⟨v, h1, h2.mono k.gh⟩
      · obtain ⟨a, vs, h1, h2, h3, h4, h5⟩ := k.own i ds e
        exact ⟨.ref a, h1, .lst (SqL.of h4) (h5.mono k.gh)⟩
    · rw [List.getElem?_append_right (Nat.le_of_not_lt hi), List.getElem?_replicate] at q
      split at q <;> cases q
  own := fun i ds q => by
    by_cases hi : i < (zcL ρ).length
    · rw [List.getElem?_append_left hi] at q
      exact (zfY q).elim
    · rw [List.getElem?_append_right (Nat.le_of_not_lt hi), List.getElem?_replicate] at q
      split at q <;> cases q
  sep := fun i j a ds es q => by
    by_cases hi : i < (zcL ρ).length
    · rw [List.getElem?_append_left hi] at q
      exact (zfY q).elim
    · rw [List.getElem?_append_right (Nat.le_of_not_lt hi), List.getElem?_replicate] at q
      split at q <;> cases q
def zdR (f : M (List D)) (k : Nat) (s : D -> DEnv -> Option DEnv) (t : M Bool) (g : M D) : M (List D) := fun ρ => match f ρ with
  | .bad => .bad
  | .ok ds ρ1 => match za4 s t g ds (zcL ρ1 ++ List.replicate k none) [] with
    | none => .bad
    | some es => if es.all flat = true then .ok es ρ1 else .bad
theorem zia {f : M (List D)} {k : Nat} {s : D -> DEnv -> Option DEnv} {t : M Bool} {g : M D} {ρ ρ' : DEnv} {es : List D} (h : zdR f k s t g ρ = .ok es ρ') : ∃ ds, f ρ = .ok ds ρ' /\ za4 s t g ds (zcL ρ' ++ List.replicate k none) [] = some es /\ es.all flat = true := by
  unfold zdR at h
  cases zf : f ρ with
  | bad => rw [zf] at h; cases h
  | ok ds ρ1 =>
  rw [zf] at h
  dsimp only at h
  cases zl : za4 s t g ds (zcL ρ1 ++ List.replicate k none) [] with
  | none => rw [zl] at h; cases h
  | some esF =>
  rw [zl] at h
  dsimp only at h
  by_cases hf : esF.all flat = true
  · rw [if_pos hf] at h
    cases h
    exact ⟨ds, rfl, zl, hf⟩
  · rw [if_neg hf] at h; cases h
section
variable {X : Cx} {B G0 : Hp}
theorem zjq {tg elt iter : Expr} {ifs : List Expr} {scope : Scope} {pos pos' : Pos} {N2 : List Str} {k : Nat} {f : M (List D)} {s : D -> DEnv -> Option DEnv} {t : M Bool} {g : M D} {use : Option (Value -> Sem Unit)} {Qc : Value -> Shared -> Prop} (hc : X.calm = true)
    (hi : PI X tg iter (iD X.K B G0 f))
    (hblk : ∀ (cl : List (Str × Addr)) (C : Addr) (s₀ : Shared) (H₀ : Hp) (ex : List Addr) (B' G' : Hp), PG (X.blk N2 scope cl C s₀ H₀ ex) tg (tG X.K B' G' s) /\ PIfs (X.blk N2 scope cl C s₀ H₀ ex) ifs (tBo X.K B' G' t) /\ PE (X.blk N2 scope cl C s₀ H₀ ex) elt (tD X.K B' G' g))
    (hb : zbz scope.names X.N N2 k = true) (hkind : scope.kind = .function) (hcell : ∀ y ∈ scope.names, y.2 ≠ .cell)
    (hnames : ∀ y ∈ scope.names, y.2 = .local -> scope.names.lookup y.1 = some .local)
    (hfree : ∀ y ∈ scope.names, y.2 = .free -> X.env.scope.names.lookup y.1 = some .cell ∨ X.env.scope.names.lookup y.1 = some .free)
    (hs : ∀ x, foldedSetIterable iter X.env x = pure x)
    {pins : List (Addr × Obj)} {s0 : Shared} {σ : St} {G H : Hp} {ρ ρ1 : DEnv} {ds esF : List D} (I : Inv X pins σ H s0) (k0 : EOk X.K B G0 G H σ ρ) (zf : f ρ = .ok ds ρ1) (zl : za4 s t g ds (zcL ρ1 ++ List.replicate k none) [] = some esF) (hfl : esF.all flat = true)
    (hfin : ∀ (C D : Addr) (vs : List V) (G' H' : Hp) (s4 : Shared) (m : Str -> Option Value), Inv X pins σ H' s4 -> s4.heap.Ns C m -> H' C = none -> C ≠ X.env.locals -> X.s₀.heap.objs.size <= C -> (∀ x c, X.env.cells.lookup x = some c -> c ≠ C) -> (∀ p ∈ X.pn ++ pins, p.1 ≠ C) ->
      EOk X.K B G0 G' H' σ ρ1 -> Same G G' -> NewL X.K B G' H' σ ρ1 D vs esF -> compPost (model X.prog X.w) X.A X.xe use Qc (.ref D) C (.ok .next) s4) :
    wpAny (model X.prog X.w) X.A (comprehension (.ListComp elt [⟨tg, iter, ifs, 0⟩] scope pos) scope X.env pos' (newList []) false (eval iter X.env) use) Qc X.xe s0 := by
  obtain ⟨cl, hcl, cl1, cl2⟩ := zdC (scope := scope) (env := X.env) fun y hy hf => I.ok.has y.1 (hfree y hy hf)
  refine wpAny_comprehension_free (use := use) rfl hs hcl hkind hnames (thn (hi pins s0 σ H (fun J H1 => ∃ G1, EOk X.K B G0 G1 H1 σ ρ1 /\ Same G G1 /\ zdh X.K J ds G1) I ⟨G, ρ, k0, by rw [zf]; exact fun J G1 H1 k1 s1 it => ⟨G1, k1, s1, it⟩⟩) fun v s1 h1 => thn h1 fun itv s2 h2 => ?_)
  obtain ⟨it, fp, tn, J, H2, rfl, I2, T, st2, f2, G1, k1, sg1, its⟩ := h2
  refine wpAny_newObj_type (wpAny_newFunctionEnv hcell (by intro y hy; simp at hy) (fun h₁ hns₁ hsb₁ => ?_) hkind)
  dsimp only at hns₁ hsb₁ ⊢
  have hfr : H2 s2.heap.objs.size = none := I2.hok.fresh (Nat.le_refl _)
  have I3 : Inv X pins σ (upd H2 s2.heap.objs.size (.lst [])) { s2 with heap := s2.heap.push { cls := .type "list", dict := none, data := .seq ([] : List Value).toArray } } :=
    I2.laid (t' := s2.toks) (fun b u e => Heap.get?_push_of_some _ e) (Nat.le_refl _) ⟨Nat.zero_le _, [], 0, .nil, Heap.get?_push_size _ rfl⟩
  generalize hP : s2.heap.push { cls := .type "list", dict := none, data := .seq ([] : List Value).toArray } = P at I3 hns₁ hsb₁ ⊢
  have sD : s2.heap.objs.size <= P.objs.size := by rw [← hP, Heap.size_push]; exact Nat.le_succ _
  have old : ∀ b o, s2.heap.get? b = some o -> P.get? b = some o := fun b o e => hP ▸ Heap.get?_push_of_some _ e
  have kept : ∀ b o, P.get? b = some o -> h₁.get? b = some o := fun b o e => hsb₁.extBut b o (Nat.ne_of_lt (Heap.lt_size e)) (Heap.get?_push_of_some _ e)
  have fpo : ∀ b ∈ fp, ∃ o, s2.heap.get? b = some o := fun b hb => let ⟨o, e, _⟩ := T.obj _ _ st2 b hb; ⟨o, e⟩
  have fpD : ∀ b ∈ fp, b ≠ s2.heap.objs.size := fun b hb => let ⟨o, e⟩ := fpo b hb; Nat.ne_of_lt (Heap.lt_size e)
  have f3 : ∀ b ∈ fp, FpOk X pins (upd H2 s2.heap.objs.size (.lst [])) b := fun b hb => ⟨by rw [zaM (fpD b hb)]; exact (f2 b hb).1, (f2 b hb).2⟩
  have I4 := I3.enter (scope := scope) (cl := cl) (N2 := N2) (k := k) (fp := fp) (t' := s2.toks + ([] : List (Str × Value)).length) hb hkind hcell hfree cl1 cl2 hns₁ kept f3 (fun b hb => let ⟨o, e⟩ := fpo b hb; ⟨o, old b o e⟩)
  dsimp only at I4
  generalize hH3 : upd H2 s2.heap.objs.size (.lst []) = H3 at I3 I4 f3
  generalize hD : s2.heap.objs.size = D at *
  have sH : Same H2 H3 := by rw [← hH3]; exact zaK hfr
  have gD : G1 D = none := k1.gh.free hfr
  have kb : EOk X.K H3 H2 H2 H3 (σ ++ List.replicate k none) (zcL ρ1 ++ List.replicate k none) := by
    have := k1.lend (D := D) (o := .lst []) hfr k
    rw [hH3] at this
    exact this
  have tn0 : tn 0 h₁ := T.keep 0 _ _ st2 fun b hb o e => kept b o (old b o e)
  have stat : ∀ {H' : Hp}, (∀ b ∈ fp, H' b = none) -> ∀ b ∈ fp, FpOk (X.blk N2 scope cl P.objs.size { s2 with heap := P } H3 fp) pins H' b := fun hn b hb => by
    obtain ⟨z0, z1, z2, z3, z4, z5⟩ := f3 b hb
    obtain ⟨o, e⟩ := fpo b hb
    refine ⟨hn b hb, Nat.ne_of_lt (Heap.lt_size (old b o e)), fun z => ?_, .inl hb, fun x c q => z4 x c (cl1 x c q), z5⟩
    rcases List.mem_cons.mp (I3.stkSub b z) with q | q
    · exact z1 q
    · exact z2 q
  have loop : codeAny (model X.prog X.w) X.A (.compLoop (.ListComp elt [⟨tg, iter, ifs, 0⟩] scope pos) 0 (.ref it) (.ref D) (compEnvC scope cl P.objs.size X.env))
      (compPost (model X.prog X.w) X.A X.xe use Qc (.ref D) P.objs.size) { s2 with heap := h₁, toks := s2.toks + ([] : List (Str × Value)).length } := by
    refine zed (fun n s' => ∃ i σ' H' G' ρ' vs es, n = ds.length - i /\ Inv (X.blk N2 scope cl P.objs.size { s2 with heap := P } H3 fp) pins σ' H' s' /\ tn i s'.heap /\ (∀ b ∈ fp, H' b = none) /\ EOk X.K H' G' G' H' σ' ρ' /\ Same H2 H' /\ Same H2 G' /\
      H' D = some (.lst vs) /\ G' D = none /\ Reps X.K G' vs es /\ za4 s t g (ds.drop i) ρ' es = some esF) ?_ ds.length
      ⟨0, _, H3, H2, _, [], [], rfl, I4, tn0, fun b hb => (f3 b hb).1, kb, sH, .refl _, by rw [← hH3]; exact zaH, hfr, .nil, by rw [List.drop_zero]; exact zl⟩
    rintro n s' ⟨i, σ', H', G', ρ', vs, es, rfl, I', tn', fr', k', sh', sg', hD', gD', r', zc⟩
    by_cases hlt : i < ds.length
    · rw [List.drop_eq_getElem_cons hlt, za4] at zc
      cases zs : s ds[i] ρ' with
      | none => rw [zs] at zc; cases zc
      | some ρ2 =>
      rw [zs] at zc
      dsimp only at zc
      cases zt : t ρ2 with
      | bad => rw [zt] at zc; cases zc
      | ok b ρ3 =>
      rw [zt] at zc
      dsimp only at zc
      refine thn (T.item (X.blk N2 scope cl P.objs.size { s2 with heap := P } H3 fp) rfl rfl rfl hc i pins s' σ' H' (fun _ _ => False) I' (stat fr') tn' (its.go i G' H' (k1.gh.trans sg') k'.gh hlt)) fun r s4 ⟨u, hr, h4⟩ => ?_
      subst hr
      refine thn h4 fun _ s5 ⟨x, H5, I5, r5, y5, st5, fr5⟩ => ?_
      obtain ⟨G5, e5, rx⟩ := its.yld i G' H' x H5 ds[i] (k1.gh.trans sg') k'.gh (List.getElem?_eq_getElem hlt) y5
      have k5 := k'.ext e5
      have I5' := I5.pinned (stat fr5) (T.obj _ _ st5)
      obtain ⟨hg, ht, he⟩ := hblk cl P.objs.size { s2 with heap := P } H3 fp H' G'
      refine thn (hg _ s5 σ' H5 x u (fun σ6 H6 => ∃ G6, EOk X.K H' G' G6 H6 σ6 ρ2) I5' r5 ⟨G5, ρ', ds[i], ρ2, k5, rx, zs, fun σ6 G6 H6 k6 _ => ⟨G6, k6⟩⟩) fun _ s6 ⟨σ6, H6, I6, G6, k6⟩ => ?_
      refine thn (ht _ s6 σ6 H6 (fun c H7 => c = b /\ ∃ G7, EOk X.K H' G' G7 H7 σ6 ρ3) I6 ⟨G6, ρ2, k6, by unfold aft; rw [zt]; exact fun c G7 H7 k7 _ q => ⟨q, G7, k7⟩⟩) fun ok s7 ⟨H7, I7, hb7, G7, k7⟩ => ?_
      subst hb7
      have again : ∀ {H9 : Hp} {s9 : Shared}, Inv (X.blk N2 scope cl P.objs.size { s2 with heap := P } H3 fp) (pins ++ zdJ fp s5.heap) σ6 H9 s9 -> Inv (X.blk N2 scope cl P.objs.size { s2 with heap := P } H3 fp) pins σ6 H9 s9 /\ tn (i + 1) s9.heap /\ ∀ b ∈ fp, H9 b = none := fun {H9 s9} I9 => by
        refine ⟨I9.unpinned, T.keep _ _ _ st5 fun b hb o e => (I9.pin (b, o) (List.mem_append_right _ (List.mem_append_right _ (zbd hb e)))).1, fun b hb => ?_⟩
        obtain ⟨o, e, d⟩ := T.obj _ _ st5 b hb
        exact (I9.pin (b, o) (List.mem_append_right _ (List.mem_append_right _ (zbd hb e)))).2.1
      cases ok with
      | false =>
        rw [if_neg (by decide)] at zc ⊢
        obtain ⟨J1, J2, J3⟩ := again I7
        exact ⟨ds.length - (i + 1), by omega, i + 1, σ6, H7, G7, zaL ρ3, vs, es, rfl, J1, J2, J3, k7.rebase, sh'.trans k7.bh, sg'.trans k7.g0, k7.bh _ _ hD', k7.np _ _ hD' gD', r'.mono k7.g0, zc⟩
      | true =>
        rw [if_pos rfl] at zc ⊢
        cases zg : g ρ3 with
        | bad => rw [zg] at zc; cases zc
        | ok e ρ4 =>
        rw [zg] at zc
        dsimp only at zc
        by_cases hle : es.length < 1000000
        · rw [if_pos hle] at zc
          refine thn (he _ s7 σ6 H7 (fun v H8 => ∃ G8, EOk X.K H' G' G8 H8 σ6 ρ4 /\ Rep X.K G8 v e) I7 ⟨G7, ρ3, k7, by unfold aft; rw [zg]; exact fun v G8 H8 k8 _ q => ⟨G8, k8, q⟩⟩) fun ev s8 ⟨v, H8, I8, rv, G8, k8, r8⟩ => ?_
          have h8 := k8.bh _ _ hD'
          have g8 := k8.np _ _ hD' gD'
          refine thn (zdf _ s8 σ6 H8 (.ref D) [v] (.ref D) [ev] (fun _ H9 => H9 = upd H8 D (.lst (vs ++ [v]))) I8 rfl (.cons rv .nil) ⟨D, vs, v, rfl, rfl, h8, by have := lim1; rw [r'.length]; omega, rfl⟩) fun _ s9 ⟨_, H9, I9, _, e9⟩ => ?_
          subst e9
          obtain ⟨J1, J2, J3⟩ := again I9
          refine ⟨ds.length - (i + 1), by omega, i + 1, σ6, _, G8, zaL ρ4, vs ++ [v], es ++ [e], rfl, J1, J2, J3, k8.beside g8, fun a o q => ?_, sg'.trans k8.g0, zaH, g8, (r'.mono k8.g0).append (.cons r8 .nil), zc⟩
          rw [zaM (fun z => by subst z; rw [hfr] at q; cases q)]
          exact k8.bh a o (sh' a o q)
        · rw [if_neg hle] at zc; cases zc
    · rw [List.drop_eq_nil_of_le (Nat.le_of_not_lt hlt), za4] at zc
      cases zc
      refine thn (T.done (X.blk N2 scope cl P.objs.size { s2 with heap := P } H3 fp) rfl rfl rfl hc i pins s' σ' H' (fun _ _ => False) I' (stat fr') tn' (its.stop i G' H' (k1.gh.trans sg') k'.gh (Nat.le_of_not_lt hlt))) fun r s4 ⟨hr, I6⟩ => ?_
      subst hr
      obtain ⟨m, hm, _⟩ := id I6.loc
      have I7 : Inv X pins σ H' s4 := I3.call' (ch := fp) I6.os I6.base I6.hok I6.bare fun b hb => ⟨(f3 b hb).2.2.2.1, (f3 b hb).2.1, (f3 b hb).2.2.2.2.1, (f3 b hb).2.2.2.2.2⟩
      refine hfin P.objs.size D vs G1 H' s4 m I7 hm I6.free (Nat.ne_of_gt I3.lt) I3.sz (fun x c e z => by obtain ⟨_, q⟩ := I3.cell x c e; exact absurd q.lt (by rw [z]; exact Nat.lt_irrefl _)) (fun p hp z => by have := Heap.lt_size (I3.pin p hp).1; exact absurd this (by rw [z]; exact Nat.lt_irrefl _))
        (k1.ext ⟨sh', .refl _, k1.gh.trans sh', fun _ _ _ n => n⟩) sg1 ⟨k1.bh.free hfr, gD, hD', r'.flat hfl, fun j es' q z => ?_⟩
      obtain ⟨a', ws, h1', h2', h3', h4', h5'⟩ := k1.own j es' q
      rw [z] at h1'
      cases h1'
      rw [hfr] at h4'; cases h4'
  exact codeAny_compStart_list loop (T.self X.A 0 _ _ _ tn0 loop)
theorem zjr {tg elt iter : Expr} {ifs : List Expr} {scope : Scope} {pos : Pos} {N2 : List Str} {k : Nat} {f : M (List D)} {s : D -> DEnv -> Option DEnv} {t : M Bool} {g : M D} (hc : X.calm = true)
    (hi : PI X tg iter (iD X.K B G0 f))
    (hblk : ∀ (cl : List (Str × Addr)) (C : Addr) (s₀ : Shared) (H₀ : Hp) (ex : List Addr) (B' G' : Hp), PG (X.blk N2 scope cl C s₀ H₀ ex) tg (tG X.K B' G' s) /\ PIfs (X.blk N2 scope cl C s₀ H₀ ex) ifs (tBo X.K B' G' t) /\ PE (X.blk N2 scope cl C s₀ H₀ ex) elt (tD X.K B' G' g))
    (hb : zbz scope.names X.N N2 k = true) (hkind : scope.kind = .function) (hcell : ∀ y ∈ scope.names, y.2 ≠ .cell)
    (hnames : ∀ y ∈ scope.names, y.2 = .local -> scope.names.lookup y.1 = some .local)
    (hfree : ∀ y ∈ scope.names, y.2 = .free -> X.env.scope.names.lookup y.1 = some .cell ∨ X.env.scope.names.lookup y.1 = some .free)
    (hs : ∀ x, foldedSetIterable iter X.env x = pure x := by intro _; rfl) :
    PE X (.ListComp elt [⟨tg, iter, ifs, 0⟩] scope pos) (tL X.K B G0 (zdR f k s t g)) := by
  intro pins s0 σ H Q I ⟨G, ρ, k0, a⟩
  cases z : zdR f k s t g ρ with
  | bad => rw [z] at a; exact a.elim
  | ok es ρ1 =>
  rw [z] at a
  obtain ⟨ds, zf, zl, zfl⟩ := zia z
  rw [eval_ListComp]
  refine zjq hc hi hblk hb hkind hcell hnames hfree hs I k0 zf zl zfl fun C D vs G' H' s4 m I7 hm hC hL hz hcl hp k' s' n => ?_
  exact ⟨m, hm, fun h' sb => ⟨.ref D, H', I7.turned (t' := s4.toks) (it := C) (fun b o hb e => (sb.2 b hb).trans e) hC hL (.inr hz) hcl hp, rfl, a D vs G' H' k' s' n⟩⟩
theorem zib {tg elt iter : Expr} {ifs : List Expr} {scope : Scope} {pos : Pos} (SC : Scope) (N1 N2 : List Str) (k : Nat) {f : M (List D)} {s : D -> DEnv -> Option DEnv} {t : M Bool} {g : M D} (hc : X.calm = true)
    (hi : PI X tg iter (iD X.K B G0 f))
    (hblk : ∀ (cl : List (Str × Addr)) (C : Addr) (s₀ : Shared) (H₀ : Hp) (ex : List Addr) (B' G' : Hp), PG (X.blk N2 scope cl C s₀ H₀ ex) tg (tG X.K B' G' s) /\ PIfs (X.blk N2 scope cl C s₀ H₀ ex) ifs (tBo X.K B' G' t) /\ PE (X.blk N2 scope cl C s₀ H₀ ex) elt (tD X.K B' G' g))
    (h1 : X.env.scope = SC) (h2 : X.N = N1) (hb : zbz scope.names N1 N2 k = true) (hkind : scope.kind = .function) (hcell : ∀ y ∈ scope.names, y.2 ≠ .cell)
    (hnames : ∀ y ∈ scope.names, y.2 = .local -> scope.names.lookup y.1 = some .local)
    (hfree : ∀ y ∈ scope.names, y.2 = .free -> SC.names.lookup y.1 = some .cell ∨ SC.names.lookup y.1 = some .free)
    (hs : ∀ x, foldedSetIterable iter X.env x = pure x := by intro _; rfl) :
    PE X (.ListComp elt [⟨tg, iter, ifs, 0⟩] scope pos) (tL X.K B G0 (zdR f k s t g)) :=
  zjr hc hi hblk (by rw [h2]; exact hb) hkind hcell hnames (by rw [h1]; exact hfree) hs
end
end DL
set_option Elab.async false
set_option linter.all false
set_option maxRecDepth 100000
set_option maxHeartbeats 4000000
namespace DL
open PySem PySem.Spec L2
open PyProof.Rows hiding St
section
variable {X : Cx} {B G0 : Hp} {e o a b c tg i : Expr} {pos p2 : Pos} {es rest : List Expr}
def zc8 (f : M Bool) (g : SM) : Nat -> SM
  | 0, _ => .bad
  | n + 1, ρ => match f ρ with
    | .bad => .bad
    | .ok t ρ1 => if t = true then (match g ρ1 with
      | .nx ρ2 => zc8 f g n ρ2
      | .ct ρ2 => zc8 f g n ρ2
      | .bk ρ2 => .nx ρ2
      | .rt d => .rt d
      | .bad => .bad) else .nx ρ1
theorem zkR {body : List Stmt} {f : M Bool} {g : SM} (n : Nat) (hp : PassesOwn (model X.prog X.w) X.A X.env X.xe) (hc : PT X c (tBo X.K B G0 f)) (hb : PSs X body (tS X.K B G0 g)) : PS X (.While c body [] pos) (tS X.K B G0 (zc8 f g n)) :=
  psof (zkl hp hc hb) fun Dn σ H ⟨G, ρ, k, a⟩ => by
    refine ⟨fun m σ' H' => ∃ G' ρ', EOk X.K B G0 G' H' σ' ρ' /\ aftS X.K B G0 (zc8 f g m ρ') G' Dn, ⟨n, G, ρ, k, a⟩, ?_⟩
    rintro m σ' H' ⟨G', ρ', k', a'⟩
    cases m with
    | zero => exact a'.elim
    | succ m =>
      rw [zc8] at a'
      refine ⟨G', ρ', k', ?_⟩
      cases z : f ρ' with
      | bad => rw [z] at a'; exact a'.elim
      | ok t ρ1 =>
        rw [z] at a'
        dsimp only at a'
        intro v G1 H1 k1 s1 e1
        subst e1
        cases v with
        | false =>
          rw [if_neg Bool.false_ne_true] at a' ⊢
          exact a' _ G1 H1 k1 s1
        | true =>
          rw [if_pos rfl] at a' ⊢
          refine ⟨fun σ2 H2 => ∃ G2 ρ2, EOk X.K B G0 G2 H2 σ2 ρ2 /\ aftS X.K B G0 (zc8 f g m ρ2) G2 Dn, fun σ2 H2 h2 => ⟨m, Nat.lt_succ_self m, h2⟩, G1, ρ1, k1, ?_⟩
          cases z2 : g ρ1 with
          | nx ρ2 => rw [z2] at a'; exact fun σ4 G4 H4 k4 s4 => ⟨G4, ρ2, k4, aftS.mono (s1.trans s4) a'⟩
          | ct ρ2 => rw [z2] at a'; exact fun σ4 G4 H4 k4 s4 => ⟨G4, ρ2, k4, aftS.mono (s1.trans s4) a'⟩
          | bk ρ2 => rw [z2] at a'; exact fun σ4 G4 H4 k4 s4 => a' σ4 G4 H4 k4 (s1.trans s4)
          | rt d => rw [z2] at a'; exact a'
          | bad => rw [z2] at a'; exact a'.elim
def IpD (X : Cx) (op : Operator) (p : Int -> Int -> Option D) : Prop := ∃ ti, PIp X op ti /\ ∀ i j d, p i j = some d -> ∃ v : V, (∀ G, Rep X.K G v d) /\ ∀ H (Q : VK), Q v H -> ti (.int i) (.int j) H Q
theorem zjs : IpD X .Add (fun i j => some (.int (i + j))) := ⟨_, znC, fun i j d e => by cases e; exact ⟨_, fun _ => .int _, fun H Q q => ⟨i, j, rfl, rfl, q⟩⟩⟩
theorem zkS : PGet X (fun o i H Q => ∃ p xs k v, o = .ref p /\ i = .int k /\ H p = some (.lst xs) /\ atI xs k = some v /\ Q v H) := by
  intro pins s σ H x y v u Q I rx ry h
  obtain ⟨p, xs, k, z, rfl, rfl, hp, he, q⟩ := h
  cases rx
  obtain ⟨t, rfl⟩ := ry
  obtain ⟨its, n, r, ho, hz⟩ := I.lst hp
  obtain ⟨j, h1, h2, h3, h4, h5⟩ := ze1 he
  have hl := r.length
  have hn := zeG
  obtain ⟨w, ew, rw'⟩ := r.get h2
  have fin : EP X pins σ Q w s := ⟨z, H, I, rw', q⟩
  have il : s.heap.IsList p its.toArray := ⟨_, ho, rfl, ⟨_, rfl⟩⟩
  by_cases h0 : 0 <= k
  · have hj : k.toNat = j := by
      rw [seqIndex_of h0 h5] at h1
      exact Option.some.inj h1
    exact wpAny_getItem_list il h0 (by omega) (by rw [hj]; simpa using ew) fin
  · have hj : (k + (its.toArray.size : Int)).toNat = j := by
      rw [seqIndex_neg (by omega) h4] at h1
      rw [List.size_toArray, ← hl]
      exact Option.some.inj h1
    exact wpAny_getItem_list_neg il (by omega) (by rw [List.size_toArray, ← hl]; exact h4) (by omega) (by rw [hj]; simpa using ew) fin
def zeE (ρ : DEnv) (j : Nat) : Option (List D) := match ρ[j]? with
  | some (some (.own ds)) => some ds
  | _ => none
theorem zdn {ρ : DEnv} {j : Nat} {ds : List D} (h : zeE ρ j = some ds) : ρ[j]? = some (some (.own ds)) := by
  unfold zeE at h
  split at h
  · rename_i es e; cases h; exact e
  · cases h
theorem zfg {ρ : DEnv} {j : Nat} {ds : List D} (h : ρ[j]? = some (some (.own ds))) : zeE ρ j = some ds := by unfold zeE; rw [h]
def zfZ (op : Int -> Int -> Option D) (j : Nat) (g f : M D) : SM := fun ρ => match zeE ρ j with
  | none => .bad
  | some _ => sB g (fun y ρ1 => match y with
    | .int k => (match (zeE ρ1 j).bind (atI · k) with
      | some (.int a) => sB f (fun y2 ρ2 => match y2 with
        | .int b => (match op a b, zeE ρ2 j with
          | some d, some es => (match ixN es.length k with
            | some n => .nx (ρ2.set j (some (.own (es.set n d))))
            | none => .bad)
          | _, _ => .bad)
        | _ => .bad) ρ1
      | _ => .bad)
    | _ => .bad) ρ
theorem zjt {j : Nat} {op : Operator} {p : Int -> Int -> Option D} {f g : M D} {tpos : Pos} (ho : PE X o (tVar j)) (hi : PE X i (tD X.K B G0 g)) (hp : IpD X op p) (he : PE X e (tD X.K B G0 f))
    (ha : ∀ ov iv new, augStore i ov iv new = (do holding [new, ov, iv] (setItem ov iv new); release [new, ov, iv] []; pure .next) := by intros; rfl) : PS X (.AugAssign (.Subscript o i tpos) op e pos) (tS X.K B G0 (zfZ p j g f)) := by
  obtain ⟨ti, hti, hp⟩ := hp
  refine psof (zl6 ho hi zkS he hti zks ha) fun Dn σ H ⟨G, ρ, k, a⟩ => ?_
  unfold zfZ at a
  cases q0 : zeE ρ j with
  | none => rw [q0] at a; exact a.elim
  | some ds0 =>
  rw [q0] at a
  dsimp only at a
  obtain ⟨ad, vs0, h1, h2, h3, h4, h5⟩ := k.own j ds0 (zdn q0)
  refine ⟨.ref ad, h1, G, ρ, k, ?_⟩
  unfold sB at a
  cases z : g ρ with
  | bad => rw [z] at a; exact a.elim
  | ok y ρ1 =>
  rw [z] at a
  dsimp only at a
  intro kv G1 H1 k1 s1 r1
  cases y with
  | int n =>
    cases r1.int_inv
    dsimp only at a
    cases q1 : zeE ρ1 j with
    | none => rw [q1] at a; exact a.elim
    | some ds1 =>
    rw [q1] at a
    dsimp only [Option.bind_some] at a
    cases q2 : atI ds1 n with
    | none => rw [q2] at a; exact a.elim
    | some d1 =>
    rw [q2] at a
    obtain ⟨ad1, vs1, g1, g2, g3, g4, g5⟩ := k1.own j ds1 (zdn q1)
    rw [h1] at g1
    cases g1
    obtain ⟨v1, e1, rv1⟩ := g5.atI q2
    cases d1 with
    | int i0 =>
      cases rv1.int_inv
      dsimp only at a
      refine ⟨ad, vs1, n, .int i0, rfl, rfl, g4, e1, G1, ρ1, k1, ?_⟩
      cases z2 : f ρ1 with
      | bad => rw [z2] at a; exact a.elim
      | ok y2 ρ2 =>
      rw [z2] at a
      dsimp only at a
      intro u G2 H2 k2 s2 r2
      cases y2 with
      | int i1 =>
        cases r2.int_inv
        dsimp only at a
        cases w : p i0 i1 with
        | none => rw [w] at a; exact a.elim
        | some d =>
        cases q3 : zeE ρ2 j with
        | none => rw [w, q3] at a; exact a.elim
        | some es =>
        rw [w, q3] at a
        dsimp only at a
        obtain ⟨ad2, vs2, f1, f2, f3, f4, f5⟩ := k2.own j es (zdn q3)
        rw [h1] at f1
        cases f1
        cases q4 : ixN es.length n with
        | none => rw [q4] at a; exact a.elim
        | some m =>
        rw [q4] at a
        dsimp only at a
        obtain ⟨v', rv, hq⟩ := hp i0 i1 d w
        refine hq H2 _ ⟨ad, vs2, n, m, rfl, rfl, f4, by rw [f5.length]; exact q4, ?_⟩
        exact a σ G2 _ (k2.change (zdn q3) h1 (f5.set (rv G2) m)) (s1.trans s2)
      | _ => exact a.elim
    | _ => exact a.elim
  | _ => exact a.elim
end
section
variable {X : Cx} {B G0 : Hp}
end
end DL
set_option Elab.async false
set_option linter.all false
set_option maxRecDepth 100000
set_option maxHeartbeats 4000000
namespace DL
open PySem PySem.Spec L2
open PyProof.Rows hiding St
section
variable {X : Cx} {B G0 : Hp} {e o a b c tg i : Expr} {pos p2 : Pos} {es rest : List Expr}
end
end DL
set_option Elab.async false
set_option linter.all false
set_option maxRecDepth 100000
set_option maxHeartbeats 4000000
namespace L2
open PySem PySem.Spec PyProof.Rows
section
variable {prog : Program} {w : World} {A : Around} {R : Result -> Shared -> Prop} {s : Shared}
end
end L2
namespace DL
open PySem PySem.Spec L2
open PyProof.Rows hiding St
section
variable {X : Cx} {B G0 : Hp} {N2 : List Str} {scope : Scope} {cl : List (Str × Addr)} {C : Addr} {s₀ : Shared} {H₀ : Hp} {ex : List Addr}
end
section
variable {X : Cx} {B G0 : Hp}
end
section
variable {X : Cx} {B G0 : Hp}
end
end DL
set_option Elab.async false
set_option linter.all false
set_option maxRecDepth 100000
set_option maxHeartbeats 4000000
namespace DL
open PySem PySem.Spec L2
open PyProof.Rows hiding St
section
variable {X : Cx} {B G0 : Hp} {N2 : List Str} {scope : Scope} {cl : List (Str × Addr)} {C : Addr} {s₀ : Shared} {H₀ : Hp} {ex : List Addr}
end
end DL
set_option Elab.async false
set_option linter.all false
set_option maxRecDepth 100000
set_option maxHeartbeats 4000000
namespace DL
open PySem PySem.Spec PySem.W PyProof.Rows
def runT {α : Type} (lt : Nat -> Nat -> Bool) : KasT α -> α
  | .ret a => a
  | .ask i j k => runT lt (k (lt i j))
theorem zcr {α β : Type} {lt : Nat -> Nat -> Bool} {f : α -> KasT β} : ∀ t : KasT α, runT lt (t.bind f) = runT lt (f (runT lt t))
  | .ret _ => rfl
  | .ask i j k => by show runT lt ((k (lt i j)).bind f) = _; rw [zcr]; rfl
section
variable {key : Nat -> Int} {p : Array Nat}
def KA (key : Nat -> Int) (p : Array Nat) (i : Nat) : Int := key (p.getD i 0)
def srt (key : Nat -> Int) (p : Array Nat) (m : Nat) : Prop := ∀ i j, i <= j -> j < m -> KA key p i <= KA key p j
def dsc (key : Nat -> Int) (p : Array Nat) (m : Nat) : Prop := ∀ i j, i <= j -> j < m -> KA key p j <= KA key p i
abbrev kl (key : Nat -> Int) (i j : Nat) : Bool := decide (key i < key j)
theorem zf0 {k d i : Nat} (hk : k < p.size) (hd : d <= k) : KA key (bubble p k d) i = if i = k - d then KA key p k else if k - d < i /\ i <= k then KA key p (i - 1) else KA key p i := by
  unfold KA
  simp only [Array.getD_eq_getD_getElem?]
  rw [getElem?_bubble hk d hd]
  repeat' split
  all_goals rfl
theorem zf1 {i j k : Nat} (hj : j <= p.size) : KA key (kas_rev p i j) k = if i <= k /\ k < j then KA key p (i + j - 1 - k) else KA key p k := by
  unfold KA kas_rev
  simp only [Array.getD_eq_getD_getElem?]
  rw [getElem?_mirror_all hj]
  split <;> rfl
theorem zcH {i j : Nat} : (kas_rev p i j).size = p.size := mirror_size _ _ _ _
theorem zcb {i j : Nat} : (kas_rev p i j).Perm p := mirror_perm _ _ _ _
theorem zfh : ∀ (f n : Nat), 1 <= n -> srt key p n -> srt key p (runT (kl key) (kas_asc p f n)) /\ n <= runT (kl key) (kas_asc p f n) /\ runT (kl key) (kas_asc p f n) <= n + f /\
    (runT (kl key) (kas_asc p f n) < n + f -> KA key p (runT (kl key) (kas_asc p f n)) < KA key p (runT (kl key) (kas_asc p f n) - 1))
  | 0, n, h1, hs => ⟨hs, Nat.le_refl _, Nat.le_refl _, fun h => absurd h (Nat.lt_irrefl _)⟩
  | f + 1, n, h1, hs => by
    unfold kas_asc runT
    cases c : kl key (p.getD n 0) (p.getD (n - 1) 0) with
    | true =>
      dsimp only
      rw [if_pos rfl]
      exact ⟨hs, Nat.le_refl _, by show n <= n + (f + 1); omega, fun _ => of_decide_eq_true c⟩
    | false =>
      dsimp only
      rw [if_neg (by decide)]
      have hle : KA key p (n - 1) <= KA key p n := Int.not_lt.mp (of_decide_eq_false c)
      obtain ⟨a1, a2, a3, a4⟩ := zfh f (n + 1) (by omega) (fun i j hij hj => by
        by_cases hjn : j = n
        · subst hjn
          by_cases hin : i = j
          · subst hin; exact Int.le_refl _
          · exact Int.le_trans (hs i (j - 1) (by omega) (by omega)) hle
        · exact hs i j hij (by omega))
      exact ⟨a1, by omega, by omega, fun h => a4 (by omega)⟩
def eqs (key : Nat -> Int) (p : Array Nat) (n q : Nat) : Prop := ∀ i, n - 1 - q <= i -> i < n -> KA key p i = KA key p (n - 1)
theorem zdo : ∀ (f : Nat) (p : Array Nat) (n q : Nat), 1 <= n -> q + 1 <= n -> n + f <= p.size -> dsc key p n -> eqs key p n q ->
    let r := runT (kl key) (kas_desc f p n q)
    r.1.Perm p /\ r.1.size = p.size /\ dsc key r.1 r.2.1 /\ eqs key r.1 r.2.1 r.2.2 /\ r.2.2 + 1 <= r.2.1 /\ n <= r.2.1 /\ r.2.1 <= n + f
  | 0, p, n, q, h1, hq, hz, hd, he => ⟨Array.Perm.refl _, rfl, hd, he, hq, Nat.le_refl _, Nat.le_refl _⟩
  | f + 1, p, n, q, h1, hq, hz, hd, he => by
    intro r
    have hr : r = runT (kl key) (kas_desc (f + 1) p n q) := rfl
    unfold kas_desc runT at hr
    cases c : kl key (p.getD n 0) (p.getD (n - 1) 0) with
    | true =>
      rw [c] at hr; (try dsimp only at hr); rw [if_pos rfl] at hr
      have hlt : KA key p n < KA key p (n - 1) := of_decide_eq_true c
      have ext : ∀ p' : Array Nat, (∀ i, KA key p' i = KA key p i) -> dsc key p' (n + 1) /\ eqs key p' (n + 1) 0 := fun p' hp => ⟨fun i j hij hj => by
          rw [hp, hp]
          by_cases hjn : j = n
          · subst hjn
            by_cases hin : i = j
            · subst hin; exact Int.le_refl _
            · exact Int.le_trans (Int.le_of_lt hlt) (hd i (j - 1) (by omega) (by omega))
          · exact hd i j hij (by omega), fun i hi1 hi2 => by
          have : i = n := by omega
          subst this; rfl⟩
      by_cases hq0 : q > 0
      · rw [if_pos hq0] at hr
        have same : ∀ i, KA key (kas_rev p (n - (q + 1)) n) i = KA key p i := fun i => by
          rw [zf1 (by omega)]
          split
          · rw [he _ (by omega) (by omega), he i (by omega) (by omega)]
          · rfl
        obtain ⟨d1, e1⟩ := ext _ same
        obtain ⟨a1, a2, a3, a4, a5, a6, a7⟩ := zdo f (kas_rev p (n - (q + 1)) n) (n + 1) 0 (by omega) (by omega) (by rw [zcH]; omega) d1 e1
        rw [← hr] at a1 a2 a3 a4 a5 a6 a7
        exact ⟨a1.trans zcb, a2.trans zcH, a3, a4, a5, by omega, by omega⟩
      · rw [if_neg hq0] at hr
        obtain ⟨d1, e1⟩ := ext p fun _ => rfl
        obtain ⟨a1, a2, a3, a4, a5, a6, a7⟩ := zdo f p (n + 1) 0 (by omega) (by omega) (by omega) d1 e1
        rw [← hr] at a1 a2 a3 a4 a5 a6 a7
        exact ⟨a1, a2, a3, a4, a5, by omega, by omega⟩
    | false =>
      rw [c] at hr; (try dsimp only at hr); rw [if_neg (by decide)] at hr
      unfold runT at hr
      have hle : KA key p (n - 1) <= KA key p n := Int.not_lt.mp (of_decide_eq_false c)
      cases d : kl key (p.getD (n - 1) 0) (p.getD n 0) with
      | true =>
        rw [d] at hr; (try dsimp only at hr); rw [if_pos rfl] at hr
        unfold runT at hr
        rw [hr]
        exact ⟨Array.Perm.refl _, rfl, hd, he, hq, Nat.le_refl _, by show n <= n + (f + 1); omega⟩
      | false =>
        rw [d] at hr; (try dsimp only at hr); rw [if_neg (by decide)] at hr
        have hge : KA key p n <= KA key p (n - 1) := Int.not_lt.mp (of_decide_eq_false d)
        obtain ⟨a1, a2, a3, a4, a5, a6, a7⟩ := zdo f p (n + 1) (q + 1) (by omega) (by omega) (by omega) (fun i j hij hj => by
          by_cases hjn : j = n
          · subst hjn
            by_cases hin : i = j
            · subst hin; exact Int.le_refl _
            · exact Int.le_trans hge (hd i (j - 1) (by omega) (by omega))
          · exact hd i j hij (by omega)) (fun i hi1 hi2 => by
          have e0 : KA key p n = KA key p (n - 1) := Int.le_antisymm hge hle
          show KA key p i = KA key p (n + 1 - 1)
          rw [Nat.add_sub_cancel, e0]
          by_cases hin : i = n
          · subst hin; exact e0
          · exact he i (by omega) (by omega))
        rw [← hr] at a1 a2 a3 a4 a5 a6 a7
        exact ⟨a1, a2, a3, a4, a5, by omega, by omega⟩
theorem zeQ {n nrem : Nat} (h1 : 1 <= n) (hn : n <= nrem) (hz : nrem <= p.size) (hd : dsc key p n) :
    let r := runT (kl key) (kas_tail3 n nrem p)
    r.2.Perm p /\ r.2.size = p.size /\ srt key r.2 r.1 /\ 1 <= r.1 /\ r.1 <= nrem := by
  intro r
  have hr : r = runT (kl key) (kas_tail3 n nrem p) := rfl
  unfold kas_tail3 at hr
  rw [zcr] at hr
  have hs : srt key (kas_rev p 0 n) n := fun i j hij hj => by
    rw [zf1 (by omega), zf1 (by omega), if_pos (by omega), if_pos (by omega)]
    exact hd _ _ (by omega) (by omega)
  obtain ⟨a1, a2, a3, _⟩ := zfh (key := key) (p := kas_rev p 0 n) (nrem - n) n h1 hs
  rw [hr]
  exact ⟨zcb, zcH, a1, by show 1 <= runT _ _; omega, by show runT _ _ <= _; omega⟩
theorem zdp {n nrem : Nat} (h1 : 1 <= n) (hn : n + 1 <= nrem) (hz : nrem <= p.size) (hd : dsc key p (n + 1)) :
    let r := runT (kl key) (kas_descPart n nrem p)
    r.2.Perm p /\ r.2.size = p.size /\ srt key r.2 r.1 /\ 1 <= r.1 /\ r.1 <= nrem := by
  intro r
  have hr : r = runT (kl key) (kas_descPart n nrem p) := rfl
  unfold kas_descPart at hr
  rw [zcr] at hr
  obtain ⟨a1, a2, a3, a4, a5, a6, a7⟩ := zdo (key := key) (nrem - (n + 1)) p (n + 1) 0 (by omega) (by omega) (by omega) hd (fun i hi1 hi2 => by
    have : i = n := by omega
    subst this; rfl)
  generalize runT (kl key) (kas_desc (nrem - (n + 1)) p (n + 1) 0) = d at hr a1 a2 a3 a4 a5 a6 a7
  obtain ⟨p1, n1, q1⟩ := d
  dsimp only at hr a1 a2 a3 a4 a5 a6 a7
  by_cases hq : q1 > 0
  · rw [if_pos hq] at hr
    have same : ∀ i, KA key (kas_rev p1 (n1 - (q1 + 1)) n1) i = KA key p1 i := fun i => by
      rw [zf1 (by omega)]
      split
      · rw [a4 _ (by omega) (by omega), a4 i (by omega) (by omega)]
      · rfl
    obtain ⟨b1, b2, b3, b4, b5⟩ := zeQ (key := key) (p := kas_rev p1 (n1 - (q1 + 1)) n1) (n := n1) (nrem := nrem) (by omega) (by omega) (by rw [zcH]; omega) (fun i j hij hj => by rw [same, same]; exact a3 i j hij hj)
    rw [hr]
    exact ⟨(b1.trans zcb).trans a1, (b2.trans zcH).trans a2, b3, b4, b5⟩
  · rw [if_neg hq] at hr
    obtain ⟨b1, b2, b3, b4, b5⟩ := zeQ (key := key) (p := p1) (n := n1) (nrem := nrem) (by omega) (by omega) (by omega) a3
    rw [hr]
    exact ⟨b1.trans a1, b2.trans a2, b3, b4, b5⟩
theorem zic {nrem : Nat} (h1 : 1 <= nrem) (hz : nrem <= p.size) :
    let r := runT (kl key) (kas_count nrem p)
    r.2.Perm p /\ r.2.size = p.size /\ srt key r.2 r.1 /\ 1 <= r.1 /\ r.1 <= nrem := by
  intro r
  have hr : r = runT (kl key) (kas_count nrem p) := rfl
  unfold kas_count at hr
  rw [zcr] at hr
  obtain ⟨a1, a2, a3, a4⟩ := zfh (key := key) (p := p) (nrem - 1) 1 (Nat.le_refl _) (fun i j hij hj => by
    have : i = j := by omega
    subst this; exact Int.le_refl _)
  generalize runT (kl key) (kas_asc p (nrem - 1) 1) = n at hr a1 a2 a3 a4
  by_cases hn : (n == nrem) = true
  · rw [if_pos hn] at hr
    unfold runT at hr
    rw [hr]
    exact ⟨Array.Perm.refl _, rfl, a1, a2, by show n <= nrem; omega⟩
  · rw [if_neg hn] at hr
    have hne : n ≠ nrem := by simpa using hn
    have hlt := a4 (by omega)
    by_cases hn1 : n > 1
    · rw [if_pos hn1] at hr
      unfold runT at hr
      cases c : kl key (p.getD 0 0) (p.getD (n - 1) 0) with
      | true =>
        rw [c] at hr; (try dsimp only at hr); rw [if_pos rfl] at hr
        unfold runT at hr
        rw [hr]
        exact ⟨Array.Perm.refl _, rfl, a1, a2, by show n <= nrem; omega⟩
      | false =>
        rw [c] at hr; (try dsimp only at hr); rw [if_neg (by decide)] at hr
        have hge : KA key p (n - 1) <= KA key p 0 := Int.not_lt.mp (of_decide_eq_false c)
        have all : ∀ i, i < n -> KA key p i = KA key p 0 := fun i hi => Int.le_antisymm (Int.le_trans (a1 i (n - 1) (by omega) (by omega)) hge) (a1 0 i (by omega) hi)
        have same : ∀ i, KA key (kas_rev p 0 n) i = KA key p i := fun i => by
          rw [zf1 (by omega)]
          split
          · rw [all _ (by omega), all i (by omega)]
          · rfl
        obtain ⟨b1, b2, b3, b4, b5⟩ := zdp (key := key) (p := kas_rev p 0 n) (n := n) (nrem := nrem) a2 (by omega) (by rw [zcH]; exact hz) (fun i j hij hj => by
          rw [same, same]
          by_cases hjn : j = n
          · subst hjn
            by_cases hin : i = j
            · subst hin; exact Int.le_refl _
            · rw [all i (by omega)]
              rw [all (j - 1) (by omega)] at hlt
              exact Int.le_of_lt hlt
          · rw [all i (by omega), all j (by omega)]; exact Int.le_refl _)
        rw [hr]
        exact ⟨b1.trans zcb, b2.trans zcH, b3, b4, b5⟩
    · rw [if_neg hn1] at hr
      have : n = 1 := by omega
      subst this
      obtain ⟨b1, b2, b3, b4, b5⟩ := zdp (key := key) (p := p) (n := 1) (nrem := nrem) (Nat.le_refl _) (by omega) hz (fun i j hij hj => by
        by_cases hij2 : i = j
        · subst hij2; exact Int.le_refl _
        · have h0 : i = 0 := by omega
          have h1 : j = 1 := by omega
          subst h0; subst h1
          exact Int.le_of_lt hlt)
      rw [hr]
      exact ⟨b1, b2, b3, b4, b5⟩
theorem zdE {k : Nat} (hs : srt key p k) : ∀ (f l r : Nat), l <= r -> r <= k -> r - l <= f -> (∀ i, i < l -> KA key p i <= KA key p k) -> (∀ i, r <= i -> i < k -> KA key p k < KA key p i) ->
    let m := runT (kl key) (kas_place p k f l r)
    m <= k /\ (∀ i, i < m -> KA key p i <= KA key p k) /\ (∀ i, m <= i -> i < k -> KA key p k < KA key p i)
  | 0, l, r, hlr, hrk, hf, h1, h2 => ⟨by show l <= k; omega, h1, fun i (hi : l <= i) => h2 i (by omega)⟩
  | f + 1, l, r, hlr, hrk, hf, h1, h2 => by
    intro m
    have hm : m = runT (kl key) (kas_place p k (f + 1) l r) := rfl
    unfold kas_place at hm
    by_cases hge : l ≥ r
    · rw [if_pos hge] at hm
      unfold runT at hm
      rw [hm]
      exact ⟨by omega, h1, fun i hi => h2 i (by omega)⟩
    · rw [if_neg hge] at hm
      unfold runT at hm
      cases c : kl key (p.getD k 0) (p.getD ((l + r) / 2) 0) with
      | true =>
        rw [c] at hm; (try dsimp only at hm); rw [if_pos rfl] at hm
        rw [hm]
        have hlt : KA key p k < KA key p ((l + r) / 2) := of_decide_eq_true c
        exact zdE hs f l ((l + r) / 2) (by omega) (by omega) (by omega) h1 fun i hi hik => Int.lt_of_lt_of_le hlt (hs _ _ hi hik)
      | false =>
        rw [c] at hm; (try dsimp only at hm); rw [if_neg (by decide)] at hm
        rw [hm]
        have hle : KA key p ((l + r) / 2) <= KA key p k := Int.not_lt.mp (of_decide_eq_false c)
        exact zdE hs f ((l + r) / 2 + 1) r (by omega) hrk (by omega) (fun i hi => Int.le_trans (hs i ((l + r) / 2) (by omega) (by omega)) hle) h2
theorem zhu : ∀ (f : Nat) (p : Array Nat) (k : Nat), k + f <= p.size -> srt key p k -> let r := runT (kl key) (kas_bin f p k); r.Perm p /\ r.size = p.size /\ srt key r (k + f)
  | 0, p, k, _, hs => ⟨Array.Perm.refl _, rfl, hs⟩
  | f + 1, p, k, hz, hs => by
    intro r
    have hr : r = runT (kl key) (kas_bin (f + 1) p k) := rfl
    unfold kas_bin at hr
    rw [zcr] at hr
    obtain ⟨a1, a2, a3⟩ := zdE (key := key) hs k 0 k (Nat.zero_le _) (Nat.le_refl _) (by omega) (fun i hi => by omega) (fun i h1 h2 => by omega)
    generalize runT (kl key) (kas_place p k k 0 k) = l at hr a1 a2 a3
    have hk : k < p.size := by omega
    obtain ⟨b1, b2, b3⟩ := zhu f (bubble p k (k - l)) (k + 1) (by rw [bubble_size]; omega) (fun i j hij hj => by
      rw [zf0 hk (by omega), zf0 hk (by omega), show k - (k - l) = l by omega]
      by_cases hi : i = l
      · rw [if_pos hi]
        by_cases hjl : j = l
        · rw [if_pos hjl]; exact Int.le_refl _
        · rw [if_neg hjl, if_pos (by omega)]
          exact Int.le_of_lt (a3 (j - 1) (by omega) (by omega))
      · rw [if_neg hi]
        by_cases hi2 : l < i /\ i <= k
        · rw [if_pos hi2, if_neg (show ¬ j = l by omega), if_pos (by omega)]
          exact hs _ _ (by omega) (by omega)
        · rw [if_neg hi2]
          by_cases hjl : j = l
          · rw [if_pos hjl]; exact a2 i (by omega)
          · rw [if_neg hjl]
            split
            · exact hs _ _ (by omega) (by omega)
            · exact hs _ _ (by omega) (by omega))
    rw [hr]
    exact ⟨b1.trans (bubble_perm _ _ _), b2.trans (bubble_size _ _ _), by rw [show k + (f + 1) = k + 1 + f by omega]; exact b3⟩
theorem zju {n : Nat} (h1 : 1 <= n) : let r := runT (kl key) (kas_sort n); r.Perm (List.toArray (List.range n)) /\ r.size = n /\ srt key r n := by
  intro r
  have hr : r = runT (kl key) (kas_sort n) := rfl
  unfold kas_sort at hr
  rw [zcr] at hr
  have hsz : (List.toArray (List.range n)).size = n := by simp
  obtain ⟨a1, a2, a3, a4, a5⟩ := zic (key := key) (p := List.toArray (List.range n)) (nrem := n) h1 (by rw [hsz]; exact Nat.le_refl _)
  generalize runT (kl key) (kas_count n (List.toArray (List.range n))) = d at hr a1 a2 a3 a4 a5
  by_cases hlt : d.1 < n
  · rw [if_pos hlt] at hr
    have hmax : max d.1 1 = d.1 := by omega
    rw [hmax] at hr
    obtain ⟨b1, b2, b3⟩ := zhu (key := key) (n - d.1) d.2 d.1 (by omega) a3
    rw [hr]
    exact ⟨b1.trans a1, by omega, by rw [show d.1 + (n - d.1) = n by omega] at b3; exact b3⟩
  · rw [if_neg hlt] at hr
    unfold runT at hr
    rw [hr]
    exact ⟨a1, by omega, by rw [show d.1 = n by omega] at a3; exact a3⟩
def Asks {α : Type} (N : Nat) (R : α -> Prop) : KasT α -> Prop
  | .ret a => R a
  | .ask i j k => i < N /\ j < N /\ ∀ b, Asks N R (k b)
theorem Asks.bind {α β : Type} {N : Nat} {R : α -> Prop} {S : β -> Prop} {f : α -> KasT β} (hf : ∀ a, R a -> Asks N S (f a)) : ∀ {t : KasT α}, Asks N R t -> Asks N S (t.bind f)
  | .ret a, h => hf a h
  | .ask _ _ k, ⟨h1, h2, h3⟩ => ⟨h1, h2, fun b => Asks.bind hf (h3 b)⟩
theorem zhv {α : Type} {lt : Nat -> Nat -> Bool} {cmp : Nat -> Nat -> (Bool -> Shared -> Prop) -> Shared -> Prop} {s : Shared} {N : Nat} {R : α -> Prop} (hc : ∀ i j C, i < N -> j < N -> C (lt i j) s -> cmp i j C s) : ∀ (t : KasT α) (Q : α -> Shared -> Prop), Asks N R t -> Q (runT lt t) s -> t.kasWp cmp Q s
  | .ret _, _, _, h => h
  | .ask i j k, Q, ⟨h1, h2, h3⟩, h => hc i j _ h1 h2 (zhv hc (k (lt i j)) Q (h3 _) h)
def bnd (N : Nat) (p : Array Nat) : Prop := ∀ i, p.getD i 0 < N
theorem zcY {N : Nat} {p q : Array Nat} (hN : 0 < N) (h : bnd N p) (e : q.Perm p) : bnd N q := fun i => by
  rw [Array.getD_eq_getD_getElem?]
  cases z : q[i]? with
  | none => exact hN
  | some v =>
    have hm : v ∈ q := Array.mem_of_getElem? z
    have hm2 : v ∈ p := e.mem_iff.mp hm
    obtain ⟨j, hj, e2⟩ := Array.mem_iff_getElem.mp hm2
    have := h j
    rw [Array.getD_eq_getD_getElem?, Array.getElem?_eq_getElem hj, e2] at this
    exact this
section
variable {N : Nat} (hN : 0 < N)
include hN
theorem zfi {p : Array Nat} (h : bnd N p) : ∀ (f n : Nat), Asks N (fun _ => True) (kas_asc p f n)
  | 0, _ => trivial
  | f + 1, n => ⟨h _, h _, fun b => by
    cases b with
    | true => (try dsimp only); rw [if_pos rfl]; trivial
    | false => (try dsimp only); rw [if_neg (by decide)]; exact zfi h f (n + 1)⟩
theorem zdq : ∀ (f : Nat) (p : Array Nat) (n q : Nat), bnd N p -> Asks N (fun r => bnd N r.1) (kas_desc f p n q)
  | 0, p, _, _, h => h
  | f + 1, p, n, q, h => ⟨h _, h _, fun b => by
    cases b with
    | true =>
      dsimp only
      rw [if_pos rfl]
      split
      · exact zdq f _ _ _ (zcY hN h zcb)
      · exact zdq f _ _ _ h
    | false =>
      dsimp only
      rw [if_neg (by decide)]
      refine ⟨h _, h _, fun b => ?_⟩
      cases b with
      | true => (try dsimp only); rw [if_pos rfl]; exact h
      | false => (try dsimp only); rw [if_neg (by decide)]; exact zdq f _ _ _ h⟩
theorem zeR {p : Array Nat} {n nrem : Nat} (h : bnd N p) : Asks N (fun r => bnd N r.2) (kas_tail3 n nrem p) :=
  Asks.bind (N := N) (R := fun _ => True) (S := fun r : Nat × Array Nat => bnd N r.2) (f := fun m => .ret (m, kas_rev p 0 n)) (fun _ _ => zcY (p := p) (q := kas_rev p 0 n) hN h zcb) (zfi hN (zcY hN h zcb) _ _)
theorem zdr {p : Array Nat} {n nrem : Nat} (h : bnd N p) : Asks N (fun r => bnd N r.2) (kas_descPart n nrem p) :=
  Asks.bind (fun r hr => by
    split
    · exact zeR hN (zcY hN hr zcb)
    · exact zeR hN hr) (zdq hN _ _ _ _ h)
theorem zid {p : Array Nat} {nrem : Nat} (h : bnd N p) : Asks N (fun r => bnd N r.2) (kas_count nrem p) :=
  Asks.bind (R := fun _ => True) (fun n _ => by
    split
    · exact h
    · split
      · refine ⟨h _, h _, fun b => ?_⟩
        cases b with
        | true => (try dsimp only); rw [if_pos rfl]; exact h
        | false => (try dsimp only); rw [if_neg (by decide)]; exact zdr hN (zcY hN h zcb)
      · exact zdr hN h) (zfi hN h _ _)
theorem zdF {p : Array Nat} (h : bnd N p) (k : Nat) : ∀ (f l r : Nat), Asks N (fun _ => True) (kas_place p k f l r)
  | 0, _, _ => trivial
  | f + 1, l, r => by
    unfold kas_place
    split
    · trivial
    · refine ⟨h _, h _, fun b => ?_⟩
      cases b with
      | true => (try dsimp only); rw [if_pos rfl]; exact zdF h k f _ _
      | false => (try dsimp only); rw [if_neg (by decide)]; exact zdF h k f _ _
theorem zhw : ∀ (f : Nat) (p : Array Nat) (k : Nat), bnd N p -> Asks N (fun _ => True) (kas_bin f p k)
  | 0, _, _, _ => trivial
  | f + 1, p, k, h => Asks.bind (R := fun _ => True) (fun l _ => zhw f _ _ (zcY hN h (bubble_perm _ _ _))) (zdF hN h k _ _ _)
end
theorem zjv {n : Nat} (hn : 0 < n) : Asks n (fun _ => True) (kas_sort n) := by
  have hb : bnd n (List.toArray (List.range n)) := fun i => by
    rw [Array.getD_eq_getD_getElem?]
    by_cases hi : i < n
    · simp [hi]
    · simp [hi, hn]
  refine Asks.bind (fun r hr => ?_) (zid hn hb)
  split
  · exact zhw hn _ _ _ hr
  · trivial
end
end DL
set_option Elab.async false
set_option linter.all false
set_option maxRecDepth 100000
set_option maxHeartbeats 4000000
namespace DL
open PySem PySem.Spec PySem.W PyProof.Rows
def keyP (q : Int × Int) : Int := q.1 * 10000000 + q.2
def okP (q : Int × Int) : Prop := -1000000 <= q.2 /\ q.2 <= 1000000
theorem zmB {x y : Int × Int} (hx : okP x) (hy : okP y) : keyP x < keyP y ↔ (x.1 < y.1 ∨ x.1 = y.1 /\ x.2 < y.2) := by
  unfold keyP okP at *
  omega
theorem zkT {x y : Int × Int} (hx : okP x) (hy : okP y) (h : keyP x = keyP y) : x = y := by
  unfold keyP okP at *
  have h1 : x.1 = y.1 := by omega
  have h2 : x.2 = y.2 := by omega
  exact Prod.ext h1 h2
section
variable {prog : Program} {w : World} {A : Around} {E : Value -> Shared -> Prop} {s : Shared}
def zhx (h : Heap) (v : Value) (q : Int × Int) : Prop := ∃ a t u o n, v = .ref a /\ h.get? a = some o /\ o.cls = .type "tuple" /\ o.data = .seq #[.int q.1 t, .int q.2 u] n
theorem zmC {x y : Value} {p q : Int × Int} {Q : Bool -> Shared -> Prop} (hx : zhx s.heap x p) (hy : zhx s.heap y q) (h : Q (decide (p.1 < q.1 ∨ p.1 = q.1 /\ p.2 < q.2)) s) : wpAny (model prog w) A (keyLt' (tuples' true) x y) Q E s := by
  obtain ⟨a, t, u, o, n, rfl, e1, c1, d1⟩ := hx
  obtain ⟨b, t', u', o', n', rfl, e2, c2, d2⟩ := hy
  refine kat_lt e1 d1 e2 d2 ?_
  show KatLex prog w A true _ Q [(Value.int p.1 t, Value.int q.1 t'), (Value.int p.2 u, Value.int q.2 u')] 0 s
  refine kat_cons (wpAny_eqBool_int ?_)
  by_cases h1 : p.1 = q.1
  · have e : (p.1 == q.1) = true := by simpa using h1
    rw [e]
    refine kat_yes (kat_cons (wpAny_eqBool_int ?_))
    by_cases h2 : p.2 = q.2
    · have e : (p.2 == q.2) = true := by simpa using h2
      rw [e]
      refine kat_yes (kat_nil ?_)
      have : decide (p.1 < q.1 ∨ p.1 = q.1 /\ p.2 < q.2) = false := decide_eq_false (by omega)
      rw [this] at h
      exact h
    · have e : (p.2 == q.2) = false := by simpa using h2
      rw [e]
      refine kat_no (kat_one _ _ (PyProof.Rows.lt_int ?_))
      have : decide (p.1 < q.1 ∨ p.1 = q.1 /\ p.2 < q.2) = decide (p.2 < q.2) := by
        by_cases z : p.2 < q.2
        · rw [decide_eq_true z, decide_eq_true (.inr ⟨h1, z⟩)]
        · rw [decide_eq_false z, decide_eq_false (by omega)]
      rw [this] at h
      exact h
  · have e : (p.1 == q.1) = false := by simpa using h1
    rw [e]
    refine kat_no (oneLt_int ?_)
    have : decide (p.1 < q.1 ∨ p.1 = q.1 /\ p.2 < q.2) = decide (p.1 < q.1) := by
      by_cases z : p.1 < q.1
      · rw [decide_eq_true z, decide_eq_true (.inl z)]
      · rw [decide_eq_false z, decide_eq_false (by omega)]
    rw [this] at h
    exact h
def zbC (h : Heap) : List Value -> List (Int × Int) -> Prop
  | [], [] => True
  | v :: vs, q :: qs => zhx h v q /\ zbC h vs qs
  | _, _ => False
theorem zbC.get {h : Heap} : ∀ {vs : List Value} {qs : List (Int × Int)}, zbC h vs qs -> vs.length = qs.length /\ ∀ (i : Nat) (hi : i < vs.length), zhx h (vs.getD i .none) (qs.getD i (0, 0))
  | [], [], _ => ⟨rfl, fun i hi => absurd hi (Nat.not_lt_zero _)⟩
  | v :: vs, q :: qs, ⟨h1, h2⟩ => by
    obtain ⟨e, f⟩ := zbC.get h2
    refine ⟨by simp [e], fun i hi => ?_⟩
    cases i with
    | zero => exact h1
    | succ i => exact f i (by simpa using hi)
theorem zbC.tups {h : Heap} : ∀ {vs : List Value} {qs : List (Int × Int)}, zbC h vs qs -> ∃ fs : List Value, KatTups h vs fs /\ fs.length = vs.length /\ ∀ v ∈ fs, ∃ i t, v = .int i t
  | [], [], _ => ⟨[], trivial, rfl, fun _ h => by cases h⟩
  | v :: vs, q :: qs, ⟨hp, h2⟩ => by
    obtain ⟨a, t, u, o, n, rfl, e1, c1, d1⟩ := hp
    obtain ⟨fs, f1, f2, f3⟩ := zbC.tups h2
    refine ⟨.int q.1 t :: fs, .cons e1 c1 d1 rfl f1, by simp [f2], fun v hv => ?_⟩
    rcases List.mem_cons.mp hv with rfl | hv
    · exact ⟨_, _, rfl⟩
    · exact f3 v hv
theorem zbC.mono {h h' : Heap} (k : ∀ b o, h.get? b = some o -> h'.get? b = some o) : ∀ {vs : List Value} {qs : List (Int × Int)}, zbC h vs qs -> zbC h' vs qs
  | [], [], _ => trivial
  | v :: vs, q :: qs, ⟨hp, h2⟩ => by
    obtain ⟨a, t, u, o, n, rfl, e1, c1, d1⟩ := hp
    exact ⟨⟨a, t, u, o, n, rfl, k _ _ e1, c1, d1⟩, zbC.mono k h2⟩
def zkU (qs : List (Int × Int)) (π : List Nat) : Prop := π.Perm (List.range qs.length) /\ (π.map fun i => qs.getD i (0, 0)).Pairwise fun x y => keyP x <= keyP y
theorem zeo {a : Addr} {vs : List Value} {qs : List (Int × Int)} {n : Nat} {P : Fin -> Shared -> Prop} (ho : s.heap.get? a = some (seqObj "list" vs.toArray n))
    (hp : zbC ((s.heap.update a (Obj.mapSeq fun _ => #[]))) vs qs) (hq : ∀ q ∈ qs, okP q) (h64 : vs.length < 64)
    (h : ∀ π : List Nat, zkU qs π -> P (.done (.ret .none)) { s with heap := sortedHeap s.heap a vs (List.toArray (π.map fun i => vs.getD i .none)) }) :
    wpAny (model prog w) A (Builtin.«list.sort» ⟨[.ref a], []⟩) P E s := by
  obtain ⟨hl, hget⟩ := hp.get
  rw [list_sort_plain]
  have ha : a < s.heap.objs.size := Heap.lt_size ho
  refine wpAny_bind (listItems_at ho rfl ?_)
  refine wpAny_bind (listUpdate_at ho rfl ?_)
  obtain ⟨e1, ho1⟩ : ∃ e1, (s.heap.update a (Obj.mapSeq fun _ => #[])).get? a = some (seqObj "list" #[] e1) := ⟨_, get?_update_seq ho (fun _ => #[])⟩
  refine wpAny_bind (seqEpoch_at ho1 rfl ?_)
  refine wpAny_bind (wpAny_newTuple ?_)
  refine wpAny_bind (wpAny_newList ?_)
  refine wpAny_holding ?_
  have ho6 : (((s.heap.update a (Obj.mapSeq fun _ => #[])).push (seqObj "tuple" vs.toArray 0)).push (seqObj "list" #[] 0)).get? a = some (seqObj "list" #[] e1) := by
    rw [Heap.get?_push_ne _ _ _ (by rw [size_push', Heap.size_update]; exact Nat.ne_of_lt (Nat.lt_succ_of_lt ha)), Heap.get?_push_ne _ _ _ (by rw [Heap.size_update]; exact Nat.ne_of_lt ha)]
    exact ho1
  have hp6 : zbC (((s.heap.update a (Obj.mapSeq fun _ => #[])).push (seqObj "tuple" vs.toArray 0)).push (seqObj "list" #[] 0)) vs qs := hp.mono fun b o e => Heap.get?_push_of_some _ (Heap.get?_push_of_some _ e)
  show wpAny (model prog w) A _ P E { s with heap := ((s.heap.update a (Obj.mapSeq fun _ => #[])).push (seqObj "tuple" vs.toArray 0)).push (seqObj "list" #[] 0) }
  dsimp only
  have hsz : vs.toArray.size = vs.length := by simp
  by_cases h2 : vs.toArray.size < 2
  · rw [if_pos h2, if_pos h2]
    refine wpAny_bind (wpAny_pure ?_)
    rw [StateT.run_pure]
    refine wpAny_bind (wpAny_pure ?_)
    dsimp only
    refine wpAny_bind (seqEpoch_at ho6 rfl ?_)
    refine wpAny_bind (listUpdate_at ho6 rfl ?_ (hsz2 := by rw [Array.size_map]; show (pairsOf vs).size <= _; rw [pairsOf_size, sizeLine_eq]; omega))
    simp only [bne_self_eq_false, Bool.false_eq_true, if_false]
    have hid : (arrOf (SortSt.mk' general' (vs.toArray.zip vs.toArray) #[] 7 none)).map (·.2) = List.toArray ((List.range vs.length).map fun i => vs.getD i .none) := by
      show (vs.toArray.zip vs.toArray).map (·.2) = _
      apply Array.toList_inj.mp
      apply List.ext_getElem?
      intro i
      simp only [Array.toList_map, Array.toList_zip, List.getElem?_map, List.getElem?_zip_eq_some]
      by_cases hi : i < vs.length
      · simp [List.getElem?_zip_eq_some, hi, List.getElem?_range]
      · simp [hi]
    rw [hid]
    refine wpAny_pure (h (List.range vs.length) ⟨by rw [hl], ?_⟩)
    rw [List.pairwise_map]
    rw [hsz] at h2
    rcases (show vs.length = 0 ∨ vs.length = 1 by omega) with z | z <;> rw [z]
    · exact .nil
    · exact List.pairwise_singleton _ _
  · rw [if_neg h2, if_neg h2]
    rw [hsz] at h2
    obtain ⟨fs, f1, f2, f3⟩ := hp6.tups
    refine wpAny_bind (kat_kind (T := .type "int") f1 (by omega) (fun v hv => by obtain ⟨i, t, rfl⟩ := f3 v hv; exact (show Looks _ _ (pure (Value.type "int")) _ from .now)) rfl ?_)
    refine wpAny_bind (wpAny_mono (kat_run (ks := vs) (G := fun p s' => s' = { s with heap := ((s.heap.update a (Obj.mapSeq fun _ => #[])).push (seqObj "tuple" vs.toArray 0)).push (seqObj "list" #[] 0) } /\ p = runT (kl fun i => keyP (qs.getD i (0, 0))) (kas_sort vs.length))
      (Q := fun st' s' => s' = { s with heap := ((s.heap.update a (Obj.mapSeq fun _ => #[])).push (seqObj "tuple" vs.toArray 0)).push (seqObj "list" #[] 0) } /\ failedOf st' = none /\ arrOf st' = (runT (kl fun i => keyP (qs.getD i (0, 0))) (kas_sort vs.length)).map (kas_item (vs.toArray.zip vs.toArray)))
      rfl (by omega) h64 (fun p st' s' a1 a2 a3 a4 => ⟨a4.1, a3, by rw [a2, a4.2]⟩) ?_) ?_ fun _ _ e => e)
    · refine zhv (N := vs.length) (R := fun _ => True) (lt := kl fun i => keyP (qs.getD i (0, 0))) (fun i j C hi hj hC => ?_) _ _ (zjv (by omega)) ⟨rfl, rfl⟩
      refine zmC (zbC.get hp6 |>.2 i hi) (zbC.get hp6 |>.2 j hj) ?_
      have oi : okP (qs.getD i (0, 0)) := hq _ (by rw [List.getD_eq_getElem?_getD, List.getElem?_eq_getElem (by omega)]; exact List.getElem_mem _)
      have oj : okP (qs.getD j (0, 0)) := hq _ (by rw [List.getD_eq_getElem?_getD, List.getElem?_eq_getElem (by omega)]; exact List.getElem_mem _)
      have e : decide ((qs.getD i (0, 0)).1 < (qs.getD j (0, 0)).1 ∨ (qs.getD i (0, 0)).1 = (qs.getD j (0, 0)).1 /\ (qs.getD i (0, 0)).2 < (qs.getD j (0, 0)).2) = kl (fun i => keyP (qs.getD i (0, 0))) i j := by
        unfold kl
        exact decide_eq_decide.mpr (zmB oi oj).symm
      rw [e]
      exact hC
    · rintro ⟨⟨⟩, st'⟩ s' ⟨rfl, hf, har⟩
      dsimp only
      obtain ⟨b1, b2, b3⟩ := zju (key := fun i => keyP (qs.getD i (0, 0))) (n := vs.length) (by omega)
      generalize runT (kl fun i => keyP (qs.getD i (0, 0))) (kas_sort vs.length) = p at har b1 b2 b3
      have hout := kat_snds (ks := vs) (vs := vs) rfl har
      have hsz2 : ((arrOf st').map (·.2)).size = vs.length := by rw [hout, List.size_toArray, List.length_map, Array.length_toList, b2]
      refine wpAny_bind (seqEpoch_at ho6 rfl ?_)
      refine wpAny_bind (listUpdate_at ho6 rfl ?_ (hsz2 := by rw [hsz2, sizeLine_eq]; omega))
      rw [hf]
      simp only [bne_self_eq_false, Bool.false_eq_true, if_false]
      rw [hout]
      refine wpAny_pure (h p.toList ⟨?_, ?_⟩)
      · have := Array.perm_iff_toList_perm.mp b1
        rw [← hl]
        exact this
      · rw [List.pairwise_map, List.pairwise_iff_getElem]
        intro i j hi hj hij
        rw [Array.length_toList, b2] at hi hj
        have := b3 i j (by omega) hj
        unfold KA at this
        rw [Array.getD_eq_getD_getElem?, Array.getD_eq_getD_getElem?, Array.getElem?_eq_getElem (by omega), Array.getElem?_eq_getElem (by omega)] at this
        simpa using this
end
end DL
set_option Elab.async false
set_option linter.all false
set_option maxRecDepth 100000
set_option maxHeartbeats 4000000
namespace DL
open PySem PySem.Spec PySem.W PyProof.Rows
section
variable {prog : Program} {w : World} {A : Around} {E : Value -> Shared -> Prop} {s : Shared}
theorem zf2 {l : Addr} {vs : List Value} {qs : List (Int × Int)} {Q : Value -> Shared -> Prop} (hl : s.heap.IsList l vs.toArray) (hp : zbC s.heap vs qs) (hq : ∀ q ∈ qs, okP q) (h64 : vs.length < 64)
    (h : ∀ π : List Nat, zkU qs π -> Q (.ref (s.heap.objs.size + 1)) { s with heap := sortedAll s.heap vs (List.toArray (π.map fun i => vs.getD i .none)) }) :
    wpAny (model prog w) A (call (.builtin "sorted") [.ref l]) Q E s := by
  refine Calls.call_function_entry kind_sorted plain_sorted entry_sorted (args_sorted1 _) ?_
  unfold Builtin.«sorted»
  refine wpAny_bind (m := checkCount "sorted" 1 1 _) (wpAny_pure ?_)
  refine wpAny_bind (collect_list hl ?_)
  refine wpAny_bind (wpAny_newList ?_)
  have hsz : ((s.heap.push (seqObj "list" #[] 0)).update s.heap.objs.size (Obj.mapSeq (· ++ vs.toArray))).objs.size = s.heap.objs.size + 1 := by
    rw [Heap.size_update, size_push']
  have hoL : (((s.heap.push (seqObj "list" #[] 0)).update s.heap.objs.size (Obj.mapSeq (· ++ vs.toArray))).push (seqObj "list" vs.toArray 0)).get? (s.heap.objs.size + 1) = some (seqObj "list" vs.toArray 0) := by
    rw [← hsz]; exact Heap.get?_push_size _ rfl
  show wpAny _ _ _ _ _ { s with heap := ((s.heap.push (seqObj "list" #[] 0)).update s.heap.objs.size (Obj.mapSeq (· ++ vs.toArray))).push (seqObj "list" vs.toArray 0) }
  rw [hsz]
  refine wpAny_bind (wpAny_holding (wpAny_call_entry slot_list_sort ⟨_, hoL, rfl⟩ entry_list_sort (zeo (qs := qs) hoL (hp.mono fun b o e => ?_) hq h64 fun π a1 => ⟨_, rfl, ?_⟩) (args_list_sort _)))
  · have hlt : b < s.heap.objs.size := Heap.lt_size e
    dsimp only
    have hlt' : (b : Nat) < s.heap.objs.size := hlt
    rw [Heap.get?_update_ne _ _ _ _ (Nat.ne_of_lt (Nat.lt_succ_of_lt hlt')), Heap.get?_push_ne _ _ _ (by rw [hsz]; exact Nat.ne_of_lt (Nat.lt_succ_of_lt hlt')), Heap.get?_update_ne _ _ _ _ (Nat.ne_of_lt hlt), Heap.get?_push_ne _ _ _ (Nat.ne_of_lt hlt)]
    exact e
  · exact wpAny_pure ⟨_, rfl, h π a1⟩
end
end DL
namespace DL
open PySem PySem.Spec L2
open PyProof.Rows hiding St
section
variable {X : Cx}
theorem zhy {pins : List (Addr × Obj)} {s : Shared} {σ : St} {H : Hp} (I : Inv X pins σ H s) : ∀ {as : List Addr} {us : List Value} {qs : List (Int × Int)}, Vals (as.map V.ref) us -> as.length = qs.length -> (∀ (i : Nat) a q, as[i]? = some a -> qs[i]? = some q -> SqT X.K H a [.int q.1, .int q.2]) -> zbC s.heap us qs
  | [], _, [], .nil, _, _ => trivial
  | a :: as, _, q :: qs, .cons r t, hl, h => by
    refine ⟨?_, zhy I t (by simpa using hl) fun i a q h1 h2 => h (i + 1) a q (by simpa using h1) (by simpa using h2)⟩
    cases r
    obtain ⟨its, rv, ⟨o, e, c, n, d⟩, _⟩ := I.tuple (h 0 a q rfl rfl)
    obtain ⟨u, v, rfl, r1, r2⟩ := rv.two
    obtain ⟨t1, rfl⟩ := r1
    obtain ⟨t2, rfl⟩ := r2
    exact ⟨a, t1, t2, o, n, rfl, e, c, by simpa using d⟩
theorem zf3 {as : List Addr} {us : List Value} (r : Vals (as.map V.ref) us) : ∀ (π : List Nat), (∀ i ∈ π, i < as.length) -> Vals (π.map fun i => V.ref (as.getD i 0)) (π.map fun i => us.getD i .none)
  | [], _ => .nil
  | i :: π, h => by
    refine .cons ?_ (zf3 r π fun j hj => h j (List.mem_cons_of_mem _ hj))
    have hi := h i List.mem_cons_self
    have e : (as.map V.ref)[i]? = some (.ref (as.getD i 0)) := by rw [List.getElem?_map, List.getElem?_eq_getElem hi]; simp [List.getD, List.getElem?_eq_getElem hi]
    obtain ⟨u, e2, ru⟩ := r.get e
    simp only [List.getD, e2, Option.getD_some]
    exact ru
theorem zie : zc1 X (.builtin "sorted") (fun xs H Q => ∃ l, ∃ as : List Addr, ∃ qs : List (Int × Int), xs = [.ref l] /\ SqL X.K H l (as.map V.ref) /\ as.length = qs.length /\ (∀ (i : Nat) a q, as[i]? = some a -> qs[i]? = some q -> SqT X.K H a [.int q.1, .int q.2]) /\ (∀ q ∈ qs, okP q) /\ qs.length < 64 /\
    ∀ π p, zkU qs π -> H p = none -> Q (.ref p) (upd H p (.lst (π.map fun i => V.ref (as.getD i 0))))) := by
  intro pins s σ H xs us Q I rx h
  obtain ⟨l, as, qs, rfl, hq, hl, ht, ho, hb, q⟩ := h
  obtain ⟨u, rfl, ru⟩ := rx.one
  cases ru
  obtain ⟨its, rv, p, hz⟩ := I.list hq
  have hn : its.length = qs.length := by have := rv.length; rw [List.length_map] at this; omega
  refine zf2 (qs := qs) p.isList (zhy I rv hl ht) ho (by omega) fun π hπ => ?_
  obtain ⟨e, he⟩ := sortedAll_at s.heap its (List.toArray (π.map fun i => its.getD i .none))
  have hπl : ∀ i ∈ π, i < as.length := fun i hi => by
    have := hπ.1.mem_iff.mp hi
    rw [List.mem_range] at this
    omega
  refine ⟨.ref (s.heap.objs.size + 1), _, I.laid (t' := s.toks) (fun b o => sortedAll_old) (Nat.le_succ _) (show zct X.prog X.w _ _ _ (.lst (π.map fun i => V.ref (as.getD i 0))) from ⟨?_, _, e, zf3 rv π hπl, he⟩), rfl, q π _ hπ (I.hok.fresh (Nat.le_succ _))⟩
  rw [List.length_map, hπ.1.length_eq, List.length_range]
  rw [List.length_map] at hz
  omega
def zhz : D -> Option (Int × Int)
  | .tuple [.int a, .int b] => some (a, b)
  | _ => none
def zcZ : List D -> Option (List (Int × Int))
  | [] => some []
  | d :: r => (zhz d).bind fun q => (zcZ r).map (q :: ·)
def duoD (q : Int × Int) : D := .tuple [.int q.1, .int q.2]
theorem zjw {d : D} {q : Int × Int} (h : zhz d = some q) : d = duoD q := by
  unfold zhz at h
  split at h
  · cases h; rfl
  · cases h
theorem zep : ∀ {ds : List D} {qs : List (Int × Int)}, zcZ ds = some qs -> ds = qs.map duoD
  | [], qs, h => by cases h; rfl
  | d :: r, qs, h => by
    unfold zcZ at h
    cases z : zhz d with
    | none => rw [z] at h; cases h
    | some q =>
      rw [z] at h
      cases z2 : zcZ r with
      | none => rw [z2] at h; cases h
      | some qs' => rw [z2] at h; cases h; rw [zjw z, zep z2]; rfl
def zjx (qs : List (Int × Int)) : List (Int × Int) := qs.mergeSort fun x y => decide (keyP x <= keyP y)
theorem zif (qs : List (Int × Int)) : (zjx qs).Perm qs := List.mergeSort_perm ..
theorem zjy (qs : List (Int × Int)) : (zjx qs).Pairwise fun x y => keyP x <= keyP y := by
  have := List.pairwise_mergeSort (le := fun x y : Int × Int => decide (keyP x <= keyP y)) (by intro a b c; simp; omega) (by intro a b; simp; omega) qs
  exact this.imp (by simp)
theorem zhA : ∀ {a b : List (Int × Int)}, (∀ x ∈ a, okP x) -> a.Perm b -> a.Pairwise (fun x y => keyP x <= keyP y) -> b.Pairwise (fun x y => keyP x <= keyP y) -> a = b
  | [], b, _, p, _, _ => by rw [List.nil_perm.1 p]
  | x :: a, [], _, p, _, _ => by have := p.length_eq; simp at this
  | x :: a, y :: b, ok, p, ha, hb => by
    have hx : keyP y <= keyP x := by
      rcases List.mem_cons.1 (p.mem_iff.1 (List.mem_cons_self ..)) with e | e
      · rw [e]; exact Int.le_refl _
      · exact (List.pairwise_cons.1 hb).1 x e
    have hy : keyP x <= keyP y := by
      rcases List.mem_cons.1 (p.mem_iff.2 (List.mem_cons_self ..)) with e | e
      · rw [e]; exact Int.le_refl _
      · exact (List.pairwise_cons.1 ha).1 y e
    have oky : okP y := ok y (p.mem_iff.2 (List.mem_cons_self ..))
    have e := zkT (ok x (List.mem_cons_self ..)) oky (Int.le_antisymm hy hx)
    subst e
    rw [zhA (fun z hz => ok z (List.mem_cons_of_mem _ hz)) (List.Perm.cons_inv p) (List.pairwise_cons.1 ha).2 (List.pairwise_cons.1 hb).2]
theorem zkV {qs : List (Int × Int)} {π : List Nat} (ok : ∀ q ∈ qs, okP q) (h : zkU qs π) : (π.map fun i => qs.getD i (0, 0)) = zjx qs := by
  have hp : (π.map fun i => qs.getD i (0, 0)).Perm qs := by
    have h1 := h.1.map fun i => qs.getD i (0, 0)
    have e : (List.range qs.length).map (fun i => qs.getD i (0, 0)) = qs := by
      apply List.ext_getElem?
      intro i
      rw [List.getElem?_map]
      by_cases hi : i < qs.length
      · rw [List.getElem?_range hi, List.getElem?_eq_getElem hi]; simp [List.getD, List.getElem?_eq_getElem hi]
      · rw [List.getElem?_eq_none (by rw [List.length_range]; omega), List.getElem?_eq_none (by omega)]; rfl
    rw [e] at h1
    exact h1
  exact zhA (fun x hx => ok x (hp.mem_iff.mp hx)) (hp.trans (zif qs).symm) h.2 (zjy qs)
def okPB (q : Int × Int) : Bool := decide (-1000000 <= q.2 /\ q.2 <= 1000000)
def zhB : List D -> Option D
  | [.list ds] => (match zcZ ds with
    | some qs => if qs.length < 64 /\ qs.all okPB = true then some (.list ((zjx qs).map duoD)) else none
    | none => none)
  | _ => none
theorem zig {xs : List D} {d : D} (h : zhB xs = some d) : ∃ qs : List (Int × Int), xs = [.list (qs.map duoD)] /\ qs.length < 64 /\ (∀ q ∈ qs, okP q) /\ d = .list ((zjx qs).map duoD) := by
  unfold zhB at h
  split at h
  · rename_i ds
    cases z : zcZ ds with
    | none => rw [z] at h; cases h
    | some qs =>
      rw [z] at h
      dsimp only at h
      split at h
      · rename_i c
        cases h
        exact ⟨qs, by rw [zep z], c.1, fun q hq => (show -1000000 <= q.2 /\ q.2 <= 1000000 from of_decide_eq_true (List.all_eq_true.mp c.2 q hq)), rfl⟩
      · cases h
  · cases h
theorem zf4 {K : PySem.W.Frag} {G : Hp} : ∀ {vs : List V} {qs : List (Int × Int)}, Reps K G vs (qs.map duoD) -> ∃ as : List Addr, vs = as.map V.ref /\ as.length = qs.length /\ ∀ (i : Nat) a q, as[i]? = some a -> qs[i]? = some q -> SqT K G a [.int q.1, .int q.2]
  | _, [], .nil => ⟨[], rfl, rfl, fun i a q h => by simp at h⟩
  | _, q :: qs, .cons r t => by
    obtain ⟨as, rfl, hl, h⟩ := zf4 t
    obtain ⟨a, ws, rfl, h1, r1⟩ := r.tup_inv
    cases r1 with
    | cons ra rb =>
      obtain ⟨v, rfl, rb'⟩ := rb.one_inv
      refine ⟨a :: as, rfl, by simp [hl], fun i a' q' e1 e2 => ?_⟩
      cases i with
      | zero =>
        cases e1; cases e2
        rw [ra.int_inv, rb'.int_inv] at h1
        exact h1
      | succ i => exact h i a' q' (by simpa using e1) (by simpa using e2)
theorem zkW {K : PySem.W.Frag} {G : Hp} {a : Addr} {q : Int × Int} (h : SqT K G a [.int q.1, .int q.2]) : Rep K G (.ref a) (duoD q) := .tup h (.cons (.int _) (.cons (.int _) .nil))
theorem zf5 {K : PySem.W.Frag} {G : Hp} {as : List Addr} {qs : List (Int × Int)} (hl : as.length = qs.length) (h : ∀ (i : Nat) a q, as[i]? = some a -> qs[i]? = some q -> SqT K G a [.int q.1, .int q.2]) : ∀ π : List Nat, (∀ i ∈ π, i < qs.length) -> Reps K G (π.map fun i => V.ref (as.getD i 0)) ((π.map fun i => qs.getD i (0, 0)).map duoD)
  | [], _ => .nil
  | i :: π, hb => by
    refine .cons ?_ (zf5 hl h π fun j hj => hb j (List.mem_cons_of_mem _ hj))
    have hi := hb i List.mem_cons_self
    refine zkW (h i _ _ ?_ ?_)
    · rw [List.getElem?_eq_getElem (by omega)]; simp [List.getD, List.getElem?_eq_getElem (show i < as.length by omega)]
    · rw [List.getElem?_eq_getElem hi]; simp [List.getD, List.getElem?_eq_getElem hi]
theorem zmD : zc3 X (.builtin "sorted") zhB := by
  refine ⟨_, zie, fun vs G H ds d Q s r e k => ?_⟩
  obtain ⟨qs, rfl, h64, ok, rfl⟩ := zig e
  obtain ⟨v, rfl, q1⟩ := r.one_inv
  obtain ⟨l, ws, rfl, h1, r1⟩ := q1.lst_inv
  obtain ⟨as, rfl, hl, ht⟩ := zf4 r1
  refine ⟨l, as, qs, rfl, s.seq h1, hl, fun i a q e1 e2 => zdg s (ht i a q e1 e2), ok, h64, fun π p hπ hp => ?_⟩
  have hb : ∀ i ∈ π, i < qs.length := fun i hi => List.mem_range.mp (hπ.1.mem_iff.mp hi)
  have rr := (zf5 hl ht π hb).mono (zaK (s.free hp) : Same G (upd G p (.lst (π.map fun i => V.ref (as.getD i 0)))))
  rw [zkV ok hπ] at rr
  exact k _ _ _ (Ext.new s hp) (.lst (SqL.of zaH) rr)
theorem zc3.or {f : Value} {p q : List D -> Option D} (h1 : zc3 X f p) (h2 : zc3 X f q) : zc3 X f (fun xs => (p xs).orElse fun _ => q xs) := by
  obtain ⟨r1, c1, k1⟩ := h1
  obtain ⟨r2, c2, k2⟩ := h2
  refine ⟨fun xs H Q => r1 xs H Q ∨ r2 xs H Q, fun pins s σ H xs us Q I rx h => ?_, fun vs G H ds d Q s r e k => ?_⟩
  · rcases h with h | h
    · exact c1 pins s σ H xs us Q I rx h
    · exact c2 pins s σ H xs us Q I rx h
  · dsimp only at e
    cases z : p ds with
    | some d' => rw [z] at e; cases e; exact .inl (k1 vs G H ds _ Q s r z k)
    | none => rw [z] at e; exact .inr (k2 vs G H ds _ Q s r e k)
def zkX (xs : List D) : Option D := (zeM xs).orElse fun _ => zhB xs
theorem zol : zc3 X (.builtin "sorted") zkX := zmu.or zmD
theorem zih {ns : List Int} (h : ns.length < 64) : zkX [.list (ns.map .int)] = some (.list ((zch ns).map .int)) := by unfold zkX; rw [zjj h]; rfl
end
end DL
set_option Elab.async false
set_option linter.all false
set_option maxRecDepth 100000
set_option maxHeartbeats 4000000
namespace DL
open PySem PySem.Spec L2
open PyProof.Rows hiding St
section
variable {X : Cx}
def zgT : List D -> Option D
  | [d] => if d.canLay0 = true /\ d.showable = true /\ d.hasDict = false /\ d.depth <= 50 /\ d.shown.length <= 1000000 then some (.str d.shown) else none
  | _ => none
theorem zjz (hu : X.A.units + 64 < cLine) (hg : X.A.guards = some []) : zc1 X (.builtin "repr") (fun xs H Q => ∃ G v d, xs = [v] /\ Same G H /\ Rep X.K G v d /\ d.canLay0 = true /\ d.showable = true /\ d.hasDict = false /\ d.depth <= 50 /\ d.shown.length <= 1000000 /\ Q (.str d.shown) H) := by
  intro pins s σ H xs us Q I rx h
  obtain ⟨G, v, d, rfl, sg, r, c1, c2, c3, c4, c5, q⟩ := h
  obtain ⟨u, rfl, ru⟩ := rx.one
  obtain ⟨as, ra⟩ := zbl I sg r ru c1
  have fin : ∀ h' (t : Tok) tk, (∀ b o, s.heap.get? b = some o -> h'.get? b = some o) -> EP X pins σ Q (.str d.shown t) { s with heap := h', toks := tk } := fun h' t tk hk => ⟨.str d.shown, H, I.kept hk, ⟨t, rfl⟩, q⟩
  cases r with
  | non => cases ru; exact P.repr_of_none (fin s.heap _ _ fun _ _ e => e)
  | bl b => cases ru; exact P.repr_of_bool (fin s.heap _ _ fun _ _ e => e)
  | int i =>
    obtain ⟨t, rfl⟩ := ru
    exact P.repr_of_int (by
      have : (PyData.int i).showable = true := c2
      simpa [PyData.showable] using this) (fin s.heap _ _ fun _ _ e => e)
  | str x =>
    obtain ⟨t, rfl⟩ := ru
    exact P.repr_of_str (fin s.heap _ _ fun _ _ e => e) (Nat.le_trans c5 lim)
  | lst h r =>
    cases ru
    exact repr_of_reads' ra c2 (fun z => by rw [c3] at z; cases z) hg (by omega) (fun _ _ e => e) (fun h' t tk hk => fin h' t tk hk) (Nat.le_trans c5 lim)
  | tup h r =>
    cases ru
    exact repr_of_reads' ra c2 (fun z => by rw [c3] at z; cases z) hg (by omega) (fun _ _ e => e) (fun h' t tk hk => fin h' t tk hk) (Nat.le_trans c5 lim)
  | dic h => cases c1
theorem zlN (hu : X.A.units + 64 < cLine) (hg : X.A.guards = some []) : zc3 X (.builtin "repr") zgT := by
  refine ⟨_, zjz hu hg, fun vs G H ds d Q s r e k => ?_⟩
  unfold zgT at e
  split at e
  · split at e
    · rename_i x c
      cases e
      obtain ⟨v, rfl, q1⟩ := r.one_inv
      exact ⟨G, v, _, rfl, s, q1, c.1, c.2.1, c.2.2.1, c.2.2.2.1, c.2.2.2.2, k _ G H (.refl s) (.str _)⟩
    · cases e
  · cases e
theorem zeS : bootBuiltins "repr" = some (.builtin "repr") := by decide +kernel
theorem zkY {d : D} (c : d.canLay0 = true /\ d.showable = true /\ d.hasDict = false /\ d.depth <= 50 /\ d.shown.length <= 1000000) : zgT [d] = some (.str d.shown) := by unfold zgT; exact if_pos c
end
end DL
set_option Elab.async false
set_option linter.all false
set_option maxRecDepth 100000
set_option maxHeartbeats 4000000
namespace DL
open PySem PySem.Spec L2
open PyProof.Rows hiding St
section
variable {X : Cx} {B G0 : Hp} {e o a b c tg : Expr} {pos p2 : Pos} {es rest : List Expr} {te to ti : TE}
def zii {β : Type} (p : D -> D -> Option β) (f : M D) (j : Nat) : M β := zas f fun x => fun ρ => match ρ[j]? with
  | some (some (.pub d)) => mOpt (p x d) ρ
  | some (some (.own ds)) => mOpt (p x (.list ds)) ρ
  | _ => .bad
theorem zpV {K : PySem.W.Frag} {σ : St} {H : Hp} {p : D -> D -> Option Bool} {r : R2} {j : Nat} {f : M D} {Q : Bool -> Hp -> Prop} {QV : VK} (hq : ∀ t H3, Q t H3 -> QV (.bl t) H3)
    (hr : ∀ v u G H x y d Q, Same G H -> Rep K G v x -> Rep K G u y -> p x y = some d -> Q (.bl d) H -> r v u H Q)
    (q : tBo K B G0 (zii p f j) σ H Q) : tD K B G0 f σ H fun x H1 => tVar j σ H1 fun y H2 => r x y H2 QV := by
  refine tM.one (R := Rep K) q fun v H2 G ρ x k rx a => ?_
  cases z : ρ[j]? with
  | none => rw [z] at a; exact a.elim
  | some o =>
    cases o with
    | none => rw [z] at a; exact a.elim
    | some sl =>
      cases sl with
      | pub d =>
        rw [z] at a
        dsimp only at a
        obtain ⟨d', e', a'⟩ := aft.opt a
        obtain ⟨u, h1, h2⟩ := k.pub j d z
        exact ⟨u, h1, hr v u G H2 x d d' _ k.gh rx h2 e' (hq _ _ (a' d' G H2 k (.refl _) rfl))⟩
      | own ds =>
        rw [z] at a
        dsimp only at a
        obtain ⟨d', e', a'⟩ := aft.opt a
        obtain ⟨ad, vs, h1, h2, h3, h4, h5⟩ := k.own j ds z
        exact ⟨.ref ad, h1, hr v (.ref ad) H2 H2 x (.list ds) d' _ (.refl _) (rx.mono k.gh) (.lst (SqL.of h4) (h5.mono k.gh)) e' (hq _ _ (a' d' G H2 k (.refl _) rfl))⟩
theorem zmE {op : CmpOp} {p : D -> D -> Option Bool} {j : Nat} {f : M D} (o : OpB X (compareOp op) p) (ha : PE X a (tD X.K B G0 f)) (hb : PE X b (tVar j)) (hm : behindInMarks op b = false) :
    PT X (.Compare a [op] [b] pos) (tBo X.K B G0 (zii p f j)) := by
  obtain ⟨r, h, i⟩ := o
  exact ptof (zgt h ha hb hm) fun σ H Q q => zpV (fun t H3 z => ⟨t, rfl, z⟩) i q
theorem zhC {β : Type} {p : D -> D -> Option β} {f : M D} {j : Nat} {ρ ρ1 : DEnv} {x : D} {ds : List D} {r : β} (h1 : f ρ = .ok x ρ1) (h2 : ρ1[j]? = some (some (.own ds))) (h3 : p x (.list ds) = some r) : zii p f j ρ = .ok r ρ1 := by
  unfold zii; exact zax h1 (by rw [h2]; exact zbF h3)
end
end DL
set_option Elab.async false
set_option linter.all false
set_option maxRecDepth 100000
set_option maxHeartbeats 4000000
namespace DL
open PySem PySem.Spec L2
open PyProof.Rows hiding St
def tDsH (K : PySem.W.Frag) (B G0 : Hp) (f : M (List D)) : TA := fun σ H Q => ∃ G ρ, EOk K B G0 G H σ ρ /\ match f ρ with
  | .ok ds ρ' => ∀ vs G' H', EOk K B G0 G' H' σ ρ' -> Same G G' -> Reps K H' vs ds -> Q vs H'
  | .bad => False
def zdS (ρ : DEnv) (j : Nat) : Option D := match ρ[j]? with
  | some (some (.pub d)) => some d
  | some (some (.own ds)) => some (.list ds)
  | _ => none
theorem EOk.tree {K : PySem.W.Frag} {B G0 G H : Hp} {σ : St} {ρ : DEnv} {j : Nat} {d : D} (k : EOk K B G0 G H σ ρ) (h : zdS ρ j = some d) : ∃ v, σ[j]? = some (some v) /\ Rep K H v d := by
  unfold zdS at h
  split at h
  · rename_i d' e
    cases h
    obtain ⟨v, h1, h2⟩ := k.pub j _ e
    exact ⟨v, h1, h2.mono k.gh⟩
  · rename_i ds e
    cases h
    obtain ⟨a, vs, h1, h2, h3, h4, h5⟩ := k.own j ds e
    exact ⟨.ref a, h1, .lst (SqL.of h4) (h5.mono k.gh)⟩
  · cases h
def zeT (j : Nat) (g : M (List D)) : M (List D) := fun ρ => match zdS ρ j with
  | none => .bad
  | some _ => (zas g fun xs => fun ρ' => match zdS ρ' j with
    | some d => .ok (d :: xs) ρ'
    | none => .bad) ρ
def zij (n : Nat) (F : List D -> Option D) (g : M (List D)) : M D := zas g fun xs => if xs.length = n then (match F xs with
  | some d => if flat d = true then zah d else fun _ => .bad
  | none => fun _ => .bad) else fun _ => .bad
section
variable {X : Cx} {B G0 : Hp} {e o a b c tg : Expr} {pos p2 : Pos} {es rest : List Expr}
theorem zmF : PA X [] (tDsH X.K B G0 mNil) := paof zd5 fun σ H Q ⟨G, ρ, k, a⟩ => a [] G H k (.refl _) .nil
theorem zkZ {f : M D} {g : M (List D)} (ha : PE X e (tD X.K B G0 f)) (hr : PA X es (tDsH X.K B G0 g)) (hs : starEach (e :: es) X.env = (false, eval e X.env) :: starEach es X.env := by rfl) :
    PA X (e :: es) (tDsH X.K B G0 (zaf f g)) := paof (zcu ha hr hs) fun σ H Q ⟨G, ρ, k, a⟩ => by
  refine ⟨G, ρ, k, ?_⟩
  unfold zaf zas at a
  cases z : f ρ with
  | bad => rw [z] at a; exact a.elim
  | ok d ρ1 =>
  rw [z] at a
  dsimp only at a
  intro v G1 H1 k1 s1 r1
  refine ⟨G1, ρ1, k1, ?_⟩
  cases z2 : g ρ1 with
  | bad => rw [z2] at a; exact a.elim
  | ok xs ρ2 =>
  rw [z2] at a
  dsimp only [zah] at a
  intro vs G2 H2 k2 s2 r2
  exact a (v :: vs) G2 H2 k2 (s1.trans s2) (.cons ((r1.mono s2).mono k2.gh) r2)
theorem zjA {j : Nat} {g : M (List D)} (ha : PE X e (tVar j)) (hr : PA X es (tDsH X.K B G0 g)) (hs : starEach (e :: es) X.env = (false, eval e X.env) :: starEach es X.env := by rfl) :
    PA X (e :: es) (tDsH X.K B G0 (zeT j g)) := paof (zcu ha hr hs) fun σ H Q ⟨G, ρ, k, a⟩ => by
  unfold zeT at a
  cases z0 : zdS ρ j with
  | none => rw [z0] at a; exact a.elim
  | some d0 =>
  rw [z0] at a
  obtain ⟨v, hv, _⟩ := k.tree z0
  refine ⟨v, hv, G, ρ, k, ?_⟩
  dsimp only [zas] at a
  cases z2 : g ρ with
  | bad => rw [z2] at a; exact a.elim
  | ok xs ρ2 =>
  rw [z2] at a
  dsimp only at a
  intro vs G2 H2 k2 s2 r2
  cases z : zdS ρ2 j with
  | none => rw [z] at a; exact a.elim
  | some d =>
  rw [z] at a
  obtain ⟨v', hv', rv⟩ := k2.tree z
  rw [hv] at hv'
  cases hv'
  exact a (v :: vs) G2 H2 k2 s2 (.cons rv r2)
theorem zk0 {k n : Nat} {F : List D -> Option D} {g : M (List D)} {x : Str} {p2 : Pos} (d : Def X.prog X.w X.K X.mg X.base x k n F) (hr : Room k X.A) (hg : Gl X x) (ha : PA X (e :: es) (tDsH X.K B G0 g)) (hn : (e :: es).length = n := by rfl)
    (hdb : (x == ("__debug__" : Str)) = false := by decide) (he : starEach (e :: es) X.env = (false, eval e X.env) :: starEach es X.env := by rfl) (hpl : (backTo pos (starEach es X.env)).any (·.1) = false := by rfl) :
    PE X (.Call (.Name x p2) (e :: es) [] pos) (tD X.K B G0 (zij n F g)) := by
  obtain ⟨f, fd, ps, h1, h2, h3, FK⟩ := d
  refine peof (ziM FK hr hg h1 h2 h3 .nil znU ha hdb he hpl) fun σ H Q ⟨G, ρ, k, a⟩ => ⟨G, ρ, k, ?_⟩
  unfold zij zas at a
  cases z : g ρ with
  | bad => rw [z] at a; exact a.elim
  | ok ds ρ1 =>
  rw [z] at a
  dsimp only at a
  intro vs G1 H1 k1 s1 r1
  by_cases hl : ds.length = n
  · rw [if_pos hl] at a
    cases zF : F ds with
    | none => rw [zF] at a; exact a.elim
    | some d =>
    rw [zF] at a
    dsimp only at a
    by_cases hf : flat d = true
    · rw [if_pos hf] at a
      refine ⟨H1, ds, d, by rw [List.append_nil, r1.length]; exact hl, .refl _, by rw [List.append_nil]; exact r1, zF, fun v G2 H2 ex rv => ?_⟩
      exact a v G1 H2 (k1.ext ⟨ex.h, .refl _, k1.gh.trans ex.h, fun _ _ _ n => n⟩) s1 (rv.flat hf)
    · rw [if_neg hf] at a; exact a.elim
  · rw [if_neg hl] at a; exact a.elim
theorem zk1 {j : Nat} {g : M (List D)} {ρ ρ1 : DEnv} {xs : List D} {d0 d : D} (h0 : zdS ρ j = some d0) (h1 : g ρ = .ok xs ρ1) (h2 : zdS ρ1 j = some d) : zeT j g ρ = .ok (d :: xs) ρ1 := by
  unfold zeT; rw [h0]; dsimp only [zas]; rw [h1]; dsimp only; rw [h2]
theorem zmG {n : Nat} {F : List D -> Option D} {g : M (List D)} {ρ ρ1 : DEnv} {xs : List D} {r : D} (h1 : g ρ = .ok xs ρ1) (h2 : xs.length = n) (h3 : F xs = some r) (h4 : flat r = true := by rfl) : zij n F g ρ = .ok r ρ1 := by
  unfold zij; exact zax h1 (by rw [if_pos h2, h3]; dsimp only; rw [if_pos h4]; rfl)
end
end DL
set_option Elab.async false
set_option linter.all false
set_option maxRecDepth 100000
set_option maxHeartbeats 4000000
namespace HT
open PySem PyProof.Rows
theorem zk2 {xs ys : List Int} {i : Nat} (h1 : xs.length <= i) : zcn (ys.drop i) (xs.drop i) = false := by
  rw [List.drop_of_length_le h1]
  cases ys.drop i <;> rfl
theorem zk3 {xs ys : List Int} {i : Nat} (h1 : ys.length <= i) (h2 : i < xs.length) : zcn (ys.drop i) (xs.drop i) = true := by
  rw [List.drop_of_length_le h1, List.drop_eq_getElem_cons h2]; rfl
theorem zk4 {xs ys : List Int} {i : Nat} {a c : Int} (h1 : xs[i]? = some a) (h2 : ys[i]? = some c) : zcn (ys.drop i) (xs.drop i) = if c = a then zcn (ys.drop (i + 1)) (xs.drop (i + 1)) else decide (c < a) := by
  obtain ⟨l1, e1⟩ := List.getElem?_eq_some_iff.mp h1
  obtain ⟨l2, e2⟩ := List.getElem?_eq_some_iff.mp h2
  rw [List.drop_eq_getElem_cons l1, List.drop_eq_getElem_cons l2, zdy, e1, e2]
section
open PySem.SeqAt
open PySem.AutoSeq1 (wpAny_loadPart')
open PySem.MeetsSeq PySem.MeetsSeq2 PySem.MeetsSeq3
theorem zk5 (A : Around) (s : Shared) (a : Int) (t : Tok) (c : Int) (u : Tok) (prog : Program) (w : World) (E : Value -> Shared -> Prop) (Q : Value -> Shared -> Prop) (h : Q (.bool (decide (c < a))) s) :
    wpAny (model prog w) A (richCompare .Gt (.int a t) (.int c u)) Q E s :=
  (PyProof.Rows.gt_int h : wpAny (model prog w) A (compareOp .Gt (.int a t) (.int c u)) Q E s)
theorem zjB {p q : Addr} {us vs : Array Value} {m m' : Nat} {dp dq : Option Addr} {sp sq : Array (Option Value)} {xs ys : List Int} (ix : IntsAre us.toList xs) (iy : IntsAre vs.toList ys) :
    ∀ d i : Nat, us.size - i = d -> i <= us.size -> i <= vs.size -> Meets (Builtin.«list.__eq__.loop» ⟨[.ref p, .ref q, rawInt i, rawInt 4], []⟩)
      (fun _ R s => s.heap.get? p = some { cls := .type "list", dict := dp, data := .seq us m, slots := sp } /\ s.heap.get? q = some { cls := .type "list", dict := dq, data := .seq vs m', slots := sq } /\
        R (.ok (.ret (.bool (zcn (ys.drop i) (xs.drop i))))) s) := by
  have zx : us.size = xs.length := by rw [← ix.length]; simp
  have zy : vs.size = ys.length := by rw [← iy.length]; simp
  intro d
  induction d with
  | zero =>
    intro i hd h1 h2 prog w A R s h
    obtain ⟨hp, g, dd, tk, os⟩ := s
    obtain ⟨gp, gq, h⟩ := h
    wp_walk using wpAny_loadPart' gp, wpAny_loadPart' gq
    have n1 : us[((i : Nat) : Int).toNat]? = none := by simp; omega
    rw [n1]
    wp_walk using wpAny_loadPart' gp, wpAny_loadPart' gq
    show R (.ok (.ret (.bool (decide (us.size > vs.size))))) _
    rw [decide_eq_false (by omega)]
    rw [zk2 (by omega)] at h
    exact h
  | succ d ih =>
    intro i hd h1 h2 prog w A R s h
    obtain ⟨hp, g, dd, tk, os⟩ := s
    obtain ⟨gp, gq, h⟩ := h
    wp_walk using wpAny_loadPart' gp, wpAny_loadPart' gq
    have lt1 : i < us.size := by omega
    have s1 : us[((i : Nat) : Int).toNat]? = some us[i] := by simp [lt1]
    obtain ⟨a, t, ea, xa⟩ := ix.at (i := i) (v := us[i]) (by simp [lt1])
    rcases Nat.lt_or_ge i vs.size with lt2 | ge2
    · have s2 : vs[((i : Nat) : Int).toNat]? = some vs[i] := by simp [lt2]
      obtain ⟨c, u, ec, yc⟩ := iy.at (i := i) (v := vs[i]) (by simp [lt2])
      rw [s1, s2, ea, ec]
      rw [zk4 xa yc] at h
      obtain ⟨e, he, hiff⟩ := zkq A.in1 ⟨hp, g, dd, tk, os⟩ a t c u
      refine wpAny_bind (he prog w _ _ ?_)
      cases e with
      | true =>
        have hac : a = c := hiff.mp rfl
        rw [if_pos hac.symm] at h
        wp_walk
        have up : ((i : Int) + 1) = ((i + 1 : Nat) : Int) := by omega
        rw [up]
        exact ⟨plainId_quiet plain_eq_loop _, codeAny_builtin entry_eq_loop (by
          rw [Around.under_plainId plain_eq_loop _]
          exact ih (i + 1) (by omega) (by omega) (by omega) prog w A R _ ⟨gp, gq, h⟩)⟩
      | false =>
        have hac : ¬ c = a := fun z => absurd (hiff.mpr z.symm) Bool.false_ne_true
        rw [if_neg hac] at h
        have rc := zk5 A.in1 ⟨hp, g, dd, tk, os⟩ a t c u prog w
        wp_walk using wpAny_loadPart' gp, wpAny_loadPart' gq
        rw [s1, s2, ea, ec]
        wp_walk using rc
        exact h
    · have n2 : vs[((i : Nat) : Int).toNat]? = none := by simp; omega
      rw [s1, n2]
      wp_walk using wpAny_loadPart' gp, wpAny_loadPart' gq
      show R (.ok (.ret (.bool (decide (us.size > vs.size))))) _
      rw [decide_eq_true (by omega)]
      rw [zk3 (by omega) (by omega)] at h
      exact h
theorem zik {p q : Addr} {us vs : Array Value} {m m' : Nat} {dp dq : Option Addr} {sp sq : Array (Option Value)} {xs ys : List Int} (ix : IntsAre us.toList xs) (iy : IntsAre vs.toList ys) :
    Meets (Builtin.«list.__gt__» ⟨[.ref p, .ref q], []⟩)
      (fun _ R s => s.heap.get? p = some { cls := .type "list", dict := dp, data := .seq us m, slots := sp } /\ s.heap.get? q = some { cls := .type "list", dict := dq, data := .seq vs m', slots := sq } /\
        R (.ok (.ret (.bool (zcn ys xs)))) s) := by
  intro prog w A R s h
  obtain ⟨hp, g, dd, tk, os⟩ := s
  obtain ⟨gp, gq, h⟩ := h
  have f3 := AutoSeq1.sub_list_list
  wp_walk using wpAny_loadPart' gp, wpAny_loadPart' gq
  exact ⟨plainId_quiet plain_eq_loop _, codeAny_builtin entry_eq_loop (by
    rw [Around.under_plainId plain_eq_loop _]
    exact zjB ix iy _ 0 rfl (Nat.zero_le _) (Nat.zero_le _) prog w A R _ ⟨gp, gq, by simpa using h⟩)⟩
end
section
variable {prog : Program} {w : World} {A : Around} {E : Value -> Shared -> Prop} {s : Shared}
theorem zgU {p q : Addr} {us vs : Array Value} {xs ys : List Int} {Q : Value -> Shared -> Prop} (hl : s.heap.IsList p us) (hb : s.heap.IsList q vs) (ix : IntsAre us.toList xs) (iy : IntsAre vs.toList ys)
    (hu : A.units < cLine) (h : Q (.bool (zcn ys xs)) s) : wpAny (model prog w) A (compareOp .Gt (.ref p) (.ref q)) Q E s := by
  obtain ⟨⟨cls, dd, data, sl⟩, ho, hc, n, hd⟩ := id hl
  obtain ⟨⟨cls2, dd2, data2, sl2⟩, ho2, hc2, n2, hd2⟩ := id hb
  simp only at hc hd hc2 hd2
  subst hc hd hc2 hd2
  exact richCompare_meets_room (op := .Gt) ⟨_, ho, rfl⟩ ⟨_, ho2, rfl⟩ PySem.F.slot_list_gt PySem.F.entry_list_gt (PySem.F.args_list_gt_2 _ _) (zik ix iy)
    ⟨ho, ho2, show Value.bool (zcn ys xs) ≠ Value.notImplemented /\ Q (.bool (zcn ys xs)) s from ⟨(fun x => nomatch x), h⟩⟩ hu
end
end HT
namespace DL
open PySem PySem.Spec L2
open PyProof.Rows hiding St
section
variable {X : Cx}
def oGtL (x y : D) : Option Bool := match x, y with
  | .list xs, .list ys => (match zbX xs, zbX ys with
    | some ns, some ms => some (HT.zcn ms ns)
    | _, _ => none)
  | _, _ => none
def rGtL (K : PySem.W.Frag) : R2 := fun x y H Q => ∃ a b ns ms, x = .ref a /\ y = .ref b /\ SqL K H a (ns.map V.int) /\ SqL K H b (ms.map V.int) /\ Q (.bl (HT.zcn ms ns)) H
theorem zom (hu : X.A.units < cLine) : OpR X (compareOp .Gt) (rGtL X.K) := by
  intro pins s σ H x y v u Q I rx ry h
  obtain ⟨a, b, ns, ms, rfl, rfl, ha, hb, q⟩ := h
  cases rx
  cases ry
  obtain ⟨its, r1, p1, _⟩ := I.list ha
  obtain ⟨its2, r2, p2, _⟩ := I.list hb
  exact HT.zgU p1.isList p2.isList (zeH r1) (zeH r2) hu ⟨.bl (HT.zcn ms ns), H, I, rfl, q⟩
theorem zpW (hu : X.A.units + 64 < cLine) : OpB X (compareOp .Gt) oGtL := by
  refine ⟨_, zom (by omega), fun v u G H x y d Q s rx ry e k => ?_⟩
  unfold oGtL at e
  split at e
  · rename_i xs ys
    cases z1 : zbX xs with
    | none => rw [z1] at e; cases e
    | some ns =>
      rw [z1] at e
      cases z2 : zbX ys with
      | none => rw [z2] at e; cases e
      | some ms =>
        rw [z2] at e
        cases e
        obtain ⟨a, vs, rfl, q1, w1⟩ := rx.lst_inv
        obtain ⟨b, us, rfl, q2, w2⟩ := ry.lst_inv
        have e1 := zbY w1 z1
        have e2 := zbY w2 z2
        subst e1 e2
        exact ⟨a, b, ns, ms, rfl, rfl, s.seq q1, s.seq q2, k⟩
  · cases e
def oGtX (x y : D) : Option Bool := ((oIB fun i j => decide (j < i)) x y).orElse fun _ => oGtL x y
theorem zon (hu : X.A.units + 64 < cLine) : OpB X (compareOp .Gt) oGtX := OpB.or B_gt (zpW hu)
theorem zjC {ns ms : List Int} : oGtX (.list (ns.map .int)) (.list (ms.map .int)) = some (HT.zcn ms ns) := by
  have e : oGtL (.list (ns.map .int)) (.list (ms.map .int)) = some (HT.zcn ms ns) := by
    unfold oGtL
    dsimp only
    rw [zcc, zcc]
  unfold oGtX
  rw [e]
  rfl
end
end DL
set_option Elab.async false
set_option linter.all false
set_option maxRecDepth 100000
set_option maxHeartbeats 4000000
namespace DL
open PySem PySem.Spec L2
open PyProof.Rows hiding St
section
variable {X : Cx}
def zil (x y : D) : Option (List D) := match x, y with
  | .list xs, .int k => if -1000000 <= k /\ k <= 1000000 /\ xs.length * k.toNat <= 1000000 then some (List.replicate k.toNat xs).flatten else none
  | _, _ => none
theorem zjD {x y : D} {ds : List D} (h : zil x y = some ds) : ∃ xs k, x = .list xs /\ y = .int k /\ (-1000000 <= k /\ k <= 1000000 /\ xs.length * k.toNat <= 1000000) /\ ds = (List.replicate k.toNat xs).flatten := by
  unfold zil at h
  split at h
  · split at h
    · rename_i xs k c
      cases h
      exact ⟨xs, k, rfl, rfl, c, rfl⟩
    · cases h
  · cases h
def zjE (f g : M D) : M (List D) := zas f fun x => zas g fun y => mOpt (zil x y)
theorem zmH {f g : M D} (ha : PE X a (tD X.K B G0 f)) (hb : PE X b (tD X.K B G0 g)) : PE X (.BinOp a .Mult b pos) (tL X.K B G0 (zjE f g)) :=
  peof (znF ziT ha hb) fun σ H Q ⟨G, ρ, k, q⟩ => by
    refine ⟨G, ρ, k, ?_⟩
    unfold zjE zas at q
    cases z : f ρ with
    | bad => rw [z] at q; exact q.elim
    | ok x ρ1 =>
      rw [z] at q
      dsimp only at q
      intro v G1 H1 k1 s1 r1
      refine ⟨G1, ρ1, k1, ?_⟩
      cases z2 : g ρ1 with
      | bad => rw [z2] at q; exact q.elim
      | ok y ρ2 =>
        rw [z2] at q
        dsimp only [mOpt] at q
        intro u G2 H2 k2 s2 r2
        cases z3 : zil x y with
        | none => rw [z3] at q; exact q.elim
        | some ds =>
          rw [z3] at q
          obtain ⟨xs, i, rfl, rfl, c, rfl⟩ := zjD z3
          obtain ⟨l, vs, rfl, h1, w⟩ := r1.lst_inv
          exact ⟨l, i, vs, rfl, r2.int_inv, k2.gh.seq (s2.seq h1), by omega, by omega, by rw [w.length]; exact Nat.le_trans c.2.2 lim, fun p hp => q p _ G2 _ (k2.ext (Ext.hid k2.gh hp)) (s1.trans s2) (NewL.of k2 hp ((w.mono s2).rep _))⟩
theorem zmI {f g : M D} {ρ ρ1 ρ2 : DEnv} {x : D} {n : Nat} (h1 : f ρ = .ok (.list [x]) ρ1) (h2 : g ρ1 = .ok (.int n) ρ2) (h : n <= 1000) : zjE f g ρ = .ok (List.replicate n x) ρ2 := by
  unfold zjE zas
  rw [h1]
  dsimp only
  rw [h2]
  dsimp only [mOpt]
  have e : zil (.list [x]) (.int n) = some (List.replicate n x) := by
    unfold zil
    dsimp only
    rw [if_pos ⟨by omega, by omega, by show 1 * _ <= _; omega⟩]
    congr 1
    rw [Int.toNat_natCast]
    clear h2 h
    induction n with
    | zero => rfl
    | succ n ih => rw [List.replicate_succ, List.flatten_cons, ih, List.replicate_succ]; rfl
  rw [e]
end
end DL
set_option Elab.async false
set_option linter.all false
set_option maxRecDepth 100000
set_option maxHeartbeats 4000000
namespace W
open PySem PySem.Spec L2 DL
open PyProof.Rows hiding St
def top (i : Nat) : Stmt := PySem.Challenge.pw_wishdeal_k22_a_better_one.main.body.getD i (.Pass ⟨0, 0, 0, 0⟩)
abbrev GG (s : Stmt) (x : Str) : Prop := (zag s).names.lookup x = some NameKind.globalImplicit
abbrev VV (s : Stmt) (x : Str) : Prop := L2.Vis (zag s) x
abbrev LL (s : Stmt) (x : Str) : Prop := L2.Loc (zag s) x
theorem vk {s : Stmt} {x : Str} (h : (zag s).names.lookup x = some .local ∨ (zag s).names.lookup x = some .cell ∨ (zag s).names.lookup x = some .free) : VV s x := h
theorem lk {s : Stmt} {x : Str} (h : (zag s).names.lookup x = some .local ∨ (zag s).names.lookup x = some .cell) : LL s x := h
structure Txt (K : PySem.W.Frag) (mg : Str -> Option Value) : Prop where
  b_all : mg "all" = none
  b_bool : mg "bool" = none
  b_enumerate : mg "enumerate" = none
  b_int : mg "int" = none
  b_isinstance : mg "isinstance" = none
  b_len : mg "len" = none
  b_list : mg "list" = none
  b_max : mg "max" = none
  b_range : mg "range" = none
  b_repr : mg "repr" = none
  b_set : mg "set" = none
  b_sorted : mg "sorted" = none
  b_str : mg "str" = none
  b_sum : mg "sum" = none
  b_tuple : mg "tuple" = none
  b_zip : mg "zip" = none
  c_MOST_ASKERS : ∃ t, mg "MOST_ASKERS" = some (Value.int 7 t)
  c_MOST_COPIES : ∃ t, mg "MOST_COPIES" = some (Value.int 7 t)
  c_MOST_RANKS : ∃ t, mg "MOST_RANKS" = some (Value.int 5 t)
  c_MOST_THINGS : ∃ t, mg "MOST_THINGS" = some (Value.int 6 t)
  c_ORDERS : ∃ ad o its n, mg "ORDERS" = some (.ref ad) /\ K.lookup ad = some o /\ o.cls = .type "tuple" /\ o.data = .seq its n /\ its.size <= sizeLine /\ Vals ((["firsts", "full", "lasts"] : List Str).map V.str) its.toList
abbrev Sau : Stmt := top 34
abbrev N_au : List Str := ["one", "other", "mine", "yours"]
theorem Cau : zaF N_au ["one", "other"] (zag Sau) := ⟨rfl, rfl, rfl, by decide +kernel, rfl, by decide +kernel, by decide +kernel⟩
theorem zpX : VV Sau "one" := vk (by decide +kernel)
theorem zpY : VV Sau "other" := vk (by decide +kernel)
theorem zoo : VV Sau "mine" := vk (by decide +kernel)
theorem zmJ : VV Sau "yours" := vk (by decide +kernel)
theorem Gau1 : GG Sau "zip" := by decide +kernel
theorem Lau1 : LL Sau "mine" := lk (by decide +kernel)
theorem Lau2 : LL Sau "yours" := lk (by decide +kernel)
def zjF : SM :=
  sIf (zbf oNe 2 (dVar 3))
  (sRet (mOrV (mMap PyData.bool (zbf oEq 3 (zah (.int 0)))) (mMap PyData.bool (zdL (oIB fun i j => decide (i < j)) (oIB fun i j => decide (i < j)) (zah (.int 0)) (dVar 2) (dVar 3)))))
  (sNx)
def g_au : SM :=
  sSeq (sFor (dZip (zaf (dVar 0) (zaf (dVar 1) (mNil)))) (gT 2 (gNC (gN 2) (gNC (gN 3) (gN0)))) zjF)
  (sRet (zah (.bool false)))
def F_au : List D -> Option D := runD N_au g_au
theorem Kau {P : Program} {w : World} {K : PySem.W.Frag} {mg : Str -> Option Value} {base : Heap} {f : Addr} {fd : FuncData} (T : Txt K mg) (F : Fun K "is_better_by_turns" "is_better_by_turns" Sau f fd) : FnOk P w K mg base CX0 1 f fd ["one", "other"] (spD K 2 F_au) :=
  okD (k := 0) (g := g_au) F Cau rfl fun cdv A outer s H E B G0 hr =>
  have hu := hr.units
  have hgd := hr.gd
  (zaj (zb8 PassesOwn.never rfl (zhp Gau1 T.b_zip (zaa (zac (pv 0 rfl zpX)) (zaa (zac (pv 1 rfl zpY)) zai))) (zbW rfl (zaC (zao (zan (i := 2) Cau.nd rfl Lau1)) (zaC (zao (zan (i := 3) Cau.nd rfl Lau2)) zbV)))
  (zam (zbe (zbt (B_ne hu) (pv 2 rfl zoo) (zac (pv 3 rfl zmJ)) (zaR _))
  (zam (zaD (zlK (zcz (B_eq hu) (pv 3 rfl zmJ) zal (zaR _)) (zcN (zfG B_lt B_lt zal (zac (pv 2 rfl zoo)) (zac (pv 3 rfl zmJ)))))))
  zaQ)))
  (zam (zaD zbH)))
abbrev San : Stmt := top 26
abbrev N_an : List Str := ["order", "one", "other", "more", "less"]
theorem Can : zaF N_an ["order", "one", "other"] (zag San) := ⟨rfl, rfl, rfl, by decide +kernel, rfl, by decide +kernel, by decide +kernel⟩
theorem zop : VV San "order" := vk (by decide +kernel)
theorem zpZ : VV San "one" := vk (by decide +kernel)
theorem zp0 : VV San "other" := vk (by decide +kernel)
theorem zmK : VV San "more" := vk (by decide +kernel)
theorem zoq : VV San "less" := vk (by decide +kernel)
theorem Gan1 : GG San "zip" := by decide +kernel
def g_an : SM :=
  sSeq (zbK 3 (zbL (dZip (zaf (dVar 1) (zaf (dVar 2) (mNil)))) 2 (gT 2 (gNC (gN 5) (gNC (gN 6) (gN0)))) (zah true) (dBin oSub (dVar 5) (dVar 6))))
  (sSeq (sIf (zbf oEq 0 (zah (.str "firsts")))
  (sRet (dVar 3))
  (sNx))
  (sSeq (zbK 4 (zbL (za3 (dVar 3)) 1 (gN 5) (zah true) (dNeg (dVar 5))))
  (sSeq (sIf (zbf oEq 0 (zah (.str "full")))
  (sRet (dBin oAdd (dSlA (dVar 4) (zas (dNeg (zah (.int 1))) fun x => mOpt (zc2 x)) (zah none)) (dVar 3)))
  (sNx))
  (sRet (dRev (dVar 4) (zah none) (zah none) (zas (dNeg (zah (.int 1))) fun x => mOpt (zc2 x)))))))
def F_an : List D -> Option D := runD N_an g_an
theorem Kan {P : Program} {w : World} {K : PySem.W.Frag} {mg : Str -> Option Value} {base : Heap} {f : Addr} {fd : FuncData} (T : Txt K mg) (F : Fun K "gaps" "gaps" San f fd) : FnOk P w K mg base CX0 1 f fd ["order", "one", "other"] (spD K 3 F_an) :=
  okD (k := 0) (g := g_an) F Can rfl fun cdv A outer s H E B G0 hr =>
  have hu := hr.units
  have hgd := hr.gd
  (zaj (zcy (j := 3) (zag San) N_an ["order", "one", "other", "more", "less", "mine", "yours"] 2 Can.nd rfl rfl rfl (zhp Gan1 T.b_zip (zaa (zac (pv 1 rfl zpZ)) (zaa (zac (pv 2 rfl zp0)) zai))) (fun cl C s₀ H₀ ex B' G' => ⟨(zbW rfl (zaC (zao (zan (i := 5) (show (["order", "one", "other", "more", "less", "mine", "yours"] : List Str).Nodup by decide +kernel) rfl (za1 rfl) (.inr (zbq rfl)))) (zaC (zao (zan (i := 6) (show (["order", "one", "other", "more", "less", "mine", "yours"] : List Str).Nodup by decide +kernel) rfl (za1 rfl) (.inr (zbq rfl)))) zbV))), zbB, (zaJ zfE (zac (pvb 5)) (zac (pvb 6)))⟩) rfl rfl (by decide +kernel) rfl (by decide +kernel) (by decide +kernel) (by decide +kernel))
  (zaj (zbe (zbt (B_eq hu) (pv 0 rfl zop) zcJ (zaR _))
  (zam (zaD (zac (pv 3 rfl zmK))))
  zaQ)
  (zaj (zcy (j := 4) (zag San) N_an ["order", "one", "other", "more", "less", "gap"] 1 Can.nd rfl rfl rfl (zbS (zac (pv 3 rfl zmK))) (fun cl C s₀ H₀ ex B' G' => ⟨(zao (zan (i := 5) (show (["order", "one", "other", "more", "less", "gap"] : List Str).Nodup by decide +kernel) rfl (za1 rfl) (.inr (zbq rfl)))), zbB, (zcx (zac (pvb 5)))⟩) rfl rfl (by decide +kernel) rfl (by decide +kernel) (by decide +kernel) (by decide +kernel))
  (zaj (zbe (zbt (B_eq hu) (pv 0 rfl zop) zcJ (zaR _))
  (zam (zaD (zaJ zbA (zcp (zac (pv 4 rfl zoq)) (zbN (zcx zal)) zcw) (zac (pv 3 rfl zmK)))))
  zaQ)
  (zam (zaD (zgD (zac (pv 4 rfl zoq)) zcw zcw (zbN (zcx zal)))))))))
abbrev Sal : Stmt := top 24
abbrev N_al : List Str := ["thing"]
theorem Cal : zaF N_al ["thing"] (zag Sal) := ⟨rfl, rfl, rfl, by decide +kernel, rfl, by decide +kernel, by decide +kernel⟩
theorem zor : VV Sal "thing" := vk (by decide +kernel)
theorem Gal1 : GG Sal "ORDERS" := by decide +kernel
theorem Gal2 : GG Sal "isinstance" := by decide +kernel
theorem Gal3 : GG Sal "str" := by decide +kernel
def g_al : SM :=
  sRet (ze5 (mMap (fun d => .bool (isTy d "str")) (dVar 0)) (mMap PyData.bool (zbf oIn 0 (zah (.tuple ((["firsts", "full", "lasts"] : List Str).map PyData.str))))))
def F_al : List D -> Option D := runD N_al g_al
theorem Kal {P : Program} {w : World} {K : PySem.W.Frag} {mg : Str -> Option Value} {base : Heap} {f : Addr} {fd : FuncData} (T : Txt K mg) (F : Fun K "is_order" "is_order" Sal f fd) : FnOk P w K mg base CX0 1 f fd ["thing"] (spD K 1 F_al) :=
  okD (k := 0) (g := g_al) F Cal rfl fun cdv A outer s H E B G0 hr =>
  have hu := hr.units
  have hgd := hr.gd
  (zam (zaD (zdA (zaY (c := "str") (by decide) Gal2 T.b_isinstance Gal3 T.b_str (by decide +kernel) (zac (pv 0 rfl zor)) (by decide) (by decide)) (zcN (zcz (B_in hu) (pv 0 rfl zor) (zpS Gal1 T.c_ORDERS) rfl)))))
abbrev Sam : Stmt := top 25
abbrev N_am : List Str := ["thing"]
theorem Cam : zaF N_am ["thing"] (zag Sam) := ⟨rfl, rfl, rfl, by decide +kernel, rfl, by decide +kernel, by decide +kernel⟩
theorem zp1 : VV Sam "thing" := vk (by decide +kernel)
theorem Gam1 : GG Sam "is_order" := by decide +kernel
def g_am : SM :=
  sIf (mNot (zbk (dFun 1 F_al (zaf (dVar 0) (mNil)))))
  (zc6)
  (sNx)
def F_am : List D -> Option D := runD N_am g_am
theorem Kam {P : Program} {w : World} {K : PySem.W.Frag} {mg : Str -> Option Value} {base : Heap} {f : Addr} {fd : FuncData} (T : Txt K mg) (d_al : Def P w K mg base "is_order" 1 1 F_al) (F : Fun K "look_at_order" "look_at_order" Sam f fd) : FnOk P w K mg base CX0 2 f fd ["thing"] (spD K 1 F_am) :=
  okD (k := 1) (g := g_am) F Cam rfl fun cdv A outer s H E B G0 hr =>
  have hu := hr.units
  have hgd := hr.gd
  (zam (zbe (zba (zbh (zaq d_al (hr.mono (by decide)) Gam1 (zaa (zac (pv 0 rfl zp1)) zai))))
  (zam zca)
  zaQ))
abbrev Sao : Stmt := top 27
abbrev N_ao : List Str := ["order", "one", "other", "gap"]
theorem Cao : zaF N_ao ["order", "one", "other"] (zag Sao) := ⟨rfl, rfl, rfl, by decide +kernel, rfl, by decide +kernel, by decide +kernel⟩
theorem zos : VV Sao "order" := vk (by decide +kernel)
theorem zp2 : VV Sao "one" := vk (by decide +kernel)
theorem zp3 : VV Sao "other" := vk (by decide +kernel)
theorem zot : VV Sao "gap" := vk (by decide +kernel)
theorem Gao1 : GG Sao "gaps" := by decide +kernel
theorem Gao2 : GG Sao "look_at_order" := by decide +kernel
theorem Lao1 : LL Sao "gap" := lk (by decide +kernel)
def zjG : SM :=
  sIf (zbf oNe 3 (zah (.int 0)))
  (sRet (mIf (zbf (oIB fun i j => decide (j < i)) 3 (zah (.int 0))) (zah (.str "better")) (zah (.str "worse"))))
  (sNx)
def g_ao : SM :=
  sSeq (zd8 (dFun 1 F_am (zaf (dVar 0) (mNil))))
  (sSeq (sFor (za3 (dFun 3 F_an (zaf (dVar 0) (zaf (dVar 1) (zaf (dVar 2) (mNil)))))) (gN 3) zjG)
  (sRet (zah (.str "alike"))))
def F_ao : List D -> Option D := runD N_ao g_ao
theorem Kao {P : Program} {w : World} {K : PySem.W.Frag} {mg : Str -> Option Value} {base : Heap} {f : Addr} {fd : FuncData} (T : Txt K mg) (d_an : Def P w K mg base "gaps" 1 3 F_an) (d_am : Def P w K mg base "look_at_order" 2 1 F_am) (F : Fun K "beside_by" "beside_by" Sao f fd) : FnOk P w K mg base CX0 3 f fd ["order", "one", "other"] (spD K 3 F_ao) :=
  okD (k := 2) (g := g_ao) F Cao rfl fun cdv A outer s H E B G0 hr =>
  have hu := hr.units
  have hgd := hr.gd
  (zaj (zcO (zaq d_am (hr.mono (by decide)) Gao2 (zaa (zac (pv 0 rfl zos)) zai)))
  (zaj (zb8 PassesOwn.never rfl (zbS (zaq d_an (hr.mono (by decide)) Gao1 (zaa (zac (pv 0 rfl zos)) (zaa (zac (pv 1 rfl zp2)) (zaa (zac (pv 2 rfl zp3)) zai))))) (zao (zan (i := 3) Cao.nd rfl Lao1))
  (zam (zbe (zbt (B_ne hu) (pv 3 rfl zot) zal (zaR _))
  (zam (zaD (ziW (zbt B_gt (pv 3 rfl zot) zal (zaR _)) zcJ zcJ)))
  zaQ)))
  (zam (zaD zcJ))))
abbrev Sas : Stmt := top 32
abbrev N_as : List Str := ["old", "dealing"]
theorem Cas : zaF N_as ["old", "dealing"] (zag Sas) := ⟨rfl, rfl, rfl, by decide +kernel, rfl, by decide +kernel, by decide +kernel⟩
theorem zou : VV Sas "old" := vk (by decide +kernel)
theorem zp4 : VV Sas "dealing" := vk (by decide +kernel)
theorem Gas1 : GG Sas "len" := by decide +kernel
theorem Gas2 : GG Sas "zip" := by decide +kernel
def g_as : SM :=
  sSeq (sIf (mMap isNon (dVar 0))
  (sRet (zah (.int 0)))
  (sNx))
  (sRet (zbU oLen (zaf (mMap PyData.list (zbL (dZip (zaf (dVar 0) (zaf (dVar 1) (mNil)))) 2 (gT 2 (gNC (gN 2) (gNC (gN 3) (gN0)))) (mAnd (mMap (fun d => !isNon d) (dVar 2)) (zbf oEq 3 (dVar 2))) (dVar 2))) (mNil))))
def F_as : List D -> Option D := runD N_as g_as
theorem Kas {P : Program} {w : World} {K : PySem.W.Frag} {mg : Str -> Option Value} {base : Heap} {f : Addr} {fd : FuncData} (T : Txt K mg) (F : Fun K "how_many_kept" "how_many_kept" Sas f fd) : FnOk P w K mg base CX0 1 f fd ["old", "dealing"] (spD K 2 F_as) :=
  okD (k := 0) (g := g_as) F Cas rfl fun cdv A outer s H E B G0 hr =>
  have hu := hr.units
  have hgd := hr.gd
  (zaj (zbe (zgy (zac (pv 0 rfl zou)))
  (zam (zaD zal))
  zaQ)
  (zam (zaD (zaX zfH Gas1 T.b_len boot_len (zaa (zbm (zbw (zag Sas) N_as ["old", "dealing", "thing", "got"] 2 rfl (zhp Gas2 T.b_zip (zaa (zac (pv 0 rfl zou)) (zaa (zac (pv 1 rfl zp4)) zai))) (fun cl C s₀ H₀ ex B' G' => ⟨(zbW rfl (zaC (zao (zan (i := 2) (show (["old", "dealing", "thing", "got"] : List Str).Nodup by decide +kernel) rfl (za1 rfl) (.inr (zbq rfl)))) (zaC (zao (zan (i := 3) (show (["old", "dealing", "thing", "got"] : List Str).Nodup by decide +kernel) rfl (za1 rfl) (.inr (zbq rfl)))) zbV))), (zee (PW.pt (ze4 (zcv (zac (pvb 2))) (zdY (zbt (B_eq hu) (pvb 3) (zac (pvb 2)) (zaR _)))))), (zac (pvb 2))⟩) rfl rfl (by decide +kernel) rfl (by decide +kernel) (by decide +kernel) (by decide +kernel))) zai)))))
abbrev Saa : Stmt := top 1
abbrev N_aa : List Str := ["thing"]
theorem Caa : zaF N_aa ["thing"] (zag Saa) := ⟨rfl, rfl, rfl, by decide +kernel, rfl, by decide +kernel, by decide +kernel⟩
theorem zov : VV Saa "thing" := vk (by decide +kernel)
theorem Gaa1 : GG Saa "bool" := by decide +kernel
theorem Gaa2 : GG Saa "int" := by decide +kernel
theorem Gaa3 : GG Saa "isinstance" := by decide +kernel
def g_aa : SM :=
  sRet (ze5 (mMap (fun d => .bool (isTy d "int")) (dVar 0)) (ziU (mMap (fun d => .bool (isTy d "bool")) (dVar 0))))
def F_aa : List D -> Option D := runD N_aa g_aa
theorem Kaa {P : Program} {w : World} {K : PySem.W.Frag} {mg : Str -> Option Value} {base : Heap} {f : Addr} {fd : FuncData} (T : Txt K mg) (F : Fun K "is_whole" "is_whole" Saa f fd) : FnOk P w K mg base CX0 1 f fd ["thing"] (spD K 1 F_aa) :=
  okD (k := 0) (g := g_aa) F Caa rfl fun cdv A outer s H E B G0 hr =>
  have hu := hr.units
  have hgd := hr.gd
  (zam (zaD (zdA (zaY (c := "int") (by decide) Gaa3 T.b_isinstance Gaa2 T.b_int (by decide +kernel) (zac (pv 0 rfl zov)) (by decide) (by decide)) (zcN (ziV (zaY (c := "bool") (by decide) Gaa3 T.b_isinstance Gaa1 T.b_bool (by decide +kernel) (zac (pv 0 rfl zov)) (by decide) (by decide)))))))
abbrev Sab : Stmt := top 2
abbrev N_ab : List Str := ["thing", "many"]
theorem Cab : zaF N_ab ["thing", "many"] (zag Sab) := ⟨rfl, rfl, rfl, by decide +kernel, rfl, by decide +kernel, by decide +kernel⟩
theorem zow : VV Sab "thing" := vk (by decide +kernel)
theorem zp5 : VV Sab "many" := vk (by decide +kernel)
theorem Gab1 : GG Sab "is_whole" := by decide +kernel
def g_ab : SM :=
  sRet (ze5 (dFun 1 F_aa (zaf (dVar 0) (mNil))) (mMap PyData.bool (zdL (oIB fun i j => decide (i <= j)) (oIB fun i j => decide (i < j)) (zah (.int 0)) (dVar 0) (dVar 1))))
def F_ab : List D -> Option D := runD N_ab g_ab
theorem Kab {P : Program} {w : World} {K : PySem.W.Frag} {mg : Str -> Option Value} {base : Heap} {f : Addr} {fd : FuncData} (T : Txt K mg) (d_aa : Def P w K mg base "is_whole" 1 1 F_aa) (F : Fun K "is_number_below" "is_number_below" Sab f fd) : FnOk P w K mg base CX0 2 f fd ["thing", "many"] (spD K 2 F_ab) :=
  okD (k := 1) (g := g_ab) F Cab rfl fun cdv A outer s H E B G0 hr =>
  have hu := hr.units
  have hgd := hr.gd
  (zam (zaD (zdA (zaq d_aa (hr.mono (by decide)) Gab1 (zaa (zac (pv 0 rfl zow)) zai)) (zcN (zfG B_le B_lt zal (zac (pv 0 rfl zow)) (zac (pv 1 rfl zp5)))))))
abbrev Sad : Stmt := top 13
abbrev N_ad : List Str := ["thing", "things"]
theorem Cad : zaF N_ad ["thing", "things"] (zag Sad) := ⟨rfl, rfl, rfl, by decide +kernel, rfl, by decide +kernel, by decide +kernel⟩
theorem zmL : VV Sad "thing" := vk (by decide +kernel)
theorem Gad1 : GG Sad "all" := by decide +kernel
theorem Gad2 : GG Sad "isinstance" := by decide +kernel
theorem Gad3 : GG Sad "len" := by decide +kernel
theorem Gad4 : GG Sad "list" := by decide +kernel
def g_ad : SM :=
  sSeq (sIf (mOr (mNot (zbk (mMap (fun d => .bool (isTy d "list")) (dVar 0)))) (dBin oEq (zbJ 0) (zah (.int 0))))
  (sRet (zah (.bool false)))
  (sNx))
  (sRet (zbU oAll (zaf (mMap PyData.list (zbL (za3 (dVar 0)) 1 (gN 2) (zah true) (dFun 2 F_ab (zaf (dVar 2) (zaf (dVar 1) (mNil)))))) (mNil))))
def F_ad : List D -> Option D := runD N_ad g_ad
theorem Kad {P : Program} {w : World} {K : PySem.W.Frag} {mg : Str -> Option Value} {base : Heap} {f : Addr} {fd : FuncData} (T : Txt K mg) (d_ab : Def P w K mg base "is_number_below" 2 2 F_ab) (F : Fun K "is_rank" "is_rank" Sad f fd) : FnOk P w K mg base CX0 3 f fd ["thing", "things"] (spD K 2 F_ad) :=
  okD (k := 2) (g := g_ad) F Cad rfl fun cdv A outer s H E B G0 hr =>
  have hu := hr.units
  have hgd := hr.gd
  (zaj (zbe (PW.pt (zc5 (zba (zbh (zaY (c := "list") (by decide) Gad2 T.b_isinstance Gad4 T.b_list (by decide +kernel) (zac (pv 0 rfl zmL)) (by decide) (by decide)))) (zcm (zb7 (B_eq hu) (zaS Gad3 T.b_len (pv 0 rfl zmL)) zal (zaR _)))))
  (zam (zaD zbH))
  zaQ)
  (zam (zaD (zaX (zkF rfl) Gad1 T.b_all PyProof.Rows.boot_all (zaa (zbm (zbw (zag Sad) N_ad ["thing", "things", "number"] 1 rfl (zbS (zac (pv 0 rfl zmL))) (fun cl C s₀ H₀ ex B' G' => ⟨(zao (zan (i := 2) (show (["thing", "things", "number"] : List Str).Nodup by decide +kernel) rfl (za1 rfl) (.inr (zbq rfl)))), zbB, (zaq d_ab (hr.mono (by decide)) (zdj rfl) (zaa (zac (pvb 2)) (zaa (zac (pvb 1)) zai)))⟩) rfl rfl (by decide +kernel) rfl (by decide +kernel) (by decide +kernel) (by decide +kernel))) zai)))))
abbrev Sae : Stmt := top 14
abbrev N_ae : List Str := ["thing", "things", "wished"]
theorem Cae : zaF N_ae ["thing", "things"] (zag Sae) := ⟨rfl, rfl, rfl, by decide +kernel, rfl, by decide +kernel, by decide +kernel⟩
theorem zk6 : VV Sae "thing" := vk (by decide +kernel)
theorem zox : VV Sae "wished" := vk (by decide +kernel)
theorem Gae1 : GG Sae "MOST_RANKS" := by decide +kernel
theorem Gae2 : GG Sae "all" := by decide +kernel
theorem Gae3 : GG Sae "isinstance" := by decide +kernel
theorem Gae4 : GG Sae "len" := by decide +kernel
theorem Gae5 : GG Sae "list" := by decide +kernel
theorem Gae6 : GG Sae "set" := by decide +kernel
def g_ae : SM :=
  sSeq (sIf (mOr (mNot (zbk (mMap (fun d => .bool (isTy d "list")) (dVar 0)))) (dBin (oIB fun i j => decide (j < i)) (zbJ 0) (zah (.int 5))))
  (sRet (zah (.bool false)))
  (sNx))
  (sSeq (sIf (mNot (zbk (zbU oAll (zaf (mMap PyData.list (zbL (za3 (dVar 0)) 1 (gN 3) (zah true) (dFun 2 F_ad (zaf (dVar 3) (zaf (dVar 1) (mNil)))))) (mNil)))))
  (sRet (zah (.bool false)))
  (sNx))
  (sSeq (zbK 2 (zef (za3 (dVar 0)) 2 (gN 3) (zah true) (za3 (dVar 3)) (gN 4) (zah true) (dVar 4)))
  (sRet (mMap PyData.bool (dBin oEq (zbU zcA (zaf (dVar 2) (mNil))) (zbJ 2))))))
def F_ae : List D -> Option D := runD N_ae g_ae
theorem Kae {P : Program} {w : World} {K : PySem.W.Frag} {mg : Str -> Option Value} {base : Heap} {f : Addr} {fd : FuncData} (T : Txt K mg) (d_ad : Def P w K mg base "is_rank" 3 2 F_ad) (F : Fun K "is_asker_list" "is_asker_list" Sae f fd) : FnOk P w K mg base CX0 4 f fd ["thing", "things"] (spD K 2 F_ae) :=
  okD (k := 3) (g := g_ae) F Cae rfl fun cdv A outer s H E B G0 hr =>
  have hu := hr.units
  have hgd := hr.gd
  (zaj (zbe (PW.pt (zc5 (zba (zbh (zaY (c := "list") (by decide) Gae3 T.b_isinstance Gae5 T.b_list (by decide +kernel) (zac (pv 0 rfl zk6)) (by decide) (by decide)))) (zcm (zb7 B_gt (zaS Gae4 T.b_len (pv 0 rfl zk6)) (zkH Gae1 T.c_MOST_RANKS) (zaR _)))))
  (zam (zaD zbH))
  zaQ)
  (zaj (zbe (zba (zbh (zaX (zkF rfl) Gae2 T.b_all PyProof.Rows.boot_all (zaa (zbm (zbw (zag Sae) N_ae ["thing", "things", "wished", "rank"] 1 rfl (zbS (zac (pv 0 rfl zk6))) (fun cl C s₀ H₀ ex B' G' => ⟨(zao (zan (i := 3) (show (["thing", "things", "wished", "rank"] : List Str).Nodup by decide +kernel) rfl (za1 rfl) (.inr (zbq rfl)))), zbB, (zaq d_ad (hr.mono (by decide)) (zdj rfl) (zaa (zac (pvb 3)) (zaa (zac (pvb 1)) zai)))⟩) rfl rfl (by decide +kernel) rfl (by decide +kernel) (by decide +kernel) (by decide +kernel))) zai))))
  (zam (zaD zbH))
  zaQ)
  (zaj (zkL (j := 2) (N2 := ["thing", "things", "wished", "rank", "number"]) (k := 2) Cae.nd rfl rfl rfl (zbS (zac (pv 0 rfl zk6))) (fun cl C s₀ H₀ ex B' G' => ⟨(zao (zan (i := 3) (show (["thing", "things", "wished", "rank", "number"] : List Str).Nodup by decide +kernel) rfl (za1 rfl) (.inr (zbq rfl)))), zbB, (zbS (zac (pvb 3))), (zao (zan (i := 4) (show (["thing", "things", "wished", "rank", "number"] : List Str).Nodup by decide +kernel) rfl (za1 rfl) (.inr (zbq rfl)))), zbB, (zac (pvb 4))⟩) (zag Sae) N_ae rfl rfl (by decide +kernel) rfl (by decide +kernel) (by decide +kernel) (by decide +kernel))
  (zam (zaD (zgx (B_eq hu) (zeK rfl Gae4 T.b_len Gae6 T.b_set (zaa (zac (pv 2 rfl zox)) zai)) (zaS Gae4 T.b_len (pv 2 rfl zox)) (zaR _)))))))
abbrev Saf : Stmt := top 15
abbrev N_af : List Str := ["lists", "things", "asker", "ranks"]
theorem Caf : zaF N_af ["lists", "things"] (zag Saf) := ⟨rfl, rfl, rfl, by decide +kernel, rfl, by decide +kernel, by decide +kernel⟩
theorem zmM : VV Saf "lists" := vk (by decide +kernel)
theorem zp6 : VV Saf "things" := vk (by decide +kernel)
theorem zp7 : VV Saf "ranks" := vk (by decide +kernel)
theorem Gaf1 : GG Saf "MOST_ASKERS" := by decide +kernel
theorem Gaf2 : GG Saf "enumerate" := by decide +kernel
theorem Gaf3 : GG Saf "is_asker_list" := by decide +kernel
theorem Gaf4 : GG Saf "isinstance" := by decide +kernel
theorem Gaf5 : GG Saf "len" := by decide +kernel
theorem Gaf6 : GG Saf "list" := by decide +kernel
theorem Laf1 : LL Saf "asker" := lk (by decide +kernel)
theorem Laf2 : LL Saf "ranks" := lk (by decide +kernel)
def zjH : SM :=
  sIf (mNot (zbk (dFun 2 F_ae (zaf (dVar 3) (zaf (dVar 1) (mNil))))))
  (zc6)
  (sNx)
def g_af : SM :=
  sSeq (sIf (mOr (mNot (zbk (mMap (fun d => .bool (isTy d "list")) (dVar 0)))) (mNot (zdL (oIB fun i j => decide (i <= j)) (oIB fun i j => decide (i <= j)) (zah (.int 1)) (zbJ 0) (zah (.int 7)))))
  (zc6)
  (sNx))
  (sFor (zeC (zaf (dVar 0) (mNil))) (gT 2 (gNC (gN 2) (gNC (gN 3) (gN0)))) zjH)
def F_af : List D -> Option D := runD N_af g_af
theorem Kaf {P : Program} {w : World} {K : PySem.W.Frag} {mg : Str -> Option Value} {base : Heap} {f : Addr} {fd : FuncData} (T : Txt K mg) (d_ae : Def P w K mg base "is_asker_list" 4 2 F_ae) (F : Fun K "look_at_lists" "look_at_lists" Saf f fd) : FnOk P w K mg base CX0 5 f fd ["lists", "things"] (spD K 2 F_af) :=
  okD (k := 4) (g := g_af) F Caf rfl fun cdv A outer s H E B G0 hr =>
  have hu := hr.units
  have hgd := hr.gd
  (zaj (zbe (PW.pt (zc5 (zba (zbh (zaY (c := "list") (by decide) Gaf4 T.b_isinstance Gaf6 T.b_list (by decide +kernel) (zac (pv 0 rfl zmM)) (by decide) (by decide)))) (zcm (zba (zfF B_le B_le zal (zaS Gaf5 T.b_len (pv 0 rfl zmM)) (zkH Gaf1 T.c_MOST_ASKERS))))))
  (zam zca)
  zaQ)
  (zam (zb8 PassesOwn.never rfl (zda Gaf2 T.b_enumerate (zaa (zac (pv 0 rfl zmM)) zai)) (zbW rfl (zaC (zao (zan (i := 2) Caf.nd rfl Laf1)) (zaC (zao (zan (i := 3) Caf.nd rfl Laf2)) zbV)))
  (zam (zbe (zba (zbh (zaq d_ae (hr.mono (by decide)) Gaf3 (zaa (zac (pv 3 rfl zp7)) (zaa (zac (pv 1 rfl zp6)) zai)))))
  (zam zca)
  zaQ)))))
abbrev Sac : Stmt := top 12
abbrev N_ac : List Str := ["copies", "number", "many"]
theorem Cac : zaF N_ac ["copies"] (zag Sac) := ⟨rfl, rfl, rfl, by decide +kernel, rfl, by decide +kernel, by decide +kernel⟩
theorem zmN : VV Sac "copies" := vk (by decide +kernel)
theorem zp8 : VV Sac "many" := vk (by decide +kernel)
theorem Gac1 : GG Sac "MOST_COPIES" := by decide +kernel
theorem Gac2 : GG Sac "MOST_THINGS" := by decide +kernel
theorem Gac3 : GG Sac "enumerate" := by decide +kernel
theorem Gac4 : GG Sac "is_number_below" := by decide +kernel
theorem Gac5 : GG Sac "isinstance" := by decide +kernel
theorem Gac6 : GG Sac "len" := by decide +kernel
theorem Gac7 : GG Sac "list" := by decide +kernel
theorem Lac1 : LL Sac "many" := lk (by decide +kernel)
theorem Lac2 : LL Sac "number" := lk (by decide +kernel)
def zjI : SM :=
  sIf (mNot (zbk (dFun 2 F_ab (zaf (dVar 2) (zaf (dBin oAdd (zah (.int 7)) (zah (.int 1))) (mNil))))))
  (zc6)
  (sNx)
def g_ac : SM :=
  sSeq (sIf (mOr (mNot (zbk (mMap (fun d => .bool (isTy d "list")) (dVar 0)))) (mNot (zdL (oIB fun i j => decide (i <= j)) (oIB fun i j => decide (i <= j)) (zah (.int 1)) (zbJ 0) (zah (.int 6)))))
  (zc6)
  (sNx))
  (sFor (zeC (zaf (dVar 0) (mNil))) (gT 2 (gNC (gN 1) (gNC (gN 2) (gN0)))) zjI)
def F_ac : List D -> Option D := runD N_ac g_ac
theorem Kac {P : Program} {w : World} {K : PySem.W.Frag} {mg : Str -> Option Value} {base : Heap} {f : Addr} {fd : FuncData} (T : Txt K mg) (d_ab : Def P w K mg base "is_number_below" 2 2 F_ab) (F : Fun K "look_at_copies" "look_at_copies" Sac f fd) : FnOk P w K mg base CX0 3 f fd ["copies"] (spD K 1 F_ac) :=
  okD (k := 2) (g := g_ac) F Cac rfl fun cdv A outer s H E B G0 hr =>
  have hu := hr.units
  have hgd := hr.gd
  (zaj (zbe (PW.pt (zc5 (zba (zbh (zaY (c := "list") (by decide) Gac5 T.b_isinstance Gac7 T.b_list (by decide +kernel) (zac (pv 0 rfl zmN)) (by decide) (by decide)))) (zcm (zba (zfF B_le B_le zal (zaS Gac6 T.b_len (pv 0 rfl zmN)) (zkH Gac2 T.c_MOST_THINGS))))))
  (zam zca)
  zaQ)
  (zam (zb8 PassesOwn.never rfl (zda Gac3 T.b_enumerate (zaa (zac (pv 0 rfl zmN)) zai)) (zbW rfl (zaC (zao (zan (i := 1) Cac.nd rfl Lac2)) (zaC (zao (zan (i := 2) Cac.nd rfl Lac1)) zbV)))
  (zam (zbe (zba (zbh (zaq d_ab (hr.mono (by decide)) Gac4 (zaa (zac (pv 2 rfl zp8)) (zaa (zaJ zbA (zkH Gac1 T.c_MOST_COPIES) zal) zai)))))
  (zam zca)
  zaQ)))))
abbrev Sag : Stmt := top 16
abbrev N_ag : List Str := ["thing", "copies", "lists"]
theorem Cag : zaF N_ag ["thing"] (zag Sag) := ⟨rfl, rfl, rfl, by decide +kernel, rfl, by decide +kernel, by decide +kernel⟩
theorem zmO : VV Sag "thing" := vk (by decide +kernel)
theorem zoy : VV Sag "copies" := vk (by decide +kernel)
theorem zp9 : VV Sag "lists" := vk (by decide +kernel)
theorem Gag1 : GG Sag "isinstance" := by decide +kernel
theorem Gag2 : GG Sag "len" := by decide +kernel
theorem Gag3 : GG Sag "look_at_copies" := by decide +kernel
theorem Gag4 : GG Sag "look_at_lists" := by decide +kernel
theorem Gag5 : GG Sag "tuple" := by decide +kernel
theorem Lag1 : LL Sag "copies" := lk (by decide +kernel)
theorem Lag2 : LL Sag "lists" := lk (by decide +kernel)
def g_ag : SM :=
  sSeq (sIf (mOr (mNot (zbk (mMap (fun d => .bool (isTy d "tuple")) (dVar 0)))) (dBin oNe (zbJ 0) (zah (.int 2))))
  (zc6)
  (sNx))
  (sSeq (sAsg (dVar 0) (gT 2 (gNC (gN 1) (gNC (gN 2) (gN0)))))
  (sSeq (zd8 (dFun 1 F_ac (zaf (dVar 1) (mNil))))
  (zd8 (dFun 2 F_af (zaf (dVar 2) (zaf (zbJ 1) (mNil)))))))
def F_ag : List D -> Option D := runD N_ag g_ag
theorem Kag {P : Program} {w : World} {K : PySem.W.Frag} {mg : Str -> Option Value} {base : Heap} {f : Addr} {fd : FuncData} (T : Txt K mg) (d_af : Def P w K mg base "look_at_lists" 5 2 F_af) (d_ac : Def P w K mg base "look_at_copies" 3 1 F_ac) (F : Fun K "look_at_wishes" "look_at_wishes" Sag f fd) : FnOk P w K mg base CX0 6 f fd ["thing"] (spD K 1 F_ag) :=
  okD (k := 5) (g := g_ag) F Cag rfl fun cdv A outer s H E B G0 hr =>
  have hu := hr.units
  have hgd := hr.gd
  (zaj (zbe (PW.pt (zc5 (zba (zbh (zaY (c := "tuple") (by decide) Gag1 T.b_isinstance Gag5 T.b_tuple (by decide +kernel) (zac (pv 0 rfl zmO)) (by decide) (by decide)))) (zcm (zb7 (B_ne hu) (zaS Gag2 T.b_len (pv 0 rfl zmO)) zal (zaR _)))))
  (zam zca)
  zaQ)
  (zaj (zd9 (zac (pv 0 rfl zmO)) (zbW rfl (zaC (zao (zan (i := 1) Cag.nd rfl Lag1)) (zaC (zao (zan (i := 2) Cag.nd rfl Lag2)) zbV))))
  (zaj (zcO (zaq d_ac (hr.mono (by decide)) Gag3 (zaa (zac (pv 1 rfl zoy)) zai)))
  (zam (zcO (zaq d_af (hr.mono (by decide)) Gag4 (zaa (zac (pv 2 rfl zp9)) (zaa (zaS Gag2 T.b_len (pv 1 rfl zoy)) zai))))))))
abbrev Sai : Stmt := top 18
abbrev N_ai : List Str := ["wishes"]
theorem Cai : zaF N_ai ["wishes"] (zag Sai) := ⟨rfl, rfl, rfl, by decide +kernel, rfl, by decide +kernel, by decide +kernel⟩
theorem zoz : VV Sai "wishes" := vk (by decide +kernel)
theorem Gai1 : GG Sai "look_at_wishes" := by decide +kernel
theorem Gai2 : GG Sai "max" := by decide +kernel
def g_ai : SM :=
  sSeq (zd8 (dFun 1 F_ag (zaf (dVar 0) (mNil))))
  (sRet (zbU zgM (zaf (mMap PyData.list (zbL (za3 (dIxN 0 (zah (.int 1)))) 1 (gN 1) (zah true) (zbJ 1))) (mNil))))
def F_ai : List D -> Option D := runD N_ai g_ai
theorem Kai {P : Program} {w : World} {K : PySem.W.Frag} {mg : Str -> Option Value} {base : Heap} {f : Addr} {fd : FuncData} (T : Txt K mg) (d_ag : Def P w K mg base "look_at_wishes" 6 1 F_ag) (F : Fun K "longest" "longest" Sai f fd) : FnOk P w K mg base CX0 7 f fd ["wishes"] (spD K 1 F_ai) :=
  okD (k := 6) (g := g_ai) F Cai rfl fun cdv A outer s H E B G0 hr =>
  have hu := hr.units
  have hgd := hr.gd
  (zaj (zcO (zaq d_ag (hr.mono (by decide)) Gai1 (zaa (zac (pv 0 rfl zoz)) zai)))
  (zam (zaD (zaX (zlM rfl) Gai2 T.b_max boot_max (zaa (zbm (zbw (zag Sai) N_ai ["wishes", "ranks"] 1 rfl (zbS (zaz (pv 0 rfl zoz) zal (fun _ _ => rfl))) (fun cl C s₀ H₀ ex B' G' => ⟨(zao (zan (i := 1) (show (["wishes", "ranks"] : List Str).Nodup by decide +kernel) rfl (za1 rfl) (.inr (zbq rfl)))), zbB, (zaS (zdj rfl) T.b_len (pvb 1))⟩) rfl rfl (by decide +kernel) rfl (by decide +kernel) (by decide +kernel) (by decide +kernel))) zai)))))
abbrev Sah : Stmt := top 17
abbrev N_ah : List Str := ["ranks", "thing", "number", "rank"]
theorem Cah : zaF N_ah ["ranks", "thing"] (zag Sah) := ⟨rfl, rfl, rfl, by decide +kernel, rfl, by decide +kernel, by decide +kernel⟩
theorem zqa : VV Sah "ranks" := vk (by decide +kernel)
theorem zqb : VV Sah "thing" := vk (by decide +kernel)
theorem zqc : VV Sah "number" := vk (by decide +kernel)
theorem zqd : VV Sah "rank" := vk (by decide +kernel)
theorem Gah1 : GG Sah "enumerate" := by decide +kernel
theorem Lah1 : LL Sah "number" := lk (by decide +kernel)
theorem Lah2 : LL Sah "rank" := lk (by decide +kernel)
def zgV : SM :=
  sIf (zbf oIn 1 (dVar 3))
  (sRet (dVar 2))
  (sNx)
def g_ah : SM :=
  sSeq (sFor (zhr (zaf (dVar 0) (mNil))) (gT 2 (gNC (gN 2) (gNC (gN 3) (gN0)))) zgV)
  (sRet (zah (.int 0)))
def F_ah : List D -> Option D := runD N_ah g_ah
theorem Kah {P : Program} {w : World} {K : PySem.W.Frag} {mg : Str -> Option Value} {base : Heap} {f : Addr} {fd : FuncData} (T : Txt K mg) (F : Fun K "rank_in" "rank_in" Sah f fd) : FnOk P w K mg base CX0 1 f fd ["ranks", "thing"] (spD K 2 F_ah) :=
  okD (k := 0) (g := g_ah) F Cah rfl fun cdv A outer s H E B G0 hr =>
  have hu := hr.units
  have hgd := hr.gd
  (zaj (zb8 PassesOwn.never rfl (zkO Gah1 T.b_enumerate (zaa (zac (pv 0 rfl zqa)) zai)) (zbW rfl (zaC (zao (zan (i := 2) Cah.nd rfl Lah1)) (zaC (zao (zan (i := 3) Cah.nd rfl Lah2)) zbV)))
  (zam (zbe (zbt (B_in hu) (pv 1 rfl zqb) (zac (pv 3 rfl zqd)) rfl)
  (zam (zaD (zac (pv 2 rfl zqc))))
  zaQ)))
  (zam (zaD zal)))
abbrev Saj : Stmt := top 20
abbrev N_aj : List Str := ["wishes", "dealing"]
theorem Caj : zaF N_aj ["wishes", "dealing"] (zag Saj) := ⟨rfl, rfl, rfl, by decide +kernel, rfl, by decide +kernel, by decide +kernel⟩
theorem zqe : VV Saj "wishes" := vk (by decide +kernel)
theorem zqf : VV Saj "dealing" := vk (by decide +kernel)
theorem Gaj1 : GG Saj "enumerate" := by decide +kernel
theorem Gaj2 : GG Saj "look_at_wishes" := by decide +kernel
def g_aj : SM :=
  sSeq (zd8 (dFun 1 F_ag (zaf (dVar 0) (mNil))))
  (sRet (mMap PyData.list (zbL (zeC (zaf (dVar 1) (mNil))) 2 (gT 2 (gNC (gN 2) (gNC (gN 3) (gN0)))) (zah true) (dFun 2 F_ah (zaf (dBin oIx (dIxN 0 (zah (.int 1))) (dVar 2)) (zaf (dVar 3) (mNil)))))))
def F_aj : List D -> Option D := runD N_aj g_aj
theorem Kaj {P : Program} {w : World} {K : PySem.W.Frag} {mg : Str -> Option Value} {base : Heap} {f : Addr} {fd : FuncData} (T : Txt K mg) (d_ah : Def P w K mg base "rank_in" 1 2 F_ah) (d_ag : Def P w K mg base "look_at_wishes" 6 1 F_ag) (F : Fun K "ranks_got" "ranks_got" Saj f fd) : FnOk P w K mg base CX0 7 f fd ["wishes", "dealing"] (spD K 2 F_aj) :=
  okD (k := 6) (g := g_aj) F Caj rfl fun cdv A outer s H E B G0 hr =>
  have hu := hr.units
  have hgd := hr.gd
  (zaj (zcO (zaq d_ag (hr.mono (by decide)) Gaj2 (zaa (zac (pv 0 rfl zqe)) zai)))
  (zam (zaD (zbm (zbw (zag Saj) N_aj ["wishes", "dealing", "asker", "got"] 2 rfl (zda Gaj1 T.b_enumerate (zaa (zac (pv 1 rfl zqf)) zai)) (fun cl C s₀ H₀ ex B' G' => ⟨(zbW rfl (zaC (zao (zan (i := 2) (show (["wishes", "dealing", "asker", "got"] : List Str).Nodup by decide +kernel) rfl (za1 rfl) (.inr (zbq rfl)))) (zaC (zao (zan (i := 3) (show (["wishes", "dealing", "asker", "got"] : List Str).Nodup by decide +kernel) rfl (za1 rfl) (.inr (zbq rfl)))) zbV))), zbB, (zaq d_ah (hr.mono (by decide)) (zdj rfl) (zaa (zdM (zaz (pvb 0) zal (fun _ _ => rfl)) (zac (pvb 2)) (fun _ _ => rfl)) (zaa (zac (pvb 3)) zai)))⟩) rfl rfl (by decide +kernel) rfl (by decide +kernel) (by decide +kernel) (by decide +kernel))))))
abbrev Sak : Stmt := top 21
abbrev N_ak : List Str := ["wishes", "dealing", "got"]
theorem Cak : zaF N_ak ["wishes", "dealing"] (zag Sak) := ⟨rfl, rfl, rfl, by decide +kernel, rfl, by decide +kernel, by decide +kernel⟩
theorem zoA : VV Sak "wishes" := vk (by decide +kernel)
theorem zqg : VV Sak "dealing" := vk (by decide +kernel)
theorem zqh : VV Sak "got" := vk (by decide +kernel)
theorem Gak1 : GG Sak "longest" := by decide +kernel
theorem Gak2 : GG Sak "range" := by decide +kernel
theorem Gak3 : GG Sak "ranks_got" := by decide +kernel
theorem Lak1 : LL Sak "got" := lk (by decide +kernel)
def g_ak : SM :=
  sSeq (sSet 2 (dFun 2 F_aj (zaf (dVar 0) (zaf (dVar 1) (mNil)))))
  (sRet (dBin oAdd (mMap PyData.list (zbL (ziX (zaf (zah (.int 1)) (zaf (dBin oAdd (dFun 1 F_ai (zaf (dVar 0) (mNil))) (zah (.int 1))) (mNil)))) 1 (gN 3) (zah true) (zeh (dVar 2) (zaf (dVar 3) (mNil))))) (mLst (zaf (zeh (dVar 2) (zaf (zah (.int 0)) (mNil))) (mNil)))))
def F_ak : List D -> Option D := runD N_ak g_ak
theorem Kak {P : Program} {w : World} {K : PySem.W.Frag} {mg : Str -> Option Value} {base : Heap} {f : Addr} {fd : FuncData} (T : Txt K mg) (d_ai : Def P w K mg base "longest" 7 1 F_ai) (d_aj : Def P w K mg base "ranks_got" 7 2 F_aj) (F : Fun K "counts_of" "counts_of" Sak f fd) : FnOk P w K mg base CX0 8 f fd ["wishes", "dealing"] (spD K 2 F_ak) :=
  okD (k := 7) (g := g_ak) F Cak rfl fun cdv A outer s H E B G0 hr =>
  have hu := hr.units
  have hgd := hr.gd
  (zaj (zaP (i := 2) Cak.nd rfl Lak1 (zaq d_aj (hr.mono (by decide)) Gak3 (zaa (zac (pv 0 rfl zoA)) (zaa (zac (pv 1 rfl zqg)) zai))))
  (zam (zaD (zaJ zbA (zbm (zbw (zag Sak) N_ak ["wishes", "dealing", "got", "rank"] 1 rfl (zfI Gak2 T.b_range (zaa zal (zaa (zaJ zbA (zaq d_ai (hr.mono (by decide)) Gak1 (zaa (zac (pv 0 rfl zoA)) zai)) zal) zai))) (fun cl C s₀ H₀ ex B' G' => ⟨(zao (zan (i := 3) (show (["wishes", "dealing", "got", "rank"] : List Str).Nodup by decide +kernel) rfl (za1 rfl) (.inr (zbq rfl)))), zbB, (zei hu (zac (pvb 2)) (zaa (zac (pvb 3)) zai))⟩) rfl rfl (by decide +kernel) rfl (by decide +kernel) (by decide +kernel) (by decide +kernel))) (zbb (zaa (zei hu (zac (pv 2 rfl zqh)) (zaa zal zai)) zai))))))
abbrev Saq : Stmt := top 30
abbrev N_aq : List Str := ["thing", "askers"]
theorem Caq : zaF N_aq ["thing", "askers"] (zag Saq) := ⟨rfl, rfl, rfl, by decide +kernel, rfl, by decide +kernel, by decide +kernel⟩
theorem zk7 : VV Saq "thing" := vk (by decide +kernel)
theorem Gaq1 : GG Saq "all" := by decide +kernel
theorem Gaq2 : GG Saq "isinstance" := by decide +kernel
theorem Gaq3 : GG Saq "len" := by decide +kernel
theorem Gaq4 : GG Saq "list" := by decide +kernel
theorem Gaq5 : GG Saq "set" := by decide +kernel
def g_aq : SM :=
  sSeq (sIf (mOr (mNot (zbk (mMap (fun d => .bool (isTy d "list")) (dVar 0)))) (mNot (zbk (zbU oAll (zaf (mMap PyData.list (zbL (za3 (dVar 0)) 1 (gN 2) (zah true) (dFun 2 F_ab (zaf (dVar 2) (zaf (dVar 1) (mNil)))))) (mNil))))))
  (sRet (zah (.bool false)))
  (sNx))
  (sRet (mMap PyData.bool (dBin oEq (zbU zcA (zaf (dVar 0) (mNil))) (zbJ 0))))
def F_aq : List D -> Option D := runD N_aq g_aq
theorem Kaq {P : Program} {w : World} {K : PySem.W.Frag} {mg : Str -> Option Value} {base : Heap} {f : Addr} {fd : FuncData} (T : Txt K mg) (d_ab : Def P w K mg base "is_number_below" 2 2 F_ab) (F : Fun K "is_turns" "is_turns" Saq f fd) : FnOk P w K mg base CX0 3 f fd ["thing", "askers"] (spD K 2 F_aq) :=
  okD (k := 2) (g := g_aq) F Caq rfl fun cdv A outer s H E B G0 hr =>
  have hu := hr.units
  have hgd := hr.gd
  (zaj (zbe (PW.pt (zc5 (zba (zbh (zaY (c := "list") (by decide) Gaq2 T.b_isinstance Gaq4 T.b_list (by decide +kernel) (zac (pv 0 rfl zk7)) (by decide) (by decide)))) (zcm (zba (zbh (zaX (zkF rfl) Gaq1 T.b_all PyProof.Rows.boot_all (zaa (zbm (zbw (zag Saq) N_aq ["thing", "askers", "asker"] 1 rfl (zbS (zac (pv 0 rfl zk7))) (fun cl C s₀ H₀ ex B' G' => ⟨(zao (zan (i := 2) (show (["thing", "askers", "asker"] : List Str).Nodup by decide +kernel) rfl (za1 rfl) (.inr (zbq rfl)))), zbB, (zaq d_ab (hr.mono (by decide)) (zdj rfl) (zaa (zac (pvb 2)) (zaa (zac (pvb 1)) zai)))⟩) rfl rfl (by decide +kernel) rfl (by decide +kernel) (by decide +kernel) (by decide +kernel))) zai)))))))
  (zam (zaD zbH))
  zaQ)
  (zam (zaD (zgx (B_eq hu) (zeK rfl Gaq3 T.b_len Gaq5 T.b_set (zaa (zac (pv 0 rfl zk7)) zai)) (zaS Gaq3 T.b_len (pv 0 rfl zk7)) (zaR _)))))
abbrev Sap : Stmt := top 29
abbrev N_ap : List Str := ["thing", "askers", "things"]
theorem Cap : zaF N_ap ["thing", "askers", "things"] (zag Sap) := ⟨rfl, rfl, rfl, by decide +kernel, rfl, by decide +kernel, by decide +kernel⟩
theorem zk8 : VV Sap "thing" := vk (by decide +kernel)
theorem zqi : VV Sap "askers" := vk (by decide +kernel)
theorem Gap1 : GG Sap "all" := by decide +kernel
theorem Gap2 : GG Sap "isinstance" := by decide +kernel
theorem Gap3 : GG Sap "len" := by decide +kernel
theorem Gap4 : GG Sap "list" := by decide +kernel
def g_ap : SM :=
  sSeq (sIf (mMap isNon (dVar 0))
  (sRet (zah (.bool true)))
  (sNx))
  (sSeq (sIf (mOr (mNot (zbk (mMap (fun d => .bool (isTy d "list")) (dVar 0)))) (dBin oNe (zbJ 0) (dVar 1)))
  (sRet (zah (.bool false)))
  (sNx))
  (sRet (zbU oAll (zaf (mMap PyData.list (zbL (za3 (dVar 0)) 1 (gN 3) (zah true) (mOrV (mMap (fun d => .bool (isNon d)) (dVar 3)) (dFun 2 F_ab (zaf (dVar 3) (zaf (dVar 2) (mNil))))))) (mNil)))))
def F_ap : List D -> Option D := runD N_ap g_ap
theorem Kap {P : Program} {w : World} {K : PySem.W.Frag} {mg : Str -> Option Value} {base : Heap} {f : Addr} {fd : FuncData} (T : Txt K mg) (d_ab : Def P w K mg base "is_number_below" 2 2 F_ab) (F : Fun K "is_old" "is_old" Sap f fd) : FnOk P w K mg base CX0 3 f fd ["thing", "askers", "things"] (spD K 3 F_ap) :=
  okD (k := 2) (g := g_ap) F Cap rfl fun cdv A outer s H E B G0 hr =>
  have hu := hr.units
  have hgd := hr.gd
  (zaj (zbe (zgy (zac (pv 0 rfl zk8)))
  (zam (zaD zbH))
  zaQ)
  (zaj (zbe (PW.pt (zc5 (zba (zbh (zaY (c := "list") (by decide) Gap2 T.b_isinstance Gap4 T.b_list (by decide +kernel) (zac (pv 0 rfl zk8)) (by decide) (by decide)))) (zcm (zb7 (B_ne hu) (zaS Gap3 T.b_len (pv 0 rfl zk8)) (zac (pv 1 rfl zqi)) (zaR _)))))
  (zam (zaD zbH))
  zaQ)
  (zam (zaD (zaX (zkF rfl) Gap1 T.b_all PyProof.Rows.boot_all (zaa (zbm (zbw (zag Sap) N_ap ["thing", "askers", "things", "kept"] 1 rfl (zbS (zac (pv 0 rfl zk8))) (fun cl C s₀ H₀ ex B' G' => ⟨(zao (zan (i := 3) (show (["thing", "askers", "things", "kept"] : List Str).Nodup by decide +kernel) rfl (za1 rfl) (.inr (zbq rfl)))), zbB, (zlK (zmn (zac (pvb 3))) (zcN (zaq d_ab (hr.mono (by decide)) (zdj rfl) (zaa (zac (pvb 3)) (zaa (zac (pvb 2)) zai)))))⟩) rfl rfl (by decide +kernel) rfl (by decide +kernel) (by decide +kernel) (by decide +kernel))) zai))))))
abbrev Sar : Stmt := top 31
abbrev N_ar : List Str := ["wishes", "thing", "copies", "lists", "order", "old", "turns"]
theorem Car : zaF N_ar ["wishes", "thing"] (zag Sar) := ⟨rfl, rfl, rfl, by decide +kernel, rfl, by decide +kernel, by decide +kernel⟩
theorem zoB : VV Sar "wishes" := vk (by decide +kernel)
theorem zmP : VV Sar "thing" := vk (by decide +kernel)
theorem zqj : VV Sar "copies" := vk (by decide +kernel)
theorem zoC : VV Sar "lists" := vk (by decide +kernel)
theorem zqk : VV Sar "order" := vk (by decide +kernel)
theorem zql : VV Sar "old" := vk (by decide +kernel)
theorem zqm : VV Sar "turns" := vk (by decide +kernel)
theorem Gar1 : GG Sar "is_old" := by decide +kernel
theorem Gar2 : GG Sar "is_turns" := by decide +kernel
theorem Gar3 : GG Sar "isinstance" := by decide +kernel
theorem Gar4 : GG Sar "len" := by decide +kernel
theorem Gar5 : GG Sar "look_at_order" := by decide +kernel
theorem Gar6 : GG Sar "look_at_wishes" := by decide +kernel
theorem Gar7 : GG Sar "tuple" := by decide +kernel
theorem Lar1 : LL Sar "copies" := lk (by decide +kernel)
theorem Lar2 : LL Sar "lists" := lk (by decide +kernel)
theorem Lar3 : LL Sar "old" := lk (by decide +kernel)
theorem Lar4 : LL Sar "order" := lk (by decide +kernel)
theorem Lar5 : LL Sar "turns" := lk (by decide +kernel)
def g_ar : SM :=
  sSeq (zd8 (dFun 1 F_ag (zaf (dVar 0) (mNil))))
  (sSeq (sIf (mOr (mNot (zbk (mMap (fun d => .bool (isTy d "tuple")) (dVar 1)))) (dBin oNe (zbJ 1) (zah (.int 3))))
  (zc6)
  (sNx))
  (sSeq (sAsg (dVar 0) (gT 2 (gNC (gN 2) (gNC (gN 3) (gN0)))))
  (sSeq (sAsg (dVar 1) (gT 3 (gNC (gN 4) (gNC (gN 5) (gNC (gN 6) (gN0))))))
  (sSeq (zd8 (dFun 1 F_am (zaf (dVar 4) (mNil))))
  (sSeq (sIf (mNot (zbk (dFun 3 F_ap (zaf (dVar 5) (zaf (zbJ 3) (zaf (zbJ 2) (mNil)))))))
  (zc6)
  (sNx))
  (sIf (mNot (zbk (dFun 2 F_aq (zaf (dVar 6) (zaf (zbJ 3) (mNil))))))
  (zc6)
  (sNx)))))))
def F_ar : List D -> Option D := runD N_ar g_ar
theorem Kar {P : Program} {w : World} {K : PySem.W.Frag} {mg : Str -> Option Value} {base : Heap} {f : Addr} {fd : FuncData} (T : Txt K mg) (d_aq : Def P w K mg base "is_turns" 3 2 F_aq) (d_ap : Def P w K mg base "is_old" 3 3 F_ap) (d_am : Def P w K mg base "look_at_order" 2 1 F_am) (d_ag : Def P w K mg base "look_at_wishes" 6 1 F_ag) (F : Fun K "look_at_aim" "look_at_aim" Sar f fd) : FnOk P w K mg base CX0 7 f fd ["wishes", "thing"] (spD K 2 F_ar) :=
  okD (k := 6) (g := g_ar) F Car rfl fun cdv A outer s H E B G0 hr =>
  have hu := hr.units
  have hgd := hr.gd
  (zaj (zcO (zaq d_ag (hr.mono (by decide)) Gar6 (zaa (zac (pv 0 rfl zoB)) zai)))
  (zaj (zbe (PW.pt (zc5 (zba (zbh (zaY (c := "tuple") (by decide) Gar3 T.b_isinstance Gar7 T.b_tuple (by decide +kernel) (zac (pv 1 rfl zmP)) (by decide) (by decide)))) (zcm (zb7 (B_ne hu) (zaS Gar4 T.b_len (pv 1 rfl zmP)) zal (zaR _)))))
  (zam zca)
  zaQ)
  (zaj (zd9 (zac (pv 0 rfl zoB)) (zbW rfl (zaC (zao (zan (i := 2) Car.nd rfl Lar1)) (zaC (zao (zan (i := 3) Car.nd rfl Lar2)) zbV))))
  (zaj (zd9 (zac (pv 1 rfl zmP)) (zbW rfl (zaC (zao (zan (i := 4) Car.nd rfl Lar4)) (zaC (zao (zan (i := 5) Car.nd rfl Lar3)) (zaC (zao (zan (i := 6) Car.nd rfl Lar5)) zbV)))))
  (zaj (zcO (zaq d_am (hr.mono (by decide)) Gar5 (zaa (zac (pv 4 rfl zqk)) zai)))
  (zaj (zbe (zba (zbh (zaq d_ap (hr.mono (by decide)) Gar1 (zaa (zac (pv 5 rfl zql)) (zaa (zaS Gar4 T.b_len (pv 3 rfl zoC)) (zaa (zaS Gar4 T.b_len (pv 2 rfl zqj)) zai))))))
  (zam zca)
  zaQ)
  (zam (zbe (zba (zbh (zaq d_aq (hr.mono (by decide)) Gar2 (zaa (zac (pv 6 rfl zqm)) (zaa (zaS Gar4 T.b_len (pv 3 rfl zoC)) zai)))))
  (zam zca)
  zaQ))))))))
abbrev Sat : Stmt := top 33
abbrev N_at : List Str := ["wishes", "aim", "dealing", "order", "old", "turns", "got"]
theorem Cat : zaF N_at ["wishes", "aim", "dealing"] (zag Sat) := ⟨rfl, rfl, rfl, by decide +kernel, rfl, by decide +kernel, by decide +kernel⟩
theorem zmQ : VV Sat "wishes" := vk (by decide +kernel)
theorem zoD : VV Sat "aim" := vk (by decide +kernel)
theorem zmR : VV Sat "dealing" := vk (by decide +kernel)
theorem zqn : VV Sat "old" := vk (by decide +kernel)
theorem zqo : VV Sat "turns" := vk (by decide +kernel)
theorem Gat1 : GG Sat "counts_of" := by decide +kernel
theorem Gat2 : GG Sat "how_many_kept" := by decide +kernel
theorem Gat3 : GG Sat "look_at_aim" := by decide +kernel
theorem Gat4 : GG Sat "ranks_got" := by decide +kernel
theorem Lat1 : LL Sat "got" := lk (by decide +kernel)
theorem Lat2 : LL Sat "old" := lk (by decide +kernel)
theorem Lat3 : LL Sat "order" := lk (by decide +kernel)
theorem Lat4 : LL Sat "turns" := lk (by decide +kernel)
def g_at : SM :=
  sSeq (zd8 (dFun 2 F_ar (zaf (dVar 0) (zaf (dVar 1) (mNil)))))
  (sSeq (sAsg (dVar 1) (gT 3 (gNC (gN 3) (gNC (gN 4) (gNC (gN 5) (gN0))))))
  (sSeq (sSet 6 (dFun 2 F_aj (zaf (dVar 0) (zaf (dVar 2) (mNil)))))
  (sRet (mTup (zaf (dFun 2 F_ak (zaf (dVar 0) (zaf (dVar 2) (mNil)))) (zaf (dFun 2 F_as (zaf (dVar 4) (zaf (dVar 2) (mNil)))) (zaf (mMap PyData.list (zbL (za3 (dVar 5)) 1 (gN 7) (zah true) (dIxN 6 (dVar 7)))) (mNil))))))))
def F_at : List D -> Option D := runD N_at g_at
theorem Kat {P : Program} {w : World} {K : PySem.W.Frag} {mg : Str -> Option Value} {base : Heap} {f : Addr} {fd : FuncData} (T : Txt K mg) (d_as : Def P w K mg base "how_many_kept" 1 2 F_as) (d_ak : Def P w K mg base "counts_of" 8 2 F_ak) (d_aj : Def P w K mg base "ranks_got" 7 2 F_aj) (d_ar : Def P w K mg base "look_at_aim" 7 2 F_ar) (F : Fun K "score_of" "score_of" Sat f fd) : FnOk P w K mg base CX0 9 f fd ["wishes", "aim", "dealing"] (spD K 3 F_at) :=
  okD (k := 8) (g := g_at) F Cat rfl fun cdv A outer s H E B G0 hr =>
  have hu := hr.units
  have hgd := hr.gd
  (zaj (zcO (zaq d_ar (hr.mono (by decide)) Gat3 (zaa (zac (pv 0 rfl zmQ)) (zaa (zac (pv 1 rfl zoD)) zai))))
  (zaj (zd9 (zac (pv 1 rfl zoD)) (zbW rfl (zaC (zao (zan (i := 3) Cat.nd rfl Lat3)) (zaC (zao (zan (i := 4) Cat.nd rfl Lat2)) (zaC (zao (zan (i := 5) Cat.nd rfl Lat4)) zbV)))))
  (zaj (zaP (i := 6) Cat.nd rfl Lat1 (zaq d_aj (hr.mono (by decide)) Gat4 (zaa (zac (pv 0 rfl zmQ)) (zaa (zac (pv 2 rfl zmR)) zai))))
  (zam (zaD (ze6 (zaa (zaq d_ak (hr.mono (by decide)) Gat1 (zaa (zac (pv 0 rfl zmQ)) (zaa (zac (pv 2 rfl zmR)) zai))) (zaa (zaq d_as (hr.mono (by decide)) Gat2 (zaa (zac (pv 4 rfl zqn)) (zaa (zac (pv 2 rfl zmR)) zai))) (zaa (zbm (zbw (zag Sat) N_at ["wishes", "aim", "dealing", "order", "old", "turns", "got", "asker"] 1 rfl (zbS (zac (pv 5 rfl zqo))) (fun cl C s₀ H₀ ex B' G' => ⟨(zao (zan (i := 7) (show (["wishes", "aim", "dealing", "order", "old", "turns", "got", "asker"] : List Str).Nodup by decide +kernel) rfl (za1 rfl) (.inr (zbq rfl)))), zbB, (zaz (pvb 6) (zac (pvb 7)) (fun _ _ => rfl))⟩) rfl rfl (by decide +kernel) rfl (by decide +kernel) (by decide +kernel) (by decide +kernel))) zai)))))))))
abbrev Sav : Stmt := top 35
abbrev N_av : List Str := ["wishes", "aim", "one", "other", "counts", "kept", "ranks", "other_counts", "other_kept", "other_ranks", "beside"]
theorem Cav : zaF N_av ["wishes", "aim", "one", "other"] (zag Sav) := ⟨rfl, rfl, rfl, by decide +kernel, rfl, by decide +kernel, by decide +kernel⟩
theorem zoE : VV Sav "wishes" := vk (by decide +kernel)
theorem zmS : VV Sav "aim" := vk (by decide +kernel)
theorem zqp : VV Sav "one" := vk (by decide +kernel)
theorem zqq : VV Sav "other" := vk (by decide +kernel)
theorem zqr : VV Sav "counts" := vk (by decide +kernel)
theorem zoF : VV Sav "kept" := vk (by decide +kernel)
theorem zqs : VV Sav "ranks" := vk (by decide +kernel)
theorem zqt : VV Sav "other_counts" := vk (by decide +kernel)
theorem zoG : VV Sav "other_kept" := vk (by decide +kernel)
theorem zqu : VV Sav "other_ranks" := vk (by decide +kernel)
theorem zlO : VV Sav "beside" := vk (by decide +kernel)
theorem Gav1 : GG Sav "beside_by" := by decide +kernel
theorem Gav2 : GG Sav "is_better_by_turns" := by decide +kernel
theorem Gav3 : GG Sav "score_of" := by decide +kernel
theorem Lav1 : LL Sav "beside" := lk (by decide +kernel)
theorem Lav2 : LL Sav "counts" := lk (by decide +kernel)
theorem Lav3 : LL Sav "kept" := lk (by decide +kernel)
theorem Lav4 : LL Sav "other_counts" := lk (by decide +kernel)
theorem Lav5 : LL Sav "other_kept" := lk (by decide +kernel)
theorem Lav6 : LL Sav "other_ranks" := lk (by decide +kernel)
theorem Lav7 : LL Sav "ranks" := lk (by decide +kernel)
def g_av : SM :=
  sSeq (sAsg (dFun 3 F_at (zaf (dVar 0) (zaf (dVar 1) (zaf (dVar 2) (mNil))))) (gT 3 (gNC (gN 4) (gNC (gN 5) (gNC (gN 6) (gN0))))))
  (sSeq (sAsg (dFun 3 F_at (zaf (dVar 0) (zaf (dVar 1) (zaf (dVar 3) (mNil))))) (gT 3 (gNC (gN 7) (gNC (gN 8) (gNC (gN 9) (gN0))))))
  (sSeq (sSet 10 (dFun 3 F_ao (zaf (dIxN 1 (zah (.int 0))) (zaf (dVar 4) (zaf (dVar 7) (mNil))))))
  (sSeq (sIf (zbf oNe 10 (zah (.str "alike")))
  (sRet (mMap PyData.bool (zbf oEq 10 (zah (.str "better")))))
  (sNx))
  (sSeq (sIf (zbf oNe 5 (dVar 8))
  (sRet (mMap PyData.bool (zbf (oIB fun i j => decide (j < i)) 5 (dVar 8))))
  (sNx))
  (sRet (dFun 2 F_au (zaf (dVar 6) (zaf (dVar 9) (mNil)))))))))
def F_av : List D -> Option D := runD N_av g_av
theorem Kav {P : Program} {w : World} {K : PySem.W.Frag} {mg : Str -> Option Value} {base : Heap} {f : Addr} {fd : FuncData} (T : Txt K mg) (d_au : Def P w K mg base "is_better_by_turns" 1 2 F_au) (d_ao : Def P w K mg base "beside_by" 3 3 F_ao) (d_at : Def P w K mg base "score_of" 9 3 F_at) (F : Fun K "is_better" "is_better" Sav f fd) : FnOk P w K mg base CX0 10 f fd ["wishes", "aim", "one", "other"] (spD K 4 F_av) :=
  okD (k := 9) (g := g_av) F Cav rfl fun cdv A outer s H E B G0 hr =>
  have hu := hr.units
  have hgd := hr.gd
  (zaj (zd9 (zaq d_at (hr.mono (by decide)) Gav3 (zaa (zac (pv 0 rfl zoE)) (zaa (zac (pv 1 rfl zmS)) (zaa (zac (pv 2 rfl zqp)) zai)))) (zbW rfl (zaC (zao (zan (i := 4) Cav.nd rfl Lav2)) (zaC (zao (zan (i := 5) Cav.nd rfl Lav3)) (zaC (zao (zan (i := 6) Cav.nd rfl Lav7)) zbV)))))
  (zaj (zd9 (zaq d_at (hr.mono (by decide)) Gav3 (zaa (zac (pv 0 rfl zoE)) (zaa (zac (pv 1 rfl zmS)) (zaa (zac (pv 3 rfl zqq)) zai)))) (zbW rfl (zaC (zao (zan (i := 7) Cav.nd rfl Lav4)) (zaC (zao (zan (i := 8) Cav.nd rfl Lav5)) (zaC (zao (zan (i := 9) Cav.nd rfl Lav6)) zbV)))))
  (zaj (zaP (i := 10) Cav.nd rfl Lav1 (zaq d_ao (hr.mono (by decide)) Gav1 (zaa (zaz (pv 1 rfl zmS) zal (fun _ _ => rfl)) (zaa (zac (pv 4 rfl zqr)) (zaa (zac (pv 7 rfl zqt)) zai)))))
  (zaj (zbe (zbt (B_ne hu) (pv 10 rfl zlO) zcJ (zaR _))
  (zam (zaD (zcz (B_eq hu) (pv 10 rfl zlO) zcJ (zaR _))))
  zaQ)
  (zaj (zbe (zbt (B_ne hu) (pv 5 rfl zoF) (zac (pv 8 rfl zoG)) (zaR _))
  (zam (zaD (zcz B_gt (pv 5 rfl zoF) (zac (pv 8 rfl zoG)) (zaR _))))
  zaQ)
  (zam (zaD (zaq d_au (hr.mono (by decide)) Gav2 (zaa (zac (pv 6 rfl zqs)) (zaa (zac (pv 9 rfl zqu)) zai))))))))))
abbrev Sbk : Stmt := top 51
abbrev N_bk : List Str := ["_law_found", "_law_due"]
theorem Cbk : zaF N_bk ["_law_found", "_law_due"] (zag Sbk) := ⟨rfl, rfl, rfl, by decide +kernel, rfl, by decide +kernel, by decide +kernel⟩
theorem zoH : VV Sbk "_law_found" := vk (by decide +kernel)
theorem zqv : VV Sbk "_law_due" := vk (by decide +kernel)
theorem Gbk1 : GG Sbk "bool" := by decide +kernel
theorem Gbk2 : GG Sbk "isinstance" := by decide +kernel
def g_bk : SM :=
  sRet (ze5 (mMap (fun d => .bool (isTy d "bool")) (dVar 0)) (mMap PyData.bool (zbf oEq 0 (dVar 1))))
def F_bk : List D -> Option D := runD N_bk g_bk
theorem Kbk {P : Program} {w : World} {K : PySem.W.Frag} {mg : Str -> Option Value} {base : Heap} {f : Addr} {fd : FuncData} (T : Txt K mg) (F : Fun K "_law_is" "_law_is" Sbk f fd) : FnOk P w K mg base CX0 1 f fd ["_law_found", "_law_due"] (spD K 2 F_bk) :=
  okD (k := 0) (g := g_bk) F Cbk rfl fun cdv A outer s H E B G0 hr =>
  have hu := hr.units
  have hgd := hr.gd
  (zam (zaD (zdA (zaY (c := "bool") (by decide) Gbk2 T.b_isinstance Gbk1 T.b_bool (by decide +kernel) (zac (pv 0 rfl zoH)) (by decide) (by decide)) (zcN (zcz (B_eq hu) (pv 0 rfl zoH) (zac (pv 1 rfl zqv)) (zaR _))))))
abbrev Sba : Stmt := top 41
abbrev N_ba : List Str := ["_law_wishes_here"]
theorem Cba : zaF N_ba ["_law_wishes_here"] (zag Sba) := ⟨rfl, rfl, rfl, by decide +kernel, rfl, by decide +kernel, by decide +kernel⟩
theorem zqw : VV Sba "_law_wishes_here" := vk (by decide +kernel)
theorem Gba1 : GG Sba "max" := by decide +kernel
def g_ba : SM :=
  sRet (zbU zgM (zaf (mMap PyData.list (zbL (za3 (dIxN 0 (zah (.int 1)))) 1 (gN 1) (zah true) (zbJ 1))) (mNil)))
def F_ba : List D -> Option D := runD N_ba g_ba
theorem Kba {P : Program} {w : World} {K : PySem.W.Frag} {mg : Str -> Option Value} {base : Heap} {f : Addr} {fd : FuncData} (T : Txt K mg) (F : Fun K "_law_longest" "_law_longest" Sba f fd) : FnOk P w K mg base CX0 1 f fd ["_law_wishes_here"] (spD K 1 F_ba) :=
  okD (k := 0) (g := g_ba) F Cba rfl fun cdv A outer s H E B G0 hr =>
  have hu := hr.units
  have hgd := hr.gd
  (zam (zaD (zaX (zlM rfl) Gba1 T.b_max boot_max (zaa (zbm (zbw (zag Sba) N_ba ["_law_wishes_here", "_law_ranks"] 1 rfl (zbS (zaz (pv 0 rfl zqw) zal (fun _ _ => rfl))) (fun cl C s₀ H₀ ex B' G' => ⟨(zao (zan (i := 1) (show (["_law_wishes_here", "_law_ranks"] : List Str).Nodup by decide +kernel) rfl (za1 rfl) (.inr (zbq rfl)))), zbB, (zaS (zdj rfl) T.b_len (pvb 1))⟩) rfl rfl (by decide +kernel) rfl (by decide +kernel) (by decide +kernel) (by decide +kernel))) zai))))
abbrev Saz : Stmt := top 40
abbrev N_az : List Str := ["_law_wishes_here", "_law_asker", "_law_thing", "_law_k", "_law_row"]
theorem Caz : zaF N_az ["_law_wishes_here", "_law_asker", "_law_thing"] (zag Saz) := ⟨rfl, rfl, rfl, by decide +kernel, rfl, by decide +kernel, by decide +kernel⟩
theorem zqx : VV Saz "_law_wishes_here" := vk (by decide +kernel)
theorem zqy : VV Saz "_law_asker" := vk (by decide +kernel)
theorem zqz : VV Saz "_law_thing" := vk (by decide +kernel)
theorem zqA : VV Saz "_law_k" := vk (by decide +kernel)
theorem zqB : VV Saz "_law_row" := vk (by decide +kernel)
theorem Gaz1 : GG Saz "enumerate" := by decide +kernel
theorem Laz1 : LL Saz "_law_k" := lk (by decide +kernel)
theorem Laz2 : LL Saz "_law_row" := lk (by decide +kernel)
def zjJ : SM :=
  sIf (zbf oIn 2 (dVar 4))
  (sRet (dBin oAdd (dVar 3) (zah (.int 1))))
  (sNx)
def g_az : SM :=
  sSeq (sFor (zeC (zaf (dBin oIx (dIxN 0 (zah (.int 1))) (dVar 1)) (mNil))) (gT 2 (gNC (gN 3) (gNC (gN 4) (gN0)))) zjJ)
  (sRet (zah (.int 0)))
def F_az : List D -> Option D := runD N_az g_az
theorem Kaz {P : Program} {w : World} {K : PySem.W.Frag} {mg : Str -> Option Value} {base : Heap} {f : Addr} {fd : FuncData} (T : Txt K mg) (F : Fun K "_law_rank" "_law_rank" Saz f fd) : FnOk P w K mg base CX0 1 f fd ["_law_wishes_here", "_law_asker", "_law_thing"] (spD K 3 F_az) :=
  okD (k := 0) (g := g_az) F Caz rfl fun cdv A outer s H E B G0 hr =>
  have hu := hr.units
  have hgd := hr.gd
  (zaj (zb8 PassesOwn.never rfl (zda Gaz1 T.b_enumerate (zaa (zdM (zaz (pv 0 rfl zqx) zal (fun _ _ => rfl)) (zac (pv 1 rfl zqy)) (fun _ _ => rfl)) zai)) (zbW rfl (zaC (zao (zan (i := 3) Caz.nd rfl Laz1)) (zaC (zao (zan (i := 4) Caz.nd rfl Laz2)) zbV)))
  (zam (zbe (zbt (B_in hu) (pv 2 rfl zqz) (zac (pv 4 rfl zqB)) rfl)
  (zam (zaD (zaJ zbA (zac (pv 3 rfl zqA)) zal)))
  zaQ)))
  (zam (zaD zal)))
abbrev Sbe : Stmt := top 45
abbrev N_be : List Str := ["_law_wishes_here", "_law_dealing", "_law_counts_here", "_law_asker", "_law_thing"]
theorem Cbe : zaF N_be ["_law_wishes_here", "_law_dealing"] (zag Sbe) := ⟨rfl, rfl, rfl, by decide +kernel, rfl, by decide +kernel, by decide +kernel⟩
theorem zoI : VV Sbe "_law_wishes_here" := vk (by decide +kernel)
theorem zqC : VV Sbe "_law_dealing" := vk (by decide +kernel)
theorem zmT : VV Sbe "_law_counts_here" := vk (by decide +kernel)
theorem zqD : VV Sbe "_law_asker" := vk (by decide +kernel)
theorem zoJ : VV Sbe "_law_thing" := vk (by decide +kernel)
theorem Gbe1 : GG Sbe "_law_longest" := by decide +kernel
theorem Gbe2 : GG Sbe "_law_rank" := by decide +kernel
theorem Gbe3 : GG Sbe "enumerate" := by decide +kernel
theorem Lbe1 : LL Sbe "_law_asker" := lk (by decide +kernel)
theorem Lbe2 : LL Sbe "_law_counts_here" := lk (by decide +kernel)
theorem Lbe3 : LL Sbe "_law_thing" := lk (by decide +kernel)
def zjK : SM :=
  sIf (mMap isNon (dVar 4))
  (zfZ (fun i j => some (.int (i + j))) 2 (dNeg (zah (.int 1))) (zah (.int 1)))
  (zfZ (fun i j => some (.int (i + j))) 2 (dBin oSub (dFun 3 F_az (zaf (dVar 0) (zaf (dVar 3) (zaf (dVar 4) (mNil))))) (zah (.int 1))) (zah (.int 1)))
def g_be : SM :=
  sSeq (zbK 2 (zjE (mLst (zaf (zah (.int 0)) (mNil))) (dBin oAdd (dFun 1 F_ba (zaf (dVar 0) (mNil))) (zah (.int 1)))))
  (sSeq (sFor (zeC (zaf (dVar 1) (mNil))) (gT 2 (gNC (gN 3) (gNC (gN 4) (gN0)))) zjK)
  (sRet (dVar 2)))
def F_be : List D -> Option D := runD N_be g_be
theorem Kbe {P : Program} {w : World} {K : PySem.W.Frag} {mg : Str -> Option Value} {base : Heap} {f : Addr} {fd : FuncData} (T : Txt K mg) (d_az : Def P w K mg base "_law_rank" 1 3 F_az) (d_ba : Def P w K mg base "_law_longest" 1 1 F_ba) (F : Fun K "_law_counts" "_law_counts" Sbe f fd) : FnOk P w K mg base CX0 2 f fd ["_law_wishes_here", "_law_dealing"] (spD K 2 F_be) :=
  okD (k := 1) (g := g_be) F Cbe rfl fun cdv A outer s H E B G0 hr =>
  have hu := hr.units
  have hgd := hr.gd
  (zaj (zce (i := 2) Cbe.nd rfl Lbe2 (zmH (zbb (zaa zal zai)) (zaJ zbA (zaq d_ba (hr.mono (by decide)) Gbe1 (zaa (zac (pv 0 rfl zoI)) zai)) zal)))
  (zaj (zb8 PassesOwn.never rfl (zda Gbe3 T.b_enumerate (zaa (zac (pv 1 rfl zqC)) zai)) (zbW rfl (zaC (zao (zan (i := 3) Cbe.nd rfl Lbe1)) (zaC (zao (zan (i := 4) Cbe.nd rfl Lbe3)) zbV)))
  (zam (zbe (zgy (zac (pv 4 rfl zoJ)))
  (zam (zjt (pv 2 rfl zmT) (zcx zal) zjs zal))
  (zam (zjt (pv 2 rfl zmT) (zaJ zfE (zaq d_az (hr.mono (by decide)) Gbe2 (zaa (zac (pv 0 rfl zoI)) (zaa (zac (pv 3 rfl zqD)) (zaa (zac (pv 4 rfl zoJ)) zai)))) zal) zjs zal)))))
  (zam (zaD (zac (pv 2 rfl zmT))))))
abbrev Sbj : Stmt := top 50
abbrev N_bj : List Str := ["_law_wishes_here", "_law_aim_here", "_law_dealing", "_law_order", "_law_old", "_law_turns", "_law_counts_here", "_law_kept", "_law_same", "_law_ranks", "_law_asker", "_law_rank_here"]
theorem Cbj : zaF N_bj ["_law_wishes_here", "_law_aim_here", "_law_dealing"] (zag Sbj) := ⟨rfl, rfl, rfl, by decide +kernel, rfl, by decide +kernel, by decide +kernel⟩
theorem zmU : VV Sbj "_law_wishes_here" := vk (by decide +kernel)
theorem zqE : VV Sbj "_law_aim_here" := vk (by decide +kernel)
theorem zk9 : VV Sbj "_law_dealing" := vk (by decide +kernel)
theorem zoK : VV Sbj "_law_order" := vk (by decide +kernel)
theorem zoL : VV Sbj "_law_old" := vk (by decide +kernel)
theorem zqF : VV Sbj "_law_turns" := vk (by decide +kernel)
theorem zla : VV Sbj "_law_counts_here" := vk (by decide +kernel)
theorem zqG : VV Sbj "_law_kept" := vk (by decide +kernel)
theorem zqH : VV Sbj "_law_same" := vk (by decide +kernel)
theorem zoM : VV Sbj "_law_ranks" := vk (by decide +kernel)
theorem zjL : VV Sbj "_law_asker" := vk (by decide +kernel)
theorem zoN : VV Sbj "_law_rank_here" := vk (by decide +kernel)
theorem Gbj1 : GG Sbj "_law_counts" := by decide +kernel
theorem Gbj2 : GG Sbj "_law_longest" := by decide +kernel
theorem Gbj3 : GG Sbj "_law_rank" := by decide +kernel
theorem Gbj4 : GG Sbj "len" := by decide +kernel
theorem Gbj5 : GG Sbj "zip" := by decide +kernel
theorem Lbj1 : LL Sbj "_law_asker" := lk (by decide +kernel)
theorem Lbj2 : LL Sbj "_law_counts_here" := lk (by decide +kernel)
theorem Lbj3 : LL Sbj "_law_kept" := lk (by decide +kernel)
theorem Lbj4 : LL Sbj "_law_old" := lk (by decide +kernel)
theorem Lbj5 : LL Sbj "_law_order" := lk (by decide +kernel)
theorem Lbj6 : LL Sbj "_law_rank_here" := lk (by decide +kernel)
theorem Lbj7 : LL Sbj "_law_ranks" := lk (by decide +kernel)
theorem Lbj8 : LL Sbj "_law_turns" := lk (by decide +kernel)
def zfj : SM :=
  sSeq (sSet 11 (zah (.int 0)))
  (sSeq (sIf (mMap (fun d => !isNon d) (dIxN 2 (dVar 10)))
  (sSet 11 (dBin oSub (dBin oAdd (dFun 1 F_ba (zaf (dVar 0) (mNil))) (zah (.int 1))) (dFun 3 F_az (zaf (dVar 0) (zaf (dVar 10) (zaf (dIxN 2 (dVar 10)) (mNil)))))))
  (sNx))
  (sApp 9 (dVar 11)))
def g_bj : SM :=
  sSeq (sAsg (dVar 1) (gT 3 (gNC (gN 3) (gNC (gN 4) (gNC (gN 5) (gN0))))))
  (sSeq (sSet 6 (dFun 2 F_be (zaf (dVar 0) (zaf (dVar 2) (mNil)))))
  (sSeq (sIf (zbf oEq 3 (zah (.str "full")))
  (sSet 6 (dBin oAdd (mLst (zaf (dBin oSub (zah (.int 0)) (dIxN 6 (dNeg (zah (.int 1))))) (mNil))) (dVar 6)))
  (sNx))
  (sSeq (sIf (zbf oEq 3 (zah (.str "lasts")))
  (zbK 6 (zbL (za3 (dRev (dVar 6) (zah none) (zah none) (zas (dNeg (zah (.int 1))) fun x => mOpt (zc2 x)))) 1 (gN 12) (zah true) (dBin oSub (zah (.int 0)) (dVar 12))))
  (sNx))
  (sSeq (sSet 7 (zah (.int 0)))
  (sSeq (sIf (mMap (fun d => !isNon d) (dVar 4))
  (sSeq (zbK 8 (zbL (dZip (zaf (dVar 4) (zaf (dVar 2) (mNil)))) 2 (gT 2 (gNC (gN 12) (gNC (gN 13) (gN0)))) (zbf oEq 12 (dVar 13)) (dVar 13)))
  (sSet 7 (zbU oLen (zaf (mMap PyData.list (zbL (za3 (dVar 8)) 1 (gN 12) (mMap (fun d => !isNon d) (dVar 12)) (dVar 12))) (mNil)))))
  (sNx))
  (sSeq (zbK 9 (zas (mNil) fun xs => if xs.length <= 1000000 then zah xs else fun _ => .bad))
  (sSeq (sFor (za3 (dVar 5)) (gN 10) zfj)
  (sRet (dBin oAdd (dBin oAdd (dVar 6) (mLst (zaf (dVar 7) (mNil)))) (dVar 9))))))))))
def F_bj : List D -> Option D := runD N_bj g_bj
theorem Kbj {P : Program} {w : World} {K : PySem.W.Frag} {mg : Str -> Option Value} {base : Heap} {f : Addr} {fd : FuncData} (T : Txt K mg) (d_ba : Def P w K mg base "_law_longest" 1 1 F_ba) (d_az : Def P w K mg base "_law_rank" 1 3 F_az) (d_be : Def P w K mg base "_law_counts" 2 2 F_be) (F : Fun K "_law_key" "_law_key" Sbj f fd) : FnOk P w K mg base CX0 3 f fd ["_law_wishes_here", "_law_aim_here", "_law_dealing"] (spD K 3 F_bj) :=
  okD (k := 2) (g := g_bj) F Cbj rfl fun cdv A outer s H E B G0 hr =>
  have hu := hr.units
  have hgd := hr.gd
  (zaj (zd9 (zac (pv 1 rfl zqE)) (zbW rfl (zaC (zao (zan (i := 3) Cbj.nd rfl Lbj5)) (zaC (zao (zan (i := 4) Cbj.nd rfl Lbj4)) (zaC (zao (zan (i := 5) Cbj.nd rfl Lbj8)) zbV)))))
  (zaj (zaP (i := 6) Cbj.nd rfl Lbj2 (zaq d_be (hr.mono (by decide)) Gbj1 (zaa (zac (pv 0 rfl zmU)) (zaa (zac (pv 2 rfl zk9)) zai))))
  (zaj (zbe (zbt (B_eq hu) (pv 3 rfl zoK) zcJ (zaR _))
  (zam (zaP (i := 6) Cbj.nd rfl Lbj2 (zaJ zbA (zbb (zaa (zaJ zfE zal (zaz (pv 6 rfl zla) (zcx zal) (fun _ _ => rfl))) zai)) (zac (pv 6 rfl zla)))))
  zaQ)
  (zaj (zbe (zbt (B_eq hu) (pv 3 rfl zoK) zcJ (zaR _))
  (zam (zcy (j := 6) (zag Sbj) N_bj ["_law_wishes_here", "_law_aim_here", "_law_dealing", "_law_order", "_law_old", "_law_turns", "_law_counts_here", "_law_kept", "_law_same", "_law_ranks", "_law_asker", "_law_rank_here", "_law_one"] 1 Cbj.nd rfl rfl rfl (zbS (zgD (zac (pv 6 rfl zla)) zcw zcw (zbN (zcx zal)))) (fun cl C s₀ H₀ ex B' G' => ⟨(zao (zan (i := 12) (show (["_law_wishes_here", "_law_aim_here", "_law_dealing", "_law_order", "_law_old", "_law_turns", "_law_counts_here", "_law_kept", "_law_same", "_law_ranks", "_law_asker", "_law_rank_here", "_law_one"] : List Str).Nodup by decide +kernel) rfl (za1 rfl) (.inr (zbq rfl)))), zbB, (zaJ zfE zal (zac (pvb 12)))⟩) rfl rfl (by decide +kernel) rfl (by decide +kernel) (by decide +kernel) (by decide +kernel)))
  zaQ)
  (zaj (zaP (i := 7) Cbj.nd rfl Lbj3 zal)
  (zaj (zbe (zcv (zac (pv 4 rfl zoL)))
  (zaj (zcy (j := 8) (zag Sbj) N_bj ["_law_wishes_here", "_law_aim_here", "_law_dealing", "_law_order", "_law_old", "_law_turns", "_law_counts_here", "_law_kept", "_law_same", "_law_ranks", "_law_asker", "_law_rank_here", "_law_had", "_law_thing"] 2 Cbj.nd rfl rfl rfl (zhp Gbj5 T.b_zip (zaa (zac (pv 4 rfl zoL)) (zaa (zac (pv 2 rfl zk9)) zai))) (fun cl C s₀ H₀ ex B' G' => ⟨(zbW rfl (zaC (zao (zan (i := 12) (show (["_law_wishes_here", "_law_aim_here", "_law_dealing", "_law_order", "_law_old", "_law_turns", "_law_counts_here", "_law_kept", "_law_same", "_law_ranks", "_law_asker", "_law_rank_here", "_law_had", "_law_thing"] : List Str).Nodup by decide +kernel) rfl (za1 rfl) (.inr (zbq rfl)))) (zaC (zao (zan (i := 13) (show (["_law_wishes_here", "_law_aim_here", "_law_dealing", "_law_order", "_law_old", "_law_turns", "_law_counts_here", "_law_kept", "_law_same", "_law_ranks", "_law_asker", "_law_rank_here", "_law_had", "_law_thing"] : List Str).Nodup by decide +kernel) rfl (za1 rfl) (.inr (zbq rfl)))) zbV))), (zee (zbt (B_eq hu) (pvb 12) (zac (pvb 13)) (zaR _))), (zac (pvb 13))⟩) rfl rfl (by decide +kernel) rfl (by decide +kernel) (by decide +kernel) (by decide +kernel))
  (zam (zaP (i := 7) Cbj.nd rfl Lbj3 (zaX zfH Gbj4 T.b_len boot_len (zaa (zbm (zbw (zag Sbj) N_bj ["_law_wishes_here", "_law_aim_here", "_law_dealing", "_law_order", "_law_old", "_law_turns", "_law_counts_here", "_law_kept", "_law_same", "_law_ranks", "_law_asker", "_law_rank_here", "_law_thing"] 1 rfl (zbS (zac (pv 8 rfl zqH))) (fun cl C s₀ H₀ ex B' G' => ⟨(zao (zan (i := 12) (show (["_law_wishes_here", "_law_aim_here", "_law_dealing", "_law_order", "_law_old", "_law_turns", "_law_counts_here", "_law_kept", "_law_same", "_law_ranks", "_law_asker", "_law_rank_here", "_law_thing"] : List Str).Nodup by decide +kernel) rfl (za1 rfl) (.inr (zbq rfl)))), (zee (zcv (zac (pvb 12)))), (zac (pvb 12))⟩) rfl rfl (by decide +kernel) rfl (by decide +kernel) (by decide +kernel) (by decide +kernel))) zai)))))
  zaQ)
  (zaj (zce (i := 9) Cbj.nd rfl Lbj7 (zcP zai))
  (zaj (zb8 PassesOwn.never rfl (zbS (zac (pv 5 rfl zqF))) (zao (zan (i := 10) Cbj.nd rfl Lbj1))
  (zaj (zaP (i := 11) Cbj.nd rfl Lbj6 zal)
  (zaj (zbe (zcv (zaz (pv 2 rfl zk9) (zac (pv 10 rfl zjL)) (fun _ _ => rfl)))
  (zam (zaP (i := 11) Cbj.nd rfl Lbj6 (zaJ zfE (zaJ zbA (zaq d_ba (hr.mono (by decide)) Gbj2 (zaa (zac (pv 0 rfl zmU)) zai)) zal) (zaq d_az (hr.mono (by decide)) Gbj3 (zaa (zac (pv 0 rfl zmU)) (zaa (zac (pv 10 rfl zjL)) (zaa (zaz (pv 2 rfl zk9) (zac (pv 10 rfl zjL)) (fun _ _ => rfl)) zai)))))))
  zaQ)
  (zam (zdN (pv 9 rfl zoM) (zac (pv 11 rfl zoN)))))))
  (zam (zaD (zaJ zbA (zaJ zbA (zac (pv 6 rfl zla)) (zbb (zaa (zac (pv 7 rfl zqG)) zai))) (zac (pv 9 rfl zoM)))))))))))))
abbrev Sbb : Stmt := top 42
abbrev N_bb : List Str := ["_law_wishes_here", "_law_asker"]
theorem Cbb : zaF N_bb ["_law_wishes_here", "_law_asker"] (zag Sbb) := ⟨rfl, rfl, rfl, by decide +kernel, rfl, by decide +kernel, by decide +kernel⟩
theorem zqI : VV Sbb "_law_wishes_here" := vk (by decide +kernel)
theorem zqJ : VV Sbb "_law_asker" := vk (by decide +kernel)
theorem Gbb1 : GG Sbb "sorted" := by decide +kernel
theorem Gbb2 : GG Sbb "sum" := by decide +kernel
def g_bb : SM :=
  sRet (zbU zkX (zaf (zbU zh7 (zaf (dBin oIx (dIxN 0 (zah (.int 1))) (dVar 1)) (zaf (mLst (mNil)) (mNil)))) (mNil)))
def F_bb : List D -> Option D := runD N_bb g_bb
theorem Kbb {P : Program} {w : World} {K : PySem.W.Frag} {mg : Str -> Option Value} {base : Heap} {f : Addr} {fd : FuncData} (T : Txt K mg) (F : Fun K "_law_wished" "_law_wished" Sbb f fd) : FnOk P w K mg base CX0 1 f fd ["_law_wishes_here", "_law_asker"] (spD K 2 F_bb) :=
  okD (k := 0) (g := g_bb) F Cbb rfl fun cdv A outer s H E B G0 hr =>
  have hu := hr.units
  have hgd := hr.gd
  (zam (zaD (zaX zol Gbb1 T.b_sorted PyProof.Rows.boot_sorted (zaa (zaX (zof rfl) Gbb2 T.b_sum PyProof.Rows.boot_sum (zaa (zdM (zaz (pv 0 rfl zqI) zal (fun _ _ => rfl)) (zac (pv 1 rfl zqJ)) (fun _ _ => rfl)) (zaa (zbb zai) zai))) zai))))
abbrev Sax : Stmt := top 38
abbrev N_ax : List Str := ["_law_cell", "_law_salt", "_law_sizes", "_law_number", "_law_left", "_law_found", "_law_k", "_law_one"]
theorem Cax : zaF N_ax ["_law_cell", "_law_salt", "_law_sizes"] (zag Sax) := ⟨rfl, rfl, rfl, by decide +kernel, rfl, by decide +kernel, by decide +kernel⟩
theorem zoO : VV Sax "_law_cell" := vk (by decide +kernel)
theorem zqK : VV Sax "_law_salt" := vk (by decide +kernel)
theorem zlb : VV Sax "_law_sizes" := vk (by decide +kernel)
theorem zmV : VV Sax "_law_number" := vk (by decide +kernel)
theorem zmW : VV Sax "_law_left" := vk (by decide +kernel)
theorem zmX : VV Sax "_law_found" := vk (by decide +kernel)
theorem zim : VV Sax "_law_k" := vk (by decide +kernel)
theorem zlc : VV Sax "_law_one" := vk (by decide +kernel)
theorem Gax1 : GG Sax "len" := by decide +kernel
theorem Gax2 : GG Sax "max" := by decide +kernel
theorem Gax3 : GG Sax "range" := by decide +kernel
theorem Lax1 : LL Sax "_law_found" := lk (by decide +kernel)
theorem Lax2 : LL Sax "_law_k" := lk (by decide +kernel)
theorem Lax3 : LL Sax "_law_left" := lk (by decide +kernel)
theorem Lax4 : LL Sax "_law_number" := lk (by decide +kernel)
theorem Lax5 : LL Sax "_law_one" := lk (by decide +kernel)
def zgW : SM :=
  sIf (mAnd (zbf (oIB fun i j => decide (j <= i)) 3 (dBin oPow (zah (.int 10)) (zah (.int 18)))) (zbf (oIB fun i j => decide (j < i)) 4 (zah (.int 0))))
  (sSeq (sApp 5 (dBin oMod (dVar 4) (dIxN 2 (dVar 6))))
  (sSet 4 (dBin oDiv (dVar 4) (dIxN 2 (dVar 6)))))
  (sSeq (sSet 7 (dBin oMod (dBin oAdd (dBin oAdd (dBin oAdd (dVar 3) (dBin oMul (zah (.int 7919)) (dVar 1))) (dBin oMul (dBin oMul (zah (.int 101)) (dVar 6)) (dVar 6))) (dVar 6)) (zah (.int 2147483647))))
  (sSeq (sSet 7 (dBin oMod (dBin oMul (dVar 7) (zah (.int 48271))) (zah (.int 2147483647))))
  (sSeq (sSet 7 (dBin oMod (dBin oMul (dBin oMod (dBin oMul (dVar 7) (dVar 7)) (zah (.int 2147483629))) (zah (.int 48271))) (zah (.int 2147483647))))
  (sApp 5 (dBin oMod (dBin oDiv (dVar 7) (zah (.int 16))) (dIxN 2 (dVar 6)))))))
def g_ax : SM :=
  sSeq (sSet 3 (zbU zkz (zaf (dVar 0) (zaf (dBin oSub (dNeg (zah (.int 1))) (dVar 0)) (mNil)))))
  (sSeq (sSet 4 (dVar 3))
  (sSeq (zbK 5 (zas (mNil) fun xs => if xs.length <= 1000000 then zah xs else fun _ => .bad))
  (sSeq (sFor (zgz (zaf (zbJ 2) (mNil))) (gN 6) zgW)
  (sRet (dVar 5)))))
def F_ax : List D -> Option D := runD N_ax g_ax
theorem Kax {P : Program} {w : World} {K : PySem.W.Frag} {mg : Str -> Option Value} {base : Heap} {f : Addr} {fd : FuncData} (T : Txt K mg) (F : Fun K "_law_numbers" "_law_numbers" Sax f fd) : FnOk P w K mg base CX0 1 f fd ["_law_cell", "_law_salt", "_law_sizes"] (spD K 3 F_ax) :=
  okD (k := 0) (g := g_ax) F Cax rfl fun cdv A outer s H E B G0 hr =>
  have hu := hr.units
  have hgd := hr.gd
  (zaj (zaP (i := 3) Cax.nd rfl Lax4 (zaX (zn3 rfl) Gax2 T.b_max boot_max (zaa (zac (pv 0 rfl zoO)) (zaa (zaJ zfE (zcx zal) (zac (pv 0 rfl zoO))) zai))))
  (zaj (zaP (i := 4) Cax.nd rfl Lax3 (zac (pv 3 rfl zmV)))
  (zaj (zce (i := 5) Cax.nd rfl Lax1 (zcP zai))
  (zaj (zb8 PassesOwn.never rfl (zdi Gax3 T.b_range (zaa (zaS Gax1 T.b_len (pv 2 rfl zlb)) zai)) (zao (zan (i := 6) Cax.nd rfl Lax2))
  (zam (zbe (PW.pt (ze4 (zbt B_ge (pv 3 rfl zmV) (zaJ zpO zal zal) (zaR _)) (zdY (zbt B_gt (pv 4 rfl zmW) zal (zaR _)))))
  (zaj (zdN (pv 5 rfl zmX) (zaJ zdV (zac (pv 4 rfl zmW)) (zaz (pv 2 rfl zlb) (zac (pv 6 rfl zim)) (fun _ _ => rfl))))
  (zam (zaP (i := 4) Cax.nd rfl Lax3 (zaJ zn1 (zac (pv 4 rfl zmW)) (zaz (pv 2 rfl zlb) (zac (pv 6 rfl zim)) (fun _ _ => rfl))))))
  (zaj (zaP (i := 7) Cax.nd rfl Lax5 (zaJ zdV (zaJ zbA (zaJ zbA (zaJ zbA (zac (pv 3 rfl zmV)) (zaJ zdz zal (zac (pv 1 rfl zqK)))) (zaJ zdz (zaJ zdz zal (zac (pv 6 rfl zim))) (zac (pv 6 rfl zim)))) (zac (pv 6 rfl zim))) zal))
  (zaj (zaP (i := 7) Cax.nd rfl Lax5 (zaJ zdV (zaJ zdz (zac (pv 7 rfl zlc)) zal) zal))
  (zaj (zaP (i := 7) Cax.nd rfl Lax5 (zaJ zdV (zaJ zdz (zaJ zdV (zaJ zdz (zac (pv 7 rfl zlc)) (zac (pv 7 rfl zlc))) zal) zal) zal))
  (zam (zdN (pv 5 rfl zmX) (zaJ zdV (zaJ zn1 (zac (pv 7 rfl zlc)) zal) (zaz (pv 2 rfl zlb) (zac (pv 6 rfl zim)) (fun _ _ => rfl)))))))))))
  (zam (zaD (zac (pv 5 rfl zmX))))))))
abbrev Sbd : Stmt := top 44
abbrev N_bd : List Str := ["_law_wishes_here", "_law_cell", "_law_salt", "_law_left", "_law_digits", "_law_found", "_law_asker", "_law_some", "_law_thing"]
theorem Cbd : zaF N_bd ["_law_wishes_here", "_law_cell", "_law_salt"] (zag Sbd) := ⟨rfl, rfl, rfl, by decide +kernel, rfl, by decide +kernel, by decide +kernel⟩
theorem zld : VV Sbd "_law_wishes_here" := vk (by decide +kernel)
theorem zqL : VV Sbd "_law_cell" := vk (by decide +kernel)
theorem zqM : VV Sbd "_law_salt" := vk (by decide +kernel)
theorem zoP : VV Sbd "_law_left" := vk (by decide +kernel)
theorem zqN : VV Sbd "_law_digits" := vk (by decide +kernel)
theorem zoQ : VV Sbd "_law_found" := vk (by decide +kernel)
theorem zoR : VV Sbd "_law_asker" := vk (by decide +kernel)
theorem zoS : VV Sbd "_law_some" := vk (by decide +kernel)
theorem zle : VV Sbd "_law_thing" := vk (by decide +kernel)
theorem Gbd1 : GG Sbd "_law_numbers" := by decide +kernel
theorem Gbd2 : GG Sbd "_law_wished" := by decide +kernel
theorem Gbd3 : GG Sbd "len" := by decide +kernel
theorem Gbd4 : GG Sbd "list" := by decide +kernel
theorem Gbd5 : GG Sbd "range" := by decide +kernel
theorem Lbd1 : LL Sbd "_law_asker" := lk (by decide +kernel)
theorem Lbd2 : LL Sbd "_law_digits" := lk (by decide +kernel)
theorem Lbd3 : LL Sbd "_law_found" := lk (by decide +kernel)
theorem Lbd4 : LL Sbd "_law_left" := lk (by decide +kernel)
theorem Lbd5 : LL Sbd "_law_some" := lk (by decide +kernel)
theorem Lbd6 : LL Sbd "_law_thing" := lk (by decide +kernel)
def zgX : SM :=
  sSeq (sSet 7 (dBin oAdd (mMap PyData.list (zdR (za3 (dFun 2 F_bb (zaf (dVar 0) (zaf (dVar 6) (mNil))))) 1 (gN 9) (dBin (oIB fun i j => decide (j < i)) (dIxN 3 (dVar 9)) (zah (.int 0))) (dVar 9))) (mLst (zaf (zah .none) (mNil)))))
  (sSeq (sSet 8 (dIxN 7 (dBin oMod (dIxN 4 (dVar 6)) (zbJ 7))))
  (sSeq (sIf (mMap (fun d => !isNon d) (dVar 8))
  (zgC 3 (dVar 8) (dBin oSub (dIxN 3 (dVar 8)) (zah (.int 1))))
  (sNx))
  (sApp 5 (dVar 8))))
def g_bd : SM :=
  sSeq (zbK 3 (zas (zaf (dIxN 0 (zah (.int 0))) (mNil)) fun xs => mOpt (zcK xs)))
  (sSeq (sSet 4 (dFun 3 F_ax (zaf (dVar 1) (zaf (dVar 2) (zaf (dBin oMul (mLst (zaf (zah (.int 61)) (mNil))) (zbU oLen (zaf (dIxN 0 (zah (.int 1))) (mNil)))) (mNil))))))
  (sSeq (zbK 5 (zas (mNil) fun xs => if xs.length <= 1000000 then zah xs else fun _ => .bad))
  (sSeq (sFor (zgz (zaf (zbU oLen (zaf (dIxN 0 (zah (.int 1))) (mNil))) (mNil))) (gN 6) zgX)
  (sRet (dVar 5)))))
def F_bd : List D -> Option D := runD N_bd g_bd
theorem Kbd {P : Program} {w : World} {K : PySem.W.Frag} {mg : Str -> Option Value} {base : Heap} {f : Addr} {fd : FuncData} (T : Txt K mg) (d_bb : Def P w K mg base "_law_wished" 1 2 F_bb) (d_ax : Def P w K mg base "_law_numbers" 1 3 F_ax) (F : Fun K "_law_dealt" "_law_dealt" Sbd f fd) : FnOk P w K mg base CX0 2 f fd ["_law_wishes_here", "_law_cell", "_law_salt"] (spD K 3 F_bd) :=
  okD (k := 1) (g := g_bd) F Cbd rfl fun cdv A outer s H E B G0 hr =>
  have hu := hr.units
  have hgd := hr.gd
  (zaj (zce (i := 3) Cbd.nd rfl Lbd4 (zhq Gbd4 T.b_list (zaa (zaz (pv 0 rfl zld) zal (fun _ _ => rfl)) zai)))
  (zaj (zaP (i := 4) Cbd.nd rfl Lbd2 (zaq d_ax (hr.mono (by decide)) Gbd1 (zaa (zac (pv 1 rfl zqL)) (zaa (zac (pv 2 rfl zqM)) (zaa (zaJ zdz (zbb (zaa zal zai)) (zaX zfH Gbd3 T.b_len boot_len (zaa (zaz (pv 0 rfl zld) zal (fun _ _ => rfl)) zai))) zai)))))
  (zaj (zce (i := 5) Cbd.nd rfl Lbd3 (zcP zai))
  (zaj (zb8 PassesOwn.never rfl (zdi Gbd5 T.b_range (zaa (zaX zfH Gbd3 T.b_len boot_len (zaa (zaz (pv 0 rfl zld) zal (fun _ _ => rfl)) zai)) zai)) (zao (zan (i := 6) Cbd.nd rfl Lbd1))
  (zaj (zaP (i := 7) Cbd.nd rfl Lbd5 (zaJ zbA (zbm (zib (zag Sbd) N_bd ["_law_wishes_here", "_law_cell", "_law_salt", "_law_left", "_law_digits", "_law_found", "_law_asker", "_law_some", "._law_thing", "_law_thing"] 1 rfl (zbS (zaq d_bb (hr.mono (by decide)) Gbd2 (zaa (zac (pv 0 rfl zld)) (zaa (zac (pv 6 rfl zoR)) zai)))) (fun cl C s₀ H₀ ex B' G' => ⟨(zao (zan (i := 9) (show (["_law_wishes_here", "_law_cell", "_law_salt", "_law_left", "_law_digits", "_law_found", "_law_asker", "_law_some", "._law_thing", "_law_thing"] : List Str).Nodup by decide +kernel) rfl (za1 rfl) (.inr (zbq rfl)))), (zee (zb7 B_gt (zaz (pvb 3) (zac (pvb 9)) (fun _ _ => rfl)) zal (zaR _))), (zac (pvb 9))⟩) rfl rfl (by decide +kernel) rfl (by decide +kernel) (by decide +kernel) (by decide +kernel))) (zbb (zaa ze3 zai))))
  (zaj (zaP (i := 8) Cbd.nd rfl Lbd6 (zaz (pv 7 rfl zoS) (zaJ zdV (zaz (pv 4 rfl zqN) (zac (pv 6 rfl zoR)) (fun _ _ => rfl)) (zaS Gbd3 T.b_len (pv 7 rfl zoS))) (fun _ _ => rfl)))
  (zaj (zbe (zcv (zac (pv 8 rfl zle)))
  (zam (ze7 (zaJ zfE (zaz (pv 3 rfl zoP) (zac (pv 8 rfl zle)) (fun _ _ => rfl)) zal) (pv 3 rfl zoP) (zac (pv 8 rfl zle))))
  zaQ)
  (zam (zdN (pv 5 rfl zoQ) (zac (pv 8 rfl zle))))))))
  (zam (zaD (zac (pv 5 rfl zoQ))))))))
abbrev Sbg : Stmt := top 47
abbrev N_bg : List Str := ["_law_thing"]
theorem Cbg : zaF N_bg ["_law_thing"] (zag Sbg) := ⟨rfl, rfl, rfl, by decide +kernel, rfl, by decide +kernel, by decide +kernel⟩
theorem zoT : VV Sbg "_law_thing" := vk (by decide +kernel)
theorem Gbg1 : GG Sbg "bool" := by decide +kernel
theorem Gbg2 : GG Sbg "int" := by decide +kernel
theorem Gbg3 : GG Sbg "isinstance" := by decide +kernel
def g_bg : SM :=
  sRet (ze5 (mMap (fun d => .bool (isTy d "int")) (dVar 0)) (ziU (mMap (fun d => .bool (isTy d "bool")) (dVar 0))))
def F_bg : List D -> Option D := runD N_bg g_bg
theorem Kbg {P : Program} {w : World} {K : PySem.W.Frag} {mg : Str -> Option Value} {base : Heap} {f : Addr} {fd : FuncData} (T : Txt K mg) (F : Fun K "_law_is_number" "_law_is_number" Sbg f fd) : FnOk P w K mg base CX0 1 f fd ["_law_thing"] (spD K 1 F_bg) :=
  okD (k := 0) (g := g_bg) F Cbg rfl fun cdv A outer s H E B G0 hr =>
  have hu := hr.units
  have hgd := hr.gd
  (zam (zaD (zdA (zaY (c := "int") (by decide) Gbg3 T.b_isinstance Gbg2 T.b_int (by decide +kernel) (zac (pv 0 rfl zoT)) (by decide) (by decide)) (zcN (ziV (zaY (c := "bool") (by decide) Gbg3 T.b_isinstance Gbg1 T.b_bool (by decide +kernel) (zac (pv 0 rfl zoT)) (by decide) (by decide)))))))
abbrev Sbh : Stmt := top 48
abbrev N_bh : List Str := ["_law_wishes_here", "_law_thing", "_law_asker", "_law_one"]
theorem Cbh : zaF N_bh ["_law_wishes_here", "_law_thing"] (zag Sbh) := ⟨rfl, rfl, rfl, by decide +kernel, rfl, by decide +kernel, by decide +kernel⟩
theorem zmY : VV Sbh "_law_wishes_here" := vk (by decide +kernel)
theorem zlf : VV Sbh "_law_thing" := vk (by decide +kernel)
theorem zqO : VV Sbh "_law_asker" := vk (by decide +kernel)
theorem zin : VV Sbh "_law_one" := vk (by decide +kernel)
theorem Gbh1 : GG Sbh "_law_is_number" := by decide +kernel
theorem Gbh2 : GG Sbh "_law_wished" := by decide +kernel
theorem Gbh3 : GG Sbh "enumerate" := by decide +kernel
theorem Gbh4 : GG Sbh "isinstance" := by decide +kernel
theorem Gbh5 : GG Sbh "len" := by decide +kernel
theorem Gbh6 : GG Sbh "list" := by decide +kernel
theorem Lbh1 : LL Sbh "_law_asker" := lk (by decide +kernel)
theorem Lbh2 : LL Sbh "_law_one" := lk (by decide +kernel)
def zjM : SM :=
  sSeq (sIf (mAnd (mMap (fun d => !isNon d) (dVar 3)) (mOr (mNot (zbk (dFun 1 F_bg (zaf (dVar 3) (mNil))))) (zbf oNin 3 (dFun 2 F_bb (zaf (dVar 0) (zaf (dVar 2) (mNil)))))))
  (sRet (zah (.bool false)))
  (sNx))
  (sIf (mAnd (mMap (fun d => !isNon d) (dVar 3)) (dBin (oIB fun i j => decide (j < i)) (zeh (dVar 1) (zaf (dVar 3) (mNil))) (dBin oIx (dIxN 0 (zah (.int 0))) (dVar 3))))
  (sRet (zah (.bool false)))
  (sNx))
def g_bh : SM :=
  sSeq (sIf (mOr (mNot (zbk (mMap (fun d => .bool (isTy d "list")) (dVar 1)))) (dBin oNe (zbJ 1) (zbU oLen (zaf (dIxN 0 (zah (.int 1))) (mNil)))))
  (sRet (zah (.bool false)))
  (sNx))
  (sSeq (sFor (zeC (zaf (dVar 1) (mNil))) (gT 2 (gNC (gN 2) (gNC (gN 3) (gN0)))) zjM)
  (sRet (zah (.bool true))))
def F_bh : List D -> Option D := runD N_bh g_bh
theorem Kbh {P : Program} {w : World} {K : PySem.W.Frag} {mg : Str -> Option Value} {base : Heap} {f : Addr} {fd : FuncData} (T : Txt K mg) (d_bg : Def P w K mg base "_law_is_number" 1 1 F_bg) (d_bb : Def P w K mg base "_law_wished" 1 2 F_bb) (F : Fun K "_law_is_dealing" "_law_is_dealing" Sbh f fd) : FnOk P w K mg base CX0 2 f fd ["_law_wishes_here", "_law_thing"] (spD K 2 F_bh) :=
  okD (k := 1) (g := g_bh) F Cbh rfl fun cdv A outer s H E B G0 hr =>
  have hu := hr.units
  have hgd := hr.gd
  (zaj (zbe (PW.pt (zc5 (zba (zbh (zaY (c := "list") (by decide) Gbh4 T.b_isinstance Gbh6 T.b_list (by decide +kernel) (zac (pv 1 rfl zlf)) (by decide) (by decide)))) (zcm (zb7 (B_ne hu) (zaS Gbh5 T.b_len (pv 1 rfl zlf)) (zaX zfH Gbh5 T.b_len boot_len (zaa (zaz (pv 0 rfl zmY) zal (fun _ _ => rfl)) zai)) (zaR _)))))
  (zam (zaD zbH))
  zaQ)
  (zaj (zb8 PassesOwn.never rfl (zda Gbh3 T.b_enumerate (zaa (zac (pv 1 rfl zlf)) zai)) (zbW rfl (zaC (zao (zan (i := 2) Cbh.nd rfl Lbh1)) (zaC (zao (zan (i := 3) Cbh.nd rfl Lbh2)) zbV)))
  (zaj (zbe (PW.pt (ze4 (zcv (zac (pv 3 rfl zin))) (zdY (PW.pt (zc5 (zba (zbh (zaq d_bg (hr.mono (by decide)) Gbh1 (zaa (zac (pv 3 rfl zin)) zai)))) (zcm (zbt (zpR hu) (pv 3 rfl zin) (zaq d_bb (hr.mono (by decide)) Gbh2 (zaa (zac (pv 0 rfl zmY)) (zaa (zac (pv 2 rfl zqO)) zai))) rfl)))))))
  (zam (zaD zbH))
  zaQ)
  (zam (zbe (PW.pt (ze4 (zcv (zac (pv 3 rfl zin))) (zdY (zb7 B_gt (zei hu (zac (pv 1 rfl zlf)) (zaa (zac (pv 3 rfl zin)) zai)) (zdM (zaz (pv 0 rfl zmY) zal (fun _ _ => rfl)) (zac (pv 3 rfl zin)) (fun _ _ => rfl)) (zaR _)))))
  (zam (zaD zbH))
  zaQ))))
  (zam (zaD zbH))))
abbrev Sbi : Stmt := top 49
abbrev N_bi : List Str := ["_law_wishes_here", "_law_dealing", "_law_cell", "_law_salt", "_law_digits", "_law_one", "_law_other", "_law_found", "_law_some"]
theorem Cbi : zaF N_bi ["_law_wishes_here", "_law_dealing", "_law_cell", "_law_salt"] (zag Sbi) := ⟨rfl, rfl, rfl, by decide +kernel, rfl, by decide +kernel, by decide +kernel⟩
theorem zoU : VV Sbi "_law_wishes_here" := vk (by decide +kernel)
theorem zio : VV Sbi "_law_dealing" := vk (by decide +kernel)
theorem zqP : VV Sbi "_law_cell" := vk (by decide +kernel)
theorem zqQ : VV Sbi "_law_salt" := vk (by decide +kernel)
theorem zlg : VV Sbi "_law_digits" := vk (by decide +kernel)
theorem zlh : VV Sbi "_law_one" := vk (by decide +kernel)
theorem zoV : VV Sbi "_law_other" := vk (by decide +kernel)
theorem zjN : VV Sbi "_law_found" := vk (by decide +kernel)
theorem zoW : VV Sbi "_law_some" := vk (by decide +kernel)
theorem Gbi1 : GG Sbi "_law_is_dealing" := by decide +kernel
theorem Gbi2 : GG Sbi "_law_numbers" := by decide +kernel
theorem Gbi3 : GG Sbi "_law_wished" := by decide +kernel
theorem Gbi4 : GG Sbi "len" := by decide +kernel
theorem Gbi5 : GG Sbi "list" := by decide +kernel
theorem Lbi1 : LL Sbi "_law_digits" := lk (by decide +kernel)
theorem Lbi2 : LL Sbi "_law_found" := lk (by decide +kernel)
theorem Lbi3 : LL Sbi "_law_one" := lk (by decide +kernel)
theorem Lbi4 : LL Sbi "_law_other" := lk (by decide +kernel)
theorem Lbi5 : LL Sbi "_law_some" := lk (by decide +kernel)
def g_bi : SM :=
  sSeq (sSet 4 (dFun 3 F_ax (zaf (dVar 2) (zaf (dVar 3) (zaf (mLst (zaf (zah (.int 2)) (zaf (zah (.int 7)) (zaf (zah (.int 7)) (zaf (zah (.int 61)) (mNil)))))) (mNil))))))
  (sSeq (sSet 5 (dBin oMod (dIxN 4 (zah (.int 1))) (zbJ 1)))
  (sSeq (sSet 6 (dBin oMod (dIxN 4 (zah (.int 2))) (zbJ 1)))
  (sSeq (zbK 7 (zcf 1))
  (sSeq (sIf (dBin oEq (dIxN 4 (zah (.int 0))) (zah (.int 0)))
  (sSeq (zgC 7 (dVar 5) (dIxN 1 (dVar 6)))
  (zgC 7 (dVar 6) (dIxN 1 (dVar 5))))
  (sSeq (sSet 8 (dBin oAdd (dFun 2 F_bb (zaf (dVar 0) (zaf (dVar 5) (mNil)))) (mLst (zaf (zah .none) (mNil)))))
  (zgC 7 (dVar 5) (dIxN 8 (dBin oMod (dIxN 4 (zah (.int 3))) (zbJ 8))))))
  (sSeq (sIf (zbk (zij 2 F_bh (zaf (dVar 0) (zeT 7 (mNil)))))
  (sRet (dVar 7))
  (sNx))
  (sRet (mMap PyData.list (zcf 1))))))))
def F_bi : List D -> Option D := runD N_bi g_bi
theorem Kbi {P : Program} {w : World} {K : PySem.W.Frag} {mg : Str -> Option Value} {base : Heap} {f : Addr} {fd : FuncData} (T : Txt K mg) (d_bh : Def P w K mg base "_law_is_dealing" 2 2 F_bh) (d_bb : Def P w K mg base "_law_wished" 1 2 F_bb) (d_ax : Def P w K mg base "_law_numbers" 1 3 F_ax) (F : Fun K "_law_near" "_law_near" Sbi f fd) : FnOk P w K mg base CX0 3 f fd ["_law_wishes_here", "_law_dealing", "_law_cell", "_law_salt"] (spD K 4 F_bi) :=
  okD (k := 2) (g := g_bi) F Cbi rfl fun cdv A outer s H E B G0 hr =>
  have hu := hr.units
  have hgd := hr.gd
  (zaj (zaP (i := 4) Cbi.nd rfl Lbi1 (zaq d_ax (hr.mono (by decide)) Gbi2 (zaa (zac (pv 2 rfl zqP)) (zaa (zac (pv 3 rfl zqQ)) (zaa (zbb (zaa zal (zaa zal (zaa zal (zaa zal zai))))) zai)))))
  (zaj (zaP (i := 5) Cbi.nd rfl Lbi3 (zaJ zdV (zaz (pv 4 rfl zlg) zal (fun _ _ => rfl)) (zaS Gbi4 T.b_len (pv 1 rfl zio))))
  (zaj (zaP (i := 6) Cbi.nd rfl Lbi4 (zaJ zdV (zaz (pv 4 rfl zlg) zal (fun _ _ => rfl)) (zaS Gbi4 T.b_len (pv 1 rfl zio))))
  (zaj (zce (i := 7) Cbi.nd rfl Lbi2 (zcg Gbi5 T.b_list (pv 1 rfl zio)))
  (zaj (zbe (zb7 (B_eq hu) (zaz (pv 4 rfl zlg) zal (fun _ _ => rfl)) zal (zaR _))
  (zaj (ze7 (zaz (pv 1 rfl zio) (zac (pv 6 rfl zoV)) (fun _ _ => rfl)) (pv 7 rfl zjN) (zac (pv 5 rfl zlh)))
  (zam (ze7 (zaz (pv 1 rfl zio) (zac (pv 5 rfl zlh)) (fun _ _ => rfl)) (pv 7 rfl zjN) (zac (pv 6 rfl zoV)))))
  (zaj (zaP (i := 8) Cbi.nd rfl Lbi5 (zaJ zbA (zaq d_bb (hr.mono (by decide)) Gbi3 (zaa (zac (pv 0 rfl zoU)) (zaa (zac (pv 5 rfl zlh)) zai))) (zbb (zaa ze3 zai))))
  (zam (ze7 (zaz (pv 8 rfl zoW) (zaJ zdV (zaz (pv 4 rfl zlg) zal (fun _ _ => rfl)) (zaS Gbi4 T.b_len (pv 8 rfl zoW))) (fun _ _ => rfl)) (pv 7 rfl zjN) (zac (pv 5 rfl zlh))))))
  (zaj (zbe (zbh (zk0 d_bh (hr.mono (by decide)) Gbi1 (zkZ (zac (pv 0 rfl zoU)) (zjA (pv 7 rfl zjN) zmF))))
  (zam (zaD (zac (pv 7 rfl zjN))))
  zaQ)
  (zam (zaD (zbm (zcg Gbi5 T.b_list (pv 1 rfl zio)))))))))))
abbrev Saw : Stmt := top 37
abbrev N_aw : List Str := ["_law_script", "_law_k"]
theorem Caw : zaF N_aw ["_law_script", "_law_k"] (zag Saw) := ⟨rfl, rfl, rfl, by decide +kernel, rfl, by decide +kernel, by decide +kernel⟩
theorem zoX : VV Saw "_law_script" := vk (by decide +kernel)
theorem zoY : VV Saw "_law_k" := vk (by decide +kernel)
theorem Gaw1 : GG Saw "len" := by decide +kernel
def g_aw : SM :=
  sSeq (sIf (zbf (oIB fun i j => decide (i < j)) 1 (zbJ 0))
  (sRet (dIxN 0 (dVar 1)))
  (sNx))
  (sRet (zah (.int 0)))
def F_aw : List D -> Option D := runD N_aw g_aw
theorem Kaw {P : Program} {w : World} {K : PySem.W.Frag} {mg : Str -> Option Value} {base : Heap} {f : Addr} {fd : FuncData} (T : Txt K mg) (F : Fun K "_law_cell_at" "_law_cell_at" Saw f fd) : FnOk P w K mg base CX0 1 f fd ["_law_script", "_law_k"] (spD K 2 F_aw) :=
  okD (k := 0) (g := g_aw) F Caw rfl fun cdv A outer s H E B G0 hr =>
  have hu := hr.units
  have hgd := hr.gd
  (zaj (zbe (zbt B_lt (pv 1 rfl zoY) (zaS Gaw1 T.b_len (pv 0 rfl zoX)) (zaR _))
  (zam (zaD (zaz (pv 0 rfl zoX) (zac (pv 1 rfl zoY)) (fun _ _ => rfl))))
  zaQ)
  (zam (zaD zal)))
abbrev Sbf : Stmt := top 46
abbrev N_bf : List Str := ["_law_wishes_here", "_law_lists", "_law_ranks"]
theorem Cbf : zaF N_bf ["_law_wishes_here"] (zag Sbf) := ⟨rfl, rfl, rfl, by decide +kernel, rfl, by decide +kernel, by decide +kernel⟩
theorem zoZ : VV Sbf "_law_wishes_here" := vk (by decide +kernel)
theorem zo0 : VV Sbf "_law_lists" := vk (by decide +kernel)
theorem zqR : VV Sbf "_law_ranks" := vk (by decide +kernel)
theorem Gbf1 : GG Sbf "list" := by decide +kernel
theorem Lbf1 : LL Sbf "_law_lists" := lk (by decide +kernel)
theorem Lbf2 : LL Sbf "_law_ranks" := lk (by decide +kernel)
def zjO : SM :=
  sApp 1 (mMap PyData.list (zbL (za3 (dVar 2)) 1 (gN 3) (zah true) (mMap PyData.list (zcf 3))))
def g_bf : SM :=
  sSeq (zbK 1 (zas (mNil) fun xs => if xs.length <= 1000000 then zah xs else fun _ => .bad))
  (sSeq (sFor (za3 (dIxN 0 (zah (.int 1)))) (gN 2) zjO)
  (sRet (mTup (zaf (mMap PyData.list (zas (zaf (dIxN 0 (zah (.int 0))) (mNil)) fun xs => mOpt (zcK xs))) (zaf (dVar 1) (mNil))))))
def F_bf : List D -> Option D := runD N_bf g_bf
theorem Kbf {P : Program} {w : World} {K : PySem.W.Frag} {mg : Str -> Option Value} {base : Heap} {f : Addr} {fd : FuncData} (T : Txt K mg) (F : Fun K "_law_copy" "_law_copy" Sbf f fd) : FnOk P w K mg base CX0 1 f fd ["_law_wishes_here"] (spD K 1 F_bf) :=
  okD (k := 0) (g := g_bf) F Cbf rfl fun cdv A outer s H E B G0 hr =>
  have hu := hr.units
  have hgd := hr.gd
  (zaj (zce (i := 1) Cbf.nd rfl Lbf1 (zcP zai))
  (zaj (zb8 PassesOwn.never rfl (zbS (zaz (pv 0 rfl zoZ) zal (fun _ _ => rfl))) (zao (zan (i := 2) Cbf.nd rfl Lbf2))
  (zam (zdN (pv 1 rfl zo0) (zbm (zbw (zag Sbf) N_bf ["_law_wishes_here", "_law_lists", "_law_ranks", "_law_row"] 1 rfl (zbS (zac (pv 2 rfl zqR))) (fun cl C s₀ H₀ ex B' G' => ⟨(zao (zan (i := 3) (show (["_law_wishes_here", "_law_lists", "_law_ranks", "_law_row"] : List Str).Nodup by decide +kernel) rfl (za1 rfl) (.inr (zbq rfl)))), zbB, (zbm (zcg (zdj rfl) T.b_list (pvb 3)))⟩) rfl rfl (by decide +kernel) rfl (by decide +kernel) (by decide +kernel) (by decide +kernel))))))
  (zam (zaD (ze6 (zaa (zbm (zhq Gbf1 T.b_list (zaa (zaz (pv 0 rfl zoZ) zal (fun _ _ => rfl)) zai))) (zaa (zac (pv 1 rfl zo0)) zai)))))))
abbrev Sbc : Stmt := top 43
abbrev N_bc : List Str := ["_law_wishes_here", "_law_cell", "_law_salt", "_law_askers", "_law_sizes", "_law_digits", "_law_old", "_law_turns", "_law_digit"]
theorem Cbc : zaF N_bc ["_law_wishes_here", "_law_cell", "_law_salt"] (zag Sbc) := ⟨rfl, rfl, rfl, by decide +kernel, rfl, by decide +kernel, by decide +kernel⟩
theorem zo1 : VV Sbc "_law_wishes_here" := vk (by decide +kernel)
theorem zqS : VV Sbc "_law_cell" := vk (by decide +kernel)
theorem zqT : VV Sbc "_law_salt" := vk (by decide +kernel)
theorem zf6 : VV Sbc "_law_askers" := vk (by decide +kernel)
theorem zqU : VV Sbc "_law_sizes" := vk (by decide +kernel)
theorem zjP : VV Sbc "_law_digits" := vk (by decide +kernel)
theorem zqV : VV Sbc "_law_old" := vk (by decide +kernel)
theorem zmZ : VV Sbc "_law_turns" := vk (by decide +kernel)
theorem zm0 : VV Sbc "_law_digit" := vk (by decide +kernel)
theorem Gbc1 : GG Sbc "_law_numbers" := by decide +kernel
theorem Gbc2 : GG Sbc "len" := by decide +kernel
theorem Lbc1 : LL Sbc "_law_askers" := lk (by decide +kernel)
theorem Lbc2 : LL Sbc "_law_digit" := lk (by decide +kernel)
theorem Lbc3 : LL Sbc "_law_digits" := lk (by decide +kernel)
theorem Lbc4 : LL Sbc "_law_old" := lk (by decide +kernel)
theorem Lbc5 : LL Sbc "_law_sizes" := lk (by decide +kernel)
theorem Lbc6 : LL Sbc "_law_turns" := lk (by decide +kernel)
def zfk : SM :=
  sSet 8 (dBin oMod (dBin oAdd (dVar 8) (zah (.int 1))) (dVar 3))
def zjQ : SM :=
  sSeq (zc8 (zii oIn (dVar 8) 7) zfk 1000)
  (sApp 7 (dVar 8))
def g_bc : SM :=
  sSeq (sSet 3 (zbU oLen (zaf (dIxN 0 (zah (.int 1))) (mNil))))
  (sSeq (sSet 4 (dBin oAdd (mLst (zaf (zah (.int 3)) (zaf (zah (.int 2)) (zaf (dBin oAdd (dVar 3) (zah (.int 1))) (mNil))))) (dBin oMul (mLst (zaf (dBin oAdd (zbU oLen (zaf (dIxN 0 (zah (.int 0))) (mNil))) (zah (.int 1))) (mNil))) (dVar 3))))
  (sSeq (sSet 5 (dFun 3 F_ax (zaf (dVar 1) (zaf (dVar 2) (zaf (dBin oAdd (dVar 4) (dBin oMul (mLst (zaf (dVar 3) (mNil))) (dVar 3))) (mNil))))))
  (sSeq (sSet 6 (zah .none))
  (sSeq (sIf (dBin oEq (dIxN 5 (zah (.int 1))) (zah (.int 1)))
  (zbK 6 (zbL (za3 (dSlA (dVar 5) (zas (zah (.int 3)) fun x => mOpt (zc2 x)) (zas (dBin oAdd (zah (.int 3)) (dVar 3)) fun x => mOpt (zc2 x)))) 1 (gN 9) (zah true) (dBin oIx (mLst (zaf (zah .none) (zaf (dBin oSub (dVar 9) (zah (.int 1))) (mNil)))) (zbU zi3 (zaf (mMap PyData.bool (zbf (oIB fun i j => decide (j < i)) 9 (zah (.int 0)))) (mNil))))))
  (sNx))
  (sSeq (zbK 7 (zas (mNil) fun xs => if xs.length <= 1000000 then zah xs else fun _ => .bad))
  (sSeq (sFor (za3 (dSlA (dVar 5) (zas (dBin oAdd (zah (.int 3)) (dVar 3)) fun x => mOpt (zc2 x)) (zas (dBin oAdd (dBin oAdd (zah (.int 3)) (dVar 3)) (dIxN 5 (zah (.int 2)))) fun x => mOpt (zc2 x)))) (gN 8) zjQ)
  (sRet (mTup (zaf (dBin oIx (mLst (zaf (zah (.str "firsts")) (zaf (zah (.str "full")) (zaf (zah (.str "lasts")) (mNil))))) (dIxN 5 (zah (.int 0)))) (zaf (dVar 6) (zaf (dVar 7) (mNil))))))))))))
def F_bc : List D -> Option D := runD N_bc g_bc
theorem Kbc {P : Program} {w : World} {K : PySem.W.Frag} {mg : Str -> Option Value} {base : Heap} {f : Addr} {fd : FuncData} (T : Txt K mg) (d_ax : Def P w K mg base "_law_numbers" 1 3 F_ax) (F : Fun K "_law_aim" "_law_aim" Sbc f fd) : FnOk P w K mg base CX0 2 f fd ["_law_wishes_here", "_law_cell", "_law_salt"] (spD K 3 F_bc) :=
  okD (k := 1) (g := g_bc) F Cbc rfl fun cdv A outer s H E B G0 hr =>
  have hu := hr.units
  have hgd := hr.gd
  (zaj (zaP (i := 3) Cbc.nd rfl Lbc1 (zaX zfH Gbc2 T.b_len boot_len (zaa (zaz (pv 0 rfl zo1) zal (fun _ _ => rfl)) zai)))
  (zaj (zaP (i := 4) Cbc.nd rfl Lbc5 (zaJ zbA (zbb (zaa zal (zaa zal (zaa (zaJ zbA (zac (pv 3 rfl zf6)) zal) zai)))) (zaJ zdz (zbb (zaa (zaJ zbA (zaX zfH Gbc2 T.b_len boot_len (zaa (zaz (pv 0 rfl zo1) zal (fun _ _ => rfl)) zai)) zal) zai)) (zac (pv 3 rfl zf6)))))
  (zaj (zaP (i := 5) Cbc.nd rfl Lbc3 (zaq d_ax (hr.mono (by decide)) Gbc1 (zaa (zac (pv 1 rfl zqS)) (zaa (zac (pv 2 rfl zqT)) (zaa (zaJ zbA (zac (pv 4 rfl zqU)) (zaJ zdz (zbb (zaa (zac (pv 3 rfl zf6)) zai)) (zac (pv 3 rfl zf6)))) zai)))))
  (zaj (zaP (i := 6) Cbc.nd rfl Lbc4 ze3)
  (zaj (zbe (zb7 (B_eq hu) (zaz (pv 5 rfl zjP) zal (fun _ _ => rfl)) zal (zaR _))
  (zam (zcy (j := 6) (zag Sbc) N_bc ["_law_wishes_here", "_law_cell", "_law_salt", "_law_askers", "_law_sizes", "_law_digits", "_law_old", "_law_turns", "._law_digit", "_law_digit"] 1 Cbc.nd rfl rfl rfl (zbS (zcp (zac (pv 5 rfl zjP)) (zbN zal) (zbN (zaJ zbA zal (zac (pv 3 rfl zf6)))))) (fun cl C s₀ H₀ ex B' G' => ⟨(zao (zan (i := 9) (show (["_law_wishes_here", "_law_cell", "_law_salt", "_law_askers", "_law_sizes", "_law_digits", "_law_old", "_law_turns", "._law_digit", "_law_digit"] : List Str).Nodup by decide +kernel) rfl (za1 rfl) (.inr (zbq rfl)))), zbB, (zdM (zbb (zaa ze3 (zaa (zaJ zfE (zac (pvb 9)) zal) zai))) (zhU zoe (zdj rfl) T.b_int PyProof.Rows.boot_int (zaa (zcz B_gt (pvb 9) zal (zaR _)) zai)) (fun _ _ => rfl))⟩) rfl rfl (by decide +kernel) rfl (by decide +kernel) (by decide +kernel) (by decide +kernel)))
  zaQ)
  (zaj (zce (i := 7) Cbc.nd rfl Lbc6 (zcP zai))
  (zaj (zb8 PassesOwn.never rfl (zbS (zcp (zac (pv 5 rfl zjP)) (zbN (zaJ zbA zal (zac (pv 3 rfl zf6)))) (zbN (zaJ zbA (zaJ zbA zal (zac (pv 3 rfl zf6))) (zaz (pv 5 rfl zjP) zal (fun _ _ => rfl)))))) (zao (zan (i := 8) Cbc.nd rfl Lbc2))
  (zaj (zkR 1000 PassesOwn.never (zmE (B_in hu) (zac (pv 8 rfl zm0)) (pv 7 rfl zmZ) rfl)
  (zam (zaP (i := 8) Cbc.nd rfl Lbc2 (zaJ zdV (zaJ zbA (zac (pv 8 rfl zm0)) zal) (zac (pv 3 rfl zf6))))))
  (zam (zdN (pv 7 rfl zmZ) (zac (pv 8 rfl zm0))))))
  (zam (zaD (ze6 (zaa (zdM (zbb (zaa zcJ (zaa zcJ (zaa zcJ zai)))) (zaz (pv 5 rfl zjP) zal (fun _ _ => rfl)) (fun _ _ => rfl)) (zaa (zac (pv 6 rfl zqV)) (zaa (zac (pv 7 rfl zmZ)) zai)))))))))))))
abbrev Say : Stmt := top 39
abbrev N_ay : List Str := ["_law_script", "_law_at", "_law_most_things", "_law_most_askers", "_law_most_ranks", "_law_sizes", "_law_digits", "_law_copies", "_law_lists", "_law_asker", "_law_cell", "_law_places", "_law_ranks", "_law_rank_here", "_law_row"]
theorem Cay : zaF N_ay ["_law_script", "_law_at", "_law_most_things", "_law_most_askers", "_law_most_ranks"] (zag Say) := ⟨rfl, rfl, rfl, by decide +kernel, rfl, by decide +kernel, by decide +kernel⟩
theorem zo2 : VV Say "_law_script" := vk (by decide +kernel)
theorem zli : VV Say "_law_at" := vk (by decide +kernel)
theorem zm1 : VV Say "_law_most_things" := vk (by decide +kernel)
theorem zqW : VV Say "_law_most_askers" := vk (by decide +kernel)
theorem zo3 : VV Say "_law_most_ranks" := vk (by decide +kernel)
theorem zqX : VV Say "_law_sizes" := vk (by decide +kernel)
theorem zm2 : VV Say "_law_digits" := vk (by decide +kernel)
theorem zo4 : VV Say "_law_copies" := vk (by decide +kernel)
theorem zo5 : VV Say "_law_lists" := vk (by decide +kernel)
theorem zo6 : VV Say "_law_asker" := vk (by decide +kernel)
theorem zo7 : VV Say "_law_cell" := vk (by decide +kernel)
theorem zo8 : VV Say "_law_places" := vk (by decide +kernel)
theorem zlP : VV Say "_law_ranks" := vk (by decide +kernel)
theorem zjR : VV Say "_law_row" := vk (by decide +kernel)
theorem Gay1 : GG Say "_law_cell_at" := by decide +kernel
theorem Gay2 : GG Say "_law_numbers" := by decide +kernel
theorem Gay3 : GG Say "len" := by decide +kernel
theorem Gay4 : GG Say "range" := by decide +kernel
theorem Lay1 : LL Say "_law_asker" := lk (by decide +kernel)
theorem Lay2 : LL Say "_law_cell" := lk (by decide +kernel)
theorem Lay3 : LL Say "_law_digits" := lk (by decide +kernel)
theorem Lay4 : LL Say "_law_lists" := lk (by decide +kernel)
theorem Lay5 : LL Say "_law_places" := lk (by decide +kernel)
theorem Lay6 : LL Say "_law_rank_here" := lk (by decide +kernel)
theorem Lay7 : LL Say "_law_ranks" := lk (by decide +kernel)
theorem Lay8 : LL Say "_law_sizes" := lk (by decide +kernel)
def zgY : SM :=
  sSeq (zbK 14 (zbL (zgz (zaf (zbJ 7) (mNil))) 1 (gN 15) (dBin oEq (dIxN 11 (dVar 15)) (dVar 13)) (dVar 15)))
  (sIf (zbf oNe 14 (mLst (mNil)))
  (sApp 12 (dBin oIx (mLst (zaf (dVar 14) (zaf (dRev (dVar 14) (zah none) (zah none) (zas (dNeg (zah (.int 1))) fun x => mOpt (zc2 x))) (mNil)))) (dIxN 11 (dNeg (zah (.int 1))))))
  (sNx))
def zgZ : SM :=
  sSeq (sSet 10 (dFun 2 F_aw (zaf (dVar 0) (zaf (dBin oAdd (dBin oAdd (dVar 1) (zah (.int 1))) (dVar 9)) (mNil)))))
  (sSeq (sSet 11 (dFun 3 F_ax (zaf (dVar 10) (zaf (dBin oAdd (dBin oAdd (dBin oMul (zah (.int 11)) (dVar 1)) (dBin oMul (zah (.int 3)) (dVar 9))) (zah (.int 1))) (zaf (dBin oAdd (dBin oMul (mLst (zaf (dBin oAdd (dVar 4) (zah (.int 1))) (mNil))) (dVar 2)) (mLst (zaf (zah (.int 2)) (mNil)))) (mNil))))))
  (sSeq (zbK 12 (zas (mNil) fun xs => if xs.length <= 1000000 then zah xs else fun _ => .bad))
  (sSeq (sFor (ziX (zaf (zah (.int 1)) (zaf (dBin oAdd (dVar 4) (zah (.int 1))) (mNil)))) (gN 13) zgY)
  (sApp 8 (dVar 12)))))
def g_ay : SM :=
  sSeq (sSet 5 (dBin oAdd (mLst (zaf (dVar 2) (zaf (dVar 3) (mNil)))) (dBin oMul (mLst (zaf (zah (.int 11)) (mNil))) (dVar 2))))
  (sSeq (sSet 6 (dFun 3 F_ax (zaf (dFun 2 F_aw (zaf (dVar 0) (zaf (dVar 1) (mNil)))) (zaf (dVar 1) (zaf (dVar 5) (mNil))))))
  (sSeq (zbK 7 (zbL (za3 (dSlA (dVar 6) (zas (zah (.int 2)) fun x => mOpt (zc2 x)) (zas (dBin oAdd (zah (.int 3)) (dIxN 6 (zah (.int 0)))) fun x => mOpt (zc2 x)))) 1 (gN 15) (zah true) (dBin oIx (mLst (zaf (zah (.int 1)) (zaf (zah (.int 1)) (zaf (zah (.int 2)) (zaf (zah (.int 0)) (zaf (zah (.int 3)) (zaf (zah (.int 7)) (zaf (zah (.int 1)) (zaf (zah (.int 4)) (zaf (zah (.int 5)) (zaf (zah (.int 6)) (zaf (zah (.int 1)) (mNil))))))))))))) (dVar 15))))
  (sSeq (zbK 8 (zas (mNil) fun xs => if xs.length <= 1000000 then zah xs else fun _ => .bad))
  (sSeq (sFor (zgz (zaf (dBin oAdd (zah (.int 1)) (dIxN 6 (zah (.int 1)))) (mNil))) (gN 9) zgZ)
  (sRet (mTup (zaf (dVar 7) (zaf (dVar 8) (mNil)))))))))
def F_ay : List D -> Option D := runD N_ay g_ay
theorem Kay {P : Program} {w : World} {K : PySem.W.Frag} {mg : Str -> Option Value} {base : Heap} {f : Addr} {fd : FuncData} (T : Txt K mg) (d_ax : Def P w K mg base "_law_numbers" 1 3 F_ax) (d_aw : Def P w K mg base "_law_cell_at" 1 2 F_aw) (F : Fun K "_law_wishes" "_law_wishes" Say f fd) : FnOk P w K mg base CX0 2 f fd ["_law_script", "_law_at", "_law_most_things", "_law_most_askers", "_law_most_ranks"] (spD K 5 F_ay) :=
  okD (k := 1) (g := g_ay) F Cay rfl fun cdv A outer s H E B G0 hr =>
  have hu := hr.units
  have hgd := hr.gd
  (zaj (zaP (i := 5) Cay.nd rfl Lay8 (zaJ zbA (zbb (zaa (zac (pv 2 rfl zm1)) (zaa (zac (pv 3 rfl zqW)) zai))) (zaJ zdz (zbb (zaa zal zai)) (zac (pv 2 rfl zm1)))))
  (zaj (zaP (i := 6) Cay.nd rfl Lay3 (zaq d_ax (hr.mono (by decide)) Gay2 (zaa (zaq d_aw (hr.mono (by decide)) Gay1 (zaa (zac (pv 0 rfl zo2)) (zaa (zac (pv 1 rfl zli)) zai))) (zaa (zac (pv 1 rfl zli)) (zaa (zac (pv 5 rfl zqX)) zai)))))
  (zaj (zcy (j := 7) (zag Say) N_ay ["_law_script", "_law_at", "_law_most_things", "_law_most_askers", "_law_most_ranks", "_law_sizes", "_law_digits", "_law_copies", "_law_lists", "_law_asker", "_law_cell", "_law_places", "_law_ranks", "_law_rank_here", "_law_row", "_law_digit"] 1 Cay.nd rfl rfl rfl (zbS (zcp (zac (pv 6 rfl zm2)) (zbN zal) (zbN (zaJ zbA zal (zaz (pv 6 rfl zm2) zal (fun _ _ => rfl)))))) (fun cl C s₀ H₀ ex B' G' => ⟨(zao (zan (i := 15) (show (["_law_script", "_law_at", "_law_most_things", "_law_most_askers", "_law_most_ranks", "_law_sizes", "_law_digits", "_law_copies", "_law_lists", "_law_asker", "_law_cell", "_law_places", "_law_ranks", "_law_rank_here", "_law_row", "_law_digit"] : List Str).Nodup by decide +kernel) rfl (za1 rfl) (.inr (zbq rfl)))), zbB, (zdM (zbb (zaa zal (zaa zal (zaa zal (zaa zal (zaa zal (zaa zal (zaa zal (zaa zal (zaa zal (zaa zal (zaa zal zai)))))))))))) (zac (pvb 15)) (fun _ _ => rfl))⟩) rfl rfl (by decide +kernel) rfl (by decide +kernel) (by decide +kernel) (by decide +kernel))
  (zaj (zce (i := 8) Cay.nd rfl Lay4 (zcP zai))
  (zaj (zb8 PassesOwn.never rfl (zdi Gay4 T.b_range (zaa (zaJ zbA zal (zaz (pv 6 rfl zm2) zal (fun _ _ => rfl))) zai)) (zao (zan (i := 9) Cay.nd rfl Lay1))
  (zaj (zaP (i := 10) Cay.nd rfl Lay2 (zaq d_aw (hr.mono (by decide)) Gay1 (zaa (zac (pv 0 rfl zo2)) (zaa (zaJ zbA (zaJ zbA (zac (pv 1 rfl zli)) zal) (zac (pv 9 rfl zo6))) zai))))
  (zaj (zaP (i := 11) Cay.nd rfl Lay5 (zaq d_ax (hr.mono (by decide)) Gay2 (zaa (zac (pv 10 rfl zo7)) (zaa (zaJ zbA (zaJ zbA (zaJ zdz zal (zac (pv 1 rfl zli))) (zaJ zdz zal (zac (pv 9 rfl zo6)))) zal) (zaa (zaJ zbA (zaJ zdz (zbb (zaa (zaJ zbA (zac (pv 4 rfl zo3)) zal) zai)) (zac (pv 2 rfl zm1))) (zbb (zaa zal zai))) zai)))))
  (zaj (zce (i := 12) Cay.nd rfl Lay7 (zcP zai))
  (zaj (zb8 PassesOwn.never rfl (zfI Gay4 T.b_range (zaa zal (zaa (zaJ zbA (zac (pv 4 rfl zo3)) zal) zai))) (zao (zan (i := 13) Cay.nd rfl Lay6))
  (zaj (zcy (j := 14) (zag Say) N_ay ["_law_script", "_law_at", "_law_most_things", "_law_most_askers", "_law_most_ranks", "_law_sizes", "_law_digits", "_law_copies", "_law_lists", "_law_asker", "_law_cell", "_law_places", "_law_ranks", "_law_rank_here", "_law_row", "_law_thing"] 1 Cay.nd rfl rfl rfl (zdi Gay4 T.b_range (zaa (zaS Gay3 T.b_len (pv 7 rfl zo4)) zai)) (fun cl C s₀ H₀ ex B' G' => ⟨(zao (zan (i := 15) (show (["_law_script", "_law_at", "_law_most_things", "_law_most_askers", "_law_most_ranks", "_law_sizes", "_law_digits", "_law_copies", "_law_lists", "_law_asker", "_law_cell", "_law_places", "_law_ranks", "_law_rank_here", "_law_row", "_law_thing"] : List Str).Nodup by decide +kernel) rfl (za1 rfl) (.inr (zbq rfl)))), (zee (zb7 (B_eq hu) (zaz (pvb 11) (zac (pvb 15)) (fun _ _ => rfl)) (zac (pvb 13)) (zaR _))), (zac (pvb 15))⟩) rfl rfl (by decide +kernel) rfl (by decide +kernel) (by decide +kernel) (by decide +kernel))
  (zam (zbe (zbt (B_ne hu) (pv 14 rfl zjR) (zbb zai) (zaR _))
  (zam (zdN (pv 12 rfl zlP) (zdM (zbb (zaa (zac (pv 14 rfl zjR)) (zaa (zgD (zac (pv 14 rfl zjR)) zcw zcw (zbN (zcx zal))) zai))) (zaz (pv 11 rfl zo8) (zcx zal) (fun _ _ => rfl)) (fun _ _ => rfl))))
  zaQ))))
  (zam (zdN (pv 8 rfl zo5) (zac (pv 12 rfl zlP)))))))))
  (zam (zaD (ze6 (zaa (zac (pv 7 rfl zo4)) (zaa (zac (pv 8 rfl zo5)) zai))))))))))
abbrev Sbl : Stmt := top 52
abbrev N_bl : List Str := ["_law_script", "_law_wishes_here", "_law_aim_here", "_law_handed", "_law_shown", "_law_ahead", "_law_k", "_law_cell", "_law_dealing", "_law_mine", "_law_theirs", "_law_given"]
theorem Cbl : zaF N_bl ["_law_script"] (zag Sbl) := ⟨rfl, rfl, rfl, by decide +kernel, rfl, by decide +kernel, by decide +kernel⟩
theorem zlj : VV Sbl "_law_script" := vk (by decide +kernel)
theorem zf7 : VV Sbl "_law_wishes_here" := vk (by decide +kernel)
theorem zg0 : VV Sbl "_law_aim_here" := vk (by decide +kernel)
theorem zlk : VV Sbl "_law_handed" := vk (by decide +kernel)
theorem zqY : VV Sbl "_law_shown" := vk (by decide +kernel)
theorem ziq : VV Sbl "_law_ahead" := vk (by decide +kernel)
theorem zm3 : VV Sbl "_law_k" := vk (by decide +kernel)
theorem zo9 : VV Sbl "_law_cell" := vk (by decide +kernel)
theorem zll : VV Sbl "_law_dealing" := vk (by decide +kernel)
theorem zpa : VV Sbl "_law_mine" := vk (by decide +kernel)
theorem zlQ : VV Sbl "_law_theirs" := vk (by decide +kernel)
theorem zf8 : VV Sbl "_law_given" := vk (by decide +kernel)
theorem Gbl1 : GG Sbl "_law_aim" := by decide +kernel
theorem Gbl2 : GG Sbl "_law_cell_at" := by decide +kernel
theorem Gbl3 : GG Sbl "_law_copy" := by decide +kernel
theorem Gbl4 : GG Sbl "_law_dealt" := by decide +kernel
theorem Gbl5 : GG Sbl "_law_is" := by decide +kernel
theorem Gbl6 : GG Sbl "_law_key" := by decide +kernel
theorem Gbl7 : GG Sbl "_law_near" := by decide +kernel
theorem Gbl8 : GG Sbl "_law_wishes" := by decide +kernel
theorem Gbl9 : GG Sbl "enumerate" := by decide +kernel
theorem zm4 : GG Sbl "is_better" := by decide +kernel
theorem zlm : GG Sbl "list" := by decide +kernel
theorem zpb : GG Sbl "repr" := by decide +kernel
theorem Lbl1 : LL Sbl "_law_ahead" := lk (by decide +kernel)
theorem Lbl2 : LL Sbl "_law_aim_here" := lk (by decide +kernel)
theorem Lbl3 : LL Sbl "_law_cell" := lk (by decide +kernel)
theorem Lbl4 : LL Sbl "_law_dealing" := lk (by decide +kernel)
theorem Lbl5 : LL Sbl "_law_given" := lk (by decide +kernel)
theorem Lbl6 : LL Sbl "_law_handed" := lk (by decide +kernel)
theorem Lbl7 : LL Sbl "_law_k" := lk (by decide +kernel)
theorem Lbl8 : LL Sbl "_law_mine" := lk (by decide +kernel)
theorem Lbl9 : LL Sbl "_law_shown" := lk (by decide +kernel)
theorem zqZ : LL Sbl "_law_theirs" := lk (by decide +kernel)
theorem zq0 : LL Sbl "_law_wishes_here" := lk (by decide +kernel)
def zjS : SM :=
  sSeq (sIf (dBin oEq (dBin oMod (dVar 6) (zah (.int 3))) (zah (.int 2)))
  (sSet 8 (dFun 3 F_bd (zaf (dVar 1) (zaf (dVar 7) (zaf (dBin oAdd (zah (.int 31)) (dVar 6)) (mNil))))))
  (sSet 8 (dFun 4 F_bi (zaf (dVar 1) (zaf (dVar 5) (zaf (dVar 7) (zaf (dBin oAdd (zah (.int 31)) (dVar 6)) (mNil))))))))
  (sSeq (sSet 9 (dFun 3 F_bj (zaf (dVar 1) (zaf (dVar 2) (zaf (dVar 8) (mNil))))))
  (sSeq (sSet 10 (dFun 3 F_bj (zaf (dVar 1) (zaf (dVar 2) (zaf (dVar 5) (mNil))))))
  (sSeq (zbK 11 (zas (zaf (mMap PyData.list (zcf 8)) (zaf (mMap PyData.list (zcf 5)) (mNil))) fun xs => if xs.length <= 1000000 then zah xs else fun _ => .bad))
  (sSeq (sIf (mNot (zbk (dFun 2 F_bk (zaf (dFun 4 F_av (zaf (dVar 3) (zaf (dVar 2) (zaf (dIxN 11 (zah (.int 0))) (zaf (dIxN 11 (zah (.int 1))) (mNil)))))) (zaf (mMap PyData.bool (zbf oGtX 9 (dVar 10))) (mNil))))))
  (sRet (zah (.bool false)))
  (sNx))
  (sSeq (sIf (mNot (zbk (dFun 2 F_bk (zaf (dFun 4 F_av (zaf (dVar 3) (zaf (dVar 2) (zaf (dIxN 11 (zah (.int 1))) (zaf (dIxN 11 (zah (.int 0))) (mNil)))))) (zaf (mMap PyData.bool (zbf oGtX 10 (dVar 9))) (mNil))))))
  (sRet (zah (.bool false)))
  (sNx))
  (sSeq (sIf (zbf oNe 11 (mLst (zaf (dVar 8) (zaf (dVar 5) (mNil)))))
  (sRet (zah (.bool false)))
  (sNx))
  (sSet 5 (dVar 8))))))))
def g_bl : SM :=
  sSeq (sSet 1 (dFun 5 F_ay (zaf (dVar 0) (zaf (zah (.int 1)) (zaf (zah (.int 6)) (zaf (zah (.int 7)) (zaf (zah (.int 5)) (mNil))))))))
  (sSeq (sSet 2 (dFun 3 F_bc (zaf (dVar 1) (zaf (dFun 2 F_aw (zaf (dVar 0) (zaf (zah (.int 0)) (mNil)))) (zaf (zah (.int 5)) (mNil))))))
  (sSeq (sSet 3 (dFun 1 F_bf (zaf (dVar 1) (mNil))))
  (sSeq (sSet 4 (zbU zgT (zaf (dVar 2) (mNil))))
  (sSeq (sSet 5 (dFun 3 F_bd (zaf (dVar 1) (zaf (dFun 2 F_aw (zaf (dVar 0) (zaf (zah (.int 3)) (mNil)))) (zaf (zah (.int 2)) (mNil))))))
  (sSeq (sIf (mNot (zbk (dFun 2 F_bk (zaf (dFun 4 F_av (zaf (dVar 3) (zaf (dVar 2) (zaf (mMap PyData.list (zcf 5)) (zaf (mMap PyData.list (zcf 5)) (mNil)))))) (zaf (zah (.bool false)) (mNil))))))
  (sRet (zah (.bool false)))
  (sNx))
  (sSeq (sFor (zeC (zaf (dSlA (dVar 0) (zas (zah (.int 9)) fun x => mOpt (zc2 x)) (zas (zah (.int 45)) fun x => mOpt (zc2 x))) (mNil))) (gT 2 (gNC (gN 6) (gNC (gN 7) (gN0)))) zjS)
  (sRet (ze5 (mMap PyData.bool (zbf oEq 3 (dVar 1))) (mMap PyData.bool (dBin oEq (zbU zgT (zaf (dVar 2) (mNil))) (dVar 4)))))))))))
def F_bl : List D -> Option D := runD N_bl g_bl
theorem Kbl {P : Program} {w : World} {K : PySem.W.Frag} {mg : Str -> Option Value} {base : Heap} {f : Addr} {fd : FuncData} (T : Txt K mg) (d_av : Def P w K mg base "is_better" 10 4 F_av) (d_bk : Def P w K mg base "_law_is" 1 2 F_bk) (d_bj : Def P w K mg base "_law_key" 3 3 F_bj) (d_bd : Def P w K mg base "_law_dealt" 2 3 F_bd) (d_bi : Def P w K mg base "_law_near" 3 4 F_bi) (d_aw : Def P w K mg base "_law_cell_at" 1 2 F_aw) (d_bf : Def P w K mg base "_law_copy" 1 1 F_bf) (d_bc : Def P w K mg base "_law_aim" 2 3 F_bc) (d_ay : Def P w K mg base "_law_wishes" 2 5 F_ay) (F : Fun K "law" "law" Sbl f fd) : FnOk P w K mg base CX0 11 f fd ["_law_script"] (spD K 1 F_bl) :=
  okD (k := 10) (g := g_bl) F Cbl rfl fun cdv A outer s H E B G0 hr =>
  have hu := hr.units
  have hgd := hr.gd
  (zaj (zaP (i := 1) Cbl.nd rfl zq0 (zaq d_ay (hr.mono (by decide)) Gbl8 (zaa (zac (pv 0 rfl zlj)) (zaa zal (zaa zal (zaa zal (zaa zal zai)))))))
  (zaj (zaP (i := 2) Cbl.nd rfl Lbl2 (zaq d_bc (hr.mono (by decide)) Gbl1 (zaa (zac (pv 1 rfl zf7)) (zaa (zaq d_aw (hr.mono (by decide)) Gbl2 (zaa (zac (pv 0 rfl zlj)) (zaa zal zai))) (zaa zal zai)))))
  (zaj (zaP (i := 3) Cbl.nd rfl Lbl6 (zaq d_bf (hr.mono (by decide)) Gbl3 (zaa (zac (pv 1 rfl zf7)) zai)))
  (zaj (zaP (i := 4) Cbl.nd rfl Lbl9 (zaX (zlN hu hgd) zpb T.b_repr zeS (zaa (zac (pv 2 rfl zg0)) zai)))
  (zaj (zaP (i := 5) Cbl.nd rfl Lbl1 (zaq d_bd (hr.mono (by decide)) Gbl4 (zaa (zac (pv 1 rfl zf7)) (zaa (zaq d_aw (hr.mono (by decide)) Gbl2 (zaa (zac (pv 0 rfl zlj)) (zaa zal zai))) (zaa zal zai)))))
  (zaj (zbe (zba (zbh (zaq d_bk (hr.mono (by decide)) Gbl5 (zaa (zaq d_av (hr.mono (by decide)) zm4 (zaa (zac (pv 3 rfl zlk)) (zaa (zac (pv 2 rfl zg0)) (zaa (zbm (zcg zlm T.b_list (pv 5 rfl ziq))) (zaa (zbm (zcg zlm T.b_list (pv 5 rfl ziq))) zai))))) (zaa zbH zai)))))
  (zam (zaD zbH))
  zaQ)
  (zaj (zb8 PassesOwn.never rfl (zda Gbl9 T.b_enumerate (zaa (zcp (zac (pv 0 rfl zlj)) (zbN zal) (zbN zal)) zai)) (zbW rfl (zaC (zao (zan (i := 6) Cbl.nd rfl Lbl7)) (zaC (zao (zan (i := 7) Cbl.nd rfl Lbl3)) zbV)))
  (zaj (zbe (zb7 (B_eq hu) (zaJ zdV (zac (pv 6 rfl zm3)) zal) zal (zaR _))
  (zam (zaP (i := 8) Cbl.nd rfl Lbl4 (zaq d_bd (hr.mono (by decide)) Gbl4 (zaa (zac (pv 1 rfl zf7)) (zaa (zac (pv 7 rfl zo9)) (zaa (zaJ zbA zal (zac (pv 6 rfl zm3))) zai))))))
  (zam (zaP (i := 8) Cbl.nd rfl Lbl4 (zaq d_bi (hr.mono (by decide)) Gbl7 (zaa (zac (pv 1 rfl zf7)) (zaa (zac (pv 5 rfl ziq)) (zaa (zac (pv 7 rfl zo9)) (zaa (zaJ zbA zal (zac (pv 6 rfl zm3))) zai))))))))
  (zaj (zaP (i := 9) Cbl.nd rfl Lbl8 (zaq d_bj (hr.mono (by decide)) Gbl6 (zaa (zac (pv 1 rfl zf7)) (zaa (zac (pv 2 rfl zg0)) (zaa (zac (pv 8 rfl zll)) zai)))))
  (zaj (zaP (i := 10) Cbl.nd rfl zqZ (zaq d_bj (hr.mono (by decide)) Gbl6 (zaa (zac (pv 1 rfl zf7)) (zaa (zac (pv 2 rfl zg0)) (zaa (zac (pv 5 rfl ziq)) zai)))))
  (zaj (zce (i := 11) Cbl.nd rfl Lbl5 (zcP (zaa (zbm (zcg zlm T.b_list (pv 8 rfl zll))) (zaa (zbm (zcg zlm T.b_list (pv 5 rfl ziq))) zai))))
  (zaj (zbe (zba (zbh (zaq d_bk (hr.mono (by decide)) Gbl5 (zaa (zaq d_av (hr.mono (by decide)) zm4 (zaa (zac (pv 3 rfl zlk)) (zaa (zac (pv 2 rfl zg0)) (zaa (zaz (pv 11 rfl zf8) zal (fun _ _ => rfl)) (zaa (zaz (pv 11 rfl zf8) zal (fun _ _ => rfl)) zai))))) (zaa (zcz (zon hu) (pv 9 rfl zpa) (zac (pv 10 rfl zlQ)) (zaR _)) zai)))))
  (zam (zaD zbH))
  zaQ)
  (zaj (zbe (zba (zbh (zaq d_bk (hr.mono (by decide)) Gbl5 (zaa (zaq d_av (hr.mono (by decide)) zm4 (zaa (zac (pv 3 rfl zlk)) (zaa (zac (pv 2 rfl zg0)) (zaa (zaz (pv 11 rfl zf8) zal (fun _ _ => rfl)) (zaa (zaz (pv 11 rfl zf8) zal (fun _ _ => rfl)) zai))))) (zaa (zcz (zon hu) (pv 10 rfl zlQ) (zac (pv 9 rfl zpa)) (zaR _)) zai)))))
  (zam (zaD zbH))
  zaQ)
  (zaj (zbe (zbt (B_ne hu) (pv 11 rfl zf8) (zbb (zaa (zac (pv 8 rfl zll)) (zaa (zac (pv 5 rfl ziq)) zai))) (zaR _))
  (zam (zaD zbH))
  zaQ)
  (zam (zaP (i := 5) Cbl.nd rfl Lbl1 (zac (pv 8 rfl zll))))))))))))
  (zam (zaD (zdA (zcz (B_eq hu) (pv 3 rfl zlk) (zac (pv 1 rfl zf7)) (zaR _)) (zcN (zgx (B_eq hu) (zaX (zlN hu hgd) zpb T.b_repr zeS (zaa (zac (pv 2 rfl zg0)) zai)) (zac (pv 4 rfl zqY)) (zaR _)))))))))))))
theorem zpc {l : PySem.W.OpenLaw} {w : World} {K : PySem.W.Frag} {h : Heap} {mg : Str -> Option Value} {fa f0 f1 f2 f3 f4 f5 f6 f7 f8 f9 f10 f11 f12 f13 f14 f15 f16 f17 f18 f19 f20 f21 f22 f23 f24 f25 f26 f27 f28 f29 f30 f31 f32 f33 f34 f35 f36 f37 : Addr} (X : K.In h) (G : h.Ns mainGlobals mg) (hfa : mg "law" = some (.ref fa))
    {od0 an0 od1 an1 od2 an2 od3 an3 od4 an4 od5 an5 od6 an6 od7 an7 od8 an8 od9 an9 od10 an10 od11 an11 od12 an12 od13 an13 od14 an14 od15 an15 od16 an16 od17 an17 od18 an18 od19 an19 od20 an20 od21 an21 od22 an22 od23 an23 od24 an24 od25 an25 od26 an26 od27 an27 od28 an28 od29 an29 od30 an30 od31 an31 od32 an32 od33 an33 od34 an34 od35 an35 od36 an36 od37 an37 : Option Addr} {sl0 sl1 sl2 sl3 sl4 sl5 sl6 sl7 sl8 sl9 sl10 sl11 sl12 sl13 sl14 sl15 sl16 sl17 sl18 sl19 sl20 sl21 sl22 sl23 sl24 sl25 sl26 sl27 sl28 sl29 sl30 sl31 sl32 sl33 sl34 sl35 sl36 sl37 : Array (Option Value)} {oc0 kV0 dc0 pm0 cd0 ct0 oc1 kV1 dc1 pm1 cd1 ct1 oc2 kV2 dc2 pm2 cd2 ct2 oc3 kV3 dc3 pm3 cd3 ct3 oc4 kV4 dc4 pm4 cd4 ct4 oc5 kV5 dc5 pm5 cd5 ct5 oc6 kV6 dc6 pm6 cd6 ct6 oc7 kV7 dc7 pm7 cd7 ct7 oc8 kV8 dc8 pm8 cd8 ct8 oc9 kV9 dc9 pm9 cd9 ct9 oc10 kV10 dc10 pm10 cd10 ct10 oc11 kV11 dc11 pm11 cd11 ct11 oc12 kV12 dc12 pm12 cd12 ct12 oc13 kV13 dc13 pm13 cd13 ct13 oc14 kV14 dc14 pm14 cd14 ct14 oc15 kV15 dc15 pm15 cd15 ct15 oc16 kV16 dc16 pm16 cd16 ct16 oc17 kV17 dc17 pm17 cd17 ct17 oc18 kV18 dc18 pm18 cd18 ct18 oc19 kV19 dc19 pm19 cd19 ct19 oc20 kV20 dc20 pm20 cd20 ct20 oc21 kV21 dc21 pm21 cd21 ct21 oc22 kV22 dc22 pm22 cd22 ct22 oc23 kV23 dc23 pm23 cd23 ct23 oc24 kV24 dc24 pm24 cd24 ct24 oc25 kV25 dc25 pm25 cd25 ct25 oc26 kV26 dc26 pm26 cd26 ct26 oc27 kV27 dc27 pm27 cd27 ct27 oc28 kV28 dc28 pm28 cd28 ct28 oc29 kV29 dc29 pm29 cd29 ct29 oc30 kV30 dc30 pm30 cd30 ct30 oc31 kV31 dc31 pm31 cd31 ct31 oc32 kV32 dc32 pm32 cd32 ct32 oc33 kV33 dc33 pm33 cd33 ct33 oc34 kV34 dc34 pm34 cd34 ct34 oc35 kV35 dc35 pm35 cd35 ct35 oc36 kV36 dc36 pm36 cd36 ct36 oc37 kV37 dc37 pm37 cd37 ct37 : Value}
    (a0 : PySem.W.nsIn K mainGlobals "is_better_by_turns" = some (some (.ref f0))) (l0 : K.lookup f0 = some ⟨oc0, od0, .func (PySem.W.fnOf "is_better_by_turns" "is_better_by_turns" (zaB Sau) (zay Sau) (zag Sau) .none kV0 dc0 pm0 an0 cd0 ct0), sl0⟩) (c0 : PySem.W.codeIn K cd0 "is_better_by_turns" = true) (k0 : PySem.W.keepIn K (.ref f0) = true)
    (a1 : PySem.W.nsIn K mainGlobals "gaps" = some (some (.ref f1))) (l1 : K.lookup f1 = some ⟨oc1, od1, .func (PySem.W.fnOf "gaps" "gaps" (zaB San) (zay San) (zag San) .none kV1 dc1 pm1 an1 cd1 ct1), sl1⟩) (c1 : PySem.W.codeIn K cd1 "gaps" = true) (k1 : PySem.W.keepIn K (.ref f1) = true)
    (a2 : PySem.W.nsIn K mainGlobals "is_order" = some (some (.ref f2))) (l2 : K.lookup f2 = some ⟨oc2, od2, .func (PySem.W.fnOf "is_order" "is_order" (zaB Sal) (zay Sal) (zag Sal) .none kV2 dc2 pm2 an2 cd2 ct2), sl2⟩) (c2 : PySem.W.codeIn K cd2 "is_order" = true) (k2 : PySem.W.keepIn K (.ref f2) = true)
    (a3 : PySem.W.nsIn K mainGlobals "look_at_order" = some (some (.ref f3))) (l3 : K.lookup f3 = some ⟨oc3, od3, .func (PySem.W.fnOf "look_at_order" "look_at_order" (zaB Sam) (zay Sam) (zag Sam) .none kV3 dc3 pm3 an3 cd3 ct3), sl3⟩) (c3 : PySem.W.codeIn K cd3 "look_at_order" = true) (k3 : PySem.W.keepIn K (.ref f3) = true)
    (a4 : PySem.W.nsIn K mainGlobals "beside_by" = some (some (.ref f4))) (l4 : K.lookup f4 = some ⟨oc4, od4, .func (PySem.W.fnOf "beside_by" "beside_by" (zaB Sao) (zay Sao) (zag Sao) .none kV4 dc4 pm4 an4 cd4 ct4), sl4⟩) (c4 : PySem.W.codeIn K cd4 "beside_by" = true) (k4 : PySem.W.keepIn K (.ref f4) = true)
    (a5 : PySem.W.nsIn K mainGlobals "how_many_kept" = some (some (.ref f5))) (l5 : K.lookup f5 = some ⟨oc5, od5, .func (PySem.W.fnOf "how_many_kept" "how_many_kept" (zaB Sas) (zay Sas) (zag Sas) .none kV5 dc5 pm5 an5 cd5 ct5), sl5⟩) (c5 : PySem.W.codeIn K cd5 "how_many_kept" = true) (k5 : PySem.W.keepIn K (.ref f5) = true)
    (a6 : PySem.W.nsIn K mainGlobals "is_whole" = some (some (.ref f6))) (l6 : K.lookup f6 = some ⟨oc6, od6, .func (PySem.W.fnOf "is_whole" "is_whole" (zaB Saa) (zay Saa) (zag Saa) .none kV6 dc6 pm6 an6 cd6 ct6), sl6⟩) (c6 : PySem.W.codeIn K cd6 "is_whole" = true) (k6 : PySem.W.keepIn K (.ref f6) = true)
    (a7 : PySem.W.nsIn K mainGlobals "is_number_below" = some (some (.ref f7))) (l7 : K.lookup f7 = some ⟨oc7, od7, .func (PySem.W.fnOf "is_number_below" "is_number_below" (zaB Sab) (zay Sab) (zag Sab) .none kV7 dc7 pm7 an7 cd7 ct7), sl7⟩) (c7 : PySem.W.codeIn K cd7 "is_number_below" = true) (k7 : PySem.W.keepIn K (.ref f7) = true)
    (a8 : PySem.W.nsIn K mainGlobals "is_rank" = some (some (.ref f8))) (l8 : K.lookup f8 = some ⟨oc8, od8, .func (PySem.W.fnOf "is_rank" "is_rank" (zaB Sad) (zay Sad) (zag Sad) .none kV8 dc8 pm8 an8 cd8 ct8), sl8⟩) (c8 : PySem.W.codeIn K cd8 "is_rank" = true) (k8 : PySem.W.keepIn K (.ref f8) = true)
    (a9 : PySem.W.nsIn K mainGlobals "is_asker_list" = some (some (.ref f9))) (l9 : K.lookup f9 = some ⟨oc9, od9, .func (PySem.W.fnOf "is_asker_list" "is_asker_list" (zaB Sae) (zay Sae) (zag Sae) .none kV9 dc9 pm9 an9 cd9 ct9), sl9⟩) (c9 : PySem.W.codeIn K cd9 "is_asker_list" = true) (k9 : PySem.W.keepIn K (.ref f9) = true)
    (a10 : PySem.W.nsIn K mainGlobals "look_at_lists" = some (some (.ref f10))) (l10 : K.lookup f10 = some ⟨oc10, od10, .func (PySem.W.fnOf "look_at_lists" "look_at_lists" (zaB Saf) (zay Saf) (zag Saf) .none kV10 dc10 pm10 an10 cd10 ct10), sl10⟩) (c10 : PySem.W.codeIn K cd10 "look_at_lists" = true) (k10 : PySem.W.keepIn K (.ref f10) = true)
    (a11 : PySem.W.nsIn K mainGlobals "look_at_copies" = some (some (.ref f11))) (l11 : K.lookup f11 = some ⟨oc11, od11, .func (PySem.W.fnOf "look_at_copies" "look_at_copies" (zaB Sac) (zay Sac) (zag Sac) .none kV11 dc11 pm11 an11 cd11 ct11), sl11⟩) (c11 : PySem.W.codeIn K cd11 "look_at_copies" = true) (k11 : PySem.W.keepIn K (.ref f11) = true)
    (a12 : PySem.W.nsIn K mainGlobals "look_at_wishes" = some (some (.ref f12))) (l12 : K.lookup f12 = some ⟨oc12, od12, .func (PySem.W.fnOf "look_at_wishes" "look_at_wishes" (zaB Sag) (zay Sag) (zag Sag) .none kV12 dc12 pm12 an12 cd12 ct12), sl12⟩) (c12 : PySem.W.codeIn K cd12 "look_at_wishes" = true) (k12 : PySem.W.keepIn K (.ref f12) = true)
    (a13 : PySem.W.nsIn K mainGlobals "longest" = some (some (.ref f13))) (l13 : K.lookup f13 = some ⟨oc13, od13, .func (PySem.W.fnOf "longest" "longest" (zaB Sai) (zay Sai) (zag Sai) .none kV13 dc13 pm13 an13 cd13 ct13), sl13⟩) (c13 : PySem.W.codeIn K cd13 "longest" = true) (k13 : PySem.W.keepIn K (.ref f13) = true)
    (a14 : PySem.W.nsIn K mainGlobals "rank_in" = some (some (.ref f14))) (l14 : K.lookup f14 = some ⟨oc14, od14, .func (PySem.W.fnOf "rank_in" "rank_in" (zaB Sah) (zay Sah) (zag Sah) .none kV14 dc14 pm14 an14 cd14 ct14), sl14⟩) (c14 : PySem.W.codeIn K cd14 "rank_in" = true) (k14 : PySem.W.keepIn K (.ref f14) = true)
    (a15 : PySem.W.nsIn K mainGlobals "ranks_got" = some (some (.ref f15))) (l15 : K.lookup f15 = some ⟨oc15, od15, .func (PySem.W.fnOf "ranks_got" "ranks_got" (zaB Saj) (zay Saj) (zag Saj) .none kV15 dc15 pm15 an15 cd15 ct15), sl15⟩) (c15 : PySem.W.codeIn K cd15 "ranks_got" = true) (k15 : PySem.W.keepIn K (.ref f15) = true)
    (a16 : PySem.W.nsIn K mainGlobals "counts_of" = some (some (.ref f16))) (l16 : K.lookup f16 = some ⟨oc16, od16, .func (PySem.W.fnOf "counts_of" "counts_of" (zaB Sak) (zay Sak) (zag Sak) .none kV16 dc16 pm16 an16 cd16 ct16), sl16⟩) (c16 : PySem.W.codeIn K cd16 "counts_of" = true) (k16 : PySem.W.keepIn K (.ref f16) = true)
    (a17 : PySem.W.nsIn K mainGlobals "is_turns" = some (some (.ref f17))) (l17 : K.lookup f17 = some ⟨oc17, od17, .func (PySem.W.fnOf "is_turns" "is_turns" (zaB Saq) (zay Saq) (zag Saq) .none kV17 dc17 pm17 an17 cd17 ct17), sl17⟩) (c17 : PySem.W.codeIn K cd17 "is_turns" = true) (k17 : PySem.W.keepIn K (.ref f17) = true)
    (a18 : PySem.W.nsIn K mainGlobals "is_old" = some (some (.ref f18))) (l18 : K.lookup f18 = some ⟨oc18, od18, .func (PySem.W.fnOf "is_old" "is_old" (zaB Sap) (zay Sap) (zag Sap) .none kV18 dc18 pm18 an18 cd18 ct18), sl18⟩) (c18 : PySem.W.codeIn K cd18 "is_old" = true) (k18 : PySem.W.keepIn K (.ref f18) = true)
    (a19 : PySem.W.nsIn K mainGlobals "look_at_aim" = some (some (.ref f19))) (l19 : K.lookup f19 = some ⟨oc19, od19, .func (PySem.W.fnOf "look_at_aim" "look_at_aim" (zaB Sar) (zay Sar) (zag Sar) .none kV19 dc19 pm19 an19 cd19 ct19), sl19⟩) (c19 : PySem.W.codeIn K cd19 "look_at_aim" = true) (k19 : PySem.W.keepIn K (.ref f19) = true)
    (a20 : PySem.W.nsIn K mainGlobals "score_of" = some (some (.ref f20))) (l20 : K.lookup f20 = some ⟨oc20, od20, .func (PySem.W.fnOf "score_of" "score_of" (zaB Sat) (zay Sat) (zag Sat) .none kV20 dc20 pm20 an20 cd20 ct20), sl20⟩) (c20 : PySem.W.codeIn K cd20 "score_of" = true) (k20 : PySem.W.keepIn K (.ref f20) = true)
    (a21 : PySem.W.nsIn K mainGlobals "is_better" = some (some (.ref f21))) (l21 : K.lookup f21 = some ⟨oc21, od21, .func (PySem.W.fnOf "is_better" "is_better" (zaB Sav) (zay Sav) (zag Sav) .none kV21 dc21 pm21 an21 cd21 ct21), sl21⟩) (c21 : PySem.W.codeIn K cd21 "is_better" = true) (k21 : PySem.W.keepIn K (.ref f21) = true)
    (a22 : PySem.W.nsIn K mainGlobals "_law_is" = some (some (.ref f22))) (l22 : K.lookup f22 = some ⟨oc22, od22, .func (PySem.W.fnOf "_law_is" "_law_is" (zaB Sbk) (zay Sbk) (zag Sbk) .none kV22 dc22 pm22 an22 cd22 ct22), sl22⟩) (c22 : PySem.W.codeIn K cd22 "_law_is" = true) (k22 : PySem.W.keepIn K (.ref f22) = true)
    (a23 : PySem.W.nsIn K mainGlobals "_law_longest" = some (some (.ref f23))) (l23 : K.lookup f23 = some ⟨oc23, od23, .func (PySem.W.fnOf "_law_longest" "_law_longest" (zaB Sba) (zay Sba) (zag Sba) .none kV23 dc23 pm23 an23 cd23 ct23), sl23⟩) (c23 : PySem.W.codeIn K cd23 "_law_longest" = true) (k23 : PySem.W.keepIn K (.ref f23) = true)
    (a24 : PySem.W.nsIn K mainGlobals "_law_rank" = some (some (.ref f24))) (l24 : K.lookup f24 = some ⟨oc24, od24, .func (PySem.W.fnOf "_law_rank" "_law_rank" (zaB Saz) (zay Saz) (zag Saz) .none kV24 dc24 pm24 an24 cd24 ct24), sl24⟩) (c24 : PySem.W.codeIn K cd24 "_law_rank" = true) (k24 : PySem.W.keepIn K (.ref f24) = true)
    (a25 : PySem.W.nsIn K mainGlobals "_law_counts" = some (some (.ref f25))) (l25 : K.lookup f25 = some ⟨oc25, od25, .func (PySem.W.fnOf "_law_counts" "_law_counts" (zaB Sbe) (zay Sbe) (zag Sbe) .none kV25 dc25 pm25 an25 cd25 ct25), sl25⟩) (c25 : PySem.W.codeIn K cd25 "_law_counts" = true) (k25 : PySem.W.keepIn K (.ref f25) = true)
    (a26 : PySem.W.nsIn K mainGlobals "_law_key" = some (some (.ref f26))) (l26 : K.lookup f26 = some ⟨oc26, od26, .func (PySem.W.fnOf "_law_key" "_law_key" (zaB Sbj) (zay Sbj) (zag Sbj) .none kV26 dc26 pm26 an26 cd26 ct26), sl26⟩) (c26 : PySem.W.codeIn K cd26 "_law_key" = true) (k26 : PySem.W.keepIn K (.ref f26) = true)
    (a27 : PySem.W.nsIn K mainGlobals "_law_wished" = some (some (.ref f27))) (l27 : K.lookup f27 = some ⟨oc27, od27, .func (PySem.W.fnOf "_law_wished" "_law_wished" (zaB Sbb) (zay Sbb) (zag Sbb) .none kV27 dc27 pm27 an27 cd27 ct27), sl27⟩) (c27 : PySem.W.codeIn K cd27 "_law_wished" = true) (k27 : PySem.W.keepIn K (.ref f27) = true)
    (a28 : PySem.W.nsIn K mainGlobals "_law_numbers" = some (some (.ref f28))) (l28 : K.lookup f28 = some ⟨oc28, od28, .func (PySem.W.fnOf "_law_numbers" "_law_numbers" (zaB Sax) (zay Sax) (zag Sax) .none kV28 dc28 pm28 an28 cd28 ct28), sl28⟩) (c28 : PySem.W.codeIn K cd28 "_law_numbers" = true) (k28 : PySem.W.keepIn K (.ref f28) = true)
    (a29 : PySem.W.nsIn K mainGlobals "_law_dealt" = some (some (.ref f29))) (l29 : K.lookup f29 = some ⟨oc29, od29, .func (PySem.W.fnOf "_law_dealt" "_law_dealt" (zaB Sbd) (zay Sbd) (zag Sbd) .none kV29 dc29 pm29 an29 cd29 ct29), sl29⟩) (c29 : PySem.W.codeIn K cd29 "_law_dealt" = true) (k29 : PySem.W.keepIn K (.ref f29) = true)
    (a30 : PySem.W.nsIn K mainGlobals "_law_is_number" = some (some (.ref f30))) (l30 : K.lookup f30 = some ⟨oc30, od30, .func (PySem.W.fnOf "_law_is_number" "_law_is_number" (zaB Sbg) (zay Sbg) (zag Sbg) .none kV30 dc30 pm30 an30 cd30 ct30), sl30⟩) (c30 : PySem.W.codeIn K cd30 "_law_is_number" = true) (k30 : PySem.W.keepIn K (.ref f30) = true)
    (a31 : PySem.W.nsIn K mainGlobals "_law_is_dealing" = some (some (.ref f31))) (l31 : K.lookup f31 = some ⟨oc31, od31, .func (PySem.W.fnOf "_law_is_dealing" "_law_is_dealing" (zaB Sbh) (zay Sbh) (zag Sbh) .none kV31 dc31 pm31 an31 cd31 ct31), sl31⟩) (c31 : PySem.W.codeIn K cd31 "_law_is_dealing" = true) (k31 : PySem.W.keepIn K (.ref f31) = true)
    (a32 : PySem.W.nsIn K mainGlobals "_law_near" = some (some (.ref f32))) (l32 : K.lookup f32 = some ⟨oc32, od32, .func (PySem.W.fnOf "_law_near" "_law_near" (zaB Sbi) (zay Sbi) (zag Sbi) .none kV32 dc32 pm32 an32 cd32 ct32), sl32⟩) (c32 : PySem.W.codeIn K cd32 "_law_near" = true) (k32 : PySem.W.keepIn K (.ref f32) = true)
    (a33 : PySem.W.nsIn K mainGlobals "_law_cell_at" = some (some (.ref f33))) (l33 : K.lookup f33 = some ⟨oc33, od33, .func (PySem.W.fnOf "_law_cell_at" "_law_cell_at" (zaB Saw) (zay Saw) (zag Saw) .none kV33 dc33 pm33 an33 cd33 ct33), sl33⟩) (c33 : PySem.W.codeIn K cd33 "_law_cell_at" = true) (k33 : PySem.W.keepIn K (.ref f33) = true)
    (a34 : PySem.W.nsIn K mainGlobals "_law_copy" = some (some (.ref f34))) (l34 : K.lookup f34 = some ⟨oc34, od34, .func (PySem.W.fnOf "_law_copy" "_law_copy" (zaB Sbf) (zay Sbf) (zag Sbf) .none kV34 dc34 pm34 an34 cd34 ct34), sl34⟩) (c34 : PySem.W.codeIn K cd34 "_law_copy" = true) (k34 : PySem.W.keepIn K (.ref f34) = true)
    (a35 : PySem.W.nsIn K mainGlobals "_law_aim" = some (some (.ref f35))) (l35 : K.lookup f35 = some ⟨oc35, od35, .func (PySem.W.fnOf "_law_aim" "_law_aim" (zaB Sbc) (zay Sbc) (zag Sbc) .none kV35 dc35 pm35 an35 cd35 ct35), sl35⟩) (c35 : PySem.W.codeIn K cd35 "_law_aim" = true) (k35 : PySem.W.keepIn K (.ref f35) = true)
    (a36 : PySem.W.nsIn K mainGlobals "_law_wishes" = some (some (.ref f36))) (l36 : K.lookup f36 = some ⟨oc36, od36, .func (PySem.W.fnOf "_law_wishes" "_law_wishes" (zaB Say) (zay Say) (zag Say) .none kV36 dc36 pm36 an36 cd36 ct36), sl36⟩) (c36 : PySem.W.codeIn K cd36 "_law_wishes" = true) (k36 : PySem.W.keepIn K (.ref f36) = true)
    (a37 : PySem.W.nsIn K mainGlobals "law" = some (some (.ref f37))) (l37 : K.lookup f37 = some ⟨oc37, od37, .func (PySem.W.fnOf "law" "law" (zaB Sbl) (zay Sbl) (zag Sbl) .none kV37 dc37 pm37 an37 cd37 ct37), sl37⟩) (c37 : PySem.W.codeIn K cd37 "law" = true) (k37 : PySem.W.keepIn K (.ref f37) = true)
    (z0 : PySem.W.nsIn K mainGlobals "all" = some none) (z1 : PySem.W.nsIn K mainGlobals "bool" = some none) (z2 : PySem.W.nsIn K mainGlobals "enumerate" = some none) (z3 : PySem.W.nsIn K mainGlobals "int" = some none) (z4 : PySem.W.nsIn K mainGlobals "isinstance" = some none) (z5 : PySem.W.nsIn K mainGlobals "len" = some none) (z6 : PySem.W.nsIn K mainGlobals "list" = some none) (z7 : PySem.W.nsIn K mainGlobals "max" = some none) (z8 : PySem.W.nsIn K mainGlobals "range" = some none) (z9 : PySem.W.nsIn K mainGlobals "repr" = some none) (z10 : PySem.W.nsIn K mainGlobals "set" = some none) (z11 : PySem.W.nsIn K mainGlobals "sorted" = some none) (z12 : PySem.W.nsIn K mainGlobals "str" = some none) (z13 : PySem.W.nsIn K mainGlobals "sum" = some none) (z14 : PySem.W.nsIn K mainGlobals "tuple" = some none) (z15 : PySem.W.nsIn K mainGlobals "zip" = some none) {tk0 : Tok} (y0 : PySem.W.nsIn K mainGlobals "MOST_ASKERS" = some (some (Value.int 7 tk0))) {tk1 : Tok} (y1 : PySem.W.nsIn K mainGlobals "MOST_COPIES" = some (some (Value.int 7 tk1))) {tk2 : Tok} (y2 : PySem.W.nsIn K mainGlobals "MOST_RANKS" = some (some (Value.int 5 tk2))) {tk3 : Tok} (y3 : PySem.W.nsIn K mainGlobals "MOST_THINGS" = some (some (Value.int 6 tk3))) {ta4 : Addr} {tn4 : Nat} {tk4_0 tk4_1 tk4_2 : Tok} {td4 : Option Addr} {ts4 : Array (Option Value)} (y4 : PySem.W.nsIn K mainGlobals "ORDERS" = some (some (.ref ta4))) (x4 : K.lookup ta4 = some ⟨.type "tuple", td4, .seq #[Value.str "firsts" tk4_0, Value.str "full" tk4_1, Value.str "lasts" tk4_2] tn4, ts4⟩) :
    ∃ fd : FuncData, (∀ (s : Shared) (v : Value), BindsTo s fd ⟨[v], []⟩ [("_law_script", v)]) /\ ∀ base : Heap, K.In base -> base.Ns mainGlobals mg -> FnOk l.prog w K mg base CX0 11 fa fd ["_law_script"] (spD K 1 F_bl) := by
  have e := hfa.symm.trans (PySem.W.mg_of X G a37)
  cases e
  have T : Txt K mg := ⟨PySem.W.mg_none_of X G z0, PySem.W.mg_none_of X G z1, PySem.W.mg_none_of X G z2, PySem.W.mg_none_of X G z3, PySem.W.mg_none_of X G z4, PySem.W.mg_none_of X G z5, PySem.W.mg_none_of X G z6, PySem.W.mg_none_of X G z7, PySem.W.mg_none_of X G z8, PySem.W.mg_none_of X G z9, PySem.W.mg_none_of X G z10, PySem.W.mg_none_of X G z11, PySem.W.mg_none_of X G z12, PySem.W.mg_none_of X G z13, PySem.W.mg_none_of X G z14, PySem.W.mg_none_of X G z15, ⟨_, PySem.W.mg_of X G y0⟩, ⟨_, PySem.W.mg_of X G y1⟩, ⟨_, PySem.W.mg_of X G y2⟩, ⟨_, PySem.W.mg_of X G y3⟩, ⟨_, _, _, _, PySem.W.mg_of X G y4, x4, rfl, rfl, (show 3 <= sizeLine by decide), .cons ⟨_, rfl⟩ (.cons ⟨_, rfl⟩ (.cons ⟨_, rfl⟩ (.nil)))⟩⟩
  have F0 := zaV (st := Sau) l0 c0 k0
  have b0 := F0.binds (ps := ["one", "other"]) fun _ _ _ _ _ _ us hl => match us, hl with | [_, _], _ => rfl
  have F1 := zaV (st := San) l1 c1 k1
  have b1 := F1.binds (ps := ["order", "one", "other"]) fun _ _ _ _ _ _ us hl => match us, hl with | [_, _, _], _ => rfl
  have F2 := zaV (st := Sal) l2 c2 k2
  have b2 := F2.binds (ps := ["thing"]) fun _ _ _ _ _ _ us hl => match us, hl with | [_], _ => rfl
  have F3 := zaV (st := Sam) l3 c3 k3
  have b3 := F3.binds (ps := ["thing"]) fun _ _ _ _ _ _ us hl => match us, hl with | [_], _ => rfl
  have F4 := zaV (st := Sao) l4 c4 k4
  have b4 := F4.binds (ps := ["order", "one", "other"]) fun _ _ _ _ _ _ us hl => match us, hl with | [_, _, _], _ => rfl
  have F5 := zaV (st := Sas) l5 c5 k5
  have b5 := F5.binds (ps := ["old", "dealing"]) fun _ _ _ _ _ _ us hl => match us, hl with | [_, _], _ => rfl
  have F6 := zaV (st := Saa) l6 c6 k6
  have b6 := F6.binds (ps := ["thing"]) fun _ _ _ _ _ _ us hl => match us, hl with | [_], _ => rfl
  have F7 := zaV (st := Sab) l7 c7 k7
  have b7 := F7.binds (ps := ["thing", "many"]) fun _ _ _ _ _ _ us hl => match us, hl with | [_, _], _ => rfl
  have F8 := zaV (st := Sad) l8 c8 k8
  have b8 := F8.binds (ps := ["thing", "things"]) fun _ _ _ _ _ _ us hl => match us, hl with | [_, _], _ => rfl
  have F9 := zaV (st := Sae) l9 c9 k9
  have b9 := F9.binds (ps := ["thing", "things"]) fun _ _ _ _ _ _ us hl => match us, hl with | [_, _], _ => rfl
  have F10 := zaV (st := Saf) l10 c10 k10
  have b10 := F10.binds (ps := ["lists", "things"]) fun _ _ _ _ _ _ us hl => match us, hl with | [_, _], _ => rfl
  have F11 := zaV (st := Sac) l11 c11 k11
  have b11 := F11.binds (ps := ["copies"]) fun _ _ _ _ _ _ us hl => match us, hl with | [_], _ => rfl
  have F12 := zaV (st := Sag) l12 c12 k12
  have b12 := F12.binds (ps := ["thing"]) fun _ _ _ _ _ _ us hl => match us, hl with | [_], _ => rfl
  have F13 := zaV (st := Sai) l13 c13 k13
  have b13 := F13.binds (ps := ["wishes"]) fun _ _ _ _ _ _ us hl => match us, hl with | [_], _ => rfl
  have F14 := zaV (st := Sah) l14 c14 k14
  have b14 := F14.binds (ps := ["ranks", "thing"]) fun _ _ _ _ _ _ us hl => match us, hl with | [_, _], _ => rfl
  have F15 := zaV (st := Saj) l15 c15 k15
  have b15 := F15.binds (ps := ["wishes", "dealing"]) fun _ _ _ _ _ _ us hl => match us, hl with | [_, _], _ => rfl
  have F16 := zaV (st := Sak) l16 c16 k16
  have b16 := F16.binds (ps := ["wishes", "dealing"]) fun _ _ _ _ _ _ us hl => match us, hl with | [_, _], _ => rfl
  have F17 := zaV (st := Saq) l17 c17 k17
  have b17 := F17.binds (ps := ["thing", "askers"]) fun _ _ _ _ _ _ us hl => match us, hl with | [_, _], _ => rfl
  have F18 := zaV (st := Sap) l18 c18 k18
  have b18 := F18.binds (ps := ["thing", "askers", "things"]) fun _ _ _ _ _ _ us hl => match us, hl with | [_, _, _], _ => rfl
  have F19 := zaV (st := Sar) l19 c19 k19
  have b19 := F19.binds (ps := ["wishes", "thing"]) fun _ _ _ _ _ _ us hl => match us, hl with | [_, _], _ => rfl
  have F20 := zaV (st := Sat) l20 c20 k20
  have b20 := F20.binds (ps := ["wishes", "aim", "dealing"]) fun _ _ _ _ _ _ us hl => match us, hl with | [_, _, _], _ => rfl
  have F21 := zaV (st := Sav) l21 c21 k21
  have b21 := F21.binds (ps := ["wishes", "aim", "one", "other"]) fun _ _ _ _ _ _ us hl => match us, hl with | [_, _, _, _], _ => rfl
  have F22 := zaV (st := Sbk) l22 c22 k22
  have b22 := F22.binds (ps := ["_law_found", "_law_due"]) fun _ _ _ _ _ _ us hl => match us, hl with | [_, _], _ => rfl
  have F23 := zaV (st := Sba) l23 c23 k23
  have b23 := F23.binds (ps := ["_law_wishes_here"]) fun _ _ _ _ _ _ us hl => match us, hl with | [_], _ => rfl
  have F24 := zaV (st := Saz) l24 c24 k24
  have b24 := F24.binds (ps := ["_law_wishes_here", "_law_asker", "_law_thing"]) fun _ _ _ _ _ _ us hl => match us, hl with | [_, _, _], _ => rfl
  have F25 := zaV (st := Sbe) l25 c25 k25
  have b25 := F25.binds (ps := ["_law_wishes_here", "_law_dealing"]) fun _ _ _ _ _ _ us hl => match us, hl with | [_, _], _ => rfl
  have F26 := zaV (st := Sbj) l26 c26 k26
  have b26 := F26.binds (ps := ["_law_wishes_here", "_law_aim_here", "_law_dealing"]) fun _ _ _ _ _ _ us hl => match us, hl with | [_, _, _], _ => rfl
  have F27 := zaV (st := Sbb) l27 c27 k27
  have b27 := F27.binds (ps := ["_law_wishes_here", "_law_asker"]) fun _ _ _ _ _ _ us hl => match us, hl with | [_, _], _ => rfl
  have F28 := zaV (st := Sax) l28 c28 k28
  have b28 := F28.binds (ps := ["_law_cell", "_law_salt", "_law_sizes"]) fun _ _ _ _ _ _ us hl => match us, hl with | [_, _, _], _ => rfl
  have F29 := zaV (st := Sbd) l29 c29 k29
  have b29 := F29.binds (ps := ["_law_wishes_here", "_law_cell", "_law_salt"]) fun _ _ _ _ _ _ us hl => match us, hl with | [_, _, _], _ => rfl
  have F30 := zaV (st := Sbg) l30 c30 k30
  have b30 := F30.binds (ps := ["_law_thing"]) fun _ _ _ _ _ _ us hl => match us, hl with | [_], _ => rfl
  have F31 := zaV (st := Sbh) l31 c31 k31
  have b31 := F31.binds (ps := ["_law_wishes_here", "_law_thing"]) fun _ _ _ _ _ _ us hl => match us, hl with | [_, _], _ => rfl
  have F32 := zaV (st := Sbi) l32 c32 k32
  have b32 := F32.binds (ps := ["_law_wishes_here", "_law_dealing", "_law_cell", "_law_salt"]) fun _ _ _ _ _ _ us hl => match us, hl with | [_, _, _, _], _ => rfl
  have F33 := zaV (st := Saw) l33 c33 k33
  have b33 := F33.binds (ps := ["_law_script", "_law_k"]) fun _ _ _ _ _ _ us hl => match us, hl with | [_, _], _ => rfl
  have F34 := zaV (st := Sbf) l34 c34 k34
  have b34 := F34.binds (ps := ["_law_wishes_here"]) fun _ _ _ _ _ _ us hl => match us, hl with | [_], _ => rfl
  have F35 := zaV (st := Sbc) l35 c35 k35
  have b35 := F35.binds (ps := ["_law_wishes_here", "_law_cell", "_law_salt"]) fun _ _ _ _ _ _ us hl => match us, hl with | [_, _, _], _ => rfl
  have F36 := zaV (st := Say) l36 c36 k36
  have b36 := F36.binds (ps := ["_law_script", "_law_at", "_law_most_things", "_law_most_askers", "_law_most_ranks"]) fun _ _ _ _ _ _ us hl => match us, hl with | [_, _, _, _, _], _ => rfl
  have F37 := zaV (st := Sbl) l37 c37 k37
  refine ⟨PySem.W.fnOf "law" "law" (zaB Sbl) (zay Sbl) (zag Sbl) .none kV37 dc37 pm37 an37 cd37 ct37, fun s v => .of_eq rfl, fun base _ _ => ?_⟩
  have d_au : Def l.prog w K mg base "is_better_by_turns" 1 2 F_au := Def.mk (PySem.W.mg_of X G a0) F0 b0 (Kau T  F0)
  have d_an : Def l.prog w K mg base "gaps" 1 3 F_an := Def.mk (PySem.W.mg_of X G a1) F1 b1 (Kan T  F1)
  have d_al : Def l.prog w K mg base "is_order" 1 1 F_al := Def.mk (PySem.W.mg_of X G a2) F2 b2 (Kal T  F2)
  have d_am : Def l.prog w K mg base "look_at_order" 2 1 F_am := Def.mk (PySem.W.mg_of X G a3) F3 b3 (Kam T d_al F3)
  have d_ao : Def l.prog w K mg base "beside_by" 3 3 F_ao := Def.mk (PySem.W.mg_of X G a4) F4 b4 (Kao T d_an d_am F4)
  have d_as : Def l.prog w K mg base "how_many_kept" 1 2 F_as := Def.mk (PySem.W.mg_of X G a5) F5 b5 (Kas T  F5)
  have d_aa : Def l.prog w K mg base "is_whole" 1 1 F_aa := Def.mk (PySem.W.mg_of X G a6) F6 b6 (Kaa T  F6)
  have d_ab : Def l.prog w K mg base "is_number_below" 2 2 F_ab := Def.mk (PySem.W.mg_of X G a7) F7 b7 (Kab T d_aa F7)
  have d_ad : Def l.prog w K mg base "is_rank" 3 2 F_ad := Def.mk (PySem.W.mg_of X G a8) F8 b8 (Kad T d_ab F8)
  have d_ae : Def l.prog w K mg base "is_asker_list" 4 2 F_ae := Def.mk (PySem.W.mg_of X G a9) F9 b9 (Kae T d_ad F9)
  have d_af : Def l.prog w K mg base "look_at_lists" 5 2 F_af := Def.mk (PySem.W.mg_of X G a10) F10 b10 (Kaf T d_ae F10)
  have d_ac : Def l.prog w K mg base "look_at_copies" 3 1 F_ac := Def.mk (PySem.W.mg_of X G a11) F11 b11 (Kac T d_ab F11)
  have d_ag : Def l.prog w K mg base "look_at_wishes" 6 1 F_ag := Def.mk (PySem.W.mg_of X G a12) F12 b12 (Kag T d_af d_ac F12)
  have d_ai : Def l.prog w K mg base "longest" 7 1 F_ai := Def.mk (PySem.W.mg_of X G a13) F13 b13 (Kai T d_ag F13)
  have d_ah : Def l.prog w K mg base "rank_in" 1 2 F_ah := Def.mk (PySem.W.mg_of X G a14) F14 b14 (Kah T  F14)
  have d_aj : Def l.prog w K mg base "ranks_got" 7 2 F_aj := Def.mk (PySem.W.mg_of X G a15) F15 b15 (Kaj T d_ah d_ag F15)
  have d_ak : Def l.prog w K mg base "counts_of" 8 2 F_ak := Def.mk (PySem.W.mg_of X G a16) F16 b16 (Kak T d_ai d_aj F16)
  have d_aq : Def l.prog w K mg base "is_turns" 3 2 F_aq := Def.mk (PySem.W.mg_of X G a17) F17 b17 (Kaq T d_ab F17)
  have d_ap : Def l.prog w K mg base "is_old" 3 3 F_ap := Def.mk (PySem.W.mg_of X G a18) F18 b18 (Kap T d_ab F18)
  have d_ar : Def l.prog w K mg base "look_at_aim" 7 2 F_ar := Def.mk (PySem.W.mg_of X G a19) F19 b19 (Kar T d_aq d_ap d_am d_ag F19)
  have d_at : Def l.prog w K mg base "score_of" 9 3 F_at := Def.mk (PySem.W.mg_of X G a20) F20 b20 (Kat T d_as d_ak d_aj d_ar F20)
  have d_av : Def l.prog w K mg base "is_better" 10 4 F_av := Def.mk (PySem.W.mg_of X G a21) F21 b21 (Kav T d_au d_ao d_at F21)
  have d_bk : Def l.prog w K mg base "_law_is" 1 2 F_bk := Def.mk (PySem.W.mg_of X G a22) F22 b22 (Kbk T  F22)
  have d_ba : Def l.prog w K mg base "_law_longest" 1 1 F_ba := Def.mk (PySem.W.mg_of X G a23) F23 b23 (Kba T  F23)
  have d_az : Def l.prog w K mg base "_law_rank" 1 3 F_az := Def.mk (PySem.W.mg_of X G a24) F24 b24 (Kaz T  F24)
  have d_be : Def l.prog w K mg base "_law_counts" 2 2 F_be := Def.mk (PySem.W.mg_of X G a25) F25 b25 (Kbe T d_az d_ba F25)
  have d_bj : Def l.prog w K mg base "_law_key" 3 3 F_bj := Def.mk (PySem.W.mg_of X G a26) F26 b26 (Kbj T d_ba d_az d_be F26)
  have d_bb : Def l.prog w K mg base "_law_wished" 1 2 F_bb := Def.mk (PySem.W.mg_of X G a27) F27 b27 (Kbb T  F27)
  have d_ax : Def l.prog w K mg base "_law_numbers" 1 3 F_ax := Def.mk (PySem.W.mg_of X G a28) F28 b28 (Kax T  F28)
  have d_bd : Def l.prog w K mg base "_law_dealt" 2 3 F_bd := Def.mk (PySem.W.mg_of X G a29) F29 b29 (Kbd T d_bb d_ax F29)
  have d_bg : Def l.prog w K mg base "_law_is_number" 1 1 F_bg := Def.mk (PySem.W.mg_of X G a30) F30 b30 (Kbg T  F30)
  have d_bh : Def l.prog w K mg base "_law_is_dealing" 2 2 F_bh := Def.mk (PySem.W.mg_of X G a31) F31 b31 (Kbh T d_bg d_bb F31)
  have d_bi : Def l.prog w K mg base "_law_near" 3 4 F_bi := Def.mk (PySem.W.mg_of X G a32) F32 b32 (Kbi T d_bh d_bb d_ax F32)
  have d_aw : Def l.prog w K mg base "_law_cell_at" 1 2 F_aw := Def.mk (PySem.W.mg_of X G a33) F33 b33 (Kaw T  F33)
  have d_bf : Def l.prog w K mg base "_law_copy" 1 1 F_bf := Def.mk (PySem.W.mg_of X G a34) F34 b34 (Kbf T  F34)
  have d_bc : Def l.prog w K mg base "_law_aim" 2 3 F_bc := Def.mk (PySem.W.mg_of X G a35) F35 b35 (Kbc T d_ax F35)
  have d_ay : Def l.prog w K mg base "_law_wishes" 2 5 F_ay := Def.mk (PySem.W.mg_of X G a36) F36 b36 (Kay T d_ax d_aw F36)
  exact Kbl T d_av d_bk d_bj d_bd d_bi d_aw d_bf d_bc d_ay F37
theorem walk {l : PySem.W.OpenLaw} {q : Program} {loose : List Str} {XP : (Str -> Option Value) -> Heap -> Prop} {YP : World -> Heap -> Prop} {d : DefRec} {K : Params -> PySem.W.Frag} (hn : l.most = some 63) (hdf : d.params.defaults = [])
    (hY : ∀ (w : World) (h : Heap), YP w h -> (K w.params).In h)
    (F : ∀ (w : World) (mg : Str -> Option Value) (fa : Addr) (h : Heap), (K w.params).In h -> h.Ns mainGlobals mg -> mg d.name = some (.ref fa) ->
      ∃ fd : FuncData, (∀ (s : Shared) (u : Value), BindsTo s fd ⟨[u], []⟩ [("_law_script", u)]) /\ ∀ base : Heap, (K w.params).In base -> base.Ns mainGlobals mg -> FnOk l.prog w (K w.params) mg base CX0 11 fa fd ["_law_script"] (spD (K w.params) 1 F_bl))
    (hlaw : ∀ ns : List Int, ns.length <= 63 -> F_bl [.list (ns.map PyData.int)] = some (.bool true)) :
    PySem.W.WalkO q loose XP YP l.row.toRowW d [] (fun f vs => PySem.call f vs) :=
  L2.zmf (n := 63) (k := 11) (x := "_law_script") (CX := fun _ => CX0) (sp := fun w => spD (K w.params) 1 F_bl) hn (by decide) hdf ⟨rfl, by decide, by decide, rfl⟩ hY F (fun _ _ a ns hl _ hS => zn5 hS (hlaw ns hl)) fun _ _ _ _ _ z => z
end W
namespace W
open PySem PySem.Spec L2 DL
open PyProof.Rows hiding St
theorem asm {α : Type} {a b : α} (h : a = b) : a = b := h
theorem zpd {i : Nat} {x : Option Sl} {ρ ρ' : DEnv} (h : ρ.set i x = ρ') : ρ.set i x = ρ' := h
theorem zpe {i : Nat} {ρ : DEnv} {x : Option (Option Sl)} (h : ρ[i]? = x) : ρ[i]? = x := h
theorem asmN {ds : List D} {n : Nat} (h : ds.length < n) : ds.length < n := h
theorem zq1 {ds : List D} {n : Nat} (h : ds.length <= n) : ds.length <= n := h
theorem zpf {i : Nat} {ρ : DEnv} (h : i < ρ.length) : i < ρ.length := h
theorem zpg {f : M D} {ρ ρ1 : DEnv} {d : D} {t : Bool} (h : f ρ = .ok d ρ1) (ht : (!isNon d) = t) : mMap (fun d => !isNon d) f ρ = .ok t ρ1 := by
  subst ht; exact zau (k := fun d => !isNon d) h
local macro_rules | `(tactic| walk_at "set") => `(tactic| first | (simp only [List.set_cons_succ, List.set_cons_zero]; done) | (simp only [List.set_cons_succ, List.set_cons_zero]; rfl) | rfl)
local macro_rules | `(tactic| walk_at "side") => `(tactic| first | assumption | omega | (simp only [List.length_cons, List.length_nil, List.length_map, List.length_append]; omega))
local macro_rules | `(tactic| walk_at "st1") => `(tactic| first
  | with_reducible apply zaZ
  | with_reducible apply zbn
  | ((with_reducible apply zdm); exact rfl)
  | with_reducible apply zdQ
  | with_reducible apply zel
  | with_reducible apply zcE
  | with_reducible exact st_nx)
local macro_rules | `(tactic| walk_at "ev1") => `(tactic| first
  | with_reducible exact zae
  | with_reducible exact zak
  | ((with_reducible apply zad); exact rfl)
  | with_reducible apply zar
  | with_reducible apply zab
  | with_reducible apply zeP
  | with_reducible apply zfW
  | ((with_reducible apply ev_listO); exact rfl)
  | with_reducible apply za0
  | ((with_reducible apply zaN); exact rfl)
  | ((with_reducible apply zfc); exact rfl)
  | with_reducible apply ev_join
  | with_reducible apply zau
  | ((with_reducible apply zbo); exact rfl)
  | with_reducible apply zbj
  | with_reducible apply zdl
  | ((with_reducible apply za5); exact rfl)
  | ((with_reducible apply zjk); exact rfl)
  | with_reducible apply zfa
  | with_reducible apply zgP
  | with_reducible apply ev_rng3
  | with_reducible apply zff
  | with_reducible apply zd0
  | with_reducible apply ev_index
  | with_reducible apply zcT
  | with_reducible apply ev_iter
  | with_reducible apply ev_sl
  | with_reducible apply zbZ
  | with_reducible apply zb9
  | with_reducible apply zbu
  | with_reducible apply zeN
  | with_reducible apply zbx
  | with_reducible apply zcC
  | ((with_reducible apply zbi); exact rfl; walk_at "set")
  | ((with_reducible apply zeO); exact rfl)
  | with_reducible apply zaw
  | ((with_reducible apply asm); (with_reducible assumption))
  | with_reducible exact za6
  | with_reducible exact zcU
  | with_reducible exact zok
  | with_reducible exact zmx
  | with_reducible exact vop_min
  | with_reducible exact zaT
  | with_reducible exact vop_lenT
  | with_reducible exact vop_sl
  | with_reducible exact zcX
  | with_reducible exact zbI
  | with_reducible exact vop_itT
  | with_reducible exact vop_itS
  | with_reducible exact vop_inS
  | with_reducible exact vop_ninS
  | with_reducible exact vop_iter
  | with_reducible exact zcj
  | with_reducible exact zen
  | with_reducible exact zcV
  | with_reducible exact vop_sumI
  | with_reducible exact vop_neT
  | with_reducible exact vop_eqT
  | with_reducible exact zcD
  | ((with_reducible apply zdb); walk_at "side")
  | ((with_reducible apply zmv) <;> walk_at "side")
  | ((with_reducible apply zkQ) <;> walk_at "side")
  | ((with_reducible apply zfb) <;> walk_at "side")
  | ((with_reducible apply zbO); walk_at "side")
  | ((with_reducible apply zpf); exact of_decide_eq_true rfl)
  | ((with_reducible apply zap); walk_at "st1")
  | ((with_reducible apply za7); walk_at "st1")
  | walk_at "st1"
  | ((with_reducible apply zpe); exact rfl)
  | ((with_reducible apply asmN); walk_at "side")
  | ((with_reducible apply zq1); walk_at "side")
  | with_reducible apply zaI
  | ((with_reducible apply zpd); walk_at "set")
  | ((with_reducible apply zpf); exact of_decide_eq_true rfl)
  | with_reducible apply tg_N
  | with_reducible exact tg_0
  | with_reducible apply tg_C
  | ((with_reducible apply tg_T); exact rfl)
  | ((with_reducible apply asmE); exact rfl))
local macro_rules | `(tactic| walk_at "ev") => `(tactic| repeat' walk_at "ev1")
theorem zeU {sizes found : List Int} {z d : Int} (h : ∀ (j : Nat) d z, found[j]? = some d -> sizes[j]? = some z -> 0 <= d /\ d < z) (hz : sizes[found.length]? = some z) (h0 : 0 <= d /\ d < z) :
    ∀ (j : Nat) d' z', (found ++ [d])[j]? = some d' -> sizes[j]? = some z' -> 0 <= d' /\ d' < z' := by
  intro j d' z' e1 e2
  by_cases hj : j < found.length
  · rw [List.getElem?_append_left hj] at e1
    exact h j d' z' e1 e2
  · by_cases hj2 : j = found.length
    · subst hj2
      rw [hz] at e2
      cases e2
      rw [List.getElem?_append_right (Nat.le_refl _), Nat.sub_self, List.getElem?_cons_zero] at e1
      cases e1
      exact h0
    · rw [List.getElem?_eq_none (by rw [List.length_append, List.length_singleton]; omega)] at e1
      cases e1
def inv (c s : Int) (sizes : List Int) (n : Int) (i : Nat) (ρ : DEnv) : Prop := ∃ left found x6 x7, ρ = [some (Sl.pub (.int c)), some (.pub (.int s)), some (.pub (.list (sizes.map .int))), some (.pub (.int n)), some (.pub (.int left)), some (.own ((found : List Int).map .int)), x6, x7] /\
  found.length = i /\ ∀ (j : Nat) d z, found[j]? = some d -> sizes[j]? = some z -> 0 <= d /\ d < z
theorem zjT {c s n : Int} {sizes : List Int} (hs : ∀ x ∈ sizes, 0 < x /\ x < 18446744073709551616) (hl : sizes.length <= 1000) {i : Nat} {d : D} {ρ : DEnv} {Q : Out -> Prop} (hi : (zbE 0 sizes.length)[i]? = some d) (h : inv c s sizes n i ρ) :
    ∃ ρ2, gN 6 d ρ = some ρ2 /\ Ho zgW ρ2 (zfV (inv c s sizes n (i + 1)) Q) := by
  obtain ⟨left, found, x6, x7, rfl, hf, hfd⟩ := h
  obtain ⟨rfl, hlt⟩ := zcq hi
  obtain ⟨z, hz⟩ : ∃ z, sizes[i]? = some z := ⟨sizes[i]'(by omega), List.getElem?_eq_getElem _⟩
  obtain ⟨z1, z2⟩ := hs z (List.mem_of_getElem? hz)
  have hix : oIx (.list (sizes.map PyData.int)) (.int (0 + (i : Int))) = some (.int z) := by
    rw [Int.zero_add]
    exact zaO (by rw [List.getElem?_map, hz]; rfl)
  generalize hk : (0 : Int) + (i : Int) = k at hix ⊢
  have hk1 : k < 18446744073709551616 := by omega
  have hk2 : -18446744073709551616 < k := by omega
  have hlen : (found.map PyData.int).length < 1000000 := by rw [List.length_map]; omega
  have pw : oPow (.int 10) (.int 18) = some (.int 1000000000000000000) := by rw [zmw (by decide)]; rfl
  refine ⟨_, tg_N (of_decide_eq_true rfl) (by walk_at "set"), ?_⟩
  unfold zgW
  apply zaU
  case h1 =>
    apply zoh
    case h1 => walk_at "ev"
    case h2 => intro _; walk_at "ev"
  case h2 =>
    intro _
    walk_at "ev"
    refine za8 ?_
    exact ⟨_, found ++ [left % z], _, _, by rw [List.map_append]; rfl, by rw [List.length_append, hf]; rfl, zeU hfd (by rw [hf]; exact hz) ⟨Int.emod_nonneg _ (by omega), Int.emod_lt_of_pos _ z1⟩⟩
  case h3 =>
    intro _
    walk_at "ev"
    refine za8 ?_
    exact ⟨_, found ++ [_ % z], _, _, by rw [List.map_append]; rfl, by rw [List.length_append, hf]; rfl, zeU hfd (by rw [hf]; exact hz) ⟨Int.emod_nonneg _ (by omega), Int.emod_lt_of_pos _ z1⟩⟩
theorem zb3 (c s : Int) {sizes : List Int} (hs : ∀ x ∈ sizes, 0 < x /\ x < 18446744073709551616) (hl : sizes.length <= 1000) :
    ∃ r, F_ax [.int c, .int s, .list (sizes.map PyData.int)] = some r /\ ∃ ds : List Int, r = .list (ds.map .int) /\ ds.length = sizes.length /\ ∀ (j : Nat) d z, ds[j]? = some d -> sizes[j]? = some z -> 0 <= d /\ d < z := by
  refine zek (ρ := [some (.pub (.int c)), some (.pub (.int s)), some (.pub (.list (sizes.map PyData.int))), none, none, none, none, none]) rfl ?_
  unfold g_ax
  walk_at "ev"
  apply zaG
  apply zb1 (ds := zbE 0 sizes.length) (inv c s sizes (if -1 - c > c then -1 - c else c))
  case h1 =>
    walk_at "ev"
    rw [List.length_map]
    exact zd2 (by omega) (by omega)
  case h0 => exact ⟨_, [], none, none, rfl, rfl, fun j d z e => by cases e⟩
  case hst => exact fun i d ρ e h => zjT hs hl e h
  case hend =>
    rintro ρ ⟨left, found, x6, x7, rfl, hf, hfd⟩
    refine zat ?_
    walk_at "ev"
    rw [zbs] at hf
    exact ⟨_, rfl, found, rfl, by omega, hfd⟩
mutual
theorem zfm : ∀ (d : PyData), d.canLay0 = true -> PyData.eqv d d = true
  | .none, _ => rfl
  | .bool b, _ => by cases b <;> rfl
  | .int i, _ => by simp [PyData.eqv]
  | .str s, _ => by simp [PyData.eqv]
  | .list xs, h => eqvAll_refl xs h
  | .tuple xs, h => eqvAll_refl xs h
  | .dict _, h => by cases h
theorem eqvAll_refl : ∀ (xs : List PyData), PyData.canLayAll0 xs = true -> PyData.eqvAll xs xs = true
  | [], _ => rfl
  | x :: r, h => by
    have h : (PyData.canLay0 x && PyData.canLayAll0 r) = true := h
    rw [Bool.and_eq_true] at h
    show (PyData.eqv x x && PyData.eqvAll r r) = true
    rw [zfm x h.1, eqvAll_refl r h.2]; rfl
end
theorem zb4 : ∀ {xs : List D}, (∀ x ∈ xs, PyData.canLay0 x = true) -> PyData.canLayAll0 xs = true
  | [], _ => rfl
  | x :: r, h => by
    show (PyData.canLay0 x && PyData.canLayAll0 r) = true
    rw [h x List.mem_cons_self, zb4 fun y hy => h y (List.mem_cons_of_mem _ hy)]; rfl
theorem zb5 {n : Nat} : ∀ {xs : List D}, (∀ x ∈ xs, PyData.depth x <= n) -> PyData.depthAll xs <= n
  | [], _ => by simp [PyData.depthAll]
  | x :: r, h => by
    have h1 := h x List.mem_cons_self
    have h2 := zb5 (n := n) fun y hy => h y (List.mem_cons_of_mem _ hy)
    simp only [PyData.depthAll]
    omega
def zby (r : List Int) : D := .list (r.map PyData.int)
def zaE (rs : List (List Int)) : D := .list (rs.map zby)
def zaA (cs : List Int) (ls : List (List (List Int))) : D := .tuple [.list (cs.map PyData.int), .list (ls.map zaE)]
structure zb6 (n : Nat) (rs : List (List Int)) : Prop where
  few : rs.length <= 5
  some : ∀ r ∈ rs, r ≠ []
  there : ∀ r ∈ rs, ∀ t ∈ r, 0 <= t /\ t < n
  once : rs.flatten.Nodup
structure Good (cs : List Int) (ls : List (List (List Int))) : Prop where
  c1 : 1 <= cs.length
  c6 : cs.length <= 6
  c7 : ∀ c ∈ cs, 0 <= c /\ c < 8
  l1 : 1 <= ls.length
  l7 : ls.length <= 7
  rk : ∀ rs ∈ ls, zb6 cs.length rs
theorem zd3 (r : List Int) : (zby r).canLay0 = true := zb4 fun x hx => by obtain ⟨y, _, rfl⟩ := List.mem_map.mp hx; rfl
theorem zjU (rs : List (List Int)) : (zaE rs).canLay0 = true := zb4 fun x hx => by obtain ⟨y, _, rfl⟩ := List.mem_map.mp hx; exact zd3 y
theorem zln (cs : List Int) (ls : List (List (List Int))) : (zaA cs ls).canLay0 = true := zb4 fun x hx => by
  have hx : x = .list (cs.map PyData.int) ∨ x = .list (ls.map zaE) := by simpa using hx
  rcases hx with rfl | rfl
  · exact zd3 cs
  · exact zb4 fun x hx => by obtain ⟨y, _, rfl⟩ := List.mem_map.mp hx; exact zjU y
theorem zm5 (i : Int) : (PyData.int i).depth <= 1 := by simp [PyData.depth]
theorem zeq {n : Nat} {xs : List D} (h : PyData.depthAll xs <= n) : (PyData.list xs).depth <= n + 1 := by simp only [PyData.depth]; omega
theorem zfn (r : List Int) : (zby r).depth <= 2 := zeq (zb5 fun x hx => by obtain ⟨y, _, rfl⟩ := List.mem_map.mp hx; exact zm5 y)
theorem zjV (rs : List (List Int)) : (zaE rs).depth <= 3 := zeq (zb5 fun x hx => by obtain ⟨y, _, rfl⟩ := List.mem_map.mp hx; exact zfn y)
theorem zlo (cs : List Int) (ls : List (List (List Int))) : (zaA cs ls).depth <= 60 := by
  have h : PyData.depthAll [.list (cs.map PyData.int), .list (ls.map zaE)] <= 4 := zb5 fun x hx => by
    have hx : x = .list (cs.map PyData.int) ∨ x = .list (ls.map zaE) := by simpa using hx
    rcases hx with rfl | rfl
    · have := zfn cs; unfold zby at this; omega
    · exact zeq (zb5 fun x hx => by obtain ⟨y, _, rfl⟩ := List.mem_map.mp hx; exact zjV y)
  unfold zaA
  simp only [PyData.depth] at h ⊢
  omega
theorem zjW (i : Int) : F_aa [.int i] = some (.bool true) := by
  refine za9 (ρ := [some (.pub (.int i))]) rfl ?_
  unfold g_aa
  exact zaI (zdD (zau (zad rfl)) (fun _ => zjm (zau (zad rfl)))) rfl
theorem zds {i m : Int} (h0 : 0 <= i) (h1 : i < m) : F_ab [.int i, .int m] = some (.bool true) := by
  refine za9 (ρ := [some (.pub (.int i)), some (.pub (.int m))]) rfl ?_
  unfold g_ab
  have hb : (decide (0 <= i) && decide (i < m)) = true := by simp [h0, h1]
  refine zaI (zdD (t := true) (u := true) (zaw (zab (zad rfl) zak) rfl (zjW i)) (fun _ => ?_)) rfl
  rw [← hb]
  exact zau (zd1 zae (zad rfl) rfl (fun _ => zad rfl) (fun _ => rfl))
theorem zdt {α : Type} (l : List α) : oAll [.list (l.map fun _ => .bool true)] = some (.bool true) := by
  have : (l.map fun _ => PyData.bool true) = (l.map fun _ => true).map PyData.bool := by rw [List.map_map]; rfl
  rw [this, zmz]
  congr 2
  rw [List.all_map]
  induction l with
  | nil => rfl
  | cons x r ih => simpa using ih
theorem zir {r : List Int} {n : Int} (hne : r ≠ []) (hl : r.length <= 1000) (h : ∀ t ∈ r, 0 <= t /\ t < n) : F_ad [zby r, .int n] = some (.bool true) := by
  refine za9 (ρ := [some (.pub (zby r)), some (.pub (.int n))]) rfl ?_
  unfold g_ad
  apply zaG
  have hlen : oLen [zby r] = some (.int r.length) := by unfold zby; rw [zaT, List.length_map]
  have hp : 0 < r.length := List.length_pos_iff.mpr hne
  apply zaU
  case h1 => exact zc7 (ρ1 := [some (.pub (zby r)), some (.pub (.int n))]) (zck (zad rfl) rfl) (zar (za5 rfl hlen) zae zcD)
  case h2 => intro hh; have : (r.length : Int) = 0 := by simpa using hh
             omega
  case h3 =>
    intro _
    refine zbc (zat ?_)
    have hc : za4 (gN 2) (zah true) (dFun 2 F_ab (zaf (dVar 2) (zaf (dVar 1) (mNil)))) (r.map PyData.int) (zaL [some (.pub (zby r)), some (.pub (.int n))] ++ List.replicate 1 none) [] = some (r.map fun _ => .bool true) := by
      rw [zb2 (fun _ => true) (fun _ => .bool true) (fun ρ => ∃ x, ρ = [some (.pub (zby r)), some (.pub (.int n)), x])]
      · rw [List.filter_eq_self.mpr (fun _ _ => rfl), List.nil_append, List.map_map]; rfl
      · rintro d hm ρ ⟨x, rfl⟩
        obtain ⟨t, ht, rfl⟩ := List.mem_map.mp hm
        exact ⟨_, tg_N (of_decide_eq_true rfl) rfl, rfl, fun _ => zaw (zab (zad rfl) (zab (zad rfl) zak)) rfl (zds (h t ht).1 (h t ht).2), _, rfl⟩
      · exact ⟨none, rfl⟩
      · rw [List.length_map, List.length_nil]; omega
    exact zaI (zbj (zab (zau (zbv (za0 (zad rfl) rfl) hc)) zak) (zdt r)) rfl
theorem zf9 {a b c x3 : Option Sl} (ha : zeD a = a) (hb : zeD b = b) (hc : zeD c = c) (hx : zeD x3 = x3) : ∀ (ds es : List D) (x4 : Option Sl), es.length + ds.length <= 1000000 ->
    ∃ y, zcS (gN 4) (zah true) (dVar 4) ds [a, b, c, x3, x4] es = some (es ++ ds, [a, b, c, x3, y])
  | [], es, x4, _ => ⟨x4, by rw [zcS, List.append_nil]⟩
  | d :: r, es, x4, h => by
    rw [List.length_cons] at h
    obtain ⟨y, e⟩ := zf9 ha hb hc hx r (es ++ [d]) (some (.pub d)) (by rw [List.length_append, List.length_singleton]; omega)
    refine ⟨y, ?_⟩
    rw [zcS]
    have h1 : gN 4 d [a, b, c, x3, x4] = some [a, b, c, x3, some (.pub d)] := tg_N (of_decide_eq_true rfl) rfl
    rw [h1]
    dsimp only [zah]
    rw [if_pos rfl]
    have h2 : dVar 4 [a, b, c, x3, some (.pub d)] = .ok d [a, b, c, x3, some (.pub d)] := zad rfl
    rw [h2]
    dsimp only
    rw [if_pos (by omega)]
    have h3 : zaL [a, b, c, x3, some (.pub d)] = [a, b, c, x3, some (.pub d)] := by
      unfold zaL
      simp only [List.map_cons, List.map_nil, ha, hb, hc, hx]
      rfl
    rw [h3, e, List.append_assoc]; rfl
theorem zer {a b : D} : ∀ (rs : List (List Int)) (es : List D) (x3 x4 : Option Sl), es.length + rs.flatten.length <= 1000000 ->
    zci (gN 3) (zah true) (za3 (dVar 3)) (gN 4) (zah true) (dVar 4) (rs.map zby) [some (.pub a), some (.pub b), none, x3, x4] es = some (es ++ rs.flatten.map PyData.int)
  | [], es, _, _, _ => by rw [List.map_nil, zci]; simp
  | r :: rs, es, x3, x4, h => by
    rw [List.flatten_cons, List.length_append] at h
    rw [List.map_cons, zci]
    have h1 : gN 3 (zby r) [some (.pub a), some (.pub b), none, x3, x4] = some [some (.pub a), some (.pub b), none, some (.pub (zby r)), x4] := tg_N (of_decide_eq_true rfl) rfl
    rw [h1]
    dsimp only [zah]
    rw [if_pos rfl]
    have h2 : za3 (dVar 3) [some (.pub a), some (.pub b), none, some (.pub (zby r)), x4] = .ok (r.map PyData.int) [some (.pub a), some (.pub b), none, some (.pub (zby r)), x4] := za0 (zad rfl) rfl
    rw [h2]
    dsimp only
    have h3 : zaL [some (.pub a), some (.pub b), none, some (.pub (zby r)), x4] = [some (.pub a), some (.pub b), none, some (.pub (zby r)), zeD x4] := rfl
    rw [h3]
    obtain ⟨y, e⟩ := zf9 (a := some (.pub a)) (b := some (.pub b)) (c := none) (x3 := some (.pub (zby r))) rfl rfl rfl rfl (r.map PyData.int) es (zeD x4) (by rw [List.length_map]; omega)
    rw [e]
    dsimp only
    have ih := zer (a := a) (b := b) rs (es ++ r.map PyData.int) (some (.pub (zby r))) y (by rw [List.length_append, List.length_map]; omega)
    refine Eq.trans ih ?_
    rw [List.flatten_cons, List.map_append, List.append_assoc]
theorem zeV {ns : List Int} (h : ns.Nodup) : zeg ns = ns.length := by
  unfold zeg
  have : ∀ i, i <= ns.length -> (PyProof.Rows.firstMet (fun i => ns.getD i 0) i).length = i := by
    intro i
    induction i with
    | zero => intro _; rfl
    | succ i ih =>
      intro hi
      rw [PyProof.Rows.firstMet_succ]
      have hany : (PyProof.Rows.firstMet (fun i => ns.getD i 0) i).any (· == ns.getD i 0) = false := by
        rw [PyProof.Rows.firstMet_any, List.any_eq_false]
        intro x hx
        obtain ⟨j, hj, rfl⟩ := List.mem_map.mp hx
        have hj := List.mem_range.mp hj
        intro e
        have e : ns.getD j 0 = ns.getD i 0 := by simpa using e
        have l1 : j < ns.length := by omega
        have l2 : i < ns.length := by omega
        simp only [List.getD, List.getElem?_eq_getElem l1, List.getElem?_eq_getElem l2, Option.getD_some] at e
        exact absurd ((List.getElem_inj h).mp e) (by omega)
      unfold PyProof.Rows.step_dedup
      rw [hany]
      rw [if_neg (by decide), List.length_append, ih (by omega)]; rfl
  exact this ns.length (Nat.le_refl _)
theorem zg1 {rs : List (List Int)} {n : Nat} (g : zb6 n rs) (hn : n <= 6) (hf : rs.flatten.length <= 1000) : F_ae [zaE rs, .int n] = some (.bool true) := by
  refine za9 (ρ := [some (.pub (zaE rs)), some (.pub (.int n)), none]) rfl ?_
  unfold g_ae
  have hlen : oLen [zaE rs] = some (.int rs.length) := by unfold zaE; rw [zaT, List.length_map]
  have h5 := g.few
  have hrl : ∀ r ∈ rs, r.length <= 1000 := fun r hr => Nat.le_trans (List.Sublist.length_le (List.sublist_flatten_of_mem hr)) hf
  apply zaG
  apply zaU
  case h1 => exact zc7 (ρ1 := [some (.pub (zaE rs)), some (.pub (.int n)), none]) (zck (zad rfl) rfl) (zar (za5 rfl hlen) zae rfl)
  case h2 => intro hh; have : (5 : Int) < (rs.length : Int) := by simpa using hh
             omega
  case h3 =>
    intro _
    refine zbc (zat ?_)
    have hc : za4 (gN 3) (zah true) (dFun 2 F_ad (zaf (dVar 3) (zaf (dVar 1) (mNil)))) (rs.map zby) (zaL [some (.pub (zaE rs)), some (.pub (.int n)), none] ++ List.replicate 1 none) [] = some (rs.map fun _ => .bool true) := by
      rw [zb2 (fun _ => true) (fun _ => .bool true) (fun ρ => ∃ x, ρ = [some (.pub (zaE rs)), some (.pub (.int n)), none, x])]
      · rw [List.filter_eq_self.mpr (fun _ _ => rfl), List.nil_append, List.map_map]; rfl
      · rintro d hm ρ ⟨x, rfl⟩
        obtain ⟨r, hr, rfl⟩ := List.mem_map.mp hm
        exact ⟨_, tg_N (of_decide_eq_true rfl) rfl, rfl, fun _ => zaw (zab (zad rfl) (zab (zad rfl) zak)) rfl (zir (g.some r hr) (hrl r hr) (g.there r hr)), _, rfl⟩
      · exact ⟨none, rfl⟩
      · rw [List.length_map, List.length_nil]; omega
    apply zaG
    apply zaU
    case h1 => exact zb9 (zbu (zbj (zab (zau (zbv (za0 (zad rfl) rfl) hc)) zak) (zdt rs)))
    case h2 => intro hh; cases hh
    case h3 =>
      intro _
      refine zbc (zat ?_)
      have h2 : zef (za3 (dVar 0)) 2 (gN 3) (zah true) (za3 (dVar 3)) (gN 4) (zah true) (dVar 4) [some (.pub (zaE rs)), some (.pub (.int n)), none] = .ok (rs.flatten.map PyData.int) [some (.pub (zaE rs)), some (.pub (.int n)), none] := by
        unfold zef
        have e1 : za3 (dVar 0) [some (.pub (zaE rs)), some (.pub (.int n)), none] = .ok (rs.map zby) [some (.pub (zaE rs)), some (.pub (.int n)), none] := za0 (zad rfl) rfl
        rw [e1]
        dsimp only
        have e2 := zer (a := zaE rs) (b := .int n) rs [] none none (by rw [List.length_nil]; omega)
        have e3 : zci (gN 3) (zah true) (za3 (dVar 3)) (gN 4) (zah true) (dVar 4) (rs.map zby) (zaL [some (.pub (zaE rs)), some (.pub (.int n)), none] ++ List.replicate 2 none) [] = some ([] ++ rs.flatten.map PyData.int) := e2
        rw [e3]
        rfl
      refine zap (zbn h2 (of_decide_eq_true rfl) rfl) ?_
      have hls : zcA [.list (rs.flatten.map PyData.int)] = some (.int rs.flatten.length) := by
        unfold zcA
        dsimp only
        rw [zcc]
        dsimp only
        rw [if_pos (by omega), zeV g.once]
      refine zaI (zau (zar (zbj (zab (zbi rfl rfl) zak) hls) (za5 rfl zaT) zcD)) ?_
      rw [List.length_map]
      simp
theorem zb0 {d : D} : ∀ {xs : List D} {k i : Nat}, (zc4 k xs)[i]? = some d -> ∃ x, xs[i]? = some x /\ d = .tuple [.int ((k + i : Nat) : Int), x]
  | [], k, i, h => by cases h
  | x :: r, k, 0, h => by
    cases h
    exact ⟨x, rfl, rfl⟩
  | x :: r, k, i + 1, h => by
    obtain ⟨y, e, q⟩ := zb0 (xs := r) (k := k + 1) (i := i) h
    exact ⟨y, e, by rw [q]; congr 4; omega⟩
theorem zcI : ∀ (n : Nat) (l : List Int), l.Nodup -> (∀ x ∈ l, 0 <= x /\ x < n) -> l.length <= n
  | 0, [], _, _ => Nat.le_refl _
  | 0, x :: r, _, h => by have := h x List.mem_cons_self; omega
  | n + 1, l, hn, h => by
    by_cases hm : (n : Int) ∈ l
    · have := zcI n (l.erase (n : Int)) (hn.erase _) fun x hx => by
        have h1 := (List.Nodup.mem_erase_iff hn).mp hx
        have h2 := h x h1.2
        have h3 := h1.1
        omega
      rw [List.length_erase_of_mem hm] at this
      omega
    · have := zcI n l hn fun x hx => by
        have h2 := h x hx
        have h3 : x ≠ (n : Int) := fun e => hm (e ▸ hx)
        omega
      omega
theorem zhD {n : Nat} {rs : List (List Int)} (g : zb6 n rs) : rs.flatten.length <= n := zcI n _ g.once fun x hx => by
  obtain ⟨r, hr, hxr⟩ := List.mem_flatten.mp hx
  exact g.there r hr x hxr
theorem zjX {cs : List Int} (h1 : 1 <= cs.length) (h6 : cs.length <= 6) (h : ∀ c ∈ cs, 0 <= c /\ c < 8) : F_ac [.list (cs.map PyData.int)] = some .none := by
  refine zfX (ρ := [some (.pub (.list (cs.map PyData.int))), none, none]) rfl ?_
  unfold g_ac
  have hlen : oLen [.list (cs.map PyData.int)] = some (.int cs.length) := by rw [zaT, List.length_map]
  apply zaG
  apply zaU
  case h1 => exact zc7 (ρ1 := [some (.pub (.list (cs.map PyData.int))), none, none]) (zck (zad rfl) rfl) (zb9 (zd1 zae (za5 rfl hlen) rfl (fun _ => zae) (fun _ => rfl)))
  case h2 =>
    intro hh
    have a1 : (1 : Int) <= (cs.length : Int) := by omega
    have a2 : (cs.length : Int) <= 6 := by omega
    simp [a1, a2] at hh
  case h3 =>
    intro _
    refine zbc (zat ?_)
    apply zb1 (fun _ ρ => ∃ x1 x2, ρ = [some (.pub (.list (cs.map PyData.int))), x1, x2])
    case h1 => exact zcT (zab (zad rfl) zak) zcj
    case h0 => exact ⟨_, _, rfl⟩
    case hst =>
      rintro i d ρ hi ⟨x1, x2, rfl⟩
      obtain ⟨x, hx, rfl⟩ := zb0 hi
      obtain ⟨c, hc, rfl⟩ := List.mem_map.mp (List.mem_of_getElem? hx)
      refine ⟨_, tg_T rfl (tg_C (tg_N (of_decide_eq_true rfl) rfl) (tg_C (tg_N (of_decide_eq_true rfl) rfl) tg_0)), ?_⟩
      unfold zjI
      apply zaU
      case h1 => exact zb9 (zbu (zaw (zab (zad rfl) (zab (zar zae zae za6) zak)) rfl (zds (h c hc).1 (by have := (h c hc).2; omega))))
      case h2 => intro hh; cases hh
      case h3 => exact fun _ => zbc (za8 ⟨_, _, rfl⟩)
    case hend => exact fun ρ ⟨x1, x2, e⟩ => ⟨_, rfl⟩
theorem zlp {ls : List (List (List Int))} {n : Nat} (hn : n <= 6) (h1 : 1 <= ls.length) (h7 : ls.length <= 7) (h : ∀ rs ∈ ls, zb6 n rs) : F_af [.list (ls.map zaE), .int n] = some .none := by
  refine zfX (ρ := [some (.pub (.list (ls.map zaE))), some (.pub (.int n)), none, none]) rfl ?_
  unfold g_af
  have hlen : oLen [.list (ls.map zaE)] = some (.int ls.length) := by rw [zaT, List.length_map]
  apply zaG
  apply zaU
  case h1 => exact zc7 (ρ1 := [some (.pub (.list (ls.map zaE))), some (.pub (.int n)), none, none]) (zck (zad rfl) rfl) (zb9 (zd1 zae (za5 rfl hlen) rfl (fun _ => zae) (fun _ => rfl)))
  case h2 =>
    intro hh
    have a1 : (1 : Int) <= (ls.length : Int) := by omega
    have a2 : (ls.length : Int) <= 7 := by omega
    simp [a1, a2] at hh
  case h3 =>
    intro _
    refine zbc (zat ?_)
    apply zb1 (fun _ ρ => ∃ x2 x3, ρ = [some (.pub (.list (ls.map zaE))), some (.pub (.int n)), x2, x3])
    case h1 => exact zcT (zab (zad rfl) zak) zcj
    case h0 => exact ⟨_, _, rfl⟩
    case hst =>
      rintro i d ρ hi ⟨x1, x2, rfl⟩
      obtain ⟨x, hx, rfl⟩ := zb0 hi
      obtain ⟨rs, hrs, rfl⟩ := List.mem_map.mp (List.mem_of_getElem? hx)
      refine ⟨_, tg_T rfl (tg_C (tg_N (of_decide_eq_true rfl) rfl) (tg_C (tg_N (of_decide_eq_true rfl) rfl) tg_0)), ?_⟩
      unfold zjH
      have hfl := zhD (h rs hrs)
      apply zaU
      case h1 => exact zb9 (zbu (zaw (zab (zad rfl) (zab (zad rfl) zak)) rfl (zg1 (h rs hrs) hn (by omega))))
      case h2 => intro hh; cases hh
      case h3 => exact fun _ => zbc (za8 ⟨_, _, rfl⟩)
    case hend => exact fun ρ ⟨x1, x2, e⟩ => ⟨_, rfl⟩
theorem zes {cs : List Int} {ls : List (List (List Int))} (g : Good cs ls) : F_ag [zaA cs ls] = some .none := by
  refine zfX (ρ := [some (.pub (zaA cs ls)), none, none]) rfl ?_
  unfold g_ag
  apply zaG
  apply zaU
  case h1 => exact zc7 (ρ1 := [some (.pub (zaA cs ls)), none, none]) (zck (zad rfl) rfl) (zar (za5 rfl rfl) zae zcV)
  case h2 => intro hh; cases hh
  case h3 =>
    intro _
    refine zbc (zat ?_)
    have hlen : oLen [.list (cs.map PyData.int)] = some (.int (cs.length : Nat)) := by rw [zaT, List.length_map]
    refine zap (zdQ (zad rfl) (tg_T rfl (tg_C (tg_N (of_decide_eq_true rfl) rfl) (tg_C (tg_N (of_decide_eq_true rfl) rfl) tg_0)))) ?_
    refine zap (zcE (zaw (zab (zad rfl) zak) rfl (zjX g.c1 g.c6 g.c7))) ?_
    exact za7 (zcE (zaw (zab (zad rfl) (zab (za5 rfl hlen) zak)) rfl (zlp g.c6 g.l1 g.l7 g.rk))) ⟨_, rfl⟩
theorem zhE : ∀ (xs ys : List Int), PyData.eqvAll (xs.map PyData.int) (ys.map PyData.int) = decide (xs = ys)
  | [], [] => rfl
  | [], y :: ys => by simp [PyData.eqvAll]
  | x :: xs, [] => by simp [PyData.eqvAll]
  | x :: xs, y :: ys => by
    have ih := zhE xs ys
    show (PyData.eqv (.int x) (.int y) && PyData.eqvAll (xs.map PyData.int) (ys.map PyData.int)) = _
    rw [ih]
    have : PyData.eqv (.int x) (.int y) = decide (x = y) := rfl
    rw [this, Bool.eq_iff_iff]
    simp
theorem zjY {xs : List Int} : oNe (.list (xs.map PyData.int)) (.list []) = some (!decide (xs = [])) := by
  unfold oNe
  have h1 : (PyData.list (xs.map PyData.int)).canLay0 = true := zd3 xs
  have h3 : (PyData.list (xs.map PyData.int)).depth <= 60 := by have := zfn xs; unfold zby at this; omega
  rw [if_pos ⟨h1, rfl, h3⟩]
  congr 2
  exact zhE xs []
theorem zm6 {xs : List D} {x : D} (h : xs.getLast? = some x) : oIx (.list xs) (.int (-1)) = some x := by
  unfold oIx atI
  have hl : xs ≠ [] := by rintro rfl; cases h
  have hp : 0 < xs.length := List.length_pos_iff.mpr hl
  rw [List.getLast?_eq_getElem?] at h
  show (ixN xs.length (-1)).bind _ = _
  unfold ixN
  rw [if_neg (by decide), if_pos (by omega)]
  have e2 : (-1 + (xs.length : Int)).toNat = xs.length - 1 := by omega
  simp only [Option.bind_some]
  rw [e2]; exact h
theorem zg2 {xs : List Int} {k : Nat} (h : k < xs.length) : oIx (.list (xs.map PyData.int)) (.int k) = some (.int (xs.getD k 0)) := by
  refine zaO ?_
  rw [List.getElem?_map, List.getElem?_eq_getElem h]
  simp [List.getD, List.getElem?_eq_getElem h]
theorem zcl (ns : List Int) (k : Nat) (hl : ns.length <= 1000) : ∃ v, F_aw [.list (ns.map PyData.int), .int k] = some (.int v) := by
  have hlen : oLen [.list (ns.map PyData.int)] = some (.int ns.length) := by rw [zaT, List.length_map]
  by_cases h : k < ns.length
  · refine ⟨ns.getD k 0, za9 (ρ := [some (.pub (.list (ns.map PyData.int))), some (.pub (.int k))]) rfl ?_⟩
    unfold g_aw
    apply zaG
    apply zaU
    case h1 => exact zaN rfl (za5 rfl hlen) rfl
    case h2 => exact fun _ => zaI (zbo rfl (zad rfl) (zg2 h)) (zbP rfl)
    case h3 => intro hh; have : ¬ (k : Int) < (ns.length : Int) := by simpa using hh
               omega
  · refine ⟨0, za9 (ρ := [some (.pub (.list (ns.map PyData.int))), some (.pub (.int k))]) rfl ?_⟩
    unfold g_aw
    apply zaG
    apply zaU
    case h1 => exact zaN rfl (za5 rfl hlen) rfl
    case h2 => intro hh; have : (k : Int) < (ns.length : Int) := by simpa using hh
               omega
    case h3 => exact fun _ => zbc (zat (zaI zae rfl))
def sz6 : List Int := 6 :: 7 :: List.replicate 6 11
def szP : List Int := List.replicate 6 6 ++ [2]
theorem zph : ∀ x ∈ sz6, 0 < x /\ x < 18446744073709551616 := by decide
theorem zpi : ∀ x ∈ szP, 0 < x /\ x < 18446744073709551616 := by decide
def tab : List Int := [1, 1, 2, 0, 3, 7, 1, 4, 5, 6, 1]
theorem zlR {z : Int} (h0 : 0 <= z) (h1 : z < 11) : oIx (.list (tab.map PyData.int)) (.int z) = some (.int (tab.getD z.toNat 0)) /\ 0 <= tab.getD z.toNat 0 /\ tab.getD z.toNat 0 < 8 := by
  have e : z = 0 ∨ z = 1 ∨ z = 2 ∨ z = 3 ∨ z = 4 ∨ z = 5 ∨ z = 6 ∨ z = 7 ∨ z = 8 ∨ z = 9 ∨ z = 10 := by omega
  rcases e with rfl|rfl|rfl|rfl|rfl|rfl|rfl|rfl|rfl|rfl|rfl <;> exact ⟨rfl, by decide, by decide⟩
structure zdu (n : Nat) (pl : List Int) (j : Nat) (rs : List (List Int)) : Prop where
  few : rs.length <= j
  some : ∀ r ∈ rs, r ≠ []
  there : ∀ r ∈ rs, ∀ t ∈ r, (0 <= t /\ t < n) /\ pl.getD t.toNat 0 < 1 + (j : Int)
  once : rs.flatten.Nodup
def zga (n : Nat) (pl : List Int) (r : Int) : List Int := ((List.range n).filter fun k => decide (pl.getD k 0 = r)).map fun k : Nat => (k : Int)
theorem zg3 (n : Nat) (pl : List Int) (r : Int) : (zga n pl r).Nodup := by
  unfold zga
  refine List.Pairwise.map _ (fun a b h e => h (by omega)) ((List.nodup_range).filter _)
theorem zgb {n : Nat} {pl : List Int} {r t : Int} (h : t ∈ zga n pl r) : (0 <= t /\ t < n) /\ pl.getD t.toNat 0 = r := by
  unfold zga at h
  obtain ⟨k, hk, rfl⟩ := List.mem_map.mp h
  have hk := List.mem_filter.mp hk
  have h1 := List.mem_range.mp hk.1
  have h2 : pl.getD k 0 = r := by simpa using hk.2
  exact ⟨⟨by omega, by omega⟩, by rw [Int.toNat_natCast]; exact h2⟩
theorem zdu.add {n : Nat} {pl : List Int} {j : Nat} {rs : List (List Int)} {row : List Int} (g : zdu n pl j rs) (hne : row ≠ []) (hm : ∀ t ∈ row, t ∈ zga n pl (1 + (j : Int))) (hn : row.Nodup) : zdu n pl (j + 1) (rs ++ [row]) where
  few := by rw [List.length_append, List.length_singleton]; have := g.few; omega
  some := fun r hr => by
    rcases List.mem_append.mp hr with z | z
    · exact g.some r z
    · rw [List.mem_singleton.mp z]; exact hne
  there := fun r hr t ht => by
    rcases List.mem_append.mp hr with z | z
    · have := g.there r z t ht; exact ⟨this.1, by omega⟩
    · rw [List.mem_singleton.mp z] at ht
      have := zgb (hm t ht)
      exact ⟨this.1, by omega⟩
  once := by
    rw [List.flatten_append, List.flatten_singleton]
    refine List.nodup_append.mpr ⟨g.once, hn, fun a ha b hb e => ?_⟩
    subst e
    obtain ⟨r, hr, har⟩ := List.mem_flatten.mp ha
    have h1 := (g.there r hr a har).2
    have h2 := (zgb (hm a hb)).2
    omega
theorem zdu.next {n : Nat} {pl : List Int} {j : Nat} {rs : List (List Int)} (g : zdu n pl j rs) : zdu n pl (j + 1) rs :=
  ⟨by have := g.few; omega, g.some, fun r hr t ht => ⟨(g.there r hr t ht).1, by have := (g.there r hr t ht).2; omega⟩, g.once⟩
theorem zdu.good {n : Nat} {pl : List Int} {rs : List (List Int)} (g : zdu n pl 5 rs) : zb6 n rs := ⟨g.few, g.some, fun r hr t ht => (g.there r hr t ht).1, g.once⟩
def invK (S dz sz : D) (at_ n : Nat) (cs pl : List Int) (ls : List (List (List Int))) (x9 x10 : Option Sl) (j : Nat) (ρ : DEnv) : Prop := ∃ (rs : List (List Int)) (x13 x14 : Option Sl),
  ρ = [some (.pub S), some (.pub (.int at_)), some (.pub (.int 6)), some (.pub (.int 7)), some (.pub (.int 5)), some (.pub sz), some (.pub dz), some (.own (cs.map PyData.int)), some (.own (ls.map zaE)), x9, x10, some (.pub (.list (pl.map PyData.int))), some (.own (rs.map zby)), x13, x14] /\ zdu n pl j rs
theorem zjZ {S dz sz : D} {at_ n : Nat} {cs pl : List Int} {ls : List (List (List Int))} {v9 v10 : D} {j : Nat} {d : D} {ρ : DEnv} {Q : Out -> Prop} (hcs : cs.length = n) (hn : n <= 6) (hpl : pl.length = 7) (hlast : pl.getD 6 0 = 0 ∨ pl.getD 6 0 = 1)
    (hj : (zbE 1 (5 + 1))[j]? = some d) (h : invK S dz sz at_ n cs pl ls (some (.pub v9)) (some (.pub v10)) j ρ) :
    ∃ ρ2, gN 13 d ρ = some ρ2 /\ Ho zgY ρ2 (zfV (invK S dz sz at_ n cs pl ls (some (.pub v9)) (some (.pub v10)) (j + 1)) Q) := by
  obtain ⟨rs, x13, x14, rfl, g⟩ := h
  obtain ⟨rfl, hlt⟩ := zcq hj
  have hj5 : j < 5 := by omega
  refine ⟨_, tg_N (of_decide_eq_true rfl) (by walk_at "set"), ?_⟩
  unfold zgY
  have hrd : zbE 0 ((n : Nat) : Int) = (List.range n).map fun k => .int (k : Int) := by
    unfold zbE
    have : ((n : Int) - 0).toNat = n := by omega
    rw [this]
    apply List.map_congr_left
    intro k _
    rw [Int.zero_add]
  have hc : za4 (gN 15) (dBin oEq (dIxN 11 (dVar 15)) (dVar 13)) (dVar 15) (zbE 0 ((n : Nat) : Int)) (zaL [some (.pub S), some (.pub (.int at_)), some (.pub (.int 6)), some (.pub (.int 7)), some (.pub (.int 5)), some (.pub sz), some (.pub dz), some (.own (cs.map PyData.int)), some (.own (ls.map zaE)), some (.pub v9), some (.pub v10), some (.pub (.list (pl.map PyData.int))), some (.own (rs.map zby)), some (.pub (.int (1 + (j : Int)))), x14] ++ List.replicate 1 none) [] = some ((zga n pl (1 + (j : Int))).map PyData.int) := by
    rw [hrd, zb2 (fun d => match d with | .int k => decide (pl.getD k.toNat 0 = 1 + (j : Int)) | _ => false) (fun d => d) (fun ρ => ∃ x, ρ = [some (.pub S), some (.pub (.int at_)), some (.pub (.int 6)), some (.pub (.int 7)), some (.pub (.int 5)), some (.pub sz), some (.pub dz), none, none, some (.pub v9), some (.pub v10), some (.pub (.list (pl.map PyData.int))), none, some (.pub (.int (1 + (j : Int)))), zeD x14, x])]
    · rw [List.nil_append, List.map_id', List.filter_map]
      unfold zga
      rw [List.map_map]
      rfl
    · rintro d hm ρ ⟨x, rfl⟩
      obtain ⟨k, hk, rfl⟩ := List.mem_map.mp hm
      have hk := List.mem_range.mp hk
      refine ⟨_, tg_N (of_decide_eq_true rfl) rfl, zar (zbo rfl (zad rfl) (zg2 (by omega))) (zad rfl) zcD, fun _ => zad rfl, some (.pub (.int k)), ?_⟩
      unfold zaL
      cases x14 with
      | none => rfl
      | some sl => cases sl <;> rfl
    · exact ⟨none, rfl⟩
    · rw [List.length_map, List.length_range, List.length_nil]; omega
  have hlen : (cs.map PyData.int).length = n := by rw [List.length_map, hcs]
  refine zap (zbn (zbv (zfa (zab (zjk rfl) zak) (by rw [hlen]; exact zd2 (by omega) (by omega))) hc) (of_decide_eq_true rfl) rfl) ?_
  generalize hrow : zga n pl (1 + (j : Int)) = row
  apply zaU
  case h1 => exact zfc rfl (zbx zak (by decide)) rfl zjY
  case h2 =>
    intro hh
    have hne : row ≠ [] := by simpa using hh
    have hlx : oIx (.list (pl.map PyData.int)) (.int (-1)) = some (.int (pl.getD 6 0)) := zm6 (by
      rw [List.getLast?_eq_getElem?, List.length_map, hpl, List.getElem?_map, List.getElem?_eq_getElem (show 7 - 1 < pl.length by omega)]
      simp [List.getD, List.getElem?_eq_getElem (show 6 < pl.length by omega)])
    obtain ⟨row', hix, hrow'⟩ : ∃ row' : List Int, oIx (.list [.list (row.map PyData.int), .list (row.map PyData.int).reverse]) (.int (pl.getD 6 0)) = some (zby row') /\ (row' = row ∨ row' = row.reverse) := by
      rcases hlast with e | e
      · rw [e]; exact ⟨row, rfl, .inl rfl⟩
      · rw [e]; exact ⟨row.reverse, by show some (PyData.list (row.map PyData.int).reverse) = _; unfold zby; rw [List.map_reverse], .inr rfl⟩
    have hrl : (rs.map zby).length < 1000000 := by rw [List.length_map]; have := g.few; omega
    refine za7 (zdm rfl (zar (zbx (zab (zbi rfl rfl) (zab (zjo (zad rfl) zae zae (zbZ (zdl zae))) zak)) (of_decide_eq_true rfl)) (zbo rfl (zdl zae) hlx) hix) rfl hrl rfl) ?_
    refine za8 ⟨rs ++ [row'], some (.pub (.int (1 + (j : Int)))), some (.pub (.list (row.map PyData.int))), by rw [List.map_append]; rfl, g.add ?_ ?_ ?_⟩
    · rcases hrow' with e | e <;> rw [e]
      · exact hne
      · exact fun z => hne (List.reverse_eq_nil_iff.mp z)
    · intro t ht
      rw [hrow]
      rcases hrow' with e | e <;> rw [e] at ht
      · exact ht
      · exact List.mem_reverse.mp ht
    · have hnd := zg3 n pl (1 + (j : Int))
      rw [hrow] at hnd
      rcases hrow' with e | e <;> rw [e]
      · exact hnd
      · exact (List.reverse_perm row).nodup_iff.mpr hnd
  case h3 => exact fun _ => zbc (za8 ⟨rs, _, _, rfl, g.next⟩)
def invA (S dz sz : D) (at_ n : Nat) (cs : List Int) (i : Nat) (ρ : DEnv) : Prop := ∃ (ls : List (List (List Int))) (x9 x10 x11 x12 x13 x14 : Option Sl),
  ρ = [some (.pub S), some (.pub (.int at_)), some (.pub (.int 6)), some (.pub (.int 7)), some (.pub (.int 5)), some (.pub sz), some (.pub dz), some (.own (cs.map PyData.int)), some (.own (ls.map zaE)), x9, x10, x11, x12, x13, x14] /\ ls.length = i /\ ∀ rs ∈ ls, zb6 n rs
theorem zis {ns : List Int} {dz sz : D} {at_ n : Nat} {cs : List Int} {i : Nat} {m : Int} {d : D} {ρ : DEnv} {Q : Out -> Prop} (hns : ns.length <= 1000) (hcs : cs.length = n) (hn : n <= 6) (hm : m <= 100)
    (hi : (zbE 0 m)[i]? = some d) (h : invA (.list (ns.map PyData.int)) dz sz at_ n cs i ρ) :
    ∃ ρ2, gN 9 d ρ = some ρ2 /\ Ho zgZ ρ2 (zfV (invA (.list (ns.map PyData.int)) dz sz at_ n cs (i + 1)) Q) := by
  obtain ⟨ls, x9, x10, x11, x12, x13, x14, rfl, hl, hg⟩ := h
  obtain ⟨rfl, hlt⟩ := zcq hi
  refine ⟨_, tg_N (of_decide_eq_true rfl) (by walk_at "set"), ?_⟩
  unfold zgZ
  obtain ⟨v, hv⟩ := zcl ns (at_ + 1 + i) hns
  have ev : ((at_ : Int) + 1 + (0 + (i : Int))) = ((at_ + 1 + i : Nat) : Int) := by omega
  rw [← ev] at hv
  refine zap (zaZ (zaw (zab (zad rfl) (zab (zar (zar (zad rfl) zae za6) (zad rfl) za6) zak)) rfl hv) (of_decide_eq_true rfl) rfl) ?_
  obtain ⟨r, hF, pl, rfl, hpl, hpb⟩ := zb3 v (11 * (at_ : Int) + 3 * (0 + (i : Int)) + 1) (sizes := szP) zpi (by decide)
  have hpl7 : pl.length = 7 := hpl
  have hmul : oMul (.list [.int (5 + 1)]) (.int 6) = some (.list ((List.replicate 6 6).map PyData.int)) := zcW (by decide)
  have hadd : oAdd (.list ((List.replicate 6 6).map PyData.int)) (.list [.int 2]) = some (.list (szP.map PyData.int)) := zbO (by decide)
  refine zap (zaZ (zaw (zab (zad rfl) (zab (zar (zar (zar zae (zad rfl) (zfb (by decide) (by decide))) (zar zae (zad rfl) (zfb (by decide) (by decide))) za6) zae za6) (zab (zar (zar (zbx (zab (zar (zad rfl) zae za6) zak) (of_decide_eq_true rfl)) (zad rfl) hmul) (zbx (zab zae zak) (of_decide_eq_true rfl)) hadd) zak))) rfl hF) (of_decide_eq_true rfl) rfl) ?_
  refine zap (zbn (zcC zak (of_decide_eq_true rfl)) (of_decide_eq_true rfl) rfl) ?_
  have hlast : pl.getD 6 0 = 0 ∨ pl.getD 6 0 = 1 := by
    have e : pl[6]? = some pl[6] := List.getElem?_eq_getElem (by omega)
    have := hpb 6 pl[6] 2 e rfl
    have e2 : pl.getD 6 0 = pl[6] := by simp [List.getD, e]
    rw [e2]; omega
  apply zaG
  apply zb1 (invK (.list (ns.map PyData.int)) dz sz at_ n cs pl ls (some (.pub (.int (0 + (i : Int))))) (some (.pub (.int v))))
  case h1 => exact zgP (zab zae (zab (zar (zad rfl) zae za6) zak)) (zht (by decide) (by decide) (by decide) (by decide))
  case h0 => exact ⟨[], x13, x14, rfl, ⟨Nat.le_refl _, fun _ h => (by cases h), fun _ h => (by cases h), List.nodup_nil⟩⟩
  case hst => exact fun j d ρ e h => zjZ hcs hn hpl7 hlast e h
  case hend =>
    rintro ρ ⟨rs, y13, y14, rfl, g⟩
    refine zat ?_
    have hl5 : (zbE 1 (5 + 1)).length = 5 := rfl
    rw [hl5] at g
    have hll : (ls.map zaE).length < 1000000 := by rw [List.length_map]; omega
    refine za7 (zdm rfl (zbi rfl rfl) rfl hll rfl) ?_
    refine za8 ⟨ls ++ [rs], some (.pub (.int (0 + (i : Int)))), some (.pub (.int v)), some (.pub (.list (pl.map PyData.int))), some (.pub (.list (rs.map zby))), y13, y14, by rw [List.map_append]; rfl, by rw [List.length_append, hl]; rfl, fun x hx => ?_⟩
    rcases List.mem_append.mp hx with z | z
    · exact hg x z
    · rw [List.mem_singleton.mp z]; exact g.good
theorem zg4 {ns : List Int} (hns : ns.length <= 1000) (at_ : Nat) : ∃ r, F_ay [.list (ns.map PyData.int), .int at_, .int 6, .int 7, .int 5] = some r /\ ∃ cs ls, r = zaA cs ls /\ Good cs ls := by
  obtain ⟨v, hv⟩ := zcl ns at_ hns
  obtain ⟨r, hF, ds, rfl, hl, hd⟩ := zb3 v at_ (sizes := sz6) zph (by decide)
  have hl8 : ds.length = 8 := hl
  have at' : ∀ (j : Nat) (k z : Int), k = j -> sz6[j]? = some z -> ∃ d, oIx (.list (ds.map PyData.int)) (.int k) = some (.int d) /\ ds[j]? = some d /\ 0 <= d /\ d < z := fun j k z hk hz => by
    subst hk
    have hj : j < ds.length := by rw [hl]; exact (List.getElem?_eq_some_iff.mp hz).1
    have e : ds[j]? = some ds[j] := List.getElem?_eq_getElem hj
    obtain ⟨p0, p1⟩ := hd j ds[j] z e hz
    exact ⟨ds[j], zaO (by rw [List.getElem?_map, e]; rfl), e, p0, p1⟩
  obtain ⟨d0, x0, e0, p0, q0⟩ := at' 0 0 6 rfl rfl
  obtain ⟨d1, x1, e1, p1, q1⟩ := at' 1 1 7 rfl rfl
  have hmul : oMul (.list [.int 11]) (.int 6) = some (.list ((List.replicate 6 11).map PyData.int)) := zcW (by decide)
  have hadd : oAdd (.list [.int 6, .int 7]) (.list ((List.replicate 6 11).map PyData.int)) = some (.list (sz6.map PyData.int)) := zbO (by decide)
  obtain ⟨n, hn⟩ : ∃ n : Nat, 1 + d0 = n := ⟨(1 + d0).toNat, by omega⟩
  refine zek (ρ := [some (.pub (.list (ns.map PyData.int))), some (.pub (.int at_)), some (.pub (.int 6)), some (.pub (.int 7)), some (.pub (.int 5)), none, none, none, none, none, none, none, none, none, none]) rfl ?_
  unfold g_ay
  refine zap (zaZ (zar (zbx (zab (zad rfl) (zab (zad rfl) zak)) (of_decide_eq_true rfl)) (zar (zbx (zab zae zak) (of_decide_eq_true rfl)) (zad rfl) hmul) hadd) (of_decide_eq_true rfl) rfl) ?_
  refine zap (zaZ (zaw (zab (zaw (zab (zad rfl) (zab (zad rfl) zak)) rfl hv) (zab (zad rfl) (zab (zad rfl) zak))) rfl hF) (of_decide_eq_true rfl) rfl) ?_
  have hcut : DL.cutD (ds.map PyData.int) (some 2) (some (3 + d0)) = ((ds.drop 2).take n).map PyData.int := by
    rw [zfe (by decide) (by omega) (by omega)]
    have : (3 + d0).toNat - (2 : Int).toNat = n := by omega
    rw [this]; rfl
  have hrowl : ((ds.drop 2).take n).length = n := by rw [List.length_take, List.length_drop, hl8]; omega
  have each : ∀ z ∈ (ds.drop 2).take n, 0 <= z /\ z < 11 := fun z hz => by
    have hz := List.mem_of_mem_take hz
    obtain ⟨k, hk, e⟩ := List.getElem_of_mem hz
    rw [List.length_drop, hl8] at hk
    rw [List.getElem_drop] at e
    have e2 : ds[2 + k]? = some z := by rw [← e]; exact List.getElem?_eq_getElem _
    refine hd (2 + k) z 11 e2 ?_
    have : k = 0 ∨ k = 1 ∨ k = 2 ∨ k = 3 ∨ k = 4 ∨ k = 5 := by omega
    rcases this with rfl | rfl | rfl | rfl | rfl | rfl <;> rfl
  let cs : List Int := ((ds.drop 2).take n).map fun z => tab.getD z.toNat 0
  have hcl : cs.length = n := by show (List.map _ _).length = n; rw [List.length_map, hrowl]
  have hc : ∀ xs : List (Option Sl), zaL xs = xs -> xs.length = 15 -> za4 (gN 15) (zah true) (dBin oIx (mLst (zaf (zah (.int 1)) (zaf (zah (.int 1)) (zaf (zah (.int 2)) (zaf (zah (.int 0)) (zaf (zah (.int 3)) (zaf (zah (.int 7)) (zaf (zah (.int 1)) (zaf (zah (.int 4)) (zaf (zah (.int 5)) (zaf (zah (.int 6)) (zaf (zah (.int 1)) (mNil))))))))))))) (dVar 15)) (((ds.drop 2).take n).map PyData.int) (zaL xs ++ List.replicate 1 none) [] = some (cs.map PyData.int) := by
    intro xs hx hxl
    rw [hx, zb2 (fun _ => true) (fun d => match d with | .int z => .int (tab.getD z.toNat 0) | _ => .none) (fun ρ => ∃ x, ρ = xs ++ [x])]
    · rw [List.filter_eq_self.mpr (fun _ _ => rfl), List.nil_append, List.map_map]
      show _ = some ((((ds.drop 2).take n).map fun z => tab.getD z.toNat 0).map PyData.int)
      rw [List.map_map]
      rfl
    · rintro d hm ρ ⟨x, rfl⟩
      obtain ⟨z, hz, rfl⟩ := List.mem_map.mp hm
      have ht := zlR (each z hz).1 (each z hz).2
      have hset : (xs ++ [x]).set 15 (some (Sl.pub (.int z))) = xs ++ [some (.pub (.int z))] := by
        rw [List.set_append_right _ _ (by omega), hxl]; rfl
      have hget : (xs ++ [some (Sl.pub (.int z))])[15]? = some (some (Sl.pub (.int z))) := by
        rw [List.getElem?_append_right (by omega), hxl]; rfl
      refine ⟨_, tg_N (by rw [List.length_append, hxl]; exact of_decide_eq_true rfl) hset, rfl, fun _ => ?_, some (.pub (.int z)), ?_⟩
      · exact zar (zbx (zab zae (zab zae (zab zae (zab zae (zab zae (zab zae (zab zae (zab zae (zab zae (zab zae (zab zae zak))))))))))) (of_decide_eq_true rfl)) (zad hget) ht.1
      · unfold zaL at hx ⊢
        rw [List.map_append, hx]; rfl
    · exact ⟨none, rfl⟩
    · rw [List.length_map, hrowl, List.length_nil]; omega
  refine zap (zbn (zbv (za0 (zeP (zad rfl) (zbZ zae) (zbZ (zar zae (zbo rfl zae x0) za6)) (by rw [zcX, hcut])) zbI) (hc _ rfl rfl)) (of_decide_eq_true rfl) rfl) ?_
  refine zap (zbn (zcC zak (of_decide_eq_true rfl)) (of_decide_eq_true rfl) rfl) ?_
  apply zaG
  apply zb1 (invA (.list (ns.map PyData.int)) (.list (ds.map PyData.int)) (.list (sz6.map PyData.int)) at_ n cs)
  case h1 => exact zfa (zab (zar zae (zbo rfl zae x1) za6) zak) (zd2 (by omega) (by omega))
  case h0 => exact ⟨[], _, _, _, _, _, _, rfl, rfl, fun _ h => by cases h⟩
  case hst => exact fun i d ρ e h => zis hns hcl (by omega) (by omega) e h
  case hend =>
    rintro ρ ⟨ls, y9, y10, y11, y12, y13, y14, rfl, hll, hg⟩
    rw [zbs] at hll
    refine zat (zaI (zeN (zab (zbi rfl rfl) (zab (zbi rfl rfl) zak)) (of_decide_eq_true rfl)) ⟨_, rfl, cs, ls, rfl, ?_⟩)
    exact ⟨by omega, by omega, fun c hc => by
      obtain ⟨z, hz, rfl⟩ := List.mem_map.mp hc
      exact (zlR (each z hz).1 (each z hz).2).2, by omega, by omega, fun rs hrs => by rw [hcl]; exact hg rs hrs⟩
def zbG (t : Int) (rs : List (List Int)) : Nat := if rs.findIdx (fun r => r.contains t) < rs.length then rs.findIdx (fun r => r.contains t) + 1 else 0
theorem zm7 (a b : Int) : PyData.eqv (.int a) (.int b) = (a == b) := by simp [PyData.eqv]
theorem zg5 (t : Int) (r : List Int) : oIn (.int t) (zby r) = some (r.contains t) := by
  have h1 : PyData.canLayAll0 (r.map PyData.int) = true := by
    induction r with
    | nil => rfl
    | cons x r ih => rw [List.map_cons]; unfold PyData.canLayAll0; rw [ih]; rfl
  unfold oIn zby
  dsimp only
  rw [if_pos ⟨rfl, h1, Nat.zero_le _⟩]
  congr 1
  rw [List.any_map]
  clear h1
  induction r with
  | nil => rfl
  | cons x r ih =>
    rw [List.any_cons, ih, List.contains_cons]
    congr 1
    show PyData.eqv (.int x) (.int t) = (t == x)
    rw [zm7]
    exact Bool.eq_iff_iff.2 ⟨fun h => beq_iff_eq.2 (beq_iff_eq.1 h).symm, fun h => beq_iff_eq.2 (beq_iff_eq.1 h).symm⟩
theorem zgc {t : Int} {rs : List (List Int)} {i : Nat} {r : List Int} (hr : rs[i]? = some r) (h : r.contains t = true) (hb : ∀ j r, j < i -> rs[j]? = some r -> r.contains t = false) : zbG t rs = 1 + i := by
  obtain ⟨hi, e⟩ := List.getElem?_eq_some_iff.1 hr
  have hf : rs.findIdx (fun r => r.contains t) = i := (List.findIdx_eq hi).2 ⟨by rw [e]; exact h, fun j hj => hb j _ hj (List.getElem?_eq_getElem (Nat.lt_trans hj hi))⟩
  unfold zbG
  rw [hf, if_pos hi, Nat.add_comm]
theorem zgd {t : Int} {rs : List (List Int)} (hb : ∀ j r, j < rs.length -> rs[j]? = some r -> r.contains t = false) : zbG t rs = 0 := by
  have hf : rs.findIdx (fun r => r.contains t) = rs.length := List.findIdx_eq_length.2 fun r hr => by
    obtain ⟨j, hj, e⟩ := List.mem_iff_getElem.1 hr
    exact hb j r hj (by rw [List.getElem?_eq_getElem hj, e])
  unfold zbG
  rw [hf, if_neg (Nat.lt_irrefl _)]
theorem zit (t : Int) (rs : List (List Int)) : F_ah [zaE rs, .int t] = some (.int (zbG t rs : Nat)) := by
  refine za9 (ρ := [some (.pub (zaE rs)), some (.pub (.int t)), none, none]) rfl ?_
  unfold g_ah
  apply zaG
  apply zb1 (fun i ρ => (∃ x2 x3, ρ = [some (.pub (zaE rs)), some (.pub (.int t)), x2, x3]) /\ ∀ j r, j < i -> rs[j]? = some r -> r.contains t = false)
  case h1 => exact zff (zab (zad rfl) zak) zen
  case h0 => exact ⟨⟨_, _, rfl⟩, fun j r h => absurd h (Nat.not_lt_zero _)⟩
  case hst =>
    rintro i d ρ hi ⟨⟨x2, x3, rfl⟩, hb⟩
    obtain ⟨x, hx, rfl⟩ := zb0 hi
    rw [List.getElem?_map] at hx
    cases hr : rs[i]? with
    | none => rw [hr] at hx; cases hx
    | some r =>
      rw [hr] at hx
      cases hx
      refine ⟨_, tg_T rfl (tg_C (tg_N (of_decide_eq_true rfl) rfl) (tg_C (tg_N (of_decide_eq_true rfl) rfl) tg_0)), ?_⟩
      unfold zgV
      apply zaU
      case h1 => exact zaN rfl (zad rfl) (zg5 t r)
      case h2 =>
        intro hh
        refine zaI (zad rfl) (zcF ?_)
        rw [zgc hr hh hb]
        exact ⟨rfl⟩
      case h3 =>
        intro hh
        refine zbc (za8 ⟨⟨_, _, rfl⟩, fun j r' hj hr' => ?_⟩)
        rcases Nat.lt_succ_iff_lt_or_eq.1 hj with h | rfl
        · exact hb j r' h hr'
        · rw [hr] at hr'; cases hr'; exact hh
  case hend =>
    rintro ρ ⟨⟨x2, x3, rfl⟩, hb⟩
    rw [zaW, List.length_map] at hb
    refine zat ?_
    rw [zgd hb]
    exact zaI zae rfl
def optD : Option Int -> D
  | none => .none
  | some t => .int t
def zav (ws : List (Option Int)) : D := .list (ws.map optD)
structure Deal (cs : List Int) (ls : List (List (List Int))) (ws : List (Option Int)) : Prop where
  len : ws.length = ls.length
  wish : ∀ (i : Nat) t rs, ws[i]? = some (some t) -> ls[i]? = some rs -> t ∈ rs.flatten
  cop : ∀ (k : Nat) c, cs[k]? = some c -> ((ws.count (some (k : Int)) : Nat) : Int) <= c
theorem zeW {t : Int} {rs : List (List Int)} (h : t ∈ rs.flatten) : zbG t rs ≠ 0 := by
  obtain ⟨r, hr, ht⟩ := List.mem_flatten.mp h
  have : rs.findIdx (fun r => r.contains t) < rs.length := List.findIdx_lt_length_of_exists ⟨r, hr, by simpa using ht⟩
  unfold zbG
  rw [if_pos this]
  omega
theorem zfo (ws : List (Option Int)) : PyData.canLayAll0 (ws.map optD) = true := zb4 fun x hx => by
  obtain ⟨y, _, rfl⟩ := List.mem_map.mp hx
  cases y <;> rfl
theorem zj0 (a b : Option Int) : PyData.eqv (optD a) (optD b) = decide (a = b) := by
  rw [Bool.eq_iff_iff]
  cases a <;> cases b <;> simp [optD, PyData.eqv]
theorem zeX {ws : List (Option Int)} {k : Int} : zcB (zav ws) (.int k) = some (.int (ws.count (some k) : Nat)) := by
  unfold zav zcB
  dsimp only
  rw [if_pos ⟨rfl, zfo ws, by simp [PyData.depth]⟩]
  congr 3
  induction ws with
  | nil => rfl
  | cons w r ih =>
    rw [List.map_cons, List.countP_cons, List.count_cons, ih]
    congr 1
    have := zj0 w (some k)
    have e : optD (some k) = .int k := rfl
    rw [e] at this
    rw [this]
    cases w with
    | none => simp
    | some z => simp
theorem zlq {f : M (List D)} {k : Nat} {s : D -> DEnv -> Option DEnv} {t : M Bool} {g : M D} {ρ ρ1 : DEnv} {ds es : List D} (h1 : f ρ = .ok ds ρ1) (h2 : za4 s t g ds (zcL ρ1 ++ List.replicate k none) [] = some es) (h3 : es.all flat = true) : zdR f k s t g ρ = .ok es ρ1 := by
  unfold zdR; rw [h1]; dsimp only; rw [h2]; dsimp only; rw [if_pos h3]
theorem zet {cs : List Int} {ls : List (List (List Int))} {rs : List (List Int)} {i : Nat} (hi : ls[i]? = some rs) (hl : rs.flatten.length < 64) : F_bb [zaA cs ls, .int i] = some (.list ((zch rs.flatten).map PyData.int)) := by
  refine za9 (ρ := [some (.pub (zaA cs ls)), some (.pub (.int i))]) rfl ?_
  unfold g_bb
  have i1 : oIx (zaA cs ls) (.int 1) = some (.list (ls.map zaE)) := zaO (j := 1) rfl
  have i2 : oIx (.list (ls.map zaE)) (.int i) = some (zaE rs) := zaO (by rw [List.getElem?_map, hi]; rfl)
  have hs : zh7 [zaE rs, .list []] = some (.list (rs.flatten.map PyData.int)) := by
    have e : zaE rs = .list ((rs.map fun r => r.map PyData.int).map PyData.list) := by unfold zaE; rw [List.map_map]; rfl
    have e2 : (rs.map fun r => r.map PyData.int).flatten = rs.flatten.map PyData.int := by rw [List.map_flatten]
    rw [e]
    unfold zh7
    dsimp only
    rw [zh6]
    dsimp only
    rw [e2, if_pos (by rw [List.length_map]; omega)]
  exact zaI (zbj (zab (zbj (zab (zar (zbo rfl zae i1) (zad rfl) i2) (zab (zbx zak (of_decide_eq_true rfl)) zak)) hs) zak) (zih hl)) rfl
structure zdc (cs : List Int) (ls : List (List (List Int))) (lf : List Int) (ws : List (Option Int)) : Prop where
  wish : ∀ (i : Nat) t rs, ws[i]? = some (some t) -> ls[i]? = some rs -> t ∈ rs.flatten
  len : lf.length = cs.length
  cop : ∀ (k : Nat) c, cs[k]? = some c -> lf[k]? = some (c - ((ws.count (some (k : Int)) : Nat) : Int)) /\ 0 <= c - ((ws.count (some (k : Int)) : Nat) : Int)
theorem zge {ls : List (List (List Int))} {ws : List (Option Int)} {o : Option Int} {rs : List (List Int)} (h : ∀ (i : Nat) t rs, ws[i]? = some (some t) -> ls[i]? = some rs -> t ∈ rs.flatten) (hi : ls[ws.length]? = some rs) (ho : ∀ t, o = some t -> t ∈ rs.flatten) :
    ∀ (i : Nat) t rs, (ws ++ [o])[i]? = some (some t) -> ls[i]? = some rs -> t ∈ rs.flatten := by
  intro j t rs' e1 e2
  by_cases hj : j < ws.length
  · rw [List.getElem?_append_left hj] at e1; exact h j t rs' e1 e2
  · by_cases hj2 : j = ws.length
    · subst hj2
      rw [hi] at e2
      cases e2
      rw [List.getElem?_append_right (Nat.le_refl _), Nat.sub_self, List.getElem?_cons_zero] at e1
      cases e1
      exact ho t rfl
    · rw [List.getElem?_eq_none (by rw [List.length_append, List.length_singleton]; omega)] at e1
      cases e1
theorem zdc.none {cs : List Int} {ls : List (List (List Int))} {lf : List Int} {ws : List (Option Int)} {rs : List (List Int)} (d : zdc cs ls lf ws) (hi : ls[ws.length]? = some rs) : zdc cs ls lf (ws ++ [Option.none]) where
  wish := zge d.wish hi fun t e => by cases e
  len := d.len
  cop := fun k c e => by rw [List.count_append]; simpa using d.cop k c e
theorem zdc.give {cs : List Int} {ls : List (List (List Int))} {lf : List Int} {ws : List (Option Int)} {rs : List (List Int)} {t v : Int} (d : zdc cs ls lf ws) (hi : ls[ws.length]? = some rs) (ht : t ∈ rs.flatten) (h0 : 0 <= t) (hv : lf[t.toNat]? = some v) (hp : 0 < v) : zdc cs ls (lf.set t.toNat (v - 1)) (ws ++ [some t]) where
  wish := zge d.wish hi fun t' e => by cases e; exact ht
  len := by rw [List.length_set]; exact d.len
  cop := fun k c e => by
    obtain ⟨h1, h2⟩ := d.cop k c e
    rw [List.count_append]
    by_cases hk : t = (k : Int)
    · subst hk
      rw [Int.toNat_natCast] at hv ⊢
      rw [h1] at hv
      cases hv
      have hl : k < lf.length := (List.getElem?_eq_some_iff.mp h1).1
      rw [List.getElem?_set_self hl]
      simp only [List.count_singleton_self]
      refine ⟨by congr 1; omega, by omega⟩
    · have hne : t.toNat ≠ k := by omega
      rw [List.getElem?_set_ne hne]
      have : List.count (some (k : Int)) [some t] = 0 := by
        rw [List.count_eq_zero]
        intro z
        have := List.mem_singleton.mp z
        exact hk (Option.some.inj this).symm
      rw [this]
      exact ⟨h1, h2⟩
theorem zgf {os : List (Option Int)} {k : Nat} (h : k < os.length) : oIx (.list (os.map optD)) (.int k) = some (optD os[k]) := zaO (by rw [List.getElem?_map, List.getElem?_eq_getElem h]; rfl)
theorem zhF {ws : List (Option Int)} {o : Option Int} : (ws ++ [o]).map optD = ws.map optD ++ [optD o] := by rw [List.map_append]; rfl
def invD (cs : List Int) (ls : List (List (List Int))) (c s : D) (dg : List Int) (i : Nat) (ρ : DEnv) : Prop := ∃ (lf : List Int) (ws : List (Option Int)) (x6 x7 x8 : Option Sl),
  ρ = [some (.pub (zaA cs ls)), some (.pub c), some (.pub s), some (.own (lf.map PyData.int)), some (.pub (.list (dg.map PyData.int))), some (.own (ws.map optD)), x6, x7, x8] /\ ws.length = i /\ zdc cs ls lf ws
theorem ziu {cs : List Int} {ls : List (List (List Int))} {c s : D} {dg : List Int} {i : Nat} {d : D} {ρ : DEnv} {Q : Out -> Prop} (g : Good cs ls) (hdl : dg.length = ls.length) (hd0 : ∀ x ∈ dg, 0 <= x) (hi : (zbE 0 ls.length)[i]? = some d) (h : invD cs ls c s dg i ρ) :
    ∃ ρ2, gN 6 d ρ = some ρ2 /\ Ho zgX ρ2 (zfV (invD cs ls c s dg (i + 1)) Q) := by
  obtain ⟨lf, ws, x6, x7, x8, rfl, hw, dl⟩ := h
  obtain ⟨rfl, hlt⟩ := zcq hi
  have hil : i < ls.length := by omega
  have hls : ls[i]? = some ls[i] := List.getElem?_eq_getElem hil
  have gr := g.rk _ (List.mem_of_getElem? hls)
  have hfl := zhD gr
  refine ⟨_, tg_N (of_decide_eq_true rfl) (by walk_at "set"), ?_⟩
  unfold zgX
  rw [Int.zero_add]
  generalize hrs : ls[i] = rs at *
  have hmem : ∀ t ∈ zch rs.flatten, t ∈ rs.flatten := fun t ht => (zbT _).mem_iff.mp ht
  have hthere : ∀ t ∈ rs.flatten, 0 <= t /\ t < lf.length := fun t ht => by
    obtain ⟨r, hr, htr⟩ := List.mem_flatten.mp ht
    have := gr.there r hr t htr
    rw [dl.len]; exact this
  let L := (zch rs.flatten).filter fun t => decide (0 < lf.getD t.toNat 0)
  have hc : za4 (gN 9) (dBin (oIB fun i j => decide (j < i)) (dIxN 3 (dVar 9)) (zah (.int 0))) (dVar 9) ((zch rs.flatten).map PyData.int) (zcL [some (.pub (zaA cs ls)), some (.pub c), some (.pub s), some (.own (lf.map PyData.int)), some (.pub (.list (dg.map PyData.int))), some (.own (ws.map optD)), some (.pub (.int (i : Int))), x7, x8] ++ List.replicate 1 none) [] = some (L.map PyData.int) := by
    rw [zb2 (fun d => match d with | .int t => decide (0 < lf.getD t.toNat 0) | _ => false) (fun d => d) (fun ρ => ∃ x y7 y8, ρ = [some (.pub (zaA cs ls)), some (.pub c), some (.pub s), some (.pub (.list (lf.map PyData.int))), some (.pub (.list (dg.map PyData.int))), some (.pub (.list (ws.map optD))), some (.pub (.int (i : Int))), y7, y8, x])]
    · rw [List.nil_append, List.map_id', List.filter_map]
      rfl
    · rintro d hm ρ ⟨x, y7, y8, rfl⟩
      obtain ⟨t, ht, rfl⟩ := List.mem_map.mp hm
      obtain ⟨h0, h1⟩ := hthere t (hmem t ht)
      obtain ⟨k, rfl⟩ : ∃ k : Nat, t = k := ⟨t.toNat, by omega⟩
      refine ⟨_, tg_N (of_decide_eq_true rfl) rfl, zar (zbo rfl (zad rfl) (zg2 (by omega))) zae rfl, fun _ => zad rfl, some (.pub (.int k)), zeD y7, zeD y8, rfl⟩
    · exact ⟨none, zmA x7, zmA x8, rfl⟩
    · rw [List.length_map, List.length_nil, (zbT _).length_eq]; have := g.c6; omega
  have hLl : L.length <= 6 := by
    have : L.length <= (zch rs.flatten).length := List.length_filter_le _ _
    rw [(zbT _).length_eq] at this; have := g.c6; omega
  have hadd : oAdd (.list (L.map PyData.int)) (.list [.none]) = some (.list ((L.map some ++ [none]).map optD)) := by
    rw [zbO (by rw [List.length_map]; show L.length + 1 <= _; omega), List.map_append, List.map_map]; rfl
  refine zap (zaZ (zar (zau (zlq (za0 (zaw (zab (zad rfl) (zab (zad rfl) zak)) rfl (zet (cs := cs) hls (by have := g.c6; omega))) zbI) hc (by rw [List.all_map, List.all_eq_true]; exact fun _ _ => rfl))) (zbx (zab zae zak) (of_decide_eq_true rfl)) hadd) (of_decide_eq_true rfl) rfl) ?_
  have hol : (L.map some ++ [none] : List (Option Int)).length = L.length + 1 := by rw [List.length_append, List.length_map]; rfl
  have hlen : oLen [.list ((L.map some ++ [none] : List (Option Int)).map optD)] = some (.int ((L.length + 1 : Nat) : Int)) := by rw [zaT, List.length_map, hol]
  have hdi : dg[i]? = some dg[i] := List.getElem?_eq_getElem (by omega)
  have hx0 := hd0 _ (List.mem_of_getElem? hdi)
  have hix : oIx (.list (dg.map PyData.int)) (.int (i : Int)) = some (.int dg[i]) := zaO (by rw [List.getElem?_map, hdi]; rfl)
  have hm0 : 0 <= dg[i] % ((L.length + 1 : Nat) : Int) := Int.emod_nonneg _ (by omega)
  have hm1 : dg[i] % ((L.length + 1 : Nat) : Int) < ((L.length + 1 : Nat) : Int) := Int.emod_lt_of_pos _ (by omega)
  obtain ⟨k, hk⟩ : ∃ k : Nat, dg[i] % ((L.length + 1 : Nat) : Int) = k := ⟨(dg[i] % ((L.length + 1 : Nat) : Int)).toNat, by omega⟩
  have hkl : k < (L.map some ++ [none] : List (Option Int)).length := by rw [hol]; omega
  have hpick := zgf (os := L.map some ++ [none]) hkl
  rw [← hk] at hpick
  generalize ho : (L.map some ++ [none] : List (Option Int))[k] = o at hpick
  refine zap (zaZ (zbo rfl (zar (zbo rfl (zad rfl) hix) (za5 rfl hlen) (zdb (by omega))) hpick) (of_decide_eq_true rfl) rfl) ?_
  have hwl : (ws.map optD).length < 1000000 := by rw [List.length_map]; have := g.l7; omega
  have hls' : ls[ws.length]? = some rs := by rw [hw]; exact hls
  cases o with
  | none =>
    apply zaG
    apply zaU
    case h1 => exact zpg (zad rfl) rfl
    case h2 => intro hh; cases hh
    case h3 =>
      intro _
      refine zbc (zat ?_)
      refine za7 (zdm rfl (zad rfl) rfl hwl rfl) ?_
      exact za8 ⟨lf, ws ++ [none], _, _, _, by rw [zhF (ws := ws)]; rfl, by rw [List.length_append, hw]; rfl, dl.none hls'⟩
  | some t =>
    have htL : t ∈ L := by
      have hm : some t ∈ (L.map some ++ [none] : List (Option Int)) := ho ▸ List.getElem_mem hkl
      rcases List.mem_append.mp hm with z | z
      · obtain ⟨t', h1, h2⟩ := List.mem_map.mp z
        cases h2; exact h1
      · cases List.mem_singleton.mp z
    obtain ⟨htm, htp⟩ := List.mem_filter.mp htL
    have htf := hmem t htm
    obtain ⟨h0, h1⟩ := hthere t htf
    have hv : lf[t.toNat]? = some lf[t.toNat] := List.getElem?_eq_getElem (by omega)
    have hvd : lf.getD t.toNat 0 = lf[t.toNat] := by simp [List.getD, hv]
    have hpos : 0 < lf[t.toNat] := by rw [hvd] at htp; simpa using htp
    have hvx : oIx (.list (lf.map PyData.int)) (.int t) = some (.int lf[t.toNat]) := zog h0 (by rw [List.getElem?_map, hv]; rfl)
    apply zaG
    apply zaU
    case h1 => exact zpg (zad rfl) rfl
    case h2 =>
      intro _
      refine za7 (zel (zar (zeO rfl (zad rfl) rfl hvx) zae zcU) rfl (zad rfl) rfl ⟨h0, by rw [List.length_map]; exact h1⟩ rfl) ?_
      refine zat ?_
      refine za7 (zdm rfl (zad rfl) rfl hwl rfl) ?_
      exact za8 ⟨lf.set t.toNat (lf[t.toNat] - 1), ws ++ [some t], _, _, _, by rw [zhF (ws := ws), ← zfd]; rfl, by rw [List.length_append, hw]; rfl, dl.give hls' htf h0 hv hpos⟩
    case h3 => intro hh; cases hh
theorem zeY {cs : List Int} {ls : List (List (List Int))} (g : Good cs ls) (c s : Int) : ∃ r, F_bd [zaA cs ls, .int c, .int s] = some r /\ ∃ ws, r = zav ws /\ Deal cs ls ws := by
  refine zek (ρ := [some (.pub (zaA cs ls)), some (.pub (.int c)), some (.pub (.int s)), none, none, none, none, none, none]) rfl ?_
  unfold g_bd
  have i0 : oIx (zaA cs ls) (.int 0) = some (.list (cs.map PyData.int)) := zaO (j := 0) rfl
  have i1 : oIx (zaA cs ls) (.int 1) = some (.list (ls.map zaE)) := zaO (j := 1) rfl
  have hlen : oLen [.list (ls.map zaE)] = some (.int ls.length) := by rw [zaT, List.length_map]
  refine zap (zbn (zax (zab (zbo rfl zae i0) zak) (zbF (show zcK [.list (cs.map PyData.int)] = some (cs.map PyData.int) from rfl))) (of_decide_eq_true rfl) rfl) ?_
  have hmul : oMul (.list [.int 61]) (.int ls.length) = some (.list ((List.replicate ls.length (61 : Int)).map PyData.int)) := by
    rw [zcW ⟨by omega, by have := g.l7; omega, by show 1 * _ <= _; have := g.l7; omega⟩]
    congr 2
    rw [Int.toNat_natCast]
    generalize ls.length = n
    induction n with
    | zero => rfl
    | succ n ih => rw [List.replicate_succ, List.flatten_cons, ih, List.replicate_succ, List.map_cons]; rfl
  obtain ⟨r, hF, dg, rfl, hdl, hdb⟩ := zb3 c s (sizes := List.replicate ls.length (61 : Int)) (fun x hx => by rw [(List.mem_replicate.mp hx).2]; decide) (by rw [List.length_replicate]; have := g.l7; omega)
  rw [List.length_replicate] at hdl
  refine zap (zaZ (zaw (zab (zad rfl) (zab (zad rfl) (zab (zar (zbx (zab zae zak) (of_decide_eq_true rfl)) (zbj (zab (zbo rfl zae i1) zak) hlen) hmul) zak))) rfl hF) (of_decide_eq_true rfl) rfl) ?_
  refine zap (zbn (zcC zak (of_decide_eq_true rfl)) (of_decide_eq_true rfl) rfl) ?_
  apply zaG
  apply zb1 (invD cs ls (.int c) (.int s) dg)
  case h1 => exact zfa (zab (zbj (zab (zbo rfl zae i1) zak) hlen) zak) (zd2 (by have := g.l7; omega) (by omega))
  case h0 => exact ⟨cs, [], _, _, _, rfl, rfl, ⟨fun _ _ _ h => (by cases h), rfl, fun k c e => by
    have := g.c7 c (List.mem_of_getElem? e)
    simp only [List.count_nil]
    exact ⟨by rw [e]; congr 1; omega, by omega⟩⟩⟩
  case hst => exact fun i d ρ e h => ziu g hdl (fun x hx => by
    obtain ⟨j, hj, e⟩ := List.mem_iff_getElem.mp hx
    exact (hdb j x 61 (by rw [List.getElem?_eq_getElem hj, e]) (by rw [List.getElem?_replicate, if_pos (by omega)])).1) e h
  case hend =>
    rintro ρ ⟨lf, ws, x6, x7, x8, rfl, hw, dl⟩
    rw [zbs] at hw
    refine zat (zaI (zbi rfl rfl) ⟨_, rfl, ws, rfl, ⟨by omega, dl.wish, fun k c e => by have := (dl.cop k c e).2; omega⟩⟩)
theorem zhG (ws : List (Option Int)) : (zav ws).depth <= 2 := zeq (zb5 fun x hx => by
  obtain ⟨y, _, rfl⟩ := List.mem_map.mp hx
  cases y <;> simp [optD, PyData.depth])
theorem zbD {s : D -> DEnv -> Option DEnv} {t : M Bool} {g : M D} (I : DEnv -> Prop) : ∀ (ds qs : List D) (ρ : DEnv) (es : List D), qs.length = ds.length ->
    (∀ (i : Nat) d e, ds[i]? = some d -> qs[i]? = some e -> ∀ ρ, I ρ -> ∃ ρ1, s d ρ = some ρ1 /\ t ρ1 = .ok true ρ1 /\ g ρ1 = .ok e ρ1 /\ I (zaL ρ1)) -> I ρ -> es.length + ds.length <= 1000000 -> za4 s t g ds ρ es = some (es ++ qs)
  | [], [], ρ, es, _, _, _, _ => by rw [za4, List.append_nil]
  | d :: r, e :: q, ρ, es, hl, st, h0, hz => by
    obtain ⟨ρ1, e1, e2, e3, h1⟩ := st 0 d e rfl rfl ρ h0
    rw [List.length_cons] at hz
    rw [za4, e1]
    dsimp only
    rw [e2]
    dsimp only
    rw [if_pos rfl, e3]
    dsimp only
    rw [if_pos (by omega), zbD I r q (zaL ρ1) (es ++ [e]) (by simpa using hl) (fun i d' e' x y => st (i + 1) d' e' (by simpa using x) (by simpa using y)) h1 (by rw [List.length_append, List.length_singleton]; omega), List.append_assoc]
    rfl
def rg (rs : List (List Int)) : Option Int -> Int
  | none => 0
  | some t => (zbG t rs : Nat)
def rgot (ls : List (List (List Int))) (ws : List (Option Int)) : List Int := List.zipWith rg ls ws
def lng (ls : List (List (List Int))) : Nat := (most (ls.map fun rs => (rs.length : Int))).toNat
def cnts (L : Nat) (got : List Int) : List Int := (List.range L).map (fun r : Nat => ((got.count (1 + (r : Int)) : Nat) : Int)) ++ [((got.count 0 : Nat) : Int)]
theorem zg6 {ls : List (List (List Int))} (h : 1 <= ls.length) : most (ls.map fun rs => (rs.length : Int)) = (lng ls : Nat) := by
  have hm : most (ls.map fun rs => (rs.length : Int)) ∈ ls.map fun rs => (rs.length : Int) := zdZ (by rw [List.length_map]; omega)
  obtain ⟨rs, _, e⟩ := List.mem_map.mp hm
  unfold lng
  omega
theorem zlS {ls : List (List (List Int))} {rs : List (List Int)} (h : rs ∈ ls) : rs.length <= lng ls := by
  have h1 : ((rs.length : Nat) : Int) <= most (ls.map fun rs => (rs.length : Int)) := zgL (List.mem_map.mpr ⟨rs, h, rfl⟩)
  have h2 := zg6 (ls := ls) (List.length_pos_of_mem h)
  omega
theorem zj1 {ls : List (List (List Int))} {n : Nat} (h1 : 1 <= ls.length) (h : ∀ rs ∈ ls, rs.length <= n) : lng ls <= n := by
  have hm : most (ls.map fun rs => (rs.length : Int)) ∈ ls.map fun rs => (rs.length : Int) := zdZ (by rw [List.length_map]; omega)
  obtain ⟨rs, hr, e⟩ := List.mem_map.mp hm
  have := h rs hr
  unfold lng
  omega
theorem zgg (t : Int) (rs : List (List Int)) : zbG t rs <= rs.length := by
  unfold zbG
  split <;> omega
theorem zg7 (rs : List (List Int)) : F_ah [zaE rs, .none] = some (.int 0) := by
  refine za9 (ρ := [some (.pub (zaE rs)), some (.pub .none), none, none]) rfl ?_
  unfold g_ah
  apply zaG
  apply zb1 (fun i ρ => ∃ x2 x3, ρ = [some (.pub (zaE rs)), some (.pub .none), x2, x3])
  case h1 => exact zff (zab (zad rfl) zak) zen
  case h0 => exact ⟨_, _, rfl⟩
  case hst =>
    rintro i d ρ hi ⟨x2, x3, rfl⟩
    obtain ⟨x, hx, rfl⟩ := zb0 hi
    rw [List.getElem?_map] at hx
    cases hr : rs[i]? with
    | none => rw [hr] at hx; cases hx
    | some r =>
      rw [hr] at hx
      cases hx
      refine ⟨_, tg_T rfl (tg_C (tg_N (of_decide_eq_true rfl) rfl) (tg_C (tg_N (of_decide_eq_true rfl) rfl) tg_0)), ?_⟩
      unfold zgV
      have hin : oIn .none (zby r) = some false := by
        have h1 : PyData.canLayAll0 (r.map PyData.int) = true := zd3 r
        unfold oIn zby
        dsimp only
        rw [if_pos ⟨rfl, h1, by simp [PyData.depth]⟩]
        congr 1
        rw [List.any_map, List.any_eq_false]
        intro x _
        simp [PyData.eqv]
      apply zaU
      case h1 => exact zaN rfl (zad rfl) hin
      case h2 => intro hh; cases hh
      case h3 => exact fun _ => zbc (za8 ⟨_, _, rfl⟩)
  case hend =>
    rintro ρ ⟨x2, x3, rfl⟩
    exact zat (zaI zae rfl)
theorem zg8 (o : Option Int) (rs : List (List Int)) : F_ah [zaE rs, optD o] = some (.int (rg rs o)) := by
  cases o with
  | none => exact zg7 rs
  | some t => exact zit t rs
section
variable {cs : List Int} {ls : List (List (List Int))} {ws : List (Option Int)}
theorem zm8 : oIx (zaA cs ls) (.int 0) = some (.list (cs.map PyData.int)) := zaO (j := 0) rfl
theorem zg9 : oIx (zaA cs ls) (.int 1) = some (.list (ls.map zaE)) := zaO (j := 1) rfl
theorem zpj {i : Nat} {rs : List (List Int)} (h : ls[i]? = some rs) : oIx (.list (ls.map zaE)) (.int i) = some (zaE rs) := zaO (by rw [List.getElem?_map, h]; rfl)
theorem zgh (rs : List (List Int)) : oLen [zaE rs] = some (.int rs.length) := by unfold zaE; rw [zaT, List.length_map]
theorem ziv (g : Good cs ls) : F_ai [zaA cs ls] = some (.int (lng ls : Nat)) := by
  refine za9 (ρ := [some (.pub (zaA cs ls))]) rfl ?_
  unfold g_ai
  have hw := zes g
  have hc : za4 (gN 1) (zah true) (zbJ 1) (ls.map zaE) (zaL [some (.pub (zaA cs ls))] ++ List.replicate 1 none) [] = some ((ls.map fun rs => (rs.length : Int)).map PyData.int) := by
    refine zbD (fun ρ => ∃ x, ρ = [some (.pub (zaA cs ls)), x]) _ _ _ _ (by rw [List.length_map, List.length_map, List.length_map]) ?_ ⟨none, rfl⟩ (by rw [List.length_map, List.length_nil]; have := g.l7; omega)
    rintro i d e hd he ρ ⟨x, rfl⟩
    rw [List.getElem?_map] at hd
    rw [List.getElem?_map, List.getElem?_map] at he
    cases hl : ls[i]? with
    | none => rw [hl] at hd; cases hd
    | some rs =>
    rw [hl] at hd he
    cases hd
    cases he
    exact ⟨_, tg_N (of_decide_eq_true rfl) rfl, rfl, za5 rfl (zgh rs), _, rfl⟩
  refine zap (zcE (zaw (zab (zad rfl) zak) rfl hw)) ?_
  refine zaI (zbj (zab (zau (zbv (za0 (zbo rfl zae zg9) zbI) hc)) zak) (zhs (by rw [List.length_map]; have := g.l1; omega))) ?_
  rw [zg6 g.l1]
theorem zfp {i : Nat} {rs : List (List Int)} {o : Option Int} (h1 : ls[i]? = some rs) (h2 : ws[i]? = some o) : (rgot ls ws)[i]? = some (rg rs o) := by
  unfold rgot
  rw [List.getElem?_zipWith, h1, h2]
theorem zdT (g : Good cs ls) (hl : ws.length = ls.length) : F_aj [zaA cs ls, zav ws] = some (.list ((rgot ls ws).map PyData.int)) := by
  refine za9 (ρ := [some (.pub (zaA cs ls)), some (.pub (zav ws))]) rfl ?_
  unfold g_aj
  have hw := zes g
  have hrl : (rgot ls ws).length = ls.length := by unfold rgot; rw [List.length_zipWith]; omega
  have hc : za4 (gT 2 (gNC (gN 2) (gNC (gN 3) (gN0)))) (zah true) (dFun 2 F_ah (zaf (dBin oIx (dIxN 0 (zah (.int 1))) (dVar 2)) (zaf (dVar 3) (mNil)))) (zc4 0 (ws.map optD)) (zaL [some (.pub (zaA cs ls)), some (.pub (zav ws))] ++ List.replicate 2 none) [] = some ((rgot ls ws).map PyData.int) := by
    refine zbD (fun ρ => ∃ x y, ρ = [some (.pub (zaA cs ls)), some (.pub (zav ws)), x, y]) _ _ _ _ (by rw [List.length_map, zaW, List.length_map]; omega) ?_ ⟨none, none, rfl⟩ (by rw [zaW, List.length_map, List.length_nil]; have := g.l7; omega)
    rintro i d e hd he ρ ⟨x, y, rfl⟩
    obtain ⟨z, hz, rfl⟩ := zb0 hd
    rw [List.getElem?_map] at hz
    cases hwi : ws[i]? with
    | none => rw [hwi] at hz; cases hz
    | some o =>
    rw [hwi] at hz
    cases hz
    have hil : i < ls.length := by have := (List.getElem?_eq_some_iff.mp hwi).1; omega
    have hls : ls[i]? = some ls[i] := List.getElem?_eq_getElem hil
    rw [List.getElem?_map, zfp hls hwi] at he
    cases he
    rw [Nat.zero_add]
    exact ⟨_, tg_T rfl (tg_C (tg_N (of_decide_eq_true rfl) rfl) (tg_C (tg_N (of_decide_eq_true rfl) rfl) tg_0)), rfl, zaw (zab (zar (zbo rfl zae zg9) (zad rfl) (zpj hls)) (zab (zad rfl) zak)) rfl (zg8 o ls[i]), _, _, rfl⟩
  refine zap (zcE (zaw (zab (zad rfl) zak) rfl hw)) ?_
  exact zaI (zau (zbv (zcT (zab (zad rfl) zak) zcj) hc)) rfl
theorem zeZ {xs : List Int} {k : Int} : zcB (.list (xs.map PyData.int)) (.int k) = some (.int (xs.count k : Nat)) := by
  have := zeX (ws := xs.map some) (k := k)
  unfold zav at this
  rw [List.map_map] at this
  have e : (xs.map some).count (some k) = xs.count k := by
    rw [List.count, List.countP_map, List.count]
    congr 1
  rw [e] at this
  exact this
theorem zgi (g : Good cs ls) (hl : ws.length = ls.length) : F_ak [zaA cs ls, zav ws] = some (.list ((cnts (lng ls) (rgot ls ws)).map PyData.int)) := by
  refine za9 (ρ := [some (.pub (zaA cs ls)), some (.pub (zav ws)), none]) rfl ?_
  unfold g_ak
  refine zap (zaZ (zaw (zab (zad rfl) (zab (zad rfl) zak)) rfl (zdT g hl)) (of_decide_eq_true rfl) rfl) ?_
  have h5 : lng ls <= 5 := zj1 g.l1 fun rs hr => (g.rk rs hr).few
  have hc : za4 (gN 3) (zah true) (zeh (dVar 2) (zaf (dVar 3) (mNil))) (zbE 1 ((lng ls : Nat) + 1)) (zaL [some (.pub (zaA cs ls)), some (.pub (zav ws)), some (.pub (.list ((rgot ls ws).map PyData.int)))] ++ List.replicate 1 none) [] = some (((List.range (lng ls)).map (fun r : Nat => (((rgot ls ws).count (1 + (r : Int)) : Nat) : Int))).map PyData.int) := by
    have hrl : (zbE 1 (((lng ls : Nat) : Int) + 1)).length = lng ls := by rw [zbs]; omega
    refine zbD (fun ρ => ∃ x, ρ = [some (.pub (zaA cs ls)), some (.pub (zav ws)), some (.pub (.list ((rgot ls ws).map PyData.int))), x]) _ _ _ _ (by rw [hrl, List.length_map, List.length_map, List.length_range]) ?_ ⟨none, rfl⟩ (by rw [hrl, List.length_nil]; omega)
    rintro i d e hd he ρ ⟨x, rfl⟩
    obtain ⟨rfl, hlt⟩ := zcq hd
    have hi : i < lng ls := by omega
    rw [List.getElem?_map, List.getElem?_map, List.getElem?_eq_getElem (by rw [List.length_range]; exact hi), List.getElem_range] at he
    cases he
    exact ⟨_, tg_N (of_decide_eq_true rfl) rfl, rfl, zd0 (zad rfl) (zab (zad rfl) zak) zeZ, _, rfl⟩
  refine zaI (zar (zau (zbv (zgP (zab zae (zab (zar (zaw (zab (zad rfl) zak) rfl (ziv g)) zae za6) zak)) (zht (by omega) (by omega) (by decide) (by decide))) hc)) (zbx (zab (zd0 (zad rfl) (zab zae zak) zeZ) zak) (of_decide_eq_true rfl)) (zbO (by rw [List.length_map, List.length_map, List.length_range]; show lng ls + 1 <= _; omega))) ?_
  unfold cnts
  rw [List.map_append]
  rfl
end
def plc (L : Nat) (r : Int) : Nat := if r = 0 then L else (r - 1).toNat
def okR (L : Nat) (got : List Int) : Prop := ∀ r ∈ got, 0 <= r /\ r <= L
theorem zlr {L : Nat} {got : List Int} (h : okR L got) {p : Nat} (hp : p < L + 1) : (cnts L got)[p]? = some (((got.map (plc L)).count p : Nat) : Int) := by
  unfold cnts
  have key : ∀ r ∈ got, (plc L r = p ↔ r = if p = L then 0 else 1 + (p : Int)) := fun r hr => by
    have := h r hr
    unfold plc
    split <;> split <;> omega
  have cnt : (got.map (plc L)).count p = got.count (if p = L then 0 else 1 + (p : Int)) := by
    rw [List.count, List.countP_map, List.count]
    apply List.countP_congr
    intro r hr
    have := key r hr
    simp only [Function.comp, beq_iff_eq]
    exact this
  by_cases hpl : p = L
  · subst hpl
    rw [List.getElem?_append_right (by rw [List.length_map, List.length_range]; exact Nat.le_refl _), List.length_map, List.length_range, Nat.sub_self, cnt, if_pos rfl]
    rfl
  · rw [List.getElem?_append_left (by rw [List.length_map, List.length_range]; omega), List.getElem?_map, List.getElem?_eq_getElem (by rw [List.length_range]; omega), List.getElem_range, cnt, if_neg hpl]
    rfl
theorem zc0 (L : Nat) (got : List Int) : (cnts L got).length = L + 1 := by
  unfold cnts; rw [List.length_append, List.length_map, List.length_range]; rfl
def zha (xs : List Int) (p : Nat) (d : Int) : List Int := xs.set p (xs.getD p 0 + d)
theorem zj2 {xs : List Int} {p : Nat} {d : Int} : (zha xs p d).length = xs.length := by unfold zha; rw [List.length_set]
theorem zj3 {xs : List Int} {p q : Nat} {d v : Int} (h : xs[q]? = some v) : (zha xs p d)[q]? = some (if q = p then v + d else v) := by
  unfold zha
  have hq : q < xs.length := (List.getElem?_eq_some_iff.mp h).1
  by_cases e : q = p
  · subst e
    rw [List.getElem?_set_self hq, if_pos rfl]
    simp [List.getD, h]
  · rw [List.getElem?_set_ne (fun z => e z.symm), if_neg e, h]
theorem zj4 {ls : List (List (List Int))} {ws : List (Option Int)} : okR (lng ls) (rgot ls ws) := fun r hr => by
  unfold rgot at hr
  obtain ⟨i, hi, e⟩ := List.mem_iff_getElem.mp hr
  rw [List.getElem_zipWith] at e
  rw [List.length_zipWith] at hi
  have hm : ls[i]'(by omega) ∈ ls := List.getElem_mem _
  have h1 := zlS hm
  rw [← e]
  cases ws[i]'(by omega) with
  | none => exact ⟨Int.le_refl _, by show (0 : Int) <= _; omega⟩
  | some t =>
    have h2 := zgg t (ls[i]'(by omega))
    exact ⟨by show (0 : Int) <= ((zbG t _ : Nat) : Int); omega, by show ((zbG t _ : Nat) : Int) <= _; omega⟩
theorem zm9 {d : D} (h1 : d.canLay0 = true) (h2 : d.depth <= 60) : oNe d d = some false := by
  unfold oNe
  rw [if_pos ⟨h1, h1, h2⟩, zfm _ h1]; rfl
theorem zj5 {op : Int -> Int -> Option D} {j : Nat} {f g : M D} {ρ ρ1 ρ2 ρ' : DEnv} {ds0 ds es : List D} {a b k : Int} {d : D} {n : Nat} (h0 : ρ[j]? = some (some (.own ds0))) (h1 : g ρ = .ok (.int k) ρ1) (h2 : ρ1[j]? = some (some (.own ds))) (h3 : atI ds k = some (.int a)) (h4 : f ρ1 = .ok (.int b) ρ2) (h5 : op a b = some d)
    (h6 : ρ2[j]? = some (some (.own es))) (h7 : ixN es.length k = some n) (h8 : ρ2.set j (some (.own (es.set n d))) = ρ') : zfZ op j g f ρ = .nx ρ' := by
  unfold zfZ
  rw [zfg h0]
  dsimp only
  unfold sB
  rw [h1]
  dsimp only
  rw [zfg h2]
  dsimp only [Option.bind_some]
  rw [h3]
  dsimp only
  rw [h4]
  dsimp only
  rw [h5, zfg h6]
  dsimp only
  rw [h7]
  dsimp only
  rw [h8]
theorem zna {n p : Nat} (h : p < n) : ixN n (p : Int) = some p := by
  unfold ixN
  rw [if_pos (by omega), if_pos (by omega), Int.toNat_natCast]
theorem znb {op : Int -> Int -> Option D} {j : Nat} {f g : M D} {ρ ρ' : DEnv} {xs : List Int} {p : Nat} {d b : Int} (h0 : ρ[j]? = some (some (.own (xs.map PyData.int)))) (h1 : g ρ = .ok (.int p) ρ) (hp : p < xs.length) (h4 : f ρ = .ok (.int b) ρ) (h5 : ∀ a, op a b = some (.int (a + d)))
    (h8 : ρ.set j (some (.own ((zha xs p d).map PyData.int))) = ρ') : zfZ op j g f ρ = .nx ρ' := by
  refine zj5 (n := p) h0 h1 h0 (a := xs.getD p 0) (zaO ?_) h4 (h5 _) h0 (by rw [List.length_map]; exact zna hp) ?_
  · rw [List.getElem?_map, List.getElem?_eq_getElem hp]; simp [List.getD, List.getElem?_eq_getElem hp]
  · rw [← h8, zfd]; rfl
theorem zlT {a b : Option Int} : oEq (optD a) (optD b) = some (decide (a = b)) := by
  unfold oEq
  rw [if_pos ⟨by cases a <;> rfl, by cases b <;> rfl, by cases a <;> simp [optD, PyData.depth]⟩, zj0]
section
variable {cs : List Int} {ls : List (List (List Int))} {ws : List (Option Int)} {a : Nat} {o had : Option Int} {rs : List (List Int)} {t : Int}
theorem lt_int {i j : Int} : (oIB fun i j => decide (i < j)) (.int i) (.int j) = some (decide (i < j)) := rfl
end
theorem zb6.flat {n : Nat} {rs : List (List Int)} (g : zb6 n rs) : ∀ t ∈ rs.flatten, 0 <= t /\ t < n := fun t ht => by
  obtain ⟨r, h1, h2⟩ := List.mem_flatten.mp ht
  exact g.there r h1 t h2
def fnz : List Int -> Int
  | [] => 0
  | x :: r => if x = 0 then fnz r else x
def bsT (g : Int) : Str := if g = 0 then "alike" else if 0 < g then "better" else "worse"
inductive Ord where | firsts | full | lasts
def Ord.tx : Ord -> Str
  | .firsts => "firsts" | .full => "full" | .lasts => "lasts"
def Ord.isF : Ord -> Bool
  | .firsts => true | _ => false
def Ord.isU : Ord -> Bool
  | .full => true | _ => false
theorem zpk (o : Ord) : oEq (.str o.tx) (.str "firsts") = some o.isF := by cases o <;> decide +kernel
theorem zhH (o : Ord) : oEq (.str o.tx) (.str "full") = some o.isU := by cases o <;> decide +kernel
def zbp (xs ys : List Int) : List Int := (xs.zip ys).map fun p => p.1 - p.2
def zeF (o : Ord) (xs ys : List Int) : List Int := match o with
  | .firsts => zbp xs ys
  | .full => ((zbp xs ys).map fun x => -x).drop ((zbp xs ys).length - 1) ++ zbp xs ys
  | .lasts => ((zbp xs ys).map fun x => -x).reverse
theorem zfq (o : Ord) : F_al [.str o.tx] = some (.bool true) := by
  refine za9 (ρ := [some (.pub (.str o.tx))]) rfl ?_
  unfold g_al
  have h : oIn (.str o.tx) (.tuple ((["firsts", "full", "lasts"] : List Str).map PyData.str)) = some true := by cases o <;> decide +kernel
  exact zaI (zdD (zau (k := fun d => PyData.bool (isTy d "str")) (zad rfl)) (fun _ => zau (zaN rfl zae h))) rfl
theorem zgj (o : Ord) : F_am [.str o.tx] = some .none := by
  refine zfX (ρ := [some (.pub (.str o.tx))]) rfl ?_
  unfold g_am
  apply zaU
  case h1 => exact zb9 (zbu (zaw (zab (zad rfl) zak) rfl (zfq o)))
  case h2 => intro h; cases h
  case h3 => exact fun _ => zbc ⟨_, rfl⟩
theorem zj6 (o : Ord) {xs ys : List Int} (hx : xs.length <= 1000) : F_an [.str o.tx, .list (xs.map PyData.int), .list (ys.map PyData.int)] = some (.list ((zeF o xs ys).map PyData.int)) := by
  refine za9 (ρ := [some (.pub (.str o.tx)), some (.pub (.list (xs.map PyData.int))), some (.pub (.list (ys.map PyData.int))), none, none]) rfl ?_
  unfold g_an
  have hzl : (xs.zip ys).length <= 1000 := by rw [List.length_zip]; omega
  have hc1 : za4 (gT 2 (gNC (gN 5) (gNC (gN 6) (gN0)))) (zah true) (dBin oSub (dVar 5) (dVar 6)) (zipD (xs.map PyData.int) (ys.map PyData.int)) (zaL [some (.pub (.str o.tx)), some (.pub (.list (xs.map PyData.int))), some (.pub (.list (ys.map PyData.int))), none, none] ++ List.replicate 2 none) [] = some ((zbp xs ys).map PyData.int) := by
    rw [zem, zb2 (fun _ => true) (fun d => match d with | .tuple [.int a, .int b] => .int (a - b) | _ => .none) (fun ρ => ∃ x y, ρ = [some (.pub (.str o.tx)), some (.pub (.list (xs.map PyData.int))), some (.pub (.list (ys.map PyData.int))), none, none, x, y])]
    · rw [List.filter_eq_self.mpr (fun _ _ => rfl), List.nil_append, List.map_map]
      unfold zbp
      rw [List.map_map]
      rfl
    · rintro d hm ρ ⟨x, y, rfl⟩
      obtain ⟨p, _, rfl⟩ := List.mem_map.mp hm
      exact ⟨_, tg_T rfl (tg_C (tg_N (of_decide_eq_true rfl) rfl) (tg_C (tg_N (of_decide_eq_true rfl) rfl) tg_0)), rfl, fun _ => zar (zad rfl) (zad rfl) zcU, _, _, rfl⟩
    · exact ⟨none, none, rfl⟩
    · rw [List.length_map, List.length_nil]; omega
  have hml : (zbp xs ys).length <= 1000 := by unfold zbp; rw [List.length_map]; exact hzl
  refine zap (zbn (zbv (zfW (zab (zad rfl) (zab (zad rfl) zak)) rfl) hc1) (of_decide_eq_true rfl) rfl) ?_
  have hc2 : za4 (gN 5) (zah true) (dNeg (dVar 5)) ((zbp xs ys).map PyData.int) (zaL [some (.pub (.str o.tx)), some (.pub (.list (xs.map PyData.int))), some (.pub (.list (ys.map PyData.int))), some (.pub (.list ((zbp xs ys).map PyData.int))), none] ++ List.replicate 1 none) [] = some (((zbp xs ys).map fun x => -x).map PyData.int) := by
    rw [zb2 (fun _ => true) (fun d => match d with | .int a => .int (-a) | _ => .none) (fun ρ => ∃ x, ρ = [some (.pub (.str o.tx)), some (.pub (.list (xs.map PyData.int))), some (.pub (.list (ys.map PyData.int))), some (.pub (.list ((zbp xs ys).map PyData.int))), none, x])]
    · rw [List.filter_eq_self.mpr (fun _ _ => rfl), List.nil_append, List.map_map, List.map_map]
      rfl
    · rintro d hm ρ ⟨x, rfl⟩
      obtain ⟨p, _, rfl⟩ := List.mem_map.mp hm
      exact ⟨_, tg_N (of_decide_eq_true rfl) rfl, rfl, fun _ => zdl (zad rfl), _, rfl⟩
    · exact ⟨none, rfl⟩
    · rw [List.length_map, List.length_nil]; omega
  apply zaG
  have e1 := zpk o
  have e2 := zhH o
  apply zaU
  case h1 => exact zaN rfl zae e1
  case h2 =>
    intro h
    cases o with
    | firsts => exact zaI (zbi rfl rfl) (zbP rfl)
    | _ => cases h
  case h3 =>
    intro h1
    refine zbc (zat ?_)
    refine zap (zbn (zbv (za0 (zbi rfl rfl) zbI) hc2) (of_decide_eq_true rfl) rfl) ?_
    generalize hneg : ((zbp xs ys).map fun x => -x) = neg
    have hnl : neg.length = (zbp xs ys).length := by rw [← hneg, List.length_map]
    apply zaG
    apply zaU
    case h1 => exact zaN rfl zae e2
    case h2 =>
      intro h
      cases o with
      | full =>
        have hcut : DL.cutD (neg.map PyData.int) (some (-1)) none = (neg.drop (neg.length - 1)).map PyData.int := by
          unfold DL.cutD HT.sIx
          dsimp only
          rw [if_pos (by decide), List.length_map]
          have : ((-1 : Int) + (neg.length : Int)).toNat = neg.length - 1 := by omega
          rw [this, ← List.map_drop, List.take_of_length_le (by rw [List.length_map, List.length_drop]; omega)]
        refine zaI (zar (zeP (zbi rfl rfl) (zbZ (zdl zae)) zae (by rw [zcX, hcut])) (zad rfl) (zbO (by rw [List.length_map, List.length_map, List.length_drop]; omega))) (zbP ?_)
        unfold zeF
        dsimp only
        rw [hneg, ← hnl, List.map_append]
      | _ => cases h
    case h3 =>
      intro h2
      refine zbc (zat ?_)
      cases o with
      | lasts =>
        refine zaI (zjo (zbi rfl rfl) zae zae (zbZ (zdl zae))) ?_
        unfold zeF
        dsimp only
        rw [hneg, List.map_reverse]
      | firsts => cases h1
      | full => cases h2
theorem zls {g : List Int} {i : Nat} {z : Int} (h : g[i]? = some z) : fnz (g.drop i) = if z = 0 then fnz (g.drop (i + 1)) else z := by
  obtain ⟨hl, e⟩ := List.getElem?_eq_some_iff.mp h
  rw [List.drop_eq_getElem_cons hl, e]
  rfl
theorem zhb (o : Ord) {xs ys : List Int} (hx : xs.length <= 1000) : F_ao [.str o.tx, .list (xs.map PyData.int), .list (ys.map PyData.int)] = some (.str (bsT (fnz (zeF o xs ys)))) := by
  refine za9 (ρ := [some (.pub (.str o.tx)), some (.pub (.list (xs.map PyData.int))), some (.pub (.list (ys.map PyData.int))), none]) rfl ?_
  unfold g_ao
  refine zap (zcE (zaw (zab (zad rfl) zak) rfl (zgj o))) ?_
  have hg := zj6 o (ys := ys) hx
  generalize zeF o xs ys = g at hg
  apply zaG
  apply zb1 (fun i ρ => (∃ x, ρ = [some (.pub (.str o.tx)), some (.pub (.list (xs.map PyData.int))), some (.pub (.list (ys.map PyData.int))), x]) /\ fnz g = fnz (g.drop i))
  case h1 => exact za0 (zaw (zab (zad rfl) (zab (zad rfl) (zab (zad rfl) zak))) rfl hg) zbI
  case h0 => exact ⟨⟨none, rfl⟩, rfl⟩
  case hst =>
    rintro i d ρ hi ⟨⟨x, rfl⟩, hf⟩
    rw [List.getElem?_map] at hi
    cases hz : g[i]? with
    | none => rw [hz] at hi; cases hi
    | some z =>
    rw [hz] at hi
    cases hi
    rw [zls hz] at hf
    refine ⟨_, tg_N (of_decide_eq_true rfl) rfl, ?_⟩
    unfold zjG
    apply zaU
    case h1 => exact zaN rfl zae zcV
    case h2 =>
      intro h
      have hz0 : z ≠ 0 := by simpa using h
      rw [if_neg hz0] at hf
      by_cases hp : 0 < z
      · refine zaI (zoi (by rw [show true = decide (0 < z) by simp [hp]]; exact zaN rfl zae rfl) zae) (zcF (zbP ?_))
        unfold bsT
        rw [hf, if_neg hz0, if_pos hp]
      · refine zaI (zoj (by rw [show false = decide (0 < z) by simp [hp]]; exact zaN rfl zae rfl) zae) (zcF (zbP ?_))
        unfold bsT
        rw [hf, if_neg hz0, if_neg hp]
    case h3 =>
      intro h
      have hz0 : z = 0 := by simpa using h
      rw [if_pos hz0] at hf
      exact zbc (za8 ⟨⟨_, rfl⟩, hf⟩)
  case hend =>
    rintro ρ ⟨⟨x, rfl⟩, hf⟩
    refine zat (zaI zae ?_)
    rw [List.length_map, List.drop_length] at hf
    have : fnz g = 0 := hf
    unfold bsT
    rw [this]
    rfl
def oldD : Option (List (Option Int)) -> D
  | none => .none
  | some ws => zav ws
def aimD (o : Ord) (old : Option (List (Option Int))) (ts : List Int) : D := .tuple [.str o.tx, oldD old, .list (ts.map PyData.int)]
structure zbQ (n m : Nat) (old : Option (List (Option Int))) (ts : List Int) : Prop where
  len : ∀ ws, old = some ws -> ws.length = m
  old : ∀ ws t, old = some ws -> some t ∈ ws -> 0 <= t /\ t < n
  once : ts.Nodup
  there : ∀ a ∈ ts, 0 <= a /\ a < m
theorem zbQ.few {n m : Nat} {old : Option (List (Option Int))} {ts : List Int} (g : zbQ n m old ts) : ts.length <= m := zcI m ts g.once g.there
theorem zj7 {n m : Nat} {old : Option (List (Option Int))} (h1 : ∀ ws, old = some ws -> ws.length = m) (h2 : ∀ ws t, old = some ws -> some t ∈ ws -> 0 <= t /\ t < n) (hm : m <= 1000) : F_ap [oldD old, .int m, .int n] = some (.bool true) := by
  refine za9 (ρ := [some (.pub (oldD old)), some (.pub (.int m)), some (.pub (.int n))]) rfl ?_
  unfold g_ap
  apply zaG
  cases old with
  | none =>
    apply zaU
    case h1 => exact zau (zad rfl)
    case h2 => exact fun _ => zaI zae (zbP rfl)
    case h3 => intro hh; cases hh
  | some ws =>
    have hl := h1 ws rfl
    have hlen : oLen [zav ws] = some (.int m) := by unfold zav; rw [zaT, List.length_map, hl]
    apply zaU
    case h1 => exact zau (zad rfl)
    case h2 => intro hh; cases hh
    case h3 =>
      intro _
      refine zbc (zat ?_)
      apply zaG
      apply zaU
      case h1 => exact zc7 (ρ1 := [some (.pub (zav ws)), some (.pub (.int m)), some (.pub (.int n))]) (zck (zad rfl) rfl) (zar (za5 rfl hlen) (zad rfl) zcV)
      case h2 => intro hh; simp at hh
      case h3 =>
        intro _
        refine zbc (zat ?_)
        have hc : za4 (gN 3) (zah true) (mOrV (mMap (fun d => .bool (isNon d)) (dVar 3)) (dFun 2 F_ab (zaf (dVar 3) (zaf (dVar 2) (mNil))))) (ws.map optD) (zaL [some (.pub (zav ws)), some (.pub (.int m)), some (.pub (.int n))] ++ List.replicate 1 none) [] = some (ws.map fun _ => .bool true) := by
          refine zbD (fun ρ => ∃ x, ρ = [some (.pub (zav ws)), some (.pub (.int m)), some (.pub (.int n)), x]) _ _ _ _ (by simp only [List.length_map]) ?_ ⟨none, rfl⟩ (by rw [List.length_map, List.length_nil]; omega)
          rintro i d e hd he ρ ⟨x, rfl⟩
          rw [List.getElem?_map] at hd he
          cases hw : ws[i]? with
          | none => rw [hw] at hd; cases hd
          | some o =>
          rw [hw] at hd he
          cases hd
          cases he
          refine ⟨_, tg_N (of_decide_eq_true rfl) rfl, rfl, ?_, _, rfl⟩
          cases o with
          | none => exact zjl (t := true) (u := true) (zau (k := fun d => PyData.bool (isNon d)) (x := .none) (zad rfl)) (fun h => nomatch h)
          | some t =>
            have hb := h2 ws t rfl (List.mem_of_getElem? hw)
            exact zjl (t := false) (u := true) (zau (k := fun d => PyData.bool (isNon d)) (x := .int t) (zad rfl)) (fun _ => zaw (zab (zad rfl) (zab (zad rfl) zak)) rfl (zds hb.1 hb.2))
        exact zaI (zbj (zab (zau (zbv (za0 (zad rfl) rfl) hc)) zak) (zdt ws)) rfl
theorem zhc {m : Nat} {ts : List Int} (h1 : ts.Nodup) (h2 : ∀ a ∈ ts, 0 <= a /\ a < m) (hm : m <= 1000) : F_aq [.list (ts.map PyData.int), .int m] = some (.bool true) := by
  refine za9 (ρ := [some (.pub (.list (ts.map PyData.int))), some (.pub (.int m))]) rfl ?_
  unfold g_aq
  have hl := zcI m ts h1 h2
  apply zaG
  have hc : za4 (gN 2) (zah true) (dFun 2 F_ab (zaf (dVar 2) (zaf (dVar 1) (mNil)))) (ts.map PyData.int) (zaL [some (.pub (.list (ts.map PyData.int))), some (.pub (.int m))] ++ List.replicate 1 none) [] = some (ts.map fun _ => .bool true) := by
    refine zbD (fun ρ => ∃ x, ρ = [some (.pub (.list (ts.map PyData.int))), some (.pub (.int m)), x]) _ _ _ _ (by simp only [List.length_map]) ?_ ⟨none, rfl⟩ (by rw [List.length_map, List.length_nil]; omega)
    rintro i d e hd he ρ ⟨x, rfl⟩
    rw [List.getElem?_map] at hd he
    cases hw : ts[i]? with
    | none => rw [hw] at hd; cases hd
    | some t =>
    rw [hw] at hd he
    cases hd
    cases he
    have hb := h2 t (List.mem_of_getElem? hw)
    exact ⟨_, tg_N (of_decide_eq_true rfl) rfl, rfl, zaw (zab (zad rfl) (zab (zad rfl) zak)) rfl (zds hb.1 hb.2), _, rfl⟩
  apply zaU
  case h1 => exact zc7 (ρ1 := [some (.pub (.list (ts.map PyData.int))), some (.pub (.int m))]) (zck (zad rfl) rfl) (zb9 (zbu (zbj (zab (zau (zbv (za0 (zad rfl) zbI) hc)) zak) (zdt ts))))
  case h2 => intro hh; cases hh
  case h3 =>
    intro _
    refine zbc (zat ?_)
    have hs : zcA [.list (ts.map PyData.int)] = some (.int ts.length) := by
      unfold zcA
      dsimp only
      rw [zcc]
      dsimp only
      rw [if_pos (by omega), zeV h1]
    have hlen : oLen [.list (ts.map PyData.int)] = some (.int ts.length) := by rw [zaT, List.length_map]
    refine zaI (zau (zar (zbj (zab (zad rfl) zak) hs) (za5 rfl hlen) zcD)) ?_
    simp
section
variable {cs : List Int} {ls : List (List (List Int))} {o : Ord} {old : Option (List (Option Int))} {ts : List Int}
theorem zpl (g : Good cs ls) (ga : zbQ cs.length ls.length old ts) : F_ar [zaA cs ls, aimD o old ts] = some .none := by
  refine zfX (ρ := [some (.pub (zaA cs ls)), some (.pub (aimD o old ts)), none, none, none, none, none]) rfl ?_
  unfold g_ar
  have l7 := g.l7; have c6 := g.c6
  have hll : oLen [.list (ls.map zaE)] = some (.int ls.length) := by rw [zaT, List.length_map]
  have hlc : oLen [.list (cs.map PyData.int)] = some (.int cs.length) := by rw [zaT, List.length_map]
  refine zap (zcE (zaw (zab (zad rfl) zak) rfl (zes g))) ?_
  apply zaG
  apply zaU
  case h1 => exact zc7 (ρ1 := [some (.pub (zaA cs ls)), some (.pub (aimD o old ts)), none, none, none, none, none]) (zck (zad rfl) rfl) (zar (za5 rfl (show oLen [aimD o old ts] = some (.int 3) from rfl)) zae zcV)
  case h2 => intro hh; simp at hh
  case h3 =>
    intro _
    refine zbc (zat ?_)
    refine zap (zdQ (zad rfl) (tg_T rfl (tg_C (tg_N (of_decide_eq_true rfl) rfl) (tg_C (tg_N (of_decide_eq_true rfl) rfl) tg_0)))) ?_
    refine zap (zdQ (zad rfl) (tg_T rfl (tg_C (tg_N (of_decide_eq_true rfl) rfl) (tg_C (tg_N (of_decide_eq_true rfl) rfl) (tg_C (tg_N (of_decide_eq_true rfl) rfl) tg_0))))) ?_
    refine zap (zcE (zaw (zab (zad rfl) zak) rfl (zgj o))) ?_
    apply zaG
    apply zaU
    case h1 => exact zb9 (zbu (zaw (zab (zad rfl) (zab (za5 rfl hll) (zab (za5 rfl hlc) zak))) rfl (zj7 ga.len ga.old (by omega))))
    case h2 => intro hh; cases hh
    case h3 =>
      intro _
      refine zbc (zat ?_)
      apply zaU
      case h1 => exact zb9 (zbu (zaw (zab (zad rfl) (zab (za5 rfl hll) zak)) rfl (zhc ga.once ga.there (by omega))))
      case h2 => intro hh; cases hh
      case h3 => exact fun _ => zbc ⟨_, rfl⟩
end
theorem zhd {t : Int} {r : List Int} : oIn (.int t) (.list (r.map PyData.int)) = some (r.contains t) := zg5 t r
theorem ze0 {c s w sz dg x6 : Option Sl} {m : Nat} {T : List Int} (hm : 0 < m) : ∀ (k fuel d : Nat), (∀ j, j < k -> (((d + j) % m : Nat) : Int) ∈ T) -> (((d + k) % m : Nat) : Int) ∉ T -> d < m -> k < fuel ->
    zc8 (zii oIn (dVar 8) 7) zfk fuel [w, c, s, some (.pub (.int m)), sz, dg, x6, some (.own (T.map PyData.int)), some (.pub (.int d))] = .nx [w, c, s, some (.pub (.int m)), sz, dg, x6, some (.own (T.map PyData.int)), some (.pub (.int (((d + k) % m : Nat) : Int)))]
  | 0, fuel + 1, d, _, hn, hd, _ => by
    have e0 : (d + 0) % m = d := by rw [Nat.add_zero]; exact Nat.mod_eq_of_lt hd
    rw [e0] at hn ⊢
    have e : (T.contains (d : Int)) = false := by simpa using hn
    rw [zc8, zhC (r := false) (zad rfl) rfl (by rw [zhd, e])]
    rfl
  | k + 1, fuel + 1, d, hj, hn, hd, hf => by
    have h0 := hj 0 (by omega)
    rw [Nat.add_zero, Nat.mod_eq_of_lt hd] at h0
    have e : (T.contains (d : Int)) = true := by simpa using h0
    rw [zc8, zhC (r := true) (zad rfl) rfl (by rw [zhd, e])]
    dsimp only
    rw [if_pos rfl]
    have hst : zfk [w, c, s, some (.pub (.int m)), sz, dg, x6, some (.own (T.map PyData.int)), some (.pub (.int d))] = .nx [w, c, s, some (.pub (.int m)), sz, dg, x6, some (.own (T.map PyData.int)), some (.pub (.int (((d + 1) % m : Nat) : Int)))] := by
      unfold zfk
      refine zaZ (zar (zar (zad rfl) zae za6) (zad rfl) (zdb (by omega))) (of_decide_eq_true rfl) ?_
      have e1 : ((d + 1 : Nat) : Int) = (d : Int) + 1 := by omega
      have : ((d : Int) + 1) % (m : Int) = (((d + 1) % m : Nat) : Int) := by rw [Int.natCast_emod, e1]
      rw [this]; rfl
    rw [hst]
    dsimp only
    have e2 : ∀ j, ((d + 1) % m + j) % m = (d + (j + 1)) % m := fun j => by rw [Nat.mod_add_mod]; congr 1; omega
    have := ze0 (c := c) (s := s) (w := w) (sz := sz) (dg := dg) (x6 := x6) (T := T) hm k fuel ((d + 1) % m) (fun j hjk => by rw [e2]; exact hj (j + 1) (by omega)) (by rw [e2]; exact hn) (Nat.mod_lt _ hm) (by omega)
    rw [e2] at this
    exact this
theorem zgk : ∀ (a b : List Int), a.Nodup -> (∀ x ∈ a, x ∈ b) -> a.length <= b.length
  | [], _, _, _ => Nat.zero_le _
  | x :: a, b, hn, h => by
    have hx := h x List.mem_cons_self
    have hn' := List.nodup_cons.mp hn
    have := zgk a (b.erase x) hn'.2 fun y hy => by
      have hne : y ≠ x := fun e => hn'.1 (e ▸ hy)
      exact (List.mem_erase_of_ne hne).mpr (h y (List.mem_cons_of_mem _ hy))
    rw [List.length_erase_of_mem hx] at this
    have hp := List.length_pos_of_mem hx
    rw [List.length_cons]
    omega
theorem ziw {m : Nat} {T : List Int} (d : Nat) (hl : T.length < m) (hn : T.Nodup) : ∃ k, k < m /\ (∀ j, j < k -> (((d + j) % m : Nat) : Int) ∈ T) /\ (((d + k) % m : Nat) : Int) ∉ T := by
  have ex : ∃ k, k < m /\ (((d + k) % m : Nat) : Int) ∉ T := by
    refine Classical.byContradiction fun hno => ?_
    have all : ∀ k, k < m -> (((d + k) % m : Nat) : Int) ∈ T := fun k hk => Classical.byContradiction fun z => hno ⟨k, hk, z⟩
    have hsub : ∀ x : Nat, x < m -> ((x : Nat) : Int) ∈ T := fun x hx => by
      have h1 := all ((x + m - d % m) % m) (Nat.mod_lt _ (by omega))
      have e : (d + (x + m - d % m) % m) % m = x := by
        have hdm : d % m < m := Nat.mod_lt _ (by omega)
        rw [Nat.add_mod_mod, ← Nat.mod_add_mod]
        rw [show d % m + (x + m - d % m) = x + m by omega, Nat.add_mod_right, Nat.mod_eq_of_lt hx]
      rw [e] at h1
      exact h1
    have := zgk ((List.range m).map fun x : Nat => (x : Int)) T (List.Pairwise.map _ (fun a b h e => h (by omega)) List.nodup_range) (fun t ht => by
      obtain ⟨x, hx, rfl⟩ := List.mem_map.mp ht
      exact hsub x (List.mem_range.mp hx))
    rw [List.length_map, List.length_range] at this
    omega
  obtain ⟨k, hk, hkn⟩ := ex
  induction k using Nat.strongRecOn with
  | _ k ih =>
    by_cases h : ∀ j, j < k -> (((d + j) % m : Nat) : Int) ∈ T
    · exact ⟨k, hk, h, hkn⟩
    · obtain ⟨j, hj⟩ := Classical.not_forall.mp h
      obtain ⟨hj1, hj2⟩ := Classical.not_imp.mp hj
      exact ih j hj1 (by omega) hj2
theorem zlU {x : D} {m : Nat} (h : m <= 1000) : oMul (.list [x]) (.int m) = some (.list (List.replicate m x)) := by
  rw [zcW ⟨by omega, by omega, by show 1 * _ <= _; omega⟩]
  congr 2
  rw [Int.toNat_natCast]
  clear h
  induction m with
  | zero => rfl
  | succ n ih => rw [List.replicate_succ, List.flatten_cons, ih, List.replicate_succ]; rfl
def szA (n m : Nat) : List Int := [3, 2, (m : Int) + 1] ++ List.replicate m ((n : Int) + 1) ++ List.replicate m (m : Int)
theorem zj8 (n m : Nat) : (szA n m).length = 3 + m + m := by unfold szA; rw [List.length_append, List.length_append, List.length_replicate, List.length_replicate]; rfl
theorem znc {n m j : Nat} (h : j < m) : (szA n m)[3 + j]? = some ((n : Int) + 1) := by
  unfold szA
  rw [List.getElem?_append_left (by rw [List.length_append, List.length_replicate]; show 3 + j < 3 + m; omega), List.getElem?_append_right (by show 3 <= 3 + j; omega)]
  show (List.replicate m ((n : Int) + 1))[3 + j - 3]? = _
  rw [Nat.add_sub_cancel_left, List.getElem?_replicate, if_pos h]
theorem zlt {n m j : Nat} (h : j < m) : (szA n m)[3 + m + j]? = some (m : Int) := by
  unfold szA
  have e : ([3, 2, (m : Int) + 1] ++ List.replicate m ((n : Int) + 1)).length = 3 + m := by rw [List.length_append, List.length_replicate]; rfl
  rw [List.getElem?_append_right (by rw [e]; omega), e, Nat.add_sub_cancel_left, List.getElem?_replicate, if_pos h]
section
variable {cs : List Int} {ls : List (List (List Int))}
def zj9 (d : Int) : Option Int := if 0 < d then some (d - 1) else none
theorem zlu (d : Int) : oIx (.list [.none, .int (d - 1)]) (.int (if decide (0 < d) = true then 1 else 0)) = some (optD (zj9 d)) := by
  unfold zj9
  by_cases h : 0 < d
  · rw [decide_eq_true h, if_pos rfl, if_pos h]; exact zaO (j := 1) rfl
  · rw [decide_eq_false h, if_neg (by decide), if_neg h]; exact zaO (j := 0) rfl
theorem zlv (g : Good cs ls) (c s : Int) : ∃ r, F_bc [zaA cs ls, .int c, .int s] = some r /\ ∃ o old ts, r = aimD o old ts /\ zbQ cs.length ls.length old ts := by
  refine zek (ρ := [some (.pub (zaA cs ls)), some (.pub (.int c)), some (.pub (.int s)), none, none, none, none, none, none]) rfl ?_
  unfold g_bc
  have l7 := g.l7; have l1 := g.l1; have c6 := g.c6; have c1 := g.c1
  have hll : oLen [.list (ls.map zaE)] = some (.int ls.length) := by rw [zaT, List.length_map]
  have hlc : oLen [.list (cs.map PyData.int)] = some (.int cs.length) := by rw [zaT, List.length_map]
  generalize hm : ls.length = m at *
  generalize hn : cs.length = n at *
  refine zap (zaZ (zbj (zab (zbo rfl zae zg9) zak) hll) (of_decide_eq_true rfl) rfl) ?_
  have s1 : oAdd (.list [.int 3, .int 2, .int ((m : Int) + 1)]) (.list (List.replicate m (.int ((n : Int) + 1)))) = some (.list (([3, 2, (m : Int) + 1] ++ List.replicate m ((n : Int) + 1)).map PyData.int)) := by
    rw [zbO (by rw [List.length_replicate]; show 3 + m <= _; omega), List.map_append, List.map_replicate]; rfl
  refine zap (zaZ (zar (zbx (zab zae (zab zae (zab (zar (zad rfl) zae za6) zak))) (of_decide_eq_true rfl)) (zar (zbx (zab (zar (zbj (zab (zbo rfl zae zm8) zak) hlc) zae za6) zak) (of_decide_eq_true rfl)) (zad rfl) (zlU (by omega))) s1) (of_decide_eq_true rfl) rfl) ?_
  have s2 : oAdd (.list (([3, 2, (m : Int) + 1] ++ List.replicate m ((n : Int) + 1)).map PyData.int)) (.list (List.replicate m (.int (m : Int)))) = some (.list ((szA n m).map PyData.int)) := by
    rw [zbO (by rw [List.length_map, List.length_append, List.length_replicate, List.length_replicate]; show 3 + m + m <= _; omega)]
    unfold szA
    rw [List.map_append (l₂ := List.replicate m (m : Int)), List.map_replicate (n := m) (a := (m : Int))]
  obtain ⟨r, hF, dg, rfl, hdl, hdb⟩ := zb3 c s (sizes := szA n m) (fun x hx => by
    unfold szA at hx
    rcases List.mem_append.mp hx with hx | hx
    · rcases List.mem_append.mp hx with hx | hx
      · have hx : x = 3 ∨ x = 2 ∨ x = (m : Int) + 1 := by simpa using hx
        omega
      · rw [(List.mem_replicate.mp hx).2]; omega
    · rw [(List.mem_replicate.mp hx).2]; omega) (by rw [zj8]; omega)
  rw [zj8] at hdl
  refine zap (zaZ (zaw (zab (zad rfl) (zab (zad rfl) (zab (zar (zad rfl) (zar (zbx (zab (zad rfl) zak) (of_decide_eq_true rfl)) (zad rfl) (zlU (by omega))) s2) zak))) rfl hF) (of_decide_eq_true rfl) rfl) ?_
  have get : ∀ j, j < 3 + m + m -> ∃ d, dg[j]? = some d := fun j hj => ⟨dg[j]'(by omega), List.getElem?_eq_getElem _⟩
  obtain ⟨d0, e0⟩ := get 0 (by omega)
  obtain ⟨d1, e1⟩ := get 1 (by omega)
  obtain ⟨d2, e2⟩ := get 2 (by omega)
  have b0 := hdb 0 d0 3 e0 rfl
  have b1 := hdb 1 d1 2 e1 rfl
  have b2 := hdb 2 d2 ((m : Int) + 1) e2 rfl
  have i0 : oIx (.list (dg.map PyData.int)) (.int 0) = some (.int d0) := zaO (j := 0) (by rw [List.getElem?_map, e0]; rfl)
  have i1 : oIx (.list (dg.map PyData.int)) (.int 1) = some (.int d1) := zaO (j := 1) (by rw [List.getElem?_map, e1]; rfl)
  have i2 : oIx (.list (dg.map PyData.int)) (.int 2) = some (.int d2) := zaO (j := 2) (by rw [List.getElem?_map, e2]; rfl)
  refine zap (zaZ zae (of_decide_eq_true rfl) rfl) ?_
  let ol : List Int := (dg.drop 3).take m
  have oll : ol.length = m := by show ((dg.drop 3).take m).length = m; rw [List.length_take, List.length_drop]; omega
  have olb : ∀ d ∈ ol, 0 <= d /\ d < (n : Int) + 1 := fun d hd => by
    obtain ⟨j, hj, e⟩ := List.mem_iff_getElem.mp hd
    have hjm : j < m := by omega
    refine hdb (3 + j) d _ ?_ (znc hjm)
    have : ol[j]? = some d := by rw [List.getElem?_eq_getElem hj, e]
    show dg[3 + j]? = _
    rw [← this]
    show _ = ((dg.drop 3).take m)[j]?
    rw [List.getElem?_take, if_pos hjm, List.getElem?_drop]
  have hcut : DL.cutD (dg.map PyData.int) (some 3) (some (3 + (m : Int))) = ol.map PyData.int := by
    rw [zfe (by decide) (by omega) (by omega)]
    have t1 : (3 : Int).toNat = 3 := rfl
    have t2 : (3 + (m : Int)).toNat - (3 : Int).toNat = m := by omega
    rw [t2, t1]
  have step : Ho (sIf (dBin oEq (dIxN 5 (zah (.int 1))) (zah (.int 1))) (zbK 6 (zbL (za3 (dSlA (dVar 5) (zas (zah (.int 3)) fun x => mOpt (zc2 x)) (zas (dBin oAdd (zah (.int 3)) (dVar 3)) fun x => mOpt (zc2 x)))) 1 (gN 9) (zah true) (dBin oIx (mLst (zaf (zah .none) (zaf (dBin oSub (dVar 9) (zah (.int 1))) (mNil)))) (zbU zi3 (zaf (mMap PyData.bool (zbf (oIB fun i j => decide (j < i)) 9 (zah (.int 0)))) (mNil)))))) (sNx))
      [some (.pub (zaA cs ls)), some (.pub (.int c)), some (.pub (.int s)), some (.pub (.int m)), some (.pub (.list (([3, 2, (m : Int) + 1] ++ List.replicate m ((n : Int) + 1)).map PyData.int))), some (.pub (.list (dg.map PyData.int))), some (.pub .none), none, none]
      (fun r => ∃ old x6, r = .nx [some (.pub (zaA cs ls)), some (.pub (.int c)), some (.pub (.int s)), some (.pub (.int m)), some (.pub (.list (([3, 2, (m : Int) + 1] ++ List.replicate m ((n : Int) + 1)).map PyData.int))), some (.pub (.list (dg.map PyData.int))), x6, none, none] /\
        (x6 = some (.pub (oldD old)) ∨ ∃ ws, old = some ws /\ x6 = some (.own (ws.map optD))) /\ (∀ ws, old = some ws -> ws.length = m) /\ ∀ ws t, old = some ws -> some t ∈ ws -> 0 <= t /\ t < n) := by
    have hc : ∀ a b : Option Sl, za4 (gN 9) (zah true) (dBin oIx (mLst (zaf (zah .none) (zaf (dBin oSub (dVar 9) (zah (.int 1))) (mNil)))) (zbU zi3 (zaf (mMap PyData.bool (zbf (oIB fun i j => decide (j < i)) 9 (zah (.int 0)))) (mNil)))) (ol.map PyData.int) (zaL [some (.pub (zaA cs ls)), some (.pub (.int c)), some (.pub (.int s)), some (.pub (.int m)), some (.pub (.list (([3, 2, (m : Int) + 1] ++ List.replicate m ((n : Int) + 1)).map PyData.int))), some (.pub (.list (dg.map PyData.int))), some (.pub .none), none, none] ++ List.replicate 1 none) [] = some ((ol.map zj9).map optD) := fun _ _ => by
      refine zbD (fun ρ => ∃ x, ρ = [some (.pub (zaA cs ls)), some (.pub (.int c)), some (.pub (.int s)), some (.pub (.int m)), some (.pub (.list (([3, 2, (m : Int) + 1] ++ List.replicate m ((n : Int) + 1)).map PyData.int))), some (.pub (.list (dg.map PyData.int))), some (.pub .none), none, none, x]) _ _ _ _ (by simp only [List.length_map]) ?_ ⟨none, rfl⟩ (by rw [List.length_map, List.length_nil]; omega)
      rintro i d e hd he ρ ⟨x, rfl⟩
      rw [List.getElem?_map] at hd
      rw [List.getElem?_map, List.getElem?_map] at he
      cases hw : ol[i]? with
      | none => rw [hw] at hd; cases hd
      | some z =>
      rw [hw] at hd he
      cases hd
      cases he
      exact ⟨_, tg_N (of_decide_eq_true rfl) rfl, rfl, zar (zbx (zab zae (zab (zar (zad rfl) zae zcU) zak)) (of_decide_eq_true rfl)) (zbj (zab (zau (zaN rfl zae rfl)) zak) rfl) (zlu z), _, rfl⟩
    apply zaU
    case h1 => exact zar (zbo rfl zae i1) zae zcD
    case h2 =>
      intro _
      refine za7 (zbn (zbv (za0 (zeP (zad rfl) (zbZ zae) (zbZ (zar zae (zad rfl) za6)) (by rw [zcX, hcut])) zbI) (hc none none)) (of_decide_eq_true rfl) rfl) ?_
      refine ⟨some (ol.map zj9), _, rfl, .inr ⟨_, rfl, rfl⟩, fun ws e => ?_, fun ws t e ht => ?_⟩
      · cases e; rw [List.length_map]; exact oll
      · cases e
        obtain ⟨d, hd, e⟩ := List.mem_map.mp ht
        have := olb d hd
        unfold zj9 at e
        split at e
        · cases e; omega
        · cases e
    case h3 => exact fun _ => zbc ⟨none, _, rfl, .inl rfl, (fun ws e => by cases e), (fun ws t e => by cases e)⟩
  refine zaG (zjn step fun r hr => ?_)
  obtain ⟨old, x6, rfl, hx6, hol, hob⟩ := hr
  refine zat ?_
  refine zap (zbn (zcC zak (of_decide_eq_true rfl)) (of_decide_eq_true rfl) rfl) ?_
  obtain ⟨k2, rfl⟩ : ∃ k : Nat, d2 = k := ⟨d2.toNat, by omega⟩
  let tl : List Int := (dg.drop (3 + m)).take k2
  have tll : tl.length = k2 := by show ((dg.drop (3 + m)).take k2).length = k2; rw [List.length_take, List.length_drop]; omega
  have tlb : ∀ j d, tl[j]? = some d -> 0 <= d /\ d < (m : Int) := fun j d hj => by
    have hjl : j < k2 := by have := (List.getElem?_eq_some_iff.mp hj).1; omega
    refine hdb (3 + m + j) d _ ?_ (zlt (by omega))
    rw [← hj]
    show _ = ((dg.drop (3 + m)).take k2)[j]?
    rw [List.getElem?_take, if_pos hjl, List.getElem?_drop]
  have hcut2 : DL.cutD (dg.map PyData.int) (some (3 + (m : Int))) (some (3 + (m : Int) + (k2 : Int))) = tl.map PyData.int := by
    rw [zfe (by omega) (by omega) (by omega)]
    have t1 : (3 + (m : Int)).toNat = 3 + m := by omega
    have t2 : (3 + (m : Int) + (k2 : Int)).toNat - (3 + (m : Int)).toNat = k2 := by omega
    rw [t2, t1]
  apply zaG
  apply zb1 (fun i ρ => ∃ (T : List Int) (x8 : Option Sl), ρ = [some (.pub (zaA cs ls)), some (.pub (.int c)), some (.pub (.int s)), some (.pub (.int m)), some (.pub (.list (([3, 2, (m : Int) + 1] ++ List.replicate m ((n : Int) + 1)).map PyData.int))), some (.pub (.list (dg.map PyData.int))), x6, some (.own (T.map PyData.int)), x8] /\ T.length = i /\ T.Nodup /\ ∀ a ∈ T, 0 <= a /\ a < (m : Int))
  case h1 => exact za0 (zeP (zad rfl) (zbZ (zar zae (zad rfl) za6)) (zbZ (zar (zar zae (zad rfl) za6) (zbo rfl zae i2) za6)) (by rw [zcX, hcut2])) zbI
  case h0 => exact ⟨[], _, rfl, rfl, List.nodup_nil, fun _ h => by cases h⟩
  case hst =>
    rintro i d ρ hi ⟨T, x8, rfl, hT, hTn, hTb⟩
    rw [List.getElem?_map] at hi
    cases hw : tl[i]? with
    | none => rw [hw] at hi; cases hi
    | some z =>
    rw [hw] at hi
    cases hi
    have hz := tlb i z hw
    have hil : i < k2 := by have := (List.getElem?_eq_some_iff.mp hw).1; omega
    obtain ⟨zz, rfl⟩ : ∃ k : Nat, z = k := ⟨z.toNat, by omega⟩
    refine ⟨_, tg_N (of_decide_eq_true rfl) (by walk_at "set"), ?_⟩
    unfold zjQ
    obtain ⟨k, hk, hk1, hk2⟩ := ziw (m := m) (T := T) zz (by omega) hTn
    refine zap (ze0 (by omega) k 1000 zz hk1 hk2 (by omega) (by omega)) ?_
    refine za7 (zdm rfl (zad rfl) rfl (by rw [List.length_map]; omega) rfl) ?_
    refine za8 ⟨T ++ [(((zz + k) % m : Nat) : Int)], _, by rw [List.map_append (l₁ := T) (f := PyData.int)]; rfl, by rw [List.length_append, hT]; rfl, ?_, fun a ha => ?_⟩
    · refine List.nodup_append.mpr ⟨hTn, List.nodup_cons.mpr ⟨(by simp), List.nodup_nil⟩, fun a ha b hb e => ?_⟩
      rw [List.mem_singleton.mp hb] at e
      exact hk2 (e ▸ ha)
    · rcases List.mem_append.mp ha with h | h
      · exact hTb a h
      · rw [List.mem_singleton.mp h]
        have := Nat.mod_lt (zz + k) (show 0 < m by omega)
        exact ⟨by omega, by omega⟩
  case hend =>
    rintro ρ ⟨T, x8, rfl, hT, hTn, hTb⟩
    refine zat ?_
    obtain ⟨o, ho⟩ : ∃ o : Ord, oIx (.list [.str "firsts", .str "full", .str "lasts"]) (.int d0) = some (.str o.tx) := by
      have : d0 = 0 ∨ d0 = 1 ∨ d0 = 2 := by omega
      rcases this with rfl | rfl | rfl
      · exact ⟨.firsts, zaO (j := 0) rfl⟩
      · exact ⟨.full, zaO (j := 1) rfl⟩
      · exact ⟨.lasts, zaO (j := 2) rfl⟩
    have ga : zbQ n m old T := ⟨hol, hob, hTn, hTb⟩
    rcases hx6 with rfl | ⟨ws, rfl, rfl⟩
    · exact zaI (zeN (zab (zar (zbx (zab zae (zab zae (zab zae zak))) (of_decide_eq_true rfl)) (zbo rfl zae i0) ho) (zab (zad rfl) (zab (zbi rfl rfl) zak))) (of_decide_eq_true rfl)) ⟨_, rfl, o, _, T, rfl, ga⟩
    · exact zaI (zeN (zab (zar (zbx (zab zae (zab zae (zab zae zak))) (of_decide_eq_true rfl)) (zbo rfl zae i0) ho) (zab (zbi rfl rfl) (zab (zbi rfl rfl) zak))) (of_decide_eq_true rfl)) ⟨_, rfl, o, some ws, T, rfl, ga⟩
end
theorem zdv {s : D -> DEnv -> Option DEnv} {t : M Bool} {g : M D} (I : DEnv -> Prop) : ∀ (ds : List D) (qs : List (Option D)) (ρ : DEnv) (es : List D), qs.length = ds.length ->
    (∀ (i : Nat) d e, ds[i]? = some d -> qs[i]? = some e -> ∀ ρ, I ρ -> ∃ ρ1, s d ρ = some ρ1 /\ t ρ1 = .ok e.isSome ρ1 /\ (∀ x, e = some x -> g ρ1 = .ok x ρ1) /\ I (zaL ρ1)) -> I ρ -> es.length + ds.length <= 1000000 -> za4 s t g ds ρ es = some (es ++ qs.filterMap id)
  | [], [], ρ, es, _, _, _, _ => by rw [za4]; simp
  | d :: r, e :: q, ρ, es, hl, st, h0, hz => by
    obtain ⟨ρ1, e1, e2, e3, h1⟩ := st 0 d e rfl rfl ρ h0
    rw [List.length_cons] at hz
    have ih := fun es' hz' => zdv I r q (zaL ρ1) es' (by simpa using hl) (fun i d' e' x y => st (i + 1) d' e' (by simpa using x) (by simpa using y)) h1 hz'
    rw [za4, e1]
    dsimp only
    rw [e2]
    dsimp only
    cases e with
    | none =>
      rw [if_neg (show ¬ (none : Option D).isSome = true by simp), ih es (by omega)]
      rfl
    | some x =>
      rw [if_pos (show (some x).isSome = true from rfl), e3 x rfl]
      dsimp only
      rw [if_pos (by omega), ih (es ++ [x]) (by rw [List.length_append, List.length_singleton]; omega), List.append_assoc]
      rfl
theorem zdd {B : Nat} : ∀ {xs : List D}, (∀ x ∈ xs, PyData.leavesShort B x = true) -> PyData.leavesShortAll B xs = true
  | [], _ => rfl
  | x :: xs, h => by rw [PyData.leavesShortAll, h x List.mem_cons_self, zdd fun y hy => h y (List.mem_cons_of_mem _ hy)]; rfl
theorem zdG : ∀ {xs : List D}, (∀ x ∈ xs, PyData.showable x = true) -> PyData.showableAll xs = true
  | [], _ => rfl
  | x :: xs, h => by rw [PyData.showableAll, h x List.mem_cons_self, zdG fun y hy => h y (List.mem_cons_of_mem _ hy)]; rfl
theorem zdH {n : Nat} : ∀ {xs : List D}, (∀ x ∈ xs, PyData.bulk x <= n) -> PyData.bulkAll xs <= xs.length * (n + 1)
  | [], _ => by simp [PyData.bulkAll]
  | x :: xs, h => by
    have h1 := h x List.mem_cons_self
    have h2 := zdH (xs := xs) fun y hy => h y (List.mem_cons_of_mem _ hy)
    rw [PyData.bulkAll, List.length_cons, Nat.succ_mul]
    omega
theorem ten {i : Int} (h : 0 <= i /\ i < 10) : (PyData.int i).leavesShort 8 = true /\ (PyData.int i).showable = true := by
  have : i = 0 ∨ i = 1 ∨ i = 2 ∨ i = 3 ∨ i = 4 ∨ i = 5 ∨ i = 6 ∨ i = 7 ∨ i = 8 ∨ i = 9 := by omega
  rcases this with rfl | rfl | rfl | rfl | rfl | rfl | rfl | rfl | rfl | rfl <;> decide +kernel
def Easy (d : D) : Prop := d.canLay0 = true /\ d.leavesShort 8 = true /\ d.showable = true /\ d.depth <= 2 /\ d.bulk <= 20
theorem zgl {ws : List (Option Int)} (h : ∀ t, some t ∈ ws -> 0 <= t /\ t < 10) (hl : ws.length <= 20) : Easy (zav ws) := by
  refine ⟨zfo ws, zdd fun x hx => ?_, zdG fun x hx => ?_, zhG ws, ?_⟩
  · obtain ⟨o, ho, rfl⟩ := List.mem_map.mp hx
    cases o with
    | none => rfl
    | some t => exact (ten (h t ho)).1
  · obtain ⟨o, ho, rfl⟩ := List.mem_map.mp hx
    cases o with
    | none => rfl
    | some t => exact (ten (h t ho)).2
  · have := zdH (n := 0) (xs := ws.map optD) fun x hx => by
      obtain ⟨o, ho, rfl⟩ := List.mem_map.mp hx
      cases o <;> exact Nat.le_refl 0
    rw [List.length_map] at this
    show PyData.bulkAll (ws.map optD) <= 20
    omega
theorem zlw {n m : Nat} {o : Ord} {old : Option (List (Option Int))} {ts : List Int} (ga : zbQ n m old ts) (hn : n <= 6) (hm : m <= 7) : zgT [aimD o old ts] = some (.str (aimD o old ts).shown) := by
  have e1 : Easy (oldD old) := by
    cases old with
    | none => exact ⟨rfl, rfl, rfl, by decide, by decide⟩
    | some ws => exact zgl (fun t h => by have := ga.old ws t rfl h; omega) (by have := ga.len ws rfl; omega)
  have e2 : Easy (.list (ts.map PyData.int)) := by
    have := zgl (ws := ts.map some) (fun t h => by
      obtain ⟨x, hx, e⟩ := List.mem_map.mp h
      cases e
      have := ga.there t hx
      omega) (by rw [List.length_map]; have := ga.few; omega)
    unfold zav at this
    rw [List.map_map] at this
    exact this
  obtain ⟨a1, a2, a3, a4, a5⟩ := e1
  obtain ⟨b1, b2, b3, b4, b5⟩ := e2
  have s1 : (PyData.str o.tx).canLay0 = true := by cases o <;> decide +kernel
  have s2 : (PyData.str o.tx).leavesShort 8 = true := by cases o <;> decide +kernel
  have s5 : (PyData.str o.tx).bulk <= 6 := by cases o <;> decide +kernel
  have all : ∀ {P : D -> Prop}, P (.str o.tx) -> P (oldD old) -> P (.list (ts.map PyData.int)) -> ∀ x ∈ [PyData.str o.tx, oldD old, .list (ts.map PyData.int)], P x := fun h1 h2 h3 x hx => by
    have hx : x = .str o.tx ∨ x = oldD old ∨ x = .list (ts.map PyData.int) := by simpa using hx
    rcases hx with rfl | rfl | rfl
    · exact h1
    · exact h2
    · exact h3
  have hc : (aimD o old ts).canLay0 = true := zb4 (all s1 a1 b1)
  have hs : (aimD o old ts).leavesShort 8 = true := zdd (all s2 a2 b2)
  have hb : (aimD o old ts).bulk <= 100 := by
    have := zdH (n := 20) (all (P := fun x => PyData.bulk x <= 20) (by omega) a5 b5)
    exact Nat.le_trans this (show 3 * 21 <= 100 by decide)
  refine zkY ⟨hc, zdG (all rfl a3 b3), PyData.hasDict_of_canLay _ hc, ?_, ?_⟩
  · have := zb5 (n := 2) (all (P := fun x => PyData.depth x <= 2) (by simp [PyData.depth]) a4 b4)
    show (PyData.tuple _).depth <= 50
    simp only [PyData.depth]
    omega
  · have := PyData.shown_le_bulk 8 (by decide) _ hs
    omega
section
variable {cs : List Int} {ls : List (List (List Int))}
theorem znd (g : Good cs ls) : F_bf [zaA cs ls] = some (zaA cs ls) := by
  refine za9 (ρ := [some (.pub (zaA cs ls)), none, none]) rfl ?_
  unfold g_bf
  have l7 := g.l7
  refine zap (zbn (zcC zak (of_decide_eq_true rfl)) (of_decide_eq_true rfl) rfl) ?_
  apply zaG
  apply zb1 (fun i ρ => ∃ x2, ρ = [some (.pub (zaA cs ls)), some (.own ((ls.take i).map zaE)), x2])
  case h1 => exact za0 (zbo rfl zae zg9) zbI
  case h0 => exact ⟨_, rfl⟩
  case hst =>
    rintro i d ρ hi ⟨x2, rfl⟩
    rw [List.getElem?_map] at hi
    cases hw : ls[i]? with
    | none => rw [hw] at hi; cases hi
    | some rs =>
    rw [hw] at hi
    cases hi
    have hrs : rs.length <= 5 := (g.rk rs (List.mem_of_getElem? hw)).few
    refine ⟨_, tg_N (of_decide_eq_true rfl) (by walk_at "set"), ?_⟩
    unfold zjO
    have hc : ∀ x1 : Option Sl, za4 (gN 3) (zah true) (mMap PyData.list (zcf 3)) (rs.map zby) (zaL [some (.pub (zaA cs ls)), x1, some (.pub (zaE rs))] ++ List.replicate 1 none) [] = some (rs.map zby) := fun x1 => by
      refine zbD (fun ρ => ∃ a x, ρ = [some (.pub (zaA cs ls)), a, some (.pub (zaE rs)), x]) _ _ _ _ rfl ?_ ⟨_, none, rfl⟩ (by rw [List.length_map, List.length_nil]; omega)
      rintro j d e hd he ρ ⟨a, x, rfl⟩
      rw [hd] at he
      cases he
      rw [List.getElem?_map] at hd
      cases hwj : rs[j]? with
      | none => rw [hwj] at hd; cases hd
      | some r =>
      rw [hwj] at hd
      cases hd
      exact ⟨_, tg_N (of_decide_eq_true rfl) rfl, rfl, zau (zcG rfl (show zcK [zby r] = some (r.map PyData.int) from rfl)), _, _, rfl⟩
    refine za7 (zdm rfl (zau (zbv (za0 (zad rfl) zbI) (hc _))) rfl (by rw [List.length_map, List.length_take]; omega) rfl) ?_
    refine za8 ⟨some (.pub (zaE rs)), ?_⟩
    rw [List.take_succ, hw, List.map_append]
    rfl
  case hend =>
    rintro ρ ⟨x2, rfl⟩
    rw [List.length_map, List.take_length]
    exact zat (zaI (zeN (zab (zau (zax (zab (zbo rfl zae zm8) zak) (zbF (show zcK [.list (cs.map PyData.int)] = some (cs.map PyData.int) from rfl)))) (zab (zbi rfl rfl) zak)) (of_decide_eq_true rfl)) rfl)
end
theorem zbg {a b : Str} (h1 : PyData.strOk a = true) (h2 : PyData.strOk b = true) : PyData.strOk (a ++ b) = true := by
  unfold PyData.strOk at *
  rw [PySem.Str.cps_append, Array.all_append, h1, h2]; rfl
theorem zeu : ∀ (ts : List Str) (k : Nat) (acc : Str), PyData.strOk acc = true -> (∀ t ∈ ts, PyData.strOk t = true) -> PyData.strOk (textFrom k acc ts) = true
  | [], k, acc, h, _ => h
  | t :: r, k, acc, h, ht => by
    refine zeu r (k + 1) _ (zbg (zbg h ?_) (ht t List.mem_cons_self)) fun x hx => ht x (List.mem_cons_of_mem _ hx)
    split <;> decide +kernel
theorem zdU : ∀ {xs : List D} {t : Str}, t ∈ PyData.shownAll xs -> ∃ x ∈ xs, t = x.shown
  | [], t, h => by cases h
  | x :: xs, t, h => by
    rw [PyData.shownAll] at h
    rcases List.mem_cons.mp h with h | h
    · exact ⟨x, List.mem_cons_self, h⟩
    · obtain ⟨y, hy, e⟩ := zdU h
      exact ⟨y, List.mem_cons_of_mem _ hy, e⟩
theorem zdw {xs : List D} (h : ∀ x ∈ xs, PyData.strOk x.shown = true) : PyData.strOk (PyData.list xs).shown = true := by
  show PyData.strOk (textFrom 0 "[" (PyData.shownAll xs) ++ "]") = true
  exact zbg (zeu _ _ _ (by decide +kernel) fun t ht => by obtain ⟨x, hx, rfl⟩ := zdU ht; exact h x hx) (by decide +kernel)
theorem zlV {i : Int} (h : 0 <= i /\ i < 10) : PyData.strOk (PyData.int i).shown = true := by
  have : i = 0 ∨ i = 1 ∨ i = 2 ∨ i = 3 ∨ i = 4 ∨ i = 5 ∨ i = 6 ∨ i = 7 ∨ i = 8 ∨ i = 9 := by omega
  rcases this with rfl | rfl | rfl | rfl | rfl | rfl | rfl | rfl | rfl | rfl <;> decide +kernel
theorem zne {ws : List (Option Int)} (h : ∀ t, some t ∈ ws -> 0 <= t /\ t < 10) : PyData.strOk (zav ws).shown = true := zdw fun x hx => by
  obtain ⟨o, ho, rfl⟩ := List.mem_map.mp hx
  cases o with
  | none => decide +kernel
  | some t => exact zlV (h t ho)
theorem zhe {n m : Nat} {o : Ord} {old : Option (List (Option Int))} {ts : List Int} (ga : zbQ n m old ts) (hn : n <= 6) (hm : m <= 7) : PyData.strOk (aimD o old ts).shown = true := by
  have e1 : PyData.strOk (oldD old).shown = true := by
    cases old with
    | none => decide +kernel
    | some ws => exact zne fun t h => by have := ga.old ws t rfl h; omega
  have e2 : PyData.strOk (PyData.list (ts.map PyData.int)).shown = true := zdw fun x hx => by
    obtain ⟨y, hy, rfl⟩ := List.mem_map.mp hx
    exact zlV (by have := ga.there y hy; omega)
  have e0 : PyData.strOk (PyData.str o.tx).shown = true := by cases o <;> decide +kernel
  show PyData.strOk (("(" : Str) ++ (_ ++ ", " ++ (_ ++ ", " ++ _)) ++ ")") = true
  exact zbg (zbg (by decide +kernel) (zbg (zbg e0 (by decide +kernel)) (zbg (zbg e1 (by decide +kernel)) e2))) (by decide +kernel)
theorem zhI {n : Nat} : ixN (n + 1) (-1) = some n := by
  unfold ixN
  rw [if_neg (by omega), if_pos (by omega)]
  congr 1
  omega
theorem znf {op : Int -> Int -> Option D} {j : Nat} {f g : M D} {ρ ρ' : DEnv} {xs : List Int} {p : Nat} {k d b : Int} (h0 : ρ[j]? = some (some (.own (xs.map PyData.int)))) (h1 : g ρ = .ok (.int k) ρ) (hk : ixN xs.length k = some p) (h4 : f ρ = .ok (.int b) ρ) (h5 : ∀ a, op a b = some (.int (a + d)))
    (h8 : ρ.set j (some (.own ((zha xs p d).map PyData.int))) = ρ') : zfZ op j g f ρ = .nx ρ' := by
  have hp := (zgv hk).2.1
  refine zj5 (n := p) h0 h1 h0 (a := xs.getD p 0) ?_ h4 (h5 _) h0 (by rw [List.length_map]; exact hk) ?_
  · unfold atI
    rw [List.length_map, hk]
    show (xs.map PyData.int)[p]? = _
    rw [List.getElem?_map, List.getElem?_eq_getElem hp]; simp [List.getD, List.getElem?_eq_getElem hp]
  · rw [← h8, zfd]; rfl
section
variable {cs : List Int} {ls : List (List (List Int))} {ws : List (Option Int)}
theorem zc9 (g : Good cs ls) : F_ba [zaA cs ls] = some (.int (lng ls : Nat)) := by
  refine za9 (ρ := [some (.pub (zaA cs ls))]) rfl ?_
  unfold g_ba
  have hc : za4 (gN 1) (zah true) (zbJ 1) (ls.map zaE) (zaL [some (.pub (zaA cs ls))] ++ List.replicate 1 none) [] = some ((ls.map fun rs => (rs.length : Int)).map PyData.int) := by
    refine zbD (fun ρ => ∃ x, ρ = [some (.pub (zaA cs ls)), x]) _ _ _ _ (by rw [List.length_map, List.length_map, List.length_map]) ?_ ⟨none, rfl⟩ (by rw [List.length_map, List.length_nil]; have := g.l7; omega)
    rintro i d e hd he ρ ⟨x, rfl⟩
    rw [List.getElem?_map] at hd
    rw [List.getElem?_map, List.getElem?_map] at he
    cases hl : ls[i]? with
    | none => rw [hl] at hd; cases hd
    | some rs =>
    rw [hl] at hd he
    cases hd
    cases he
    exact ⟨_, tg_N (of_decide_eq_true rfl) rfl, rfl, za5 rfl (zgh rs), _, rfl⟩
  refine zaI (zbj (zab (zau (zbv (za0 (zbo rfl zae zg9) zbI) hc)) zak) (zhs (by rw [List.length_map]; have := g.l1; omega))) ?_
  rw [zg6 g.l1]
theorem zev {i : Nat} {rs : List (List Int)} (h : ls[i]? = some rs) (t : Int) : F_az [zaA cs ls, .int i, .int t] = some (.int (zbG t rs : Nat)) := by
  refine za9 (ρ := [some (.pub (zaA cs ls)), some (.pub (.int i)), some (.pub (.int t)), none, none]) rfl ?_
  unfold g_az
  apply zaG
  apply zb1 (fun i' ρ => (∃ x2 x3, ρ = [some (.pub (zaA cs ls)), some (.pub (.int i)), some (.pub (.int t)), x2, x3]) /\ ∀ j r, j < i' -> rs[j]? = some r -> r.contains t = false)
  case h1 => exact zcT (zab (zar (zbo rfl zae zg9) (zad rfl) (zpj h)) zak) zcj
  case h0 => exact ⟨⟨_, _, rfl⟩, fun j r h => absurd h (Nat.not_lt_zero _)⟩
  case hst =>
    rintro k d ρ hi ⟨⟨x2, x3, rfl⟩, hb⟩
    obtain ⟨x, hx, rfl⟩ := zb0 hi
    rw [List.getElem?_map] at hx
    cases hr : rs[k]? with
    | none => rw [hr] at hx; cases hx
    | some r =>
      rw [hr] at hx
      cases hx
      refine ⟨_, tg_T rfl (tg_C (tg_N (of_decide_eq_true rfl) rfl) (tg_C (tg_N (of_decide_eq_true rfl) rfl) tg_0)), ?_⟩
      unfold zjJ
      apply zaU
      case h1 => exact zaN rfl (zad rfl) (zg5 t r)
      case h2 =>
        intro hh
        refine zaI (zar (zad rfl) zae za6) (zcF ?_)
        rw [zgc hr hh hb]
        refine ⟨?_⟩
        congr 2
        omega
      case h3 =>
        intro hh
        refine zbc (za8 ⟨⟨_, _, rfl⟩, fun j r' hj e => ?_⟩)
        rcases Nat.lt_succ_iff_lt_or_eq.mp hj with hj | rfl
        · exact hb j r' hj e
        · rw [hr] at e; cases e; exact hh
  case hend =>
    rintro ρ ⟨⟨x2, x3, rfl⟩, hb⟩
    refine zat (zaI zae ?_)
    rw [zgd (fun j r hj e => hb j r (by rw [zaW, List.length_map]; exact hj) e)]
    rfl
def cntP (n : Nat) (qs : List Nat) : List Int := (List.range n).map fun p => ((qs.count p : Nat) : Int)
theorem zdx (n : Nat) (qs : List Nat) : (cntP n qs).length = n := by unfold cntP; rw [List.length_map, List.length_range]
theorem zfr {n p : Nat} {qs : List Nat} (h : p < n) : (cntP n qs)[p]? = some ((qs.count p : Nat) : Int) := by
  unfold cntP; rw [List.getElem?_map, List.getElem?_range h]; rfl
theorem zlx (n : Nat) : cntP n [] = List.replicate n 0 := by
  unfold cntP
  rw [List.eq_replicate_iff]
  exact ⟨by rw [List.length_map, List.length_range], fun b hb => by obtain ⟨p, _, rfl⟩ := List.mem_map.mp hb; rfl⟩
theorem zgm {n p : Nat} {qs : List Nat} : zha (cntP n qs) p 1 = cntP n (qs ++ [p]) := by
  apply List.ext_getElem?
  intro k
  by_cases hk : k < n
  · rw [zj3 (zfr hk), zfr hk, List.count_append]
    congr 1
    by_cases e : k = p
    · rw [if_pos e, e, List.count_singleton_self]; omega
    · rw [if_neg e, List.count_singleton]
      have : (p == k) = false := by rw [beq_eq_false_iff_ne]; exact fun z => e z.symm
      rw [this]
      show _ = (((_ + 0 : Nat)) : Int)
      omega
  · rw [List.getElem?_eq_none (by rw [zj2, zdx]; omega), List.getElem?_eq_none (by rw [zdx]; omega)]
theorem zka {L : Nat} {got : List Int} (h : okR L got) : cntP (L + 1) (got.map (plc L)) = cnts L got := by
  apply List.ext_getElem?
  intro k
  by_cases hk : k < L + 1
  · rw [zfr hk, zlr h hk]
  · rw [List.getElem?_eq_none (by rw [zdx]; omega), List.getElem?_eq_none (by rw [zc0]; omega)]
theorem zhJ (hl : ws.length = ls.length) : (rgot ls ws).length = ls.length := by unfold rgot; rw [List.length_zipWith]; omega
theorem zfs (g : Good cs ls) (dl : Deal cs ls ws) : F_be [zaA cs ls, zav ws] = some (.list ((cnts (lng ls) (rgot ls ws)).map PyData.int)) := by
  have hL : lng ls <= 5 := zj1 g.l1 fun rs h => (g.rk rs h).few
  have l7 := g.l7
  refine za9 (ρ := [some (.pub (zaA cs ls)), some (.pub (zav ws)), none, none, none]) rfl ?_
  unfold g_be
  have hadd : oAdd (.int (lng ls : Nat)) (.int 1) = some (.int ((lng ls + 1 : Nat) : Int)) := by rw [za6]; rfl
  refine zap (zbn (zmI (n := lng ls + 1) (zbx (zab zae zak) (of_decide_eq_true rfl)) (zar (zaw (zab (zad rfl) zak) rfl (zc9 g)) zae hadd) (by omega)) (of_decide_eq_true rfl) rfl) ?_
  apply zaG
  apply zb1 (fun i ρ => ∃ x3 x4, ρ = [some (.pub (zaA cs ls)), some (.pub (zav ws)), some (.own ((cntP (lng ls + 1) (((rgot ls ws).take i).map (plc (lng ls)))).map PyData.int)), x3, x4])
  case h1 => exact zcT (zab (zad rfl) zak) zcj
  case h0 => exact ⟨_, _, by rw [List.take_zero, List.map_nil, zlx, List.map_replicate]; rfl⟩
  case hst =>
    rintro i d ρ hi ⟨x3, x4, rfl⟩
    obtain ⟨z, hz, rfl⟩ := zb0 hi
    rw [List.getElem?_map] at hz
    cases hwi : ws[i]? with
    | none => rw [hwi] at hz; cases hz
    | some o =>
    rw [hwi] at hz
    cases hz
    have hil : i < ls.length := by have := (List.getElem?_eq_some_iff.mp hwi).1; have := dl.len; omega
    have hls : ls[i]? = some ls[i] := List.getElem?_eq_getElem hil
    have hg := zfp hls hwi
    have hnext : (((rgot ls ws).take (i + 1)).map (plc (lng ls))) = ((rgot ls ws).take i).map (plc (lng ls)) ++ [plc (lng ls) (rg ls[i] o)] := by
      rw [List.take_succ, hg, List.map_append]; rfl
    rw [Nat.zero_add]
    refine ⟨_, tg_T rfl (tg_C (tg_N (of_decide_eq_true rfl) rfl) (tg_C (tg_N (of_decide_eq_true rfl) rfl) tg_0)), ?_⟩
    unfold zjK
    generalize ((rgot ls ws).take i).map (plc (lng ls)) = qs at hnext ⊢
    cases o with
    | none =>
      apply zaU
      case h1 => exact zau (k := isNon) (x := PyData.none) (zad rfl)
      case h3 => intro h; cases h
      case h2 =>
        intro _
        have e : plc (lng ls) (rg ls[i] none) = lng ls := rfl
        refine za7 (znf (p := lng ls) (k := -1) rfl (zdl zae) (by rw [zdx]; exact zhI) zae (d := 1) (fun a => rfl) rfl) ?_
        refine za8 ⟨some (.pub (.int i)), some (.pub .none), ?_⟩
        rw [hnext, e, ← zgm]
        rfl
    | some t =>
      apply zaU
      case h1 => exact zau (k := isNon) (x := PyData.int t) (zad rfl)
      case h2 => intro h; cases h
      case h3 =>
        intro _
        have hr := zeW (dl.wish i t ls[i] hwi hls)
        have hle := zgg t ls[i]
        have hlg := zlS (List.mem_of_getElem? hls)
        have e : plc (lng ls) (rg ls[i] (some t)) = zbG t ls[i] - 1 := by
          show plc (lng ls) ((zbG t ls[i] : Nat) : Int) = _
          unfold plc
          rw [if_neg (by omega)]
          omega
        have hsub : oSub (.int (zbG t ls[i] : Nat)) (.int 1) = some (.int ((zbG t ls[i] - 1 : Nat) : Int)) := by rw [zcU]; congr 2; omega
        refine za7 (znb (p := zbG t ls[i] - 1) rfl (zar (zaw (zab (zad rfl) (zab (zad rfl) (zab (zad rfl) zak))) rfl (zev hls t)) zae hsub) (by rw [zdx]; omega) zae (d := 1) (fun a => rfl) rfl) ?_
        refine za8 ⟨some (.pub (.int i)), some (.pub (.int t)), ?_⟩
        rw [hnext, e, ← zgm]
        rfl
  case hend =>
    rintro ρ ⟨x3, x4, rfl⟩
    refine zat (zaI (zbi rfl rfl) ?_)
    rw [zaW, List.length_map, List.take_of_length_le (by rw [zhJ dl.len]; have := dl.len; omega), zka zj4]
end
section
variable {cs : List Int} {ls : List (List (List Int))} {ws us : List (Option Int)}
theorem ix_c {t : Int} (h0 : 0 <= t) (h : t < cs.length) : oIx (.list (cs.map PyData.int)) (.int t) = some (.int (cs.getD t.toNat 0)) := by
  have e : t = ((t.toNat : Nat) : Int) := by omega
  rw [e]
  refine zaO ?_
  rw [List.getElem?_map, List.getElem?_eq_getElem (by omega), List.getD_eq_getElem?_getD, Int.toNat_natCast, List.getElem?_eq_getElem (by omega)]
  rfl
theorem zix {t : Int} {fl : List Int} : oNin (.int t) (.list ((zch fl).map PyData.int)) = some (!fl.contains t) := by
  have e : (zch fl).contains t = fl.contains t := by
    rw [Bool.eq_iff_iff]
    simp only [List.contains_iff_mem]
    exact (zbT fl).mem_iff
  unfold oNin
  rw [zhd, e]
  rfl
theorem zft (i : Int) : F_bg [.int i] = some (.bool true) := by
  refine za9 (ρ := [some (.pub (.int i))]) rfl ?_
  unfold g_bg
  exact zaI (zdD (zau (k := fun d => PyData.bool (isTy d "int")) (zad rfl)) (fun _ => zjm (zau (k := fun d => PyData.bool (isTy d "bool")) (zad rfl)))) rfl
theorem zew (g : Good cs ls) (hl : us.length = ls.length) (hr : ∀ t, some t ∈ us -> 0 <= t /\ t < cs.length) : ∃ r, F_bh [zaA cs ls, zav us] = some r /\ ∃ b, r = .bool b /\ (b = true -> Deal cs ls us) := by
  refine zek (ρ := [some (.pub (zaA cs ls)), some (.pub (zav us)), none, none]) rfl ?_
  unfold g_bh
  have l7 := g.l7
  have hll : oLen [.list (ls.map zaE)] = some (.int ls.length) := by rw [zaT, List.length_map]
  have hul : oLen [zav us] = some (.int us.length) := by unfold zav; rw [zaT, List.length_map]
  have hne : oNe (.int us.length) (.int ls.length) = some false := by rw [zcV, hl]; simp
  have hsz : ∀ ρ : DEnv, ρ[0]? = some (some (.pub (zaA cs ls))) -> ρ[1]? = some (some (.pub (zav us))) -> dBin oNe (zbJ 1) (zbU oLen (zaf (dIxN 0 (zah (.int 1))) mNil)) ρ = .ok false ρ := fun ρ r0 r1 =>
    zar (za5 r1 hul) (zbj (zab (zbo r0 zae zg9) zak) hll) hne
  apply zaG
  apply zaU
  case h1 => exact zc7 (zb9 (zbu (zau (k := fun d => PyData.bool (isTy d "list")) (x := zav us) (zad rfl)))) (hsz _ rfl rfl)
  case h2 => intro h; cases h
  case h3 =>
    intro _
    refine zbc (zat ?_)
    apply zaG
    apply zb1 (fun i ρ => (∃ x2 x3, ρ = [some (.pub (zaA cs ls)), some (.pub (zav us)), x2, x3]) /\ ∀ (j : Nat) t rs, j < i -> us[j]? = some (some t) -> ls[j]? = some rs -> t ∈ rs.flatten /\ ((us.count (some t) : Nat) : Int) <= cs.getD t.toNat 0)
    case h1 => exact zcT (zab (zad rfl) zak) zcj
    case h0 => exact ⟨⟨_, _, rfl⟩, fun j t rs h => absurd h (Nat.not_lt_zero _)⟩
    case hst =>
      rintro i d ρ hi ⟨⟨x2, x3, rfl⟩, hb⟩
      obtain ⟨z, hz, rfl⟩ := zb0 hi
      rw [List.getElem?_map] at hz
      cases hwi : us[i]? with
      | none => rw [hwi] at hz; cases hz
      | some o =>
      rw [hwi] at hz
      cases hz
      have hil : i < ls.length := by have := (List.getElem?_eq_some_iff.mp hwi).1; omega
      have hls : ls[i]? = some ls[i] := List.getElem?_eq_getElem hil
      rw [Nat.zero_add]
      refine ⟨_, tg_T rfl (tg_C (tg_N (of_decide_eq_true rfl) rfl) (tg_C (tg_N (of_decide_eq_true rfl) rfl) tg_0)), ?_⟩
      unfold zjM
      cases o with
      | none =>
        apply zaG
        apply zaU
        case h1 => exact zgQ (zau (k := fun d => !isNon d) (x := PyData.none) (zad rfl))
        case h2 => intro h; cases h
        case h3 =>
          intro _
          refine zbc (zat ?_)
          apply zaU
          case h1 => exact zgQ (zau (k := fun d => !isNon d) (x := PyData.none) (zad rfl))
          case h2 => intro h; cases h
          case h3 =>
            intro _
            refine zbc (za8 ⟨⟨_, _, rfl⟩, fun j t rs hj e1 e2 => ?_⟩)
            rcases Nat.lt_succ_iff_lt_or_eq.mp hj with hj | rfl
            · exact hb j t rs hj e1 e2
            · rw [hwi] at e1; cases e1
      | some t =>
        have ht := hr t (List.mem_of_getElem? hwi)
        have hfl : (ls[i]).flatten.length < 64 := by
          have gr := g.rk ls[i] (List.mem_of_getElem? hls)
          have := zcI cs.length _ gr.once gr.flat
          have := g.c6
          omega
        apply zaG
        apply zaU
        case h1 => exact zgR (zau (k := fun d => !isNon d) (x := PyData.int t) (zad rfl)) (zc7 (zb9 (zbu (zaw (zab (zad rfl) zak) rfl (zft t)))) (zaN rfl (zaw (zab (zad rfl) (zab (zad rfl) zak)) rfl (zet hls hfl)) zix))
        case h2 => exact fun _ => zaI zae (zbP (zcF ⟨_, rfl, false, rfl, fun h => by cases h⟩))
        case h3 =>
          intro h1
          refine zbc (zat ?_)
          apply zaU
          case h1 => exact zgR (zau (k := fun d => !isNon d) (x := PyData.int t) (zad rfl)) (zar (zd0 (zad rfl) (zab (zad rfl) zak) zeX) (zar (zbo rfl zae zm8) (zad rfl) (ix_c ht.1 ht.2)) rfl)
          case h2 => exact fun _ => zaI zae (zcF ⟨_, rfl, false, rfl, fun h => by cases h⟩)
          case h3 =>
            intro h2
            refine zbc (za8 ⟨⟨_, _, rfl⟩, fun j t' rs hj e1 e2 => ?_⟩)
            rcases Nat.lt_succ_iff_lt_or_eq.mp hj with hj | rfl
            · exact hb j t' rs hj e1 e2
            · rw [hwi] at e1
              rw [hls] at e2
              cases e1
              cases e2
              have h2 := of_decide_eq_false h2
              exact ⟨by simpa using h1, by omega⟩
    case hend =>
      rintro ρ ⟨⟨x2, x3, rfl⟩, hb⟩
      refine zat (zaI zae ⟨_, rfl, true, rfl, fun _ => ⟨hl, fun i t rs h1 h2 => ?_, fun k c hk => ?_⟩⟩)
      · exact (hb i t rs (by rw [zaW, List.length_map]; exact (List.getElem?_eq_some_iff.mp h1).1) h1 h2).1
      · rcases Nat.eq_zero_or_pos (us.count (some (k : Int))) with h0 | h0
        · rw [h0]; exact (g.c7 c (List.mem_of_getElem? hk)).1
        · obtain ⟨i, hi, e⟩ := List.mem_iff_getElem.mp (List.count_pos_iff.mp h0)
          have e1 : us[i]? = some (some (k : Int)) := by rw [List.getElem?_eq_getElem hi, e]
          have hil : i < ls.length := by omega
          have := (hb i k ls[i] (by rw [zaW, List.length_map]; exact hi) e1 (List.getElem?_eq_getElem hil)).2
          rw [Int.toNat_natCast, List.getD_eq_getElem?_getD, hk] at this
          exact this
theorem Deal.range (g : Good cs ls) (dl : Deal cs ls ws) : ∀ t, some t ∈ ws -> 0 <= t /\ t < cs.length := fun t ht => by
  obtain ⟨i, hi, e⟩ := List.mem_iff_getElem.mp ht
  have hil : i < ls.length := by have := dl.len; omega
  have hls : ls[i]? = some ls[i] := List.getElem?_eq_getElem hil
  exact (g.rk _ (List.mem_of_getElem? hls)).flat t (dl.wish i t _ (by rw [List.getElem?_eq_getElem hi, e]) hls)
end
section
variable {cs : List Int} {ls : List (List (List Int))} {ws : List (Option Int)}
theorem zhK (g : Good cs ls) (dl : Deal cs ls ws) {us : List (Option Int)} {x2 x3 x4 x5 x6 x8 : Option Sl} (hl : us.length = ls.length) (hr : ∀ t, some t ∈ us -> 0 <= t /\ t < cs.length) :
    Ho (sSeq (sIf (zbk (zij 2 F_bh (zaf (dVar 0) (zeT 7 (mNil))))) (sRet (dVar 7)) (sNx)) (sRet (mMap PyData.list (zcf 1))))
      [some (.pub (zaA cs ls)), some (.pub (zav ws)), x2, x3, x4, x5, x6, some (.own (us.map optD)), x8] (fun o => ∃ d, o = Out.rt d /\ ∃ vs, d = zav vs /\ Deal cs ls vs) := by
  obtain ⟨r, hF, b, rfl, hb⟩ := zew g hl hr
  apply zaG
  apply zaU
  case h1 => exact zbu (zmG (zab (zad rfl) (zk1 rfl zak rfl)) rfl hF)
  case h2 => exact fun h => zaI (zbi rfl rfl) (zbP ⟨_, rfl, us, rfl, hb h⟩)
  case h3 => exact fun _ => zbc (zat (zaI (zau (zcG rfl (show zcK [zav ws] = some (ws.map optD) from rfl))) ⟨_, rfl, ws, rfl, dl⟩))
theorem zhf {us : List (Option Int)} {k : Nat} {o : Option Int} : (us.map optD).set k (optD o) = (us.set k o).map optD := by rw [List.map_set]
theorem zkb (g : Good cs ls) (dl : Deal cs ls ws) (c s : Int) : ∃ r, F_bi [zaA cs ls, zav ws, .int c, .int s] = some r /\ ∃ vs, r = zav vs /\ Deal cs ls vs := by
  refine zek (ρ := [some (.pub (zaA cs ls)), some (.pub (zav ws)), some (.pub (.int c)), some (.pub (.int s)), none, none, none, none, none]) rfl ?_
  unfold g_bi
  have l7 := g.l7; have l1 := g.l1; have len := dl.len
  obtain ⟨r, hF, dg, rfl, hdl, hdb⟩ := zb3 c s (sizes := [2, 7, 7, 61]) (fun x hx => by
    have hx : x = 2 ∨ x = 7 ∨ x = 61 := by simpa using hx
    omega) (by show 4 <= 1000; decide)
  have hd4 : dg.length = 4 := hdl
  match dg, hd4 with
  | [d0, d1, d2, d3], _ =>
  have b1 := hdb 1 d1 _ rfl rfl
  have b2 := hdb 2 d2 _ rfl rfl
  have b3 := hdb 3 d3 _ rfl rfl
  refine zap (zaZ (zaw (zab (zad rfl) (zab (zad rfl) (zab (zbx (zab zae (zab zae (zab zae (zab zae zak)))) (of_decide_eq_true rfl)) zak))) rfl hF) (of_decide_eq_true rfl) rfl) ?_
  have x0 : oIx (.list ([d0, d1, d2, d3].map PyData.int)) (.int 0) = some (.int d0) := zaO (j := 0) rfl
  have x1 : oIx (.list ([d0, d1, d2, d3].map PyData.int)) (.int 1) = some (.int d1) := zaO (j := 1) rfl
  have x2 : oIx (.list ([d0, d1, d2, d3].map PyData.int)) (.int 2) = some (.int d2) := zaO (j := 2) rfl
  have x3 : oIx (.list ([d0, d1, d2, d3].map PyData.int)) (.int 3) = some (.int d3) := zaO (j := 3) rfl
  have hul : oLen [zav ws] = some (.int ws.length) := by unfold zav; rw [zaT, List.length_map]
  obtain ⟨a, ha⟩ : ∃ a : Nat, d1 % (ws.length : Int) = a := ⟨(d1 % (ws.length : Int)).toNat, by have := Int.emod_nonneg d1 (show (ws.length : Int) ≠ 0 by omega); omega⟩
  obtain ⟨b, hb⟩ : ∃ b : Nat, d2 % (ws.length : Int) = b := ⟨(d2 % (ws.length : Int)).toNat, by have := Int.emod_nonneg d2 (show (ws.length : Int) ≠ 0 by omega); omega⟩
  have hal : a < ws.length := by have := Int.emod_lt_of_pos d1 (show 0 < (ws.length : Int) by omega); omega
  have hbl : b < ws.length := by have := Int.emod_lt_of_pos d2 (show 0 < (ws.length : Int) by omega); omega
  have m1 : oMod (.int d1) (.int ws.length) = some (.int a) := by rw [zdb (by omega), ha]
  have m2 : oMod (.int d2) (.int ws.length) = some (.int b) := by rw [zdb (by omega), hb]
  refine zap (zaZ (zar (zbo rfl zae x1) (za5 rfl hul) m1) (of_decide_eq_true rfl) rfl) ?_
  refine zap (zaZ (zar (zbo rfl zae x2) (za5 rfl hul) m2) (of_decide_eq_true rfl) rfl) ?_
  refine zap (zbn (zcG rfl (show zcK [zav ws] = some (ws.map optD) from rfl)) (of_decide_eq_true rfl) rfl) ?_
  have hrg := dl.range g
  have ia : oIx (zav ws) (.int a) = some (optD ws[a]) := zgf hal
  have ib : oIx (zav ws) (.int b) = some (optD ws[b]) := zgf hbl
  have hls : ls[a]? = some (ls[a]'(by omega)) := List.getElem?_eq_getElem (by omega)
  generalize ls[a]'(by omega) = rs at hls
  have gr := g.rk rs (List.mem_of_getElem? hls)
  apply zaG
  apply zaU
  case h1 => exact zar (zbo rfl zae x0) zae zcD
  case h2 =>
    intro _
    refine zap (zel (k := a) (zbo rfl (zad rfl) ib) rfl (zad rfl) rfl (by rw [List.length_map]; omega) rfl) ?_
    refine za7 (zel (k := b) (zbo rfl (zad rfl) ia) rfl (zad rfl) rfl (by rw [List.length_set, List.length_map]; omega) rfl) ?_
    refine zat ?_
    rw [Int.toNat_natCast, Int.toNat_natCast, zhf, zhf]
    refine zhK g dl (by rw [List.length_set, List.length_set]; exact len) fun t ht => ?_
    rcases List.mem_or_eq_of_mem_set ht with ht | ht
    · rcases List.mem_or_eq_of_mem_set ht with ht | ht
      · exact hrg t ht
      · exact hrg t (by rw [ht]; exact List.getElem_mem _)
    · exact hrg t (by rw [ht]; exact List.getElem_mem _)
  case h3 =>
    intro _
    have hfl : rs.flatten.length < 64 := by
      have := zcI cs.length _ gr.once gr.flat
      have := g.c6
      omega
    let os : List (Option Int) := (zch rs.flatten).map some ++ [none]
    have hos : os.map optD = (zch rs.flatten).map PyData.int ++ [.none] := by show (List.map some (zch rs.flatten) ++ [none]).map optD = _; rw [List.map_append, List.map_map]; rfl
    have hsl : (zch rs.flatten).length = rs.flatten.length := (zbT rs.flatten).length_eq
    have hadd : oAdd (.list ((zch rs.flatten).map PyData.int)) (.list [.none]) = some (.list (os.map optD)) := by
      rw [zbO (by rw [List.length_map, hsl]; show _ + 1 <= _; omega), hos]
    have hol : 0 < os.length := by show 0 < (List.map some (zch rs.flatten) ++ [none]).length; rw [List.length_append]; show 0 < _ + 1; omega
    have hlo : oLen [.list (os.map optD)] = some (.int os.length) := by rw [zaT, List.length_map]
    refine zap (zaZ (zar (zaw (zab (zad rfl) (zab (zad rfl) zak)) rfl (zet hls hfl)) (zbx (zab zae zak) (of_decide_eq_true rfl)) hadd) (of_decide_eq_true rfl) rfl) ?_
    obtain ⟨k, hk⟩ : ∃ k : Nat, d3 % (os.length : Int) = k := ⟨(d3 % (os.length : Int)).toNat, by have := Int.emod_nonneg d3 (show (os.length : Int) ≠ 0 by omega); omega⟩
    have hkl : k < os.length := by have := Int.emod_lt_of_pos d3 (show 0 < (os.length : Int) by omega); omega
    have m3 : oMod (.int d3) (.int os.length) = some (.int k) := by rw [zdb (by omega), hk]
    refine za7 (zel (k := a) (zbo rfl (zar (zbo rfl zae x3) (za5 rfl hlo) m3) (zgf hkl)) rfl (zad rfl) rfl (by rw [List.length_map]; omega) rfl) ?_
    refine zat ?_
    rw [Int.toNat_natCast, zhf]
    refine zhK g dl (by rw [List.length_set]; exact len) fun t ht => ?_
    rcases List.mem_or_eq_of_mem_set ht with ht | ht
    · exact hrg t ht
    · have hm : os[k] ∈ os := List.getElem_mem _
      rw [← ht] at hm
      rcases List.mem_append.mp hm with hm | hm
      · obtain ⟨y, hy, e⟩ := List.mem_map.mp hm
        cases e
        exact gr.flat t ((zbT rs.flatten).mem_iff.mp hy)
      · cases List.mem_singleton.mp hm
end
theorem zkc (o : Ord) : oEq (.str o.tx) (.str "lasts") = some (match o with | .lasts => true | _ => false) := by cases o <;> decide +kernel
def zcM (c : List Int) : Int := c.getD (c.length - 1) 0
def ordc : Ord -> List Int -> List Int
  | .firsts, c => c
  | .full, c => (0 - zcM c) :: c
  | .lasts, c => c.reverse.map fun x => 0 - x
def zbM (old : Option (List (Option Int))) (ws : List (Option Int)) : Nat := match old with
  | none => 0
  | some os => ((os.zip ws).filter fun p => decide (p.1 = p.2) && p.2.isSome).length
def zcs (ls : List (List (List Int))) (ws : List (Option Int)) (a : Int) : Int := match ws.getD a.toNat none with
  | none => 0
  | some t => (lng ls : Int) + 1 - (zbG t (ls.getD a.toNat []) : Nat)
theorem zly {c : List Int} (h : c ≠ []) : oIx (.list (c.map PyData.int)) (.int (-1)) = some (.int (zcM c)) := by
  have hl : 0 < c.length := List.length_pos_iff.mpr h
  show atI (c.map PyData.int) (-1) = _
  obtain ⟨n, hn⟩ : ∃ n, c.length = n + 1 := ⟨c.length - 1, by omega⟩
  unfold atI
  rw [List.length_map, hn, zhI]
  show (c.map PyData.int)[n]? = _
  unfold zcM
  rw [List.getElem?_map, hn, Nat.add_sub_cancel, List.getD_eq_getElem?_getD, List.getElem?_eq_getElem (by omega)]
  rfl
theorem zgn (os ws : List (Option Int)) : zipD (os.map optD) (ws.map optD) = (os.zip ws).map fun p => .tuple [optD p.1, optD p.2] := by
  unfold zipD
  rw [List.zip_map, List.map_map]
  rfl
theorem zhg {α β : Type} {l : List α} {p : α -> Bool} {f : α -> β} : (l.map fun x => if p x = true then some (f x) else none).filterMap id = (l.filter p).map f := by
  induction l with
  | nil => rfl
  | cons x r ih =>
    rw [List.map_cons]
    by_cases h : p x = true
    · rw [if_pos h, List.filter_cons_of_pos h, List.map_cons, ← ih]; rfl
    · rw [if_neg h, List.filter_cons_of_neg h, ← ih]; rfl
section
variable {cs : List Int} {ls : List (List (List Int))} {ws : List (Option Int)} {o : Ord} {old : Option (List (Option Int))} {ts : List Int}
theorem zhL (g : Good cs ls) : (cnts (lng ls) (rgot ls ws)).length <= 6 := by
  have hL : lng ls <= 5 := zj1 g.l1 fun rs h => (g.rk rs h).few
  rw [zc0]; omega
theorem zgo (g : Good cs ls) (dl : Deal cs ls ws) (ga : zbQ cs.length ls.length old ts) {K6 : List Int} {k7 : Int} {x6 x8 x10 x11 : Option Sl} {x3 x4 : Option Sl} (h6 : x6 = some (.pub (.list (K6.map PyData.int))) ∨ x6 = some (.own (K6.map PyData.int))) (hK : K6.length <= 100) :
    Ho (sSeq (sFor (za3 (dVar 5)) (gN 10) zfj) (sRet (dBin oAdd (dBin oAdd (dVar 6) (mLst (zaf (dVar 7) (mNil)))) (dVar 9))))
      [some (.pub (zaA cs ls)), some (.pub (aimD o old ts)), some (.pub (zav ws)), x3, x4, some (.pub (.list (ts.map PyData.int))), x6, some (.pub (.int k7)), x8, some (.own []), x10, x11] (fun r => r = Out.rt (.list ((K6 ++ [k7] ++ ts.map (zcs ls ws)).map PyData.int))) := by
  have l7 := g.l7
  have few := ga.few
  apply zaG
  apply zb1 (fun i ρ => ∃ y10 y11, ρ = [some (.pub (zaA cs ls)), some (.pub (aimD o old ts)), some (.pub (zav ws)), x3, x4, some (.pub (.list (ts.map PyData.int))), x6, some (.pub (.int k7)), x8, some (.own (((ts.take i).map (zcs ls ws)).map PyData.int)), y10, y11])
  case h1 => exact za0 (zad rfl) zbI
  case h0 => exact ⟨_, _, rfl⟩
  case hst =>
    rintro i d ρ hi ⟨y10, y11, rfl⟩
    rw [List.getElem?_map] at hi
    cases hti : ts[i]? with
    | none => rw [hti] at hi; cases hi
    | some z =>
    rw [hti] at hi
    cases hi
    have hz := ga.there z (List.mem_of_getElem? hti)
    obtain ⟨a, rfl⟩ : ∃ a : Nat, z = a := ⟨z.toNat, by omega⟩
    have hal : a < ls.length := by omega
    have hls : ls[a]? = some ls[a] := List.getElem?_eq_getElem hal
    have hwl : a < ws.length := by have := dl.len; omega
    have hwa : ws[a]? = some ws[a] := List.getElem?_eq_getElem hwl
    have hix : oIx (zav ws) (.int a) = some (optD ws[a]) := zgf hwl
    have hwd : ws.getD a none = ws[a] := by rw [List.getD_eq_getElem?_getD, hwa]; rfl
    have hld : ls.getD a [] = ls[a] := by rw [List.getD_eq_getElem?_getD, hls]; rfl
    have hnext : ((ts.take (i + 1)).map (zcs ls ws)) = (ts.take i).map (zcs ls ws) ++ [zcs ls ws a] := by rw [List.take_succ, hti, List.map_append]; rfl
    have htl : (((ts.take i).map (zcs ls ws)).map PyData.int).length < 1000000 := by rw [List.length_map, List.length_map, List.length_take]; omega
    have htr : zcs ls ws a = match ws[a] with | none => 0 | some t => (lng ls : Int) + 1 - (zbG t ls[a] : Nat) := by unfold zcs; rw [Int.toNat_natCast, hwd, hld]
    refine ⟨_, tg_N (of_decide_eq_true rfl) (by walk_at "set"), ?_⟩
    unfold zfj
    refine zap (zaZ zae (of_decide_eq_true rfl) rfl) ?_
    rw [hnext, List.map_append]
    generalize ((ts.take i).map (zcs ls ws)).map PyData.int = T at htl ⊢
    generalize hwo : ws[a] = w at hix htr
    cases w with
    | none =>
      apply zaG
      apply zaU
      case h1 => exact zau (k := fun d => !isNon d) (x := PyData.none) (zbo rfl (zad rfl) hix)
      case h2 => intro h; cases h
      case h3 =>
        intro _
        refine zbc (zat ?_)
        refine za7 (zdm rfl (zad rfl) rfl htl rfl) ?_
        rw [htr]
        exact za8 ⟨_, _, rfl⟩
    | some t =>
      apply zaG
      apply zaU
      case h1 => exact zau (k := fun d => !isNon d) (x := PyData.int t) (zbo rfl (zad rfl) hix)
      case h2 =>
        intro _
        refine za7 (zaZ (zar (zar (zaw (zab (zad rfl) zak) rfl (zc9 g)) zae za6) (zaw (zab (zad rfl) (zab (zad rfl) (zab (zbo rfl (zad rfl) hix) zak))) rfl (zev hls t)) zcU) (of_decide_eq_true rfl) rfl) ?_
        refine zat ?_
        refine za7 (zdm rfl (zad rfl) rfl htl rfl) ?_
        rw [htr]
        exact za8 ⟨_, _, rfl⟩
      case h3 => intro h; cases h
  case hend =>
    rintro ρ ⟨y10, y11, rfl⟩
    rw [List.length_map, List.take_length]
    refine zat ?_
    have e1 : oAdd (.list (K6.map PyData.int)) (.list [.int k7]) = some (.list ((K6 ++ [k7]).map PyData.int)) := by
      rw [zbO (by rw [List.length_map]; show _ + 1 <= _; omega), List.map_append]; rfl
    have e2 : oAdd (.list ((K6 ++ [k7]).map PyData.int)) (.list ((ts.map (zcs ls ws)).map PyData.int)) = some (.list ((K6 ++ [k7] ++ ts.map (zcs ls ws)).map PyData.int)) := by
      rw [zbO (by rw [List.length_map, List.length_map, List.length_map, List.length_append]; show _ + 1 + _ <= _; omega), ← List.map_append]
    rcases h6 with rfl | rfl
    · exact zaI (zar (zar (zad rfl) (zbx (zab (zad rfl) zak) (of_decide_eq_true rfl)) e1) (zbi rfl rfl) e2) rfl
    · exact zaI (zar (zar (zbi rfl rfl) (zbx (zab (zad rfl) zak) (of_decide_eq_true rfl)) e1) (zbi rfl rfl) e2) rfl
theorem zfu (g : Good cs ls) (dl : Deal cs ls ws) (ga : zbQ cs.length ls.length old ts) {K6 : List Int} {x3 x6 x7 x8 x9 x10 x11 : Option Sl} (h6 : x6 = some (.pub (.list (K6.map PyData.int))) ∨ x6 = some (.own (K6.map PyData.int))) (hK : K6.length <= 100) :
    Ho (sSeq (sSet 7 (zah (.int 0)))
  (sSeq (sIf (mMap (fun d => !isNon d) (dVar 4))
  (sSeq (zbK 8 (zbL (dZip (zaf (dVar 4) (zaf (dVar 2) (mNil)))) 2 (gT 2 (gNC (gN 12) (gNC (gN 13) (gN0)))) (zbf oEq 12 (dVar 13)) (dVar 13)))
  (sSet 7 (zbU oLen (zaf (mMap PyData.list (zbL (za3 (dVar 8)) 1 (gN 12) (mMap (fun d => !isNon d) (dVar 12)) (dVar 12))) (mNil)))))
  (sNx))
  (sSeq (zbK 9 (zas (mNil) fun xs => if xs.length <= 1000000 then zah xs else fun _ => .bad))
  (sSeq (sFor (za3 (dVar 5)) (gN 10) zfj)
  (sRet (dBin oAdd (dBin oAdd (dVar 6) (mLst (zaf (dVar 7) (mNil)))) (dVar 9)))))))
      [some (.pub (zaA cs ls)), some (.pub (aimD o old ts)), some (.pub (zav ws)), x3, some (.pub (oldD old)), some (.pub (.list (ts.map PyData.int))), x6, x7, x8, x9, x10, x11] (fun r => r = Out.rt (.list ((K6 ++ [(zbM old ws : Int)] ++ ts.map (zcs ls ws)).map PyData.int))) := by
  have l7 := g.l7
  have len := dl.len
  refine zap (zaZ zae (of_decide_eq_true rfl) rfl) ?_
  apply zaG
  cases old with
  | none =>
    apply zaU
    case h1 => exact zau (k := fun d => !isNon d) (x := PyData.none) (zad rfl)
    case h2 => intro h; cases h
    case h3 =>
      intro _
      refine zbc (zat ?_)
      refine zap (zbn (zcC zak (of_decide_eq_true rfl)) (of_decide_eq_true rfl) rfl) ?_
      exact zgo g dl ga h6 hK
  | some os =>
    have hos : os.length = ls.length := ga.len os rfl
    have hzl : (os.zip ws).length <= 7 := by rw [List.length_zip]; omega
    apply zaU
    case h1 => exact zau (k := fun d => !isNon d) (x := zav os) (zad rfl)
    case h3 => intro h; cases h
    case h2 =>
      intro _
      let same : List (Option Int) := ((os.zip ws).filter fun p => decide (p.1 = p.2)).map fun p => p.2
      have hc : za4 (gT 2 (gNC (gN 12) (gNC (gN 13) (gN0)))) (zbf oEq 12 (dVar 13)) (dVar 13) (zipD (os.map optD) (ws.map optD)) (zaL [some (.pub (zaA cs ls)), some (.pub (aimD o (some os) ts)), some (.pub (zav ws)), x3, some (.pub (oldD (some os))), some (.pub (.list (ts.map PyData.int))), x6, some (.pub (.int 0)), x8, x9, x10, x11] ++ List.replicate 2 none) [] = some (same.map optD) := by
        have hsm : same.map optD = ((os.zip ws).map fun p => if decide (p.1 = p.2) = true then some (optD p.2) else none).filterMap id := by
          rw [zhg]; show (List.map _ _).map optD = _; rw [List.map_map]; rfl
        rw [zgn, hsm]
        refine zdv (fun ρ => ∃ y3 y6 y8 y9 y10 y11 x y, ρ = [some (.pub (zaA cs ls)), some (.pub (aimD o (some os) ts)), some (.pub (zav ws)), y3, some (.pub (oldD (some os))), some (.pub (.list (ts.map PyData.int))), y6, some (.pub (.int 0)), y8, y9, y10, y11, x, y]) _ _ _ _ (by rw [List.length_map, List.length_map]) ?_ ⟨_, _, _, _, _, _, none, none, rfl⟩ (by rw [List.length_map, List.length_nil]; omega)
        rintro i d e hd he ρ ⟨y3, y6, y8, y9, y10, y11, x, y, rfl⟩
        rw [List.getElem?_map] at hd he
        cases hq : (os.zip ws)[i]? with
        | none => rw [hq] at hd; cases hd
        | some q =>
        rw [hq] at hd he
        cases hd
        cases he
        refine ⟨_, tg_T rfl (tg_C (tg_N (of_decide_eq_true rfl) rfl) (tg_C (tg_N (of_decide_eq_true rfl) rfl) tg_0)), ?_, ?_, _, _, _, _, _, _, _, _, rfl⟩
        · have e : (if decide (q.1 = q.2) = true then some (optD q.2) else none).isSome = decide (q.1 = q.2) := by
            by_cases h : q.1 = q.2
            · rw [decide_eq_true h]; rfl
            · rw [decide_eq_false h]; rfl
          rw [e]
          exact zaN rfl (zad rfl) zlT
        · intro v hv
          dsimp only at hv
          split at hv
          · cases hv; exact zad rfl
          · cases hv
      refine zap (zbn (zbv (zfW (zab (zad rfl) (zab (zad rfl) zak)) rfl) hc) (of_decide_eq_true rfl) rfl) ?_
      have hsl : same.length <= 7 := by show (List.map _ _).length <= 7; rw [List.length_map]; exact Nat.le_trans (List.length_filter_le _ _) hzl
      have hc2 : za4 (gN 12) (mMap (fun d => !isNon d) (dVar 12)) (dVar 12) (same.map optD) (zaL [some (.pub (zaA cs ls)), some (.pub (aimD o (some os) ts)), some (.pub (zav ws)), x3, some (.pub (oldD (some os))), some (.pub (.list (ts.map PyData.int))), x6, some (.pub (.int 0)), some (.pub (.list (same.map optD))), x9, x10, x11] ++ List.replicate 1 none) [] = some ((same.filter Option.isSome).map optD) := by
        rw [← zhg]
        refine zdv (fun ρ => ∃ y3 y6 y8 y9 y10 y11 x, ρ = [some (.pub (zaA cs ls)), some (.pub (aimD o (some os) ts)), some (.pub (zav ws)), y3, some (.pub (oldD (some os))), some (.pub (.list (ts.map PyData.int))), y6, some (.pub (.int 0)), y8, y9, y10, y11, x]) _ _ _ _ (by simp only [List.length_map]) ?_ ⟨_, _, _, _, _, _, none, rfl⟩ (by rw [List.length_map, List.length_nil]; omega)
        rintro i d e hd he ρ ⟨y3, y6, y8, y9, y10, y11, x, rfl⟩
        rw [List.getElem?_map] at hd he
        cases hq : same[i]? with
        | none => rw [hq] at hd; cases hd
        | some q =>
        rw [hq] at hd he
        cases hd
        cases he
        refine ⟨_, tg_N (of_decide_eq_true rfl) rfl, ?_, ?_, _, _, _, _, _, _, _, rfl⟩
        · cases q with
          | none => exact zau (k := fun d => !isNon d) (x := PyData.none) (zad rfl)
          | some t => exact zau (k := fun d => !isNon d) (x := PyData.int t) (zad rfl)
        · intro v hv
          dsimp only at hv
          split at hv
          · cases hv; exact zad rfl
          · cases hv
      have hln : oLen [.list ((same.filter Option.isSome).map optD)] = some (.int (zbM (some os) ws : Nat)) := by
        rw [zaT, List.length_map]
        congr 3
        show ((List.map _ _).filter _).length = _
        unfold zbM
        dsimp only
        rw [List.filter_map, List.length_map, List.filter_filter]
        congr 1
        apply List.filter_congr
        intro p _
        show (p.2.isSome && decide (p.1 = p.2)) = _
        rw [Bool.and_comm]
      refine za7 (zaZ (zbj (zab (zau (zbv (za0 (zbi rfl rfl) zbI) hc2)) zak) hln) (of_decide_eq_true rfl) rfl) ?_
      refine zat ?_
      refine zap (zbn (zcC zak (of_decide_eq_true rfl)) (of_decide_eq_true rfl) rfl) ?_
      exact zgo g dl ga h6 hK
theorem zlW (g : Good cs ls) (dl : Deal cs ls ws) (ga : zbQ cs.length ls.length old ts) : F_bj [zaA cs ls, aimD o old ts, zav ws] = some (.list ((ordc o (cnts (lng ls) (rgot ls ws)) ++ [(zbM old ws : Int)] ++ ts.map (zcs ls ws)).map PyData.int)) := by
  refine za9 (ρ := [some (.pub (zaA cs ls)), some (.pub (aimD o old ts)), some (.pub (zav ws)), none, none, none, none, none, none, none, none, none]) rfl ?_
  unfold g_bj
  have few : (cnts (lng ls) (rgot ls ws)).length <= 6 := zhL g
  have hne : cnts (lng ls) (rgot ls ws) ≠ [] := fun e => by have := zc0 (lng ls) (rgot ls ws); rw [e] at this; cases this
  refine zap (zdQ (zad rfl) (tg_T rfl (tg_C (tg_N (of_decide_eq_true rfl) rfl) (tg_C (tg_N (of_decide_eq_true rfl) rfl) (tg_C (tg_N (of_decide_eq_true rfl) rfl) tg_0))))) ?_
  refine zap (zaZ (zaw (zab (zad rfl) (zab (zad rfl) zak)) rfl (zfs g dl)) (of_decide_eq_true rfl) rfl) ?_
  generalize cnts (lng ls) (rgot ls ws) = c at few hne
  cases o with
  | firsts =>
    apply zaG
    apply zaU
    case h1 => exact zaN rfl zae (zhH .firsts)
    case h2 => intro h; cases h
    case h3 =>
      intro _
      refine zbc (zat ?_)
      apply zaG
      apply zaU
      case h1 => exact zaN rfl zae (zkc .firsts)
      case h2 => intro h; cases h
      case h3 => exact fun _ => zbc (zat (zfu g dl ga (K6 := c) (.inl rfl) (by omega)))
  | full =>
    apply zaG
    apply zaU
    case h1 => exact zaN rfl zae (zhH .full)
    case h3 => intro h; cases h
    case h2 =>
      intro _
      have e : oAdd (.list [.int (0 - zcM c)]) (.list (c.map PyData.int)) = some (.list (((0 - zcM c) :: c).map PyData.int)) := by
        rw [zbO (by rw [List.length_map]; show 1 + _ <= _; omega)]; rfl
      refine za7 (zaZ (zar (zbx (zab (zar zae (zbo rfl (zdl zae) (zly hne)) zcU) zak) (of_decide_eq_true rfl)) (zad rfl) e) (of_decide_eq_true rfl) rfl) ?_
      refine zat ?_
      apply zaG
      apply zaU
      case h1 => exact zaN rfl zae (zkc .full)
      case h2 => intro h; cases h
      case h3 => exact fun _ => zbc (zat (zfu g dl ga (K6 := (0 - zcM c) :: c) (.inl rfl) (by rw [List.length_cons]; omega)))
  | lasts =>
    apply zaG
    apply zaU
    case h1 => exact zaN rfl zae (zhH .lasts)
    case h2 => intro h; cases h
    case h3 =>
      intro _
      refine zbc (zat ?_)
      apply zaG
      apply zaU
      case h1 => exact zaN rfl zae (zkc .lasts)
      case h3 => intro h; cases h
      case h2 =>
        intro _
        have hc : ∀ x7 x8 x9 x10 x11 : Option Sl, za4 (gN 12) (zah true) (dBin oSub (zah (.int 0)) (dVar 12)) (c.map PyData.int).reverse (zaL [some (.pub (zaA cs ls)), some (.pub (aimD .lasts old ts)), some (.pub (zav ws)), some (.pub (.str Ord.lasts.tx)), some (.pub (oldD old)), some (.pub (.list (ts.map PyData.int))), some (.pub (.list (c.map PyData.int))), none, none, none, none, none] ++ List.replicate 1 none) [] = some ((c.reverse.map fun x => 0 - x).map PyData.int) := fun x7 x8 x9 x10 x11 => by
          rw [← List.map_reverse]
          refine zbD (fun ρ => ∃ x, ρ = [some (.pub (zaA cs ls)), some (.pub (aimD .lasts old ts)), some (.pub (zav ws)), some (.pub (.str Ord.lasts.tx)), some (.pub (oldD old)), some (.pub (.list (ts.map PyData.int))), some (.pub (.list (c.map PyData.int))), none, none, none, none, none, x]) _ _ _ _ (by simp only [List.length_map]) ?_ ⟨none, rfl⟩ (by rw [List.length_map, List.length_nil, List.length_reverse]; omega)
          rintro i d e hd he ρ ⟨x, rfl⟩
          rw [List.getElem?_map] at hd
          rw [List.getElem?_map, List.getElem?_map] at he
          cases hq : c.reverse[i]? with
          | none => rw [hq] at hd; cases hd
          | some q =>
          rw [hq] at hd he
          cases hd
          cases he
          exact ⟨_, tg_N (of_decide_eq_true rfl) rfl, rfl, zar zae (zad rfl) zcU, _, rfl⟩
        refine za7 (zbn (zbv (za0 (zjo (zad rfl) zae zae (zbZ (zdl zae))) zbI) (hc none none none none none)) (of_decide_eq_true rfl) rfl) ?_
        exact zat (zfu g dl ga (K6 := c.reverse.map fun x => 0 - x) (.inr rfl) (by rw [List.length_map, List.length_reverse]; omega))
end
def btr : List (Int × Int) -> Bool
  | [] => false
  | (m, y) :: r => if m = y then btr r else decide (y = 0) || (decide (0 < m) && decide (m < y))
def rgA (ls : List (List (List Int))) (ws : List (Option Int)) (a : Int) : Int := (rgot ls ws).getD a.toNat 0
def betW (o : Ord) (c1 c2 : List Int) (k1 k2 : Int) (r1 r2 : List Int) : Bool := if fnz (zeF o c1 c2) = 0 then (if k1 = k2 then btr (r1.zip r2) else decide (k2 < k1)) else decide (0 < fnz (zeF o c1 c2))
section
variable {cs : List Int} {ls : List (List (List Int))} {ws us : List (Option Int)} {o : Ord} {old : Option (List (Option Int))} {ts : List Int}
theorem zgp {os : List (Option Int)} (h : os.length <= 100) : F_as [oldD (some os), zav ws] = some (.int (zbM (some os) ws : Nat)) := by
  refine za9 (ρ := [some (.pub (zav os)), some (.pub (zav ws))]) rfl ?_
  unfold g_as
  apply zaG
  apply zaU
  case h1 => exact zau (k := isNon) (x := zav os) (zad rfl)
  case h2 => intro h; cases h
  case h3 =>
    intro _
    refine zbc (zat ?_)
    have hc : za4 (gT 2 (gNC (gN 2) (gNC (gN 3) (gN0)))) (mAnd (mMap (fun d => !isNon d) (dVar 2)) (zbf oEq 3 (dVar 2))) (dVar 2) (zipD (os.map optD) (ws.map optD)) (zaL [some (.pub (zav os)), some (.pub (zav ws))] ++ List.replicate 2 none) [] = some (((os.zip ws).filter fun p => p.1.isSome && decide (p.2 = p.1)).map fun p => optD p.1) := by
      rw [zgn, ← zhg]
      refine zdv (fun ρ => ∃ x y, ρ = [some (.pub (zav os)), some (.pub (zav ws)), x, y]) _ _ _ _ (by simp only [List.length_map]) ?_ ⟨none, none, rfl⟩ (by rw [List.length_map, List.length_nil, List.length_zip]; omega)
      rintro i d e hd he ρ ⟨x, y, rfl⟩
      rw [List.getElem?_map] at hd he
      cases hq : (os.zip ws)[i]? with
      | none => rw [hq] at hd; cases hd
      | some q =>
      rw [hq] at hd he
      cases hd
      cases he
      obtain ⟨p1, p2⟩ := q
      refine ⟨_, tg_T rfl (tg_C (tg_N (of_decide_eq_true rfl) rfl) (tg_C (tg_N (of_decide_eq_true rfl) rfl) tg_0)), ?_, ?_, _, _, rfl⟩
      · dsimp only
        cases p1 with
        | none => exact zgQ (zau (k := fun d => !isNon d) (x := PyData.none) (zad rfl))
        | some t =>
          have e : (if ((some t).isSome && decide (p2 = some t)) = true then some (optD (some t)) else none).isSome = decide (p2 = some t) := by
            by_cases h : p2 = some t
            · rw [decide_eq_true h]; rfl
            · rw [decide_eq_false h]; rfl
          rw [e]
          exact zgR (zau (k := fun d => !isNon d) (x := PyData.int t) (zad rfl)) (zaN rfl (zad rfl) (zlT (a := p2) (b := some t)))
      · intro v hv
        dsimp only at hv
        split at hv
        · cases hv; exact zad rfl
        · cases hv
    have hln : oLen [.list (((os.zip ws).filter fun p => p.1.isSome && decide (p.2 = p.1)).map fun p => optD p.1)] = some (.int (zbM (some os) ws : Nat)) := by
      rw [zaT, List.length_map]
      congr 3
      unfold zbM
      dsimp only
      congr 1
      apply List.filter_congr
      rintro ⟨p1, p2⟩ _
      dsimp only
      by_cases h : p1 = p2
      · subst h; rw [Bool.and_comm]
      · rw [decide_eq_false h, decide_eq_false (fun e => h e.symm), Bool.and_false, Bool.false_and]
    exact zaI (zbj (zab (zau (zbv (zfW (zab (zad rfl) (zab (zad rfl) zak)) rfl) hc)) zak) hln) rfl
theorem zgq : F_as [oldD none, zav ws] = some (.int (zbM none ws : Nat)) := by
  refine za9 (ρ := [some (.pub .none), some (.pub (zav ws))]) rfl ?_
  unfold g_as
  apply zaG
  apply zaU
  case h1 => exact zau (k := isNon) (x := PyData.none) (zad rfl)
  case h2 => exact fun _ => zaI zae (zbP rfl)
  case h3 => intro h; cases h
def zpm (ls : List (List (List Int))) (old : Option (List (Option Int))) (ts : List Int) (ws : List (Option Int)) : D := .tuple [.list ((cnts (lng ls) (rgot ls ws)).map PyData.int), .int (zbM old ws : Nat), .list ((ts.map (rgA ls ws)).map PyData.int)]
theorem zhM (g : Good cs ls) (hl : ws.length = ls.length) (ga : zbQ cs.length ls.length old ts) : F_at [zaA cs ls, aimD o old ts, zav ws] = some (zpm ls old ts ws) := by
  refine za9 (ρ := [some (.pub (zaA cs ls)), some (.pub (aimD o old ts)), some (.pub (zav ws)), none, none, none, none]) rfl ?_
  unfold g_at
  have l7 := g.l7
  have few := ga.few
  refine zap (zcE (zaw (zab (zad rfl) (zab (zad rfl) zak)) rfl (zpl g ga))) ?_
  refine zap (zdQ (zad rfl) (tg_T rfl (tg_C (tg_N (of_decide_eq_true rfl) rfl) (tg_C (tg_N (of_decide_eq_true rfl) rfl) (tg_C (tg_N (of_decide_eq_true rfl) rfl) tg_0))))) ?_
  refine zap (zaZ (zaw (zab (zad rfl) (zab (zad rfl) zak)) rfl (zdT g hl)) (of_decide_eq_true rfl) rfl) ?_
  have hk : F_as [oldD old, zav ws] = some (.int (zbM old ws : Nat)) := by
    cases old with
    | none => exact zgq
    | some os => exact zgp (by have := ga.len os rfl; omega)
  have hc : za4 (gN 7) (zah true) (dIxN 6 (dVar 7)) (ts.map PyData.int) (zaL [some (.pub (zaA cs ls)), some (.pub (aimD o old ts)), some (.pub (zav ws)), some (.pub (.str o.tx)), some (.pub (oldD old)), some (.pub (.list (ts.map PyData.int))), some (.pub (.list ((rgot ls ws).map PyData.int)))] ++ List.replicate 1 none) [] = some ((ts.map (rgA ls ws)).map PyData.int) := by
    refine zbD (fun ρ => ∃ x, ρ = [some (.pub (zaA cs ls)), some (.pub (aimD o old ts)), some (.pub (zav ws)), some (.pub (.str o.tx)), some (.pub (oldD old)), some (.pub (.list (ts.map PyData.int))), some (.pub (.list ((rgot ls ws).map PyData.int))), x]) _ _ _ _ (by simp only [List.length_map]) ?_ ⟨none, rfl⟩ (by rw [List.length_map, List.length_nil]; omega)
    rintro i d e hd he ρ ⟨x, rfl⟩
    rw [List.getElem?_map] at hd
    rw [List.getElem?_map, List.getElem?_map] at he
    cases hq : ts[i]? with
    | none => rw [hq] at hd; cases hd
    | some q =>
    rw [hq] at hd he
    cases hd
    cases he
    have hz := ga.there q (List.mem_of_getElem? hq)
    obtain ⟨a, rfl⟩ : ∃ a : Nat, q = a := ⟨q.toNat, by omega⟩
    have hal : a < (rgot ls ws).length := by rw [zhJ hl]; omega
    refine ⟨_, tg_N (of_decide_eq_true rfl) rfl, rfl, zbo rfl (zad rfl) (zaO ?_), _, rfl⟩
    unfold rgA
    rw [List.getElem?_map, Int.toNat_natCast, List.getD_eq_getElem?_getD, List.getElem?_eq_getElem hal]
    rfl
  exact zaI (zeN (zab (zaw (zab (zad rfl) (zab (zad rfl) zak)) rfl (zgi g hl)) (zab (zaw (zab (zad rfl) (zab (zad rfl) zak)) rfl hk) (zab (zau (zbv (za0 (zad rfl) zbI) hc)) zak))) (of_decide_eq_true rfl)) rfl
theorem zex {xs ys : List Int} : F_au [.list (xs.map PyData.int), .list (ys.map PyData.int)] = some (.bool (btr (xs.zip ys))) := by
  refine za9 (ρ := [some (.pub (.list (xs.map PyData.int))), some (.pub (.list (ys.map PyData.int))), none, none]) rfl ?_
  unfold g_au
  apply zaG
  apply zb1 (fun i ρ => (∃ x2 x3, ρ = [some (.pub (.list (xs.map PyData.int))), some (.pub (.list (ys.map PyData.int))), x2, x3]) /\ btr (xs.zip ys) = btr ((xs.zip ys).drop i))
  case h1 => exact zfW (zab (zad rfl) (zab (zad rfl) zak)) rfl
  case h0 => exact ⟨⟨_, _, rfl⟩, rfl⟩
  case hst =>
    rintro i d ρ hi ⟨⟨x2, x3, rfl⟩, hb⟩
    rw [zem, List.getElem?_map] at hi
    cases hq : (xs.zip ys)[i]? with
    | none => rw [hq] at hi; cases hi
    | some q =>
    rw [hq] at hi
    cases hi
    obtain ⟨m, y⟩ := q
    obtain ⟨hil, he⟩ := List.getElem?_eq_some_iff.mp hq
    rw [List.drop_eq_getElem_cons hil, he, btr] at hb
    refine ⟨_, tg_T rfl (tg_C (tg_N (of_decide_eq_true rfl) rfl) (tg_C (tg_N (of_decide_eq_true rfl) rfl) tg_0)), ?_⟩
    unfold zjF
    apply zaU
    case h1 => exact zaN rfl (zad rfl) zcV
    case h2 =>
      intro h
      have hmy : ¬ m = y := by simpa using h
      rw [if_neg hmy] at hb
      refine zaI (zjl (zau (zaN rfl zae zcD)) (fun _ => zau (zd1 zae (zad rfl) lt_int (fun _ => zad rfl) (fun _ => lt_int)))) (zcF (zbP ?_))
      rw [hb]
    case h3 =>
      intro h
      have hmy : m = y := by simpa using h
      rw [if_pos hmy] at hb
      exact zbc (za8 ⟨⟨_, _, rfl⟩, hb⟩)
  case hend =>
    rintro ρ ⟨⟨x2, x3, rfl⟩, hb⟩
    refine zat (zaI zae ?_)
    rw [zem, List.length_map, List.drop_length] at hb
    rw [hb]
    rfl
end
theorem zkd (a b : List Int) : fnz (a ++ b) = if fnz a = 0 then fnz b else fnz a := by
  induction a with
  | nil => rfl
  | cons x r ih =>
    show (if x = 0 then fnz (r ++ b) else x) = if (if x = 0 then fnz r else x) = 0 then fnz b else (if x = 0 then fnz r else x)
    by_cases h : x = 0
    · rw [if_pos h, if_pos h, ih]
    · rw [if_neg h, if_neg h, if_neg h]
theorem zke : ∀ {xs ys : List Int}, xs.length = ys.length -> HT.zcn ys xs = decide (0 < fnz (zbp xs ys))
  | [], [], _ => rfl
  | x :: xs, y :: ys, h => by
    rw [HT.zdy]
    show _ = decide (0 < if x - y = 0 then fnz (zbp xs ys) else x - y)
    by_cases e : y = x
    · rw [if_pos e, if_pos (by omega), zke (by simpa using h)]
    · rw [if_neg e, if_neg (by omega)]
      exact Bool.eq_iff_iff.2 (by rw [decide_eq_true_eq, decide_eq_true_eq]; omega)
theorem zgr {a b c d : List Int} (h : a.length = c.length) : zbp (a ++ b) (c ++ d) = zbp a c ++ zbp b d := by
  unfold zbp
  rw [List.zip_append h, List.map_append]
theorem zey {a b : List Int} (h : a.length = b.length) : (zbp a b).length = a.length := by unfold zbp; rw [List.length_map, List.length_zip]; omega
theorem zez {a b : List Int} {i : Nat} {x y : Int} (h1 : a[i]? = some x) (h2 : b[i]? = some y) : (zbp a b)[i]? = some (x - y) := by
  unfold zbp
  rw [List.getElem?_map, List.getElem?_zip_eq_some.mpr (by exact (⟨h1, h2⟩ : a[i]? = some (x, y).1 /\ b[i]? = some (x, y).2))]
  rfl
theorem zlz {o : Ord} {a b : List Int} (h : a.length = b.length) : (ordc o a).length = (ordc o b).length := by
  cases o with
  | firsts => exact h
  | full => show (_ :: a).length = (_ :: b).length; rw [List.length_cons, List.length_cons, h]
  | lasts => show (a.reverse.map _).length = (b.reverse.map _).length; rw [List.length_map, List.length_map, List.length_reverse, List.length_reverse, h]
theorem zkf {o : Ord} {a b : List Int} (h : a.length = b.length) (hne : a ≠ []) : zbp (ordc o a) (ordc o b) = zeF o a b := by
  have hp : 0 < a.length := List.length_pos_iff.mpr hne
  cases o with
  | firsts => rfl
  | full =>
    have hml := zey h
    have hx : a[a.length - 1]? = some (zcM a) := by unfold zcM; rw [List.getD_eq_getElem?_getD, List.getElem?_eq_getElem (by omega)]; rfl
    have hy : b[a.length - 1]? = some (zcM b) := by unfold zcM; rw [← h, List.getD_eq_getElem?_getD, List.getElem?_eq_getElem (by omega)]; rfl
    have hm := zez hx hy
    show (0 - zcM a - (0 - zcM b)) :: zbp a b = ((zbp a b).map fun x => -x).drop ((zbp a b).length - 1) ++ zbp a b
    have hd : ((zbp a b).map fun x => -x).drop ((zbp a b).length - 1) = [-(zcM a - zcM b)] := by
      rw [hml]
      have hl : a.length - 1 < ((zbp a b).map fun x => -x).length := by rw [List.length_map, hml]; omega
      rw [List.drop_eq_getElem_cons hl, List.drop_of_length_le (by rw [List.length_map, hml]; omega)]
      have e : ((zbp a b).map fun x => -x)[a.length - 1]? = some (-(zcM a - zcM b)) := by rw [List.getElem?_map, hm]; rfl
      rw [List.getElem?_eq_getElem hl] at e
      rw [Option.some.inj e]
    rw [hd]
    show _ = -(zcM a - zcM b) :: zbp a b
    congr 1
    omega
  | lasts =>
    show zbp (a.reverse.map fun x => 0 - x) (b.reverse.map fun x => 0 - x) = ((zbp a b).map fun x => -x).reverse
    apply List.ext_getElem?
    intro i
    have hml := zey h
    by_cases hi : i < a.length
    · obtain ⟨x, hx⟩ : ∃ x, a[a.length - 1 - i]? = some x := ⟨_, List.getElem?_eq_getElem (by omega)⟩
      obtain ⟨y, hy⟩ : ∃ y, b[a.length - 1 - i]? = some y := ⟨_, List.getElem?_eq_getElem (by omega)⟩
      have e1 : (a.reverse.map fun x => 0 - x)[i]? = some (0 - x) := by rw [List.getElem?_map, List.getElem?_reverse hi, hx]; rfl
      have e2 : (b.reverse.map fun x => 0 - x)[i]? = some (0 - y) := by rw [List.getElem?_map, List.getElem?_reverse (by omega), ← h, hy]; rfl
      rw [zez e1 e2, List.getElem?_reverse (by rw [List.length_map, hml]; exact hi), List.length_map, hml, List.getElem?_map, zez hx hy]
      show some (0 - x - (0 - y)) = some (-(x - y))
      congr 1
      omega
    · rw [List.getElem?_eq_none (by rw [zey (by rw [List.length_map, List.length_map, List.length_reverse, List.length_reverse, h]), List.length_map, List.length_reverse]; omega), List.getElem?_eq_none (by rw [List.length_reverse, List.length_map, hml]; omega)]
def tf (L : Nat) (r : Int) : Int := if r = 0 then 0 else (L : Int) + 1 - r
theorem zgs {L : Nat} : ∀ {xs ys : List Int}, (∀ r ∈ xs, 0 <= r /\ r <= L) -> (∀ r ∈ ys, 0 <= r /\ r <= L) -> decide (0 < fnz (zbp (xs.map (tf L)) (ys.map (tf L)))) = btr (xs.zip ys)
  | [], ys, _, _ => by cases ys <;> rfl
  | _ :: _, [], _, _ => rfl
  | x :: xs, y :: ys, hx, hy => by
    have bx := hx x List.mem_cons_self
    have by' := hy y List.mem_cons_self
    rw [List.zip_cons_cons, btr]
    show decide (0 < if tf L x - tf L y = 0 then fnz (zbp (xs.map (tf L)) (ys.map (tf L))) else tf L x - tf L y) = _
    by_cases e : x = y
    · rw [if_pos e, if_pos (by rw [e]; omega), zgs (fun r h => hx r (List.mem_cons_of_mem _ h)) (fun r h => hy r (List.mem_cons_of_mem _ h))]
    · have hne : tf L x - tf L y ≠ 0 := by unfold tf; split <;> split <;> omega
      rw [if_neg e, if_neg hne]
      apply Bool.eq_iff_iff.2
      rw [decide_eq_true_eq, Bool.or_eq_true, Bool.and_eq_true, decide_eq_true_eq, decide_eq_true_eq, decide_eq_true_eq]
      unfold tf
      split <;> split <;> omega
section
variable {cs : List Int} {ls : List (List (List Int))} {ws us : List (Option Int)} {o : Ord} {old : Option (List (Option Int))} {ts : List Int}
theorem zhN (g : Good cs ls) (dl : Deal cs ls ws) (ga : zbQ cs.length ls.length old ts) : ts.map (zcs ls ws) = (ts.map (rgA ls ws)).map (tf (lng ls)) := by
  rw [List.map_map]
  apply List.map_congr_left
  intro z hz
  have h := ga.there z hz
  obtain ⟨a, rfl⟩ : ∃ a : Nat, z = a := ⟨z.toNat, by omega⟩
  have hal : a < ls.length := by omega
  have hwl : a < ws.length := by have := dl.len; omega
  have hls : ls[a]? = some ls[a] := List.getElem?_eq_getElem hal
  have hwa : ws[a]? = some ws[a] := List.getElem?_eq_getElem hwl
  have hg := zfp hls hwa
  show zcs ls ws a = tf (lng ls) (rgA ls ws a)
  unfold zcs rgA
  rw [Int.toNat_natCast, List.getD_eq_getElem?_getD, List.getD_eq_getElem?_getD, List.getD_eq_getElem?_getD, hwa, hls, hg]
  show (match ws[a] with | none => (0 : Int) | some t => (lng ls : Int) + 1 - (zbG t ls[a] : Nat)) = tf (lng ls) (rg ls[a] ws[a])
  have hp := fun t (e : ws[a] = some t) => zeW (dl.wish a t ls[a] (by rw [hwa, e]) hls)
  generalize ws[a] = w at hp
  cases w with
  | none => rfl
  | some t =>
    have := hp t rfl
    show _ = tf (lng ls) ((zbG t ls[a] : Nat) : Int)
    unfold tf
    rw [if_neg (by omega)]
theorem zlX {z : Int} : 0 <= rgA ls ws z /\ rgA ls ws z <= lng ls := by
  unfold rgA
  rw [List.getD_eq_getElem?_getD]
  cases h : (rgot ls ws)[z.toNat]? with
  | none => exact ⟨Int.le_refl 0, by show (0 : Int) <= _; omega⟩
  | some r => exact zj4 r (List.mem_of_getElem? h)
theorem zfv (g : Good cs ls) (d1 : Deal cs ls ws) (d2 : Deal cs ls us) (ga : zbQ cs.length ls.length old ts) :
    HT.zcn (ordc o (cnts (lng ls) (rgot ls us)) ++ [(zbM old us : Int)] ++ ts.map (zcs ls us)) (ordc o (cnts (lng ls) (rgot ls ws)) ++ [(zbM old ws : Int)] ++ ts.map (zcs ls ws)) =
      betW o (cnts (lng ls) (rgot ls ws)) (cnts (lng ls) (rgot ls us)) (zbM old ws) (zbM old us) (ts.map (rgA ls ws)) (ts.map (rgA ls us)) := by
  have hl : (cnts (lng ls) (rgot ls ws)).length = (cnts (lng ls) (rgot ls us)).length := by rw [zc0, zc0]
  have hne : cnts (lng ls) (rgot ls ws) ≠ [] := fun e => by have := zc0 (lng ls) (rgot ls ws); rw [e] at this; cases this
  have hol := zlz (o := o) hl
  rw [zke (by simp only [List.length_append, List.length_map, hol]; rfl), zgr (by rw [List.length_append, List.length_append, hol]; rfl), zgr hol, zkf hl hne, zkd, zkd, zhN g d1 ga, zhN g d2 ga]
  have ht := zgs (L := lng ls) (xs := ts.map (rgA ls ws)) (ys := ts.map (rgA ls us)) (fun r h => by obtain ⟨z, _, rfl⟩ := List.mem_map.mp h; exact zlX) (fun r h => by obtain ⟨z, _, rfl⟩ := List.mem_map.mp h; exact zlX)
  unfold betW
  rw [← ht]
  have hk : fnz (zbp [(zbM old ws : Int)] [(zbM old us : Int)]) = (zbM old ws : Int) - zbM old us := by
    show (if (zbM old ws : Int) - zbM old us = 0 then (0 : Int) else (zbM old ws : Int) - zbM old us) = _
    split <;> omega
  rw [hk]
  by_cases h1 : fnz (zeF o (cnts (lng ls) (rgot ls ws)) (cnts (lng ls) (rgot ls us))) = 0
  · rw [if_pos h1, if_pos h1]
    by_cases h2 : (zbM old ws : Int) = zbM old us
    · rw [if_pos h2, if_pos (by omega)]
    · rw [if_neg h2, if_neg (by omega)]
      exact Bool.eq_iff_iff.2 (by rw [decide_eq_true_eq, decide_eq_true_eq]; omega)
  · rw [if_neg h1, if_neg h1, if_neg h1]
theorem zeA (g : Good cs ls) (hl1 : ws.length = ls.length) (hl2 : us.length = ls.length) (ga : zbQ cs.length ls.length old ts) : F_av [zaA cs ls, aimD o old ts, zav ws, zav us] =
    some (.bool (betW o (cnts (lng ls) (rgot ls ws)) (cnts (lng ls) (rgot ls us)) (zbM old ws) (zbM old us) (ts.map (rgA ls ws)) (ts.map (rgA ls us)))) := by
  refine za9 (ρ := [some (.pub (zaA cs ls)), some (.pub (aimD o old ts)), some (.pub (zav ws)), some (.pub (zav us)), none, none, none, none, none, none, none]) rfl ?_
  unfold g_av betW
  refine zap (zdQ (zaw (zab (zad rfl) (zab (zad rfl) (zab (zad rfl) zak))) rfl (zhM (o := o) g hl1 ga)) (tg_T rfl (tg_C (tg_N (of_decide_eq_true rfl) rfl) (tg_C (tg_N (of_decide_eq_true rfl) rfl) (tg_C (tg_N (of_decide_eq_true rfl) rfl) tg_0))))) ?_
  refine zap (zdQ (zaw (zab (zad rfl) (zab (zad rfl) (zab (zad rfl) zak))) rfl (zhM (o := o) g hl2 ga)) (tg_T rfl (tg_C (tg_N (of_decide_eq_true rfl) rfl) (tg_C (tg_N (of_decide_eq_true rfl) rfl) (tg_C (tg_N (of_decide_eq_true rfl) rfl) tg_0))))) ?_
  have few : (cnts (lng ls) (rgot ls ws)).length <= 6 := zhL g
  have hb := zhb o (xs := cnts (lng ls) (rgot ls ws)) (ys := cnts (lng ls) (rgot ls us)) (by omega)
  have i0 : oIx (aimD o old ts) (.int 0) = some (.str o.tx) := zaO (j := 0) rfl
  refine zap (zaZ (zaw (zab (zbo rfl zae i0) (zab (zad rfl) (zab (zad rfl) zak))) rfl hb) (of_decide_eq_true rfl) rfl) ?_
  generalize fnz (zeF o (cnts (lng ls) (rgot ls ws)) (cnts (lng ls) (rgot ls us))) = z
  have e1 : oNe (.str (bsT z)) (.str "alike") = some (decide (z ≠ 0)) := by
    unfold bsT
    by_cases h : z = 0
    · rw [if_pos h, decide_eq_false (by omega)]; decide +kernel
    · rw [if_neg h, decide_eq_true h]; split <;> decide +kernel
  have e2 : oEq (.str (bsT z)) (.str "better") = some (decide (0 < z)) := by
    unfold bsT
    by_cases h : z = 0
    · rw [if_pos h, decide_eq_false (by omega)]; decide +kernel
    · rw [if_neg h]
      by_cases h2 : 0 < z
      · rw [if_pos h2, decide_eq_true h2]; decide +kernel
      · rw [if_neg h2, decide_eq_false h2]; decide +kernel
  apply zaG
  apply zaU
  case h1 => exact zaN rfl zae e1
  case h2 =>
    intro h
    rw [if_neg (of_decide_eq_true h)]
    exact zaI (zau (zaN rfl zae e2)) (zbP rfl)
  case h3 =>
    intro h
    have hz : z = 0 := by have := of_decide_eq_false h; omega
    rw [if_pos hz]
    refine zbc (zat ?_)
    apply zaG
    apply zaU
    case h1 => exact zaN rfl (zad rfl) zcV
    case h2 =>
      intro h
      have hk : ¬ ((zbM old ws : Nat) : Int) = (zbM old us : Nat) := by simpa using h
      rw [if_neg hk]
      exact zaI (zau (zaN rfl (zad rfl) rfl)) (zbP rfl)
    case h3 =>
      intro h
      have hk : ((zbM old ws : Nat) : Int) = (zbM old us : Nat) := by simpa using h
      rw [if_pos hk]
      exact zbc (zat (zaI (zaw (zab (zad rfl) (zab (zad rfl) zak)) rfl zex) rfl))
end
theorem zhO : ∀ xs : List Int, HT.zcn xs xs = false
  | [] => rfl
  | x :: xs => by rw [HT.zdy, if_pos rfl, zhO xs]
theorem zlA (a b : Bool) : oEq (.bool a) (.bool b) = some (decide (a = b)) := by cases a <;> cases b <;> rfl
theorem zeB (a b : Bool) : F_bk [.bool a, .bool b] = some (.bool (decide (a = b))) := by
  refine za9 (ρ := [some (.pub (.bool a)), some (.pub (.bool b))]) rfl ?_
  unfold g_bk
  exact zaI (zdD (zau (k := fun d => PyData.bool (isTy d "bool")) (x := PyData.bool a) (zad rfl)) (fun _ => zau (zaN rfl (zad rfl) (zlA a b)))) rfl
theorem zng {xs : List D} {a b : Option Int} {x : D} (h : x ∈ DL.cutD xs a b) : x ∈ xs := by
  unfold DL.cutD at h
  exact List.mem_of_mem_drop (List.mem_of_mem_take h)
theorem zkg {d : D} (h1 : d.canLay0 = true) (h2 : d.depth <= 60) : oEq d d = some true := by
  unfold oEq
  rw [if_pos ⟨h1, h1, h2⟩, zfm _ h1]
theorem znh (ws us : List (Option Int)) : (PyData.list [zav ws, zav us]).canLay0 = true := zb4 fun x hx => by
  have hx : x = zav ws ∨ x = zav us := by simpa using hx
  rcases hx with rfl | rfl <;> exact zfo _
theorem zni (ws us : List (Option Int)) : (PyData.list [zav ws, zav us]).depth <= 60 := by
  have h : PyData.depthAll [zav ws, zav us] <= 2 := zb5 fun x hx => by
    have hx : x = zav ws ∨ x = zav us := by simpa using hx
    rcases hx with rfl | rfl <;> exact zhG _
  have := zeq h
  omega
section
variable {cs : List Int} {ls : List (List (List Int))} {ws us : List (Option Int)} {o : Ord} {old : Option (List (Option Int))} {ts : List Int} {ns : List Int}
theorem zhP (g : Good cs ls) (dw : Deal cs ls ws) (du : Deal cs ls us) (ga : zbQ cs.length ls.length old ts) {x4 x6 x7 x9 x10 x11 : Option Sl} {Q : Out -> Prop} (I : DEnv -> Prop)
    (hI : ∀ y9 y10 y11, I [some (.pub (.list (ns.map PyData.int))), some (.pub (zaA cs ls)), some (.pub (aimD o old ts)), some (.pub (zaA cs ls)), x4, some (.pub (zav us)), x6, x7, some (.pub (zav us)), y9, y10, y11]) :
    Ho (sSeq (sSet 9 (dFun 3 F_bj (zaf (dVar 1) (zaf (dVar 2) (zaf (dVar 8) (mNil))))))
  (sSeq (sSet 10 (dFun 3 F_bj (zaf (dVar 1) (zaf (dVar 2) (zaf (dVar 5) (mNil))))))
  (sSeq (zbK 11 (zas (zaf (mMap PyData.list (zcf 8)) (zaf (mMap PyData.list (zcf 5)) (mNil))) fun xs => if xs.length <= 1000000 then zah xs else fun _ => .bad))
  (sSeq (sIf (mNot (zbk (dFun 2 F_bk (zaf (dFun 4 F_av (zaf (dVar 3) (zaf (dVar 2) (zaf (dIxN 11 (zah (.int 0))) (zaf (dIxN 11 (zah (.int 1))) (mNil)))))) (zaf (mMap PyData.bool (zbf oGtX 9 (dVar 10))) (mNil))))))
  (sRet (zah (.bool false)))
  (sNx))
  (sSeq (sIf (mNot (zbk (dFun 2 F_bk (zaf (dFun 4 F_av (zaf (dVar 3) (zaf (dVar 2) (zaf (dIxN 11 (zah (.int 1))) (zaf (dIxN 11 (zah (.int 0))) (mNil)))))) (zaf (mMap PyData.bool (zbf oGtX 10 (dVar 9))) (mNil))))))
  (sRet (zah (.bool false)))
  (sNx))
  (sSeq (sIf (zbf oNe 11 (mLst (zaf (dVar 8) (zaf (dVar 5) (mNil)))))
  (sRet (zah (.bool false)))
  (sNx))
  (sSet 5 (dVar 8)))))))) [some (.pub (.list (ns.map PyData.int))), some (.pub (zaA cs ls)), some (.pub (aimD o old ts)), some (.pub (zaA cs ls)), x4, some (.pub (zav ws)), x6, x7, some (.pub (zav us)), x9, x10, x11] (zfV I Q) := by
  refine zap (zaZ (zaw (zab (zad rfl) (zab (zad rfl) (zab (zad rfl) zak))) rfl (zlW (o := o) g du ga)) (of_decide_eq_true rfl) rfl) ?_
  refine zap (zaZ (zaw (zab (zad rfl) (zab (zad rfl) (zab (zad rfl) zak))) rfl (zlW (o := o) g dw ga)) (of_decide_eq_true rfl) rfl) ?_
  have m1 := zfv (o := o) g du dw ga
  have m2 := zfv (o := o) g dw du ga
  have b1 := zeA (o := o) g du.len dw.len ga
  have b2 := zeA (o := o) g dw.len du.len ga
  rw [← m1] at b1
  rw [← m2] at b2
  generalize (ordc o (cnts (lng ls) (rgot ls us)) ++ [(zbM old us : Int)] ++ ts.map (zcs ls us)) = KU at b1 b2 ⊢
  generalize (ordc o (cnts (lng ls) (rgot ls ws)) ++ [(zbM old ws : Int)] ++ ts.map (zcs ls ws)) = KW at b1 b2 ⊢
  refine zap (zbn (zcC (zab (zau (zcG rfl (show zcK [zav us] = some (us.map optD) from rfl))) (zab (zau (zcG rfl (show zcK [zav ws] = some (ws.map optD) from rfl))) zak)) (of_decide_eq_true rfl)) (of_decide_eq_true rfl) rfl) ?_
  have i0 : atI [PyData.list (us.map optD), PyData.list (ws.map optD)] 0 = some (zav us) := zaO (j := 0) rfl
  have i1 : atI [PyData.list (us.map optD), PyData.list (ws.map optD)] 1 = some (zav ws) := zaO (j := 1) rfl
  apply zaG
  apply zaU
  case h1 => exact zb9 (zbu (zaw (zab (zaw (zab (zad rfl) (zab (zad rfl) (zab (zeO rfl zae rfl i0) (zab (zeO rfl zae rfl i1) zak)))) rfl b1) (zab (zau (zaN rfl (zad rfl) zjC)) zak)) rfl (zeB _ _)))
  case h2 => intro h; simp at h
  case h3 =>
    intro _
    refine zbc (zat ?_)
    apply zaG
    apply zaU
    case h1 => exact zb9 (zbu (zaw (zab (zaw (zab (zad rfl) (zab (zad rfl) (zab (zeO rfl zae rfl i1) (zab (zeO rfl zae rfl i0) zak)))) rfl b2) (zab (zau (zaN rfl (zad rfl) zjC)) zak)) rfl (zeB _ _)))
    case h2 => intro h; simp at h
    case h3 =>
      intro _
      refine zbc (zat ?_)
      apply zaG
      apply zaU
      case h1 => exact zfc rfl (zbx (zab (zad rfl) (zab (zad rfl) zak)) (of_decide_eq_true rfl)) rfl (zm9 (znh us ws) (zni us ws))
      case h2 => intro h; cases h
      case h3 =>
        intro _
        refine zbc (zat ?_)
        exact za7 (zaZ (zad rfl) (of_decide_eq_true rfl) rfl) (za8 (hI _ _ _))
end
theorem zlB : ∀ ns : List Int, ns.length <= 63 -> F_bl [.list (ns.map PyData.int)] = some (.bool true) := by
  intro ns hns
  refine za9 (ρ := [some (.pub (.list (ns.map PyData.int))), none, none, none, none, none, none, none, none, none, none, none]) rfl ?_
  unfold g_bl
  obtain ⟨r, hr, cs, ls, rfl, g⟩ := zg4 (ns := ns) (by omega) 1
  have l7 := g.l7; have c6 := g.c6
  refine zap (zaZ (zaw (zab (zad rfl) (zab zae (zab zae (zab zae (zab zae zak))))) rfl hr) (of_decide_eq_true rfl) rfl) ?_
  obtain ⟨v, hv⟩ := zcl ns 0 (by omega)
  obtain ⟨v3, hv3⟩ := zcl ns 3 (by omega)
  obtain ⟨r, ha, o, old, ts, rfl, ga⟩ := zlv g v 5
  refine zap (zaZ (zaw (zab (zad rfl) (zab (zaw (zab (zad rfl) (zab zae zak)) rfl hv) (zab zae zak))) rfl ha) (of_decide_eq_true rfl) rfl) ?_
  refine zap (zaZ (zaw (zab (zad rfl) zak) rfl (znd g)) (of_decide_eq_true rfl) rfl) ?_
  have hrp := zlw (o := o) ga c6 l7
  refine zap (zaZ (zbj (zab (zad rfl) zak) hrp) (of_decide_eq_true rfl) rfl) ?_
  obtain ⟨r, hdt, ws, rfl, dw⟩ := zeY g v3 2
  refine zap (zaZ (zaw (zab (zad rfl) (zab (zaw (zab (zad rfl) (zab zae zak)) rfl hv3) (zab zae zak))) rfl hdt) (of_decide_eq_true rfl) rfl) ?_
  have b0 := zeA (o := o) g dw.len dw.len ga
  rw [← zfv (o := o) g dw dw ga, zhO] at b0
  have b0' : F_av [zaA cs ls, aimD o old ts, .list (ws.map optD), .list (ws.map optD)] = some (.bool false) := b0
  apply zaG
  apply zaU
  case h1 => exact zb9 (zbu (zaw (zab (zaw (zab (zad rfl) (zab (zad rfl) (zab (zau (zcG rfl (show zcK [zav ws] = some (ws.map optD) from rfl))) (zab (zau (zcG rfl (show zcK [zav ws] = some (ws.map optD) from rfl))) zak)))) rfl b0') (zab zae zak)) rfl (zeB _ _)))
  case h2 => intro h; cases h
  case h3 =>
    intro _
    refine zbc (zat ?_)
    apply zaG
    apply zb1 (fun _ ρ => ∃ us y6 y7 y8 y9 y10 y11, ρ = [some (.pub (.list (ns.map PyData.int))), some (.pub (zaA cs ls)), some (.pub (aimD o old ts)), some (.pub (zaA cs ls)), some (.pub (.str (aimD o old ts).shown)), some (.pub (zav us)), y6, y7, y8, y9, y10, y11] /\ Deal cs ls us)
    case h1 => exact zcT (zab (zeP (zad rfl) (zbZ zae) (zbZ zae) zcX) zak) zcj
    case h0 => exact ⟨ws, _, _, _, _, _, _, rfl, dw⟩
    case hst =>
      rintro i d ρ hi ⟨us, y6, y7, y8, y9, y10, y11, rfl, du⟩
      obtain ⟨x, hx, rfl⟩ := zb0 hi
      obtain ⟨c, _, rfl⟩ := List.mem_map.mp (zng (List.mem_of_getElem? hx))
      refine ⟨_, tg_T rfl (tg_C (tg_N (of_decide_eq_true rfl) rfl) (tg_C (tg_N (of_decide_eq_true rfl) rfl) tg_0)), ?_⟩
      rw [Nat.zero_add]
      unfold zjS
      obtain ⟨r1, hd1, w1, rfl, dw1⟩ := zeY g c (31 + (i : Int))
      obtain ⟨r2, hd2, w2, rfl, dw2⟩ := zkb g du c (31 + (i : Int))
      apply zaG
      apply zaU
      case h1 => exact zar (zar (zad rfl) zae (zdb (by decide))) zae zcD
      case h2 =>
        intro _
        refine za7 (zaZ (zaw (zab (zad rfl) (zab (zad rfl) (zab (zar zae (zad rfl) za6) zak))) rfl hd1) (of_decide_eq_true rfl) rfl) (zat ?_)
        exact zhP g du dw1 ga _ fun z9 z10 z11 => ⟨w1, _, _, _, _, _, _, rfl, dw1⟩
      case h3 =>
        intro _
        refine za7 (zaZ (zaw (zab (zad rfl) (zab (zad rfl) (zab (zad rfl) (zab (zar zae (zad rfl) za6) zak)))) rfl hd2) (of_decide_eq_true rfl) rfl) (zat ?_)
        exact zhP g du dw2 ga _ fun z9 z10 z11 => ⟨w2, _, _, _, _, _, _, rfl, dw2⟩
    case hend =>
      rintro ρ ⟨us, y6, y7, y8, y9, y10, y11, rfl, _⟩
      have q1 : oEq (zaA cs ls) (zaA cs ls) = some true := zkg (zln cs ls) (zlo cs ls)
      have q2 : oEq (.str (aimD o old ts).shown) (.str (aimD o old ts).shown) = some true := zkg (zhe ga c6 l7) (by simp [PyData.depth])
      exact zat (zaI (zdD (zau (zaN rfl (zad rfl) q1)) (fun _ => zau (zar (zbj (zab (zad rfl) zak) hrp) (zad rfl) q2))) rfl)
end W
open PySem PySem.W PyProof.Rows
set_option maxRecDepth 100000 in
set_option maxHeartbeats 0 in
theorem PySem.Challenge.cw_wishdeal_k22_a_better_one_holds : PySem.Challenge.rw_wishdeal_k22_a_better_one.Holds := by
  w_on; o_law; k_head; (case hw => w_witness2)
  k_fill
  refine W.walk (l := PySem.Challenge.rw_wishdeal_k22_a_better_one) rfl rfl (fun w h Y => PySem.W.kIn_of Y) ?F W.zlB
  case F =>
    intro w mg fa h KX G hmg
    refine' W.zpc KX G hmg ?a0 ?l0 ?c0 ?k0 ?a1 ?l1 ?c1 ?k1 ?a2 ?l2 ?c2 ?k2 ?a3 ?l3 ?c3 ?k3 ?a4 ?l4 ?c4 ?k4 ?a5 ?l5 ?c5 ?k5 ?a6 ?l6 ?c6 ?k6 ?a7 ?l7 ?c7 ?k7 ?a8 ?l8 ?c8 ?k8 ?a9 ?l9 ?c9 ?k9 ?a10 ?l10 ?c10 ?k10 ?a11 ?l11 ?c11 ?k11 ?a12 ?l12 ?c12 ?k12 ?a13 ?l13 ?c13 ?k13 ?a14 ?l14 ?c14 ?k14 ?a15 ?l15 ?c15 ?k15 ?a16 ?l16 ?c16 ?k16 ?a17 ?l17 ?c17 ?k17 ?a18 ?l18 ?c18 ?k18 ?a19 ?l19 ?c19 ?k19 ?a20 ?l20 ?c20 ?k20 ?a21 ?l21 ?c21 ?k21 ?a22 ?l22 ?c22 ?k22 ?a23 ?l23 ?c23 ?k23 ?a24 ?l24 ?c24 ?k24 ?a25 ?l25 ?c25 ?k25 ?a26 ?l26 ?c26 ?k26 ?a27 ?l27 ?c27 ?k27 ?a28 ?l28 ?c28 ?k28 ?a29 ?l29 ?c29 ?k29 ?a30 ?l30 ?c30 ?k30 ?a31 ?l31 ?c31 ?k31 ?a32 ?l32 ?c32 ?k32 ?a33 ?l33 ?c33 ?k33 ?a34 ?l34 ?c34 ?k34 ?a35 ?l35 ?c35 ?k35 ?a36 ?l36 ?c36 ?k36 ?a37 ?l37 ?c37 ?k37 ?z0 ?z1 ?z2 ?z3 ?z4 ?z5 ?z6 ?z7 ?z8 ?z9 ?z10 ?z11 ?z12 ?z13 ?z14 ?z15 ?y0 ?y1 ?y2 ?y3 ?y4 ?x4
    (case a0 => k_is)
    (case l0 => k_is)
    (case c0 => k_is)
    (case k0 => k_is)
    (case a1 => k_is)
    (case l1 => k_is)
    (case c1 => k_is)
    (case k1 => k_is)
    (case a2 => k_is)
    (case l2 => k_is)
    (case c2 => k_is)
    (case k2 => k_is)
    (case a3 => k_is)
    (case l3 => k_is)
    (case c3 => k_is)
    (case k3 => k_is)
    (case a4 => k_is)
    (case l4 => k_is)
    (case c4 => k_is)
    (case k4 => k_is)
    (case a5 => k_is)
    (case l5 => k_is)
    (case c5 => k_is)
    (case k5 => k_is)
    (case a6 => k_is)
    (case l6 => k_is)
    (case c6 => k_is)
    (case k6 => k_is)
    (case a7 => k_is)
    (case l7 => k_is)
    (case c7 => k_is)
    (case k7 => k_is)
    (case a8 => k_is)
    (case l8 => k_is)
    (case c8 => k_is)
    (case k8 => k_is)
    (case a9 => k_is)
    (case l9 => k_is)
    (case c9 => k_is)
    (case k9 => k_is)
    (case a10 => k_is)
    (case l10 => k_is)
    (case c10 => k_is)
    (case k10 => k_is)
    (case a11 => k_is)
    (case l11 => k_is)
    (case c11 => k_is)
    (case k11 => k_is)
    (case a12 => k_is)
    (case l12 => k_is)
    (case c12 => k_is)
    (case k12 => k_is)
    (case a13 => k_is)
    (case l13 => k_is)
    (case c13 => k_is)
    (case k13 => k_is)
    (case a14 => k_is)
    (case l14 => k_is)
    (case c14 => k_is)
    (case k14 => k_is)
    (case a15 => k_is)
    (case l15 => k_is)
    (case c15 => k_is)
    (case k15 => k_is)
    (case a16 => k_is)
    (case l16 => k_is)
    (case c16 => k_is)
    (case k16 => k_is)
    (case a17 => k_is)
    (case l17 => k_is)
    (case c17 => k_is)
    (case k17 => k_is)
    (case a18 => k_is)
    (case l18 => k_is)
    (case c18 => k_is)
    (case k18 => k_is)
    (case a19 => k_is)
    (case l19 => k_is)
    (case c19 => k_is)
    (case k19 => k_is)
    (case a20 => k_is)
    (case l20 => k_is)
    (case c20 => k_is)
    (case k20 => k_is)
    (case a21 => k_is)
    (case l21 => k_is)
    (case c21 => k_is)
    (case k21 => k_is)
    (case a22 => k_is)
    (case l22 => k_is)
    (case c22 => k_is)
    (case k22 => k_is)
    (case a23 => k_is)
    (case l23 => k_is)
    (case c23 => k_is)
    (case k23 => k_is)
    (case a24 => k_is)
    (case l24 => k_is)
    (case c24 => k_is)
    (case k24 => k_is)
    (case a25 => k_is)
    (case l25 => k_is)
    (case c25 => k_is)
    (case k25 => k_is)
    (case a26 => k_is)
    (case l26 => k_is)
    (case c26 => k_is)
    (case k26 => k_is)
    (case a27 => k_is)
    (case l27 => k_is)
    (case c27 => k_is)
    (case k27 => k_is)
    (case a28 => k_is)
    (case l28 => k_is)
    (case c28 => k_is)
    (case k28 => k_is)
    (case a29 => k_is)
    (case l29 => k_is)
    (case c29 => k_is)
    (case k29 => k_is)
    (case a30 => k_is)
    (case l30 => k_is)
    (case c30 => k_is)
    (case k30 => k_is)
    (case a31 => k_is)
    (case l31 => k_is)
    (case c31 => k_is)
    (case k31 => k_is)
    (case a32 => k_is)
    (case l32 => k_is)
    (case c32 => k_is)
    (case k32 => k_is)
    (case a33 => k_is)
    (case l33 => k_is)
    (case c33 => k_is)
    (case k33 => k_is)
    (case a34 => k_is)
    (case l34 => k_is)
    (case c34 => k_is)
    (case k34 => k_is)
    (case a35 => k_is)
    (case l35 => k_is)
    (case c35 => k_is)
    (case k35 => k_is)
    (case a36 => k_is)
    (case l36 => k_is)
    (case c36 => k_is)
    (case k36 => k_is)
    (case a37 => k_is)
    (case l37 => k_is)
    (case c37 => k_is)
    (case k37 => k_is)
    (case z0 => k_is)
    (case z1 => k_is)
    (case z2 => k_is)
    (case z3 => k_is)
    (case z4 => k_is)
    (case z5 => k_is)
    (case z6 => k_is)
    (case z7 => k_is)
    (case z8 => k_is)
    (case z9 => k_is)
    (case z10 => k_is)
    (case z11 => k_is)
    (case z12 => k_is)
    (case z13 => k_is)
    (case z14 => k_is)
    (case z15 => k_is)
    (case y0 => k_is)
    (case y1 => k_is)
    (case y2 => k_is)
    (case y3 => k_is)
    (case y4 => k_is)
    (case x4 => k_is)

