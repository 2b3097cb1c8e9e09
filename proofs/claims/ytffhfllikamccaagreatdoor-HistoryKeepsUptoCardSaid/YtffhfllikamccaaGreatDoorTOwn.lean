/-
  A row of files that a call made itself; slices.DeleteFunc on it.
-/
import Derived.Test.YtffhfllikamccaaGreatDoorTFuncs
import Derived.Deep.Upon
import Derived.RangeFuncBox
import Derived.Laws.IdiomCopy
import Derived.Lib.SliceRun
import Derived.Test.YtffhfllikamccaaGreatDoorProg
namespace Go.Proofs.YtffhfllikamccaaGreatDoor
open Go Go.RowKit Go.Shelf Go.Proofs

def fcells (l : List FX) : List Value := l.flatMap FX.cs
theorem fcells_cons (x : FX) (l : List FX) : fcells (x :: l) = .string x.p :: .slice x.A x.b.length x.c :: fcells l := rfl
theorem fcells_append (a b : List FX) : fcells (a ++ b) = fcells a ++ fcells b := by unfold fcells; rw [List.flatMap_append]
theorem fcells_length (l : List FX) : (fcells l).length = l.length * 2 := by
  induction l with
  | nil => rfl
  | cons x l ih => rw [fcells_cons]; simp only [List.length_cons, ih]; omega
theorem fcells_take (l : List FX) (k : Nat) : (fcells l).take (k * 2) = fcells (l.take k) := by
  induction l generalizing k with
  | nil => simp [fcells]
  | cons x l ih => cases k with
    | zero => simp [fcells]
    | succ k => rw [List.take_succ_cons, fcells_cons, fcells_cons, show (k + 1) * 2 = k * 2 + 1 + 1 from by omega, List.take_succ_cons, List.take_succ_cons, ih]
theorem fcells_at (l : List FX) (i : Nat) (x : FX) (h : l[i]? = some x) : (fcells l)[i * 2]? = some (.string x.p) ∧ (fcells l)[i * 2 + 1]? = some (.slice x.A x.b.length x.c) := by
  induction l generalizing i with
  | nil => simp at h
  | cons y l ih => cases i with
    | zero => simp at h; subst h; exact ⟨rfl, rfl⟩
    | succ i =>
      have := ih i (by simpa using h)
      rw [fcells_cons, show (i + 1) * 2 = i * 2 + 1 + 1 from by omega]
      simpa using this
theorem fcells_set (l : List FX) (i : Nat) (x : FX) : ((fcells l).set (i * 2) (.string x.p)).set (i * 2 + 1) (.slice x.A x.b.length x.c) = fcells (l.set i x) := by
  induction l generalizing i with
  | nil => simp [fcells]
  | cons y l ih => cases i with
    | zero => rfl
    | succ i =>
      rw [List.set_cons_succ, fcells_cons, fcells_cons, ← ih, show (i + 1) * 2 = i * 2 + 1 + 1 from by omega]
      simp only [List.set_cons_succ]
theorem fcells_one (l : List FX) : ∀ u ∈ fcells l, u.oneCell' = true := by
  intro u hu
  unfold fcells at hu
  obtain ⟨x, _, hx⟩ := List.mem_flatMap.1 hu
  unfold FX.cs at hx
  simp only [List.mem_cons, List.mem_nil_iff, or_false] at hx
  rcases hx with rfl | rfl <;> rfl

/-- A row of files in a block of its own, from 'base' on. -/
def FilesOwn (base : Nat) (W : World) (v : Value) (l : List FX) : Prop := W.ownsRow base 65 2 v l.length (fcells l)
theorem FilesOwn.form {base : Nat} {W : World} {v : Value} {l : List FX} (h : FilesOwn base W v l) : (v = .slice none 0 0 ∧ l = []) ∨ ∃ g cap cur, v = .slice (some ⟨g, 0, none⟩) l.length cap ∧ base ≤ g ∧ W.heap[g]? = some (Obj.cells cur 65 (0, 0)) ∧ l.length ≤ cap ∧ cap ≤ maxLen ∧ cur.size = cap * 2 := by
  rcases h.2 with ⟨rfl, hn⟩ | ⟨g, cap, cur, rfl, h1, h2, h3, h4, h5, _⟩
  · exact .inl ⟨rfl, List.eq_nil_of_length_eq_zero hn⟩
  · exact .inr ⟨g, cap, cur, rfl, h1, h2, h3, h4, h5⟩
theorem FilesOwn.rowF {base : Nat} {W : World} {g cap : Nat} {l : List FX} {n : Nat} (h : FilesOwn base W (.slice (some ⟨g, 0, none⟩) n cap) l) : RowF W g 0 l := fun i x hx => by
  obtain ⟨h1, h2⟩ := fcells_at l i x hx
  have a1 := World.ownsRow.cells h (g := g) rfl _ _ h1
  have a2 := World.ownsRow.cells h (g := g) rfl _ _ h2
  rw [Go.WideShapes.add_plain] at a1 a2
  exact ⟨a1, by rw [Nat.add_assoc]; exact a2⟩
theorem FilesOwn.row {base : Nat} {W : World} {v : Value} {l : List FX} (h : FilesOwn base W v l) {g : Nat} (hg : v.ownBlock = some g) : base ≤ g ∧ ∃ cur : Array Value, W.heap[g]? = some (Obj.cells cur 65 (0, 0)) := by
  rcases h.form with ⟨rfl, _⟩ | ⟨g', cap, cur, rfl, h1, h2, _⟩
  · simp [Value.ownBlock] at hg
  · have : g' = g := by simpa [Value.ownBlock] using hg
    subst this
    exact ⟨h1, cur, h2⟩
theorem FilesOwn.frozen {base : Nat} {W : World} {g n cap : Nat} {l : List FX} (h : FilesOwn base W (.slice (some ⟨g, 0, none⟩) n cap) l) (j : Nat) : W.frozen? ⟨g, j, none⟩ = false := by
  rcases h.form with ⟨h0, _⟩ | ⟨g', cap', cur, h0, _, h2, _⟩
  · cases h0
  · cases h0
    simp [World.frozen?, h2]
theorem grownN {w w' : World} (h : Below w.heap.size w w') (row : Option Nat) : w.grownBy w' row := ⟨h.os, h.tape, h.output, h.size, fun i hi _ => h.block i hi⟩
theorem FilesOwn.below {base : Nat} {W W' : World} {v : Value} {l : List FX} (h : FilesOwn base W v l) (hb : Below W.heap.size W W') : FilesOwn base W' v l := by
  refine World.ownsRow.kept h (row := none) (grownN hb none) ?_
  cases v.ownBlock with
  | none => exact .inl rfl
  | some g => exact .inr (by simp)
/-- x stored at place i. -/
theorem FilesOwn.store {base : Nat} {W : World} {g n cap : Nat} {l : List FX} (h : FilesOwn base W (.slice (some ⟨g, 0, none⟩) n cap) l) (hn : n = l.length) (i : Nat) (x : FX) :
    FilesOwn base ((W.setCell ⟨g, i * 2, none⟩ (.string x.p)).setCell ⟨g, i * 2 + 1, none⟩ (.slice x.A x.b.length x.c)) (.slice (some ⟨g, 0, none⟩) n cap) (l.set i x) := by
  subst hn
  have h1 := (World.ownsRow.stored h (i * 2) (.string x.p)).1
  have h2 := (World.ownsRow.stored h1 (i * 2 + 1) (.slice x.A x.b.length x.c)).1
  unfold FilesOwn
  rw [List.length_set, ← fcells_set]
  exact h2
theorem grown_two {W : World} {g i : Nat} {u v : Value} : W.grownBy ((W.setCell ⟨g, i * 2, none⟩ u).setCell ⟨g, i * 2 + 1, none⟩ v) (some g) := by
  refine ⟨rfl, rfl, rfl, by simp [World.setCell], fun k hk hne => ?_⟩
  have hg : k ≠ g := fun e => hne (by rw [e])
  exact (Below.heap_setCell _ _ _ _ hg).trans (Below.heap_setCell _ _ _ _ hg)
theorem grown_trans2 {a b c : World} {r r' : Option Nat} (h1 : a.grownBy b r) (h2 : b.grownBy c r') (hr : r' = r ∨ ∀ g, r' = some g → a.heap.size ≤ g) : a.grownBy c r := by
  refine ⟨h2.os.trans h1.os, h2.tape.trans h1.tape, h2.output.trans h1.output, Nat.le_trans h1.size h2.size, fun k hk hne => ?_⟩
  refine (h2.block k (Nat.lt_of_lt_of_le hk h1.size) (fun e => ?_)).trans (h1.block k hk hne)
  rcases hr with rfl | hr
  · exact hne e
  · have := hr k e.symm; omega
/-- The front of a row. -/
theorem FilesOwn.front {base : Nat} {W : World} {g n cap : Nat} {l : List FX} (h : FilesOwn base W (.slice (some ⟨g, 0, none⟩) n cap) l) (hn : n = l.length) (k : Nat) (hk : k ≤ l.length) : FilesOwn base W (.slice (some ⟨g, 0, none⟩) k cap) (l.take k) := by
  subst hn
  rcases h.2 with ⟨h0, _⟩ | ⟨g', cap', cur, h0, h1, h2, h3, h4, h5, h6⟩
  · cases h0
  · cases h0
    refine ⟨by rw [fcells_length], .inr ⟨g, cap, cur, by rw [List.length_take, Nat.min_eq_left hk], h1, h2, by rw [List.length_take]; omega, h4, h5, ?_⟩⟩
    rw [List.length_take, Nat.min_eq_left hk, ← fcells_take, ← h6, List.take_take]
    congr 1
    omega
/-- Behind what is written from its end on. -/
theorem FilesOwn.tail {base : Nat} {W : World} {g n cap : Nat} {l : List FX} (h : FilesOwn base W (.slice (some ⟨g, 0, none⟩) n cap) l) (hn : n = l.length) (vs : List Value) : FilesOwn base (W.setCells g (n * 2) vs) (.slice (some ⟨g, 0, none⟩) n cap) l := by
  subst hn
  have : ∀ (vs : List Value) (o : Nat) (W : World), l.length * 2 ≤ o → FilesOwn base W (.slice (some ⟨g, 0, none⟩) l.length cap) l → FilesOwn base (W.setCells g o vs) (.slice (some ⟨g, 0, none⟩) l.length cap) l := by
    intro vs
    induction vs with
    | nil => intro o W _ h; exact h
    | cons u vs ih =>
      intro o W ho h
      have h1 := (World.ownsRow.stored h o u).1
      rw [List.set_eq_of_length_le (by rw [fcells_length]; exact ho)] at h1
      exact ih (o + 1) _ (by omega) h1
  exact this vs _ W (Nat.le_refl _) h
theorem grown_setCells {W : World} {g : Nat} (vs : List Value) : ∀ (o : Nat), W.grownBy (W.setCells g o vs) (some g) := by
  induction vs generalizing W with
  | nil => intro o; exact World.grownBy.refl W _
  | cons u vs ih =>
    intro o
    have h1 : W.grownBy (W.setCell ⟨g, o, none⟩ u) (some g) := ⟨rfl, rfl, rfl, by simp [World.setCell], fun k hk hne => Below.heap_setCell _ _ _ _ (fun e => hne (by rw [e]))⟩
    exact grown_trans2 h1 (ih (o + 1)) (.inl rfl)

theorem zero_file (w : World) : (zeroValue 65).run Tryz.prog w = .ok (.agg #[.string ⟨#[]⟩, .slice none 0 0]) w := by kernel_rfl
def zerosF (n : Nat) : List Value := (Builtin.zeroCells #[.string ⟨#[]⟩, .slice none 0 0] n).toList
theorem zerosF_length (n : Nat) : (zerosF n).length = n * 2 := by unfold zerosF; rw [Array.length_toList, size_zeroCells]; rfl
theorem zerosF_one (n : Nat) : ∀ v ∈ zerosF n, v.oneCell' = true := by
  intro v hv
  unfold zerosF Builtin.zeroCells at hv
  rw [Array.toList_map, List.mem_map] at hv
  obtain ⟨i, _, rfl⟩ := hv
  have : i % (#[Value.string ⟨#[]⟩, Value.slice none 0 0] : Array Value).size < 2 := Nat.mod_lt _ (by decide)
  generalize i % (#[Value.string ⟨#[]⟩, Value.slice none 0 0] : Array Value).size = k at this
  match k, this with
  | 0, _ => rfl
  | 1, _ => rfl
/-- 'clear' of a slice of files. -/
theorem run_clear_files (w : World) (ty : TypeId) (b o n c : Nat) (hn : 0 < n) (hc : ∀ j, j < n * 2 → (w.cell? ⟨b, o + j, none⟩).isSome = true) (hf : ∀ j, j < n * 2 → w.frozen? ⟨b, o + j, none⟩ = false) :
    (Builtin.clear_ #[23] ty #[.slice (some ⟨b, o, none⟩) n c]).run Tryz.prog w = .ok (.tuple #[]) (w.setCells b o (zerosF n)) := by
  have hst := run_storeCells_cells (P := Tryz.prog) b o (zerosF n) 0 w (by rw [zerosF_length]; simpa using hc) (by rw [zerosF_length]; simpa using hf) (zerosF_one n)
  simp only [Nat.add_zero] at hst
  have hst' : (storeCells ⟨b, o, none⟩ (Builtin.zeroCells #[.string ⟨#[]⟩, .slice none 0 0] n).toList).run Tryz.prog w = .ok () (w.setCells b o (zerosF n)) := hst
  have hz := zero_file w
  clear hst
  obtain ⟨m, rfl⟩ : ∃ m, n = m + 1 := ⟨n - 1, by omega⟩
  simp [Builtin.clear_, run_underlying Tryz.underlying23, hz, Value.cells, hst']
end Go.Proofs.YtffhfllikamccaaGreatDoor
