/-
  Keys of path.place: how they read; the set of places that failed.
-/
import Derived.Test.YtcnifjjdnomgpaaDoorConsists
import Derived.Maps.OwnSet
import Derived.DeepKeys4
import Derived.WalkArith
namespace Go.Proofs.YtcnifjjdnomgpaaDoor
open Go Go.RowKit Go.Shelf Go.Proofs
open Go.Maps (Keyed)

set_option maxRecDepth 100000 in
theorem place_laid : laidOutB Tryd.prog = true := by kernel_rfl
set_option maxRecDepth 100000 in
theorem place_row : (80 : TypeId) < Tryd.prog.types.size := of_decide_eq_true (by kernel_rfl)
set_option maxRecDepth 100000 in
theorem place_wide : (match Tryd.prog.underlying 80 with | some (.array _ _) | some (.struct _) => true | _ => false) = true := by kernel_rfl
set_option maxRecDepth 100000 in
theorem place_keyed : Keyed Tryd.prog 80 := Keyed.of_law (deep_law_laid place_laid (m := 3) (by omega) place_row (by kernel_rfl) place_wide)

def placeV (i j : Nat) : Value := .agg #[.int .i64 i, .int .i64 j]
set_option maxRecDepth 100000 in
theorem place_key_ty : Tryd.prog.keyType 80 = true := by kernel_rfl
set_option maxRecDepth 100000 in
theorem place_cells : Tryd.prog.cellsOf 80 = 2 := by kernel_rfl
set_option maxRecDepth 100000 in
theorem int_cells : Tryd.prog.cellsOf 3 = 1 := by kernel_rfl
set_option maxRecDepth 100000 in
theorem types_size : ∃ d, Tryd.prog.types.size = d + 1 := ⟨Tryd.prog.types.size - 1, by have : (80 : Nat) < Tryd.prog.types.size := place_row; omega⟩

set_option maxRecDepth 100000 in
theorem int_wf (n : Nat) (h : n < 9223372036854775808) : (Lit.int .i64 (n : Int)).wf = true := by
  exact WalkArith.wf_i64 (by omega)

set_option maxRecDepth 100000 in
theorem place_key (i j : Nat) (hi : i < 9223372036854775808) (hj : j < 9223372036854775808) : ∃ l, keyOf Tryd.prog 80 (placeV i j) = some l := by
  have wi := int_wf i hi
  have wj := int_wf j hj
  obtain ⟨d, hd⟩ := types_size
  unfold keyOf placeV
  have hf : (Value.agg #[.int .i64 (i : Int), .int .i64 (j : Int)]).formed Tryd.prog 80 = true := by simp [Value.formed, Tryd.underlying80, place_cells]
  rw [Tryd.underlying80]
  simp only [place_key_ty, hf, Bool.and_self, if_true, hd, Value.cells]
  simp [Program.keyLits, Tryd.underlying80, place_cells, int_cells, Tryd.underlying3, wi, wj]

/-- The key as the reader tells it. -/
noncomputable def placeL (p : Nat × Nat) : Lit := (keyOf Tryd.prog 80 (placeV p.1 p.2)).getD (.bool false)
set_option maxRecDepth 100000 in
theorem placeL_key (i j : Nat) (hi : i < 9223372036854775808) (hj : j < 9223372036854775808) : keyOf Tryd.prog 80 (placeV i j) = some (placeL (i, j)) := by
  obtain ⟨l, hl⟩ := place_key i j hi hj
  unfold placeL
  rw [hl]; rfl
set_option maxRecDepth 100000 in
theorem placeL_inj (p q : Nat × Nat) (hp : p.1 < 9223372036854775808 ∧ p.2 < 9223372036854775808) (hq : q.1 < 9223372036854775808 ∧ q.2 < 9223372036854775808) (h : placeL p = placeL q) : p = q := by
  have h1 := placeL_key p.1 p.2 hp.1 hp.2
  have h2 := placeL_key q.1 q.2 hq.1 hq.2
  have e : placeV p.1 p.2 = placeV q.1 q.2 := place_keyed.inj h1 (by rw [h2]; exact congrArg some h.symm)
  unfold placeV at e
  simp at e
  exact Prod.ext (by omega) (by omega)
set_option maxRecDepth 100000 in
theorem placeL_isKey (p : Nat × Nat) (hp : p.1 < 9223372036854775808 ∧ p.2 < 9223372036854775808) : WideAt.IsKeyLit (placeL p) := place_keyed.key (placeL_key p.1 p.2 hp.1 hp.2)

def gridL (n m : Nat) : List (Nat × Nat) := (List.range (n + 1)).flatMap fun i => (List.range (m + 1)).map fun j => (i, j)
set_option maxRecDepth 100000 in
theorem grid_mem {n m i j : Nat} (hi : i ≤ n) (hj : j ≤ m) : (i, j) ∈ gridL n m := by
  unfold gridL
  rw [List.mem_flatMap]
  exact ⟨i, List.mem_range.2 (by omega), List.mem_map.2 ⟨j, List.mem_range.2 (by omega), rfl⟩⟩
set_option maxRecDepth 100000 in
theorem grid_length (n m : Nat) : (gridL n m).length = (n + 1) * (m + 1) := by
  unfold gridL
  rw [List.length_flatMap]
  simp only [List.length_map, List.length_range]
  have : ∀ k, ((List.range k).map fun _ => m + 1).sum = k * (m + 1) := by
    intro k
    induction k with
    | zero => simp
    | succ k ih => rw [show List.range (k + 1) = List.range k ++ [k] from List.range_succ, List.map_append, List.sum_append, ih]; simp [Nat.succ_mul]
  exact this (n + 1)
set_option maxRecDepth 100000 in
theorem grid_small {n m : Nat} {p : Nat × Nat} (h : p ∈ gridL n m) : p.1 ≤ n ∧ p.2 ≤ m := by
  unfold gridL at h
  obtain ⟨i, hi, h2⟩ := List.mem_flatMap.1 h
  obtain ⟨j, hj, rfl⟩ := List.mem_map.1 h2
  rw [List.mem_range] at hi hj
  exact ⟨by simp; omega, by simp; omega⟩

set_option maxRecDepth 100000 in
theorem filter_less {α : Type} (l : List α) (p q : α → Bool) (hpq : ∀ x ∈ l, q x = true → p x = true) : (l.filter q).length ≤ (l.filter p).length := by
  induction l with
  | nil => simp
  | cons a r ih =>
    have ih := ih fun x hx => hpq x (by simp [hx])
    have ha := hpq a (by simp)
    cases e : q a with
    | true => rw [List.filter_cons_of_pos (by simpa using e), List.filter_cons_of_pos (ha e)]; simp; exact ih
    | false =>
      rw [List.filter_cons_of_neg (by simpa using e)]
      cases e2 : p a with
      | true => rw [List.filter_cons_of_pos (by simpa using e2)]; simp; omega
      | false => rw [List.filter_cons_of_neg (by simpa using e2)]; exact ih
set_option maxRecDepth 100000 in
theorem filter_drop {α : Type} (l : List α) (p q : α → Bool) (hpq : ∀ x ∈ l, q x = true → p x = true) (a : α) (ha : a ∈ l) (h1 : p a = true) (h2 : q a = false) : (l.filter q).length + 1 ≤ (l.filter p).length := by
  induction l with
  | nil => cases ha
  | cons b r ih =>
    have hpq' : ∀ x ∈ r, q x = true → p x = true := fun x hx => hpq x (by simp [hx])
    rcases List.mem_cons.1 ha with rfl | h
    · rw [List.filter_cons_of_neg (by simpa using h2), List.filter_cons_of_pos h1]
      have := filter_less r p q hpq'
      simp; omega
    · have ih := ih hpq' h
      have hb := hpq b (by simp)
      cases e : q b with
      | true => rw [List.filter_cons_of_pos (by simpa using e), List.filter_cons_of_pos (hb e)]; simp; omega
      | false =>
        rw [List.filter_cons_of_neg (by simpa using e)]
        cases e2 : p b with
        | true => rw [List.filter_cons_of_pos (by simpa using e2)]; simp; omega
        | false => rw [List.filter_cons_of_neg (by simpa using e2)]; exact ih

/-- Block b is the map of the places that failed, D: each of those, of n times m, fails truly (bad). -/
def FailedD (W : World) (b n m : Nat) (bad : Nat → Nat → Bool) (D : DataW Unit) : Prop := ∃ (k : Nat), W.ownsMap Tryd.prog 80 unitElem b k D ∧
  k + ((gridL n m).filter fun p => !Maps.has D (placeL p)).length ≤ (gridL n m).length ∧ ∀ i j, i ≤ n → j ≤ m → Maps.has D (placeL (i, j)) = true → bad i j = true

set_option maxRecDepth 100000 in
theorem FailedD.made (w : World) (n m : Nat) (bad : Nat → Nat → Bool) : FailedD (w.alloc (.map #[] 0)) w.heap.size n m bad (.map []) := by
  refine ⟨0, World.ownsMap_made _ _ _ _, ?_, fun i j _ _ h => by rw [Maps.has_eq] at h; cases h⟩
  rw [Nat.zero_add]
  exact List.length_filter_le _ _
set_option maxRecDepth 100000 in
theorem FailedD.kept {W W' : World} {b n m : Nat} {bad : Nat → Nat → Bool} {D : DataW Unit} {row : Option Nat} (h : FailedD W b n m bad D) (hg : W.grownBy W' row) (hne : some b ≠ row) : FailedD W' b n m bad D := by
  obtain ⟨k, h1, h2, h3⟩ := h
  exact ⟨k, h1.kept hg hne, h2, h3⟩
set_option maxRecDepth 100000 in
theorem FailedD.below {W W' : World} {b n m : Nat} {bad : Nat → Nat → Bool} {D : DataW Unit} (h : FailedD W b n m bad D) (hg : Below W.heap.size W W') : FailedD W' b n m bad D :=
  h.kept (row := none) ⟨hg.os, hg.tape, hg.output, hg.size, fun i hi _ => hg.block i hi⟩ (by simp)
set_option maxRecDepth 100000 in
theorem FailedD.lt {W : World} {b n m : Nat} {bad : Nat → Nat → Bool} {D : DataW Unit} (h : FailedD W b n m bad D) : b < W.heap.size := by
  obtain ⟨k, h1, _⟩ := h
  exact h1.lt
set_option maxRecDepth 100000 in
theorem FailedD.isMap {W : World} {b n m : Nat} {bad : Nat → Nat → Bool} {D : DataW Unit} (h : FailedD W b n m bad D) : ∃ es clock, W.heap[b]? = some (.map es clock) := by
  obtain ⟨k, ⟨es, clock, h1, _⟩, _⟩ := h
  exact ⟨es, clock, h1⟩
set_option maxRecDepth 100000 in
theorem FailedD.count {W : World} {b n m : Nat} {bad : Nat → Nat → Bool} {D : DataW Unit} (h : FailedD W b n m bad D) : ∃ k, W.ownsMap Tryd.prog 80 unitElem b k D ∧ k ≤ (n + 1) * (m + 1) ∧ k + ((gridL n m).filter fun p => !Maps.has D (placeL p)).length ≤ (gridL n m).length := by
  obtain ⟨k, h1, h2, _⟩ := h
  have := grid_length n m
  exact ⟨k, h1, by omega, h2⟩

set_option maxRecDepth 100000 in
theorem put_other {n m i j : Nat} {D : DataW Unit} (hn : n < 9223372036854775808) (hm : m < 9223372036854775808) (hi : i ≤ n) (hj : j ≤ m) (p : Nat × Nat) (hp1 : p.1 ≤ n) (hp2 : p.2 ≤ m) (hne : p ≠ (i, j)) :
    Maps.has (D.put (placeL (i, j)) (.agg [])) (placeL p) = Maps.has D (placeL p) :=
  Maps.has_put_other (fun e => hne (placeL_inj p (i, j) ⟨by omega, by omega⟩ ⟨by simp; omega, by simp; omega⟩ e)) _

set_option maxRecDepth 100000 in
theorem FailedD.put {W W0 : World} {b n m k i j : Nat} {bad : Nat → Nat → Bool} {D : DataW Unit} (hn : n < 9223372036854775808) (hm : m < 9223372036854775808) (hi : i ≤ n) (hj : j ≤ m)
    (h : FailedD W0 b n m bad D) (h0 : Maps.IsMap D) (h2 : k + ((gridL n m).filter fun p => !Maps.has D (placeL p)).length ≤ (gridL n m).length) (hno : Maps.has D (placeL (i, j)) = false) (hb : bad i j = true)
    (h1 : W.ownsMap Tryd.prog 80 unitElem b (k + 1) (D.put (placeL (i, j)) (.agg []))) : FailedD W b n m bad (D.put (placeL (i, j)) (.agg [])) := by
  have hk : WideAt.IsKeyLit (placeL (i, j)) := placeL_isKey (i, j) ⟨by simp; omega, by simp; omega⟩
  have hsame := Maps.has_put_same h0 hk (.agg [])
  have hother : ∀ p ∈ gridL n m, p ≠ (i, j) → Maps.has (D.put (placeL (i, j)) (.agg [])) (placeL p) = Maps.has D (placeL p) := fun p hp hne => by
    have hs := grid_small hp
    exact put_other hn hm hi hj p hs.1 hs.2 hne
  obtain ⟨_, _, _, h3⟩ := h
  refine ⟨k + 1, h1, ?_, fun i' j' hi' hj' h => ?_⟩
  · have := filter_drop (gridL n m) (fun p => !Maps.has D (placeL p)) (fun p => !Maps.has (D.put (placeL (i, j)) (.agg [])) (placeL p)) (fun p hp h => by
      by_cases e : p = (i, j)
      · subst e; rw [hno]; rfl
      · rw [← hother p hp e]; exact h) (i, j) (grid_mem hi hj) (by rw [hno]; rfl) (by rw [hsame]; rfl)
    omega
  · by_cases e : (i', j') = (i, j)
    · cases e; exact hb
    · rw [hother _ (grid_mem hi' hj') e] at h
      exact h3 i' j' hi' hj' h
set_option maxRecDepth 100000 in
theorem zero_unit (w : World) : (zeroValue 81).run Tryd.prog w = .ok (.agg #[]) w := by kernel_rfl
end Go.Proofs.YtcnifjjdnomgpaaDoor
