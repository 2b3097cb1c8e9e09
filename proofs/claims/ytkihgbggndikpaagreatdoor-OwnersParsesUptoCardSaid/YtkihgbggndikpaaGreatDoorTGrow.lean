/-
  What slices.Insert does to a row of files of the call's own: laws of memory. · slices.Insert of one file into a row of files of the call's own. · slices.Insert of one file into a row of files of the call's own, ahead of its end, where there is room. · slices.Insert of one file into a row of files of the call's own, ahead of its end, where there is no room; all three roads.
-/
import Derived.Test.YtkihgbggndikpaaGreatDoorTOwn
import Derived.Lib.Overlaps
import Derived.Lib.AppendZerosOnto
import Derived.Laws.Externs
import Derived.Shelf.Spec.SlicesInsert
import Derived.Test.YtkihgbggndikpaaGreatDoorTDropAll
import Derived.Deep.RegionLaw
import Derived.Deep.QuietTactic
import Derived.BigQuiet
import Derived.Maps.AppendAt
namespace Go.Proofs.YtkihgbggndikpaaGreatDoor
open Go Go.RowKit Go.Shelf Go.Proofs

/-- Cells stored within a row. -/
theorem own_setCells {base e size g n cap : Nat} : ∀ (vs : List Value) (o : Nat) (W : World) (xs : List Value), W.ownsRow base e size (.slice (some ⟨g, 0, none⟩) n cap) n xs → o + vs.length ≤ xs.length →
    (W.setCells g o vs).ownsRow base e size (.slice (some ⟨g, 0, none⟩) n cap) n (xs.take o ++ vs ++ xs.drop (o + vs.length))
  | [], o, W, xs, h, _ => by
    show W.ownsRow _ _ _ _ _ _
    simpa using h
  | u :: vs, o, W, xs, h, hl => by
    simp only [List.length_cons] at hl
    have h1 := (World.ownsRow.stored h o u).1
    have ih := own_setCells vs (o + 1) _ _ h1 (by rw [List.length_set]; omega)
    rw [World.setCells]
    have e1 : (xs.set o u).take (o + 1) = xs.take o ++ [u] := by
      rw [List.take_succ_eq_append_getElem (by rw [List.length_set]; omega), List.take_set_of_le (Nat.le_refl o)]; simp
    have e2 : (xs.set o u).drop (o + 1 + vs.length) = xs.drop (o + (u :: vs).length) := by
      rw [List.drop_set_of_lt (by omega)]; simp only [List.length_cons]; congr 1; omega
    rw [e1, e2] at ih
    simpa using ih
/-- A row, one element longer, where there is room. -/
theorem own_more {base : Nat} {W : World} {g n cap : Nat} {xs : List Value} {e size : Nat} (h : W.ownsRow base e size (.slice (some ⟨g, 0, none⟩) n cap) n xs) (hr : n + 1 ≤ cap) :
    ∃ ys, W.ownsRow base e size (.slice (some ⟨g, 0, none⟩) (n + 1) cap) (n + 1) ys ∧ ys.take (n * size) = xs ∧ ys.length = (n + 1) * size := by
  rcases h.2 with ⟨h0, _⟩ | ⟨g', cap', cur, h0, h1, h2, h3, h4, h5, h6⟩
  · cases h0
  · cases h0
    have hl : (n + 1) * size ≤ cur.size := by rw [h5]; exact Nat.mul_le_mul_right _ hr
    have hy : (cur.toList.take ((n + 1) * size)).length = (n + 1) * size := by rw [List.length_take, Array.length_toList]; omega
    refine ⟨cur.toList.take ((n + 1) * size), ⟨hy, .inr ⟨g, cap, cur, rfl, h1, h2, hr, h4, h5, rfl⟩⟩, ?_, hy⟩
    rw [List.take_take, ← h6]
    congr 1
    have : n * size ≤ (n + 1) * size := Nat.mul_le_mul_right _ (by omega)
    omega
def insX (l : List FX) (i : Nat) (x : FX) : List FX := l.take i ++ x :: l.drop i
theorem insX_length (l : List FX) (i : Nat) (x : FX) (hi : i ≤ l.length) : (insX l i x).length = l.length + 1 := by unfold insX; simp; omega
theorem fcells_drop (l : List FX) (k : Nat) : (fcells l).drop (k * 2) = fcells (l.drop k) := by
  have h := fcells_append (l.take k) (l.drop k)
  rw [List.take_append_drop] at h
  by_cases hk : k ≤ l.length
  · rw [h, List.drop_append_of_le_length (by rw [fcells_length, List.length_take]; omega), List.drop_of_length_le (by rw [fcells_length, List.length_take]; omega), List.nil_append]
  · rw [List.drop_of_length_le (by rw [fcells_length]; omega), List.drop_of_length_le (by omega)]; rfl
theorem fcells_ins (l : List FX) (i : Nat) (x : FX) : fcells (insX l i x) = (fcells l).take (i * 2) ++ x.cs ++ fcells (l.drop i) := by
  unfold insX
  rw [fcells_append, fcells_take, List.append_assoc]; rfl
/-- The one behind the other: what stood from i on, one further; then x. -/
theorem own_shift {base : Nat} {W : World} {g n cap : Nat} {l : List FX} {x : FX} {ys : List Value} (hn : n = l.length) {i : Nat} (hi : i ≤ n) (h : W.ownsRow base 52 2 (.slice (some ⟨g, 0, none⟩) (n + 1) cap) (n + 1) ys) (hy : ys.take (i * 2) = (fcells l).take (i * 2)) (hl : ys.length = (n + 1) * 2) :
    FilesOwn base ((W.setCells g ((i + 1) * 2) (fcells (l.drop i))).setCells g (i * 2) x.cs) (.slice (some ⟨g, 0, none⟩) (n + 1) cap) (insX l i x) := by
  subst hn
  have e0 : (fcells (l.drop i)).length = (l.length - i) * 2 := by rw [fcells_length, List.length_drop]
  have h1 := own_setCells (fcells (l.drop i)) ((i + 1) * 2) W ys h (by rw [e0, hl]; omega)
  have h2 := own_setCells x.cs (i * 2) _ _ h1 (by
    simp only [List.length_append, List.length_take, List.length_drop, e0, hl]
    show i * 2 + 2 ≤ _
    omega)
  unfold FilesOwn
  rw [insX_length l i x hi, fcells_ins]
  have e3 : ys.drop ((i + 1) * 2 + (fcells (l.drop i)).length) = [] := List.drop_of_length_le (by rw [e0, hl]; omega)
  rw [e3, List.append_nil] at h2
  have e1 : (ys.take ((i + 1) * 2) ++ fcells (l.drop i)).take (i * 2) = ys.take (i * 2) := by
    rw [List.take_append_of_le_length (by rw [List.length_take, hl]; omega), List.take_take]; congr 1; omega
  have e2 : (ys.take ((i + 1) * 2) ++ fcells (l.drop i)).drop (i * 2 + x.cs.length) = fcells (l.drop i) := by
    have : (ys.take ((i + 1) * 2)).length = i * 2 + x.cs.length := by rw [List.length_take, hl]; show min _ _ = i * 2 + 2; omega
    rw [← this, List.drop_left]
  rw [e1, e2, hy] at h2
  exact h2
/-- x, then what stood from i on. -/
theorem own_laid {base : Nat} {W : World} {g n cap : Nat} {l : List FX} {x : FX} {ys : List Value} (hn : n = l.length) {i : Nat} (hi : i ≤ n) (h : W.ownsRow base 52 2 (.slice (some ⟨g, 0, none⟩) (n + 1) cap) (n + 1) ys) (hy : ys.take (i * 2) = (fcells l).take (i * 2)) (hl : ys.length = (n + 1) * 2) :
    FilesOwn base ((W.setCells g (i * 2) x.cs).setCells g ((i + 1) * 2) (fcells (l.drop i))) (.slice (some ⟨g, 0, none⟩) (n + 1) cap) (insX l i x) := by
  subst hn
  have e0 : (fcells (l.drop i)).length = (l.length - i) * 2 := by rw [fcells_length, List.length_drop]
  have hx : x.cs.length = 2 := rfl
  have h1 := own_setCells x.cs (i * 2) W ys h (by rw [hx, hl]; omega)
  have h2 := own_setCells (fcells (l.drop i)) ((i + 1) * 2) _ _ h1 (by
    simp only [List.length_append, List.length_take, List.length_drop, hx, hl, e0]
    omega)
  unfold FilesOwn
  rw [insX_length l i x hi, fcells_ins]
  have hf : (ys.take (i * 2) ++ x.cs).length = (i + 1) * 2 := by rw [List.length_append, List.length_take, hl, hx]; omega
  have e1 : (ys.take (i * 2) ++ x.cs ++ ys.drop (i * 2 + x.cs.length)).take ((i + 1) * 2) = ys.take (i * 2) ++ x.cs := by rw [← hf, List.take_left]
  have e2 : (ys.take (i * 2) ++ x.cs ++ ys.drop (i * 2 + x.cs.length)).drop ((i + 1) * 2 + (fcells (l.drop i)).length) = [] := List.drop_of_length_le (by
    simp only [List.length_append, List.length_take, List.length_drop, hx, hl, e0]; omega)
  rw [e1, e2, List.append_nil, hy] at h2
  exact h2

theorem file_info : (Tryz.prog.info? 52).map (fun i => (i.zero, i.size, i.bytes)) = some (some (.agg #[.string ⟨#[]⟩, .slice none 0 0]), 2, 40) := by kernel_rfl
/-- 'copy' between two slices of files: all is read before anything is written. -/
theorem run_copy_files (w : World) (dT sT ty : TypeId) (hu : Tryz.prog.underlying dT = some (.slice 52)) (b o dLen dCap : Nat) (a : Addr) (sLen sCap k : Nat) (cs : List Value) (hn : k = Nat.min sLen dLen) (hk : cs.length = k * 2)
    (hsrc : ∀ j v, cs[j]? = some v → w.cell? (a.add j) = some v) (hc : ∀ j, j < cs.length → (w.cell? ⟨b, o + j, none⟩).isSome = true) (hf : ∀ j, j < cs.length → w.frozen? ⟨b, o + j, none⟩ = false) (h1 : ∀ v ∈ cs, v.oneCell' = true) :
    (Builtin.copy_ #[dT, sT] ty #[.slice (some ⟨b, o, none⟩) dLen dCap, .slice (some a) sLen sCap]).run Tryz.prog w = .ok (goInt k) (w.setCells b o cs) := by
  have hl := run_loadCells_list (P := Tryz.prog) w a cs hsrc
  have hst := run_storeCells_cells (P := Tryz.prog) b o cs 0 w (by simpa using hc) (by simpa using hf) h1
  obtain ⟨i, hi, _, hs, _⟩ := info_parts file_info
  rw [hk] at hl
  simp [Builtin.copy_, run_underlying hu, Builtin.lenOf, Builtin.firstCells, sizeOf, typeInfo, hi, hs, ← hn, hl, hst]
end Go.Proofs.YtkihgbggndikpaaGreatDoor
namespace Go.Proofs.YtkihgbggndikpaaGreatDoor
open Go Go.RowKit Go.Shelf Go.Proofs

def InsPost (base : Nat) (v : Value) (w : World) (l : List FX) (e : Ending) (w' : World) : Prop := ∃ v', e = .returned v' ∧ FilesOwn base w' v' l ∧ w.grownBy w' v.ownBlock
theorem FX.one {x : FX} : ∀ u ∈ x.cs, u.oneCell' = true := by
  intro u hu
  unfold FX.cs at hu
  simp only [List.mem_cons, List.mem_nil_iff, or_false] at hu
  rcases hu with rfl | rfl <;> rfl

theorem append_types (w : World) (ty : TypeId) (A B : Option Addr) (n c m d : Nat) : (Builtin.append_ #[37, 36] ty #[.slice A n c, .slice B m d]).run Tryz.prog w = (Builtin.append_ #[37, 37] ty #[.slice A n c, .slice B m d]).run Tryz.prog w := by
  simp [Builtin.append_, run_underlying Tryz.underlying37, run_underlying Tryz.underlying36]
end Go.Proofs.YtkihgbggndikpaaGreatDoor
namespace Go.Proofs.YtkihgbggndikpaaGreatDoor
open Go Go.RowKit Go.Shelf Go.Proofs

theorem below_drew1 (w : World) : Below w.heap.size w w.drew := (Below.refl _ w).drew
end Go.Proofs.YtkihgbggndikpaaGreatDoor
namespace Go.Proofs.YtkihgbggndikpaaGreatDoor
open Go Go.RowKit Go.Shelf Go.Proofs

end Go.Proofs.YtkihgbggndikpaaGreatDoor
