/-
  The contract of form.places.
-/
import Derived.Test.YthkbpophckjdnaaDoorRlFormOf
import Derived.BigRegion
namespace Go.Proofs.YthkbpophckjdnaaDoor
open Go Go.RowKit Go.Shelf Go.Proofs
attribute [local go_sem] Oper.semAt_some

set_option maxRecDepth 100000 in
set_option maxHeartbeats 4000000 in
theorem places_any (k : Int) (t p : Nat) (w : World) (ht : t ≤ 2) :
    Calls Tryd.prog 57 #[.agg #[.int .i64 k, .int .i64 t], .pointer (some ⟨p, 0, none⟩)] w fun e w' => ∃ g, e = .returned (.slice (some ⟨g, 0, none⟩) t 2) ∧ w.heap.size ≤ g ∧ g < w'.heap.size ∧ w'.heap[g]? = some (.cells #[.pointer (some ⟨p, 2, none⟩), .pointer (some ⟨p, 3, none⟩)] 90 (0, 0)) ∧ Below w.heap.size w w' := by
  obtain ⟨W1, hW1⟩ : ∃ W1, w.alloc (.cells #[.int .i64 k, .int .i64 t] 58) = W1 := ⟨_, rfl⟩
  have s1 : W1.heap.size = w.heap.size + 1 := by rw [← hW1, World.size_alloc]
  have n1 : W1.heap[w.heap.size]? = some (.cells #[.int .i64 k, .int .i64 t] 58 (0, 0)) := by rw [← hW1]; exact heap_alloc_new _ _
  have b1 : Below w.heap.size w W1 := by rw [← hW1]; exact (Below.refl _ w).alloc (Nat.le_refl _) _
  have HW1 := Lib.hid hW1
  have S1 := Lib.hid s1
  have B1 := Lib.hid b1
  clear hW1 b1 s1
  have z1 := cell_of_row _ _ 1 _ _ _ n1
  simp only [List.getElem?_toArray, List.getElem?_cons_zero, List.getElem?_cons_succ] at z1
  have t0 : (0 : Int) ≤ (t : Int) := by omega
  have t2 : (t : Int) ≤ 2 := by omega
  obtain ⟨W2, hW2⟩ : ∃ W2, W1.alloc (.cells #[.pointer (some ⟨p, 2, none⟩), .pointer (some ⟨p, 3, none⟩)] 90) = W2 := ⟨_, rfl⟩
  have n2 : W2.heap[W1.heap.size]? = some (.cells #[.pointer (some ⟨p, 2, none⟩), .pointer (some ⟨p, 3, none⟩)] 90 (0, 0)) := by rw [← hW2]; exact heap_alloc_new _ _
  have b2 : Below W1.heap.size W1 W2 := by rw [← hW2]; exact (Below.refl _ _).alloc (Nat.le_refl _) _
  have z2 : (W1.alloc (.cells #[.pointer (some ⟨p, 2, none⟩), .pointer (some ⟨p, 3, none⟩)] 90)).cell? ⟨w.heap.size, 1, none⟩ = some (.int .i64 t) := by
    rw [hW2]; exact (b2.cell (p := ⟨w.heap.size, 1, none⟩) (by rw [S1.out]; exact Nat.lt_succ_self _)).trans z1
  have HW2 := Lib.hid hW2
  have N2 := Lib.hid n2
  have B2 := Lib.hid b2
  clear n1 hW2 n2 b2
  go_enter Tryd.func57, Tryd.ntmps57
  go_wp2_with fail
  rw [HW1.out]
  go_region
  rw [HW2.out]
  clear HW2
  go_wp2_with fail
  go_ret
  refine ⟨W1.heap.size, rfl, by rw [S1.out]; exact Nat.le_succ _, (Array.getElem?_eq_some_iff.1 N2.out).1, N2.out, (B1.out.trans (B2.out.mono (by have := S1.out; omega))).drew⟩
end Go.Proofs.YthkbpophckjdnaaDoor
