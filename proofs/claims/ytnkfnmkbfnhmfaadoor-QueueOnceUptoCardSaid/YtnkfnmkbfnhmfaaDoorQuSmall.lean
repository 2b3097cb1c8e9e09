/-
  The queue's small calls: New, History, full, Ask.
-/
import Derived.Test.YtnkfnmkbfnhmfaaDoorQuMem
import Derived.BigQuiet
import Derived.Deep.Cut
import Derived.WideMake
import Derived.Deep.RegionHeld3
namespace Go.Proofs.YtnkfnmkbfnhmfaaDoor
open Go Go.RowKit Go.Shelf Go.Proofs Go.ChangeMaps Go.Maps Go.WideMaps
attribute [local go_sem] Oper.semAt_some

set_option maxRecDepth 100000 in
set_option maxHeartbeats 4000000 in
theorem qnew_any (hb rm : Nat) (room : Int) (w : World) (h1 : min (max room 1) 100 = (rm : Int)) :
    Calls Tryd.prog 10 #[.pointer (some ⟨hb, 0, none⟩), .int .i64 room] w fun e w' => ∃ qb ab, e = .returned (.pointer (some ⟨qb, 0, none⟩)) ∧ w.heap.size ≤ ab ∧ QueueAt w.heap.size w' qb hb ab rm (.slice none 0 0) [] [] ∧ Below w.heap.size w w' := by
  have hmk := run_makeMap_plain (P := Tryd.prog) w 77
  obtain ⟨mb, hmb⟩ : ∃ mb, w.heap.size = mb := ⟨_, rfl⟩
  obtain ⟨W0, hW0⟩ : ∃ W, w.alloc (.map #[] 0) = W := ⟨_, rfl⟩
  rw [hmb, hW0] at hmk
  have HM0 := Lib.hid (show W0.ownsMap Tryd.prog 3 ansElem mb 0 (ansD []) by rw [← hW0, ← hmb]; exact World.ownsMap_made w _ _ _)
  have HB0 := Lib.hid (show Below w.heap.size w W0 by rw [← hW0]; exact (Below.refl _ _).alloc (Nat.le_refl _) _)
  have HS0 := Lib.hid (show W0.heap.size = mb + 1 by rw [← hW0, ← hmb]; simp)
  have HMB := Lib.hid hmb
  clear hmb hW0
  go_enter Tryd.func10, Tryd.ntmps10
  go_wp2_with fail
  go_ret
  obtain ⟨V, hV⟩ : ∃ V, W0.alloc (.cells #[.pointer (some ⟨hb, 0, none⟩), .slice none 0 0, .int .i64 rm, .map (some mb)] 79) = V := ⟨_, rfl⟩
  have hq : V.heap[W0.heap.size]? = some (.cells #[.pointer (some ⟨hb, 0, none⟩), .slice none 0 0, .int .i64 rm, .map (some mb)] 79 (0, 0)) := by rw [← hV]; exact heap_alloc_new _ _
  have hbV : Below w.heap.size w V := by rw [← hV]; exact HB0.out.alloc HB0.out.size _
  rw [hV]
  refine ⟨W0.heap.size, mb, rfl, by rw [HMB.out]; exact Nat.le_refl _, ⟨hq, ⟨World.ownsRow_nil _ _ _ _, (fun x hx => by cases hx), (fun x hx => by cases hx)⟩, ?_, by rw [HS0.out, HMB.out]; omega, by rw [HMB.out]; exact Nat.le_refl _⟩, hbV⟩
  refine ownsMap_keep HM0.out fun o ho => ?_
  rw [← hV]
  exact (Below.heap_alloc _ _ _ (Array.getElem?_eq_some_iff.1 ho).1).trans ho
set_option maxRecDepth 100000 in
set_option maxHeartbeats 4000000 in
theorem qhistory_any (qb hb : Nat) (v x y : Value) (w : World) (h : w.heap[qb]? = some (.cells #[.pointer (some ⟨hb, 0, none⟩), v, x, y] 79 (0, 0))) :
    Calls Tryd.prog 26 #[.pointer (some ⟨qb, 0, none⟩)] w fun e w' => e = .returned (.pointer (some ⟨hb, 0, none⟩)) ∧ w' = w := by
  have c0 : w.cell? ⟨qb, 0, none⟩ = some (.pointer (some ⟨hb, 0, none⟩)) := cell_of_row w qb 0 _ _ _ h
  clear h
  go_enter Tryd.func26, Tryd.ntmps26
  go_wp2_with fail
  go_ret
  exact ⟨rfl, rfl⟩
theorem qhistory_nil (w : World) :
    Calls Tryd.prog 26 #[.pointer none] w fun e w' => e = .returned (.pointer none) ∧ w' = w := by
  go_enter Tryd.func26, Tryd.ntmps26
  go_wp2_with fail
  go_ret
  exact ⟨rfl, rfl⟩
set_option maxRecDepth 100000 in
set_option maxHeartbeats 4000000 in
theorem qfull_any (qb : Nat) (x y : Value) (A : Option Addr) (n c room : Nat) (w : World) (h : w.heap[qb]? = some (.cells #[x, .slice A n c, .int .i64 room, y] 79 (0, 0))) :
    Calls Tryd.prog 29 #[.pointer (some ⟨qb, 1, none⟩)] w fun e w' => e = .returned (.bool (decide (room ≤ n))) ∧ ∃ q, w' = w.drewN q := by
  have c1 : w.cell? ⟨qb, 1, none⟩ = some (.slice A n c) := cell_of_row w qb 1 _ _ _ h
  have c2 : w.cell? ⟨qb, 2, none⟩ = some (.int .i64 room) := cell_of_row w qb 2 _ _ _ h
  have hd : decide ((room : Int) ≤ (n : Int)) = decide (room ≤ n) := by rw [Bool.eq_iff_iff]; simp
  clear h
  go_enter Tryd.func29, Tryd.ntmps29
  go_wp2_with fail
  go_quiet (fail)
  go_wp2_with fail
  go_ret
  exact ⟨rfl, _, rfl⟩
set_option maxRecDepth 100000 in
set_option maxHeartbeats 4000000 in
theorem took1_any (id : Int) (bx : Nat) (x : QX) (w : World) (h : w.cell? ⟨bx, 0, none⟩ = some (.int .i64 id)) :
    Calls Tryd.prog 46 #[x.v, .pointer (some ⟨bx, 0, none⟩)] w fun e w' => e = .returned (.bool (decide (x.id = id))) ∧ Below w.heap.size w w' := by
  unfold QX.v
  obtain ⟨W1, hW1⟩ : ∃ W, w.alloc (.cells #[.int .i64 x.id, .int .i64 x.base, .slice x.A x.l.length x.c] 42) = W := ⟨_, rfl⟩
  have hb1 : Below w.heap.size w W1 := by rw [← hW1]; exact (Below.refl _ _).alloc (Nat.le_refl _) _
  have c1 := (hb1.cell (p := ⟨bx, 0, none⟩) (World.block_lt_of_cell? w (a := ⟨bx, 0, none⟩) h)).trans h
  have hn : W1.heap[w.heap.size]? = some (.cells #[.int .i64 x.id, .int .i64 x.base, .slice x.A x.l.length x.c] 42 (0, 0)) := by rw [← hW1]; exact heap_alloc_new _ _
  have c0 : W1.cell? ⟨w.heap.size, 0, none⟩ = some (.int .i64 x.id) := cell_of_row W1 w.heap.size 0 _ _ _ hn
  have HB1 := Lib.hid hb1
  clear h hn hb1
  go_enter Tryd.func46, Tryd.ntmps46
  go_wp2_with fail
  go_ret
  exact ⟨ret_bool (by rw [Bool.eq_iff_iff]; simp), HB1.out⟩
end Go.Proofs.YtnkfnmkbfnhmfaaDoor
