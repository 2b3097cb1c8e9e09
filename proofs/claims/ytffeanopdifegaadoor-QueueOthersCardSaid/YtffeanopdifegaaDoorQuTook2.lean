/-
  The contract of the queue's took.
-/
import Derived.Test.YtffeanopdifegaaDoorQuTook
namespace Go.Proofs.YtffeanopdifegaaDoor
open Go Go.RowKit Go.Shelf Go.Proofs Go.ChangeMaps Go.Maps Go.WideMaps
attribute [local go_sem] Oper.semAt_some

set_option maxRecDepth 100000 in
set_option maxHeartbeats 8000000 in
theorem took_any {base : Nat} {w : World} {qb hb ab room : Nat} {v : Value} {R : List QX} {L : List AX} (h : QueueAt base w qb hb ab room v R L) (id : Int) (hid : keyOf Tryd.prog 3 (.int .i64 id) = some (.int .i64 id)) :
    Calls Tryd.prog 28 #[.pointer (some ⟨qb, 0, none⟩), .int .i64 id] w fun e w' => e = .returned (.bool (hasA L id || waitsQ R id)) ∧ Below w.heap.size w w' := by
  have hmf : ∀ (fn : Fn) (first cap : Array Value) (w : World), (Instr.makeFunc fn first cap).run Tryd.prog w = .ok (.func fn first cap) w := fun _ _ _ _ => rfl
  obtain ⟨A, c, rfl, -, hRc, hcm, hrow⟩ := h.waits.slice
  obtain ⟨bx, hbx⟩ : ∃ b, w.heap.size = b := ⟨_, rfl⟩
  obtain ⟨W1, hW1⟩ : ∃ W, w.alloc (.cells #[.int .i64 id] 3) = W := ⟨_, rfl⟩
  have hb1 : Below w.heap.size w W1 := by rw [← hW1]; exact (Below.refl _ _).alloc (Nat.le_refl _) _
  have hn1 : W1.heap[bx]? = some (.cells #[.int .i64 id] 3 (0, 0)) := by rw [← hW1, ← hbx]; exact heap_alloc_new _ _
  have ci : W1.cell? ⟨bx, 0, none⟩ = some (.int .i64 id) := cell_of_row W1 bx 0 _ _ _ hn1
  have hq1 := h.below hb1
  have c3 : W1.cell? ⟨qb, 3, none⟩ = some (.map (some ab)) := cell_of_row W1 qb 3 _ _ _ hq1.heap
  have hlk := ans_look hq1.ans id hid
  have HQ1 := Lib.hid hq1
  have HB1 := Lib.hid hb1
  have HN1 := Lib.hid hn1
  have HROW := Lib.hid (fun (W : World) (hb : Below w.heap.size w W) (h0 : 0 < R.length) => show ∃ g o, A = some ⟨g, o, none⟩ ∧ RowQ W g o R by obtain ⟨g, o, e, hr⟩ := hrow h0; exact ⟨g, o, e, hr.below hb⟩)
  have HW1 := Lib.hid hW1
  have HBX := Lib.hid hbx
  clear h hb1 hq1 hrow hW1 hbx hn1
  go_enter Tryd.func28, Tryd.ntmps28
  go_upto_region 1 with fail
  rw [HW1.out, HBX.out]
  go_wp2_with fail
  have hbA : Below W1.heap.size W1 (W1.alloc (.cells #[.int .i64 0, .int .i64 0, .int .i64 0, .int .i64 0] 36)).drew := ((Below.refl _ _).alloc (Nat.le_refl _) _).drew
  have ci2 : (W1.alloc (.cells #[.int .i64 0, .int .i64 0, .int .i64 0, .int .i64 0] 36)).drew.cell? ⟨bx, 0, none⟩ = some (.int .i64 id) := (hbA.cell (p := ⟨bx, 0, none⟩) (World.block_lt_of_cell? W1 (a := ⟨bx, 0, none⟩) ci)).trans ci
  have c32 : (W1.alloc (.cells #[.int .i64 0, .int .i64 0, .int .i64 0, .int .i64 0] 36)).drew.cell? ⟨qb, 3, none⟩ = some (.map (some ab)) := (hbA.cell (p := ⟨qb, 3, none⟩) (World.block_lt_of_cell? W1 (a := ⟨qb, 3, none⟩) c3)).trans c3
  have hlk2 := ans_look (HQ1.out.below hbA).ans id hid
  have hlk3 := ans_look (HQ1.out.below (Below.refl W1.heap.size W1).drew).ans id hid
  obtain ⟨xa, hxa⟩ : ∃ x, lookA L id = x := ⟨_, rfl⟩
  rw [hxa] at hlk2 hlk3
  obtain ⟨x0, x1, x2, x3⟩ := xa
  unfold AX.v at hlk2 hlk3
  obtain ⟨hs, hhs⟩ : ∃ b, hasA L id = b := ⟨_, rfl⟩
  rw [hhs] at hlk2 hlk3
  have hnA : (W1.alloc (.cells #[.int .i64 0, .int .i64 0, .int .i64 0, .int .i64 0] 36)).drew.heap[W1.heap.size]? = some (.cells #[.int .i64 0, .int .i64 0, .int .i64 0, .int .i64 0] 36 (0, 0)) := heap_alloc_new _ _
  have d0 := cell_of_row _ _ 0 _ _ _ hnA
  have d1 := cell_of_row _ _ 1 _ _ _ hnA
  have d2 := cell_of_row _ _ 2 _ _ _ hnA
  have d3 := cell_of_row _ _ 3 _ _ _ hnA
  have f0 := frozen_of_row _ _ 0 _ _ hnA
  have f1 := frozen_of_row _ _ 1 _ _ hnA
  have f2 := frozen_of_row _ _ 2 _ _ hnA
  have f3 := frozen_of_row _ _ 3 _ _ hnA
  simp only [List.getElem?_toArray, List.getElem?_cons_zero, List.getElem?_cons_succ] at d0 d1 d2 d3
  have HHS := Lib.hid hhs
  clear hbA hlk hnA hxa hhs

  go_region
  all_goals
    have hb2 : Below w.heap.size w (W1.alloc (.cells #[.int .i64 x0, .int .i64 x1, .int .i64 x2, .int .i64 x3] 36)).drew := (HB1.out.alloc HB1.out.size _).drew
    have hbk : Below W1.heap.size W1 (W1.alloc (.cells #[.int .i64 x0, .int .i64 x1, .int .i64 x2, .int .i64 x3] 36)).drew := ((Below.refl _ _).alloc (Nat.le_refl _) _).drew
    obtain ⟨W2, hW2⟩ : ∃ W, (W1.alloc (.cells #[.int .i64 x0, .int .i64 x1, .int .i64 x2, .int .i64 x3] 36)).drew = W := ⟨_, rfl⟩
    rw [hW2] at hb2 hbk ⊢
    have ci3 := (hbk.cell (p := ⟨bx, 0, none⟩) (World.block_lt_of_cell? W1 (a := ⟨bx, 0, none⟩) ci)).trans ci
    have HAS := Lib.hid (has_any qb bx id R A c _ _ _ W2 (HQ1.out.below hbk).heap ci3 (by unfold maxLen at hcm ⊢; omega) (HROW.out W2 hb2))
    have HB2 := Lib.hid hb2
    have HHB := Lib.hid HHS.out
    clear hb2 hbk hW2 ci3 ci ci2 c32 hlk2 hlk3 d0 d1 d2 d3 f0 f1 f2 f3
    cases hs with
    | true =>
      go_wp2_with fail
      go_ret
      exact ⟨by rw [HHB.out, Bool.true_or]; rfl, HB2.out⟩
    | false =>
      go_wp2_with fail
      refine HAS.out.mono ?_
      rintro e w3 ⟨rfl, hb3⟩
      go_wp2_with fail
      go_ret
      exact ⟨by rw [HHB.out, Bool.false_or]; rfl, HB2.out.trans (hb3.mono HB2.out.size)⟩
end Go.Proofs.YtffeanopdifegaaDoor
