/-
  The contract of the document's own Right.
-/
import Derived.Test.YteigepblocbnlaaGpEdges
namespace Go.Proofs.Yteigepblocbnlaa.Gp
open Go Go.RowKit Go.Shelf Go.Proofs
attribute [local go_sem] Oper.semAt_some

set_option maxRecDepth 100000 in
set_option maxHeartbeats 8000000 in
theorem refright_any (n : Int) (A : Option Addr) (c : Nat) (l : List EI) (w : World) (hl : EdgesAt w A l) (hm : l.length ≤ 9000000000000) :
    Calls Try.prog 16 #[.int .i64 n, .slice A l.length c] w fun e w' => e = .returned (.bool (rightB n l)) ∧ w' = w := by
  have HL := Lib.hid hl; clear hl
  obtain ⟨N, hN⟩ : ∃ N, l.length = N := ⟨_, rfl⟩
  rw [hN] at hm ⊢
  have HN := Lib.hid hN; clear hN
  go_enter Try.func16, Try.ntmps16
  go_wp2_with fail
  go_loopw [5] (fun y wr => ∃ (k : Nat), k ≤ N ∧ y = .int .i64 k ∧ Hid ((l.take k).all (edgeB n) = true) ∧ wr = w) (fun y _ => N - (intOf y).toNat)
  case atStart => exact ⟨0, Nat.zero_le _, rfl, by simp [Hid], rfl⟩
  case round =>
    obtain ⟨k, hk, rfl, HB, rfl⟩ := hrel
    by_cases h1 : k < N
    · obtain ⟨⟨ef, et⟩, hx⟩ : ∃ x, l[k]? = some x := ⟨_, List.getElem?_eq_getElem (by have := HN.out; omega)⟩
      obtain ⟨g, o, rfl, hc⟩ := HL.out (by have := HN.out; omega)
      obtain ⟨c1, c2⟩ := hc k _ hx
      have HX := Lib.hid hx
      have k1 : (k : Int) < (N : Int) := by omega
      have wk : IntKind.i64.wrap (k : Int) = (k : Int) := IntWalk.i64_in _ (by omega)
      clear hc hx
      have bad : edgeB n (ef, et) = false → Hid (rightB n l = false) := fun h => right_bad HX.out h
      by_cases g1 : ef < 0
      · have b := bad (by unfold edgeB endB; simp; omega)
        have t1 : decide (ef < 0) = true := decide_eq_true g1
        clear bad g1
        go_wp2_with fail
        go_ret
        exact ⟨ret_b b.out.symm, rfl⟩
      · have t1 : decide (ef < 0) = false := decide_eq_false g1
        by_cases g2 : n ≤ ef
        · have b := bad (by unfold edgeB endB; simp; omega)
          have t2 : decide (n ≤ ef) = true := decide_eq_true g2
          clear bad g1 g2
          go_wp2_with fail
          go_ret
          exact ⟨ret_b b.out.symm, rfl⟩
        · have t2 : decide (n ≤ ef) = false := decide_eq_false g2
          by_cases g3 : et < 0
          · have b := bad (by unfold edgeB endB; simp; omega)
            have t3 : decide (et < 0) = true := decide_eq_true g3
            clear bad g1 g2 g3
            go_wp2_with fail
            go_ret
            exact ⟨ret_b b.out.symm, rfl⟩
          · have t3 : decide (et < 0) = false := decide_eq_false g3
            by_cases g4 : n ≤ et
            · have b := bad (by unfold edgeB endB; simp; omega)
              have t4 : decide (n ≤ et) = true := decide_eq_true g4
              clear bad g1 g2 g3 g4
              go_wp2_with fail
              go_ret
              exact ⟨ret_b b.out.symm, rfl⟩
            · have t4 : decide (n ≤ et) = false := decide_eq_false g4
              have hgood : Hid (edgeB n (ef, et) = true) := by unfold edgeB endB; simp [Hid]; omega
              clear bad g1 g2 g3 g4
              go_wp2_with fail
              go_roundw
              case rel =>
                refine ⟨k + 1, by omega, by go_num, ?_, by first | rfl | trivial⟩
                rw [List.take_add_one, HX.out, List.all_append, HB.out]
                simp [hgood.out, Hid]
              case measure => simp [intOf]; omega
    · obtain rfl : k = N := by omega
      have hall := HB.out
      rw [← HN.out, List.take_length] at hall
      have hfin : Hid (rightB n l = sizeB n) := by unfold rightB; rw [hall, Bool.and_true]; rfl
      clear hall
      by_cases h0 : 0 ≤ n
      · have t1 : decide (0 ≤ n) = true := decide_eq_true h0
        have hs : Hid (sizeB n = decide (n ≤ 2000)) := by unfold sizeB; rw [t1, Bool.true_and]; rfl
        clear h0
        go_wp2_with fail
        go_ret
        exact ⟨ret_b (by rw [hfin.out, hs.out]), rfl⟩
      · have t1 : decide (0 ≤ n) = false := decide_eq_false h0
        have hs : Hid (sizeB n = false) := by unfold sizeB; rw [t1, Bool.false_and]; rfl
        clear h0
        go_wp2_with fail
        go_ret
        exact ⟨ret_b (by rw [hfin.out, hs.out]), rfl⟩
end Go.Proofs.Yteigepblocbnlaa.Gp
