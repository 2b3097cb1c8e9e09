/-
  The contract of the document's own Reach, where it refuses.
-/
import Derived.Test.YteigepblocbnlaaGpRefReach
namespace Go.Proofs.Yteigepblocbnlaa.Gp
open Go Go.RowKit Go.Shelf Go.Proofs
attribute [local go_sem] Oper.semAt_some

set_option maxRecDepth 100000 in
set_option maxHeartbeats 8000000 in
theorem refreach_bad (n f : Int) (A : Option Addr) (c : Nat) (l : List EI) (w : World) (hl : EdgesAt w A l) (hm : l.length ≤ 100000) (hr : (rightB n l && endB n f) = false) :
    Calls Try.prog 14 #[.int .i64 n, .int .i64 f, .slice A l.length c] w fun e w' => e = .returned (.slice none 0 0) ∧ w' = w := by
  have HRR := Lib.hid (refright_any n A c l w hl (by omega))
  cases h1 : rightB n l with
  | false =>
    rw [h1] at HRR
    clear h1 hr
    go_enter Try.func14, Try.ntmps14
    go_wp2_with fail
    refine HRR.out.mono ?_
    rintro e w1 ⟨rfl, hw1⟩
    have hw1 := hw1.symm; subst hw1
    go_wp2_with fail
    go_ret
    exact ⟨rfl, rfl⟩
  | true =>
    rw [h1, Bool.true_and] at hr
    rw [h1] at HRR
    unfold endB at hr
    clear h1
    by_cases g1 : f < 0
    · have t1 : decide (f < 0) = true := decide_eq_true g1
      clear g1 hr
      go_enter Try.func14, Try.ntmps14
      go_wp2_with fail
      refine HRR.out.mono ?_
      rintro e w1 ⟨rfl, hw1⟩
      have hw1 := hw1.symm; subst hw1
      go_wp2_with fail
      go_ret
      exact ⟨rfl, rfl⟩
    · have t1 : decide (f < 0) = false := decide_eq_false g1
      have g2 : n ≤ f := by simp at hr; omega
      have t2 : decide (n ≤ f) = true := decide_eq_true g2
      clear g1 hr g2
      go_enter Try.func14, Try.ntmps14
      go_wp2_with fail
      refine HRR.out.mono ?_
      rintro e w1 ⟨rfl, hw1⟩
      have hw1 := hw1.symm; subst hw1
      go_wp2_with fail
      go_ret
      exact ⟨rfl, rfl⟩
end Go.Proofs.Yteigepblocbnlaa.Gp
