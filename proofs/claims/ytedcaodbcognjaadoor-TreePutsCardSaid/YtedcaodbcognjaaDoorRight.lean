/-
  The contracts of path.name, pattern, consistsOf, Right, Glob.
-/
import Derived.Test.YtedcaodbcognjaaDoorName
namespace Go.Proofs.YtedcaodbcognjaaDoor
open Go Go.RowKit Go.Shelf Go.Proofs
attribute [local go_sem] Oper.semAt_some

/-- The library's variable internal/bytealg.MaxLen holds some number. -/
def MaxOk (w : World) : Prop := 0 < w.heap.size ∧ 0 < w.heap.size ∧ ∃ m, w.cell? ⟨0, 0, none⟩ = some (.int .i64 m)
theorem MaxOk.below {w w' : World} (h : MaxOk w) (hb : Below w.heap.size w w') : MaxOk w' := by
  obtain ⟨h0, h1, m, hm⟩ := h
  exact ⟨Nat.lt_of_lt_of_le h0 hb.size, Nat.lt_of_lt_of_le h1 hb.size, m, (hb.cell (p := ⟨0, 0, none⟩) h1).trans hm⟩
theorem MaxOk.belowN {n : Nat} {w w' : World} (h : MaxOk w) (hb : Below n w w') (hn : w.heap.size ≤ n) : MaxOk w' := h.below (hb.mono hn)

theorem name_any (s : ByteArray) (w : World) (hs : s.size ≤ maxLen) :
    Calls Tryd.prog 56 #[.string s] w fun e w' => e = .returned (.bool (nameB s.data.toList)) ∧ w' = w := by
  go_enter Tryd.func56, Tryd.ntmps56
  go_wp2_with (go_at_call 75; refine (spelt_any _ _ _ hs).mono ?_; rintro e w' ⟨rfl, rfl⟩)
  go_ret
  exact ⟨rfl, rfl⟩

theorem pattern_any (s : ByteArray) (w : World) (hs : s.size ≤ 1000) (hm : MaxOk w) :
    Calls Tryd.prog 80 #[.string s] w fun e w' => e = .returned (.bool (patB s.data.toList)) ∧ w' = w := by
  obtain ⟨_, _, m, hm⟩ := hm
  have hs' : s.size ≤ maxLen := by unfold maxLen; omega
  by_cases h1 : s.toList = [42, 42]
  · have g1 : (s.toList == [42, 42]) = true := by simp [h1]
    have r1 : patB s.data.toList = true := by unfold patB; rw [← ByteArray.toList_eq, g1]; rfl
    have R1 := Lib.hid r1; clear r1 h1
    go_enter Tryd.func80, Tryd.ntmps80
    go_wp2_with fail
    go_ret
    exact ⟨ret_bool R1.out.symm, rfl⟩
  · have g1 : (s.toList == [42, 42]) = false := by simpa using h1
    cases h2 : speltB [42, 63] s.data.toList with
    | false =>
      have r1 : patB s.data.toList = false := by unfold patB; rw [← ByteArray.toList_eq, g1, ByteArray.toList_eq, h2]; rfl
      have R1 := Lib.hid r1; clear r1 h1
      have H2 := Lib.hid h2; clear h2
      go_enter Tryd.func80, Tryd.ntmps80
      go_wp2_with (go_at_call 75; refine (spelt_any _ _ _ hs').mono ?_; rintro e w' ⟨rfl, rfl⟩; rw [show ByteArray.data ⟨#[42, 63]⟩ = #[42, 63] from rfl, H2.out])
      go_ret
      exact ⟨ret_bool R1.out.symm, rfl⟩
    | true =>
      have r1 : patB s.data.toList = !Lib.contains s.data.toList [42, 42] := by unfold patB; rw [← ByteArray.toList_eq, g1, ByteArray.toList_eq, h2]; rfl
      have R1 := Lib.hid r1; clear r1 h1
      have H2 := Lib.hid h2; clear h2
      go_enter Tryd.func80, Tryd.ntmps80
      go_wp2_with (first | (go_at_call 75; refine (spelt_any _ _ _ hs').mono ?_; rintro e w' ⟨rfl, rfl⟩; rw [show ByteArray.data ⟨#[42, 63]⟩ = #[42, 63] from rfl, H2.out]) | (go_at_call 92; refine (Tryd.strings_Contains s ⟨#[42, 42]⟩ m _ (by omega) hm).mono ?_; rintro e w' ⟨rfl, rfl⟩))
      go_ret
      exact ⟨ret_bool R1.out.symm, rfl⟩
end Go.Proofs.YtedcaodbcognjaaDoor
