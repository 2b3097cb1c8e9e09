/-
  The contract of quilterlaw01.known.
-/
import Derived.Test.YtcnifjjdnomgpaaDoorMatch
namespace Go.Proofs.YtcnifjjdnomgpaaDoor
open Go Go.RowKit Go.Shelf Go.Proofs

theorem known_c1 : cleanV [47, 97, 47, 47, 46, 47, 98, 47, 46, 46, 47, 99] = .tuple #[.string ⟨#[97, 47, 99]⟩, .int .i64 0] := by
  have h1 : sweepN (splitL 47 [47, 97, 47, 47, 46, 47, 98, 47, 46, 46, 47, 99]) = some [[97], [99]] := by decide +kernel
  have h2 : rightB (joinL [[97], [99]]) = true := by decide +kernel
  rw [cleanV_some _ _ h1, h2]; rfl
theorem known_c2 : cleanV [46, 46] = .tuple #[.string ⟨#[]⟩, .int .i64 4] := by
  have h1 : sweepN (splitL 47 [46, 46]) = none := by decide +kernel
  unfold cleanV cleanB; rw [h1]
theorem known_m1 : matchB [97, 47, 42, 42, 47, 42, 46, 103, 111] [97, 47, 120, 46, 103, 111] = true := by
  have h1 : globB [97, 47, 42, 42, 47, 42, 46, 103, 111] = true := by decide +kernel
  have h2 : rightB [97, 47, 120, 46, 103, 111] = true := by decide +kernel
  have h3 : splitL 47 [97, 47, 42, 42, 47, 42, 46, 103, 111] = [[97], [42, 42], [42, 46, 103, 111]] := by decide +kernel
  have h4 : splitL 47 [97, 47, 120, 46, 103, 111] = [[97], [120, 46, 103, 111]] := by decide +kernel
  unfold matchB
  rw [h1, h2, h3, h4]
  simp [partedB_cons, partedB_stop, partedB_nil, fitsB]
theorem known_m2 : matchB [97, 47, 42] [97, 47, 98, 47, 99] = false := by
  have h1 : globB [97, 47, 42] = true := by decide +kernel
  have h2 : rightB [97, 47, 98, 47, 99] = true := by decide +kernel
  have h3 : splitL 47 [97, 47, 42] = [[97], [42]] := by decide +kernel
  have h4 : splitL 47 [97, 47, 98, 47, 99] = [[97], [98], [99]] := by decide +kernel
  unfold matchB
  rw [h1, h2, h3, h4]
  simp [partedB_cons, partedB_stop, partedB_nil, fitsB]

set_option maxHeartbeats 2000000 in
theorem known_any (w : World) (hm : MaxOk w) : Calls Tryd.prog 10 #[] w fun e w' => e = .returned (.bool true) ∧ Below w.heap.size w w' := by
  have K1 := Lib.hid known_c1
  have K2 := Lib.hid known_c2
  have K3 := Lib.hid known_m1
  have K4 := Lib.hid known_m2
  go_enter Tryd.func10, Tryd.ntmps10
  go_wp2_with fail
  refine (clean_any ⟨#[47, 97, 47, 47, 46, 47, 98, 47, 46, 46, 47, 99]⟩ _ (by decide) hm).mono ?_
  rintro e w1 ⟨rfl, hb1⟩
  rw [K1.out]
  have hm1 := hm.below hb1
  go_wp2_with fail
  refine (clean_any ⟨#[46, 46]⟩ _ (by decide) hm1).mono ?_
  rintro e w2 ⟨rfl, hb2⟩
  rw [K2.out]
  have hm2 := hm1.below hb2
  go_wp2_with fail
  refine (match_any ⟨#[97, 47, 42, 42, 47, 42, 46, 103, 111]⟩ ⟨#[97, 47, 120, 46, 103, 111]⟩ _ (by decide) (by decide) hm2).mono ?_
  rintro e w3 ⟨rfl, hb3⟩
  rw [K3.out]
  have hm3 := hm2.below hb3
  go_wp2_with fail
  refine (match_any ⟨#[97, 47, 42]⟩ ⟨#[97, 47, 98, 47, 99]⟩ _ (by decide) (by decide) hm3).mono ?_
  rintro e w4 ⟨rfl, hb4⟩
  rw [K4.out]
  have hb : Below w.heap.size w w4 := ((hb1.trans (hb2.mono hb1.size)).trans (hb3.mono (Nat.le_trans hb1.size hb2.size))).trans (hb4.mono (Nat.le_trans hb1.size (Nat.le_trans hb2.size hb3.size)))
  go_wp2_with fail
  go_ret
  exact ⟨rfl, hb⟩
end Go.Proofs.YtcnifjjdnomgpaaDoor
