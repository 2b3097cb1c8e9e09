/-
  The law FrameAlls, walked.
-/
import Derived.Test.YthmhofmkiliihaaFrKnown
namespace Go.Proofs.Ythmhofmkiliihaa
open Go Go.RowKit Go.Shelf Go.Proofs

set_option maxHeartbeats 8000000 in
theorem framealls_any (A : Option Addr) (c : Nat) (b : Bs) (w : World) (hs : SlAt w A c b) :
    Calls Try.prog 3 #[.slice A b.length c] w fun e w' => e = .returned (.bool true) ∧ Below w.heap.size w w' := by
  by_cases hl : b.length ≤ 2000
  · have q0 : ((2000 : Int) < (b.length : Int)) = False := eq_false (by omega)
    have H1 := Lib.hid (next_any A c b w hs (by omega))
    have HS := Lib.hid hs; clear hs
    go_enter Try.func3, Try.ntmps3
    go_wp2_with fail
    refine H1.out.mono ?_
    clear H1
    rintro e w1 ⟨A1, c1, x1, n1, rfl, ho1, hx1, hb1⟩
    have H2 := Lib.hid (refnext_any A c b w1 (HS.out.below hb1) (by omega))
    go_wp2_with fail
    refine H2.out.mono ?_
    clear H2
    rintro e w2 ⟨A2, c2, x2, n2, rfl, hs2, _, hx2, hb2⟩
    have hb02 := hb1.trans (hb2.mono hb1.size)
    have hx : x1 = x2 ∧ n1 = n2 := by
      rcases hx1 with ⟨h1, rfl⟩ | ⟨h1, rfl, rfl⟩ <;> rcases hx2 with ⟨h2, rfl⟩ | ⟨h2, rfl, rfl⟩
      · rw [h1] at h2; cases h2; exact ⟨rfl, rfl⟩
      · rw [h1] at h2; cases h2
      · rw [h1] at h2; cases h2
      · exact ⟨rfl, rfl⟩
    obtain ⟨rfl, rfl⟩ := hx
    have H3 := Lib.hid (all_any A c b w2 (HS.out.below hb02) (by omega))
    have S1 := ho1.sl.below hb2
    clear hx1 hx2 ho1 hb1 hb2
    go_wp2_with fail
    refine H3.out.mono ?_
    clear H3
    rintro e w3 ⟨v3, rows3, rfl, hR3, hv3, hb3⟩
    have hb03 := hb02.trans (hb3.mono hb02.size)
    obtain ⟨A3, c3, rfl, hr3⟩ := hR3.slice
    have H4 := Lib.hid (refall_any A c b w3 (HS.out.below hb03) (by omega))
    have S1 := S1.below hb3
    have S2 := hs2.below hb3
    clear hb3 hb02 hs2 hR3
    go_wp2_with fail
    refine H4.out.mono ?_
    clear H4
    rintro e w4 ⟨v4, rows4, rfl, hR4, hv4, hb4⟩
    have hb04 := hb03.trans (hb4.mono hb03.size)
    obtain ⟨A4, c4, rfl, hr4⟩ := hR4.slice
    have H5 := Lib.hid (frsame_any x1 x1 A1 A2 c1 c2 w4 (S1.bytes.below hb4) (S2.bytes.below hb4))
    have hr3 := hr3.below hb4
    have hval : rows3.map BX.b = rows4.map BX.b := hv3.trans hv4.symm
    have HB := Lib.hid hb04
    have H6 := Lib.hid (fun (W : World) (hW : Below w4.heap.size w4 W) => samelists_any rows3 rows4 A3 A4 c3 c4 W (hr3.below hW) (hr4.below hW))
    rw [show (x1 == x1) = true by simp] at H5
    rw [decide_eq_true hval] at H6
    clear hb03 hb04 hb4 S1 S2 hr3 hr4 hR4 hval hv3 hv4 HS
    go_wp2_with fail
    refine H5.out.mono ?_
    clear H5
    rintro e w5 ⟨rfl, hb5⟩
    have H6 := Lib.hid (H6.out w5 hb5)
    go_wp2_with fail
    refine H6.out.mono ?_
    clear H6
    rintro e w6 ⟨rfl, hb6⟩
    have H7 := Lib.hid (known_any w6)
    go_wp2_with fail
    refine H7.out.mono ?_
    clear H7
    rintro e w7 ⟨rfl, hb7⟩
    go_wp2_with fail
    go_ret
    have h5 := HB.out.trans (hb5.mono HB.out.size)
    have h6 := h5.trans (hb6.mono h5.size)
    exact ⟨rfl, h6.trans (hb7.mono h6.size)⟩
  · have q0 : ((2000 : Int) < (b.length : Int)) = True := eq_true (by omega)
    have H1 := Lib.hid (known_any w)
    clear hs
    go_enter Try.func3, Try.ntmps3
    go_wp2_with fail
    refine H1.out.mono ?_
    rintro e w1 ⟨rfl, hb⟩
    go_wp2_with fail
    go_ret
    exact ⟨rfl, hb⟩
end Go.Proofs.Ythmhofmkiliihaa
