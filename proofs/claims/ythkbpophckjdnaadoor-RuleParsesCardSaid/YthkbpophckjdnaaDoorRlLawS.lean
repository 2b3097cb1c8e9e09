/-
  The walk of RuleParses.
-/
import Derived.Test.YthkbpophckjdnaaDoorRlRefR
import Derived.Test.YthkbpophckjdnaaDoorRlTiny
namespace Go.Proofs.YthkbpophckjdnaaDoor
open Go Go.RowKit Go.Shelf Go.Proofs
attribute [local go_sem] Oper.semAt_some

set_option maxRecDepth 100000 in
set_option maxHeartbeats 16000000 in
theorem rparses_any (s : ByteArray) (w : World) (hs : s.size ≤ 1000000000000000) (hm : MaxOk w) :
    Calls Tryd.prog 3 #[.string s] w (RlB true w) := by
  have HK := Lib.hid (fun (W : World) (hb : Below w.heap.size w W) => rknown_any W (hm.below hb))
  have HMX := Lib.hid (fun (W : World) (hb : Below w.heap.size w W) => hm.below hb)
  clear hm
  by_cases hbig : 1500 < s.size
  · have g1 : (1500 : Int) < (s.size : Int) := by omega
    have HB := Lib.hid (Below.refl w.heap.size w)
    go_enter Tryd.func3, Tryd.ntmps3
    go_wp2_with fail
    refine (HK.out _ HB.out).mono ?_
    rintro e y ⟨rfl, hb⟩
    go_wp2_with fail
    go_ret
    exact ⟨rfl, hb⟩
  · have g1 : ¬ (1500 : Int) < (s.size : Int) := by omega
    have H1 := Lib.hid (rparse_all s w (by unfold maxLen; omega) (HMX.out w (Below.refl _ _)))
    have H2 := Lib.hid (fun W => rrefparse_any s W (by omega))
    have H3 := Lib.hid (fun W => unquote_any s W (by omega))
    have H4 := Lib.hid (fun W => refunq_any s W (by omega))
    have H5 := Lib.hid (fun W => quote_any s W (by omega))
    have H6 := Lib.hid (fun W => refquoteR_any s W (by omega))
    have H7 := Lib.hid (fun W => token_any s W (by unfold maxLen; omega))
    have H8 := Lib.hid (fun W => rtoken_any s W (by unfold maxLen; omega))
    obtain ⟨PP, hPP⟩ : ∃ PP, parseU s.data.toList = PP := ⟨_, rfl⟩
    rw [hPP] at H1
    rw [hPP] at H2
    obtain ⟨PE, PL⟩ := PP
    obtain ⟨xu, hxu⟩ : ∃ x, mkB (unqV s.data.toList).1 = x := ⟨_, rfl⟩
    obtain ⟨bu, hbu⟩ : ∃ b, (unqV s.data.toList).2 = b := ⟨_, rfl⟩
    rw [hxu, hbu] at H3
    rw [hxu, hbu] at H4
    obtain ⟨xq, hxq⟩ : ∃ x, mkB (quoteL s.data.toList) = x := ⟨_, rfl⟩
    rw [hxq] at H5
    rw [hxq] at H6
    obtain ⟨bt, hbt⟩ : ∃ b, tokenL s.data.toList = b := ⟨_, rfl⟩
    rw [hbt] at H7
    rw [hbt] at H8
    have su : (xu.toList == xu.toList) = true := beq_self_eq_true _
    have sq : (xq.toList == xq.toList) = true := beq_self_eq_true _
    have sb : (bu == bu) = true := beq_self_eq_true _
    have st : (bt == bt) = true := beq_self_eq_true _
    have sp : (PE == PE) = true := beq_self_eq_true _
    clear hPP hxu hbu hxq hbt hbig
    go_enter Tryd.func3, Tryd.ntmps3
    go_wp2_with fail
    refine H1.out.mono ?_
    rintro e w1 ⟨A1, c1, l1, rfl, hat1, hl1, hb1⟩
    have HB1 := Lib.hid hb1
    have HAT1 := Lib.hid hat1
    have HL1 := Lib.hid hl1
    clear hb1 hat1 hl1 H1
    go_wp2_with fail
    refine (H2.out _).mono ?_
    rintro e w2 ⟨A2, c2, l2, rfl, hat2, hl2, hb2⟩
    have HB2 := Lib.hid (HB1.out.trans (hb2.mono HB1.out.size))
    have HAT12 := Lib.hid (HAT1.out.below hb2)
    have HAT2 := Lib.hid hat2
    have HL2 := Lib.hid hl2
    clear hb2 hat2 hl2 H2 HAT1
    go_wp2_with fail
    refine (H3.out _).mono ?_
    rintro e w3 ⟨rfl, hb3⟩
    have HB3 := Lib.hid (HB2.out.trans (hb3.mono HB2.out.size))
    have HAT13 := Lib.hid (HAT12.out.below hb3)
    have HAT23 := Lib.hid (HAT2.out.below hb3)
    clear hb3 H3 HAT12 HAT2
    go_wp2_with fail
    refine (H4.out _).mono ?_
    rintro e w4 ⟨rfl, hb4⟩
    have HB4 := Lib.hid (HB3.out.trans (hb4.mono HB3.out.size))
    have HAT14 := Lib.hid (HAT13.out.below hb4)
    have HAT24 := Lib.hid (HAT23.out.below hb4)
    clear hb4 H4 HAT13 HAT23
    have HS := Lib.hid (rsame_any l1 l2 A1 A2 c1 c2 w4 true HAT14.out HAT24.out ⟨fun _ => HL1.out.trans HL2.out.symm, fun _ => rfl⟩)
    go_wp2_with fail
    refine HS.out.mono ?_
    rintro e w5 ⟨rfl, hb5⟩
    have HB5 := Lib.hid (HB4.out.trans (hb5.mono HB4.out.size))
    clear hb5 HS
    go_wp2_with fail
    refine (H5.out _).mono ?_
    rintro e w6 ⟨rfl, hb6⟩
    have HB6 := Lib.hid (HB5.out.trans (hb6.mono HB5.out.size))
    clear hb6 H5
    go_wp2_with fail
    refine (H6.out _).mono ?_
    rintro e w7 ⟨rfl, hb7⟩
    have HB7 := Lib.hid (HB6.out.trans (hb7.mono HB6.out.size))
    clear hb7 H6
    go_wp2_with fail
    refine (H7.out _).mono ?_
    rintro e w8 ⟨rfl, hb8⟩
    have HB8 := Lib.hid (HB7.out.trans (hb8.mono HB7.out.size))
    clear hb8 H7
    go_wp2_with fail
    refine (H8.out _).mono ?_
    rintro e w9 ⟨rfl, hw9⟩
    subst hw9
    go_wp2_with fail
    refine (HK.out _ HB8.out).mono ?_
    rintro e w10 ⟨rfl, hb10⟩
    have HB10 := Lib.hid (HB8.out.trans (hb10.mono HB8.out.size))
    clear hb10
    go_wp2_with fail
    go_ret
    exact ⟨rfl, HB10.out⟩
end Go.Proofs.YthkbpophckjdnaaDoor
