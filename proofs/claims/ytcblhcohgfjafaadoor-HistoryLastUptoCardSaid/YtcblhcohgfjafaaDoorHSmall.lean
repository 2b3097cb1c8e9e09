/-
  What the laws of layer 3 call: small.
-/
import Derived.Test.YtcblhcohgfjafaaDoorHKnown
namespace Go.Proofs.YtcblhcohgfjafaaDoor
open Go Go.RowKit Go.Shelf Go.Proofs Go.ChangeMaps Go.Maps Go.WideMaps
attribute [local go_sem] Oper.semAt_some

set_option maxRecDepth 100000 in
set_option maxHeartbeats 8000000 in
theorem hsmall_any (t : List FX) (l : List LX) (A B : Option Addr) (c d : Nat) (w : World) (ht : TreeAt w A c t) (zt : BigX t) (hl : LRowAt w B d l) (hb : longLN l ≤ 4611686018427387904) :
    Calls Tryd.prog 6 #[.slice A t.length c, .slice B l.length d] w fun e w' => e = .returned (.bool (hsmallL t l)) ∧ Below w.heap.size w w' := by
  have HL := Lib.hid hl
  have HB := Lib.hid hb
  have HT := Lib.hid ht
  have HZ := Lib.hid zt
  clear hl hb ht zt
  by_cases h1 : t.length ≤ 30
  · have k1 : (t.length : Int) ≤ 30 := by omega
    have H1 := Lib.hid h1
    have HG := Lib.hid (reflong_any t A c w HT.out (by omega) HZ.out)
    clear h1
    go_enter Tryd.func6, Tryd.ntmps6
    go_wp2_with fail
    refine HG.out.mono ?_
    rintro e w1 ⟨rfl, hb1⟩
    by_cases h2 : longN t ≤ 2000
    · have k2 : (longN t : Int) ≤ 2000 := by omega
      have H2 := Lib.hid h2
      clear h2
      by_cases h3 : l.length ≤ 25
      · have k3 : (l.length : Int) ≤ 25 := by omega
        have H3 := Lib.hid h3
        have HG2 := Lib.hid (hreflong_any l B d w1 (HL.out.below hb1) HB.out)
        clear h3
        go_wp2_with fail
        refine HG2.out.mono ?_
        rintro e w2 ⟨rfl, hb2⟩
        have HB2 := Lib.hid (hb1.trans (hb2.mono hb1.size))
        clear hb2
        by_cases h4 : longLN l ≤ 3000
        · have k4 : (longLN l : Int) ≤ 3000 := by omega
          have H4 := Lib.hid h4
          clear h4
          go_wp2_with fail
          go_ret
          have e : hsmallL t l = true := by unfold hsmallL; simp [H1.out, H2.out, H3.out, H4.out]
          exact ⟨by rw [e]; rfl, HB2.out⟩
        · have k4 : ¬ (longLN l : Int) ≤ 3000 := by omega
          have H4 := Lib.hid h4
          clear h4
          go_wp2_with fail
          go_ret
          have e : hsmallL t l = false := by unfold hsmallL; simp [H1.out, H2.out, H3.out]; have := H4.out; omega
          exact ⟨by rw [e]; show Ending.returned (Value.bool (decide ((longLN l : Int) ≤ 3000))) = _; rw [decide_eq_false (by have := H4.out; omega)], HB2.out⟩
      · have k3 : ¬ (l.length : Int) ≤ 25 := by omega
        have H3 := Lib.hid h3
        clear h3
        go_wp2_with fail
        go_ret
        have e : hsmallL t l = false := by unfold hsmallL; simp [H3.out]
        exact ⟨by rw [e]; rfl, hb1⟩
    · have k2 : ¬ (longN t : Int) ≤ 2000 := by omega
      have H2 := Lib.hid h2
      clear h2
      go_wp2_with fail
      go_ret
      have e : hsmallL t l = false := by unfold hsmallL; simp [H2.out]
      exact ⟨by rw [e]; rfl, hb1⟩
  · have k1 : ¬ (t.length : Int) ≤ 30 := by omega
    have H1 := Lib.hid h1
    clear h1
    go_enter Tryd.func6, Tryd.ntmps6
    go_wp2_with fail
    go_ret
    have e : hsmallL t l = false := by unfold hsmallL; simp [H1.out]
    exact ⟨by rw [e]; rfl, Below.refl _ _⟩
end Go.Proofs.YtcblhcohgfjafaaDoor
