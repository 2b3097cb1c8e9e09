/-
  The law DiskAreas, walked.
-/
import Derived.Test.YtjobohhbkcjhnaaDkKnown
import Derived.Test.YtjobohhbkcjhnaaDkCalm
namespace Go.Proofs.Ytjobohhbkcjhnaa
open Go Go.RowKit Go.Shelf Go.Proofs

set_option maxRecDepth 100000 in
set_option maxHeartbeats 8000000 in
theorem diskareas_any (n a : Int) (A : Option Addr) (c : Nat) (b : Bs) (w : World) (hs : SlAt w A c b) :
    Calls Try.prog 9 #[.int .i64 n, .int .i64 a, .slice A b.length c] w fun e w' => e = .returned (.bool true) ∧ Below w.heap.size w w' := by
  by_cases hl : b.length ≤ 200
  · obtain ⟨d1, e1⟩ : ∃ d1, d1 = appendD (DDk.new n 1000) a b := ⟨_, rfl⟩
    obtain ⟨d2, e2⟩ : ∃ d2, d2 = syncD d1 a := ⟨_, rfl⟩
    obtain ⟨d3, e3⟩ : ∃ d3, d3 = cutD d2 a 0 := ⟨_, rfl⟩
    obtain ⟨f1, f2, f3, f4, f5⟩ := areas_law n a b hl d1 d2 d3 e1 e2 e3
    have q0 : ((200 : Int) < (b.length : Int)) = False := eq_false (by omega)
    have HN := Lib.hid (new_ds w n 1000)
    have HS := Lib.hid hs
    have E1 := Lib.hid e1
    have E2 := Lib.hid e2
    have E3 := Lib.hid e3
    obtain ⟨m, hm⟩ : ∃ m, b.length = m := ⟨_, rfl⟩
    rw [hm] at q0 hl ⊢
    have HM := Lib.hid hm
    by_cases t1 : 0 ≤ a
    · by_cases t2 : a < max 0 (min n 8)
      · have F1 := Lib.hid (show appendE (DDk.new n 1000) a b = 0 by rw [f1]; simp [t1, t2])
        have F2 := Lib.hid (show syncE d1 a = 0 by rw [f2]; simp [t1, t2])
        have F3 := Lib.hid (show cutE d2 a 0 = 0 by rw [f3]; simp [t1, t2])
        have F4 := Lib.hid f4
        have F5 := Lib.hid (show d3.lastL a = b by rw [f5]; simp [t1, t2])
        clear f1 f2 f3 f4 f5 e1 e2 e3 hs hm
        go_enter Try.func9, Try.ntmps9
        go_wp2_with fail
        refine HN.out.mono ?_
        rintro e w1 ⟨g, rfl, who1, hD1, ht1⟩
        have HA := Lib.hid (hD1.append (by omega) (by omega) a (HS.out.below (ht1.zero (by omega))) HM.out (by omega) (HS.out.who ht1))
        rw [F1.out] at HA
        have HT := Lib.hid ht1
        clear hD1 ht1
        go_wp2_with fail
        refine HA.out.mono ?_
        rintro e w2 ⟨rfl, who2, hD2, ht2⟩
        rw [← E1.out, HM.out] at hD2
        have HB := Lib.hid (hD2.sync (by omega) (by omega) a)
        rw [F2.out] at HB
        have HT2 := Lib.hid (HT.out.trans ht2)
        clear hD2 ht2 HA HT
        go_wp2_with fail
        refine HB.out.mono ?_
        rintro e w3 ⟨rfl, who3, hD3, ht3⟩
        rw [← E2.out] at hD3
        have HC := Lib.hid (hD3.cut (by omega) (by omega) a 0)
        rw [F3.out] at HC
        have HT3 := Lib.hid (HT2.out.trans ht3)
        clear hD3 ht3 HB HT2
        go_wp2_with fail
        refine HC.out.mono ?_
        rintro e w4 ⟨rfl, who4, hD4, ht4⟩
        rw [← E3.out] at hD4
        have HR := Lib.hid (hD4.read (by omega) a)
        rw [F4.out] at HR
        have HT4 := Lib.hid (HT3.out.trans ht4)
        have HD4 := Lib.hid hD4
        clear hD4 ht4 HC HT3
        go_wp2_with fail
        refine HR.out.mono ?_
        rintro e w5 ⟨v, rfl, ho, hb5⟩
        obtain ⟨A5, c5, rfl, hs5, _⟩ := OB.sl ho
        have HL := Lib.hid ((HD4.out.below hb5).lasting (by omega) a)
        rw [F5.out] at HL
        have HT5 := Lib.hid (HT4.out.trans (Turn.below hb5))
        clear ho hb5 hs5 HR HT4
        show _
        simp only [List.length_nil]
        go_wp2_with fail
        refine HL.out.mono ?_
        rintro e w6 ⟨v, rfl, ho, hb6⟩
        obtain ⟨A6, c6, rfl, hs6, _⟩ := OB.sl ho
        have HT6 := Lib.hid (HT5.out.trans (Turn.below hb6))
        have HSM := Lib.hid (frsame_any b b A6 A c6 c m m w6 hs6.bytes (HS.out.below (HT6.out.zero (by omega))).bytes HM.out HM.out)
        rw [show (b == b) = true by simp] at HSM
        rw [HM.out]
        clear ho hb6 hs6 HL HT5
        go_wp2_with fail
        refine HSM.out.mono ?_
        rintro e wz ⟨rfl, hb7⟩
        have HT7 := Lib.hid (HT6.out.trans (Turn.below hb7))
        clear hb7 HSM HT6
        have HK := Lib.hid (known_any wz)
        go_wp2_with fail
        refine HK.out.mono ?_
        rintro e w8 ⟨rfl, hb8⟩
        go_wp2_with fail
        go_ret
        have hz := HT7.out.zero (by omega)
        exact ⟨rfl, hz.trans (hb8.mono hz.size)⟩
      · have F1 := Lib.hid (show appendE (DDk.new n 1000) a b = 2 by rw [f1]; simp [t1, t2])
        have F2 := Lib.hid (show syncE d1 a = 2 by rw [f2]; simp [t1, t2])
        have F3 := Lib.hid (show cutE d2 a 0 = 2 by rw [f3]; simp [t1, t2])
        have F4 := Lib.hid f4
        have F5 := Lib.hid (show d3.lastL a = [] by rw [f5]; simp [t1, t2])
        have t3 : decide (a < max 0 (min n 8)) = false := decide_eq_false t2
        clear f1 f2 f3 f4 f5 e1 e2 e3 hs hm
        go_enter Try.func9, Try.ntmps9
        go_wp2_with fail
        refine HN.out.mono ?_
        rintro e w1 ⟨g, rfl, who1, hD1, ht1⟩
        have HA := Lib.hid (hD1.append (by omega) (by omega) a (HS.out.below (ht1.zero (by omega))) HM.out (by omega) (HS.out.who ht1))
        rw [F1.out] at HA
        have HT := Lib.hid ht1
        clear hD1 ht1
        go_wp2_with fail
        refine HA.out.mono ?_
        rintro e w2 ⟨rfl, who2, hD2, ht2⟩
        rw [← E1.out, HM.out] at hD2
        have HB := Lib.hid (hD2.sync (by omega) (by omega) a)
        rw [F2.out] at HB
        have HT2 := Lib.hid (HT.out.trans ht2)
        clear hD2 ht2 HA HT
        go_wp2_with fail
        refine HB.out.mono ?_
        rintro e w3 ⟨rfl, who3, hD3, ht3⟩
        rw [← E2.out] at hD3
        have HC := Lib.hid (hD3.cut (by omega) (by omega) a 0)
        rw [F3.out] at HC
        have HT3 := Lib.hid (HT2.out.trans ht3)
        clear hD3 ht3 HB HT2
        go_wp2_with fail
        refine HC.out.mono ?_
        rintro e w4 ⟨rfl, who4, hD4, ht4⟩
        rw [← E3.out] at hD4
        have HR := Lib.hid (hD4.read (by omega) a)
        rw [F4.out] at HR
        have HT4 := Lib.hid (HT3.out.trans ht4)
        have HD4 := Lib.hid hD4
        clear hD4 ht4 HC HT3
        go_wp2_with fail
        refine HR.out.mono ?_
        rintro e w5 ⟨v, rfl, ho, hb5⟩
        obtain ⟨A5, c5, rfl, hs5, _⟩ := OB.sl ho
        have HL := Lib.hid ((HD4.out.below hb5).lasting (by omega) a)
        rw [F5.out] at HL
        have HT5 := Lib.hid (HT4.out.trans (Turn.below hb5))
        clear ho hb5 hs5 HR HT4
        show _
        simp only [List.length_nil]
        go_wp2_with fail
        refine HL.out.mono ?_
        rintro e w6 ⟨v, rfl, ho, hb6⟩
        obtain ⟨A6, c6, rfl, hs6, _⟩ := OB.sl ho
        have HT6 := Lib.hid (HT5.out.trans (Turn.below hb6))
        obtain ⟨wz, hwz⟩ : ∃ wz, wz = w6 := ⟨_, rfl⟩
        subst hwz
        have HT7 := HT6
        clear ho hb6 hs6 HL HT5 HT6
        show _
        simp only [List.length_nil]
        have HK := Lib.hid (known_any wz)
        go_wp2_with fail
        refine HK.out.mono ?_
        rintro e w8 ⟨rfl, hb8⟩
        go_wp2_with fail
        go_ret
        have hz := HT7.out.zero (by omega)
        exact ⟨rfl, hz.trans (hb8.mono hz.size)⟩
    · have F1 := Lib.hid (show appendE (DDk.new n 1000) a b = 2 by rw [f1]; simp [t1])
      have F2 := Lib.hid (show syncE d1 a = 2 by rw [f2]; simp [t1])
      have F3 := Lib.hid (show cutE d2 a 0 = 2 by rw [f3]; simp [t1])
      have F4 := Lib.hid f4
      have F5 := Lib.hid (show d3.lastL a = [] by rw [f5]; simp [t1])
      clear f1 f2 f3 f4 f5 e1 e2 e3 hs hm
      go_enter Try.func9, Try.ntmps9
      go_wp2_with fail
      refine HN.out.mono ?_
      rintro e w1 ⟨g, rfl, who1, hD1, ht1⟩
      have HA := Lib.hid (hD1.append (by omega) (by omega) a (HS.out.below (ht1.zero (by omega))) HM.out (by omega) (HS.out.who ht1))
      rw [F1.out] at HA
      have HT := Lib.hid ht1
      clear hD1 ht1
      go_wp2_with fail
      refine HA.out.mono ?_
      rintro e w2 ⟨rfl, who2, hD2, ht2⟩
      rw [← E1.out, HM.out] at hD2
      have HB := Lib.hid (hD2.sync (by omega) (by omega) a)
      rw [F2.out] at HB
      have HT2 := Lib.hid (HT.out.trans ht2)
      clear hD2 ht2 HA HT
      go_wp2_with fail
      refine HB.out.mono ?_
      rintro e w3 ⟨rfl, who3, hD3, ht3⟩
      rw [← E2.out] at hD3
      have HC := Lib.hid (hD3.cut (by omega) (by omega) a 0)
      rw [F3.out] at HC
      have HT3 := Lib.hid (HT2.out.trans ht3)
      clear hD3 ht3 HB HT2
      go_wp2_with fail
      refine HC.out.mono ?_
      rintro e w4 ⟨rfl, who4, hD4, ht4⟩
      rw [← E3.out] at hD4
      have HR := Lib.hid (hD4.read (by omega) a)
      rw [F4.out] at HR
      have HT4 := Lib.hid (HT3.out.trans ht4)
      have HD4 := Lib.hid hD4
      clear hD4 ht4 HC HT3
      go_wp2_with fail
      refine HR.out.mono ?_
      rintro e w5 ⟨v, rfl, ho, hb5⟩
      obtain ⟨A5, c5, rfl, hs5, _⟩ := OB.sl ho
      have HL := Lib.hid ((HD4.out.below hb5).lasting (by omega) a)
      rw [F5.out] at HL
      have HT5 := Lib.hid (HT4.out.trans (Turn.below hb5))
      clear ho hb5 hs5 HR HT4
      show _
      simp only [List.length_nil]
      go_wp2_with fail
      refine HL.out.mono ?_
      rintro e w6 ⟨v, rfl, ho, hb6⟩
      obtain ⟨A6, c6, rfl, hs6, _⟩ := OB.sl ho
      have HT6 := Lib.hid (HT5.out.trans (Turn.below hb6))
      obtain ⟨wz, hwz⟩ : ∃ wz, wz = w6 := ⟨_, rfl⟩
      subst hwz
      have HT7 := HT6
      clear ho hb6 hs6 HL HT5 HT6
      show _
      simp only [List.length_nil]
      have HK := Lib.hid (known_any wz)
      go_wp2_with fail
      refine HK.out.mono ?_
      rintro e w8 ⟨rfl, hb8⟩
      go_wp2_with fail
      go_ret
      have hz := HT7.out.zero (by omega)
      exact ⟨rfl, hz.trans (hb8.mono hz.size)⟩
  · have q0 : ((200 : Int) < (b.length : Int)) = True := eq_true (by omega)
    have H1 := Lib.hid (known_any w)
    clear hs
    go_enter Try.func9, Try.ntmps9
    go_wp2_with fail
    refine H1.out.mono ?_
    rintro e w1 ⟨rfl, hb⟩
    go_wp2_with fail
    go_ret
    exact ⟨rfl, hb⟩
end Go.Proofs.Ytjobohhbkcjhnaa
