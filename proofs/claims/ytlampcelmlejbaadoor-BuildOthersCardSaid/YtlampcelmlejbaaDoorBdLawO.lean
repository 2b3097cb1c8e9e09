/-
  The walk of BuildOthers.
-/
import Derived.Test.YtlampcelmlejbaaDoorBdUse
import Derived.Laws.DeepStrings4
import Derived.BigQuiet
namespace Go.Proofs.YtlampcelmlejbaaDoor
open Go Go.RowKit Go.Shelf Go.Proofs
attribute [local go_sem] Oper.semAt_some

theorem end_of (s : ByteArray) (q : Bs) (h : s.data.toList = q ++ buildW) : 5 ≤ s.size ∧ (s.extract (s.size - 5) s.size).toList = [66, 85, 73, 76, 68] := by
  have hl : s.data.toList.length = s.size := Array.length_toList
  have h5 : s.size = q.length + 5 := by rw [← hl, h, List.length_append]; rfl
  refine ⟨by omega, ?_⟩
  rw [ByteArray.toList_eq, ByteArray.data_extract, Array.toList_extract, List.extract, h, h5]
  rw [show q.length + 5 - 5 = q.length by omega, List.drop_left]
  show List.take _ buildW = _
  rw [show q.length + 5 - q.length = 5 by omega]
  rfl

set_option maxRecDepth 100000 in
set_option maxHeartbeats 16000000 in
theorem bothers_law (t : List FX) (A : Option Addr) (c : Nat) (f : FX) (w : World) (h : TreeAt w A c t) (hz : BigX t) (hf : FileOk w f) (hm : MaxOk w) :
    Calls Tryd.prog 8 #[.slice A t.length c, .agg #[.string f.p, .slice f.A f.b.length f.c]] w (BdB true w) := by
  have hcap : t.length ≤ maxLen := Nat.le_trans h.cap h.capm
  unfold maxLen at hcap
  have HK := Lib.hid (fun (W : World) (hb : Below w.heap.size w W) => bknown_any W (hm.below hb))
  have HMX := Lib.hid (fun (W : World) (hb : Below w.heap.size w W) => hm.below hb)
  obtain ⟨fp, fA, fc, fb⟩ := f
  have hpz := hf.p
  have hbz := hf.b
  have hby := hf.bytes
  simp only at hpz hbz hby
  unfold reachBytes at hpz hbz
  obtain ⟨nb, hnb⟩ : ∃ nb, fb.length = nb := ⟨_, rfl⟩
  obtain ⟨np, hnp⟩ : ∃ np, fp.size = np := ⟨_, rfl⟩
  show Calls Tryd.prog 8 #[.slice A t.length c, .agg #[.string fp, .slice fA fb.length fc]] w (BdB true w)
  rw [hnb] at hbz ⊢
  rw [hnp] at hpz
  obtain ⟨W1, hW1⟩ : ∃ W1, w.alloc (.cells #[.string fp, .slice fA nb fc] 49) = W1 := ⟨_, rfl⟩
  have hb1 : Below w.heap.size w W1 := by rw [← hW1]; exact (Below.refl _ _).alloc (Nat.le_refl _) _
  have hn1 : W1.heap[w.heap.size]? = some (.cells #[.string fp, .slice fA nb fc] 49 (0, 0)) := by rw [← hW1]; exact heap_alloc_new _ _
  have HN1 := Lib.hid hn1
  have HB1 := Lib.hid hb1
  have HW1 := Lib.hid hW1
  have HT1 := Lib.hid (h.below hb1)
  have HBY1 := Lib.hid (hby.below hb1)
  have hl1 := (Array.getElem?_eq_some_iff.1 hn1).1
  have CE := Lib.hid (fun (W : World) (hb : Below W1.heap.size W1 W) => show W.cell? ⟨w.heap.size, 0, none⟩ = some (.string fp) ∧ W.cell? ⟨w.heap.size, 1, none⟩ = some (.slice fA nb fc) from ⟨cell_of_row _ _ 0 _ _ _ ((hb.block _ hl1).trans hn1), cell_of_row _ _ 1 _ _ _ ((hb.block _ hl1).trans hn1)⟩)
  have HZ := Lib.hid hz
  have HNB := Lib.hid hnb
  have HNP := Lib.hid hnp
  obtain ⟨b0, b1⟩ := CE.out W1 (Below.refl _ _)
  clear hW1 hn1 hb1 h hf hby hm hz hnb hl1
  by_cases h30 : 30 < t.length
  · have g1 : (30 : Int) < (t.length : Int) := by omega
    go_enter Tryd.func8, Tryd.ntmps8
    go_wp2_with fail
    rw [HW1.out]
    refine (HK.out _ HB1.out).mono ?_
    rintro e y ⟨rfl, hb⟩
    go_wp2_with fail
    go_ret
    exact ⟨rfl, HB1.out.trans (hb.mono HB1.out.size)⟩
  · have g1 : ¬ (30 : Int) < (t.length : Int) := by omega
    have HL := reflong_any t A c W1 HT1.out (by omega) HZ.out
    obtain ⟨q, hq⟩ : ∃ q, longN t = q := ⟨_, rfl⟩
    rw [hq] at HL
    have HL := Lib.hid HL
    have HQ := Lib.hid hq
    clear hq
    obtain ⟨N, hN⟩ : ∃ N, t.length = N := ⟨_, rfl⟩
    rw [hN] at HL h30 g1 hcap ⊢
    have HN := Lib.hid hN
    clear hN
    by_cases h20 : 2000 < q
    · have g2 : (2000 : Int) < (q : Int) := by omega
      go_enter Tryd.func8, Tryd.ntmps8
      go_wp2_with fail
      rw [HW1.out]
      refine HL.out.mono ?_
      rintro e w2 ⟨rfl, hb2⟩
      have HB12 := Lib.hid hb2
      have HB2 := Lib.hid (HB1.out.trans (hb2.mono HB1.out.size))
      have hbb := CE.out w2 hb2
      clear hb2 b0 b1
      obtain ⟨b0, b1⟩ := hbb
      go_wp2_with fail
      refine (HK.out _ HB2.out).mono ?_
      rintro e y ⟨rfl, hb⟩
      go_wp2_with fail
      go_ret
      exact ⟨rfl, HB2.out.trans (hb.mono HB2.out.size)⟩
    · have g2 : ¬ (2000 : Int) < (q : Int) := by omega
      by_cases h300 : 300 < np + nb
      · have g3 : (300 : Int) < (np : Int) + (nb : Int) := by omega
        have hnp := HNP.out
        go_enter Tryd.func8, Tryd.ntmps8
        go_wp2_with fail
        rw [HW1.out]
        refine HL.out.mono ?_
        rintro e w2 ⟨rfl, hb2⟩
        have HB12 := Lib.hid hb2
        have HB2 := Lib.hid (HB1.out.trans (hb2.mono HB1.out.size))
        have hbb := CE.out w2 hb2
        clear hb2 b0 b1
        obtain ⟨b0, b1⟩ := hbb
        go_wp2_with fail
        refine (HK.out _ HB2.out).mono ?_
        rintro e y ⟨rfl, hb⟩
        go_wp2_with fail
        go_ret
        exact ⟨rfl, HB2.out.trans (hb.mono HB2.out.size)⟩
      · have g3 : ¬ (300 : Int) < (np : Int) + (nb : Int) := by omega
        have hnp := HNP.out
        by_cases hbd : 5 ≤ np ∧ (fp.extract (np - 5) np).toList = [66, 85, 73, 76, 68]
        · obtain ⟨h5, he⟩ := hbd
          have g5 : (5 : Int) ≤ (np : Int) := by omega
          have g6 : (0 : Int) ≤ (np : Int) - 5 := by omega
          have g7 : (np : Int) - 5 ≤ (np : Int) := by omega
          have g8 : ((np : Int) - 5).toNat = np - 5 := by omega
          have he2 : ((fp.extract (np - 5) np).toList == [66, 85, 73, 76, 68]) = true := by rw [he]; rfl
          go_enter Tryd.func8, Tryd.ntmps8
          go_wp2_with fail
          rw [HW1.out]
          refine HL.out.mono ?_
          rintro e w2 ⟨rfl, hb2⟩
          have HB12 := Lib.hid hb2
          have HB2 := Lib.hid (HB1.out.trans (hb2.mono HB1.out.size))
          have hbb := CE.out w2 hb2
          clear hb2 b0 b1
          obtain ⟨b0, b1⟩ := hbb
          go_wp2_with fail
          refine (HK.out _ HB2.out).mono ?_
          rintro e y ⟨rfl, hb⟩
          go_wp2_with fail
          go_ret
          exact ⟨rfl, HB2.out.trans (hb.mono HB2.out.size)⟩
        · have hall : allT (flsX (putX t ⟨fp, fA, fc, fb⟩)) = allT (flsX t) := by
            rw [putX_fls]
            refine allT_other _ _ fun q e => hbd ?_
            have := end_of fp q e
            rw [hnp] at this
            exact this
          have HALL := Lib.hid hall
          by_cases h5 : 5 ≤ np
          · have g5 : (5 : Int) ≤ (np : Int) := by omega
            have g6 : (0 : Int) ≤ (np : Int) - 5 := by omega
            have g7 : (np : Int) - 5 ≤ (np : Int) := by omega
            have g8 : ((np : Int) - 5).toNat = np - 5 := by omega
            have he2 : ((fp.extract (np - 5) np).toList == [66, 85, 73, 76, 68]) = false := by rw [beq_eq_false_iff_ne]; exact fun e => hbd ⟨h5, e⟩
            clear hbd hall
            go_enter Tryd.func8, Tryd.ntmps8
            go_wp2_with fail
            rw [HW1.out]
            refine HL.out.mono ?_
            rintro e w2 ⟨rfl, hb2⟩
            have HB12 := Lib.hid hb2
            have HB2 := Lib.hid (HB1.out.trans (hb2.mono HB1.out.size))
            have hbb := CE.out w2 hb2
            clear hb2 b0 b1
            obtain ⟨b0, b1⟩ := hbb
            go_wp2_with fail
            have hsm : ∀ f ∈ t, f.p.size ≤ 4000 ∧ f.b.length ≤ 4000 := long_small (by rw [HQ.out]; omega)
            have HSM := Lib.hid hsm
            have hqz : nb ≤ 300 ∧ np ≤ 300 := by omega
            have HA1 := ball_any A c t w2 (HT1.out.below HB12.out) (by rw [HN.out]; omega) hsm (HMX.out w2 HB2.out)
            obtain ⟨PP, hPP⟩ : ∃ PP, allT (flsX t) = PP := ⟨_, rfl⟩
            rw [hPP, HN.out] at HA1
            have HPP := Lib.hid hPP
            obtain ⟨PE, PL⟩ := PP
            have HA1 := Lib.hid HA1
            have sp : (PE == PE) = true := beq_self_eq_true _
            clear hPP hsm
            try go_wp2_with fail
            refine HA1.out.mono ?_
            rintro e w3 ⟨A3, c3, l3, rfl, hat3, hl3, hb3⟩
            have HB3 := Lib.hid (HB2.out.trans (hb3.mono HB2.out.size))
            have HB13 := Lib.hid (HB12.out.trans (hb3.mono HB12.out.size))
            have HAT3 := Lib.hid hat3
            have HL3 := Lib.hid (show tgsX l3 = PL from hl3)
            obtain ⟨n3, hn3⟩ : ∃ n3, l3.length = n3 := ⟨_, rfl⟩
            rw [hn3]
            have HN3 := Lib.hid hn3
            have hcc := CE.out w3 HB13.out
            have HPT := refput_any t A c ⟨fp, fA, fc, fb⟩ w3 (HT1.out.below HB13.out) (by rw [HN.out]; omega)
            rw [HN.out] at HPT
            have hfv : (Value.slice fA fb.length fc) = .slice fA nb fc := by rw [HNB.out]
            simp only [hfv] at HPT
            have HPT := Lib.hid HPT
            clear hb3 hat3 hl3 hn3 HA1 b0 b1 hfv
            obtain ⟨b0, b1⟩ := hcc
            go_wp2_with fail
            refine HPT.out.mono ?_
            rintro e w4 ⟨v4, rfl, hown4, hb4⟩
            obtain ⟨A4, c4, rfl, hat4⟩ := tree_own hown4 (fun x hx => by
              rcases putX_sub x hx with rfl | hx
              · exact (HBY1.out.below (HB13.out.trans (hb4.mono HB13.out.size)))
              · exact (HT1.out.below (HB13.out.trans (hb4.mono HB13.out.size))).files x hx)
            have HB4 := Lib.hid (HB3.out.trans (hb4.mono HB3.out.size))
            have HAT34 := Lib.hid (HAT3.out.below hb4)
            have hlen4 := putX_le t (⟨fp, fA, fc, fb⟩ : FX)
            have hsm4 : ∀ g ∈ putX t ⟨fp, fA, fc, fb⟩, g.p.size ≤ 4000 ∧ g.b.length ≤ 4000 := fun g hg => by
              rcases putX_sub g hg with rfl | hg
              · exact ⟨by show fp.size ≤ _; rw [HNP.out]; omega, by show fb.length ≤ _; rw [HNB.out]; omega⟩
              · exact HSM.out g hg
            have HA2 := ball_any A4 c4 (putX t ⟨fp, fA, fc, fb⟩) w4 hat4 (by rw [HN.out] at hlen4; omega) hsm4 (HMX.out w4 HB4.out)
            rw [HALL.out, HPP.out] at HA2
            have HA2 := Lib.hid HA2
            clear hb4 hown4 hat4 hlen4 hsm4 HPT b0 b1
            go_wp2_with fail
            refine HA2.out.mono ?_
            rintro e w5 ⟨A5, c5, l5, rfl, hat5, hl5, hb5⟩
            have HB5 := Lib.hid (HB4.out.trans (hb5.mono HB4.out.size))
            have HS := brefsame_any A3 A5 c3 c5 l3 l5 w5 (HAT34.out.below hb5) hat5 (tgs_smallA (fls_small HSM.out) (by rw [HL3.out, HPP.out])) (tgs_smallA (fls_small HSM.out) (by rw [show tgsX l5 = PL from hl5, HPP.out]))
            rw [show decide (tgsX l3 = tgsX l5) = true from by rw [HL3.out, show tgsX l5 = PL from hl5]; simp, HN3.out] at HS
            have HS := Lib.hid HS
            clear hat5 hl5 hb5 HA2
            go_wp2_with fail
            refine HS.out.mono ?_
            rintro e w6 ⟨rfl, hb6⟩
            have HB6 := Lib.hid (HB5.out.trans (hb6.mono HB5.out.size))
            clear hb6 HS
            go_wp2_with fail
            refine (HK.out w6 HB6.out).mono ?_
            rintro e w7 ⟨rfl, hb7⟩
            have HB7 := Lib.hid (HB6.out.trans (hb7.mono HB6.out.size))
            clear hb7
            go_wp2_with fail
            go_ret
            exact ⟨rfl, HB7.out⟩
          · have g5 : ¬ (5 : Int) ≤ (np : Int) := by omega
            clear hbd hall
            go_enter Tryd.func8, Tryd.ntmps8
            go_wp2_with fail
            rw [HW1.out]
            refine HL.out.mono ?_
            rintro e w2 ⟨rfl, hb2⟩
            have HB12 := Lib.hid hb2
            have HB2 := Lib.hid (HB1.out.trans (hb2.mono HB1.out.size))
            have hbb := CE.out w2 hb2
            clear hb2 b0 b1
            obtain ⟨b0, b1⟩ := hbb
            go_wp2_with fail
            have hsm : ∀ f ∈ t, f.p.size ≤ 4000 ∧ f.b.length ≤ 4000 := long_small (by rw [HQ.out]; omega)
            have HSM := Lib.hid hsm
            have hqz : nb ≤ 300 ∧ np ≤ 300 := by omega
            have HA1 := ball_any A c t w2 (HT1.out.below HB12.out) (by rw [HN.out]; omega) hsm (HMX.out w2 HB2.out)
            obtain ⟨PP, hPP⟩ : ∃ PP, allT (flsX t) = PP := ⟨_, rfl⟩
            rw [hPP, HN.out] at HA1
            have HPP := Lib.hid hPP
            obtain ⟨PE, PL⟩ := PP
            have HA1 := Lib.hid HA1
            have sp : (PE == PE) = true := beq_self_eq_true _
            clear hPP hsm
            try go_wp2_with fail
            refine HA1.out.mono ?_
            rintro e w3 ⟨A3, c3, l3, rfl, hat3, hl3, hb3⟩
            have HB3 := Lib.hid (HB2.out.trans (hb3.mono HB2.out.size))
            have HB13 := Lib.hid (HB12.out.trans (hb3.mono HB12.out.size))
            have HAT3 := Lib.hid hat3
            have HL3 := Lib.hid (show tgsX l3 = PL from hl3)
            obtain ⟨n3, hn3⟩ : ∃ n3, l3.length = n3 := ⟨_, rfl⟩
            rw [hn3]
            have HN3 := Lib.hid hn3
            have hcc := CE.out w3 HB13.out
            have HPT := refput_any t A c ⟨fp, fA, fc, fb⟩ w3 (HT1.out.below HB13.out) (by rw [HN.out]; omega)
            rw [HN.out] at HPT
            have hfv : (Value.slice fA fb.length fc) = .slice fA nb fc := by rw [HNB.out]
            simp only [hfv] at HPT
            have HPT := Lib.hid HPT
            clear hb3 hat3 hl3 hn3 HA1 b0 b1 hfv
            obtain ⟨b0, b1⟩ := hcc
            go_wp2_with fail
            refine HPT.out.mono ?_
            rintro e w4 ⟨v4, rfl, hown4, hb4⟩
            obtain ⟨A4, c4, rfl, hat4⟩ := tree_own hown4 (fun x hx => by
              rcases putX_sub x hx with rfl | hx
              · exact (HBY1.out.below (HB13.out.trans (hb4.mono HB13.out.size)))
              · exact (HT1.out.below (HB13.out.trans (hb4.mono HB13.out.size))).files x hx)
            have HB4 := Lib.hid (HB3.out.trans (hb4.mono HB3.out.size))
            have HAT34 := Lib.hid (HAT3.out.below hb4)
            have hlen4 := putX_le t (⟨fp, fA, fc, fb⟩ : FX)
            have hsm4 : ∀ g ∈ putX t ⟨fp, fA, fc, fb⟩, g.p.size ≤ 4000 ∧ g.b.length ≤ 4000 := fun g hg => by
              rcases putX_sub g hg with rfl | hg
              · exact ⟨by show fp.size ≤ _; rw [HNP.out]; omega, by show fb.length ≤ _; rw [HNB.out]; omega⟩
              · exact HSM.out g hg
            have HA2 := ball_any A4 c4 (putX t ⟨fp, fA, fc, fb⟩) w4 hat4 (by rw [HN.out] at hlen4; omega) hsm4 (HMX.out w4 HB4.out)
            rw [HALL.out, HPP.out] at HA2
            have HA2 := Lib.hid HA2
            clear hb4 hown4 hat4 hlen4 hsm4 HPT b0 b1
            go_wp2_with fail
            refine HA2.out.mono ?_
            rintro e w5 ⟨A5, c5, l5, rfl, hat5, hl5, hb5⟩
            have HB5 := Lib.hid (HB4.out.trans (hb5.mono HB4.out.size))
            have HS := brefsame_any A3 A5 c3 c5 l3 l5 w5 (HAT34.out.below hb5) hat5 (tgs_smallA (fls_small HSM.out) (by rw [HL3.out, HPP.out])) (tgs_smallA (fls_small HSM.out) (by rw [show tgsX l5 = PL from hl5, HPP.out]))
            rw [show decide (tgsX l3 = tgsX l5) = true from by rw [HL3.out, show tgsX l5 = PL from hl5]; simp, HN3.out] at HS
            have HS := Lib.hid HS
            clear hat5 hl5 hb5 HA2
            go_wp2_with fail
            refine HS.out.mono ?_
            rintro e w6 ⟨rfl, hb6⟩
            have HB6 := Lib.hid (HB5.out.trans (hb6.mono HB5.out.size))
            clear hb6 HS
            go_wp2_with fail
            refine (HK.out w6 HB6.out).mono ?_
            rintro e w7 ⟨rfl, hb7⟩
            have HB7 := Lib.hid (HB6.out.trans (hb7.mono HB6.out.size))
            clear hb7
            go_wp2_with fail
            go_ret
            exact ⟨rfl, HB7.out⟩
end Go.Proofs.YtlampcelmlejbaaDoor
