/-
  The law GraphTells, walked.
-/
import Derived.Test.YteigepblocbnlaaGpTells
import Derived.BigQuiet
namespace Go.Proofs.Yteigepblocbnlaa.Gp
open Go Go.RowKit Go.Shelf Go.Proofs
attribute [local go_sem] Oper.semAt_some

set_option maxRecDepth 100000 in
set_option maxHeartbeats 16000000 in
theorem graphtells_any (n f : Int) (A : Option Addr) (c : Nat) (l : List EI) (w : World) (hl : EdgesAt w A l) :
    Calls Try.prog 3 #[.int .i64 n, .int .i64 f, .slice A l.length c] w fun e w' => e = .returned (.bool true) ∧ Below w.heap.size w w' := by
  have HS := Lib.hid (small_any n A l.length c w)
  cases hs : smallB n l.length with
  | false =>
    rw [hs] at HS
    clear hs
    go_enter Try.func3, Try.ntmps3
    go_wp2_with fail
    refine HS.out.mono ?_
    rintro e w1 ⟨rfl, hw1⟩
    have hw1 := hw1.symm; subst hw1
    go_wp2_with fail
    refine (known_any _).mono ?_
    rintro e w2 ⟨rfl, hb2⟩
    go_wp2_with fail
    go_ret
    exact ⟨rfl, hb2⟩
  | true =>
    rw [hs] at HS
    have hs2 := hs
    unfold smallB at hs2
    simp only [Bool.and_eq_true, decide_eq_true_eq] at hs2
    have hm : l.length ≤ 100000 := by omega
    have HL := Lib.hid hl
    obtain ⟨Lc, hLc, hc1, hc2⟩ := tells_reach n f A c l hm
    obtain ⟨Lr, Ld, hLr, hLd, hr1, hr2, hd1, hd2⟩ := tells_ok n A c l hm
    have HR1 := Lib.hid (fun (w' : World) (h : EdgesAt w' A l) => right_any n A c l w' h (by omega))
    have HR2 := Lib.hid (fun (w' : World) (h : EdgesAt w' A l) => refright_any n A c l w' h (by omega))
    obtain ⟨rb, hrb⟩ : ∃ rb, rightB n l = rb := ⟨_, rfl⟩
    rw [hrb] at HR1 HR2
    have HC1 := Lib.hid hc1
    have HC2 := Lib.hid hc2
    have HG1 := Lib.hid hr1
    have HG2 := Lib.hid hr2
    have HD1 := Lib.hid hd1
    have HD2 := Lib.hid hd2
    have HLR := Lib.hid hLr
    have HLD := Lib.hid hLd
    obtain ⟨M, hM⟩ : ∃ M, l.length = M := ⟨_, rfl⟩
    rw [hM] at HS HC1 HC2 HG1 HG2 HD1 HD2 HR1 HR2 ⊢
    obtain ⟨K, hK⟩ : ∃ K, Lc.length = K := ⟨_, rfl⟩
    have HK := Lib.hid hK
    rw [hK] at hLc
    clear hs hs2 hm hl hc1 hc2 hr1 hr2 hd1 hd2 hLr hLd hrb hM hK
    go_enter Try.func3, Try.ntmps3
    go_wp2_with fail
    refine HS.out.mono ?_
    rintro e w1 ⟨rfl, hw1⟩
    have hw1 := hw1.symm; subst hw1
    go_wp2_with fail
    refine (HC1.out _ HL.out).mono ?_
    rintro e w2 ⟨A2, c2, rfl, hB2, hb2⟩
    have HH2 := Lib.hid (HL.out.below hb2)
    have HB2 := Lib.hid hb2
    have HV2 := Lib.hid hB2
    rw [HK.out]
    clear hB2 hb2
    go_wp2_with fail
    refine (HC2.out _ HH2.out).mono ?_
    rintro e w3 ⟨A3, c3, rfl, hB3, hb3⟩
    have HH3 := Lib.hid (HH2.out.below hb3)
    have HB3 := Lib.hid (HB2.out.trans (hb3.mono HB2.out.size))
    have HV3 := Lib.hid (HV2.out.below hb3)
    have HW3 := Lib.hid hB3
    rw [HK.out]
    clear hB3 hb3
    go_wp2_with fail
    go_loopw [9] (fun y wr => ∃ (k : Nat), k ≤ K ∧ y = .int .i64 k ∧ Hid (Below w3.heap.size w3 wr)) (fun y _ => K - (intOf y).toNat)
    case atStart => exact ⟨0, Nat.zero_le _, rfl, Below.refl _ _⟩
    case round =>
      obtain ⟨k, hk, rfl, HB⟩ := hrel
      by_cases h1 : k < K
      · obtain ⟨b, hb⟩ : ∃ b, Lc[k]? = some b := ⟨_, List.getElem?_eq_getElem (by have := HK.out; omega)⟩
        obtain ⟨g2, rfl, hc2⟩ := (HV3.out.below HB.out) (by have := HK.out; omega)
        obtain ⟨g3, rfl, hc3⟩ := (HW3.out.below HB.out) (by have := HK.out; omega)
        have d2 := hc2 k b hb
        have d3 := hc3 k b hb
        have q1 : (k : Int) < (K : Int) := by omega
        have wk : IntKind.i64.wrap (k : Int) = (k : Int) := IntWalk.i64_in _ (by omega)
        have wk1 : IntKind.i64.wrap ((k : Int) + 1) = (k : Int) + 1 := IntWalk.i64_in _ (by omega)
        clear hc2 hc3 hb
        go_wp2_with fail
        go_quiet (fail)
        go_wp2_with fail
        go_roundw
        case rel => exact ⟨k + 1, by omega, by go_num, belowQ HB.out _⟩
        case measure => simp [intOf]; omega
      · obtain rfl : k = K := by omega
        have HBW := Lib.hid (HB3.out.trans (HB.out.mono HB3.out.size))
        have HH := Lib.hid (HH3.out.below HB.out)
        go_wp2_with fail
        refine (HR1.out _ HH.out).mono ?_
        rintro e w5 ⟨rfl, hb5⟩
        have HH5 := Lib.hid (HH.out.below hb5)
        have HB5 := Lib.hid (HBW.out.trans (hb5.mono HBW.out.size))
        clear hb5
        go_wp2_with fail
        refine (HR2.out _ HH5.out).mono ?_
        rintro e w6 ⟨rfl, hw6⟩
        have hw6 := hw6.symm; subst hw6
        go_wp2_with fail
        refine (HG1.out _ HH5.out).mono ?_
        rintro e w7 ⟨A7, c7, rfl, hI7, hb7⟩
        have HH7 := Lib.hid (HH5.out.below hb7)
        have HB7 := Lib.hid (HB5.out.trans (hb7.mono HB5.out.size))
        have HI7 := Lib.hid hI7
        clear hb7 hI7
        go_wp2_with fail
        refine (HG2.out _ HH7.out).mono ?_
        rintro e w8 ⟨A8, c8, rfl, hI8, hb8⟩
        have HH8 := Lib.hid (HH7.out.below hb8)
        have HB8 := Lib.hid (HB7.out.trans (hb8.mono HB7.out.size))
        have hsm := sameints_any Lr Lr A7 A8 c7 c8 w8 (HI7.out.below hb8) hI8 (by have := HLR.out; omega) (by have := HLR.out; omega)
        rw [decide_eq_true rfl] at hsm
        have HSM := Lib.hid hsm
        clear hb8 hI8 hsm
        go_wp2_with fail
        refine HSM.out.mono ?_
        rintro e w9 ⟨rfl, hb9⟩
        have HH9 := Lib.hid (HH8.out.below hb9)
        have HB9 := Lib.hid (HB8.out.trans (hb9.mono HB8.out.size))
        clear hb9
        go_wp2_with fail
        refine (HD1.out _ HH9.out).mono ?_
        rintro e w10 ⟨A10, c10, rfl, hI10, hb10⟩
        have HH10 := Lib.hid (HH9.out.below hb10)
        have HB10 := Lib.hid (HB9.out.trans (hb10.mono HB9.out.size))
        have HI10 := Lib.hid hI10
        clear hb10 hI10
        go_wp2_with fail
        refine (HD2.out _ HH10.out).mono ?_
        rintro e w11 ⟨A11, c11, rfl, hI11, hb11⟩
        have HB11 := Lib.hid (HB10.out.trans (hb11.mono HB10.out.size))
        have hsm := sameints_any Ld Ld A10 A11 c10 c11 w11 (HI10.out.below hb11) hI11 (by have := HLD.out; omega) (by have := HLD.out; omega)
        rw [decide_eq_true rfl] at hsm
        have HSM2 := Lib.hid hsm
        clear hb11 hI11 hsm
        go_wp2_with fail
        refine HSM2.out.mono ?_
        rintro e w12 ⟨rfl, hb12⟩
        have HB12 := Lib.hid (HB11.out.trans (hb12.mono HB11.out.size))
        clear hb12
        go_wp2_with fail
        refine (known_any _).mono ?_
        rintro e w13 ⟨rfl, hb13⟩
        go_wp2_with fail
        go_ret
        exact ⟨rfl, HB12.out.trans (hb13.mono HB12.out.size)⟩
end Go.Proofs.Yteigepblocbnlaa.Gp
