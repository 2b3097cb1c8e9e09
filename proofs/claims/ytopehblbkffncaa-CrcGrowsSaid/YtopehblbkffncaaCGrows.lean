/-
  The law CrcGrows, walked.
-/
import Derived.Test.YtopehblbkffncaaCPieces
namespace Go.Proofs.Ytopehblbkffncaa
open Go Go.RowKit Go.Shelf Go.Proofs

set_option maxHeartbeats 8000000 in
theorem cgrows_any (hM : MoreOk) (hS : SumOk) (hT : StepOk) (a b c : BX) (m n : Nat) (hm : m < 2 ^ 32) (hn : n < 2 ^ 32) (w : World) (ha : BOk w a) (hb : BOk w b) (hc : BOk w c) :
    Calls Try.prog 7 #[.slice a.A a.b.length a.c, .slice b.A b.b.length b.c, .slice c.A c.b.length c.c, .int .u32 (m : Int), .int .u32 (n : Int)] w fun e w' => e = .returned (.bool true) ∧ Below w.heap.size w w' := by
  have la := ha.reach
  have lb := hb.reach
  have lc := hc.reach
  unfold reachBytes at la lb lc
  have s1 : IntKind.i64.wrap ((a.b.length : Int) + (b.b.length : Int)) = (a.b.length : Int) + (b.b.length : Int) := IntWalk.i64_in _ (by omega)
  have s2 : IntKind.i64.wrap ((a.b.length : Int) + (b.b.length : Int) + (c.b.length : Int)) = (a.b.length : Int) + (b.b.length : Int) + (c.b.length : Int) := IntWalk.i64_in _ (by omega)
  have HKN := Lib.hid (fun (W : World) => ckown_any hS hT W)
  have SA := Lib.hid (fun (W : World) (h : Below w.heap.size w W) => sum1_at hS (ha.below h))
  have SB := Lib.hid (fun (W : World) (h : Below w.heap.size w W) => sum1_at hS (hb.below h))
  have SAC := Lib.hid (fun (W : World) (h : Below w.heap.size w W) => sum2_at hS (ha.below h) (hc.below h))
  have SBC := Lib.hid (fun (W : World) (h : Below w.heap.size w W) => sum2_at hS (hb.below h) (hc.below h))
  have PL : moreN 0 a.b < 2 ^ 32 := more_lt _ (by decide)
  have QL : moreN 0 b.b < 2 ^ 32 := more_lt _ (by decide)
  have MC := Lib.hid (fun (W : World) (h : Below w.heap.size w W) => hM (moreN 0 a.b) PL c.b c.A c.c W (hc.bytes.below h) (by omega))
  have T1 := Lib.hid (fun (W : World) => hT (m ^^^ n) (xor_lt32 hm hn) W)
  have T2 := Lib.hid (fun (W : World) => hT m hm W)
  have T3 := Lib.hid (fun (W : World) => hT n hn W)
  have xmn := xor32 hm hn
  have xst : bits .xor .u32 ((halfN m : Nat) : Int) ((halfN n : Nat) : Int) = ((halfN (m ^^^ n) : Nat) : Int) := by rw [step_xor]; exact xor32 (step_lt hm) (step_lt hn)
  have hxy : ((moreN (moreN 0 a.b) c.b : Int) == (moreN (moreN 0 b.b) c.b : Int)) = ((moreN 0 a.b : Int) == (moreN 0 b.b : Int)) := by
    rw [Bool.eq_iff_iff, beq_iff_eq, beq_iff_eq]
    constructor
    · intro h
      have : moreN (moreN 0 a.b) c.b = moreN (moreN 0 b.b) c.b := by omega
      rw [more_inj PL QL this]
    · intro h
      have : moreN 0 a.b = moreN 0 b.b := by omega
      rw [this]
  generalize moreN (moreN 0 a.b) c.b = X at *
  generalize moreN (moreN 0 b.b) c.b = Y at *
  generalize moreN 0 a.b = P at *
  generalize moreN 0 b.b = Q at *
  generalize halfN (m ^^^ n) = K1 at *
  generalize halfN m = K2 at *
  generalize halfN n = K3 at *
  generalize m ^^^ n = MN at *
  clear PL QL ha hb hc hM hS hT hm hn
  go_enter Try.func7, Try.ntmps7
  by_cases hz : 900 < a.b.length + b.b.length + c.b.length
  · have hz2 : (900 : Int) < (a.b.length : Int) + (b.b.length : Int) + (c.b.length : Int) := by omega
    go_wp2_with fail
    refine (HKN.out w).mono ?_
    rintro e wz ⟨rfl, hz⟩
    have HZ := Lib.hid hz; clear hz
    go_wp2_with fail
    go_ret
    exact ⟨rfl, HZ.out⟩
  · have hz2 : ¬ (900 : Int) < (a.b.length : Int) + (b.b.length : Int) + (c.b.length : Int) := by omega
    go_wp2_with fail
    refine (SAC.out w (Below.refl _ _)).mono ?_
    rintro e w1 ⟨rfl, hb1⟩
    clear hz hz2 s1 s2
    go_wp2_with fail
    refine (SBC.out w1 hb1).mono ?_
    rintro e w2 ⟨rfl, hq2⟩
    have hb2 := hb1.trans (hq2.mono hb1.size)
    go_wp2_with fail
    refine (SA.out w2 hb2).mono ?_
    rintro e w3 ⟨rfl, hq3⟩
    have hb3 := hb2.trans (hq3.mono hb2.size)
    go_wp2_with fail
    refine (SB.out w3 hb3).mono ?_
    rintro e w4 ⟨rfl, hq4⟩
    have hb4 := hb3.trans (hq4.mono hb3.size)
    clear hq2 hq3 hq4 hb1 hb2 hb3
    cases hr : ((P : Int) == (Q : Int)) with
    | true =>
      rw [hr] at hxy
      cases hl : ((a.b.length : Int) == (b.b.length : Int)) with
      | true =>
        go_wp2_with fail
        refine (SA.out w4 hb4).mono ?_
        rintro e w5 ⟨rfl, hq5⟩
        have hb5 := hb4.trans (hq5.mono hb4.size)
        go_wp2_with fail
        refine (SB.out w5 hb5).mono ?_
        rintro e w6 ⟨rfl, hq6⟩
        have hb6 := hb5.trans (hq6.mono hb5.size)
        clear hq5 hq6 hb5
        go_wp2_with fail
        refine (T1.out w6).mono ?_
        rintro e wa ⟨rfl, hqa⟩
        have hba := hb6.trans (hqa.mono hb6.size)
        go_wp2_with fail
        refine (T2.out wa).mono ?_
        rintro e wb ⟨rfl, hqb⟩
        have hbb := hba.trans (hqb.mono hba.size)
        go_wp2_with fail
        refine (T3.out wb).mono ?_
        rintro e wc ⟨rfl, hqc⟩
        have hbc := hbb.trans (hqc.mono hbb.size)
        clear hqa hqb hqc hba hbb
        go_wp2_with fail
        refine (SA.out wc hbc).mono ?_
        rintro e wd ⟨rfl, hqd⟩
        have hbd := hbc.trans (hqd.mono hbc.size)
        go_wp2_with fail
        refine (MC.out wd hbd).mono ?_
        rintro e we ⟨rfl, hqe⟩
        have hbe := hbd.trans (hqe.mono hbd.size)
        go_wp2_with fail
        refine (HKN.out we).mono ?_
        rintro e wz ⟨rfl, hz⟩
        have HZ := Lib.hid (hbe.trans (hz.mono hbe.size)); clear hz
        go_wp2_with fail
        go_ret
        exact ⟨rfl, HZ.out⟩
      | false =>
        go_wp2_with fail
        refine (T1.out w4).mono ?_
        rintro e wa ⟨rfl, hqa⟩
        have hba := hb4.trans (hqa.mono hb4.size)
        go_wp2_with fail
        refine (T2.out wa).mono ?_
        rintro e wb ⟨rfl, hqb⟩
        have hbb := hba.trans (hqb.mono hba.size)
        go_wp2_with fail
        refine (T3.out wb).mono ?_
        rintro e wc ⟨rfl, hqc⟩
        have hbc := hbb.trans (hqc.mono hbb.size)
        clear hqa hqb hqc hba hbb
        go_wp2_with fail
        refine (SA.out wc hbc).mono ?_
        rintro e wd ⟨rfl, hqd⟩
        have hbd := hbc.trans (hqd.mono hbc.size)
        go_wp2_with fail
        refine (MC.out wd hbd).mono ?_
        rintro e we ⟨rfl, hqe⟩
        have hbe := hbd.trans (hqe.mono hbd.size)
        go_wp2_with fail
        refine (HKN.out we).mono ?_
        rintro e wz ⟨rfl, hz⟩
        have HZ := Lib.hid (hbe.trans (hz.mono hbe.size)); clear hz
        go_wp2_with fail
        go_ret
        exact ⟨rfl, HZ.out⟩
    | false =>
      rw [hr] at hxy
      cases hl : ((a.b.length : Int) == (b.b.length : Int)) with
      | true =>
        go_wp2_with fail
        refine (SA.out w4 hb4).mono ?_
        rintro e w5 ⟨rfl, hq5⟩
        have hb5 := hb4.trans (hq5.mono hb4.size)
        go_wp2_with fail
        refine (SB.out w5 hb5).mono ?_
        rintro e w6 ⟨rfl, hq6⟩
        have hb6 := hb5.trans (hq6.mono hb5.size)
        clear hq5 hq6 hb5
        go_wp2_with fail
        refine (T1.out w6).mono ?_
        rintro e wa ⟨rfl, hqa⟩
        have hba := hb6.trans (hqa.mono hb6.size)
        go_wp2_with fail
        refine (T2.out wa).mono ?_
        rintro e wb ⟨rfl, hqb⟩
        have hbb := hba.trans (hqb.mono hba.size)
        go_wp2_with fail
        refine (T3.out wb).mono ?_
        rintro e wc ⟨rfl, hqc⟩
        have hbc := hbb.trans (hqc.mono hbb.size)
        clear hqa hqb hqc hba hbb
        go_wp2_with fail
        refine (SA.out wc hbc).mono ?_
        rintro e wd ⟨rfl, hqd⟩
        have hbd := hbc.trans (hqd.mono hbc.size)
        go_wp2_with fail
        refine (MC.out wd hbd).mono ?_
        rintro e we ⟨rfl, hqe⟩
        have hbe := hbd.trans (hqe.mono hbd.size)
        go_wp2_with fail
        refine (HKN.out we).mono ?_
        rintro e wz ⟨rfl, hz⟩
        have HZ := Lib.hid (hbe.trans (hz.mono hbe.size)); clear hz
        go_wp2_with fail
        go_ret
        exact ⟨rfl, HZ.out⟩
      | false =>
        go_wp2_with fail
        refine (T1.out w4).mono ?_
        rintro e wa ⟨rfl, hqa⟩
        have hba := hb4.trans (hqa.mono hb4.size)
        go_wp2_with fail
        refine (T2.out wa).mono ?_
        rintro e wb ⟨rfl, hqb⟩
        have hbb := hba.trans (hqb.mono hba.size)
        go_wp2_with fail
        refine (T3.out wb).mono ?_
        rintro e wc ⟨rfl, hqc⟩
        have hbc := hbb.trans (hqc.mono hbb.size)
        clear hqa hqb hqc hba hbb
        go_wp2_with fail
        refine (SA.out wc hbc).mono ?_
        rintro e wd ⟨rfl, hqd⟩
        have hbd := hbc.trans (hqd.mono hbc.size)
        go_wp2_with fail
        refine (MC.out wd hbd).mono ?_
        rintro e we ⟨rfl, hqe⟩
        have hbe := hbd.trans (hqe.mono hbd.size)
        go_wp2_with fail
        refine (HKN.out we).mono ?_
        rintro e wz ⟨rfl, hz⟩
        have HZ := Lib.hid (hbe.trans (hz.mono hbe.size)); clear hz
        go_wp2_with fail
        go_ret
        exact ⟨rfl, HZ.out⟩
end Go.Proofs.Ytopehblbkffncaa
