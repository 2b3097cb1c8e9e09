/-
  The law DiskLasts, walked.
-/
import Derived.Test.YtjobohhbkcjhnaaDkSide
namespace Go.Proofs.Ytjobohhbkcjhnaa
open Go Go.RowKit Go.Shelf Go.Proofs

/-- Two areas, the second of which has lasting bytes and pending ones. -/
def dL (S Q : Bs) : DDk := ⟨[⟨[], []⟩, ⟨S, Q.map .byte⟩], 5000, none, false⟩
theorem dL_new : DDk.new 2 5000 = dL [] [] := rfl
theorem dL_used (S Q : Bs) : (dL S Q).used = S.length + Q.length := by
  show usedL [⟨[], []⟩, ⟨S, Q.map .byte⟩] = _
  unfold usedL DAr.now
  simp [runS_bytes, runS_nil]
theorem dL_append (S Q b : Bs) (h : S.length + Q.length + b.length ≤ 5000) : appendE (dL S Q) 1 b = 0 ∧ appendD (dL S Q) 1 b = dL S (Q ++ b) := by
  obtain ⟨h1, h2⟩ := calm_append (d := dL S Q) ⟨rfl, rfl⟩ (i := 1) (by show 1 < 2; omega) (b := b) (by rw [dL_used]; show _ ≤ 5000; omega)
  refine ⟨h1, h2.trans ?_⟩
  unfold DDk.add addAt dL
  simp [List.map_append]
theorem dL_sync (S Q : Bs) : syncE (dL S Q) 1 = 0 ∧ syncD (dL S Q) 1 = dL (S ++ Q) [] := by
  obtain ⟨h1, h2⟩ := calm_sync (d := dL S Q) ⟨rfl, rfl⟩ (i := 1) (by show 1 < 2; omega)
  refine ⟨h1, h2.trans ?_⟩
  unfold DDk.settle dL DAr.now
  simp [runS_bytes]
theorem dL_restart (S Q : Bs) (k : Int) : (dL S Q).restart k = dL (S ++ Q.take k.toNat) [] := by
  unfold DDk.restart dL keepA
  simp [← List.map_take, runS_bytes, runS_nil]
theorem dL_read (S Q : Bs) : (dL S Q).readL 1 = S ++ Q ∧ (dL S Q).lastL 1 = S ∧ (dL S Q).readL 0 = [] := by
  refine ⟨?_, ?_, ?_⟩
  · exact (readL_at (d := dL S Q) (i := 1) rfl).trans (runS_bytes S Q)
  · exact lastL_at (d := dL S Q) (i := 1) rfl
  · exact readL_at (d := dL S Q) (i := 0) rfl
theorem cut_keep (S Q : Bs) (k : Int) : (S ++ Q).take (S.length + (min k.toNat Q.length)) = S ++ Q.take k.toNat := by
  rw [List.take_length_add_append]
  congr 1
  by_cases h : k.toNat ≤ Q.length
  · rw [Nat.min_eq_left h]
  · rw [Nat.min_eq_right (by omega), List.take_length, List.take_of_length_le (by omega)]

set_option maxRecDepth 100000 in
set_option maxHeartbeats 16000000 in
theorem disklasts_any (A0 A1 : Option Addr) (c0 c1 : Nat) (l0 l1 : List BX) (keep : Int) (w : World) (h0 : BRowAt w A0 c0 l0) (h1 : BRowAt w A1 c1 l1) (n0 : ∀ x ∈ l0, x.A = none → x.c = 0) (n1 : ∀ x ∈ l1, x.A = none → x.c = 0) (b0 : l0.length ≤ 281474976710656) (b1 : l1.length ≤ 281474976710656) (hk : keep ≤ 9223372036854775807) (hk0 : -9223372036854775808 ≤ keep) :
    Calls Try.prog 4 #[.slice A0 l0.length c0, .slice A1 l1.length c1, .int .i64 keep] w fun e w' => e = .returned (.bool true) ∧ Below w.heap.size w w' := by
  have R0 := Lib.hid (fun (W : World) (hW : Below w.heap.size w W) (i : Nat) (hi : i < l0.length) => show ∃ g o x, A0 = some ⟨g, o, none⟩ ∧ l0[i]? = some x ∧ W.cell? ⟨g, o + i, none⟩ = some (.slice x.A x.b.length x.c) ∧ SlAt w x.A x.c x.b from by
    obtain ⟨x, hx⟩ : ∃ x, l0[i]? = some x := ⟨_, List.getElem?_eq_getElem hi⟩
    obtain ⟨g, o, e, hc⟩ := (h0.below hW).at_ hx
    exact ⟨g, o, x, e, hx, hc, h0.sl n0 (List.mem_of_getElem? hx)⟩)
  have R1 := Lib.hid (fun (W : World) (hW : Below w.heap.size w W) (i : Nat) (hi : i < l1.length) => show ∃ g o x, A1 = some ⟨g, o, none⟩ ∧ l1[i]? = some x ∧ W.cell? ⟨g, o + i, none⟩ = some (.slice x.A x.b.length x.c) ∧ SlAt w x.A x.c x.b from by
    obtain ⟨x, hx⟩ : ∃ x, l1[i]? = some x := ⟨_, List.getElem?_eq_getElem hi⟩
    obtain ⟨g, o, e, hc⟩ := (h1.below hW).at_ hx
    exact ⟨g, o, x, e, hx, hc, h1.sl n1 (List.mem_of_getElem? hx)⟩)
  by_cases hsm : l0.length + l1.length ≤ 30
  · have hs0 : sumX l0 ≤ 30 * reachBytes := sumX_big (fun x hx => (h0.caps x hx).2.2) (by omega)
    have hs1 : sumX l1 ≤ 30 * reachBytes := sumX_big (fun x hx => (h1.caps x hx).2.2) (by omega)
    have hs0 : sumX l0 ≤ 9000000000000000 := by unfold reachBytes at hs0; omega
    have hs1 : sumX l1 ≤ 9000000000000000 := by unfold reachBytes at hs1; omega
    have HS0 := Lib.hid hs0
    have HS1 := Lib.hid hs1
    have q0 : ((30 : Int) < (l0.length : Int) + (l1.length : Int)) = False := eq_false (by omega)
    clear hs0 hs1 h0 h1 n0 n1
    go_enter Try.func4, Try.ntmps4
    go_wp2_with fail
    go_loop [7, 8] (fun s y => ∃ (i : Nat), i ≤ l0.length ∧ s = .int .i64 (sumX (l0.take i) : Nat) ∧ y = .int .i64 i) (fun _ y => l0.length - (intOf y).toNat)
    case atStart => exact ⟨0, Nat.zero_le _, rfl, rfl⟩
    case round =>
      obtain ⟨i, hi, rfl, rfl⟩ := hrel
      by_cases k1 : i < l0.length
      · obtain ⟨g, o, x, rfl, hx, hc, hsl⟩ := R0.out w (Below.refl _ _) i k1
        have k2 : (i : Int) < (l0.length : Int) := by omega
        have hsn := sumX_snoc hx
        have hle := sumX_take_le l0 (i + 1)
        have hb := HS0.out
        have hub : sumX (l0.take i) + x.b.length ≤ 9000000000000000 := by omega
        have HSN := Lib.hid hsn
        clear hsn hle hb hsl hx
        generalize sumX (l0.take i) = U at *
        go_wp2_with fail
        go_round
        case rel => exact ⟨i + 1, by omega, by rw [HSN.out]; go_num, by go_num⟩
        case measure => simp [intOf]; omega
      · obtain rfl : i = l0.length := by omega
        rw [List.take_length]
        go_wp2_with fail
        go_loop [7, 9] (fun s y => ∃ (j : Nat), j ≤ l1.length ∧ s = .int .i64 (sumX l0 + sumX (l1.take j) : Nat) ∧ y = .int .i64 j) (fun _ y => l1.length - (intOf y).toNat)
        case atStart => exact ⟨0, Nat.zero_le _, rfl, rfl⟩
        case round =>
          obtain ⟨j, hj, rfl, rfl⟩ := hrel
          by_cases k3 : j < l1.length
          · obtain ⟨g, o, x, rfl, hx, hc, hsl⟩ := R1.out w (Below.refl _ _) j k3
            have k4 : (j : Int) < (l1.length : Int) := by omega
            have hsn := sumX_snoc hx
            have hle := sumX_take_le l1 (j + 1)
            have hb := HS1.out
            have hb0 := HS0.out
            have hsn2 : sumX l0 + sumX (l1.take (j + 1)) = sumX l0 + sumX (l1.take j) + x.b.length := by omega
            have hub : sumX l0 + sumX (l1.take j) + x.b.length ≤ 18000000000000000 := by omega
            have HSN := Lib.hid hsn2
            clear hsn hle hb hb0 hsl hx hsn2
            generalize sumX l0 + sumX (l1.take j) = U at *
            go_wp2_with fail
            go_round
            case rel => exact ⟨j + 1, by omega, by rw [HSN.out]; go_num, by go_num⟩
            case measure => simp [intOf]; omega
          · obtain rfl : j = l1.length := by omega
            rw [List.take_length]
            have hbb := HS0.out
            have hbb1 := HS1.out
            obtain ⟨U, hU⟩ : ∃ U, sumX l0 + sumX l1 = U := ⟨_, rfl⟩
            rw [hU]
            have hUb : U ≤ 18000000000000000 := by omega
            have HU := Lib.hid hU
            clear hU hbb hbb1
            by_cases h800 : U ≤ 800
            · have q1 : ((800 : Int) < (U : Int)) = False := eq_false (by omega)
              have HN := Lib.hid (new_ds w 2 5000)
              go_wp2_with fail
              refine HN.out.mono ?_
              rintro e w1 ⟨g, rfl, who1, hD1, ht1⟩
              rw [dL_new] at hD1
              have HSI := Lib.hid (Side.first 200 hD1 ht1 rfl)
              have hj0 := joinX_length l0
              have hj1 := joinX_length l1
              have HJ0 := Lib.hid hj0
              have HJ1 := Lib.hid hj1
              clear hD1 ht1 hj0 hj1
              go_wp2_with fail
              go_loopw [11, 13] (fun v y wr => ∃ (i : Nat), i ≤ l0.length ∧ y = .int .i64 i ∧ Hid (Side w w.heap.size g (dL [] (joinX (l0.take i))) (sumX (l0.take i)) 200 v (joinX (l0.take i)) wr)) (fun _ y _ => l0.length - (intOf y).toNat)
              case atStart => exact ⟨0, Nat.zero_le _, rfl, HSI⟩
              case round =>
                obtain ⟨i, hi, rfl, HI⟩ := hrel
                by_cases k5 : i < l0.length
                · obtain ⟨g0, o0, x, rfl, hx, hc, hsl⟩ := R0.out wr HI.out.size i k5
                  have k6 : (i : Int) < (l0.length : Int) := by omega
                  have hsn := sumX_snoc hx
                  have hjs := joinX_snoc hx
                  have hle := sumX_take_le l0 (i + 1)
                  have htl := joinX_length (l0.take i)
                  have hU2 := HU.out
                  have hap := dL_append [] (joinX (l0.take i)) x.b (by rw [htl]; simp; omega)
                  have HA := Lib.hid (HI.out.append (by omega) (by omega) 1 hsl rfl (by omega))
                  rw [hap.1, hap.2, ← hjs] at HA
                  have HSL := Lib.hid hsl
                  have HSN := Lib.hid hsn
                  have HJS := Lib.hid hjs
                  have HLE := Lib.hid (show (joinX (l0.take i)).length + x.b.length ≤ 100000000 by rw [htl]; omega)
                  obtain ⟨As, cs, rfl, _⟩ := HI.out.sl
                  have HRW := Lib.hid (fun (W : World) (hW : Below w.heap.size w W) => R0.out W hW i k5)
                  have HX := Lib.hid hx
                  clear hx hsl hsn hjs hle htl hU2 hap
                  go_wp2_with fail
                  refine HA.out.mono ?_
                  rintro e w2 ⟨rfl, hS2⟩
                  obtain ⟨g1, o1, x', e1, hx', hc2, hsl2⟩ := HRW.out w2 hS2.size
                  cases e1
                  rw [HX.out] at hx'
                  cases hx'
                  obtain ⟨v', w3, hr, hS3⟩ := hS2.app (by omega) (by omega) (hsl2.below hS2.size) HLE.out
                  obtain ⟨A3, c3, hv3, _⟩ := hS3.sl
                  subst hv3
                  have HR := Lib.hid hr
                  have HS3 := Lib.hid hS3
                  clear hr hS3 hS2 hsl2 HA HI hc
                  go_wp2_with (at_builtin; refine Lib.wpList_append_run _ rfl _ _ _ _ rfl _ _ rfl rfl _ _ HR.out ?_)
                  go_roundw
                  case rel => exact ⟨i + 1, by omega, by go_num, by have h := HS3.out; rw [List.length_append, ← HJS.out] at h; rw [HSN.out]; exact Lib.hid h⟩
                  case measure => simp [intOf]; omega
                · obtain rfl : i = l0.length := by omega
                  rw [List.take_length] at HI
                  have HB := Lib.hid (HI.out.sync (by omega) (by have := HU.out; omega) 1)
                  rw [(dL_sync [] (joinX l0)).1, (dL_sync [] (joinX l0)).2, List.nil_append] at HB
                  obtain ⟨As, cs, rfl, _⟩ := HI.out.sl
                  clear HI HSI
                  go_wp2_with fail
                  refine HB.out.mono ?_
                  rintro e w4 ⟨rfl, hS4⟩
                  obtain ⟨As', cs', e4, hsl4⟩ := hS4.sl
                  cases e4
                  obtain ⟨v', w5, hr, hS5⟩ := (hS4.other 201).app (by omega) (by omega) hsl4 (by have := HJ0.out; have := HU.out; simp; omega)
                  rw [List.nil_append] at hS5
                  obtain ⟨A5, c5, hv5, _⟩ := hS5.sl
                  subst hv5
                  have HR := Lib.hid hr
                  have HS5 := Lib.hid hS5
                  clear hr hS5 hS4 hsl4 HB
                  go_wp2_with (at_builtin; refine Lib.wpList_append_run _ rfl _ _ _ _ rfl _ _ rfl rfl _ _ HR.out ?_)
                  go_loopw [12, 14] (fun v y wr => ∃ (j : Nat), j ≤ l1.length ∧ y = .int .i64 j ∧ Hid (Side w w.heap.size g (dL (joinX l0) (joinX (l1.take j))) (sumX l0 + sumX (l1.take j)) 201 v (joinX l0 ++ joinX (l1.take j)) wr)) (fun _ y _ => l1.length - (intOf y).toNat)
                  case atStart => exact ⟨0, Nat.zero_le _, rfl, by rw [show joinX (l1.take 0) = [] from rfl, List.append_nil]; exact HS5⟩
                  case round =>
                    obtain ⟨j, hj, rfl, HI⟩ := hrel
                    by_cases k7 : j < l1.length
                    · obtain ⟨g0, o0, x, rfl, hx, hc, hsl⟩ := R1.out wr HI.out.size j k7
                      have k8 : (j : Int) < (l1.length : Int) := by omega
                      have hsn := sumX_snoc hx
                      have hjs := joinX_snoc hx
                      have hle := sumX_take_le l1 (j + 1)
                      have htl := joinX_length (l1.take j)
                      have hU2 := HU.out
                      have hj0 := HJ0.out
                      have hap := dL_append (joinX l0) (joinX (l1.take j)) x.b (by rw [htl, hj0]; omega)
                      have HA := Lib.hid (HI.out.append (by omega) (by omega) 1 hsl rfl (by omega))
                      rw [hap.1, hap.2, ← hjs] at HA
                      have HSN := Lib.hid (show sumX l0 + sumX (l1.take (j + 1)) = sumX l0 + sumX (l1.take j) + x.b.length by omega)
                      have HJS := Lib.hid (show joinX l0 ++ joinX (l1.take (j + 1)) = joinX l0 ++ joinX (l1.take j) ++ x.b by rw [hjs, List.append_assoc])
                      have HLE := Lib.hid (show (joinX l0 ++ joinX (l1.take j)).length + x.b.length ≤ 100000000 by rw [List.length_append, htl, hj0]; omega)
                      obtain ⟨At, ct, rfl, _⟩ := HI.out.sl
                      have HRW := Lib.hid (fun (W : World) (hW : Below w.heap.size w W) => R1.out W hW j k7)
                      have HX := Lib.hid hx
                      clear hx hsl hsn hjs hle htl hU2 hap hj0
                      go_wp2_with fail
                      refine HA.out.mono ?_
                      rintro e w6 ⟨rfl, hS6⟩
                      obtain ⟨g1, o1, x', e1, hx', hc2, hsl2⟩ := HRW.out w6 hS6.size
                      cases e1
                      rw [HX.out] at hx'
                      cases hx'
                      obtain ⟨v', w7, hr, hS7⟩ := hS6.app (by omega) (by omega) (hsl2.below hS6.size) HLE.out
                      obtain ⟨A3, c3, hv3, _⟩ := hS7.sl
                      subst hv3
                      have HR := Lib.hid hr
                      have HS7 := Lib.hid hS7
                      obtain ⟨q, hq⟩ : ∃ q, (joinX l0 ++ joinX (l1.take j)).length = q := ⟨_, rfl⟩
                      rw [hq] at HR
                      have HQ := Lib.hid hq
                      rw [hq]
                      clear hr hS7 hS6 hsl2 HA HI hc hq
                      go_wp2_with (at_builtin; refine Lib.wpList_append_run _ rfl _ _ _ _ rfl _ _ rfl rfl _ _ HR.out ?_)
                      go_roundw
                      case rel => exact ⟨j + 1, by omega, by go_num, by have h := HS7.out; rw [List.length_append, List.length_append, Nat.add_assoc (joinX l0).length, ← HJS.out] at h; rw [HSN.out]; exact Lib.hid h⟩
                      case measure => simp [intOf]; omega
                    · obtain rfl : j = l1.length := by omega
                      rw [List.take_length] at HI
                      obtain ⟨who, hD, hT, hO, htg, _⟩ := HI.out
                      clear HI HS5
                      obtain ⟨At, ct, rfl, hsA, hbA⟩ := OB.sl hO
                      have hcA := hsA.cap
                      have hcA63 := hsA.c63
                      obtain ⟨P, hP⟩ : ∃ P, (joinX l0).length = P := ⟨_, rfl⟩
                      obtain ⟨N, hN⟩ : ∃ N, (joinX l0 ++ joinX l1).length = N := ⟨_, rfl⟩
                      have hNP : N = P + (joinX l1).length := by rw [← hN, ← hP, List.length_append]
                      have hN8 : N ≤ 800 := by rw [hNP, ← hP, HJ0.out, HJ1.out]; have := HU.out; omega
                      have hpu : sumX l0 + sumX l1 ≤ 800 := by have := HU.out; omega
                      obtain ⟨kk, hkk⟩ : ∃ kk : Nat, P + min keep.toNat (joinX l1).length = kk := ⟨_, rfl⟩
                      have hkk2 : (P : Int) + max 0 (min keep ((N : Int) - (P : Int))) = (kk : Int) := by omega
                      have hkN : kk ≤ N := by omega
                      have hcut : (joinX l0 ++ joinX l1).take kk = joinX l0 ++ (joinX l1).take keep.toNat := by rw [← hkk, ← hP]; exact cut_keep _ _ _
                      have hkl : ((joinX l0 ++ joinX l1).take kk).length = kk := by rw [List.length_take, hN]; omega
                      obtain ⟨m2, hm2⟩ : ∃ m2, joinX l0 ++ (joinX l1).take keep.toNat = m2 := ⟨_, rfl⟩
                      rw [hm2] at hcut
                      obtain ⟨r1, _, _⟩ := dL_read (joinX l0) (joinX l1)
                      have hrs := dL_restart (joinX l0) (joinX l1) keep
                      rw [hm2] at hrs
                      obtain ⟨z1, z2, z3⟩ := dL_read m2 []
                      rw [List.append_nil] at z1
                      have HRD := Lib.hid (hD.read (by omega) 1)
                      rw [r1] at HRD
                      obtain ⟨al, hal⟩ : ∃ al, joinX l0 ++ joinX l1 = al := ⟨_, rfl⟩
                      rw [hal] at HRD hO htg hsA hcut hN hkl hcA
                      rw [hP]
                      rw [hal, hN]
                      rw [hN] at hcA
                      have HD := Lib.hid hD
                      have HT := Lib.hid hT
                      have HO := Lib.hid hO
                      have HTG := Lib.hid htg
                      have HSA := Lib.hid hsA
                      have HBA := Lib.hid hbA
                      have HRS := Lib.hid hrs
                      have HZ1 := Lib.hid z1
                      have HZ2 := Lib.hid z2
                      have HZ3 := Lib.hid z3
                      have HCUT := Lib.hid hcut
                      have HN2 := Lib.hid hN
                      have HKL := Lib.hid hkl
                      clear hD hT hO htg hsA hbA hP hNP hkk hm2 r1 hrs z1 z2 z3 hal hcut hN hkl HJ0 HJ1 HS0 HS1
                      go_wp2_with fail
                      refine HRD.out.mono ?_
                      rintro e w1 ⟨v1, rfl, ho1, hb1⟩
                      obtain ⟨A1', c1', rfl, hs1, hbl1⟩ := OB.sl ho1
                      rw [HN2.out]
                      have hD1 := HD.out.below hb1
                      have hw1 : 0 < al.length → ∀ q o, A1' = some ⟨q, o, none⟩ → who q = 0 := fun _ q o e => HD.out.fresh q (row_blk ho1 (hbl1 q o none e)).1
                      have HRE := Lib.hid (hD1.restart (by omega) (by omega) keep hk)
                      rw [HRS.out] at HRE
                      have HB1 := Lib.hid hb1
                      have HS1 := Lib.hid hs1
                      have HW1 := Lib.hid hw1
                      have HO1 := Lib.hid (show OB w.heap.size w1 (.slice At al.length ct) al from row_keep HO.out fun q _ hl => hb1.block q hl)
                      clear hD1 hw1 hb1 hs1 ho1 hbl1
                      go_wp2_with fail
                      refine HRE.out.mono ?_
                      rintro e w2 ⟨rfl, who2, hD2, ht2⟩
                      have HS1b := Lib.hid (show SlAt w2 A1' c1' al from ⟨ht2.bytes (by omega) HS1.out.bytes HW1.out, HS1.out.cap, HS1.out.capm, HS1.out.nil⟩)
                      have HO2 := Lib.hid (show OB w.heap.size w2 (.slice At al.length ct) al from row_keep HO1.out fun q e hl => ht2.block q hl (by rw [HTG.out q e]; omega))
                      have HT2 := Lib.hid ((HT.out.trans (Turn.below HB1.out)).trans (ht2.wider (by omega) (by omega)))
                      have HRD2 := Lib.hid (hD2.read (by omega) 1)
                      rw [HZ1.out] at HRD2
                      have HD2 := Lib.hid hD2
                      clear hD2 ht2 HRE
                      go_wp2_with fail
                      refine HRD2.out.mono ?_
                      rintro e w3 ⟨v3, rfl, ho3, hb3⟩
                      obtain ⟨A3, c3, rfl, hs3, _⟩ := OB.sl ho3
                      have hs3a := (OB.sl HO2.out)
                      obtain ⟨Ax, cx, ex, hsx, _⟩ := hs3a
                      cases ex
                      have HSX := Lib.hid (hsx.below hb3)
                      have HS1c := Lib.hid (HS1b.out.below hb3)
                      have HT3 := Lib.hid (HT2.out.trans (Turn.below hb3))
                      have HD3 := Lib.hid (HD2.out.below hb3)
                      have HS3 := Lib.hid hs3
                      have HSM := Lib.hid (frsame_any al al A1' At c1' ct N N w3 HS1c.out.bytes HSX.out.bytes HN2.out HN2.out)
                      rw [show (al == al) = true by simp] at HSM
                      clear ho3 hb3 hs3 hsx HRD2 HD2 HT2
                      obtain ⟨m2l, hm2l⟩ : ∃ q, m2.length = q := ⟨_, rfl⟩
                      rw [hm2l]
                      have HML := Lib.hid hm2l
                      clear hm2l
                      have hkc : (kk : Int) ≤ (ct : Int) := by omega
                      have hk00 : (0 : Int) ≤ (kk : Int) := by omega
                      have HNIL := Lib.hid (fun (e : At = none) => show N = 0 ∧ ct = 0 ∧ kk = 0 from by
                        have := HSX.out.nil e
                        omega)
                      have HSMF := Lib.hid (fun (W : World) (hW : Below w3.heap.size w3 W) => show Calls Try.prog 19 #[.slice A3 m2l c3, .slice At kk ct] W (fun e w' => e = .returned (.bool true) ∧ Below W.heap.size W w') from by
                        have h := frsame_any m2 (al.take kk) A3 At c3 ct m2l kk W (HS3.out.bytes.below hW) ((HSX.out.bytes.below hW).take kk) HML.out HKL.out
                        rw [HCUT.out, show (m2 == m2) = true by simp] at h
                        exact h)
                      have HLAS := Lib.hid (fun (W : World) (hW : Below w3.heap.size w3 W) => show Calls Try.prog 22 #[.pointer (some ⟨g, 0, none⟩), .int .i64 1] W (fun e w' => ∃ A' c', e = .returned (.slice A' m2l c') ∧ SlAt w' A' c' m2 ∧ Below W.heap.size W w') from by
                        refine ((HD3.out.below hW).lasting (by omega) 1).mono ?_
                        rintro e w' ⟨v, rfl, ho, hb⟩
                        rw [HZ2.out] at ho
                        obtain ⟨A', c', rfl, hs, _⟩ := OB.sl ho
                        rw [HML.out]
                        exact ⟨A', c', rfl, hs, hb⟩)
                      have HR0 := Lib.hid (fun (W : World) (hW : Below w3.heap.size w3 W) => show Calls Try.prog 20 #[.pointer (some ⟨g, 0, none⟩), .int .i64 0] W (fun e w' => ∃ A' c', e = .returned (.slice A' 0 c') ∧ Below W.heap.size W w') from by
                        refine ((HD3.out.below hW).read (by omega) 0).mono ?_
                        rintro e w' ⟨v, rfl, ho, hb⟩
                        rw [HZ3.out] at ho
                        obtain ⟨A', c', rfl, hs, _⟩ := OB.sl ho
                        exact ⟨A', c', rfl, hb⟩)
                      have HSML := Lib.hid (fun (W : World) (A' : Option Addr) (c' : Nat) (hW : Below w3.heap.size w3 W) (hs : SlAt W A' c' m2) => show Calls Try.prog 19 #[.slice A' m2l c', .slice A3 m2l c3] W (fun e w' => e = .returned (.bool true) ∧ Below W.heap.size W w') from by
                        have h := frsame_any m2 m2 A' A3 c' c3 m2l m2l W hs.bytes (HS3.out.bytes.below hW) HML.out HML.out
                        rw [show (m2 == m2) = true by simp] at h
                        exact h)
                      rcases At with _ | ⟨aq, ao, as'⟩
                      all_goals
                        clear HNIL
                        go_wp2_with fail
                        refine HSM.out.mono ?_
                        rintro e w4 ⟨rfl, hb4⟩
                        have HB4 := Lib.hid hb4
                        clear hb4
                        go_wp2_with fail
                        refine (HSMF.out w4 HB4.out).mono ?_
                        rintro e w5 ⟨rfl, hb5⟩
                        have HB5 := Lib.hid (HB4.out.trans (hb5.mono HB4.out.size))
                        clear hb5
                        go_wp2_with fail
                        refine (HLAS.out w5 HB5.out).mono ?_
                        rintro e w6 ⟨A6, c6, rfl, hs6, hb6⟩
                        have HB6 := Lib.hid (HB5.out.trans (hb6.mono HB5.out.size))
                        have HSQ := Lib.hid (HSML.out w6 A6 c6 HB6.out hs6)
                        clear hb6 hs6
                        go_wp2_with fail
                        refine HSQ.out.mono ?_
                        rintro e w7 ⟨rfl, hb7⟩
                        have HB7 := Lib.hid (HB6.out.trans (hb7.mono HB6.out.size))
                        clear hb7
                        go_wp2_with fail
                        refine (HR0.out w7 HB7.out).mono ?_
                        rintro e w8 ⟨A8, c8, rfl, hb8⟩
                        have HB8 := Lib.hid (HB7.out.trans (hb8.mono HB7.out.size))
                        have HK := Lib.hid (known_any w8)
                        clear hb8
                        go_wp2_with fail
                        refine HK.out.mono ?_
                        rintro e w9 ⟨rfl, hb9⟩
                        have HB9 := Lib.hid (HB8.out.trans (hb9.mono HB8.out.size))
                        clear hb9
                        go_wp2_with fail
                        go_ret
                        have hz := HT3.out.zero (by omega)
                        exact ⟨rfl, hz.trans (HB9.out.mono hz.size)⟩
            · have q1 : ((800 : Int) < (U : Int)) = True := eq_true (by omega)
              have HK := Lib.hid (known_any w)
              go_wp2_with fail
              refine HK.out.mono ?_
              rintro e w1 ⟨rfl, hb⟩
              go_wp2_with fail
              go_ret
              exact ⟨rfl, hb⟩
  · have q0 : ((30 : Int) < (l0.length : Int) + (l1.length : Int)) = True := eq_true (by omega)
    clear h0 h1 n0 n1
    go_enter Try.func4, Try.ntmps4
    go_wp2_with fail
    go_loop [7, 8] (fun s y => ∃ (i : Nat) (z : Int), i ≤ l0.length ∧ s = .int .i64 z ∧ y = .int .i64 i) (fun _ y => l0.length - (intOf y).toNat)
    case atStart => exact ⟨0, 0, Nat.zero_le _, rfl, rfl⟩
    case round =>
      obtain ⟨i, z, hi, rfl, rfl⟩ := hrel
      by_cases k1 : i < l0.length
      · obtain ⟨g, o, x, rfl, hx, hc, hsl⟩ := R0.out w (Below.refl _ _) i k1
        have k2 : (i : Int) < (l0.length : Int) := by omega
        clear hsl hx
        go_wp2_with fail
        go_round
        case rel => exact ⟨i + 1, _, by omega, rfl, by go_num⟩
        case measure => simp [intOf]; omega
      · obtain rfl : i = l0.length := by omega
        go_wp2_with fail
        go_loop [7, 9] (fun s y => ∃ (j : Nat) (z : Int), j ≤ l1.length ∧ s = .int .i64 z ∧ y = .int .i64 j) (fun _ y => l1.length - (intOf y).toNat)
        case atStart => exact ⟨0, _, Nat.zero_le _, rfl, rfl⟩
        case round =>
          obtain ⟨j, z, hj, rfl, rfl⟩ := hrel
          by_cases k3 : j < l1.length
          · obtain ⟨g, o, x, rfl, hx, hc, hsl⟩ := R1.out w (Below.refl _ _) j k3
            have k4 : (j : Int) < (l1.length : Int) := by omega
            clear hsl hx
            go_wp2_with fail
            go_round
            case rel => exact ⟨j + 1, _, by omega, rfl, by go_num⟩
            case measure => simp [intOf]; omega
          · obtain rfl : j = l1.length := by omega
            have HK := Lib.hid (known_any w)
            go_wp2_with fail
            refine HK.out.mono ?_
            rintro e w1 ⟨rfl, hb⟩
            go_wp2_with fail
            go_ret
            exact ⟨rfl, hb⟩
end Go.Proofs.Ytjobohhbkcjhnaa
