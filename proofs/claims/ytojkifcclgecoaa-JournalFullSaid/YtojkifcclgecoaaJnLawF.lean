/-
  The law JournalFull, walked.
-/
import Derived.Test.YtojkifcclgecoaaJnLawT
namespace Go.Proofs.Ytojkifcclgecoaa
open Go Go.RowKit Go.Shelf Go.Proofs Go.Proofs.Ytojkifcclgecoaa.Dk

theorem restart_dead (d : DDk) (k : Int) : (d.restart k).dead = false := rfl
theorem keep_z (k : Nat) : keepA k zA = zA := keep_s k []
theorem jf_ok (X l1 : Bs) (r : Nat) (h : X.length + (16 + l1.length) ≤ r) (hl : l1.length ≤ 65528) :
    cpE (jd zA zA (sA X) r) 0 l1 = 0 ∧ cpQ (jd zA zA (sA X) r) 0 l1 = 1 ∧ openE ((cpD (jd zA zA (sA X) r) 0 l1).restart 0) = 0 ∧ staO (openO ((cpD (jd zA zA (sA X) r) 0 l1).restart 0)) = l1 ∧ openR ((cpD (jd zA zA (sA X) r) 0 l1).restart 0) = [] := by
  obtain ⟨h1, h2, h3⟩ := jd_cp1 zA zA (sA X) r 0 l1 rfl (by rw [z_now, sA_now, List.length_nil]; omega)
  rw [h1, h2, h3, jd_restart, keep_z, keep_s, keep_s]
  obtain ⟨k1, k2, k3, k4⟩ := jd_open zA (sA (numbF (0 + 1) l1)) (sA []) r
  have hs := (slots_zero.next1 (t := l1) (by omega) hl).open_
  rw [k1, k2, z_now, sA_now, sA_now]
  exact ⟨rfl, rfl, k3, hs.2, recL_nil _⟩
theorem jf_full (X l1 : Bs) (L : List Bs) (r : Nat) (h : r < X.length + (16 + l1.length)) (hX : X = joinR 0 L) (hL : ∀ x ∈ L, x.length ≤ 65528) :
    cpE (jd zA zA (sA X) r) 0 l1 = 8 ∧ cpQ (jd zA zA (sA X) r) 0 l1 = 0 ∧ openE ((cpD (jd zA zA (sA X) r) 0 l1).restart 0) = 0 ∧ staO (openO ((cpD (jd zA zA (sA X) r) 0 l1).restart 0)) = [] ∧ openR ((cpD (jd zA zA (sA X) r) 0 l1).restart 0) = L := by
  obtain ⟨h1, h2, h3⟩ := jd_cpfull zA zA (sA X) r 0 l1 rfl (by rw [z_now, sA_now, List.length_nil]; omega)
  rw [h1, h2, h3, jd_restart, keep_z, keep_s]
  obtain ⟨_, k2, k3, k4, _⟩ := jt_open (sA X) L [] r (by rw [sA_now, List.append_nil]; exact hX) hL (by simp)
  exact ⟨rfl, rfl, k4, k2, k3⟩

set_option maxRecDepth 100000 in
set_option maxHeartbeats 16000000 in
theorem journalfull_any (A0 A1 : Option Addr) (c0 c1 : Nat) (l0 : List BX) (l1 : Bs) (room : Nat) (w : World) (hroom : room < 65536) (h0 : BRowAt w A0 c0 l0) (n0 : ∀ x ∈ l0, x.A = none → x.c = 0) (t1 : SlAt w A1 c1 l1) :
    Calls Try.prog 4 #[.slice A0 l0.length c0, .slice A1 l1.length c1, .int .u16 (room : Nat)] w fun e w' => e = .returned (.bool true) ∧ Below w.heap.size w w' := by
  have hnil := n0
  obtain ⟨r, hr⟩ : ∃ r, room % 600 = r := ⟨_, rfl⟩
  have hr600 : r < 600 := by omega
  have hrr : ((room : Int) % 600) = (r : Int) := by omega
  have hpos : (0 : Int) ≤ (room : Int) := by omega
  have R0 := Lib.hid (brow_at h0 n0)
  have hcp := h0.cap
  have hcm := h0.capm
  have hcm : c0 ≤ 9223372036854775807 := by unfold maxLen at hcm; omega
  by_cases hsm : l0.length ≤ 20
  · have hs0 : sum1 l0 ≤ 20 * (reachBytes + 1) := Nat.le_trans (sum1_big (fun x hx => (h0.caps x hx).2.2)) (Nat.mul_le_mul_right _ hsm)
    have hs0 : sum1 l0 ≤ 9000000000000000 := by unfold reachBytes at hs0; omega
    have HS0 := Lib.hid hs0
    have q0 : ((20 : Int) < (l0.length : Int)) = False := eq_false (by omega)
    clear hs0 n0
    go_enter Try.func4, Try.ntmps4
    go_wp2_with fail
    go_loop [7, 8] (fun s y => ∃ (i : Nat), i ≤ l0.length ∧ s = .int .i64 (sum1 (l0.take i) : Nat) ∧ y = .int .i64 i) (fun _ y => l0.length - (intOf y).toNat)
    case atStart => exact ⟨0, Nat.zero_le _, rfl, rfl⟩
    case round =>
      obtain ⟨i, hi, rfl, rfl⟩ := hrel
      by_cases k1 : i < l0.length
      · obtain ⟨g, o, x, rfl, hx, hW⟩ := R0.out i k1
        obtain ⟨hc, _⟩ := hW w (Below.refl _ _)
        have k2 : (i : Int) < (l0.length : Int) := by omega
        have k3 : (i : Int) < (c0 : Int) := by omega
        have hsn := sum1_snoc hx
        have hle := sum1_take l0 (i + 1)
        have hb := HS0.out
        have hub : sum1 (l0.take i) + 1 + x.b.length ≤ 9000000000000000 := by omega
        have HSN := Lib.hid hsn
        clear hsn hle hb hx hW
        generalize sum1 (l0.take i) = U at *
        go_wp2_with fail
        go_round
        case rel => exact ⟨i + 1, by omega, by rw [HSN.out]; go_num, by go_num⟩
        case measure => simp [intOf]; omega
      · obtain rfl : i = l0.length := by omega
        rw [List.take_length]
        have hbb := HS0.out
        obtain ⟨U, hU⟩ : ∃ U, sum1 l0 = U := ⟨_, rfl⟩
        rw [hU]
        have hUb : U ≤ 9000000000000000 := by omega
        have HU := Lib.hid hU
        clear hU hbb
        by_cases h800 : U ≤ 600
        · have q1 : ((600 : Int) < (U : Int)) = False := eq_false (by omega)
          by_cases e0 : l1.length ≤ 200
          · have u0 : ((200 : Int) < (l1.length : Int)) = False := eq_false (by omega)
            have HN := Lib.hid (new_ds w 3 (r : Int))
            rw [jd_new r (by omega)] at HN
            go_wp2_with fail
            refine HN.out.mono ?_
            rintro e w1 ⟨g, rfl, who1, hD1, ht1⟩
            obtain ⟨z1, z2, z3, z4, zc, z5, z6⟩ := jt_open zA [] [] r rfl (by simp) (by simp)
            have HO := Lib.hid (open_any _ _ _ _ _ _ _ hD1 (by omega) (by omega) rfl z4)
            have HT1 := Lib.hid (ht1.wider (Nat.le_refl 1) (show 27 ≤ 300 by omega))
            have Z1 := Lib.hid z1
            have Z5 := Lib.hid z5
            have Z6 := Lib.hid z6
            clear hD1 ht1 HN z1 z2 z3 z4 z5 z6
            go_wp2_with fail
            refine HO.out.mono ?_
            rintro e w2 ⟨gj, A2', c2', B2, d2, rows, who2, rfl, hj2, ht2, _, _, _, _⟩
            rw [Z1.out, Z5.out] at hj2
            have hj2 : JS w.heap.size who2 w2 1 g gj (jd zA zA zc r) (0 + 1) 0 := hj2
            have HJ2 := Lib.hid hj2
            have HT2 := Lib.hid (HT1.out.trans (ht2.wider (Nat.le_refl 1) (show 28 ≤ 300 by omega)))
            clear hj2 ht2 HO HT1
            go_wp2_with fail
            go_loopw [14, 15] (fun v y wr => ∃ (i : Nat) (c : DAr) (who : Nat → Nat) (mine : List BX), i ≤ l0.length ∧ y = .int .i64 i ∧ mine.length ≤ i ∧ Hid (∀ x ∈ mine, x ∈ l0) ∧ Hid (c.now = joinR 0 (mine.map BX.b) ∧ c.now.length ≤ r) ∧ Hid (JS w.heap.size who wr 1 g gj (jd zA zA c r) (20 * i + sum1 (l0.take i) + 1) 0) ∧ Hid (MineAt w who wr v mine) ∧ Hid (Turn 1 300 (fun _ => 0) w who wr)) (fun _ y _ => l0.length - (intOf y).toNat)
            case atStart => exact ⟨0, zc, who2, [], Nat.zero_le _, rfl, Nat.le_refl _, (show ∀ x ∈ ([] : List BX), x ∈ l0 from fun x hx => by cases hx), (show zc.now = joinR 0 (([] : List BX).map BX.b) ∧ zc.now.length ≤ r from ⟨Z6.out, by rw [Z6.out]; exact Nat.zero_le _⟩), HJ2, MineAt.nil _ _ _, HT2⟩
            case round =>
              obtain ⟨i, c, who, mine, hi, rfl, hml, HML, HC, HJ, HM, HT⟩ := hrel
              by_cases k1 : i < l0.length
              · obtain ⟨g0, o0, x, rfl, hx, hW⟩ := R0.out i k1
                have k2 : (i : Int) < (l0.length : Int) := by omega
                have k3 : (i : Int) < (c0 : Int) := by omega
                obtain ⟨cx, hsx⟩ := hW wr (HT.out.zero (by omega))
                have hsn := sum1_snoc hx
                have hle := sum1_take l0 (i + 1)
                have hU2 := HU.out
                have hmem := sum1_mem (List.mem_of_getElem? hx)
                have HAP := Lib.hid (jappend_any HJ.out (by omega) (by omega) hsx (by omega))
                have HXL := Lib.hid (show x.b.length ≤ 600 by omega)
                have HXM := Lib.hid (List.mem_of_getElem? hx)
                have HXS := Lib.hid (hW w (Below.refl _ _)).2
                have HCX := Lib.hid (fun W hb => (hW W hb).1)
                by_cases hfit : c.now.length + (16 + x.b.length) ≤ r
                · obtain ⟨f1, c', f2, f3⟩ := jt_append c _ (numbF 0 x.b) r rfl (by rw [numbF_length]; exact hfit)
                  rw [f1, f2] at HAP
                  have HF3 := Lib.hid (show c'.now = joinR 0 ((mine ++ [x]).map BX.b) ∧ c'.now.length ≤ r from ⟨by
                    rw [f3, HC.out.1]
                    simp only [List.map_append, joinR_append, List.map_cons, List.map_nil, joinR_cons, joinR_nil, List.append_nil], by rw [f3, List.length_append, numbF_length]; exact hfit⟩)
                  have HSN := Lib.hid hsn
                  clear hsn hle hU2 hmem f1 f2 f3 hW hx hsx
                  go_wp2_with fail
                  refine HAP.out.mono ?_
                  rintro e w5 ⟨rfl, who5, hj5, ht5⟩
                  have ht5a := ht5
                  have ht5 := HT.out.trans (ht5.wider (Nat.le_refl 1) (show 28 ≤ 300 by omega))
                  have hM5 := HM.out.turn (lo := 1) (hi := 28) ht5a (by omega)
                  obtain ⟨v6, w6, who6, hr6, hM6, ht6, hf6⟩ := hM5.one hj5.ds.fresh (ht5.zero (by omega)).size x HXS.out (by have := HXL.out; omega) (by omega)
                  have hj6 := hj5.turn ht6 hf6 (by omega) (.inr (by omega))
                  have cx5 := HCX.out w5 (ht5.zero (by omega))
                  have HR6 := Lib.hid hr6
                  have HM6 := Lib.hid hM6
                  have HJ6 := Lib.hid hj6
                  have HT6 := Lib.hid (ht5.trans (ht6.wider (show 1 ≤ 30 by omega) (show 56 ≤ 300 by omega)))
                  clear hj5 ht5 ht5a HAP hM5 hr6 hM6 ht6 hf6 hj6
                  go_wp2_with (at_builtin; refine wpList_appRun rfl _ _ rfl rfl rfl HR6.out ?_)
                  go_roundw
                  case rel => exact ⟨i + 1, c', who6, mine ++ [x], by omega, by go_num, by rw [List.length_append, List.length_singleton]; omega, (show ∀ y ∈ mine ++ [x], y ∈ l0 from fun y hy => by
                    rcases List.mem_append.1 hy with hy | hy
                    · exact HML.out y hy
                    · obtain rfl : y = x := by simpa using hy
                      exact HXM.out), HF3.out, HJ6.out.mono (by rw [HSN.out]; omega), HM6.out, HT6.out⟩
                  case measure => simp [intOf]; omega
                · obtain ⟨f1, f2⟩ := jd_full zA zA c r (numbF 0 x.b) (by rw [z_now, numbF_length, List.length_nil]; omega)
                  rw [f1, f2] at HAP
                  have HSN := Lib.hid hsn
                  clear hsn hle hU2 hmem f1 f2 hW hx hsx
                  go_wp2_with fail
                  refine HAP.out.mono ?_
                  rintro e w5 ⟨rfl, who5, hj5, ht5⟩
                  have HM5 := Lib.hid (HM.out.turn ht5 (by omega))
                  have HT5 := Lib.hid (HT.out.trans (ht5.wider (Nat.le_refl 1) (show 28 ≤ 300 by omega)))
                  have HJ5 := Lib.hid hj5
                  clear hj5 ht5 HAP
                  go_wp2_with fail
                  go_roundw
                  case rel => exact ⟨i + 1, c, who5, mine, by omega, by go_num, by omega, HML.out, HC.out, HJ5.out.mono (by rw [HSN.out]; omega), HM5.out, HT5.out⟩
                  case measure => simp [intOf]; omega
              · obtain rfl : i = l0.length := by omega
                rw [List.take_length] at HJ
                have hU2 := HU.out
                have HSB := Lib.hid (show 20 * l0.length + sum1 l0 + 1 ≤ 1001 by omega)
                obtain ⟨N, hN⟩ : ∃ N, 20 * l0.length + sum1 l0 + 1 = N := ⟨_, rfl⟩
                rw [hN] at HJ HSB
                obtain ⟨y1, y2⟩ := jd_sync zA zA c r
                have HS := Lib.hid (jsync_any HJ.out (by omega) (by have := HSB.out; omega))
                rw [y1, y2] at HS
                clear y1 y2 hN hU2
                have HMSL := Lib.hid (fun (who' : Nat → Nat) (W : World) (v : Value) (hM : MineAt w who' W v mine) (hB : Below w.heap.size w W) => hM.sl hB)
                go_wp2_with fail
                refine HS.out.mono ?_
                rintro e w5 ⟨rfl, who5, hj5, ht5⟩
                have HM5 := Lib.hid (HM.out.turn ht5 (by omega))
                have ht5 := HT.out.trans (ht5.wider (Nat.le_refl 1) (show 28 ≤ 300 by omega))
                have HCK := Lib.hid (checkpoint_any hj5 (by omega) (t1.below (ht5.zero (by omega))) (by omega) (by have := HSB.out; omega) (by omega))
                have HT5 := Lib.hid ht5
                clear hj5 ht5 HS
                by_cases hfit : c.now.length + (16 + l1.length) ≤ r
                · obtain ⟨f1, f2, f3, f4, f5⟩ := jf_ok c.now l1 r hfit (by omega)
                  rw [f1] at HCK
                  have F3 := Lib.hid f3
                  have F4 := Lib.hid f4
                  have F5 := Lib.hid f5
                  clear f1 f2 f3 f4 f5
                  go_wp2_with fail
                  refine HCK.out.mono ?_
                  rintro e w6 ⟨rfl, who6, hj6, ht6⟩
                  have HRS := Lib.hid (hj6.ds.restart (by omega) (by have := HSB.out; omega) 0 (by omega))
                  have HT6 := Lib.hid (HT5.out.trans (ht6.wider (Nat.le_refl 1) (show 28 ≤ 300 by omega)))
                  clear hj6 ht6 HCK HT5 HM5
                  go_wp2_with fail
                  refine HRS.out.mono ?_
                  rintro e w7 ⟨rfl, who7, hD7, ht7⟩
                  have HO7 := Lib.hid (open_any _ _ _ _ _ _ _ hD7 (by omega) (by have := HSB.out; omega) rfl F3.out)
                  have HT7 := Lib.hid (HT6.out.trans (ht7.wider (Nat.le_refl 1) (show 27 ≤ 300 by omega)))
                  clear hD7 ht7 HRS HT6
                  go_wp2_with fail
                  refine HO7.out.mono ?_
                  rintro e w8 ⟨g8, A8, c8, B8, d8, r8, who8, rfl, _, ht8, hs8, hr8, hm8, _⟩
                  rw [F5.out] at hm8
                  rw [F4.out] at hs8 ⊢
                  obtain rfl : r8 = [] := List.map_eq_nil_iff.1 hm8
                  have HT8 := Lib.hid (HT7.out.trans (ht8.wider (Nat.le_refl 1) (show 28 ≤ 300 by omega)))
                  have HSM := Lib.hid (frsame_any l1 l1 A8 A1 c8 c1 w8 hs8.sl.bytes (t1.below (HT8.out.zero (by omega))).bytes)
                  rw [show (l1 == l1) = true from BEq.rfl] at HSM
                  have hrl : ([] : List BX).length = 0 := rfl
                  rw [hrl]
                  clear ht8 hs8 hr8 hm8 HO7 HT7 hrl
                  go_wp2_with fail
                  refine HSM.out.mono ?_
                  rintro e w9 ⟨rfl, hb9⟩
                  have HB9 := Lib.hid ((HT8.out.trans (Turn.below hb9)).zero (by omega))
                  have HK := Lib.hid (jknown_any w9)
                  clear hb9 HSM HT8
                  go_wp2_with fail
                  refine HK.out.mono ?_
                  rintro e w10 ⟨rfl, hb10⟩
                  go_wp2_with fail
                  go_ret
                  exact ⟨rfl, HB9.out.trans (hb10.mono HB9.out.size)⟩
                · have hall : ∀ x ∈ mine.map BX.b, x.length ≤ 65528 := fun x hx => by
                    obtain ⟨y, hy, rfl⟩ := List.mem_map.1 hx
                    have := sum1_mem (HML.out y hy)
                    have := HU.out
                    omega
                  obtain ⟨f1, f2, f3, f4, f5⟩ := jf_full c.now l1 (mine.map BX.b) r (by omega) HC.out.1 hall
                  rw [f1] at HCK
                  have F3 := Lib.hid f3
                  have F4 := Lib.hid f4
                  have F5 := Lib.hid f5
                  clear f1 f2 f3 f4 f5 hall
                  go_wp2_with fail
                  refine HCK.out.mono ?_
                  rintro e w6 ⟨rfl, who6, hj6, ht6⟩
                  have HRS := Lib.hid (hj6.ds.restart (by omega) (by have := HSB.out; omega) 0 (by omega))
                  have HM6 := Lib.hid (HM5.out.turn ht6 (by omega))
                  have HT6 := Lib.hid (HT5.out.trans (ht6.wider (Nat.le_refl 1) (show 28 ≤ 300 by omega)))
                  clear hj6 ht6 HCK HT5 HM5
                  go_wp2_with fail
                  refine HRS.out.mono ?_
                  rintro e w7 ⟨rfl, who7, hD7, ht7⟩
                  have HO7 := Lib.hid (open_any _ _ _ _ _ _ _ hD7 (by omega) (by have := HSB.out; omega) rfl F3.out)
                  have HM7 := Lib.hid (HM6.out.turn ht7 (by omega))
                  have HT7 := Lib.hid (HT6.out.trans (ht7.wider (Nat.le_refl 1) (show 27 ≤ 300 by omega)))
                  clear hD7 ht7 HRS HT6 HM6
                  go_wp2_with fail
                  refine HO7.out.mono ?_
                  rintro e w8 ⟨g8, A8, c8, B8, d8, r8, who8, rfl, _, ht8, hs8, hr8, hm8, _⟩
                  rw [F5.out] at hm8
                  rw [F4.out]
                  have HT8 := Lib.hid (HT7.out.trans (ht8.wider (Nat.le_refl 1) (show 28 ≤ 300 by omega)))
                  have hM8 := HM7.out.turn ht8 (by omega)
                  obtain ⟨A9, c9, e9, hr9⟩ := HMSL.out _ _ _ hM8 (HT8.out.zero (by omega))
                  have HSM := Lib.hid (samelists_any r8 mine B8 A9 d8 c9 w8 hr8.row hr9)
                  rw [decide_eq_true hm8] at HSM
                  subst e9
                  have hrl : ([] : Bs).length = 0 := rfl
                  rw [hrl]
                  clear ht8 hs8 hr8 hm8 HO7 HT7 hrl hM8 hr9 HM7 HM
                  go_wp2_with fail
                  refine HSM.out.mono ?_
                  rintro e w9 ⟨rfl, hb9⟩
                  have HB9 := Lib.hid ((HT8.out.trans (Turn.below hb9)).zero (by omega))
                  have HK := Lib.hid (jknown_any w9)
                  clear hb9 HSM HT8
                  go_wp2_with fail
                  refine HK.out.mono ?_
                  rintro e w10 ⟨rfl, hb10⟩
                  go_wp2_with fail
                  go_ret
                  exact ⟨rfl, HB9.out.trans (hb10.mono HB9.out.size)⟩
          · have u0 : ((200 : Int) < (l1.length : Int)) = True := eq_true (by omega)
            have HK := Lib.hid (jknown_any w)
            go_wp2_with fail
            refine HK.out.mono ?_
            rintro e w1 ⟨rfl, hb⟩
            go_wp2_with fail
            go_ret
            exact ⟨rfl, hb⟩

        · have q1 : ((600 : Int) < (U : Int)) = True := eq_true (by omega)
          have HK := Lib.hid (jknown_any w)
          go_wp2_with fail
          refine HK.out.mono ?_
          rintro e w1 ⟨rfl, hb⟩
          go_wp2_with fail
          go_ret
          exact ⟨rfl, hb⟩
  · have q0 : ((20 : Int) < (l0.length : Int)) = True := eq_true (by omega)
    clear n0
    go_enter Try.func4, Try.ntmps4
    go_wp2_with fail
    go_loop [7, 8] (fun s y => ∃ (i : Nat) (z : Int), i ≤ l0.length ∧ s = .int .i64 z ∧ y = .int .i64 i) (fun _ y => l0.length - (intOf y).toNat)
    case atStart => exact ⟨0, 0, Nat.zero_le _, rfl, rfl⟩
    case round =>
      obtain ⟨i, z, hi, rfl, rfl⟩ := hrel
      by_cases k1 : i < l0.length
      · obtain ⟨g, o, x, rfl, hx, hW⟩ := R0.out i k1
        obtain ⟨hc, _⟩ := hW w (Below.refl _ _)
        have k2 : (i : Int) < (l0.length : Int) := by omega
        have k3 : (i : Int) < (c0 : Int) := by omega
        clear hW hx
        go_wp2_with fail
        go_round
        case rel => exact ⟨i + 1, _, by omega, rfl, by go_num⟩
        case measure => simp [intOf]; omega
      · obtain rfl : i = l0.length := by omega
        by_cases hz : z > 600
        · have hz1 : decide (z > 600) = true := decide_eq_true hz
          have HK := Lib.hid (jknown_any w)
          go_wp2_with fail
          refine HK.out.mono ?_
          rintro e w1 ⟨rfl, hb⟩
          go_wp2_with fail
          go_ret
          exact ⟨rfl, hb⟩
        · have hz1 : decide (z > 600) = false := decide_eq_false hz
          have HK := Lib.hid (jknown_any w)
          go_wp2_with fail
          refine HK.out.mono ?_
          rintro e w1 ⟨rfl, hb⟩
          go_wp2_with fail
          go_ret
          exact ⟨rfl, hb⟩
end Go.Proofs.Ytojkifcclgecoaa
