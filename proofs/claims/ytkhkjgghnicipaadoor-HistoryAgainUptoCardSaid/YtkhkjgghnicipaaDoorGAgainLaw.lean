/-
  The law HistoryAgain, walked.
-/
import Derived.Test.YtkhkjgghnicipaaDoorGTwin
namespace Go.Proofs.YtkhkjgghnicipaaDoor
open Go Go.RowKit Go.Shelf Go.Proofs Go.ChangeMaps Go.Maps Go.WideMaps
attribute [local go_sem] Oper.semAt_some

set_option maxRecDepth 100000 in
set_option maxHeartbeats 16000000 in
theorem hagainlaw_any (t : List FX) (l : List LX) (A B : Option Addr) (c d : Nat) (w : World) (ht : TreeAt w A c t) (zt : BigX t) (hl : LRowAt w B d l) (hb : longLN l ≤ 4611686018427387904) (hm : MaxOk w) :
    Calls Tryd.prog 5 #[.slice A t.length c, .slice B l.length d] w fun e w' => e = .returned (.bool true) ∧ Below w.heap.size w w' := by
  have HSM := Lib.hid (hsmall_any t l A B c d w ht zt hl hb)
  have HKN := Lib.hid (fun (W : World) (h : Below w.heap.size w W) => hknown_any W (hm.below h))
  have HT := Lib.hid ht
  have HL := Lib.hid hl
  have HM := Lib.hid hm
  have hcap : l.length ≤ maxLen := Nat.le_trans hl.cap hl.capm
  unfold maxLen at hcap
  clear ht zt hl hb hm
  cases h1 : hsmallL t l with
  | false =>
    rw [h1] at HSM
    clear h1
    go_enter Tryd.func5, Tryd.ntmps5
    go_wp2_with fail
    refine HSM.out.mono ?_
    rintro e w1 ⟨rfl, hb1⟩
    have HB1 := Lib.hid hb1
    clear hb1
    go_wp2_with fail
    refine (HKN.out w1 HB1.out).mono ?_
    rintro e w3 ⟨rfl, hb3⟩
    have HB3 := Lib.hid (HB1.out.trans (hb3.mono HB1.out.size))
    clear hb3
    go_wp2_with fail
    go_ret
    exact ⟨rfl, HB3.out⟩
  | true =>
    have HST := Lib.hid (small_treeG h1)
    have HSD := Lib.hid (fun x (hx : x ∈ l) => small_delsG h1 hx)
    have h25 : l.length ≤ 25 := by
      unfold hsmallL at h1
      simp only [Bool.and_eq_true, decide_eq_true_eq] at h1
      exact h1.1.2
    rw [h1] at HSM
    clear h1
    go_enter Tryd.func5, Tryd.ntmps5
    go_wp2_with fail
    refine HSM.out.mono ?_
    rintro e w1 ⟨rfl, hb1⟩
    have HB1 := Lib.hid hb1
    have HNEW := Lib.hid (hnewS_any t A c w1 (HT.out.below hb1) HST.out (HM.out.below hb1))
    clear hb1
    go_wp2_with fail
    refine HNEW.out.mono ?_
    intro e w2 hp
    unfold NewS at hp
    cases hr : rightT (flsX t) with
    | false =>
      rw [if_neg (by rw [hr]; decide)] at hp
      obtain ⟨rfl, hb2⟩ := hp
      have HB2 := Lib.hid (HB1.out.trans (hb2.mono HB1.out.size))
      clear hb2 hr
      go_wp2_with fail
      refine (HKN.out w2 HB2.out).mono ?_
      rintro e w3 ⟨rfl, hb3⟩
      have HB3 := Lib.hid (HB2.out.trans (hb3.mono HB2.out.size))
      clear hb3
      go_wp2_with fail
      go_ret
      exact ⟨rfl, HB3.out⟩
    | true =>
      rw [if_pos hr] at hp
      obtain ⟨hb, G, l0, rfl, hH, hb2⟩ := hp
      have HB2 := Lib.hid (HB1.out.trans (hb2.mono HB1.out.size))
      have HS0 : Hid (HSome w.heap.size w2 hb 0 (flsX t) [(G, l0)]) := by
        obtain ⟨nm, M, nv, cv, mb, k, D, h, hm⟩ := hH
        exact Lib.hid ⟨nm, M, nv, cv, mb, k, D, h.rebase HB1.out.size, hm⟩
      have HRT := Lib.hid hr
      clear hb2 hH hr HNEW HSM
      go_wp2_with fail
      go_loopw [7] (fun i wr => ∃ (j n : Nat) (H : List (Nat × List DX)), j ≤ l.length ∧ n ≤ j ∧ i = .int .i64 j ∧ HSome w.heap.size wr hb n (flsX t) H ∧ Below w.heap.size w wr) (fun i _ => l.length - (intOf i).toNat)
      case atStart => exact ⟨0, 0, _, Nat.zero_le _, Nat.le_refl _, rfl, HS0.out, HB2.out⟩
      case round =>
        clear HS0 HB2
        obtain ⟨j, n, H, hj, hnj, rfl, hS, hbr⟩ := hrel
        have HBR := Lib.hid hbr
        have HS := Lib.hid hS
        clear hbr hS
        by_cases h1 : j < l.length
        · obtain ⟨x, hx⟩ : ∃ x, l[j]? = some x := ⟨_, List.getElem?_eq_getElem h1⟩
          obtain ⟨g, o, hB, hrw⟩ := HL.out.row (by omega)
          have c0 := hrw j x hx
          have hmem := List.mem_of_getElem? hx
          have c1 := (HBR.out.cell (p := ⟨g, o + j, none⟩) (World.block_lt_of_cell? w (a := ⟨g, o + j, none⟩) c0)).trans c0
          have HC := Lib.hid (HS.out.commit HBR.out (by omega) x.d x.A x.c (DelsKeep.args (HL.out.dels x hmem) HBR.out HS.out.lb.1) (HSD.out x hmem) HM.out)
          have k1 : (j : Int) < (l.length : Int) := by omega
          have HJL := Lib.hid h1
          have HNJ := Lib.hid hnj
          subst hB
          clear hx hrw hmem hnj h1 hj c0
          go_wp2_with fail
          refine HC.out.mono ?_
          intro e w3 hp
          rcases hp with ⟨q, hq, _, rfl, hb3⟩ | ⟨G3, rfl, hS3, hb3⟩
          · have HB3 := Lib.hid (HBR.out.trans (hb3.mono HBR.out.size))
            have HS3 := Lib.hid (HS.out.below hb3)
            clear hb3 hq c1
            go_wp2_with fail
            go_roundw
            case rel => exact ⟨j + 1, n, H, by have := HJL.out; omega, by have := HNJ.out; omega, by go_num, HS3.out, HB3.out⟩
            case measure => have := HJL.out; simp [intOf]; omega
          · have HB3 := Lib.hid (HBR.out.trans hb3)
            have HS3 := Lib.hid hS3
            clear hb3 hS3 c1
            go_wp2_with fail
            go_roundw
            case rel => exact ⟨j + 1, n + 1, _, by have := HJL.out; omega, by have := HNJ.out; omega, by go_num, HS3.out, HB3.out⟩
            case measure => have := HJL.out; simp [intOf]; omega
        · obtain rfl : j = l.length := by omega
          have HN25 := Lib.hid (show n ≤ 25 by omega)
          have HAT := Lib.hid (HS.out.atR (r := 0) (Nat.zero_le _) (by omega))
          clear h1 hj hnj
          go_wp2_with fail
          refine HAT.out.mono ?_
          rintro e w3 ⟨v, lf, rfl, htm, hit, hlf, hb3⟩
          obtain ⟨bH, hmd⟩ := HS.out.made
          have hfl : flsX lf = flsX t := first_eq (right_sorted HRT.out) hmd hit
          obtain ⟨Af, cf, rfl⟩ := htm.own.slice
          have htf := htm.tree.2
          have hB3 := HBR.out.trans (hb3.mono HBR.out.size)
          have HNW := Lib.hid (hnewS_any lf Af cf w3 htf (sizes_of hfl HST.out) (HM.out.below hB3))
          have HS3 := Lib.hid (HS.out.below hb3)
          have HB3 := Lib.hid hB3
          have HFL := Lib.hid hfl
          have HMD := Lib.hid hmd
          clear htm hit hlf hb3 hfl htf hB3 hmd HAT
          go_wp2_with fail
          refine HNW.out.mono ?_
          intro e w4 hp
          unfold NewS at hp
          rw [HFL.out, if_pos HRT.out] at hp
          obtain ⟨hk, Gk, lk, rfl, hK, hb4⟩ := hp
          have HB4 := Lib.hid hb4
          have HK4 := Lib.hid hK
          have HNUM := Lib.hid HS3.out.num
          have HTW0 : Hid (SameH [(Gk, lk)] (H.drop (n - 0))) := by
            obtain ⟨Gq, lq, h1, h2⟩ := HMD.out.first
            rw [HNUM.out] at h1
            obtain ⟨bk, hmk⟩ := HK4.out.made
            have h1 : H.drop (n - 0) = [(Gq, lq)] := h1
            rw [h1]
            exact Lib.hid ⟨hmk.1.trans h2.symm, trivial⟩
          clear hb4 hK HNW
          go_wp2_with fail
          go_loopw [12] (fun i wr => ∃ (r q : Nat) (K : List (Nat × List DX)), Hid (r = q + 1) ∧ r ≤ n + 1 ∧ i = .int .i64 r ∧ HSome w3.heap.size wr hk q (flsX t) K ∧ SameH K (H.drop (n - q)) ∧ Below w3.heap.size w3 wr) (fun i _ => n + 1 - (intOf i).toNat)
          case atStart => exact ⟨1, 0, _, Lib.hid rfl, by omega, rfl, HK4.out, HTW0.out, HB4.out⟩
          case round =>
            clear HK4 HTW0 HB4
            obtain ⟨r, q, K, hrq, hrn, rfl, hK, htw, hbr⟩ := hrel
            have HBR2 := Lib.hid hbr
            have HK := Lib.hid hK
            have HTW := Lib.hid htw
            have HS4 := Lib.hid (HS3.out.below hbr)
            have HHD := Lib.hid HS4.out.head
            clear hbr hK htw
            by_cases h1 : r ≤ n
            · have k1 : (r : Int) ≤ (n : Int) := by omega
              have H1 := Lib.hid h1
              clear h1 hrn
              go_wp2_with fail
              refine HHD.out.mono ?_
              rintro e w9 ⟨rfl, hw9⟩
              have hw9 := hw9.symm
              subst hw9
              go_wp2_with fail
              obtain ⟨⟨Gr, L⟩, hG⟩ : ∃ x, H[n - r]? = some x := ⟨_, List.getElem?_eq_getElem (by have := HNUM.out; omega)⟩
              have HGR := Lib.hid hG
              have HDL := Lib.hid (HS4.out.deltasR (r := r) (by have := hrq.out; omega) H1.out (by have := HN25.out; omega) hG)
              have hj1 : n - r + 1 = n - q := by have := hrq.out; have := H1.out; omega
              have hj2 : n - r + 1 < H.length := by have := HNUM.out; have := hrq.out; have := H1.out; omega
              have HJ1 := Lib.hid hj1
              have HJ2 := Lib.hid hj2
              clear hG hj1 hj2
              refine HDL.out.mono ?_
              rintro e w5 ⟨v, ld, rfl, hdl, hlm, hb5⟩
              obtain ⟨Ad, cd, e, _⟩ := hdl.dels
              subst e
              have HB5 := Lib.hid (HBR2.out.trans (hb5.mono HBR2.out.size))
              have HLM := Lib.hid hlm
              have hK5 := HK.out.below hb5
              have HK5 := Lib.hid hK5
              have HS5 := Lib.hid (HS4.out.below hb5)
              have HCM := Lib.hid (hK5.commit HB5.out (by have := hrq.out; have := HN25.out; have := H1.out; omega) ld Ad cd (DelsKeep.own hdl hK5.lb.2) (SmallD.same hlm (HS5.out.sm _ (List.mem_of_getElem? HGR.out))) (HM.out.below HB3.out))
              have hln := again_ne HMD.out HJ2.out HGR.out hlm
              have kln : ((ld.length : Int) == 0) = false := by rw [beq_eq_false_iff_ne]; omega
              have HTW2 := Lib.hid (show SameH K (H.drop (n - r + 1)) by rw [HJ1.out]; exact HTW.out)
              clear hdl hlm hb5 hK5 hln HDL
              go_wp2_with fail
              refine HCM.out.mono ?_
              intro e w6 hp
              rcases hp with ⟨q2, _, hap, _, _⟩ | ⟨G6, he, hK6, hb6⟩
              · exact (again_ok HMD.out HJ2.out HGR.out HTW2.out HLM.out hap).elim
              have hqr : ((q + 1 : Nat) : Int) = (r : Int) := by have := hrq.out; omega
              rw [hqr] at he
              subst he
              have HB6 := Lib.hid (HB5.out.trans hb6)
              have HS6 := Lib.hid (HS3.out.below HB6.out)
              have HK6 := Lib.hid hK6
              have HAT1 := Lib.hid (HS6.out.atR (r := r) H1.out (by have := HN25.out; omega))
              have HTW6 := Lib.hid (again_same (G' := G6) (Nat.lt_of_succ_lt HJ2.out) HGR.out HTW2.out HLM.out)
              clear hqr hK6 hb6 HCM
              go_wp2_with fail
              refine HAT1.out.mono ?_
              rintro e w7 ⟨v, fa, rfl, hta, hia, hla, hb7⟩
              obtain ⟨Aa, ca, rfl⟩ := hta.own.slice
              have HTA := Lib.hid hta
              have HIA := Lib.hid hia
              have HLA := Lib.hid hla
              have HB7 := Lib.hid (HB6.out.trans (hb7.mono HB6.out.size))
              have HK7 := Lib.hid (HK6.out.below hb7)
              have HAT2 := Lib.hid (HK7.out.atR (r := r) (by have := hrq.out; omega) (by have := hrq.out; have := HN25.out; have := H1.out; omega))
              clear hta hia hla hb7 HAT1
              go_wp2_with fail
              refine HAT2.out.mono ?_
              rintro e w8 ⟨v, fb, rfl, htb, hib, hlb, hb8⟩
              obtain ⟨Ab, cb, rfl⟩ := htb.own.slice
              have HB8 := Lib.hid (HB7.out.trans (hb8.mono HB7.out.size))
              have HK8 := Lib.hid (HK7.out.below hb8)
              have hsame := refsameG_any fa fb Aa Ab ca cb w8 ((HTA.out.below hb8).tree.2) htb.tree.2 HLA.out hlb
              have heq := again_tree (by rw [List.length_drop]; have := HNUM.out; have := H1.out; omega) HTW6.out HIA.out hib
              rw [decide_eq_true heq] at hsame
              have HSA := Lib.hid hsame
              clear hsame heq htb hib hlb hb8 HAT2
              go_wp2_with fail
              refine HSA.out.mono ?_
              rintro e w10 ⟨rfl, hb10⟩
              have HB10 := Lib.hid (HB8.out.trans (hb10.mono HB8.out.size))
              have HK10 := Lib.hid (HK8.out.below hb10)
              have HR26 : r ≤ 26 := by have := H1.out; have := HN25.out; omega
              have HTW7 : SameH ((G6, ld) :: K) (H.drop (n - (q + 1))) := by rw [← show n - r = n - (q + 1) by rw [hrq.out]]; exact HTW6.out
              have HTW8 := Lib.hid HTW7
              clear hb10 HTW7
              go_wp2_with fail
              go_roundw
              case rel => exact ⟨r + 1, q + 1, _, Lib.hid (by have := hrq.out; omega), by have := H1.out; omega, by go_num, HK10.out, HTW8.out, HB10.out⟩
              case measure => have := H1.out; simp [intOf]; omega
            · have k1 : ¬ (r : Int) ≤ (n : Int) := by omega
              obtain rfl : q = n := by have := hrq.out; omega
              have HHK := Lib.hid HK.out.head
              have k2 : ((q : Int) == (q : Int)) = true := by simp
              clear hrn h1
              go_wp2_with fail
              refine HHD.out.mono ?_
              rintro e w9 ⟨rfl, hw9⟩
              have hw9 := hw9.symm
              subst hw9
              go_wp2_with fail
              refine HHK.out.mono ?_
              rintro e w9 ⟨rfl, hw9⟩
              have hw9 := hw9.symm
              subst hw9
              go_wp2_with fail
              refine HHD.out.mono ?_
              rintro e w9 ⟨rfl, hw9⟩
              have hw9 := hw9.symm
              subst hw9
              go_wp2_with fail
              refine (hrefhead_any wr).mono ?_
              rintro e w10 ⟨rfl, hb10⟩
              have HB10 := Lib.hid (HB3.out.trans ((HBR2.out.trans (hb10.mono HBR2.out.size)).mono HB3.out.size))
              clear hb10
              go_wp2_with fail
              refine (HKN.out w10 HB10.out).mono ?_
              rintro e w11 ⟨rfl, hb11⟩
              have HB11 := Lib.hid (HB10.out.trans (hb11.mono HB10.out.size))
              clear hb11
              go_wp2_with fail
              go_ret
              exact ⟨rfl, HB11.out⟩
end Go.Proofs.YtkhkjgghnicipaaDoor
