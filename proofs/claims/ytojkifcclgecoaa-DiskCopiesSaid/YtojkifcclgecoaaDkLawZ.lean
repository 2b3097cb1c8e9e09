/-
  The law DiskCopies, walked.
-/
import Derived.Test.YtojkifcclgecoaaDkLawS
namespace Go.Proofs.Ytojkifcclgecoaa.Dk
open Go Go.RowKit Go.Shelf Go.Proofs

set_option maxRecDepth 100000 in
set_option maxHeartbeats 32000000 in
theorem diskcopies_any (A0 A1 : Option Addr) (c0 c1 : Nat) (l0 l1 : List JX) (w : World) (h0 : JDosAt w A0 c0 l0) (h1 : JDosAt w A1 c1 l1) :
    Calls Try.prog 8 #[.slice A0 l0.length c0, .slice A1 l1.length c1] w fun e w' => e = .returned (.bool true) ∧ Below w.heap.size w w' := by
  have R0 := Lib.hid (jdos_at h0)
  have R1 := Lib.hid (jdos_at h1)
  have HE0 := Lib.hid h0.each
  have HE1 := Lib.hid h1.each
  have HSM0 := Lib.hid (jsmall_any A0 c0 l0 w h0)
  have HSM1 := Lib.hid (jsmall_any A1 c1 l1 w h1)
  have hcp0 := h0.cap
  have hcm0 := h0.capm
  have hcm0 : c0 ≤ 9223372036854775807 := by unfold maxLen at hcm0; omega
  have hcp1 := h1.cap
  have hcm1 := h1.capm
  have hcm1 : c1 ≤ 9223372036854775807 := by unfold maxLen at hcm1; omega
  clear h0 h1
  by_cases hs0 : l0.length ≤ 50 ∧ jlong l0 ≤ 1500
  · rw [decide_eq_true hs0] at HSM0
    by_cases hs1 : l1.length ≤ 50 ∧ jlong l1 ≤ 1500
    · rw [decide_eq_true hs1] at HSM1
      obtain ⟨h50, h1500⟩ := hs0
      have HU0 := Lib.hid h1500
      obtain ⟨h51, h1501⟩ := hs1
      have HU1 := Lib.hid (show jlong l1 ≤ 1500 ∧ jlong l0 ≤ 1500 from ⟨h1501, h1500⟩)
      clear h1500 h1501
      go_enter Try.func8, Try.ntmps8
      go_wp2_with fail
      refine HSM0.out.mono ?_
      rintro e w' ⟨rfl, hw⟩
      have hw := hw.symm
      subst hw
      go_wp2_with fail
      refine HSM1.out.mono ?_
      rintro e w' ⟨rfl, hw⟩
      have hw := hw.symm
      subst hw
      have HN := Lib.hid (new_ds w 3 300)
      obtain ⟨D0, hD0⟩ : ∃ D, DDk.new 3 300 = D := ⟨_, rfl⟩
      rw [hD0] at HN
      have HD0 := Lib.hid hD0
      clear HSM0 HSM1 hD0
      go_wp2_with fail
      refine HN.out.mono ?_
      rintro e w1 ⟨g, rfl, who1, hD1, ht1⟩
      have HN1 := Lib.hid (rnew_any w1 3 300)
      rw [HD0.out] at HN1
      have HD1 := Lib.hid hD1
      have HT1 := Lib.hid (ht1.wider (Nat.le_refl 1) (show 27 ≤ 300 by omega))
      clear hD1 ht1 HN
      go_wp2_with fail
      refine HN1.out.mono ?_
      rintro e w2 ⟨t2, rfl, hb2, h2⟩
      have hrz2 := RefZ.new HD1.out.fresh h2
      have hd2 := HD1.out.below hb2
      have ht2 := HT1.out.trans (Turn.below hb2)
      have htg := tag1_turn (who := who1) (w := w2) 200 201 200 (.cells #[.slice t2.A t2.R.length t2.c, .int .i64 (D0.room : Int), .bool D0.pw.isSome, .int .i64 t2.q, .bool D0.dead] 57)
      have hal := heap_alloc_new w2 (.cells #[.slice t2.A t2.R.length t2.c, .int .i64 (D0.room : Int), .bool D0.pw.isSome, .int .i64 t2.q, .bool D0.dead] 57)
      have hfr := tag1_fresh hd2.fresh 200 (.cells #[.slice t2.A t2.R.length t2.c, .int .i64 (D0.room : Int), .bool D0.pw.isSome, .int .i64 t2.q, .bool D0.dead] 57)
      obtain ⟨w3, hw3⟩ : ∃ w3, w2.alloc (.cells #[.slice t2.A t2.R.length t2.c, .int .i64 (D0.room : Int), .bool D0.pw.isSome, .int .i64 t2.q, .bool D0.dead] 57) = w3 := ⟨_, rfl⟩
      rw [hw3] at htg hal hfr
      have HW3 := Lib.hid hw3
      have HD3 := Lib.hid (ds_turn hd2 htg hfr (by omega) (.inr (by omega)))
      have HRZ3 := Lib.hid (hrz2.turn htg (by omega))
      have HC3 := Lib.hid (show _ ∧ _ from ⟨hal, (show tag1 who1 w2.heap.size 200 w2.heap.size = 200 from if_pos rfl)⟩)
      have HT3 := Lib.hid (ht2.trans (htg.wider (by omega) (show 201 ≤ 300 by omega)))
      clear hrz2 hd2 ht2 htg hal hfr hw3 hb2 h2 HN1 HD1 HT1
      unfold RT.v
      go_upto_region 5 with (fail)
      rw [HW3.out]
      go_wp2_with fail
      go_loopw [7] (fun iv wr => ∃ (i : Nat) (D : DDk) (t : RT) (who : Nat → Nat), i ≤ l0.length ∧ iv = .int .i64 i ∧ Hid (DS w.heap.size who wr 1 g D (jlong (l0.take i))) ∧ Hid (wr.heap[w2.heap.size]? = some (.cells #[.slice t.A t.R.length t.c, .int .i64 (D.room : Int), .bool D.pw.isSome, .int .i64 t.q, .bool D.dead] 57 (0, 0)) ∧ who w2.heap.size = 200) ∧ Hid (RefZ who wr t D) ∧ Hid (Turn 1 300 (fun _ => 0) w who wr)) (fun iv _ => l0.length - (intOf iv).toNat)
      case atStart => exact ⟨0, D0, t2, _, Nat.zero_le _, rfl, HD3, HC3, HRZ3, HT3⟩
      case round =>
        obtain ⟨wc, hwc⟩ : ∃ wc, wc = wr := ⟨_, rfl⟩
        subst hwc
        obtain ⟨i, D, t, who, hi, rfl, HD, HC, HRZ, HT⟩ := hrel
        by_cases k1 : i < l0.length
        · obtain ⟨g0, o0, x, rfl, hx, hW⟩ := R0.out i k1
          have k2 : (i : Int) < (l0.length : Int) := by omega
          have k3 : (i : Int) < (c0 : Int) := by omega
          have HCX := Lib.hid hW
          have hok := HE0.out x (List.mem_of_getElem? hx)
          have HXN := Lib.hid hok.n
          have hsn := jlong_snoc hx
          have hle := jlong_take l0 (i + 1)
          have hU2 := HU0.out
          have HSN := Lib.hid hsn
          have hnn : jlong (l0.take i) + 1 + x.b.length ≤ 1500 := by omega
          obtain ⟨n, hn⟩ : ∃ n, jlong (l0.take i) = n := ⟨_, rfl⟩
          have HNN := Lib.hid hn
          rw [hn] at HD hnn
          have hz := HT.out.zero (by omega)
          have hsw := (HCX.out w (Below.refl _ _)).2.2.2.2
          have HDID := Lib.hid (did_any w.heap.size who wc 1 g D n x HD.out (by omega) (by omega) (HCX.out wc hz).2.2.2.2 (hsw.who HT.out) HXN.out)
          have d0 := (HCX.out wc hz).1
          have d1 := (HCX.out wc hz).2.1
          have d2 := (HCX.out wc hz).2.2.1
          have d3 := (HCX.out wc hz).2.2.2.1
          obtain ⟨D5, hD5⟩ : ∃ D5, stepD D x.do = D5 := ⟨_, rfl⟩
          obtain ⟨E5, hE5⟩ : ∃ E5, stepE D x.do = E5 := ⟨_, rfl⟩
          rw [hD5, hE5] at HDID
          have HD5E := Lib.hid (show stepD D x.do = D5 ∧ stepE D x.do = E5 from ⟨hD5, hE5⟩)
          unfold JX.v at HDID
          clear hD5 hE5
          clear hsn hle hU2 hW hx hok hn hz hsw
          go_wp2_with fail
          refine HDID.out.mono ?_
          rintro e w5 ⟨rfl, who5, hd5, ht5⟩
          have hc5 := (ht5.block (w2.heap.size) (Array.getElem?_eq_some_iff.1 HC.out.1).1 (by rw [HC.out.2]; omega)).trans HC.out.1
          have hw5 := (ht5.same (w2.heap.size) (Array.getElem?_eq_some_iff.1 HC.out.1).1).trans HC.out.2
          have hrz5 := HRZ.out.turn ht5 (by omega)
          have hT5 := HT.out.trans (ht5.wider (show 1 ≤ 1 by omega) (show 1 + 26 ≤ 300 by omega))
          have hz5 := hT5.zero (by omega)
          have HST := Lib.hid (fun (W : World) (hb : Below w5.heap.size w5 W) => show Calls Try.prog 31 #[.agg #[.slice t.A t.R.length t.c, .int .i64 (D.room : Int), .bool D.pw.isSome, .int .i64 t.q, .bool D.dead], .agg #[.int .i64 x.k, .int .i64 x.a, .int .i64 x.n, .slice x.A x.b.length x.c]] W (RPE W t D5 E5) from by rw [← HD5E.out.1, ← HD5E.out.2]; exact rstep_any W t D x.do n x.A x.c (hrz5.here.below hb) HD.out.fits ((HCX.out w5 hz5).2.2.2.2.below hb) (by show n + x.b.length ≤ _; omega) (ds_okS HD.out) HXN.out)
          have HD5 := Lib.hid hd5
          have HC5 := Lib.hid hc5
          have HWN5 := Lib.hid hw5
          have HRZ5 := Lib.hid hrz5
          have HT5 := Lib.hid hT5
          skip
          have c0 := cell_of_row w5 _ 0 _ _ _ hc5
          have c1 := cell_of_row w5 _ 1 _ _ _ hc5
          have c2 := cell_of_row w5 _ 2 _ _ _ hc5
          have c3 := cell_of_row w5 _ 3 _ _ _ hc5
          have c4 := cell_of_row w5 _ 4 _ _ _ hc5
          have b0 := (HCX.out w5 hz5).1
          have b1 := (HCX.out w5 hz5).2.1
          have b2 := (HCX.out w5 hz5).2.2.1
          have b3 := (HCX.out w5 hz5).2.2.2.1
          have HKEEP := Lib.hid (show ∀ w' : World, Below w5.heap.size w5 w' → (w'.cell? ⟨w2.heap.size, 0, none⟩ = some (.slice t.A t.R.length t.c) ∧ w'.cell? ⟨w2.heap.size, 1, none⟩ = some (.int .i64 (D.room : Int)) ∧ w'.cell? ⟨w2.heap.size, 2, none⟩ = some (.bool D.pw.isSome) ∧ w'.cell? ⟨w2.heap.size, 3, none⟩ = some (.int .i64 t.q) ∧ w'.cell? ⟨w2.heap.size, 4, none⟩ = some (.bool D.dead) ∧ w'.cell? ⟨g0, o0 + i * 4, none⟩ = some (.int .i64 x.k) ∧ w'.cell? ⟨g0, o0 + i * 4 + 1, none⟩ = some (.int .i64 x.a) ∧ w'.cell? ⟨g0, o0 + i * 4 + 2, none⟩ = some (.int .i64 x.n) ∧ w'.cell? ⟨g0, o0 + i * 4 + 3, none⟩ = some (.slice x.A x.b.length x.c)) from fun W hb =>
            ⟨cell_of_row W _ 0 _ _ _ ((hb.block _ (Array.getElem?_eq_some_iff.1 hc5).1).trans hc5), cell_of_row W _ 1 _ _ _ ((hb.block _ (Array.getElem?_eq_some_iff.1 hc5).1).trans hc5), cell_of_row W _ 2 _ _ _ ((hb.block _ (Array.getElem?_eq_some_iff.1 hc5).1).trans hc5), cell_of_row W _ 3 _ _ _ ((hb.block _ (Array.getElem?_eq_some_iff.1 hc5).1).trans hc5), cell_of_row W _ 4 _ _ _ ((hb.block _ (Array.getElem?_eq_some_iff.1 hc5).1).trans hc5), (HCX.out W (hz5.trans (hb.mono hz5.size))).1, (HCX.out W (hz5.trans (hb.mono hz5.size))).2.1, (HCX.out W (hz5.trans (hb.mono hz5.size))).2.2.1, (HCX.out W (hz5.trans (hb.mono hz5.size))).2.2.2.1⟩)
          clear d0 d1 d2 d3 hc5 hw5 hrz5 hT5 hz5 hd5 ht5 HDID HD HRZ HT HC
          go_wp2_with fail
          refine wp_region_held_drew (S := (fun w' => w'.cell? ⟨w2.heap.size, 0, none⟩ = some (.slice t.A t.R.length t.c) ∧ w'.cell? ⟨w2.heap.size, 1, none⟩ = some (.int .i64 (D.room : Int)) ∧ w'.cell? ⟨w2.heap.size, 2, none⟩ = some (.bool D.pw.isSome) ∧ w'.cell? ⟨w2.heap.size, 3, none⟩ = some (.int .i64 t.q) ∧ w'.cell? ⟨w2.heap.size, 4, none⟩ = some (.bool D.dead) ∧ w'.cell? ⟨g0, o0 + i * 4, none⟩ = some (.int .i64 x.k) ∧ w'.cell? ⟨g0, o0 + i * 4 + 1, none⟩ = some (.int .i64 x.a) ∧ w'.cell? ⟨g0, o0 + i * 4 + 2, none⟩ = some (.int .i64 x.n) ∧ w'.cell? ⟨g0, o0 + i * 4 + 3, none⟩ = some (.slice x.A x.b.length x.c))) (by kernel_rfl) ⟨c0, c1, c2, c3, c4, b0, b1, b2, b3⟩ (fun hHeld => ?_)
          refine wpAnyH_take (i := 0) (v := ?vpg0) rfl (by kernel_rfl) (by kernel_rfl) (by kernel_rfl) (fun _ _ _ h => h) (Or.inl ⟨by rfl, ?ypg0⟩) (by assumption) ?rpg0
          case ypg0 =>
            intro w hSw
            (try dsimp only at hSw)
            go_simp
            first | done | with_reducible rfl
          try simp only [Act.put, List.getElem_toArray, List.getElem_cons_zero, List.setIfInBounds_toArray, List.set_cons_zero, List.set_cons_succ]
          refine wpAnyH_take (i := 1) (v := ?vpg1) rfl (by kernel_rfl) (by kernel_rfl) (by kernel_rfl) (fun _ _ _ h => h) (Or.inl ⟨by rfl, ?ypg1⟩) (by assumption) ?rpg1
          case ypg1 =>
            intro w hSw
            (try dsimp only at hSw)
            go_simp
            first | done | with_reducible rfl
          try simp only [Act.put, List.getElem_toArray, List.getElem_cons_zero, List.getElem_cons_succ, List.setIfInBounds_toArray, List.set_cons_zero, List.set_cons_succ]
          refine wpAnyH_take (i := 2) (v := ?vpg2) rfl (by kernel_rfl) (by kernel_rfl) (by kernel_rfl) (fun _ _ _ h => h) (Or.inl ⟨by rfl, ?ypg2⟩) (by assumption) ?rpg2
          case ypg2 =>
            intro w hSw
            (try dsimp only at hSw)
            go_simp
            first | done | with_reducible rfl
          try simp only [Act.put, List.getElem_toArray, List.getElem_cons_zero, List.getElem_cons_succ, List.setIfInBounds_toArray, List.set_cons_zero, List.set_cons_succ]
          refine wpAnyH_take (i := 3) (v := ?vpg3) rfl (by kernel_rfl) (by kernel_rfl) (by kernel_rfl) (fun _ _ _ h => h) (Or.inl ⟨by rfl, ?ypg3⟩) (by assumption) ?rpg3
          case ypg3 =>
            intro w hSw
            (try dsimp only at hSw)
            go_simp
            first | done | with_reducible rfl
          try simp only [Act.put, List.getElem_toArray, List.getElem_cons_zero, List.getElem_cons_succ, List.setIfInBounds_toArray, List.set_cons_zero, List.set_cons_succ]
          refine wpAnyH_take (i := 4) (v := ?vpg4) rfl (by kernel_rfl) (by kernel_rfl) (by kernel_rfl) (fun _ _ _ h => h) (Or.inl ⟨by rfl, ?ypg4⟩) (by assumption) ?rpg4
          case ypg4 =>
            intro w hSw
            (try dsimp only at hSw)
            go_simp
            first | done | with_reducible rfl
          try simp only [Act.put, List.getElem_toArray, List.getElem_cons_zero, List.getElem_cons_succ, List.setIfInBounds_toArray, List.set_cons_zero, List.set_cons_succ]
          skip
          refine wpAnyH_ready (rs := [5, 9]) (by kernel_rfl) (by simp) ?_
          refine AllReadyH.cons rfl (fun K hK => ?_) (AllReadyH.cons rfl (fun K hK => ?_) AllReadyH.nil)
          · go_simp
            refine (HST.out w5.drew (jn_drewn w5)).mono ?_
            rintro e w6 ⟨t5, rfl, hb6', h6⟩
            have hb6 : Below w5.heap.size w5 w6 := (jn_drewn w5).trans hb6'
            unfold RT.v
            go_wp2_with fail
            refine hK.out _ _ (HKEEP.out w6 hb6) (fun hHeld => ?_)
            clear hK K
            try simp only [Act.put, List.getElem_toArray, List.getElem_cons_zero, List.getElem_cons_succ, List.setIfInBounds_toArray, List.set_cons_zero, List.set_cons_succ]
            refine wpAnyH_take (i := 6) (v := ?vpa6) rfl (by kernel_rfl) (by kernel_rfl) (by kernel_rfl) (fun _ _ _ h => h) (Or.inl ⟨by rfl, ?ypa6⟩) (by assumption) ?rpa6
            case ypa6 =>
              intro w hSw
              (try dsimp only at hSw)
              go_simp
              first | done | with_reducible rfl
            try simp only [Act.put, List.getElem_toArray, List.getElem_cons_zero, List.getElem_cons_succ, List.setIfInBounds_toArray, List.set_cons_zero, List.set_cons_succ]
            refine wpAnyH_take (i := 7) (v := ?vpa7) rfl (by kernel_rfl) (by kernel_rfl) (by kernel_rfl) (fun _ _ _ h => h) (Or.inl ⟨by rfl, ?ypa7⟩) (by assumption) ?rpa7
            case ypa7 =>
              intro w hSw
              (try dsimp only at hSw)
              go_simp
              first | done | with_reducible rfl
            try simp only [Act.put, List.getElem_toArray, List.getElem_cons_zero, List.getElem_cons_succ, List.setIfInBounds_toArray, List.set_cons_zero, List.set_cons_succ]
            refine wpAnyH_take (i := 8) (v := ?vpa8) rfl (by kernel_rfl) (by kernel_rfl) (by kernel_rfl) (fun _ _ _ h => h) (Or.inl ⟨by rfl, ?ypa8⟩) (by assumption) ?rpa8
            case ypa8 =>
              intro w hSw
              (try dsimp only at hSw)
              go_simp
              first | done | with_reducible rfl
            try simp only [Act.put, List.getElem_toArray, List.getElem_cons_zero, List.getElem_cons_succ, List.setIfInBounds_toArray, List.set_cons_zero, List.set_cons_succ]
            skip
            refine wpAnyH_ready (rs := [9]) (by kernel_rfl) (by simp) ?_
            refine AllReadyH.cons rfl (fun K hK => ?_) AllReadyH.nil
            go_simp
            have hz7 := heap_alloc_new w6 (.cells #[.slice none 0 0, .int .i64 0, .bool false, .int .i64 0, .bool false] 57)
            have hba : Below w6.heap.size w6 (w6.alloc (.cells #[.slice none 0 0, .int .i64 0, .bool false, .int .i64 0, .bool false] 57)) := (Below.refl _ _).alloc (Nat.le_refl _) _
            obtain ⟨w7, hv⟩ : ∃ V, w6.alloc (.cells #[.slice none 0 0, .int .i64 0, .bool false, .int .i64 0, .bool false] 57) = V := ⟨_, rfl⟩
            rw [hv] at hz7 hba ⊢
            have hb7 : Below w5.heap.size w5 w7 := hb6.trans (hba.mono hb6.size)
            refine hK.out _ _ (HKEEP.out w7 hb7) (fun hHeld => ?_)
            clear hK K
            try simp only [Act.put, List.getElem_toArray, List.getElem_cons_zero, List.getElem_cons_succ, List.setIfInBounds_toArray, List.set_cons_zero, List.set_cons_succ]
            refine wpAnyH_ready (rs := [10]) (by kernel_rfl) (by simp) ?_
            refine AllReadyH.cons rfl (fun K hK => ?_) AllReadyH.nil
            refine wp_store_mid 57 (.tmp 8) (.tmp 47) rfl (w6.heap.size) 0 #[.slice t5.A t5.R.length t5.c, .int .i64 (D5.room : Int), .bool D5.pw.isSome, .int .i64 t5.q, .bool D5.dead] rfl rfl (fun j hj => there5 hz7 hj) (by kernel_rfl) (by simp [Value.oneCell']) ?_
            have hst := store5 hz7 (.slice t5.A t5.R.length t5.c) (.int .i64 (D5.room : Int)) (.bool D5.pw.isSome) (.int .i64 t5.q) (.bool D5.dead)
            obtain ⟨w8, hw8⟩ : ∃ w8, w7.setCells (w6.heap.size) 0 [.slice t5.A t5.R.length t5.c, .int .i64 (D5.room : Int), .bool D5.pw.isSome, .int .i64 t5.q, .bool D5.dead] = w8 := ⟨_, rfl⟩
            rw [show (#[Value.slice t5.A t5.R.length t5.c, .int .i64 (D5.room : Int), .bool D5.pw.isSome, .int .i64 t5.q, .bool D5.dead] : Array Value).toList = [.slice t5.A t5.R.length t5.c, .int .i64 (D5.room : Int), .bool D5.pw.isSome, .int .i64 t5.q, .bool D5.dead] from rfl, hw8]
            rw [hw8] at hst
            have hbu := hst.1
            have ho8 := hst.2
            have hb8 : Below w5.heap.size w5 w8 := only_below hb7 ho8 (by have := hb6.size; omega)
            refine hK.out _ _ (HKEEP.out w8 hb8) (fun hHeld => ?_)
            clear hK K
            try simp only [Act.put, List.getElem_toArray, List.getElem_cons_zero, List.getElem_cons_succ]
            refine wpAnyH_take (i := 11) (v := ?vpsa11) rfl (by kernel_rfl) (by kernel_rfl) (by kernel_rfl) (fun _ _ _ h => h) (Or.inl ⟨by rfl, ?ypsa11⟩) (by assumption) ?rpsa11
            case ypsa11 =>
              intro w hSw
              (try dsimp only at hSw)
              go_simp
              first | done | with_reducible rfl
            try simp only [Act.put, List.getElem_toArray, List.getElem_cons_zero, List.getElem_cons_succ, List.setIfInBounds_toArray, List.set_cons_zero, List.set_cons_succ]
            skip
            refine wpAnyH_done (by kernel_rfl) ?_ _
            have hrz8 : RefZ who5 w8 t5 D5 := HRZ5.out.step2 HD5.out.fresh hb8 h6 (Nat.le_refl _) (fun b h1 h2 => ⟨(ho8.block b (by omega)).trans (hba.block b h2), by have := hba.size; rw [ho8.size]; omega⟩)
            have hN5 := (Array.getElem?_eq_some_iff.1 HC5.out).1
            have hc8 := (hb8.block (w2.heap.size) hN5).trans HC5.out
            have u0 := cell_of_row w8 _ 0 _ _ _ hbu
            have u1 := cell_of_row w8 _ 1 _ _ _ hbu
            have u2 := cell_of_row w8 _ 2 _ _ _ hbu
            have u3 := cell_of_row w8 _ 3 _ _ _ hbu
            have u4 := cell_of_row w8 _ 4 _ _ _ hbu
            obtain ⟨w9, hY, hY1, ho9, r0, r1, r2, r3, r4, f0, f1, f2, f3, f4⟩ := ret5 hc8 (.slice t5.A t5.R.length t5.c) (.int .i64 (D5.room : Int)) (.bool D5.pw.isSome) (.int .i64 t5.q) (.bool D5.dead)
            have HW9 := Lib.hid hY
            have HC9 := Lib.hid hY1
            have hd8 := HD5.out.below hb8
            have ht9 := only_turn ho9 HWN5.out
            have hf9 := hd8.fresh.size (show w8.heap.size ≤ w9.heap.size by rw [ho9.size]; exact Nat.le_refl _)
            have HD9 := Lib.hid (ds_turn hd8 ht9 hf9 (by omega) (.inr (by omega)))
            have HRZ9 := Lib.hid (hrz8.turn ht9 (by omega))
            have HT9 := Lib.hid ((HT5.out.trans (Turn.below hb8)).trans (ht9.wider (by omega) (show 200 + 1 ≤ 300 by omega)))
            skip
            clear hN5 hc8 hY hY1 hd8 ht9 hf9 hrz8 hbu ho8
            go_upto_region 7 with (fail)
            rw [HW9.out]
            go_wp2_with fail
            go_roundw
            case rel => exact ⟨i + 1, D5, t5, who5, by omega, by go_num, (show DS _ _ _ _ _ _ _ from by rw [HSN.out, HNN.out, Nat.add_assoc]; exact HD9.out), (show _ ∧ _ from ⟨HC9.out, HWN5.out⟩), HRZ9, HT9⟩
            case measure => simp [intOf]; omega
          · go_simp
            have hz6 : ((w5.alloc (.cells #[.slice none 0 0, .int .i64 0, .bool false, .int .i64 0, .bool false] 57)).drew).heap[w5.heap.size]? = _ := heap_alloc_new w5 (.cells #[.slice none 0 0, .int .i64 0, .bool false, .int .i64 0, .bool false] 57)
            have hb0 : Below w5.heap.size w5 (w5.alloc (.cells #[.slice none 0 0, .int .i64 0, .bool false, .int .i64 0, .bool false] 57)) := (Below.refl _ _).alloc (Nat.le_refl _) _
            have hb6 : Below w5.heap.size w5 ((w5.alloc (.cells #[.slice none 0 0, .int .i64 0, .bool false, .int .i64 0, .bool false] 57)).drew) := hb0.trans ((jn_drewn _).mono hb0.size)
            have hsz : ((w5.alloc (.cells #[.slice none 0 0, .int .i64 0, .bool false, .int .i64 0, .bool false] 57)).drew).heap.size = w5.heap.size + 1 := by show (w5.alloc _).heap.size = _; simp
            obtain ⟨w6, hv⟩ : ∃ V, (w5.alloc (.cells #[.slice none 0 0, .int .i64 0, .bool false, .int .i64 0, .bool false] 57)).drew = V := ⟨_, rfl⟩
            rw [hv] at hz6 hb6 hsz ⊢
            clear hb0
            refine hK.out _ _ (HKEEP.out w6 hb6) (fun hHeld => ?_)
            clear hK K
            try simp only [Act.put, List.getElem_toArray, List.getElem_cons_zero, List.getElem_cons_succ, List.setIfInBounds_toArray, List.set_cons_zero, List.set_cons_succ]
            refine wpAnyH_ready (rs := [5]) (by kernel_rfl) (by simp) ?_
            refine AllReadyH.cons rfl (fun K hK => ?_) AllReadyH.nil
            go_simp
            refine (HST.out w6 hb6).mono ?_
            rintro e w7 ⟨t5, rfl, hb7', h7⟩
            have hb7 : Below w5.heap.size w5 w7 := hb6.trans (hb7'.mono hb6.size)
            have hz7 := (hb7'.block w5.heap.size (by omega)).trans hz6
            unfold RT.v
            go_wp2_with fail
            refine hK.out _ _ (HKEEP.out w7 hb7) (fun hHeld => ?_)
            clear hK K
            try simp only [Act.put, List.getElem_toArray, List.getElem_cons_zero, List.getElem_cons_succ, List.setIfInBounds_toArray, List.set_cons_zero, List.set_cons_succ]
            refine wpAnyH_take (i := 6) (v := ?vpb6) rfl (by kernel_rfl) (by kernel_rfl) (by kernel_rfl) (fun _ _ _ h => h) (Or.inl ⟨by rfl, ?ypb6⟩) (by assumption) ?rpb6
            case ypb6 =>
              intro w hSw
              (try dsimp only at hSw)
              go_simp
              first | done | with_reducible rfl
            try simp only [Act.put, List.getElem_toArray, List.getElem_cons_zero, List.getElem_cons_succ, List.setIfInBounds_toArray, List.set_cons_zero, List.set_cons_succ]
            refine wpAnyH_take (i := 7) (v := ?vpb7) rfl (by kernel_rfl) (by kernel_rfl) (by kernel_rfl) (fun _ _ _ h => h) (Or.inl ⟨by rfl, ?ypb7⟩) (by assumption) ?rpb7
            case ypb7 =>
              intro w hSw
              (try dsimp only at hSw)
              go_simp
              first | done | with_reducible rfl
            try simp only [Act.put, List.getElem_toArray, List.getElem_cons_zero, List.getElem_cons_succ, List.setIfInBounds_toArray, List.set_cons_zero, List.set_cons_succ]
            refine wpAnyH_take (i := 8) (v := ?vpb8) rfl (by kernel_rfl) (by kernel_rfl) (by kernel_rfl) (fun _ _ _ h => h) (Or.inl ⟨by rfl, ?ypb8⟩) (by assumption) ?rpb8
            case ypb8 =>
              intro w hSw
              (try dsimp only at hSw)
              go_simp
              first | done | with_reducible rfl
            try simp only [Act.put, List.getElem_toArray, List.getElem_cons_zero, List.getElem_cons_succ, List.setIfInBounds_toArray, List.set_cons_zero, List.set_cons_succ]
            skip
            refine wpAnyH_ready (rs := [10]) (by kernel_rfl) (by simp) ?_
            refine AllReadyH.cons rfl (fun K hK => ?_) AllReadyH.nil
            refine wp_store_mid 57 (.tmp 8) (.tmp 47) rfl (w5.heap.size) 0 #[.slice t5.A t5.R.length t5.c, .int .i64 (D5.room : Int), .bool D5.pw.isSome, .int .i64 t5.q, .bool D5.dead] rfl rfl (fun j hj => there5 hz7 hj) (by kernel_rfl) (by simp [Value.oneCell']) ?_
            have hst := store5 hz7 (.slice t5.A t5.R.length t5.c) (.int .i64 (D5.room : Int)) (.bool D5.pw.isSome) (.int .i64 t5.q) (.bool D5.dead)
            obtain ⟨w8, hw8⟩ : ∃ w8, w7.setCells (w5.heap.size) 0 [.slice t5.A t5.R.length t5.c, .int .i64 (D5.room : Int), .bool D5.pw.isSome, .int .i64 t5.q, .bool D5.dead] = w8 := ⟨_, rfl⟩
            rw [show (#[Value.slice t5.A t5.R.length t5.c, .int .i64 (D5.room : Int), .bool D5.pw.isSome, .int .i64 t5.q, .bool D5.dead] : Array Value).toList = [.slice t5.A t5.R.length t5.c, .int .i64 (D5.room : Int), .bool D5.pw.isSome, .int .i64 t5.q, .bool D5.dead] from rfl, hw8]
            rw [hw8] at hst
            have hbu := hst.1
            have ho8 := hst.2
            have hb8 : Below w5.heap.size w5 w8 := only_below hb7 ho8 (by have := hb6.size; omega)
            refine hK.out _ _ (HKEEP.out w8 hb8) (fun hHeld => ?_)
            clear hK K
            try simp only [Act.put, List.getElem_toArray, List.getElem_cons_zero, List.getElem_cons_succ]
            refine wpAnyH_take (i := 11) (v := ?vpsb11) rfl (by kernel_rfl) (by kernel_rfl) (by kernel_rfl) (fun _ _ _ h => h) (Or.inl ⟨by rfl, ?ypsb11⟩) (by assumption) ?rpsb11
            case ypsb11 =>
              intro w hSw
              (try dsimp only at hSw)
              go_simp
              first | done | with_reducible rfl
            try simp only [Act.put, List.getElem_toArray, List.getElem_cons_zero, List.getElem_cons_succ, List.setIfInBounds_toArray, List.set_cons_zero, List.set_cons_succ]
            skip
            refine wpAnyH_done (by kernel_rfl) ?_ _
            have hrz8 : RefZ who5 w8 t5 D5 := HRZ5.out.step2 HD5.out.fresh hb8 h7 (by omega) (fun b h1 h2 => ⟨ho8.block b (by omega), by rw [ho8.size]; omega⟩)
            have hN5 := (Array.getElem?_eq_some_iff.1 HC5.out).1
            have hc8 := (hb8.block (w2.heap.size) hN5).trans HC5.out
            have u0 := cell_of_row w8 _ 0 _ _ _ hbu
            have u1 := cell_of_row w8 _ 1 _ _ _ hbu
            have u2 := cell_of_row w8 _ 2 _ _ _ hbu
            have u3 := cell_of_row w8 _ 3 _ _ _ hbu
            have u4 := cell_of_row w8 _ 4 _ _ _ hbu
            obtain ⟨w9, hY, hY1, ho9, r0, r1, r2, r3, r4, f0, f1, f2, f3, f4⟩ := ret5 hc8 (.slice t5.A t5.R.length t5.c) (.int .i64 (D5.room : Int)) (.bool D5.pw.isSome) (.int .i64 t5.q) (.bool D5.dead)
            have HW9 := Lib.hid hY
            have HC9 := Lib.hid hY1
            have hd8 := HD5.out.below hb8
            have ht9 := only_turn ho9 HWN5.out
            have hf9 := hd8.fresh.size (show w8.heap.size ≤ w9.heap.size by rw [ho9.size]; exact Nat.le_refl _)
            have HD9 := Lib.hid (ds_turn hd8 ht9 hf9 (by omega) (.inr (by omega)))
            have HRZ9 := Lib.hid (hrz8.turn ht9 (by omega))
            have HT9 := Lib.hid ((HT5.out.trans (Turn.below hb8)).trans (ht9.wider (by omega) (show 200 + 1 ≤ 300 by omega)))
            skip
            clear hN5 hc8 hY hY1 hd8 ht9 hf9 hrz8 hbu ho8
            go_upto_region 7 with (fail)
            rw [HW9.out]
            go_wp2_with fail
            go_roundw
            case rel => exact ⟨i + 1, D5, t5, who5, by omega, by go_num, (show DS _ _ _ _ _ _ _ from by rw [HSN.out, HNN.out, Nat.add_assoc]; exact HD9.out), (show _ ∧ _ from ⟨HC9.out, HWN5.out⟩), HRZ9, HT9⟩
            case measure => simp [intOf]; omega

        · obtain rfl : i = l0.length := by omega
          rw [List.take_length] at HD
          have HCY := Lib.hid (copy_any w.heap.size who wc 1 60 g D _ HD.out (by have := HU0.out; omega) (by omega))
          have hct := HC.out
          go_wp2_with fail
          refine HCY.out.mono ?_
          rintro e w11 ⟨gc, rfl, who6, hdc, hb6, hsame⟩
          have ht6 : Turn 60 86 who wc who6 w11 := ⟨hb6.os, hb6.tape, hb6.output, hb6.size, fun b hb _ => hb6.block b hb, hsame⟩
          have hct6 := (hb6.block w2.heap.size (Array.getElem?_eq_some_iff.1 hct.1).1).trans hct.1
          have hwt6 := (hsame w2.heap.size (Array.getElem?_eq_some_iff.1 hct.1).1).trans hct.2
          have hrz6 := HRZ.out.turn ht6 (by omega)
          have hdd6 := ds_turn HD.out ht6 hdc.fresh (by omega) (.inr (by omega))
          have htg := tag1_turn (who := who6) (w := w11) 230 231 230 (.cells #[.slice t.A t.R.length t.c, .int .i64 (D.room : Int), .bool D.pw.isSome, .int .i64 t.q, .bool D.dead] 57)
          have hal := heap_alloc_new w11 (.cells #[.slice t.A t.R.length t.c, .int .i64 (D.room : Int), .bool D.pw.isSome, .int .i64 t.q, .bool D.dead] 57)
          have hfr := tag1_fresh hdc.fresh 230 (.cells #[.slice t.A t.R.length t.c, .int .i64 (D.room : Int), .bool D.pw.isSome, .int .i64 t.q, .bool D.dead] 57)
          have y0 := cell_of_row w11 _ 0 _ _ _ hct6
          have y1 := cell_of_row w11 _ 1 _ _ _ hct6
          have y2 := cell_of_row w11 _ 2 _ _ _ hct6
          have y3 := cell_of_row w11 _ 3 _ _ _ hct6
          have y4 := cell_of_row w11 _ 4 _ _ _ hct6
          obtain ⟨w12, hw12⟩ : ∃ w12, w11.alloc (.cells #[.slice t.A t.R.length t.c, .int .i64 (D.room : Int), .bool D.pw.isSome, .int .i64 t.q, .bool D.dead] 57) = w12 := ⟨_, rfl⟩
          rw [hw12] at htg hal hfr
          have HW12 := Lib.hid hw12
          have HDC12 := Lib.hid (ds_turn hdc htg hfr (by omega) (.inr (by omega)))
          have HDd12 := Lib.hid (ds_turn hdd6 htg hfr (by omega) (.inr (by omega)))
          have HRZ12 := Lib.hid (hrz6.turn htg (by omega))
          have HC12 := Lib.hid (show _ ∧ _ from ⟨hal, (show tag1 who6 w11.heap.size 230 w11.heap.size = 230 from if_pos rfl)⟩)
          have HCt12 := Lib.hid (show _ ∧ _ from ⟨(htg.block w2.heap.size (Array.getElem?_eq_some_iff.1 hct6).1 (by rw [hwt6]; omega)).trans hct6, (htg.same w2.heap.size (Array.getElem?_eq_some_iff.1 hct6).1).trans hwt6⟩)
          have HT12 := Lib.hid ((HT.out.trans (ht6.wider (by omega) (show 86 ≤ 300 by omega))).trans (htg.wider (by omega) (show 231 ≤ 300 by omega)))
          clear hct ht6 hct6 hwt6 hrz6 hdd6 htg hal hfr hw12 hdc hb6 hsame HCY HD HC HRZ HT
          go_upto_region 13 with (fail)
          rw [HW12.out]
          go_wp2_with fail
          go_loopw [12] (fun iv wr => ∃ (i : Nat) (DC : DDk) (tv : RT) (who : Nat → Nat), i ≤ l1.length ∧ iv = .int .i64 i ∧ Hid (DS w.heap.size who wr 60 gc DC (jlong l0 + jlong (l1.take i))) ∧ Hid (wr.heap[w11.heap.size]? = some (.cells #[.slice tv.A tv.R.length tv.c, .int .i64 (DC.room : Int), .bool DC.pw.isSome, .int .i64 tv.q, .bool DC.dead] 57 (0, 0)) ∧ who w11.heap.size = 230) ∧ Hid (RefZ who wr tv DC) ∧ Hid (Turn 1 300 (fun _ => 0) w who wr) ∧ Hid (DS w.heap.size who wr 1 g D (jlong l0)) ∧ Hid (wr.heap[w2.heap.size]? = some (.cells #[.slice t.A t.R.length t.c, .int .i64 (D.room : Int), .bool D.pw.isSome, .int .i64 t.q, .bool D.dead] 57 (0, 0)) ∧ who w2.heap.size = 200) ∧ Hid (RefZ who wr t D)) (fun iv _ => l1.length - (intOf iv).toNat)
          case atStart => exact ⟨0, D, t, _, Nat.zero_le _, rfl, HDC12, HC12, HRZ12, HT12, HDd12, HCt12, HRZ12⟩
          case round =>
            obtain ⟨wd, hwd⟩ : ∃ wd, wd = wr := ⟨_, rfl⟩
            subst hwd
            obtain ⟨i, DC, tv, who, hi, rfl, HD, HC, HRZ, HT, HDd, HCt, HRZt⟩ := hrel
            by_cases k1 : i < l1.length
            · obtain ⟨g0, o0, x, rfl, hx, hW⟩ := R1.out i k1
              have k2 : (i : Int) < (l1.length : Int) := by omega
              have k3 : (i : Int) < (c1 : Int) := by omega
              have HCX := Lib.hid hW
              have hok := HE1.out x (List.mem_of_getElem? hx)
              have HXN := Lib.hid hok.n
              have hsn := jlong_snoc hx
              have hle := jlong_take l1 (i + 1)
              have hU2 := HU1.out
              have HSN := Lib.hid hsn
              have hnn : jlong l0 + jlong (l1.take i) + 1 + x.b.length ≤ 3000 := by omega
              obtain ⟨n, hn⟩ : ∃ n, jlong l0 + jlong (l1.take i) = n := ⟨_, rfl⟩
              have HNN := Lib.hid hn
              rw [hn] at HD hnn
              have hz := HT.out.zero (by omega)
              have hsw := (HCX.out w (Below.refl _ _)).2.2.2.2
              have HDID := Lib.hid (did_any w.heap.size who wd 60 gc DC n x HD.out (by omega) (by omega) (HCX.out wd hz).2.2.2.2 (hsw.who HT.out) HXN.out)
              have d0 := (HCX.out wd hz).1
              have d1 := (HCX.out wd hz).2.1
              have d2 := (HCX.out wd hz).2.2.1
              have d3 := (HCX.out wd hz).2.2.2.1
              obtain ⟨D5, hD5⟩ : ∃ D5, stepD DC x.do = D5 := ⟨_, rfl⟩
              obtain ⟨E5, hE5⟩ : ∃ E5, stepE DC x.do = E5 := ⟨_, rfl⟩
              rw [hD5, hE5] at HDID
              have HD5E := Lib.hid (show stepD DC x.do = D5 ∧ stepE DC x.do = E5 from ⟨hD5, hE5⟩)
              unfold JX.v at HDID
              clear hD5 hE5
              clear hsn hle hU2 hW hx hok hn hz hsw
              go_wp2_with fail
              refine HDID.out.mono ?_
              rintro e w5 ⟨rfl, who5, hd5, ht5⟩
              have hc5 := (ht5.block (w11.heap.size) (Array.getElem?_eq_some_iff.1 HC.out.1).1 (by rw [HC.out.2]; omega)).trans HC.out.1
              have hw5 := (ht5.same (w11.heap.size) (Array.getElem?_eq_some_iff.1 HC.out.1).1).trans HC.out.2
              have hrz5 := HRZ.out.turn ht5 (by omega)
              have hT5 := HT.out.trans (ht5.wider (show 1 ≤ 60 by omega) (show 60 + 26 ≤ 300 by omega))
              have hz5 := hT5.zero (by omega)
              have HST := Lib.hid (fun (W : World) (hb : Below w5.heap.size w5 W) => show Calls Try.prog 31 #[.agg #[.slice tv.A tv.R.length tv.c, .int .i64 (DC.room : Int), .bool DC.pw.isSome, .int .i64 tv.q, .bool DC.dead], .agg #[.int .i64 x.k, .int .i64 x.a, .int .i64 x.n, .slice x.A x.b.length x.c]] W (RPE W tv D5 E5) from by rw [← HD5E.out.1, ← HD5E.out.2]; exact rstep_any W tv DC x.do n x.A x.c (hrz5.here.below hb) HD.out.fits ((HCX.out w5 hz5).2.2.2.2.below hb) (by show n + x.b.length ≤ _; omega) (ds_okS HD.out) HXN.out)
              have HD5 := Lib.hid hd5
              have HC5 := Lib.hid hc5
              have HWN5 := Lib.hid hw5
              have HRZ5 := Lib.hid hrz5
              have HT5 := Lib.hid hT5
              have HDd5 := Lib.hid (ds_turn HDd.out ht5 hd5.fresh (by omega) (.inr (by omega)))
              have HRZt5 := Lib.hid (HRZt.out.turn ht5 (by omega))
              have HCt5 := Lib.hid (show _ ∧ _ from ⟨(ht5.block w2.heap.size (Array.getElem?_eq_some_iff.1 HCt.out.1).1 (by rw [HCt.out.2]; omega)).trans HCt.out.1, (ht5.same w2.heap.size (Array.getElem?_eq_some_iff.1 HCt.out.1).1).trans HCt.out.2⟩)
              clear HDd HRZt HCt
              have c0 := cell_of_row w5 _ 0 _ _ _ hc5
              have c1 := cell_of_row w5 _ 1 _ _ _ hc5
              have c2 := cell_of_row w5 _ 2 _ _ _ hc5
              have c3 := cell_of_row w5 _ 3 _ _ _ hc5
              have c4 := cell_of_row w5 _ 4 _ _ _ hc5
              have b0 := (HCX.out w5 hz5).1
              have b1 := (HCX.out w5 hz5).2.1
              have b2 := (HCX.out w5 hz5).2.2.1
              have b3 := (HCX.out w5 hz5).2.2.2.1
              have HKEEP := Lib.hid (show ∀ w' : World, Below w5.heap.size w5 w' → (w'.cell? ⟨w11.heap.size, 0, none⟩ = some (.slice tv.A tv.R.length tv.c) ∧ w'.cell? ⟨w11.heap.size, 1, none⟩ = some (.int .i64 (DC.room : Int)) ∧ w'.cell? ⟨w11.heap.size, 2, none⟩ = some (.bool DC.pw.isSome) ∧ w'.cell? ⟨w11.heap.size, 3, none⟩ = some (.int .i64 tv.q) ∧ w'.cell? ⟨w11.heap.size, 4, none⟩ = some (.bool DC.dead) ∧ w'.cell? ⟨g0, o0 + i * 4, none⟩ = some (.int .i64 x.k) ∧ w'.cell? ⟨g0, o0 + i * 4 + 1, none⟩ = some (.int .i64 x.a) ∧ w'.cell? ⟨g0, o0 + i * 4 + 2, none⟩ = some (.int .i64 x.n) ∧ w'.cell? ⟨g0, o0 + i * 4 + 3, none⟩ = some (.slice x.A x.b.length x.c)) from fun W hb =>
                ⟨cell_of_row W _ 0 _ _ _ ((hb.block _ (Array.getElem?_eq_some_iff.1 hc5).1).trans hc5), cell_of_row W _ 1 _ _ _ ((hb.block _ (Array.getElem?_eq_some_iff.1 hc5).1).trans hc5), cell_of_row W _ 2 _ _ _ ((hb.block _ (Array.getElem?_eq_some_iff.1 hc5).1).trans hc5), cell_of_row W _ 3 _ _ _ ((hb.block _ (Array.getElem?_eq_some_iff.1 hc5).1).trans hc5), cell_of_row W _ 4 _ _ _ ((hb.block _ (Array.getElem?_eq_some_iff.1 hc5).1).trans hc5), (HCX.out W (hz5.trans (hb.mono hz5.size))).1, (HCX.out W (hz5.trans (hb.mono hz5.size))).2.1, (HCX.out W (hz5.trans (hb.mono hz5.size))).2.2.1, (HCX.out W (hz5.trans (hb.mono hz5.size))).2.2.2.1⟩)
              clear d0 d1 d2 d3 hc5 hw5 hrz5 hT5 hz5 hd5 ht5 HDID HD HRZ HT HC
              go_wp2_with fail
              refine wp_region_held_drew (S := (fun w' => w'.cell? ⟨w11.heap.size, 0, none⟩ = some (.slice tv.A tv.R.length tv.c) ∧ w'.cell? ⟨w11.heap.size, 1, none⟩ = some (.int .i64 (DC.room : Int)) ∧ w'.cell? ⟨w11.heap.size, 2, none⟩ = some (.bool DC.pw.isSome) ∧ w'.cell? ⟨w11.heap.size, 3, none⟩ = some (.int .i64 tv.q) ∧ w'.cell? ⟨w11.heap.size, 4, none⟩ = some (.bool DC.dead) ∧ w'.cell? ⟨g0, o0 + i * 4, none⟩ = some (.int .i64 x.k) ∧ w'.cell? ⟨g0, o0 + i * 4 + 1, none⟩ = some (.int .i64 x.a) ∧ w'.cell? ⟨g0, o0 + i * 4 + 2, none⟩ = some (.int .i64 x.n) ∧ w'.cell? ⟨g0, o0 + i * 4 + 3, none⟩ = some (.slice x.A x.b.length x.c))) (by kernel_rfl) ⟨c0, c1, c2, c3, c4, b0, b1, b2, b3⟩ (fun hHeld => ?_)
              refine wpAnyH_take (i := 0) (v := ?vqg0) rfl (by kernel_rfl) (by kernel_rfl) (by kernel_rfl) (fun _ _ _ h => h) (Or.inl ⟨by rfl, ?yqg0⟩) (by assumption) ?rqg0
              case yqg0 =>
                intro w hSw
                (try dsimp only at hSw)
                go_simp
                first | done | with_reducible rfl
              try simp only [Act.put, List.getElem_toArray, List.getElem_cons_zero, List.setIfInBounds_toArray, List.set_cons_zero, List.set_cons_succ]
              refine wpAnyH_take (i := 1) (v := ?vqg1) rfl (by kernel_rfl) (by kernel_rfl) (by kernel_rfl) (fun _ _ _ h => h) (Or.inl ⟨by rfl, ?yqg1⟩) (by assumption) ?rqg1
              case yqg1 =>
                intro w hSw
                (try dsimp only at hSw)
                go_simp
                first | done | with_reducible rfl
              try simp only [Act.put, List.getElem_toArray, List.getElem_cons_zero, List.getElem_cons_succ, List.setIfInBounds_toArray, List.set_cons_zero, List.set_cons_succ]
              refine wpAnyH_take (i := 2) (v := ?vqg2) rfl (by kernel_rfl) (by kernel_rfl) (by kernel_rfl) (fun _ _ _ h => h) (Or.inl ⟨by rfl, ?yqg2⟩) (by assumption) ?rqg2
              case yqg2 =>
                intro w hSw
                (try dsimp only at hSw)
                go_simp
                first | done | with_reducible rfl
              try simp only [Act.put, List.getElem_toArray, List.getElem_cons_zero, List.getElem_cons_succ, List.setIfInBounds_toArray, List.set_cons_zero, List.set_cons_succ]
              refine wpAnyH_take (i := 3) (v := ?vqg3) rfl (by kernel_rfl) (by kernel_rfl) (by kernel_rfl) (fun _ _ _ h => h) (Or.inl ⟨by rfl, ?yqg3⟩) (by assumption) ?rqg3
              case yqg3 =>
                intro w hSw
                (try dsimp only at hSw)
                go_simp
                first | done | with_reducible rfl
              try simp only [Act.put, List.getElem_toArray, List.getElem_cons_zero, List.getElem_cons_succ, List.setIfInBounds_toArray, List.set_cons_zero, List.set_cons_succ]
              refine wpAnyH_take (i := 4) (v := ?vqg4) rfl (by kernel_rfl) (by kernel_rfl) (by kernel_rfl) (fun _ _ _ h => h) (Or.inl ⟨by rfl, ?yqg4⟩) (by assumption) ?rqg4
              case yqg4 =>
                intro w hSw
                (try dsimp only at hSw)
                go_simp
                first | done | with_reducible rfl
              try simp only [Act.put, List.getElem_toArray, List.getElem_cons_zero, List.getElem_cons_succ, List.setIfInBounds_toArray, List.set_cons_zero, List.set_cons_succ]
              skip
              refine wpAnyH_ready (rs := [5, 9]) (by kernel_rfl) (by simp) ?_
              refine AllReadyH.cons rfl (fun K hK => ?_) (AllReadyH.cons rfl (fun K hK => ?_) AllReadyH.nil)
              · go_simp
                refine (HST.out w5.drew (jn_drewn w5)).mono ?_
                rintro e w6 ⟨t5, rfl, hb6', h6⟩
                have hb6 : Below w5.heap.size w5 w6 := (jn_drewn w5).trans hb6'
                unfold RT.v
                go_wp2_with fail
                refine hK.out _ _ (HKEEP.out w6 hb6) (fun hHeld => ?_)
                clear hK K
                try simp only [Act.put, List.getElem_toArray, List.getElem_cons_zero, List.getElem_cons_succ, List.setIfInBounds_toArray, List.set_cons_zero, List.set_cons_succ]
                refine wpAnyH_take (i := 6) (v := ?vqa6) rfl (by kernel_rfl) (by kernel_rfl) (by kernel_rfl) (fun _ _ _ h => h) (Or.inl ⟨by rfl, ?yqa6⟩) (by assumption) ?rqa6
                case yqa6 =>
                  intro w hSw
                  (try dsimp only at hSw)
                  go_simp
                  first | done | with_reducible rfl
                try simp only [Act.put, List.getElem_toArray, List.getElem_cons_zero, List.getElem_cons_succ, List.setIfInBounds_toArray, List.set_cons_zero, List.set_cons_succ]
                refine wpAnyH_take (i := 7) (v := ?vqa7) rfl (by kernel_rfl) (by kernel_rfl) (by kernel_rfl) (fun _ _ _ h => h) (Or.inl ⟨by rfl, ?yqa7⟩) (by assumption) ?rqa7
                case yqa7 =>
                  intro w hSw
                  (try dsimp only at hSw)
                  go_simp
                  first | done | with_reducible rfl
                try simp only [Act.put, List.getElem_toArray, List.getElem_cons_zero, List.getElem_cons_succ, List.setIfInBounds_toArray, List.set_cons_zero, List.set_cons_succ]
                refine wpAnyH_take (i := 8) (v := ?vqa8) rfl (by kernel_rfl) (by kernel_rfl) (by kernel_rfl) (fun _ _ _ h => h) (Or.inl ⟨by rfl, ?yqa8⟩) (by assumption) ?rqa8
                case yqa8 =>
                  intro w hSw
                  (try dsimp only at hSw)
                  go_simp
                  first | done | with_reducible rfl
                try simp only [Act.put, List.getElem_toArray, List.getElem_cons_zero, List.getElem_cons_succ, List.setIfInBounds_toArray, List.set_cons_zero, List.set_cons_succ]
                skip
                refine wpAnyH_ready (rs := [9]) (by kernel_rfl) (by simp) ?_
                refine AllReadyH.cons rfl (fun K hK => ?_) AllReadyH.nil
                go_simp
                have hz7 := heap_alloc_new w6 (.cells #[.slice none 0 0, .int .i64 0, .bool false, .int .i64 0, .bool false] 57)
                have hba : Below w6.heap.size w6 (w6.alloc (.cells #[.slice none 0 0, .int .i64 0, .bool false, .int .i64 0, .bool false] 57)) := (Below.refl _ _).alloc (Nat.le_refl _) _
                obtain ⟨w7, hv⟩ : ∃ V, w6.alloc (.cells #[.slice none 0 0, .int .i64 0, .bool false, .int .i64 0, .bool false] 57) = V := ⟨_, rfl⟩
                rw [hv] at hz7 hba ⊢
                have hb7 : Below w5.heap.size w5 w7 := hb6.trans (hba.mono hb6.size)
                refine hK.out _ _ (HKEEP.out w7 hb7) (fun hHeld => ?_)
                clear hK K
                try simp only [Act.put, List.getElem_toArray, List.getElem_cons_zero, List.getElem_cons_succ, List.setIfInBounds_toArray, List.set_cons_zero, List.set_cons_succ]
                refine wpAnyH_ready (rs := [10]) (by kernel_rfl) (by simp) ?_
                refine AllReadyH.cons rfl (fun K hK => ?_) AllReadyH.nil
                refine wp_store_mid 57 (.tmp 14) (.tmp 72) rfl (w6.heap.size) 0 #[.slice t5.A t5.R.length t5.c, .int .i64 (D5.room : Int), .bool D5.pw.isSome, .int .i64 t5.q, .bool D5.dead] rfl rfl (fun j hj => there5 hz7 hj) (by kernel_rfl) (by simp [Value.oneCell']) ?_
                have hst := store5 hz7 (.slice t5.A t5.R.length t5.c) (.int .i64 (D5.room : Int)) (.bool D5.pw.isSome) (.int .i64 t5.q) (.bool D5.dead)
                obtain ⟨w8, hw8⟩ : ∃ w8, w7.setCells (w6.heap.size) 0 [.slice t5.A t5.R.length t5.c, .int .i64 (D5.room : Int), .bool D5.pw.isSome, .int .i64 t5.q, .bool D5.dead] = w8 := ⟨_, rfl⟩
                rw [show (#[Value.slice t5.A t5.R.length t5.c, .int .i64 (D5.room : Int), .bool D5.pw.isSome, .int .i64 t5.q, .bool D5.dead] : Array Value).toList = [.slice t5.A t5.R.length t5.c, .int .i64 (D5.room : Int), .bool D5.pw.isSome, .int .i64 t5.q, .bool D5.dead] from rfl, hw8]
                rw [hw8] at hst
                have hbu := hst.1
                have ho8 := hst.2
                have hb8 : Below w5.heap.size w5 w8 := only_below hb7 ho8 (by have := hb6.size; omega)
                refine hK.out _ _ (HKEEP.out w8 hb8) (fun hHeld => ?_)
                clear hK K
                try simp only [Act.put, List.getElem_toArray, List.getElem_cons_zero, List.getElem_cons_succ]
                refine wpAnyH_take (i := 11) (v := ?vqsa11) rfl (by kernel_rfl) (by kernel_rfl) (by kernel_rfl) (fun _ _ _ h => h) (Or.inl ⟨by rfl, ?yqsa11⟩) (by assumption) ?rqsa11
                case yqsa11 =>
                  intro w hSw
                  (try dsimp only at hSw)
                  go_simp
                  first | done | with_reducible rfl
                try simp only [Act.put, List.getElem_toArray, List.getElem_cons_zero, List.getElem_cons_succ, List.setIfInBounds_toArray, List.set_cons_zero, List.set_cons_succ]
                skip
                refine wpAnyH_done (by kernel_rfl) ?_ _
                have hrz8 : RefZ who5 w8 t5 D5 := HRZ5.out.step2 HD5.out.fresh hb8 h6 (Nat.le_refl _) (fun b h1 h2 => ⟨(ho8.block b (by omega)).trans (hba.block b h2), by have := hba.size; rw [ho8.size]; omega⟩)
                have hN5 := (Array.getElem?_eq_some_iff.1 HC5.out).1
                have hc8 := (hb8.block (w11.heap.size) hN5).trans HC5.out
                have u0 := cell_of_row w8 _ 0 _ _ _ hbu
                have u1 := cell_of_row w8 _ 1 _ _ _ hbu
                have u2 := cell_of_row w8 _ 2 _ _ _ hbu
                have u3 := cell_of_row w8 _ 3 _ _ _ hbu
                have u4 := cell_of_row w8 _ 4 _ _ _ hbu
                obtain ⟨w9, hY, hY1, ho9, r0, r1, r2, r3, r4, f0, f1, f2, f3, f4⟩ := ret5 hc8 (.slice t5.A t5.R.length t5.c) (.int .i64 (D5.room : Int)) (.bool D5.pw.isSome) (.int .i64 t5.q) (.bool D5.dead)
                have HW9 := Lib.hid hY
                have HC9 := Lib.hid hY1
                have hd8 := HD5.out.below hb8
                have ht9 := only_turn ho9 HWN5.out
                have hf9 := hd8.fresh.size (show w8.heap.size ≤ w9.heap.size by rw [ho9.size]; exact Nat.le_refl _)
                have HD9 := Lib.hid (ds_turn hd8 ht9 hf9 (by omega) (.inr (by omega)))
                have HRZ9 := Lib.hid (hrz8.turn ht9 (by omega))
                have HT9 := Lib.hid ((HT5.out.trans (Turn.below hb8)).trans (ht9.wider (by omega) (show 230 + 1 ≤ 300 by omega)))
                have HDd9 := Lib.hid (ds_turn (HDd5.out.below hb8) ht9 hf9 (by omega) (.inr (by omega)))
                have HRZt9 := Lib.hid ((HRZt5.out.below hb8).turn ht9 (by omega))
                have hct8 := (hb8.block w2.heap.size (Array.getElem?_eq_some_iff.1 HCt5.out.1).1).trans HCt5.out.1
                have HCt9 := Lib.hid (show _ ∧ _ from ⟨(ht9.block w2.heap.size (Array.getElem?_eq_some_iff.1 hct8).1 (by rw [HCt5.out.2]; omega)).trans hct8, HCt5.out.2⟩)
                clear hct8
                clear hN5 hc8 hY hY1 hd8 ht9 hf9 hrz8 hbu ho8
                go_upto_region 19 with (fail)
                rw [HW9.out]
                go_wp2_with fail
                go_roundw
                case rel => exact ⟨i + 1, D5, t5, who5, by omega, by go_num, (show DS _ _ _ _ _ _ _ from by rw [HSN.out, ← Nat.add_assoc, ← Nat.add_assoc, HNN.out, Nat.add_assoc]; exact HD9.out), (show _ ∧ _ from ⟨HC9.out, HWN5.out⟩), HRZ9, HT9, HDd9, HCt9, HRZt9⟩
                case measure => simp [intOf]; omega
              · go_simp
                have hz6 : ((w5.alloc (.cells #[.slice none 0 0, .int .i64 0, .bool false, .int .i64 0, .bool false] 57)).drew).heap[w5.heap.size]? = _ := heap_alloc_new w5 (.cells #[.slice none 0 0, .int .i64 0, .bool false, .int .i64 0, .bool false] 57)
                have hb0 : Below w5.heap.size w5 (w5.alloc (.cells #[.slice none 0 0, .int .i64 0, .bool false, .int .i64 0, .bool false] 57)) := (Below.refl _ _).alloc (Nat.le_refl _) _
                have hb6 : Below w5.heap.size w5 ((w5.alloc (.cells #[.slice none 0 0, .int .i64 0, .bool false, .int .i64 0, .bool false] 57)).drew) := hb0.trans ((jn_drewn _).mono hb0.size)
                have hsz : ((w5.alloc (.cells #[.slice none 0 0, .int .i64 0, .bool false, .int .i64 0, .bool false] 57)).drew).heap.size = w5.heap.size + 1 := by show (w5.alloc _).heap.size = _; simp
                obtain ⟨w6, hv⟩ : ∃ V, (w5.alloc (.cells #[.slice none 0 0, .int .i64 0, .bool false, .int .i64 0, .bool false] 57)).drew = V := ⟨_, rfl⟩
                rw [hv] at hz6 hb6 hsz ⊢
                clear hb0
                refine hK.out _ _ (HKEEP.out w6 hb6) (fun hHeld => ?_)
                clear hK K
                try simp only [Act.put, List.getElem_toArray, List.getElem_cons_zero, List.getElem_cons_succ, List.setIfInBounds_toArray, List.set_cons_zero, List.set_cons_succ]
                refine wpAnyH_ready (rs := [5]) (by kernel_rfl) (by simp) ?_
                refine AllReadyH.cons rfl (fun K hK => ?_) AllReadyH.nil
                go_simp
                refine (HST.out w6 hb6).mono ?_
                rintro e w7 ⟨t5, rfl, hb7', h7⟩
                have hb7 : Below w5.heap.size w5 w7 := hb6.trans (hb7'.mono hb6.size)
                have hz7 := (hb7'.block w5.heap.size (by omega)).trans hz6
                unfold RT.v
                go_wp2_with fail
                refine hK.out _ _ (HKEEP.out w7 hb7) (fun hHeld => ?_)
                clear hK K
                try simp only [Act.put, List.getElem_toArray, List.getElem_cons_zero, List.getElem_cons_succ, List.setIfInBounds_toArray, List.set_cons_zero, List.set_cons_succ]
                refine wpAnyH_take (i := 6) (v := ?vqb6) rfl (by kernel_rfl) (by kernel_rfl) (by kernel_rfl) (fun _ _ _ h => h) (Or.inl ⟨by rfl, ?yqb6⟩) (by assumption) ?rqb6
                case yqb6 =>
                  intro w hSw
                  (try dsimp only at hSw)
                  go_simp
                  first | done | with_reducible rfl
                try simp only [Act.put, List.getElem_toArray, List.getElem_cons_zero, List.getElem_cons_succ, List.setIfInBounds_toArray, List.set_cons_zero, List.set_cons_succ]
                refine wpAnyH_take (i := 7) (v := ?vqb7) rfl (by kernel_rfl) (by kernel_rfl) (by kernel_rfl) (fun _ _ _ h => h) (Or.inl ⟨by rfl, ?yqb7⟩) (by assumption) ?rqb7
                case yqb7 =>
                  intro w hSw
                  (try dsimp only at hSw)
                  go_simp
                  first | done | with_reducible rfl
                try simp only [Act.put, List.getElem_toArray, List.getElem_cons_zero, List.getElem_cons_succ, List.setIfInBounds_toArray, List.set_cons_zero, List.set_cons_succ]
                refine wpAnyH_take (i := 8) (v := ?vqb8) rfl (by kernel_rfl) (by kernel_rfl) (by kernel_rfl) (fun _ _ _ h => h) (Or.inl ⟨by rfl, ?yqb8⟩) (by assumption) ?rqb8
                case yqb8 =>
                  intro w hSw
                  (try dsimp only at hSw)
                  go_simp
                  first | done | with_reducible rfl
                try simp only [Act.put, List.getElem_toArray, List.getElem_cons_zero, List.getElem_cons_succ, List.setIfInBounds_toArray, List.set_cons_zero, List.set_cons_succ]
                skip
                refine wpAnyH_ready (rs := [10]) (by kernel_rfl) (by simp) ?_
                refine AllReadyH.cons rfl (fun K hK => ?_) AllReadyH.nil
                refine wp_store_mid 57 (.tmp 14) (.tmp 72) rfl (w5.heap.size) 0 #[.slice t5.A t5.R.length t5.c, .int .i64 (D5.room : Int), .bool D5.pw.isSome, .int .i64 t5.q, .bool D5.dead] rfl rfl (fun j hj => there5 hz7 hj) (by kernel_rfl) (by simp [Value.oneCell']) ?_
                have hst := store5 hz7 (.slice t5.A t5.R.length t5.c) (.int .i64 (D5.room : Int)) (.bool D5.pw.isSome) (.int .i64 t5.q) (.bool D5.dead)
                obtain ⟨w8, hw8⟩ : ∃ w8, w7.setCells (w5.heap.size) 0 [.slice t5.A t5.R.length t5.c, .int .i64 (D5.room : Int), .bool D5.pw.isSome, .int .i64 t5.q, .bool D5.dead] = w8 := ⟨_, rfl⟩
                rw [show (#[Value.slice t5.A t5.R.length t5.c, .int .i64 (D5.room : Int), .bool D5.pw.isSome, .int .i64 t5.q, .bool D5.dead] : Array Value).toList = [.slice t5.A t5.R.length t5.c, .int .i64 (D5.room : Int), .bool D5.pw.isSome, .int .i64 t5.q, .bool D5.dead] from rfl, hw8]
                rw [hw8] at hst
                have hbu := hst.1
                have ho8 := hst.2
                have hb8 : Below w5.heap.size w5 w8 := only_below hb7 ho8 (by have := hb6.size; omega)
                refine hK.out _ _ (HKEEP.out w8 hb8) (fun hHeld => ?_)
                clear hK K
                try simp only [Act.put, List.getElem_toArray, List.getElem_cons_zero, List.getElem_cons_succ]
                refine wpAnyH_take (i := 11) (v := ?vqsb11) rfl (by kernel_rfl) (by kernel_rfl) (by kernel_rfl) (fun _ _ _ h => h) (Or.inl ⟨by rfl, ?yqsb11⟩) (by assumption) ?rqsb11
                case yqsb11 =>
                  intro w hSw
                  (try dsimp only at hSw)
                  go_simp
                  first | done | with_reducible rfl
                try simp only [Act.put, List.getElem_toArray, List.getElem_cons_zero, List.getElem_cons_succ, List.setIfInBounds_toArray, List.set_cons_zero, List.set_cons_succ]
                skip
                refine wpAnyH_done (by kernel_rfl) ?_ _
                have hrz8 : RefZ who5 w8 t5 D5 := HRZ5.out.step2 HD5.out.fresh hb8 h7 (by omega) (fun b h1 h2 => ⟨ho8.block b (by omega), by rw [ho8.size]; omega⟩)
                have hN5 := (Array.getElem?_eq_some_iff.1 HC5.out).1
                have hc8 := (hb8.block (w11.heap.size) hN5).trans HC5.out
                have u0 := cell_of_row w8 _ 0 _ _ _ hbu
                have u1 := cell_of_row w8 _ 1 _ _ _ hbu
                have u2 := cell_of_row w8 _ 2 _ _ _ hbu
                have u3 := cell_of_row w8 _ 3 _ _ _ hbu
                have u4 := cell_of_row w8 _ 4 _ _ _ hbu
                obtain ⟨w9, hY, hY1, ho9, r0, r1, r2, r3, r4, f0, f1, f2, f3, f4⟩ := ret5 hc8 (.slice t5.A t5.R.length t5.c) (.int .i64 (D5.room : Int)) (.bool D5.pw.isSome) (.int .i64 t5.q) (.bool D5.dead)
                have HW9 := Lib.hid hY
                have HC9 := Lib.hid hY1
                have hd8 := HD5.out.below hb8
                have ht9 := only_turn ho9 HWN5.out
                have hf9 := hd8.fresh.size (show w8.heap.size ≤ w9.heap.size by rw [ho9.size]; exact Nat.le_refl _)
                have HD9 := Lib.hid (ds_turn hd8 ht9 hf9 (by omega) (.inr (by omega)))
                have HRZ9 := Lib.hid (hrz8.turn ht9 (by omega))
                have HT9 := Lib.hid ((HT5.out.trans (Turn.below hb8)).trans (ht9.wider (by omega) (show 230 + 1 ≤ 300 by omega)))
                have HDd9 := Lib.hid (ds_turn (HDd5.out.below hb8) ht9 hf9 (by omega) (.inr (by omega)))
                have HRZt9 := Lib.hid ((HRZt5.out.below hb8).turn ht9 (by omega))
                have hct8 := (hb8.block w2.heap.size (Array.getElem?_eq_some_iff.1 HCt5.out.1).1).trans HCt5.out.1
                have HCt9 := Lib.hid (show _ ∧ _ from ⟨(ht9.block w2.heap.size (Array.getElem?_eq_some_iff.1 hct8).1 (by rw [HCt5.out.2]; omega)).trans hct8, HCt5.out.2⟩)
                clear hct8
                clear hN5 hc8 hY hY1 hd8 ht9 hf9 hrz8 hbu ho8
                go_upto_region 19 with (fail)
                rw [HW9.out]
                go_wp2_with fail
                go_roundw
                case rel => exact ⟨i + 1, D5, t5, who5, by omega, by go_num, (show DS _ _ _ _ _ _ _ from by rw [HSN.out, ← Nat.add_assoc, ← Nat.add_assoc, HNN.out, Nat.add_assoc]; exact HD9.out), (show _ ∧ _ from ⟨HC9.out, HWN5.out⟩), HRZ9, HT9, HDd9, HCt9, HRZt9⟩
                case measure => simp [intOf]; omega

            · obtain rfl : i = l1.length := by omega
              rw [List.take_length] at HD
              have hU0 := HU1.out.1
              have hU1 := HU1.out.2
              have HK9 := Lib.hid (show ∀ w' : World, Below wd.heap.size wd w' → (w'.cell? ⟨w2.heap.size, 0, none⟩ = some (.slice t.A t.R.length t.c) ∧ w'.cell? ⟨w2.heap.size, 1, none⟩ = some (.int .i64 (D.room : Int)) ∧ w'.cell? ⟨w2.heap.size, 2, none⟩ = some (.bool D.pw.isSome) ∧ w'.cell? ⟨w2.heap.size, 3, none⟩ = some (.int .i64 t.q) ∧ w'.cell? ⟨w2.heap.size, 4, none⟩ = some (.bool D.dead) ∧ w'.cell? ⟨w11.heap.size, 0, none⟩ = some (.slice tv.A tv.R.length tv.c) ∧ w'.cell? ⟨w11.heap.size, 1, none⟩ = some (.int .i64 (DC.room : Int)) ∧ w'.cell? ⟨w11.heap.size, 2, none⟩ = some (.bool DC.pw.isSome) ∧ w'.cell? ⟨w11.heap.size, 3, none⟩ = some (.int .i64 tv.q) ∧ w'.cell? ⟨w11.heap.size, 4, none⟩ = some (.bool DC.dead)) from fun W hb => ⟨cell_of_row W _ 0 _ _ _ ((hb.block _ (Array.getElem?_eq_some_iff.1 HCt.out.1).1).trans HCt.out.1), cell_of_row W _ 1 _ _ _ ((hb.block _ (Array.getElem?_eq_some_iff.1 HCt.out.1).1).trans HCt.out.1), cell_of_row W _ 2 _ _ _ ((hb.block _ (Array.getElem?_eq_some_iff.1 HCt.out.1).1).trans HCt.out.1), cell_of_row W _ 3 _ _ _ ((hb.block _ (Array.getElem?_eq_some_iff.1 HCt.out.1).1).trans HCt.out.1), cell_of_row W _ 4 _ _ _ ((hb.block _ (Array.getElem?_eq_some_iff.1 HCt.out.1).1).trans HCt.out.1), cell_of_row W _ 0 _ _ _ ((hb.block _ (Array.getElem?_eq_some_iff.1 HC.out.1).1).trans HC.out.1), cell_of_row W _ 1 _ _ _ ((hb.block _ (Array.getElem?_eq_some_iff.1 HC.out.1).1).trans HC.out.1), cell_of_row W _ 2 _ _ _ ((hb.block _ (Array.getElem?_eq_some_iff.1 HC.out.1).1).trans HC.out.1), cell_of_row W _ 3 _ _ _ ((hb.block _ (Array.getElem?_eq_some_iff.1 HC.out.1).1).trans HC.out.1), cell_of_row W _ 4 _ _ _ ((hb.block _ (Array.getElem?_eq_some_iff.1 HC.out.1).1).trans HC.out.1)⟩)
              have HPR := Lib.hid (fun (W : World) (hb : Below wd.heap.size wd W) (a : Int) => (show _ ∧ _ ∧ _ from ⟨(HDd.out.below hb).read (by omega) a, (HD.out.below hb).read (by omega) a, (HD.out.below hb).lasting (by omega) a⟩))
              have HPF := Lib.hid (fun (W : World) (hb : Below wd.heap.size wd W) (a : Int) => (show (Calls Try.prog 35 #[.agg #[.slice t.A t.R.length t.c, .int .i64 (D.room : Int), .bool D.pw.isSome, .int .i64 t.q, .bool D.dead], .int .i64 a] W _) ∧ (Calls Try.prog 35 #[.agg #[.slice tv.A tv.R.length tv.c, .int .i64 (DC.room : Int), .bool DC.pw.isSome, .int .i64 tv.q, .bool DC.dead], .int .i64 a] W _) ∧ (Calls Try.prog 37 #[.agg #[.slice tv.A tv.R.length tv.c, .int .i64 (DC.room : Int), .bool DC.pw.isSome, .int .i64 tv.q, .bool DC.dead], .int .i64 a] W _) from ⟨rread_any W t D a _ (HRZt.out.here.below hb) HDd.out.fits, rread_any W tv DC a _ (HRZ.out.here.below hb) HD.out.fits, rlast_any W tv DC a _ (HRZ.out.here.below hb) HD.out.fits⟩))
              have HTZ := HT
              have HDZ := HDd
              clear HT HC HCt HRZ HRZt HD HDd
              go_wp2_with fail
              go_loopw [16] (fun av wr => ∃ (a : Int), 0 ≤ a ∧ a ≤ 3 ∧ av = .int .i64 a ∧ Hid (Below wd.heap.size wd wr)) (fun av _ => (3 - intOf av).toNat)
              case atStart => exact ⟨0, by omega, by omega, rfl, Below.refl _ _⟩
              case round =>
                obtain ⟨a, ha1, ha2, rfl, HBA⟩ := hrel
                obtain ⟨n0, n1, n2, n3, n4, p0, p1, p2, p3, p4⟩ := HK9.out wr HBA.out
                by_cases k4 : a < 3
                · go_wp2_with fail
                  refine wp_region_held_drew (S := (fun w' => w'.cell? ⟨w2.heap.size, 0, none⟩ = some (.slice t.A t.R.length t.c) ∧ w'.cell? ⟨w2.heap.size, 1, none⟩ = some (.int .i64 (D.room : Int)) ∧ w'.cell? ⟨w2.heap.size, 2, none⟩ = some (.bool D.pw.isSome) ∧ w'.cell? ⟨w2.heap.size, 3, none⟩ = some (.int .i64 t.q) ∧ w'.cell? ⟨w2.heap.size, 4, none⟩ = some (.bool D.dead) ∧ w'.cell? ⟨w11.heap.size, 0, none⟩ = some (.slice tv.A tv.R.length tv.c) ∧ w'.cell? ⟨w11.heap.size, 1, none⟩ = some (.int .i64 (DC.room : Int)) ∧ w'.cell? ⟨w11.heap.size, 2, none⟩ = some (.bool DC.pw.isSome) ∧ w'.cell? ⟨w11.heap.size, 3, none⟩ = some (.int .i64 tv.q) ∧ w'.cell? ⟨w11.heap.size, 4, none⟩ = some (.bool DC.dead))) (by kernel_rfl) ⟨n0, n1, n2, n3, n4, p0, p1, p2, p3, p4⟩ (fun hHeld => ?_)
                  refine wpAnyH_take (i := 0) (v := ?vz0) rfl (by kernel_rfl) (by kernel_rfl) (by kernel_rfl) (fun _ _ _ h => h) (Or.inl ⟨by rfl, ?yz0⟩) (by assumption) ?rz0
                  case yz0 =>
                    intro w hSw
                    (try dsimp only at hSw)
                    go_simp
                    first | done | with_reducible rfl
                  try simp only [Act.put, List.getElem_toArray, List.getElem_cons_zero, List.setIfInBounds_toArray, List.set_cons_zero, List.set_cons_succ]
                  refine wpAnyH_take (i := 1) (v := ?vz1) rfl (by kernel_rfl) (by kernel_rfl) (by kernel_rfl) (fun _ _ _ h => h) (Or.inl ⟨by rfl, ?yz1⟩) (by assumption) ?rz1
                  case yz1 =>
                    intro w hSw
                    (try dsimp only at hSw)
                    go_simp
                    first | done | with_reducible rfl
                  try simp only [Act.put, List.getElem_toArray, List.getElem_cons_zero, List.getElem_cons_succ, List.setIfInBounds_toArray, List.set_cons_zero, List.set_cons_succ]
                  refine wpAnyH_take (i := 3) (v := ?vz3) rfl (by kernel_rfl) (by kernel_rfl) (by kernel_rfl) (fun _ _ _ h => h) (Or.inl ⟨by rfl, ?yz3⟩) (by assumption) ?rz3
                  case yz3 =>
                    intro w hSw
                    (try dsimp only at hSw)
                    go_simp
                    first | done | with_reducible rfl
                  try simp only [Act.put, List.getElem_toArray, List.getElem_cons_zero, List.getElem_cons_succ, List.setIfInBounds_toArray, List.set_cons_zero, List.set_cons_succ]
                  refine wpAnyH_take (i := 4) (v := ?vz4) rfl (by kernel_rfl) (by kernel_rfl) (by kernel_rfl) (fun _ _ _ h => h) (Or.inl ⟨by rfl, ?yz4⟩) (by assumption) ?rz4
                  case yz4 =>
                    intro w hSw
                    (try dsimp only at hSw)
                    go_simp
                    first | done | with_reducible rfl
                  try simp only [Act.put, List.getElem_toArray, List.getElem_cons_zero, List.getElem_cons_succ, List.setIfInBounds_toArray, List.set_cons_zero, List.set_cons_succ]
                  refine wpAnyH_ready (rs := [2]) (by kernel_rfl) (by simp) ?_
                  refine AllReadyH.cons rfl (fun K hK => ?_) AllReadyH.nil
                  go_simp
                  refine (HPR.out _ (HBA.out.trans ((jn_drewn wr).mono HBA.out.size)) a).1.mono ?_
                  rintro e wa ⟨va, rfl, hoa, hba⟩
                  obtain ⟨Aa, ka, rfl, hsa, _⟩ := OB.sl hoa
                  have HSA := Lib.hid hsa
                  have HB11 := Lib.hid (HBA.out.trans (((jn_drewn wr).trans hba).mono HBA.out.size))
                  go_wp2_with fail
                  refine hK.out _ _ (HK9.out _ HB11.out) (fun hHeld => ?_)
                  clear hK K
                  try simp only [Act.put, List.getElem_toArray, List.getElem_cons_zero, List.getElem_cons_succ, List.setIfInBounds_toArray, List.set_cons_zero, List.set_cons_succ]
                  refine wpAnyH_ready (rs := [5]) (by kernel_rfl) (by simp) ?_
                  refine AllReadyH.cons rfl (fun K hK => ?_) AllReadyH.nil
                  go_simp
                  refine (HPF.out _ HB11.out a).1.mono ?_
                  rintro e wb ⟨Ab, kb, rfl, hsb, hbb⟩
                  have HSB := Lib.hid hsb
                  have HSA2 := Lib.hid (HSA.out.below hbb)
                  have HB12 := Lib.hid (HB11.out.trans (hbb.mono HB11.out.size))
                  go_wp2_with fail
                  refine hK.out _ _ (HK9.out _ HB12.out) (fun hHeld => ?_)
                  clear hK K
                  try simp only [Act.put, List.getElem_toArray, List.getElem_cons_zero, List.getElem_cons_succ, List.setIfInBounds_toArray, List.set_cons_zero, List.set_cons_succ]
                  refine wpAnyH_ready (rs := [6]) (by kernel_rfl) (by simp) ?_
                  refine AllReadyH.cons rfl (fun K hK => ?_) AllReadyH.nil
                  go_simp
                  refine (frsame_any (D.readL a) (D.readL a) Aa Ab ka kb _ _ _ HSA2.out.bytes HSB.out.bytes rfl rfl).mono ?_
                  rintro e wd ⟨rfl, hbd⟩
                  rw [show (D.readL a == D.readL a) = true from BEq.rfl]
                  have HB13 := Lib.hid (HB12.out.trans (hbd.mono HB12.out.size))
                  go_wp2_with fail
                  refine hK.out _ _ (HK9.out _ HB13.out) (fun hHeld => ?_)
                  clear hK K
                  try simp only [Act.put, List.getElem_toArray, List.getElem_cons_zero, List.getElem_cons_succ, List.setIfInBounds_toArray, List.set_cons_zero, List.set_cons_succ]
                  refine wpAnyH_take (i := 7) (v := ?vz7) rfl (by kernel_rfl) (by kernel_rfl) (by kernel_rfl) (fun _ _ _ h => h) (Or.inl ⟨by rfl, ?yz7⟩) (by assumption) ?rz7
                  case yz7 =>
                    intro w hSw
                    (try dsimp only at hSw)
                    go_simp
                    first | done | with_reducible rfl
                  try simp only [Act.put, List.getElem_toArray, List.getElem_cons_zero, List.getElem_cons_succ, List.setIfInBounds_toArray, List.set_cons_zero, List.set_cons_succ]
                  refine wpAnyH_take (i := 8) (v := ?vz8) rfl (by kernel_rfl) (by kernel_rfl) (by kernel_rfl) (fun _ _ _ h => h) (Or.inl ⟨by rfl, ?yz8⟩) (by assumption) ?rz8
                  case yz8 =>
                    intro w hSw
                    (try dsimp only at hSw)
                    go_simp
                    first | done | with_reducible rfl
                  try simp only [Act.put, List.getElem_toArray, List.getElem_cons_zero, List.getElem_cons_succ, List.setIfInBounds_toArray, List.set_cons_zero, List.set_cons_succ]
                  refine wpAnyH_take (i := 9) (v := ?vz9) rfl (by kernel_rfl) (by kernel_rfl) (by kernel_rfl) (fun _ _ _ h => h) (Or.inl ⟨by rfl, ?yz9⟩) (by assumption) ?rz9
                  case yz9 =>
                    intro w hSw
                    (try dsimp only at hSw)
                    go_simp
                    first | done | with_reducible rfl
                  try simp only [Act.put, List.getElem_toArray, List.getElem_cons_zero, List.getElem_cons_succ, List.setIfInBounds_toArray, List.set_cons_zero, List.set_cons_succ]
                  refine wpAnyH_take (i := 10) (v := ?vz10) rfl (by kernel_rfl) (by kernel_rfl) (by kernel_rfl) (fun _ _ _ h => h) (Or.inl ⟨by rfl, ?yz10⟩) (by assumption) ?rz10
                  case yz10 =>
                    intro w hSw
                    (try dsimp only at hSw)
                    go_simp
                    first | done | with_reducible rfl
                  try simp only [Act.put, List.getElem_toArray, List.getElem_cons_zero, List.getElem_cons_succ, List.setIfInBounds_toArray, List.set_cons_zero, List.set_cons_succ]
                  refine wpAnyH_take (i := 12) (v := ?vz12) rfl (by kernel_rfl) (by kernel_rfl) (by kernel_rfl) (fun _ _ _ h => h) (Or.inl ⟨by rfl, ?yz12⟩) (by assumption) ?rz12
                  case yz12 =>
                    intro w hSw
                    (try dsimp only at hSw)
                    go_simp
                    first | done | with_reducible rfl
                  try simp only [Act.put, List.getElem_toArray, List.getElem_cons_zero, List.getElem_cons_succ, List.setIfInBounds_toArray, List.set_cons_zero, List.set_cons_succ]
                  refine wpAnyH_take (i := 13) (v := ?vz13) rfl (by kernel_rfl) (by kernel_rfl) (by kernel_rfl) (fun _ _ _ h => h) (Or.inl ⟨by rfl, ?yz13⟩) (by assumption) ?rz13
                  case yz13 =>
                    intro w hSw
                    (try dsimp only at hSw)
                    go_simp
                    first | done | with_reducible rfl
                  try simp only [Act.put, List.getElem_toArray, List.getElem_cons_zero, List.getElem_cons_succ, List.setIfInBounds_toArray, List.set_cons_zero, List.set_cons_succ]
                  refine wpAnyH_ready (rs := [11]) (by kernel_rfl) (by simp) ?_
                  refine AllReadyH.cons rfl (fun K hK => ?_) AllReadyH.nil
                  go_simp
                  refine (HPR.out _ HB13.out a).2.1.mono ?_
                  rintro e we ⟨ve, rfl, hoe, hbe⟩
                  obtain ⟨Ae, ke, rfl, hse, _⟩ := OB.sl hoe
                  have HSE := Lib.hid hse
                  have HB14 := Lib.hid (HB13.out.trans (hbe.mono HB13.out.size))
                  go_wp2_with fail
                  refine hK.out _ _ (HK9.out _ HB14.out) (fun hHeld => ?_)
                  clear hK K
                  try simp only [Act.put, List.getElem_toArray, List.getElem_cons_zero, List.getElem_cons_succ, List.setIfInBounds_toArray, List.set_cons_zero, List.set_cons_succ]
                  refine wpAnyH_ready (rs := [14]) (by kernel_rfl) (by simp) ?_
                  refine AllReadyH.cons rfl (fun K hK => ?_) AllReadyH.nil
                  go_simp
                  refine (HPF.out _ HB14.out a).2.1.mono ?_
                  rintro e wf ⟨Af, kf, rfl, hsf, hbf⟩
                  have HSF := Lib.hid hsf
                  have HSE2 := Lib.hid (HSE.out.below hbf)
                  have HB15 := Lib.hid (HB14.out.trans (hbf.mono HB14.out.size))
                  go_wp2_with fail
                  refine hK.out _ _ (HK9.out _ HB15.out) (fun hHeld => ?_)
                  clear hK K
                  try simp only [Act.put, List.getElem_toArray, List.getElem_cons_zero, List.getElem_cons_succ, List.setIfInBounds_toArray, List.set_cons_zero, List.set_cons_succ]
                  refine wpAnyH_ready (rs := [15]) (by kernel_rfl) (by simp) ?_
                  refine AllReadyH.cons rfl (fun K hK => ?_) AllReadyH.nil
                  go_simp
                  refine (frsame_any (DC.readL a) (DC.readL a) Ae Af ke kf _ _ _ HSE2.out.bytes HSF.out.bytes rfl rfl).mono ?_
                  rintro e wh ⟨rfl, hbh⟩
                  rw [show (DC.readL a == DC.readL a) = true from BEq.rfl]
                  have HB16 := Lib.hid (HB15.out.trans (hbh.mono HB15.out.size))
                  go_wp2_with fail
                  refine hK.out _ _ (HK9.out _ HB16.out) (fun hHeld => ?_)
                  clear hK K
                  try simp only [Act.put, List.getElem_toArray, List.getElem_cons_zero, List.getElem_cons_succ, List.setIfInBounds_toArray, List.set_cons_zero, List.set_cons_succ]
                  refine wpAnyH_take (i := 16) (v := ?vz16) rfl (by kernel_rfl) (by kernel_rfl) (by kernel_rfl) (fun _ _ _ h => h) (Or.inl ⟨by rfl, ?yz16⟩) (by assumption) ?rz16
                  case yz16 =>
                    intro w hSw
                    (try dsimp only at hSw)
                    go_simp
                    first | done | with_reducible rfl
                  try simp only [Act.put, List.getElem_toArray, List.getElem_cons_zero, List.getElem_cons_succ, List.setIfInBounds_toArray, List.set_cons_zero, List.set_cons_succ]
                  refine wpAnyH_take (i := 17) (v := ?vz17) rfl (by kernel_rfl) (by kernel_rfl) (by kernel_rfl) (fun _ _ _ h => h) (Or.inl ⟨by rfl, ?yz17⟩) (by assumption) ?rz17
                  case yz17 =>
                    intro w hSw
                    (try dsimp only at hSw)
                    go_simp
                    first | done | with_reducible rfl
                  try simp only [Act.put, List.getElem_toArray, List.getElem_cons_zero, List.getElem_cons_succ, List.setIfInBounds_toArray, List.set_cons_zero, List.set_cons_succ]
                  refine wpAnyH_take (i := 18) (v := ?vz18) rfl (by kernel_rfl) (by kernel_rfl) (by kernel_rfl) (fun _ _ _ h => h) (Or.inl ⟨by rfl, ?yz18⟩) (by assumption) ?rz18
                  case yz18 =>
                    intro w hSw
                    (try dsimp only at hSw)
                    go_simp
                    first | done | with_reducible rfl
                  try simp only [Act.put, List.getElem_toArray, List.getElem_cons_zero, List.getElem_cons_succ, List.setIfInBounds_toArray, List.set_cons_zero, List.set_cons_succ]
                  refine wpAnyH_take (i := 19) (v := ?vz19) rfl (by kernel_rfl) (by kernel_rfl) (by kernel_rfl) (fun _ _ _ h => h) (Or.inl ⟨by rfl, ?yz19⟩) (by assumption) ?rz19
                  case yz19 =>
                    intro w hSw
                    (try dsimp only at hSw)
                    go_simp
                    first | done | with_reducible rfl
                  try simp only [Act.put, List.getElem_toArray, List.getElem_cons_zero, List.getElem_cons_succ, List.setIfInBounds_toArray, List.set_cons_zero, List.set_cons_succ]
                  refine wpAnyH_take (i := 20) (v := ?vz20) rfl (by kernel_rfl) (by kernel_rfl) (by kernel_rfl) (fun _ _ _ h => h) (Or.inl ⟨by rfl, ?yz20⟩) (by assumption) ?rz20
                  case yz20 =>
                    intro w hSw
                    (try dsimp only at hSw)
                    go_simp
                    first | done | with_reducible rfl
                  try simp only [Act.put, List.getElem_toArray, List.getElem_cons_zero, List.getElem_cons_succ, List.setIfInBounds_toArray, List.set_cons_zero, List.set_cons_succ]
                  refine wpAnyH_take (i := 22) (v := ?vz22) rfl (by kernel_rfl) (by kernel_rfl) (by kernel_rfl) (fun _ _ _ h => h) (Or.inl ⟨by rfl, ?yz22⟩) (by assumption) ?rz22
                  case yz22 =>
                    intro w hSw
                    (try dsimp only at hSw)
                    go_simp
                    first | done | with_reducible rfl
                  try simp only [Act.put, List.getElem_toArray, List.getElem_cons_zero, List.getElem_cons_succ, List.setIfInBounds_toArray, List.set_cons_zero, List.set_cons_succ]
                  refine wpAnyH_take (i := 23) (v := ?vz23) rfl (by kernel_rfl) (by kernel_rfl) (by kernel_rfl) (fun _ _ _ h => h) (Or.inl ⟨by rfl, ?yz23⟩) (by assumption) ?rz23
                  case yz23 =>
                    intro w hSw
                    (try dsimp only at hSw)
                    go_simp
                    first | done | with_reducible rfl
                  try simp only [Act.put, List.getElem_toArray, List.getElem_cons_zero, List.getElem_cons_succ, List.setIfInBounds_toArray, List.set_cons_zero, List.set_cons_succ]
                  refine wpAnyH_ready (rs := [21]) (by kernel_rfl) (by simp) ?_
                  refine AllReadyH.cons rfl (fun K hK => ?_) AllReadyH.nil
                  go_simp
                  refine (HPR.out _ HB16.out a).2.2.mono ?_
                  rintro e wi ⟨vi, rfl, hoi, hbi⟩
                  obtain ⟨Ai, ki, rfl, hsi, _⟩ := OB.sl hoi
                  have HSI := Lib.hid hsi
                  have HB17 := Lib.hid (HB16.out.trans (hbi.mono HB16.out.size))
                  go_wp2_with fail
                  refine hK.out _ _ (HK9.out _ HB17.out) (fun hHeld => ?_)
                  clear hK K
                  try simp only [Act.put, List.getElem_toArray, List.getElem_cons_zero, List.getElem_cons_succ, List.setIfInBounds_toArray, List.set_cons_zero, List.set_cons_succ]
                  refine wpAnyH_ready (rs := [24]) (by kernel_rfl) (by simp) ?_
                  refine AllReadyH.cons rfl (fun K hK => ?_) AllReadyH.nil
                  go_simp
                  refine (HPF.out _ HB17.out a).2.2.mono ?_
                  rintro e wj ⟨Aj, kj, rfl, hsj, hbj⟩
                  have HSJ := Lib.hid hsj
                  have HSI2 := Lib.hid (HSI.out.below hbj)
                  have HB18 := Lib.hid (HB17.out.trans (hbj.mono HB17.out.size))
                  go_wp2_with fail
                  refine hK.out _ _ (HK9.out _ HB18.out) (fun hHeld => ?_)
                  clear hK K
                  try simp only [Act.put, List.getElem_toArray, List.getElem_cons_zero, List.getElem_cons_succ, List.setIfInBounds_toArray, List.set_cons_zero, List.set_cons_succ]
                  refine wpAnyH_ready (rs := [25]) (by kernel_rfl) (by simp) ?_
                  refine AllReadyH.cons rfl (fun K hK => ?_) AllReadyH.nil
                  go_simp
                  refine (frsame_any (DC.lastL a) (DC.lastL a) Ai Aj ki kj _ _ _ HSI2.out.bytes HSJ.out.bytes rfl rfl).mono ?_
                  rintro e wk ⟨rfl, hbk⟩
                  rw [show (DC.lastL a == DC.lastL a) = true from BEq.rfl]
                  have HB19 := Lib.hid (HB18.out.trans (hbk.mono HB18.out.size))
                  go_wp2_with fail
                  refine hK.out _ _ (HK9.out _ HB19.out) (fun hHeld => ?_)
                  clear hK K
                  try simp only [Act.put, List.getElem_toArray, List.getElem_cons_zero, List.getElem_cons_succ, List.setIfInBounds_toArray, List.set_cons_zero, List.set_cons_succ]
                  refine wpAnyH_take (i := 26) (v := ?vz26) rfl (by kernel_rfl) (by kernel_rfl) (by kernel_rfl) (fun _ _ _ h => h) (Or.inl ⟨by rfl, ?yz26⟩) (by assumption) ?rz26
                  case yz26 =>
                    intro w hSw
                    (try dsimp only at hSw)
                    go_simp
                    first | done | with_reducible rfl
                  try simp only [Act.put, List.getElem_toArray, List.getElem_cons_zero, List.getElem_cons_succ, List.setIfInBounds_toArray, List.set_cons_zero, List.set_cons_succ]
                  refine wpAnyH_take (i := 27) (v := ?vz27) rfl (by kernel_rfl) (by kernel_rfl) (by kernel_rfl) (fun _ _ _ h => h) (Or.inl ⟨by rfl, ?yz27⟩) (by assumption) ?rz27
                  case yz27 =>
                    intro w hSw
                    (try dsimp only at hSw)
                    go_simp
                    first | done | with_reducible rfl
                  try simp only [Act.put, List.getElem_toArray, List.getElem_cons_zero, List.getElem_cons_succ, List.setIfInBounds_toArray, List.set_cons_zero, List.set_cons_succ]
                  refine wpAnyH_done (by kernel_rfl) ?_ _
                  go_wp2_with fail
                  go_roundw
                  case rel => exact ⟨a + 1, by omega, by omega, by go_num, HB19⟩
                  case measure => simp [intOf]; omega
                · have k5 : a = 3 := by omega
                  subst k5
                  have HDE := Lib.hid ((HDZ.out.below HBA.out).below (jn_drewn wr)).dead
                  have HKN := Lib.hid (known_any wr.drew)
                  go_wp2_with fail
                  refine wp_region_held_drew (S := (fun w' => w'.cell? ⟨w2.heap.size, 0, none⟩ = some (.slice t.A t.R.length t.c) ∧ w'.cell? ⟨w2.heap.size, 1, none⟩ = some (.int .i64 (D.room : Int)) ∧ w'.cell? ⟨w2.heap.size, 2, none⟩ = some (.bool D.pw.isSome) ∧ w'.cell? ⟨w2.heap.size, 3, none⟩ = some (.int .i64 t.q) ∧ w'.cell? ⟨w2.heap.size, 4, none⟩ = some (.bool D.dead) ∧ w'.cell? ⟨w11.heap.size, 0, none⟩ = some (.slice tv.A tv.R.length tv.c) ∧ w'.cell? ⟨w11.heap.size, 1, none⟩ = some (.int .i64 (DC.room : Int)) ∧ w'.cell? ⟨w11.heap.size, 2, none⟩ = some (.bool DC.pw.isSome) ∧ w'.cell? ⟨w11.heap.size, 3, none⟩ = some (.int .i64 tv.q) ∧ w'.cell? ⟨w11.heap.size, 4, none⟩ = some (.bool DC.dead))) (by kernel_rfl) ⟨n0, n1, n2, n3, n4, p0, p1, p2, p3, p4⟩ (fun hHeld => ?_)
                  refine wpAnyH_take (i := 0) (v := ?vy0) rfl (by kernel_rfl) (by kernel_rfl) (by kernel_rfl) (fun _ _ _ h => h) (Or.inl ⟨by rfl, ?yy0⟩) (by assumption) ?ry0
                  case yy0 =>
                    intro w hSw
                    (try dsimp only at hSw)
                    go_simp
                    first | done | with_reducible rfl
                  try simp only [Act.put, List.getElem_toArray, List.getElem_cons_zero, List.setIfInBounds_toArray, List.set_cons_zero, List.set_cons_succ]
                  refine wpAnyH_take (i := 2) (v := ?vy2) rfl (by kernel_rfl) (by kernel_rfl) (by kernel_rfl) (fun _ _ _ h => h) (Or.inl ⟨by rfl, ?yy2⟩) (by assumption) ?ry2
                  case yy2 =>
                    intro w hSw
                    (try dsimp only at hSw)
                    go_simp
                    first | done | with_reducible rfl
                  try simp only [Act.put, List.getElem_toArray, List.getElem_cons_zero, List.getElem_cons_succ, List.setIfInBounds_toArray, List.set_cons_zero, List.set_cons_succ]
                  refine wpAnyH_take (i := 3) (v := ?vy3) rfl (by kernel_rfl) (by kernel_rfl) (by kernel_rfl) (fun _ _ _ h => h) (Or.inl ⟨by rfl, ?yy3⟩) (by assumption) ?ry3
                  case yy3 =>
                    intro w hSw
                    (try dsimp only at hSw)
                    go_simp
                    first | done | with_reducible rfl
                  try simp only [Act.put, List.getElem_toArray, List.getElem_cons_zero, List.getElem_cons_succ, List.setIfInBounds_toArray, List.set_cons_zero, List.set_cons_succ]
                  refine wpAnyH_ready (rs := [1]) (by kernel_rfl) (by simp) ?_
                  refine AllReadyH.cons rfl (fun K hK => ?_) AllReadyH.nil
                  go_simp
                  refine HDE.out.mono ?_
                  rintro e wa ⟨rfl, hwa⟩
                  have hwa := hwa.symm
                  subst hwa
                  go_wp2_with fail
                  refine hK.out _ _ (HK9.out _ (HBA.out.trans ((jn_drewn wr).mono HBA.out.size))) (fun hHeld => ?_)
                  clear hK K
                  try simp only [Act.put, List.getElem_toArray, List.getElem_cons_zero, List.getElem_cons_succ, List.setIfInBounds_toArray, List.set_cons_zero, List.set_cons_succ]
                  refine wpAnyH_take (i := 4) (v := ?vy4) rfl (by kernel_rfl) (by kernel_rfl) (by kernel_rfl) (fun _ _ _ h => h) (Or.inl ⟨by rfl, ?yy4⟩) (by assumption) ?ry4
                  case yy4 =>
                    intro w hSw
                    (try dsimp only at hSw)
                    go_simp
                    first | done | with_reducible rfl
                  try simp only [Act.put, List.getElem_toArray, List.getElem_cons_zero, List.getElem_cons_succ, List.setIfInBounds_toArray, List.set_cons_zero, List.set_cons_succ]
                  refine wpAnyH_take (i := 5) (v := ?vy5) rfl (by kernel_rfl) (by kernel_rfl) (by kernel_rfl) (fun _ _ _ h => h) (Or.inl ⟨by rfl, ?yy5⟩) (by assumption) ?ry5
                  case yy5 =>
                    intro w hSw
                    (try dsimp only at hSw)
                    go_simp
                    first | done | with_reducible rfl
                  try simp only [Act.put, List.getElem_toArray, List.getElem_cons_zero, List.getElem_cons_succ, List.setIfInBounds_toArray, List.set_cons_zero, List.set_cons_succ]
                  refine wpAnyH_ready (rs := [6]) (by kernel_rfl) (by simp) ?_
                  refine AllReadyH.cons rfl (fun K hK => ?_) AllReadyH.nil
                  go_simp
                  refine HKN.out.mono ?_
                  rintro e wb ⟨rfl, hbb⟩
                  have HBZ := Lib.hid (HBA.out.trans (((jn_drewn wr).trans hbb).mono HBA.out.size))
                  go_wp2_with fail
                  refine hK.out _ _ (HK9.out _ HBZ.out) (fun hHeld => ?_)
                  clear hK K
                  try simp only [Act.put, List.getElem_toArray, List.getElem_cons_zero, List.getElem_cons_succ, List.setIfInBounds_toArray, List.set_cons_zero, List.set_cons_succ]
                  refine wpAnyH_take (i := 7) (v := ?vy7) rfl (by kernel_rfl) (by kernel_rfl) (by kernel_rfl) (fun _ _ _ h => h) (Or.inl ⟨by rfl, ?yy7⟩) (by assumption) ?ry7
                  case yy7 =>
                    intro w hSw
                    (try dsimp only at hSw)
                    go_simp
                    first | done | with_reducible rfl
                  try simp only [Act.put, List.getElem_toArray, List.getElem_cons_zero, List.getElem_cons_succ, List.setIfInBounds_toArray, List.set_cons_zero, List.set_cons_succ]
                  refine wpAnyH_take (i := 8) (v := ?vy8) rfl (by kernel_rfl) (by kernel_rfl) (by kernel_rfl) (fun _ _ _ h => h) (Or.inl ⟨by rfl, ?yy8⟩) (by assumption) ?ry8
                  case yy8 =>
                    intro w hSw
                    (try dsimp only at hSw)
                    go_simp
                    first | done | with_reducible rfl
                  try simp only [Act.put, List.getElem_toArray, List.getElem_cons_zero, List.getElem_cons_succ, List.setIfInBounds_toArray, List.set_cons_zero, List.set_cons_succ]
                  refine wpAnyH_done (by kernel_rfl) ?_ _
                  go_wp2_with fail
                  go_ret
                  exact ⟨rfl, (HTZ.out.zero (by omega)).trans (HBZ.out.mono (HTZ.out.zero (by omega)).size)⟩

    · rw [decide_eq_false hs1] at HSM1
      go_enter Try.func8, Try.ntmps8
      go_wp2_with fail
      refine HSM0.out.mono ?_
      rintro e w' ⟨rfl, hw⟩
      have hw := hw.symm
      subst hw
      go_wp2_with fail
      refine HSM1.out.mono ?_
      rintro e w' ⟨rfl, hw⟩
      have hw := hw.symm
      subst hw
      have HK := Lib.hid (known_any w)
      go_wp2_with fail
      refine HK.out.mono ?_
      rintro e w9 ⟨rfl, hb9⟩
      go_wp2_with fail
      go_ret
      exact ⟨rfl, hb9⟩
  · rw [decide_eq_false hs0] at HSM0
    go_enter Try.func8, Try.ntmps8
    go_wp2_with fail
    refine HSM0.out.mono ?_
    rintro e w' ⟨rfl, hw⟩
    have hw := hw.symm
    subst hw
    have HK := Lib.hid (known_any w)
    go_wp2_with fail
    refine HK.out.mono ?_
    rintro e w9 ⟨rfl, hb9⟩
    go_wp2_with fail
    go_ret
    exact ⟨rfl, hb9⟩
end Go.Proofs.Ytojkifcclgecoaa.Dk
