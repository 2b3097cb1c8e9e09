/-
  The law DiskSteps, walked.
-/
import Derived.Test.YtojkifcclgecoaaDkBoth
namespace Go.Proofs.Ytojkifcclgecoaa.Dk
open Go Go.RowKit Go.Shelf Go.Proofs

theorem RefZ.new {who : Nat → Nat} {w w' : World} {t : RT} {d : DDk} (hf : Fresh who w) (hp : ∀ W : World, (∀ b, w.heap.size ≤ b → b < w'.heap.size → W.heap[b]? = w'.heap[b]?) → RefAt W t d) : RefZ who w' t d := fun W hW => hp W fun b h1 h2 => hW b h2 (hf b h1)
theorem RefZ.step2 {who : Nat → Nat} {w w8 wx : World} {t t' : RT} {d d' : DDk} {lo hi : Nat} (h : RefZ who w t d) (hf : Fresh who w) (hb : Below w.heap.size w w8) (hp : ∀ W : World, (∀ b, lo ≤ b → b < hi → W.heap[b]? = wx.heap[b]?) → RAreas W t.A t.c t.R → RefAt W t' d') (hlo : w.heap.size ≤ lo)
    (hx : ∀ b, lo ≤ b → b < hi → w8.heap[b]? = wx.heap[b]? ∧ b < w8.heap.size) : RefZ who w8 t' d' := fun W hW =>
  hp W (fun b h1 h2 => (hW b (hx b h1 h2).2 (hf b (by omega))).trans (hx b h1 h2).1) (h W fun b hbl h0 => (hW b (Nat.lt_of_lt_of_le hbl hb.size) h0).trans (hb.block b hbl)).areas
theorem RefZ.below {who : Nat → Nat} {w w' : World} {t : RT} {d : DDk} (h : RefZ who w t d) (hb : Below w.heap.size w w') : RefZ who w' t d := h.turn (Turn.below (lo := 1) (hi := 1) hb) (by omega)
set_option maxRecDepth 100000 in
set_option maxHeartbeats 16000000 in
theorem disksteps_any (areas room : Int) (A0 : Option Addr) (c0 : Nat) (l0 : List JX) (w : World) (h0 : JDosAt w A0 c0 l0) :
    Calls Try.prog 7 #[.int .i64 areas, .int .i64 room, .slice A0 l0.length c0] w fun e w' => e = .returned (.bool true) ∧ Below w.heap.size w w' := by
  have R0 := Lib.hid (jdos_at h0)
  have HE0 := Lib.hid h0.each
  have HSMALL := Lib.hid (jsmall_any A0 c0 l0 w h0)
  have hcp := h0.cap
  have hcm := h0.capm
  have hcm : c0 ≤ 9223372036854775807 := by unfold maxLen at hcm; omega
  clear h0
  by_cases hsm : l0.length ≤ 50 ∧ jlong l0 ≤ 1500
  · rw [decide_eq_true hsm] at HSMALL
    obtain ⟨h50, h1500⟩ := hsm
    have HU := Lib.hid h1500
    clear h1500
    go_enter Try.func7, Try.ntmps7
    go_wp2_with fail
    refine HSMALL.out.mono ?_
    rintro e w' ⟨rfl, hw⟩
    have hw := hw.symm
    subst hw
    have HN := Lib.hid (new_ds w areas room)
    obtain ⟨D0, hD0⟩ : ∃ D, DDk.new areas room = D := ⟨_, rfl⟩
    rw [hD0] at HN
    have HD0 := Lib.hid hD0
    clear HSMALL hD0
    go_wp2_with fail
    refine HN.out.mono ?_
    rintro e w1 ⟨g, rfl, who1, hD1, ht1⟩
    have HN1 := Lib.hid (rnew_any w1 areas room)
    rw [HD0.out] at HN1
    have HD1 := Lib.hid hD1
    have HT1 := Lib.hid (ht1.wider (Nat.le_refl 1) (show 27 ≤ 300 by omega))
    clear hD1 ht1 HN
    go_wp2_with fail
    refine HN1.out.mono ?_
    rintro e w2 ⟨t2, rfl, hb2, h2⟩
    have hrz2 := RefZ.new HD1.out.fresh h2
    have hd2 := HD1.out.below hb2
    have ht2 := HT1.out.trans (Turn.below hb2)
    have htg := tag1_turn (who := who1) (w := w2) 200 201 200 (.cells #[.slice t2.A t2.R.length t2.c, .int .i64 (D0.room : Int), .bool D0.pw.isSome, .int .i64 t2.q, .bool D0.dead] 57)
    have hal := heap_alloc_new w2 (.cells #[.slice t2.A t2.R.length t2.c, .int .i64 (D0.room : Int), .bool D0.pw.isSome, .int .i64 t2.q, .bool D0.dead] 57)
    have hfr := tag1_fresh hd2.fresh 200 (.cells #[.slice t2.A t2.R.length t2.c, .int .i64 (D0.room : Int), .bool D0.pw.isSome, .int .i64 t2.q, .bool D0.dead] 57)
    obtain ⟨w3, hw3⟩ : ∃ w3, w2.alloc (.cells #[.slice t2.A t2.R.length t2.c, .int .i64 (D0.room : Int), .bool D0.pw.isSome, .int .i64 t2.q, .bool D0.dead] 57) = w3 := ⟨_, rfl⟩
    rw [hw3] at htg hal hfr
    have HW3 := Lib.hid hw3
    have HD3 := Lib.hid (ds_turn hd2 htg hfr (by omega) (.inr (by omega)))
    have HRZ3 := Lib.hid (hrz2.turn htg (by omega))
    have HC3 := Lib.hid (show _ ∧ _ from ⟨hal, (show tag1 who1 w2.heap.size 200 w2.heap.size = 200 from if_pos rfl)⟩)
    have HT3 := Lib.hid (ht2.trans (htg.wider (by omega) (show 201 ≤ 300 by omega)))
    have HL3 := Lib.hid (Array.getElem?_eq_some_iff.1 hal).1
    have HL2 := Lib.hid (Nat.le_trans HT1.out.size hb2.size)
    clear hrz2 hd2 ht2 htg hal hfr hw3 hb2 h2 HN1 HD1 HT1
    unfold RT.v
    go_upto_region 5 with (fail)
    rw [HW3.out]
    go_wp2_with fail
    go_loopw [9] (fun iv wr => ∃ (i : Nat) (D : DDk) (t : RT) (who : Nat → Nat), i ≤ l0.length ∧ iv = .int .i64 i ∧ Hid (DS w.heap.size who wr 1 g D (jlong (l0.take i))) ∧ Hid (wr.heap[w2.heap.size]? = some (.cells #[.slice t.A t.R.length t.c, .int .i64 (D.room : Int), .bool D.pw.isSome, .int .i64 t.q, .bool D.dead] 57 (0, 0)) ∧ who w2.heap.size = 200) ∧ Hid (RefZ who wr t D) ∧ Hid (Turn 1 300 (fun _ => 0) w who wr)) (fun iv _ => l0.length - (intOf iv).toNat)
    case atStart => exact ⟨0, D0, t2, _, Nat.zero_le _, rfl, HD3, HC3, HRZ3, HT3⟩
    case round =>
      obtain ⟨wc, hwc⟩ : ∃ wc, wc = wr := ⟨_, rfl⟩
      subst hwc
      obtain ⟨i, D, t, who, hi, rfl, HD, HC, HRZ, HT⟩ := hrel
      by_cases k1 : i < l0.length
      · obtain ⟨g0, o0, x, rfl, hx, hW⟩ := R0.out i k1
        have k2 : (i : Int) < (l0.length : Int) := by omega
        have k3 : (i : Int) < (c0 : Int) := by omega
        have HCX := Lib.hid hW
        have hok := HE0.out x (List.mem_of_getElem? hx)
        have HXN := Lib.hid hok.n
        have hsn := jlong_snoc hx
        have hle := jlong_take l0 (i + 1)
        have hU2 := HU.out
        have HSN := Lib.hid hsn
        have hnn : jlong (l0.take i) + 1 + x.b.length ≤ 1500 := by omega
        obtain ⟨n, hn⟩ : ∃ n, jlong (l0.take i) = n := ⟨_, rfl⟩
        rw [hn] at HD hnn HSN
        have hz := HT.out.zero (by omega)
        have hsw := (HCX.out w (Below.refl _ _)).2.2.2.2
        have HSW := Lib.hid hsw
        have HDID := Lib.hid (did_any w.heap.size who wc 1 g D n x HD.out (by omega) (by omega) (HCX.out wc hz).2.2.2.2 (hsw.who HT.out) HXN.out)
        have HREF := Lib.hid (HRZ.out)
        have d0 := (HCX.out wc hz).1
        have d1 := (HCX.out wc hz).2.1
        have d2 := (HCX.out wc hz).2.2.1
        have d3 := (HCX.out wc hz).2.2.2.1
        obtain ⟨D5, hD5⟩ : ∃ D5, stepD D x.do = D5 := ⟨_, rfl⟩
        obtain ⟨E5, hE5⟩ : ∃ E5, stepE D x.do = E5 := ⟨_, rfl⟩
        rw [hD5, hE5] at HDID
        have HD5E := Lib.hid (show stepD D x.do = D5 ∧ stepE D x.do = E5 from ⟨hD5, hE5⟩)
        unfold JX.v at HDID
        clear hD5 hE5
        clear hsn hle hU2 hW hx hok hn hz hsw
        go_wp2_with fail
        refine HDID.out.mono ?_
        rintro e w5 ⟨rfl, who5, hd5, ht5⟩
        have hc5 := (ht5.block w2.heap.size (Array.getElem?_eq_some_iff.1 HC.out.1).1 (by rw [HC.out.2]; omega)).trans HC.out.1
        have hw5 := (ht5.same w2.heap.size (Array.getElem?_eq_some_iff.1 HC.out.1).1).trans HC.out.2
        have hrz5 := HRZ.out.turn ht5 (by omega)
        have hT5 := HT.out.trans (ht5.wider (Nat.le_refl 1) (show 27 ≤ 300 by omega))
        have hz5 := hT5.zero (by omega)
        have HST := Lib.hid (fun (W : World) (hb : Below w5.heap.size w5 W) => show Calls Try.prog 31 #[.agg #[.slice t.A t.R.length t.c, .int .i64 (D.room : Int), .bool D.pw.isSome, .int .i64 t.q, .bool D.dead], .agg #[.int .i64 x.k, .int .i64 x.a, .int .i64 x.n, .slice x.A x.b.length x.c]] W (RPE W t D5 E5) from by rw [← HD5E.out.1, ← HD5E.out.2]; exact rstep_any W t D x.do n x.A x.c (hrz5.here.below hb) HD.out.fits ((HCX.out w5 hz5).2.2.2.2.below hb) (by show n + x.b.length ≤ _; omega) (ds_okS HD.out) HXN.out)
        have HD5 := Lib.hid hd5
        have HC5 := Lib.hid hc5
        have HWN5 := Lib.hid hw5
        have HRZ5 := Lib.hid hrz5
        have HT5 := Lib.hid hT5
        have c0 := cell_of_row w5 w2.heap.size 0 _ _ _ hc5
        have c1 := cell_of_row w5 w2.heap.size 1 _ _ _ hc5
        have c2 := cell_of_row w5 w2.heap.size 2 _ _ _ hc5
        have c3 := cell_of_row w5 w2.heap.size 3 _ _ _ hc5
        have c4 := cell_of_row w5 w2.heap.size 4 _ _ _ hc5
        have b0 := (HCX.out w5 hz5).1
        have b1 := (HCX.out w5 hz5).2.1
        have b2 := (HCX.out w5 hz5).2.2.1
        have b3 := (HCX.out w5 hz5).2.2.2.1
        have HKEEP := Lib.hid (show ∀ w' : World, Below w5.heap.size w5 w' → (w'.cell? ⟨w2.heap.size, 0, none⟩ = some (.slice t.A t.R.length t.c) ∧ w'.cell? ⟨w2.heap.size, 1, none⟩ = some (.int .i64 (D.room : Int)) ∧ w'.cell? ⟨w2.heap.size, 2, none⟩ = some (.bool D.pw.isSome) ∧ w'.cell? ⟨w2.heap.size, 3, none⟩ = some (.int .i64 t.q) ∧ w'.cell? ⟨w2.heap.size, 4, none⟩ = some (.bool D.dead) ∧ w'.cell? ⟨g0, o0 + i * 4, none⟩ = some (.int .i64 x.k) ∧ w'.cell? ⟨g0, o0 + i * 4 + 1, none⟩ = some (.int .i64 x.a) ∧ w'.cell? ⟨g0, o0 + i * 4 + 2, none⟩ = some (.int .i64 x.n) ∧ w'.cell? ⟨g0, o0 + i * 4 + 3, none⟩ = some (.slice x.A x.b.length x.c)) from fun W hb =>
          ⟨cell_of_row W _ 0 _ _ _ ((hb.block _ (Array.getElem?_eq_some_iff.1 hc5).1).trans hc5), cell_of_row W _ 1 _ _ _ ((hb.block _ (Array.getElem?_eq_some_iff.1 hc5).1).trans hc5), cell_of_row W _ 2 _ _ _ ((hb.block _ (Array.getElem?_eq_some_iff.1 hc5).1).trans hc5), cell_of_row W _ 3 _ _ _ ((hb.block _ (Array.getElem?_eq_some_iff.1 hc5).1).trans hc5), cell_of_row W _ 4 _ _ _ ((hb.block _ (Array.getElem?_eq_some_iff.1 hc5).1).trans hc5),
           (HCX.out W (hz5.trans (hb.mono hz5.size))).1, (HCX.out W (hz5.trans (hb.mono hz5.size))).2.1, (HCX.out W (hz5.trans (hb.mono hz5.size))).2.2.1, (HCX.out W (hz5.trans (hb.mono hz5.size))).2.2.2.1⟩)
        clear d0 d1 d2 d3 hc5 hw5 hrz5 hT5 hz5 hd5 ht5 HDID HD HRZ HT HC
        go_wp2_with fail
        refine wp_region_held_drew (S := (fun w' => w'.cell? ⟨w2.heap.size, 0, none⟩ = some (.slice t.A t.R.length t.c) ∧ w'.cell? ⟨w2.heap.size, 1, none⟩ = some (.int .i64 (D.room : Int)) ∧ w'.cell? ⟨w2.heap.size, 2, none⟩ = some (.bool D.pw.isSome) ∧ w'.cell? ⟨w2.heap.size, 3, none⟩ = some (.int .i64 t.q) ∧ w'.cell? ⟨w2.heap.size, 4, none⟩ = some (.bool D.dead) ∧ w'.cell? ⟨g0, o0 + i * 4, none⟩ = some (.int .i64 x.k) ∧ w'.cell? ⟨g0, o0 + i * 4 + 1, none⟩ = some (.int .i64 x.a) ∧ w'.cell? ⟨g0, o0 + i * 4 + 2, none⟩ = some (.int .i64 x.n) ∧ w'.cell? ⟨g0, o0 + i * 4 + 3, none⟩ = some (.slice x.A x.b.length x.c))) (by kernel_rfl) ⟨c0, c1, c2, c3, c4, b0, b1, b2, b3⟩ (fun hHeld => ?_)
        refine wpAnyH_take (i := 0) (v := ?vg0) rfl (by kernel_rfl) (by kernel_rfl) (by kernel_rfl) (fun _ _ _ h => h) (Or.inl ⟨by rfl, ?yg0⟩) (by assumption) ?rg0
        case yg0 =>
          intro w hSw
          (try dsimp only at hSw)
          go_simp
          first | done | with_reducible rfl
        try simp only [Act.put, List.getElem_toArray, List.getElem_cons_zero, List.setIfInBounds_toArray, List.set_cons_zero, List.set_cons_succ]
        refine wpAnyH_take (i := 1) (v := ?vg1) rfl (by kernel_rfl) (by kernel_rfl) (by kernel_rfl) (fun _ _ _ h => h) (Or.inl ⟨by rfl, ?yg1⟩) (by assumption) ?rg1
        case yg1 =>
          intro w hSw
          (try dsimp only at hSw)
          go_simp
          first | done | with_reducible rfl
        try simp only [Act.put, List.getElem_toArray, List.getElem_cons_zero, List.getElem_cons_succ, List.setIfInBounds_toArray, List.set_cons_zero, List.set_cons_succ]
        refine wpAnyH_take (i := 2) (v := ?vg2) rfl (by kernel_rfl) (by kernel_rfl) (by kernel_rfl) (fun _ _ _ h => h) (Or.inl ⟨by rfl, ?yg2⟩) (by assumption) ?rg2
        case yg2 =>
          intro w hSw
          (try dsimp only at hSw)
          go_simp
          first | done | with_reducible rfl
        try simp only [Act.put, List.getElem_toArray, List.getElem_cons_zero, List.getElem_cons_succ, List.setIfInBounds_toArray, List.set_cons_zero, List.set_cons_succ]
        refine wpAnyH_take (i := 3) (v := ?vg3) rfl (by kernel_rfl) (by kernel_rfl) (by kernel_rfl) (fun _ _ _ h => h) (Or.inl ⟨by rfl, ?yg3⟩) (by assumption) ?rg3
        case yg3 =>
          intro w hSw
          (try dsimp only at hSw)
          go_simp
          first | done | with_reducible rfl
        try simp only [Act.put, List.getElem_toArray, List.getElem_cons_zero, List.getElem_cons_succ, List.setIfInBounds_toArray, List.set_cons_zero, List.set_cons_succ]
        refine wpAnyH_take (i := 4) (v := ?vg4) rfl (by kernel_rfl) (by kernel_rfl) (by kernel_rfl) (fun _ _ _ h => h) (Or.inl ⟨by rfl, ?yg4⟩) (by assumption) ?rg4
        case yg4 =>
          intro w hSw
          (try dsimp only at hSw)
          go_simp
          first | done | with_reducible rfl
        try simp only [Act.put, List.getElem_toArray, List.getElem_cons_zero, List.getElem_cons_succ, List.setIfInBounds_toArray, List.set_cons_zero, List.set_cons_succ]
        skip
        refine wpAnyH_ready (rs := [5, 9]) (by kernel_rfl) (by simp) ?_
        refine AllReadyH.cons rfl (fun K hK => ?_) (AllReadyH.cons rfl (fun K hK => ?_) AllReadyH.nil)
        · go_simp
          refine (HST.out w5.drew (jn_drewn w5)).mono ?_
          rintro e w6 ⟨t5, rfl, hb6', h6⟩
          have hb6 : Below w5.heap.size w5 w6 := (jn_drewn w5).trans hb6'
          unfold RT.v
          go_wp2_with fail
          refine hK.out _ _ (HKEEP.out w6 hb6) (fun hHeld => ?_)
          clear hK K
          try simp only [Act.put, List.getElem_toArray, List.getElem_cons_zero, List.getElem_cons_succ, List.setIfInBounds_toArray, List.set_cons_zero, List.set_cons_succ]
          refine wpAnyH_take (i := 6) (v := ?va6) rfl (by kernel_rfl) (by kernel_rfl) (by kernel_rfl) (fun _ _ _ h => h) (Or.inl ⟨by rfl, ?ya6⟩) (by assumption) ?ra6
          case ya6 =>
            intro w hSw
            (try dsimp only at hSw)
            go_simp
            first | done | with_reducible rfl
          try simp only [Act.put, List.getElem_toArray, List.getElem_cons_zero, List.getElem_cons_succ, List.setIfInBounds_toArray, List.set_cons_zero, List.set_cons_succ]
          refine wpAnyH_take (i := 7) (v := ?va7) rfl (by kernel_rfl) (by kernel_rfl) (by kernel_rfl) (fun _ _ _ h => h) (Or.inl ⟨by rfl, ?ya7⟩) (by assumption) ?ra7
          case ya7 =>
            intro w hSw
            (try dsimp only at hSw)
            go_simp
            first | done | with_reducible rfl
          try simp only [Act.put, List.getElem_toArray, List.getElem_cons_zero, List.getElem_cons_succ, List.setIfInBounds_toArray, List.set_cons_zero, List.set_cons_succ]
          refine wpAnyH_take (i := 8) (v := ?va8) rfl (by kernel_rfl) (by kernel_rfl) (by kernel_rfl) (fun _ _ _ h => h) (Or.inl ⟨by rfl, ?ya8⟩) (by assumption) ?ra8
          case ya8 =>
            intro w hSw
            (try dsimp only at hSw)
            go_simp
            first | done | with_reducible rfl
          try simp only [Act.put, List.getElem_toArray, List.getElem_cons_zero, List.getElem_cons_succ, List.setIfInBounds_toArray, List.set_cons_zero, List.set_cons_succ]
          skip
          refine wpAnyH_ready (rs := [9]) (by kernel_rfl) (by simp) ?_
          refine AllReadyH.cons rfl (fun K hK => ?_) AllReadyH.nil
          go_simp
          have hz7 := heap_alloc_new w6 (.cells #[.slice none 0 0, .int .i64 0, .bool false, .int .i64 0, .bool false] 57)
          have hba : Below w6.heap.size w6 (w6.alloc (.cells #[.slice none 0 0, .int .i64 0, .bool false, .int .i64 0, .bool false] 57)) := (Below.refl _ _).alloc (Nat.le_refl _) _
          obtain ⟨w7, hv⟩ : ∃ V, w6.alloc (.cells #[.slice none 0 0, .int .i64 0, .bool false, .int .i64 0, .bool false] 57) = V := ⟨_, rfl⟩
          rw [hv] at hz7 hba ⊢
          have hb7 : Below w5.heap.size w5 w7 := hb6.trans (hba.mono hb6.size)
          refine hK.out _ _ (HKEEP.out w7 hb7) (fun hHeld => ?_)
          clear hK K
          try simp only [Act.put, List.getElem_toArray, List.getElem_cons_zero, List.getElem_cons_succ, List.setIfInBounds_toArray, List.set_cons_zero, List.set_cons_succ]
          refine wpAnyH_ready (rs := [10]) (by kernel_rfl) (by simp) ?_
          refine AllReadyH.cons rfl (fun K hK => ?_) AllReadyH.nil
          refine wp_store_mid 57 (.tmp 11) (.tmp 43) rfl (w6.heap.size) 0 #[.slice t5.A t5.R.length t5.c, .int .i64 (D5.room : Int), .bool D5.pw.isSome, .int .i64 t5.q, .bool D5.dead] rfl rfl (fun j hj => there5 hz7 hj) (by kernel_rfl) (by simp [Value.oneCell']) ?_
          have hst := store5 hz7 (.slice t5.A t5.R.length t5.c) (.int .i64 (D5.room : Int)) (.bool D5.pw.isSome) (.int .i64 t5.q) (.bool D5.dead)
          obtain ⟨w8, hw8⟩ : ∃ w8, w7.setCells (w6.heap.size) 0 [.slice t5.A t5.R.length t5.c, .int .i64 (D5.room : Int), .bool D5.pw.isSome, .int .i64 t5.q, .bool D5.dead] = w8 := ⟨_, rfl⟩
          rw [show (#[Value.slice t5.A t5.R.length t5.c, .int .i64 (D5.room : Int), .bool D5.pw.isSome, .int .i64 t5.q, .bool D5.dead] : Array Value).toList = [.slice t5.A t5.R.length t5.c, .int .i64 (D5.room : Int), .bool D5.pw.isSome, .int .i64 t5.q, .bool D5.dead] from rfl, hw8]
          rw [hw8] at hst
          have hbu := hst.1
          have ho8 := hst.2
          have hb8 : Below w5.heap.size w5 w8 := only_below hb7 ho8 (by have := hb6.size; omega)
          refine hK.out _ _ (HKEEP.out w8 hb8) (fun hHeld => ?_)
          clear hK K
          try simp only [Act.put, List.getElem_toArray, List.getElem_cons_zero, List.getElem_cons_succ]
          refine wpAnyH_take (i := 11) (v := ?vsa11) rfl (by kernel_rfl) (by kernel_rfl) (by kernel_rfl) (fun _ _ _ h => h) (Or.inl ⟨by rfl, ?ysa11⟩) (by assumption) ?rsa11
          case ysa11 =>
            intro w hSw
            (try dsimp only at hSw)
            go_simp
            first | done | with_reducible rfl
          try simp only [Act.put, List.getElem_toArray, List.getElem_cons_zero, List.getElem_cons_succ, List.setIfInBounds_toArray, List.set_cons_zero, List.set_cons_succ]
          skip
          refine wpAnyH_done (by kernel_rfl) ?_ _
          have hrz8 : RefZ who5 w8 t5 D5 := HRZ5.out.step2 HD5.out.fresh hb8 h6 (Nat.le_refl _) (fun b h1 h2 => ⟨(ho8.block b (by omega)).trans (hba.block b h2), by have := hba.size; rw [ho8.size]; omega⟩)
          have hN5 := (Array.getElem?_eq_some_iff.1 HC5.out).1
          have hc8 := (hb8.block w2.heap.size hN5).trans HC5.out
          have u0 := cell_of_row w8 _ 0 _ _ _ hbu
          have u1 := cell_of_row w8 _ 1 _ _ _ hbu
          have u2 := cell_of_row w8 _ 2 _ _ _ hbu
          have u3 := cell_of_row w8 _ 3 _ _ _ hbu
          have u4 := cell_of_row w8 _ 4 _ _ _ hbu
          obtain ⟨w9, hY, hY1, ho9, r0, r1, r2, r3, r4, f0, f1, f2, f3, f4⟩ := ret5 hc8 (.slice t5.A t5.R.length t5.c) (.int .i64 (D5.room : Int)) (.bool D5.pw.isSome) (.int .i64 t5.q) (.bool D5.dead)
          have HW9 := Lib.hid hY
          have HC9 := Lib.hid hY1
          have hd8 := HD5.out.below hb8
          have ht9 := only_turn ho9 HWN5.out
          have hf9 := hd8.fresh.size (show w8.heap.size ≤ w9.heap.size by rw [ho9.size]; exact Nat.le_refl _)
          have hd9 := ds_turn hd8 ht9 hf9 (by omega) (.inr (by omega))
          have hrz9 := hrz8.turn ht9 (by omega)
          have HT9 := Lib.hid ((HT5.out.trans (Turn.below hb8)).trans (ht9.wider (by omega) (show 200 + 1 ≤ 300 by omega)))
          have HK9 := Lib.hid (show ∀ w' : World, Below w9.heap.size w9 w' → (w'.cell? ⟨w2.heap.size, 0, none⟩ = some (.slice t5.A t5.R.length t5.c) ∧ w'.cell? ⟨w2.heap.size, 1, none⟩ = some (.int .i64 (D5.room : Int)) ∧ w'.cell? ⟨w2.heap.size, 2, none⟩ = some (.bool D5.pw.isSome) ∧ w'.cell? ⟨w2.heap.size, 3, none⟩ = some (.int .i64 t5.q) ∧ w'.cell? ⟨w2.heap.size, 4, none⟩ = some (.bool D5.dead)) from fun W hb => ⟨cell_of_row W _ 0 _ _ _ ((hb.block _ (Array.getElem?_eq_some_iff.1 hY1).1).trans hY1), cell_of_row W _ 1 _ _ _ ((hb.block _ (Array.getElem?_eq_some_iff.1 hY1).1).trans hY1), cell_of_row W _ 2 _ _ _ ((hb.block _ (Array.getElem?_eq_some_iff.1 hY1).1).trans hY1), cell_of_row W _ 3 _ _ _ ((hb.block _ (Array.getElem?_eq_some_iff.1 hY1).1).trans hY1), cell_of_row W _ 4 _ _ _ ((hb.block _ (Array.getElem?_eq_some_iff.1 hY1).1).trans hY1)⟩)
          have HDE := Lib.hid (hd9.below (jn_drewn w9)).dead
          have HUS := Lib.hid ((hd9.below (jn_drewn w9)).used (by omega))
          have hru := rused_any w9.drew t5 D5 (n + (1 + x.b.length)) (hrz9.here.below (jn_drewn w9)) hd9.fits (by omega)
          unfold RT.v at hru
          have HRU := Lib.hid hru
          have HPR := Lib.hid (fun (W : World) (hb : Below w9.heap.size w9 W) (a : Int) => (show _ ∧ _ from ⟨(hd9.below hb).read (by omega) a, (hd9.below hb).lasting (by omega) a⟩))
          have HPF := Lib.hid (fun (W : World) (hb : Below w9.heap.size w9 W) (a : Int) => (show (Calls Try.prog 35 #[.agg #[.slice t5.A t5.R.length t5.c, .int .i64 (D5.room : Int), .bool D5.pw.isSome, .int .i64 t5.q, .bool D5.dead], .int .i64 a] W _) ∧ (Calls Try.prog 37 #[.agg #[.slice t5.A t5.R.length t5.c, .int .i64 (D5.room : Int), .bool D5.pw.isSome, .int .i64 t5.q, .bool D5.dead], .int .i64 a] W _) from ⟨rread_any W t5 D5 a (n + (1 + x.b.length)) (hrz9.here.below hb) hd9.fits, rlast_any W t5 D5 a (n + (1 + x.b.length)) (hrz9.here.below hb) hd9.fits⟩))
          have HD9 := Lib.hid hd9
          have HRZ9 := Lib.hid hrz9
          obtain ⟨m0, m1, m2, m3, m4⟩ := HK9.out w9 (Below.refl _ _)
          clear hN5 hc8 hY hY1 hd8 ht9 hf9 hd9 hrz9 hru hrz8 hbu ho8
          go_upto_region 11 with (fail)
          rw [HW9.out]
          refine wp_region_held_drew (S := (fun w' => w'.cell? ⟨w2.heap.size, 0, none⟩ = some (.slice t5.A t5.R.length t5.c) ∧ w'.cell? ⟨w2.heap.size, 1, none⟩ = some (.int .i64 (D5.room : Int)) ∧ w'.cell? ⟨w2.heap.size, 2, none⟩ = some (.bool D5.pw.isSome) ∧ w'.cell? ⟨w2.heap.size, 3, none⟩ = some (.int .i64 t5.q) ∧ w'.cell? ⟨w2.heap.size, 4, none⟩ = some (.bool D5.dead))) (by kernel_rfl) ⟨m0, m1, m2, m3, m4⟩ (fun hHeld => ?_)
          refine wpAnyH_take (i := 0) (v := ?vda0) rfl (by kernel_rfl) (by kernel_rfl) (by kernel_rfl) (fun _ _ _ h => h) (Or.inl ⟨by rfl, ?yda0⟩) (by assumption) ?rda0
          case yda0 =>
            intro w hSw
            (try dsimp only at hSw)
            go_simp
            first | done | with_reducible rfl
          try simp only [Act.put, List.getElem_toArray, List.getElem_cons_zero, List.setIfInBounds_toArray, List.set_cons_zero, List.set_cons_succ]
          refine wpAnyH_take (i := 1) (v := ?vda1) rfl (by kernel_rfl) (by kernel_rfl) (by kernel_rfl) (fun _ _ _ h => h) (Or.inl ⟨by rfl, ?yda1⟩) (by assumption) ?rda1
          case yda1 =>
            intro w hSw
            (try dsimp only at hSw)
            go_simp
            first | done | with_reducible rfl
          try simp only [Act.put, List.getElem_toArray, List.getElem_cons_zero, List.getElem_cons_succ, List.setIfInBounds_toArray, List.set_cons_zero, List.set_cons_succ]
          refine wpAnyH_take (i := 2) (v := ?vda2) rfl (by kernel_rfl) (by kernel_rfl) (by kernel_rfl) (fun _ _ _ h => h) (Or.inl ⟨by rfl, ?yda2⟩) (by assumption) ?rda2
          case yda2 =>
            intro w hSw
            (try dsimp only at hSw)
            go_simp
            first | done | with_reducible rfl
          try simp only [Act.put, List.getElem_toArray, List.getElem_cons_zero, List.getElem_cons_succ, List.setIfInBounds_toArray, List.set_cons_zero, List.set_cons_succ]
          refine wpAnyH_take (i := 3) (v := ?vda3) rfl (by kernel_rfl) (by kernel_rfl) (by kernel_rfl) (fun _ _ _ h => h) (Or.inl ⟨by rfl, ?yda3⟩) (by assumption) ?rda3
          case yda3 =>
            intro w hSw
            (try dsimp only at hSw)
            go_simp
            first | done | with_reducible rfl
          try simp only [Act.put, List.getElem_toArray, List.getElem_cons_zero, List.getElem_cons_succ, List.setIfInBounds_toArray, List.set_cons_zero, List.set_cons_succ]
          refine wpAnyH_take (i := 4) (v := ?vda4) rfl (by kernel_rfl) (by kernel_rfl) (by kernel_rfl) (fun _ _ _ h => h) (Or.inl ⟨by rfl, ?yda4⟩) (by assumption) ?rda4
          case yda4 =>
            intro w hSw
            (try dsimp only at hSw)
            go_simp
            first | done | with_reducible rfl
          try simp only [Act.put, List.getElem_toArray, List.getElem_cons_zero, List.getElem_cons_succ, List.setIfInBounds_toArray, List.set_cons_zero, List.set_cons_succ]
          refine wpAnyH_take (i := 6) (v := ?vda6) rfl (by kernel_rfl) (by kernel_rfl) (by kernel_rfl) (fun _ _ _ h => h) (Or.inl ⟨by rfl, ?yda6⟩) (by assumption) ?rda6
          case yda6 =>
            intro w hSw
            (try dsimp only at hSw)
            go_simp
            first | done | with_reducible rfl
          try simp only [Act.put, List.getElem_toArray, List.getElem_cons_zero, List.getElem_cons_succ, List.setIfInBounds_toArray, List.set_cons_zero, List.set_cons_succ]
          refine wpAnyH_take (i := 7) (v := ?vda7) rfl (by kernel_rfl) (by kernel_rfl) (by kernel_rfl) (fun _ _ _ h => h) (Or.inl ⟨by rfl, ?yda7⟩) (by assumption) ?rda7
          case yda7 =>
            intro w hSw
            (try dsimp only at hSw)
            go_simp
            first | done | with_reducible rfl
          try simp only [Act.put, List.getElem_toArray, List.getElem_cons_zero, List.getElem_cons_succ, List.setIfInBounds_toArray, List.set_cons_zero, List.set_cons_succ]
          refine wpAnyH_ready (rs := [5]) (by kernel_rfl) (by simp) ?_
          refine AllReadyH.cons rfl (fun K hK => ?_) AllReadyH.nil
          go_simp
          refine HDE.out.mono ?_
          rintro e wa ⟨rfl, hwa⟩
          have hwa := hwa.symm
          subst hwa
          go_wp2_with fail
          refine hK.out _ _ (HK9.out _ (jn_drewn w9)) (fun hHeld => ?_)
          clear hK K
          try simp only [Act.put, List.getElem_toArray, List.getElem_cons_zero, List.getElem_cons_succ, List.setIfInBounds_toArray, List.set_cons_zero, List.set_cons_succ]
          refine wpAnyH_take (i := 8) (v := ?vda8) rfl (by kernel_rfl) (by kernel_rfl) (by kernel_rfl) (fun _ _ _ h => h) (Or.inl ⟨by rfl, ?yda8⟩) (by assumption) ?rda8
          case yda8 =>
            intro w hSw
            (try dsimp only at hSw)
            go_simp
            first | done | with_reducible rfl
          try simp only [Act.put, List.getElem_toArray, List.getElem_cons_zero, List.getElem_cons_succ, List.setIfInBounds_toArray, List.set_cons_zero, List.set_cons_succ]
          refine wpAnyH_take (i := 9) (v := ?vda9) rfl (by kernel_rfl) (by kernel_rfl) (by kernel_rfl) (fun _ _ _ h => h) (Or.inl ⟨by rfl, ?yda9⟩) (by assumption) ?rda9
          case yda9 =>
            intro w hSw
            (try dsimp only at hSw)
            go_simp
            first | done | with_reducible rfl
          try simp only [Act.put, List.getElem_toArray, List.getElem_cons_zero, List.getElem_cons_succ, List.setIfInBounds_toArray, List.set_cons_zero, List.set_cons_succ]
          refine wpAnyH_take (i := 10) (v := ?vda10) rfl (by kernel_rfl) (by kernel_rfl) (by kernel_rfl) (fun _ _ _ h => h) (Or.inl ⟨by rfl, ?yda10⟩) (by assumption) ?rda10
          case yda10 =>
            intro w hSw
            (try dsimp only at hSw)
            go_simp
            first | done | with_reducible rfl
          try simp only [Act.put, List.getElem_toArray, List.getElem_cons_zero, List.getElem_cons_succ, List.setIfInBounds_toArray, List.set_cons_zero, List.set_cons_succ]
          refine wpAnyH_take (i := 11) (v := ?vda11) rfl (by kernel_rfl) (by kernel_rfl) (by kernel_rfl) (fun _ _ _ h => h) (Or.inl ⟨by rfl, ?yda11⟩) (by assumption) ?rda11
          case yda11 =>
            intro w hSw
            (try dsimp only at hSw)
            go_simp
            first | done | with_reducible rfl
          try simp only [Act.put, List.getElem_toArray, List.getElem_cons_zero, List.getElem_cons_succ, List.setIfInBounds_toArray, List.set_cons_zero, List.set_cons_succ]
          refine wpAnyH_take (i := 13) (v := ?vda13) rfl (by kernel_rfl) (by kernel_rfl) (by kernel_rfl) (fun _ _ _ h => h) (Or.inl ⟨by rfl, ?yda13⟩) (by assumption) ?rda13
          case yda13 =>
            intro w hSw
            (try dsimp only at hSw)
            go_simp
            first | done | with_reducible rfl
          try simp only [Act.put, List.getElem_toArray, List.getElem_cons_zero, List.getElem_cons_succ, List.setIfInBounds_toArray, List.set_cons_zero, List.set_cons_succ]
          refine wpAnyH_ready (rs := [12]) (by kernel_rfl) (by simp) ?_
          refine AllReadyH.cons rfl (fun K hK => ?_) AllReadyH.nil
          go_simp
          refine HUS.out.mono ?_
          rintro e wa ⟨rfl, hwa⟩
          have hwa := hwa.symm
          subst hwa
          go_wp2_with fail
          refine hK.out _ _ (HK9.out _ (jn_drewn w9)) (fun hHeld => ?_)
          clear hK K
          try simp only [Act.put, List.getElem_toArray, List.getElem_cons_zero, List.getElem_cons_succ, List.setIfInBounds_toArray, List.set_cons_zero, List.set_cons_succ]
          refine wpAnyH_ready (rs := [14]) (by kernel_rfl) (by simp) ?_
          refine AllReadyH.cons rfl (fun K hK => ?_) AllReadyH.nil
          go_simp
          refine HRU.out.mono ?_
          rintro e w10 ⟨rfl, hb10'⟩
          have hb10 : Below w9.heap.size w9 w10 := (jn_drewn w9).trans hb10'
          have HB10 := Lib.hid hb10
          clear hb10'
          go_wp2_with fail
          refine hK.out _ _ (HK9.out _ hb10) (fun hHeld => ?_)
          clear hK K
          try simp only [Act.put, List.getElem_toArray, List.getElem_cons_zero, List.getElem_cons_succ, List.setIfInBounds_toArray, List.set_cons_zero, List.set_cons_succ]
          refine wpAnyH_take (i := 15) (v := ?vda15) rfl (by kernel_rfl) (by kernel_rfl) (by kernel_rfl) (fun _ _ _ h => h) (Or.inl ⟨by rfl, ?yda15⟩) (by assumption) ?rda15
          case yda15 =>
            intro w hSw
            (try dsimp only at hSw)
            go_simp
            first | done | with_reducible rfl
          try simp only [Act.put, List.getElem_toArray, List.getElem_cons_zero, List.getElem_cons_succ, List.setIfInBounds_toArray, List.set_cons_zero, List.set_cons_succ]
          refine wpAnyH_take (i := 16) (v := ?vda16) rfl (by kernel_rfl) (by kernel_rfl) (by kernel_rfl) (fun _ _ _ h => h) (Or.inl ⟨by rfl, ?yda16⟩) (by assumption) ?rda16
          case yda16 =>
            intro w hSw
            (try dsimp only at hSw)
            go_simp
            first | done | with_reducible rfl
          try simp only [Act.put, List.getElem_toArray, List.getElem_cons_zero, List.getElem_cons_succ, List.setIfInBounds_toArray, List.set_cons_zero, List.set_cons_succ]
          refine wpAnyH_done (by kernel_rfl) ?_ _
          go_wp2_with fail
          go_loopw [13] (fun av wr => ∃ (a : Int), -1 ≤ a ∧ a ≤ 9 ∧ av = .int .i64 a ∧ Hid (Below w9.heap.size w9 wr)) (fun av _ => (9 - intOf av).toNat)
          case atStart => exact ⟨-1, by omega, by omega, rfl, HB10⟩
          case round =>
            obtain ⟨a, ha1, ha2, rfl, HBA⟩ := hrel
            by_cases k4 : a < 9
            · obtain ⟨n0, n1, n2, n3, n4⟩ := HK9.out wr HBA.out
              go_wp2_with fail
              refine wp_region_held_drew (S := (fun w' => w'.cell? ⟨w2.heap.size, 0, none⟩ = some (.slice t5.A t5.R.length t5.c) ∧ w'.cell? ⟨w2.heap.size, 1, none⟩ = some (.int .i64 (D5.room : Int)) ∧ w'.cell? ⟨w2.heap.size, 2, none⟩ = some (.bool D5.pw.isSome) ∧ w'.cell? ⟨w2.heap.size, 3, none⟩ = some (.int .i64 t5.q) ∧ w'.cell? ⟨w2.heap.size, 4, none⟩ = some (.bool D5.dead))) (by kernel_rfl) ⟨n0, n1, n2, n3, n4⟩ (fun hHeld => ?_)
              refine wpAnyH_take (i := 0) (v := ?vfa0) rfl (by kernel_rfl) (by kernel_rfl) (by kernel_rfl) (fun _ _ _ h => h) (Or.inl ⟨by rfl, ?yfa0⟩) (by assumption) ?rfa0
              case yfa0 =>
                intro w hSw
                (try dsimp only at hSw)
                go_simp
                first | done | with_reducible rfl
              try simp only [Act.put, List.getElem_toArray, List.getElem_cons_zero, List.setIfInBounds_toArray, List.set_cons_zero, List.set_cons_succ]
              refine wpAnyH_take (i := 1) (v := ?vfa1) rfl (by kernel_rfl) (by kernel_rfl) (by kernel_rfl) (fun _ _ _ h => h) (Or.inl ⟨by rfl, ?yfa1⟩) (by assumption) ?rfa1
              case yfa1 =>
                intro w hSw
                (try dsimp only at hSw)
                go_simp
                first | done | with_reducible rfl
              try simp only [Act.put, List.getElem_toArray, List.getElem_cons_zero, List.getElem_cons_succ, List.setIfInBounds_toArray, List.set_cons_zero, List.set_cons_succ]
              refine wpAnyH_take (i := 3) (v := ?vfa3) rfl (by kernel_rfl) (by kernel_rfl) (by kernel_rfl) (fun _ _ _ h => h) (Or.inl ⟨by rfl, ?yfa3⟩) (by assumption) ?rfa3
              case yfa3 =>
                intro w hSw
                (try dsimp only at hSw)
                go_simp
                first | done | with_reducible rfl
              try simp only [Act.put, List.getElem_toArray, List.getElem_cons_zero, List.getElem_cons_succ, List.setIfInBounds_toArray, List.set_cons_zero, List.set_cons_succ]
              refine wpAnyH_take (i := 4) (v := ?vfa4) rfl (by kernel_rfl) (by kernel_rfl) (by kernel_rfl) (fun _ _ _ h => h) (Or.inl ⟨by rfl, ?yfa4⟩) (by assumption) ?rfa4
              case yfa4 =>
                intro w hSw
                (try dsimp only at hSw)
                go_simp
                first | done | with_reducible rfl
              try simp only [Act.put, List.getElem_toArray, List.getElem_cons_zero, List.getElem_cons_succ, List.setIfInBounds_toArray, List.set_cons_zero, List.set_cons_succ]
              refine wpAnyH_ready (rs := [2]) (by kernel_rfl) (by simp) ?_
              refine AllReadyH.cons rfl (fun K hK => ?_) AllReadyH.nil
              go_simp
              refine (HPR.out _ ((HBA.out).trans ((jn_drewn wr).mono HBA.out.size)) a).1.mono ?_
              rintro e wa ⟨va, rfl, hoa, hba⟩
              obtain ⟨Aa, ka, rfl, hsa, _⟩ := OB.sl hoa
              have HSA := Lib.hid hsa
              have HB11 := Lib.hid (HBA.out.trans (((jn_drewn wr).trans hba).mono HBA.out.size))
              go_wp2_with fail
              refine hK.out _ _ (HK9.out _ HB11.out) (fun hHeld => ?_)
              clear hK K
              try simp only [Act.put, List.getElem_toArray, List.getElem_cons_zero, List.getElem_cons_succ, List.setIfInBounds_toArray, List.set_cons_zero, List.set_cons_succ]
              refine wpAnyH_ready (rs := [5]) (by kernel_rfl) (by simp) ?_
              refine AllReadyH.cons rfl (fun K hK => ?_) AllReadyH.nil
              go_simp
              refine (HPF.out _ HB11.out a).1.mono ?_
              rintro e wb ⟨Ab, kb, rfl, hsb, hbb⟩
              have HSB := Lib.hid hsb
              have HSA2 := Lib.hid (HSA.out.below hbb)
              have HB12 := Lib.hid (HB11.out.trans (hbb.mono HB11.out.size))
              go_wp2_with fail
              refine hK.out _ _ (HK9.out _ HB12.out) (fun hHeld => ?_)
              clear hK K
              try simp only [Act.put, List.getElem_toArray, List.getElem_cons_zero, List.getElem_cons_succ, List.setIfInBounds_toArray, List.set_cons_zero, List.set_cons_succ]
              refine wpAnyH_ready (rs := [6]) (by kernel_rfl) (by simp) ?_
              refine AllReadyH.cons rfl (fun K hK => ?_) AllReadyH.nil
              go_simp
              refine (frsame_any (D5.readL a) (D5.readL a) Aa Ab ka kb _ _ _ HSA2.out.bytes HSB.out.bytes rfl rfl).mono ?_
              rintro e wd ⟨rfl, hbd⟩
              rw [show (D5.readL a == D5.readL a) = true from BEq.rfl]
              have HB13 := Lib.hid (HB12.out.trans (hbd.mono HB12.out.size))
              go_wp2_with fail
              refine hK.out _ _ (HK9.out _ HB13.out) (fun hHeld => ?_)
              clear hK K
              try simp only [Act.put, List.getElem_toArray, List.getElem_cons_zero, List.getElem_cons_succ, List.setIfInBounds_toArray, List.set_cons_zero, List.set_cons_succ]
              refine wpAnyH_take (i := 7) (v := ?vfa7) rfl (by kernel_rfl) (by kernel_rfl) (by kernel_rfl) (fun _ _ _ h => h) (Or.inl ⟨by rfl, ?yfa7⟩) (by assumption) ?rfa7
              case yfa7 =>
                intro w hSw
                (try dsimp only at hSw)
                go_simp
                first | done | with_reducible rfl
              try simp only [Act.put, List.getElem_toArray, List.getElem_cons_zero, List.getElem_cons_succ, List.setIfInBounds_toArray, List.set_cons_zero, List.set_cons_succ]
              refine wpAnyH_take (i := 8) (v := ?vfa8) rfl (by kernel_rfl) (by kernel_rfl) (by kernel_rfl) (fun _ _ _ h => h) (Or.inl ⟨by rfl, ?yfa8⟩) (by assumption) ?rfa8
              case yfa8 =>
                intro w hSw
                (try dsimp only at hSw)
                go_simp
                first | done | with_reducible rfl
              try simp only [Act.put, List.getElem_toArray, List.getElem_cons_zero, List.getElem_cons_succ, List.setIfInBounds_toArray, List.set_cons_zero, List.set_cons_succ]
              refine wpAnyH_take (i := 9) (v := ?vfa9) rfl (by kernel_rfl) (by kernel_rfl) (by kernel_rfl) (fun _ _ _ h => h) (Or.inl ⟨by rfl, ?yfa9⟩) (by assumption) ?rfa9
              case yfa9 =>
                intro w hSw
                (try dsimp only at hSw)
                go_simp
                first | done | with_reducible rfl
              try simp only [Act.put, List.getElem_toArray, List.getElem_cons_zero, List.getElem_cons_succ, List.setIfInBounds_toArray, List.set_cons_zero, List.set_cons_succ]
              refine wpAnyH_take (i := 10) (v := ?vfa10) rfl (by kernel_rfl) (by kernel_rfl) (by kernel_rfl) (fun _ _ _ h => h) (Or.inl ⟨by rfl, ?yfa10⟩) (by assumption) ?rfa10
              case yfa10 =>
                intro w hSw
                (try dsimp only at hSw)
                go_simp
                first | done | with_reducible rfl
              try simp only [Act.put, List.getElem_toArray, List.getElem_cons_zero, List.getElem_cons_succ, List.setIfInBounds_toArray, List.set_cons_zero, List.set_cons_succ]
              refine wpAnyH_take (i := 12) (v := ?vfa12) rfl (by kernel_rfl) (by kernel_rfl) (by kernel_rfl) (fun _ _ _ h => h) (Or.inl ⟨by rfl, ?yfa12⟩) (by assumption) ?rfa12
              case yfa12 =>
                intro w hSw
                (try dsimp only at hSw)
                go_simp
                first | done | with_reducible rfl
              try simp only [Act.put, List.getElem_toArray, List.getElem_cons_zero, List.getElem_cons_succ, List.setIfInBounds_toArray, List.set_cons_zero, List.set_cons_succ]
              refine wpAnyH_take (i := 13) (v := ?vfa13) rfl (by kernel_rfl) (by kernel_rfl) (by kernel_rfl) (fun _ _ _ h => h) (Or.inl ⟨by rfl, ?yfa13⟩) (by assumption) ?rfa13
              case yfa13 =>
                intro w hSw
                (try dsimp only at hSw)
                go_simp
                first | done | with_reducible rfl
              try simp only [Act.put, List.getElem_toArray, List.getElem_cons_zero, List.getElem_cons_succ, List.setIfInBounds_toArray, List.set_cons_zero, List.set_cons_succ]
              refine wpAnyH_ready (rs := [11]) (by kernel_rfl) (by simp) ?_
              refine AllReadyH.cons rfl (fun K hK => ?_) AllReadyH.nil
              go_simp
              refine (HPR.out _ HB13.out a).2.mono ?_
              rintro e we ⟨ve, rfl, hoe, hbe⟩
              obtain ⟨Ae, ke, rfl, hse, _⟩ := OB.sl hoe
              have HSE := Lib.hid hse
              have HB14 := Lib.hid (HB13.out.trans (hbe.mono HB13.out.size))
              go_wp2_with fail
              refine hK.out _ _ (HK9.out _ HB14.out) (fun hHeld => ?_)
              clear hK K
              try simp only [Act.put, List.getElem_toArray, List.getElem_cons_zero, List.getElem_cons_succ, List.setIfInBounds_toArray, List.set_cons_zero, List.set_cons_succ]
              refine wpAnyH_ready (rs := [14]) (by kernel_rfl) (by simp) ?_
              refine AllReadyH.cons rfl (fun K hK => ?_) AllReadyH.nil
              go_simp
              refine (HPF.out _ HB14.out a).2.mono ?_
              rintro e wf ⟨Af, kf, rfl, hsf, hbf⟩
              have HSF := Lib.hid hsf
              have HSE2 := Lib.hid (HSE.out.below hbf)
              have HB15 := Lib.hid (HB14.out.trans (hbf.mono HB14.out.size))
              go_wp2_with fail
              refine hK.out _ _ (HK9.out _ HB15.out) (fun hHeld => ?_)
              clear hK K
              try simp only [Act.put, List.getElem_toArray, List.getElem_cons_zero, List.getElem_cons_succ, List.setIfInBounds_toArray, List.set_cons_zero, List.set_cons_succ]
              refine wpAnyH_ready (rs := [15]) (by kernel_rfl) (by simp) ?_
              refine AllReadyH.cons rfl (fun K hK => ?_) AllReadyH.nil
              go_simp
              refine (frsame_any (D5.lastL a) (D5.lastL a) Ae Af ke kf _ _ _ HSE2.out.bytes HSF.out.bytes rfl rfl).mono ?_
              rintro e wh ⟨rfl, hbh⟩
              rw [show (D5.lastL a == D5.lastL a) = true from BEq.rfl]
              have HB16 := Lib.hid (HB15.out.trans (hbh.mono HB15.out.size))
              go_wp2_with fail
              refine hK.out _ _ (HK9.out _ HB16.out) (fun hHeld => ?_)
              clear hK K
              try simp only [Act.put, List.getElem_toArray, List.getElem_cons_zero, List.getElem_cons_succ, List.setIfInBounds_toArray, List.set_cons_zero, List.set_cons_succ]
              refine wpAnyH_take (i := 16) (v := ?vfa16) rfl (by kernel_rfl) (by kernel_rfl) (by kernel_rfl) (fun _ _ _ h => h) (Or.inl ⟨by rfl, ?yfa16⟩) (by assumption) ?rfa16
              case yfa16 =>
                intro w hSw
                (try dsimp only at hSw)
                go_simp
                first | done | with_reducible rfl
              try simp only [Act.put, List.getElem_toArray, List.getElem_cons_zero, List.getElem_cons_succ, List.setIfInBounds_toArray, List.set_cons_zero, List.set_cons_succ]
              refine wpAnyH_take (i := 17) (v := ?vfa17) rfl (by kernel_rfl) (by kernel_rfl) (by kernel_rfl) (fun _ _ _ h => h) (Or.inl ⟨by rfl, ?yfa17⟩) (by assumption) ?rfa17
              case yfa17 =>
                intro w hSw
                (try dsimp only at hSw)
                go_simp
                first | done | with_reducible rfl
              try simp only [Act.put, List.getElem_toArray, List.getElem_cons_zero, List.getElem_cons_succ, List.setIfInBounds_toArray, List.set_cons_zero, List.set_cons_succ]
              refine wpAnyH_done (by kernel_rfl) ?_ _
              go_wp2_with fail
              go_roundw
              case rel => exact ⟨a + 1, by omega, by omega, by go_num, HB16⟩
              case measure => simp [intOf]; omega
            · have k5 : a = 9 := by omega
              subst k5
              go_wp2_with fail
              go_roundw
              case rel => exact ⟨i + 1, D5, t5, who5, by omega, by go_num, (show DS _ _ _ _ _ _ _ from by rw [HSN.out, Nat.add_assoc]; exact HD9.out.below HBA.out), (show _ ∧ _ from ⟨(HBA.out.block _ (Array.getElem?_eq_some_iff.1 HC9.out).1).trans HC9.out, HWN5.out⟩), HRZ9.out.below HBA.out, (show Turn _ _ _ _ _ _ from HT9.out.trans (Turn.below HBA.out))⟩
              case measure => simp [intOf]; omega
        · go_simp
          have hz6 : ((w5.alloc (.cells #[.slice none 0 0, .int .i64 0, .bool false, .int .i64 0, .bool false] 57)).drew).heap[w5.heap.size]? = _ := heap_alloc_new w5 (.cells #[.slice none 0 0, .int .i64 0, .bool false, .int .i64 0, .bool false] 57)
          have hb0 : Below w5.heap.size w5 (w5.alloc (.cells #[.slice none 0 0, .int .i64 0, .bool false, .int .i64 0, .bool false] 57)) := (Below.refl _ _).alloc (Nat.le_refl _) _
          have hb6 : Below w5.heap.size w5 ((w5.alloc (.cells #[.slice none 0 0, .int .i64 0, .bool false, .int .i64 0, .bool false] 57)).drew) := hb0.trans ((jn_drewn _).mono hb0.size)
          have hsz : ((w5.alloc (.cells #[.slice none 0 0, .int .i64 0, .bool false, .int .i64 0, .bool false] 57)).drew).heap.size = w5.heap.size + 1 := by show (w5.alloc _).heap.size = _; simp
          obtain ⟨w6, hv⟩ : ∃ V, (w5.alloc (.cells #[.slice none 0 0, .int .i64 0, .bool false, .int .i64 0, .bool false] 57)).drew = V := ⟨_, rfl⟩
          rw [hv] at hz6 hb6 hsz ⊢
          clear hb0
          refine hK.out _ _ (HKEEP.out w6 hb6) (fun hHeld => ?_)
          clear hK K
          try simp only [Act.put, List.getElem_toArray, List.getElem_cons_zero, List.getElem_cons_succ, List.setIfInBounds_toArray, List.set_cons_zero, List.set_cons_succ]
          refine wpAnyH_ready (rs := [5]) (by kernel_rfl) (by simp) ?_
          refine AllReadyH.cons rfl (fun K hK => ?_) AllReadyH.nil
          go_simp
          refine (HST.out w6 hb6).mono ?_
          rintro e w7 ⟨t5, rfl, hb7', h7⟩
          have hb7 : Below w5.heap.size w5 w7 := hb6.trans (hb7'.mono hb6.size)
          have hz7 := (hb7'.block w5.heap.size (by omega)).trans hz6
          unfold RT.v
          go_wp2_with fail
          refine hK.out _ _ (HKEEP.out w7 hb7) (fun hHeld => ?_)
          clear hK K
          try simp only [Act.put, List.getElem_toArray, List.getElem_cons_zero, List.getElem_cons_succ, List.setIfInBounds_toArray, List.set_cons_zero, List.set_cons_succ]
          refine wpAnyH_take (i := 6) (v := ?vb6) rfl (by kernel_rfl) (by kernel_rfl) (by kernel_rfl) (fun _ _ _ h => h) (Or.inl ⟨by rfl, ?yb6⟩) (by assumption) ?rb6
          case yb6 =>
            intro w hSw
            (try dsimp only at hSw)
            go_simp
            first | done | with_reducible rfl
          try simp only [Act.put, List.getElem_toArray, List.getElem_cons_zero, List.getElem_cons_succ, List.setIfInBounds_toArray, List.set_cons_zero, List.set_cons_succ]
          refine wpAnyH_take (i := 7) (v := ?vb7) rfl (by kernel_rfl) (by kernel_rfl) (by kernel_rfl) (fun _ _ _ h => h) (Or.inl ⟨by rfl, ?yb7⟩) (by assumption) ?rb7
          case yb7 =>
            intro w hSw
            (try dsimp only at hSw)
            go_simp
            first | done | with_reducible rfl
          try simp only [Act.put, List.getElem_toArray, List.getElem_cons_zero, List.getElem_cons_succ, List.setIfInBounds_toArray, List.set_cons_zero, List.set_cons_succ]
          refine wpAnyH_take (i := 8) (v := ?vb8) rfl (by kernel_rfl) (by kernel_rfl) (by kernel_rfl) (fun _ _ _ h => h) (Or.inl ⟨by rfl, ?yb8⟩) (by assumption) ?rb8
          case yb8 =>
            intro w hSw
            (try dsimp only at hSw)
            go_simp
            first | done | with_reducible rfl
          try simp only [Act.put, List.getElem_toArray, List.getElem_cons_zero, List.getElem_cons_succ, List.setIfInBounds_toArray, List.set_cons_zero, List.set_cons_succ]
          skip
          refine wpAnyH_ready (rs := [10]) (by kernel_rfl) (by simp) ?_
          refine AllReadyH.cons rfl (fun K hK => ?_) AllReadyH.nil
          refine wp_store_mid 57 (.tmp 11) (.tmp 43) rfl (w5.heap.size) 0 #[.slice t5.A t5.R.length t5.c, .int .i64 (D5.room : Int), .bool D5.pw.isSome, .int .i64 t5.q, .bool D5.dead] rfl rfl (fun j hj => there5 hz7 hj) (by kernel_rfl) (by simp [Value.oneCell']) ?_
          have hst := store5 hz7 (.slice t5.A t5.R.length t5.c) (.int .i64 (D5.room : Int)) (.bool D5.pw.isSome) (.int .i64 t5.q) (.bool D5.dead)
          obtain ⟨w8, hw8⟩ : ∃ w8, w7.setCells (w5.heap.size) 0 [.slice t5.A t5.R.length t5.c, .int .i64 (D5.room : Int), .bool D5.pw.isSome, .int .i64 t5.q, .bool D5.dead] = w8 := ⟨_, rfl⟩
          rw [show (#[Value.slice t5.A t5.R.length t5.c, .int .i64 (D5.room : Int), .bool D5.pw.isSome, .int .i64 t5.q, .bool D5.dead] : Array Value).toList = [.slice t5.A t5.R.length t5.c, .int .i64 (D5.room : Int), .bool D5.pw.isSome, .int .i64 t5.q, .bool D5.dead] from rfl, hw8]
          rw [hw8] at hst
          have hbu := hst.1
          have ho8 := hst.2
          have hb8 : Below w5.heap.size w5 w8 := only_below hb7 ho8 (by have := hb6.size; omega)
          refine hK.out _ _ (HKEEP.out w8 hb8) (fun hHeld => ?_)
          clear hK K
          try simp only [Act.put, List.getElem_toArray, List.getElem_cons_zero, List.getElem_cons_succ]
          refine wpAnyH_take (i := 11) (v := ?vsb11) rfl (by kernel_rfl) (by kernel_rfl) (by kernel_rfl) (fun _ _ _ h => h) (Or.inl ⟨by rfl, ?ysb11⟩) (by assumption) ?rsb11
          case ysb11 =>
            intro w hSw
            (try dsimp only at hSw)
            go_simp
            first | done | with_reducible rfl
          try simp only [Act.put, List.getElem_toArray, List.getElem_cons_zero, List.getElem_cons_succ, List.setIfInBounds_toArray, List.set_cons_zero, List.set_cons_succ]
          skip
          refine wpAnyH_done (by kernel_rfl) ?_ _
          have hrz8 : RefZ who5 w8 t5 D5 := HRZ5.out.step2 HD5.out.fresh hb8 h7 (by omega) (fun b h1 h2 => ⟨ho8.block b (by omega), by rw [ho8.size]; omega⟩)
          have hN5 := (Array.getElem?_eq_some_iff.1 HC5.out).1
          have hc8 := (hb8.block w2.heap.size hN5).trans HC5.out
          have u0 := cell_of_row w8 _ 0 _ _ _ hbu
          have u1 := cell_of_row w8 _ 1 _ _ _ hbu
          have u2 := cell_of_row w8 _ 2 _ _ _ hbu
          have u3 := cell_of_row w8 _ 3 _ _ _ hbu
          have u4 := cell_of_row w8 _ 4 _ _ _ hbu
          obtain ⟨w9, hY, hY1, ho9, r0, r1, r2, r3, r4, f0, f1, f2, f3, f4⟩ := ret5 hc8 (.slice t5.A t5.R.length t5.c) (.int .i64 (D5.room : Int)) (.bool D5.pw.isSome) (.int .i64 t5.q) (.bool D5.dead)
          have HW9 := Lib.hid hY
          have HC9 := Lib.hid hY1
          have hd8 := HD5.out.below hb8
          have ht9 := only_turn ho9 HWN5.out
          have hf9 := hd8.fresh.size (show w8.heap.size ≤ w9.heap.size by rw [ho9.size]; exact Nat.le_refl _)
          have hd9 := ds_turn hd8 ht9 hf9 (by omega) (.inr (by omega))
          have hrz9 := hrz8.turn ht9 (by omega)
          have HT9 := Lib.hid ((HT5.out.trans (Turn.below hb8)).trans (ht9.wider (by omega) (show 200 + 1 ≤ 300 by omega)))
          have HK9 := Lib.hid (show ∀ w' : World, Below w9.heap.size w9 w' → (w'.cell? ⟨w2.heap.size, 0, none⟩ = some (.slice t5.A t5.R.length t5.c) ∧ w'.cell? ⟨w2.heap.size, 1, none⟩ = some (.int .i64 (D5.room : Int)) ∧ w'.cell? ⟨w2.heap.size, 2, none⟩ = some (.bool D5.pw.isSome) ∧ w'.cell? ⟨w2.heap.size, 3, none⟩ = some (.int .i64 t5.q) ∧ w'.cell? ⟨w2.heap.size, 4, none⟩ = some (.bool D5.dead)) from fun W hb => ⟨cell_of_row W _ 0 _ _ _ ((hb.block _ (Array.getElem?_eq_some_iff.1 hY1).1).trans hY1), cell_of_row W _ 1 _ _ _ ((hb.block _ (Array.getElem?_eq_some_iff.1 hY1).1).trans hY1), cell_of_row W _ 2 _ _ _ ((hb.block _ (Array.getElem?_eq_some_iff.1 hY1).1).trans hY1), cell_of_row W _ 3 _ _ _ ((hb.block _ (Array.getElem?_eq_some_iff.1 hY1).1).trans hY1), cell_of_row W _ 4 _ _ _ ((hb.block _ (Array.getElem?_eq_some_iff.1 hY1).1).trans hY1)⟩)
          have HDE := Lib.hid (hd9.below (jn_drewn w9)).dead
          have HUS := Lib.hid ((hd9.below (jn_drewn w9)).used (by omega))
          have hru := rused_any w9.drew t5 D5 (n + (1 + x.b.length)) (hrz9.here.below (jn_drewn w9)) hd9.fits (by omega)
          unfold RT.v at hru
          have HRU := Lib.hid hru
          have HPR := Lib.hid (fun (W : World) (hb : Below w9.heap.size w9 W) (a : Int) => (show _ ∧ _ from ⟨(hd9.below hb).read (by omega) a, (hd9.below hb).lasting (by omega) a⟩))
          have HPF := Lib.hid (fun (W : World) (hb : Below w9.heap.size w9 W) (a : Int) => (show (Calls Try.prog 35 #[.agg #[.slice t5.A t5.R.length t5.c, .int .i64 (D5.room : Int), .bool D5.pw.isSome, .int .i64 t5.q, .bool D5.dead], .int .i64 a] W _) ∧ (Calls Try.prog 37 #[.agg #[.slice t5.A t5.R.length t5.c, .int .i64 (D5.room : Int), .bool D5.pw.isSome, .int .i64 t5.q, .bool D5.dead], .int .i64 a] W _) from ⟨rread_any W t5 D5 a (n + (1 + x.b.length)) (hrz9.here.below hb) hd9.fits, rlast_any W t5 D5 a (n + (1 + x.b.length)) (hrz9.here.below hb) hd9.fits⟩))
          have HD9 := Lib.hid hd9
          have HRZ9 := Lib.hid hrz9
          obtain ⟨m0, m1, m2, m3, m4⟩ := HK9.out w9 (Below.refl _ _)
          clear hN5 hc8 hY hY1 hd8 ht9 hf9 hd9 hrz9 hru hrz8 hbu ho8
          go_upto_region 11 with (fail)
          rw [HW9.out]
          refine wp_region_held_drew (S := (fun w' => w'.cell? ⟨w2.heap.size, 0, none⟩ = some (.slice t5.A t5.R.length t5.c) ∧ w'.cell? ⟨w2.heap.size, 1, none⟩ = some (.int .i64 (D5.room : Int)) ∧ w'.cell? ⟨w2.heap.size, 2, none⟩ = some (.bool D5.pw.isSome) ∧ w'.cell? ⟨w2.heap.size, 3, none⟩ = some (.int .i64 t5.q) ∧ w'.cell? ⟨w2.heap.size, 4, none⟩ = some (.bool D5.dead))) (by kernel_rfl) ⟨m0, m1, m2, m3, m4⟩ (fun hHeld => ?_)
          refine wpAnyH_take (i := 0) (v := ?vdb0) rfl (by kernel_rfl) (by kernel_rfl) (by kernel_rfl) (fun _ _ _ h => h) (Or.inl ⟨by rfl, ?ydb0⟩) (by assumption) ?rdb0
          case ydb0 =>
            intro w hSw
            (try dsimp only at hSw)
            go_simp
            first | done | with_reducible rfl
          try simp only [Act.put, List.getElem_toArray, List.getElem_cons_zero, List.setIfInBounds_toArray, List.set_cons_zero, List.set_cons_succ]
          refine wpAnyH_take (i := 1) (v := ?vdb1) rfl (by kernel_rfl) (by kernel_rfl) (by kernel_rfl) (fun _ _ _ h => h) (Or.inl ⟨by rfl, ?ydb1⟩) (by assumption) ?rdb1
          case ydb1 =>
            intro w hSw
            (try dsimp only at hSw)
            go_simp
            first | done | with_reducible rfl
          try simp only [Act.put, List.getElem_toArray, List.getElem_cons_zero, List.getElem_cons_succ, List.setIfInBounds_toArray, List.set_cons_zero, List.set_cons_succ]
          refine wpAnyH_take (i := 2) (v := ?vdb2) rfl (by kernel_rfl) (by kernel_rfl) (by kernel_rfl) (fun _ _ _ h => h) (Or.inl ⟨by rfl, ?ydb2⟩) (by assumption) ?rdb2
          case ydb2 =>
            intro w hSw
            (try dsimp only at hSw)
            go_simp
            first | done | with_reducible rfl
          try simp only [Act.put, List.getElem_toArray, List.getElem_cons_zero, List.getElem_cons_succ, List.setIfInBounds_toArray, List.set_cons_zero, List.set_cons_succ]
          refine wpAnyH_take (i := 3) (v := ?vdb3) rfl (by kernel_rfl) (by kernel_rfl) (by kernel_rfl) (fun _ _ _ h => h) (Or.inl ⟨by rfl, ?ydb3⟩) (by assumption) ?rdb3
          case ydb3 =>
            intro w hSw
            (try dsimp only at hSw)
            go_simp
            first | done | with_reducible rfl
          try simp only [Act.put, List.getElem_toArray, List.getElem_cons_zero, List.getElem_cons_succ, List.setIfInBounds_toArray, List.set_cons_zero, List.set_cons_succ]
          refine wpAnyH_take (i := 4) (v := ?vdb4) rfl (by kernel_rfl) (by kernel_rfl) (by kernel_rfl) (fun _ _ _ h => h) (Or.inl ⟨by rfl, ?ydb4⟩) (by assumption) ?rdb4
          case ydb4 =>
            intro w hSw
            (try dsimp only at hSw)
            go_simp
            first | done | with_reducible rfl
          try simp only [Act.put, List.getElem_toArray, List.getElem_cons_zero, List.getElem_cons_succ, List.setIfInBounds_toArray, List.set_cons_zero, List.set_cons_succ]
          refine wpAnyH_take (i := 6) (v := ?vdb6) rfl (by kernel_rfl) (by kernel_rfl) (by kernel_rfl) (fun _ _ _ h => h) (Or.inl ⟨by rfl, ?ydb6⟩) (by assumption) ?rdb6
          case ydb6 =>
            intro w hSw
            (try dsimp only at hSw)
            go_simp
            first | done | with_reducible rfl
          try simp only [Act.put, List.getElem_toArray, List.getElem_cons_zero, List.getElem_cons_succ, List.setIfInBounds_toArray, List.set_cons_zero, List.set_cons_succ]
          refine wpAnyH_take (i := 7) (v := ?vdb7) rfl (by kernel_rfl) (by kernel_rfl) (by kernel_rfl) (fun _ _ _ h => h) (Or.inl ⟨by rfl, ?ydb7⟩) (by assumption) ?rdb7
          case ydb7 =>
            intro w hSw
            (try dsimp only at hSw)
            go_simp
            first | done | with_reducible rfl
          try simp only [Act.put, List.getElem_toArray, List.getElem_cons_zero, List.getElem_cons_succ, List.setIfInBounds_toArray, List.set_cons_zero, List.set_cons_succ]
          refine wpAnyH_ready (rs := [5]) (by kernel_rfl) (by simp) ?_
          refine AllReadyH.cons rfl (fun K hK => ?_) AllReadyH.nil
          go_simp
          refine HDE.out.mono ?_
          rintro e wa ⟨rfl, hwa⟩
          have hwa := hwa.symm
          subst hwa
          go_wp2_with fail
          refine hK.out _ _ (HK9.out _ (jn_drewn w9)) (fun hHeld => ?_)
          clear hK K
          try simp only [Act.put, List.getElem_toArray, List.getElem_cons_zero, List.getElem_cons_succ, List.setIfInBounds_toArray, List.set_cons_zero, List.set_cons_succ]
          refine wpAnyH_take (i := 8) (v := ?vdb8) rfl (by kernel_rfl) (by kernel_rfl) (by kernel_rfl) (fun _ _ _ h => h) (Or.inl ⟨by rfl, ?ydb8⟩) (by assumption) ?rdb8
          case ydb8 =>
            intro w hSw
            (try dsimp only at hSw)
            go_simp
            first | done | with_reducible rfl
          try simp only [Act.put, List.getElem_toArray, List.getElem_cons_zero, List.getElem_cons_succ, List.setIfInBounds_toArray, List.set_cons_zero, List.set_cons_succ]
          refine wpAnyH_take (i := 9) (v := ?vdb9) rfl (by kernel_rfl) (by kernel_rfl) (by kernel_rfl) (fun _ _ _ h => h) (Or.inl ⟨by rfl, ?ydb9⟩) (by assumption) ?rdb9
          case ydb9 =>
            intro w hSw
            (try dsimp only at hSw)
            go_simp
            first | done | with_reducible rfl
          try simp only [Act.put, List.getElem_toArray, List.getElem_cons_zero, List.getElem_cons_succ, List.setIfInBounds_toArray, List.set_cons_zero, List.set_cons_succ]
          refine wpAnyH_take (i := 10) (v := ?vdb10) rfl (by kernel_rfl) (by kernel_rfl) (by kernel_rfl) (fun _ _ _ h => h) (Or.inl ⟨by rfl, ?ydb10⟩) (by assumption) ?rdb10
          case ydb10 =>
            intro w hSw
            (try dsimp only at hSw)
            go_simp
            first | done | with_reducible rfl
          try simp only [Act.put, List.getElem_toArray, List.getElem_cons_zero, List.getElem_cons_succ, List.setIfInBounds_toArray, List.set_cons_zero, List.set_cons_succ]
          refine wpAnyH_take (i := 11) (v := ?vdb11) rfl (by kernel_rfl) (by kernel_rfl) (by kernel_rfl) (fun _ _ _ h => h) (Or.inl ⟨by rfl, ?ydb11⟩) (by assumption) ?rdb11
          case ydb11 =>
            intro w hSw
            (try dsimp only at hSw)
            go_simp
            first | done | with_reducible rfl
          try simp only [Act.put, List.getElem_toArray, List.getElem_cons_zero, List.getElem_cons_succ, List.setIfInBounds_toArray, List.set_cons_zero, List.set_cons_succ]
          refine wpAnyH_take (i := 13) (v := ?vdb13) rfl (by kernel_rfl) (by kernel_rfl) (by kernel_rfl) (fun _ _ _ h => h) (Or.inl ⟨by rfl, ?ydb13⟩) (by assumption) ?rdb13
          case ydb13 =>
            intro w hSw
            (try dsimp only at hSw)
            go_simp
            first | done | with_reducible rfl
          try simp only [Act.put, List.getElem_toArray, List.getElem_cons_zero, List.getElem_cons_succ, List.setIfInBounds_toArray, List.set_cons_zero, List.set_cons_succ]
          refine wpAnyH_ready (rs := [12]) (by kernel_rfl) (by simp) ?_
          refine AllReadyH.cons rfl (fun K hK => ?_) AllReadyH.nil
          go_simp
          refine HUS.out.mono ?_
          rintro e wa ⟨rfl, hwa⟩
          have hwa := hwa.symm
          subst hwa
          go_wp2_with fail
          refine hK.out _ _ (HK9.out _ (jn_drewn w9)) (fun hHeld => ?_)
          clear hK K
          try simp only [Act.put, List.getElem_toArray, List.getElem_cons_zero, List.getElem_cons_succ, List.setIfInBounds_toArray, List.set_cons_zero, List.set_cons_succ]
          refine wpAnyH_ready (rs := [14]) (by kernel_rfl) (by simp) ?_
          refine AllReadyH.cons rfl (fun K hK => ?_) AllReadyH.nil
          go_simp
          refine HRU.out.mono ?_
          rintro e w10 ⟨rfl, hb10'⟩
          have hb10 : Below w9.heap.size w9 w10 := (jn_drewn w9).trans hb10'
          have HB10 := Lib.hid hb10
          clear hb10'
          go_wp2_with fail
          refine hK.out _ _ (HK9.out _ hb10) (fun hHeld => ?_)
          clear hK K
          try simp only [Act.put, List.getElem_toArray, List.getElem_cons_zero, List.getElem_cons_succ, List.setIfInBounds_toArray, List.set_cons_zero, List.set_cons_succ]
          refine wpAnyH_take (i := 15) (v := ?vdb15) rfl (by kernel_rfl) (by kernel_rfl) (by kernel_rfl) (fun _ _ _ h => h) (Or.inl ⟨by rfl, ?ydb15⟩) (by assumption) ?rdb15
          case ydb15 =>
            intro w hSw
            (try dsimp only at hSw)
            go_simp
            first | done | with_reducible rfl
          try simp only [Act.put, List.getElem_toArray, List.getElem_cons_zero, List.getElem_cons_succ, List.setIfInBounds_toArray, List.set_cons_zero, List.set_cons_succ]
          refine wpAnyH_take (i := 16) (v := ?vdb16) rfl (by kernel_rfl) (by kernel_rfl) (by kernel_rfl) (fun _ _ _ h => h) (Or.inl ⟨by rfl, ?ydb16⟩) (by assumption) ?rdb16
          case ydb16 =>
            intro w hSw
            (try dsimp only at hSw)
            go_simp
            first | done | with_reducible rfl
          try simp only [Act.put, List.getElem_toArray, List.getElem_cons_zero, List.getElem_cons_succ, List.setIfInBounds_toArray, List.set_cons_zero, List.set_cons_succ]
          refine wpAnyH_done (by kernel_rfl) ?_ _
          go_wp2_with fail
          go_loopw [13] (fun av wr => ∃ (a : Int), -1 ≤ a ∧ a ≤ 9 ∧ av = .int .i64 a ∧ Hid (Below w9.heap.size w9 wr)) (fun av _ => (9 - intOf av).toNat)
          case atStart => exact ⟨-1, by omega, by omega, rfl, HB10⟩
          case round =>
            obtain ⟨a, ha1, ha2, rfl, HBA⟩ := hrel
            by_cases k4 : a < 9
            · obtain ⟨n0, n1, n2, n3, n4⟩ := HK9.out wr HBA.out
              go_wp2_with fail
              refine wp_region_held_drew (S := (fun w' => w'.cell? ⟨w2.heap.size, 0, none⟩ = some (.slice t5.A t5.R.length t5.c) ∧ w'.cell? ⟨w2.heap.size, 1, none⟩ = some (.int .i64 (D5.room : Int)) ∧ w'.cell? ⟨w2.heap.size, 2, none⟩ = some (.bool D5.pw.isSome) ∧ w'.cell? ⟨w2.heap.size, 3, none⟩ = some (.int .i64 t5.q) ∧ w'.cell? ⟨w2.heap.size, 4, none⟩ = some (.bool D5.dead))) (by kernel_rfl) ⟨n0, n1, n2, n3, n4⟩ (fun hHeld => ?_)
              refine wpAnyH_take (i := 0) (v := ?vfb0) rfl (by kernel_rfl) (by kernel_rfl) (by kernel_rfl) (fun _ _ _ h => h) (Or.inl ⟨by rfl, ?yfb0⟩) (by assumption) ?rfb0
              case yfb0 =>
                intro w hSw
                (try dsimp only at hSw)
                go_simp
                first | done | with_reducible rfl
              try simp only [Act.put, List.getElem_toArray, List.getElem_cons_zero, List.setIfInBounds_toArray, List.set_cons_zero, List.set_cons_succ]
              refine wpAnyH_take (i := 1) (v := ?vfb1) rfl (by kernel_rfl) (by kernel_rfl) (by kernel_rfl) (fun _ _ _ h => h) (Or.inl ⟨by rfl, ?yfb1⟩) (by assumption) ?rfb1
              case yfb1 =>
                intro w hSw
                (try dsimp only at hSw)
                go_simp
                first | done | with_reducible rfl
              try simp only [Act.put, List.getElem_toArray, List.getElem_cons_zero, List.getElem_cons_succ, List.setIfInBounds_toArray, List.set_cons_zero, List.set_cons_succ]
              refine wpAnyH_take (i := 3) (v := ?vfb3) rfl (by kernel_rfl) (by kernel_rfl) (by kernel_rfl) (fun _ _ _ h => h) (Or.inl ⟨by rfl, ?yfb3⟩) (by assumption) ?rfb3
              case yfb3 =>
                intro w hSw
                (try dsimp only at hSw)
                go_simp
                first | done | with_reducible rfl
              try simp only [Act.put, List.getElem_toArray, List.getElem_cons_zero, List.getElem_cons_succ, List.setIfInBounds_toArray, List.set_cons_zero, List.set_cons_succ]
              refine wpAnyH_take (i := 4) (v := ?vfb4) rfl (by kernel_rfl) (by kernel_rfl) (by kernel_rfl) (fun _ _ _ h => h) (Or.inl ⟨by rfl, ?yfb4⟩) (by assumption) ?rfb4
              case yfb4 =>
                intro w hSw
                (try dsimp only at hSw)
                go_simp
                first | done | with_reducible rfl
              try simp only [Act.put, List.getElem_toArray, List.getElem_cons_zero, List.getElem_cons_succ, List.setIfInBounds_toArray, List.set_cons_zero, List.set_cons_succ]
              refine wpAnyH_ready (rs := [2]) (by kernel_rfl) (by simp) ?_
              refine AllReadyH.cons rfl (fun K hK => ?_) AllReadyH.nil
              go_simp
              refine (HPR.out _ ((HBA.out).trans ((jn_drewn wr).mono HBA.out.size)) a).1.mono ?_
              rintro e wa ⟨va, rfl, hoa, hba⟩
              obtain ⟨Aa, ka, rfl, hsa, _⟩ := OB.sl hoa
              have HSA := Lib.hid hsa
              have HB11 := Lib.hid (HBA.out.trans (((jn_drewn wr).trans hba).mono HBA.out.size))
              go_wp2_with fail
              refine hK.out _ _ (HK9.out _ HB11.out) (fun hHeld => ?_)
              clear hK K
              try simp only [Act.put, List.getElem_toArray, List.getElem_cons_zero, List.getElem_cons_succ, List.setIfInBounds_toArray, List.set_cons_zero, List.set_cons_succ]
              refine wpAnyH_ready (rs := [5]) (by kernel_rfl) (by simp) ?_
              refine AllReadyH.cons rfl (fun K hK => ?_) AllReadyH.nil
              go_simp
              refine (HPF.out _ HB11.out a).1.mono ?_
              rintro e wb ⟨Ab, kb, rfl, hsb, hbb⟩
              have HSB := Lib.hid hsb
              have HSA2 := Lib.hid (HSA.out.below hbb)
              have HB12 := Lib.hid (HB11.out.trans (hbb.mono HB11.out.size))
              go_wp2_with fail
              refine hK.out _ _ (HK9.out _ HB12.out) (fun hHeld => ?_)
              clear hK K
              try simp only [Act.put, List.getElem_toArray, List.getElem_cons_zero, List.getElem_cons_succ, List.setIfInBounds_toArray, List.set_cons_zero, List.set_cons_succ]
              refine wpAnyH_ready (rs := [6]) (by kernel_rfl) (by simp) ?_
              refine AllReadyH.cons rfl (fun K hK => ?_) AllReadyH.nil
              go_simp
              refine (frsame_any (D5.readL a) (D5.readL a) Aa Ab ka kb _ _ _ HSA2.out.bytes HSB.out.bytes rfl rfl).mono ?_
              rintro e wd ⟨rfl, hbd⟩
              rw [show (D5.readL a == D5.readL a) = true from BEq.rfl]
              have HB13 := Lib.hid (HB12.out.trans (hbd.mono HB12.out.size))
              go_wp2_with fail
              refine hK.out _ _ (HK9.out _ HB13.out) (fun hHeld => ?_)
              clear hK K
              try simp only [Act.put, List.getElem_toArray, List.getElem_cons_zero, List.getElem_cons_succ, List.setIfInBounds_toArray, List.set_cons_zero, List.set_cons_succ]
              refine wpAnyH_take (i := 7) (v := ?vfb7) rfl (by kernel_rfl) (by kernel_rfl) (by kernel_rfl) (fun _ _ _ h => h) (Or.inl ⟨by rfl, ?yfb7⟩) (by assumption) ?rfb7
              case yfb7 =>
                intro w hSw
                (try dsimp only at hSw)
                go_simp
                first | done | with_reducible rfl
              try simp only [Act.put, List.getElem_toArray, List.getElem_cons_zero, List.getElem_cons_succ, List.setIfInBounds_toArray, List.set_cons_zero, List.set_cons_succ]
              refine wpAnyH_take (i := 8) (v := ?vfb8) rfl (by kernel_rfl) (by kernel_rfl) (by kernel_rfl) (fun _ _ _ h => h) (Or.inl ⟨by rfl, ?yfb8⟩) (by assumption) ?rfb8
              case yfb8 =>
                intro w hSw
                (try dsimp only at hSw)
                go_simp
                first | done | with_reducible rfl
              try simp only [Act.put, List.getElem_toArray, List.getElem_cons_zero, List.getElem_cons_succ, List.setIfInBounds_toArray, List.set_cons_zero, List.set_cons_succ]
              refine wpAnyH_take (i := 9) (v := ?vfb9) rfl (by kernel_rfl) (by kernel_rfl) (by kernel_rfl) (fun _ _ _ h => h) (Or.inl ⟨by rfl, ?yfb9⟩) (by assumption) ?rfb9
              case yfb9 =>
                intro w hSw
                (try dsimp only at hSw)
                go_simp
                first | done | with_reducible rfl
              try simp only [Act.put, List.getElem_toArray, List.getElem_cons_zero, List.getElem_cons_succ, List.setIfInBounds_toArray, List.set_cons_zero, List.set_cons_succ]
              refine wpAnyH_take (i := 10) (v := ?vfb10) rfl (by kernel_rfl) (by kernel_rfl) (by kernel_rfl) (fun _ _ _ h => h) (Or.inl ⟨by rfl, ?yfb10⟩) (by assumption) ?rfb10
              case yfb10 =>
                intro w hSw
                (try dsimp only at hSw)
                go_simp
                first | done | with_reducible rfl
              try simp only [Act.put, List.getElem_toArray, List.getElem_cons_zero, List.getElem_cons_succ, List.setIfInBounds_toArray, List.set_cons_zero, List.set_cons_succ]
              refine wpAnyH_take (i := 12) (v := ?vfb12) rfl (by kernel_rfl) (by kernel_rfl) (by kernel_rfl) (fun _ _ _ h => h) (Or.inl ⟨by rfl, ?yfb12⟩) (by assumption) ?rfb12
              case yfb12 =>
                intro w hSw
                (try dsimp only at hSw)
                go_simp
                first | done | with_reducible rfl
              try simp only [Act.put, List.getElem_toArray, List.getElem_cons_zero, List.getElem_cons_succ, List.setIfInBounds_toArray, List.set_cons_zero, List.set_cons_succ]
              refine wpAnyH_take (i := 13) (v := ?vfb13) rfl (by kernel_rfl) (by kernel_rfl) (by kernel_rfl) (fun _ _ _ h => h) (Or.inl ⟨by rfl, ?yfb13⟩) (by assumption) ?rfb13
              case yfb13 =>
                intro w hSw
                (try dsimp only at hSw)
                go_simp
                first | done | with_reducible rfl
              try simp only [Act.put, List.getElem_toArray, List.getElem_cons_zero, List.getElem_cons_succ, List.setIfInBounds_toArray, List.set_cons_zero, List.set_cons_succ]
              refine wpAnyH_ready (rs := [11]) (by kernel_rfl) (by simp) ?_
              refine AllReadyH.cons rfl (fun K hK => ?_) AllReadyH.nil
              go_simp
              refine (HPR.out _ HB13.out a).2.mono ?_
              rintro e we ⟨ve, rfl, hoe, hbe⟩
              obtain ⟨Ae, ke, rfl, hse, _⟩ := OB.sl hoe
              have HSE := Lib.hid hse
              have HB14 := Lib.hid (HB13.out.trans (hbe.mono HB13.out.size))
              go_wp2_with fail
              refine hK.out _ _ (HK9.out _ HB14.out) (fun hHeld => ?_)
              clear hK K
              try simp only [Act.put, List.getElem_toArray, List.getElem_cons_zero, List.getElem_cons_succ, List.setIfInBounds_toArray, List.set_cons_zero, List.set_cons_succ]
              refine wpAnyH_ready (rs := [14]) (by kernel_rfl) (by simp) ?_
              refine AllReadyH.cons rfl (fun K hK => ?_) AllReadyH.nil
              go_simp
              refine (HPF.out _ HB14.out a).2.mono ?_
              rintro e wf ⟨Af, kf, rfl, hsf, hbf⟩
              have HSF := Lib.hid hsf
              have HSE2 := Lib.hid (HSE.out.below hbf)
              have HB15 := Lib.hid (HB14.out.trans (hbf.mono HB14.out.size))
              go_wp2_with fail
              refine hK.out _ _ (HK9.out _ HB15.out) (fun hHeld => ?_)
              clear hK K
              try simp only [Act.put, List.getElem_toArray, List.getElem_cons_zero, List.getElem_cons_succ, List.setIfInBounds_toArray, List.set_cons_zero, List.set_cons_succ]
              refine wpAnyH_ready (rs := [15]) (by kernel_rfl) (by simp) ?_
              refine AllReadyH.cons rfl (fun K hK => ?_) AllReadyH.nil
              go_simp
              refine (frsame_any (D5.lastL a) (D5.lastL a) Ae Af ke kf _ _ _ HSE2.out.bytes HSF.out.bytes rfl rfl).mono ?_
              rintro e wh ⟨rfl, hbh⟩
              rw [show (D5.lastL a == D5.lastL a) = true from BEq.rfl]
              have HB16 := Lib.hid (HB15.out.trans (hbh.mono HB15.out.size))
              go_wp2_with fail
              refine hK.out _ _ (HK9.out _ HB16.out) (fun hHeld => ?_)
              clear hK K
              try simp only [Act.put, List.getElem_toArray, List.getElem_cons_zero, List.getElem_cons_succ, List.setIfInBounds_toArray, List.set_cons_zero, List.set_cons_succ]
              refine wpAnyH_take (i := 16) (v := ?vfb16) rfl (by kernel_rfl) (by kernel_rfl) (by kernel_rfl) (fun _ _ _ h => h) (Or.inl ⟨by rfl, ?yfb16⟩) (by assumption) ?rfb16
              case yfb16 =>
                intro w hSw
                (try dsimp only at hSw)
                go_simp
                first | done | with_reducible rfl
              try simp only [Act.put, List.getElem_toArray, List.getElem_cons_zero, List.getElem_cons_succ, List.setIfInBounds_toArray, List.set_cons_zero, List.set_cons_succ]
              refine wpAnyH_take (i := 17) (v := ?vfb17) rfl (by kernel_rfl) (by kernel_rfl) (by kernel_rfl) (fun _ _ _ h => h) (Or.inl ⟨by rfl, ?yfb17⟩) (by assumption) ?rfb17
              case yfb17 =>
                intro w hSw
                (try dsimp only at hSw)
                go_simp
                first | done | with_reducible rfl
              try simp only [Act.put, List.getElem_toArray, List.getElem_cons_zero, List.getElem_cons_succ, List.setIfInBounds_toArray, List.set_cons_zero, List.set_cons_succ]
              refine wpAnyH_done (by kernel_rfl) ?_ _
              go_wp2_with fail
              go_roundw
              case rel => exact ⟨a + 1, by omega, by omega, by go_num, HB16⟩
              case measure => simp [intOf]; omega
            · have k5 : a = 9 := by omega
              subst k5
              go_wp2_with fail
              go_roundw
              case rel => exact ⟨i + 1, D5, t5, who5, by omega, by go_num, (show DS _ _ _ _ _ _ _ from by rw [HSN.out, Nat.add_assoc]; exact HD9.out.below HBA.out), (show _ ∧ _ from ⟨(HBA.out.block _ (Array.getElem?_eq_some_iff.1 HC9.out).1).trans HC9.out, HWN5.out⟩), HRZ9.out.below HBA.out, (show Turn _ _ _ _ _ _ from HT9.out.trans (Turn.below HBA.out))⟩
              case measure => simp [intOf]; omega

      · obtain rfl : i = l0.length := by omega
        have HK := Lib.hid (known_any wc)
        have HZ := Lib.hid (HT.out.zero (by omega))
        go_wp2_with fail
        refine HK.out.mono ?_
        rintro e w12 ⟨rfl, hb12⟩
        go_wp2_with fail
        go_ret
        exact ⟨rfl, HZ.out.trans (hb12.mono HZ.out.size)⟩
  · rw [decide_eq_false hsm] at HSMALL
    go_enter Try.func7, Try.ntmps7
    go_wp2_with fail
    refine HSMALL.out.mono ?_
    rintro e w' ⟨rfl, hw⟩
    have hw := hw.symm
    subst hw
    have HK := Lib.hid (known_any w)
    go_wp2_with fail
    refine HK.out.mono ?_
    rintro e w9 ⟨rfl, hb9⟩
    go_wp2_with fail
    go_ret
    exact ⟨rfl, hb9⟩
end Go.Proofs.Ytojkifcclgecoaa.Dk
