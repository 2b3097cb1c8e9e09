/-
  The law TreeOrders, walked.
-/
import Derived.Test.YtedcaodbcognjaaDoorTSizes
import Derived.Deep.RegionHeld3
import Derived.BigQuiet
namespace Go.Proofs.YtedcaodbcognjaaDoor
open Go Go.RowKit Go.Shelf Go.Proofs

theorem orders_two {l : List Fl} {f g : FX} (hr : rightT l = true) (h : (f.p.toList == g.p.toList) = false) : putT (putT l f.fl) g.fl = putT (putT l g.fl) f.fl := put_put_other (right_sorted hr) (str_ne_of h)
theorem orders_one {l : List Fl} {f g : FX} (hr : rightT l = true) (h : (f.p.toList == g.p.toList) = true) : putT (putT l f.fl) g.fl = putT l g.fl := put_put_same (right_sorted hr) (congrArg (fun s : ByteArray => s.data.toList) (str_eq_of h))

set_option maxRecDepth 100000 in
set_option maxHeartbeats 8000000 in
theorem orders_any (t : List FX) (f g : FX) (A : Option Addr) (ca : Nat) (w : World) (ht : TreeAt w A ca t) (zt : BigX t) (hf : FileOk w f) (hg : FileOk w g) (hm : MaxOk w) :
    Calls Tryd.prog 7 #[.slice A t.length ca, .agg #[.string f.p, .slice f.A f.b.length f.c], .agg #[.string g.p, .slice g.A g.b.length g.c]] w fun e w' => e = .returned (.bool true) ∧ Below w.heap.size w w' := by
  obtain ⟨fb, _, _, fp, fl⟩ := hf
  obtain ⟨gb, _, _, gp, gl⟩ := hg
  unfold reachBytes at fp fl gp gl
  go_enter Tryd.func7, Tryd.ntmps7
  go_wp2_with fail
  obtain ⟨V, hV⟩ : ∃ V, w.alloc (.cells #[.string f.p, .slice f.A f.b.length f.c] 41) = V := ⟨_, rfl⟩
  obtain ⟨W, hW⟩ : ∃ W, V.alloc (.cells #[.string g.p, .slice g.A g.b.length g.c] 41) = W := ⟨_, rfl⟩
  have hVs : V.heap.size = w.heap.size + 1 := by rw [← hV]; simp
  have hbV : Below w.heap.size w V := by rw [← hV]; exact below_box _ _
  have hbVW : Below V.heap.size V W := by rw [← hW]; exact below_box _ _
  have xf : BoxF W w.heap.size f := BoxF.below (by rw [← hV]; exact BoxF.new w f _) hbVW
  have xg : BoxF W (w.heap.size + 1) g := by rw [← hVs, ← hW]; exact BoxF.new V g _
  have hb0 := hbV.trans (hbVW.mono hbV.size)
  clear hbVW hbV
  rw [hV, hW]
  clear hV hW hVs
  refine (lawsmall_any t A ca _ (ht.below hb0) zt).mono ?_
  rintro e w1 ⟨rfl, hq1⟩
  have hb1 := hb0.trans (hq1.mono hb0.size)
  have xf := xf.below hq1
  have xg := xg.below hq1
  clear hq1
  have kf0 := xf.c0
  have kf1 := xf.c1
  have kg0 := xg.c0
  have kg1 := xg.c1
  have s1 : IntKind.i64.wrap ((f.p.size : Int) + (f.b.length : Int)) = (f.p.size : Int) + (f.b.length : Int) := IntWalk.i64_in _ (by omega)
  have s2 : IntKind.i64.wrap ((f.p.size : Int) + (f.b.length : Int) + (g.p.size : Int)) = (f.p.size : Int) + (f.b.length : Int) + (g.p.size : Int) := IntWalk.i64_in _ (by omega)
  have s3 : IntKind.i64.wrap ((f.p.size : Int) + (f.b.length : Int) + (g.p.size : Int) + (g.b.length : Int)) = (f.p.size : Int) + (f.b.length : Int) + (g.p.size : Int) + (g.b.length : Int) := IntWalk.i64_in _ (by omega)
  cases sa : smallL t with
  | false =>
    clear sa
    go_wp2_with fail
    refine (lawknown_any _ (hm.below hb1)).mono ?_
    rintro e wz ⟨rfl, hz⟩
    have HZ := Lib.hid (hb1.trans (hz.mono hb1.size)); clear hz
    go_wp2_with fail
    go_ret
    exact ⟨rfl, HZ.out⟩
  | true =>
    have tt := (smallL_tiny sa)
    clear sa
    by_cases hz : 600 < f.p.size + f.b.length + g.p.size + g.b.length
    · have hz2 : (600 : Int) < (f.p.size : Int) + (f.b.length : Int) + (g.p.size : Int) + (g.b.length : Int) := by omega
      go_wp2_with fail
      refine (lawknown_any _ (hm.below hb1)).mono ?_
      rintro e wz ⟨rfl, hz⟩
      have HZ := Lib.hid (hb1.trans (hz.mono hb1.size)); clear hz
      go_wp2_with fail
      go_ret
      exact ⟨rfl, HZ.out⟩
    · have hz2 : ¬ (600 : Int) < (f.p.size : Int) + (f.b.length : Int) + (g.p.size : Int) + (g.b.length : Int) := by omega
      go_wp2_with fail
      refine (tright_any t A ca _ (ht.below hb1) tt.paths (hm.below hb1)).mono ?_
      rintro e w2 ⟨rfl, hq2⟩
      have hb2 := hb1.trans (hq2.mono hb1.size)
      have xf := xf.below hq2
      have xg := xg.below hq2
      clear hq2 kf0 kf1 kg0 kg1
      cases rt : rightT (flsX t) with
      | false =>
        clear rt
        go_wp2_with fail
        refine (lawknown_any _ (hm.below hb2)).mono ?_
        rintro e wz ⟨rfl, hz⟩
        have HZ := Lib.hid (hb2.trans (hz.mono hb2.size)); clear hz
        go_wp2_with fail
        go_ret
        exact ⟨rfl, HZ.out⟩
      | true =>
        have st : SizeX 40 3000 t := tt.sized
        have hfp : f.p.size ≤ 3000 := by omega
        have hfb : f.b.length ≤ 3000 := by omega
        have hgp : g.p.size ≤ 3000 := by omega
        have hgb : g.b.length ≤ 3000 := by omega
        have htl := st.len
        clear hz fp fl gp gl hb0 hb1
        go_wp2_with fail
        clear hz2 s1 s2 s3
        have hbd3 := hb2.trans ((below_drew1 w2).mono hb2.size)
        have xfd3 := xf.below (below_drew1 w2)
        have xgd3 := xg.below (below_drew1 w2)
        refine wp_region_held_drew (S := (fun w' => (w'.cell? ⟨w.heap.size, 0, none⟩ = some (.string f.p) ∧ w'.cell? ⟨w.heap.size, 1, none⟩ = some (.slice f.A f.b.length f.c)) ∧ w'.cell? ⟨w.heap.size + 1, 0, none⟩ = some (.string g.p) ∧ w'.cell? ⟨w.heap.size + 1, 1, none⟩ = some (.slice g.A g.b.length g.c))) (by kernel_rfl) ⟨⟨xfd3.c0, xfd3.c1⟩, xgd3.c0, xgd3.c1⟩ (fun hHeld => ?_)
        refine wpAnyH_take (i := 0) (v := ?va0) rfl (by kernel_rfl) (by kernel_rfl) (by kernel_rfl) (fun _ _ _ h => h) (Or.inl ⟨by rfl, ?ya0⟩) (by assumption) ?ra0
        case ya0 =>
          intro w hSw
          (try dsimp only at hSw)
          go_simp
          first | done | with_reducible rfl
        try simp only [Act.put, List.getElem_toArray, List.getElem_cons_zero, List.setIfInBounds_toArray, List.set_cons_zero, List.set_cons_succ]
        refine wpAnyH_take (i := 1) (v := ?va1) rfl (by kernel_rfl) (by kernel_rfl) (by kernel_rfl) (fun _ _ _ h => h) (Or.inl ⟨by rfl, ?ya1⟩) (by assumption) ?ra1
        case ya1 =>
          intro w hSw
          (try dsimp only at hSw)
          go_simp
          first | done | with_reducible rfl
        try simp only [Act.put, List.getElem_toArray, List.getElem_cons_zero, List.getElem_cons_succ, List.setIfInBounds_toArray, List.set_cons_zero, List.set_cons_succ]
        refine wpAnyH_take (i := 3) (v := ?va3) rfl (by kernel_rfl) (by kernel_rfl) (by kernel_rfl) (fun _ _ _ h => h) (Or.inl ⟨by rfl, ?ya3⟩) (by assumption) ?ra3
        case ya3 =>
          intro w hSw
          (try dsimp only at hSw)
          go_simp
          first | done | with_reducible rfl
        try simp only [Act.put, List.getElem_toArray, List.getElem_cons_zero, List.getElem_cons_succ, List.setIfInBounds_toArray, List.set_cons_zero, List.set_cons_succ]
        refine wpAnyH_ready (rs := [2]) (by kernel_rfl) (by simp) ?_
        refine AllReadyH.cons rfl (fun K hK => ?_) AllReadyH.nil
        go_simp
        refine (tput_any t A ca f w2.drew (ht.below hbd3) (st.small (by omega) (by omega)) (by have := st.len; omega) (fb.below hbd3) (by omega)).mono ?_
        rintro e w3 ⟨v3, l3, rfl, h3, f3, hq3⟩
        obtain ⟨A3, c3, rfl⟩ := h3.own.slice
        have hb3 := hbd3.trans (hq3.mono hbd3.size)
        have s3 := SizeX.of_put f3 st hfp hfb
        have xf3 := xfd3.below hq3
        have xg3 := xgd3.below hq3
        go_wp2_with fail
        refine hK.out _ _ ⟨⟨xf3.c0, xf3.c1⟩, xg3.c0, xg3.c1⟩ (fun hHeld => ?_)
        clear hK K
        try simp only [Act.put, List.getElem_toArray, List.getElem_cons_zero, List.getElem_cons_succ, List.setIfInBounds_toArray, List.set_cons_zero, List.set_cons_succ]
        refine wpAnyH_ready (rs := [4]) (by kernel_rfl) (by simp) ?_
        refine AllReadyH.cons rfl (fun K hK => ?_) AllReadyH.nil
        go_simp
        refine (tput_any l3 A3 c3 g w3 h3.tree.2 (s3.small (by omega) (by omega)) (by have := s3.len; omega) (gb.below hb3) (by omega)).mono ?_
        rintro e w4 ⟨v4, l4, rfl, h4, f4, hq4⟩
        obtain ⟨A4, c4, rfl⟩ := h4.own.slice
        have hb4 := hb3.trans (hq4.mono hb3.size)
        have s4 := SizeX.of_put f4 s3 hgp hgb
        have xf4 := xf3.below hq4
        have xg4 := xg3.below hq4
        go_wp2_with fail
        refine hK.out _ _ ⟨⟨xf4.c0, xf4.c1⟩, xg4.c0, xg4.c1⟩ (fun hHeld => ?_)
        clear hK K
        try simp only [Act.put, List.getElem_toArray, List.getElem_cons_zero, List.getElem_cons_succ, List.setIfInBounds_toArray, List.set_cons_zero, List.set_cons_succ]
        refine wpAnyH_take (i := 5) (v := ?va5) rfl (by kernel_rfl) (by kernel_rfl) (by kernel_rfl) (fun _ _ _ h => h) (Or.inl ⟨by rfl, ?ya5⟩) (by assumption) ?ra5
        case ya5 =>
          intro w hSw
          (try dsimp only at hSw)
          go_simp
          first | done | with_reducible rfl
        try simp only [Act.put, List.getElem_toArray, List.getElem_cons_zero, List.getElem_cons_succ, List.setIfInBounds_toArray, List.set_cons_zero, List.set_cons_succ]
        refine wpAnyH_done (by kernel_rfl) ?_ _
        have E4 : flsX l4 = putT (putT (flsX t) f.fl) g.fl := by rw [f4, f3]
        clear f3 f4 s3 h3 hHeld
        go_wp2_with fail
        have hbd5 := hb4.trans ((below_drew1 w4).mono hb4.size)
        have xfd5 := xf4.below (below_drew1 w4)
        have xgd5 := xg4.below (below_drew1 w4)
        refine wp_region_held_drew (S := (fun w' => (w'.cell? ⟨w.heap.size, 0, none⟩ = some (.string f.p) ∧ w'.cell? ⟨w.heap.size, 1, none⟩ = some (.slice f.A f.b.length f.c)) ∧ w'.cell? ⟨w.heap.size + 1, 0, none⟩ = some (.string g.p) ∧ w'.cell? ⟨w.heap.size + 1, 1, none⟩ = some (.slice g.A g.b.length g.c))) (by kernel_rfl) ⟨⟨xfd5.c0, xfd5.c1⟩, xgd5.c0, xgd5.c1⟩ (fun hHeld => ?_)
        refine wpAnyH_take (i := 0) (v := ?vb0) rfl (by kernel_rfl) (by kernel_rfl) (by kernel_rfl) (fun _ _ _ h => h) (Or.inl ⟨by rfl, ?yb0⟩) (by assumption) ?rb0
        case yb0 =>
          intro w hSw
          (try dsimp only at hSw)
          go_simp
          first | done | with_reducible rfl
        try simp only [Act.put, List.getElem_toArray, List.getElem_cons_zero, List.setIfInBounds_toArray, List.set_cons_zero, List.set_cons_succ]
        refine wpAnyH_take (i := 1) (v := ?vb1) rfl (by kernel_rfl) (by kernel_rfl) (by kernel_rfl) (fun _ _ _ h => h) (Or.inl ⟨by rfl, ?yb1⟩) (by assumption) ?rb1
        case yb1 =>
          intro w hSw
          (try dsimp only at hSw)
          go_simp
          first | done | with_reducible rfl
        try simp only [Act.put, List.getElem_toArray, List.getElem_cons_zero, List.getElem_cons_succ, List.setIfInBounds_toArray, List.set_cons_zero, List.set_cons_succ]
        refine wpAnyH_take (i := 3) (v := ?vb3) rfl (by kernel_rfl) (by kernel_rfl) (by kernel_rfl) (fun _ _ _ h => h) (Or.inl ⟨by rfl, ?yb3⟩) (by assumption) ?rb3
        case yb3 =>
          intro w hSw
          (try dsimp only at hSw)
          go_simp
          first | done | with_reducible rfl
        try simp only [Act.put, List.getElem_toArray, List.getElem_cons_zero, List.getElem_cons_succ, List.setIfInBounds_toArray, List.set_cons_zero, List.set_cons_succ]
        refine wpAnyH_ready (rs := [2]) (by kernel_rfl) (by simp) ?_
        refine AllReadyH.cons rfl (fun K hK => ?_) AllReadyH.nil
        go_simp
        refine (tput_any t A ca g w4.drew (ht.below hbd5) (st.small (by omega) (by omega)) (by have := st.len; omega) (gb.below hbd5) (by omega)).mono ?_
        rintro e w5 ⟨v5, l5, rfl, h5, f5, hq5⟩
        obtain ⟨A5, c5, rfl⟩ := h5.own.slice
        have hb5 := hbd5.trans (hq5.mono hbd5.size)
        have s5 := SizeX.of_put f5 st hgp hgb
        have xf5 := xfd5.below hq5
        have xg5 := xgd5.below hq5
        go_wp2_with fail
        refine hK.out _ _ ⟨⟨xf5.c0, xf5.c1⟩, xg5.c0, xg5.c1⟩ (fun hHeld => ?_)
        clear hK K
        try simp only [Act.put, List.getElem_toArray, List.getElem_cons_zero, List.getElem_cons_succ, List.setIfInBounds_toArray, List.set_cons_zero, List.set_cons_succ]
        refine wpAnyH_ready (rs := [4]) (by kernel_rfl) (by simp) ?_
        refine AllReadyH.cons rfl (fun K hK => ?_) AllReadyH.nil
        go_simp
        refine (tput_any l5 A5 c5 f w5 h5.tree.2 (s5.small (by omega) (by omega)) (by have := s5.len; omega) (fb.below hb5) (by omega)).mono ?_
        rintro e w6 ⟨v6, l6, rfl, h6, f6, hq6⟩
        obtain ⟨A6, c6, rfl⟩ := h6.own.slice
        have hb6 := hb5.trans (hq6.mono hb5.size)
        have s6 := SizeX.of_put f6 s5 hfp hfb
        have xf6 := xf5.below hq6
        have xg6 := xg5.below hq6
        go_wp2_with fail
        refine hK.out _ _ ⟨⟨xf6.c0, xf6.c1⟩, xg6.c0, xg6.c1⟩ (fun hHeld => ?_)
        clear hK K
        try simp only [Act.put, List.getElem_toArray, List.getElem_cons_zero, List.getElem_cons_succ, List.setIfInBounds_toArray, List.set_cons_zero, List.set_cons_succ]
        refine wpAnyH_take (i := 5) (v := ?vb5) rfl (by kernel_rfl) (by kernel_rfl) (by kernel_rfl) (fun _ _ _ h => h) (Or.inl ⟨by rfl, ?yb5⟩) (by assumption) ?rb5
        case yb5 =>
          intro w hSw
          (try dsimp only at hSw)
          go_simp
          first | done | with_reducible rfl
        try simp only [Act.put, List.getElem_toArray, List.getElem_cons_zero, List.getElem_cons_succ, List.setIfInBounds_toArray, List.set_cons_zero, List.set_cons_succ]
        refine wpAnyH_done (by kernel_rfl) ?_ _
        have E6 : flsX l6 = putT (putT (flsX t) g.fl) f.fl := by rw [f6, f5]
        have h4 := ((h4.below (below_drew1 _)).below hq5).below hq6
        clear f5 f6 s5 h5 hHeld
        cases he : (f.p.toList == g.p.toList) with
        | false =>
          have hE := orders_two rt he
          have HS := same_any l4 l6 A4 A6 c4 c6 w6 (by have := s4.len; omega) (by have := s6.len; omega) h4.tree.2 h6.tree.2
          rw [decide_eq_true (E4.trans (hE.trans E6.symm))] at HS
          have k0 := xf6.c0
          have k1 := xf6.c1
          have k2 := xg6.c0
          have k3 := xg6.c1
          go_wp2_with fail
          refine HS.mono ?_
          rintro e w7 ⟨rfl, hq7⟩
          have hb7 := hb6.trans (hq7.mono hb6.size)
          have xf7 := xf6.below hq7
          have xg7 := xg6.below hq7
          have j0 := xf7.c0
          have j1 := xf7.c1
          have j2 := xg7.c0
          have j3 := xg7.c1
          clear HS hE E4 E6 h4 h6 k0 k1 k2 k3
          have HTT := Lib.hid ht
          have HBL := Lib.hid hb7
          go_wp2_with fail
          go_loopw [9] (fun i wr => ∃ (k : Nat), k ≤ t.length ∧ i = .int .i64 k ∧ Below w.heap.size w wr) (fun i _ => t.length - (intOf i).toNat)
          case atStart => exact ⟨0, Nat.zero_le _, rfl, HBL.out⟩
          case round =>
            obtain ⟨k, hk, rfl, hbr⟩ := hrel
            by_cases hlt : k < t.length
            · obtain ⟨x, hx⟩ : ∃ x, t[k]? = some x := ⟨_, List.getElem?_eq_getElem hlt⟩
              have htr := HTT.out.below hbr
              obtain ⟨g', o, hA1, hr⟩ := htr.row (by omega)
              obtain ⟨c1, c2⟩ := hr k x hx
              have hmem := List.mem_of_getElem? hx
              have hxz := st.each x hmem
              have HP := Lib.hid (tput_any t A ca x wr htr (st.small (by omega) (by omega)) (by have := st.len; omega) (htr.files x hmem) (by omega))
              have hag : putT (flsX t) x.fl = flsX t := put_again (right_sorted rt) (List.mem_map.2 ⟨x, hmem, rfl⟩)
              have HAG := Lib.hid hag; clear hag
              have HTR := Lib.hid htr; clear htr
              subst hA1
              have k1 : (k : Int) < (t.length : Int) := by omega
              clear hr hx
              go_wp2_with fail
              refine HP.out.mono ?_
              rintro e wp ⟨vp, lp, rfl, hp, fq, hqp⟩
              obtain ⟨Ap, cp, rfl⟩ := hp.own.slice
              have sp := SizeX.of_put fq st hxz.1 hxz.2
              have HS := same_any lp t Ap (some ⟨g', o, none⟩) cp ca wp (by have := sp.len; omega) (by have := st.len; omega) hp.tree.2 (HTR.out.below hqp)
              rw [decide_eq_true (fq.trans HAG.out)] at HS
              have HS := Lib.hid HS
              have hbp := hbr.trans (hqp.mono hbr.size)
              clear c1 c2 hqp fq
              go_wp2_with fail
              refine HS.out.mono ?_
              rintro e ws ⟨rfl, hqs⟩
              have hbs := hbp.trans (hqs.mono hbp.size)
              clear hqs hbp
              go_wp2_with fail
              go_roundw
              case rel => exact ⟨k + 1, by omega, by go_num, hbs⟩
              case measure => simp [intOf]; omega
            · have hge : ¬ ((k : Int) < (t.length : Int)) := by omega
              go_wp2_with fail
              refine (lawknown_any _ (hm.below hbr)).mono ?_
              rintro e wz ⟨rfl, hz⟩
              have HZ := Lib.hid (hbr.trans (hz.mono hbr.size)); clear hz
              go_wp2_with fail
              go_ret
              exact ⟨rfl, HZ.out⟩
        | true =>
          have hE := orders_one rt he
          have k0 := xf6.c0
          have k1 := xf6.c1
          have k2 := xg6.c0
          have k3 := xg6.c1
          have HP7 := tput_any t A ca g w6 (ht.below hb6) (st.small (by omega) (by omega)) (by have := st.len; omega) (gb.below hb6) (by omega)
          go_wp2_with fail
          refine HP7.mono ?_
          rintro e w7 ⟨v7, l7, rfl, h7, f7, hq7⟩
          obtain ⟨A7, c7, rfl⟩ := h7.own.slice
          have s7 := SizeX.of_put f7 st hgp hgb
          have hb7 := hb6.trans (hq7.mono hb6.size)
          have HS := same_any l4 l7 A4 A7 c4 c7 w7 (by have := s4.len; omega) (by have := s7.len; omega) (h4.below hq7).tree.2 h7.tree.2
          rw [decide_eq_true (E4.trans (hE.trans f7.symm))] at HS
          have xf7 := xf6.below hq7
          have xg7 := xg6.below hq7
          have j0 := xf7.c0
          have j1 := xf7.c1
          have j2 := xg7.c0
          have j3 := xg7.c1
          clear HP7 hq7 k0 k1 k2 k3
          go_wp2_with fail
          refine HS.mono ?_
          rintro e w8 ⟨rfl, hq8⟩
          have hb8 := hb7.trans (hq8.mono hb7.size)
          clear HS hE E4 E6 h4 h6 h7 hq8 j0 j1 j2 j3
          have HTT := Lib.hid ht
          have HBL := Lib.hid hb8
          go_wp2_with fail
          go_loopw [9] (fun i wr => ∃ (k : Nat), k ≤ t.length ∧ i = .int .i64 k ∧ Below w.heap.size w wr) (fun i _ => t.length - (intOf i).toNat)
          case atStart => exact ⟨0, Nat.zero_le _, rfl, HBL.out⟩
          case round =>
            obtain ⟨k, hk, rfl, hbr⟩ := hrel
            by_cases hlt : k < t.length
            · obtain ⟨x, hx⟩ : ∃ x, t[k]? = some x := ⟨_, List.getElem?_eq_getElem hlt⟩
              have htr := HTT.out.below hbr
              obtain ⟨g', o, hA1, hr⟩ := htr.row (by omega)
              obtain ⟨c1, c2⟩ := hr k x hx
              have hmem := List.mem_of_getElem? hx
              have hxz := st.each x hmem
              have HP := Lib.hid (tput_any t A ca x wr htr (st.small (by omega) (by omega)) (by have := st.len; omega) (htr.files x hmem) (by omega))
              have hag : putT (flsX t) x.fl = flsX t := put_again (right_sorted rt) (List.mem_map.2 ⟨x, hmem, rfl⟩)
              have HAG := Lib.hid hag; clear hag
              have HTR := Lib.hid htr; clear htr
              subst hA1
              have k1 : (k : Int) < (t.length : Int) := by omega
              clear hr hx
              go_wp2_with fail
              refine HP.out.mono ?_
              rintro e wp ⟨vp, lp, rfl, hp, fq, hqp⟩
              obtain ⟨Ap, cp, rfl⟩ := hp.own.slice
              have sp := SizeX.of_put fq st hxz.1 hxz.2
              have HS := same_any lp t Ap (some ⟨g', o, none⟩) cp ca wp (by have := sp.len; omega) (by have := st.len; omega) hp.tree.2 (HTR.out.below hqp)
              rw [decide_eq_true (fq.trans HAG.out)] at HS
              have HS := Lib.hid HS
              have hbp := hbr.trans (hqp.mono hbr.size)
              clear c1 c2 hqp fq
              go_wp2_with fail
              refine HS.out.mono ?_
              rintro e ws ⟨rfl, hqs⟩
              have hbs := hbp.trans (hqs.mono hbp.size)
              clear hqs hbp
              go_wp2_with fail
              go_roundw
              case rel => exact ⟨k + 1, by omega, by go_num, hbs⟩
              case measure => simp [intOf]; omega
            · have hge : ¬ ((k : Int) < (t.length : Int)) := by omega
              go_wp2_with fail
              refine (lawknown_any _ (hm.below hbr)).mono ?_
              rintro e wz ⟨rfl, hz⟩
              have HZ := Lib.hid (hbr.trans (hz.mono hbr.size)); clear hz
              go_wp2_with fail
              go_ret
              exact ⟨rfl, HZ.out⟩
end Go.Proofs.YtedcaodbcognjaaDoor
