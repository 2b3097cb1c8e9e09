/-
  The walk of BuildStands.
-/
import Derived.Test.YtlampcelmlejbaaDoorBdUse
import Derived.Test.YtlampcelmlejbaaDoorBdOf
import Derived.Deep.RegionHeld3
import Derived.BigQuiet
import Derived.IntWalk
namespace Go.Proofs.YtlampcelmlejbaaDoor
open Go Go.RowKit Go.Shelf Go.Proofs
attribute [local go_sem] Oper.semAt_some

theorem allT_err {t : List Fl} (h : (allT t).1 ≠ 0) : (allT t).2 = [] := by
  unfold allT at h ⊢
  split
  · rfl
  · rename_i l hl
    rw [hl] at h
    by_cases hw : wholeT l = 0
    · simp [hw] at h
    · simp [hw]
theorem of_len_take (l : List Tg) (s : Bs) (k : Nat) : (ofTg (l.take k) s).length ≤ (ofTg l s).length := by
  conv => rhs; rw [← List.take_append_drop k l]
  unfold ofTg
  rw [List.filter_append, List.map_append, List.length_append]
  omega
theorem of_at (l : List TX) (s : Bs) (k : Nat) (x : TX) (hx : l[k]? = some x) (h : x.s.contains s = true) : (ofTg (tgsX l) s)[(ofTg ((tgsX l).take k) s).length]? = some x.n.data.toList ∧ (ofTg ((tgsX l).take (k + 1)) s).length = (ofTg ((tgsX l).take k) s).length + 1 := by
  have h1 := of_take l k x s hx
  rw [h, if_pos rfl] at h1
  have h2 : ofTg (tgsX l) s = ofTg ((tgsX l).take (k + 1)) s ++ ofTg ((tgsX l).drop (k + 1)) s := by
    conv => lhs; rw [← List.take_append_drop (k + 1) (tgsX l)]
    unfold ofTg
    rw [List.filter_append, List.map_append]
  refine ⟨?_, by rw [h1]; simp⟩
  rw [h2, h1]
  simp
theorem of_not (l : List TX) (s : Bs) (k : Nat) (x : TX) (hx : l[k]? = some x) (h : x.s.contains s = false) : (ofTg ((tgsX l).take (k + 1)) s).length = (ofTg ((tgsX l).take k) s).length := by
  have h1 := of_take l k x s hx
  rw [h] at h1
  rw [h1]; simp

set_option maxRecDepth 100000 in
set_option maxHeartbeats 32000000 in
theorem bstands_law (t : List FX) (A : Option Addr) (c : Nat) (s : ByteArray) (w : World) (h : TreeAt w A c t) (hz : BigX t) (hx : s.size ≤ 1000000000000000) (hm : MaxOk w) :
    Calls Tryd.prog 4 #[.slice A t.length c, .string s] w (BdB true w) := by
  have hcap : t.length ≤ maxLen := Nat.le_trans h.cap h.capm
  unfold maxLen at hcap
  have HK := Lib.hid (fun (W : World) (hb : Below w.heap.size w W) => bknown_any W (hm.below hb))
  have HMX := Lib.hid (fun (W : World) (hb : Below w.heap.size w W) => hm.below hb)
  have HT := Lib.hid h
  have HZ := Lib.hid hz
  clear h hm hz
  by_cases h40 : 40 < t.length
  · have g1 : (40 : Int) < (t.length : Int) := by omega
    go_enter Tryd.func4, Tryd.ntmps4
    go_wp2_with fail
    refine (HK.out _ (Below.refl _ _)).mono ?_
    rintro e y ⟨rfl, hb⟩
    go_wp2_with fail
    go_ret
    exact ⟨rfl, hb⟩
  · have g1 : ¬ (40 : Int) < (t.length : Int) := by omega
    have HL := reflong_any t A c w HT.out (by omega) HZ.out
    obtain ⟨q, hq⟩ : ∃ q, longN t = q := ⟨_, rfl⟩
    rw [hq] at HL
    have HL := Lib.hid HL
    have HQ := Lib.hid hq
    clear hq
    obtain ⟨N, hN⟩ : ∃ N, t.length = N := ⟨_, rfl⟩
    rw [hN] at HL h40 g1 hcap ⊢
    have HN := Lib.hid hN
    clear hN
    by_cases h20 : 3000 < q
    · have g2 : (3000 : Int) < (q : Int) := by omega
      go_enter Tryd.func4, Tryd.ntmps4
      go_wp2_with fail
      refine HL.out.mono ?_
      rintro e w2 ⟨rfl, hb2⟩
      have HB2 := Lib.hid hb2
      clear hb2
      go_wp2_with fail
      refine (HK.out _ HB2.out).mono ?_
      rintro e y ⟨rfl, hb⟩
      go_wp2_with fail
      go_ret
      exact ⟨rfl, HB2.out.trans (hb.mono HB2.out.size)⟩
    · have g2 : ¬ (3000 : Int) < (q : Int) := by omega
      by_cases h200 : 200 < s.size
      · have g3 : (200 : Int) < (s.size : Int) := by omega
        go_enter Tryd.func4, Tryd.ntmps4
        go_wp2_with fail
        refine HL.out.mono ?_
        rintro e w2 ⟨rfl, hb2⟩
        have HB2 := Lib.hid hb2
        clear hb2
        go_wp2_with fail
        refine (HK.out _ HB2.out).mono ?_
        rintro e y ⟨rfl, hb⟩
        go_wp2_with fail
        go_ret
        exact ⟨rfl, HB2.out.trans (hb.mono HB2.out.size)⟩
      · have g3 : ¬ (200 : Int) < (s.size : Int) := by omega
        go_enter Tryd.func4, Tryd.ntmps4
        go_wp2_with fail
        refine HL.out.mono ?_
        rintro e w2 ⟨rfl, hb2⟩
        have HB2 := Lib.hid hb2
        clear hb2
        go_wp2_with fail
        have hsm : ∀ f ∈ t, f.p.size ≤ 4000 ∧ f.b.length ≤ 4000 := long_small (by rw [HQ.out]; omega)
        have HSM := Lib.hid hsm
        have HA1 := ball_any A c t w2 (HT.out.below HB2.out) (by rw [HN.out]; omega) hsm (HMX.out w2 HB2.out)
        obtain ⟨PP, hPP⟩ : ∃ PP, allT (flsX t) = PP := ⟨_, rfl⟩
        rw [hPP, HN.out] at HA1
        have HPP := Lib.hid hPP
        obtain ⟨PE, PL⟩ := PP
        have HA1 := Lib.hid HA1
        clear hPP hsm
        try go_wp2_with fail
        refine HA1.out.mono ?_
        rintro e w3 ⟨A3, c3, l3, rfl, hat3, hl3, hb3⟩
        have HB3 := Lib.hid (HB2.out.trans (hb3.mono HB2.out.size))
        have HAT3 := Lib.hid hat3
        have HL3 := Lib.hid (show tgsX l3 = PL from hl3)
        obtain ⟨n3, hn3⟩ : ∃ n3, l3.length = n3 := ⟨_, rfl⟩
        rw [hn3]
        have HN3 := Lib.hid hn3
        have hn3m : n3 ≤ 9223372036854775807 := by
          have h1 := hat3.cap
          have h2 := hat3.capm
          unfold maxLen at h2
          omega
        clear hb3 hat3 hl3 hn3 HA1
        by_cases hp0 : PE = 0
        · subst hp0
          have hok := allT_ok (t := flsX t) (by rw [HPP.out])
          rw [HPP.out] at hok
          obtain ⟨hri, hde⟩ := hok
          have HRI := Lib.hid (show PL.Pairwise (fun x y => ltB x.n y.n = true) from hri)
          have HDE := Lib.hid (show ∀ x ∈ PL, ∀ d ∈ x.d, hasN PL d = true from hde)
          have HOF := bof_any l3 A3 c3 s w3 HAT3.out (by
            have := allT_count (t := flsX t) (fls_small HSM.out)
            rw [HPP.out, flsX_length, HN.out] at this
            have h5 : l3.length = PL.length := by rw [← HL3.out, tgsX_length]
            have : PL.length ≤ 4001 * N := this
            omega)
          rw [HN3.out] at HOF
          have HOF := Lib.hid HOF
          clear hri hde
          go_wp2_with fail
          refine HOF.out.mono ?_
          rintro e w4 ⟨A4, c4, rfl, hst4, hsc4, hsm4, hb4⟩
          have HB4 := Lib.hid (HB3.out.trans (hb4.mono HB3.out.size))
          have HAT4 := Lib.hid (HAT3.out.below hb4)
          have HST4 := Lib.hid hst4
          obtain ⟨P4, hP4⟩ : ∃ P, ofTg (tgsX l3) s.data.toList = P := ⟨_, rfl⟩
          rw [hP4] at HST4 hsc4 ⊢
          obtain ⟨n4, hn4⟩ : ∃ n4, P4.length = n4 := ⟨_, rfl⟩
          rw [hn4] at hsc4 ⊢
          have HP4 := Lib.hid hP4
          have HN4 := Lib.hid hn4
          clear hst4 hb4 hP4 hn4 HOF
          go_wp2_with fail
          go_loopw [8, 9] (fun v8 v9 wr => ∃ (m i : Nat), i ≤ n3 ∧ v9 = .int .i64 i ∧ v8 = .int .i64 m ∧ Hid (m = (ofTg ((tgsX l3).take i) s.data.toList).length) ∧ m ≤ i ∧ Below w4.heap.size w4 wr) (fun _ v9 _ => n3 - (intOf v9).toNat)
          case atStart => exact ⟨0, 0, Nat.zero_le _, rfl, rfl, rfl, Nat.le_refl _, Below.refl _ _⟩
          case round =>
            obtain ⟨m, i, hi, rfl, rfl, HM, hmi, hbr⟩ := hrel
            have HBR := Lib.hid hbr
            clear hbr
            by_cases h1 : i < n3
            · have i1 : (i : Int) < (n3 : Int) := by omega
              obtain ⟨x, hx⟩ : ∃ x, l3[i]? = some x := ⟨_, List.getElem?_eq_getElem (by rw [HN3.out]; exact h1)⟩
              obtain ⟨g, o, hA, _⟩ := (HAT4.out.below HBR.out).row (by rw [HN3.out]; omega)
              subst hA
              have CR := Lib.hid (fun (W : World) (hb : Below w4.heap.size w4 W) => by
                obtain ⟨g', o', e', hr'⟩ := (HAT4.out.below hb).row (by rw [HN3.out]; omega)
                cases e'
                exact hr')
              have HXM := Lib.hid (List.mem_of_getElem? hx)
              have HXO := Lib.hid (HAT4.out.own x HXM.out)
              have hpl : placeT (tgsX l3) x.n.data.toList = (i : Int) := by
                rw [HL3.out]
                exact place_rising HRI.out (by rw [← HL3.out, tgsX_getElem?, hx]; rfl)
              have HPL := Lib.hid (fun (W : World) (hb : Below w4.heap.size w4 W) => by
                have := bplace_any l3 (some ⟨g, o, none⟩) c3 x.n W (HAT4.out.below hb)
                rw [hpl, HN3.out] at this
                exact this)
              have HDP := Lib.hid (fun (W : World) (hb : Below w4.heap.size w4 W) (d : ByteArray) => by
                have := bplace_any l3 (some ⟨g, o, none⟩) c3 d W (HAT4.out.below hb)
                rw [HN3.out] at this
                exact this)
              have HX := Lib.hid hx
              have hnx := fun (hc : x.s.contains s.data.toList = true) => of_at l3 s.data.toList i x hx hc
              have hny := fun (hc : x.s.contains s.data.toList = false) => of_not l3 s.data.toList i x hx hc
              have HNX := Lib.hid hnx
              have HNY := Lib.hid hny
              have CX := Lib.hid (fun (W : World) (hb : Below w4.heap.size w4 W) => CR.out W hb i x hx)
              have HDX := Lib.hid (show ∀ d ∈ x.d, 0 ≤ placeT (tgsX l3) d from fun d hd => by
                rw [HL3.out]
                exact place_has (HDE.out x.tg (by rw [← HL3.out]; exact List.mem_map.2 ⟨x, HXM.out, rfl⟩) d hd))
              obtain ⟨xn, xA, xc, xs, xB, xb, xd⟩ := x
              clear hpl hnx hny
              obtain ⟨d0, d1, d2⟩ := CX.out wr HBR.out
              simp only at d0 d1 d2
              obtain ⟨ns, hns⟩ : ∃ ns, xs.length = ns := ⟨_, rfl⟩
              obtain ⟨nd, hnd⟩ : ∃ nd, xd.length = nd := ⟨_, rfl⟩
              have HNS := Lib.hid hns
              have HND := Lib.hid hnd
              have hnsm : ns ≤ 9223372036854775807 := by have h1 := HXO.out.sc; have h2 := HXO.out.cm; simp only [hns] at h1 h2; simp only [maxLen] at h2; omega
              have hndm : nd ≤ 9223372036854775807 := by have h1 := HXO.out.dc; have h2 := HXO.out.bm; simp only [hnd] at h1 h2; simp only [maxLen] at h2; omega
              rw [hns] at d1
              rw [hnd] at d2
              clear hns hnd hx
              by_cases hi0 : i = 0
              · have g0 : decide (0 < i) = false := by rw [decide_eq_false_iff_not]; omega
                clear hi0
                go_upto_region 11 with fail
                refine wp_region_held_drew (S := (fun w' => w'.cell? ⟨g, o + i * 3, none⟩ = some (.string xn))) (by kernel_rfl) d0 (fun hHeld => ?_)
                refine wpAnyH_take (i := 0) (v := ?vq2_0) rfl (by kernel_rfl) (by kernel_rfl) (by kernel_rfl) (fun _ _ _ h => h) (Or.inl ⟨by rfl, ?yq2_0⟩) (by assumption) ?rq2_0
                case yq2_0 =>
                  intro w hSw
                  (try dsimp only at hSw)
                  go_simp
                  first | done | with_reducible rfl
                try simp only [Act.put, List.getElem_toArray, List.getElem_cons_zero, List.setIfInBounds_toArray, List.set_cons_zero, List.set_cons_succ]
                refine wpAnyH_take (i := 1) (v := ?vq2_1) rfl (by kernel_rfl) (by kernel_rfl) (by kernel_rfl) (fun _ _ _ h => h) (Or.inl ⟨by rfl, ?yq2_1⟩) (by assumption) ?rq2_1
                case yq2_1 =>
                  intro w hSw
                  (try dsimp only at hSw)
                  go_simp
                  first | done | with_reducible rfl
                try simp only [Act.put, List.getElem_toArray, List.getElem_cons_zero, List.getElem_cons_succ, List.setIfInBounds_toArray, List.set_cons_zero, List.set_cons_succ]
                refine wpAnyH_take (i := 2) (v := ?vq2_2) rfl (by kernel_rfl) (by kernel_rfl) (by kernel_rfl) (fun _ _ _ h => h) (Or.inl ⟨by rfl, ?yq2_2⟩) (by assumption) ?rq2_2
                case yq2_2 =>
                  intro w hSw
                  (try dsimp only at hSw)
                  go_simp
                  first | done | with_reducible rfl
                try simp only [Act.put, List.getElem_toArray, List.getElem_cons_zero, List.getElem_cons_succ, List.setIfInBounds_toArray, List.set_cons_zero, List.set_cons_succ]
                refine wpAnyH_take (i := 3) (v := undef) rfl (by kernel_rfl) (by kernel_rfl) (by kernel_rfl) (fun _ _ _ h => h) (Or.inr ⟨by rfl, rfl⟩) (by assumption) ?rq2_3
                try simp only [Act.put, List.getElem_toArray, List.getElem_cons_zero, List.getElem_cons_succ, List.setIfInBounds_toArray, List.set_cons_zero, List.set_cons_succ]
                refine wpAnyH_take (i := 4) (v := undef) rfl (by kernel_rfl) (by kernel_rfl) (by kernel_rfl) (fun _ _ _ h => h) (Or.inr ⟨by rfl, rfl⟩) (by assumption) ?rq2_4
                try simp only [Act.put, List.getElem_toArray, List.getElem_cons_zero, List.getElem_cons_succ, List.setIfInBounds_toArray, List.set_cons_zero, List.set_cons_succ]
                refine wpAnyH_take (i := 5) (v := undef) rfl (by kernel_rfl) (by kernel_rfl) (by kernel_rfl) (fun _ _ _ h => h) (Or.inr ⟨by rfl, rfl⟩) (by assumption) ?rq2_5
                try simp only [Act.put, List.getElem_toArray, List.getElem_cons_zero, List.getElem_cons_succ, List.setIfInBounds_toArray, List.set_cons_zero, List.set_cons_succ]
                refine wpAnyH_take (i := 6) (v := undef) rfl (by kernel_rfl) (by kernel_rfl) (by kernel_rfl) (fun _ _ _ h => h) (Or.inr ⟨by rfl, rfl⟩) (by assumption) ?rq2_6
                try simp only [Act.put, List.getElem_toArray, List.getElem_cons_zero, List.getElem_cons_succ, List.setIfInBounds_toArray, List.set_cons_zero, List.set_cons_succ]
                refine wpAnyH_take (i := 7) (v := undef) rfl (by kernel_rfl) (by kernel_rfl) (by kernel_rfl) (fun _ _ _ h => h) (Or.inr ⟨by rfl, rfl⟩) (by assumption) ?rq2_7
                try simp only [Act.put, List.getElem_toArray, List.getElem_cons_zero, List.getElem_cons_succ, List.setIfInBounds_toArray, List.set_cons_zero, List.set_cons_succ]
                refine wpAnyH_take (i := 8) (v := undef) rfl (by kernel_rfl) (by kernel_rfl) (by kernel_rfl) (fun _ _ _ h => h) (Or.inr ⟨by rfl, rfl⟩) (by assumption) ?rq2_8
                try simp only [Act.put, List.getElem_toArray, List.getElem_cons_zero, List.getElem_cons_succ, List.setIfInBounds_toArray, List.set_cons_zero, List.set_cons_succ]
                refine wpAnyH_take (i := 9) (v := undef) rfl (by kernel_rfl) (by kernel_rfl) (by kernel_rfl) (fun _ _ _ h => h) (Or.inr ⟨by rfl, rfl⟩) (by assumption) ?rq2_9
                try simp only [Act.put, List.getElem_toArray, List.getElem_cons_zero, List.getElem_cons_succ, List.setIfInBounds_toArray, List.set_cons_zero, List.set_cons_succ]
                refine wpAnyH_take (i := 10) (v := undef) rfl (by kernel_rfl) (by kernel_rfl) (by kernel_rfl) (fun _ _ _ h => h) (Or.inr ⟨by rfl, rfl⟩) (by assumption) ?rq2_10
                try simp only [Act.put, List.getElem_toArray, List.getElem_cons_zero, List.getElem_cons_succ, List.setIfInBounds_toArray, List.set_cons_zero, List.set_cons_succ]
                refine wpAnyH_take (i := 11) (v := undef) rfl (by kernel_rfl) (by kernel_rfl) (by kernel_rfl) (fun _ _ _ h => h) (Or.inr ⟨by rfl, rfl⟩) (by assumption) ?rq2_11
                try simp only [Act.put, List.getElem_toArray, List.getElem_cons_zero, List.getElem_cons_succ, List.setIfInBounds_toArray, List.set_cons_zero, List.set_cons_succ]
                refine wpAnyH_take (i := 12) (v := undef) rfl (by kernel_rfl) (by kernel_rfl) (by kernel_rfl) (fun _ _ _ h => h) (Or.inr ⟨by rfl, rfl⟩) (by assumption) ?rq2_12
                try simp only [Act.put, List.getElem_toArray, List.getElem_cons_zero, List.getElem_cons_succ, List.setIfInBounds_toArray, List.set_cons_zero, List.set_cons_succ]
                refine wpAnyH_take (i := 13) (v := undef) rfl (by kernel_rfl) (by kernel_rfl) (by kernel_rfl) (fun _ _ _ h => h) (Or.inr ⟨by rfl, rfl⟩) (by assumption) ?rq2_13
                try simp only [Act.put, List.getElem_toArray, List.getElem_cons_zero, List.getElem_cons_succ, List.setIfInBounds_toArray, List.set_cons_zero, List.set_cons_succ]
                refine wpAnyH_take (i := 14) (v := undef) rfl (by kernel_rfl) (by kernel_rfl) (by kernel_rfl) (fun _ _ _ h => h) (Or.inr ⟨by rfl, rfl⟩) (by assumption) ?rq2_14
                try simp only [Act.put, List.getElem_toArray, List.getElem_cons_zero, List.getElem_cons_succ, List.setIfInBounds_toArray, List.set_cons_zero, List.set_cons_succ]
                refine wpAnyH_take (i := 15) (v := ?vq2_15) rfl (by kernel_rfl) (by kernel_rfl) (by kernel_rfl) (fun _ _ _ h => h) (Or.inl ⟨by rfl, ?yq2_15⟩) (by assumption) ?rq2_15
                case yq2_15 =>
                  intro w hSw
                  (try dsimp only at hSw)
                  go_simp
                  first | done | with_reducible rfl
                try simp only [Act.put, List.getElem_toArray, List.getElem_cons_zero, List.getElem_cons_succ, List.setIfInBounds_toArray, List.set_cons_zero, List.set_cons_succ]
                refine wpAnyH_take (i := 16) (v := ?vq2_16) rfl (by kernel_rfl) (by kernel_rfl) (by kernel_rfl) (fun _ _ _ h => h) (Or.inl ⟨by rfl, ?yq2_16⟩) (by assumption) ?rq2_16
                case yq2_16 =>
                  intro w hSw
                  (try dsimp only at hSw)
                  go_simp
                  first | done | with_reducible rfl
                try simp only [Act.put, List.getElem_toArray, List.getElem_cons_zero, List.getElem_cons_succ, List.setIfInBounds_toArray, List.set_cons_zero, List.set_cons_succ]
                refine wpAnyH_take (i := 17) (v := ?vq2_17) rfl (by kernel_rfl) (by kernel_rfl) (by kernel_rfl) (fun _ _ _ h => h) (Or.inl ⟨by rfl, ?yq2_17⟩) (by assumption) ?rq2_17
                case yq2_17 =>
                  intro w hSw
                  (try dsimp only at hSw)
                  go_simp
                  first | done | with_reducible rfl
                try simp only [Act.put, List.getElem_toArray, List.getElem_cons_zero, List.getElem_cons_succ, List.setIfInBounds_toArray, List.set_cons_zero, List.set_cons_succ]
                refine wpAnyH_take (i := 18) (v := ?vq2_18) rfl (by kernel_rfl) (by kernel_rfl) (by kernel_rfl) (fun _ _ _ h => h) (Or.inl ⟨by rfl, ?yq2_18⟩) (by assumption) ?rq2_18
                case yq2_18 =>
                  intro w hSw
                  (try dsimp only at hSw)
                  go_simp
                  first | done | with_reducible rfl
                try simp only [Act.put, List.getElem_toArray, List.getElem_cons_zero, List.getElem_cons_succ, List.setIfInBounds_toArray, List.set_cons_zero, List.set_cons_succ]
                refine wpAnyH_take (i := 19) (v := ?vq2_19) rfl (by kernel_rfl) (by kernel_rfl) (by kernel_rfl) (fun _ _ _ h => h) (Or.inl ⟨by rfl, ?yq2_19⟩) (by assumption) ?rq2_19
                case yq2_19 =>
                  intro w hSw
                  (try dsimp only at hSw)
                  go_simp
                  first | done | with_reducible rfl
                try simp only [Act.put, List.getElem_toArray, List.getElem_cons_zero, List.getElem_cons_succ, List.setIfInBounds_toArray, List.set_cons_zero, List.set_cons_succ]
                refine wpAnyH_take (i := 20) (v := ?vq2_20) rfl (by kernel_rfl) (by kernel_rfl) (by kernel_rfl) (fun _ _ _ h => h) (Or.inl ⟨by rfl, ?yq2_20⟩) (by assumption) ?rq2_20
                case yq2_20 =>
                  intro w hSw
                  (try dsimp only at hSw)
                  go_simp
                  first | done | with_reducible rfl
                try simp only [Act.put, List.getElem_toArray, List.getElem_cons_zero, List.getElem_cons_succ, List.setIfInBounds_toArray, List.set_cons_zero, List.set_cons_succ]
                refine wpAnyH_take (i := 21) (v := ?vq2_21) rfl (by kernel_rfl) (by kernel_rfl) (by kernel_rfl) (fun _ _ _ h => h) (Or.inl ⟨by rfl, ?yq2_21⟩) (by assumption) ?rq2_21
                case yq2_21 =>
                  intro w hSw
                  (try dsimp only at hSw)
                  go_simp
                  first | done | with_reducible rfl
                try simp only [Act.put, List.getElem_toArray, List.getElem_cons_zero, List.getElem_cons_succ, List.setIfInBounds_toArray, List.set_cons_zero, List.set_cons_succ]
                refine wpAnyH_take (i := 22) (v := ?vq2_22) rfl (by kernel_rfl) (by kernel_rfl) (by kernel_rfl) (fun _ _ _ h => h) (Or.inl ⟨by rfl, ?yq2_22⟩) (by assumption) ?rq2_22
                case yq2_22 =>
                  intro w hSw
                  (try dsimp only at hSw)
                  go_simp
                  first | done | with_reducible rfl
                try simp only [Act.put, List.getElem_toArray, List.getElem_cons_zero, List.getElem_cons_succ, List.setIfInBounds_toArray, List.set_cons_zero, List.set_cons_succ]
                refine wpAnyH_take (i := 24) (v := ?vq2_24) rfl (by kernel_rfl) (by kernel_rfl) (by kernel_rfl) (fun _ _ _ h => h) (Or.inl ⟨by rfl, ?yq2_24⟩) (by assumption) ?rq2_24
                case yq2_24 =>
                  intro w hSw
                  (try dsimp only at hSw)
                  go_simp
                  first | done | with_reducible rfl
                try simp only [Act.put, List.getElem_toArray, List.getElem_cons_zero, List.getElem_cons_succ, List.setIfInBounds_toArray, List.set_cons_zero, List.set_cons_succ]
                refine wpAnyH_ready (rs := [23]) (by kernel_rfl) (by simp) ?_
                refine AllReadyH.cons rfl (fun K hK => ?_) AllReadyH.nil
                go_simp
                refine (HPL.out wr.drew (HBR.out.drew)).mono ?_
                rintro e w5 ⟨rfl, hb5'⟩
                have HB5 := Lib.hid (HBR.out.drew.trans (hb5'.mono HBR.out.drew.size))
                clear hb5'
                refine hK.out _ _ (CX.out w5 HB5.out).1 (fun hHeld => ?_)
                clear hK K
                try simp only [Act.put, List.getElem_toArray, List.getElem_cons_zero, List.getElem_cons_succ, List.setIfInBounds_toArray, List.set_cons_zero, List.set_cons_succ]
                refine wpAnyH_take (i := 25) (v := ?vq2_25) rfl (by kernel_rfl) (by kernel_rfl) (by kernel_rfl) (fun _ _ _ h => h) (Or.inl ⟨by rfl, ?yq2_25⟩) (by assumption) ?rq2_25
                case yq2_25 =>
                  intro w hSw
                  (try dsimp only at hSw)
                  go_simp
                  first | done | with_reducible rfl
                try simp only [Act.put, List.getElem_toArray, List.getElem_cons_zero, List.getElem_cons_succ, List.setIfInBounds_toArray, List.set_cons_zero, List.set_cons_succ]
                refine wpAnyH_take (i := 26) (v := ?vq2_26) rfl (by kernel_rfl) (by kernel_rfl) (by kernel_rfl) (fun _ _ _ h => h) (Or.inl ⟨by rfl, ?yq2_26⟩) (by assumption) ?rq2_26
                case yq2_26 =>
                  intro w hSw
                  (try dsimp only at hSw)
                  go_simp
                  first | done | with_reducible rfl
                try simp only [Act.put, List.getElem_toArray, List.getElem_cons_zero, List.getElem_cons_succ, List.setIfInBounds_toArray, List.set_cons_zero, List.set_cons_succ]
                refine wpAnyH_done (by kernel_rfl) ?_ _
                clear hHeld
                clear d0 d1 d2
                go_wp2_with fail
                go_loopw [10] (fun v10 wr => ∃ j : Nat, j ≤ nd ∧ v10 = .int .i64 j ∧ Below w4.heap.size w4 wr) (fun v10 _ => nd - (intOf v10).toNat)
                case atStart => exact ⟨0, Nat.zero_le _, rfl, HB5.out⟩
                case round =>
                  obtain ⟨j, hj, rfl, hbj⟩ := hrel
                  have HBJ := Lib.hid hbj
                  clear hbj
                  obtain ⟨d0, d1, d2⟩ := CX.out wr HBJ.out
                  try simp only at d0 d1 d2
                  rw [HNS.out] at d1
                  rw [HND.out] at d2
                  by_cases hj1 : j < nd
                  · have j1 : (j : Int) < (nd : Int) := by omega
                    obtain ⟨d, hd⟩ : ∃ d, xd[j]? = some d := ⟨_, List.getElem?_eq_getElem (by rw [HND.out]; exact hj1)⟩
                    obtain ⟨gB, oB, hB, hcell⟩ := (HXO.out.below HBJ.out).d (by show 0 < xd.length; rw [HND.out]; omega)
                    simp only at hB
                    subst hB
                    have c0 := hcell j d hd
                    obtain ⟨qq, hqq⟩ : ∃ q, mkB d = q := ⟨_, rfl⟩
                    rw [hqq] at c0
                    have hz0 : 0 ≤ placeT (tgsX l3) qq.data.toList := by rw [← hqq, mkB_data]; exact HDX.out d (List.mem_of_getElem? hd)
                    have HPC := HDP.out wr HBJ.out qq
                    obtain ⟨pp, hpp⟩ : ∃ p, placeT (tgsX l3) qq.data.toList = p := ⟨_, rfl⟩
                    rw [hpp] at hz0 HPC
                    have HPC := Lib.hid HPC
                    have z2 : ¬ pp < 0 := by omega
                    clear hcell hd hqq hpp
                    go_wp2_with fail
                    refine HPC.out.mono ?_
                    rintro e w6 ⟨rfl, hb6⟩
                    have HB6 := Lib.hid (HBJ.out.trans (hb6.mono HBJ.out.size))
                    clear hb6 HPC c0
                    go_wp2_with fail
                    go_roundw
                    case rel => exact ⟨j + 1, by omega, by go_num, HB6.out⟩
                    case measure => simp [intOf]; omega
                  · obtain rfl : j = nd := by omega
                    obtain ⟨wc, hwc⟩ : ∃ wc, wc = wr := ⟨_, rfl⟩
                    subst hwc
                    clear hj1
                    go_wp2_with fail
                    go_loop [11, 12] (fun v11 v12 => ∃ j2 : Nat, j2 ≤ ns ∧ v12 = .int .i64 j2 ∧ v11 = .bool ((xs.take j2).contains s.data.toList)) (fun _ v12 => ns - (intOf v12).toNat)
                    case atStart => exact ⟨0, Nat.zero_le _, rfl, rfl⟩
                    case round =>
                      obtain ⟨j2, hj2, rfl, rfl⟩ := hrel
                      by_cases hjs : j2 < ns
                      · have j1 : (j2 : Int) < (ns : Int) := by omega
                        obtain ⟨p, hp⟩ : ∃ p, xs[j2]? = some p := ⟨_, List.getElem?_eq_getElem (by rw [HNS.out]; exact hjs)⟩
                        obtain ⟨gS, oS, hS, hcell⟩ := (HXO.out.below HBJ.out).s (by show 0 < xs.length; rw [HNS.out]; omega)
                        simp only at hS
                        subst hS
                        have c0 := hcell j2 p hp
                        have htk : (xs.take (j2 + 1)).contains s.data.toList = ((xs.take j2).contains s.data.toList || s.data.toList == p) := by
                          rw [List.take_add_one, hp, Option.toList_some]
                          rw [Bool.eq_iff_iff]
                          simp
                        obtain ⟨qq, hqq⟩ : ∃ q, mkB p = q := ⟨_, rfl⟩
                        rw [hqq] at c0
                        have hcm : (qq.toList == s.toList) = (s.data.toList == p) := by
                          rw [ByteArray.toList_eq, ByteArray.toList_eq, ← hqq, mkB_data, Bool.eq_iff_iff, beq_iff_eq, beq_iff_eq]
                          exact ⟨fun e => e.symm, fun e => e.symm⟩
                        obtain ⟨b2, hb2⟩ : ∃ b, (s.data.toList == p) = b := ⟨_, rfl⟩
                        rw [hb2] at hcm htk
                        obtain ⟨b1, hb1⟩ : ∃ b, (xs.take j2).contains s.data.toList = b := ⟨_, rfl⟩
                        rw [hb1] at htk ⊢
                        have HTK := Lib.hid htk
                        clear htk hqq hcell hp hb2 hb1
                        cases b1 with
                        | true =>
                          clear hcm c0
                          go_wp2_with fail
                          go_round
                          case rel => exact ⟨j2 + 1, by omega, by go_num, by rw [HTK.out]; rfl⟩
                          case measure => simp [intOf]; omega
                        | false =>
                          go_wp2_with fail
                          go_round
                          case rel => exact ⟨j2 + 1, by omega, by go_num, by rw [HTK.out]; rfl⟩
                          case measure => simp [intOf]; omega
                      · obtain rfl : j2 = ns := by omega
                        have hall : (xs.take j2).contains s.data.toList = xs.contains s.data.toList := by rw [List.take_of_length_le (by rw [HNS.out]; exact Nat.le_refl _)]
                        rw [hall]
                        clear hall hjs
                        cases hbb : xs.contains s.data.toList with
                        | false =>
                          have hcnt := HNY.out hbb
                          have HCN := Lib.hid hcnt
                          clear hbb hcnt
                          go_wp2_with fail
                          go_roundw
                          case rel => exact ⟨m, i + 1, by omega, by go_num, rfl, HM.out.trans HCN.out.symm, by omega, HBJ.out⟩
                          case measure => simp [intOf]; omega
                        | true =>
                          obtain ⟨ha, hcnt⟩ := HNX.out hbb
                          rw [← HM.out] at ha hcnt
                          rw [HP4.out] at ha
                          have hmn : m < n4 := by rw [← HN4.out]; exact (List.getElem?_eq_some_iff.1 ha).1
                          obtain ⟨gO, oO, hO, hcell⟩ := (HST4.out.below HBJ.out) (by rw [HN4.out]; omega)
                          subst hO
                          have c0 := hcell m _ ha
                          rw [data_mkB] at c0
                          have m1 : decide (n4 ≤ m) = false := by rw [decide_eq_false_iff_not]; omega
                          have m2 : (m : Int) < (n4 : Int) := by omega
                          have s1 : (xn.toList == xn.toList) = true := beq_self_eq_true _
                          have s2 : (xn.toList != xn.toList) = false := bne_self_eq_false _
                          have HCN := Lib.hid hcnt
                          clear hbb hcnt ha hcell
                          go_wp2_with fail
                          go_quiet (fail)
                          go_wp2_with fail
                          go_roundw
                          case rel => exact ⟨m + 1, i + 1, by omega, by go_num, by go_num, HCN.out.symm, by omega, ⟨HBJ.out.os, HBJ.out.tape, HBJ.out.output, HBJ.out.size, HBJ.out.block⟩⟩
                          case measure => simp [intOf]; omega
              · obtain ⟨i0, hi1⟩ : ∃ i0, i = i0 + 1 := ⟨i - 1, by omega⟩
                have g0 : decide (0 < i) = true := by rw [decide_eq_true_iff]; omega
                have i02 : (i0 : Int) < (n3 : Int) := by omega
                have wi : IntKind.i64.wrap ((i : Int) - 1) = (i0 : Int) := by rw [show (i : Int) - 1 = (i0 : Int) by omega]; exact IntWalk.i64_in _ (by omega)
                obtain ⟨y, hy⟩ : ∃ y, l3[i0]? = some y := ⟨_, List.getElem?_eq_getElem (by rw [HN3.out]; omega)⟩
                have CY := Lib.hid (fun (W : World) (hb : Below w4.heap.size w4 W) => CR.out W hb i0 y hy)
                have hlt : ltB y.n.data.toList xn.data.toList = true := by
                  have h5 := List.pairwise_iff_getElem.1 HRI.out i0 i (by rw [← HL3.out, tgsX_length, HN3.out]; omega) (by rw [← HL3.out, tgsX_length, HN3.out]; omega) (by omega)
                  have e1 : PL[i0]? = some y.tg := by rw [← HL3.out, tgsX_getElem?, hy]; rfl
                  have e2 : PL[i]? = some (TX.tg ⟨xn, xA, xc, xs, xB, xb, xd⟩) := by rw [← HL3.out, tgsX_getElem?, HX.out]; rfl
                  rw [List.getElem?_eq_getElem (by rw [← HL3.out, tgsX_length, HN3.out]; omega)] at e1 e2
                  rw [Option.some.injEq] at e1 e2
                  rw [e1, e2] at h5
                  exact h5
                obtain ⟨y0, _, _⟩ := CY.out wr HBR.out
                obtain ⟨yn, yA, yc, ys, yB, yb, yd⟩ := y
                simp only at y0 hlt
                have l1 : Op.bytesLess xn.toList yn.toList = false := by rw [ByteArray.toList_eq, ByteArray.toList_eq, ltB_def]; exact ltB_asymm _ _ hlt
                have l2 : (xn.toList == yn.toList) = false := by
                  rw [beq_eq_false_iff_ne, ByteArray.toList_eq, ByteArray.toList_eq]
                  intro e
                  rw [e, ltB_irrefl] at hlt; cases hlt
                clear hi0 hy hlt hi1
                go_upto_region 11 with fail
                refine wp_region_held_drew (S := (fun w' => w'.cell? ⟨g, o + i * 3, none⟩ = some (.string xn) ∧ w'.cell? ⟨g, o + i0 * 3, none⟩ = some (.string yn))) (by kernel_rfl) ⟨d0, y0⟩ (fun hHeld => ?_)
                refine wpAnyH_take (i := 0) (v := ?vq1_0) rfl (by kernel_rfl) (by kernel_rfl) (by kernel_rfl) (fun _ _ _ h => h) (Or.inl ⟨by rfl, ?yq1_0⟩) (by assumption) ?rq1_0
                case yq1_0 =>
                  intro w hSw
                  (try dsimp only at hSw)
                  go_simp
                  first | done | with_reducible rfl
                try simp only [Act.put, List.getElem_toArray, List.getElem_cons_zero, List.setIfInBounds_toArray, List.set_cons_zero, List.set_cons_succ]
                refine wpAnyH_take (i := 1) (v := ?vq1_1) rfl (by kernel_rfl) (by kernel_rfl) (by kernel_rfl) (fun _ _ _ h => h) (Or.inl ⟨by rfl, ?yq1_1⟩) (by assumption) ?rq1_1
                case yq1_1 =>
                  intro w hSw
                  (try dsimp only at hSw)
                  go_simp
                  first | done | with_reducible rfl
                try simp only [Act.put, List.getElem_toArray, List.getElem_cons_zero, List.getElem_cons_succ, List.setIfInBounds_toArray, List.set_cons_zero, List.set_cons_succ]
                refine wpAnyH_take (i := 2) (v := ?vq1_2) rfl (by kernel_rfl) (by kernel_rfl) (by kernel_rfl) (fun _ _ _ h => h) (Or.inl ⟨by rfl, ?yq1_2⟩) (by assumption) ?rq1_2
                case yq1_2 =>
                  intro w hSw
                  (try dsimp only at hSw)
                  go_simp
                  first | done | with_reducible rfl
                try simp only [Act.put, List.getElem_toArray, List.getElem_cons_zero, List.getElem_cons_succ, List.setIfInBounds_toArray, List.set_cons_zero, List.set_cons_succ]
                refine wpAnyH_take (i := 3) (v := ?vq1_3) rfl (by kernel_rfl) (by kernel_rfl) (by kernel_rfl) (fun _ _ _ h => h) (Or.inl ⟨by rfl, ?yq1_3⟩) (by assumption) ?rq1_3
                case yq1_3 =>
                  intro w hSw
                  (try dsimp only at hSw)
                  go_simp
                  first | done | with_reducible rfl
                try simp only [Act.put, List.getElem_toArray, List.getElem_cons_zero, List.getElem_cons_succ, List.setIfInBounds_toArray, List.set_cons_zero, List.set_cons_succ]
                refine wpAnyH_take (i := 4) (v := ?vq1_4) rfl (by kernel_rfl) (by kernel_rfl) (by kernel_rfl) (fun _ _ _ h => h) (Or.inl ⟨by rfl, ?yq1_4⟩) (by assumption) ?rq1_4
                case yq1_4 =>
                  intro w hSw
                  (try dsimp only at hSw)
                  go_simp
                  first | done | with_reducible rfl
                try simp only [Act.put, List.getElem_toArray, List.getElem_cons_zero, List.getElem_cons_succ, List.setIfInBounds_toArray, List.set_cons_zero, List.set_cons_succ]
                refine wpAnyH_take (i := 5) (v := ?vq1_5) rfl (by kernel_rfl) (by kernel_rfl) (by kernel_rfl) (fun _ _ _ h => h) (Or.inl ⟨by rfl, ?yq1_5⟩) (by assumption) ?rq1_5
                case yq1_5 =>
                  intro w hSw
                  (try dsimp only at hSw)
                  go_simp
                  first | done | with_reducible rfl
                try simp only [Act.put, List.getElem_toArray, List.getElem_cons_zero, List.getElem_cons_succ, List.setIfInBounds_toArray, List.set_cons_zero, List.set_cons_succ]
                refine wpAnyH_take (i := 6) (v := ?vq1_6) rfl (by kernel_rfl) (by kernel_rfl) (by kernel_rfl) (fun _ _ _ h => h) (Or.inl ⟨by rfl, ?yq1_6⟩) (by assumption) ?rq1_6
                case yq1_6 =>
                  intro w hSw
                  (try dsimp only at hSw)
                  go_simp
                  first | done | with_reducible rfl
                try simp only [Act.put, List.getElem_toArray, List.getElem_cons_zero, List.getElem_cons_succ, List.setIfInBounds_toArray, List.set_cons_zero, List.set_cons_succ]
                refine wpAnyH_take (i := 7) (v := ?vq1_7) rfl (by kernel_rfl) (by kernel_rfl) (by kernel_rfl) (fun _ _ _ h => h) (Or.inl ⟨by rfl, ?yq1_7⟩) (by assumption) ?rq1_7
                case yq1_7 =>
                  intro w hSw
                  (try dsimp only at hSw)
                  go_simp
                  first | done | with_reducible rfl
                try simp only [Act.put, List.getElem_toArray, List.getElem_cons_zero, List.getElem_cons_succ, List.setIfInBounds_toArray, List.set_cons_zero, List.set_cons_succ]
                refine wpAnyH_take (i := 8) (v := ?vq1_8) rfl (by kernel_rfl) (by kernel_rfl) (by kernel_rfl) (fun _ _ _ h => h) (Or.inl ⟨by rfl, ?yq1_8⟩) (by assumption) ?rq1_8
                case yq1_8 =>
                  intro w hSw
                  (try dsimp only at hSw)
                  go_simp
                  first | done | with_reducible rfl
                try simp only [Act.put, List.getElem_toArray, List.getElem_cons_zero, List.getElem_cons_succ, List.setIfInBounds_toArray, List.set_cons_zero, List.set_cons_succ]
                refine wpAnyH_take (i := 9) (v := ?vq1_9) rfl (by kernel_rfl) (by kernel_rfl) (by kernel_rfl) (fun _ _ _ h => h) (Or.inl ⟨by rfl, ?yq1_9⟩) (by assumption) ?rq1_9
                case yq1_9 =>
                  intro w hSw
                  (try dsimp only at hSw)
                  go_simp
                  first | done | with_reducible rfl
                try simp only [Act.put, List.getElem_toArray, List.getElem_cons_zero, List.getElem_cons_succ, List.setIfInBounds_toArray, List.set_cons_zero, List.set_cons_succ]
                refine wpAnyH_take (i := 10) (v := ?vq1_10) rfl (by kernel_rfl) (by kernel_rfl) (by kernel_rfl) (fun _ _ _ h => h) (Or.inl ⟨by rfl, ?yq1_10⟩) (by assumption) ?rq1_10
                case yq1_10 =>
                  intro w hSw
                  (try dsimp only at hSw)
                  go_simp
                  first | done | with_reducible rfl
                try simp only [Act.put, List.getElem_toArray, List.getElem_cons_zero, List.getElem_cons_succ, List.setIfInBounds_toArray, List.set_cons_zero, List.set_cons_succ]
                refine wpAnyH_take (i := 11) (v := ?vq1_11) rfl (by kernel_rfl) (by kernel_rfl) (by kernel_rfl) (fun _ _ _ h => h) (Or.inl ⟨by rfl, ?yq1_11⟩) (by assumption) ?rq1_11
                case yq1_11 =>
                  intro w hSw
                  (try dsimp only at hSw)
                  go_simp
                  first | done | with_reducible rfl
                try simp only [Act.put, List.getElem_toArray, List.getElem_cons_zero, List.getElem_cons_succ, List.setIfInBounds_toArray, List.set_cons_zero, List.set_cons_succ]
                refine wpAnyH_take (i := 12) (v := ?vq1_12) rfl (by kernel_rfl) (by kernel_rfl) (by kernel_rfl) (fun _ _ _ h => h) (Or.inl ⟨by rfl, ?yq1_12⟩) (by assumption) ?rq1_12
                case yq1_12 =>
                  intro w hSw
                  (try dsimp only at hSw)
                  go_simp
                  first | done | with_reducible rfl
                try simp only [Act.put, List.getElem_toArray, List.getElem_cons_zero, List.getElem_cons_succ, List.setIfInBounds_toArray, List.set_cons_zero, List.set_cons_succ]
                refine wpAnyH_take (i := 13) (v := ?vq1_13) rfl (by kernel_rfl) (by kernel_rfl) (by kernel_rfl) (fun _ _ _ h => h) (Or.inl ⟨by rfl, ?yq1_13⟩) (by assumption) ?rq1_13
                case yq1_13 =>
                  intro w hSw
                  (try dsimp only at hSw)
                  go_simp
                  first | done | with_reducible rfl
                try simp only [Act.put, List.getElem_toArray, List.getElem_cons_zero, List.getElem_cons_succ, List.setIfInBounds_toArray, List.set_cons_zero, List.set_cons_succ]
                refine wpAnyH_take (i := 14) (v := ?vq1_14) rfl (by kernel_rfl) (by kernel_rfl) (by kernel_rfl) (fun _ _ _ h => h) (Or.inl ⟨by rfl, ?yq1_14⟩) (by assumption) ?rq1_14
                case yq1_14 =>
                  intro w hSw
                  (try dsimp only at hSw)
                  go_simp
                  first | done | with_reducible rfl
                try simp only [Act.put, List.getElem_toArray, List.getElem_cons_zero, List.getElem_cons_succ, List.setIfInBounds_toArray, List.set_cons_zero, List.set_cons_succ]
                refine wpAnyH_take (i := 15) (v := ?vq1_15) rfl (by kernel_rfl) (by kernel_rfl) (by kernel_rfl) (fun _ _ _ h => h) (Or.inl ⟨by rfl, ?yq1_15⟩) (by assumption) ?rq1_15
                case yq1_15 =>
                  intro w hSw
                  (try dsimp only at hSw)
                  go_simp
                  first | done | with_reducible rfl
                try simp only [Act.put, List.getElem_toArray, List.getElem_cons_zero, List.getElem_cons_succ, List.setIfInBounds_toArray, List.set_cons_zero, List.set_cons_succ]
                refine wpAnyH_take (i := 16) (v := ?vq1_16) rfl (by kernel_rfl) (by kernel_rfl) (by kernel_rfl) (fun _ _ _ h => h) (Or.inl ⟨by rfl, ?yq1_16⟩) (by assumption) ?rq1_16
                case yq1_16 =>
                  intro w hSw
                  (try dsimp only at hSw)
                  go_simp
                  first | done | with_reducible rfl
                try simp only [Act.put, List.getElem_toArray, List.getElem_cons_zero, List.getElem_cons_succ, List.setIfInBounds_toArray, List.set_cons_zero, List.set_cons_succ]
                refine wpAnyH_take (i := 17) (v := ?vq1_17) rfl (by kernel_rfl) (by kernel_rfl) (by kernel_rfl) (fun _ _ _ h => h) (Or.inl ⟨by rfl, ?yq1_17⟩) (by assumption) ?rq1_17
                case yq1_17 =>
                  intro w hSw
                  (try dsimp only at hSw)
                  go_simp
                  first | done | with_reducible rfl
                try simp only [Act.put, List.getElem_toArray, List.getElem_cons_zero, List.getElem_cons_succ, List.setIfInBounds_toArray, List.set_cons_zero, List.set_cons_succ]
                refine wpAnyH_take (i := 18) (v := ?vq1_18) rfl (by kernel_rfl) (by kernel_rfl) (by kernel_rfl) (fun _ _ _ h => h) (Or.inl ⟨by rfl, ?yq1_18⟩) (by assumption) ?rq1_18
                case yq1_18 =>
                  intro w hSw
                  (try dsimp only at hSw)
                  go_simp
                  first | done | with_reducible rfl
                try simp only [Act.put, List.getElem_toArray, List.getElem_cons_zero, List.getElem_cons_succ, List.setIfInBounds_toArray, List.set_cons_zero, List.set_cons_succ]
                refine wpAnyH_take (i := 19) (v := ?vq1_19) rfl (by kernel_rfl) (by kernel_rfl) (by kernel_rfl) (fun _ _ _ h => h) (Or.inl ⟨by rfl, ?yq1_19⟩) (by assumption) ?rq1_19
                case yq1_19 =>
                  intro w hSw
                  (try dsimp only at hSw)
                  go_simp
                  first | done | with_reducible rfl
                try simp only [Act.put, List.getElem_toArray, List.getElem_cons_zero, List.getElem_cons_succ, List.setIfInBounds_toArray, List.set_cons_zero, List.set_cons_succ]
                refine wpAnyH_take (i := 20) (v := ?vq1_20) rfl (by kernel_rfl) (by kernel_rfl) (by kernel_rfl) (fun _ _ _ h => h) (Or.inl ⟨by rfl, ?yq1_20⟩) (by assumption) ?rq1_20
                case yq1_20 =>
                  intro w hSw
                  (try dsimp only at hSw)
                  go_simp
                  first | done | with_reducible rfl
                try simp only [Act.put, List.getElem_toArray, List.getElem_cons_zero, List.getElem_cons_succ, List.setIfInBounds_toArray, List.set_cons_zero, List.set_cons_succ]
                refine wpAnyH_take (i := 21) (v := ?vq1_21) rfl (by kernel_rfl) (by kernel_rfl) (by kernel_rfl) (fun _ _ _ h => h) (Or.inl ⟨by rfl, ?yq1_21⟩) (by assumption) ?rq1_21
                case yq1_21 =>
                  intro w hSw
                  (try dsimp only at hSw)
                  go_simp
                  first | done | with_reducible rfl
                try simp only [Act.put, List.getElem_toArray, List.getElem_cons_zero, List.getElem_cons_succ, List.setIfInBounds_toArray, List.set_cons_zero, List.set_cons_succ]
                refine wpAnyH_take (i := 22) (v := ?vq1_22) rfl (by kernel_rfl) (by kernel_rfl) (by kernel_rfl) (fun _ _ _ h => h) (Or.inl ⟨by rfl, ?yq1_22⟩) (by assumption) ?rq1_22
                case yq1_22 =>
                  intro w hSw
                  (try dsimp only at hSw)
                  go_simp
                  first | done | with_reducible rfl
                try simp only [Act.put, List.getElem_toArray, List.getElem_cons_zero, List.getElem_cons_succ, List.setIfInBounds_toArray, List.set_cons_zero, List.set_cons_succ]
                refine wpAnyH_take (i := 24) (v := ?vq1_24) rfl (by kernel_rfl) (by kernel_rfl) (by kernel_rfl) (fun _ _ _ h => h) (Or.inl ⟨by rfl, ?yq1_24⟩) (by assumption) ?rq1_24
                case yq1_24 =>
                  intro w hSw
                  (try dsimp only at hSw)
                  go_simp
                  first | done | with_reducible rfl
                try simp only [Act.put, List.getElem_toArray, List.getElem_cons_zero, List.getElem_cons_succ, List.setIfInBounds_toArray, List.set_cons_zero, List.set_cons_succ]
                refine wpAnyH_ready (rs := [23]) (by kernel_rfl) (by simp) ?_
                refine AllReadyH.cons rfl (fun K hK => ?_) AllReadyH.nil
                go_simp
                refine (HPL.out wr.drew (HBR.out.drew)).mono ?_
                rintro e w5 ⟨rfl, hb5'⟩
                have HB5 := Lib.hid (HBR.out.drew.trans (hb5'.mono HBR.out.drew.size))
                clear hb5'
                refine hK.out _ _ ⟨(CX.out w5 HB5.out).1, (CY.out w5 HB5.out).1⟩ (fun hHeld => ?_)
                clear hK K
                try simp only [Act.put, List.getElem_toArray, List.getElem_cons_zero, List.getElem_cons_succ, List.setIfInBounds_toArray, List.set_cons_zero, List.set_cons_succ]
                refine wpAnyH_take (i := 25) (v := ?vq1_25) rfl (by kernel_rfl) (by kernel_rfl) (by kernel_rfl) (fun _ _ _ h => h) (Or.inl ⟨by rfl, ?yq1_25⟩) (by assumption) ?rq1_25
                case yq1_25 =>
                  intro w hSw
                  (try dsimp only at hSw)
                  go_simp
                  first | done | with_reducible rfl
                try simp only [Act.put, List.getElem_toArray, List.getElem_cons_zero, List.getElem_cons_succ, List.setIfInBounds_toArray, List.set_cons_zero, List.set_cons_succ]
                refine wpAnyH_take (i := 26) (v := ?vq1_26) rfl (by kernel_rfl) (by kernel_rfl) (by kernel_rfl) (fun _ _ _ h => h) (Or.inl ⟨by rfl, ?yq1_26⟩) (by assumption) ?rq1_26
                case yq1_26 =>
                  intro w hSw
                  (try dsimp only at hSw)
                  go_simp
                  first | done | with_reducible rfl
                try simp only [Act.put, List.getElem_toArray, List.getElem_cons_zero, List.getElem_cons_succ, List.setIfInBounds_toArray, List.set_cons_zero, List.set_cons_succ]
                refine wpAnyH_done (by kernel_rfl) ?_ _
                clear hHeld
                clear l1 l2 y0 g0 wi i02
                clear d0 d1 d2
                go_wp2_with fail
                go_loopw [10] (fun v10 wr => ∃ j : Nat, j ≤ nd ∧ v10 = .int .i64 j ∧ Below w4.heap.size w4 wr) (fun v10 _ => nd - (intOf v10).toNat)
                case atStart => exact ⟨0, Nat.zero_le _, rfl, HB5.out⟩
                case round =>
                  obtain ⟨j, hj, rfl, hbj⟩ := hrel
                  have HBJ := Lib.hid hbj
                  clear hbj
                  obtain ⟨d0, d1, d2⟩ := CX.out wr HBJ.out
                  try simp only at d0 d1 d2
                  rw [HNS.out] at d1
                  rw [HND.out] at d2
                  by_cases hj1 : j < nd
                  · have j1 : (j : Int) < (nd : Int) := by omega
                    obtain ⟨d, hd⟩ : ∃ d, xd[j]? = some d := ⟨_, List.getElem?_eq_getElem (by rw [HND.out]; exact hj1)⟩
                    obtain ⟨gB, oB, hB, hcell⟩ := (HXO.out.below HBJ.out).d (by show 0 < xd.length; rw [HND.out]; omega)
                    simp only at hB
                    subst hB
                    have c0 := hcell j d hd
                    obtain ⟨qq, hqq⟩ : ∃ q, mkB d = q := ⟨_, rfl⟩
                    rw [hqq] at c0
                    have hz0 : 0 ≤ placeT (tgsX l3) qq.data.toList := by rw [← hqq, mkB_data]; exact HDX.out d (List.mem_of_getElem? hd)
                    have HPC := HDP.out wr HBJ.out qq
                    obtain ⟨pp, hpp⟩ : ∃ p, placeT (tgsX l3) qq.data.toList = p := ⟨_, rfl⟩
                    rw [hpp] at hz0 HPC
                    have HPC := Lib.hid HPC
                    have z2 : ¬ pp < 0 := by omega
                    clear hcell hd hqq hpp
                    go_wp2_with fail
                    refine HPC.out.mono ?_
                    rintro e w6 ⟨rfl, hb6⟩
                    have HB6 := Lib.hid (HBJ.out.trans (hb6.mono HBJ.out.size))
                    clear hb6 HPC c0
                    go_wp2_with fail
                    go_roundw
                    case rel => exact ⟨j + 1, by omega, by go_num, HB6.out⟩
                    case measure => simp [intOf]; omega
                  · obtain rfl : j = nd := by omega
                    obtain ⟨wc, hwc⟩ : ∃ wc, wc = wr := ⟨_, rfl⟩
                    subst hwc
                    clear hj1
                    go_wp2_with fail
                    go_loop [11, 12] (fun v11 v12 => ∃ j2 : Nat, j2 ≤ ns ∧ v12 = .int .i64 j2 ∧ v11 = .bool ((xs.take j2).contains s.data.toList)) (fun _ v12 => ns - (intOf v12).toNat)
                    case atStart => exact ⟨0, Nat.zero_le _, rfl, rfl⟩
                    case round =>
                      obtain ⟨j2, hj2, rfl, rfl⟩ := hrel
                      by_cases hjs : j2 < ns
                      · have j1 : (j2 : Int) < (ns : Int) := by omega
                        obtain ⟨p, hp⟩ : ∃ p, xs[j2]? = some p := ⟨_, List.getElem?_eq_getElem (by rw [HNS.out]; exact hjs)⟩
                        obtain ⟨gS, oS, hS, hcell⟩ := (HXO.out.below HBJ.out).s (by show 0 < xs.length; rw [HNS.out]; omega)
                        simp only at hS
                        subst hS
                        have c0 := hcell j2 p hp
                        have htk : (xs.take (j2 + 1)).contains s.data.toList = ((xs.take j2).contains s.data.toList || s.data.toList == p) := by
                          rw [List.take_add_one, hp, Option.toList_some]
                          rw [Bool.eq_iff_iff]
                          simp
                        obtain ⟨qq, hqq⟩ : ∃ q, mkB p = q := ⟨_, rfl⟩
                        rw [hqq] at c0
                        have hcm : (qq.toList == s.toList) = (s.data.toList == p) := by
                          rw [ByteArray.toList_eq, ByteArray.toList_eq, ← hqq, mkB_data, Bool.eq_iff_iff, beq_iff_eq, beq_iff_eq]
                          exact ⟨fun e => e.symm, fun e => e.symm⟩
                        obtain ⟨b2, hb2⟩ : ∃ b, (s.data.toList == p) = b := ⟨_, rfl⟩
                        rw [hb2] at hcm htk
                        obtain ⟨b1, hb1⟩ : ∃ b, (xs.take j2).contains s.data.toList = b := ⟨_, rfl⟩
                        rw [hb1] at htk ⊢
                        have HTK := Lib.hid htk
                        clear htk hqq hcell hp hb2 hb1
                        cases b1 with
                        | true =>
                          clear hcm c0
                          go_wp2_with fail
                          go_round
                          case rel => exact ⟨j2 + 1, by omega, by go_num, by rw [HTK.out]; rfl⟩
                          case measure => simp [intOf]; omega
                        | false =>
                          go_wp2_with fail
                          go_round
                          case rel => exact ⟨j2 + 1, by omega, by go_num, by rw [HTK.out]; rfl⟩
                          case measure => simp [intOf]; omega
                      · obtain rfl : j2 = ns := by omega
                        have hall : (xs.take j2).contains s.data.toList = xs.contains s.data.toList := by rw [List.take_of_length_le (by rw [HNS.out]; exact Nat.le_refl _)]
                        rw [hall]
                        clear hall hjs
                        cases hbb : xs.contains s.data.toList with
                        | false =>
                          have hcnt := HNY.out hbb
                          have HCN := Lib.hid hcnt
                          clear hbb hcnt
                          go_wp2_with fail
                          go_roundw
                          case rel => exact ⟨m, i + 1, by omega, by go_num, rfl, HM.out.trans HCN.out.symm, by omega, HBJ.out⟩
                          case measure => simp [intOf]; omega
                        | true =>
                          obtain ⟨ha, hcnt⟩ := HNX.out hbb
                          rw [← HM.out] at ha hcnt
                          rw [HP4.out] at ha
                          have hmn : m < n4 := by rw [← HN4.out]; exact (List.getElem?_eq_some_iff.1 ha).1
                          obtain ⟨gO, oO, hO, hcell⟩ := (HST4.out.below HBJ.out) (by rw [HN4.out]; omega)
                          subst hO
                          have c0 := hcell m _ ha
                          rw [data_mkB] at c0
                          have m1 : decide (n4 ≤ m) = false := by rw [decide_eq_false_iff_not]; omega
                          have m2 : (m : Int) < (n4 : Int) := by omega
                          have s1 : (xn.toList == xn.toList) = true := beq_self_eq_true _
                          have s2 : (xn.toList != xn.toList) = false := bne_self_eq_false _
                          have HCN := Lib.hid hcnt
                          clear hbb hcnt ha hcell
                          go_wp2_with fail
                          go_quiet (fail)
                          go_wp2_with fail
                          go_roundw
                          case rel => exact ⟨m + 1, i + 1, by omega, by go_num, by go_num, HCN.out.symm, by omega, ⟨HBJ.out.os, HBJ.out.tape, HBJ.out.output, HBJ.out.size, HBJ.out.block⟩⟩
                          case measure => simp [intOf]; omega
            · obtain rfl : i = n3 := by omega
              have hmf : m = n4 := by
                have := HM.out
                rw [List.take_of_length_le (by rw [tgsX_length, HN3.out]; exact Nat.le_refl _), HP4.out, HN4.out] at this
                exact this
              subst hmf
              go_wp2_with fail
              refine (HK.out wr (HB4.out.trans (HBR.out.mono HB4.out.size))).mono ?_
              rintro e y ⟨rfl, hb⟩
              have HBF := Lib.hid ((HB4.out.trans (HBR.out.mono HB4.out.size)).trans (hb.mono (HB4.out.trans (HBR.out.mono HB4.out.size)).size))
              clear hb
              go_wp2_with fail
              go_ret
              exact ⟨rfl, HBF.out⟩
        · have p1 : (PE == 0) = false := beq_eq_false_iff_ne.2 hp0
          have p2 : (PE != 0) = true := bne_iff_ne.2 hp0
          have hemp := allT_err (t := flsX t) (by rw [HPP.out]; exact hp0)
          rw [HPP.out] at hemp
          obtain rfl : n3 = 0 := by
            rw [← HN3.out, ← tgsX_length, HL3.out]
            show PL.length = 0
            rw [show PL = [] from hemp]; rfl
          clear hp0 hemp
          go_wp2_with fail
          refine (HK.out _ HB3.out).mono ?_
          rintro e y ⟨rfl, hb⟩
          go_wp2_with fail
          go_ret
          exact ⟨rfl, HB3.out.trans (hb.mono HB3.out.size)⟩
end Go.Proofs.YtlampcelmlejbaaDoor
