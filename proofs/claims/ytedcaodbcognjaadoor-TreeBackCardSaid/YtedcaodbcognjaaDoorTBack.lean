/-
  The law TreeBack, walked.
-/
import Derived.Test.YtedcaodbcognjaaDoorTRows
namespace Go.Proofs.YtedcaodbcognjaaDoor
open Go Go.RowKit Go.Shelf Go.Proofs

theorem diff_rising {a b : List FX} {l : List DX} (ra : rightT (flsX a) = true) (rb : rightT (flsX b) = true) (hl : l.map DX.dl = diffT (flsX a) (flsX b)) :
    ∀ (k : Nat) (y x : DX), l[k]? = some y → l[k + 1]? = some x → ltB y.p.data.toList x.p.data.toList = true := by
  have h := diff_rises _ _ (right_sorted ra) (right_sorted rb)
  rw [← hl] at h
  intro k y x hy hx
  have h2 := List.pairwise_iff_getElem.1 h k (k + 1)
  obtain ⟨hy1, rfl⟩ := List.getElem?_eq_some_iff.1 hy
  obtain ⟨hx1, rfl⟩ := List.getElem?_eq_some_iff.1 hx
  have h3 := h2 (by rw [List.length_map]; exact hy1) (by rw [List.length_map]; exact hx1) (Nat.lt_succ_self _)
  rw [List.getElem_map, List.getElem_map] at h3
  exact h3
theorem diff_none {a b : List FX} {l : List DX} (hl : l.map DX.dl = diffT (flsX a) (flsX b)) : (((l.length : Nat) : Int) == 0) = decide (flsX a = flsX b) := by
  by_cases h : flsX a = flsX b
  · have h0 := (diff_nil_iff (flsX a) (flsX b)).2 h
    rw [h0] at hl
    have : l = [] := List.map_eq_nil_iff.1 hl
    rw [this, decide_eq_true h]; rfl
  · have h0 : l.length ≠ 0 := fun e => h ((diff_nil_iff _ _).1 (by rw [← hl, List.eq_nil_of_length_eq_zero e]; rfl))
    rw [decide_eq_false h, beq_eq_false_iff_ne]
    omega

set_option maxRecDepth 100000 in
set_option maxHeartbeats 8000000 in
theorem back_any (a b : List FX) (A B : Option Addr) (ca cb : Nat) (w : World) (ha : TreeAt w A ca a) (hb : TreeAt w B cb b) (za : BigX a) (zb : BigX b) (hm : MaxOk w) :
    Calls Tryd.prog 4 #[.slice A a.length ca, .slice B b.length cb] w fun e w' => e = .returned (.bool true) ∧ Below w.heap.size w w' := by
  go_enter Tryd.func4, Tryd.ntmps4
  go_wp2_with fail
  refine (lawsmall_any a A ca _ (ha.below (Below.refl _ _)) za).mono ?_
  rintro e w1 ⟨rfl, hq1⟩
  have hb1 := hq1
  clear hq1
  cases sa : smallL a with
  | false =>
    clear sa
    go_wp2_with fail
    refine (lawknown_any _ (hm.below hb1)).mono ?_
    rintro e wz ⟨rfl, hz⟩
    have HZ := Lib.hid (hb1.trans (hz.mono hb1.size)); clear hz
    go_wp2_with fail
    go_ret
    exact ⟨rfl, HZ.out⟩
  | true =>
    have ta := smallL_tiny sa; clear sa
    go_wp2_with fail
    refine (lawsmall_any b B cb _ (hb.below hb1) zb).mono ?_
    rintro e w2 ⟨rfl, hq2⟩
    have hb2 := hb1.trans (hq2.mono hb1.size)
    clear hq2
    cases sb : smallL b with
    | false =>
      clear sb
      go_wp2_with fail
      refine (lawknown_any _ (hm.below hb2)).mono ?_
      rintro e wz ⟨rfl, hz⟩
      have HZ := Lib.hid (hb2.trans (hz.mono hb2.size)); clear hz
      go_wp2_with fail
      go_ret
      exact ⟨rfl, HZ.out⟩
    | true =>
      have tb := smallL_tiny sb; clear sb
      go_wp2_with fail
      refine (tright_any a A ca _ (ha.below hb2) ta.paths (hm.below hb2)).mono ?_
      rintro e w3 ⟨rfl, hq3⟩
      have hb3 := hb2.trans (hq3.mono hb2.size)
      clear hq3
      cases ra : rightT (flsX a) with
      | false =>
        clear ra
        go_wp2_with fail
        refine (lawknown_any _ (hm.below hb3)).mono ?_
        rintro e wz ⟨rfl, hz⟩
        have HZ := Lib.hid (hb3.trans (hz.mono hb3.size)); clear hz
        go_wp2_with fail
        go_ret
        exact ⟨rfl, HZ.out⟩
      | true =>
        go_wp2_with fail
        refine (tright_any b B cb _ (hb.below hb3) tb.paths (hm.below hb3)).mono ?_
        rintro e w4 ⟨rfl, hq4⟩
        have hb4 := hb3.trans (hq4.mono hb3.size)
        clear hq4
        cases rb : rightT (flsX b) with
        | false =>
          clear rb
          go_wp2_with fail
          refine (lawknown_any _ (hm.below hb4)).mono ?_
          rintro e wz ⟨rfl, hz⟩
          have HZ := Lib.hid (hb4.trans (hz.mono hb4.size)); clear hz
          go_wp2_with fail
          go_ret
          exact ⟨rfl, HZ.out⟩
        | true =>
          go_wp2_with fail
          refine (diff_any a b A B ca cb _ (ha.below hb4) (hb.below hb4) ta.paths tb.paths (hm.below hb4)).mono ?_
          rintro e w5 ⟨v1, l1, rfl, hd1, hl1, hq5⟩
          have hb5 := hb4.trans (hq5.mono hb4.size)
          have hl1 : l1.map DX.dl = diffT (flsX a) (flsX b) := by rw [hl1]; unfold diffB; rw [ra, rb]; rfl
          obtain ⟨A1, c1, rfl, hD1⟩ := hd1.dels
          obtain ⟨n1, m1⟩ := diff_small ta tb hl1
          clear hd1 hq5
          go_wp2_with fail
          have hap1 : applyT (flsX a) (l1.map DX.dl) = .ok (flsX b) := by rw [hl1]; exact apply_diff ra rb
          have HC1 := tapply_any a l1 A A1 ca c1 w5 (ha.below hb5) ta.small (by have := ta.len; omega) hD1 ⟨by omega, fun x hx => by have := m1 x hx; omega⟩ (hm.below hb5)
          rw [hap1] at HC1
          refine HC1.mono ?_
          rintro e w6 ⟨v6, t6, rfl, h6, f6, hq6⟩
          obtain ⟨A6, c6, rfl⟩ := h6.own.slice
          have hb6 := hb5.trans (hq6.mono hb5.size)
          have hD1 := hD1.below hq6
          clear HC1 hq6 hap1
          go_wp2_with fail
          refine (diff_any b a B A cb ca _ (hb.below hb6) (ha.below hb6) tb.paths ta.paths (hm.below hb6)).mono ?_
          rintro e w7 ⟨v2, l2, rfl, hd2, hl2, hq7⟩
          have hb7 := hb6.trans (hq7.mono hb6.size)
          have hl2 : l2.map DX.dl = diffT (flsX b) (flsX a) := by rw [hl2]; unfold diffB; rw [rb, ra]; rfl
          obtain ⟨A2, c2, rfl, hD2⟩ := hd2.dels
          obtain ⟨n2, m2⟩ := diff_small tb ta hl2
          have hD1 := hD1.below hq7
          have h6 := h6.below hq7
          clear hd2 hq7
          go_wp2_with fail
          have hap2 : applyT (flsX b) (l2.map DX.dl) = .ok (flsX a) := by rw [hl2]; exact apply_diff rb ra
          have HC2 := tapply_any b l2 B A2 cb c2 w7 (hb.below hb7) tb.small (by have := tb.len; omega) hD2 ⟨by omega, fun x hx => by have := m2 x hx; omega⟩ (hm.below hb7)
          rw [hap2] at HC2
          refine HC2.mono ?_
          rintro e w8 ⟨v8, t8, rfl, h8, f8, hq8⟩
          obtain ⟨A8, c8, rfl⟩ := h8.own.slice
          have hb8 := hb7.trans (hq8.mono hb7.size)
          have hD1 := hD1.below hq8
          have h6 := h6.below hq8
          have hup := diff_rising ra rb hl1
          have HL1 := Lib.hid hl1; clear hl1
          have HL2 := Lib.hid hl2; clear hl2
          have HD1 := Lib.hid hD1; clear hD1
          have HB8 := Lib.hid hb8
          have HUP := Lib.hid hup; clear hup
          have HA := Lib.hid ha; clear ha
          have HB := Lib.hid hb; clear hb
          have H6 := Lib.hid h6; clear h6
          have H8 := Lib.hid h8; clear h8
          have F6 := Lib.hid f6; clear f6
          have F8 := Lib.hid f8; clear f8
          have M1 := Lib.hid m1; clear m1
          clear HC2 hq8 hap2 hD2 m2 hb1 hb2 hb3 hb4 hb5 hb6 hb7 hb8
          go_wp2_with fail
          go_loopw [10] (fun i wr => ∃ (k : Nat), k ≤ l1.length ∧ i = .int .i64 ((k + 1 : Nat) : Int) ∧ Below w8.heap.size w8 wr) (fun i _ => l1.length + 1 - (intOf i).toNat)
          case atStart => exact ⟨0, Nat.zero_le _, rfl, Below.refl _ _⟩
          case round =>
            obtain ⟨k, hk, rfl, hbr⟩ := hrel
            by_cases hlt : k + 1 < l1.length
            · obtain ⟨x, hx⟩ : ∃ x, l1[k + 1]? = some x := ⟨_, List.getElem?_eq_getElem hlt⟩
              obtain ⟨y, hy⟩ : ∃ y, l1[k]? = some y := ⟨_, List.getElem?_eq_getElem (by omega)⟩
              obtain ⟨g, o, hA1, hr⟩ := (HD1.out.below hbr).row (by omega)
              subst hA1
              obtain ⟨_, c2, _⟩ := hr (k + 1) x hx
              obtain ⟨_, d2, _⟩ := hr k y hy
              have hq1 : Op.bytesLess x.p.toList y.p.toList = false := by rw [ByteArray.toList_eq, ByteArray.toList_eq]; exact ltB_asymm _ _ (HUP.out k y x hy hx)
              have hq2 : (x.p.toList == y.p.toList) = false := by rw [ByteArray.toList_eq, ByteArray.toList_eq, beq_eq_false_iff_ne]; exact (ltB_ne _ _ (HUP.out k y x hy hx)).symm
              have k1 : ((k + 1 : Nat) : Int) < (l1.length : Int) := by omega
              have k2 : (k : Int) < (l1.length : Int) := by omega
              have e1 : IntKind.i64.wrap (((k + 1 : Nat) : Int) - 1) = (k : Int) := by rw [IntWalk.i64_in _ (by omega)]; omega
              have e2 : IntKind.i64.wrap ((k + 1 : Nat) : Int) = ((k + 1 : Nat) : Int) := IntWalk.i64_in _ (by omega)
              clear hr hx hy
              go_wp2_with fail
              go_region
              go_wp2_with fail
              case roundEnd => exact ⟨⟨k + 1, by omega, by go_num, hbr.drew⟩, by simp [intOf]; omega⟩
            · have hbw := HB8.out.trans (hbr.mono HB8.out.size)
              have t6s := TinyX.of_fls F6.out tb
              have t8s := TinyX.of_fls F8.out ta
              have HS1 := same_any t6 b A6 B c6 cb wr (by have := t6s.len; omega) (by have := tb.len; omega) (H6.out.below hbr).tree.2 (HB.out.below hbw)
              rw [decide_eq_true F6.out] at HS1
              have hge : ¬ (((k + 1 : Nat) : Int) < (l1.length : Int)) := by omega
              go_wp2_with fail
              refine HS1.mono ?_
              rintro e w9 ⟨rfl, hq9⟩
              have hb9 := hbw.trans (hq9.mono hbw.size)
              have HS2 := same_any t8 a A8 A c8 ca w9 (by have := t8s.len; omega) (by have := ta.len; omega) ((H8.out.below hbr).below hq9).tree.2 (HA.out.below hb9)
              rw [decide_eq_true F8.out] at HS2
              clear HS1 hq9
              go_wp2_with fail
              refine HS2.mono ?_
              rintro e w10 ⟨rfl, hq10⟩
              have hb10 := hb9.trans (hq10.mono hb9.size)
              have HS3 := same_any a b A B ca cb w10 (by have := ta.len; omega) (by have := tb.len; omega) (HA.out.below hb10) (HB.out.below hb10)
              have hdn := diff_none HL1.out
              clear HS2 hq10
              cases hE : decide (flsX a = flsX b) with
              | false =>
                rw [hE] at HS3 hdn
                go_wp2_with fail
                refine HS3.mono ?_
                rintro e w11 ⟨rfl, hq11⟩
                have hb11 := hb10.trans (hq11.mono hb10.size)
                go_wp2_with fail
                refine (lawknown_any _ (hm.below hb11)).mono ?_
                rintro e wz ⟨rfl, hz⟩
                have HZ := Lib.hid (hb11.trans (hz.mono hb11.size)); clear hz
                go_wp2_with fail
                go_ret
                exact ⟨rfl, HZ.out⟩
              | true =>
                rw [hE] at HS3 hdn
                go_wp2_with fail
                refine HS3.mono ?_
                rintro e w11 ⟨rfl, hq11⟩
                have hb11 := hb10.trans (hq11.mono hb10.size)
                go_wp2_with fail
                refine (lawknown_any _ (hm.below hb11)).mono ?_
                rintro e wz ⟨rfl, hz⟩
                have HZ := Lib.hid (hb11.trans (hz.mono hb11.size)); clear hz
                go_wp2_with fail
                go_ret
                exact ⟨rfl, HZ.out⟩
end Go.Proofs.YtedcaodbcognjaaDoor
