/-
  The law FrameBack, walked.
-/
import Derived.Test.YthmhofmkiliihaaFrKnown
namespace Go.Proofs.Ythmhofmkiliihaa
open Go Go.RowKit Go.Shelf Go.Proofs

theorem next_nothing : nextF [] = none := next_short (by simp)
theorem lenF_le_take {L : List Bs} {j : Nat} {x : Bs} (hx : L[j]? = some x) : lenF (L.take (j + 1)) = lenF (L.take j) + (8 + x.length) := by
  rw [List.take_add_one, hx]
  exact lenF_snoc _ _
/-- Cut short anywhere the frames that are whole are there. -/
theorem cut_all {L : List Bs} {j k : Nat} (hL : ∀ x ∈ L, x.length ≤ 65536) (hj : lenF (L.take j) ≤ k) (he : L.length ≤ j ∨ ∃ x, L[j]? = some x ∧ k < lenF (L.take j) + (8 + x.length)) : allB ((joinF L).take k) = L.take j := by
  have e1 : joinF L = joinF (L.take j) ++ joinF (L.drop j) := by rw [← join_append, List.take_append_drop]
  have e2 : (joinF L).take k = joinF (L.take j) ++ (joinF (L.drop j)).take (k - lenF (L.take j)) := by
    rw [e1, List.take_append, List.take_of_length_le (show (joinF (L.take j)).length ≤ k from hj)]
    rfl
  rw [e2]
  refine all_join _ _ (fun x hx => hL x (List.mem_of_mem_take hx)) ?_
  rcases he with he | ⟨x, hx, hk⟩
  · rw [List.drop_of_length_le he, join_nil, List.take_nil]
    exact next_nothing
  · obtain ⟨hjl, hx2⟩ := List.getElem?_eq_some_iff.1 hx
    rw [List.drop_eq_getElem_cons hjl, hx2, join_cons]
    exact next_cut (hL x (List.mem_of_getElem? hx)) (by omega)
theorem BRowAt.front {w : World} {A : Option Addr} {c : Nat} {l : List BX} (h : BRowAt w A c l) (j : Nat) : BRowAt w A c (l.take j) := by
  refine ⟨Nat.le_trans (List.length_take_le' j l) h.cap, h.capm, fun hn => ?_, fun x hx => h.bytes x (List.mem_of_mem_take hx), fun x hx => h.caps x (List.mem_of_mem_take hx)⟩
  rw [List.length_take] at hn
  obtain ⟨g, o, e, hr⟩ := h.row (by omega)
  refine ⟨g, o, e, fun i x hx => hr i x ?_⟩
  have h1 := (List.getElem?_eq_some_iff.1 hx).1
  rw [List.length_take] at h1
  rwa [List.getElem?_take_of_lt (by omega)] at hx

set_option maxHeartbeats 8000000 in
theorem frameback_any (A C : Option Addr) (ca cc : Nat) (l : List BX) (t : Nat) (ht : t < 65536) (a : Bs) (w : World) (hr : BRowAt w C cc l) (hnil : ∀ x ∈ l, x.A = none → x.c = 0) (ha : SlAt w A ca a) (hal : a.length ≤ 9223372036854775807) (hsm : l.length ≤ 20 → longBN l ≤ 9223372036854775807) :
    Calls Try.prog 4 #[.slice C l.length cc, .int .u16 t, .slice A a.length ca] w fun e w' => e = .returned (.bool true) ∧ Below w.heap.size w w' := by
  have HKN := Lib.hid (fun W => known_any W)
  by_cases hl : l.length ≤ 20
  case neg =>
    have q0 : ((20 : Int) < (l.length : Int)) = True := eq_true (by omega)
    clear hr hnil ha hsm
    go_enter Try.func4, Try.ntmps4
    go_wp2_with fail
    refine (HKN.out w).mono ?_
    rintro e w1 ⟨rfl, hb⟩
    go_wp2_with fail
    go_ret
    exact ⟨rfl, hb⟩
  have q0 : ((20 : Int) < (l.length : Int)) = False := eq_false (by omega)
  have H0 := Lib.hid (long_any l C cc w hr (hsm hl))
  by_cases hl2 : longBN l ≤ 1500
  case neg =>
    have q1 : ((1500 : Int) < (longBN l : Int)) = True := eq_true (by omega)
    clear hr hnil ha hsm
    go_enter Try.func4, Try.ntmps4
    go_wp2_with fail
    refine H0.out.mono ?_
    clear H0
    rintro e W1 ⟨rfl, hb1⟩
    go_wp2_with fail
    refine (HKN.out W1).mono ?_
    rintro e w1 ⟨rfl, hb⟩
    go_wp2_with fail
    go_ret
    exact ⟨rfl, hb1.trans (hb.mono hb1.size)⟩
  have q1 : ((1500 : Int) < (longBN l : Int)) = False := eq_false (by omega)
  by_cases hl3 : a.length ≤ 7
  case neg =>
    have q2 : ((7 : Int) < (a.length : Int)) = True := eq_true (by omega)
    clear hr hnil ha hsm
    go_enter Try.func4, Try.ntmps4
    go_wp2_with fail
    refine H0.out.mono ?_
    clear H0
    rintro e W1 ⟨rfl, hb1⟩
    go_wp2_with fail
    refine (HKN.out W1).mono ?_
    rintro e w1 ⟨rfl, hb⟩
    go_wp2_with fail
    go_ret
    exact ⟨rfl, hb1.trans (hb.mono hb1.size)⟩
  have q2 : ((7 : Int) < (a.length : Int)) = False := eq_false (by omega)
  have hLs : ∀ x ∈ l.map BX.b, x.length ≤ 65536 := fun x hx => by obtain ⟨y, hy, rfl⟩ := List.mem_map.1 hx; have := longBN_mem hy; omega
  have hlf := lenF_long l
  have hall : allB (joinF (l.map BX.b)) = l.map BX.b := by
    have := all_join (l.map BX.b) [] hLs next_nothing
    rwa [List.append_nil] at this
  have hall2 : allB (joinF (l.map BX.b) ++ a) = l.map BX.b := all_join (l.map BX.b) a hLs (next_short (by omega))
  have hjl : (joinF (l.map BX.b)).length = lenF (l.map BX.b) := rfl
  obtain ⟨k, hk⟩ : ∃ k, t % (lenF (l.map BX.b) + 1) = k := ⟨_, rfl⟩
  have hkl : k ≤ lenF (l.map BX.b) := by have := Nat.mod_lt t (show 0 < lenF (l.map BX.b) + 1 by omega); omega
  have hcut := fun j => cut_all (L := l.map BX.b) (j := j) (k := k) hLs
  have HA := Lib.hid ha
  have HR := Lib.hid hr
  have HALL := Lib.hid hall
  have HALL2 := Lib.hid hall2
  have HCUT := Lib.hid hcut
  have HJ := Lib.hid (fun (W : World) (hW : Below w.heap.size w W) => join_any l C cc W (hr.below hW) hnil (fun x hx => by have := longBN_mem hx; omega) (by omega))
  obtain ⟨J, hJ⟩ : ∃ J, joinF (l.map BX.b) = J := ⟨_, rfl⟩
  rw [hJ] at HALL HALL2 HCUT HJ hjl
  have ek : (t : Int) % ((lenF (l.map BX.b) : Int) + 1) = (k : Int) := by rw [← hk, Int.natCast_emod, Int.natCast_add]; rfl
  have wt : IntKind.i64.wrap (t : Int) = (t : Int) := IntWalk.i64_in _ (by omega)
  have wl : IntKind.i64.wrap ((lenF (l.map BX.b) : Int) + 1) = (lenF (l.map BX.b) : Int) + 1 := IntWalk.i64_in _ (by omega)
  clear ha hr hall hall2 hcut hnil hsm hJ hLs hk
  obtain ⟨T, hT⟩ : ∃ T, lenF (l.map BX.b) = T := ⟨_, rfl⟩
  rw [hT] at ek wl hjl hkl hlf
  have HT := Lib.hid hT
  clear hT
  go_enter Try.func4, Try.ntmps4
  go_wp2_with fail
  refine H0.out.mono ?_
  clear H0
  rintro e W1 ⟨rfl, hb1⟩
  have H1 := Lib.hid (HJ.out W1 hb1)
  clear HJ
  go_wp2_with fail
  refine H1.out.mono ?_
  clear H1
  rintro e W2 ⟨v2, rfl, ho2, hb2⟩
  have hb02 := hb1.trans (hb2.mono hb1.size)
  obtain ⟨A2, c2, rfl, hs2, _⟩ := ho2.sl
  have H2 := Lib.hid (all_any A2 c2 J W2 hs2 (by omega))
  have S2 := Lib.hid hs2
  have HB02 := Lib.hid hb02
  rw [hjl] at H2 ⊢
  clear ho2 hb1 hb2 hb02 hs2
  go_wp2_with fail
  refine H2.out.mono ?_
  clear H2
  rintro e W3 ⟨v3, rows3, rfl, hR3, hv3, hb3⟩
  rw [HALL.out] at hv3 ⊢
  rw [HT.out]
  have hb03 := HB02.out.trans (hb3.mono HB02.out.size)
  obtain ⟨A3, c3, rfl, hr3⟩ := hR3.slice
  have H3 := Lib.hid (samelists_any l rows3 C A3 cc c3 W3 (HR.out.below hb03) hr3)
  rw [decide_eq_true hv3.symm] at H3
  have S2 := Lib.hid (S2.out.below hb3)
  have HB03 := Lib.hid hb03
  clear hb3 hb03 hR3 hr3 hv3 HB02
  go_wp2_with fail
  refine H3.out.mono ?_
  clear H3
  rintro e W4 ⟨rfl, hb4⟩
  have hb04 := HB03.out.trans (hb4.mono HB03.out.size)
  have S2 := Lib.hid (S2.out.below hb4)
  have HR4 := Lib.hid (HR.out.below hb04)
  have HB04 := Lib.hid hb04
  clear hb4 hb04 HB03
  go_wp2_with fail
  go_loopw [12, 13, 14] (fun v1 v2 v3 wr => ∃ (j : Nat), j ≤ l.length ∧ v1 = .int .i64 j ∧ v2 = .int .i64 (lenF ((l.map BX.b).take j) : Nat) ∧ v3 = .int .i64 j ∧ Hid (lenF ((l.map BX.b).take j) ≤ k) ∧ wr = W4) (fun _ _ i _ => l.length - (intOf i).toNat)
  case atStart => exact ⟨0, Nat.zero_le _, rfl, rfl, rfl, Nat.zero_le _, by trivial⟩
  case round =>
    obtain ⟨j, hj, rfl, rfl, rfl, hle, hw⟩ := hrel
    have hw := hw.symm
    subst hw
    have hstep : (∃ x, l[j]? = some x ∧ lenF ((l.map BX.b).take j) + 8 + x.b.length ≤ k) ∨ ((l.length ≤ j ∨ ∃ x, l[j]? = some x ∧ ¬ lenF ((l.map BX.b).take j) + 8 + x.b.length ≤ k)) := by
      by_cases h1 : j < l.length
      · by_cases h2 : lenF ((l.map BX.b).take j) + 8 + (l[j]).b.length ≤ k
        · exact .inl ⟨_, List.getElem?_eq_getElem h1, h2⟩
        · exact .inr (.inr ⟨_, List.getElem?_eq_getElem h1, h2⟩)
      · exact .inr (.inl (by omega))
    rcases hstep with ⟨x, hx, h2⟩ | hend
    · obtain ⟨h1, _⟩ := List.getElem?_eq_some_iff.1 hx
      obtain ⟨g, o, rfl, hr⟩ := HR4.out.row (by omega)
      have c1 := hr j x hx
      have k1 : (j : Int) < (l.length : Int) := by omega
      have hn : lenF ((l.map BX.b).take (j + 1)) = lenF ((l.map BX.b).take j) + (8 + x.b.length) := lenF_le_take (by rw [List.getElem?_map, hx]; rfl)
      have HN := Lib.hid hn
      obtain ⟨E, hE⟩ : ∃ E, lenF ((l.map BX.b).take j) = E := ⟨_, rfl⟩
      rw [hE] at h2 HN hle ⊢
      have w1 : IntKind.i64.wrap ((E : Int) + 8) = (E : Int) + 8 := IntWalk.i64_in _ (by omega)
      have w2 : IntKind.i64.wrap ((E : Int) + 8 + (x.b.length : Int)) = (E : Int) + 8 + (x.b.length : Int) := IntWalk.i64_in _ (by omega)
      have k2 : (E : Int) + 8 + (x.b.length : Int) ≤ (k : Int) := by omega
      clear hr hx hn hE
      go_wp2_with fail
      go_roundw
      case rel => exact ⟨j + 1, by omega, by go_num, by rw [HN.out]; go_num, by go_num, by show _ ≤ _; rw [HN.out]; omega, by trivial⟩
      case measure => simp [intOf]; omega
    · have hcut2 : allB (J.take k) = (l.map BX.b).take j := HCUT.out j hle.out (by
        rcases hend with h | ⟨x, hx, h⟩
        · exact .inl (by rw [List.length_map]; exact h)
        · exact .inr ⟨x.b, by rw [List.getElem?_map, hx]; rfl, by omega⟩)
      have HO := Lib.hid hcut2
      have tk : (J.take k).length = k := by rw [List.length_take]; omega
      have H4 := Lib.hid (all_any A2 c2 (J.take k) W4 ⟨S2.out.bytes.front k, by rw [tk]; have := S2.out.cap; omega, S2.out.capm, S2.out.nil⟩ (by omega))
      rw [tk] at H4
      have hA2 : (if c2 = 0 then A2 else A2.map fun a => a.add 0) = A2 := by
        split
        · rfl
        · cases A2 <;> simp [Addr.add]
      have hC : (if cc = 0 then C else C.map fun a => a.add 0) = C := by
        split
        · rfl
        · cases C <;> simp [Addr.add]
      have m0 : (0 : Int) ≤ (k : Int) := by omega
      have m1 : (k : Int) ≤ (c2 : Int) := by have := S2.out.cap; omega
      have m2 : (j : Int) ≤ (cc : Int) := by have := HR4.out.cap; omega
      have m3 : (0 : Int) ≤ (j : Int) := by omega
      clear hcut2 tk HCUT
      have hcase : (((j : Int) < (l.length : Int)) = False ∧ l.length = j) ∨ ∃ x, l[j]? = some x ∧ ¬ lenF ((l.map BX.b).take j) + 8 + x.b.length ≤ k := by
        rcases hend with h | h
        · exact .inl ⟨eq_false (by omega), by omega⟩
        · exact .inr h
      clear hend
      rcases hcase with ⟨k1, hjj⟩ | ⟨x, hx, h2⟩
      · have HJJ := Lib.hid hjj; clear hjj
        obtain ⟨E, hE⟩ : ∃ E, lenF ((l.map BX.b).take j) = E := ⟨_, rfl⟩
        rw [hE] at hle ⊢
        have HE := Lib.hid hE; clear hE
        go_wp2_with fail
        refine H4.out.mono ?_
        clear H4
        rintro e W5 ⟨v5, rows5, rfl, hR5, hv5, hb5⟩
        rw [HO.out] at hv5 ⊢
        obtain ⟨A5, c5, rfl, hr5⟩ := hR5.slice
        have hb05 := HB04.out.trans (hb5.mono HB04.out.size)
        have S25 := Lib.hid (S2.out.below hb5)
        have hA5 := Lib.hid (HA.out.below hb05)
        have hr5 := Lib.hid hr5
        have HV5 := Lib.hid hv5
        have HB05 := Lib.hid hb05
        have hlen1 : ([] : Bs).length + J.length ≤ 1000000 := by simp; omega
        have hlen2 : ([] ++ J).length + a.length ≤ 1000000 := by rw [List.nil_append]; omega
        clear hb5 hb05 hR5 hv5
        go_wp2_with (first
          | (at_builtin; refine wpList_appN rfl _ _ rfl rfl (OB.nil W5.heap.size W5) rfl hjl S25.out hlen1 (Nat.le_refl _) ?_; intro v7 W7 hown7 hgrow7; have HK7 := Lib.hid (below_app (Below.refl W5.heap.size W5) (OB.nil W5.heap.size W5) hgrow7 (Nat.le_refl _) (Nat.le_refl _)); have HO7 := Lib.hid hown7; have hA7 := Lib.hid (hA5.out.below HK7.out); clear hown7 hgrow7)
          | (at_builtin; refine wpList_appN rfl _ _ rfl rfl HO7.out rfl rfl hA7.out hlen2 HK7.out.size ?_; intro v8 W8 hown8 hgrow8; have HK8 := Lib.hid (below_app HK7.out HO7.out hgrow8 (Nat.le_refl _) HK7.out.size); have HO8 := Lib.hid hown8; clear hown8 hgrow8))
        have ho8 := HO8.out
        rw [List.nil_append] at ho8
        obtain ⟨A8, c8, rfl, hs8, _⟩ := ho8.sl
        have l8 : (J ++ a).length = T + a.length := by rw [List.length_append, hjl]
        have H8 := Lib.hid (all_any A8 c8 (J ++ a) W8 hs8 (by omega))
        rw [l8] at H8 ⊢
        have HB8 := Lib.hid (HB05.out.trans (HK8.out.mono HB05.out.size))
        have hr8 := Lib.hid (hr5.out.below HK8.out)
        clear ho8 HO8 hs8 HO7 hA7 HK7 HK8 hr5 S25 hlen1 hlen2
        rw [HE.out]
        go_wp2_with fail
        refine H8.out.mono ?_
        clear H8
        rintro e W9 ⟨v9, rows9, rfl, hR9, hv9, hb9⟩
        rw [HALL2.out] at hv9 ⊢
        rw [HT.out]
        obtain ⟨A9, c9, rfl, hr9⟩ := hR9.slice
        have hb09 := HB8.out.trans (hb9.mono HB8.out.size)
        have hv5 : rows5.map BX.b = (l.take j).map BX.b := by rw [HV5.out, List.map_take]
        have tj : (l.take j).length = j := by rw [List.length_take]; omega
        have H9 := Lib.hid (samelists_any rows5 (l.take j) A5 C c5 cc W9 (hr8.out.below hb9) ((HR.out.below hb09).front j))
        rw [decide_eq_true hv5, tj] at H9
        have H10 := Lib.hid (fun (W : World) (hW : Below W9.heap.size W9 W) => samelists_any rows9 l A9 C c9 cc W (hr9.below hW) ((HR.out.below hb09).below hW))
        rw [decide_eq_true hv9] at H10
        have HB09 := Lib.hid hb09
        clear hb9 hb09 hR9 hv9 hr9 hv5 tj HB8 hr8
        go_wp2_with fail
        refine H9.out.mono ?_
        clear H9
        rintro e W10 ⟨rfl, hb10⟩
        have H10 := Lib.hid (H10.out W10 hb10)
        go_wp2_with fail
        refine H10.out.mono ?_
        clear H10
        rintro e W11 ⟨rfl, hb11⟩
        have hb011 := HB09.out.trans ((hb10.trans (hb11.mono hb10.size)).mono HB09.out.size)
        have H11 := Lib.hid (HKN.out W11)
        go_wp2_with fail
        refine H11.out.mono ?_
        clear H11
        rintro e W12 ⟨rfl, hb12⟩
        go_wp2_with fail
        go_ret
        exact ⟨rfl, hb011.trans (hb12.mono hb011.size)⟩
      · obtain ⟨h1, _⟩ := List.getElem?_eq_some_iff.1 hx
        obtain ⟨g, o, rfl, hr⟩ := HR4.out.row (by omega)
        have c1 := hr j x hx
        have k1 : (j : Int) < (l.length : Int) := by omega
        obtain ⟨E, hE⟩ : ∃ E, lenF ((l.map BX.b).take j) = E := ⟨_, rfl⟩
        rw [hE] at h2 hle ⊢
        have HE := Lib.hid hE; clear hE
        have hxl := longBN_mem (List.mem_of_getElem? hx)
        have w1 : IntKind.i64.wrap ((E : Int) + 8) = (E : Int) + 8 := IntWalk.i64_in _ (by have := hle.out; omega)
        have w2 : IntKind.i64.wrap ((E : Int) + 8 + (x.b.length : Int)) = (E : Int) + 8 + (x.b.length : Int) := IntWalk.i64_in _ (by have := hle.out; omega)
        have k2 : ((E : Int) + 8 + (x.b.length : Int) ≤ (k : Int)) = False := eq_false (by omega)
        clear hr hx hxl h2
        go_wp2_with fail
        refine H4.out.mono ?_
        clear H4
        rintro e W5 ⟨v5, rows5, rfl, hR5, hv5, hb5⟩
        rw [HO.out] at hv5 ⊢
        obtain ⟨A5, c5, rfl, hr5⟩ := hR5.slice
        have hb05 := HB04.out.trans (hb5.mono HB04.out.size)
        have S25 := Lib.hid (S2.out.below hb5)
        have hA5 := Lib.hid (HA.out.below hb05)
        have hr5 := Lib.hid hr5
        have HV5 := Lib.hid hv5
        have HB05 := Lib.hid hb05
        have hlen1 : ([] : Bs).length + J.length ≤ 1000000 := by simp; omega
        have hlen2 : ([] ++ J).length + a.length ≤ 1000000 := by rw [List.nil_append]; omega
        clear hb5 hb05 hR5 hv5
        go_wp2_with (first
          | (at_builtin; refine wpList_appN rfl _ _ rfl rfl (OB.nil W5.heap.size W5) rfl hjl S25.out hlen1 (Nat.le_refl _) ?_; intro v7 W7 hown7 hgrow7; have HK7 := Lib.hid (below_app (Below.refl W5.heap.size W5) (OB.nil W5.heap.size W5) hgrow7 (Nat.le_refl _) (Nat.le_refl _)); have HO7 := Lib.hid hown7; have hA7 := Lib.hid (hA5.out.below HK7.out); clear hown7 hgrow7)
          | (at_builtin; refine wpList_appN rfl _ _ rfl rfl HO7.out rfl rfl hA7.out hlen2 HK7.out.size ?_; intro v8 W8 hown8 hgrow8; have HK8 := Lib.hid (below_app HK7.out HO7.out hgrow8 (Nat.le_refl _) HK7.out.size); have HO8 := Lib.hid hown8; clear hown8 hgrow8))
        have ho8 := HO8.out
        rw [List.nil_append] at ho8
        obtain ⟨A8, c8, rfl, hs8, _⟩ := ho8.sl
        have l8 : (J ++ a).length = T + a.length := by rw [List.length_append, hjl]
        have H8 := Lib.hid (all_any A8 c8 (J ++ a) W8 hs8 (by omega))
        rw [l8] at H8 ⊢
        have HB8 := Lib.hid (HB05.out.trans (HK8.out.mono HB05.out.size))
        have hr8 := Lib.hid (hr5.out.below HK8.out)
        clear ho8 HO8 hs8 HO7 hA7 HK7 HK8 hr5 S25 hlen1 hlen2
        rw [HE.out]
        go_wp2_with fail
        refine H8.out.mono ?_
        clear H8
        rintro e W9 ⟨v9, rows9, rfl, hR9, hv9, hb9⟩
        rw [HALL2.out] at hv9 ⊢
        rw [HT.out]
        obtain ⟨A9, c9, rfl, hr9⟩ := hR9.slice
        have hb09 := HB8.out.trans (hb9.mono HB8.out.size)
        have hv5 : rows5.map BX.b = (l.take j).map BX.b := by rw [HV5.out, List.map_take]
        have tj : (l.take j).length = j := by rw [List.length_take]; omega
        have H9 := Lib.hid (samelists_any rows5 (l.take j) A5 (some ⟨g, o, none⟩) c5 cc W9 (hr8.out.below hb9) ((HR.out.below hb09).front j))
        rw [decide_eq_true hv5, tj] at H9
        have H10 := Lib.hid (fun (W : World) (hW : Below W9.heap.size W9 W) => samelists_any rows9 l A9 (some ⟨g, o, none⟩) c9 cc W (hr9.below hW) ((HR.out.below hb09).below hW))
        rw [decide_eq_true hv9] at H10
        have HB09 := Lib.hid hb09
        clear hb9 hb09 hR9 hv9 hr9 hv5 tj HB8 hr8
        go_wp2_with fail
        refine H9.out.mono ?_
        clear H9
        rintro e W10 ⟨rfl, hb10⟩
        have H10 := Lib.hid (H10.out W10 hb10)
        go_wp2_with fail
        refine H10.out.mono ?_
        clear H10
        rintro e W11 ⟨rfl, hb11⟩
        have hb011 := HB09.out.trans ((hb10.trans (hb11.mono hb10.size)).mono HB09.out.size)
        have H11 := Lib.hid (HKN.out W11)
        go_wp2_with fail
        refine H11.out.mono ?_
        clear H11
        rintro e W12 ⟨rfl, hb12⟩
        go_wp2_with fail
        go_ret
        exact ⟨rfl, hb011.trans (hb12.mono hb011.size)⟩
end Go.Proofs.Ythmhofmkiliihaa
