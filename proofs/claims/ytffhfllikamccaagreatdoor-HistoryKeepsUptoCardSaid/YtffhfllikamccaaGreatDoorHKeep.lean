/-
  The law HistoryKeeps, walked. (gen_hkeeps.py)
-/
import Derived.Test.YtffhfllikamccaaGreatDoorHKz
import Derived.Test.YtffhfllikamccaaGreatDoorGZ
import Derived.Test.YtffhfllikamccaaGreatDoorGS
import Derived.Test.YtffhfllikamccaaGreatDoorTRefz
import Derived.Test.YtffhfllikamccaaGreatDoorHKSpoil
import Derived.Test.YtffhfllikamccaaGreatDoorTRefw
import Derived.Deep.RegionHeld3
import Derived.BigQuiet
namespace Go.Proofs.YtffhfllikamccaaGreatDoor
open Go Go.RowKit Go.Shelf Go.Proofs Go.ChangeMaps Go.Maps Go.WideMaps
attribute [local go_sem] Oper.semAt_some

theorem RowD.ge {base : Nat} {w : World} {v : Value} {l : List DX} (h : RowD base w v l) {g : Nat} (hg : v.ownBlock = some g) : base ≤ g := (rowT_ge (show w.ownsRow base 62 3 v l.length (dcells l) from h) hg).1
set_option maxRecDepth 200000 in
set_option maxHeartbeats 64000000 in
theorem hkeeps_any (t : List FX) (l : List DX) (A B : Option Addr) (c d : Nat) (w : World) (ht : TreeAt w A c t) (zt : BigX t) (hl : DelsAt w B d l) (hbl : BigD l) (hcp : ∀ x ∈ l, x.b.length ≤ x.c ∧ (x.A = none → x.c = 0)) (hb : longDN l ≤ 4611686018427387000) (hm : MaxOk w) :
    Calls Tryz.prog 4 #[.slice A t.length c, .slice B l.length d] w fun e w' => e = .returned (.bool true) ∧ Below w.heap.size w w' := by
  obtain ⟨d0, hd0⟩ : ∃ b, w.heap.size = b := ⟨_, rfl⟩
  obtain ⟨W0, hW0⟩ : ∃ W, w.alloc (.cells #[.slice B l.length d] 39) = W := ⟨_, rfl⟩
  have hh0 : W0.heap[d0]? = some (.cells #[.slice B l.length d] 39 (0, 0)) := by rw [← hW0, ← hd0]; exact heap_alloc_new _ _
  have hb0 : Below w.heap.size w W0 := by rw [← hW0]; exact (Below.refl _ _).alloc (Nat.le_refl _) _
  have hrow : LRowAt W0 (some ⟨d0, 0, none⟩) 1 [⟨B, d, l⟩] := ⟨Nat.le_refl _, by unfold maxLen; omega, fun _ => ⟨d0, 0, rfl, fun i y hy => by
    have hi : i = 0 := by
      have := (List.getElem?_eq_some_iff.1 hy).1
      simpa using this
    subst hi
    obtain rfl : (⟨B, d, l⟩ : LX) = y := by simpa using hy
    exact cell_of_row W0 d0 0 _ _ _ hh0⟩, fun y hy => by
    obtain rfl : y = ⟨B, d, l⟩ := by simpa using hy
    exact hl.below hb0, fun y hy => by
    obtain rfl : y = ⟨B, d, l⟩ := by simpa using hy
    exact hbl⟩
  have hln : longLN [⟨B, d, l⟩] = 1 + longDN l := by unfold longLN; simp
  have hsm := hsmall_any t [⟨B, d, l⟩] A (some ⟨d0, 0, none⟩) c 1 W0 (ht.below hb0) zt hrow (by rw [hln]; omega)
  have hsm : Calls Tryz.prog 5 #[.slice A t.length c, .slice (some ⟨d0, 0, none⟩) 1 1] W0 _ := hsm
  have HSM := Lib.hid hsm
  have HKN := Lib.hid (fun (W : World) (h : Below w.heap.size w W) => hknown_any W (hm.below h))
  have HT := Lib.hid ht
  have HL := Lib.hid hl
  have HCP := Lib.hid hcp
  have HM := Lib.hid hm
  have HB0 := Lib.hid hb0
  have hcap : l.length ≤ maxLen := Nat.le_trans hl.cap hl.capm
  unfold maxLen at hcap
  obtain ⟨n, hn⟩ : ∃ n, l.length = n := ⟨_, rfl⟩
  have HN := Lib.hid hn
  rw [hn] at hW0 hcap ⊢
  clear ht zt hl hbl hcp hb hm hb0 hrow hln hh0 hn hsm
  cases h1 : hsmallL t [⟨B, d, l⟩] with
  | false =>
    rw [h1] at HSM
    clear h1
    go_enter Tryz.func4, Tryz.ntmps4
    go_wp2_with fail
    clear hW0 hd0
    refine HSM.out.mono ?_
    rintro e w1 ⟨rfl, hb1⟩
    have HB1 := Lib.hid (HB0.out.trans (hb1.mono HB0.out.size))
    clear hb1
    go_wp2_with fail
    refine (HKN.out w1 HB1.out).mono ?_
    rintro e wk ⟨rfl, hbk⟩
    have HBK := Lib.hid (show Below w.heap.size w wk from (HB1.out).trans (hbk.mono (HB1.out).size))
    clear hbk
    go_wp2_with fail
    go_ret
    exact ⟨rfl, HBK.out⟩
  | true =>
  have HST := Lib.hid (small_treeG h1)
  have HSD := Lib.hid (small_delsG h1 (x := ⟨B, d, l⟩) (by simp))
  have hn3 : n ≤ 3000 := by
    unfold hsmallL at h1
    simp only [Bool.and_eq_true, decide_eq_true_eq] at h1
    have h2 := h1.2
    unfold longLN at h2
    simp only [List.map_cons, List.map_nil, List.sum_cons, List.sum_nil] at h2
    have := longDN_len l
    have := HN.out
    omega
  rw [h1] at HSM
  clear h1
  go_enter Tryz.func4, Tryz.ntmps4
  go_wp2_with fail
  clear hW0 hd0
  refine HSM.out.mono ?_
  rintro e w1 ⟨rfl, hb1⟩
  have HB1 := Lib.hid (HB0.out.trans (hb1.mono HB0.out.size))
  have HNEW := Lib.hid (hnewS_any t A c w1 (HT.out.below HB1.out) HST.out (HM.out.below HB1.out))
  clear hb1
  go_wp2_with fail
  refine HNEW.out.mono ?_
  intro e w2 hp
  unfold NewS at hp
  cases hr : rightT (flsX t) with
  | false =>
    rw [if_neg (by rw [hr]; decide)] at hp
    obtain ⟨rfl, hb2⟩ := hp
    have HB2 := Lib.hid (HB1.out.trans (hb2.mono HB1.out.size))
    clear hb2 hr
    go_wp2_with fail
    refine (HKN.out w2 HB2.out).mono ?_
    rintro e wk ⟨rfl, hbk⟩
    have HBK := Lib.hid (show Below w.heap.size w wk from (HB2.out).trans (hbk.mono (HB2.out).size))
    clear hbk
    go_wp2_with fail
    go_ret
    exact ⟨rfl, HBK.out⟩
  | true =>
  rw [if_pos hr] at hp
  obtain ⟨hb, G0, l0, rfl, ⟨nm, M, nv, cv, mb, k, D, hH, hmd⟩, hb2⟩ := hp
  have HB2 := Lib.hid (HB1.out.trans (hb2.mono HB1.out.size))
  have HH2 := Lib.hid (hH.rebase HB1.out.size)
  have HMD := Lib.hid hmd
  have HRT := Lib.hid hr
  clear hr hH hmd hb2 HNEW HSM
  have HSZ0 := Lib.hid (Nat.le_refl w2.heap.size)
  go_wp2_with fail
  go_loopw [7, 8] (fun v7 v8 wr => ∃ (i : Nat) (m : List DX), v8 = .int .i64 i ∧ i ≤ n ∧ Hid (m.length = i) ∧ Hid (m.map DX.dl = (l.take i).map DX.dl) ∧ Hid (DeltasAt w2.heap.size wr v7 m) ∧ Hid (∀ x ∈ m, FarH w2.heap.size x.A) ∧ Hid (Below w2.heap.size w2 wr)) (fun _ v8 _ => n - (intOf v8).toNat)
  case atStart => exact ⟨0, [], rfl, Nat.zero_le _, Lib.hid rfl, Lib.hid rfl, Lib.hid (DeltasAt.nil _ _), Lib.hid (fun x h => by cases h), Lib.hid (Below.refl _ _)⟩
  case round =>
    obtain ⟨i, m, rfl, hi, HML, HMM, HDA, HFM, HBQ⟩ := hrel
    by_cases hlt : i < n
    · have k1 : (i : Int) < (n : Int) := by omega
      obtain ⟨x, hx⟩ : ∃ x, l[i]? = some x := ⟨_, List.getElem?_eq_getElem (by rw [HN.out]; exact hlt)⟩
      obtain ⟨g, o, hB, hr⟩ := HL.out.row (by rw [HN.out]; omega)
      have hr := hr i x hx
      have hxm := List.mem_of_getElem? hx
      have HC := Lib.hid (fun (W : World) (hb : Below w.heap.size w W) => show W.cell? ⟨g, o + i * 3, none⟩ = some (.int .i64 x.k) ∧ W.cell? ⟨g, o + i * 3 + 1, none⟩ = some (.string x.p) ∧ W.cell? ⟨g, o + i * 3 + 2, none⟩ = some (.slice x.A x.b.length x.c) by
        have k := fun (j : Nat) (v : Value) (hc : w.cell? ⟨g, j, none⟩ = some v) => (hb.cell (p := ⟨g, j, none⟩) (World.block_lt_of_cell? w (a := ⟨g, j, none⟩) hc)).trans hc
        exact ⟨k _ _ hr.1, k _ _ hr.2.1, k _ _ hr.2.2⟩)
      have HXB := Lib.hid (HL.out.bytes x hxm)
      have HXC := Lib.hid (HCP.out x hxm)
      have HXS := Lib.hid (HSD.out.2 x hxm)
      have HXX := Lib.hid hx
      have hbw := HB2.out.trans (HBQ.out.mono HB2.out.size)
      have HBW := Lib.hid hbw
      subst hB
      obtain ⟨c0, c1, c2⟩ := HC.out wr hbw
      have hxb := HXB.out.below hbw
      have HSZ := Lib.hid HBQ.out.size
      clear hx hr hxm hbw
      go_wp2_with (
        at_builtin
        refine wpList_appQ (base := wr.heap.size) (w := wr) (A := x.A) (c := x.c) (b := x.b) rfl _ _ rfl rfl rfl hxb HXC.out.1 HXC.out.2 HXS.out.2 (Nat.le_refl _) ?_
        intro v1 w1 hown hgr
        obtain ⟨A', c', rfl, ho, hf⟩ := own_bytesQ hown
        have hb1 : Below wr.heap.size wr w1 := (Below.refl _ _).grown hgr (Nat.le_refl _) (fun k e => by cases e)
        have HO1 := Lib.hid ho
        have HF1 := Lib.hid hf
        have HB1' := Lib.hid hb1
        clear c0 c1 c2 hxb hown hgr ho hf
        obtain ⟨c0, c1, c2⟩ := HC.out w1 (HBW.out.trans (hb1.mono HBW.out.size))
        clear hb1
        skip)
      have HBD := Lib.hid (fun (o : Obj) => ((HBQ.out.trans (HB1'.out.mono HBQ.out.size)).trans ((below_drew0 w1).mono (Nat.le_trans HBQ.out.size HB1'.out.size))).trans ((below_box w1.drew o).mono (Nat.le_trans HBQ.out.size (Nat.le_trans HB1'.out.size (below_drew0 w1).size))))
      have HSW := Lib.hid (fun (o : Obj) => (HBD.out o).size)
      have HRD := Lib.hid (show RowD w2.heap.size w1.drew u7 m from ((HDA.out.below HB1'.out).below (below_drew0 w1)).own)
      have HDD := Lib.hid (fun (o : Obj) => ((HDA.out.below HB1'.out).below (below_drew0 w1)).below (below_box w1.drew o))
      have HOD := Lib.hid (fun (o : Obj) => (HO1.out.below (below_drew0 w1)).below (below_box w1.drew o))
      clear c2
      refine wp_region_held_drew (S := (fun w' => w'.cell? ⟨g, o + i * 3, none⟩ = some (.int .i64 x.k) ∧ w'.cell? ⟨g, o + i * 3 + 1, none⟩ = some (.string x.p))) (by kernel_rfl) ⟨c0, c1⟩ (fun hHeld => ?_)
      refine wpAnyH_take (i := 0) (v := ?vk0) rfl (by kernel_rfl) (by kernel_rfl) (by kernel_rfl) (fun _ _ _ h => h) (Or.inl ⟨by rfl, ?yk0⟩) (by assumption) ?rk0
      case yk0 =>
        intro w hSw
        (try dsimp only at hSw)
        go_simp
        first | done | with_reducible rfl
      try simp only [Act.put, List.getElem_toArray, List.getElem_cons_zero, List.setIfInBounds_toArray, List.set_cons_zero, List.set_cons_succ]
      refine wpAnyH_take (i := 1) (v := ?vk1) rfl (by kernel_rfl) (by kernel_rfl) (by kernel_rfl) (fun _ _ _ h => h) (Or.inl ⟨by rfl, ?yk1⟩) (by assumption) ?rk1
      case yk1 =>
        intro w hSw
        (try dsimp only at hSw)
        go_simp
        first | done | with_reducible rfl
      try simp only [Act.put, List.getElem_toArray, List.getElem_cons_zero, List.getElem_cons_succ, List.setIfInBounds_toArray, List.set_cons_zero, List.set_cons_succ]
      refine wpAnyH_take (i := 2) (v := ?vk2) rfl (by kernel_rfl) (by kernel_rfl) (by kernel_rfl) (fun _ _ _ h => h) (Or.inl ⟨by rfl, ?yk2⟩) (by assumption) ?rk2
      case yk2 =>
        intro w hSw
        (try dsimp only at hSw)
        go_simp
        first | done | with_reducible rfl
      try simp only [Act.put, List.getElem_toArray, List.getElem_cons_zero, List.getElem_cons_succ, List.setIfInBounds_toArray, List.set_cons_zero, List.set_cons_succ]
      refine wpAnyH_take (i := 3) (v := ?vk3) rfl (by kernel_rfl) (by kernel_rfl) (by kernel_rfl) (fun _ _ _ h => h) (Or.inl ⟨by rfl, ?yk3⟩) (by assumption) ?rk3
      case yk3 =>
        intro w hSw
        (try dsimp only at hSw)
        go_simp
        first | done | with_reducible rfl
      try simp only [Act.put, List.getElem_toArray, List.getElem_cons_zero, List.getElem_cons_succ, List.setIfInBounds_toArray, List.set_cons_zero, List.set_cons_succ]
      refine wpAnyH_take (i := 4) (v := ?vk4) rfl (by kernel_rfl) (by kernel_rfl) (by kernel_rfl) (fun _ _ _ h => h) (Or.inl ⟨by rfl, ?yk4⟩) (by assumption) ?rk4
      case yk4 =>
        intro w hSw
        (try dsimp only at hSw)
        go_simp
        first | done | with_reducible rfl
      try simp only [Act.put, List.getElem_toArray, List.getElem_cons_zero, List.getElem_cons_succ, List.setIfInBounds_toArray, List.set_cons_zero, List.set_cons_succ]
      refine wpAnyH_take (i := 5) (v := ?vk5) rfl (by kernel_rfl) (by kernel_rfl) (by kernel_rfl) (fun _ _ _ h => h) (Or.inl ⟨by rfl, ?yk5⟩) (by assumption) ?rk5
      case yk5 =>
        intro w hSw
        (try dsimp only at hSw)
        go_simp
        first | done | with_reducible rfl
      try simp only [Act.put, List.getElem_toArray, List.getElem_cons_zero, List.getElem_cons_succ, List.setIfInBounds_toArray, List.set_cons_zero, List.set_cons_succ]
      refine wpAnyH_take (i := 6) (v := ?vk6) rfl (by kernel_rfl) (by kernel_rfl) (by kernel_rfl) (fun _ _ _ h => h) (Or.inl ⟨by rfl, ?yk6⟩) (by assumption) ?rk6
      case yk6 =>
        intro w hSw
        (try dsimp only at hSw)
        go_simp
        first | done | with_reducible rfl
      try simp only [Act.put, List.getElem_toArray, List.getElem_cons_zero, List.getElem_cons_succ, List.setIfInBounds_toArray, List.set_cons_zero, List.set_cons_succ]
      refine wpAnyH_take (i := 7) (v := ?vk7) rfl (by kernel_rfl) (by kernel_rfl) (by kernel_rfl) (fun _ _ _ h => h) (Or.inl ⟨by rfl, ?yk7⟩) (by assumption) ?rk7
      case yk7 =>
        intro w hSw
        (try dsimp only at hSw)
        go_simp
        first | done | with_reducible rfl
      try simp only [Act.put, List.getElem_toArray, List.getElem_cons_zero, List.getElem_cons_succ, List.setIfInBounds_toArray, List.set_cons_zero, List.set_cons_succ]
      refine wpAnyH_take (i := 8) (v := ?vk8) rfl (by kernel_rfl) (by kernel_rfl) (by kernel_rfl) (fun _ _ _ h => h) (Or.inl ⟨by rfl, ?yk8⟩) (by assumption) ?rk8
      case yk8 =>
        intro w hSw
        (try dsimp only at hSw)
        go_simp
        first | done | with_reducible rfl
      try simp only [Act.put, List.getElem_toArray, List.getElem_cons_zero, List.getElem_cons_succ, List.setIfInBounds_toArray, List.set_cons_zero, List.set_cons_succ]
      refine wpAnyH_take (i := 9) (v := ?vk9) rfl (by kernel_rfl) (by kernel_rfl) (by kernel_rfl) (fun _ _ _ h => h) (Or.inl ⟨by rfl, ?yk9⟩) (by assumption) ?rk9
      case yk9 =>
        intro w hSw
        (try dsimp only at hSw)
        go_simp
        first | done | with_reducible rfl
      try simp only [Act.put, List.getElem_toArray, List.getElem_cons_zero, List.getElem_cons_succ, List.setIfInBounds_toArray, List.set_cons_zero, List.set_cons_succ]
      refine wpAnyH_take (i := 10) (v := ?vk10) rfl (by kernel_rfl) (by kernel_rfl) (by kernel_rfl) (fun _ _ _ h => h) (Or.inl ⟨by rfl, ?yk10⟩) (by assumption) ?rk10
      case yk10 =>
        intro w hSw
        (try dsimp only at hSw)
        go_simp
        first | done | with_reducible rfl
      try simp only [Act.put, List.getElem_toArray, List.getElem_cons_zero, List.getElem_cons_succ, List.setIfInBounds_toArray, List.set_cons_zero, List.set_cons_succ]
      refine wpAnyH_take (i := 11) (v := ?vk11) rfl (by kernel_rfl) (by kernel_rfl) (by kernel_rfl) (fun _ _ _ h => h) (Or.inl ⟨by rfl, ?yk11⟩) (by assumption) ?rk11
      case yk11 =>
        intro w hSw
        (try dsimp only at hSw)
        go_simp
        first | done | with_reducible rfl
      try simp only [Act.put, List.getElem_toArray, List.getElem_cons_zero, List.getElem_cons_succ, List.setIfInBounds_toArray, List.set_cons_zero, List.set_cons_succ]
      refine wpAnyH_take (i := 12) (v := ?vk12) rfl (by kernel_rfl) (by kernel_rfl) (by kernel_rfl) (fun _ _ _ h => h) (Or.inl ⟨by rfl, ?yk12⟩) (by assumption) ?rk12
      case yk12 =>
        intro w hSw
        (try dsimp only at hSw)
        go_simp
        first | done | with_reducible rfl
      try simp only [Act.put, List.getElem_toArray, List.getElem_cons_zero, List.getElem_cons_succ, List.setIfInBounds_toArray, List.set_cons_zero, List.set_cons_succ]
      refine wpAnyH_ready (rs := [13]) (by kernel_rfl) (by simp) ?_
      refine AllReadyH.cons rfl (fun K hK => ?_) AllReadyH.nil
      go_simp
      refine hK.out _ _ ⟨((below_box w1.drew _).cell (p := ⟨g, o + i * 3, none⟩) (World.block_lt_of_cell? _ (a := ⟨g, o + i * 3, none⟩) hHeld.1)).trans hHeld.1, ((below_box w1.drew _).cell (p := ⟨g, o + i * 3 + 1, none⟩) (World.block_lt_of_cell? _ (a := ⟨g, o + i * 3 + 1, none⟩) hHeld.2)).trans hHeld.2⟩ (fun hHeld => ?_)
      clear hK K
      try simp only [Act.put, List.getElem_toArray, List.getElem_cons_zero, List.getElem_cons_succ, List.setIfInBounds_toArray, List.set_cons_zero, List.set_cons_succ]
      refine wpAnyH_ready (rs := [14]) (by kernel_rfl) (by simp) ?_
      refine AllReadyH.cons rfl (fun K hK => ?_) AllReadyH.nil
      refine wp_append_delta (.tmp 53) (.tmp 66) rfl w2.heap.size u7 m ⟨x.k, x.p, A', c', x.b⟩ w1.drew.heap.size 1 rfl (HRD.out.below (below_box w1.drew _)) rfl (BoxD.new w1.drew ⟨x.k, x.p, A', c', x.b⟩ _) (by have := HML.out; omega) (HSW.out _) ?_
      intro v5 w5 ho5 hg5
      have hb5 := (HBD.out _).grown hg5 (HSW.out _) (fun j e => HRD.out.ge e)
      have hbw5 := HB2.out.trans (hb5.mono HB2.out.size)
      have HB5 := Lib.hid hb5
      have HD5 := Lib.hid (DeltasAt.push (HDD.out _) (HOD.out _) (by have h6 := ho5; unfold RowD at h6; rw [dcells_snoc, List.length_append] at h6; exact h6) hg5)
      have hh5 := HC.out w5 hbw5
      clear ho5 hg5 hb5 hbw5
      refine hK.out _ _ ⟨hh5.1, hh5.2.1⟩ (fun hHeld => ?_)
      clear hK K
      try simp only [Act.put, List.getElem_toArray, List.getElem_cons_zero, List.getElem_cons_succ, List.setIfInBounds_toArray, List.set_cons_zero, List.set_cons_succ]
      refine wpAnyH_take (i := 15) (v := ?vk15) rfl (by kernel_rfl) (by kernel_rfl) (by kernel_rfl) (fun _ _ _ h => h) (Or.inl ⟨by rfl, ?yk15⟩) (by assumption) ?rk15
      case yk15 =>
        intro w hSw
        (try dsimp only at hSw)
        go_simp
        first | done | with_reducible rfl
      try simp only [Act.put, List.getElem_toArray, List.getElem_cons_zero, List.getElem_cons_succ, List.setIfInBounds_toArray, List.set_cons_zero, List.set_cons_succ]
      refine wpAnyH_done (by kernel_rfl) ?_ _
      go_wp2_with fail
      go_roundw
      case rel => exact ⟨i + 1, m ++ [⟨x.k, x.p, A', c', x.b⟩], by go_num, by omega, Lib.hid (by rw [List.length_append, HML.out]; rfl), Lib.hid (by
        rw [List.map_append, HMM.out, List.take_add_one, HXX.out, List.map_append]
        rfl), HD5, Lib.hid (fun y hy => by
        rcases List.mem_append.1 hy with hy | hy
        · exact HFM.out y hy
        · rw [List.mem_singleton] at hy; subst hy; exact HF1.out.le HBQ.out.size), HB5⟩
      case measure => simp [intOf]; omega
    · obtain rfl : n = i := by omega
      have hml := HML.out
      have hmm : m.map DX.dl = l.map DX.dl := by rw [HMM.out, ← HN.out, List.take_length]
      obtain ⟨Bm, cm, e7, hdm⟩ := HDA.out.dels
      rw [hml] at e7
      subst e7
      have hmS : SmallD m := SmallD.same hmm HSD.out
      have hbw := HB2.out.trans (HBQ.out.mono HB2.out.size)
      have hHr := HH2.out.below HBQ.out
      have hcm := hcommitF_any w hb 0 nm M nv cv mb k D [(G0, l0)] m Bm cm wr hHr hbw (by omega) (DelsKeep.own HDA.out ⟨_, hHr.heap⟩) hmS HM.out
      rw [hml] at hcm
      have HCM := Lib.hid hcm
      have HMEQ := Lib.hid hmm
      have HHR := Lib.hid hHr
      have HBW := Lib.hid hbw
      have HDM := Lib.hid hdm
      have HMS := Lib.hid hmS
      clear hml hmm hdm hmS hbw hHr hcm hlt hi HMM
      go_wp2_with fail
      refine HCM.out.mono ?_
      intro e wc hp
      rcases hp with ⟨q, hq0, -, rfl, hbc⟩ | ⟨nmc, nvc, cvc, mbc, kc, Dc, G, hne, ⟨f, hf1, -⟩, rfl, hHc, hbc, hkr, -, -, hfn⟩
      · have HBC := Lib.hid (HBW.out.trans (hbc.mono HBW.out.size))
        have HHD := Lib.hid ((HHR.out.below hbc).headK)
        have u2 : ((q : Int) == 0) = false := by rw [beq_eq_false_iff_ne]; exact hq0
        have u3 : (q = 0) = False := eq_false hq0
        clear hq0 hbc HCM
        go_wp2_with fail
        refine HHD.out.mono ?_
        rintro e wh ⟨rfl, hwh⟩
        have hwh := hwh.symm
        subst hwh
        go_wp2_with fail
        refine (HKN.out wc HBC.out).mono ?_
        rintro e wk ⟨rfl, hbk⟩
        have HBK := Lib.hid (show Below w.heap.size w wk from (HBC.out).trans (hbk.mono (HBC.out).size))
        clear hbk
        go_wp2_with fail
        go_ret
        exact ⟨rfl, HBK.out⟩
      have hbwc : Below w.heap.size w wc := HBW.out.trans hbc
      obtain ⟨Mc, hHc⟩ : ∃ Mc, HistAt w.heap.size wc hb 1 nmc Mc nvc cvc mbc kc Dc [(G, m), (G0, l0)] := ⟨_, hHc⟩
      have hap : applyT (bareT (flsX t)) (m.map DX.dl) = .ok f := by rw [← HMD.out.2]; exact hf1
      obtain ⟨f1, ha1, hi1, -⟩ := commit_tree (G := G) (L := m) (H := [(G0, l0)]) (by simp) HRT.out (first_is (right_sorted HRT.out) HMD.out.1) hap
      rw [HMEQ.out] at ha1
      have hra := refapplyS_any (n := w.heap.size) (K := KH w.heap.size) t l A B c d wc ⟨KH.rel _, hbwc.size, fun v hk => HT.out.below (hbwc.trans hk.1)⟩ (smallX_right HRT.out).1 (by have := (smallX_right HRT.out).2; omega) (fun v hk => HL.out.below (hbwc.trans hk.1)) HSD.out
      rw [HN.out, ha1] at hra
      have HRA := Lib.hid hra
      have HDEL := Lib.hid (fun (W : World) (hh : HistAt w.heap.size W hb 1 nmc Mc nvc cvc mbc kc Dc [(G, m), (G0, l0)]) => hdeltas_any hh (r := 1) (Nat.le_refl _) (Nat.le_refl _) (by omega) (G := G) (L := m) rfl)
      have HAT := Lib.hid (fun (W : World) (hh : HistAt w.heap.size W hb 1 nmc Mc nvc cvc mbc kc Dc [(G, m), (G0, l0)]) => hat_any hh (r := 1) (Nat.le_refl _) (by omega))
      have HHC := Lib.hid hHc
      have HBWC := Lib.hid hbwc
      have HI1 := Lib.hid hi1
      have HKR := Lib.hid hkr
      have HFN := Lib.hid hfn
      have HBC := Lib.hid hbc
      have hn1 : 0 < n := by
        have := List.length_pos_iff.2 hne
        have := HML.out
        omega
      clear hHc hbwc hi1 hkr hfn hbc hra ha1 hap hf1 hne HCM
      go_wp2_with fail
      refine HRA.out.mono ?_
      rintro e wa ⟨Aw, cw, lw, rfl, hst, hlw, hba⟩
      have HST2 := Lib.hid hst
      have HLW := Lib.hid hlw
      have HBA := Lib.hid hba
      clear hst hlw hba HRA
      go_wp2_with fail
      refine (HDEL.out wa (HHC.out.below HBA.out)).mono ?_
      rintro e wd ⟨vd, ld, rfl, hdd, hde, hbd⟩
      have HBD := Lib.hid (HBA.out.trans (hbd.mono HBA.out.size))
      have HDD := Lib.hid hdd
      have HDE := Lib.hid hde
      have HBAD := Lib.hid hbd
      clear hdd hde hbd
      go_wp2_with fail
      refine (HAT.out wd (HHC.out.below HBD.out)).mono ?_
      rintro e wu ⟨vu, lu, rfl, hut, -, hul, hbu⟩
      have HUT := Lib.hid hut
      have HBDU := Lib.hid hbu
      have HBU := Lib.hid (HBD.out.trans (hbu.mono HBD.out.size))
      have HAU := Lib.hid (HBAD.out.trans (hbu.mono HBAD.out.size))
      have HDU := Lib.hid (HDD.out.below hbu)
      have hll : ld.length = n := by
        have := congrArg List.length HDE.out
        simp only [List.length_map] at this
        have := HML.out
        omega
      obtain ⟨P, hP⟩ : ∃ P : Nat → Prop, P = fun g => (w2.heap.size ≤ g ∧ g < wr.heap.size ∧ ∃ cur, wu.heap[g]? = some (.cells cur 5 (0, 0))) ∨ (wa.heap.size ≤ g ∧ vd.ownBlock = some g) ∨ (wd.heap.size ≤ g ∧ vu.ownBlock = some g) := ⟨_, rfl⟩
      have hs1 := HBC.out.size
      have hs2 := HBA.out.size
      have hs3 := HBAD.out.size
      -- what is none of these
      have hnP : ∀ g cur t, t ≠ 5 → g < wa.heap.size → wu.heap[g]? = some (.cells cur t (0, 0)) → ¬ P g := fun g cur t ht hg hh hp => by
        rw [hP] at hp
        rcases hp with ⟨_, _, c2, h⟩ | ⟨h, _⟩ | ⟨h, _⟩
        · rw [hh] at h; cases h; exact ht rfl
        · omega
        · omega
      obtain ⟨gm, om, hBm, hrow⟩ := HDM.out.row (by rw [HML.out]; exact hn1)
      obtain ⟨hgm, curm, hhm⟩ := HDA.out.row (g := gm) (by rw [hBm]; rfl)
      have hhc := HKR.out gm curm _ (by decide) hhm
      have hgmc : gm < wc.heap.size := (Array.getElem?_eq_some_iff.1 (hhc.trans hhm)).1
      have hhu := (HBU.out.block gm hgmc).trans (hhc.trans hhm)
      have HROW := Lib.hid (fun (i : Nat) (x : DX) (hx : m[i]? = some x) (W : World) (hs : Sp P wu W) => show W.cell? ⟨gm, om + i * 3 + 2, none⟩ = some (.slice x.A x.b.length x.c) from
        hs.same (hnP gm curm _ (by decide) (by omega) hhu) ((World.cell?_of_block (a := ⟨gm, om + i * 3 + 2, none⟩) ((HBU.out.block gm hgmc).trans hhc)).trans (hrow i x hx).2.2))
      have HBOD := Lib.hid (fun (x : DX) (hx : x ∈ m) (j : Nat) (hj : j < x.b.length) (W : World) (hs : Sp P wu W) => show ∃ gA u, x.A = some ⟨gA, 0, none⟩ ∧ P gA ∧ W.cell? ⟨gA, j, none⟩ = some u ∧ W.frozen? ⟨gA, j, none⟩ = false by
        obtain ⟨gA, cur, e, hh, hc⟩ := HDA.out.bod x hx (by omega)
        have s1 := HKR.out gA cur _ (by decide) hh
        have hlt : gA < wc.heap.size := (Array.getElem?_eq_some_iff.1 (s1.trans hh)).1
        have s2 := (HBU.out.block gA hlt).trans s1
        have hp : P gA := by
          rw [hP]
          exact .inl ⟨HFM.out x hx _ e, (Array.getElem?_eq_some_iff.1 hh).1, cur, s2.trans hh⟩
        obtain ⟨u, h1, h2⟩ := hs.cell hp (s2.trans hh) ((World.cell?_of_block (a := ⟨gA, j, none⟩) s2).trans (hc j hj))
        exact ⟨gA, u, e, hp, h1, h2⟩)
      subst hBm
      have HNP := Lib.hid hnP
      have HPP := Lib.hid hP
      have HLL := Lib.hid hll
      have HUL := Lib.hid hul
      have HSS := Lib.hid (And.intro hs1 (And.intro hs2 hs3))
      clear hut hul hbu hll hP hs1 hs2 hs3 hnP hrow hgm hhm hhc hgmc hhu
      go_wp2_with fail
      go_loopw [18] (fun v18 w3 => ∃ (i : Nat), v18 = .int .i64 i ∧ i ≤ n ∧ Hid (Sp P wu w3)) (fun v18 _ => n - (intOf v18).toNat)
      case atStart => exact ⟨0, rfl, Nat.zero_le _, Lib.hid (Sp.self _ _)⟩
      case round =>
        obtain ⟨i, rfl, hi, HS⟩ := hrel
        by_cases hlt : i < n
        · have k1 : (i : Int) < (n : Int) := by omega
          obtain ⟨x, hx⟩ : ∃ x, m[i]? = some x := ⟨_, List.getElem?_eq_getElem (by rw [HML.out]; exact hlt)⟩
          have HXX := Lib.hid hx
          have HXM := Lib.hid (List.mem_of_getElem? hx)
          have HXS := Lib.hid (HMS.out.2 x (List.mem_of_getElem? hx)).2
          clear hx
          go_wp2_with fail
          go_loopw [19] (fun v19 w4 => ∃ (j : Nat), v19 = .int .i64 j ∧ j ≤ x.b.length ∧ Hid (Sp P wu w4)) (fun v19 _ => x.b.length - (intOf v19).toNat)
          case atStart => exact ⟨0, rfl, Nat.zero_le _, HS⟩
          case round =>
            clear HS
            obtain ⟨j, rfl, hj, HS⟩ := hrel
            by_cases hlj : j < x.b.length
            · obtain ⟨gA, u, e, hpA, d1, d2⟩ := HBOD.out x HXM.out j hlj _ HS.out
              have c2 := HROW.out i x HXX.out _ HS.out
              rw [e] at c2
              obtain ⟨nb, hnb⟩ : ∃ nb, x.b.length = nb := ⟨_, rfl⟩
              have HJ := Lib.hid (show j < nb by omega)
              have hxs := HXS.out
              rw [hnb] at c2 hxs
              have HNB := Lib.hid hnb
              have k2 : (j : Int) < (nb : Int) := by omega
              have HPA := Lib.hid hpA
              have hxs2 : nb ≤ 1000000 := hxs
              clear e hpA hlj hj hnb hxs
              go_wp2_with fail
              go_roundw
              case rel => exact ⟨j + 1, by go_num, by have := HNB.out; have := HJ.out; omega, Lib.hid (HS.out.set HPA.out j _)⟩
              case measure => have := HNB.out; have := HJ.out; simp [intOf]; omega
            · have c2 := HROW.out i x HXX.out _ HS.out
              have k2 : ¬ (j : Int) < (x.b.length : Int) := by omega
              go_wp2_with fail
              go_roundw
              case rel => exact ⟨i + 1, by go_num, by omega, HS⟩
              case measure => simp [intOf]; omega
        · have k1 : ¬ (i : Int) < (n : Int) := by omega
          clear hlt hi
          go_wp2_with fail
          rcases HDU.out.own.2 with ⟨-, h0⟩ | ⟨gd, capd, curd, evd, hgd, hhd, hcd, -, hsz, -⟩
          · have := HLL.out; omega
          rw [HLL.out] at evd hcd
          have hpd : P gd := by rw [HPP.out, evd]; exact .inr (.inl ⟨hgd, rfl⟩)
          have HPD := Lib.hid hpd
          have HDC := Lib.hid (fun (i : Nat) (hi : i < n) (W : World) (hs : Sp P wu W) => hs.cell (i := i * 3 + 1) (u := curd[i * 3 + 1]'(by omega)) hpd hhd ((cell_of_row wu gd (i * 3 + 1) _ _ _ hhd).trans (by rw [Array.getElem?_eq_getElem (by omega)])))
          subst evd
          clear hgd hhd hcd hsz hpd
          go_loopw [20] (fun v20 w5 => ∃ (i : Nat), v20 = .int .i64 i ∧ i ≤ n ∧ Hid (Sp P wu w5)) (fun v20 _ => n - (intOf v20).toNat)
          case atStart => exact ⟨0, rfl, Nat.zero_le _, HS⟩
          case round =>
            clear HS
            obtain ⟨i, rfl, hi, HS⟩ := hrel
            by_cases hlt : i < n
            · have k1 : (i : Int) < (n : Int) := by omega
              obtain ⟨u, d1, d2⟩ := HDC.out i hlt _ HS.out
              go_wp2_with fail
              go_roundw
              case rel => exact ⟨i + 1, by go_num, by omega, Lib.hid (HS.out.set HPD.out _ _)⟩
              case measure => simp [intOf]; omega
            · have k1 : ¬ (i : Int) < (n : Int) := by omega
              clear hlt hi
              have huf := HUT.out.own.form
              obtain ⟨nu, hnu⟩ : ∃ nu, lu.length = nu := ⟨_, rfl⟩
              have hul := HUL.out
              rw [hnu] at hul
              obtain ⟨Au, cu, evu, HUC⟩ : ∃ Au cu, vu = .slice Au nu cu ∧ Hid (∀ i, i < nu → ∃ gu, Au = some ⟨gu, 0, none⟩ ∧ P gu ∧ ∀ W, Sp P wu W → ∃ u, W.cell? ⟨gu, i * 2, none⟩ = some u ∧ W.frozen? ⟨gu, i * 2, none⟩ = false) := by
                rcases huf with ⟨h1, h2⟩ | ⟨gu, capu, curu, evu, hgu, hhu, hcu, _, hsz⟩
                · refine ⟨none, 0, by rw [h1, ← hnu, h2]; rfl, Lib.hid fun i hi => ?_⟩
                  rw [← hnu, h2] at hi
                  exact absurd hi (Nat.not_lt_zero _)
                · have hpu : P gu := by rw [HPP.out]; exact .inr (.inr ⟨hgu, by rw [evu]; rfl⟩)
                  rw [hnu] at hcu
                  exact ⟨some ⟨gu, 0, none⟩, capu, by rw [evu, hnu], Lib.hid fun i hi => ⟨gu, rfl, hpu, fun W hs => hs.cell (i := i * 2) (u := curu[i * 2]'(by omega)) hpu hhu ((cell_of_row wu gu (i * 2) _ _ _ hhu).trans (by rw [Array.getElem?_eq_getElem (by omega)]))⟩⟩
              subst evu
              clear huf hnu
              go_wp2_with fail
              go_loopw [21] (fun v21 w6 => ∃ (i : Nat), v21 = .int .i64 i ∧ i ≤ nu ∧ Hid (Sp P wu w6)) (fun v21 _ => nu - (intOf v21).toNat)
              case atStart => exact ⟨0, rfl, Nat.zero_le _, HS⟩
              case round =>
                clear HS
                obtain ⟨i, rfl, hi, HS⟩ := hrel
                by_cases hlt : i < nu
                · have k1 : (i : Int) < (nu : Int) := by omega
                  obtain ⟨gu, e, hpu, hcl⟩ := HUC.out i hlt
                  obtain ⟨u, d1, d2⟩ := hcl _ HS.out
                  have HPU := Lib.hid hpu
                  subst e
                  clear hcl hpu
                  go_wp2_with fail
                  go_roundw
                  case rel => exact ⟨i + 1, by go_num, by omega, Lib.hid (HS.out.set HPU.out _ _)⟩
                  case measure => simp [intOf]; omega
                · have k1 : ¬ (i : Int) < (nu : Int) := by omega
                  clear hlt hi hul
                  have hw2 := HB2.out.size
                  have hwc := HBWC.out.size
                  have hss := HSS.out
                  have hlwu : w.heap.size ≤ wu.heap.size := Nat.le_trans hwc HBU.out.size
                  have hb6 : Below w.heap.size wu wr := HS.out.below hlwu fun g hp => by
                    rw [HPP.out] at hp
                    rcases hp with ⟨h, _⟩ | ⟨h, _⟩ | ⟨h, _⟩ <;> omega
                  have hbw6 : Below w.heap.size w wr := (HBWC.out.trans (HBU.out.mono hwc)).trans hb6
                  have hhs : HistAt w.heap.size wr hb 1 nmc Mc nvc cvc mbc kc Dc [(G, m), (G0, l0)] := HistAt.spoil HH2.out HHC.out HBQ.out HKR.out HFN.out (fun g o hg hor => by
                    have hlt := (Array.getElem?_eq_some_iff.1 hg).1
                    have s := HBU.out.block g hlt
                    refine (HS.out.keep g (Nat.lt_of_lt_of_le hlt HBU.out.size) (fun hp => ?_)).trans s
                    rw [HPP.out] at hp
                    rcases hp with ⟨h1, h2, cur, h3⟩ | ⟨h1, _⟩ | ⟨h1, _⟩
                    · rcases hor with h | h | h
                      · omega
                      · omega
                      · exact h cur (Option.some.inj (hg.symm.trans (s.symm.trans h3)))
                    · omega
                    · omega)
                  have HWT := Lib.hid (fun (W : World) (hbW : Below wr.heap.size wr W) => HST2.out.all W ⟨((HAU.out.mono (by omega)).trans hb6).trans (hbW.mono hbw6.size), fun g cur hg => by
                    have hlt := (Array.getElem?_eq_some_iff.1 hg).1
                    have s1 := HAU.out.block g hlt
                    have hltu := Nat.lt_of_lt_of_le hlt HAU.out.size
                    have s2 := HS.out.keep g hltu (HNP.out g cur _ (by decide) hlt (s1.trans hg))
                    exact ((hbW.block g (Nat.lt_of_lt_of_le hltu HS.out.bel.size)).trans s2).trans s1⟩)
                  have HHS := Lib.hid hhs
                  have HAT6 := Lib.hid (HAT.out wr hhs)
                  have HB6 := Lib.hid hbw6
                  clear hw2 hwc hss hlwu hb6 hbw6 hhs
                  go_wp2_with fail
                  refine HAT6.out.mono ?_
                  rintro e wv ⟨vv, lv, rfl, hvt, hvi, hvl, hbv⟩
                  have HVT := Lib.hid hvt
                  have HVI := Lib.hid hvi
                  have HVL := Lib.hid hvl
                  have HBV := Lib.hid hbv
                  have HDL6 := Lib.hid (HDEL.out wv (HHS.out.below hbv))
                  clear hvt hvi hvl hbv
                  go_wp2_with fail
                  refine HDL6.out.mono ?_
                  rintro e wx ⟨vx, lx, rfl, hxd, hxe, hbx⟩
                  have hb0x := HBV.out.trans (hbx.mono HBV.out.size)
                  have hbwx := HB6.out.trans (hb0x.mono HB6.out.size)
                  obtain ⟨Av, cv2, evv⟩ := HVT.out.own.slice
                  obtain ⟨Ax, cx, evx, hdx⟩ := hxd.dels
                  have htv := HVT.out
                  rw [evv] at htv
                  have hse : flsX lv = flsX lw := (isTree_unique HVI.out HI1.out fun _ => rfl).trans HLW.out.symm
                  have hsl : lw.length = lv.length := by
                    have := congrArg List.length hse
                    rw [flsX_length, flsX_length] at this
                    exact this.symm
                  have hsm := refsameG_any lv lw Av Aw cv2 cw wx (htv.tree.2.below hbx) (HWT.out wx hb0x) HVL.out (by rw [hsl]; exact HVL.out)
                  rw [decide_eq_true hse] at hsm
                  have hlx : lx.length ≤ 100000 := by
                    have := congrArg List.length hxe
                    simp only [List.length_map] at this
                    have := HML.out
                    omega
                  have hsd := fun (W : World) (hbW : Below wx.heap.size wx W) => refsamedeltas_same lx l Ax B cx d W (hdx.below hbW) (HL.out.below (hbwx.trans (hbW.mono hbwx.size))) (hxe.trans HMEQ.out) hlx
                  rw [HN.out] at hsd
                  have HSM2 := Lib.hid hsm
                  have HSD2 := Lib.hid hsd
                  have HBX := Lib.hid hbwx
                  subst evv evx
                  clear hxd hxe hbx hb0x hbwx hdx htv hse hsl hsm hlx hsd
                  go_wp2_with fail
                  refine HSM2.out.mono ?_
                  rintro e wy ⟨rfl, hby⟩
                  have HBY := Lib.hid (HBX.out.trans (hby.mono HBX.out.size))
                  have HSD3 := Lib.hid (HSD2.out wy hby)
                  clear hby
                  go_wp2_with fail
                  refine HSD3.out.mono ?_
                  rintro e wz ⟨rfl, hbz⟩
                  have HBZ := Lib.hid (HBY.out.trans (hbz.mono HBY.out.size))
                  clear hbz
                  go_wp2_with fail
                  refine (HKN.out wz HBZ.out).mono ?_
                  rintro e wk ⟨rfl, hbk⟩
                  have HBK := Lib.hid (show Below w.heap.size w wk from (HBZ.out).trans (hbk.mono (HBZ.out).size))
                  clear hbk
                  go_wp2_with fail
                  go_ret
                  exact ⟨rfl, HBK.out⟩
end Go.Proofs.YtffhfllikamccaaGreatDoor
