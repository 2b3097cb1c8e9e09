/-
  Copy of a disk.
-/
import Derived.Test.YtojkifcclgecoaaDkCopy
namespace Go.Proofs.Ytojkifcclgecoaa.Dk
open Go Go.RowKit Go.Shelf Go.Proofs

theorem cs_one {base : Nat} {who : Nat → Nat} {w : World} {T ga cap : Nat} {L : List AX} (h : AreasAt base who w T ga cap L) : ∀ u ∈ L.flatMap AX.cs, u.oneCell' = true := by
  intro u hu
  obtain ⟨x, hx, hu⟩ := List.mem_flatMap.1 hu
  obtain ⟨i, hi⟩ := List.mem_iff_getElem?.1 hx
  have ha := h.each i x hi
  obtain ⟨A0, c0, e0, _⟩ := row_slice ha.c
  obtain ⟨A1, c1, e1, _⟩ := row_slice ha.l
  obtain ⟨A2, c2, e2, _⟩ := row_slice ha.p
  unfold AX.cs at hu
  rw [e0, e1, e2] at hu
  simp only [List.mem_cons, List.mem_nil_iff, or_false] at hu
  rcases hu with rfl | rfl | rfl <;> rfl
theorem CopyV.one {w : World} {x : AX} {v0 v1 v2 : Value} {w' : World} (h : CopyV w x v0 v1 v2 w') : #[v0, v1, v2].all (·.oneCell') = true := by
  obtain ⟨_, _, c0, c1, c2, _⟩ := h
  obtain ⟨A0, k0, rfl, _⟩ := row_slice c0
  obtain ⟨A1, k1, rfl, _⟩ := row_slice c1
  obtain ⟨A2, k2, rfl, _⟩ := row_slice c2
  simp [Value.oneCell']
theorem CopyV.drewn {w : World} {x : AX} {v0 v1 v2 : Value} {w' : World} (h : CopyV w.drew x v0 v1 v2 w') : CopyV w x v0 v1 v2 w' := by
  obtain ⟨s1, s2, c0, c1, c2, q0, q1, q2, q3, q4, hb⟩ := h
  exact ⟨s1, s2, c0, c1, c2, q0, q1, q2, q3, q4, ⟨hb.os, hb.tape, hb.output, hb.size, hb.block⟩⟩
/-- A disk and its copy. -/
def TwoW (B : Nat) (who : Nat → Nat) (w : World) (U N : Nat) (d : DDk) (n : Nat) (w' : World) : Prop := ∃ who', DS B who' w' U N d n ∧ Below w.heap.size w w' ∧ (∀ b, b < w.heap.size → who' b = who b)

set_option maxRecDepth 100000 in
set_option maxHeartbeats 16000000 in
theorem copy_any (B : Nat) (who : Nat → Nat) (w : World) (T U g : Nat) (d : DDk) (n : Nat) (h : DS B who w T g d n) (hn : n ≤ 1000000) (hU : 0 < U) :
    Calls Try.prog 18 #[.pointer (some ⟨g, 0, none⟩)] w fun e w' => ∃ N, e = .returned (.pointer (some ⟨N, 0, none⟩)) ∧ TwoW B who w U N d n w' := by
  have HDS := Lib.hid h
  obtain ⟨⟨ga, cap, L, h1, h2, h3, h4, h5, h6, h7⟩, hd, hf, hB⟩ := h
  have h8 : L.length ≤ 8 := by have := hd.1; rw [h5, List.length_map] at this; exact this
  obtain ⟨hlt, c0, c2, c3, c4, c1, _, _⟩ := h1.cells
  have hgr := (row_blk h4.row rfl).2.1
  obtain ⟨u, hu, hu2⟩ := h1
  have h1 : HeadAt w g d.pw d.dead (.slice (some ⟨ga, 0, none⟩) L.length cap) d.room := ⟨u, hu, hu2⟩
  have c1u : w.cell? ⟨g, 1, none⟩ = some (.int .i64 u) := cell_of_row w g 1 _ _ _ hu
  have HU2 := Lib.hid hu2
  have HCL := Lib.hid (fun (W : World) (hW : Below w.heap.size w W) => clone_areas B ga L.length cap (L.flatMap AX.cs) W (row_keep h4.row fun q _ hl => hW.block q hl) (by omega) (cs_one h4))
  have HH1 := Lib.hid h1
  have HH4 := Lib.hid h4
  have HX := Lib.hid (fun (i : Nat) (x : AX) (hx : L[i]? = some x) => show x.c.length ≤ 1000000 ∧ x.l.length ≤ 1000000 ∧ x.p.length ≤ 1000000 from by
    have hxo := h6 x (List.mem_of_getElem? hx)
    have hfx := fits_at hd (ar_at h5 hx)
    have e6 : x.ar.p.length = (stsX x.p).length := rfl
    have e7 : x.ar.l.length = x.l.length := rfl
    have := x.ar.now_length
    have := hxo.2.2
    rw [hxo.1]
    omega)
  have HEND := Lib.hid (fun (N gc cap2 : Nat) (wr : World) (hc : CInv B who w U N gc cap2 L.length L d wr) => show TwoW B who w U N d n wr from by
    obtain ⟨who', L2, e1, k1, k2, k3, k4, k5, k6, k7, k8, k9, k10⟩ := hc
    rw [List.drop_length, List.append_nil] at k2
    rw [← e1] at k1 k2
    have har : L2.map AX.ar = L.map AX.ar := by
      apply List.ext_getElem?
      intro j
      rw [List.getElem?_map, List.getElem?_map]
      cases hj : L2[j]? with
      | none => rw [List.getElem?_eq_none (by have := List.getElem?_eq_none_iff.1 hj; omega)]
      | some y =>
        obtain ⟨_, x, hx, _, q1, q2⟩ := k3 j y hj
        rw [hx]
        show some (AX.ar y) = some (AX.ar x)
        unfold AX.ar
        rw [q1, q2]
    refine ⟨who', ⟨⟨gc, cap2, L2, k1, k4, Nat.le_trans hB k9, ⟨k2, k5, fun j y hy => (k3 j y hy).1⟩, by rw [h5, har], fun y hy => ?_, h7⟩, hd, k8, Nat.le_trans hB k6.size⟩, k6, k7⟩
    obtain ⟨j, hj⟩ := List.mem_iff_getElem?.1 hy
    obtain ⟨_, x, hx, q0, q1, q2⟩ := k3 j y hj
    obtain ⟨o1, o2, o3⟩ := h6 x (List.mem_of_getElem? hx)
    exact ⟨by rw [q0, o1]; unfold AX.ar; rw [q1, q2], by rw [q1, q2]; exact o2, by rw [q2]; exact o3⟩)
  have HFR := Lib.hid hf
  clear h1 h2 h3 h4 h5 h6 h7 hd hf c1 hu hu2 hgr
  go_enter Try.func18, Try.ntmps18
  go_wp2_with fail
  obtain ⟨N, hN⟩ : ∃ N, w.heap.size = N := ⟨_, rfl⟩
  obtain ⟨W1, hW1⟩ : ∃ W1, w.alloc (.cells #[.bool d.pw.isSome, .int .i64 u, .bool d.dead, .slice (some ⟨ga, 0, none⟩) L.length cap, .int .i64 (d.room : Int)] 72) = W1 := ⟨_, rfl⟩
  have hz1 := heap_alloc_new w (.cells #[.bool d.pw.isSome, .int .i64 u, .bool d.dead, .slice (some ⟨ga, 0, none⟩) L.length cap, .int .i64 (d.room : Int)] 72)
  have hb1 : Below w.heap.size w (w.alloc (.cells #[.bool d.pw.isSome, .int .i64 u, .bool d.dead, .slice (some ⟨ga, 0, none⟩) L.length cap, .int .i64 (d.room : Int)] 72)) := (Below.refl _ _).alloc (Nat.le_refl _) _
  rw [hW1] at hz1 hb1 ⊢
  rw [hN] at hz1 ⊢
  have hN1 : N < W1.heap.size := (Array.getElem?_eq_some_iff.1 hz1).1
  refine (HCL.out W1 hb1).mono ?_
  rintro e w2 ⟨gc, cap2, rfl, hrow, hb2⟩
  have hz2 : w2.heap[N]? = _ := (hb2.block N hN1).trans hz1
  have e3 := heap_setCell_same w2 N 3 _ _ (.slice (some ⟨gc, 0, none⟩) L.length cap2) hz2
  have hgc := row_blk hrow rfl
  have hgc1 : W1.heap.size ≤ gc := hgc.1
  have hgc2 : gc < w2.heap.size := hgc.2.1
  have hO := OnlyB.set w2 N 3 (.slice (some ⟨gc, 0, none⟩) L.length cap2)
  have HC0 := Lib.hid (show CInv B who w U N gc cap2 0 L d (w2.setCell ⟨N, 3, none⟩ (.slice (some ⟨gc, 0, none⟩) L.length cap2)) from by
    refine ⟨fun b => if b = N then U else if b = gc then U + 1 else who b, [], rfl, ⟨u, e3, HU2.out⟩, ?_, (fun j y hy => by cases hy), if_pos rfl, ?_, ⟨hO.os.trans (hb2.os.trans hb1.os), hO.tape.trans (hb2.tape.trans hb1.tape), hO.output.trans (hb2.output.trans hb1.output), by rw [hO.size]; exact Nat.le_trans hb1.size hb2.size, fun b hb => (hO.block b (by omega)).trans ((hb2.block b (by omega)).trans (hb1.block b hb))⟩, fun b hb => ?_, fun b hb => ?_, by omega, by omega⟩
    · rw [List.drop_zero, List.nil_append]
      exact row_mono (row_keep hrow fun q e hl => hO.block q (by cases e; omega)) (by omega)
    · show (if gc = N then U else if gc = gc then U + 1 else who gc) = U + 1
      rw [if_neg (by omega), if_pos rfl]
    · show (if b = N then U else if b = gc then U + 1 else who b) = who b
      rw [if_neg (by omega), if_neg (by omega)]
    · rw [hO.size] at hb
      show (if b = N then U else if b = gc then U + 1 else who b) = 0
      rw [if_neg (by omega), if_neg (by omega)]
      exact HFR.out b (by have := hb1.size; have := hb2.size; omega))
  have f3 : w2.frozen? ⟨N, 3, none⟩ = false := frozen_of_row w2 N 3 _ _ hz2
  have x3 : w2.cell? ⟨N, 3, none⟩ = some (.slice (some ⟨ga, 0, none⟩) L.length cap) := cell_of_row w2 N 3 _ _ _ hz2
  obtain ⟨w3, hw3⟩ : ∃ w3, w2.setCell ⟨N, 3, none⟩ (.slice (some ⟨gc, 0, none⟩) L.length cap2) = w3 := ⟨_, rfl⟩
  have y3 : w3.cell? ⟨N, 3, none⟩ = some (.slice (some ⟨gc, 0, none⟩) L.length cap2) := by rw [← hw3]; exact cell_of_row _ N 3 _ _ _ e3
  rw [hw3] at HC0
  have HW3 := Lib.hid hw3
  clear hz1 hb1 hW1 hrow hb2 hz2 e3 hgc hO hw3 c0 c1u c2 c3 c4
  go_wp2_with fail
  rw [HW3.out]
  go_wp2_with fail
  go_loopw [19] (fun y wr => ∃ (i : Nat), i ≤ L.length ∧ y = .int .i64 i ∧ Hid (CInv B who w U N gc cap2 i L d wr)) (fun y _ => L.length - (intOf y).toNat)
  case atStart => exact ⟨0, Nat.zero_le _, rfl, HC0⟩
  case round =>
    obtain ⟨i, hi, rfl, HI⟩ := hrel
    have r3 : wr.cell? ⟨N, 3, none⟩ = some (.slice (some ⟨gc, 0, none⟩) L.length cap2) := by
      obtain ⟨_, _, _, k1, _⟩ := HI.out
      exact k1.cells.2.2.2.1
    by_cases k1 : i < L.length
    · have k2 : (i : Int) < (L.length : Int) := by omega
      obtain ⟨x, hx⟩ : ∃ x, L[i]? = some x := ⟨_, List.getElem?_eq_getElem k1⟩
      have HCP := Lib.hid (fun (W : World) (eW : W.heap = wr.heap) => show Calls Try.prog 51 #[.pointer (some ⟨gc, i * 3, none⟩)] wr.drew (fun e w' => ∃ v0 v1 v2, e = .returned (.agg #[v0, v1, v2]) ∧ CopyV wr x v0 v1 v2 w') from by
        obtain ⟨who', L2, e1, k1, k2, k3, k4, k5, k6, k7, k8, k9, k10⟩ := HI.out
        have hat : (L2 ++ L.drop i)[i]? = some x := by
          rw [List.getElem?_append_right (by omega), e1, Nat.sub_self, List.getElem?_drop, Nat.add_zero]; exact hx
        obtain ⟨q1, q2, q3⟩ := cs_at hat
        have ha := HH4.out.each i x hx
        obtain ⟨n0, n1, n2⟩ := HX.out i x hx
        have := acopy_any B wr.drew gc (3 * i) x ((k2.cellAt _ (by omega)).trans q1) ((k2.cellAt _ (by omega)).trans q2) ((k2.cellAt _ (by omega)).trans q3) (row_keep ha.c fun q _ hl => k6.block q hl) (row_keep ha.l fun q _ hl => k6.block q hl) (row_keep ha.p fun q _ hl => k6.block q hl) n0 n1 n2
        rw [Nat.mul_comm i 3]
        exact this.mono fun e w' ⟨v0, v1, v2, he, hc⟩ => ⟨v0, v1, v2, he, hc.drewn⟩)
      have HTH := Lib.hid (fun (v0 v1 v2 : Value) (w2 : World) (hc : CopyV wr x v0 v1 v2 w2) => show (∀ j, j < 3 → (w2.cell? ⟨gc, i * 3 + j, none⟩).isSome = true ∧ w2.frozen? ⟨gc, i * 3 + j, none⟩ = false) ∧ w2.cell? ⟨N, 3, none⟩ = wr.cell? ⟨N, 3, none⟩ from by
        have := CInv.step HI.out HH4.out hx hB hU hc
        rw [Nat.mul_comm i 3]
        exact ⟨this.2.1, this.2.2.1⟩)
      have HONE := Lib.hid (fun (v0 v1 v2 : Value) (w2 : World) (hc : CopyV wr x v0 v1 v2 w2) => hc.one)
      have HIN := Lib.hid (fun (v0 v1 v2 : Value) (w2 wd : World) (hc : CopyV wr x v0 v1 v2 w2) (hwd : w2.setCells gc (i * 3) [v0, v1, v2] = wd) => show CInv B who w U N gc cap2 (i + 1) L d wd ∧ wd.cell? ⟨N, 3, none⟩ = wr.cell? ⟨N, 3, none⟩ from by
        have := CInv.step HI.out HH4.out hx hB hU hc
        rw [Nat.mul_comm i 3] at hwd
        rw [← hwd]
        exact ⟨this.1, this.2.2.2⟩)
      clear hx y3 x3 f3
      go_wp2_with fail
      refine wp_region_held_drew (S := (fun w' => w'.cell? ⟨N, 3, none⟩ = some (.slice (some ⟨gc, 0, none⟩) L.length cap2) ∧ AnyA w')) (by kernel_rfl) ⟨r3, trivial⟩ (fun hHeld => ?_)
      refine wpAnyH_take (i := 0) (v := ?vq0) rfl (by kernel_rfl) (by kernel_rfl) (by kernel_rfl) (fun _ _ _ h => h) (Or.inl ⟨by rfl, ?yq0⟩) (by assumption) ?rq0
      case yq0 =>
        intro w hSw
        (try dsimp only at hSw)
        go_simp
        first | done | with_reducible rfl
      try simp only [Act.put, List.getElem_toArray, List.getElem_cons_zero, List.setIfInBounds_toArray, List.set_cons_zero, List.set_cons_succ]
      refine wpAnyH_take (i := 1) (v := ?vq1) rfl (by kernel_rfl) (by kernel_rfl) (by kernel_rfl) (fun _ _ _ h => h) (Or.inl ⟨by rfl, ?yq1⟩) (by assumption) ?rq1
      case yq1 =>
        intro w hSw
        (try dsimp only at hSw)
        go_simp
        first | done | with_reducible rfl
      try simp only [Act.put, List.getElem_toArray, List.getElem_cons_zero, List.getElem_cons_succ, List.setIfInBounds_toArray, List.set_cons_zero, List.set_cons_succ]
      refine wpAnyH_take (i := 2) (v := ?vq2) rfl (by kernel_rfl) (by kernel_rfl) (by kernel_rfl) (fun _ _ _ h => h) (Or.inl ⟨by rfl, ?yq2⟩) (by assumption) ?rq2
      case yq2 =>
        intro w hSw
        (try dsimp only at hSw)
        go_simp
        first | done | with_reducible rfl
      try simp only [Act.put, List.getElem_toArray, List.getElem_cons_zero, List.getElem_cons_succ, List.setIfInBounds_toArray, List.set_cons_zero, List.set_cons_succ]
      refine wpAnyH_take (i := 3) (v := ?vq3) rfl (by kernel_rfl) (by kernel_rfl) (by kernel_rfl) (fun _ _ _ h => h) (Or.inl ⟨by rfl, ?yq3⟩) (by assumption) ?rq3
      case yq3 =>
        intro w hSw
        (try dsimp only at hSw)
        go_simp
        first | done | with_reducible rfl
      try simp only [Act.put, List.getElem_toArray, List.getElem_cons_zero, List.getElem_cons_succ, List.setIfInBounds_toArray, List.set_cons_zero, List.set_cons_succ]
      refine wpAnyH_take (i := 4) (v := ?vq4) rfl (by kernel_rfl) (by kernel_rfl) (by kernel_rfl) (fun _ _ _ h => h) (Or.inl ⟨by rfl, ?yq4⟩) (by assumption) ?rq4
      case yq4 =>
        intro w hSw
        (try dsimp only at hSw)
        go_simp
        first | done | with_reducible rfl
      try simp only [Act.put, List.getElem_toArray, List.getElem_cons_zero, List.getElem_cons_succ, List.setIfInBounds_toArray, List.set_cons_zero, List.set_cons_succ]
      refine wpAnyH_take (i := 5) (v := ?vq5) rfl (by kernel_rfl) (by kernel_rfl) (by kernel_rfl) (fun _ _ _ h => h) (Or.inl ⟨by rfl, ?yq5⟩) (by assumption) ?rq5
      case yq5 =>
        intro w hSw
        (try dsimp only at hSw)
        go_simp
        first | done | with_reducible rfl
      try simp only [Act.put, List.getElem_toArray, List.getElem_cons_zero, List.getElem_cons_succ, List.setIfInBounds_toArray, List.set_cons_zero, List.set_cons_succ]
      refine wpAnyH_take (i := 6) (v := ?vq6) rfl (by kernel_rfl) (by kernel_rfl) (by kernel_rfl) (fun _ _ _ h => h) (Or.inl ⟨by rfl, ?yq6⟩) (by assumption) ?rq6
      case yq6 =>
        intro w hSw
        (try dsimp only at hSw)
        go_simp
        first | done | with_reducible rfl
      try simp only [Act.put, List.getElem_toArray, List.getElem_cons_zero, List.getElem_cons_succ, List.setIfInBounds_toArray, List.set_cons_zero, List.set_cons_succ]
      refine wpAnyH_ready (rs := [7]) (by kernel_rfl) (by simp) ?_
      refine AllReadyH.cons rfl (fun K hK => ?_) AllReadyH.nil
      go_simp
      refine (HCP.out wr rfl).mono ?_
      rintro e w2 ⟨v0, v1, v2, rfl, hcv⟩
      have HCV := Lib.hid hcv
      obtain ⟨hth, hn3⟩ := HTH.out _ _ _ w2 hcv
      have k3 := hn3.trans hHeld.1
      have HTH2 := Lib.hid hth
      clear hcv hth hn3
      go_wp2_with fail
      refine hK.out _ _ ⟨k3, trivial⟩ (fun hHeld => ?_)
      clear hK K
      try simp only [Act.put, List.getElem_toArray, List.getElem_cons_zero, List.getElem_cons_succ, List.setIfInBounds_toArray, List.set_cons_zero, List.set_cons_succ]
      refine wpAnyH_take (i := 8) (v := ?vq8) rfl (by kernel_rfl) (by kernel_rfl) (by kernel_rfl) (fun _ _ _ h => h) (Or.inl ⟨by rfl, ?yq8⟩) (by assumption) ?rq8
      case yq8 =>
        intro w hSw
        (try dsimp only at hSw)
        go_simp
        first | done | with_reducible rfl
      try simp only [Act.put, List.getElem_toArray, List.getElem_cons_zero, List.getElem_cons_succ, List.setIfInBounds_toArray, List.set_cons_zero, List.set_cons_succ]
      refine wpAnyH_ready (rs := [9]) (by kernel_rfl) (by simp) ?_
      refine AllReadyH.cons rfl (fun K hK => ?_) AllReadyH.nil
      refine wp_store_mid 88 (.tmp 30) (.tmp 29) rfl gc (i * 3) #[v0, v1, v2] rfl rfl (fun j hj => HTH2.out j hj) (by kernel_rfl) (HONE.out v0 v1 v2 w2 HCV.out) ?_
      obtain ⟨wd, hwd⟩ : ∃ wd, w2.setCells gc (i * 3) [v0, v1, v2] = wd := ⟨_, rfl⟩
      rw [show (#[v0, v1, v2] : Array Value).toList = [v0, v1, v2] from rfl, hwd]
      obtain ⟨hin, hn4⟩ := HIN.out v0 v1 v2 w2 wd HCV.out hwd
      have HIN2 := Lib.hid hin
      clear hin hwd
      refine hK.out _ _ ⟨hn4.trans r3, trivial⟩ (fun hHeld => ?_)
      clear hK K
      try simp only [Act.put, List.getElem_toArray, List.getElem_cons_zero, List.getElem_cons_succ]
      refine wpAnyH_done (by kernel_rfl) ?_ _
      go_wp2_with fail
      go_roundw
      case rel => exact ⟨i + 1, by omega, by go_num, HIN2⟩
      case measure => simp [intOf]; omega
    · obtain rfl : i = L.length := by omega
      have HE := Lib.hid (HEND.out N gc cap2 wr HI.out)
      clear y3 x3 f3
      go_wp2_with fail
      go_ret
      exact ⟨N, rfl, HE.out⟩
end Go.Proofs.Ytojkifcclgecoaa.Dk
