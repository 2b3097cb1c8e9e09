/-
  The document's own Cut.
-/
import Derived.Test.YtojkifcclgecoaaDkRefQ
namespace Go.Proofs.Ytojkifcclgecoaa.Dk
open Go Go.RowKit Go.Shelf Go.Proofs

theorem cut_put (d : DDk) (i n : Nat) (h : d.dead = false) : putD d i (.cut n) = d.cut i n := by
  obtain ⟨L, room, pw, dead⟩ := d
  obtain rfl : dead = false := h
  unfold DDk.cut DDk.after DDk.spend DDk.add
  cases pw with
  | none => rfl
  | some k =>
    cases k with
    | zero =>
      have e : putD ⟨L, room, some 0, false⟩ i (.cut n) = ⟨L, room, some 0, true⟩ := rfl
      rw [e]
      simp only [Nat.min_zero, Nat.lt_irrefl, if_false, addAt_nil, Nat.zero_lt_one, decide_true, Nat.sub_zero]
    | succ k =>
      have e : putD ⟨L, room, some (k + 1), false⟩ i (.cut n) = ⟨addAt L i [.cut n], room, some k, false⟩ := rfl
      rw [e]
      have e1 : min 1 (k + 1) = 1 := by omega
      simp only [e1, Nat.lt_irrefl, decide_false, Nat.zero_lt_one, if_true, Nat.add_sub_cancel]
set_option maxRecDepth 100000 in
set_option maxHeartbeats 16000000 in
theorem rcut_any (w : World) (t : RT) (d : DDk) (a k : Int) (n : Nat) (h : RefAt w t d) (hd : d.fits n) (hn : n ≤ 100000) :
    Calls Try.prog 62 #[RT.v t d, .int .i64 a, .int .i64 k] w (RPE w t (cutD d a k) (cutE d a k)) := by
  obtain ⟨TA, TC, TR, TQ⟩ := t
  obtain ⟨V1, hV1⟩ : ∃ V, w.alloc (.cells #[.slice TA TR.length TC, .int .i64 (d.room : Int), .bool d.pw.isSome, .int .i64 TQ, .bool d.dead] 57) = V := ⟨_, rfl⟩
  obtain ⟨V2, hV2⟩ : ∃ V, V1.alloc (.cells #[.slice none 0 0, .int .i64 0, .bool false, .int .i64 0, .bool false] 57) = V := ⟨_, rfl⟩
  have hb1 : Below w.heap.size w V1 := by rw [← hV1]; exact (Below.refl _ _).alloc (Nat.le_refl _) _
  have hb2 : Below V1.heap.size V1 V2 := by rw [← hV2]; exact (Below.refl _ _).alloc (Nat.le_refl _) _
  have s1 : V1.heap.size = w.heap.size + 1 := by rw [← hV1]; simp
  have s2 : V2.heap.size = w.heap.size + 2 := by rw [← hV2]; simp [s1]
  have hbV : Below w.heap.size w V2 := hb1.trans (hb2.mono (by omega))
  have z0 : V2.heap[w.heap.size]? = some (.cells #[.slice TA TR.length TC, .int .i64 (d.room : Int), .bool d.pw.isSome, .int .i64 TQ, .bool d.dead] 57 (0, 0)) := (hb2.block _ (by omega)).trans (by rw [← hV1]; exact heap_alloc_new w _)
  have z1 : V2.heap[w.heap.size + 1]? = some (.cells #[.slice none 0 0, .int .i64 0, .bool false, .int .i64 0, .bool false] 57 (0, 0)) := by rw [← s1, ← hV2]; exact heap_alloc_new V1 _
  have HV := Lib.hid (show (w.alloc (.cells #[.slice TA TR.length TC, .int .i64 (d.room : Int), .bool d.pw.isSome, .int .i64 TQ, .bool d.dead] 57)).alloc (.cells #[.slice none 0 0, .int .i64 0, .bool false, .int .i64 0, .bool false] 57) = V2 by rw [hV1, hV2])
  have hmay := rmay_any V2 ⟨TA, TC, TR, TQ⟩ d a n (h.below hbV) hd
  unfold RT.v at hmay ⊢
  dsimp only at hmay ⊢
  have HH := Lib.hid h
  have HD := Lib.hid hd
  have h8 : TR.length ≤ 8 := by have h1 : d.as.length = TR.length := h.len; have h2 := hd.1; omega
  obtain ⟨E, hE⟩ : ∃ E, d.may a = E := ⟨_, rfl⟩
  have hE10 : E ≤ 10 := by rw [← hE]; unfold DDk.may DDk.state stateN; split <;> (try split) <;> omega
  rw [hE] at hmay
  have HME := Lib.hid hE
  have HMAY := Lib.hid hmay
  have HBV := Lib.hid hbV
  have Z0 := Lib.hid z0
  have Z1 := Lib.hid z1
  clear hmay h hd hV1 hV2 hb1 hb2 s1 hbV z0 z1 hE
  obtain ⟨DD, hDD⟩ : ∃ D, cutD d a k = D := ⟨_, rfl⟩
  obtain ⟨EE, hEE⟩ : ∃ E, cutE d a k = E := ⟨_, rfl⟩
  rw [hDD, hEE]
  have HDD := Lib.hid hDD.symm
  have HEE := Lib.hid hEE.symm
  clear hDD hEE
  go_enter Try.func62, Try.ntmps62
  go_wp2_with fail
  rw [HV.out]
  refine HMAY.out.mono ?_
  rintro e w1 ⟨rfl, hb1⟩
  have hbw1 := HBV.out.trans (hb1.mono (by omega))
  have p0 := (hb1.block _ (by omega)).trans Z0.out
  have p1 := (hb1.block _ (by omega)).trans Z1.out
  have hs1 := hb1.size
  have x0 := cell_of_row w1 w.heap.size 0 _ _ _ p0
  have x1 := cell_of_row w1 w.heap.size 1 _ _ _ p0
  have x2 := cell_of_row w1 w.heap.size 2 _ _ _ p0
  have x3 := cell_of_row w1 w.heap.size 3 _ _ _ p0
  have x4 := cell_of_row w1 w.heap.size 4 _ _ _ p0
  by_cases hE0 : E = 0
  · subst hE0
    obtain ⟨i, rfl, hi, hdead⟩ : ∃ i : Nat, a = (i : Int) ∧ i < d.as.length ∧ d.dead = false := by
      obtain ⟨h1, h2, h3⟩ := may_zero HME.out
      exact ⟨a.toNat, by omega, h3, h1⟩
    have HDN := Lib.hid hdead
    clear hdead
    have hil : i < TR.length := by have h1 : d.as.length = TR.length := HH.out.len; omega
    obtain ⟨x, g, o, hx, hax, hA, ca, _, _, _⟩ := (HH.out.below hbw1).at_ hil
    have hA : TA = some ⟨g, o, none⟩ := hA
    subst hA
    dsimp only at hx
    have hread : d.readL (i : Int) = x.a.now := readL_at hax
    have k2 : (i : Int) < (TR.length : Int) := by omega
    have k3 : (i : Int) < (TC : Int) := by have := HH.out.areas.cap; dsimp only at this; omega
    by_cases hbad : cutBad d i k
    · have HEE := Lib.hid (show EE = 2 from by rw [HEE.out]; unfold cutE; rw [HME.out, if_neg (by omega), if_pos hbad])
      have HDD := Lib.hid (show DD = d from by rw [HDD.out]; unfold cutD; rw [HME.out, if_neg (by omega), if_pos hbad])
      by_cases hk0 : k < 0
      · have q0 : decide (k < 0) = true := decide_eq_true hk0
        have c0 := cell_of_row w1 w.heap.size 0 _ _ _ p0
        have c1 := cell_of_row w1 w.heap.size 1 _ _ _ p0
        have c2 := cell_of_row w1 w.heap.size 2 _ _ _ p0
        have c3 := cell_of_row w1 w.heap.size 3 _ _ _ p0
        have c4 := cell_of_row w1 w.heap.size 4 _ _ _ p0
        obtain ⟨Y, hY, hY1, hY2, r0, r1, r2, r3, r4, f0, f1, f2, f3, f4⟩ := ret5 p1 (.slice (some ⟨g, o, none⟩) TR.length TC) (.int .i64 (d.room : Int)) (.bool d.pw.isSome) (.int .i64 TQ) (.bool d.dead)
        have HY := Lib.hid hY
        have HY1 := Lib.hid hY1
        have hbY : Below w.heap.size w Y := ⟨hY2.os.trans hbw1.os, hY2.tape.trans hbw1.tape, hY2.output.trans hbw1.output, by rw [hY2.size]; exact hbw1.size, fun q hq => (hY2.block q (by omega)).trans (hbw1.block q hq)⟩
        have HFIN := Lib.hid (show RPE w ⟨some ⟨g, o, none⟩, TC, TR, TQ⟩ DD EE (.returned (.tuple #[.agg #[.slice (some ⟨g, o, none⟩) TR.length TC, .int .i64 (d.room : Int), .bool d.pw.isSome, .int .i64 TQ, .bool d.dead], .int .i64 (2 : Nat)])) Y from by
          rw [HDD.out, HEE.out]
          exact ⟨⟨some ⟨g, o, none⟩, TC, TR, TQ⟩, rfl, hbY, fun W _ hW => ⟨hW, HH.out.as_, HH.out.q⟩⟩)
        clear hY hY1 hY2 hbY
        go_wp2_with fail
        rw [HY.out]
        exact bodyPost_ret (results_ct rfl _ _ _ _ _ (0, 0) _ (.int .i64 (2 : Nat)) rfl rfl HY1.out Try.underlying57 rfl (by kernel_rfl)) rfl HFIN.out

      · have q0 : decide (k < 0) = false := decide_eq_false hk0
        have q1 : decide (k > (x.a.now.length : Int)) = true := decide_eq_true (by unfold cutBad at hbad; rw [hread] at hbad; omega)
        have c0 := cell_of_row w1 w.heap.size 0 _ _ _ p0
        have c1 := cell_of_row w1 w.heap.size 1 _ _ _ p0
        have c2 := cell_of_row w1 w.heap.size 2 _ _ _ p0
        have c3 := cell_of_row w1 w.heap.size 3 _ _ _ p0
        have c4 := cell_of_row w1 w.heap.size 4 _ _ _ p0
        obtain ⟨Y, hY, hY1, hY2, r0, r1, r2, r3, r4, f0, f1, f2, f3, f4⟩ := ret5 p1 (.slice (some ⟨g, o, none⟩) TR.length TC) (.int .i64 (d.room : Int)) (.bool d.pw.isSome) (.int .i64 TQ) (.bool d.dead)
        have HY := Lib.hid hY
        have HY1 := Lib.hid hY1
        have hbY : Below w.heap.size w Y := ⟨hY2.os.trans hbw1.os, hY2.tape.trans hbw1.tape, hY2.output.trans hbw1.output, by rw [hY2.size]; exact hbw1.size, fun q hq => (hY2.block q (by omega)).trans (hbw1.block q hq)⟩
        have HFIN := Lib.hid (show RPE w ⟨some ⟨g, o, none⟩, TC, TR, TQ⟩ DD EE (.returned (.tuple #[.agg #[.slice (some ⟨g, o, none⟩) TR.length TC, .int .i64 (d.room : Int), .bool d.pw.isSome, .int .i64 TQ, .bool d.dead], .int .i64 (2 : Nat)])) Y from by
          rw [HDD.out, HEE.out]
          exact ⟨⟨some ⟨g, o, none⟩, TC, TR, TQ⟩, rfl, hbY, fun W _ hW => ⟨hW, HH.out.as_, HH.out.q⟩⟩)
        clear hY hY1 hY2 hbY
        go_wp2_with fail
        rw [HY.out]
        exact bodyPost_ret (results_ct rfl _ _ _ _ _ (0, 0) _ (.int .i64 (2 : Nat)) rfl rfl HY1.out Try.underlying57 rfl (by kernel_rfl)) rfl HFIN.out

    · have hkn : ∃ kn : Nat, k = (kn : Int) := ⟨k.toNat, by unfold cutBad at hbad; omega⟩
      obtain ⟨kn, rfl⟩ := hkn
      have hkl : kn ≤ x.a.now.length := by unfold cutBad at hbad; rw [hread] at hbad; omega
      have hEE1 : EE = (d.cut i kn).state := by rw [HEE.out]; unfold cutE; rw [HME.out, if_neg (by omega), if_neg hbad, Int.toNat_natCast, Int.toNat_natCast]
      have hDD1 : DD = d.cut i kn := by rw [HDD.out]; unfold cutD; rw [HME.out, if_neg (by omega), if_neg hbad, Int.toNat_natCast, Int.toNat_natCast]
      rw [← cut_put d i kn HDN.out] at hEE1 hDD1
      have q0 : decide ((kn : Int) < 0) = false := decide_eq_false (by omega)
      have q1 : decide ((kn : Int) > (x.a.now.length : Int)) = false := decide_eq_false (by omega)
      have hput := rput_any w1 ⟨some ⟨g, o, none⟩, TC, TR, TQ⟩ d i n (.cut kn) x (HH.out.below hbw1) HD.out (by omega) hx HDN.out ⟨hkl, trivial⟩
      unfold RT.v DSt.v at hput
      dsimp only [DSt.c, DSt.n] at hput
      have HPUT := Lib.hid hput
      have HF := Lib.hid (put_fits HD.out i (.cut kn))
      have HLEN := Lib.hid (show i < (putD d i (.cut kn)).as.length by rw [(put_parts d i (.cut kn)).1]; exact hi)
      have HHR := Lib.hid HH.out.areas
      have HEE := Lib.hid hEE1
      obtain ⟨d5, hd5⟩ : ∃ d5, putD d i (.cut kn) = d5 := ⟨_, rfl⟩
      rw [hd5] at HPUT HF HLEN HEE hDD1
      subst hDD1
      clear hput hEE1 hd5
      go_wp2_with fail
      refine HPUT.out.mono ?_
      rintro e w5 ⟨t5, rfl, hb5, h5⟩
      obtain ⟨A5, C5, R5, Q5⟩ := t5
      have hz5 := (hb5.block _ (by omega)).trans p0
      have hy5 := (hb5.block _ (by omega)).trans p1
      have hs5 := hb5.size
      obtain ⟨w6, hw6, hY1, hO6, r0, r1, r2, r3, r4, f0, f1, f2, f3, f4⟩ := ret5 hz5 (.slice A5 R5.length C5) (.int .i64 (DD.room : Int)) (.bool DD.pw.isSome) (.int .i64 Q5) (.bool DD.dead)
      have HW6 := Lib.hid hw6
      have HBX := Lib.hid hY1
      have HZX := Lib.hid ((hO6.block (w.heap.size + 1) (by omega)).trans hy5)
      have HBW := Lib.hid (only_below (hbw1.trans (hb5.mono hbw1.size)) hO6 (Nat.le_refl _))
      have HGE := Lib.hid (show w.heap.size + 2 ≤ w6.heap.size by rw [hO6.size]; omega)
      have HST := Lib.hid (show Stand (w.heap.size + 2) w6 ⟨some ⟨g, o, none⟩, TC, TR, TQ⟩ ⟨A5, C5, R5, Q5⟩ DD from ((show Stand (w.heap.size + 2) w1 ⟨some ⟨g, o, none⟩, TC, TR, TQ⟩ ⟨some ⟨g, o, none⟩, TC, TR, TQ⟩ d from fun W _ hR => ⟨hR, HH.out.as_, HH.out.q⟩).put (by omega) hb5 h5).only hO6 (by omega))
      clear hw6 hY1 hz5 hy5 hb5 h5 p0 p1 hO6 HPUT
      unfold RT.v
      dsimp only
      go_upto_region 7 with (fail)
      rw [HW6.out]
      clear r0 r1 r2 r3 r4 f0 f1 f2 f3 f4 x0 x1 x2 x3 x4
      have hbd : Below w.heap.size w w6.drew := HBW.out.trans ((jn_drewn w6).mono HBW.out.size)
      have href : RefAt w6.drew ⟨A5, C5, R5, Q5⟩ DD := HST.out w6.drew (fun _ _ _ => rfl) (HHR.out.below hbd)
      have hmay := rmay_any w6.drew ⟨A5, C5, R5, Q5⟩ DD (i : Int) (n + 1) href HF.out
      unfold RT.v at hmay
      dsimp only at hmay
      rw [may_state HLEN.out, ← HEE.out] at hmay
      have HMAY2 := Lib.hid hmay
      have c0 := cell_of_row w6 _ 0 _ _ _ HBX.out
      have c1 := cell_of_row w6 _ 1 _ _ _ HBX.out
      have c2 := cell_of_row w6 _ 2 _ _ _ HBX.out
      have c3 := cell_of_row w6 _ 3 _ _ _ HBX.out
      have c4 := cell_of_row w6 _ 4 _ _ _ HBX.out
      clear hmay hbd href
      go_wp2_with fail
      refine wp_region_held_drew (S := (fun w' => w'.cell? ⟨w.heap.size, 0, none⟩ = some (.slice A5 R5.length C5) ∧ w'.cell? ⟨w.heap.size, 1, none⟩ = some (.int .i64 (DD.room : Int)) ∧ w'.cell? ⟨w.heap.size, 2, none⟩ = some (.bool DD.pw.isSome) ∧ w'.cell? ⟨w.heap.size, 3, none⟩ = some (.int .i64 Q5) ∧ w'.cell? ⟨w.heap.size, 4, none⟩ = some (.bool DD.dead))) (by kernel_rfl) ⟨c0, c1, c2, c3, c4⟩ (fun hHeld => ?_)
      refine wpAnyH_take (i := 0) (v := ?vt0) rfl (by kernel_rfl) (by kernel_rfl) (by kernel_rfl) (fun _ _ _ h => h) (Or.inl ⟨by rfl, ?yt0⟩) (by assumption) ?rt0
      case yt0 =>
        intro w hSw
        (try dsimp only at hSw)
        go_simp
        first | done | with_reducible rfl
      try simp only [Act.put, List.getElem_toArray, List.getElem_cons_zero, List.setIfInBounds_toArray, List.set_cons_zero, List.set_cons_succ]
      refine wpAnyH_take (i := 1) (v := ?vt1) rfl (by kernel_rfl) (by kernel_rfl) (by kernel_rfl) (fun _ _ _ h => h) (Or.inl ⟨by rfl, ?yt1⟩) (by assumption) ?rt1
      case yt1 =>
        intro w hSw
        (try dsimp only at hSw)
        go_simp
        first | done | with_reducible rfl
      try simp only [Act.put, List.getElem_toArray, List.getElem_cons_zero, List.getElem_cons_succ, List.setIfInBounds_toArray, List.set_cons_zero, List.set_cons_succ]
      refine wpAnyH_take (i := 2) (v := ?vt2) rfl (by kernel_rfl) (by kernel_rfl) (by kernel_rfl) (fun _ _ _ h => h) (Or.inl ⟨by rfl, ?yt2⟩) (by assumption) ?rt2
      case yt2 =>
        intro w hSw
        (try dsimp only at hSw)
        go_simp
        first | done | with_reducible rfl
      try simp only [Act.put, List.getElem_toArray, List.getElem_cons_zero, List.getElem_cons_succ, List.setIfInBounds_toArray, List.set_cons_zero, List.set_cons_succ]
      refine wpAnyH_ready (rs := [3]) (by kernel_rfl) (by simp) ?_
      refine AllReadyH.cons rfl (fun K hK => ?_) AllReadyH.nil
      go_simp
      refine HMAY2.out.mono ?_
      rintro e w8 ⟨rfl, hb8'⟩
      have hb8 : Below w6.heap.size w6 w8 := (jn_drewn w6).trans hb8'
      have HB8 := Lib.hid hb8
      have hz8 := (hb8.block (w.heap.size) (by have := HGE.out; omega)).trans HBX.out
      have hy8 := (hb8.block (w.heap.size + 1) (by have := HGE.out; omega)).trans HZX.out
      have e0 := cell_of_row w8 _ 0 _ _ _ hz8
      have e1 := cell_of_row w8 _ 1 _ _ _ hz8
      have e2 := cell_of_row w8 _ 2 _ _ _ hz8
      have e3 := cell_of_row w8 _ 3 _ _ _ hz8
      have e4 := cell_of_row w8 _ 4 _ _ _ hz8
      have HZ8 := Lib.hid hz8
      have HY8 := Lib.hid hy8
      clear hz8 hy8 hb8 hb8'
      go_wp2_with fail
      refine hK.out _ _ ⟨e0, e1, e2, e3, e4⟩ (fun hHeld => ?_)
      clear hK K
      try simp only [Act.put, List.getElem_toArray, List.getElem_cons_zero, List.getElem_cons_succ, List.setIfInBounds_toArray, List.set_cons_zero, List.set_cons_succ]
      refine wpAnyH_ready (rs := [4]) (by kernel_rfl) (by simp) ?_
      refine AllReadyH.cons rfl (fun K hK => ?_) AllReadyH.nil
      refine wp_store_mid 57 (.tmp 6) (.tmp 38) rfl (w.heap.size + 1) 0 #[.slice A5 R5.length C5, .int .i64 (DD.room : Int), .bool DD.pw.isSome, .int .i64 Q5, .bool DD.dead] rfl rfl (fun j hj => there5 HY8.out hj) (by kernel_rfl) (by simp [Value.oneCell']) ?_
      have hst := store5 HY8.out (.slice A5 R5.length C5) (.int .i64 (DD.room : Int)) (.bool DD.pw.isSome) (.int .i64 Q5) (.bool DD.dead)
      obtain ⟨w9, hw9⟩ : ∃ w9, w8.setCells (w.heap.size + 1) 0 [.slice A5 R5.length C5, .int .i64 (DD.room : Int), .bool DD.pw.isSome, .int .i64 Q5, .bool DD.dead] = w9 := ⟨_, rfl⟩
      rw [show (#[Value.slice A5 R5.length C5, .int .i64 (DD.room : Int), .bool DD.pw.isSome, .int .i64 Q5, .bool DD.dead] : Array Value).toList = [.slice A5 R5.length C5, .int .i64 (DD.room : Int), .bool DD.pw.isSome, .int .i64 Q5, .bool DD.dead] from rfl, hw9]
      rw [hw9] at hst
      have HST9 := Lib.hid hst.1
      have HO9 := Lib.hid hst.2
      have hz9 := (hst.2.block (w.heap.size) (by omega)).trans HZ8.out
      have k0 := cell_of_row w9 _ 0 _ _ _ hz9
      have k1 := cell_of_row w9 _ 1 _ _ _ hz9
      have k2 := cell_of_row w9 _ 2 _ _ _ hz9
      have k3 := cell_of_row w9 _ 3 _ _ _ hz9
      have k4 := cell_of_row w9 _ 4 _ _ _ hz9
      clear hst hw9
      refine hK.out _ _ ⟨k0, k1, k2, k3, k4⟩ (fun hHeld => ?_)
      clear hK K
      try simp only [Act.put, List.getElem_toArray, List.getElem_cons_zero, List.getElem_cons_succ]
      refine wpAnyH_take (i := 5) (v := ?vt5) rfl (by kernel_rfl) (by kernel_rfl) (by kernel_rfl) (fun _ _ _ h => h) (Or.inl ⟨by rfl, ?yt5⟩) (by assumption) ?rt5
      case yt5 =>
        intro w hSw
        (try dsimp only at hSw)
        go_simp
        first | done | with_reducible rfl
      try simp only [Act.put, List.getElem_toArray, List.getElem_cons_zero, List.getElem_cons_succ, List.setIfInBounds_toArray, List.set_cons_zero, List.set_cons_succ]
      refine wpAnyH_done (by kernel_rfl) ?_ _
      have hbw8 := HBW.out.trans (HB8.out.mono HBW.out.size)
      have hs8 := HB8.out.size
      have hsB := HGE.out
      have HFIN := Lib.hid (show RPE w ⟨some ⟨g, o, none⟩, TC, TR, TQ⟩ DD EE (.returned (.tuple #[.agg #[.slice A5 R5.length C5, .int .i64 (DD.room : Int), .bool DD.pw.isSome, .int .i64 Q5, .bool DD.dead], .int .i64 (EE : Nat)])) w9 from
        ⟨⟨A5, C5, R5, Q5⟩, by unfold RT.v; rfl, only_below hbw8 HO9.out (by omega), fun W hW hR => ((HST.out.below HB8.out).only HO9.out (by omega)) W (fun b h1 h2 => hW b (by omega) h2) hR⟩)
      skip
      go_wp2_with fail
      exact bodyPost_ret (results_ct rfl _ _ _ _ _ (0, 0) _ (.int .i64 (EE : Nat)) rfl rfl HST9.out Try.underlying57 rfl (by kernel_rfl)) rfl HFIN.out

  · have e1 : ((E : Int) == 0) = false := by simp; omega
    have e2 : ((E : Int) = 0) = False := eq_false (by omega)
    have HEE := Lib.hid (show EE = E from by rw [HEE.out]; unfold cutE; rw [HME.out, if_pos hE0])
    have HDD := Lib.hid (show DD = d from by rw [HDD.out]; unfold cutD; rw [HME.out, if_pos hE0])
    have c0 := cell_of_row w1 w.heap.size 0 _ _ _ p0
    have c1 := cell_of_row w1 w.heap.size 1 _ _ _ p0
    have c2 := cell_of_row w1 w.heap.size 2 _ _ _ p0
    have c3 := cell_of_row w1 w.heap.size 3 _ _ _ p0
    have c4 := cell_of_row w1 w.heap.size 4 _ _ _ p0
    obtain ⟨Y, hY, hY1, hY2, r0, r1, r2, r3, r4, f0, f1, f2, f3, f4⟩ := ret5 p1 (.slice TA TR.length TC) (.int .i64 (d.room : Int)) (.bool d.pw.isSome) (.int .i64 TQ) (.bool d.dead)
    have HY := Lib.hid hY
    have HY1 := Lib.hid hY1
    have hbY : Below w.heap.size w Y := ⟨hY2.os.trans hbw1.os, hY2.tape.trans hbw1.tape, hY2.output.trans hbw1.output, by rw [hY2.size]; exact hbw1.size, fun q hq => (hY2.block q (by omega)).trans (hbw1.block q hq)⟩
    have HFIN := Lib.hid (show RPE w ⟨TA, TC, TR, TQ⟩ DD EE (.returned (.tuple #[.agg #[.slice TA TR.length TC, .int .i64 (d.room : Int), .bool d.pw.isSome, .int .i64 TQ, .bool d.dead], .int .i64 (E : Nat)])) Y from by
      rw [HDD.out, HEE.out]
      exact ⟨⟨TA, TC, TR, TQ⟩, rfl, hbY, fun W _ hW => ⟨hW, HH.out.as_, HH.out.q⟩⟩)
    clear hY hY1 hY2 hbY
    go_wp2_with fail
    rw [HY.out]
    exact bodyPost_ret (results_ct rfl _ _ _ _ _ (0, 0) _ (.int .i64 (E : Nat)) rfl rfl HY1.out Try.underlying57 rfl (by kernel_rfl)) rfl HFIN.out
end Go.Proofs.Ytojkifcclgecoaa.Dk
