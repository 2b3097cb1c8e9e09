/-
  The document's own Step1.
-/
import Derived.Test.YtojkifcclgecoaaDkRefS
import Derived.Test.YtojkifcclgecoaaDkRefU
namespace Go.Proofs.Ytojkifcclgecoaa.Dk
open Go Go.RowKit Go.Shelf Go.Proofs

set_option maxRecDepth 100000 in
set_option maxHeartbeats 16000000 in
theorem rstep_any (w : World) (t : RT) (d : DDk) (x : DDo) (n : Nat) (A : Option Addr) (c : Nat) (h : RefAt w t d) (hd : d.fits n) (hs : SlAt w A c x.b) (hn : n + x.b.length ≤ 100000) (hok : ∀ y ∈ d.as, okS y.l y.p) (hk : x.n ≤ 9223372036854775807) :
    Calls Try.prog 31 #[RT.v t d, .agg #[.int .i64 x.k, .int .i64 x.a, .int .i64 x.n, .slice A x.b.length c]] w (RPE w t (stepD d x) (stepE d x)) := by
  obtain ⟨TA, TC, TR, TQ⟩ := t
  obtain ⟨V1, hV1⟩ : ∃ V, w.alloc (.cells #[.slice TA TR.length TC, .int .i64 (d.room : Int), .bool d.pw.isSome, .int .i64 TQ, .bool d.dead] 57) = V := ⟨_, rfl⟩
  obtain ⟨V2, hV2⟩ : ∃ V, V1.alloc (.cells #[.int .i64 x.k, .int .i64 x.a, .int .i64 x.n, .slice A x.b.length c] 61) = V := ⟨_, rfl⟩
  obtain ⟨V3, hV3⟩ : ∃ V, V2.alloc (.cells #[.slice none 0 0, .int .i64 0, .bool false, .int .i64 0, .bool false] 57) = V := ⟨_, rfl⟩
  have hb1 : Below w.heap.size w V1 := by rw [← hV1]; exact (Below.refl _ _).alloc (Nat.le_refl _) _
  have hb2 : Below V1.heap.size V1 V2 := by rw [← hV2]; exact (Below.refl _ _).alloc (Nat.le_refl _) _
  have hb3 : Below V2.heap.size V2 V3 := by rw [← hV3]; exact (Below.refl _ _).alloc (Nat.le_refl _) _
  have s1 : V1.heap.size = w.heap.size + 1 := by rw [← hV1]; simp
  have s2 : V2.heap.size = w.heap.size + 2 := by rw [← hV2]; simp [s1]
  have s3 : V3.heap.size = w.heap.size + 3 := by rw [← hV3]; simp [s2]
  have hbV : Below w.heap.size w V3 := (hb1.trans (hb2.mono (by omega))).trans (hb3.mono (by omega))
  have z0 : V3.heap[w.heap.size]? = some (.cells #[.slice TA TR.length TC, .int .i64 (d.room : Int), .bool d.pw.isSome, .int .i64 TQ, .bool d.dead] 57 (0, 0)) := (hb3.block _ (by omega)).trans ((hb2.block _ (by omega)).trans (by rw [← hV1]; exact heap_alloc_new w _))
  have z1 : V3.heap[w.heap.size + 1]? = some (.cells #[.int .i64 x.k, .int .i64 x.a, .int .i64 x.n, .slice A x.b.length c] 61 (0, 0)) := (hb3.block _ (by omega)).trans (by rw [← s1, ← hV2]; exact heap_alloc_new V1 _)
  have z2 : V3.heap[w.heap.size + 1 + 1]? = some (.cells #[.slice none 0 0, .int .i64 0, .bool false, .int .i64 0, .bool false] 57 (0, 0)) := by rw [show w.heap.size + 1 + 1 = V2.heap.size by omega, ← hV3]; exact heap_alloc_new V2 _
  have HV := Lib.hid (show ((w.alloc (.cells #[.slice TA TR.length TC, .int .i64 (d.room : Int), .bool d.pw.isSome, .int .i64 TQ, .bool d.dead] 57)).alloc (.cells #[.int .i64 x.k, .int .i64 x.a, .int .i64 x.n, .slice A x.b.length c] 61)).alloc (.cells #[.slice none 0 0, .int .i64 0, .bool false, .int .i64 0, .bool false] 57) = V3 by rw [hV1, hV2, hV3])
  have HBV := Lib.hid hbV
  have Z2 := Lib.hid z2
  have HH := Lib.hid h
  have HB := Lib.hid (h.below hbV)
  have HS := Lib.hid (hs.below hbV)
  obtain ⟨DD, hDD⟩ : ∃ D, stepD d x = D := ⟨_, rfl⟩
  obtain ⟨EE, hEE⟩ : ∃ E, stepE d x = E := ⟨_, rfl⟩
  rw [hDD, hEE]
  have HDD := Lib.hid hDD.symm
  have HEE := Lib.hid hEE.symm
  unfold RT.v
  dsimp only
  have x0 := cell_of_row V3 w.heap.size 0 _ _ _ z0
  have x1 := cell_of_row V3 w.heap.size 1 _ _ _ z0
  have x2 := cell_of_row V3 w.heap.size 2 _ _ _ z0
  have x3 := cell_of_row V3 w.heap.size 3 _ _ _ z0
  have x4 := cell_of_row V3 w.heap.size 4 _ _ _ z0
  have y0 := cell_of_row V3 (w.heap.size + 1) 0 _ _ _ z1
  have y1 := cell_of_row V3 (w.heap.size + 1) 1 _ _ _ z1
  have y2 := cell_of_row V3 (w.heap.size + 1) 2 _ _ _ z1
  have y3 := cell_of_row V3 (w.heap.size + 1) 3 _ _ _ z1
  clear hV1 hV2 hV3 hb1 hb2 hb3 s1 s2 hbV z0 z1 z2 hDD hEE hs
  go_enter Try.func31, Try.ntmps31
  go_upto_region 1 with (fail)
  rw [HV.out]
  by_cases K1 : x.k = 1
  · have hcall := rappend_any V3 ⟨TA, TC, TR, TQ⟩ d x.a n A c x.b.length x.b HB.out hd HS.out rfl hn
    obtain ⟨D5, hD5⟩ : ∃ D5, appendD d x.a x.b = D5 := ⟨_, rfl⟩
    obtain ⟨E5, hE5⟩ : ∃ E5, appendE d x.a x.b = E5 := ⟨_, rfl⟩
    rw [hD5, hE5] at hcall
    unfold RT.v at hcall
    dsimp only at hcall
    have HCALL := Lib.hid hcall
    have HDD := Lib.hid (show DD = D5 from by rw [HDD.out, ← hD5]; unfold stepD; rw [if_pos K1])
    have HEE := Lib.hid (show EE = E5 from by rw [HEE.out, ← hE5]; unfold stepE; rw [if_pos K1])
    clear hcall hD5 hE5
    go_wp2_with fail
    refine HCALL.out.mono ?_
    rintro e w5 ⟨t5, rfl, hb5, h5⟩
    obtain ⟨A5, C5, R5, Q5⟩ := t5
    have hy5 := (hb5.block _ (by omega)).trans Z2.out
    obtain ⟨Y, hY, hY1, hY2, r0, r1, r2, r3, r4, f0, f1, f2, f3, f4⟩ := ret5 hy5 (.slice A5 R5.length C5) (.int .i64 (D5.room : Int)) (.bool D5.pw.isSome) (.int .i64 Q5) (.bool D5.dead)
    have HY := Lib.hid hY
    have HY1 := Lib.hid hY1
    have HFIN := Lib.hid (show RPE w ⟨TA, TC, TR, TQ⟩ DD EE (.returned (.tuple #[.agg #[.slice A5 R5.length C5, .int .i64 (D5.room : Int), .bool D5.pw.isSome, .int .i64 Q5, .bool D5.dead], .int .i64 (E5 : Nat)])) Y from by
      rw [HDD.out, HEE.out]
      have hs5 := hb5.size
      have hs6 := hY2.size
      exact ⟨⟨A5, C5, R5, Q5⟩, rfl, only_below (HBV.out.trans (hb5.mono HBV.out.size)) hY2 (by omega), fun W hW hR => h5 W (fun b h1 h2 => (hW b (by omega) (by omega)).trans (hY2.block b (by omega))) hR⟩)
    unfold RT.v
    dsimp only
    clear hY hY1 hY2 hb5 h5 hy5
    go_wp2_with fail
    rw [HY.out]
    exact bodyPost_ret (results_ct rfl _ _ _ _ _ (0, 0) _ (.int .i64 (E5 : Nat)) rfl rfl HY1.out Try.underlying57 rfl (by kernel_rfl)) rfl HFIN.out
  by_cases K2 : x.k = 2
  · have hcall := rcut_any V3 ⟨TA, TC, TR, TQ⟩ d x.a x.n n HB.out hd (by omega)
    obtain ⟨D5, hD5⟩ : ∃ D5, cutD d x.a x.n = D5 := ⟨_, rfl⟩
    obtain ⟨E5, hE5⟩ : ∃ E5, cutE d x.a x.n = E5 := ⟨_, rfl⟩
    rw [hD5, hE5] at hcall
    unfold RT.v at hcall
    dsimp only at hcall
    have HCALL := Lib.hid hcall
    have HDD := Lib.hid (show DD = D5 from by rw [HDD.out, ← hD5]; unfold stepD; rw [if_neg K1, if_pos K2])
    have HEE := Lib.hid (show EE = E5 from by rw [HEE.out, ← hE5]; unfold stepE; rw [if_neg K1, if_pos K2])
    clear hcall hD5 hE5
    go_wp2_with fail
    refine HCALL.out.mono ?_
    rintro e w5 ⟨t5, rfl, hb5, h5⟩
    obtain ⟨A5, C5, R5, Q5⟩ := t5
    have hy5 := (hb5.block _ (by omega)).trans Z2.out
    obtain ⟨Y, hY, hY1, hY2, r0, r1, r2, r3, r4, f0, f1, f2, f3, f4⟩ := ret5 hy5 (.slice A5 R5.length C5) (.int .i64 (D5.room : Int)) (.bool D5.pw.isSome) (.int .i64 Q5) (.bool D5.dead)
    have HY := Lib.hid hY
    have HY1 := Lib.hid hY1
    have HFIN := Lib.hid (show RPE w ⟨TA, TC, TR, TQ⟩ DD EE (.returned (.tuple #[.agg #[.slice A5 R5.length C5, .int .i64 (D5.room : Int), .bool D5.pw.isSome, .int .i64 Q5, .bool D5.dead], .int .i64 (E5 : Nat)])) Y from by
      rw [HDD.out, HEE.out]
      have hs5 := hb5.size
      have hs6 := hY2.size
      exact ⟨⟨A5, C5, R5, Q5⟩, rfl, only_below (HBV.out.trans (hb5.mono HBV.out.size)) hY2 (by omega), fun W hW hR => h5 W (fun b h1 h2 => (hW b (by omega) (by omega)).trans (hY2.block b (by omega))) hR⟩)
    unfold RT.v
    dsimp only
    clear hY hY1 hY2 hb5 h5 hy5
    go_wp2_with fail
    rw [HY.out]
    exact bodyPost_ret (results_ct rfl _ _ _ _ _ (0, 0) _ (.int .i64 (E5 : Nat)) rfl rfl HY1.out Try.underlying57 rfl (by kernel_rfl)) rfl HFIN.out
  by_cases K3 : x.k = 3
  · have hcall := rsync_any V3 ⟨TA, TC, TR, TQ⟩ d x.a n HB.out hd (by omega)
    obtain ⟨D5, hD5⟩ : ∃ D5, syncD d x.a = D5 := ⟨_, rfl⟩
    obtain ⟨E5, hE5⟩ : ∃ E5, syncE d x.a = E5 := ⟨_, rfl⟩
    rw [hD5, hE5] at hcall
    unfold RT.v at hcall
    dsimp only at hcall
    have HCALL := Lib.hid hcall
    have HDD := Lib.hid (show DD = D5 from by rw [HDD.out, ← hD5]; unfold stepD; rw [if_neg K1, if_neg K2, if_pos K3])
    have HEE := Lib.hid (show EE = E5 from by rw [HEE.out, ← hE5]; unfold stepE; rw [if_neg K1, if_neg K2, if_pos K3])
    clear hcall hD5 hE5
    go_wp2_with fail
    refine HCALL.out.mono ?_
    rintro e w5 ⟨t5, rfl, hb5, h5⟩
    obtain ⟨A5, C5, R5, Q5⟩ := t5
    have hy5 := (hb5.block _ (by omega)).trans Z2.out
    obtain ⟨Y, hY, hY1, hY2, r0, r1, r2, r3, r4, f0, f1, f2, f3, f4⟩ := ret5 hy5 (.slice A5 R5.length C5) (.int .i64 (D5.room : Int)) (.bool D5.pw.isSome) (.int .i64 Q5) (.bool D5.dead)
    have HY := Lib.hid hY
    have HY1 := Lib.hid hY1
    have HFIN := Lib.hid (show RPE w ⟨TA, TC, TR, TQ⟩ DD EE (.returned (.tuple #[.agg #[.slice A5 R5.length C5, .int .i64 (D5.room : Int), .bool D5.pw.isSome, .int .i64 Q5, .bool D5.dead], .int .i64 (E5 : Nat)])) Y from by
      rw [HDD.out, HEE.out]
      have hs5 := hb5.size
      have hs6 := hY2.size
      exact ⟨⟨A5, C5, R5, Q5⟩, rfl, only_below (HBV.out.trans (hb5.mono HBV.out.size)) hY2 (by omega), fun W hW hR => h5 W (fun b h1 h2 => (hW b (by omega) (by omega)).trans (hY2.block b (by omega))) hR⟩)
    unfold RT.v
    dsimp only
    clear hY hY1 hY2 hb5 h5 hy5
    go_wp2_with fail
    rw [HY.out]
    exact bodyPost_ret (results_ct rfl _ _ _ _ _ (0, 0) _ (.int .i64 (E5 : Nat)) rfl rfl HY1.out Try.underlying57 rfl (by kernel_rfl)) rfl HFIN.out
  by_cases K4 : x.k = 4
  · have hcall := rarm_any V3 ⟨TA, TC, TR, TQ⟩ d x.n HB.out
    obtain ⟨D5, hD5⟩ : ∃ D5, d.arm x.n = D5 := ⟨_, rfl⟩
    skip
    rw [hD5] at hcall
    unfold RT.v at hcall
    dsimp only at hcall
    have HCALL := Lib.hid hcall
    have HDD := Lib.hid (show DD = D5 from by rw [HDD.out, ← hD5]; unfold stepD; rw [if_neg K1, if_neg K2, if_neg K3, if_pos K4])
    have HEE := Lib.hid (show EE = 0 from by rw [HEE.out]; unfold stepE; rw [if_neg K1, if_neg K2, if_neg K3])
    clear hcall hD5
    go_wp2_with fail
    refine HCALL.out.mono ?_
    rintro e w5 ⟨t5, rfl, hb5, h5⟩
    obtain ⟨A5, C5, R5, Q5⟩ := t5
    have hy5 := (hb5.block _ (by omega)).trans Z2.out
    obtain ⟨Y, hY, hY1, hY2, r0, r1, r2, r3, r4, f0, f1, f2, f3, f4⟩ := ret5 hy5 (.slice A5 R5.length C5) (.int .i64 (D5.room : Int)) (.bool D5.pw.isSome) (.int .i64 Q5) (.bool D5.dead)
    have HY := Lib.hid hY
    have HY1 := Lib.hid hY1
    have HFIN := Lib.hid (show RPE w ⟨TA, TC, TR, TQ⟩ DD EE (.returned (.tuple #[.agg #[.slice A5 R5.length C5, .int .i64 (D5.room : Int), .bool D5.pw.isSome, .int .i64 Q5, .bool D5.dead], .int .i64 (0 : Nat)])) Y from by
      rw [HDD.out, HEE.out]
      have hs5 := hb5.size
      have hs6 := hY2.size
      exact ⟨⟨A5, C5, R5, Q5⟩, rfl, only_below (HBV.out.trans (hb5.mono HBV.out.size)) hY2 (by omega), fun W hW hR => h5 W (fun b h1 h2 => (hW b (by omega) (by omega)).trans (hY2.block b (by omega))) hR⟩)
    unfold RT.v
    dsimp only
    clear hY hY1 hY2 hb5 h5 hy5
    go_wp2_with fail
    rw [HY.out]
    exact bodyPost_ret (results_ct rfl _ _ _ _ _ (0, 0) _ (.int .i64 (0 : Nat)) rfl rfl HY1.out Try.underlying57 rfl (by kernel_rfl)) rfl HFIN.out
  by_cases K5 : x.k = 5
  · have hcall := rrestart_any V3 ⟨TA, TC, TR, TQ⟩ d x.n n HB.out hd (by omega) hok hk
    obtain ⟨D5, hD5⟩ : ∃ D5, d.restart x.n = D5 := ⟨_, rfl⟩
    skip
    rw [hD5] at hcall
    unfold RT.v at hcall
    dsimp only at hcall
    have HCALL := Lib.hid hcall
    have HDD := Lib.hid (show DD = D5 from by rw [HDD.out, ← hD5]; unfold stepD; rw [if_neg K1, if_neg K2, if_neg K3, if_neg K4, if_pos K5])
    have HEE := Lib.hid (show EE = 0 from by rw [HEE.out]; unfold stepE; rw [if_neg K1, if_neg K2, if_neg K3])
    clear hcall hD5
    go_wp2_with fail
    refine HCALL.out.mono ?_
    rintro e w5 ⟨t5, rfl, hb5, h5⟩
    obtain ⟨A5, C5, R5, Q5⟩ := t5
    have hy5 := (hb5.block _ (by omega)).trans Z2.out
    obtain ⟨Y, hY, hY1, hY2, r0, r1, r2, r3, r4, f0, f1, f2, f3, f4⟩ := ret5 hy5 (.slice A5 R5.length C5) (.int .i64 (D5.room : Int)) (.bool D5.pw.isSome) (.int .i64 Q5) (.bool D5.dead)
    have HY := Lib.hid hY
    have HY1 := Lib.hid hY1
    have HFIN := Lib.hid (show RPE w ⟨TA, TC, TR, TQ⟩ DD EE (.returned (.tuple #[.agg #[.slice A5 R5.length C5, .int .i64 (D5.room : Int), .bool D5.pw.isSome, .int .i64 Q5, .bool D5.dead], .int .i64 (0 : Nat)])) Y from by
      rw [HDD.out, HEE.out]
      have hs5 := hb5.size
      have hs6 := hY2.size
      exact ⟨⟨A5, C5, R5, Q5⟩, rfl, only_below (HBV.out.trans (hb5.mono HBV.out.size)) hY2 (by omega), fun W hW hR => h5 W (fun b h1 h2 => (hW b (by omega) (by omega)).trans (hY2.block b (by omega))) hR⟩)
    unfold RT.v
    dsimp only
    clear hY hY1 hY2 hb5 h5 hy5
    go_wp2_with fail
    rw [HY.out]
    exact bodyPost_ret (results_ct rfl _ _ _ _ _ (0, 0) _ (.int .i64 (0 : Nat)) rfl rfl HY1.out Try.underlying57 rfl (by kernel_rfl)) rfl HFIN.out
  have HDD := Lib.hid (show DD = d from by rw [HDD.out]; unfold stepD; rw [if_neg K1, if_neg K2, if_neg K3, if_neg K4, if_neg K5])
  have HEE := Lib.hid (show EE = 0 from by rw [HEE.out]; unfold stepE; rw [if_neg K1, if_neg K2, if_neg K3])
  obtain ⟨Y, hY, hY1, hY2, r0, r1, r2, r3, r4, f0, f1, f2, f3, f4⟩ := ret5 Z2.out (.slice TA TR.length TC) (.int .i64 (d.room : Int)) (.bool d.pw.isSome) (.int .i64 TQ) (.bool d.dead)
  have HY := Lib.hid hY
  have HY1 := Lib.hid hY1
  have HFIN := Lib.hid (show RPE w ⟨TA, TC, TR, TQ⟩ DD EE (.returned (.tuple #[.agg #[.slice TA TR.length TC, .int .i64 (d.room : Int), .bool d.pw.isSome, .int .i64 TQ, .bool d.dead], .int .i64 (0 : Nat)])) Y from by
    rw [HDD.out, HEE.out]
    exact ⟨⟨TA, TC, TR, TQ⟩, rfl, only_below HBV.out hY2 (by omega), fun W _ hR => ⟨hR, HH.out.as_, HH.out.q⟩⟩)
  clear hY hY1 hY2
  go_wp2_with fail
  rw [HY.out]
  exact bodyPost_ret (results_ct rfl _ _ _ _ _ (0, 0) _ (.int .i64 (0 : Nat)) rfl rfl HY1.out Try.underlying57 rfl (by kernel_rfl)) rfl HFIN.out
end Go.Proofs.Ytojkifcclgecoaa.Dk
