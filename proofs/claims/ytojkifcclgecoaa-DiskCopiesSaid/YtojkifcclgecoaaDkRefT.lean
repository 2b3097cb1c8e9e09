/-
  The document's own Read, Lasting, Arm, New.
-/
import Derived.Test.YtojkifcclgecoaaDkRefR
import Derived.Test.YtojkifcclgecoaaDkCalm
namespace Go.Proofs.Ytojkifcclgecoaa.Dk
open Go Go.RowKit Go.Shelf Go.Proofs

set_option maxHeartbeats 4000000 in
theorem rread_any (w : World) (t : RT) (d : DDk) (a : Int) (n : Nat) (h : RefAt w t d) (hd : d.fits n) :
    Calls Try.prog 35 #[RT.v t d, .int .i64 a] w fun e w' => ∃ A c, e = .returned (.slice A (d.readL a).length c) ∧ SlAt w' A c (d.readL a) ∧ Below w.heap.size w w' := by
  obtain ⟨TA, TC, TR, TQ⟩ := t
  have hl : d.as.length = TR.length := h.len
  have h8 := hd.1
  have hbV : Below w.heap.size w (w.alloc (.cells #[.slice TA TR.length TC, .int .i64 (d.room : Int), .bool d.pw.isSome, .int .i64 TQ, .bool d.dead] 57)) := (Below.refl _ _).alloc (Nat.le_refl _) _
  obtain ⟨V, hV⟩ : ∃ V, w.alloc (.cells #[.slice TA TR.length TC, .int .i64 (d.room : Int), .bool d.pw.isSome, .int .i64 TQ, .bool d.dead] 57) = V := ⟨_, rfl⟩
  have hz := heap_alloc_new w (.cells #[.slice TA TR.length TC, .int .i64 (d.room : Int), .bool d.pw.isSome, .int .i64 TQ, .bool d.dead] 57)
  rw [hV] at hbV hz
  have z0 := cell_of_row V _ 0 _ _ _ hz
  have HB := Lib.hid hbV
  have HV := Lib.hid hV
  unfold RT.v
  dsimp only
  by_cases h1 : a < 0
  · have q1 : decide (a < 0) = true := decide_eq_true h1
    have hr : d.readL a = [] := by unfold DDk.readL; rw [if_neg (by unfold DDk.has; simp; omega)]
    rw [hr]
    clear h hd hbV hz hV
    go_enter Try.func35, Try.ntmps35
    go_wp2_with fail
    rw [HV.out]
    go_ret
    exact ⟨none, 0, rfl, SlAt.none _, HB.out⟩
  · have q1 : decide (a < 0) = false := decide_eq_false h1
    by_cases h2 : (TR.length : Int) ≤ a
    · have q2 : decide ((TR.length : Int) ≤ a) = true := decide_eq_true h2
      have hr : d.readL a = [] := by unfold DDk.readL; rw [if_neg (by unfold DDk.has; rw [hl]; simp; omega)]
      rw [hr]
      clear h hd hbV hz hV
      go_enter Try.func35, Try.ntmps35
      go_wp2_with fail
      rw [HV.out]
      go_ret
      exact ⟨none, 0, rfl, SlAt.none _, HB.out⟩
    · have q2 : decide ((TR.length : Int) ≤ a) = false := decide_eq_false h2
      obtain ⟨i, rfl⟩ : ∃ i : Nat, a = (i : Int) := ⟨a.toNat, by omega⟩
      have hil : i < TR.length := by omega
      obtain ⟨x, g, o, hx, hax, hA, ca, cb, _, hxo⟩ := (h.below hbV).at_ hil
      have hA : TA = some ⟨g, o, none⟩ := hA
      subst hA
      have hr : d.readL (i : Int) = x.a.now := readL_at hax
      rw [hr]
      have k2 : (i : Int) < (TR.length : Int) := by omega
      have k3 : (i : Int) < (TC : Int) := by have := h.areas.cap; dsimp only at this; omega
      have HXO := Lib.hid hxo
      clear h hd hbV hz hV hx hax hxo
      go_enter Try.func35, Try.ntmps35
      go_upto_region 3 with (fail)
      rw [HV.out]
      go_wp2_with fail
      go_ret
      exact ⟨_, _, rfl, HXO.out.n, HB.out⟩
set_option maxHeartbeats 4000000 in
theorem rlast_any (w : World) (t : RT) (d : DDk) (a : Int) (n : Nat) (h : RefAt w t d) (hd : d.fits n) :
    Calls Try.prog 37 #[RT.v t d, .int .i64 a] w fun e w' => ∃ A c, e = .returned (.slice A (d.lastL a).length c) ∧ SlAt w' A c (d.lastL a) ∧ Below w.heap.size w w' := by
  obtain ⟨TA, TC, TR, TQ⟩ := t
  have hl : d.as.length = TR.length := h.len
  have h8 := hd.1
  have hbV : Below w.heap.size w (w.alloc (.cells #[.slice TA TR.length TC, .int .i64 (d.room : Int), .bool d.pw.isSome, .int .i64 TQ, .bool d.dead] 57)) := (Below.refl _ _).alloc (Nat.le_refl _) _
  obtain ⟨V, hV⟩ : ∃ V, w.alloc (.cells #[.slice TA TR.length TC, .int .i64 (d.room : Int), .bool d.pw.isSome, .int .i64 TQ, .bool d.dead] 57) = V := ⟨_, rfl⟩
  have hz := heap_alloc_new w (.cells #[.slice TA TR.length TC, .int .i64 (d.room : Int), .bool d.pw.isSome, .int .i64 TQ, .bool d.dead] 57)
  rw [hV] at hbV hz
  have z0 := cell_of_row V _ 0 _ _ _ hz
  have HB := Lib.hid hbV
  have HV := Lib.hid hV
  unfold RT.v
  dsimp only
  by_cases h1 : a < 0
  · have q1 : decide (a < 0) = true := decide_eq_true h1
    have hr : d.lastL a = [] := by unfold DDk.lastL; rw [if_neg (by unfold DDk.has; simp; omega)]
    rw [hr]
    clear h hd hbV hz hV
    go_enter Try.func37, Try.ntmps37
    go_wp2_with fail
    rw [HV.out]
    go_ret
    exact ⟨none, 0, rfl, SlAt.none _, HB.out⟩
  · have q1 : decide (a < 0) = false := decide_eq_false h1
    by_cases h2 : (TR.length : Int) ≤ a
    · have q2 : decide ((TR.length : Int) ≤ a) = true := decide_eq_true h2
      have hr : d.lastL a = [] := by unfold DDk.lastL; rw [if_neg (by unfold DDk.has; rw [hl]; simp; omega)]
      rw [hr]
      clear h hd hbV hz hV
      go_enter Try.func37, Try.ntmps37
      go_wp2_with fail
      rw [HV.out]
      go_ret
      exact ⟨none, 0, rfl, SlAt.none _, HB.out⟩
    · have q2 : decide ((TR.length : Int) ≤ a) = false := decide_eq_false h2
      obtain ⟨i, rfl⟩ : ∃ i : Nat, a = (i : Int) := ⟨a.toNat, by omega⟩
      have hil : i < TR.length := by omega
      obtain ⟨x, g, o, hx, hax, hA, ca, cb, _, hxo⟩ := (h.below hbV).at_ hil
      have hA : TA = some ⟨g, o, none⟩ := hA
      subst hA
      have hr : d.lastL (i : Int) = x.a.l := lastL_at hax
      rw [hr]
      have k2 : (i : Int) < (TR.length : Int) := by omega
      have k3 : (i : Int) < (TC : Int) := by have := h.areas.cap; dsimp only at this; omega
      have HXO := Lib.hid hxo
      clear h hd hbV hz hV hx hax hxo
      go_enter Try.func37, Try.ntmps37
      go_upto_region 3 with (fail)
      rw [HV.out]
      go_wp2_with fail
      go_ret
      exact ⟨_, _, rfl, HXO.out.l, HB.out⟩
set_option maxRecDepth 100000 in
set_option maxHeartbeats 8000000 in
theorem rarm_any (w : World) (t : RT) (d : DDk) (k : Int) (h : RefAt w t d) :
    Calls Try.prog 64 #[RT.v t d, .int .i64 k] w (RPT w t (d.arm k)) := by
  obtain ⟨TA, TC, TR, TQ⟩ := t
  obtain ⟨V1, hV1⟩ : ∃ V, w.alloc (.cells #[.slice TA TR.length TC, .int .i64 (d.room : Int), .bool d.pw.isSome, .int .i64 TQ, .bool d.dead] 57) = V := ⟨_, rfl⟩
  obtain ⟨V2, hV2⟩ : ∃ V, V1.alloc (.cells #[.slice none 0 0, .int .i64 0, .bool false, .int .i64 0, .bool false] 57) = V := ⟨_, rfl⟩
  have hb1 : Below w.heap.size w V1 := by rw [← hV1]; exact (Below.refl _ _).alloc (Nat.le_refl _) _
  have hb2 : Below V1.heap.size V1 V2 := by rw [← hV2]; exact (Below.refl _ _).alloc (Nat.le_refl _) _
  have s1 : V1.heap.size = w.heap.size + 1 := by rw [← hV1]; simp
  have s2 : V2.heap.size = w.heap.size + 2 := by rw [← hV2]; simp [s1]
  have hbV : Below w.heap.size w V2 := hb1.trans (hb2.mono (by omega))
  have z0 : V2.heap[w.heap.size]? = some (.cells #[.slice TA TR.length TC, .int .i64 (d.room : Int), .bool d.pw.isSome, .int .i64 TQ, .bool d.dead] 57 (0, 0)) := (hb2.block _ (by omega)).trans (by rw [← hV1]; exact heap_alloc_new w _)
  have z1 : V2.heap[w.heap.size + 1]? = some (.cells #[.slice none 0 0, .int .i64 0, .bool false, .int .i64 0, .bool false] 57 (0, 0)) := by rw [← s1, ← hV2]; exact heap_alloc_new V1 _
  have HV := Lib.hid (show (w.alloc (.cells #[.slice TA TR.length TC, .int .i64 (d.room : Int), .bool d.pw.isSome, .int .i64 TQ, .bool d.dead] 57)).alloc (.cells #[.slice none 0 0, .int .i64 0, .bool false, .int .i64 0, .bool false] 57) = V2 by rw [hV1, hV2])
  have HBV := Lib.hid hbV
  have HH := Lib.hid h
  have HR := Lib.hid (show ∀ W, RAreas W TA TC TR → d.as = TR.map RX.a from fun _ _ => h.as_)
  unfold RT.v
  dsimp only
  cases hdd : d.dead with
  | true =>
    have HAE := Lib.hid (show d.arm k = d by unfold DDk.arm; rw [if_pos hdd])
    rw [HAE.out]
    rw [hdd] at z0
    have x0 := cell_of_row V2 w.heap.size 0 _ _ _ z0
    have x1 := cell_of_row V2 w.heap.size 1 _ _ _ z0
    have x2 := cell_of_row V2 w.heap.size 2 _ _ _ z0
    have x3 := cell_of_row V2 w.heap.size 3 _ _ _ z0
    have x4 := cell_of_row V2 w.heap.size 4 _ _ _ z0
    obtain ⟨Y, hY, hY1, hY2, r0, r1, r2, r3, r4, f0, f1, f2, f3, f4⟩ := ret5 z1 (.slice TA TR.length TC) (.int .i64 (d.room : Int)) (.bool d.pw.isSome) (.int .i64 TQ) (.bool true)
    have HY := Lib.hid hY
    have HY1 := Lib.hid hY1
    have HFIN := Lib.hid (show RPT w ⟨TA, TC, TR, TQ⟩ d (.returned (.agg #[.slice TA TR.length TC, .int .i64 (d.room : Int), .bool d.pw.isSome, .int .i64 TQ, .bool true])) Y from
      ⟨⟨TA, TC, TR, TQ⟩, by unfold RT.v; rw [hdd], only_below hbV hY2 (by omega), fun W _ hR => ⟨hR, HH.out.as_, HH.out.q⟩⟩)
    have HDE := Lib.hid hdd
    rw [HDE.out] at HV
    clear hY hY1 hY2 h hV1 hV2 hb1 hb2 hbV z0 z1 s1 hdd
    go_enter Try.func64, Try.ntmps64
    go_upto_region 4 with (fail)
    rw [HV.out]
    go_wp2_with fail
    rw [HY.out]
    exact bodyPost_ret (results_cell_row rfl _ _ _ _ _ (0, 0) _ rfl HY1.out Try.underlying57 rfl (by kernel_rfl)) rfl HFIN.out
  | false =>
    obtain ⟨q, hq⟩ : ∃ q : Nat, max 0 (min k 1000000000) = (q : Int) := ⟨(max 0 (min k 1000000000)).toNat, by omega⟩
    have hq2 : (min (max k 0) 1000000000).toNat = q := by omega
    have HAE := Lib.hid (show d.arm k = ⟨d.as, d.room, some q, false⟩ by unfold DDk.arm; rw [if_neg (by rw [hdd]; decide), hq2]; show (⟨d.as, d.room, some q, d.dead⟩ : DDk) = _; rw [hdd])
    rw [HAE.out]
    rw [hdd] at z0
    have x0 := cell_of_row V2 w.heap.size 0 _ _ _ z0
    have x1 := cell_of_row V2 w.heap.size 1 _ _ _ z0
    have x2 := cell_of_row V2 w.heap.size 2 _ _ _ z0
    have x3 := cell_of_row V2 w.heap.size 3 _ _ _ z0
    have x4 := cell_of_row V2 w.heap.size 4 _ _ _ z0
    have fx := fun j => frozen_of_row V2 w.heap.size j _ _ z0
    have fx2 := fx 2
    have fx3 := fx 3
    have y2 := heap_setCell_same V2 w.heap.size 2 _ _ (.bool true) z0
    have y3 := heap_setCell_same _ w.heap.size 3 _ _ (.int .i64 (q : Int)) y2
    have o1 := OnlyB.set V2 w.heap.size 2 (.bool true)
    obtain ⟨X1, hX1⟩ : ∃ X, V2.setCell ⟨w.heap.size, 2, none⟩ (.bool true) = X := ⟨_, rfl⟩
    rw [hX1] at y2 y3 o1
    have o2 := OnlyB.set X1 w.heap.size 3 (.int .i64 (q : Int))
    obtain ⟨X2, hX2⟩ : ∃ X, X1.setCell ⟨w.heap.size, 3, none⟩ (.int .i64 (q : Int)) = X := ⟨_, rfl⟩
    rw [hX2] at y3 o2
    have fy3 := frozen_of_row X1 w.heap.size 3 _ _ y2
    have cy3 := cell_of_row X1 w.heap.size 3 _ _ _ y2
    have y3 : X2.heap[w.heap.size]? = some (.cells #[.slice TA TR.length TC, .int .i64 (d.room : Int), .bool true, .int .i64 (q : Int), .bool false] 57 (0, 0)) := y3
    have k0 := cell_of_row X2 w.heap.size 0 _ _ _ y3
    have k1 := cell_of_row X2 w.heap.size 1 _ _ _ y3
    have k2 := cell_of_row X2 w.heap.size 2 _ _ _ y3
    have k3 := cell_of_row X2 w.heap.size 3 _ _ _ y3
    have k4 := cell_of_row X2 w.heap.size 4 _ _ _ y3
    have zz := (o2.block (w.heap.size + 1) (by omega)).trans ((o1.block _ (by omega)).trans z1)
    obtain ⟨Y, hY, hY1, hY2, r0, r1, r2, r3, r4, f0, f1, f2, f3, f4⟩ := ret5 zz (.slice TA TR.length TC) (.int .i64 (d.room : Int)) (.bool true) (.int .i64 (q : Int)) (.bool false)
    have HY := Lib.hid hY
    have HY1 := Lib.hid hY1
    have HX1 := Lib.hid hX1
    have HX2 := Lib.hid hX2
    have HFIN := Lib.hid (show RPT w ⟨TA, TC, TR, TQ⟩ ⟨d.as, d.room, some q, false⟩ (.returned (.agg #[.slice TA TR.length TC, .int .i64 (d.room : Int), .bool true, .int .i64 (q : Int), .bool false])) Y from
      ⟨⟨TA, TC, TR, (q : Int)⟩, rfl, only_below (only_below (only_below hbV o1 (Nat.le_refl _)) o2 (Nat.le_refl _)) hY2 (by omega), fun W _ hR => ⟨hR, HR.out W hR, fun _ e => (by cases e; rfl)⟩⟩)
    have HDE := Lib.hid hdd
    rw [HDE.out] at HV
    have HQ := Lib.hid hq
    clear hY hY1 hY2 h hV1 hV2 hb1 hb2 hbV z0 z1 s1 s2 hdd hq2 hX1 hX2 y2 y3 o1 o2 zz fx
    go_enter Try.func64, Try.ntmps64
    go_upto_region 2 with (fail)
    rw [HV.out]
    go_upto_region 3 with (fail)
    rw [HX1.out]
    go_upto_region 4 with (fail)
    rw [HX2.out]
    go_wp2_with fail
    rw [HY.out]
    exact bodyPost_ret (results_cell_row rfl _ _ _ _ _ (0, 0) _ rfl HY1.out Try.underlying57 rfl (by kernel_rfl)) rfl HFIN.out
/-- A disk is given that stands on what is fresh alone. -/
def RPN (w : World) (d : DDk) (e : Ending) (w' : World) : Prop := ∃ t', e = .returned (RT.v t' d) ∧ Below w.heap.size w w' ∧ ∀ W : World, (∀ b, w.heap.size ≤ b → b < w'.heap.size → W.heap[b]? = w'.heap[b]?) → RefAt W t' d
def RX.empty : RX := ⟨none, 0, none, 0, none, 0, ⟨[], []⟩⟩
theorem rempty_cells (n : Nat) : (List.replicate n RX.empty).flatMap RX.cs = List.replicate (n * 3) (.slice none 0 0) := by
  induction n with
  | zero => rfl
  | succ n ih => rw [List.replicate_succ, List.flatMap_cons, ih, show (n + 1) * 3 = n * 3 + 1 + 1 + 1 from by omega, List.replicate_succ, List.replicate_succ, List.replicate_succ]; rfl
theorem rmade_cells (n : Nat) : (madeCells (Value.agg #[.slice none 0 0, .slice none 0 0, .slice none 0 0]).cells (n * 3)).toList = List.replicate (n * 3) (.slice none 0 0) := by
  apply List.ext_getElem?
  intro j
  by_cases hj : j < n * 3
  · have h3 : j % 3 < 3 := Nat.mod_lt _ (by omega)
    simp [madeCells, hj, Value.cells]
    generalize j % 3 = q at *
    match q, h3 with
    | 0, _ => rfl
    | 1, _ => rfl
    | 2, _ => rfl
  · simp [madeCells, hj]
set_option maxRecDepth 100000 in
set_option maxHeartbeats 8000000 in
theorem rnew_any (w : World) (a r : Int) : Calls Try.prog 29 #[.int .i64 a, .int .i64 r] w (RPN w (DDk.new a r)) := by
  obtain ⟨n, hn⟩ : ∃ n : Nat, max 0 (min a 8) = (n : Int) := ⟨(max 0 (min a 8)).toNat, by omega⟩
  obtain ⟨m, hm⟩ : ∃ m : Nat, max 0 (min r 4194304) = (m : Int) := ⟨(max 0 (min r 4194304)).toNat, by omega⟩
  have hn8 : n ≤ 8 := by omega
  have hd : DDk.new a r = ⟨List.replicate n ⟨[], []⟩, m, none, false⟩ := by
    unfold DDk.new
    rw [show (min (max a 0) 8).toNat = n by omega, show (min (max r 0) 4194304).toNat = m by omega]
  rw [hd]
  clear hd
  obtain ⟨V, hV⟩ : ∃ V, w.alloc (.cells #[.slice none 0 0, .int .i64 0, .bool false, .int .i64 0, .bool false] 57) = V := ⟨_, rfl⟩
  have hbV : Below w.heap.size w V := by rw [← hV]; exact (Below.refl _ _).alloc (Nat.le_refl _) _
  have hz : V.heap[w.heap.size]? = some (.cells #[.slice none 0 0, .int .i64 0, .bool false, .int .i64 0, .bool false] 57 (0, 0)) := by rw [← hV]; exact heap_alloc_new w _
  have hs : V.heap.size = w.heap.size + 1 := by rw [← hV]; simp
  obtain ⟨i0, hi, hz0, hz1, hz2⟩ := info_parts rarea_info
  obtain ⟨w1, hr, ho, hg⟩ := run_make_full (P := Try.prog) V V.heap.size 55 103 i0 _ 3 Try.underlying55 hi hz0 hz1 .i64 .i64 n (by rw [hz2]; omega) (by unfold maxLen; omega) (Nat.le_refl _)
  rw [rmade_cells] at ho
  have hb1 : Below V.heap.size V w1 := (Below.refl _ _).grown hg (Nat.le_refl _) (fun k e => by cases e)
  have hbw := hbV.trans (hb1.mono hbV.size)
  have hz1' := (hb1.block w.heap.size (by omega)).trans hz
  obtain ⟨Y, hY, hY1, hY2, r0, r1, r2, r3, r4, f0, f1, f2, f3, f4⟩ := ret5 hz1' (.slice (some ⟨V.heap.size, 0, none⟩) n n) (.int .i64 (m : Int)) (.bool false) (.int .i64 0) (.bool false)
  have HY := Lib.hid hY
  have HY1 := Lib.hid hY1
  have HV := Lib.hid hV
  have HR := Lib.hid hr
  have HN := Lib.hid hn
  have HM := Lib.hid hm
  have HFIN := Lib.hid (show RPN w ⟨List.replicate n ⟨[], []⟩, m, none, false⟩ (.returned (.agg #[.slice (some ⟨V.heap.size, 0, none⟩) n n, .int .i64 (m : Int), .bool false, .int .i64 0, .bool false])) Y from by
    refine ⟨⟨some ⟨V.heap.size, 0, none⟩, n, List.replicate n RX.empty, 0⟩, by unfold RT.v; rw [List.length_replicate]; rfl, only_below hbw hY2 (Nat.le_refl _), fun W hW => ⟨?_, by rw [List.map_replicate]; rfl, fun _ e => by cases e⟩⟩
    refine RAreas.of_row (base := V.heap.size) ?_ (fun x hx => ?_)
    · rw [List.length_replicate, rempty_cells]
      exact row_keep ho fun q e hl => (hW q (by have := (row_blk ho e).1; omega) (by rw [hY2.size]; exact hl)).trans (hY2.block q (by have := (row_blk ho e).1; omega))
    · obtain rfl := (List.mem_replicate.1 hx).2
      exact ⟨SlAt.none W, SlAt.none W, StepsAt.none W⟩)
  have q1 : (n : Int) ≤ 9223372036854775807 := by omega
  clear hr ho hg hi hz0 hz1 hz2 hY hY1 hY2 hV hbV hz hs hb1 hbw hz1'
  go_enter Try.func29, Try.ntmps29
  go_wp2_with fail
  rw [HV.out, HR.out]
  go_wp2_with fail
  rw [HY.out]
  exact bodyPost_ret (results_cell_row rfl _ _ _ _ _ (0, 0) _ rfl HY1.out Try.underlying57 rfl (by kernel_rfl)) rfl HFIN.out
end Go.Proofs.Ytojkifcclgecoaa.Dk
