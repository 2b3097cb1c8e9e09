/-
  The document's own Sync.
-/
import Derived.Test.YtojkifcclgecoaaDkRefR
namespace Go.Proofs.Ytojkifcclgecoaa.Dk
open Go Go.RowKit Go.Shelf Go.Proofs

theorem modify_set {u : DDk} {i : Nat} {y : DAr} (h : u.as[i]? = some y) : u.settle i = u.setA i ⟨y.now, []⟩ := by
  unfold DDk.settle DDk.setA
  congr 1
  apply List.ext_getElem?
  intro j
  rw [List.getElem?_modify, List.getElem?_set]
  by_cases hj : i = j
  · subst hj
    obtain ⟨hl, _⟩ := List.getElem?_eq_some_iff.1 h
    rw [if_pos hl, h]
    simp
  · simp [hj]
theorem sync_unit (d : DDk) (i : Nat) (h : d.dead = false) : d.sync i = if unitOk d then (unitD d).settle i else unitD d := by
  obtain ⟨L, room, pw, dead⟩ := d
  obtain rfl : dead = false := h
  unfold DDk.sync DDk.after DDk.spend
  cases pw with
  | none => rfl
  | some k =>
    cases k with
    | zero => rfl
    | succ k =>
      have e1 : min 1 (k + 1) = 1 := by omega
      simp only [e1, Nat.lt_irrefl, decide_false, Nat.zero_lt_one, if_true, Nat.add_sub_cancel]
      rfl
set_option maxRecDepth 100000 in
set_option maxHeartbeats 16000000 in
theorem rsync_any (w : World) (t : RT) (d : DDk) (a : Int) (n : Nat) (h : RefAt w t d) (hd : d.fits n) (_hn : n ≤ 100000) :
    Calls Try.prog 63 #[RT.v t d, .int .i64 a] w (RPE w t (syncD d a) (syncE d a)) := by
  obtain ⟨TA, TC, TR, TQ⟩ := t
  obtain ⟨V1, hV1⟩ : ∃ V, w.alloc (.cells #[.slice TA TR.length TC, .int .i64 (d.room : Int), .bool d.pw.isSome, .int .i64 TQ, .bool d.dead] 57) = V := ⟨_, rfl⟩
  obtain ⟨V2, hV2⟩ : ∃ V, V1.alloc (.cells #[.slice none 0 0, .int .i64 0, .bool false, .int .i64 0, .bool false] 57) = V := ⟨_, rfl⟩
  have hb1 : Below w.heap.size w V1 := by rw [← hV1]; exact (Below.refl _ _).alloc (Nat.le_refl _) _
  have hb2 : Below V1.heap.size V1 V2 := by rw [← hV2]; exact (Below.refl _ _).alloc (Nat.le_refl _) _
  have s1 : V1.heap.size = w.heap.size + 1 := by rw [← hV1]; simp
  have s2 : V2.heap.size = w.heap.size + 2 := by rw [← hV2]; simp [s1]
  have hbV : Below w.heap.size w V2 := hb1.trans (hb2.mono (by omega))
  have z0 : V2.heap[w.heap.size]? = some (.cells #[.slice TA TR.length TC, .int .i64 (d.room : Int), .bool d.pw.isSome, .int .i64 TQ, .bool d.dead] 57 (0, 0)) := (hb2.block _ (by omega)).trans (by rw [← hV1]; exact heap_alloc_new w _)
  have z1 : V2.heap[w.heap.size + 1]? = some (.cells #[.slice none 0 0, .int .i64 0, .bool false, .int .i64 0, .bool false] 57 (0, 0)) := by rw [← s1, ← hV2]; exact heap_alloc_new V1 _
  have HV := Lib.hid (show (w.alloc (.cells #[.slice TA TR.length TC, .int .i64 (d.room : Int), .bool d.pw.isSome, .int .i64 TQ, .bool d.dead] 57)).alloc (.cells #[.slice none 0 0, .int .i64 0, .bool false, .int .i64 0, .bool false] 57) = V2 by rw [hV1, hV2])
  have hmay := rmay_any V2 ⟨TA, TC, TR, TQ⟩ d a n (h.below hbV) hd
  unfold RT.v at hmay ⊢
  dsimp only at hmay ⊢
  have HH := Lib.hid h
  have HD := Lib.hid hd
  have h8 : TR.length ≤ 8 := by have h1 : d.as.length = TR.length := h.len; have h2 := hd.1; omega
  obtain ⟨E, hE⟩ : ∃ E, d.may a = E := ⟨_, rfl⟩
  have hE10 : E ≤ 10 := by rw [← hE]; unfold DDk.may DDk.state stateN; split <;> (try split) <;> omega
  rw [hE] at hmay
  have HME := Lib.hid hE
  have HMAY := Lib.hid hmay
  have HBV := Lib.hid hbV
  have Z0 := Lib.hid z0
  have Z1 := Lib.hid z1
  clear hmay h hd hV1 hV2 hb1 hb2 s1 hbV z0 z1 hE
  obtain ⟨DD, hDD⟩ : ∃ D, syncD d a = D := ⟨_, rfl⟩
  obtain ⟨EE, hEE⟩ : ∃ E, syncE d a = E := ⟨_, rfl⟩
  rw [hDD, hEE]
  have HDD := Lib.hid hDD.symm
  have HEE := Lib.hid hEE.symm
  clear hDD hEE
  go_enter Try.func63, Try.ntmps63
  go_wp2_with fail
  rw [HV.out]
  refine HMAY.out.mono ?_
  rintro e w1 ⟨rfl, hb1⟩
  have hbw1 := HBV.out.trans (hb1.mono (by omega))
  have p0 := (hb1.block _ (by omega)).trans Z0.out
  have p1 := (hb1.block _ (by omega)).trans Z1.out
  have hs1 := hb1.size
  have x0 := cell_of_row w1 w.heap.size 0 _ _ _ p0
  have x1 := cell_of_row w1 w.heap.size 1 _ _ _ p0
  have x2 := cell_of_row w1 w.heap.size 2 _ _ _ p0
  have x3 := cell_of_row w1 w.heap.size 3 _ _ _ p0
  have x4 := cell_of_row w1 w.heap.size 4 _ _ _ p0
  by_cases hE0 : E = 0
  · subst hE0
    obtain ⟨i, rfl, hi, hdead⟩ : ∃ i : Nat, a = (i : Int) ∧ i < d.as.length ∧ d.dead = false := by
      obtain ⟨h1, h2, h3⟩ := may_zero HME.out
      exact ⟨a.toNat, by omega, h3, h1⟩
    have HDN := Lib.hid hdead
    clear hdead
    have hil : i < TR.length := by have h1 : d.as.length = TR.length := HH.out.len; omega
    obtain ⟨x, g, o, hx, hax, hA, ca, _, _, hxo⟩ := (HH.out.below hbw1).at_ hil
    have hA : TA = some ⟨g, o, none⟩ := hA
    subst hA
    dsimp only at hx
    have k2 : (i : Int) < (TR.length : Int) := by omega
    have k3 : (i : Int) < (TC : Int) := by have := HH.out.areas.cap; dsimp only at this; omega
    have hEE1 : EE = (d.sync i).state := by rw [HEE.out]; unfold syncE; rw [HME.out, if_neg (by omega), Int.toNat_natCast]
    have hDD1 : DD = d.sync i := by rw [HDD.out]; unfold syncD; rw [HME.out, if_neg (by omega), Int.toNat_natCast]
    rw [← hDD1] at hEE1
    rw [sync_unit d i HDN.out] at hDD1
    have HF := Lib.hid (show DD.fits n by rw [HDD.out]; exact syncD_fits HD.out _)
    have HEE := Lib.hid hEE1
    have HHR := Lib.hid HH.out.areas
    have hun := runit_any w1 ⟨some ⟨g, o, none⟩, TC, TR, TQ⟩ d (HH.out.below hbw1) HD.out.2.2.1 HDN.out
    unfold RT.v at hun
    have HUN := Lib.hid hun
    have HD1 := Lib.hid hDD1
    clear hun hEE1 hDD1
    go_wp2_with fail
    refine HUN.out.mono ?_
    rintro e w2 ⟨qq, rfl, h1, hbu⟩
    obtain ⟨u, hu⟩ : ∃ u, unitD d = u := ⟨_, rfl⟩
    have hDD1 := HD1.out
    rw [hu] at h1 hDD1 ⊢
    unfold RT.v
    dsimp only
    have hbw2 := hbw1.trans (hbu.mono hbw1.size)
    have hs2 := hbu.size
    have hba : Below w2.heap.size w2 (w2.alloc (.cells #[.slice (some ⟨g, o, none⟩) TR.length TC, .int .i64 (u.room : Int), .bool u.pw.isSome, .int .i64 qq, .bool u.dead] 57)) := (Below.refl _ _).alloc (Nat.le_refl _) _
    have hal := heap_alloc_new w2 (.cells #[.slice (some ⟨g, o, none⟩) TR.length TC, .int .i64 (u.room : Int), .bool u.pw.isSome, .int .i64 qq, .bool u.dead] 57)
    obtain ⟨w3, hw3⟩ : ∃ w3, w2.alloc (.cells #[.slice (some ⟨g, o, none⟩) TR.length TC, .int .i64 (u.room : Int), .bool u.pw.isSome, .int .i64 qq, .bool u.dead] 57) = w3 := ⟨_, rfl⟩
    rw [hw3] at hba hal
    have hs3 : w3.heap.size = w2.heap.size + 1 := by rw [← hw3]; simp
    have hbw3 := hbw2.trans (hba.mono hbw2.size)
    have HW3 := Lib.hid hw3
    have hb13 : Below w1.heap.size w1 w3 := hbu.trans (hba.mono hbu.size)
    have HU3 := Lib.hid hal
    have HZ3 := Lib.hid ((hb13.block (w.heap.size + 1) (by omega)).trans p1)
    have HCA := Lib.hid ((hb13.cell (p := ⟨g, o + i * 3, none⟩) (World.block_lt_of_cell? w1 (a := ⟨g, o + i * 3, none⟩) ca)).trans ca)
    have hru : ∀ W, RAreas W (some ⟨g, o, none⟩) TC TR → RefAt W ⟨some ⟨g, o, none⟩, TC, TR, qq⟩ u := fun W hW => ⟨hW, by rw [← hu, (unit_parts d).1]; exact HH.out.as_, h1⟩
    have HRU := Lib.hid hru
    have HUF := Lib.hid (show u.fits n by rw [← hu]; exact unit_fits HD.out)
    have hux : u.as[i]? = some x.a := by rw [← hu, (unit_parts d).1]; exact hax
    cases hok : unitOk d with
    | false =>
      clear HD1
      rw [hok, if_neg Bool.false_ne_true] at hDD1
      subst hDD1
      have HBX := HU3
      have HZX := HZ3
      have HBW := Lib.hid hbw3
      have HGE := Lib.hid (show w2.heap.size + 1 ≤ w3.heap.size ∧ w.heap.size + 2 ≤ w2.heap.size by omega)
      have HST := Lib.hid (show Stand (w.heap.size + 2) w3 ⟨some ⟨g, o, none⟩, TC, TR, TQ⟩ ⟨some ⟨g, o, none⟩, TC, TR, qq⟩ DD from fun W _ hR => HRU.out W hR)
      have HLEN := Lib.hid (show i < DD.as.length from (List.getElem?_eq_some_iff.1 hux).1)
      clear hw3 hba hal hbu h1 hu hb13 ca hx hax hxo hux hru p0 p1 HUN
      go_upto_region 7 with (fail)
      rw [HW3.out]
      clear x0 x1 x2 x3 x4
      have hbd : Below w.heap.size w w3.drew := HBW.out.trans ((jn_drewn w3).mono HBW.out.size)
      have href : RefAt w3.drew ⟨some ⟨g, o, none⟩, TC, TR, qq⟩ DD := HST.out w3.drew (fun _ _ _ => rfl) (HHR.out.below hbd)
      have hmay := rmay_any w3.drew ⟨some ⟨g, o, none⟩, TC, TR, qq⟩ DD (i : Int) (n) href HF.out
      unfold RT.v at hmay
      dsimp only at hmay
      rw [may_state HLEN.out, ← HEE.out] at hmay
      have HMAY2 := Lib.hid hmay
      have c0 := cell_of_row w3 _ 0 _ _ _ HBX.out
      have c1 := cell_of_row w3 _ 1 _ _ _ HBX.out
      have c2 := cell_of_row w3 _ 2 _ _ _ HBX.out
      have c3 := cell_of_row w3 _ 3 _ _ _ HBX.out
      have c4 := cell_of_row w3 _ 4 _ _ _ HBX.out
      clear hmay hbd href
      go_wp2_with fail
      refine wp_region_held_drew (S := (fun w' => w'.cell? ⟨w2.heap.size, 0, none⟩ = some (.slice (some ⟨g, o, none⟩) TR.length TC) ∧ w'.cell? ⟨w2.heap.size, 1, none⟩ = some (.int .i64 (DD.room : Int)) ∧ w'.cell? ⟨w2.heap.size, 2, none⟩ = some (.bool DD.pw.isSome) ∧ w'.cell? ⟨w2.heap.size, 3, none⟩ = some (.int .i64 qq) ∧ w'.cell? ⟨w2.heap.size, 4, none⟩ = some (.bool DD.dead))) (by kernel_rfl) ⟨c0, c1, c2, c3, c4⟩ (fun hHeld => ?_)
      refine wpAnyH_take (i := 0) (v := ?vt0) rfl (by kernel_rfl) (by kernel_rfl) (by kernel_rfl) (fun _ _ _ h => h) (Or.inl ⟨by rfl, ?yt0⟩) (by assumption) ?rt0
      case yt0 =>
        intro w hSw
        (try dsimp only at hSw)
        go_simp
        first | done | with_reducible rfl
      try simp only [Act.put, List.getElem_toArray, List.getElem_cons_zero, List.setIfInBounds_toArray, List.set_cons_zero, List.set_cons_succ]
      refine wpAnyH_take (i := 1) (v := ?vt1) rfl (by kernel_rfl) (by kernel_rfl) (by kernel_rfl) (fun _ _ _ h => h) (Or.inl ⟨by rfl, ?yt1⟩) (by assumption) ?rt1
      case yt1 =>
        intro w hSw
        (try dsimp only at hSw)
        go_simp
        first | done | with_reducible rfl
      try simp only [Act.put, List.getElem_toArray, List.getElem_cons_zero, List.getElem_cons_succ, List.setIfInBounds_toArray, List.set_cons_zero, List.set_cons_succ]
      refine wpAnyH_take (i := 2) (v := ?vt2) rfl (by kernel_rfl) (by kernel_rfl) (by kernel_rfl) (fun _ _ _ h => h) (Or.inl ⟨by rfl, ?yt2⟩) (by assumption) ?rt2
      case yt2 =>
        intro w hSw
        (try dsimp only at hSw)
        go_simp
        first | done | with_reducible rfl
      try simp only [Act.put, List.getElem_toArray, List.getElem_cons_zero, List.getElem_cons_succ, List.setIfInBounds_toArray, List.set_cons_zero, List.set_cons_succ]
      refine wpAnyH_ready (rs := [3]) (by kernel_rfl) (by simp) ?_
      refine AllReadyH.cons rfl (fun K hK => ?_) AllReadyH.nil
      go_simp
      refine HMAY2.out.mono ?_
      rintro e w8 ⟨rfl, hb8'⟩
      have hb8 : Below w3.heap.size w3 w8 := (jn_drewn w3).trans hb8'
      have HB8 := Lib.hid hb8
      have hz8 := (hb8.block (w2.heap.size) (by have := HGE.out; omega)).trans HBX.out
      have hy8 := (hb8.block (w.heap.size + 1) (by have := HGE.out; omega)).trans HZX.out
      have e0 := cell_of_row w8 _ 0 _ _ _ hz8
      have e1 := cell_of_row w8 _ 1 _ _ _ hz8
      have e2 := cell_of_row w8 _ 2 _ _ _ hz8
      have e3 := cell_of_row w8 _ 3 _ _ _ hz8
      have e4 := cell_of_row w8 _ 4 _ _ _ hz8
      have HZ8 := Lib.hid hz8
      have HY8 := Lib.hid hy8
      clear hz8 hy8 hb8 hb8'
      go_wp2_with fail
      refine hK.out _ _ ⟨e0, e1, e2, e3, e4⟩ (fun hHeld => ?_)
      clear hK K
      try simp only [Act.put, List.getElem_toArray, List.getElem_cons_zero, List.getElem_cons_succ, List.setIfInBounds_toArray, List.set_cons_zero, List.set_cons_succ]
      refine wpAnyH_ready (rs := [4]) (by kernel_rfl) (by simp) ?_
      refine AllReadyH.cons rfl (fun K hK => ?_) AllReadyH.nil
      refine wp_store_mid 57 (.tmp 4) (.tmp 38) rfl (w.heap.size + 1) 0 #[.slice (some ⟨g, o, none⟩) TR.length TC, .int .i64 (DD.room : Int), .bool DD.pw.isSome, .int .i64 qq, .bool DD.dead] rfl rfl (fun j hj => there5 HY8.out hj) (by kernel_rfl) (by simp [Value.oneCell']) ?_
      have hst := store5 HY8.out (.slice (some ⟨g, o, none⟩) TR.length TC) (.int .i64 (DD.room : Int)) (.bool DD.pw.isSome) (.int .i64 qq) (.bool DD.dead)
      obtain ⟨w9, hw9⟩ : ∃ w9, w8.setCells (w.heap.size + 1) 0 [.slice (some ⟨g, o, none⟩) TR.length TC, .int .i64 (DD.room : Int), .bool DD.pw.isSome, .int .i64 qq, .bool DD.dead] = w9 := ⟨_, rfl⟩
      rw [show (#[Value.slice (some ⟨g, o, none⟩) TR.length TC, .int .i64 (DD.room : Int), .bool DD.pw.isSome, .int .i64 qq, .bool DD.dead] : Array Value).toList = [.slice (some ⟨g, o, none⟩) TR.length TC, .int .i64 (DD.room : Int), .bool DD.pw.isSome, .int .i64 qq, .bool DD.dead] from rfl, hw9]
      rw [hw9] at hst
      have HST9 := Lib.hid hst.1
      have HO9 := Lib.hid hst.2
      have hz9 := (hst.2.block (w2.heap.size) (by omega)).trans HZ8.out
      have k0 := cell_of_row w9 _ 0 _ _ _ hz9
      have k1 := cell_of_row w9 _ 1 _ _ _ hz9
      have k2 := cell_of_row w9 _ 2 _ _ _ hz9
      have k3 := cell_of_row w9 _ 3 _ _ _ hz9
      have k4 := cell_of_row w9 _ 4 _ _ _ hz9
      clear hst hw9
      refine hK.out _ _ ⟨k0, k1, k2, k3, k4⟩ (fun hHeld => ?_)
      clear hK K
      try simp only [Act.put, List.getElem_toArray, List.getElem_cons_zero, List.getElem_cons_succ]
      refine wpAnyH_take (i := 5) (v := ?vt5) rfl (by kernel_rfl) (by kernel_rfl) (by kernel_rfl) (fun _ _ _ h => h) (Or.inl ⟨by rfl, ?yt5⟩) (by assumption) ?rt5
      case yt5 =>
        intro w hSw
        (try dsimp only at hSw)
        go_simp
        first | done | with_reducible rfl
      try simp only [Act.put, List.getElem_toArray, List.getElem_cons_zero, List.getElem_cons_succ, List.setIfInBounds_toArray, List.set_cons_zero, List.set_cons_succ]
      refine wpAnyH_done (by kernel_rfl) ?_ _
      have hbw8 := HBW.out.trans (HB8.out.mono HBW.out.size)
      have hs8 := HB8.out.size
      have hsB := HGE.out
      have HFIN := Lib.hid (show RPE w ⟨some ⟨g, o, none⟩, TC, TR, TQ⟩ DD EE (.returned (.tuple #[.agg #[.slice (some ⟨g, o, none⟩) TR.length TC, .int .i64 (DD.room : Int), .bool DD.pw.isSome, .int .i64 qq, .bool DD.dead], .int .i64 (EE : Nat)])) w9 from
        ⟨⟨some ⟨g, o, none⟩, TC, TR, qq⟩, by unfold RT.v; rfl, only_below hbw8 HO9.out (by omega), fun W hW hR => ((HST.out.below HB8.out).only HO9.out (by omega)) W (fun b h1 h2 => hW b (by omega) h2) hR⟩)
      skip
      go_wp2_with fail
      exact bodyPost_ret (results_ct rfl _ _ _ _ _ (0, 0) _ (.int .i64 (EE : Nat)) rfl rfl HST9.out Try.underlying57 rfl (by kernel_rfl)) rfl HFIN.out

    | true =>
      rw [hok, if_pos rfl, modify_set hux] at hDD1
      obtain ⟨xn, hxn⟩ : ∃ q, x.a.now.length = q := ⟨_, rfl⟩
      rw [hxn] at ca HCA
      have hxk : ∀ W, x.ok W → RX.ok W ⟨x.nA, x.nc, x.nA, x.nc, none, 0, ⟨x.a.now, []⟩⟩ := fun W hW => ⟨hW.n, hW.n, StepsAt.none W⟩
      have hset := rset_any w3.drew ⟨some ⟨g, o, none⟩, TC, TR, qq⟩ u i n ⟨x.nA, x.nc, x.nA, x.nc, none, 0, ⟨x.a.now, []⟩⟩ (hru _ (HHR.out.below (hbw3.trans ((jn_drewn w3).mono hbw3.size)))) HUF.out hil (hxk _ (hxo.below (hb13.trans ((jn_drewn w3).mono hb13.size))))
      rw [← hDD1] at hset
      unfold RT.v RX.v at hset
      have hnow : (⟨x.a.now, []⟩ : DAr).now = x.a.now := rfl
      rw [hnow] at hset
      dsimp only [List.length_nil] at hset
      rw [hxn] at hset
      have HSET := Lib.hid hset
      have HXK := Lib.hid hxk
      have HXM := Lib.hid (List.mem_of_getElem? hx)
      have HDU := Lib.hid (show DD.room = u.room ∧ DD.pw = u.pw ∧ DD.dead = u.dead by rw [hDD1]; exact ⟨rfl, rfl, rfl⟩)
      have HLEN := Lib.hid (show i < DD.as.length by rw [hDD1]; show i < (u.as.set i _).length; rw [List.length_set]; exact (List.getElem?_eq_some_iff.1 hux).1)
      have HBW3 := Lib.hid hbw3
      clear hw3 hba hal hbu h1 hu hb13 hx hax hxo hux hru p0 p1 HUN hset hxk hnow hDD1
      go_upto_region 6 with (fail)
      rw [HW3.out]
      have ca := HCA.out
      have c0 := cell_of_row w3 _ 0 _ _ _ HU3.out
      have c1 := cell_of_row w3 _ 1 _ _ _ HU3.out
      have c2 := cell_of_row w3 _ 2 _ _ _ HU3.out
      have c3 := cell_of_row w3 _ 3 _ _ _ HU3.out
      have c4 := cell_of_row w3 _ 4 _ _ _ HU3.out
      have hHeld := (show _ ∧ _ ∧ _ ∧ _ ∧ _ ∧ _ from ⟨c0, c1, c2, c3, c4, ca⟩)
      clear x0 x1 x2 x3 x4
      refine wp_region_last (fun w' => w'.cell? ⟨w2.heap.size, 0, none⟩ = some (.slice (some ⟨g, o, none⟩) TR.length TC) ∧ w'.cell? ⟨w2.heap.size, 1, none⟩ = some (.int .i64 (u.room : Int)) ∧ w'.cell? ⟨w2.heap.size, 2, none⟩ = some (.bool u.pw.isSome) ∧ w'.cell? ⟨w2.heap.size, 3, none⟩ = some (.int .i64 qq) ∧ w'.cell? ⟨w2.heap.size, 4, none⟩ = some (.bool u.dead) ∧ w'.cell? ⟨g, o + i * 3, none⟩ = some (.slice x.nA xn x.nc)) 16 (by kernel_rfl) ?_
      refine wpAnyL_take (i := 0) (v := ?vl0) rfl (by kernel_rfl) (by kernel_rfl) (by kernel_rfl) (by kernel_rfl) (by kernel_rfl) (fun _ _ _ h => h) hHeld (Or.inl ⟨by rfl, ?yl0⟩) ?rl0
      case yl0 =>
        intro w hSw
        (try dsimp only at hSw)
        go_simp
        first | done | with_reducible rfl
      try simp only [Act.put, List.getElem_toArray, List.getElem_cons_zero, List.setIfInBounds_toArray, List.set_cons_zero, List.set_cons_succ]
      refine wpAnyL_take (i := 1) (v := ?vl1) rfl (by kernel_rfl) (by kernel_rfl) (by kernel_rfl) (by kernel_rfl) (by kernel_rfl) (fun _ _ _ h => h) hHeld (Or.inl ⟨by rfl, ?yl1⟩) ?rl1
      case yl1 =>
        intro w hSw
        (try dsimp only at hSw)
        go_simp
        first | done | with_reducible rfl
      try simp only [Act.put, List.getElem_toArray, List.getElem_cons_zero, List.getElem_cons_succ, List.setIfInBounds_toArray, List.set_cons_zero, List.set_cons_succ]
      refine wpAnyL_take (i := 2) (v := ?vl2) rfl (by kernel_rfl) (by kernel_rfl) (by kernel_rfl) (by kernel_rfl) (by kernel_rfl) (fun _ _ _ h => h) hHeld (Or.inl ⟨by rfl, ?yl2⟩) ?rl2
      case yl2 =>
        intro w hSw
        (try dsimp only at hSw)
        go_simp
        first | done | with_reducible rfl
      try simp only [Act.put, List.getElem_toArray, List.getElem_cons_zero, List.getElem_cons_succ, List.setIfInBounds_toArray, List.set_cons_zero, List.set_cons_succ]
      refine wpAnyL_take (i := 3) (v := ?vl3) rfl (by kernel_rfl) (by kernel_rfl) (by kernel_rfl) (by kernel_rfl) (by kernel_rfl) (fun _ _ _ h => h) hHeld (Or.inl ⟨by rfl, ?yl3⟩) ?rl3
      case yl3 =>
        intro w hSw
        (try dsimp only at hSw)
        go_simp
        first | done | with_reducible rfl
      try simp only [Act.put, List.getElem_toArray, List.getElem_cons_zero, List.getElem_cons_succ, List.setIfInBounds_toArray, List.set_cons_zero, List.set_cons_succ]
      refine wpAnyL_take (i := 4) (v := ?vl4) rfl (by kernel_rfl) (by kernel_rfl) (by kernel_rfl) (by kernel_rfl) (by kernel_rfl) (fun _ _ _ h => h) hHeld (Or.inl ⟨by rfl, ?yl4⟩) ?rl4
      case yl4 =>
        intro w hSw
        (try dsimp only at hSw)
        go_simp
        first | done | with_reducible rfl
      try simp only [Act.put, List.getElem_toArray, List.getElem_cons_zero, List.getElem_cons_succ, List.setIfInBounds_toArray, List.set_cons_zero, List.set_cons_succ]
      refine wpAnyL_take (i := 5) (v := ?vl5) rfl (by kernel_rfl) (by kernel_rfl) (by kernel_rfl) (by kernel_rfl) (by kernel_rfl) (fun _ _ _ h => h) hHeld (Or.inl ⟨by rfl, ?yl5⟩) ?rl5
      case yl5 =>
        intro w hSw
        (try dsimp only at hSw)
        go_simp
        first | done | with_reducible rfl
      try simp only [Act.put, List.getElem_toArray, List.getElem_cons_zero, List.getElem_cons_succ, List.setIfInBounds_toArray, List.set_cons_zero, List.set_cons_succ]
      refine wpAnyL_take (i := 6) (v := ?vl6) rfl (by kernel_rfl) (by kernel_rfl) (by kernel_rfl) (by kernel_rfl) (by kernel_rfl) (fun _ _ _ h => h) hHeld (Or.inl ⟨by rfl, ?yl6⟩) ?rl6
      case yl6 =>
        intro w hSw
        (try dsimp only at hSw)
        go_simp
        first | done | with_reducible rfl
      try simp only [Act.put, List.getElem_toArray, List.getElem_cons_zero, List.getElem_cons_succ, List.setIfInBounds_toArray, List.set_cons_zero, List.set_cons_succ]
      refine wpAnyL_take (i := 7) (v := ?vl7) rfl (by kernel_rfl) (by kernel_rfl) (by kernel_rfl) (by kernel_rfl) (by kernel_rfl) (fun _ _ _ h => h) hHeld (Or.inl ⟨by rfl, ?yl7⟩) ?rl7
      case yl7 =>
        intro w hSw
        (try dsimp only at hSw)
        go_simp
        first | done | with_reducible rfl
      try simp only [Act.put, List.getElem_toArray, List.getElem_cons_zero, List.getElem_cons_succ, List.setIfInBounds_toArray, List.set_cons_zero, List.set_cons_succ]
      refine wpAnyL_take (i := 8) (v := ?vl8) rfl (by kernel_rfl) (by kernel_rfl) (by kernel_rfl) (by kernel_rfl) (by kernel_rfl) (fun _ _ _ h => h) hHeld (Or.inl ⟨by rfl, ?yl8⟩) ?rl8
      case yl8 =>
        intro w hSw
        (try dsimp only at hSw)
        go_simp
        first | done | with_reducible rfl
      try simp only [Act.put, List.getElem_toArray, List.getElem_cons_zero, List.getElem_cons_succ, List.setIfInBounds_toArray, List.set_cons_zero, List.set_cons_succ]
      refine wpAnyL_take (i := 9) (v := ?vl9) rfl (by kernel_rfl) (by kernel_rfl) (by kernel_rfl) (by kernel_rfl) (by kernel_rfl) (fun _ _ _ h => h) hHeld (Or.inl ⟨by rfl, ?yl9⟩) ?rl9
      case yl9 =>
        intro w hSw
        (try dsimp only at hSw)
        go_simp
        first | done | with_reducible rfl
      try simp only [Act.put, List.getElem_toArray, List.getElem_cons_zero, List.getElem_cons_succ, List.setIfInBounds_toArray, List.set_cons_zero, List.set_cons_succ]
      refine wpAnyL_take (i := 10) (v := ?vl10) rfl (by kernel_rfl) (by kernel_rfl) (by kernel_rfl) (by kernel_rfl) (by kernel_rfl) (fun _ _ _ h => h) hHeld (Or.inl ⟨by rfl, ?yl10⟩) ?rl10
      case yl10 =>
        intro w hSw
        (try dsimp only at hSw)
        go_simp
        first | done | with_reducible rfl
      try simp only [Act.put, List.getElem_toArray, List.getElem_cons_zero, List.getElem_cons_succ, List.setIfInBounds_toArray, List.set_cons_zero, List.set_cons_succ]
      refine wpAnyL_take (i := 11) (v := ?vl11) rfl (by kernel_rfl) (by kernel_rfl) (by kernel_rfl) (by kernel_rfl) (by kernel_rfl) (fun _ _ _ h => h) hHeld (Or.inl ⟨by rfl, ?yl11⟩) ?rl11
      case yl11 =>
        intro w hSw
        (try dsimp only at hSw)
        go_simp
        first | done | with_reducible rfl
      try simp only [Act.put, List.getElem_toArray, List.getElem_cons_zero, List.getElem_cons_succ, List.setIfInBounds_toArray, List.set_cons_zero, List.set_cons_succ]
      refine wpAnyL_take (i := 12) (v := ?vl12) rfl (by kernel_rfl) (by kernel_rfl) (by kernel_rfl) (by kernel_rfl) (by kernel_rfl) (fun _ _ _ h => h) hHeld (Or.inl ⟨by rfl, ?yl12⟩) ?rl12
      case yl12 =>
        intro w hSw
        (try dsimp only at hSw)
        go_simp
        first | done | with_reducible rfl
      try simp only [Act.put, List.getElem_toArray, List.getElem_cons_zero, List.getElem_cons_succ, List.setIfInBounds_toArray, List.set_cons_zero, List.set_cons_succ]
      refine wpAnyL_take (i := 13) (v := ?vl13) rfl (by kernel_rfl) (by kernel_rfl) (by kernel_rfl) (by kernel_rfl) (by kernel_rfl) (fun _ _ _ h => h) hHeld (Or.inl ⟨by rfl, ?yl13⟩) ?rl13
      case yl13 =>
        intro w hSw
        (try dsimp only at hSw)
        go_simp
        first | done | with_reducible rfl
      try simp only [Act.put, List.getElem_toArray, List.getElem_cons_zero, List.getElem_cons_succ, List.setIfInBounds_toArray, List.set_cons_zero, List.set_cons_succ]
      refine wpAnyL_take (i := 14) (v := ?vl14) rfl (by kernel_rfl) (by kernel_rfl) (by kernel_rfl) (by kernel_rfl) (by kernel_rfl) (fun _ _ _ h => h) hHeld (Or.inl ⟨by rfl, ?yl14⟩) ?rl14
      case yl14 =>
        intro w hSw
        (try dsimp only at hSw)
        go_simp
        first | done | with_reducible rfl
      try simp only [Act.put, List.getElem_toArray, List.getElem_cons_zero, List.getElem_cons_succ, List.setIfInBounds_toArray, List.set_cons_zero, List.set_cons_succ]
      refine wpAnyL_one (i := 15) (by kernel_rfl) rfl rfl (fun K hK => ?_)
      go_simp
      refine HSET.out.mono ?_
      rintro e w5 ⟨t5, rfl, hb5', h5⟩
      obtain ⟨A5, C5, R5, Q5⟩ := t5
      have hb5 : Below w3.heap.size w3 w5 := (jn_drewn w3).trans hb5'
      have HB5 := Lib.hid hb5
      have H5 := Lib.hid h5
      have hz5 := (hb5.block w2.heap.size (by omega)).trans HU3.out
      have e0 := cell_of_row w5 _ 0 _ _ _ hz5
      have e1 := cell_of_row w5 _ 1 _ _ _ hz5
      have e2 := cell_of_row w5 _ 2 _ _ _ hz5
      have e3 := cell_of_row w5 _ 3 _ _ _ hz5
      have e4 := cell_of_row w5 _ 4 _ _ _ hz5
      have cb5 := (hb5.cell (p := ⟨g, o + i * 3, none⟩) (World.block_lt_of_cell? w3 (a := ⟨g, o + i * 3, none⟩) HCA.out)).trans HCA.out
      unfold RT.v
      dsimp only
      go_wp2_with fail
      have hHeld := (show _ ∧ _ ∧ _ ∧ _ ∧ _ ∧ _ from ⟨e0, e1, e2, e3, e4, cb5⟩)
      refine hK.out _ _ (fun _ => hHeld) ?_
      clear hK K
      try simp only [Act.put, List.getElem_toArray, List.getElem_cons_zero, List.getElem_cons_succ, List.setIfInBounds_toArray, List.set_cons_zero, List.set_cons_succ]
      refine wpAnyL_one (i := 16) (by kernel_rfl) rfl rfl (fun K hK => ?_)
      refine wp_store_mid 57 (.tmp 7) (.tmp 37) rfl w2.heap.size 0 #[.slice A5 R5.length C5, .int .i64 (DD.room : Int), .bool DD.pw.isSome, .int .i64 Q5, .bool DD.dead] rfl rfl (fun j hj => there5 hz5 hj) (by kernel_rfl) (by simp [Value.oneCell']) ?_
      have hst := store5 hz5 (.slice A5 R5.length C5) (.int .i64 (DD.room : Int)) (.bool DD.pw.isSome) (.int .i64 Q5) (.bool DD.dead)
      obtain ⟨w6, hw6⟩ : ∃ w6, w5.setCells w2.heap.size 0 [.slice A5 R5.length C5, .int .i64 (DD.room : Int), .bool DD.pw.isSome, .int .i64 Q5, .bool DD.dead] = w6 := ⟨_, rfl⟩
      rw [show (#[Value.slice A5 R5.length C5, .int .i64 (DD.room : Int), .bool DD.pw.isSome, .int .i64 Q5, .bool DD.dead] : Array Value).toList = [.slice A5 R5.length C5, .int .i64 (DD.room : Int), .bool DD.pw.isSome, .int .i64 Q5, .bool DD.dead] from rfl, hw6]
      rw [hw6] at hst
      have HST6 := Lib.hid hst.1
      have HO6 := Lib.hid hst.2
      clear hst hz5 hw6
      refine hK.out _ _ (fun h => absurd rfl h) ?_
      clear hK K
      try simp only [Act.put, List.getElem_toArray, List.getElem_cons_zero, List.getElem_cons_succ]
      refine wpAnyL_done (by kernel_rfl) ?_ _

      have HBX := HST6
      have hs5 := HB5.out.size
      have HZX := Lib.hid ((HO6.out.block (w.heap.size + 1) (by omega)).trans ((HB5.out.block _ (by omega)).trans HZ3.out))
      have HBW := Lib.hid (only_below (HBW3.out.trans (HB5.out.mono HBW3.out.size)) HO6.out (by omega))
      have HGE := Lib.hid (show w2.heap.size + 1 ≤ w6.heap.size ∧ w.heap.size + 2 ≤ w2.heap.size by rw [HO6.out.size]; omega)
      have HST := Lib.hid (show Stand (w.heap.size + 2) w6 ⟨some ⟨g, o, none⟩, TC, TR, TQ⟩ ⟨A5, C5, R5, Q5⟩ DD from fun W hW hR => H5.out W (fun b h1 h2 => by
        have h1 : w3.heap.size ≤ b := h1
        exact (hW b (by omega) (by rw [HO6.out.size]; exact h2)).trans (HO6.out.block b (by omega))) hR.each (HXK.out W (hR.each x HXM.out)))
      clear HSET HD1
      go_upto_region 7 with (fail)
      have hbd : Below w.heap.size w w6.drew := HBW.out.trans ((jn_drewn w6).mono HBW.out.size)
      have href : RefAt w6.drew ⟨A5, C5, R5, Q5⟩ DD := HST.out w6.drew (fun _ _ _ => rfl) (HHR.out.below hbd)
      have hmay := rmay_any w6.drew ⟨A5, C5, R5, Q5⟩ DD (i : Int) (n) href HF.out
      unfold RT.v at hmay
      dsimp only at hmay
      rw [may_state HLEN.out, ← HEE.out] at hmay
      have HMAY2 := Lib.hid hmay
      have c0 := cell_of_row w6 _ 0 _ _ _ HBX.out
      have c1 := cell_of_row w6 _ 1 _ _ _ HBX.out
      have c2 := cell_of_row w6 _ 2 _ _ _ HBX.out
      have c3 := cell_of_row w6 _ 3 _ _ _ HBX.out
      have c4 := cell_of_row w6 _ 4 _ _ _ HBX.out
      clear hmay hbd href
      go_wp2_with fail
      refine wp_region_held_drew (S := (fun w' => w'.cell? ⟨w2.heap.size, 0, none⟩ = some (.slice A5 R5.length C5) ∧ w'.cell? ⟨w2.heap.size, 1, none⟩ = some (.int .i64 (DD.room : Int)) ∧ w'.cell? ⟨w2.heap.size, 2, none⟩ = some (.bool DD.pw.isSome) ∧ w'.cell? ⟨w2.heap.size, 3, none⟩ = some (.int .i64 Q5) ∧ w'.cell? ⟨w2.heap.size, 4, none⟩ = some (.bool DD.dead))) (by kernel_rfl) ⟨c0, c1, c2, c3, c4⟩ (fun hHeld => ?_)
      refine wpAnyH_take (i := 0) (v := ?vu0) rfl (by kernel_rfl) (by kernel_rfl) (by kernel_rfl) (fun _ _ _ h => h) (Or.inl ⟨by rfl, ?yu0⟩) (by assumption) ?ru0
      case yu0 =>
        intro w hSw
        (try dsimp only at hSw)
        go_simp
        first | done | with_reducible rfl
      try simp only [Act.put, List.getElem_toArray, List.getElem_cons_zero, List.setIfInBounds_toArray, List.set_cons_zero, List.set_cons_succ]
      refine wpAnyH_take (i := 1) (v := ?vu1) rfl (by kernel_rfl) (by kernel_rfl) (by kernel_rfl) (fun _ _ _ h => h) (Or.inl ⟨by rfl, ?yu1⟩) (by assumption) ?ru1
      case yu1 =>
        intro w hSw
        (try dsimp only at hSw)
        go_simp
        first | done | with_reducible rfl
      try simp only [Act.put, List.getElem_toArray, List.getElem_cons_zero, List.getElem_cons_succ, List.setIfInBounds_toArray, List.set_cons_zero, List.set_cons_succ]
      refine wpAnyH_take (i := 2) (v := ?vu2) rfl (by kernel_rfl) (by kernel_rfl) (by kernel_rfl) (fun _ _ _ h => h) (Or.inl ⟨by rfl, ?yu2⟩) (by assumption) ?ru2
      case yu2 =>
        intro w hSw
        (try dsimp only at hSw)
        go_simp
        first | done | with_reducible rfl
      try simp only [Act.put, List.getElem_toArray, List.getElem_cons_zero, List.getElem_cons_succ, List.setIfInBounds_toArray, List.set_cons_zero, List.set_cons_succ]
      refine wpAnyH_ready (rs := [3]) (by kernel_rfl) (by simp) ?_
      refine AllReadyH.cons rfl (fun K hK => ?_) AllReadyH.nil
      go_simp
      refine HMAY2.out.mono ?_
      rintro e w8 ⟨rfl, hb8'⟩
      have hb8 : Below w6.heap.size w6 w8 := (jn_drewn w6).trans hb8'
      have HB8 := Lib.hid hb8
      have hz8 := (hb8.block (w2.heap.size) (by have := HGE.out; omega)).trans HBX.out
      have hy8 := (hb8.block (w.heap.size + 1) (by have := HGE.out; omega)).trans HZX.out
      have e0 := cell_of_row w8 _ 0 _ _ _ hz8
      have e1 := cell_of_row w8 _ 1 _ _ _ hz8
      have e2 := cell_of_row w8 _ 2 _ _ _ hz8
      have e3 := cell_of_row w8 _ 3 _ _ _ hz8
      have e4 := cell_of_row w8 _ 4 _ _ _ hz8
      have HZ8 := Lib.hid hz8
      have HY8 := Lib.hid hy8
      clear hz8 hy8 hb8 hb8'
      go_wp2_with fail
      refine hK.out _ _ ⟨e0, e1, e2, e3, e4⟩ (fun hHeld => ?_)
      clear hK K
      try simp only [Act.put, List.getElem_toArray, List.getElem_cons_zero, List.getElem_cons_succ, List.setIfInBounds_toArray, List.set_cons_zero, List.set_cons_succ]
      refine wpAnyH_ready (rs := [4]) (by kernel_rfl) (by simp) ?_
      refine AllReadyH.cons rfl (fun K hK => ?_) AllReadyH.nil
      refine wp_store_mid 57 (.tmp 4) (.tmp 38) rfl (w.heap.size + 1) 0 #[.slice A5 R5.length C5, .int .i64 (DD.room : Int), .bool DD.pw.isSome, .int .i64 Q5, .bool DD.dead] rfl rfl (fun j hj => there5 HY8.out hj) (by kernel_rfl) (by simp [Value.oneCell']) ?_
      have hst := store5 HY8.out (.slice A5 R5.length C5) (.int .i64 (DD.room : Int)) (.bool DD.pw.isSome) (.int .i64 Q5) (.bool DD.dead)
      obtain ⟨w9, hw9⟩ : ∃ w9, w8.setCells (w.heap.size + 1) 0 [.slice A5 R5.length C5, .int .i64 (DD.room : Int), .bool DD.pw.isSome, .int .i64 Q5, .bool DD.dead] = w9 := ⟨_, rfl⟩
      rw [show (#[Value.slice A5 R5.length C5, .int .i64 (DD.room : Int), .bool DD.pw.isSome, .int .i64 Q5, .bool DD.dead] : Array Value).toList = [.slice A5 R5.length C5, .int .i64 (DD.room : Int), .bool DD.pw.isSome, .int .i64 Q5, .bool DD.dead] from rfl, hw9]
      rw [hw9] at hst
      have HST9 := Lib.hid hst.1
      have HO9 := Lib.hid hst.2
      have hz9 := (hst.2.block (w2.heap.size) (by omega)).trans HZ8.out
      have k0 := cell_of_row w9 _ 0 _ _ _ hz9
      have k1 := cell_of_row w9 _ 1 _ _ _ hz9
      have k2 := cell_of_row w9 _ 2 _ _ _ hz9
      have k3 := cell_of_row w9 _ 3 _ _ _ hz9
      have k4 := cell_of_row w9 _ 4 _ _ _ hz9
      clear hst hw9
      refine hK.out _ _ ⟨k0, k1, k2, k3, k4⟩ (fun hHeld => ?_)
      clear hK K
      try simp only [Act.put, List.getElem_toArray, List.getElem_cons_zero, List.getElem_cons_succ]
      refine wpAnyH_take (i := 5) (v := ?vu5) rfl (by kernel_rfl) (by kernel_rfl) (by kernel_rfl) (fun _ _ _ h => h) (Or.inl ⟨by rfl, ?yu5⟩) (by assumption) ?ru5
      case yu5 =>
        intro w hSw
        (try dsimp only at hSw)
        go_simp
        first | done | with_reducible rfl
      try simp only [Act.put, List.getElem_toArray, List.getElem_cons_zero, List.getElem_cons_succ, List.setIfInBounds_toArray, List.set_cons_zero, List.set_cons_succ]
      refine wpAnyH_done (by kernel_rfl) ?_ _
      have hbw8 := HBW.out.trans (HB8.out.mono HBW.out.size)
      have hs8 := HB8.out.size
      have hsB := HGE.out
      have HFIN := Lib.hid (show RPE w ⟨some ⟨g, o, none⟩, TC, TR, TQ⟩ DD EE (.returned (.tuple #[.agg #[.slice A5 R5.length C5, .int .i64 (DD.room : Int), .bool DD.pw.isSome, .int .i64 Q5, .bool DD.dead], .int .i64 (EE : Nat)])) w9 from
        ⟨⟨A5, C5, R5, Q5⟩, by unfold RT.v; rfl, only_below hbw8 HO9.out (by omega), fun W hW hR => ((HST.out.below HB8.out).only HO9.out (by omega)) W (fun b h1 h2 => hW b (by omega) h2) hR⟩)
      skip
      go_wp2_with fail
      exact bodyPost_ret (results_ct rfl _ _ _ _ _ (0, 0) _ (.int .i64 (EE : Nat)) rfl rfl HST9.out Try.underlying57 rfl (by kernel_rfl)) rfl HFIN.out

  · have e3 : ((E : Int) != 0) = true := by simp; omega
    have e1 : ((E : Int) == 0) = false := by simp; omega
    have e2 : ((E : Int) = 0) = False := eq_false (by omega)
    have HEE := Lib.hid (show EE = E from by rw [HEE.out]; unfold syncE; rw [HME.out, if_pos hE0])
    have HDD := Lib.hid (show DD = d from by rw [HDD.out]; unfold syncD; rw [HME.out, if_pos hE0])
    have c0 := cell_of_row w1 w.heap.size 0 _ _ _ p0
    have c1 := cell_of_row w1 w.heap.size 1 _ _ _ p0
    have c2 := cell_of_row w1 w.heap.size 2 _ _ _ p0
    have c3 := cell_of_row w1 w.heap.size 3 _ _ _ p0
    have c4 := cell_of_row w1 w.heap.size 4 _ _ _ p0
    obtain ⟨Y, hY, hY1, hY2, r0, r1, r2, r3, r4, f0, f1, f2, f3, f4⟩ := ret5 p1 (.slice TA TR.length TC) (.int .i64 (d.room : Int)) (.bool d.pw.isSome) (.int .i64 TQ) (.bool d.dead)
    have HY := Lib.hid hY
    have HY1 := Lib.hid hY1
    have hbY : Below w.heap.size w Y := ⟨hY2.os.trans hbw1.os, hY2.tape.trans hbw1.tape, hY2.output.trans hbw1.output, by rw [hY2.size]; exact hbw1.size, fun q hq => (hY2.block q (by omega)).trans (hbw1.block q hq)⟩
    have HFIN := Lib.hid (show RPE w ⟨TA, TC, TR, TQ⟩ DD EE (.returned (.tuple #[.agg #[.slice TA TR.length TC, .int .i64 (d.room : Int), .bool d.pw.isSome, .int .i64 TQ, .bool d.dead], .int .i64 (E : Nat)])) Y from by
      rw [HDD.out, HEE.out]
      exact ⟨⟨TA, TC, TR, TQ⟩, rfl, hbY, fun W _ hW => ⟨hW, HH.out.as_, HH.out.q⟩⟩)
    clear hY hY1 hY2 hbY
    go_wp2_with fail
    rw [HY.out]
    exact bodyPost_ret (results_ct rfl _ _ _ _ _ (0, 0) _ (.int .i64 (E : Nat)) rfl rfl HY1.out Try.underlying57 rfl (by kernel_rfl)) rfl HFIN.out
end Go.Proofs.Ytojkifcclgecoaa.Dk
