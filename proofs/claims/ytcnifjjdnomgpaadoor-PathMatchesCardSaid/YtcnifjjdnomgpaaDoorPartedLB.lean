/-
  The contract of the closure in path.parted at bytes: rows of items, one for each pattern; what failed is kept.
-/
import Derived.Test.YtcnifjjdnomgpaaDoorPartedB
import Derived.Deep.RegionHeld3
import Derived.BigQuiet
import Derived.Maps.OwnSet
import Derived.Deep.QuietTactic
namespace Go.Proofs.YtcnifjjdnomgpaaDoor
open Go Go.RowKit Go.Shelf Go.Proofs

set_option maxRecDepth 100000 in
set_option maxHeartbeats 4000000 in
/-- Any number of items; one is left at least. -/
theorem from_many1B (C : Caught) (many : UInt8 → Bool) (one : UInt8 → UInt8 → Bool) (ps is : List UInt8) (hps : ps.length ≤ 100000) (his : is.length ≤ 100000) (_hcp : C.cp ≤ 9223372036854775807) (_hci : C.ci ≤ 9223372036854775807)
    (em : ∀ args w, (callFunc C.gm args).run Tryd.prog w = .ok (.enter C.gm args) w) (hmany : ManyB C.gm many) (hokp : ∀ x ∈ ps, True)
    (i j : Nat) (p y : UInt8) (hpe : ps[i]? = some p) (hye : is[j]? = some y) (hmny : many p = true) (h1 : FromSpecB C many one ps is (i + 1) j) (h2 : FromSpecB C many one ps is i (j + 1)) : FromSpecB C many one ps is i j := by
    rintro _ _ W D rfl rfl hC hF
    have cp := hC.hp.cell
    have ci := hC.hi.cell
    have cm := hC.hm.cell
    have co := hC.ho.cell
    have cf := hC.hf.cell
    have cx := hC.hx.cell
    have lp := hC.hp.lt
    have li := hC.hi.lt
    have lm := hC.hm.lt
    have lo := hC.ho.lt
    have lf := hC.hf.lt
    have lx := hC.hx.lt
    have g1 : ((i : Int) == (ps.length : Int)) = false := by
      have := (List.getElem?_eq_some_iff.1 hpe).1; rw [beq_eq_false_iff_ne]; omega
    have g1' : (i : Int) < (ps.length : Int) := by have := (List.getElem?_eq_some_iff.1 hpe).1; omega
    have hpm : p ∈ ps := List.mem_of_getElem? hpe
    have hdp := drop_some hpe
    obtain ⟨b, hA, hcell⟩ := hC.hpc i p hpe
    have lb : b < W.heap.size := World.block_lt_of_cell? W ⟨b, i, none⟩ hcell
    rw [hA] at cp
    clear hA
    unfold byteV at hcell
    have hyl := (List.getElem?_eq_some_iff.1 hye).1
    have g2 : (j : Int) < (is.length : Int) := by omega
    have hdy := drop_some hye
    have hj : j ≤ is.length := by omega
    have hr : partedB many one (ps.drop i) (is.drop j) = (partedB many one (ps.drop (i + 1)) (is.drop j) || partedB many one (ps.drop i) (is.drop (j + 1))) := by
      rw [hdp, hdy, partedB_cons, hmny, ← hdy]; rfl
    have hi : i ≤ ps.length := Nat.le_of_lt (List.getElem?_eq_some_iff.1 hpe).1
    have hi5 : i ≤ 100000 := by omega
    have hj5 : j ≤ 100000 := by omega
    have hkey := placeL_key i j (by omega) (by omega)
    unfold placeV at hkey
    have hbig : (ps.length + 1) * (is.length + 1) ≤ 100001 * 100001 := Nat.mul_le_mul (by omega) (by omega)
    have HM := Lib.hid hmny; clear hmny
    have HPE := Lib.hid hpe; clear hpe
    have HDP := Lib.hid hdp; clear hdp
    have HOK := Lib.hid hokp; clear hokp
    have HKEY := Lib.hid hkey; clear hkey
    have HBIG := Lib.hid hbig; clear hbig
    have HYE := Lib.hid hye; clear hye
    have HDY := Lib.hid hdy; clear hdy
    cases hh : Maps.has D (placeL (i, j)) with
    | true =>
      have HH := Lib.hid hh; clear hh
      have hbad : partedB many one (ps.drop i) (is.drop j) = false := by
        have hb : badB many one ps is i j = true := by
          obtain ⟨_, _, _, h3⟩ := hF
          exact h3 i j hi hj HH.out
        unfold badB at hb; simpa using hb
      have HR := Lib.hid hbad; clear hbad hr
      go_enter Tryd.func96, Tryd.ntmps96
      go_wp2_with fail
      go_quiet (fail)
      go_wp2_with fail
      refine (hmany p _ (HOK.out p hpm)).mono ?_
      rintro e w' ⟨rfl, rfl⟩
      rw [HM.out]
      obtain ⟨Wr, hWr⟩ : ∃ Wr, (W.alloc (.cells #[.int .i64 (i : Int), .int .i64 (j : Int)] 80)).drewN nq = Wr := ⟨_, rfl⟩
      have hbr : Below W.heap.size W Wr := by rw [← hWr]; exact below_drewN ((Below.refl _ W).alloc (Nat.le_refl _) _) _
      have hNr : Wr.heap[W.heap.size]? = some (.cells #[.int .i64 (i : Int), .int .i64 (j : Int)] 80 (0, 0)) := by rw [← hWr]; exact World.alloc_heap_new W _
      rw [hWr]
      clear hWr
      obtain ⟨q0, q1⟩ := cells_of_heap hNr
      have lN : W.heap.size < Wr.heap.size := (Array.getElem?_eq_some_iff.1 hNr).1
      have r4 := (hbr.cell (p := ⟨C.bf, 0, none⟩) lf).trans cf
      have r5 := (hbr.cell (p := ⟨C.bx, 0, none⟩) lx).trans cx
      have hFr := hF.below hbr
      have hCr := hC.kept (grown_below _ hbr) hFr.isMap
      obtain ⟨kk, hown, hkk, hcnt⟩ := hFr.count
      have k4 : W.heap.size < Wr.heap.size := lN
      have k5 : C.bf < Wr.heap.size := Nat.lt_of_lt_of_le lf hbr.size
      have k6 : C.bx < Wr.heap.size := Nat.lt_of_lt_of_le lx hbr.size
      have n4 := cell_ne_map q0 hCr.hmap
      have HC2 := Lib.hid (fun (X : World) (h : Below Wr.heap.size Wr X) => hCr.kept (grown_below _ h) (hFr.below h).isMap)
      have HF2 := Lib.hid (fun (X : World) (h : Below Wr.heap.size Wr X) => hFr.below h)
      have HBR := Lib.hid hbr; clear hbr
      have HNR := Lib.hid hNr; clear hNr
      have HKK := Lib.hid hkk; clear hkk
      have HCN := Lib.hid hcnt; clear hcnt
      clear cp ci cm co cf cx hcell hC
      go_wp2_with (at_lookup; refine wpList_lookup_own_unit _ rfl _ _ 77 rfl 80 81 place_keyed Tryd.underlying77 (zero_unit _) C.mb kk D rfl hown _ _ rfl HKEY.out ?_; rw [HH.out])
      go_ret
      exact ⟨ret_bool HR.out.symm, grown_below _ (HBR.out.trans (((Below.refl _ Wr).alloc (Nat.le_refl _) _).mono HBR.out.size)), D, HF2.out _ ((Below.refl _ Wr).alloc (Nat.le_refl _) _), fun _ _ _ _ => rfl⟩
    | false =>
      have HH := Lib.hid hh; clear hh
      cases b1 : partedB many one (ps.drop (i + 1)) (is.drop j) with
      | true =>
        have hr2 : partedB many one (ps.drop i) (is.drop j) = true := by rw [hr, b1]; rfl
        have HR := Lib.hid hr2; clear hr2 hr
        have B1 := Lib.hid b1; clear b1
        go_enter Tryd.func96, Tryd.ntmps96
        go_wp2_with fail
        go_quiet (fail)
        go_wp2_with fail
        refine (hmany p _ (HOK.out p hpm)).mono ?_
        rintro e w' ⟨rfl, rfl⟩
        rw [HM.out]
        obtain ⟨Wr, hWr⟩ : ∃ Wr, (W.alloc (.cells #[.int .i64 (i : Int), .int .i64 (j : Int)] 80)).drewN nq = Wr := ⟨_, rfl⟩
        have hbr : Below W.heap.size W Wr := by rw [← hWr]; exact below_drewN ((Below.refl _ W).alloc (Nat.le_refl _) _) _
        have hNr : Wr.heap[W.heap.size]? = some (.cells #[.int .i64 (i : Int), .int .i64 (j : Int)] 80 (0, 0)) := by rw [← hWr]; exact World.alloc_heap_new W _
        rw [hWr]
        clear hWr
        obtain ⟨q0, q1⟩ := cells_of_heap hNr
        have lN : W.heap.size < Wr.heap.size := (Array.getElem?_eq_some_iff.1 hNr).1
        have r4 := (hbr.cell (p := ⟨C.bf, 0, none⟩) lf).trans cf
        have r5 := (hbr.cell (p := ⟨C.bx, 0, none⟩) lx).trans cx
        have hFr := hF.below hbr
        have hCr := hC.kept (grown_below _ hbr) hFr.isMap
        obtain ⟨kk, hown, hkk, hcnt⟩ := hFr.count
        have k4 : W.heap.size < Wr.heap.size := lN
        have k5 : C.bf < Wr.heap.size := Nat.lt_of_lt_of_le lf hbr.size
        have k6 : C.bx < Wr.heap.size := Nat.lt_of_lt_of_le lx hbr.size
        have n4 := cell_ne_map q0 hCr.hmap
        have HC2 := Lib.hid (fun (X : World) (h : Below Wr.heap.size Wr X) => hCr.kept (grown_below _ h) (hFr.below h).isMap)
        have HF2 := Lib.hid (fun (X : World) (h : Below Wr.heap.size Wr X) => hFr.below h)
        have HBR := Lib.hid hbr; clear hbr
        have HNR := Lib.hid hNr; clear hNr
        have HKK := Lib.hid hkk; clear hkk
        have HCN := Lib.hid hcnt; clear hcnt
        clear cp ci cm co cf cx hcell hC
        go_wp2_with (at_lookup; refine wpList_lookup_own_unit _ rfl _ _ 77 rfl 80 81 place_keyed Tryd.underlying77 (zero_unit _) C.mb kk D rfl hown _ _ rfl HKEY.out ?_; rw [HH.out])
        obtain ⟨Ws, hWs⟩ : ∃ Ws, Wr.alloc (.cells #[] 81) = Ws := ⟨_, rfl⟩
        have hbs : Below Wr.heap.size Wr Ws := by rw [← hWs]; exact (Below.refl _ Wr).alloc (Nat.le_refl _) _
        rw [hWs]
        clear hWs
        refine (h1 _ _ _ D (by first | rfl | exact wrap_succ i hi5) rfl (HC2.out Ws hbs) (HF2.out Ws hbs)).mono ?_
        rintro e W1 ⟨rfl, hg1, D1, hF1, hh1⟩
        rw [B1.out]
        go_wp2_with fail
        go_ret
        exact ⟨ret_bool HR.out.symm, grown_trans (grown_below _ (HBR.out.trans (hbs.mono HBR.out.size))) hg1, D1, hF1, fun q a b c => hh1 q a b (by omega)⟩
      | false =>
        cases b2 : partedB many one (ps.drop i) (is.drop (j + 1)) with
        | true =>
          have hr2 : partedB many one (ps.drop i) (is.drop j) = true := by rw [hr, b1, b2]; rfl
          have HR := Lib.hid hr2; clear hr2 hr
          have B1 := Lib.hid b1; clear b1
          have B2 := Lib.hid b2; clear b2
          go_enter Tryd.func96, Tryd.ntmps96
          go_wp2_with fail
          go_quiet (fail)
          go_wp2_with fail
          refine (hmany p _ (HOK.out p hpm)).mono ?_
          rintro e w' ⟨rfl, rfl⟩
          rw [HM.out]
          obtain ⟨Wr, hWr⟩ : ∃ Wr, (W.alloc (.cells #[.int .i64 (i : Int), .int .i64 (j : Int)] 80)).drewN nq = Wr := ⟨_, rfl⟩
          have hbr : Below W.heap.size W Wr := by rw [← hWr]; exact below_drewN ((Below.refl _ W).alloc (Nat.le_refl _) _) _
          have hNr : Wr.heap[W.heap.size]? = some (.cells #[.int .i64 (i : Int), .int .i64 (j : Int)] 80 (0, 0)) := by rw [← hWr]; exact World.alloc_heap_new W _
          rw [hWr]
          clear hWr
          obtain ⟨q0, q1⟩ := cells_of_heap hNr
          have lN : W.heap.size < Wr.heap.size := (Array.getElem?_eq_some_iff.1 hNr).1
          have r4 := (hbr.cell (p := ⟨C.bf, 0, none⟩) lf).trans cf
          have r5 := (hbr.cell (p := ⟨C.bx, 0, none⟩) lx).trans cx
          have hFr := hF.below hbr
          have hCr := hC.kept (grown_below _ hbr) hFr.isMap
          obtain ⟨kk, hown, hkk, hcnt⟩ := hFr.count
          have k4 : W.heap.size < Wr.heap.size := lN
          have k5 : C.bf < Wr.heap.size := Nat.lt_of_lt_of_le lf hbr.size
          have k6 : C.bx < Wr.heap.size := Nat.lt_of_lt_of_le lx hbr.size
          have n4 := cell_ne_map q0 hCr.hmap
          have HC2 := Lib.hid (fun (X : World) (h : Below Wr.heap.size Wr X) => hCr.kept (grown_below _ h) (hFr.below h).isMap)
          have HF2 := Lib.hid (fun (X : World) (h : Below Wr.heap.size Wr X) => hFr.below h)
          have HBR := Lib.hid hbr; clear hbr
          have HNR := Lib.hid hNr; clear hNr
          have HKK := Lib.hid hkk; clear hkk
          have HCN := Lib.hid hcnt; clear hcnt
          clear cp ci cm co cf cx hcell hC
          go_wp2_with (at_lookup; refine wpList_lookup_own_unit _ rfl _ _ 77 rfl 80 81 place_keyed Tryd.underlying77 (zero_unit _) C.mb kk D rfl hown _ _ rfl HKEY.out ?_; rw [HH.out])
          obtain ⟨Ws, hWs⟩ : ∃ Ws, Wr.alloc (.cells #[] 81) = Ws := ⟨_, rfl⟩
          have hbs : Below Wr.heap.size Wr Ws := by rw [← hWs]; exact (Below.refl _ Wr).alloc (Nat.le_refl _) _
          rw [hWs]
          clear hWs
          refine (h1 _ _ _ D (by first | rfl | exact wrap_succ i hi5) rfl (HC2.out Ws hbs) (HF2.out Ws hbs)).mono ?_
          rintro e W1 ⟨rfl, hg1, D1, hF1, hh1⟩
          rw [B1.out]
          have hC1 := (HC2.out Ws hbs).kept hg1 hF1.isMap
          have c1x := hC1.hx.cell
          have c1f := hC1.hf.cell
          have p0 := hg1.cell ((hbs.cell (p := ⟨W.heap.size, 0, none⟩) k4).trans q0) (fun e => n4 (by injection e))
          have p1 := hg1.cell ((hbs.cell (p := ⟨W.heap.size, 1, none⟩) k4).trans q1) (fun e => n4 (by injection e))
          clear q0 q1 r4 r5
          go_wp2_with fail
          refine (h2 _ _ _ D1 rfl (by first | rfl | exact wrap_succ j hj5) hC1 hF1).mono ?_
          rintro e W2 ⟨rfl, hg2, D2, hF2, hh2⟩
          rw [B2.out]
          go_wp2_with fail
          go_ret
          exact ⟨ret_bool HR.out.symm, grown_trans (grown_trans (grown_below _ (HBR.out.trans (hbs.mono HBR.out.size))) hg1) hg2, D2, hF2, fun q a b c => (hh2 q a b (by omega)).trans (hh1 q a b (by omega))⟩
        | false =>
          have hr2 : partedB many one (ps.drop i) (is.drop j) = false := by rw [hr, b1, b2]; rfl
          have HR := Lib.hid hr2; clear hr2 hr
          have B1 := Lib.hid b1; clear b1
          have B2 := Lib.hid b2; clear b2
          go_enter Tryd.func96, Tryd.ntmps96
          go_wp2_with fail
          go_quiet (fail)
          go_wp2_with fail
          refine (hmany p _ (HOK.out p hpm)).mono ?_
          rintro e w' ⟨rfl, rfl⟩
          rw [HM.out]
          obtain ⟨Wr, hWr⟩ : ∃ Wr, (W.alloc (.cells #[.int .i64 (i : Int), .int .i64 (j : Int)] 80)).drewN nq = Wr := ⟨_, rfl⟩
          have hbr : Below W.heap.size W Wr := by rw [← hWr]; exact below_drewN ((Below.refl _ W).alloc (Nat.le_refl _) _) _
          have hNr : Wr.heap[W.heap.size]? = some (.cells #[.int .i64 (i : Int), .int .i64 (j : Int)] 80 (0, 0)) := by rw [← hWr]; exact World.alloc_heap_new W _
          rw [hWr]
          clear hWr
          obtain ⟨q0, q1⟩ := cells_of_heap hNr
          have lN : W.heap.size < Wr.heap.size := (Array.getElem?_eq_some_iff.1 hNr).1
          have r4 := (hbr.cell (p := ⟨C.bf, 0, none⟩) lf).trans cf
          have r5 := (hbr.cell (p := ⟨C.bx, 0, none⟩) lx).trans cx
          have hFr := hF.below hbr
          have hCr := hC.kept (grown_below _ hbr) hFr.isMap
          obtain ⟨kk, hown, hkk, hcnt⟩ := hFr.count
          have k4 : W.heap.size < Wr.heap.size := lN
          have k5 : C.bf < Wr.heap.size := Nat.lt_of_lt_of_le lf hbr.size
          have k6 : C.bx < Wr.heap.size := Nat.lt_of_lt_of_le lx hbr.size
          have n4 := cell_ne_map q0 hCr.hmap
          have HC2 := Lib.hid (fun (X : World) (h : Below Wr.heap.size Wr X) => hCr.kept (grown_below _ h) (hFr.below h).isMap)
          have HF2 := Lib.hid (fun (X : World) (h : Below Wr.heap.size Wr X) => hFr.below h)
          have HBR := Lib.hid hbr; clear hbr
          have HNR := Lib.hid hNr; clear hNr
          have HKK := Lib.hid hkk; clear hkk
          have HCN := Lib.hid hcnt; clear hcnt
          clear cp ci cm co cf cx hcell hC
          go_wp2_with (at_lookup; refine wpList_lookup_own_unit _ rfl _ _ 77 rfl 80 81 place_keyed Tryd.underlying77 (zero_unit _) C.mb kk D rfl hown _ _ rfl HKEY.out ?_; rw [HH.out])
          obtain ⟨Ws, hWs⟩ : ∃ Ws, Wr.alloc (.cells #[] 81) = Ws := ⟨_, rfl⟩
          have hbs : Below Wr.heap.size Wr Ws := by rw [← hWs]; exact (Below.refl _ Wr).alloc (Nat.le_refl _) _
          rw [hWs]
          clear hWs
          refine (h1 _ _ _ D (by first | rfl | exact wrap_succ i hi5) rfl (HC2.out Ws hbs) (HF2.out Ws hbs)).mono ?_
          rintro e W1 ⟨rfl, hg1, D1, hF1, hh1⟩
          rw [B1.out]
          have hC1 := (HC2.out Ws hbs).kept hg1 hF1.isMap
          have c1x := hC1.hx.cell
          have c1f := hC1.hf.cell
          have p0 := hg1.cell ((hbs.cell (p := ⟨W.heap.size, 0, none⟩) k4).trans q0) (fun e => n4 (by injection e))
          have p1 := hg1.cell ((hbs.cell (p := ⟨W.heap.size, 1, none⟩) k4).trans q1) (fun e => n4 (by injection e))
          clear q0 q1 r4 r5
          go_wp2_with fail
          refine (h2 _ _ _ D1 rfl (by first | rfl | exact wrap_succ j hj5) hC1 hF1).mono ?_
          rintro e W2 ⟨rfl, hg2, D2, hF2, hh2⟩
          rw [B2.out]
          have c2x := (boxed_keptM hC1.hx hg2 hC1.hmap).cell
          have s0 := hg2.cell p0 (fun e => n4 (by injection e))
          have s1 := hg2.cell p1 (fun e => n4 (by injection e))
          clear p0 p1 c1f c1x
          obtain ⟨ku, hownu, hku, hcu⟩ := hF2.count
          have hku2 : ku ≤ 100001 * 100001 := Nat.le_trans hku HBIG.out
          have HKU := Lib.hid hku; clear hku
          have HCU := Lib.hid hcu; clear hcu
          have hno : Maps.has D2 (placeL (i, j)) = false := (hh2 (i, j) hi hj (by simp <;> omega)).trans ((hh1 (i, j) hi hj (by simp <;> omega)).trans HH.out)
          have HNO := Lib.hid hno; clear hno
          go_wp2_with (at_mapUpdate; refine wpList_mapUpdate_own _ rfl _ _ _ 77 rfl 80 81 place_keyed Tryd.underlying77 unitElem C.mb ku D2 rfl hownu (by unfold maxLen; omega) _ _ _ rfl rfl HKEY.out (.agg []) [] unitElem_mk ?_; intro w9 hown9 hgrow9)
          go_ret
          refine ⟨ret_bool HR.out.symm, grown_trans (grown_trans (grown_trans (grown_below _ (HBR.out.trans (hbs.mono HBR.out.size))) hg1) hg2) hgrow9, _, FailedD.put (by omega) (by omega) hi hj hF2 hownu.isMap HCU.out HNO.out (by unfold badB; rw [HR.out]; rfl) hown9, fun q a b c => ?_⟩
          rw [put_other (by omega) (by omega) hi hj q a b (fun e => by subst e; simp at c)]
          exact (hh2 q a b (by omega)).trans (hh1 q a b (by omega))

end Go.Proofs.YtcnifjjdnomgpaaDoor
