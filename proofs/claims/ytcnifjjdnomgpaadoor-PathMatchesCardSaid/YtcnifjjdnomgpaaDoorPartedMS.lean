/-
  The contract of the closure in path.parted at strings: rows of items, one for each pattern; what failed is kept.
-/
import Derived.Test.YtcnifjjdnomgpaaDoorPartedS
import Derived.Deep.RegionHeld3
import Derived.BigQuiet
import Derived.Maps.OwnSet
import Derived.Deep.QuietTactic
namespace Go.Proofs.YtcnifjjdnomgpaaDoor
open Go Go.RowKit Go.Shelf Go.Proofs

set_option maxRecDepth 100000 in
set_option maxHeartbeats 4000000 in
/-- Any number of items; none is left. -/
theorem from_many0S (C : Caught) (many : Bs → Bool) (one : Bs → Bs → Bool) (ps is : List Bs) (hps : ps.length ≤ 100000) (his : is.length ≤ 100000) (_hcp : C.cp ≤ 9223372036854775807) (_hci : C.ci ≤ 9223372036854775807)
    (em : ∀ args w, (callFunc C.gm args).run Tryd.prog w = .ok (.enter C.gm args) w) (hmany : ManyS C.gm many) (hokp : ∀ x ∈ ps, x.length ≤ 100)
    (i : Nat) (p : Bs) (hpe : ps[i]? = some p) (hmny : many p = true) (h1 : FromSpecS C many one ps is (i + 1) is.length) : FromSpecS C many one ps is i is.length := by
    rintro _ _ W D rfl rfl hC hF
    have cp := hC.hp.cell
    have ci := hC.hi.cell
    have cm := hC.hm.cell
    have co := hC.ho.cell
    have cf := hC.hf.cell
    have cx := hC.hx.cell
    have lp := hC.hp.lt
    have li := hC.hi.lt
    have lm := hC.hm.lt
    have lo := hC.ho.lt
    have lf := hC.hf.lt
    have lx := hC.hx.lt
    have g1 : ((i : Int) == (ps.length : Int)) = false := by
      have := (List.getElem?_eq_some_iff.1 hpe).1; rw [beq_eq_false_iff_ne]; omega
    have g1' : (i : Int) < (ps.length : Int) := by have := (List.getElem?_eq_some_iff.1 hpe).1; omega
    have hpm : p ∈ ps := List.mem_of_getElem? hpe
    have hdp := drop_some hpe
    obtain ⟨b, hA, hcell⟩ := hC.hpc i p hpe
    have lb : b < W.heap.size := World.block_lt_of_cell? W ⟨b, i, none⟩ hcell
    rw [hA] at cp
    clear hA
    unfold strV at hcell
    have hj : is.length ≤ is.length := Nat.le_refl _
    have hr : partedB many one (ps.drop i) (is.drop is.length) = partedB many one (ps.drop (i + 1)) (is.drop is.length) := by
      rw [hdp, List.drop_length, partedB_stop, hmny]; rfl
    have hi : i ≤ ps.length := Nat.le_of_lt (List.getElem?_eq_some_iff.1 hpe).1
    have hi5 : i ≤ 100000 := by omega
    have hj5 : is.length ≤ 100000 := by omega
    have hkey := placeL_key i is.length (by omega) (by omega)
    unfold placeV at hkey
    have hbig : (ps.length + 1) * (is.length + 1) ≤ 100001 * 100001 := Nat.mul_le_mul (by omega) (by omega)
    have HM := Lib.hid hmny; clear hmny
    have HPE := Lib.hid hpe; clear hpe
    have HDP := Lib.hid hdp; clear hdp
    have HOK := Lib.hid hokp; clear hokp
    have HKEY := Lib.hid hkey; clear hkey
    have HBIG := Lib.hid hbig; clear hbig
    cases hh : Maps.has D (placeL (i, is.length)) with
    | true =>
      have HH := Lib.hid hh; clear hh
      have hbad : partedB many one (ps.drop i) (is.drop is.length) = false := by
        have hb : badS many one ps is i is.length = true := by
          obtain ⟨_, _, _, h3⟩ := hF
          exact h3 i is.length hi hj HH.out
        unfold badS at hb; simpa using hb
      have HR := Lib.hid hbad; clear hbad hr
      go_enter Tryd.func66, Tryd.ntmps66
      go_wp2_with fail
      go_quiet (fail)
      go_wp2_with fail
      refine (hmany p _ (HOK.out p hpm)).mono ?_
      rintro e w' ⟨rfl, rfl⟩
      rw [HM.out]
      obtain ⟨Wr, hWr⟩ : ∃ Wr, (W.alloc (.cells #[.int .i64 (i : Int), .int .i64 (is.length : Int)] 80)).drewN nq = Wr := ⟨_, rfl⟩
      have hbr : Below W.heap.size W Wr := by rw [← hWr]; exact below_drewN ((Below.refl _ W).alloc (Nat.le_refl _) _) _
      have hNr : Wr.heap[W.heap.size]? = some (.cells #[.int .i64 (i : Int), .int .i64 (is.length : Int)] 80 (0, 0)) := by rw [← hWr]; exact World.alloc_heap_new W _
      rw [hWr]
      clear hWr
      obtain ⟨q0, q1⟩ := cells_of_heap hNr
      have lN : W.heap.size < Wr.heap.size := (Array.getElem?_eq_some_iff.1 hNr).1
      have r4 := (hbr.cell (p := ⟨C.bf, 0, none⟩) lf).trans cf
      have r5 := (hbr.cell (p := ⟨C.bx, 0, none⟩) lx).trans cx
      have hFr := hF.below hbr
      have hCr := hC.kept (grown_below _ hbr) hFr.isMap
      obtain ⟨kk, hown, hkk, hcnt⟩ := hFr.count
      have k4 : W.heap.size < Wr.heap.size := lN
      have k5 : C.bf < Wr.heap.size := Nat.lt_of_lt_of_le lf hbr.size
      have k6 : C.bx < Wr.heap.size := Nat.lt_of_lt_of_le lx hbr.size
      have n4 := cell_ne_map q0 hCr.hmap
      have HC2 := Lib.hid (fun (X : World) (h : Below Wr.heap.size Wr X) => hCr.kept (grown_below _ h) (hFr.below h).isMap)
      have HF2 := Lib.hid (fun (X : World) (h : Below Wr.heap.size Wr X) => hFr.below h)
      have HBR := Lib.hid hbr; clear hbr
      have HNR := Lib.hid hNr; clear hNr
      have HKK := Lib.hid hkk; clear hkk
      have HCN := Lib.hid hcnt; clear hcnt
      clear cp ci cm co cf cx hcell hC
      go_wp2_with (at_lookup; refine wpList_lookup_own_unit _ rfl _ _ 77 rfl 80 81 place_keyed Tryd.underlying77 (zero_unit _) C.mb kk D rfl hown _ _ rfl HKEY.out ?_; rw [HH.out])
      go_ret
      exact ⟨ret_bool HR.out.symm, grown_below _ (HBR.out.trans (((Below.refl _ Wr).alloc (Nat.le_refl _) _).mono HBR.out.size)), D, HF2.out _ ((Below.refl _ Wr).alloc (Nat.le_refl _) _), fun _ _ _ _ => rfl⟩
    | false =>
      have HH := Lib.hid hh; clear hh
      cases b1 : partedB many one (ps.drop (i + 1)) (is.drop is.length) with
      | true =>
        have hr2 : partedB many one (ps.drop i) (is.drop is.length) = true := by rw [hr, b1]
        have HR := Lib.hid hr2; clear hr2 hr
        have B1 := Lib.hid b1; clear b1
        go_enter Tryd.func66, Tryd.ntmps66
        go_wp2_with fail
        go_quiet (fail)
        go_wp2_with fail
        refine (hmany p _ (HOK.out p hpm)).mono ?_
        rintro e w' ⟨rfl, rfl⟩
        rw [HM.out]
        obtain ⟨Wr, hWr⟩ : ∃ Wr, (W.alloc (.cells #[.int .i64 (i : Int), .int .i64 (is.length : Int)] 80)).drewN nq = Wr := ⟨_, rfl⟩
        have hbr : Below W.heap.size W Wr := by rw [← hWr]; exact below_drewN ((Below.refl _ W).alloc (Nat.le_refl _) _) _
        have hNr : Wr.heap[W.heap.size]? = some (.cells #[.int .i64 (i : Int), .int .i64 (is.length : Int)] 80 (0, 0)) := by rw [← hWr]; exact World.alloc_heap_new W _
        rw [hWr]
        clear hWr
        obtain ⟨q0, q1⟩ := cells_of_heap hNr
        have lN : W.heap.size < Wr.heap.size := (Array.getElem?_eq_some_iff.1 hNr).1
        have r4 := (hbr.cell (p := ⟨C.bf, 0, none⟩) lf).trans cf
        have r5 := (hbr.cell (p := ⟨C.bx, 0, none⟩) lx).trans cx
        have hFr := hF.below hbr
        have hCr := hC.kept (grown_below _ hbr) hFr.isMap
        obtain ⟨kk, hown, hkk, hcnt⟩ := hFr.count
        have k4 : W.heap.size < Wr.heap.size := lN
        have k5 : C.bf < Wr.heap.size := Nat.lt_of_lt_of_le lf hbr.size
        have k6 : C.bx < Wr.heap.size := Nat.lt_of_lt_of_le lx hbr.size
        have n4 := cell_ne_map q0 hCr.hmap
        have HC2 := Lib.hid (fun (X : World) (h : Below Wr.heap.size Wr X) => hCr.kept (grown_below _ h) (hFr.below h).isMap)
        have HF2 := Lib.hid (fun (X : World) (h : Below Wr.heap.size Wr X) => hFr.below h)
        have HBR := Lib.hid hbr; clear hbr
        have HNR := Lib.hid hNr; clear hNr
        have HKK := Lib.hid hkk; clear hkk
        have HCN := Lib.hid hcnt; clear hcnt
        clear cp ci cm co cf cx hcell hC
        go_wp2_with (at_lookup; refine wpList_lookup_own_unit _ rfl _ _ 77 rfl 80 81 place_keyed Tryd.underlying77 (zero_unit _) C.mb kk D rfl hown _ _ rfl HKEY.out ?_; rw [HH.out])
        obtain ⟨Ws, hWs⟩ : ∃ Ws, Wr.alloc (.cells #[] 81) = Ws := ⟨_, rfl⟩
        have hbs : Below Wr.heap.size Wr Ws := by rw [← hWs]; exact (Below.refl _ Wr).alloc (Nat.le_refl _) _
        rw [hWs]
        clear hWs
        refine (h1 _ _ _ D (by first | rfl | exact wrap_succ i hi5) rfl (HC2.out Ws hbs) (HF2.out Ws hbs)).mono ?_
        rintro e W1 ⟨rfl, hg1, D1, hF1, hh1⟩
        rw [B1.out]
        go_wp2_with fail
        go_ret
        exact ⟨ret_bool HR.out.symm, grown_trans (grown_below _ (HBR.out.trans (hbs.mono HBR.out.size))) hg1, D1, hF1, fun q a b c => hh1 q a b (by omega)⟩
      | false =>
        have hr2 : partedB many one (ps.drop i) (is.drop is.length) = false := by rw [hr, b1]
        have HR := Lib.hid hr2; clear hr2 hr
        have B1 := Lib.hid b1; clear b1
        go_enter Tryd.func66, Tryd.ntmps66
        go_wp2_with fail
        go_quiet (fail)
        go_wp2_with fail
        refine (hmany p _ (HOK.out p hpm)).mono ?_
        rintro e w' ⟨rfl, rfl⟩
        rw [HM.out]
        obtain ⟨Wr, hWr⟩ : ∃ Wr, (W.alloc (.cells #[.int .i64 (i : Int), .int .i64 (is.length : Int)] 80)).drewN nq = Wr := ⟨_, rfl⟩
        have hbr : Below W.heap.size W Wr := by rw [← hWr]; exact below_drewN ((Below.refl _ W).alloc (Nat.le_refl _) _) _
        have hNr : Wr.heap[W.heap.size]? = some (.cells #[.int .i64 (i : Int), .int .i64 (is.length : Int)] 80 (0, 0)) := by rw [← hWr]; exact World.alloc_heap_new W _
        rw [hWr]
        clear hWr
        obtain ⟨q0, q1⟩ := cells_of_heap hNr
        have lN : W.heap.size < Wr.heap.size := (Array.getElem?_eq_some_iff.1 hNr).1
        have r4 := (hbr.cell (p := ⟨C.bf, 0, none⟩) lf).trans cf
        have r5 := (hbr.cell (p := ⟨C.bx, 0, none⟩) lx).trans cx
        have hFr := hF.below hbr
        have hCr := hC.kept (grown_below _ hbr) hFr.isMap
        obtain ⟨kk, hown, hkk, hcnt⟩ := hFr.count
        have k4 : W.heap.size < Wr.heap.size := lN
        have k5 : C.bf < Wr.heap.size := Nat.lt_of_lt_of_le lf hbr.size
        have k6 : C.bx < Wr.heap.size := Nat.lt_of_lt_of_le lx hbr.size
        have n4 := cell_ne_map q0 hCr.hmap
        have HC2 := Lib.hid (fun (X : World) (h : Below Wr.heap.size Wr X) => hCr.kept (grown_below _ h) (hFr.below h).isMap)
        have HF2 := Lib.hid (fun (X : World) (h : Below Wr.heap.size Wr X) => hFr.below h)
        have HBR := Lib.hid hbr; clear hbr
        have HNR := Lib.hid hNr; clear hNr
        have HKK := Lib.hid hkk; clear hkk
        have HCN := Lib.hid hcnt; clear hcnt
        clear cp ci cm co cf cx hcell hC
        go_wp2_with (at_lookup; refine wpList_lookup_own_unit _ rfl _ _ 77 rfl 80 81 place_keyed Tryd.underlying77 (zero_unit _) C.mb kk D rfl hown _ _ rfl HKEY.out ?_; rw [HH.out])
        obtain ⟨Ws, hWs⟩ : ∃ Ws, Wr.alloc (.cells #[] 81) = Ws := ⟨_, rfl⟩
        have hbs : Below Wr.heap.size Wr Ws := by rw [← hWs]; exact (Below.refl _ Wr).alloc (Nat.le_refl _) _
        rw [hWs]
        clear hWs
        refine (h1 _ _ _ D (by first | rfl | exact wrap_succ i hi5) rfl (HC2.out Ws hbs) (HF2.out Ws hbs)).mono ?_
        rintro e W1 ⟨rfl, hg1, D1, hF1, hh1⟩
        rw [B1.out]
        have c1x := (boxed_keptM (HC2.out Ws hbs).hx hg1 (HC2.out Ws hbs).hmap).cell
        have p0 := hg1.cell ((hbs.cell (p := ⟨W.heap.size, 0, none⟩) k4).trans q0) (fun e => n4 (by injection e))
        have p1 := hg1.cell ((hbs.cell (p := ⟨W.heap.size, 1, none⟩) k4).trans q1) (fun e => n4 (by injection e))
        clear q0 q1 r4 r5
        obtain ⟨ku, hownu, hku, hcu⟩ := hF1.count
        have hku2 : ku ≤ 100001 * 100001 := Nat.le_trans hku HBIG.out
        have HKU := Lib.hid hku; clear hku
        have HCU := Lib.hid hcu; clear hcu
        have hno : Maps.has D1 (placeL (i, is.length)) = false := (hh1 (i, is.length) hi hj (by simp <;> omega)).trans HH.out
        have HNO := Lib.hid hno; clear hno
        go_wp2_with (at_mapUpdate; refine wpList_mapUpdate_own _ rfl _ _ _ 77 rfl 80 81 place_keyed Tryd.underlying77 unitElem C.mb ku D1 rfl hownu (by unfold maxLen; omega) _ _ _ rfl rfl HKEY.out (.agg []) [] unitElem_mk ?_; intro w9 hown9 hgrow9)
        go_ret
        refine ⟨ret_bool HR.out.symm, grown_trans (grown_trans (grown_below _ (HBR.out.trans (hbs.mono HBR.out.size))) hg1) hgrow9, _, FailedD.put (by omega) (by omega) hi hj hF1 hownu.isMap HCU.out HNO.out (by unfold badS; rw [HR.out]; rfl) hown9, fun q a b c => ?_⟩
        rw [put_other (by omega) (by omega) hi hj q a b (fun e => by subst e; simp at c)]
        exact hh1 q a b (by omega)

end Go.Proofs.YtcnifjjdnomgpaaDoor
