/-
  The contract of the closure in path.parted at strings: rows of items, one for each pattern; what failed is kept.
-/
import Derived.Test.YtcnifjjdnomgpaaDoorPartedS
import Derived.Deep.RegionHeld3
import Derived.BigQuiet
import Derived.Deep.QuietTactic
namespace Go.Proofs.YtcnifjjdnomgpaaDoor
open Go Go.RowKit Go.Shelf Go.Proofs

set_option maxRecDepth 100000 in
set_option maxHeartbeats 4000000 in
theorem from_one_falseS (C : Caught) (many : Bs → Bool) (one : Bs → Bs → Bool) (ps is : List Bs) (_hps : ps.length ≤ 100000) (_his : is.length ≤ 100000) (_hcp : C.cp ≤ 9223372036854775807) (_hci : C.ci ≤ 9223372036854775807)
    (em : ∀ args w, (callFunc C.gm args).run Tryd.prog w = .ok (.enter C.gm args) w) (eo : ∀ args w, (callFunc C.go args).run Tryd.prog w = .ok (.enter C.go args) w) (hmany : ManyS C.gm many) (hone : OneS C.go one) (hokp : ∀ x ∈ ps, x.length ≤ 100) (hoki : ∀ x ∈ is, x.length ≤ 100)
    (i j : Nat) (p y : Bs) (hpe : ps[i]? = some p) (hye : is[j]? = some y) (hmny : many p = false) (hone1 : one p y = false) : FromSpecS C many one ps is i j := by
    rintro _ _ W D rfl rfl hC hF
    have cp := hC.hp.cell
    have ci := hC.hi.cell
    have cm := hC.hm.cell
    have co := hC.ho.cell
    have cf := hC.hf.cell
    have cx := hC.hx.cell
    have lp := hC.hp.lt
    have li := hC.hi.lt
    have lm := hC.hm.lt
    have lo := hC.ho.lt
    have lf := hC.hf.lt
    have lx := hC.hx.lt
    have g1 : ((i : Int) == (ps.length : Int)) = false := by
      have := (List.getElem?_eq_some_iff.1 hpe).1; rw [beq_eq_false_iff_ne]; omega
    have g1' : (i : Int) < (ps.length : Int) := by have := (List.getElem?_eq_some_iff.1 hpe).1; omega
    have hpm : p ∈ ps := List.mem_of_getElem? hpe
    have hdp := drop_some hpe
    obtain ⟨b, hA, hcell⟩ := hC.hpc i p hpe
    have lb : b < W.heap.size := World.block_lt_of_cell? W ⟨b, i, none⟩ hcell
    rw [hA] at cp
    clear hA
    unfold strV at hcell
    have hyl := (List.getElem?_eq_some_iff.1 hye).1
    have g2 : (j : Int) < (is.length : Int) := by omega
    have hym : y ∈ is := List.mem_of_getElem? hye
    have hdy := drop_some hye
    obtain ⟨b2, hA2, hcell2⟩ := hC.hic j y hye
    have lb2 : b2 < W.heap.size := World.block_lt_of_cell? W ⟨b2, j, none⟩ hcell2
    rw [hA2] at ci
    clear hA2
    unfold strV at hcell2
    have hr : partedB many one (ps.drop i) (is.drop j) = false := by rw [hdp, hdy, partedB_cons, hmny, hone1]; simp
    have HR := Lib.hid hr; clear hr
    have HM := Lib.hid hmny; clear hmny
    have HO := Lib.hid hone1; clear hone1
    have HPE := Lib.hid hpe; clear hpe
    have HDP := Lib.hid hdp; clear hdp
    have HYE := Lib.hid hye; clear hye
    have HDY := Lib.hid hdy; clear hdy
    have HOK := Lib.hid hokp; clear hokp
    have HOI := Lib.hid hoki; clear hoki
    go_enter Tryd.func66, Tryd.ntmps66
    go_wp2_with fail
    go_quiet (fail)
    go_wp2_with fail
    refine (hmany p _ (HOK.out p hpm)).mono ?_
    rintro e w' ⟨rfl, rfl⟩
    rw [HM.out]
    obtain ⟨Wr, hWr⟩ : ∃ Wr, (W.alloc (.cells #[.int .i64 (i : Int), .int .i64 (j : Int)] 80)).drewN nq = Wr := ⟨_, rfl⟩
    have hbr : Below W.heap.size W Wr := by rw [← hWr]; exact below_drewN ((Below.refl _ W).alloc (Nat.le_refl _) _) _
    have hNr : Wr.heap[W.heap.size]? = some (.cells #[.int .i64 (i : Int), .int .i64 (j : Int)] 80 (0, 0)) := by rw [← hWr]; exact World.alloc_heap_new W _
    rw [hWr]
    clear hWr
    obtain ⟨q0, q1⟩ := cells_of_heap hNr
    have lN : W.heap.size < Wr.heap.size := (Array.getElem?_eq_some_iff.1 hNr).1
    have r1 := (hbr.cell (p := ⟨C.bo, 0, none⟩) lo).trans co
    have r2 := (hbr.cell (p := ⟨C.bi, 0, none⟩) li).trans ci
    have r3 := (hbr.cell (p := ⟨b2, j, none⟩) lb2).trans hcell2
    have r4 := (hbr.cell (p := ⟨C.bf, 0, none⟩) lf).trans cf
    have hCr := hC.kept (grown_below _ hbr) (hF.below hbr).isMap
    have hFr := hF.below hbr
    have HBR := Lib.hid hbr; clear hbr
    have HNR := Lib.hid hNr; clear hNr
    obtain ⟨N, hN⟩ : ∃ N, W.heap.size = N := ⟨_, rfl⟩
    rw [hN] at q0 q1 ⊢
    clear cp ci cm co cf cx hcell hcell2 hC
    go_wp2_with fail
    have k1 : C.bo < Wr.heap.size := Nat.lt_of_lt_of_le lo HBR.out.size
    have k2 : C.bi < Wr.heap.size := Nat.lt_of_lt_of_le li HBR.out.size
    have k3 : b2 < Wr.heap.size := Nat.lt_of_lt_of_le lb2 HBR.out.size
    have k4 : N < Wr.heap.size := by rw [← hN]; exact lN
    have k5 : C.bf < Wr.heap.size := Nat.lt_of_lt_of_le lf HBR.out.size
    have HNN := Lib.hid hN; clear hN
    refine wp_region_held_drew (S := (fun w' => w'.cell? ⟨C.bo, 0, none⟩ = some (.func (.func C.go) #[] #[]) ∧ w'.cell? ⟨C.bi, 0, none⟩ = some (.slice (some ⟨b2, 0, none⟩) is.length C.ci) ∧ w'.cell? ⟨b2, j, none⟩ = some (.string (mkB y)) ∧ w'.cell? ⟨N, 0, none⟩ = some (.int .i64 i) ∧ w'.cell? ⟨N, 1, none⟩ = some (.int .i64 j) ∧ w'.cell? ⟨C.bf, 0, none⟩ = some (.func (.func 66) #[] #[.pointer (some ⟨C.bp, 0, none⟩), .pointer (some ⟨C.bi, 0, none⟩), .pointer (some ⟨C.bm, 0, none⟩), .pointer (some ⟨C.bo, 0, none⟩), .pointer (some ⟨C.bf, 0, none⟩), .pointer (some ⟨C.bx, 0, none⟩)]))) (by kernel_rfl) ⟨r1, r2, r3, q0, q1, r4⟩ (fun hHeld => ?_)
    refine wpAnyH_take (i := 0) (v := ?v0) rfl (by kernel_rfl) (by kernel_rfl) (by kernel_rfl) (fun _ _ _ h => h) (Or.inl ⟨by rfl, ?y0⟩) (by assumption) ?r0
    case y0 =>
      intro w hSw
      (try dsimp only at hSw)
      go_simp
      first | done | with_reducible rfl
    try simp only [Act.put, List.getElem_toArray, List.getElem_cons_zero, List.setIfInBounds_toArray, List.set_cons_zero, List.set_cons_succ]
    refine wpAnyH_take (i := 1) (v := ?v1) rfl (by kernel_rfl) (by kernel_rfl) (by kernel_rfl) (fun _ _ _ h => h) (Or.inl ⟨by rfl, ?y1⟩) (by assumption) ?r1
    case y1 =>
      intro w hSw
      (try dsimp only at hSw)
      go_simp
      first | done | with_reducible rfl
    try simp only [Act.put, List.getElem_toArray, List.getElem_cons_zero, List.getElem_cons_succ, List.setIfInBounds_toArray, List.set_cons_zero, List.set_cons_succ]
    refine wpAnyH_take (i := 2) (v := ?v2) rfl (by kernel_rfl) (by kernel_rfl) (by kernel_rfl) (fun _ _ _ h => h) (Or.inl ⟨by rfl, ?y2⟩) (by assumption) ?r2
    case y2 =>
      intro w hSw
      (try dsimp only at hSw)
      go_simp
      first | done | with_reducible rfl
    try simp only [Act.put, List.getElem_toArray, List.getElem_cons_zero, List.getElem_cons_succ, List.setIfInBounds_toArray, List.set_cons_zero, List.set_cons_succ]
    refine wpAnyH_take (i := 3) (v := ?v3) rfl (by kernel_rfl) (by kernel_rfl) (by kernel_rfl) (fun _ _ _ h => h) (Or.inl ⟨by rfl, ?y3⟩) (by assumption) ?r3
    case y3 =>
      intro w hSw
      (try dsimp only at hSw)
      go_simp
      first | done | with_reducible rfl
    try simp only [Act.put, List.getElem_toArray, List.getElem_cons_zero, List.getElem_cons_succ, List.setIfInBounds_toArray, List.set_cons_zero, List.set_cons_succ]
    refine wpAnyH_take (i := 4) (v := ?v4) rfl (by kernel_rfl) (by kernel_rfl) (by kernel_rfl) (fun _ _ _ h => h) (Or.inl ⟨by rfl, ?y4⟩) (by assumption) ?r4
    case y4 =>
      intro w hSw
      (try dsimp only at hSw)
      go_simp
      first | done | with_reducible rfl
    try simp only [Act.put, List.getElem_toArray, List.getElem_cons_zero, List.getElem_cons_succ, List.setIfInBounds_toArray, List.set_cons_zero, List.set_cons_succ]
    refine wpAnyH_take (i := 5) (v := ?v5) rfl (by kernel_rfl) (by kernel_rfl) (by kernel_rfl) (fun _ _ _ h => h) (Or.inl ⟨by rfl, ?y5⟩) (by assumption) ?r5
    case y5 =>
      intro w hSw
      (try dsimp only at hSw)
      go_simp
      first | done | with_reducible rfl
    try simp only [Act.put, List.getElem_toArray, List.getElem_cons_zero, List.getElem_cons_succ, List.setIfInBounds_toArray, List.set_cons_zero, List.set_cons_succ]
    refine wpAnyH_take (i := 6) (v := ?v6) rfl (by kernel_rfl) (by kernel_rfl) (by kernel_rfl) (fun _ _ _ h => h) (Or.inl ⟨by rfl, ?y6⟩) (by assumption) ?r6
    case y6 =>
      intro w hSw
      (try dsimp only at hSw)
      go_simp
      first | done | with_reducible rfl
    try simp only [Act.put, List.getElem_toArray, List.getElem_cons_zero, List.getElem_cons_succ, List.setIfInBounds_toArray, List.set_cons_zero, List.set_cons_succ]
    refine wpAnyH_take (i := 7) (v := ?v7) rfl (by kernel_rfl) (by kernel_rfl) (by kernel_rfl) (fun _ _ _ h => h) (Or.inl ⟨by rfl, ?y7⟩) (by assumption) ?r7
    case y7 =>
      intro w hSw
      (try dsimp only at hSw)
      go_simp
      first | done | with_reducible rfl
    try simp only [Act.put, List.getElem_toArray, List.getElem_cons_zero, List.getElem_cons_succ, List.setIfInBounds_toArray, List.set_cons_zero, List.set_cons_succ]
    refine wpAnyH_take (i := 8) (v := ?v8) rfl (by kernel_rfl) (by kernel_rfl) (by kernel_rfl) (fun _ _ _ h => h) (Or.inl ⟨by rfl, ?y8⟩) (by assumption) ?r8
    case y8 =>
      intro w hSw
      (try dsimp only at hSw)
      go_simp
      first | done | with_reducible rfl
    try simp only [Act.put, List.getElem_toArray, List.getElem_cons_zero, List.getElem_cons_succ, List.setIfInBounds_toArray, List.set_cons_zero, List.set_cons_succ]
    refine wpAnyH_ready (rs := [9]) (by kernel_rfl) (by simp) ?_
    refine AllReadyH.cons rfl (fun K hK => ?_) AllReadyH.nil
    go_simp
    refine (hone p y _ (HOK.out p hpm) (HOI.out y hym)).mono ?_
    rintro e w5 ⟨rfl, hb5⟩
    rw [HO.out]
    have hb6 := (Below.refl _ Wr).drew.trans hb5
    go_wp2_with fail
    refine hK.out _ _ ⟨(hb5.cell (p := ⟨C.bo, 0, none⟩) k1).trans r1, (hb5.cell (p := ⟨C.bi, 0, none⟩) k2).trans r2, (hb5.cell (p := ⟨b2, j, none⟩) k3).trans r3, (hb5.cell (p := ⟨N, 0, none⟩) k4).trans q0, (hb5.cell (p := ⟨N, 1, none⟩) k4).trans q1, (hb5.cell (p := ⟨C.bf, 0, none⟩) k5).trans r4⟩ (fun hHeld => ?_)
    clear hK K
    try simp only [Act.put, List.getElem_toArray, List.getElem_cons_zero, List.getElem_cons_succ, List.setIfInBounds_toArray, List.set_cons_zero, List.set_cons_succ]
    refine wpAnyH_take (i := 10) (v := ?v10) rfl (by kernel_rfl) (by kernel_rfl) (by kernel_rfl) (fun _ _ _ h => h) (Or.inl ⟨by rfl, ?y10⟩) (by assumption) ?r10
    case y10 =>
      intro w hSw
      (try dsimp only at hSw)
      go_simp
      first | done | with_reducible rfl
    try simp only [Act.put, List.getElem_toArray, List.getElem_cons_zero, List.getElem_cons_succ, List.setIfInBounds_toArray, List.set_cons_zero, List.set_cons_succ]
    refine wpAnyH_take (i := 11) (v := ?v11) rfl (by kernel_rfl) (by kernel_rfl) (by kernel_rfl) (fun _ _ _ h => h) (Or.inl ⟨by rfl, ?y11⟩) (by assumption) ?r11
    case y11 =>
      intro w hSw
      (try dsimp only at hSw)
      go_simp
      first | done | with_reducible rfl
    try simp only [Act.put, List.getElem_toArray, List.getElem_cons_zero, List.getElem_cons_succ, List.setIfInBounds_toArray, List.set_cons_zero, List.set_cons_succ]
    refine wpAnyH_take (i := 12) (v := undef) rfl (by kernel_rfl) (by kernel_rfl) (by kernel_rfl) (fun _ _ _ h => h) (Or.inr ⟨by rfl, rfl⟩) (by assumption) ?r12
    try simp only [Act.put, List.getElem_toArray, List.getElem_cons_zero, List.getElem_cons_succ, List.setIfInBounds_toArray, List.set_cons_zero, List.set_cons_succ]
    refine wpAnyH_take (i := 13) (v := undef) rfl (by kernel_rfl) (by kernel_rfl) (by kernel_rfl) (fun _ _ _ h => h) (Or.inr ⟨by rfl, rfl⟩) (by assumption) ?r13
    try simp only [Act.put, List.getElem_toArray, List.getElem_cons_zero, List.getElem_cons_succ, List.setIfInBounds_toArray, List.set_cons_zero, List.set_cons_succ]
    refine wpAnyH_take (i := 14) (v := undef) rfl (by kernel_rfl) (by kernel_rfl) (by kernel_rfl) (fun _ _ _ h => h) (Or.inr ⟨by rfl, rfl⟩) (by assumption) ?r14
    try simp only [Act.put, List.getElem_toArray, List.getElem_cons_zero, List.getElem_cons_succ, List.setIfInBounds_toArray, List.set_cons_zero, List.set_cons_succ]
    refine wpAnyH_take (i := 15) (v := undef) rfl (by kernel_rfl) (by kernel_rfl) (by kernel_rfl) (fun _ _ _ h => h) (Or.inr ⟨by rfl, rfl⟩) (by assumption) ?r15
    try simp only [Act.put, List.getElem_toArray, List.getElem_cons_zero, List.getElem_cons_succ, List.setIfInBounds_toArray, List.set_cons_zero, List.set_cons_succ]
    refine wpAnyH_take (i := 16) (v := undef) rfl (by kernel_rfl) (by kernel_rfl) (by kernel_rfl) (fun _ _ _ h => h) (Or.inr ⟨by rfl, rfl⟩) (by assumption) ?r16
    try simp only [Act.put, List.getElem_toArray, List.getElem_cons_zero, List.getElem_cons_succ, List.setIfInBounds_toArray, List.set_cons_zero, List.set_cons_succ]
    refine wpAnyH_take (i := 17) (v := undef) rfl (by kernel_rfl) (by kernel_rfl) (by kernel_rfl) (fun _ _ _ h => h) (Or.inr ⟨by rfl, rfl⟩) (by assumption) ?r17
    try simp only [Act.put, List.getElem_toArray, List.getElem_cons_zero, List.getElem_cons_succ, List.setIfInBounds_toArray, List.set_cons_zero, List.set_cons_succ]
    refine wpAnyH_take (i := 18) (v := undef) rfl (by kernel_rfl) (by kernel_rfl) (by kernel_rfl) (fun _ _ _ h => h) (Or.inr ⟨by rfl, rfl⟩) (by assumption) ?r18
    try simp only [Act.put, List.getElem_toArray, List.getElem_cons_zero, List.getElem_cons_succ, List.setIfInBounds_toArray, List.set_cons_zero, List.set_cons_succ]
    refine wpAnyH_take (i := 19) (v := undef) rfl (by kernel_rfl) (by kernel_rfl) (by kernel_rfl) (fun _ _ _ h => h) (Or.inr ⟨by rfl, rfl⟩) (by assumption) ?r19
    try simp only [Act.put, List.getElem_toArray, List.getElem_cons_zero, List.getElem_cons_succ, List.setIfInBounds_toArray, List.set_cons_zero, List.set_cons_succ]
    refine wpAnyH_take (i := 20) (v := undef) rfl (by kernel_rfl) (by kernel_rfl) (by kernel_rfl) (fun _ _ _ h => h) (Or.inr ⟨by rfl, rfl⟩) (by assumption) ?r20
    try simp only [Act.put, List.getElem_toArray, List.getElem_cons_zero, List.getElem_cons_succ, List.setIfInBounds_toArray, List.set_cons_zero, List.set_cons_succ]
    refine wpAnyH_take (i := 21) (v := ?v21) rfl (by kernel_rfl) (by kernel_rfl) (by kernel_rfl) (fun _ _ _ h => h) (Or.inl ⟨by rfl, ?y21⟩) (by assumption) ?r21
    case y21 =>
      intro w hSw
      (try dsimp only at hSw)
      go_simp
      first | done | with_reducible rfl
    try simp only [Act.put, List.getElem_toArray, List.getElem_cons_zero, List.getElem_cons_succ, List.setIfInBounds_toArray, List.set_cons_zero, List.set_cons_succ]
    refine wpAnyH_take (i := 22) (v := ?v22) rfl (by kernel_rfl) (by kernel_rfl) (by kernel_rfl) (fun _ _ _ h => h) (Or.inl ⟨by rfl, ?y22⟩) (by assumption) ?r22
    case y22 =>
      intro w hSw
      (try dsimp only at hSw)
      go_simp
      first | done | with_reducible rfl
    try simp only [Act.put, List.getElem_toArray, List.getElem_cons_zero, List.getElem_cons_succ, List.setIfInBounds_toArray, List.set_cons_zero, List.set_cons_succ]
    refine wpAnyH_done (by kernel_rfl) ?_ _
    all_goals go_wp2_with fail
    all_goals go_ret
    exact ⟨ret_bool HR.out.symm, grown_below _ (HBR.out.trans (hb6.mono HBR.out.size)), D, (hFr.below hb6), fun _ _ _ _ => rfl⟩
end Go.Proofs.YtcnifjjdnomgpaaDoor
