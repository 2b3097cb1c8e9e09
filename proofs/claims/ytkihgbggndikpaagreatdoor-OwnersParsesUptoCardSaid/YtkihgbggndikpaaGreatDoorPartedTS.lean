/-
  The contract of the closure in path.parted at strings: rows of items, one for each pattern; what failed is kept. · The contract of the closure in path.parted at strings: rows of items, one for each pattern; what failed is kept. · The contract of the closure in path.parted at strings: rows of items, one for each pattern; what failed is kept. · The contract of the closure in path.parted at strings: rows of items, one for each pattern; what failed is kept. · The contract of the closure in path.parted at strings: rows of items, one for each pattern; what failed is kept.
-/
import Derived.Test.YtkihgbggndikpaaGreatDoorCaught
import Derived.Deep.RegionHeld3
import Derived.BigQuiet
import Derived.Deep.QuietTactic
import Derived.Maps.OwnSet
import Derived.Laws.EntriesVeiled
namespace Go.Proofs.YtkihgbggndikpaaGreatDoor
open Go Go.RowKit Go.Shelf Go.Proofs

structure CaughtS (C : Caught) (ps is : List Bs) (W : World) : Prop where
  hp : Boxed W C.bp 39 (.slice C.ap ps.length C.cp)
  hpc : Reads strV W C.ap ps
  hi : Boxed W C.bi 39 (.slice C.ai is.length C.ci)
  hic : Reads strV W C.ai is
  hm : Boxed W C.bm 33 (.func (.func C.gm) #[] #[])
  ho : Boxed W C.bo 46 (.func (.func C.go) #[] #[])
  hf : Boxed W C.bf 121 (.func (.func 113) #[] #[.pointer (some ⟨C.bp, 0, none⟩), .pointer (some ⟨C.bi, 0, none⟩), .pointer (some ⟨C.bm, 0, none⟩), .pointer (some ⟨C.bo, 0, none⟩), .pointer (some ⟨C.bf, 0, none⟩), .pointer (some ⟨C.bx, 0, none⟩)])
  hx : Boxed W C.bx 120 (.map (some C.mb))
  hmap : ∃ es clock, W.heap[C.mb]? = some (.map es clock)

theorem CaughtS.kept {C : Caught} {ps is : List Bs} {W W' : World} (h : CaughtS C ps is W) (hg : W.grownBy W' (some C.mb)) (hm' : ∃ es clock, W'.heap[C.mb]? = some (.map es clock)) : CaughtS C ps is W' :=
  ⟨boxed_keptM h.hp hg h.hmap, h.hpc.kept hg h.hmap, boxed_keptM h.hi hg h.hmap, h.hic.kept hg h.hmap, boxed_keptM h.hm hg h.hmap, boxed_keptM h.ho hg h.hmap, boxed_keptM h.hf hg h.hmap, boxed_keptM h.hx hg h.hmap, hm'⟩

def badS (many : Bs → Bool) (one : Bs → Bs → Bool) (ps is : List Bs) (i j : Nat) : Bool := !partedB many one (ps.drop i) (is.drop j)

def FromPostS (C : Caught) (many : Bs → Bool) (one : Bs → Bs → Bool) (ps is : List Bs) (i j : Nat) (D : DataW Unit) (W : World) (e : Ending) (W' : World) : Prop :=
  e = .returned (.bool (partedB many one (ps.drop i) (is.drop j))) ∧ W.grownBy W' (some C.mb) ∧
    ∃ D', FailedD W' C.mb ps.length is.length (badS many one ps is) D' ∧ ∀ p : Nat × Nat, p.1 ≤ ps.length → p.2 ≤ is.length → p.1 + p.2 < i + j → Maps.has D' (placeL p) = Maps.has D (placeL p)

/-- What the closure does at the place i, j. -/
def FromSpecS (C : Caught) (many : Bs → Bool) (one : Bs → Bs → Bool) (ps is : List Bs) (i j : Nat) : Prop :=
  ∀ (a c : Int) (W : World) (D : DataW Unit), a = i → c = j → CaughtS C ps is W → FailedD W C.mb ps.length is.length (badS many one ps is) D →
    Calls Tryz.prog 113 #[.agg #[.int .i64 a, .int .i64 c], .pointer (some ⟨C.bp, 0, none⟩), .pointer (some ⟨C.bi, 0, none⟩), .pointer (some ⟨C.bm, 0, none⟩), .pointer (some ⟨C.bo, 0, none⟩), .pointer (some ⟨C.bf, 0, none⟩), .pointer (some ⟨C.bx, 0, none⟩)] W (FromPostS C many one ps is i j D W)
def ManyS (g : Nat) (many : Bs → Bool) : Prop := ∀ x w, x.length ≤ 100 → Calls Tryz.prog g #[.string (mkB x)] w fun e w' => e = .returned (.bool (many x)) ∧ w' = w
def OneS (g : Nat) (one : Bs → Bs → Bool) : Prop := ∀ x y w, x.length ≤ 100 → y.length ≤ 100 → Calls Tryz.prog g #[.string (mkB x), .string (mkB y)] w fun e w' => e = .returned (.bool (one x y)) ∧ Below w.heap.size w w'

set_option maxRecDepth 100000 in
set_option maxHeartbeats 1000000 in
theorem from_endS (C : Caught) (many : Bs → Bool) (one : Bs → Bs → Bool) (ps is : List Bs) (_hps : ps.length ≤ 100000) (_his : is.length ≤ 100000) (_hcp : C.cp ≤ 9223372036854775807) (_hci : C.ci ≤ 9223372036854775807) (j : Nat) (hj : j ≤ is.length) : FromSpecS C many one ps is ps.length j := by
    rintro _ _ W D rfl rfl hC hF
    have cp := hC.hp.cell
    have ci := hC.hi.cell
    have cm := hC.hm.cell
    have co := hC.ho.cell
    have cf := hC.hf.cell
    have cx := hC.hx.cell
    have lp := hC.hp.lt
    have li := hC.hi.lt
    have lm := hC.hm.lt
    have lo := hC.ho.lt
    have lf := hC.hf.lt
    have lx := hC.hx.lt
    have hr : partedB many one (ps.drop ps.length) (is.drop j) = ((j : Int) == (is.length : Int)) := by
      rw [List.drop_length, partedB_nil, Bool.eq_iff_iff, List.isEmpty_iff, List.drop_eq_nil_iff, beq_iff_eq]; omega
    have HR := Lib.hid hr; clear hr
    go_enter Tryz.func113, Tryz.ntmps113
    go_wp2_with fail
    go_ret
    exact ⟨ret_bool HR.out.symm, World.grownBy_alloc _ _ _, D, hF.below ((Below.refl _ W).alloc (Nat.le_refl _) _), fun _ _ _ _ => rfl⟩

set_option maxRecDepth 100000 in
set_option maxHeartbeats 2000000 in
/-- Not any number, and nothing is left. -/
theorem from_noS (C : Caught) (many : Bs → Bool) (one : Bs → Bs → Bool) (ps is : List Bs) (_hps : ps.length ≤ 100000) (_his : is.length ≤ 100000) (_hcp : C.cp ≤ 9223372036854775807) (_hci : C.ci ≤ 9223372036854775807)
    (em : ∀ args w, (callFunc C.gm args).run Tryz.prog w = .ok (.enter C.gm args) w) (hmany : ManyS C.gm many) (hokp : ∀ x ∈ ps, x.length ≤ 100)
    (i : Nat) (p : Bs) (hpe : ps[i]? = some p) (hmny : many p = false) : FromSpecS C many one ps is i is.length := by
    rintro _ _ W D rfl rfl hC hF
    have cp := hC.hp.cell
    have ci := hC.hi.cell
    have cm := hC.hm.cell
    have co := hC.ho.cell
    have cf := hC.hf.cell
    have cx := hC.hx.cell
    have lp := hC.hp.lt
    have li := hC.hi.lt
    have lm := hC.hm.lt
    have lo := hC.ho.lt
    have lf := hC.hf.lt
    have lx := hC.hx.lt
    have g1 : ((i : Int) == (ps.length : Int)) = false := by
      have := (List.getElem?_eq_some_iff.1 hpe).1; rw [beq_eq_false_iff_ne]; omega
    have g1' : (i : Int) < (ps.length : Int) := by have := (List.getElem?_eq_some_iff.1 hpe).1; omega
    have hpm : p ∈ ps := List.mem_of_getElem? hpe
    have hdp := drop_some hpe
    obtain ⟨b, hA, hcell⟩ := hC.hpc i p hpe
    have lb : b < W.heap.size := World.block_lt_of_cell? W ⟨b, i, none⟩ hcell
    rw [hA] at cp
    clear hA
    unfold strV at hcell
    have hr : partedB many one (ps.drop i) (is.drop is.length) = false := by rw [hdp, List.drop_length, partedB_stop, hmny]; rfl
    have HR := Lib.hid hr; clear hr
    have HM := Lib.hid hmny; clear hmny
    have HPE := Lib.hid hpe; clear hpe
    have HDP := Lib.hid hdp; clear hdp
    have HOK := Lib.hid hokp; clear hokp
    go_enter Tryz.func113, Tryz.ntmps113
    go_wp2_with fail
    go_quiet (fail)
    go_wp2_with fail
    refine (hmany p _ (HOK.out p hpm)).mono ?_
    rintro e w' ⟨rfl, rfl⟩
    rw [HM.out]
    go_wp2_with fail
    go_quiet (fail)
    go_wp2_with fail
    go_ret
    exact ⟨ret_bool HR.out.symm, grown_below _ (below_drewN (below_drewN ((Below.refl _ W).alloc (Nat.le_refl _) _) _) _), D, hF.below (below_drewN (below_drewN ((Below.refl _ W).alloc (Nat.le_refl _) _) _) _), fun _ _ _ _ => rfl⟩

set_option maxRecDepth 100000 in
set_option maxHeartbeats 4000000 in
theorem from_one_trueS (C : Caught) (many : Bs → Bool) (one : Bs → Bs → Bool) (ps is : List Bs) (hps : ps.length ≤ 100000) (his : is.length ≤ 100000) (_hcp : C.cp ≤ 9223372036854775807) (_hci : C.ci ≤ 9223372036854775807)
    (em : ∀ args w, (callFunc C.gm args).run Tryz.prog w = .ok (.enter C.gm args) w) (eo : ∀ args w, (callFunc C.go args).run Tryz.prog w = .ok (.enter C.go args) w) (hmany : ManyS C.gm many) (hone : OneS C.go one) (hokp : ∀ x ∈ ps, x.length ≤ 100) (hoki : ∀ x ∈ is, x.length ≤ 100)
    (i j : Nat) (p y : Bs) (hpe : ps[i]? = some p) (hye : is[j]? = some y) (hmny : many p = false) (hone1 : one p y = true) (h3 : FromSpecS C many one ps is (i + 1) (j + 1)) : FromSpecS C many one ps is i j := by
    rintro _ _ W D rfl rfl hC hF
    have cp := hC.hp.cell
    have ci := hC.hi.cell
    have cm := hC.hm.cell
    have co := hC.ho.cell
    have cf := hC.hf.cell
    have cx := hC.hx.cell
    have lp := hC.hp.lt
    have li := hC.hi.lt
    have lm := hC.hm.lt
    have lo := hC.ho.lt
    have lf := hC.hf.lt
    have lx := hC.hx.lt
    have g1 : ((i : Int) == (ps.length : Int)) = false := by
      have := (List.getElem?_eq_some_iff.1 hpe).1; rw [beq_eq_false_iff_ne]; omega
    have g1' : (i : Int) < (ps.length : Int) := by have := (List.getElem?_eq_some_iff.1 hpe).1; omega
    have hpm : p ∈ ps := List.mem_of_getElem? hpe
    have hdp := drop_some hpe
    obtain ⟨b, hA, hcell⟩ := hC.hpc i p hpe
    have lb : b < W.heap.size := World.block_lt_of_cell? W ⟨b, i, none⟩ hcell
    rw [hA] at cp
    clear hA
    unfold strV at hcell
    have hyl := (List.getElem?_eq_some_iff.1 hye).1
    have g2 : (j : Int) < (is.length : Int) := by omega
    have hym : y ∈ is := List.mem_of_getElem? hye
    have hdy := drop_some hye
    obtain ⟨b2, hA2, hcell2⟩ := hC.hic j y hye
    have lb2 : b2 < W.heap.size := World.block_lt_of_cell? W ⟨b2, j, none⟩ hcell2
    rw [hA2] at ci
    clear hA2
    unfold strV at hcell2
    have hr : partedB many one (ps.drop i) (is.drop j) = partedB many one (ps.drop (i + 1)) (is.drop (j + 1)) := by rw [hdp, hdy, partedB_cons, hmny, hone1]; simp
    have HR := Lib.hid hr; clear hr
    have HM := Lib.hid hmny; clear hmny
    have HO := Lib.hid hone1; clear hone1
    have HPE := Lib.hid hpe; clear hpe
    have HDP := Lib.hid hdp; clear hdp
    have HYE := Lib.hid hye; clear hye
    have HDY := Lib.hid hdy; clear hdy
    have HOK := Lib.hid hokp; clear hokp
    have HOI := Lib.hid hoki; clear hoki
    go_enter Tryz.func113, Tryz.ntmps113
    go_wp2_with fail
    go_quiet (fail)
    go_wp2_with fail
    refine (hmany p _ (HOK.out p hpm)).mono ?_
    rintro e w' ⟨rfl, rfl⟩
    rw [HM.out]
    obtain ⟨Wr, hWr⟩ : ∃ Wr, (W.alloc (.cells #[.int .i64 (i : Int), .int .i64 (j : Int)] 123)).drewN nq = Wr := ⟨_, rfl⟩
    have hbr : Below W.heap.size W Wr := by rw [← hWr]; exact below_drewN ((Below.refl _ W).alloc (Nat.le_refl _) _) _
    have hNr : Wr.heap[W.heap.size]? = some (.cells #[.int .i64 (i : Int), .int .i64 (j : Int)] 123 (0, 0)) := by rw [← hWr]; exact World.alloc_heap_new W _
    rw [hWr]
    clear hWr
    obtain ⟨q0, q1⟩ := cells_of_heap hNr
    have lN : W.heap.size < Wr.heap.size := (Array.getElem?_eq_some_iff.1 hNr).1
    have r1 := (hbr.cell (p := ⟨C.bo, 0, none⟩) lo).trans co
    have r2 := (hbr.cell (p := ⟨C.bi, 0, none⟩) li).trans ci
    have r3 := (hbr.cell (p := ⟨b2, j, none⟩) lb2).trans hcell2
    have r4 := (hbr.cell (p := ⟨C.bf, 0, none⟩) lf).trans cf
    have hCr := hC.kept (grown_below _ hbr) (hF.below hbr).isMap
    have hFr := hF.below hbr
    have HBR := Lib.hid hbr; clear hbr
    have HNR := Lib.hid hNr; clear hNr
    obtain ⟨N, hN⟩ : ∃ N, W.heap.size = N := ⟨_, rfl⟩
    rw [hN] at q0 q1 ⊢
    clear cp ci cm co cf cx hcell hcell2 hC
    go_wp2_with fail
    have k1 : C.bo < Wr.heap.size := Nat.lt_of_lt_of_le lo HBR.out.size
    have k2 : C.bi < Wr.heap.size := Nat.lt_of_lt_of_le li HBR.out.size
    have k3 : b2 < Wr.heap.size := Nat.lt_of_lt_of_le lb2 HBR.out.size
    have k4 : N < Wr.heap.size := by rw [← hN]; exact lN
    have k5 : C.bf < Wr.heap.size := Nat.lt_of_lt_of_le lf HBR.out.size
    have HNN := Lib.hid hN; clear hN
    have n1 := boxed_ne_map hCr.ho hCr.hmap
    have n2 := boxed_ne_map hCr.hi hCr.hmap
    have n3 := cell_ne_map r3 hCr.hmap
    have n4 := cell_ne_map q0 hCr.hmap
    have n5 := boxed_ne_map hCr.hf hCr.hmap
    have hi5 : i ≤ 100000 := by omega
    have hj5 : j ≤ 100000 := by omega
    have HC2 := Lib.hid (fun (X : World) (h : Below Wr.heap.size Wr X) => hCr.kept (grown_below _ h) (hFr.below h).isMap)
    have HF2 := Lib.hid (fun (X : World) (h : Below Wr.heap.size Wr X) => hFr.below h)
    have HRS := Lib.hid (And.intro r1 (And.intro r2 (And.intro r3 (And.intro q0 (And.intro q1 r4)))))
    go_region_held3 (fun w' => w'.cell? ⟨C.bo, 0, none⟩ = some (.func (.func C.go) #[] #[]) ∧ w'.cell? ⟨C.bi, 0, none⟩ = some (.slice (some ⟨b2, 0, none⟩) is.length C.ci) ∧ w'.cell? ⟨b2, j, none⟩ = some (.string (mkB y)) ∧ w'.cell? ⟨N, 0, none⟩ = some (.int .i64 i) ∧ w'.cell? ⟨N, 1, none⟩ = some (.int .i64 j) ∧ w'.cell? ⟨C.bf, 0, none⟩ = some (.func (.func 113) #[] #[.pointer (some ⟨C.bp, 0, none⟩), .pointer (some ⟨C.bi, 0, none⟩), .pointer (some ⟨C.bm, 0, none⟩), .pointer (some ⟨C.bo, 0, none⟩), .pointer (some ⟨C.bf, 0, none⟩), .pointer (some ⟨C.bx, 0, none⟩)])) (first | exact ⟨r1, r2, r3, q0, q1, r4⟩ | exact ⟨(hb5.cell (p := ⟨C.bo, 0, none⟩) k1).trans r1, (hb5.cell (p := ⟨C.bi, 0, none⟩) k2).trans r2, (hb5.cell (p := ⟨b2, j, none⟩) k3).trans r3, (hb5.cell (p := ⟨N, 0, none⟩) k4).trans q0, (hb5.cell (p := ⟨N, 1, none⟩) k4).trans q1, (hb5.cell (p := ⟨C.bf, 0, none⟩) k5).trans r4⟩ | exact ⟨hg6.cell ((hb5.cell (p := ⟨C.bo, 0, none⟩) k1).trans r1) (fun e => n1 (by injection e)), hg6.cell ((hb5.cell (p := ⟨C.bi, 0, none⟩) k2).trans r2) (fun e => n2 (by injection e)), hg6.cell ((hb5.cell (p := ⟨b2, j, none⟩) k3).trans r3) (fun e => n3 (by injection e)), hg6.cell ((hb5.cell (p := ⟨N, 0, none⟩) k4).trans q0) (fun e => n4 (by injection e)), hg6.cell ((hb5.cell (p := ⟨N, 1, none⟩) k4).trans q1) (fun e => n4 (by injection e)), hg6.cell ((hb5.cell (p := ⟨C.bf, 0, none⟩) k5).trans r4) (fun e => n5 (by injection e))⟩) ((first | (go_at_fn C.go; refine (hone p y _ (HOK.out p hpm) (HOI.out y hym)).mono ?_; rintro e w5 ⟨rfl, hb5⟩; rw [HO.out]; have hb6 := (Below.refl _ Wr).drew.trans hb5) | (go_at_call 113; refine (h3 _ _ w5 D (wrap_succ i hi5) (wrap_succ j hj5) (HC2.out w5 hb6) (HF2.out w5 hb6)).mono ?_; rintro e w6 ⟨rfl, hg6, D6, hF6, hh6⟩)))
    all_goals go_wp2_with fail
    all_goals go_ret
    exact ⟨ret_bool HR.out.symm, grown_trans (grown_below _ (HBR.out.trans (hb6.mono HBR.out.size))) hg6, D6, hF6, fun q a b c => hh6 q a b (by omega)⟩
end Go.Proofs.YtkihgbggndikpaaGreatDoor
namespace Go.Proofs.YtkihgbggndikpaaGreatDoor
open Go Go.RowKit Go.Shelf Go.Proofs

set_option maxRecDepth 100000 in
set_option maxHeartbeats 4000000 in
theorem from_one_falseS (C : Caught) (many : Bs → Bool) (one : Bs → Bs → Bool) (ps is : List Bs) (_hps : ps.length ≤ 100000) (_his : is.length ≤ 100000) (_hcp : C.cp ≤ 9223372036854775807) (_hci : C.ci ≤ 9223372036854775807)
    (em : ∀ args w, (callFunc C.gm args).run Tryz.prog w = .ok (.enter C.gm args) w) (eo : ∀ args w, (callFunc C.go args).run Tryz.prog w = .ok (.enter C.go args) w) (hmany : ManyS C.gm many) (hone : OneS C.go one) (hokp : ∀ x ∈ ps, x.length ≤ 100) (hoki : ∀ x ∈ is, x.length ≤ 100)
    (i j : Nat) (p y : Bs) (hpe : ps[i]? = some p) (hye : is[j]? = some y) (hmny : many p = false) (hone1 : one p y = false) : FromSpecS C many one ps is i j := by
    rintro _ _ W D rfl rfl hC hF
    have cp := hC.hp.cell
    have ci := hC.hi.cell
    have cm := hC.hm.cell
    have co := hC.ho.cell
    have cf := hC.hf.cell
    have cx := hC.hx.cell
    have lp := hC.hp.lt
    have li := hC.hi.lt
    have lm := hC.hm.lt
    have lo := hC.ho.lt
    have lf := hC.hf.lt
    have lx := hC.hx.lt
    have g1 : ((i : Int) == (ps.length : Int)) = false := by
      have := (List.getElem?_eq_some_iff.1 hpe).1; rw [beq_eq_false_iff_ne]; omega
    have g1' : (i : Int) < (ps.length : Int) := by have := (List.getElem?_eq_some_iff.1 hpe).1; omega
    have hpm : p ∈ ps := List.mem_of_getElem? hpe
    have hdp := drop_some hpe
    obtain ⟨b, hA, hcell⟩ := hC.hpc i p hpe
    have lb : b < W.heap.size := World.block_lt_of_cell? W ⟨b, i, none⟩ hcell
    rw [hA] at cp
    clear hA
    unfold strV at hcell
    have hyl := (List.getElem?_eq_some_iff.1 hye).1
    have g2 : (j : Int) < (is.length : Int) := by omega
    have hym : y ∈ is := List.mem_of_getElem? hye
    have hdy := drop_some hye
    obtain ⟨b2, hA2, hcell2⟩ := hC.hic j y hye
    have lb2 : b2 < W.heap.size := World.block_lt_of_cell? W ⟨b2, j, none⟩ hcell2
    rw [hA2] at ci
    clear hA2
    unfold strV at hcell2
    have hr : partedB many one (ps.drop i) (is.drop j) = false := by rw [hdp, hdy, partedB_cons, hmny, hone1]; simp
    have HR := Lib.hid hr; clear hr
    have HM := Lib.hid hmny; clear hmny
    have HO := Lib.hid hone1; clear hone1
    have HPE := Lib.hid hpe; clear hpe
    have HDP := Lib.hid hdp; clear hdp
    have HYE := Lib.hid hye; clear hye
    have HDY := Lib.hid hdy; clear hdy
    have HOK := Lib.hid hokp; clear hokp
    have HOI := Lib.hid hoki; clear hoki
    go_enter Tryz.func113, Tryz.ntmps113
    go_wp2_with fail
    go_quiet (fail)
    go_wp2_with fail
    refine (hmany p _ (HOK.out p hpm)).mono ?_
    rintro e w' ⟨rfl, rfl⟩
    rw [HM.out]
    obtain ⟨Wr, hWr⟩ : ∃ Wr, (W.alloc (.cells #[.int .i64 (i : Int), .int .i64 (j : Int)] 123)).drewN nq = Wr := ⟨_, rfl⟩
    have hbr : Below W.heap.size W Wr := by rw [← hWr]; exact below_drewN ((Below.refl _ W).alloc (Nat.le_refl _) _) _
    have hNr : Wr.heap[W.heap.size]? = some (.cells #[.int .i64 (i : Int), .int .i64 (j : Int)] 123 (0, 0)) := by rw [← hWr]; exact World.alloc_heap_new W _
    rw [hWr]
    clear hWr
    obtain ⟨q0, q1⟩ := cells_of_heap hNr
    have lN : W.heap.size < Wr.heap.size := (Array.getElem?_eq_some_iff.1 hNr).1
    have r1 := (hbr.cell (p := ⟨C.bo, 0, none⟩) lo).trans co
    have r2 := (hbr.cell (p := ⟨C.bi, 0, none⟩) li).trans ci
    have r3 := (hbr.cell (p := ⟨b2, j, none⟩) lb2).trans hcell2
    have r4 := (hbr.cell (p := ⟨C.bf, 0, none⟩) lf).trans cf
    have hCr := hC.kept (grown_below _ hbr) (hF.below hbr).isMap
    have hFr := hF.below hbr
    have HBR := Lib.hid hbr; clear hbr
    have HNR := Lib.hid hNr; clear hNr
    obtain ⟨N, hN⟩ : ∃ N, W.heap.size = N := ⟨_, rfl⟩
    rw [hN] at q0 q1 ⊢
    clear cp ci cm co cf cx hcell hcell2 hC
    go_wp2_with fail
    have k1 : C.bo < Wr.heap.size := Nat.lt_of_lt_of_le lo HBR.out.size
    have k2 : C.bi < Wr.heap.size := Nat.lt_of_lt_of_le li HBR.out.size
    have k3 : b2 < Wr.heap.size := Nat.lt_of_lt_of_le lb2 HBR.out.size
    have k4 : N < Wr.heap.size := by rw [← hN]; exact lN
    have k5 : C.bf < Wr.heap.size := Nat.lt_of_lt_of_le lf HBR.out.size
    have HNN := Lib.hid hN; clear hN
    refine wp_region_held_drew (S := (fun w' => w'.cell? ⟨C.bo, 0, none⟩ = some (.func (.func C.go) #[] #[]) ∧ w'.cell? ⟨C.bi, 0, none⟩ = some (.slice (some ⟨b2, 0, none⟩) is.length C.ci) ∧ w'.cell? ⟨b2, j, none⟩ = some (.string (mkB y)) ∧ w'.cell? ⟨N, 0, none⟩ = some (.int .i64 i) ∧ w'.cell? ⟨N, 1, none⟩ = some (.int .i64 j) ∧ w'.cell? ⟨C.bf, 0, none⟩ = some (.func (.func 113) #[] #[.pointer (some ⟨C.bp, 0, none⟩), .pointer (some ⟨C.bi, 0, none⟩), .pointer (some ⟨C.bm, 0, none⟩), .pointer (some ⟨C.bo, 0, none⟩), .pointer (some ⟨C.bf, 0, none⟩), .pointer (some ⟨C.bx, 0, none⟩)]))) (by kernel_rfl) ⟨r1, r2, r3, q0, q1, r4⟩ (fun hHeld => ?_)
    refine wpAnyH_take (i := 0) (v := ?v0) rfl (by kernel_rfl) (by kernel_rfl) (by kernel_rfl) (fun _ _ _ h => h) (Or.inl ⟨by rfl, ?y0⟩) (by assumption) ?r0
    case y0 =>
      intro w hSw
      (try dsimp only at hSw)
      go_simp
      first | done | with_reducible rfl
    try simp only [Act.put, List.getElem_toArray, List.getElem_cons_zero, List.setIfInBounds_toArray, List.set_cons_zero, List.set_cons_succ]
    refine wpAnyH_take (i := 1) (v := ?v1) rfl (by kernel_rfl) (by kernel_rfl) (by kernel_rfl) (fun _ _ _ h => h) (Or.inl ⟨by rfl, ?y1⟩) (by assumption) ?r1
    case y1 =>
      intro w hSw
      (try dsimp only at hSw)
      go_simp
      first | done | with_reducible rfl
    try simp only [Act.put, List.getElem_toArray, List.getElem_cons_zero, List.getElem_cons_succ, List.setIfInBounds_toArray, List.set_cons_zero, List.set_cons_succ]
    refine wpAnyH_take (i := 2) (v := ?v2) rfl (by kernel_rfl) (by kernel_rfl) (by kernel_rfl) (fun _ _ _ h => h) (Or.inl ⟨by rfl, ?y2⟩) (by assumption) ?r2
    case y2 =>
      intro w hSw
      (try dsimp only at hSw)
      go_simp
      first | done | with_reducible rfl
    try simp only [Act.put, List.getElem_toArray, List.getElem_cons_zero, List.getElem_cons_succ, List.setIfInBounds_toArray, List.set_cons_zero, List.set_cons_succ]
    refine wpAnyH_take (i := 3) (v := ?v3) rfl (by kernel_rfl) (by kernel_rfl) (by kernel_rfl) (fun _ _ _ h => h) (Or.inl ⟨by rfl, ?y3⟩) (by assumption) ?r3
    case y3 =>
      intro w hSw
      (try dsimp only at hSw)
      go_simp
      first | done | with_reducible rfl
    try simp only [Act.put, List.getElem_toArray, List.getElem_cons_zero, List.getElem_cons_succ, List.setIfInBounds_toArray, List.set_cons_zero, List.set_cons_succ]
    refine wpAnyH_take (i := 4) (v := ?v4) rfl (by kernel_rfl) (by kernel_rfl) (by kernel_rfl) (fun _ _ _ h => h) (Or.inl ⟨by rfl, ?y4⟩) (by assumption) ?r4
    case y4 =>
      intro w hSw
      (try dsimp only at hSw)
      go_simp
      first | done | with_reducible rfl
    try simp only [Act.put, List.getElem_toArray, List.getElem_cons_zero, List.getElem_cons_succ, List.setIfInBounds_toArray, List.set_cons_zero, List.set_cons_succ]
    refine wpAnyH_take (i := 5) (v := ?v5) rfl (by kernel_rfl) (by kernel_rfl) (by kernel_rfl) (fun _ _ _ h => h) (Or.inl ⟨by rfl, ?y5⟩) (by assumption) ?r5
    case y5 =>
      intro w hSw
      (try dsimp only at hSw)
      go_simp
      first | done | with_reducible rfl
    try simp only [Act.put, List.getElem_toArray, List.getElem_cons_zero, List.getElem_cons_succ, List.setIfInBounds_toArray, List.set_cons_zero, List.set_cons_succ]
    refine wpAnyH_take (i := 6) (v := ?v6) rfl (by kernel_rfl) (by kernel_rfl) (by kernel_rfl) (fun _ _ _ h => h) (Or.inl ⟨by rfl, ?y6⟩) (by assumption) ?r6
    case y6 =>
      intro w hSw
      (try dsimp only at hSw)
      go_simp
      first | done | with_reducible rfl
    try simp only [Act.put, List.getElem_toArray, List.getElem_cons_zero, List.getElem_cons_succ, List.setIfInBounds_toArray, List.set_cons_zero, List.set_cons_succ]
    refine wpAnyH_take (i := 7) (v := ?v7) rfl (by kernel_rfl) (by kernel_rfl) (by kernel_rfl) (fun _ _ _ h => h) (Or.inl ⟨by rfl, ?y7⟩) (by assumption) ?r7
    case y7 =>
      intro w hSw
      (try dsimp only at hSw)
      go_simp
      first | done | with_reducible rfl
    try simp only [Act.put, List.getElem_toArray, List.getElem_cons_zero, List.getElem_cons_succ, List.setIfInBounds_toArray, List.set_cons_zero, List.set_cons_succ]
    refine wpAnyH_take (i := 8) (v := ?v8) rfl (by kernel_rfl) (by kernel_rfl) (by kernel_rfl) (fun _ _ _ h => h) (Or.inl ⟨by rfl, ?y8⟩) (by assumption) ?r8
    case y8 =>
      intro w hSw
      (try dsimp only at hSw)
      go_simp
      first | done | with_reducible rfl
    try simp only [Act.put, List.getElem_toArray, List.getElem_cons_zero, List.getElem_cons_succ, List.setIfInBounds_toArray, List.set_cons_zero, List.set_cons_succ]
    refine wpAnyH_ready (rs := [9]) (by kernel_rfl) (by simp) ?_
    refine AllReadyH.cons rfl (fun K hK => ?_) AllReadyH.nil
    go_simp
    refine (hone p y _ (HOK.out p hpm) (HOI.out y hym)).mono ?_
    rintro e w5 ⟨rfl, hb5⟩
    rw [HO.out]
    have hb6 := (Below.refl _ Wr).drew.trans hb5
    go_wp2_with fail
    refine hK.out _ _ ⟨(hb5.cell (p := ⟨C.bo, 0, none⟩) k1).trans r1, (hb5.cell (p := ⟨C.bi, 0, none⟩) k2).trans r2, (hb5.cell (p := ⟨b2, j, none⟩) k3).trans r3, (hb5.cell (p := ⟨N, 0, none⟩) k4).trans q0, (hb5.cell (p := ⟨N, 1, none⟩) k4).trans q1, (hb5.cell (p := ⟨C.bf, 0, none⟩) k5).trans r4⟩ (fun hHeld => ?_)
    clear hK K
    try simp only [Act.put, List.getElem_toArray, List.getElem_cons_zero, List.getElem_cons_succ, List.setIfInBounds_toArray, List.set_cons_zero, List.set_cons_succ]
    refine wpAnyH_take (i := 10) (v := ?v10) rfl (by kernel_rfl) (by kernel_rfl) (by kernel_rfl) (fun _ _ _ h => h) (Or.inl ⟨by rfl, ?y10⟩) (by assumption) ?r10
    case y10 =>
      intro w hSw
      (try dsimp only at hSw)
      go_simp
      first | done | with_reducible rfl
    try simp only [Act.put, List.getElem_toArray, List.getElem_cons_zero, List.getElem_cons_succ, List.setIfInBounds_toArray, List.set_cons_zero, List.set_cons_succ]
    refine wpAnyH_take (i := 11) (v := ?v11) rfl (by kernel_rfl) (by kernel_rfl) (by kernel_rfl) (fun _ _ _ h => h) (Or.inl ⟨by rfl, ?y11⟩) (by assumption) ?r11
    case y11 =>
      intro w hSw
      (try dsimp only at hSw)
      go_simp
      first | done | with_reducible rfl
    try simp only [Act.put, List.getElem_toArray, List.getElem_cons_zero, List.getElem_cons_succ, List.setIfInBounds_toArray, List.set_cons_zero, List.set_cons_succ]
    refine wpAnyH_take (i := 12) (v := undef) rfl (by kernel_rfl) (by kernel_rfl) (by kernel_rfl) (fun _ _ _ h => h) (Or.inr ⟨by rfl, rfl⟩) (by assumption) ?r12
    try simp only [Act.put, List.getElem_toArray, List.getElem_cons_zero, List.getElem_cons_succ, List.setIfInBounds_toArray, List.set_cons_zero, List.set_cons_succ]
    refine wpAnyH_take (i := 13) (v := undef) rfl (by kernel_rfl) (by kernel_rfl) (by kernel_rfl) (fun _ _ _ h => h) (Or.inr ⟨by rfl, rfl⟩) (by assumption) ?r13
    try simp only [Act.put, List.getElem_toArray, List.getElem_cons_zero, List.getElem_cons_succ, List.setIfInBounds_toArray, List.set_cons_zero, List.set_cons_succ]
    refine wpAnyH_take (i := 14) (v := undef) rfl (by kernel_rfl) (by kernel_rfl) (by kernel_rfl) (fun _ _ _ h => h) (Or.inr ⟨by rfl, rfl⟩) (by assumption) ?r14
    try simp only [Act.put, List.getElem_toArray, List.getElem_cons_zero, List.getElem_cons_succ, List.setIfInBounds_toArray, List.set_cons_zero, List.set_cons_succ]
    refine wpAnyH_take (i := 15) (v := undef) rfl (by kernel_rfl) (by kernel_rfl) (by kernel_rfl) (fun _ _ _ h => h) (Or.inr ⟨by rfl, rfl⟩) (by assumption) ?r15
    try simp only [Act.put, List.getElem_toArray, List.getElem_cons_zero, List.getElem_cons_succ, List.setIfInBounds_toArray, List.set_cons_zero, List.set_cons_succ]
    refine wpAnyH_take (i := 16) (v := undef) rfl (by kernel_rfl) (by kernel_rfl) (by kernel_rfl) (fun _ _ _ h => h) (Or.inr ⟨by rfl, rfl⟩) (by assumption) ?r16
    try simp only [Act.put, List.getElem_toArray, List.getElem_cons_zero, List.getElem_cons_succ, List.setIfInBounds_toArray, List.set_cons_zero, List.set_cons_succ]
    refine wpAnyH_take (i := 17) (v := undef) rfl (by kernel_rfl) (by kernel_rfl) (by kernel_rfl) (fun _ _ _ h => h) (Or.inr ⟨by rfl, rfl⟩) (by assumption) ?r17
    try simp only [Act.put, List.getElem_toArray, List.getElem_cons_zero, List.getElem_cons_succ, List.setIfInBounds_toArray, List.set_cons_zero, List.set_cons_succ]
    refine wpAnyH_take (i := 18) (v := undef) rfl (by kernel_rfl) (by kernel_rfl) (by kernel_rfl) (fun _ _ _ h => h) (Or.inr ⟨by rfl, rfl⟩) (by assumption) ?r18
    try simp only [Act.put, List.getElem_toArray, List.getElem_cons_zero, List.getElem_cons_succ, List.setIfInBounds_toArray, List.set_cons_zero, List.set_cons_succ]
    refine wpAnyH_take (i := 19) (v := undef) rfl (by kernel_rfl) (by kernel_rfl) (by kernel_rfl) (fun _ _ _ h => h) (Or.inr ⟨by rfl, rfl⟩) (by assumption) ?r19
    try simp only [Act.put, List.getElem_toArray, List.getElem_cons_zero, List.getElem_cons_succ, List.setIfInBounds_toArray, List.set_cons_zero, List.set_cons_succ]
    refine wpAnyH_take (i := 20) (v := undef) rfl (by kernel_rfl) (by kernel_rfl) (by kernel_rfl) (fun _ _ _ h => h) (Or.inr ⟨by rfl, rfl⟩) (by assumption) ?r20
    try simp only [Act.put, List.getElem_toArray, List.getElem_cons_zero, List.getElem_cons_succ, List.setIfInBounds_toArray, List.set_cons_zero, List.set_cons_succ]
    refine wpAnyH_take (i := 21) (v := ?v21) rfl (by kernel_rfl) (by kernel_rfl) (by kernel_rfl) (fun _ _ _ h => h) (Or.inl ⟨by rfl, ?y21⟩) (by assumption) ?r21
    case y21 =>
      intro w hSw
      (try dsimp only at hSw)
      go_simp
      first | done | with_reducible rfl
    try simp only [Act.put, List.getElem_toArray, List.getElem_cons_zero, List.getElem_cons_succ, List.setIfInBounds_toArray, List.set_cons_zero, List.set_cons_succ]
    refine wpAnyH_take (i := 22) (v := ?v22) rfl (by kernel_rfl) (by kernel_rfl) (by kernel_rfl) (fun _ _ _ h => h) (Or.inl ⟨by rfl, ?y22⟩) (by assumption) ?r22
    case y22 =>
      intro w hSw
      (try dsimp only at hSw)
      go_simp
      first | done | with_reducible rfl
    try simp only [Act.put, List.getElem_toArray, List.getElem_cons_zero, List.getElem_cons_succ, List.setIfInBounds_toArray, List.set_cons_zero, List.set_cons_succ]
    refine wpAnyH_done (by kernel_rfl) ?_ _
    all_goals go_wp2_with fail
    all_goals go_ret
    exact ⟨ret_bool HR.out.symm, grown_below _ (HBR.out.trans (hb6.mono HBR.out.size)), D, (hFr.below hb6), fun _ _ _ _ => rfl⟩
end Go.Proofs.YtkihgbggndikpaaGreatDoor
namespace Go.Proofs.YtkihgbggndikpaaGreatDoor
open Go Go.RowKit Go.Shelf Go.Proofs

set_option maxRecDepth 100000 in
set_option maxHeartbeats 4000000 in
/-- Any number of items; none is left. -/
theorem from_many0S (C : Caught) (many : Bs → Bool) (one : Bs → Bs → Bool) (ps is : List Bs) (hps : ps.length ≤ 100000) (his : is.length ≤ 100000) (_hcp : C.cp ≤ 9223372036854775807) (_hci : C.ci ≤ 9223372036854775807)
    (em : ∀ args w, (callFunc C.gm args).run Tryz.prog w = .ok (.enter C.gm args) w) (hmany : ManyS C.gm many) (hokp : ∀ x ∈ ps, x.length ≤ 100)
    (i : Nat) (p : Bs) (hpe : ps[i]? = some p) (hmny : many p = true) (h1 : FromSpecS C many one ps is (i + 1) is.length) : FromSpecS C many one ps is i is.length := by
    rintro _ _ W D rfl rfl hC hF
    have cp := hC.hp.cell
    have ci := hC.hi.cell
    have cm := hC.hm.cell
    have co := hC.ho.cell
    have cf := hC.hf.cell
    have cx := hC.hx.cell
    have lp := hC.hp.lt
    have li := hC.hi.lt
    have lm := hC.hm.lt
    have lo := hC.ho.lt
    have lf := hC.hf.lt
    have lx := hC.hx.lt
    have g1 : ((i : Int) == (ps.length : Int)) = false := by
      have := (List.getElem?_eq_some_iff.1 hpe).1; rw [beq_eq_false_iff_ne]; omega
    have g1' : (i : Int) < (ps.length : Int) := by have := (List.getElem?_eq_some_iff.1 hpe).1; omega
    have hpm : p ∈ ps := List.mem_of_getElem? hpe
    have hdp := drop_some hpe
    obtain ⟨b, hA, hcell⟩ := hC.hpc i p hpe
    have lb : b < W.heap.size := World.block_lt_of_cell? W ⟨b, i, none⟩ hcell
    rw [hA] at cp
    clear hA
    unfold strV at hcell
    have hj : is.length ≤ is.length := Nat.le_refl _
    have hr : partedB many one (ps.drop i) (is.drop is.length) = partedB many one (ps.drop (i + 1)) (is.drop is.length) := by
      rw [hdp, List.drop_length, partedB_stop, hmny]; rfl
    have hi : i ≤ ps.length := Nat.le_of_lt (List.getElem?_eq_some_iff.1 hpe).1
    have hi5 : i ≤ 100000 := by omega
    have hj5 : is.length ≤ 100000 := by omega
    have hkey := placeL_key i is.length (by omega) (by omega)
    unfold placeV at hkey
    have hbig : (ps.length + 1) * (is.length + 1) ≤ 100001 * 100001 := Nat.mul_le_mul (by omega) (by omega)
    have HM := Lib.hid hmny; clear hmny
    have HPE := Lib.hid hpe; clear hpe
    have HDP := Lib.hid hdp; clear hdp
    have HOK := Lib.hid hokp; clear hokp
    have HKEY := Lib.hid hkey; clear hkey
    have HBIG := Lib.hid hbig; clear hbig
    cases hh : Maps.has D (placeL (i, is.length)) with
    | true =>
      have HH := Lib.hid hh; clear hh
      have hbad : partedB many one (ps.drop i) (is.drop is.length) = false := by
        have hb : badS many one ps is i is.length = true := by
          obtain ⟨_, _, _, h3⟩ := hF
          exact h3 i is.length hi hj HH.out
        unfold badS at hb; simpa using hb
      have HR := Lib.hid hbad; clear hbad hr
      go_enter Tryz.func113, Tryz.ntmps113
      go_wp2_with fail
      go_quiet (fail)
      go_wp2_with fail
      refine (hmany p _ (HOK.out p hpm)).mono ?_
      rintro e w' ⟨rfl, rfl⟩
      rw [HM.out]
      obtain ⟨Wr, hWr⟩ : ∃ Wr, (W.alloc (.cells #[.int .i64 (i : Int), .int .i64 (is.length : Int)] 123)).drewN nq = Wr := ⟨_, rfl⟩
      have hbr : Below W.heap.size W Wr := by rw [← hWr]; exact below_drewN ((Below.refl _ W).alloc (Nat.le_refl _) _) _
      have hNr : Wr.heap[W.heap.size]? = some (.cells #[.int .i64 (i : Int), .int .i64 (is.length : Int)] 123 (0, 0)) := by rw [← hWr]; exact World.alloc_heap_new W _
      rw [hWr]
      clear hWr
      obtain ⟨q0, q1⟩ := cells_of_heap hNr
      have lN : W.heap.size < Wr.heap.size := (Array.getElem?_eq_some_iff.1 hNr).1
      have r4 := (hbr.cell (p := ⟨C.bf, 0, none⟩) lf).trans cf
      have r5 := (hbr.cell (p := ⟨C.bx, 0, none⟩) lx).trans cx
      have hFr := hF.below hbr
      have hCr := hC.kept (grown_below _ hbr) hFr.isMap
      obtain ⟨kk, hown, hkk, hcnt⟩ := hFr.count
      have k4 : W.heap.size < Wr.heap.size := lN
      have k5 : C.bf < Wr.heap.size := Nat.lt_of_lt_of_le lf hbr.size
      have k6 : C.bx < Wr.heap.size := Nat.lt_of_lt_of_le lx hbr.size
      have n4 := cell_ne_map q0 hCr.hmap
      have HC2 := Lib.hid (fun (X : World) (h : Below Wr.heap.size Wr X) => hCr.kept (grown_below _ h) (hFr.below h).isMap)
      have HF2 := Lib.hid (fun (X : World) (h : Below Wr.heap.size Wr X) => hFr.below h)
      have HBR := Lib.hid hbr; clear hbr
      have HNR := Lib.hid hNr; clear hNr
      have HKK := Lib.hid hkk; clear hkk
      have HCN := Lib.hid hcnt; clear hcnt
      clear cp ci cm co cf cx hcell hC
      go_wp2_with (at_lookup; refine wpList_lookup_own_unit _ rfl _ _ 120 rfl 123 95 place_keyed Tryz.underlying120 (zero_unit _) C.mb kk D rfl hown _ _ rfl HKEY.out ?_; rw [HH.out])
      go_ret
      exact ⟨ret_bool HR.out.symm, grown_below _ (HBR.out.trans (((Below.refl _ Wr).alloc (Nat.le_refl _) _).mono HBR.out.size)), D, HF2.out _ ((Below.refl _ Wr).alloc (Nat.le_refl _) _), fun _ _ _ _ => rfl⟩
    | false =>
      have HH := Lib.hid hh; clear hh
      cases b1 : partedB many one (ps.drop (i + 1)) (is.drop is.length) with
      | true =>
        have hr2 : partedB many one (ps.drop i) (is.drop is.length) = true := by rw [hr, b1]
        have HR := Lib.hid hr2; clear hr2 hr
        have B1 := Lib.hid b1; clear b1
        go_enter Tryz.func113, Tryz.ntmps113
        go_wp2_with fail
        go_quiet (fail)
        go_wp2_with fail
        refine (hmany p _ (HOK.out p hpm)).mono ?_
        rintro e w' ⟨rfl, rfl⟩
        rw [HM.out]
        obtain ⟨Wr, hWr⟩ : ∃ Wr, (W.alloc (.cells #[.int .i64 (i : Int), .int .i64 (is.length : Int)] 123)).drewN nq = Wr := ⟨_, rfl⟩
        have hbr : Below W.heap.size W Wr := by rw [← hWr]; exact below_drewN ((Below.refl _ W).alloc (Nat.le_refl _) _) _
        have hNr : Wr.heap[W.heap.size]? = some (.cells #[.int .i64 (i : Int), .int .i64 (is.length : Int)] 123 (0, 0)) := by rw [← hWr]; exact World.alloc_heap_new W _
        rw [hWr]
        clear hWr
        obtain ⟨q0, q1⟩ := cells_of_heap hNr
        have lN : W.heap.size < Wr.heap.size := (Array.getElem?_eq_some_iff.1 hNr).1
        have r4 := (hbr.cell (p := ⟨C.bf, 0, none⟩) lf).trans cf
        have r5 := (hbr.cell (p := ⟨C.bx, 0, none⟩) lx).trans cx
        have hFr := hF.below hbr
        have hCr := hC.kept (grown_below _ hbr) hFr.isMap
        obtain ⟨kk, hown, hkk, hcnt⟩ := hFr.count
        have k4 : W.heap.size < Wr.heap.size := lN
        have k5 : C.bf < Wr.heap.size := Nat.lt_of_lt_of_le lf hbr.size
        have k6 : C.bx < Wr.heap.size := Nat.lt_of_lt_of_le lx hbr.size
        have n4 := cell_ne_map q0 hCr.hmap
        have HC2 := Lib.hid (fun (X : World) (h : Below Wr.heap.size Wr X) => hCr.kept (grown_below _ h) (hFr.below h).isMap)
        have HF2 := Lib.hid (fun (X : World) (h : Below Wr.heap.size Wr X) => hFr.below h)
        have HBR := Lib.hid hbr; clear hbr
        have HNR := Lib.hid hNr; clear hNr
        have HKK := Lib.hid hkk; clear hkk
        have HCN := Lib.hid hcnt; clear hcnt
        clear cp ci cm co cf cx hcell hC
        go_wp2_with (at_lookup; refine wpList_lookup_own_unit _ rfl _ _ 120 rfl 123 95 place_keyed Tryz.underlying120 (zero_unit _) C.mb kk D rfl hown _ _ rfl HKEY.out ?_; rw [HH.out])
        obtain ⟨Ws, hWs⟩ : ∃ Ws, Wr.alloc (.cells #[] 95) = Ws := ⟨_, rfl⟩
        have hbs : Below Wr.heap.size Wr Ws := by rw [← hWs]; exact (Below.refl _ Wr).alloc (Nat.le_refl _) _
        rw [hWs]
        clear hWs
        refine (h1 _ _ _ D (by first | rfl | exact wrap_succ i hi5) rfl (HC2.out Ws hbs) (HF2.out Ws hbs)).mono ?_
        rintro e W1 ⟨rfl, hg1, D1, hF1, hh1⟩
        rw [B1.out]
        go_wp2_with fail
        go_ret
        exact ⟨ret_bool HR.out.symm, grown_trans (grown_below _ (HBR.out.trans (hbs.mono HBR.out.size))) hg1, D1, hF1, fun q a b c => hh1 q a b (by omega)⟩
      | false =>
        have hr2 : partedB many one (ps.drop i) (is.drop is.length) = false := by rw [hr, b1]
        have HR := Lib.hid hr2; clear hr2 hr
        have B1 := Lib.hid b1; clear b1
        go_enter Tryz.func113, Tryz.ntmps113
        go_wp2_with fail
        go_quiet (fail)
        go_wp2_with fail
        refine (hmany p _ (HOK.out p hpm)).mono ?_
        rintro e w' ⟨rfl, rfl⟩
        rw [HM.out]
        obtain ⟨Wr, hWr⟩ : ∃ Wr, (W.alloc (.cells #[.int .i64 (i : Int), .int .i64 (is.length : Int)] 123)).drewN nq = Wr := ⟨_, rfl⟩
        have hbr : Below W.heap.size W Wr := by rw [← hWr]; exact below_drewN ((Below.refl _ W).alloc (Nat.le_refl _) _) _
        have hNr : Wr.heap[W.heap.size]? = some (.cells #[.int .i64 (i : Int), .int .i64 (is.length : Int)] 123 (0, 0)) := by rw [← hWr]; exact World.alloc_heap_new W _
        rw [hWr]
        clear hWr
        obtain ⟨q0, q1⟩ := cells_of_heap hNr
        have lN : W.heap.size < Wr.heap.size := (Array.getElem?_eq_some_iff.1 hNr).1
        have r4 := (hbr.cell (p := ⟨C.bf, 0, none⟩) lf).trans cf
        have r5 := (hbr.cell (p := ⟨C.bx, 0, none⟩) lx).trans cx
        have hFr := hF.below hbr
        have hCr := hC.kept (grown_below _ hbr) hFr.isMap
        obtain ⟨kk, hown, hkk, hcnt⟩ := hFr.count
        have k4 : W.heap.size < Wr.heap.size := lN
        have k5 : C.bf < Wr.heap.size := Nat.lt_of_lt_of_le lf hbr.size
        have k6 : C.bx < Wr.heap.size := Nat.lt_of_lt_of_le lx hbr.size
        have n4 := cell_ne_map q0 hCr.hmap
        have HC2 := Lib.hid (fun (X : World) (h : Below Wr.heap.size Wr X) => hCr.kept (grown_below _ h) (hFr.below h).isMap)
        have HF2 := Lib.hid (fun (X : World) (h : Below Wr.heap.size Wr X) => hFr.below h)
        have HBR := Lib.hid hbr; clear hbr
        have HNR := Lib.hid hNr; clear hNr
        have HKK := Lib.hid hkk; clear hkk
        have HCN := Lib.hid hcnt; clear hcnt
        clear cp ci cm co cf cx hcell hC
        go_wp2_with (at_lookup; refine wpList_lookup_own_unit _ rfl _ _ 120 rfl 123 95 place_keyed Tryz.underlying120 (zero_unit _) C.mb kk D rfl hown _ _ rfl HKEY.out ?_; rw [HH.out])
        obtain ⟨Ws, hWs⟩ : ∃ Ws, Wr.alloc (.cells #[] 95) = Ws := ⟨_, rfl⟩
        have hbs : Below Wr.heap.size Wr Ws := by rw [← hWs]; exact (Below.refl _ Wr).alloc (Nat.le_refl _) _
        rw [hWs]
        clear hWs
        refine (h1 _ _ _ D (by first | rfl | exact wrap_succ i hi5) rfl (HC2.out Ws hbs) (HF2.out Ws hbs)).mono ?_
        rintro e W1 ⟨rfl, hg1, D1, hF1, hh1⟩
        rw [B1.out]
        have c1x := (boxed_keptM (HC2.out Ws hbs).hx hg1 (HC2.out Ws hbs).hmap).cell
        have p0 := hg1.cell ((hbs.cell (p := ⟨W.heap.size, 0, none⟩) k4).trans q0) (fun e => n4 (by injection e))
        have p1 := hg1.cell ((hbs.cell (p := ⟨W.heap.size, 1, none⟩) k4).trans q1) (fun e => n4 (by injection e))
        clear q0 q1 r4 r5
        obtain ⟨ku, hownu, hku, hcu⟩ := hF1.count
        have hku2 : ku ≤ 100001 * 100001 := Nat.le_trans hku HBIG.out
        have HKU := Lib.hid hku; clear hku
        have HCU := Lib.hid hcu; clear hcu
        have hno : Maps.has D1 (placeL (i, is.length)) = false := (hh1 (i, is.length) hi hj (by simp <;> omega)).trans HH.out
        have HNO := Lib.hid hno; clear hno
        go_wp2_with (at_mapUpdate; refine wpList_mapUpdate_own _ rfl _ _ _ 120 rfl 123 95 place_keyed Tryz.underlying120 unitElem C.mb ku D1 rfl hownu (by unfold maxLen; omega) _ _ _ rfl rfl HKEY.out (.agg []) [] unitElem_mk ?_; intro w9 hown9 hgrow9)
        go_ret
        refine ⟨ret_bool HR.out.symm, grown_trans (grown_trans (grown_below _ (HBR.out.trans (hbs.mono HBR.out.size))) hg1) hgrow9, _, FailedD.put (by omega) (by omega) hi hj hF1 hownu.isMap HCU.out HNO.out (by unfold badS; rw [HR.out]; rfl) hown9, fun q a b c => ?_⟩
        rw [put_other (by omega) (by omega) hi hj q a b (fun e => by subst e; simp at c)]
        exact hh1 q a b (by omega)

end Go.Proofs.YtkihgbggndikpaaGreatDoor
namespace Go.Proofs.YtkihgbggndikpaaGreatDoor
open Go Go.RowKit Go.Shelf Go.Proofs

set_option maxRecDepth 100000 in
set_option maxHeartbeats 4000000 in
/-- Any number of items; one is left at least. -/
theorem from_many1S (C : Caught) (many : Bs → Bool) (one : Bs → Bs → Bool) (ps is : List Bs) (hps : ps.length ≤ 100000) (his : is.length ≤ 100000) (_hcp : C.cp ≤ 9223372036854775807) (_hci : C.ci ≤ 9223372036854775807)
    (em : ∀ args w, (callFunc C.gm args).run Tryz.prog w = .ok (.enter C.gm args) w) (hmany : ManyS C.gm many) (hokp : ∀ x ∈ ps, x.length ≤ 100)
    (i j : Nat) (p y : Bs) (hpe : ps[i]? = some p) (hye : is[j]? = some y) (hmny : many p = true) (h1 : FromSpecS C many one ps is (i + 1) j) (h2 : FromSpecS C many one ps is i (j + 1)) : FromSpecS C many one ps is i j := by
    rintro _ _ W D rfl rfl hC hF
    have cp := hC.hp.cell
    have ci := hC.hi.cell
    have cm := hC.hm.cell
    have co := hC.ho.cell
    have cf := hC.hf.cell
    have cx := hC.hx.cell
    have lp := hC.hp.lt
    have li := hC.hi.lt
    have lm := hC.hm.lt
    have lo := hC.ho.lt
    have lf := hC.hf.lt
    have lx := hC.hx.lt
    have g1 : ((i : Int) == (ps.length : Int)) = false := by
      have := (List.getElem?_eq_some_iff.1 hpe).1; rw [beq_eq_false_iff_ne]; omega
    have g1' : (i : Int) < (ps.length : Int) := by have := (List.getElem?_eq_some_iff.1 hpe).1; omega
    have hpm : p ∈ ps := List.mem_of_getElem? hpe
    have hdp := drop_some hpe
    obtain ⟨b, hA, hcell⟩ := hC.hpc i p hpe
    have lb : b < W.heap.size := World.block_lt_of_cell? W ⟨b, i, none⟩ hcell
    rw [hA] at cp
    clear hA
    unfold strV at hcell
    have hyl := (List.getElem?_eq_some_iff.1 hye).1
    have g2 : (j : Int) < (is.length : Int) := by omega
    have hdy := drop_some hye
    have hj : j ≤ is.length := by omega
    have hr : partedB many one (ps.drop i) (is.drop j) = (partedB many one (ps.drop (i + 1)) (is.drop j) || partedB many one (ps.drop i) (is.drop (j + 1))) := by
      rw [hdp, hdy, partedB_cons, hmny, ← hdy]; rfl
    have hi : i ≤ ps.length := Nat.le_of_lt (List.getElem?_eq_some_iff.1 hpe).1
    have hi5 : i ≤ 100000 := by omega
    have hj5 : j ≤ 100000 := by omega
    have hkey := placeL_key i j (by omega) (by omega)
    unfold placeV at hkey
    have hbig : (ps.length + 1) * (is.length + 1) ≤ 100001 * 100001 := Nat.mul_le_mul (by omega) (by omega)
    have HM := Lib.hid hmny; clear hmny
    have HPE := Lib.hid hpe; clear hpe
    have HDP := Lib.hid hdp; clear hdp
    have HOK := Lib.hid hokp; clear hokp
    have HKEY := Lib.hid hkey; clear hkey
    have HBIG := Lib.hid hbig; clear hbig
    have HYE := Lib.hid hye; clear hye
    have HDY := Lib.hid hdy; clear hdy
    cases hh : Maps.has D (placeL (i, j)) with
    | true =>
      have HH := Lib.hid hh; clear hh
      have hbad : partedB many one (ps.drop i) (is.drop j) = false := by
        have hb : badS many one ps is i j = true := by
          obtain ⟨_, _, _, h3⟩ := hF
          exact h3 i j hi hj HH.out
        unfold badS at hb; simpa using hb
      have HR := Lib.hid hbad; clear hbad hr
      go_enter Tryz.func113, Tryz.ntmps113
      go_wp2_with fail
      go_quiet (fail)
      go_wp2_with fail
      refine (hmany p _ (HOK.out p hpm)).mono ?_
      rintro e w' ⟨rfl, rfl⟩
      rw [HM.out]
      obtain ⟨Wr, hWr⟩ : ∃ Wr, (W.alloc (.cells #[.int .i64 (i : Int), .int .i64 (j : Int)] 123)).drewN nq = Wr := ⟨_, rfl⟩
      have hbr : Below W.heap.size W Wr := by rw [← hWr]; exact below_drewN ((Below.refl _ W).alloc (Nat.le_refl _) _) _
      have hNr : Wr.heap[W.heap.size]? = some (.cells #[.int .i64 (i : Int), .int .i64 (j : Int)] 123 (0, 0)) := by rw [← hWr]; exact World.alloc_heap_new W _
      rw [hWr]
      clear hWr
      obtain ⟨q0, q1⟩ := cells_of_heap hNr
      have lN : W.heap.size < Wr.heap.size := (Array.getElem?_eq_some_iff.1 hNr).1
      have r4 := (hbr.cell (p := ⟨C.bf, 0, none⟩) lf).trans cf
      have r5 := (hbr.cell (p := ⟨C.bx, 0, none⟩) lx).trans cx
      have hFr := hF.below hbr
      have hCr := hC.kept (grown_below _ hbr) hFr.isMap
      obtain ⟨kk, hown, hkk, hcnt⟩ := hFr.count
      have k4 : W.heap.size < Wr.heap.size := lN
      have k5 : C.bf < Wr.heap.size := Nat.lt_of_lt_of_le lf hbr.size
      have k6 : C.bx < Wr.heap.size := Nat.lt_of_lt_of_le lx hbr.size
      have n4 := cell_ne_map q0 hCr.hmap
      have HC2 := Lib.hid (fun (X : World) (h : Below Wr.heap.size Wr X) => hCr.kept (grown_below _ h) (hFr.below h).isMap)
      have HF2 := Lib.hid (fun (X : World) (h : Below Wr.heap.size Wr X) => hFr.below h)
      have HBR := Lib.hid hbr; clear hbr
      have HNR := Lib.hid hNr; clear hNr
      have HKK := Lib.hid hkk; clear hkk
      have HCN := Lib.hid hcnt; clear hcnt
      clear cp ci cm co cf cx hcell hC
      go_wp2_with (at_lookup; refine wpList_lookup_own_unit _ rfl _ _ 120 rfl 123 95 place_keyed Tryz.underlying120 (zero_unit _) C.mb kk D rfl hown _ _ rfl HKEY.out ?_; rw [HH.out])
      go_ret
      exact ⟨ret_bool HR.out.symm, grown_below _ (HBR.out.trans (((Below.refl _ Wr).alloc (Nat.le_refl _) _).mono HBR.out.size)), D, HF2.out _ ((Below.refl _ Wr).alloc (Nat.le_refl _) _), fun _ _ _ _ => rfl⟩
    | false =>
      have HH := Lib.hid hh; clear hh
      cases b1 : partedB many one (ps.drop (i + 1)) (is.drop j) with
      | true =>
        have hr2 : partedB many one (ps.drop i) (is.drop j) = true := by rw [hr, b1]; rfl
        have HR := Lib.hid hr2; clear hr2 hr
        have B1 := Lib.hid b1; clear b1
        go_enter Tryz.func113, Tryz.ntmps113
        go_wp2_with fail
        go_quiet (fail)
        go_wp2_with fail
        refine (hmany p _ (HOK.out p hpm)).mono ?_
        rintro e w' ⟨rfl, rfl⟩
        rw [HM.out]
        obtain ⟨Wr, hWr⟩ : ∃ Wr, (W.alloc (.cells #[.int .i64 (i : Int), .int .i64 (j : Int)] 123)).drewN nq = Wr := ⟨_, rfl⟩
        have hbr : Below W.heap.size W Wr := by rw [← hWr]; exact below_drewN ((Below.refl _ W).alloc (Nat.le_refl _) _) _
        have hNr : Wr.heap[W.heap.size]? = some (.cells #[.int .i64 (i : Int), .int .i64 (j : Int)] 123 (0, 0)) := by rw [← hWr]; exact World.alloc_heap_new W _
        rw [hWr]
        clear hWr
        obtain ⟨q0, q1⟩ := cells_of_heap hNr
        have lN : W.heap.size < Wr.heap.size := (Array.getElem?_eq_some_iff.1 hNr).1
        have r4 := (hbr.cell (p := ⟨C.bf, 0, none⟩) lf).trans cf
        have r5 := (hbr.cell (p := ⟨C.bx, 0, none⟩) lx).trans cx
        have hFr := hF.below hbr
        have hCr := hC.kept (grown_below _ hbr) hFr.isMap
        obtain ⟨kk, hown, hkk, hcnt⟩ := hFr.count
        have k4 : W.heap.size < Wr.heap.size := lN
        have k5 : C.bf < Wr.heap.size := Nat.lt_of_lt_of_le lf hbr.size
        have k6 : C.bx < Wr.heap.size := Nat.lt_of_lt_of_le lx hbr.size
        have n4 := cell_ne_map q0 hCr.hmap
        have HC2 := Lib.hid (fun (X : World) (h : Below Wr.heap.size Wr X) => hCr.kept (grown_below _ h) (hFr.below h).isMap)
        have HF2 := Lib.hid (fun (X : World) (h : Below Wr.heap.size Wr X) => hFr.below h)
        have HBR := Lib.hid hbr; clear hbr
        have HNR := Lib.hid hNr; clear hNr
        have HKK := Lib.hid hkk; clear hkk
        have HCN := Lib.hid hcnt; clear hcnt
        clear cp ci cm co cf cx hcell hC
        go_wp2_with (at_lookup; refine wpList_lookup_own_unit _ rfl _ _ 120 rfl 123 95 place_keyed Tryz.underlying120 (zero_unit _) C.mb kk D rfl hown _ _ rfl HKEY.out ?_; rw [HH.out])
        obtain ⟨Ws, hWs⟩ : ∃ Ws, Wr.alloc (.cells #[] 95) = Ws := ⟨_, rfl⟩
        have hbs : Below Wr.heap.size Wr Ws := by rw [← hWs]; exact (Below.refl _ Wr).alloc (Nat.le_refl _) _
        rw [hWs]
        clear hWs
        refine (h1 _ _ _ D (by first | rfl | exact wrap_succ i hi5) rfl (HC2.out Ws hbs) (HF2.out Ws hbs)).mono ?_
        rintro e W1 ⟨rfl, hg1, D1, hF1, hh1⟩
        rw [B1.out]
        go_wp2_with fail
        go_ret
        exact ⟨ret_bool HR.out.symm, grown_trans (grown_below _ (HBR.out.trans (hbs.mono HBR.out.size))) hg1, D1, hF1, fun q a b c => hh1 q a b (by omega)⟩
      | false =>
        cases b2 : partedB many one (ps.drop i) (is.drop (j + 1)) with
        | true =>
          have hr2 : partedB many one (ps.drop i) (is.drop j) = true := by rw [hr, b1, b2]; rfl
          have HR := Lib.hid hr2; clear hr2 hr
          have B1 := Lib.hid b1; clear b1
          have B2 := Lib.hid b2; clear b2
          go_enter Tryz.func113, Tryz.ntmps113
          go_wp2_with fail
          go_quiet (fail)
          go_wp2_with fail
          refine (hmany p _ (HOK.out p hpm)).mono ?_
          rintro e w' ⟨rfl, rfl⟩
          rw [HM.out]
          obtain ⟨Wr, hWr⟩ : ∃ Wr, (W.alloc (.cells #[.int .i64 (i : Int), .int .i64 (j : Int)] 123)).drewN nq = Wr := ⟨_, rfl⟩
          have hbr : Below W.heap.size W Wr := by rw [← hWr]; exact below_drewN ((Below.refl _ W).alloc (Nat.le_refl _) _) _
          have hNr : Wr.heap[W.heap.size]? = some (.cells #[.int .i64 (i : Int), .int .i64 (j : Int)] 123 (0, 0)) := by rw [← hWr]; exact World.alloc_heap_new W _
          rw [hWr]
          clear hWr
          obtain ⟨q0, q1⟩ := cells_of_heap hNr
          have lN : W.heap.size < Wr.heap.size := (Array.getElem?_eq_some_iff.1 hNr).1
          have r4 := (hbr.cell (p := ⟨C.bf, 0, none⟩) lf).trans cf
          have r5 := (hbr.cell (p := ⟨C.bx, 0, none⟩) lx).trans cx
          have hFr := hF.below hbr
          have hCr := hC.kept (grown_below _ hbr) hFr.isMap
          obtain ⟨kk, hown, hkk, hcnt⟩ := hFr.count
          have k4 : W.heap.size < Wr.heap.size := lN
          have k5 : C.bf < Wr.heap.size := Nat.lt_of_lt_of_le lf hbr.size
          have k6 : C.bx < Wr.heap.size := Nat.lt_of_lt_of_le lx hbr.size
          have n4 := cell_ne_map q0 hCr.hmap
          have HC2 := Lib.hid (fun (X : World) (h : Below Wr.heap.size Wr X) => hCr.kept (grown_below _ h) (hFr.below h).isMap)
          have HF2 := Lib.hid (fun (X : World) (h : Below Wr.heap.size Wr X) => hFr.below h)
          have HBR := Lib.hid hbr; clear hbr
          have HNR := Lib.hid hNr; clear hNr
          have HKK := Lib.hid hkk; clear hkk
          have HCN := Lib.hid hcnt; clear hcnt
          clear cp ci cm co cf cx hcell hC
          go_wp2_with (at_lookup; refine wpList_lookup_own_unit _ rfl _ _ 120 rfl 123 95 place_keyed Tryz.underlying120 (zero_unit _) C.mb kk D rfl hown _ _ rfl HKEY.out ?_; rw [HH.out])
          obtain ⟨Ws, hWs⟩ : ∃ Ws, Wr.alloc (.cells #[] 95) = Ws := ⟨_, rfl⟩
          have hbs : Below Wr.heap.size Wr Ws := by rw [← hWs]; exact (Below.refl _ Wr).alloc (Nat.le_refl _) _
          rw [hWs]
          clear hWs
          refine (h1 _ _ _ D (by first | rfl | exact wrap_succ i hi5) rfl (HC2.out Ws hbs) (HF2.out Ws hbs)).mono ?_
          rintro e W1 ⟨rfl, hg1, D1, hF1, hh1⟩
          rw [B1.out]
          have hC1 := (HC2.out Ws hbs).kept hg1 hF1.isMap
          have c1x := hC1.hx.cell
          have c1f := hC1.hf.cell
          have p0 := hg1.cell ((hbs.cell (p := ⟨W.heap.size, 0, none⟩) k4).trans q0) (fun e => n4 (by injection e))
          have p1 := hg1.cell ((hbs.cell (p := ⟨W.heap.size, 1, none⟩) k4).trans q1) (fun e => n4 (by injection e))
          clear q0 q1 r4 r5
          go_wp2_with fail
          refine (h2 _ _ _ D1 rfl (by first | rfl | exact wrap_succ j hj5) hC1 hF1).mono ?_
          rintro e W2 ⟨rfl, hg2, D2, hF2, hh2⟩
          rw [B2.out]
          go_wp2_with fail
          go_ret
          exact ⟨ret_bool HR.out.symm, grown_trans (grown_trans (grown_below _ (HBR.out.trans (hbs.mono HBR.out.size))) hg1) hg2, D2, hF2, fun q a b c => (hh2 q a b (by omega)).trans (hh1 q a b (by omega))⟩
        | false =>
          have hr2 : partedB many one (ps.drop i) (is.drop j) = false := by rw [hr, b1, b2]; rfl
          have HR := Lib.hid hr2; clear hr2 hr
          have B1 := Lib.hid b1; clear b1
          have B2 := Lib.hid b2; clear b2
          go_enter Tryz.func113, Tryz.ntmps113
          go_wp2_with fail
          go_quiet (fail)
          go_wp2_with fail
          refine (hmany p _ (HOK.out p hpm)).mono ?_
          rintro e w' ⟨rfl, rfl⟩
          rw [HM.out]
          obtain ⟨Wr, hWr⟩ : ∃ Wr, (W.alloc (.cells #[.int .i64 (i : Int), .int .i64 (j : Int)] 123)).drewN nq = Wr := ⟨_, rfl⟩
          have hbr : Below W.heap.size W Wr := by rw [← hWr]; exact below_drewN ((Below.refl _ W).alloc (Nat.le_refl _) _) _
          have hNr : Wr.heap[W.heap.size]? = some (.cells #[.int .i64 (i : Int), .int .i64 (j : Int)] 123 (0, 0)) := by rw [← hWr]; exact World.alloc_heap_new W _
          rw [hWr]
          clear hWr
          obtain ⟨q0, q1⟩ := cells_of_heap hNr
          have lN : W.heap.size < Wr.heap.size := (Array.getElem?_eq_some_iff.1 hNr).1
          have r4 := (hbr.cell (p := ⟨C.bf, 0, none⟩) lf).trans cf
          have r5 := (hbr.cell (p := ⟨C.bx, 0, none⟩) lx).trans cx
          have hFr := hF.below hbr
          have hCr := hC.kept (grown_below _ hbr) hFr.isMap
          obtain ⟨kk, hown, hkk, hcnt⟩ := hFr.count
          have k4 : W.heap.size < Wr.heap.size := lN
          have k5 : C.bf < Wr.heap.size := Nat.lt_of_lt_of_le lf hbr.size
          have k6 : C.bx < Wr.heap.size := Nat.lt_of_lt_of_le lx hbr.size
          have n4 := cell_ne_map q0 hCr.hmap
          have HC2 := Lib.hid (fun (X : World) (h : Below Wr.heap.size Wr X) => hCr.kept (grown_below _ h) (hFr.below h).isMap)
          have HF2 := Lib.hid (fun (X : World) (h : Below Wr.heap.size Wr X) => hFr.below h)
          have HBR := Lib.hid hbr; clear hbr
          have HNR := Lib.hid hNr; clear hNr
          have HKK := Lib.hid hkk; clear hkk
          have HCN := Lib.hid hcnt; clear hcnt
          clear cp ci cm co cf cx hcell hC
          go_wp2_with (at_lookup; refine wpList_lookup_own_unit _ rfl _ _ 120 rfl 123 95 place_keyed Tryz.underlying120 (zero_unit _) C.mb kk D rfl hown _ _ rfl HKEY.out ?_; rw [HH.out])
          obtain ⟨Ws, hWs⟩ : ∃ Ws, Wr.alloc (.cells #[] 95) = Ws := ⟨_, rfl⟩
          have hbs : Below Wr.heap.size Wr Ws := by rw [← hWs]; exact (Below.refl _ Wr).alloc (Nat.le_refl _) _
          rw [hWs]
          clear hWs
          refine (h1 _ _ _ D (by first | rfl | exact wrap_succ i hi5) rfl (HC2.out Ws hbs) (HF2.out Ws hbs)).mono ?_
          rintro e W1 ⟨rfl, hg1, D1, hF1, hh1⟩
          rw [B1.out]
          have hC1 := (HC2.out Ws hbs).kept hg1 hF1.isMap
          have c1x := hC1.hx.cell
          have c1f := hC1.hf.cell
          have p0 := hg1.cell ((hbs.cell (p := ⟨W.heap.size, 0, none⟩) k4).trans q0) (fun e => n4 (by injection e))
          have p1 := hg1.cell ((hbs.cell (p := ⟨W.heap.size, 1, none⟩) k4).trans q1) (fun e => n4 (by injection e))
          clear q0 q1 r4 r5
          go_wp2_with fail
          refine (h2 _ _ _ D1 rfl (by first | rfl | exact wrap_succ j hj5) hC1 hF1).mono ?_
          rintro e W2 ⟨rfl, hg2, D2, hF2, hh2⟩
          rw [B2.out]
          have c2x := (boxed_keptM hC1.hx hg2 hC1.hmap).cell
          have s0 := hg2.cell p0 (fun e => n4 (by injection e))
          have s1 := hg2.cell p1 (fun e => n4 (by injection e))
          clear p0 p1 c1f c1x
          obtain ⟨ku, hownu, hku, hcu⟩ := hF2.count
          have hku2 : ku ≤ 100001 * 100001 := Nat.le_trans hku HBIG.out
          have HKU := Lib.hid hku; clear hku
          have HCU := Lib.hid hcu; clear hcu
          have hno : Maps.has D2 (placeL (i, j)) = false := (hh2 (i, j) hi hj (by simp <;> omega)).trans ((hh1 (i, j) hi hj (by simp <;> omega)).trans HH.out)
          have HNO := Lib.hid hno; clear hno
          go_wp2_with (at_mapUpdate; refine wpList_mapUpdate_own _ rfl _ _ _ 120 rfl 123 95 place_keyed Tryz.underlying120 unitElem C.mb ku D2 rfl hownu (by unfold maxLen; omega) _ _ _ rfl rfl HKEY.out (.agg []) [] unitElem_mk ?_; intro w9 hown9 hgrow9)
          go_ret
          refine ⟨ret_bool HR.out.symm, grown_trans (grown_trans (grown_trans (grown_below _ (HBR.out.trans (hbs.mono HBR.out.size))) hg1) hg2) hgrow9, _, FailedD.put (by omega) (by omega) hi hj hF2 hownu.isMap HCU.out HNO.out (by unfold badS; rw [HR.out]; rfl) hown9, fun q a b c => ?_⟩
          rw [put_other (by omega) (by omega) hi hj q a b (fun e => by subst e; simp at c)]
          exact (hh2 q a b (by omega)).trans (hh1 q a b (by omega))

end Go.Proofs.YtkihgbggndikpaaGreatDoor
namespace Go.Proofs.YtkihgbggndikpaaGreatDoor
open Go Go.RowKit Go.Shelf Go.Proofs

theorem from_allS (C : Caught) (many : Bs → Bool) (one : Bs → Bs → Bool) (ps is : List Bs) (hps : ps.length ≤ 100000) (his : is.length ≤ 100000) (hcp : C.cp ≤ 9223372036854775807) (hci : C.ci ≤ 9223372036854775807)
    (em : ∀ args w, (callFunc C.gm args).run Tryz.prog w = .ok (.enter C.gm args) w) (eo : ∀ args w, (callFunc C.go args).run Tryz.prog w = .ok (.enter C.go args) w) (hmany : ManyS C.gm many) (hone : OneS C.go one) (hokp : ∀ x ∈ ps, x.length ≤ 100) (hoki : ∀ x ∈ is, x.length ≤ 100) (k : Nat) :
    ∀ i j, (ps.length - i) + (is.length - j) ≤ k → i ≤ ps.length → j ≤ is.length → FromSpecS C many one ps is i j := by
  have last : ∀ i j, i = ps.length → j ≤ is.length → FromSpecS C many one ps is i j := by
    rintro i j rfl hj
    exact from_endS C many one ps is hps his hcp hci j hj
  induction k with
  | zero => exact fun i j h hi hj => last i j (by omega) hj
  | succ k ih =>
    intro i j h hi hj
    by_cases h1 : i = ps.length
    · exact last i j h1 hj
    · have hlt : i < ps.length := by omega
      have hpe : ps[i]? = some ps[i] := List.getElem?_eq_getElem hlt
      by_cases h2 : j = is.length
      · subst h2
        cases hm : many ps[i] with
        | false => exact from_noS C many one ps is hps his hcp hci em hmany hokp i _ hpe hm
        | true => exact from_many0S C many one ps is hps his hcp hci em hmany hokp i _ hpe hm (ih _ _ (by omega) (by omega) (by omega))
      · have hlj : j < is.length := by omega
        have hye : is[j]? = some is[j] := List.getElem?_eq_getElem hlj
        cases hm : many ps[i] with
        | true => exact from_many1S C many one ps is hps his hcp hci em hmany hokp i j _ _ hpe hye hm (ih _ _ (by omega) (by omega) (by omega)) (ih _ _ (by omega) (by omega) (by omega))
        | false =>
          cases ho : one ps[i] is[j] with
          | false => exact from_one_falseS C many one ps is hps his hcp hci em eo hmany hone hokp hoki i j _ _ hpe hye hm ho
          | true => exact from_one_trueS C many one ps is hps his hcp hci em eo hmany hone hokp hoki i j _ _ hpe hye hm ho (ih _ _ (by omega) (by omega) (by omega))

set_option maxRecDepth 100000 in
set_option maxHeartbeats 2000000 in
theorem partedS_any (gm go : Nat) (many : Bs → Bool) (one : Bs → Bs → Bool) (ps is : List Bs) (ap ai : Option Addr) (cp ci : Nat) (w : World) (hps : ps.length ≤ 100000) (his : is.length ≤ 100000) (hcp : cp ≤ 9223372036854775807) (hci : ci ≤ 9223372036854775807)
    (em : ∀ args w, (callFunc gm args).run Tryz.prog w = .ok (.enter gm args) w) (eo : ∀ args w, (callFunc go args).run Tryz.prog w = .ok (.enter go args) w) (hmany : ManyS gm many) (hone : OneS go one) (hokp : ∀ x ∈ ps, x.length ≤ 100) (hoki : ∀ x ∈ is, x.length ≤ 100)
    (hrp : Reads strV w ap ps) (hri : Reads strV w ai is) :
    Calls Tryz.prog 92 #[.slice ap ps.length cp, .slice ai is.length ci, .func (.func gm) #[] #[], .func (.func go) #[] #[]] w fun e w' => e = .returned (.bool (partedB many one ps is)) ∧ Below w.heap.size w w' := by
  have hmm := @run_makeMap Tryz.prog
  go_enter Tryz.func92, Tryz.ntmps92
  go_wp2_with fail
  obtain ⟨W0, hW0⟩ : ∃ W0, (((((((w.alloc (.cells #[.slice ap ps.length cp] 39)).alloc (.cells #[.slice ai is.length ci] 39)).alloc (.cells #[.func (.func gm) #[] #[]] 33)).alloc (.cells #[.func (.func go) #[] #[]] 46)).alloc (.map #[] 0)).alloc (.cells #[.map (some (w.heap.size + 4))] 120)).alloc (.cells #[.func (.func 113) #[] #[.pointer (some ⟨w.heap.size, 0, none⟩), .pointer (some ⟨w.heap.size + 1, 0, none⟩), .pointer (some ⟨w.heap.size + 2, 0, none⟩), .pointer (some ⟨w.heap.size + 3, 0, none⟩), .pointer (some ⟨w.heap.size + 6, 0, none⟩), .pointer (some ⟨w.heap.size + 5, 0, none⟩)]] 121)) = W0 := ⟨_, rfl⟩
  have hB0 : Below w.heap.size w W0 := by
    rw [← hW0]; exact (((((((Below.refl _ w).alloc (Nat.le_refl _) _).alloc (by simp) _).alloc (by simp; omega) _).alloc (by simp; omega) _).alloc (by simp; omega) _).alloc (by simp; omega) _).alloc (by simp; omega) _
  have hlt0 : w.heap.size + 4 < W0.heap.size := by rw [← hW0]; simp
  have x0 : Boxed W0 (w.heap.size) 39 (.slice ap ps.length cp) := by
    rw [← hW0]; have := Boxed.new w 39 (.slice ap ps.length cp); (try simp only [World.size_alloc] at this); exact ((((((this.alloc _).alloc _).alloc _).alloc _).alloc _).alloc _)
  have x1 : Boxed W0 (w.heap.size + 1) 39 (.slice ai is.length ci) := by
    rw [← hW0]; have := Boxed.new (w.alloc (.cells #[.slice ap ps.length cp] 39)) 39 (.slice ai is.length ci); (try simp only [World.size_alloc] at this); exact (((((this.alloc _).alloc _).alloc _).alloc _).alloc _)
  have x2 : Boxed W0 (w.heap.size + 2) 33 (.func (.func gm) #[] #[]) := by
    rw [← hW0]; have := Boxed.new ((w.alloc (.cells #[.slice ap ps.length cp] 39)).alloc (.cells #[.slice ai is.length ci] 39)) 33 (.func (.func gm) #[] #[]); (try simp only [World.size_alloc] at this); exact ((((this.alloc _).alloc _).alloc _).alloc _)
  have x3 : Boxed W0 (w.heap.size + 3) 46 (.func (.func go) #[] #[]) := by
    rw [← hW0]; have := Boxed.new (((w.alloc (.cells #[.slice ap ps.length cp] 39)).alloc (.cells #[.slice ai is.length ci] 39)).alloc (.cells #[.func (.func gm) #[] #[]] 33)) 46 (.func (.func go) #[] #[]); (try simp only [World.size_alloc] at this); exact (((this.alloc _).alloc _).alloc _)
  have x5 : Boxed W0 (w.heap.size + 5) 120 (.map (some (w.heap.size + 4))) := by
    rw [← hW0]; have := Boxed.new (((((w.alloc (.cells #[.slice ap ps.length cp] 39)).alloc (.cells #[.slice ai is.length ci] 39)).alloc (.cells #[.func (.func gm) #[] #[]] 33)).alloc (.cells #[.func (.func go) #[] #[]] 46)).alloc (.map #[] 0)) 120 (.map (some (w.heap.size + 4))); (try simp only [World.size_alloc] at this); exact (this.alloc _)
  have x6 : Boxed W0 (w.heap.size + 6) 121 (.func (.func 113) #[] #[.pointer (some ⟨w.heap.size, 0, none⟩), .pointer (some ⟨w.heap.size + 1, 0, none⟩), .pointer (some ⟨w.heap.size + 2, 0, none⟩), .pointer (some ⟨w.heap.size + 3, 0, none⟩), .pointer (some ⟨w.heap.size + 6, 0, none⟩), .pointer (some ⟨w.heap.size + 5, 0, none⟩)]) := by
    rw [← hW0]; have := Boxed.new ((((((w.alloc (.cells #[.slice ap ps.length cp] 39)).alloc (.cells #[.slice ai is.length ci] 39)).alloc (.cells #[.func (.func gm) #[] #[]] 33)).alloc (.cells #[.func (.func go) #[] #[]] 46)).alloc (.map #[] 0)).alloc (.cells #[.map (some (w.heap.size + 4))] 120)) 121 (.func (.func 113) #[] #[.pointer (some ⟨w.heap.size, 0, none⟩), .pointer (some ⟨w.heap.size + 1, 0, none⟩), .pointer (some ⟨w.heap.size + 2, 0, none⟩), .pointer (some ⟨w.heap.size + 3, 0, none⟩), .pointer (some ⟨w.heap.size + 6, 0, none⟩), .pointer (some ⟨w.heap.size + 5, 0, none⟩)]); (try simp only [World.size_alloc] at this); exact this
  have hF0 : FailedD W0 (w.heap.size + 4) ps.length is.length (badS many one ps is) (.map []) := by
    rw [← hW0]
    have := FailedD.made ((((w.alloc (.cells #[.slice ap ps.length cp] 39)).alloc (.cells #[.slice ai is.length ci] 39)).alloc (.cells #[.func (.func gm) #[] #[]] 33)).alloc (.cells #[.func (.func go) #[] #[]] 46)) ps.length is.length (badS many one ps is)
    simp only [World.size_alloc] at this
    exact (this.kept (World.grownBy_alloc _ _ none) (by simp)).kept (World.grownBy_alloc _ _ none) (by simp)
  have hsame : ∀ b j v, w.cell? ⟨b, j, none⟩ = some v → W0.cell? ⟨b, j, none⟩ = some v := fun b j v h => (hB0.cell (p := ⟨b, j, none⟩) (World.block_lt_of_cell? w ⟨b, j, none⟩ h)).trans h
  rw [hW0]
  clear hW0
  have hC : CaughtS ⟨w.heap.size, w.heap.size + 1, w.heap.size + 2, w.heap.size + 3, w.heap.size + 6, w.heap.size + 5, w.heap.size + 4, ap, cp, ai, ci, gm, go⟩ ps is W0 :=
    ⟨x0, fun j x h => by obtain ⟨b, hA, hc⟩ := hrp j x h; exact ⟨b, hA, hsame _ _ _ hc⟩, x1, fun j x h => by obtain ⟨b, hA, hc⟩ := hri j x h; exact ⟨b, hA, hsame _ _ _ hc⟩, x2, x3, x6, x5, hF0.isMap⟩
  refine (from_allS _ many one ps is hps his hcp hci em eo hmany hone hokp hoki _ 0 0 (Nat.le_refl _) (Nat.zero_le _) (Nat.zero_le _) 0 0 W0 _ rfl rfl hC hF0).mono ?_
  rintro e W1 ⟨rfl, hg1, _⟩
  rw [List.drop_zero, List.drop_zero]
  have hB1 : Below w.heap.size w W1 := hB0.grown hg1 hB0.size (fun k e => by cases e; show w.heap.size ≤ w.heap.size + 4; omega)
  clear hg1 hC hF0 x0 x1 x2 x3 x5 x6 hB0 hsame hmm
  go_wp2_with fail
  go_ret
  exact ⟨rfl, hB1⟩

end Go.Proofs.YtkihgbggndikpaaGreatDoor
