/-
  The contract of the closure in path.parted at bytes: rows of items, one for each pattern; what failed is kept.
-/
import Derived.Test.YtcnifjjdnomgpaaDoorCaught
import Derived.Deep.RegionHeld3
import Derived.BigQuiet
import Derived.Deep.QuietTactic
namespace Go.Proofs.YtcnifjjdnomgpaaDoor
open Go Go.RowKit Go.Shelf Go.Proofs

def byteV (b : UInt8) : Value := .int .u8 ↑b.toNat
structure CaughtB (C : Caught) (ps is : List UInt8) (W : World) : Prop where
  hp : Boxed W C.bp 39 (.slice C.ap ps.length C.cp)
  hpc : Reads byteV W C.ap ps
  hi : Boxed W C.bi 39 (.slice C.ai is.length C.ci)
  hic : Reads byteV W C.ai is
  hm : Boxed W C.bm 76 (.func (.func C.gm) #[] #[])
  ho : Boxed W C.bo 84 (.func (.func C.go) #[] #[])
  hf : Boxed W C.bf 78 (.func (.func 96) #[] #[.pointer (some ⟨C.bp, 0, none⟩), .pointer (some ⟨C.bi, 0, none⟩), .pointer (some ⟨C.bm, 0, none⟩), .pointer (some ⟨C.bo, 0, none⟩), .pointer (some ⟨C.bf, 0, none⟩), .pointer (some ⟨C.bx, 0, none⟩)])
  hx : Boxed W C.bx 77 (.map (some C.mb))
  hmap : ∃ es clock, W.heap[C.mb]? = some (.map es clock)

theorem CaughtB.kept {C : Caught} {ps is : List UInt8} {W W' : World} (h : CaughtB C ps is W) (hg : W.grownBy W' (some C.mb)) (hm' : ∃ es clock, W'.heap[C.mb]? = some (.map es clock)) : CaughtB C ps is W' :=
  ⟨boxed_keptM h.hp hg h.hmap, h.hpc.kept hg h.hmap, boxed_keptM h.hi hg h.hmap, h.hic.kept hg h.hmap, boxed_keptM h.hm hg h.hmap, boxed_keptM h.ho hg h.hmap, boxed_keptM h.hf hg h.hmap, boxed_keptM h.hx hg h.hmap, hm'⟩

def badB (many : UInt8 → Bool) (one : UInt8 → UInt8 → Bool) (ps is : List UInt8) (i j : Nat) : Bool := !partedB many one (ps.drop i) (is.drop j)

def FromPostB (C : Caught) (many : UInt8 → Bool) (one : UInt8 → UInt8 → Bool) (ps is : List UInt8) (i j : Nat) (D : DataW Unit) (W : World) (e : Ending) (W' : World) : Prop :=
  e = .returned (.bool (partedB many one (ps.drop i) (is.drop j))) ∧ W.grownBy W' (some C.mb) ∧
    ∃ D', FailedD W' C.mb ps.length is.length (badB many one ps is) D' ∧ ∀ p : Nat × Nat, p.1 ≤ ps.length → p.2 ≤ is.length → p.1 + p.2 < i + j → Maps.has D' (placeL p) = Maps.has D (placeL p)

/-- What the closure does at the place i, j. -/
def FromSpecB (C : Caught) (many : UInt8 → Bool) (one : UInt8 → UInt8 → Bool) (ps is : List UInt8) (i j : Nat) : Prop :=
  ∀ (a c : Int) (W : World) (D : DataW Unit), a = i → c = j → CaughtB C ps is W → FailedD W C.mb ps.length is.length (badB many one ps is) D →
    Calls Tryd.prog 96 #[.agg #[.int .i64 a, .int .i64 c], .pointer (some ⟨C.bp, 0, none⟩), .pointer (some ⟨C.bi, 0, none⟩), .pointer (some ⟨C.bm, 0, none⟩), .pointer (some ⟨C.bo, 0, none⟩), .pointer (some ⟨C.bf, 0, none⟩), .pointer (some ⟨C.bx, 0, none⟩)] W (FromPostB C many one ps is i j D W)
def ManyB (g : Nat) (many : UInt8 → Bool) : Prop := ∀ x w, True → Calls Tryd.prog g #[.int .u8 ↑(x).toNat] w fun e w' => e = .returned (.bool (many x)) ∧ w' = w
def OneB (g : Nat) (one : UInt8 → UInt8 → Bool) : Prop := ∀ x y w, True → True → Calls Tryd.prog g #[.int .u8 ↑(x).toNat, .int .u8 ↑(y).toNat] w fun e w' => e = .returned (.bool (one x y)) ∧ Below w.heap.size w w'

set_option maxRecDepth 100000 in
set_option maxHeartbeats 1000000 in
theorem from_endB (C : Caught) (many : UInt8 → Bool) (one : UInt8 → UInt8 → Bool) (ps is : List UInt8) (_hps : ps.length ≤ 100000) (_his : is.length ≤ 100000) (_hcp : C.cp ≤ 9223372036854775807) (_hci : C.ci ≤ 9223372036854775807) (j : Nat) (hj : j ≤ is.length) : FromSpecB C many one ps is ps.length j := by
    rintro _ _ W D rfl rfl hC hF
    have cp := hC.hp.cell
    have ci := hC.hi.cell
    have cm := hC.hm.cell
    have co := hC.ho.cell
    have cf := hC.hf.cell
    have cx := hC.hx.cell
    have lp := hC.hp.lt
    have li := hC.hi.lt
    have lm := hC.hm.lt
    have lo := hC.ho.lt
    have lf := hC.hf.lt
    have lx := hC.hx.lt
    have hr : partedB many one (ps.drop ps.length) (is.drop j) = ((j : Int) == (is.length : Int)) := by
      rw [List.drop_length, partedB_nil, Bool.eq_iff_iff, List.isEmpty_iff, List.drop_eq_nil_iff, beq_iff_eq]; omega
    have HR := Lib.hid hr; clear hr
    go_enter Tryd.func96, Tryd.ntmps96
    go_wp2_with fail
    go_ret
    exact ⟨ret_bool HR.out.symm, World.grownBy_alloc _ _ _, D, hF.below ((Below.refl _ W).alloc (Nat.le_refl _) _), fun _ _ _ _ => rfl⟩

set_option maxRecDepth 100000 in
set_option maxHeartbeats 2000000 in
/-- Not any number, and nothing is left. -/
theorem from_noB (C : Caught) (many : UInt8 → Bool) (one : UInt8 → UInt8 → Bool) (ps is : List UInt8) (_hps : ps.length ≤ 100000) (_his : is.length ≤ 100000) (_hcp : C.cp ≤ 9223372036854775807) (_hci : C.ci ≤ 9223372036854775807)
    (em : ∀ args w, (callFunc C.gm args).run Tryd.prog w = .ok (.enter C.gm args) w) (hmany : ManyB C.gm many) (hokp : ∀ x ∈ ps, True)
    (i : Nat) (p : UInt8) (hpe : ps[i]? = some p) (hmny : many p = false) : FromSpecB C many one ps is i is.length := by
    rintro _ _ W D rfl rfl hC hF
    have cp := hC.hp.cell
    have ci := hC.hi.cell
    have cm := hC.hm.cell
    have co := hC.ho.cell
    have cf := hC.hf.cell
    have cx := hC.hx.cell
    have lp := hC.hp.lt
    have li := hC.hi.lt
    have lm := hC.hm.lt
    have lo := hC.ho.lt
    have lf := hC.hf.lt
    have lx := hC.hx.lt
    have g1 : ((i : Int) == (ps.length : Int)) = false := by
      have := (List.getElem?_eq_some_iff.1 hpe).1; rw [beq_eq_false_iff_ne]; omega
    have g1' : (i : Int) < (ps.length : Int) := by have := (List.getElem?_eq_some_iff.1 hpe).1; omega
    have hpm : p ∈ ps := List.mem_of_getElem? hpe
    have hdp := drop_some hpe
    obtain ⟨b, hA, hcell⟩ := hC.hpc i p hpe
    have lb : b < W.heap.size := World.block_lt_of_cell? W ⟨b, i, none⟩ hcell
    rw [hA] at cp
    clear hA
    unfold byteV at hcell
    have hr : partedB many one (ps.drop i) (is.drop is.length) = false := by rw [hdp, List.drop_length, partedB_stop, hmny]; rfl
    have HR := Lib.hid hr; clear hr
    have HM := Lib.hid hmny; clear hmny
    have HPE := Lib.hid hpe; clear hpe
    have HDP := Lib.hid hdp; clear hdp
    have HOK := Lib.hid hokp; clear hokp
    go_enter Tryd.func96, Tryd.ntmps96
    go_wp2_with fail
    go_quiet (fail)
    go_wp2_with fail
    refine (hmany p _ (HOK.out p hpm)).mono ?_
    rintro e w' ⟨rfl, rfl⟩
    rw [HM.out]
    go_wp2_with fail
    go_quiet (fail)
    go_wp2_with fail
    go_ret
    exact ⟨ret_bool HR.out.symm, grown_below _ (below_drewN (below_drewN ((Below.refl _ W).alloc (Nat.le_refl _) _) _) _), D, hF.below (below_drewN (below_drewN ((Below.refl _ W).alloc (Nat.le_refl _) _) _) _), fun _ _ _ _ => rfl⟩

set_option maxRecDepth 100000 in
set_option maxHeartbeats 4000000 in
theorem from_one_trueB (C : Caught) (many : UInt8 → Bool) (one : UInt8 → UInt8 → Bool) (ps is : List UInt8) (hps : ps.length ≤ 100000) (his : is.length ≤ 100000) (_hcp : C.cp ≤ 9223372036854775807) (_hci : C.ci ≤ 9223372036854775807)
    (em : ∀ args w, (callFunc C.gm args).run Tryd.prog w = .ok (.enter C.gm args) w) (eo : ∀ args w, (callFunc C.go args).run Tryd.prog w = .ok (.enter C.go args) w) (hmany : ManyB C.gm many) (hone : OneB C.go one) (hokp : ∀ x ∈ ps, True) (hoki : ∀ x ∈ is, True)
    (i j : Nat) (p y : UInt8) (hpe : ps[i]? = some p) (hye : is[j]? = some y) (hmny : many p = false) (hone1 : one p y = true) (h3 : FromSpecB C many one ps is (i + 1) (j + 1)) : FromSpecB C many one ps is i j := by
    rintro _ _ W D rfl rfl hC hF
    have cp := hC.hp.cell
    have ci := hC.hi.cell
    have cm := hC.hm.cell
    have co := hC.ho.cell
    have cf := hC.hf.cell
    have cx := hC.hx.cell
    have lp := hC.hp.lt
    have li := hC.hi.lt
    have lm := hC.hm.lt
    have lo := hC.ho.lt
    have lf := hC.hf.lt
    have lx := hC.hx.lt
    have g1 : ((i : Int) == (ps.length : Int)) = false := by
      have := (List.getElem?_eq_some_iff.1 hpe).1; rw [beq_eq_false_iff_ne]; omega
    have g1' : (i : Int) < (ps.length : Int) := by have := (List.getElem?_eq_some_iff.1 hpe).1; omega
    have hpm : p ∈ ps := List.mem_of_getElem? hpe
    have hdp := drop_some hpe
    obtain ⟨b, hA, hcell⟩ := hC.hpc i p hpe
    have lb : b < W.heap.size := World.block_lt_of_cell? W ⟨b, i, none⟩ hcell
    rw [hA] at cp
    clear hA
    unfold byteV at hcell
    have hyl := (List.getElem?_eq_some_iff.1 hye).1
    have g2 : (j : Int) < (is.length : Int) := by omega
    have hym : y ∈ is := List.mem_of_getElem? hye
    have hdy := drop_some hye
    obtain ⟨b2, hA2, hcell2⟩ := hC.hic j y hye
    have lb2 : b2 < W.heap.size := World.block_lt_of_cell? W ⟨b2, j, none⟩ hcell2
    rw [hA2] at ci
    clear hA2
    unfold byteV at hcell2
    have hr : partedB many one (ps.drop i) (is.drop j) = partedB many one (ps.drop (i + 1)) (is.drop (j + 1)) := by rw [hdp, hdy, partedB_cons, hmny, hone1]; simp
    have HR := Lib.hid hr; clear hr
    have HM := Lib.hid hmny; clear hmny
    have HO := Lib.hid hone1; clear hone1
    have HPE := Lib.hid hpe; clear hpe
    have HDP := Lib.hid hdp; clear hdp
    have HYE := Lib.hid hye; clear hye
    have HDY := Lib.hid hdy; clear hdy
    have HOK := Lib.hid hokp; clear hokp
    have HOI := Lib.hid hoki; clear hoki
    go_enter Tryd.func96, Tryd.ntmps96
    go_wp2_with fail
    go_quiet (fail)
    go_wp2_with fail
    refine (hmany p _ (HOK.out p hpm)).mono ?_
    rintro e w' ⟨rfl, rfl⟩
    rw [HM.out]
    obtain ⟨Wr, hWr⟩ : ∃ Wr, (W.alloc (.cells #[.int .i64 (i : Int), .int .i64 (j : Int)] 80)).drewN nq = Wr := ⟨_, rfl⟩
    have hbr : Below W.heap.size W Wr := by rw [← hWr]; exact below_drewN ((Below.refl _ W).alloc (Nat.le_refl _) _) _
    have hNr : Wr.heap[W.heap.size]? = some (.cells #[.int .i64 (i : Int), .int .i64 (j : Int)] 80 (0, 0)) := by rw [← hWr]; exact World.alloc_heap_new W _
    rw [hWr]
    clear hWr
    obtain ⟨q0, q1⟩ := cells_of_heap hNr
    have lN : W.heap.size < Wr.heap.size := (Array.getElem?_eq_some_iff.1 hNr).1
    have r1 := (hbr.cell (p := ⟨C.bo, 0, none⟩) lo).trans co
    have r2 := (hbr.cell (p := ⟨C.bi, 0, none⟩) li).trans ci
    have r3 := (hbr.cell (p := ⟨b2, j, none⟩) lb2).trans hcell2
    have r4 := (hbr.cell (p := ⟨C.bf, 0, none⟩) lf).trans cf
    have hCr := hC.kept (grown_below _ hbr) (hF.below hbr).isMap
    have hFr := hF.below hbr
    have HBR := Lib.hid hbr; clear hbr
    have HNR := Lib.hid hNr; clear hNr
    obtain ⟨N, hN⟩ : ∃ N, W.heap.size = N := ⟨_, rfl⟩
    rw [hN] at q0 q1 ⊢
    clear cp ci cm co cf cx hcell hcell2 hC
    go_wp2_with fail
    have k1 : C.bo < Wr.heap.size := Nat.lt_of_lt_of_le lo HBR.out.size
    have k2 : C.bi < Wr.heap.size := Nat.lt_of_lt_of_le li HBR.out.size
    have k3 : b2 < Wr.heap.size := Nat.lt_of_lt_of_le lb2 HBR.out.size
    have k4 : N < Wr.heap.size := by rw [← hN]; exact lN
    have k5 : C.bf < Wr.heap.size := Nat.lt_of_lt_of_le lf HBR.out.size
    have HNN := Lib.hid hN; clear hN
    have n1 := boxed_ne_map hCr.ho hCr.hmap
    have n2 := boxed_ne_map hCr.hi hCr.hmap
    have n3 := cell_ne_map r3 hCr.hmap
    have n4 := cell_ne_map q0 hCr.hmap
    have n5 := boxed_ne_map hCr.hf hCr.hmap
    have hi5 : i ≤ 100000 := by omega
    have hj5 : j ≤ 100000 := by omega
    have HC2 := Lib.hid (fun (X : World) (h : Below Wr.heap.size Wr X) => hCr.kept (grown_below _ h) (hFr.below h).isMap)
    have HF2 := Lib.hid (fun (X : World) (h : Below Wr.heap.size Wr X) => hFr.below h)
    have HRS := Lib.hid (And.intro r1 (And.intro r2 (And.intro r3 (And.intro q0 (And.intro q1 r4)))))
    go_region_held3 (fun w' => w'.cell? ⟨C.bo, 0, none⟩ = some (.func (.func C.go) #[] #[]) ∧ w'.cell? ⟨C.bi, 0, none⟩ = some (.slice (some ⟨b2, 0, none⟩) is.length C.ci) ∧ w'.cell? ⟨b2, j, none⟩ = some (.int .u8 ↑(y).toNat) ∧ w'.cell? ⟨N, 0, none⟩ = some (.int .i64 i) ∧ w'.cell? ⟨N, 1, none⟩ = some (.int .i64 j) ∧ w'.cell? ⟨C.bf, 0, none⟩ = some (.func (.func 96) #[] #[.pointer (some ⟨C.bp, 0, none⟩), .pointer (some ⟨C.bi, 0, none⟩), .pointer (some ⟨C.bm, 0, none⟩), .pointer (some ⟨C.bo, 0, none⟩), .pointer (some ⟨C.bf, 0, none⟩), .pointer (some ⟨C.bx, 0, none⟩)])) (first | exact ⟨r1, r2, r3, q0, q1, r4⟩ | exact ⟨(hb5.cell (p := ⟨C.bo, 0, none⟩) k1).trans r1, (hb5.cell (p := ⟨C.bi, 0, none⟩) k2).trans r2, (hb5.cell (p := ⟨b2, j, none⟩) k3).trans r3, (hb5.cell (p := ⟨N, 0, none⟩) k4).trans q0, (hb5.cell (p := ⟨N, 1, none⟩) k4).trans q1, (hb5.cell (p := ⟨C.bf, 0, none⟩) k5).trans r4⟩ | exact ⟨hg6.cell ((hb5.cell (p := ⟨C.bo, 0, none⟩) k1).trans r1) (fun e => n1 (by injection e)), hg6.cell ((hb5.cell (p := ⟨C.bi, 0, none⟩) k2).trans r2) (fun e => n2 (by injection e)), hg6.cell ((hb5.cell (p := ⟨b2, j, none⟩) k3).trans r3) (fun e => n3 (by injection e)), hg6.cell ((hb5.cell (p := ⟨N, 0, none⟩) k4).trans q0) (fun e => n4 (by injection e)), hg6.cell ((hb5.cell (p := ⟨N, 1, none⟩) k4).trans q1) (fun e => n4 (by injection e)), hg6.cell ((hb5.cell (p := ⟨C.bf, 0, none⟩) k5).trans r4) (fun e => n5 (by injection e))⟩) ((first | (go_at_fn C.go; refine (hone p y _ (HOK.out p hpm) (HOI.out y hym)).mono ?_; rintro e w5 ⟨rfl, hb5⟩; rw [HO.out]; have hb6 := (Below.refl _ Wr).drew.trans hb5) | (go_at_call 96; refine (h3 _ _ w5 D (wrap_succ i hi5) (wrap_succ j hj5) (HC2.out w5 hb6) (HF2.out w5 hb6)).mono ?_; rintro e w6 ⟨rfl, hg6, D6, hF6, hh6⟩)))
    all_goals go_wp2_with fail
    all_goals go_ret
    exact ⟨ret_bool HR.out.symm, grown_trans (grown_below _ (HBR.out.trans (hb6.mono HBR.out.size))) hg6, D6, hF6, fun q a b c => hh6 q a b (by omega)⟩
end Go.Proofs.YtcnifjjdnomgpaaDoor
