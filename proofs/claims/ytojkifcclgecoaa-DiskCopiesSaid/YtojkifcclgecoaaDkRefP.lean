/-
  The document's own put.
-/
import Derived.Test.YtojkifcclgecoaaDkRefO
import Derived.Deep.RegionHeld3
namespace Go.Proofs.Ytojkifcclgecoaa.Dk
open Go Go.RowKit Go.Shelf Go.Proofs

def putD (d : DDk) (i : Nat) (s : DSt) : DDk := if unitOk d then (unitD d).add i [s] else unitD d
theorem unit_parts (d : DDk) : (unitD d).as = d.as ∧ (unitD d).room = d.room := by
  unfold unitD
  rcases d.pw with _ | _ | k <;> exact ⟨rfl, rfl⟩
theorem unit_fits {d : DDk} {n : Nat} (h : d.fits n) : (unitD d).fits n := by
  obtain ⟨e1, e2⟩ := unit_parts d
  refine ⟨by rw [e1]; exact h.1, by rw [e2]; exact h.2.1, fun k hk => ?_, by rw [e1]; exact h.2.2.2⟩
  unfold unitD at hk
  cases hp : d.pw with
  | none => simp only [hp] at hk; cases hk
  | some q =>
    have := h.2.2.1 q hp
    cases q with
    | zero => simp only [hp] at hk; cases hk; omega
    | succ q => simp only [hp] at hk; cases hk; omega
/-- A disk is given that stands on what is fresh and on the areas of t. -/
def RPT (w : World) (t : RT) (d : DDk) (e : Ending) (w' : World) : Prop := ∃ t', e = .returned (RT.v t' d) ∧ Below w.heap.size w w' ∧ ∀ W : World, (∀ b, w.heap.size ≤ b → b < w'.heap.size → W.heap[b]? = w'.heap[b]?) → RAreas W t.A t.c t.R → RefAt W t' d
/-- Five cells are stored into a block, and read again. -/
theorem ret5 {X : World} {N : Nat} {a b c d e : Value} {t : TypeId} (h : X.heap[N]? = some (.cells #[a, b, c, d, e] t (0, 0))) (v x y z u : Value) : ∃ Y, ((((X.setCell ⟨N, 0, none⟩ v).setCell ⟨N, 1, none⟩ x).setCell ⟨N, 2, none⟩ y).setCell ⟨N, 3, none⟩ z).setCell ⟨N, 4, none⟩ u = Y ∧ Y.heap[N]? = some (.cells #[v, x, y, z, u] t (0, 0)) ∧ OnlyB X N Y ∧ X.cell? ⟨N, 0, none⟩ = some a ∧ X.cell? ⟨N, 1, none⟩ = some b ∧ X.cell? ⟨N, 2, none⟩ = some c ∧ X.cell? ⟨N, 3, none⟩ = some d ∧ X.cell? ⟨N, 4, none⟩ = some e ∧ X.frozen? ⟨N, 0, none⟩ = false ∧ X.frozen? ⟨N, 1, none⟩ = false ∧ X.frozen? ⟨N, 2, none⟩ = false ∧ X.frozen? ⟨N, 3, none⟩ = false ∧ X.frozen? ⟨N, 4, none⟩ = false := by
  obtain ⟨h1, h2⟩ := store5 h v x y z u
  exact ⟨_, rfl, h1, h2, cell_of_row X N 0 _ _ _ h, cell_of_row X N 1 _ _ _ h, cell_of_row X N 2 _ _ _ h, cell_of_row X N 3 _ _ _ h, cell_of_row X N 4 _ _ _ h, frozen_of_row X N 0 _ _ h, frozen_of_row X N 1 _ _ h, frozen_of_row X N 2 _ _ h, frozen_of_row X N 3 _ _ h, frozen_of_row X N 4 _ _ h⟩
theorem step_info2 : (Try.prog.info? 122).map (fun i => (i.zero, i.size, i.bytes)) = some (some (.agg #[.int .u8 0, .int .i64 0]), 2, 16) := by kernel_rfl

set_option maxRecDepth 100000 in
set_option maxHeartbeats 16000000 in
theorem rput_any (w : World) (t : RT) (d : DDk) (i n : Nat) (s : DSt) (x : RX) (h : RefAt w t d) (hd : d.fits n) (hn : n ≤ 100000) (hx : t.R[i]? = some x) (hdead : d.dead = false) (hok : okS x.a.now [s]) :
    Calls Try.prog 77 #[RT.v t d, .int .i64 (i : Int), s.v] w (RPT w t (putD d i s)) := by
  have hi := (List.getElem?_eq_some_iff.1 hx).1
  obtain ⟨TA, hTA⟩ : ∃ TA, TA = t.A := ⟨_, rfl⟩
  obtain ⟨V1, hV1⟩ : ∃ V, w.alloc (.cells #[.slice TA t.R.length t.c, .int .i64 (d.room : Int), .bool d.pw.isSome, .int .i64 t.q, .bool d.dead] 57) = V := ⟨_, rfl⟩
  obtain ⟨V2, hV2⟩ : ∃ V, V1.alloc (.cells #[.int .u8 s.c, .int .i64 s.n] 122) = V := ⟨_, rfl⟩
  obtain ⟨V3, hV3⟩ : ∃ V, V2.alloc (.cells #[.slice none 0 0, .int .i64 0, .bool false, .int .i64 0, .bool false] 57) = V := ⟨_, rfl⟩
  have hb1 : Below w.heap.size w V1 := by rw [← hV1]; exact (Below.refl _ _).alloc (Nat.le_refl _) _
  have hb2 : Below V1.heap.size V1 V2 := by rw [← hV2]; exact (Below.refl _ _).alloc (Nat.le_refl _) _
  have hb3 : Below V2.heap.size V2 V3 := by rw [← hV3]; exact (Below.refl _ _).alloc (Nat.le_refl _) _
  have s1 : V1.heap.size = w.heap.size + 1 := by rw [← hV1]; simp
  have s2 : V2.heap.size = w.heap.size + 2 := by rw [← hV2]; simp [s1]
  have s3 : V3.heap.size = w.heap.size + 3 := by rw [← hV3]; simp [s2]
  have hb : Below w.heap.size w V3 := (hb1.trans (hb2.mono hb1.size)).trans (hb3.mono (by omega))
  have z2 : V3.heap[w.heap.size + 1]? = some (.cells #[.int .u8 s.c, .int .i64 s.n] 122 (0, 0)) := (hb3.block _ (by omega)).trans (by rw [← s1, ← hV2]; exact heap_alloc_new V1 _)
  have z3 : V3.heap[w.heap.size + 1 + 1]? = some (.cells #[.slice none 0 0, .int .i64 0, .bool false, .int .i64 0, .bool false] 57 (0, 0)) := by rw [show w.heap.size + 1 + 1 = V2.heap.size by omega, ← hV3]; exact heap_alloc_new V2 _
  have hun := runit_any V3 t d (h.below hb) hd.2.2.1 hdead
  unfold RT.v at hun
  rw [← hTA] at hun
  have HUN := Lib.hid hun
  clear hun
  have HV := Lib.hid (show ((w.alloc (.cells #[.slice TA t.R.length t.c, .int .i64 (d.room : Int), .bool d.pw.isSome, .int .i64 t.q, .bool d.dead] 57)).alloc (.cells #[.int .u8 s.c, .int .i64 s.n] 122)).alloc (.cells #[.slice none 0 0, .int .i64 0, .bool false, .int .i64 0, .bool false] 57) = V3 by rw [hV1, hV2, hV3])
  unfold RT.v DSt.v
  rw [← hTA]
  have HTA := Lib.hid hTA
  clear hTA
  have HDE := Lib.hid hdead
  clear hV1 hV2 hV3 hb1 hb2 hb3 s1 s2 hdead
  go_enter Try.func77, Try.ntmps77
  go_wp2_with fail
  rw [HV.out]
  refine HUN.out.mono ?_
  rintro e w1 ⟨qq, rfl, h1, hbu⟩
  have hbw1 : Below w.heap.size w w1 := hb.trans (hbu.mono (by omega))
  have y2 := (hbu.block (w.heap.size + 1) (by omega)).trans z2
  have y3 := (hbu.block (w.heap.size + 1 + 1) (by omega)).trans z3
  have hs1 : w.heap.size + 3 ≤ w1.heap.size := by have := hbu.size; omega
  obtain ⟨u, hu⟩ : ∃ u, unitD d = u := ⟨_, rfl⟩
  have HPU := Lib.hid (show putD d i s = if unitOk d then u.add i [s] else u by unfold putD; rw [hu])
  rw [hu] at h1 ⊢
  unfold RT.v
  rw [← HTA.out]
  have HU := Lib.hid hu
  have hal := heap_alloc_new w1 (.cells #[.slice TA t.R.length t.c, .int .i64 (u.room : Int), .bool u.pw.isSome, .int .i64 qq, .bool u.dead] 57)
  have hba : Below w1.heap.size w1 (w1.alloc (.cells #[.slice TA t.R.length t.c, .int .i64 (u.room : Int), .bool u.pw.isSome, .int .i64 qq, .bool u.dead] 57)) := (Below.refl _ _).alloc (Nat.le_refl _) _
  obtain ⟨w2, hw2⟩ : ∃ w2, w1.alloc (.cells #[.slice TA t.R.length t.c, .int .i64 (u.room : Int), .bool u.pw.isSome, .int .i64 qq, .bool u.dead] 57) = w2 := ⟨_, rfl⟩
  rw [hw2] at hal hba
  have x2 := (hba.block (w.heap.size + 1) (by omega)).trans y2
  have x3 := (hba.block (w.heap.size + 1 + 1) (by omega)).trans y3
  have hs2 : w2.heap.size = w1.heap.size + 1 := by rw [← hw2]; simp
  have HW2 := Lib.hid hw2
  have HX3 := Lib.hid x3
  have HX2 := Lib.hid x2
  have HAL := Lib.hid hal
  have a0 := cell_of_row w2 _ 0 _ _ _ hal
  have a1 := cell_of_row w2 _ 1 _ _ _ hal
  have a2 := cell_of_row w2 _ 2 _ _ _ hal
  have a3 := cell_of_row w2 _ 3 _ _ _ hal
  have a4 := cell_of_row w2 _ 4 _ _ _ hal
  have hbw2 : Below w.heap.size w w2 := hbw1.trans (hba.mono (by omega))
  have H1 := Lib.hid (fun (W : World) (hW : Below w.heap.size w W) => show RefAt W ⟨t.A, t.c, t.R, qq⟩ u from ⟨h.areas.below hW, by rw [← hu, (unit_parts d).1]; exact h.as_, h1⟩)
  have HRR := Lib.hid (fun (W : World) (hW : RAreas W t.A t.c t.R) => show RefAt W ⟨t.A, t.c, t.R, qq⟩ u from ⟨hW, by rw [← hu, (unit_parts d).1]; exact h.as_, h1⟩)
  have HBA := Lib.hid hba
  have HBW2 := Lib.hid hbw2
  clear hu hal hba hw2 x2 x3 y2 y3 z2 z3 hb hbu hbw1 hbw2 HUN h1
  cases hok1 : unitOk d with
  | false =>
    rw [hok1] at HPU
    go_upto_region 3 with (fail)
    rw [HW2.out]
    obtain ⟨Y, hY, hY1, hY2, r0, r1, r2, r3, r4, f0, f1, f2, f3, f4⟩ := ret5 HX3.out (.slice TA t.R.length t.c) (.int .i64 (u.room : Int)) (.bool u.pw.isSome) (.int .i64 qq) (.bool u.dead)
    have HY := Lib.hid hY
    have HY1 := Lib.hid hY1
    have HFIN := Lib.hid (show RPT w t (putD d i s) (.returned (.agg #[.slice TA t.R.length t.c, .int .i64 (u.room : Int), .bool u.pw.isSome, .int .i64 qq, .bool u.dead])) Y from by
      rw [HPU.out, if_neg (by decide)]
      have hbY2 : Below w.heap.size w Y := ⟨hY2.os.trans HBW2.out.os, hY2.tape.trans HBW2.out.tape, hY2.output.trans HBW2.out.output, by rw [hY2.size]; exact HBW2.out.size, fun q hq => (hY2.block q (by omega)).trans (HBW2.out.block q hq)⟩
      exact ⟨⟨t.A, t.c, t.R, qq⟩, by rw [HTA.out]; rfl, hbY2, fun W _ hW => HRR.out W hW⟩)
    clear hY hY1 hY2 h hd hx hok
    go_wp2_with fail
    rw [HY.out]
    exact bodyPost_ret (results_cell_row rfl _ _ _ _ _ (0, 0) _ rfl HY1.out Try.underlying57 rfl (by kernel_rfl)) rfl HFIN.out
  | true =>
    rw [hok1] at HPU
    go_upto_region 4 with (fail)
    rw [HW2.out]
    obtain ⟨y, g1, o1, hy, _, hA1, c0, c1, c2, hxo⟩ := (h.below HBW2.out).at_ (i := i) hi
    obtain rfl : x = y := Option.some.inj (hx.symm.trans hy)
    have hf := fits_at hd (show d.as[i]? = some x.a by rw [h.as_, List.getElem?_map, hx]; rfl)
    have hnl := x.a.now_length
    have k1 : (i : Int) < (t.R.length : Int) := by omega
    rw [← HTA.out] at hA1
    subst hA1
    have hnc : x.a.now.length ≤ n := by omega
    have hpl : x.a.p.length ≤ n := by omega
    obtain ⟨xn, hxn⟩ : ∃ q, x.a.now.length = q := ⟨_, rfl⟩
    obtain ⟨xl, hxl⟩ : ∃ q, x.a.l.length = q := ⟨_, rfl⟩
    obtain ⟨xp, hxp⟩ : ∃ q, x.a.p.length = q := ⟨_, rfl⟩
    rw [hxn] at c0
    rw [hxl] at c1
    rw [hxp] at c2
    obtain ⟨w3, hw3⟩ : ∃ w3, w2.alloc (.cells #[.slice x.nA xn x.nc, .slice x.lA xl x.lc, .slice x.pA xp x.pc] 103) = w3 := ⟨_, rfl⟩
    have hz3 : w3.heap[w2.heap.size]? = some (.cells #[.slice x.nA xn x.nc, .slice x.lA xl x.lc, .slice x.pA xp x.pc] 103 (0, 0)) := by rw [← hw3]; exact heap_alloc_new w2 _
    have hb23 : Below w2.heap.size w2 w3 := by rw [← hw3]; exact (Below.refl _ _).alloc (Nat.le_refl _) _
    have hs3' : w3.heap.size = w2.heap.size + 1 := by rw [← hw3]; simp
    have hbw3 : Below w.heap.size w w3 := HBW2.out.trans (hb23.mono HBW2.out.size)
    have hp3 := (hxo.below hb23).p
    obtain ⟨v4, w4, hr4, ho4, hg4, _⟩ := run_appX (P := Try.prog) w3 w3.heap.size 101 101 101 122 step_info2 Try.underlying101 Try.underlying101 rfl (by decide) (World.ownsRow_nil _ _ _ _) x.pA x.a.p.length x.pc (stsV x.a.p) (stsV_length _) (fun e => by have := hp3.nil e; have := hp3.cap; omega) (fun a e => stsV_cells hp3 a e) (stsV_one _) (by unfold maxLen; omega) (by omega) (Nat.le_refl _)
    rw [Nat.zero_add, List.nil_append] at ho4
    have hb34 : Below w3.heap.size w3 w4 := (Below.refl _ _).grown hg4 (Nat.le_refl _) (fun k e => by cases e)
    obtain ⟨w5, hw5⟩ : ∃ w5, w4.alloc (.cells #[.int .u8 s.c, .int .i64 s.n] 122) = w5 := ⟨_, rfl⟩
    have hz5 : w5.heap[w4.heap.size]? = some (.cells #[.int .u8 s.c, .int .i64 s.n] 122 (0, 0)) := by rw [← hw5]; exact heap_alloc_new w4 _
    have hb45 : Below w4.heap.size w4 w5 := by rw [← hw5]; exact (Below.refl _ _).alloc (Nat.le_refl _) _
    have ho5 : w5.ownsRow w3.heap.size 122 2 v4 x.a.p.length (stsV x.a.p) := row_keep ho4 fun q _ hl => hb45.block q hl
    obtain ⟨v6, w6, hr6, ho6, hg6, _⟩ := run_appX (P := Try.prog) w5 w3.heap.size 101 101 101 122 step_info2 Try.underlying101 Try.underlying101 rfl (by decide) ho5 (some ⟨w4.heap.size, 0, none⟩) 1 1 [.int .u8 s.c, .int .i64 s.n] rfl (fun e => by cases e) (fun a e j z hz => by
      cases e
      have hj : j < 2 := (List.getElem?_eq_some_iff.1 hz).1
      rw [Go.WideShapes.add_plain, Nat.zero_add]
      exact (cell_of_row _ _ j _ _ _ hz5).trans (by rw [← hz]; match j, hj with | 0, _ => rfl | 1, _ => rfl)) (fun z hz => by
      simp only [List.mem_cons, List.mem_nil_iff, or_false] at hz
      rcases hz with rfl | rfl <;> rfl) (by unfold maxLen; omega) (by omega) (Nat.le_trans hb34.size hb45.size)
    rw [← stsV_snoc] at ho6
    have hb56 : Below w3.heap.size w5 w6 := (Below.refl _ _).grown hg6 (Nat.le_trans hb34.size hb45.size) (fun k e => (row_blk ho5 e).1)
    have hb36 : Below w3.heap.size w3 w6 := (hb34.trans (hb45.mono hb34.size)).trans hb56
    have hbw6 : Below w.heap.size w w6 := hbw3.trans (hb36.mono hbw3.size)
    obtain ⟨A4, k4, e4, _⟩ := row_slice ho4
    obtain ⟨A6, k6, e6, hc6, hm6, hn6, hk6⟩ := row_slice ho6
    subst e6
    have HW3 := Lib.hid hw3
    have HW5 := Lib.hid hw5
    rw [hxp] at hr4 e4
    subst e4
    have HR4 := Lib.hid hr4
    have HR6 := Lib.hid hr6
    have m0 := cell_of_row w3 (w1.heap.size + 1) 0 _ _ _ (by rw [← hs2]; exact hz3)
    have m1 := cell_of_row w3 (w1.heap.size + 1) 1 _ _ _ (by rw [← hs2]; exact hz3)
    have m2 := cell_of_row w3 (w1.heap.size + 1) 2 _ _ _ (by rw [← hs2]; exact hz3)
    have n0 := cell_of_row w3 (w.heap.size + 1) 0 _ _ _ ((hb23.block _ (by have := HBW2.out.size; omega)).trans HX2.out)
    have n1 := cell_of_row w3 (w.heap.size + 1) 1 _ _ _ ((hb23.block _ (by have := HBW2.out.size; omega)).trans HX2.out)
    have HZ3 := Lib.hid hz3
    have HB34 := Lib.hid hb34
    have HB36 := Lib.hid hb36
    have HBW3 := Lib.hid hbw3
    have HBW6 := Lib.hid hbw6
    have HB23 := Lib.hid hb23
    have HHK := Lib.hid hk6
    have HO6 := Lib.hid ho6
    have HHH := Lib.hid h
    have HXO := Lib.hid hxo
    have HHD := Lib.hid hd
    have HXX := Lib.hid hx
    have HOK := Lib.hid hok
    clear hw3 hw5 hr4 hr6 hz3 hb34 hb36 hbw3 hbw6 hb23 hk6 ho6 h hxo hd hx hok hz5 hb45 hb56 ho4 ho5 hg4 hg6 hp3
    go_upto_region 5 with (fail)
    rw [HW3.out]
    go_upto_region 7 with (at_builtin; refine Lib.wpList_append_run _ rfl _ _ _ _ rfl _ _ rfl rfl _ _ HR4.out ?_)
    have n0' := cell_of_row w4 (w.heap.size + 1) 0 _ _ _ ((HB34.out.block _ (by have := HBW2.out.size; have := HB23.out.size; omega)).trans ((HB23.out.block _ (by have := HBW2.out.size; omega)).trans HX2.out))
    have n1' := cell_of_row w4 (w.heap.size + 1) 1 _ _ _ ((HB34.out.block _ (by have := HBW2.out.size; have := HB23.out.size; omega)).trans ((HB23.out.block _ (by have := HBW2.out.size; omega)).trans HX2.out))
    go_upto_region 8 with (at_builtin; rw [HW5.out]; refine Lib.wpList_append_run _ rfl _ _ _ _ rfl _ _ rfl rfl _ _ HR6.out ?_)
    clear m0 m1 m2 n0 n1 n0' n1'
    have q1 := hs1
    have q2 := HBW2.out.size
    have q3 := HB23.out.size
    have q6 := HB36.out.size
    have K0 : w6.heap[w1.heap.size]? = some (.cells #[.slice (some ⟨g1, o1, none⟩) t.R.length t.c, .int .i64 (u.room : Int), .bool u.pw.isSome, .int .i64 qq, .bool u.dead] 57 (0, 0)) := (HB36.out.block _ (by omega)).trans ((HB23.out.block _ (by omega)).trans HAL.out)
    have K1 : w6.heap[w1.heap.size + 1]? = some (.cells #[.slice x.nA xn x.nc, .slice x.lA xl x.lc, .slice x.pA xp x.pc] 103 (0, 0)) := (HB36.out.block _ (by omega)).trans (by rw [← hs2]; exact HZ3.out)
    have K2 : w6.heap[w.heap.size + 1]? = some (.cells #[.int .u8 s.c, .int .i64 s.n] 122 (0, 0)) := (HB36.out.block _ (by omega)).trans ((HB23.out.block _ (by omega)).trans HX2.out)
    have K3 : w6.heap[w.heap.size + 1 + 1]? = some (.cells #[.slice none 0 0, .int .i64 0, .bool false, .int .i64 0, .bool false] 57 (0, 0)) := (HB36.out.block _ (by omega)).trans ((HB23.out.block _ (by omega)).trans HX3.out)
    have HK3 := Lib.hid K3
    have HNINE := Lib.hid (show ∀ w' : World, w'.heap[w1.heap.size]? = w6.heap[w1.heap.size]? → w'.heap[w1.heap.size + 1]? = w6.heap[w1.heap.size + 1]? → w'.heap[w.heap.size + 1]? = w6.heap[w.heap.size + 1]? → (w'.cell? ⟨w1.heap.size, 0, none⟩ = some (.slice (some ⟨g1, o1, none⟩) t.R.length t.c) ∧ w'.cell? ⟨w1.heap.size, 1, none⟩ = some (.int .i64 (u.room : Int)) ∧ w'.cell? ⟨w1.heap.size, 2, none⟩ = some (.bool u.pw.isSome) ∧ w'.cell? ⟨w1.heap.size, 3, none⟩ = some (.int .i64 qq) ∧ w'.cell? ⟨w1.heap.size, 4, none⟩ = some (.bool u.dead) ∧ w'.cell? ⟨w1.heap.size + 1, 0, none⟩ = some (.slice x.nA xn x.nc) ∧ w'.cell? ⟨w1.heap.size + 1, 1, none⟩ = some (.slice x.lA xl x.lc) ∧ w'.cell? ⟨w.heap.size + 1, 0, none⟩ = some (.int .u8 s.c) ∧ w'.cell? ⟨w.heap.size + 1, 1, none⟩ = some (.int .i64 s.n)) from fun W e0 e1 e2 => ⟨cell_of_row W _ 0 _ _ _ (e0.trans K0), cell_of_row W _ 1 _ _ _ (e0.trans K0), cell_of_row W _ 2 _ _ _ (e0.trans K0), cell_of_row W _ 3 _ _ _ (e0.trans K0), cell_of_row W _ 4 _ _ _ (e0.trans K0), cell_of_row W _ 0 _ _ _ (e1.trans K1), cell_of_row W _ 1 _ _ _ (e1.trans K1), cell_of_row W _ 0 _ _ _ (e2.trans K2), cell_of_row W _ 1 _ _ _ (e2.trans K2)⟩)
    have HKEEP := Lib.hid (show ∀ w' : World, Below w6.heap.size w6 w' → (w'.cell? ⟨w1.heap.size, 0, none⟩ = some (.slice (some ⟨g1, o1, none⟩) t.R.length t.c) ∧ w'.cell? ⟨w1.heap.size, 1, none⟩ = some (.int .i64 (u.room : Int)) ∧ w'.cell? ⟨w1.heap.size, 2, none⟩ = some (.bool u.pw.isSome) ∧ w'.cell? ⟨w1.heap.size, 3, none⟩ = some (.int .i64 qq) ∧ w'.cell? ⟨w1.heap.size, 4, none⟩ = some (.bool u.dead) ∧ w'.cell? ⟨w1.heap.size + 1, 0, none⟩ = some (.slice x.nA xn x.nc) ∧ w'.cell? ⟨w1.heap.size + 1, 1, none⟩ = some (.slice x.lA xl x.lc) ∧ w'.cell? ⟨w.heap.size + 1, 0, none⟩ = some (.int .u8 s.c) ∧ w'.cell? ⟨w.heap.size + 1, 1, none⟩ = some (.int .i64 s.n)) from fun W hW => HNINE.out W (hW.block _ (by omega)) (hW.block _ (by omega)) (hW.block _ (by omega)))
    have hb26 : Below w2.heap.size w2 w6 := HB23.out.trans (HB36.out.mono HB23.out.size)
    have hdone := rdone_any w6.drew x.nA x.nc xn x.a.now s ((HXO.out.below hb26.drew).n) hxn (by omega) HOK.out
    unfold DSt.v at hdone
    have HDONE := Lib.hid hdone
    have e9 : (x.a.p ++ [s]).length = xp + 1 := by rw [List.length_append, hxp]; rfl
    have hnow : (⟨x.a.l, x.a.p ++ [s]⟩ : DAr).now = s.on x.a.now := by show runS _ _ = s.on (runS _ _); rw [runS_append]; rfl
    have HNOW := Lib.hid hnow
    have HXN := Lib.hid (fun (W : World) (hW : Below w6.heap.size w6 W) => (HXO.out.below (hb26.trans (hW.mono hb26.size))).n)
    have HSET := Lib.hid (show ∀ A7 c7 w7, SlAt w7 A7 c7 (s.on x.a.now) → Below w6.heap.size w6 w7 → Calls Try.prog 79 #[.agg #[.slice (some ⟨g1, o1, none⟩) t.R.length t.c, .int .i64 (u.room : Int), .bool u.pw.isSome, .int .i64 qq, .bool u.dead], .int .i64 (i : Int), .agg #[.slice A7 (s.on x.a.now).length c7, .slice x.lA xl x.lc, .slice A6 (xp + 1) k6]] w7 (RPS w7 ⟨some ⟨g1, o1, none⟩, t.c, t.R, qq⟩ ⟨A7, c7, x.lA, x.lc, A6, k6, ⟨x.a.l, x.a.p ++ [s]⟩⟩ (u.setA i ⟨x.a.l, x.a.p ++ [s]⟩)) from fun A7 c7 w7 h7 hb7 => by
      have hx2 : x.ok w7 := HXO.out.below (hb26.trans (hb7.mono hb26.size))
      have hs := rset_any w7 ⟨t.A, t.c, t.R, qq⟩ u i n ⟨A7, c7, x.lA, x.lc, A6, k6, ⟨x.a.l, x.a.p ++ [s]⟩⟩ (H1.out w7 (HBW6.out.trans (hb7.mono HBW6.out.size))) (by rw [← HU.out]; exact unit_fits HHD.out) hi ⟨by show SlAt _ _ _ (DAr.now _); rw [hnow]; exact h7, hx2.l, StepsAt.of_row (base := w3.heap.size) (n := x.a.p.length + 1) (row_keep HO6.out fun q _ hl => hb7.block q hl) (by rw [List.length_append]; rfl)⟩
      unfold RT.v RX.v at hs
      dsimp only at hs
      rw [← HTA.out, hnow, hxl, e9] at hs
      exact hs)
    have HADD := Lib.hid (show u.add i [s] = u.setA i ⟨x.a.l, x.a.p ++ [s]⟩ from by
      have hux : u.as[i]? = some x.a := by rw [← HU.out, (unit_parts d).1, HHH.out.as_, List.getElem?_map, HXX.out]; rfl
      unfold DDk.add DDk.setA addAt
      congr 1
      apply List.ext_getElem?
      intro j
      rw [List.getElem?_modify, List.getElem?_set]
      by_cases hj : i = j
      · subst hj
        obtain ⟨hl, _⟩ := List.getElem?_eq_some_iff.1 hux
        rw [if_pos hl, hux]
        simp
      · simp [hj])
    obtain ⟨b0, b1, b2, b3, b4, b5, b6, b7, b8⟩ := HKEEP.out w6 (Below.refl _ _)
    clear K0 K1 K2 K3 hdone hb26 q1 q2 q3 q6
    refine wp_region_held_drew (S := (fun w' => w'.cell? ⟨w1.heap.size, 0, none⟩ = some (.slice (some ⟨g1, o1, none⟩) t.R.length t.c) ∧ w'.cell? ⟨w1.heap.size, 1, none⟩ = some (.int .i64 (u.room : Int)) ∧ w'.cell? ⟨w1.heap.size, 2, none⟩ = some (.bool u.pw.isSome) ∧ w'.cell? ⟨w1.heap.size, 3, none⟩ = some (.int .i64 qq) ∧ w'.cell? ⟨w1.heap.size, 4, none⟩ = some (.bool u.dead) ∧ w'.cell? ⟨w1.heap.size + 1, 0, none⟩ = some (.slice x.nA xn x.nc) ∧ w'.cell? ⟨w1.heap.size + 1, 1, none⟩ = some (.slice x.lA xl x.lc) ∧ w'.cell? ⟨w.heap.size + 1, 0, none⟩ = some (.int .u8 s.c) ∧ w'.cell? ⟨w.heap.size + 1, 1, none⟩ = some (.int .i64 s.n))) (by kernel_rfl) ⟨b0, b1, b2, b3, b4, b5, b6, b7, b8⟩ (fun hHeld => ?_)
    refine wpAnyH_take (i := 0) (v := ?vu0) rfl (by kernel_rfl) (by kernel_rfl) (by kernel_rfl) (fun _ _ _ h => h) (Or.inl ⟨by rfl, ?yu0⟩) (by assumption) ?ru0
    case yu0 =>
      intro w hSw
      (try dsimp only at hSw)
      go_simp
      first | done | with_reducible rfl
    try simp only [Act.put, List.getElem_toArray, List.getElem_cons_zero, List.setIfInBounds_toArray, List.set_cons_zero, List.set_cons_succ]
    refine wpAnyH_take (i := 1) (v := ?vu1) rfl (by kernel_rfl) (by kernel_rfl) (by kernel_rfl) (fun _ _ _ h => h) (Or.inl ⟨by rfl, ?yu1⟩) (by assumption) ?ru1
    case yu1 =>
      intro w hSw
      (try dsimp only at hSw)
      go_simp
      first | done | with_reducible rfl
    try simp only [Act.put, List.getElem_toArray, List.getElem_cons_zero, List.getElem_cons_succ, List.setIfInBounds_toArray, List.set_cons_zero, List.set_cons_succ]
    refine wpAnyH_take (i := 2) (v := ?vu2) rfl (by kernel_rfl) (by kernel_rfl) (by kernel_rfl) (fun _ _ _ h => h) (Or.inl ⟨by rfl, ?yu2⟩) (by assumption) ?ru2
    case yu2 =>
      intro w hSw
      (try dsimp only at hSw)
      go_simp
      first | done | with_reducible rfl
    try simp only [Act.put, List.getElem_toArray, List.getElem_cons_zero, List.getElem_cons_succ, List.setIfInBounds_toArray, List.set_cons_zero, List.set_cons_succ]
    refine wpAnyH_take (i := 3) (v := ?vu3) rfl (by kernel_rfl) (by kernel_rfl) (by kernel_rfl) (fun _ _ _ h => h) (Or.inl ⟨by rfl, ?yu3⟩) (by assumption) ?ru3
    case yu3 =>
      intro w hSw
      (try dsimp only at hSw)
      go_simp
      first | done | with_reducible rfl
    try simp only [Act.put, List.getElem_toArray, List.getElem_cons_zero, List.getElem_cons_succ, List.setIfInBounds_toArray, List.set_cons_zero, List.set_cons_succ]
    refine wpAnyH_take (i := 4) (v := ?vu4) rfl (by kernel_rfl) (by kernel_rfl) (by kernel_rfl) (fun _ _ _ h => h) (Or.inl ⟨by rfl, ?yu4⟩) (by assumption) ?ru4
    case yu4 =>
      intro w hSw
      (try dsimp only at hSw)
      go_simp
      first | done | with_reducible rfl
    try simp only [Act.put, List.getElem_toArray, List.getElem_cons_zero, List.getElem_cons_succ, List.setIfInBounds_toArray, List.set_cons_zero, List.set_cons_succ]
    refine wpAnyH_take (i := 6) (v := ?vu6) rfl (by kernel_rfl) (by kernel_rfl) (by kernel_rfl) (fun _ _ _ h => h) (Or.inl ⟨by rfl, ?yu6⟩) (by assumption) ?ru6
    case yu6 =>
      intro w hSw
      (try dsimp only at hSw)
      go_simp
      first | done | with_reducible rfl
    try simp only [Act.put, List.getElem_toArray, List.getElem_cons_zero, List.getElem_cons_succ, List.setIfInBounds_toArray, List.set_cons_zero, List.set_cons_succ]
    refine wpAnyH_take (i := 7) (v := ?vu7) rfl (by kernel_rfl) (by kernel_rfl) (by kernel_rfl) (fun _ _ _ h => h) (Or.inl ⟨by rfl, ?yu7⟩) (by assumption) ?ru7
    case yu7 =>
      intro w hSw
      (try dsimp only at hSw)
      go_simp
      first | done | with_reducible rfl
    try simp only [Act.put, List.getElem_toArray, List.getElem_cons_zero, List.getElem_cons_succ, List.setIfInBounds_toArray, List.set_cons_zero, List.set_cons_succ]
    refine wpAnyH_take (i := 8) (v := ?vu8) rfl (by kernel_rfl) (by kernel_rfl) (by kernel_rfl) (fun _ _ _ h => h) (Or.inl ⟨by rfl, ?yu8⟩) (by assumption) ?ru8
    case yu8 =>
      intro w hSw
      (try dsimp only at hSw)
      go_simp
      first | done | with_reducible rfl
    try simp only [Act.put, List.getElem_toArray, List.getElem_cons_zero, List.getElem_cons_succ, List.setIfInBounds_toArray, List.set_cons_zero, List.set_cons_succ]
    refine wpAnyH_ready (rs := [5]) (by kernel_rfl) (by simp) ?_
    refine AllReadyH.cons rfl (fun K hK => ?_) AllReadyH.nil
    go_simp
    refine HDONE.out.mono ?_
    rintro e w7 ⟨A7, c7, rfl, hb7d, hs7⟩
    have hb7 : Below w6.heap.size w6 w7 := ((Below.refl w6.heap.size w6).drew).trans hb7d
    have HS7 := Lib.hid hs7
    have HB7 := Lib.hid hb7
    have KK := Lib.hid (HKEEP.out w7 hb7)
    clear hs7 hb7 hb7d
    go_wp2_with fail
    refine hK.out _ _ KK.out (fun hHeld => ?_)
    clear hK K
    try simp only [Act.put, List.getElem_toArray, List.getElem_cons_zero, List.getElem_cons_succ, List.setIfInBounds_toArray, List.set_cons_zero, List.set_cons_succ]
    refine wpAnyH_take (i := 9) (v := ?vu9) rfl (by kernel_rfl) (by kernel_rfl) (by kernel_rfl) (fun _ _ _ h => h) (Or.inl ⟨by rfl, ?yu9⟩) (by assumption) ?ru9
    case yu9 =>
      intro w hSw
      (try dsimp only at hSw)
      go_simp
      first | done | with_reducible rfl
    try simp only [Act.put, List.getElem_toArray, List.getElem_cons_zero, List.getElem_cons_succ, List.setIfInBounds_toArray, List.set_cons_zero, List.set_cons_succ]
    refine wpAnyH_ready (rs := [10]) (by kernel_rfl) (by simp) ?_
    refine AllReadyH.cons rfl (fun K hK => ?_) AllReadyH.nil
    go_simp
    refine (HSET.out A7 c7 w7 (HS7.out w7 (fun _ _ _ => rfl) (HXN.out w7 HB7.out)) HB7.out).mono ?_
    rintro e w8 ⟨t2, rfl, hb8, h2⟩
    have H2 := Lib.hid h2
    have HB8 := Lib.hid hb8
    have KK8 := Lib.hid (HKEEP.out w8 (HB7.out.trans (hb8.mono HB7.out.size)))
    clear h2 hb8
    unfold RT.v
    go_wp2_with fail
    refine hK.out _ _ KK8.out (fun hHeld => ?_)
    clear hK K
    try simp only [Act.put, List.getElem_toArray, List.getElem_cons_zero, List.getElem_cons_succ, List.setIfInBounds_toArray, List.set_cons_zero, List.set_cons_succ]
    refine wpAnyH_ready (rs := [11]) (by kernel_rfl) (by simp) ?_
    refine AllReadyH.cons rfl (fun K hK => ?_) AllReadyH.nil
    have hb8 : Below w6.heap.size w6 w8 := HB7.out.trans (HB8.out.mono HB7.out.size)
    have hz8 : w8.heap[w.heap.size + 1 + 1]? = some (.cells #[.slice none 0 0, .int .i64 0, .bool false, .int .i64 0, .bool false] 57 (0, 0)) := (hb8.block _ (by have := HBW2.out.size; have := HB23.out.size; have := HB36.out.size; omega)).trans HK3.out
    refine wp_store_mid 57 (.tmp 6) (.tmp 42) rfl (w.heap.size + 1 + 1) 0 #[.slice t2.A t2.R.length t2.c, .int .i64 (u.room : Int), .bool u.pw.isSome, .int .i64 t2.q, .bool u.dead] rfl rfl (fun j hj => there5 hz8 hj) (by kernel_rfl) (by simp [Value.oneCell']) ?_
    have hst := store5 hz8 (.slice t2.A t2.R.length t2.c) (.int .i64 (u.room : Int)) (.bool u.pw.isSome) (.int .i64 t2.q) (.bool u.dead)
    obtain ⟨w9, hw9⟩ : ∃ w9, w8.setCells (w.heap.size + 1 + 1) 0 [.slice t2.A t2.R.length t2.c, .int .i64 (u.room : Int), .bool u.pw.isSome, .int .i64 t2.q, .bool u.dead] = w9 := ⟨_, rfl⟩
    rw [show (#[Value.slice t2.A t2.R.length t2.c, .int .i64 (u.room : Int), .bool u.pw.isSome, .int .i64 t2.q, .bool u.dead] : Array Value).toList = [.slice t2.A t2.R.length t2.c, .int .i64 (u.room : Int), .bool u.pw.isSome, .int .i64 t2.q, .bool u.dead] from rfl, hw9]
    rw [hw9] at hst
    have kk := HNINE.out w9 ((hst.2.block _ (by omega)).trans (hb8.block _ (by have := HBW2.out.size; have := HB23.out.size; have := HB36.out.size; omega))) ((hst.2.block _ (by omega)).trans (hb8.block _ (by have := HBW2.out.size; have := HB23.out.size; have := HB36.out.size; omega))) ((hst.2.block _ (by omega)).trans (hb8.block _ (by have := HBW2.out.size; have := HB23.out.size; have := HB36.out.size; omega)))
    have hb9 : Below w.heap.size w w9 := by
      have hb := HBW6.out.trans (hb8.mono HBW6.out.size)
      exact ⟨hst.2.os.trans hb.os, hst.2.tape.trans hb.tape, hst.2.output.trans hb.output, by rw [hst.2.size]; exact hb.size, fun q hq => (hst.2.block q (by omega)).trans (hb.block q hq)⟩
    have h9 : ∀ W : World, (∀ b, w.heap.size ≤ b → b < w9.heap.size → W.heap[b]? = w9.heap[b]?) → RAreas W t.A t.c t.R → RefAt W t2 (u.setA i ⟨x.a.l, x.a.p ++ [s]⟩) := fun W hW hR => by
      have z1 := HBW2.out.size
      have z2 := HB23.out.size
      have z3 := HB36.out.size
      have z7 := HB7.out.size
      have z8 := HB8.out.size
      have hxW : x.ok W := hR.each x (List.mem_of_getElem? HXX.out)
      have hag : ∀ b, w3.heap.size ≤ b → b < w8.heap.size → W.heap[b]? = w8.heap[b]? := fun b h1 h2 => (hW b (by omega) (by rw [hst.2.size]; exact h2)).trans (hst.2.block b (by omega))
      refine H2.out W (fun b h1 h2 => hag b (by omega) h2) hR.each ⟨?_, hxW.l, StepsAt.of_row (base := w3.heap.size) (n := x.a.p.length + 1) (row_keep HO6.out fun q e hl => (hag q (row_blk HO6.out e).1 (by omega)).trans (hb8.block q hl)) (by rw [List.length_append]; rfl)⟩
      show SlAt _ _ _ (DAr.now _)
      rw [HNOW.out]
      refine HS7.out W (fun b h1 h2 => ?_) hxW.n
      have h1' : w6.heap.size ≤ b := h1
      exact (hag b (by omega) (by omega)).trans (HB8.out.block b h2)
    have HFIN := Lib.hid (show RPT w t (putD d i s) (.returned (.agg #[.slice t2.A t2.R.length t2.c, .int .i64 (u.room : Int), .bool u.pw.isSome, .int .i64 t2.q, .bool u.dead])) w9 from by
      rw [HPU.out, if_pos trivial, HADD.out]
      exact ⟨t2, by unfold RT.v DDk.setA; rfl, hb9, h9⟩)
    have HST := Lib.hid hst.1
    have KK9 := Lib.hid kk
    clear hst hz8 hw9 kk hb9 h9 hb8
    refine hK.out _ _ KK9.out (fun hHeld => ?_)
    clear hK K
    try simp only [Act.put, List.getElem_toArray, List.getElem_cons_zero, List.getElem_cons_succ]
    refine wpAnyH_done (by kernel_rfl) ?_ _
    go_wp2_with fail
    exact bodyPost_ret (results_cell_row rfl _ _ _ _ _ (0, 0) _ rfl HST.out Try.underlying57 rfl (by kernel_rfl)) rfl HFIN.out
end Go.Proofs.Ytojkifcclgecoaa.Dk
