/-
  The document's own set.
-/
import Derived.Test.YtojkifcclgecoaaDkRefN
import Derived.Deep.Cut
namespace Go.Proofs.Ytojkifcclgecoaa.Dk
open Go Go.RowKit Go.Shelf Go.Proofs

theorem rcs_at {L : List RX} {i : Nat} {x : RX} (h : L[i]? = some x) : (L.flatMap RX.cs)[3 * i]? = some (.slice x.nA x.a.now.length x.nc) ∧ (L.flatMap RX.cs)[3 * i + 1]? = some (.slice x.lA x.a.l.length x.lc) ∧ (L.flatMap RX.cs)[3 * i + 2]? = some (.slice x.pA x.a.p.length x.pc) := by
  induction L generalizing i with
  | nil => simp at h
  | cons y r ih =>
    rw [List.flatMap_cons]
    cases i with
    | zero => obtain rfl : y = x := by simpa using h
              exact ⟨rfl, rfl, rfl⟩
    | succ i =>
      have := ih (i := i) (by simpa using h)
      unfold RX.cs at this ⊢
      rw [show 3 * (i + 1) = 3 * i + 3 from by omega, show 3 * i + 3 + 1 = (3 * i + 1) + 3 from by omega, show 3 * i + 3 + 2 = (3 * i + 2) + 3 from by omega]
      simpa using this
theorem rcs_length (L : List RX) : (L.flatMap RX.cs).length = L.length * 3 := by
  induction L with
  | nil => rfl
  | cons y r ih => rw [List.flatMap_cons, List.length_append, ih, List.length_cons]; show 3 + _ = _; omega
theorem rcs_set {L : List RX} {i : Nat} (hi : i < L.length) (y : RX) : ((L.flatMap RX.cs).set (3 * i) (.slice y.nA y.a.now.length y.nc) |>.set (3 * i + 1) (.slice y.lA y.a.l.length y.lc) |>.set (3 * i + 2) (.slice y.pA y.a.p.length y.pc)) = (L.set i y).flatMap RX.cs := by
  induction L generalizing i with
  | nil => simp at hi
  | cons z r ih =>
    cases i with
    | zero => rfl
    | succ i =>
      have := ih (i := i) (by simpa using hi)
      rw [List.set_cons_succ]
      show _ = z.cs ++ (r.set i y).flatMap RX.cs
      rw [← this, List.flatMap_cons]
      unfold RX.cs
      rw [show 3 * (i + 1) = 3 * i + 3 from by omega, show 3 * i + 3 + 1 = (3 * i + 1) + 3 from by omega, show 3 * i + 3 + 2 = (3 * i + 2) + 3 from by omega]
      rfl
theorem rcs_cells {w : World} {A : Option Addr} {c : Nat} {R : List RX} (h : RAreas w A c R) (a : Addr) (hA : A = some a) : ∀ j u, (R.flatMap RX.cs)[j]? = some u → w.cell? (a.add j) = some u := fun j u hu => by
  have hj := (List.getElem?_eq_some_iff.1 hu).1
  rw [rcs_length] at hj
  obtain ⟨g, o, e, hr⟩ := h.row (by omega)
  rw [hA] at e
  cases e
  obtain ⟨x, hx⟩ : ∃ x, R[j / 3]? = some x := ⟨_, List.getElem?_eq_getElem (by omega)⟩
  obtain ⟨h1, h2, h3⟩ := hr _ x hx
  obtain ⟨k1, k2, k3⟩ := rcs_at hx
  rw [Go.WideShapes.add_plain]
  have hm : j % 3 < 3 := Nat.mod_lt _ (by omega)
  have hd : j = 3 * (j / 3) + j % 3 := by omega
  generalize j / 3 = q at *
  generalize j % 3 = r at *
  subst hd
  match r, hm with
  | 0, _ => rw [show o + (3 * q + 0) = o + q * 3 by omega, h1, ← k1]; exact hu
  | 1, _ => rw [show o + (3 * q + 1) = o + q * 3 + 1 by omega, h2, ← k2]; exact hu
  | 2, _ => rw [show o + (3 * q + 2) = o + q * 3 + 2 by omega, h3, ← k3]; exact hu
theorem rcs_one (R : List RX) : ∀ u ∈ R.flatMap RX.cs, u.oneCell' = true := fun u hu => by
  obtain ⟨x, _, hu⟩ := List.mem_flatMap.1 hu
  unfold RX.cs at hu
  simp only [List.mem_cons, List.mem_nil_iff, or_false] at hu
  rcases hu with rfl | rfl | rfl <;> rfl
theorem RAreas.of_row {w : World} {base g c : Nat} {R : List RX} (h : w.ownsRow base 103 3 (.slice (some ⟨g, 0, none⟩) R.length c) R.length (R.flatMap RX.cs)) (he : ∀ x ∈ R, x.ok w) : RAreas w (some ⟨g, 0, none⟩) c R := by
  obtain ⟨_, _, e, h1, h2, _⟩ := row_slice h
  cases e
  refine ⟨h1, h2, (fun e => by cases e), (fun _ => ⟨g, 0, rfl, fun i x hx => ?_⟩), he⟩
  have hi := (List.getElem?_eq_some_iff.1 hx).1
  obtain ⟨k1, k2, k3⟩ := rcs_at hx
  rw [show 0 + i * 3 = 3 * i by omega, h.cellAt _ (by omega), h.cellAt _ (by omega), h.cellAt _ (by omega)]
  exact ⟨k1, k2, k3⟩
/-- Steps, as cells. -/
def stsV (p : List DSt) : List Value := p.flatMap fun s => [.int .u8 s.c, .int .i64 s.n]
theorem stsV_length (p : List DSt) : (stsV p).length = p.length * 2 := by
  unfold stsV
  induction p with
  | nil => rfl
  | cons y r ih => rw [List.flatMap_cons, List.length_append, ih]; simp only [List.length_cons, List.length_nil]; omega
theorem stsV_snoc (p : List DSt) (s : DSt) : stsV (p ++ [s]) = stsV p ++ [.int .u8 s.c, .int .i64 s.n] := by unfold stsV; rw [List.flatMap_append]; simp
theorem stsV_at {p : List DSt} {i : Nat} {s : DSt} (h : p[i]? = some s) : (stsV p)[2 * i]? = some (.int .u8 s.c) ∧ (stsV p)[2 * i + 1]? = some (.int .i64 s.n) := by
  unfold stsV
  induction p generalizing i with
  | nil => simp at h
  | cons y r ih =>
    rw [List.flatMap_cons]
    cases i with
    | zero => obtain rfl : y = s := by simpa using h
              exact ⟨rfl, rfl⟩
    | succ i =>
      have := ih (i := i) (by simpa using h)
      rw [show 2 * (i + 1) = 2 * i + 2 from by omega, show 2 * i + 2 + 1 = (2 * i + 1) + 2 from by omega]
      simpa using this
theorem stsV_cells {w : World} {A : Option Addr} {c : Nat} {p : List DSt} (h : StepsAt w A c p) (a : Addr) (hA : A = some a) : ∀ j u, (stsV p)[j]? = some u → w.cell? (a.add j) = some u := fun j u hu => by
  have hj := (List.getElem?_eq_some_iff.1 hu).1
  rw [stsV_length] at hj
  obtain ⟨g, o, e, hr⟩ := h.row (by omega)
  rw [hA] at e
  cases e
  obtain ⟨s, hs⟩ : ∃ s, p[j / 2]? = some s := ⟨_, List.getElem?_eq_getElem (by omega)⟩
  obtain ⟨h1, h2⟩ := hr _ s hs
  obtain ⟨k1, k2⟩ := stsV_at hs
  rw [Go.WideShapes.add_plain]
  have hm : j % 2 < 2 := Nat.mod_lt _ (by omega)
  have hd : j = 2 * (j / 2) + j % 2 := by omega
  generalize j / 2 = q at *
  generalize j % 2 = r at *
  subst hd
  match r, hm with
  | 0, _ => rw [show o + (2 * q + 0) = o + q * 2 by omega, h1, ← k1]; exact hu
  | 1, _ => rw [show o + (2 * q + 1) = o + q * 2 + 1 by omega, h2, ← k2]; exact hu
theorem stsV_one (p : List DSt) : ∀ u ∈ stsV p, u.oneCell' = true := fun u hu => by
  unfold stsV at hu
  obtain ⟨s, _, hu⟩ := List.mem_flatMap.1 hu
  simp only [List.mem_cons, List.mem_nil_iff, or_false] at hu
  rcases hu with rfl | rfl <;> rfl
theorem StepsAt.of_row {w : World} {base n : Nat} {A : Option Addr} {c : Nat} {p : List DSt} (h : w.ownsRow base 122 2 (.slice A n c) n (stsV p)) (hn : p.length = n) : StepsAt w A c p := by
  subst hn
  obtain ⟨A', c', e, h1, h2, h3, h4⟩ := row_slice h
  cases e
  refine ⟨h1, h2, h3, fun hn => ?_⟩
  cases A with
  | none => have := h3 rfl; omega
  | some a =>
    obtain ⟨g, o, sp⟩ := a
    obtain ⟨rfl, rfl, _⟩ := h4 g o sp rfl
    refine ⟨g, 0, rfl, fun i s hs => ?_⟩
    have hi := (List.getElem?_eq_some_iff.1 hs).1
    obtain ⟨k1, k2⟩ := stsV_at hs
    rw [show 0 + i * 2 = 2 * i by omega, h.cellAt _ (by omega), h.cellAt _ (by omega)]
    exact ⟨k1, k2⟩
theorem rarea_info : (Try.prog.info? 103).map (fun i => (i.zero, i.size, i.bytes)) = some (some (.agg #[.slice none 0 0, .slice none 0 0, .slice none 0 0]), 3, 72) := by kernel_rfl
theorem there5 {w : World} {N : Nat} {a b c d e : Value} {t : TypeId} (h : w.heap[N]? = some (.cells #[a, b, c, d, e] t (0, 0))) {j : Nat} (hj : j < 5) : (w.cell? ⟨N, 0 + j, none⟩).isSome = true ∧ w.frozen? ⟨N, 0 + j, none⟩ = false := by
  refine ⟨?_, frozen_of_row w N _ _ _ h⟩
  rw [cell_of_row w N _ _ _ _ h, Nat.zero_add]
  match j, hj with
  | 0, _ => rfl
  | 1, _ => rfl
  | 2, _ => rfl
  | 3, _ => rfl
  | 4, _ => rfl
theorem store5 {w : World} {N : Nat} {a b c d e : Value} {t : TypeId} (h : w.heap[N]? = some (.cells #[a, b, c, d, e] t (0, 0))) (v x y z u : Value) : (w.setCells N 0 [v, x, y, z, u]).heap[N]? = some (.cells #[v, x, y, z, u] t (0, 0)) ∧ OnlyB w N (w.setCells N 0 [v, x, y, z, u]) := by
  have e1 := heap_setCell_same w N 0 _ _ v h
  have e2 := heap_setCell_same _ N 1 _ _ x e1
  have e3 := heap_setCell_same _ N 2 _ _ y e2
  have e4 := heap_setCell_same _ N 3 _ _ z e3
  have e5 := heap_setCell_same _ N 4 _ _ u e4
  exact ⟨e5, ((((OnlyB.set w N 0 v).trans (OnlyB.set _ N 1 x)).trans (OnlyB.set _ N 2 y)).trans (OnlyB.set _ N 3 z)).trans (OnlyB.set _ N 4 u)⟩
def DDk.setA (d : DDk) (i : Nat) (x : DAr) : DDk := ⟨d.as.set i x, d.room, d.pw, d.dead⟩
def RX.v (x : RX) : Value := .agg #[.slice x.nA x.a.now.length x.nc, .slice x.lA x.a.l.length x.lc, .slice x.pA x.a.p.length x.pc]

/-- A disk is given that stands on what is fresh, on the areas of t and on x. -/
def RPS (w : World) (t : RT) (x : RX) (d : DDk) (e : Ending) (w' : World) : Prop := ∃ t', e = .returned (RT.v t' d) ∧ Below w.heap.size w w' ∧ ∀ W : World, (∀ b, w.heap.size ≤ b → b < w'.heap.size → W.heap[b]? = w'.heap[b]?) → (∀ y ∈ t.R, y.ok W) → x.ok W → RefAt W t' d
set_option maxRecDepth 100000 in
set_option maxHeartbeats 16000000 in
theorem rset_any (w : World) (t : RT) (d : DDk) (i n : Nat) (x : RX) (h : RefAt w t d) (hd : d.fits n) (hi : i < t.R.length) (hx : x.ok w) :
    Calls Try.prog 79 #[RT.v t d, .int .i64 (i : Int), x.v] w (RPS w t x (d.setA i x.a)) := by
  have hl := h.len
  have h8 := hd.1
  rw [hl] at h8
  unfold RT.v RX.v
  obtain ⟨V1, hV1⟩ : ∃ V, w.alloc (.cells #[.slice t.A t.R.length t.c, .int .i64 (d.room : Int), .bool d.pw.isSome, .int .i64 t.q, .bool d.dead] 57) = V := ⟨_, rfl⟩
  obtain ⟨V2, hV2⟩ : ∃ V, V1.alloc (.cells #[.slice x.nA x.a.now.length x.nc, .slice x.lA x.a.l.length x.lc, .slice x.pA x.a.p.length x.pc] 103) = V := ⟨_, rfl⟩
  obtain ⟨V3, hV3⟩ : ∃ V, V2.alloc (.cells #[.slice none 0 0, .int .i64 0, .bool false, .int .i64 0, .bool false] 57) = V := ⟨_, rfl⟩
  have hb1 : Below w.heap.size w V1 := by rw [← hV1]; exact (Below.refl _ _).alloc (Nat.le_refl _) _
  have hb2 : Below V1.heap.size V1 V2 := by rw [← hV2]; exact (Below.refl _ _).alloc (Nat.le_refl _) _
  have hb3 : Below V2.heap.size V2 V3 := by rw [← hV3]; exact (Below.refl _ _).alloc (Nat.le_refl _) _
  have z1 : V1.heap[w.heap.size]? = some (.cells #[.slice t.A t.R.length t.c, .int .i64 (d.room : Int), .bool d.pw.isSome, .int .i64 t.q, .bool d.dead] 57 (0, 0)) := by rw [← hV1]; exact heap_alloc_new w _
  have z2 : V2.heap[V1.heap.size]? = some (.cells #[.slice x.nA x.a.now.length x.nc, .slice x.lA x.a.l.length x.lc, .slice x.pA x.a.p.length x.pc] 103 (0, 0)) := by rw [← hV2]; exact heap_alloc_new V1 _
  have z3 : V3.heap[V2.heap.size]? = some (.cells #[.slice none 0 0, .int .i64 0, .bool false, .int .i64 0, .bool false] 57 (0, 0)) := by rw [← hV3]; exact heap_alloc_new V2 _
  have s1 : V1.heap.size = w.heap.size + 1 := by rw [← hV1]; simp
  have s2 : V2.heap.size = w.heap.size + 2 := by rw [← hV2]; simp [s1]
  have s3 : V3.heap.size = w.heap.size + 3 := by rw [← hV3]; simp [s2]
  have hb : Below w.heap.size w V3 := (hb1.trans (hb2.mono hb1.size)).trans (hb3.mono (by omega))
  have hR := h.areas.below hb
  obtain ⟨v', w1, hr, ho, hg, _⟩ := run_appX (P := Try.prog) V3 V3.heap.size 55 55 55 103 rarea_info Try.underlying55 Try.underlying55 rfl (by decide) (World.ownsRow_nil _ _ _ _) t.A t.R.length t.c (t.R.flatMap RX.cs) (rcs_length _) (fun e => by have := hR.nil e; have := hR.cap; omega) (fun a e => rcs_cells hR a e) (rcs_one _) (by unfold maxLen; omega) (by omega) (Nat.le_refl _)
  rw [Nat.zero_add, List.nil_append] at ho
  obtain ⟨A', c', e', hc1, hc2, hc3, hc4⟩ := row_slice ho
  have hbw : Below V3.heap.size V3 w1 := (Below.refl _ _).grown hg (Nat.le_refl _) (fun k e => by cases e)
  cases A' with
  | none => have := hc3 rfl; omega
  | some ad =>
    obtain ⟨g, o, sp⟩ := ad
    obtain ⟨rfl, rfl, hgo⟩ := hc4 g o sp rfl
    subst e'
    have hgl : V3.heap.size ≤ g := (row_blk ho hgo).1
    have y1 : w1.heap[w.heap.size]? = some (.cells #[.slice t.A t.R.length t.c, .int .i64 (d.room : Int), .bool d.pw.isSome, .int .i64 t.q, .bool d.dead] 57 (0, 0)) := (hbw.block _ (by omega)).trans ((hb3.block _ (by omega)).trans ((hb2.block _ (by omega)).trans z1))
    have y2 : w1.heap[w.heap.size + 1]? = some (.cells #[.slice x.nA x.a.now.length x.nc, .slice x.lA x.a.l.length x.lc, .slice x.pA x.a.p.length x.pc] 103 (0, 0)) := (hbw.block _ (by omega)).trans ((hb3.block _ (by omega)).trans (by rw [← s1]; exact z2))
    have y3 : w1.heap[w.heap.size + 1 + 1]? = some (.cells #[.slice none 0 0, .int .i64 0, .bool false, .int .i64 0, .bool false] 57 (0, 0)) := (hbw.block _ (by omega)).trans (by rw [show w.heap.size + 1 + 1 = V2.heap.size by omega]; exact z3)
    have st1 := ho.stored (3 * i) (.slice x.nA x.a.now.length x.nc)
    have st2 := st1.1.stored (3 * i + 1) (.slice x.lA x.a.l.length x.lc)
    have st3 := st2.1.stored (3 * i + 2) (.slice x.pA x.a.p.length x.pc)
    obtain ⟨W, hW⟩ : ∃ W, w1.setCells g (i * 3) [.slice x.nA x.a.now.length x.nc, .slice x.lA x.a.l.length x.lc, .slice x.pA x.a.p.length x.pc] = W := ⟨_, rfl⟩
    have hW' : ((w1.setCell ⟨g, 3 * i, none⟩ (.slice x.nA x.a.now.length x.nc)).setCell ⟨g, 3 * i + 1, none⟩ (.slice x.lA x.a.l.length x.lc)).setCell ⟨g, 3 * i + 2, none⟩ (.slice x.pA x.a.p.length x.pc) = W := by rw [← hW, Nat.mul_comm i 3]; rfl
    have st4 := st3.1
    rw [hW', rcs_set hi] at st4
    have hO : OnlyB w1 g W := by rw [← hW']; exact ((OnlyB.set w1 g (3 * i) _).trans (OnlyB.set _ g (3 * i + 1) _)).trans (OnlyB.set _ g (3 * i + 2) _)
    have x1 := (hO.block _ (by omega)).trans y1
    have x3 := (hO.block _ (by omega)).trans y3
    have hth : ∀ j, j < 3 → (w1.cell? ⟨g, i * 3 + j, none⟩).isSome = true ∧ w1.frozen? ⟨g, i * 3 + j, none⟩ = false := fun j hj => by
      refine ⟨?_, ho.frozenAt _⟩
      rw [ho.cellAt _ (by omega)]
      have : i * 3 + j < (t.R.flatMap RX.cs).length := by rw [rcs_length]; omega
      rw [List.getElem?_eq_getElem this]; rfl
    obtain ⟨y0, hy0⟩ : ∃ y, t.R[i]? = some y := ⟨_, List.getElem?_eq_getElem hi⟩
    obtain ⟨j0, j1, j2⟩ := rcs_at hy0
    have g0 : w1.cell? ⟨g, i * 3, none⟩ = some (.slice y0.nA y0.a.now.length y0.nc) := by rw [show i * 3 = 3 * i by omega]; exact (ho.cellAt _ (by omega)).trans j0
    have g1 : w1.cell? ⟨g, i * 3 + 1, none⟩ = some (.slice y0.lA y0.a.l.length y0.lc) := by rw [show i * 3 = 3 * i by omega]; exact (ho.cellAt _ (by omega)).trans j1
    have g2 : w1.cell? ⟨g, i * 3 + 2, none⟩ = some (.slice y0.pA y0.a.p.length y0.pc) := by rw [show i * 3 = 3 * i by omega]; exact (ho.cellAt _ (by omega)).trans j2
    have fg0 : w1.frozen? ⟨g, i * 3, none⟩ = false := ho.frozenAt _
    have fg1 : w1.frozen? ⟨g, i * 3 + 1, none⟩ = false := ho.frozenAt _
    have fg2 : w1.frozen? ⟨g, i * 3 + 2, none⟩ = false := ho.frozenAt _
    have HR := Lib.hid hr
    have HW := Lib.hid (show ((w1.setCell ⟨g, i * 3, none⟩ (.slice x.nA x.a.now.length x.nc)).setCell ⟨g, i * 3 + 1, none⟩ (.slice x.lA x.a.l.length x.lc)).setCell ⟨g, i * 3 + 2, none⟩ (.slice x.pA x.a.p.length x.pc) = W from by rw [← hW']; rw [show i * 3 = 3 * i by omega])
    have hV123 : ((w.alloc (.cells #[.slice t.A t.R.length t.c, .int .i64 (d.room : Int), .bool d.pw.isSome, .int .i64 t.q, .bool d.dead] 57)).alloc (.cells #[.slice x.nA x.a.now.length x.nc, .slice x.lA x.a.l.length x.lc, .slice x.pA x.a.p.length x.pc] 103)).alloc (.cells #[.slice none 0 0, .int .i64 0, .bool false, .int .i64 0, .bool false] 57) = V3 := by rw [hV1, hV2, hV3]
    have HV := Lib.hid hV123
    have e20 := cell_of_row w1 _ 0 _ _ _ y2
    have e21 := cell_of_row w1 _ 1 _ _ _ y2
    have e22 := cell_of_row w1 _ 2 _ _ _ y2
    have k1 : (i : Int) < (t.R.length : Int) := by omega
    have HST := Lib.hid st4
    have HO := Lib.hid hO
    have HX1 := Lib.hid x1
    have HX3 := Lib.hid x3
    rw [← hV123] at HR
    clear hr ho hg st1 st2 st3 st4 hth hW hW' hy0 j0 j1 j2 hV123 hV1 hV2 hV3 y1 y2 y3 z1 z2 z3 hR hc1 hc2 hc3 hc4 hgo x1 x3 hO
    go_enter Try.func79, Try.ntmps79
    have u0 := cell_of_row W _ 0 _ _ _ HX1.out
    have u1 := cell_of_row W _ 1 _ _ _ HX1.out
    have u2 := cell_of_row W _ 2 _ _ _ HX1.out
    have u3 := cell_of_row W _ 3 _ _ _ HX1.out
    have u4 := cell_of_row W _ 4 _ _ _ HX1.out
    have fu := frozen_of_row W _ 0 _ _ HX1.out
    obtain ⟨X1, hX1⟩ : ∃ X, W.setCell ⟨w.heap.size, 0, none⟩ (.slice (some ⟨g, 0, none⟩) t.R.length c') = X := ⟨_, rfl⟩
    have hO2 := OnlyB.set W w.heap.size 0 (.slice (some ⟨g, 0, none⟩) t.R.length c')
    have p1 := heap_setCell_same W w.heap.size 0 _ _ (.slice (some ⟨g, 0, none⟩) t.R.length c') HX1.out
    rw [hX1] at hO2 p1
    have p3 := (hO2.block (w.heap.size + 1 + 1) (by omega)).trans HX3.out
    have t0 := cell_of_row X1 _ 0 _ _ _ p1
    have t1 := cell_of_row X1 _ 1 _ _ _ p1
    have t2 := cell_of_row X1 _ 2 _ _ _ p1
    have t3 := cell_of_row X1 _ 3 _ _ _ p1
    have t4 := cell_of_row X1 _ 4 _ _ _ p1
    obtain ⟨Y, hY⟩ : ∃ Y, X1.setCells (w.heap.size + 1 + 1) 0 [.slice (some ⟨g, 0, none⟩) t.R.length c', .int .i64 (d.room : Int), .bool d.pw.isSome, .int .i64 t.q, .bool d.dead] = Y := ⟨_, rfl⟩
    have hst := store5 p3 (.slice (some ⟨g, 0, none⟩) t.R.length c') (.int .i64 (d.room : Int)) (.bool d.pw.isSome) (.int .i64 t.q) (.bool d.dead)
    rw [hY] at hst
    have hth5 : ∀ j, j < 5 → (X1.cell? ⟨w.heap.size + 1 + 1, 0 + j, none⟩).isSome = true ∧ X1.frozen? ⟨w.heap.size + 1 + 1, 0 + j, none⟩ = false := fun j hj => there5 p3 hj
    have hbY : Below w.heap.size w Y := by
      have hb4 := hb.trans (hbw.mono (by omega))
      exact ⟨hst.2.os.trans (hO2.os.trans (HO.out.os.trans hb4.os)), hst.2.tape.trans (hO2.tape.trans (HO.out.tape.trans hb4.tape)), hst.2.output.trans (hO2.output.trans (HO.out.output.trans hb4.output)), by rw [hst.2.size, hO2.size, HO.out.size]; exact hb4.size, fun q hq => (hst.2.block q (by omega)).trans ((hO2.block q (by omega)).trans ((HO.out.block q (by omega)).trans (hb4.block q hq)))⟩
    have hrowY : Y.ownsRow V3.heap.size 103 3 (.slice (some ⟨g, 0, none⟩) t.R.length c') t.R.length ((t.R.set i x).flatMap RX.cs) := row_keep HST.out fun q e _ => (by cases e; exact (hst.2.block g (by omega)).trans (hO2.block g (by omega)))
    have HFIN := Lib.hid (show RPS w t x (d.setA i x.a) (.returned (.agg #[.slice (some ⟨g, 0, none⟩) t.R.length c', .int .i64 (d.room : Int), .bool d.pw.isSome, .int .i64 t.q, .bool d.dead])) Y from by
      refine ⟨⟨some ⟨g, 0, none⟩, c', t.R.set i x, t.q⟩, ?_, hbY, fun W hW hyW hxW => ⟨RAreas.of_row (base := V3.heap.size) (by rw [List.length_set]; exact row_keep hrowY fun q e hl => hW q (by have := (row_blk hrowY e).1; omega) hl) (fun y hy => ?_), ?_, h.q⟩⟩
      · unfold RT.v DDk.setA
        rw [List.length_set]
      · rcases List.mem_or_eq_of_mem_set hy with hy | rfl
        · exact hyW y hy
        · exact hxW
      · show d.as.set i x.a = (t.R.set i x).map RX.a
        rw [h.as_, List.map_set])
    have HTH5 := Lib.hid hth5
    have HY := Lib.hid (show ((((X1.setCell ⟨w.heap.size + 1 + 1, 0, none⟩ (.slice (some ⟨g, 0, none⟩) t.R.length c')).setCell ⟨w.heap.size + 1 + 1, 1, none⟩ (.int .i64 (d.room : Int))).setCell ⟨w.heap.size + 1 + 1, 2, none⟩ (.bool d.pw.isSome)).setCell ⟨w.heap.size + 1 + 1, 3, none⟩ (.int .i64 t.q)).setCell ⟨w.heap.size + 1 + 1, 4, none⟩ (.bool d.dead) = Y from hY)
    have r0 := cell_of_row X1 _ 0 _ _ _ p3
    have r1 := cell_of_row X1 _ 1 _ _ _ p3
    have r2 := cell_of_row X1 _ 2 _ _ _ p3
    have r3 := cell_of_row X1 _ 3 _ _ _ p3
    have r4 := cell_of_row X1 _ 4 _ _ _ p3
    have f0 := frozen_of_row X1 _ 0 _ _ p3
    have f1 := frozen_of_row X1 _ 1 _ _ p3
    have f2 := frozen_of_row X1 _ 2 _ _ p3
    have f3 := frozen_of_row X1 _ 3 _ _ p3
    have f4 := frozen_of_row X1 _ 4 _ _ p3
    have HX := Lib.hid hX1
    have HST5 := Lib.hid hst.1
    clear hO2 p1 p3 hst hth5 hbY hrowY hb hb1 hb2 hb3 hbw h hx hd hl HST HO HX1 HX3 hY hX1 hgl s1 s2 s3
    go_upto_region 4 with (at_builtin; refine Lib.wpList_append_run _ rfl _ _ _ _ rfl _ _ rfl rfl _ _ HR.out ?_)
    rw [HW.out]
    clear g0 g1 g2 fg0 fg1 fg2 e20 e21 e22
    go_upto_region 5 with (fail)
    rw [HX.out]
    clear u0 u1 u2 u3 u4 fu
    go_wp2_with fail
    rw [HY.out]
    exact bodyPost_ret (results_cell_row rfl _ _ _ _ _ (0, 0) _ rfl HST5.out Try.underlying57 rfl (by kernel_rfl)) rfl HFIN.out
end Go.Proofs.Ytojkifcclgecoaa.Dk
