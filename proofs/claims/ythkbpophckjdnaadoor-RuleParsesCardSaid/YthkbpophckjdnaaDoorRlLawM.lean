/-
  The walk of RuleMay.
-/
import Derived.Test.YthkbpophckjdnaaDoorRlLong
import Derived.Test.YthkbpophckjdnaaDoorRlLawT
import Derived.Deep.Cut
namespace Go.Proofs.YthkbpophckjdnaaDoor
open Go Go.RowKit Go.Shelf Go.Proofs
attribute [local go_sem] Oper.semAt_some

/-- The block N holds the rule x. -/
def At4 (W : World) (N : Nat) (x : RX) : Prop := W.heap[N]? = some (.cells #[.int .i64 x.k, .string x.g, .string x.o, .string x.n] 35 (0, 0))
theorem At4.lt {W : World} {N : Nat} {x : RX} (h : At4 W N x) : N < W.heap.size := (Array.getElem?_eq_some_iff.1 h).1
theorem At4.below {W W' : World} {N : Nat} {x : RX} (h : At4 W N x) (hb : Below W.heap.size W W') : At4 W' N x := (hb.block N h.lt).trans h
theorem At4.alloc {W : World} {N : Nat} {x : RX} (h : At4 W N x) (o : Obj) : At4 (W.alloc o) N x := h.below ((Below.refl _ _).alloc (Nat.le_refl _) o)
theorem At4.new (W : World) (x : RX) : At4 (W.alloc (.cells #[.int .i64 x.k, .string x.g, .string x.o, .string x.n] 35)) W.heap.size x := heap_alloc_new _ _
theorem At4.cells {W : World} {N : Nat} {x : RX} (h : At4 W N x) : W.cell? ⟨N, 0, none⟩ = some (.int .i64 x.k) ∧ W.cell? ⟨N, 0 + 1, none⟩ = some (.string x.g) ∧ W.cell? ⟨N, 0 + 2, none⟩ = some (.string x.o) ∧ W.cell? ⟨N, 0 + 3, none⟩ = some (.string x.n) :=
  ⟨cell_of_row _ _ 0 _ _ _ h, cell_of_row _ _ 1 _ _ _ h, cell_of_row _ _ 2 _ _ _ h, cell_of_row _ _ 3 _ _ _ h⟩
theorem At4.row {W : World} {N : Nat} {x : RX} (h : At4 W N x) : RulesAt W (some ⟨N, 0, none⟩) 1 [x] :=
  ⟨Nat.le_refl _, by unfold maxLen; omega, fun _ => ⟨N, 0, rfl, fun i y hy => by
    match i, hy with
    | 0, hy =>
      cases hy
      exact h.cells
    | i + 1, hy => simp at hy⟩⟩
theorem At4.set0 {W : World} {N : Nat} {x : RX} (h : At4 W N x) (k : Int) : At4 (W.setCell ⟨N, 0, none⟩ (.int .i64 k)) N ⟨k, x.g, x.o, x.n⟩ := heap_setCell_same _ N 0 _ _ _ h
theorem At4.set1 {W : World} {N : Nat} {x : RX} (h : At4 W N x) (g : ByteArray) : At4 (W.setCell ⟨N, 1, none⟩ (.string g)) N ⟨x.k, g, x.o, x.n⟩ := heap_setCell_same _ N 1 _ _ _ h
theorem At4.set2 {W : World} {N : Nat} {x : RX} (h : At4 W N x) (o : ByteArray) : At4 (W.setCell ⟨N, 2, none⟩ (.string o)) N ⟨x.k, x.g, o, x.n⟩ := heap_setCell_same _ N 2 _ _ _ h
theorem At4.other {W : World} {N M : Nat} {x : RX} (h : At4 W N x) (hn : N ≠ M) (j : Nat) (v : Value) : At4 (W.setCell ⟨M, j, none⟩ v) N x := (heap_setCell_other W ⟨M, j, none⟩ N v hn).trans h
theorem At4.frozen {W : World} {N : Nat} {x : RX} (h : At4 W N x) (j : Nat) : W.frozen? ⟨N, j, none⟩ = false := frozen_of_row W N j _ _ h
theorem At4.at1 {W : World} {N : Nat} {x : RX} (h : At4 W N x) : W.cell? ⟨N, 1, none⟩ = some (.string x.g) := cell_of_row _ _ 1 _ _ _ h
theorem At4.at2 {W : World} {N : Nat} {x : RX} (h : At4 W N x) : W.cell? ⟨N, 2, none⟩ = some (.string x.o) := cell_of_row _ _ 2 _ _ _ h
theorem At4.new_at {W W' : World} {N : Nat} (x : RX) (hW : W.alloc (.cells #[.int .i64 x.k, .string x.g, .string x.o, .string x.n] 35) = W') (hN : W.heap.size = N) : At4 W' N x ∧ W'.heap.size = N + 1 ∧ (∀ M y, At4 W M y → At4 W' M y) ∧ (∀ B w, B ≤ N → Below B w W → Below B w W') := by
  subst hW; subst hN
  exact ⟨At4.new _ _, by simp, fun M y h => h.alloc _, fun B w hB h => h.alloc hB _⟩
theorem low_set {B N : Nat} {w W : World} (h : Below B w W) (hN : B ≤ N) (j : Nat) (v : Value) : Below B w (W.setCell ⟨N, j, none⟩ v) := h.setCell (p := ⟨N, j, none⟩) hN v
def oldLeft (N : Nat) (W : World) : Nat := match W.cell? ⟨N, 2, none⟩ with
  | some (.string o) => 401 - o.size
  | _ => 0
theorem At4.left {W : World} {N : Nat} {x : RX} (h : At4 W N x) : oldLeft N W = 401 - x.o.size := by unfold oldLeft; rw [h.at2]
theorem long_one (x : RX) : longU (rusX [x]) = 1 + x.g.size + x.o.size + x.n.size := by
  unfold longU rusX
  simp only [List.map_cons, List.map_nil, List.sum_cons, List.sum_nil, Nat.add_zero]
  rw [show x.ru.g.length = x.g.size from rl_size _, show x.ru.o.length = x.o.size from rl_size _, show x.ru.n.length = x.n.size from rl_size _]

set_option maxRecDepth 100000 in
set_option maxHeartbeats 8000000 in
theorem rmay_any (x : RX) (s : ByteArray) (w : World) (hs : s.size ≤ 1000000000000000) (hx : x.Tiny) (hm : MaxOk w) :
    Calls Tryd.prog 9 #[x.v, .string s] w (RlB true w) := by
  have HK := Lib.hid (fun (W : World) (hb : Below w.heap.size w W) => rknown_any W (hm.below hb))
  have HMX := Lib.hid (fun (W : World) (hb : Below w.heap.size w W) => hm.below hb)
  have HF := Lib.hid hx
  show Calls Tryd.prog 9 #[.agg #[.int .i64 x.k, .string x.g, .string x.o, .string x.n], .string s] w (RlB true w)
  obtain ⟨W1, hW1⟩ : ∃ W1, w.alloc (.cells #[.int .i64 x.k, .string x.g, .string x.o, .string x.n] 35) = W1 := ⟨_, rfl⟩
  obtain ⟨W2, hW2⟩ : ∃ W2, W1.alloc (.cells #[.int .i64 x.k, .string x.g, .string x.o, .string x.n] 35) = W2 := ⟨_, rfl⟩
  have n1 : At4 W1 w.heap.size x := by rw [← hW1]; exact At4.new _ _
  have s1 : W1.heap.size = w.heap.size + 1 := by rw [← hW1]; simp
  have hb1 : Below w.heap.size w W1 := by rw [← hW1]; exact (Below.refl _ _).alloc (Nat.le_refl _) _
  have n2 : At4 W2 w.heap.size x := by rw [← hW2]; exact n1.alloc _
  have n3 : At4 W2 (w.heap.size + 1) x := by rw [← hW2, ← s1]; exact At4.new _ _
  have hb2 : Below w.heap.size w W2 := by rw [← hW2]; exact hb1.alloc (by omega) _
  have HL := Lib.hid (rlong_any [x] (some ⟨w.heap.size + 1, 0, none⟩) 1 W2 n3.row (by simp) (fun y hy => by rw [List.mem_singleton] at hy; rw [hy]; exact hx))
  rw [long_one] at HL
  have HW1 := Lib.hid hW1
  have HW2 := Lib.hid hW2
  have HB2 := Lib.hid hb2
  have N2 := Lib.hid n2
  obtain ⟨q, hq⟩ : ∃ q, 1 + x.g.size + x.o.size + x.n.size = q := ⟨_, rfl⟩
  rw [hq] at HL
  have HQ := Lib.hid hq
  clear n1 n2 n3 s1 hb1 hb2 hW1 hW2 hm hx hq
  by_cases hbig : 400 < q
  · have g1 : (400 : Int) < (q : Int) := by omega
    go_enter Tryd.func9, Tryd.ntmps9
    go_wp2_with fail
    rw [HW1.out, HW2.out]
    refine HL.out.mono ?_
    rintro e w3 ⟨rfl, hb3⟩
    have HB3 := Lib.hid (HB2.out.trans (hb3.mono HB2.out.size))
    clear hb3
    go_wp2_with fail
    refine (HK.out _ HB3.out).mono ?_
    rintro e w4 ⟨rfl, hb4⟩
    go_wp2_with fail
    go_ret
    exact ⟨rfl, HB3.out.trans (hb4.mono HB3.out.size)⟩
  · have g1 : ¬ (400 : Int) < (q : Int) := by omega
    by_cases hlen : 100 < s.size
    · have g2 : (100 : Int) < (s.size : Int) := by omega
      go_enter Tryd.func9, Tryd.ntmps9
      go_wp2_with fail
      rw [HW1.out, HW2.out]
      refine HL.out.mono ?_
      rintro e w3 ⟨rfl, hb3⟩
      have HB3 := Lib.hid (HB2.out.trans (hb3.mono HB2.out.size))
      clear hb3
      go_wp2_with fail
      refine (HK.out _ HB3.out).mono ?_
      rintro e w4 ⟨rfl, hb4⟩
      go_wp2_with fail
      go_ret
      exact ⟨rfl, HB3.out.trans (hb4.mono HB3.out.size)⟩
    · have g2 : ¬ (100 : Int) < (s.size : Int) := by omega
      have HRT := Lib.hid (fun (W : World) (hb : Below w.heap.size w W) => right_rule x W HF.out.fits.g HF.out.fits.o HF.out.fits.n (HMX.out W hb))
      cases hrt : rightU x.ru with
      | false =>
        rw [hrt] at HRT
        go_enter Tryd.func9, Tryd.ntmps9
        go_wp2_with fail
        rw [HW1.out, HW2.out]
        refine HL.out.mono ?_
        rintro e w3 ⟨rfl, hb3⟩
        have HB3 := Lib.hid (HB2.out.trans (hb3.mono HB2.out.size))
        obtain ⟨b0, b1, b2, b3⟩ := (N2.out.below hb3).cells
        clear hb3
        go_wp2_with fail
        refine (HRT.out _ HB3.out).mono ?_
        rintro e w4 ⟨rfl, hb4⟩
        have HB4 := Lib.hid (HB3.out.trans (hb4.mono HB3.out.size))
        clear hb4
        go_wp2_with fail
        refine (HK.out _ HB4.out).mono ?_
        rintro e w5 ⟨rfl, hb5⟩
        go_wp2_with fail
        go_ret
        exact ⟨rfl, HB4.out.trans (hb5.mono HB4.out.size)⟩
      | true =>
        rw [hrt] at HRT
        go_enter Tryd.func9, Tryd.ntmps9
        go_wp2_with fail
        rw [HW1.out, HW2.out]
        refine HL.out.mono ?_
        rintro e w3 ⟨rfl, hb3⟩
        have HB3 := Lib.hid (HB2.out.trans (hb3.mono HB2.out.size))
        have N3 := Lib.hid (N2.out.below hb3)
        obtain ⟨b0, b1, b2, b3⟩ := N3.out.cells
        clear hb3
        go_wp2_with fail
        refine (HRT.out _ HB3.out).mono ?_
        rintro e w4 ⟨rfl, hb4⟩
        have HB4 := Lib.hid (HB3.out.trans (hb4.mono HB3.out.size))
        have N4 := Lib.hid (N3.out.below hb4)
        clear b0 b1 b2 b3
        obtain ⟨b0, b1, b2, b3⟩ := N4.out.cells
        clear hb4 N3 N2 HB3 HB2 HRT HL HW1 HW2
        clear W1 W2
        go_upto_region 4 with (fail)
        obtain ⟨W5, hW5⟩ : ∃ W5, w4.alloc (.cells #[.int .i64 x.k, .string x.g, .string x.o, .string x.n] 35) = W5 := ⟨_, rfl⟩
        obtain ⟨i5, hi5⟩ : ∃ i5, w4.heap.size = i5 := ⟨_, rfl⟩
        obtain ⟨n5, z5, o5, l5⟩ := At4.new_at x hW5 hi5
        have hz : w.heap.size < i5 := by rw [← hi5]; exact N4.out.lt
        rw [hW5, hi5]
        have m5 := o5 _ _ N4.out
        have hb5 := l5 w.heap.size w (by omega) HB4.out
        have a5 := n5.at1
        have f5 := n5.frozen 1
        clear l5 o5 hW5 hi5
        go_upto_region 5 with (fail)
        have m6 := m5.other (M := i5) (by omega) 1 (.string s)
        have n6 := n5.set1 s
        have hb6 := low_set hb5 (N := i5) (by omega) 1 (.string s)
        have z6 : (W5.setCell ⟨i5, 1, none⟩ (.string s)).heap.size = i5 + 1 := by rw [World.size_setCell]; exact z5
        clear a5 f5 m5 n5 hb5 z5 b0 b1 b2 b3 N4 HB4
        revert m6 n6 hb6 z6
        generalize W5.setCell ⟨i5, 1, none⟩ (.string s) = W6
        intro m6 n6 hb6 z6
        clear W5 w4
        obtain ⟨b0, b1, b2, b3⟩ := m6.cells
        go_upto_region 6 with (fail)
        obtain ⟨W7, hW7⟩ : ∃ W7, W6.alloc (.cells #[.int .i64 x.k, .string x.g, .string x.o, .string x.n] 35) = W7 := ⟨_, rfl⟩
        obtain ⟨n7, z7, o7, l7⟩ := At4.new_at x hW7 z6
        rw [hW7]
        have m7 := o7 _ _ m6
        have u7 := o7 _ _ n6
        have hb7 := l7 w.heap.size w (by omega) hb6
        have a7 := n7.at1
        have f7 := n7.frozen 1
        clear l7 o7 hW7 b0 b1 b2 b3 m6 n6 hb6 z6
        clear W6
        go_upto_region 7 with (fail)
        have m8 := m7.other (M := i5 + 1) (by omega) 1 (.string ⟨#[]⟩)
        have u8 := u7.other (M := i5 + 1) (by omega) 1 (.string ⟨#[]⟩)
        have n8 := n7.set1 ⟨#[]⟩
        have hb8 := low_set hb7 (N := i5 + 1) (by omega) 1 (.string ⟨#[]⟩)
        have z8 : (W7.setCell ⟨i5 + 1, 1, none⟩ (.string ⟨#[]⟩)).heap.size = i5 + 1 + 1 := by rw [World.size_setCell]; exact z7
        clear a7 f7 m7 n7 u7 hb7 z7
        revert m8 n8 u8 hb8 z8
        generalize W7.setCell ⟨i5 + 1, 1, none⟩ (.string ⟨#[]⟩) = W8
        intro m8 n8 u8 hb8 z8
        clear W7
        obtain ⟨b0, b1, b2, b3⟩ := m8.cells
        go_upto_region 8 with (fail)
        obtain ⟨W9, hW9⟩ : ∃ W9, W8.alloc (.cells #[.int .i64 x.k, .string x.g, .string x.o, .string x.n] 35) = W9 := ⟨_, rfl⟩
        obtain ⟨n9, z9, o9, l9⟩ := At4.new_at x hW9 z8
        rw [hW9]
        have m9 := o9 _ _ m8
        have u9 := o9 _ _ u8
        have v9 := o9 _ _ n8
        have hb9 := l9 w.heap.size w (by omega) hb8
        have a9 : W9.cell? ⟨i5 + 1 + 1, 0, none⟩ = some (.int .i64 x.k) := n9.cells.1
        have f9 := n9.frozen 0
        clear l9 o9 hW9 b0 b1 b2 b3 m8 n8 u8 hb8 z8
        clear W8
        go_upto_region 9 with (fail)
        have m10 := m9.other (M := i5 + 1 + 1) (by omega) 0 (.int .i64 6)
        have u10 := u9.other (M := i5 + 1 + 1) (by omega) 0 (.int .i64 6)
        have v10 := v9.other (M := i5 + 1 + 1) (by omega) 0 (.int .i64 6)
        have n10 := n9.set0 6
        have hb10 := low_set hb9 (N := i5 + 1 + 1) (by omega) 0 (.int .i64 6)
        have z10 : (W9.setCell ⟨i5 + 1 + 1, 0, none⟩ (.int .i64 6)).heap.size = i5 + 1 + 1 + 1 := by rw [World.size_setCell]; exact z9
        clear a9 f9 m9 n9 u9 v9 hb9 z9
        revert m10 n10 u10 v10 hb10 z10
        generalize W9.setCell ⟨i5 + 1 + 1, 0, none⟩ (.int .i64 6) = W10
        intro m10 n10 u10 v10 hb10 z10
        clear W9
        obtain ⟨b0, b1, b2, b3⟩ := m10.cells
        go_wp2_with fail
        obtain ⟨W11, hW11⟩ : ∃ W11, W10.alloc (.cells #[.int .i64 x.k, .string x.g, .string x.o, .string x.n] 35) = W11 := ⟨_, rfl⟩
        obtain ⟨n11, z11, o11, l11⟩ := At4.new_at x hW11 z10
        rw [hW11]
        have u11 := o11 _ _ u10
        have v11 := o11 _ _ v10
        have t11 := o11 _ _ n10
        have hb11 := l11 w.heap.size w (by omega) hb10
        clear l11 o11 hW11 b0 b1 b2 b3 m10 n10 u10 v10 hb10 z10
        clear W10
        go_loopw [] (fun wr => ∃ o : ByteArray, o.size ≤ 400 ∧ At4 wr i5 ⟨x.k, s, x.o, x.n⟩ ∧ At4 wr (i5 + 1) ⟨x.k, ⟨#[]⟩, x.o, x.n⟩ ∧ At4 wr (i5 + 1 + 1) ⟨6, x.g, x.o, x.n⟩ ∧ At4 wr (i5 + 1 + 1 + 1) ⟨x.k, x.g, o, x.n⟩ ∧ Below w.heap.size w wr) (fun wr => oldLeft (i5 + 1 + 1 + 1) wr)
        case atStart => exact ⟨x.o, by have := HQ.out; omega, u11, t11, v11, n11, hb11⟩
        case round =>
          obtain ⟨o, ho, u, v, t, n, hbr⟩ := hrel
          have a := n.at2
          have f := n.frozen 2
          simp only at a
          by_cases h1 : o.size ≤ 100
          · have g3 : (o.size : Int) ≤ 100 := by omega
            go_wp2_with fail
            go_roundw
            case rel =>
              have n' := n.set2 (o ++ ⟨#[97]⟩)
              exact ⟨o ++ ⟨#[97]⟩, by rw [app_size]; have : (ByteArray.mk #[97]).size = 1 := rfl; omega, u.other (by omega) _ _, v.other (by omega) _ _, t.other (by omega) _ _, n', low_set hbr (by omega) _ _⟩
            case measure =>
              have n' := n.set2 (o ++ ⟨#[97]⟩)
              rw [n'.left, n.left]
              show 401 - (o ++ ⟨#[97]⟩).size < 401 - o.size
              rw [app_size]; have : (ByteArray.mk #[97]).size = 1 := rfl; omega
          · have g3 : ¬ (o.size : Int) ≤ 100 := by omega
            obtain ⟨b0, b1, b2, b3⟩ := u.cells
            simp only at b0 b1 b2 b3
            obtain ⟨W12, hW12⟩ : ∃ W12, wr.alloc (.cells #[.int .i64 x.k, .string s, .string x.o, .string x.n] 35) = W12 := ⟨_, rfl⟩
            have n12 : At4 W12 wr.heap.size ⟨x.k, s, x.o, x.n⟩ := by rw [← hW12]; exact At4.new _ ⟨x.k, s, x.o, x.n⟩
            have hbw : Below wr.heap.size wr W12 := by rw [← hW12]; exact (Below.refl _ _).alloc (Nat.le_refl _) _
            have HB12 := Lib.hid (hbr.trans (hbw.mono hbr.size))
            have U12 := Lib.hid (u.below hbw)
            have T12 := Lib.hid (t.below hbw)
            have V12 := Lib.hid (v.below hbw)
            have N12 := Lib.hid (n.below hbw)
            have hfx : RX.Fits ⟨x.k, s, x.o, x.n⟩ := ⟨by show s.size ≤ maxLen; unfold maxLen; omega, HF.out.fits.o, HF.out.fits.n⟩
            have HP := Lib.hid (print_any (some ⟨wr.heap.size, 0, none⟩) 1 [⟨x.k, s, x.o, x.n⟩] W12 n12.row (fun y hy => by rw [List.mem_singleton] at hy; rw [hy]; exact hfx) (HMX.out _ HB12.out))
            have HFX := Lib.hid hfx
            have HO := Lib.hid (show 100 < o.size ∧ o.size ≤ 400 by omega)
            have HW12 := Lib.hid hW12
            have HI := Lib.hid (show w.heap.size < i5 from hz)
            clear hW12 n12 hbw u v t n hbr hfx u11 v11 t11 n11 hb11 z11 ho h1 hz
            have HR1 := Lib.hid (fun (W : World) (hb : Below w.heap.size w W) => right_rule ⟨x.k, s, x.o, x.n⟩ W HFX.out.g HFX.out.o HFX.out.n (HMX.out W hb))
            have HR2 := Lib.hid (fun (W : World) (hb : Below w.heap.size w W) => right_rule ⟨x.k, ⟨#[]⟩, x.o, x.n⟩ W (by show (ByteArray.mk #[]).size ≤ maxLen; decide) HFX.out.o HFX.out.n (HMX.out W hb))
            have HR3 := Lib.hid (fun (W : World) (hb : Below w.heap.size w W) => right_rule ⟨6, x.g, x.o, x.n⟩ W HF.out.fits.g HFX.out.o HFX.out.n (HMX.out W hb))
            have HR4 := Lib.hid (fun (W : World) (hb : Below w.heap.size w W) => right_rule ⟨x.k, x.g, o, x.n⟩ W HF.out.fits.g (by show o.size ≤ maxLen; have := HO.out.2; unfold maxLen; omega) HFX.out.n (HMX.out W hb))
            rw [right_glob _ rfl] at HR2
            rw [right_six _ rfl] at HR3
            rw [right_long (RX.ru ⟨x.k, x.g, o, x.n⟩) (by show 100 < o.data.toList.length; rw [rl_size]; exact HO.out.1)] at HR4
            have hpp : (printU (rusX [⟨x.k, s, x.o, x.n⟩])).1 = if rightU (RX.ru ⟨x.k, s, x.o, x.n⟩) then 0 else 2 := by
              unfold printU rusX
              simp only [List.map_cons, List.map_nil, List.all_cons, List.all_nil, Bool.and_true]
              split <;> simp
            rw [hpp] at HP
            clear hpp
            cases hr1 : rightU (RX.ru ⟨x.k, s, x.o, x.n⟩) with
            | true =>
              rw [hr1] at HR1
              rw [hr1, if_pos rfl] at HP
              clear hr1
              go_wp2_with fail
              rw [HW12.out]
              refine HP.out.mono ?_
              rintro e w5 ⟨rfl, hb5⟩
              have HB := Lib.hid (HB12.out.trans (hb5.mono HB12.out.size))
              have U := Lib.hid (U12.out.below hb5)
              have T0 := Lib.hid (T12.out.below hb5)
              have V0 := Lib.hid (V12.out.below hb5)
              have N0 := Lib.hid (N12.out.below hb5)
              clear hb5 a f b0 b1 b2 b3
              clear U12 T12 V12 N12 HB12 HP HW12
              clear W12
              obtain ⟨b0, b1, b2, b3⟩ := U.out.cells
              simp only at b0 b1 b2 b3
              have HB0 := HB
              clear HB
              go_wp2_with fail
              refine (HR1.out _ HB0.out).mono ?_
              rintro e x0 ⟨rfl, hb⟩
              have HB1 := Lib.hid (HB0.out.trans (hb.mono HB0.out.size))
              have T1 := Lib.hid (T0.out.below hb)
              have V1 := Lib.hid (V0.out.below hb)
              have N1 := Lib.hid (N0.out.below hb)
              clear hb b0 b1 b2 b3 HB0 U
              clear T0 V0 N0
              obtain ⟨b0, b1, b2, b3⟩ := V1.out.cells
              simp only at b0 b1 b2 b3
              go_wp2_with fail
              refine (HR2.out _ HB1.out).mono ?_
              rintro e x1 ⟨rfl, hb⟩
              have HB2 := Lib.hid (HB1.out.trans (hb.mono HB1.out.size))
              have T2 := Lib.hid (T1.out.below hb)
              have V2 := Lib.hid (V1.out.below hb)
              have N2 := Lib.hid (N1.out.below hb)
              clear hb b0 b1 b2 b3 HB1
              clear T1 V1 N1
              obtain ⟨b0, b1, b2, b3⟩ := T2.out.cells
              simp only at b0 b1 b2 b3
              go_wp2_with fail
              refine (HR3.out _ HB2.out).mono ?_
              rintro e x2 ⟨rfl, hb⟩
              have HB3 := Lib.hid (HB2.out.trans (hb.mono HB2.out.size))
              have T3 := Lib.hid (T2.out.below hb)
              have V3 := Lib.hid (V2.out.below hb)
              have N3 := Lib.hid (N2.out.below hb)
              clear hb b0 b1 b2 b3 HB2
              clear T2 V2 N2
              obtain ⟨b0, b1, b2, b3⟩ := N3.out.cells
              simp only at b0 b1 b2 b3
              go_wp2_with fail
              refine (HR4.out _ HB3.out).mono ?_
              rintro e y ⟨rfl, hb⟩
              have HB4 := Lib.hid (HB3.out.trans (hb.mono HB3.out.size))
              clear hb b0 b1 b2 b3 HB3
              go_wp2_with fail
              refine (HK.out _ HB4.out).mono ?_
              rintro e z ⟨rfl, hb⟩
              go_wp2_with fail
              go_ret
              exact ⟨rfl, HB4.out.trans (hb.mono HB4.out.size)⟩
            | false =>
              rw [hr1] at HR1
              rw [hr1, if_neg (by decide)] at HP
              clear hr1
              go_wp2_with fail
              rw [HW12.out]
              refine HP.out.mono ?_
              rintro e w5 ⟨rfl, hb5⟩
              have HB := Lib.hid (HB12.out.trans (hb5.mono HB12.out.size))
              have U := Lib.hid (U12.out.below hb5)
              have T0 := Lib.hid (T12.out.below hb5)
              have V0 := Lib.hid (V12.out.below hb5)
              have N0 := Lib.hid (N12.out.below hb5)
              clear hb5 a f b0 b1 b2 b3
              clear U12 T12 V12 N12 HB12 HP HW12
              clear W12
              obtain ⟨b0, b1, b2, b3⟩ := U.out.cells
              simp only at b0 b1 b2 b3
              have HB0 := HB
              clear HB
              go_wp2_with fail
              refine (HR1.out _ HB0.out).mono ?_
              rintro e x0 ⟨rfl, hb⟩
              have HB1 := Lib.hid (HB0.out.trans (hb.mono HB0.out.size))
              have T1 := Lib.hid (T0.out.below hb)
              have V1 := Lib.hid (V0.out.below hb)
              have N1 := Lib.hid (N0.out.below hb)
              clear hb b0 b1 b2 b3 HB0 U
              clear T0 V0 N0
              obtain ⟨b0, b1, b2, b3⟩ := V1.out.cells
              simp only at b0 b1 b2 b3
              go_wp2_with fail
              refine (HR2.out _ HB1.out).mono ?_
              rintro e x1 ⟨rfl, hb⟩
              have HB2 := Lib.hid (HB1.out.trans (hb.mono HB1.out.size))
              have T2 := Lib.hid (T1.out.below hb)
              have V2 := Lib.hid (V1.out.below hb)
              have N2 := Lib.hid (N1.out.below hb)
              clear hb b0 b1 b2 b3 HB1
              clear T1 V1 N1
              obtain ⟨b0, b1, b2, b3⟩ := T2.out.cells
              simp only at b0 b1 b2 b3
              go_wp2_with fail
              refine (HR3.out _ HB2.out).mono ?_
              rintro e x2 ⟨rfl, hb⟩
              have HB3 := Lib.hid (HB2.out.trans (hb.mono HB2.out.size))
              have T3 := Lib.hid (T2.out.below hb)
              have V3 := Lib.hid (V2.out.below hb)
              have N3 := Lib.hid (N2.out.below hb)
              clear hb b0 b1 b2 b3 HB2
              clear T2 V2 N2
              obtain ⟨b0, b1, b2, b3⟩ := N3.out.cells
              simp only at b0 b1 b2 b3
              go_wp2_with fail
              refine (HR4.out _ HB3.out).mono ?_
              rintro e y ⟨rfl, hb⟩
              have HB4 := Lib.hid (HB3.out.trans (hb.mono HB3.out.size))
              clear hb b0 b1 b2 b3 HB3
              go_wp2_with fail
              refine (HK.out _ HB4.out).mono ?_
              rintro e z ⟨rfl, hb⟩
              go_wp2_with fail
              go_ret
              exact ⟨rfl, HB4.out.trans (hb.mono HB4.out.size)⟩
end Go.Proofs.YthkbpophckjdnaaDoor
