/-
  The contract of graph.Reach.
-/
import Derived.Test.YteigepblocbnlaaGpVisit
namespace Go.Proofs.Yteigepblocbnlaa.Gp
open Go Go.RowKit Go.Shelf Go.Proofs
attribute [local go_sem] Oper.semAt_some

theorem setAll_true {d : List Bool} {s : List Nat} {x : Nat} (hx : x < d.length) : (setAll d s true)[x]? = some (decide (x ∈ s) || d.getD x false) := by
  rw [setAll_get s true d x hx]
  by_cases h : x ∈ s
  · simp [h]
  · rw [if_neg h]; simp [h, List.getD, hx]
theorem setAll_snocR {α : Type} (d : List α) (s : List Nat) (x : Nat) (m : α) : setAll d (s ++ [x]) m = (setAll d s m).set x m := by unfold setAll; simp
/-- Of each node, is it come to from x? -/
def RC (N : Nat) (m : List EN) (x : Nat) : List Bool := setAll (List.replicate N false) (vis (adjT N m) (N + 1) (List.replicate N false) [] x).2 true
theorem RC_length (N : Nat) (m : List EN) (x : Nat) : (RC N m x).length = N := by unfold RC; rw [setAll_length]; simp
theorem RC_rch {N : Nat} {m : List EN} {x y : Nat} (hx : x < N) (hy : y < N) : ∃ b, (RC N m x)[y]? = some b ∧ (b = true ↔ Rch (adjT N m) N x y) := by
  have hc : (List.replicate N false).count false < N + 1 := by rw [List.count_replicate_self]; omega
  obtain ⟨s, b', e, f⟩ := vis_from (adjT N m) (N + 1) (List.replicate N false) [] x hc
  have hb : been (List.replicate N false) x = false := by rw [been_new]; simp [hx]
  unfold RC
  rw [e, setAll_true (by simpa using hy)]
  refine ⟨_, rfl, ?_⟩
  have e0 : (List.replicate N false).getD y false = false := by simp [List.getD, hy]
  rw [e0, Bool.or_false, decide_eq_true_iff, List.nil_append]
  exact ⟨fun h => f.way y h, fun h => (f.gone.shut x y (f.has hb) h).1⟩
theorem vis_lt (T : List (List Nat)) (n v : Nat) : ∀ x ∈ (vis T (n + 1) (List.replicate n false) [] v).2, x < n := by
  have hc : (List.replicate n false).count false < n + 1 := by rw [List.count_replicate_self]; omega
  obtain ⟨s, b', e, f⟩ := vis_from T (n + 1) (List.replicate n false) [] v hc
  rw [e]
  intro x hx
  have := f.gone.new x (by simpa using hx)
  rw [been_new] at this; simpa using this
theorem mem_lensR {L : List (List Nat)} {x : List Nat} (h : x ∈ L) : x.length ≤ (L.map List.length).sum := by
  induction L with
  | nil => simp at h
  | cons a r ih =>
    rw [List.map_cons, List.sum_cons]
    rcases List.mem_cons.1 h with rfl | h
    · omega
    · have := ih h; omega
theorem adj_okR {N : Nat} {m : List EN} (h : ∀ e ∈ m, e.1 < N ∧ e.2 < N) : (∀ x y, x < N → y ∈ row (adjT N m) x → y < N) ∧ True := by
  refine ⟨fun x y _ hy => ?_, trivial⟩
  rw [row_adjT (fun e he => (h e he).1)] at hy
  exact (h _ hy).2

set_option maxRecDepth 100000 in
set_option maxHeartbeats 8000000 in
theorem reach_bad (n f : Int) (A : Option Addr) (c : Nat) (l : List EI) (w : World) (hl : EdgesAt w A l) (hm : l.length ≤ 100000) (hr : (rightB n l && endB n f) = false) :
    Calls Try.prog 13 #[.int .i64 n, .int .i64 f, .slice A l.length c] w fun e w' => e = .returned (.slice none 0 0) ∧ Below w.heap.size w w' := by
  have HRT := Lib.hid (right_any n A c l w hl (by omega))
  cases h1 : rightB n l with
  | false =>
    rw [h1] at HRT
    clear h1 hr
    go_enter Try.func13, Try.ntmps13
    go_wp2_with fail
    refine HRT.out.mono ?_
    rintro e w1 ⟨rfl, hb⟩
    have HB := Lib.hid hb
    clear hb
    go_wp2_with fail
    go_ret
    exact ⟨rfl, HB.out⟩
  | true =>
    rw [h1, Bool.true_and] at hr
    rw [h1] at HRT
    have HN := Lib.hid (fun w1 : World => node_any n f w1)
    rw [hr] at HN
    clear h1 hr
    go_enter Try.func13, Try.ntmps13
    go_wp2_with fail
    refine HRT.out.mono ?_
    rintro e w1 ⟨rfl, hb⟩
    have HB := Lib.hid hb
    clear hb
    go_wp2_with fail
    refine (HN.out _).mono ?_
    rintro e w2 ⟨rfl, rfl⟩
    go_wp2_with fail
    go_ret
    exact ⟨rfl, HB.out⟩

set_option maxRecDepth 100000 in
set_option maxHeartbeats 8000000 in
theorem reach_any (N f : Nat) (A : Option Addr) (c : Nat) (m : List EN) (w : World) (hl : EdgesAt w A (castE m)) (hm : m.length ≤ 100000) (hN : N ≤ 2000) (hr : ∀ e ∈ m, e.1 < N ∧ e.2 < N) (hrt : rightB N (castE m) = true) (hf : f < N) :
    Calls Try.prog 13 #[.int .i64 N, .int .i64 f, .slice A m.length c] w fun e w' => ∃ g, e = .returned (.slice (some ⟨g, 0, none⟩) N N) ∧ w'.heap[g]? = some (.cells (cellsB (RC N m f)) 4 (0, 0)) ∧ Below w.heap.size w w' := by
  have hrt2 := right_any N A c (castE m) w hl (by rw [castE_length]; omega)
  rw [hrt, castE_length] at hrt2
  have HRT := Lib.hid hrt2
  have HL := Lib.hid hl
  have HN := Lib.hid (fun w1 : World => node_any N f w1)
  rw [show endB N f = true by unfold endB; simp; omega] at HN
  obtain ⟨M, hM⟩ : ∃ M, m.length = M := ⟨_, rfl⟩
  rw [hM] at HRT hm ⊢
  have HM := Lib.hid hM
  clear hrt2 hl hM
  go_enter Try.func13, Try.ntmps13
  go_wp2_with fail
  refine HRT.out.mono ?_
  rintro e w1 ⟨rfl, hb⟩
  have HB := Lib.hid hb
  clear hb
  go_wp2_with fail
  refine (HN.out _).mono ?_
  rintro e w1' ⟨rfl, rfl⟩
  have hmk := make_bools w1' N (by omega)
  obtain ⟨w2, hw2⟩ : ∃ w2, w1'.alloc (.cells (cellsB (List.replicate N false)) 4) = w2 := ⟨_, rfl⟩
  have hs2 : w2.heap.size = w1'.heap.size + 1 := by rw [← hw2]; simp
  have hb2 : Below w1'.heap.size w1' w2 := by rw [← hw2]; exact (Below.refl _ _).alloc (Nat.le_refl _) _
  have x1 : w2.heap[w1'.heap.size]? = some (.cells (cellsB (List.replicate N false)) 4 (0, 0)) := by rw [← hw2]; exact World.alloc_heap_new w1' _
  have hro := rowsOf_any N A c m w2 (HL.out.below (HB.out.trans (hb2.mono HB.out.size))) hN (by rw [HM.out]; omega) hr
  rw [HM.out] at hro
  have HRO := Lib.hid hro
  have HB2 := Lib.hid hb2
  have X1 := Lib.hid x1
  have HS2 := Lib.hid hs2
  clear hb2 x1 hro hs2
  go_wp2_with fail
  refine HRO.out.mono ?_
  rintro e w3 ⟨R, rows, rfl, hM3, hL3, hB3⟩
  have HWK := Lib.hid (walk_any w2.heap.size w3.heap.size R N rows w3 hM3 (Nat.le_refl _) hN)
  have HL3 := Lib.hid hL3
  have HB3 := Lib.hid hB3
  clear hM3 hL3 hB3 hmk hw2
  go_wp2_with fail
  refine HWK.out.mono ?_
  rintro e w4 ⟨Bn, b1, b2, b3, rfl, hE4, hb4, hB4, g0, g1, g2, g3⟩
  obtain ⟨hE, hT⟩ := adj_okR hr
  have hlen : rows.length = N := by rw [← rowsL_length, HL3.out, adjT_length]
  have hX3 : ∀ x ∈ rows, x.l.length ≤ 100000 := fun x hx => by
    have h1 : x.l ∈ rowsL rows := by unfold rowsL; exact List.mem_map.2 ⟨x, hx, rfl⟩
    have h2 := mem_lensR h1
    rw [HL3.out, lens_adj N m (fun e he => (hr e he).1), HM.out] at h2; omega
  have hvis := visit_any N Bn b1 b2 b3 w2.heap.size w3.heap.size R rows hlen hN (by rw [HL3.out]; exact hE) hX3 (N + 1) w4.heap.size (List.replicate N false) [] none 0 f w4 hE4 hb4 (by simp) (OI.nil _ _) (Nat.le_refl _) hf (by rw [List.count_replicate_self]; omega) (by rw [List.count_replicate_self]; simp; omega)
  rw [HL3.out] at hvis
  have HV := Lib.hid hvis
  have HB4 := Lib.hid hB4
  have eg := enters_of (P := Try.prog) Try.func29 (by kernel_rfl) rfl
  have hl4 := hE4.l4
  clear hvis hE4 hb4 hB4 hT hE hlen hX3
  unfold visV
  go_wp2_with fail
  refine HV.out.mono ?_
  rintro e w5 ⟨A5, c5, rfl, hO5, hB5, hT5, hS5⟩
  have hb5 : Below w3.heap.size w3 w5 := HB4.out.trans (hT5.below g0 hl4)
  obtain ⟨L, hL⟩ : ∃ L, (vis (adjT N m) (N + 1) (List.replicate N false) [] f).2.length = L := ⟨_, rfl⟩
  obtain ⟨s, hs⟩ : ∃ s, (vis (adjT N m) (N + 1) (List.replicate N false) [] f).2 = s := ⟨_, rfl⟩
  have hlt := vis_lt (adjT N m) N f
  rw [hs] at hlt
  have hRC : RC N m f = setAll (List.replicate N false) s true := by unfold RC; rw [hs]
  rw [hL]
  rw [hs] at hL hO5
  obtain ⟨_, hia, hc1, hc2, hgA⟩ := hO5.slice
  unfold maxLen at hc2
  have hsz3 := HB3.out.size
  have hsz4 := HB4.out.size
  have hsz5 := hT5.size
  have hss2 := HS2.out
  have hx5 : w5.heap[w1'.heap.size]? = some (.cells (cellsB (List.replicate N false)) 4 (0, 0)) := (hb5.block _ (by omega)).trans ((HB3.out.block _ (by omega)).trans X1.out)
  have hlow5 : Below w.heap.size w w5 := HB.out.trans ((HB2.out.mono HB.out.size).trans ((HB3.out.mono (by have := HB.out.size; omega)).trans (hb5.mono (by have := HB.out.size; omega))))
  have HX5 := Lib.hid hx5
  have HLOW := Lib.hid hlow5
  have HRC := Lib.hid hRC
  have HLT := Lib.hid hlt
  have HLL := Lib.hid hL
  have HIA := Lib.hid hia
  have HGA := Lib.hid hgA
  have hLm : L ≤ 9223372036854775807 := by omega
  have hgl : w1'.heap.size < w4.heap.size := by omega
  clear hO5 hB5 hT5 hb5 hL hs hRC hlt hia hgA hx5 hlow5 hc1 hc2 eg hsz3 hsz4 hsz5 hss2 g0 g1 g2 g3 hl4
  go_wp2_with fail
  go_loopw [29] (fun y wr => ∃ (j : Nat), j ≤ L ∧ y = .int .i64 j ∧ Hid (wr.heap[w1'.heap.size]? = some (.cells (cellsB (setAll (List.replicate N false) (s.take j) true)) 4 (0, 0)) ∧ TurnV w5.heap.size w1'.heap.size w5 wr)) (fun y _ => L - (intOf y).toNat)
  case atStart => exact ⟨0, Nat.zero_le _, rfl, HX5.out, TurnV.refl _ _ _⟩
  case round =>
    obtain ⟨j, hj, rfl, HJ⟩ := hrel
    by_cases h1 : j < L
    · obtain ⟨x, hx⟩ : ∃ x, s[j]? = some x := ⟨_, List.getElem?_eq_getElem (by have := HLL.out; omega)⟩
      have hxN : x < N := HLT.out x (List.mem_of_getElem? hx)
      obtain ⟨g', o', hA, hcl⟩ := HIA.out (by have := HLL.out; omega)
      have hgb := (HGA.out g' (by rw [hA]; rfl))
      have hgx : g' < w5.heap.size := by obtain ⟨_, cur, _, hcur⟩ := hgb; exact (Array.getElem?_eq_some_iff.1 hcur).1
      have hne : g' ≠ w1'.heap.size := by have := hgb.1; omega
      have c1 := (World.cell?_of_block (a := ⟨g', o' + j, none⟩) (HJ.out.2.block g' hgx hne)).trans (hcl j x hx)
      unfold vI at c1
      obtain ⟨y, hy⟩ : ∃ y, (setAll (List.replicate N false) (s.take j) true)[x]? = some y := ⟨_, List.getElem?_eq_getElem (by rw [setAll_length]; simpa using hxN)⟩
      have g1 : wr.cell? ⟨w1'.heap.size, x, none⟩ = some (.bool y) := (cell_of_row _ _ _ _ _ _ HJ.out.1).trans (cellsB_get hy)
      have f1 : wr.frozen? ⟨w1'.heap.size, x, none⟩ = false := frozen_of_row _ _ _ _ _ HJ.out.1
      have HX2 := Lib.hid hx
      have k1 : (j : Int) < (L : Int) := by omega
      have k2 : (x : Int) < (N : Int) := by omega
      have wj : IntKind.i64.wrap (j : Int) = (j : Int) := IntWalk.i64_in _ (by omega)
      have wx : IntKind.i64.wrap (x : Int) = (x : Int) := IntWalk.i64_in _ (by omega)
      rw [hA]
      clear hx hA hcl hgb hgx hne hy
      go_wp2_with fail
      go_roundw
      case rel =>
        refine ⟨j + 1, by omega, by go_num, ?_, HJ.out.2.trans (TurnV.put _)⟩
        rw [heap_setCell_same _ _ _ _ _ _ HJ.out.1, cellsB_set, List.take_add_one, HX2.out]
        show _ = some (Obj.cells (cellsB (setAll _ (s.take j ++ [x]) true)) _ _)
        rw [setAll_snocR]
      case measure => simp [intOf]; omega
    · obtain rfl : j = L := by omega
      go_wp2_with fail
      go_ret
      refine ⟨_, rfl, ?_, HLOW.out.trans (HJ.out.2.below (by have := HB.out.size; omega) (by have := HJ.out.2.size; omega))⟩
      rw [HRC.out, HJ.out.1, ← HLL.out, List.take_length]
end Go.Proofs.Yteigepblocbnlaa.Gp
