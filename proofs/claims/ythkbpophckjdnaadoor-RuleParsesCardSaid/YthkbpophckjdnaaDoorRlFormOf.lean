/-
  The contract of rule.formOf: a range over the map of forms, in whatever order.
-/
import Derived.Test.YthkbpophckjdnaaDoorRlForms
import Derived.Deep.LoopGhost
import Derived.Sort.MapsRangeIn
namespace Go.Proofs.YthkbpophckjdnaaDoor
open Go Go.RowKit Go.Shelf Go.Proofs Go.ChangeMaps Go.Maps Go.WideMaps
attribute [local go_sem] Oper.semAt_some

theorem keyR {x : ByteArray} {kl : Lit} (h : keyOf Tryd.prog 9 (.string x) = some kl) : kl = .string x.data.toList := by
  simp [keyOf, Tryd.underlying9, mapKey] at h
  obtain ⟨_, h⟩ := h
  exact h.symm
theorem formsD_hit {x : ByteArray} {c d : Int} {y : DataW Unit} {ps : List MemPlace} (hy : formR (formV c d) = some (y, ps)) (h : ∀ z, formsD.atKey (.string x.data.toList) z = y) :
    kindW x.data.toList ≠ 0 ∧ c = (kindW x.data.toList : Int) ∧ d = (textsN (kindW x.data.toList) : Int) := by
  rw [formR_some] at hy
  cases hy
  have h1 := h .nil
  rw [formsD_at] at h1
  split at h1
  · unfold formD at h1; cases h1
  · rename_i hk
    have := formD_inj h1
    exact ⟨hk, this.1.symm, this.2.symm⟩
set_option maxRecDepth 100000 in
set_option maxHeartbeats 4000000 in
theorem formOf_any (k : Nat) (h1 : 1 ≤ k) (h5 : k ≤ 5) (w : World) :
    Calls Tryd.prog 42 #[.int .i64 k] w fun e w' => e = .returned (.tuple #[.string (mkB (wordK k)), .agg #[.int .i64 k, .int .i64 (textsN k)]]) ∧ Below w.heap.size w w' := by
  obtain ⟨W1, hW1⟩ : ∃ W1, w.alloc (.cells #[.int .i64 0, .int .i64 0] 58) = W1 := ⟨_, rfl⟩
  have s1 : W1.heap.size = w.heap.size + 1 := by rw [← hW1, World.size_alloc]
  have n1 : W1.heap[w.heap.size]? = some (.cells #[.int .i64 0, .int .i64 0] 58 (0, 0)) := by rw [← hW1]; exact heap_alloc_new _ _
  have b1 : Below w.heap.size w W1 := by rw [← hW1]; exact (Below.refl _ w).alloc (Nat.le_refl _) _
  have HF := Lib.hid (forms_any W1)
  have HW1 := Lib.hid hW1
  have S1 := Lib.hid s1
  have N1 := Lib.hid n1
  have B1 := Lib.hid b1
  clear hW1 n1 b1 s1
  go_enter Tryd.func42, Tryd.ntmps42
  go_wp2_with fail
  rw [HW1.out]
  refine HF.out.mono ?_
  rintro e w2 ⟨rfl, hfa, hb2, hz2⟩
  rw [S1.out] at hfa hb2 hz2
  have hown := hfa.own
  have n2 := (hb2.block w.heap.size (by omega)).trans N1.out
  have hbw := B1.out.trans (hb2.mono (by omega))
  have N2 := Lib.hid n2
  have HBW := Lib.hid hbw
  have Z2 := Lib.hid hz2
  clear n2 hbw hb2 hz2 hfa
  rw [S1.out]
  go_wp2_with (at_range; refine wpList_range_own _ rfl _ 51 rfl 9 58 rlaw Tryd.underlying51 formR (w.heap.size + 1) 5 formsD rfl hown ?_; intro w0 hrg0 hg0 hs0)
  go_frame
  have hbe : Below w2.heap.size w2 w0 := (Below.refl _ _).grown hg0 (Nat.le_refl _) (fun j hj => by cases hj)
  have HBE := Lib.hid hbe
  have HS0 := Lib.hid hs0
  clear hg0 hs0 hown hbe
  go_loopg [4, 5] (Maps.size formsD) (fun g v4 v5 wr => ∃ (left : Lit → Bool), wr.ranges Tryd.prog 9 formR (w.heap.size + 1) w2.heap.size 5 formsD left g ∧ Hid (∀ s : Bs, kindW s = k → left (.string s) = true) ∧ wr.heap[w.heap.size]? = some (.cells #[.int .i64 0, .int .i64 0] 58 (0, 0)) ∧ Below w.heap.size w wr ∧ w.heap.size + 3 ≤ wr.heap.size)
  case atStart =>
    refine ⟨_, hrg0, ?_, (HBE.out.block _ (by have := Z2.out; omega)).trans N2.out, HBW.out.trans (HBE.out.mono (by have := HBW.out.size; omega)), by have := HS0.out; have := Z2.out; omega⟩
    intro s hs
    refine Maps.has_true_of_atKey (y := formD k (textsN k)) fun z => ?_
    rw [formsD_at, hs, if_neg (by omega)]
  case round =>
    obtain ⟨left, hrg, hin, hcell, hbr, hzr⟩ := hrel
    have HBR := Lib.hid hbr
    have HCE := Lib.hid hcell
    clear hbr hcell hrg0
    go_wp2_with (at_next; go_loud (refine wpList_next_ranges _ rfl _ rfl 9 rlaw formR Value.string (fun c : Int × Int => formV c.1 c.2) (fun _ _ h => Maps.keyOf_string_inv Tryd.underlying9 h) formR_inv (w.heap.size + 1) w2.heap.size 5 formsD _ _ rfl hrg ?_ ?_))
    · intro hc0 hl0
      have h3 := hin.out (wordK (k : Int)) (kind_word h1 h5)
      rw [hl0] at h3
      cases h3
    · intro x c1 c2 kl yd yp w1 cnt1 hkx hlx hcy hat hrg1 hlt hg1 hs1 hen
      obtain rfl := keyR hkx
      obtain ⟨hk0, hk1, hk2⟩ := formsD_hit hcy hat
      subst hk1
      subst hk2
      simp only [formV] at hen ⊢
      have hg2 : Below w.heap.size w w1 := HBR.out.grown hg1 HBR.out.size (fun j hj => by cases hj; have := Z2.out; omega)
      have hce1 := (hg1.block w.heap.size (by omega) (fun e => by have := Option.some.inj e; have := Z2.out; omega)).trans HCE.out
      have HG2 := Lib.hid hg2
      have HC1 := Lib.hid hce1
      have HLX := Lib.hid hlx
      have HRG1 := Lib.hid hrg1
      have HLT := Lib.hid hlt
      have HS1 := Lib.hid hs1
      obtain ⟨q, hq⟩ : ∃ q, kindW x.data.toList = q := ⟨_, rfl⟩
      rw [hq] at hk0 hen ⊢
      have HQ := Lib.hid hq
      clear hkx hlx hcy hat hrg1 hg1 hs1 hg2 hce1 hlt hrg hq
      by_cases hqk : q = k
      · subst hqk
        have hxw : x = mkB (wordK (q : Int)) := by
          have := (word_kind HQ.out hk0).1
          rw [← this, data_mkB]
        have HXW := Lib.hid hxw
        clear hxw
        have f0 := frozen_of_row w1 w.heap.size 0 _ _ HC1.out
        go_wp2_with fail
        obtain ⟨W3, hW3⟩ : ∃ W3, w1.alloc (.cells #[.int .i64 q, .int .i64 (textsN q)] 58) = W3 := ⟨_, rfl⟩
        have n3 : W3.heap[w1.heap.size]? = some (.cells #[.int .i64 q, .int .i64 (textsN q)] 58 (0, 0)) := by rw [← hW3]; exact heap_alloc_new _ _
        have b3 : Below w1.heap.size w1 W3 := by rw [← hW3]; exact (Below.refl _ _).alloc (Nat.le_refl _) _
        have n4 := (b3.block w.heap.size (by have := HG2.out.size; have := HS1.out; omega)).trans HC1.out
        have hne2 : w1.heap.size ≠ w.heap.size := by have := HS1.out; omega
        have d0 := cell_of_row _ _ 0 _ _ _ n3
        have d1 := cell_of_row _ _ 1 _ _ _ n3
        have e0 := cell_of_row _ _ 0 _ _ _ n4
        have e1 := cell_of_row _ _ 1 _ _ _ n4
        have f0 := frozen_of_row _ _ 0 _ _ n4
        have f1 := frozen_of_row _ _ 1 _ _ n4
        simp only [List.getElem?_toArray, List.getElem?_cons_zero, List.getElem?_cons_succ] at d0 d1 e0 e1
        have N4 := Lib.hid n4
        have BW3 := Lib.hid (HG2.out.trans (b3.mono (by have := HG2.out.size; omega)))
        rw [hW3]
        clear n3 b3 n4 hW3
        go_region
        obtain ⟨W5, hW5⟩ : ∃ W5, ((W3.setCell ⟨w.heap.size, 0, none⟩ (.int .i64 q)).setCell ⟨w.heap.size, 1, none⟩ (.int .i64 (textsN q))).drew = W5 := ⟨_, rfl⟩
        have n5 : W5.heap[w.heap.size]? = some (.cells #[.int .i64 q, .int .i64 (textsN q)] 58 (0, 0)) := by
          rw [← hW5]
          exact heap_setCell_same _ _ 1 _ _ _ (heap_setCell_same _ _ 0 _ _ _ N4.out)
        have b5 : Below w.heap.size w W5 := by rw [← hW5]; exact ((BW3.out.setCell (p := ⟨w.heap.size, 0, none⟩) (Nat.le_refl _) _).setCell (p := ⟨w.heap.size, 1, none⟩) (Nat.le_refl _) _).drew
        have z0 := cell_of_row _ _ 0 _ _ _ n5
        have z1 := cell_of_row _ _ 1 _ _ _ n5
        simp only [List.getElem?_toArray, List.getElem?_cons_zero, List.getElem?_cons_succ] at z0 z1
        rw [hW5]
        clear hW5 d0 d1 e0 e1 f0 f1 n5
        go_wp2_with fail
        refine bodyPost_ret (v := .tuple #[.string x, .agg #[.int .i64 q, .int .i64 (textsN q)]]) (by simp [results, Tryd.f42, go_sem, z0, z1]) rfl ⟨by rw [HXW.out], b5⟩
      · have hne : ((q : Int) == (k : Int)) = false := by rw [beq_eq_false_iff_ne]; omega
        go_wp2_with fail
        go_roundg cnt1
        case measure => exact HLT.out
        case rel =>
          have hb3 : Below w1.heap.size w1 (w1.alloc (.cells #[.int .i64 q, .int .i64 (textsN q)] 58)) := (Below.refl _ _).alloc (Nat.le_refl _) _
          refine ⟨_, HRG1.out.alloc _, ?_, (hb3.block _ (by have := HG2.out.size; have := HS1.out; omega)).trans HC1.out, HG2.out.trans (hb3.mono HG2.out.size), by rw [World.size_alloc]; have := HS1.out; omega⟩
          intro s hs
          have h3 := hin.out s hs
          rw [Bool.and_eq_true, Bool.not_eq_true']
          refine ⟨h3, ?_⟩
          cases hse : (Lit.string s).sameKey (Lit.string x.data.toList) with
          | false => rfl
          | true =>
            have := WideAt.sameKey_eq hse
            rw [Lit.string.injEq] at this
            rw [this, HQ.out] at hs
            exact absurd hs hqk
end Go.Proofs.YthkbpophckjdnaaDoor
