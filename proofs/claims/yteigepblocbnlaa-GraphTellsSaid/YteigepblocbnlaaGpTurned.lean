/-
  The contract of (rows).turned.
-/
import Derived.Test.YteigepblocbnlaaGpRowsOf
namespace Go.Proofs.Yteigepblocbnlaa.Gp
open Go Go.RowKit Go.Shelf Go.Proofs
attribute [local go_sem] Oper.semAt_some

/-- The edges of rows, turned, in their order: of the first i rows. -/
def revK (A : List (List Nat)) (i : Nat) : List EN := (List.range i).flatMap (fun k => (row A k).map (fun y => (y, k)))
theorem revK_succ (A : List (List Nat)) (i : Nat) : revK A (i + 1) = revK A i ++ (row A i).map (fun y => (y, i)) := by unfold revK; rw [List.range_succ, List.flatMap_append]; simp
theorem revK_mem {A : List (List Nat)} {n x y : Nat} : (x, y) ∈ revK A n ↔ y < n ∧ x ∈ row A y := by
  unfold revK
  simp only [List.mem_flatMap, List.mem_range, List.mem_map, Prod.mk.injEq]
  constructor
  · rintro ⟨k, hk, z, hz, rfl, rfl⟩; exact ⟨hk, hz⟩
  · rintro ⟨h1, h2⟩; exact ⟨y, h1, x, h2, rfl, rfl⟩
theorem revK_mono (A : List (List Nat)) {i n : Nat} (h : i ≤ n) : (revK A i).length ≤ (revK A n).length := by
  induction n with
  | zero => obtain rfl : i = 0 := by omega
            exact Nat.le_refl _
  | succ n ih =>
    rcases Nat.eq_or_lt_of_le h with rfl | h'
    · exact Nat.le_refl _
    · have := ih (by omega)
      rw [revK_succ, List.length_append]; omega
def turnT (A : List (List Nat)) (n : Nat) : List (List Nat) := adjT n (revK A n)
theorem row_addT (A : List (List Nat)) (e : EN) (x : Nat) (h : e.1 < A.length) : row (addT A e) x = row A x ++ (if x = e.1 then [e.2] else []) := by
  unfold addT row
  by_cases hx : x = e.1
  · subst hx; simp [List.getD, h]
  · have : e.1 ≠ x := fun h => hx h.symm
    simp [List.getD, List.getElem?_set_ne this, hx]
theorem row_adjT {n : Nat} {l : List EN} (h : ∀ e ∈ l, e.1 < n) (x y : Nat) : y ∈ row (adjT n l) x ↔ (x, y) ∈ l := by
  have key : ∀ (l : List EN) (A : List (List Nat)), A.length = n → (∀ e ∈ l, e.1 < n) → (y ∈ row (l.foldl addT A) x ↔ y ∈ row A x ∨ (x, y) ∈ l) := by
    intro l
    induction l with
    | nil => intro A _ _; simp
    | cons e r ih =>
      intro A hA hl
      rw [List.foldl_cons, ih _ (by unfold addT; simpa using hA) (fun e he => hl e (by simp [he])), row_addT _ _ _ (by rw [hA]; exact hl e (by simp)), List.mem_append, List.mem_cons]
      obtain ⟨e1, e2⟩ := e
      by_cases hx : x = e1
      · subst hx; simp [or_assoc]
      · simp [hx]
  unfold adjT
  rw [key l _ (by simp) h]
  have : row (List.replicate n ([] : List Nat)) x = [] := by
    unfold row
    by_cases hx : x < n
    · simp [List.getD, hx]
    · simp [List.getD, hx]
  rw [this]; simp
theorem turnT_turned {A : List (List Nat)} {n : Nat} (hA : ∀ x y, x < n → y ∈ row A x → y < n) : TurnedOf A (turnT A n) n := by
  intro x y hx hy
  unfold turnT
  rw [row_adjT, revK_mem]
  · simp [hy]
  · rintro ⟨a, b⟩ he
    rw [revK_mem] at he
    exact hA b a he.1 he.2
theorem lens_set (A : List (List Nat)) (i y : Nat) (h : i < A.length) : ((A.set i (row A i ++ [y])).map List.length).sum = (A.map List.length).sum + 1 := by
  induction A generalizing i with
  | nil => simp at h
  | cons a r ih =>
    cases i with
    | zero => simp [row]; omega
    | succ i =>
      have hr : row (a :: r) (i + 1) = row r i := by unfold row; simp
      have := ih i (by simpa using h)
      rw [hr, List.set_cons_succ, List.map_cons, List.sum_cons, this, List.map_cons, List.sum_cons]; omega
theorem lens_adj (n : Nat) (l : List EN) (h : ∀ e ∈ l, e.1 < n) : ((adjT n l).map List.length).sum = l.length := by
  have key : ∀ (l : List EN) (A : List (List Nat)), A.length = n → (∀ e ∈ l, e.1 < n) → ((l.foldl addT A).map List.length).sum = (A.map List.length).sum + l.length := by
    intro l
    induction l with
    | nil => intro A _ _; simp
    | cons e r ih =>
      intro A hA hl
      rw [List.foldl_cons, ih _ (by unfold addT; simpa using hA) (fun e he => hl e (by simp [he]))]
      unfold addT
      rw [lens_set _ _ _ (by rw [hA]; exact hl e (by simp)), List.length_cons]; omega
  unfold adjT
  rw [key l _ (by simp) h]
  have : ((List.replicate n ([] : List Nat)).map List.length).sum = 0 := by simp
  omega
theorem revK_lens (A : List (List Nat)) : (revK A A.length).length = (A.map List.length).sum := by
  unfold revK
  rw [List.length_flatMap]
  congr 1
  apply List.ext_getElem?
  intro i
  rw [List.getElem?_map, List.getElem?_map]
  by_cases h : i < A.length
  · rw [List.getElem?_range h, List.getElem?_eq_getElem h]; simp [row, List.getD, h]
  · rw [List.getElem?_eq_none (by simp; omega), List.getElem?_eq_none (by omega)]; rfl

/-- What is no row of numbers lies as it lay behind an append to one. -/
theorem keep_row {base : Nat} {w w8 : World} {x : RX} {o o' : Obj} {j : Nat} (h : OI base w (.slice x.A x.l.length x.c) x.l) (hg : (w.alloc o').grownBy w8 (blkA x.A)) (hj : w.heap[j]? = some o) (hne : ∀ cur, o ≠ Obj.cells cur 3 (0, 0)) : w8.heap[j]? = some o := by
  have hlt := (Array.getElem?_eq_some_iff.1 hj).1
  refine (hg.block j (by rw [World.size_alloc]; exact Nat.lt_succ_of_lt hlt) (fun e => ?_)).trans ((Below.heap_alloc _ _ _ hlt).trans hj)
  obtain ⟨_, cur, _, hc⟩ := h.slice.2.2.2.2 j e.symm
  rw [hc] at hj; cases hj; exact hne _ rfl

set_option maxRecDepth 100000 in
set_option maxHeartbeats 8000000 in
theorem turned_any (base lim R : Nat) (rows : List RX) (w : World) (h : RowsM base lim R rows w) (hlim : lim ≤ w.heap.size) (n : Nat) (hlen : rows.length = n) (hn : n ≤ 2000) (hE : ∀ x y, x < n → y ∈ row (rowsL rows) x → y < n) (hT : (revK (rowsL rows) n).length ≤ 100000) :
    Calls Try.prog 31 #[.slice (some ⟨R, 0, none⟩) n n] w fun e w' => ∃ R' rows', e = .returned (.slice (some ⟨R', 0, none⟩) n n) ∧ RowsM w.heap.size w'.heap.size R' rows' w' ∧ rowsL rows' = turnT (rowsL rows) n ∧ Below w.heap.size w w' := by
  have HH := Lib.hid h; clear h
  have HLEN := Lib.hid hlen; clear hlen
  have HT := Lib.hid hT; clear hT
  have hmk := make_rows w n hn
  have HMD := Lib.hid (RowsM.made w n w.heap.size (Nat.le_refl _))
  go_enter Try.func31, Try.ntmps31
  go_wp2_with fail
  clear hmk
  go_loopw [13] (fun y wr => ∃ (i : Nat) (back : List RX), i ≤ n ∧ y = .int .i64 i ∧ Hid (RowsM w.heap.size wr.heap.size w.heap.size back wr ∧ ApartR back ∧ rowsL back = adjT n (revK (rowsL rows) i) ∧ ∀ x ∈ back, x.l.length ≤ (revK (rowsL rows) i).length) ∧ Hid (Below w.heap.size w wr)) (fun y _ => n - (intOf y).toNat)
  case atStart => exact ⟨0, _, Nat.zero_le _, rfl, ⟨by have := HMD.out.1; rwa [World.size_alloc], HMD.out.2, by unfold adjT rowsL revK; simp [noneX], fun x hx => by rw [(List.mem_replicate.1 hx).2]; exact Nat.zero_le _⟩, (Below.refl _ _).alloc (Nat.le_refl _) _⟩
  case round =>
    obtain ⟨i, back, hi, rfl, HI, HW⟩ := hrel
    by_cases h1 : i < n
    · obtain ⟨x, hx⟩ : ∃ x, rows[i]? = some x := ⟨_, List.getElem?_eq_getElem (by have := HLEN.out; omega)⟩
      have hhr := HH.out.below (HW.out.mono hlim)
      have d1 : wr.cell? ⟨R, i, none⟩ = some (.slice x.A x.l.length x.c) := (cell_of_row _ _ _ _ _ _ hhr.blk).trans (cellsR_get hx)
      have hrx := rowsL_row hx
      have hxl : x.l.length ≤ 100000 := by
        have h2 := revK_mono (rowsL rows) (show i + 1 ≤ n by omega)
        have h3 := HT.out
        rw [revK_succ, List.length_append, List.length_map, hrx] at h2
        omega
      have HX := Lib.hid hx
      have HRX := Lib.hid hrx
      have k1 : (i : Int) < (n : Int) := by omega
      have wk : IntKind.i64.wrap (i : Int) = (i : Int) := IntWalk.i64_in _ (by omega)
      obtain ⟨m, hm⟩ : ∃ m, x.l.length = m := ⟨_, rfl⟩
      rw [hm] at d1 hxl
      have HM := Lib.hid hm
      clear hx hhr hrx hm
      go_wp2_with fail
      clear d1
      obtain ⟨wc, hwc⟩ : ∃ wc, wc = wr := ⟨_, rfl⟩
      subst hwc
      go_loopw [20] (fun y wr => ∃ (j : Nat) (back : List RX), j ≤ m ∧ y = .int .i64 j ∧ Hid (RowsM w.heap.size wr.heap.size w.heap.size back wr ∧ ApartR back ∧ rowsL back = adjT n (revK (rowsL rows) i ++ (x.l.take j).map (fun y => (y, i))) ∧ ∀ z ∈ back, z.l.length ≤ (revK (rowsL rows) i).length + j) ∧ Hid (Below w.heap.size w wr)) (fun y _ => m - (intOf y).toNat)
      case atStart => exact ⟨0, back, Nat.zero_le _, rfl, ⟨HI.out.1, HI.out.2.1, by simp [HI.out.2.2.1], HI.out.2.2.2⟩, HW.out⟩
      case round =>
        obtain ⟨j, bk, hj, rfl, HJ, HV⟩ := hrel
        by_cases h2 : j < m
        · have hm := HM.out
          obtain ⟨y, hy⟩ : ∃ y, x.l[j]? = some y := ⟨_, List.getElem?_eq_getElem (by omega)⟩
          have hhr := HH.out.below (HV.out.mono hlim)
          obtain ⟨_, hia, hc1, hc2, _⟩ := (show OI base wr (.slice x.A x.l.length x.c) x.l from hhr.row x (List.mem_of_getElem? HX.out)).slice
          obtain ⟨g, o, hA, hcl⟩ := hia (by omega)
          rw [hA]
          have c1 := hcl j y hy
          unfold vI at c1
          have hyn : y < n := hE i y h1 (by rw [HRX.out]; exact List.mem_of_getElem? hy)
          have hbl : bk.length = n := by rw [← rowsL_length, HJ.out.2.2.1, adjT_length]
          obtain ⟨z, hz⟩ : ∃ z, bk[y]? = some z := ⟨_, List.getElem?_eq_getElem (by omega)⟩
          have d1 : wr.cell? ⟨w.heap.size, y, none⟩ = some (.slice z.A z.l.length z.c) := (cell_of_row _ _ _ _ _ _ HJ.out.1.blk).trans (cellsR_get hz)
          have hzl : z.l.length ≤ 1000000 := by
            have e1 := HJ.out.2.2.2 z (List.mem_of_getElem? hz)
            have e2 := revK_mono (rowsL rows) (show i ≤ n by omega)
            have := HT.out
            omega
          have HO := Lib.hid (show OI w.heap.size wr (.slice z.A z.l.length z.c) z.l from HJ.out.1.row z (List.mem_of_getElem? hz))
          have HY := Lib.hid hy
          have HZ := Lib.hid hz
          have k2 : (j : Int) < (m : Int) := by omega
          have wj : IntKind.i64.wrap (j : Int) = (j : Int) := IntWalk.i64_in _ (by omega)
          have k3 : (y : Int) < (n : Int) := by omega
          have wy : IntKind.i64.wrap (y : Int) = (y : Int) := IntWalk.i64_in _ (by omega)
          clear hy hhr hia hcl hz hbl hm
          go_wp2_with (at_builtin; refine wpList_appI (x := i) rfl _ _ rfl rfl (HO.out.alloc _) rfl (World.alloc_heap_new _ _) (by omega) (by rw [World.size_alloc]; have := HV.out.size; omega) _ rfl ?_; intro g' c' w8 hown' hgrow hlies; obtain ⟨hM8, hA8, hB8⟩ := RowsM.push HJ.out.1 HJ.out.2.1 rfl HZ.out hown' hgrow (hlies.imp id (fun e => e.trans (World.size_alloc _ _))) (Nat.le_refl _); have hR8 := keep_row HO.out hgrow HJ.out.1.blk (fun cur e => by cases e); have q3 : w8.cell? ⟨w.heap.size, y, none⟩ = some (.slice z.A z.l.length z.c) := (cell_of_row w8 _ _ _ _ _ hR8).trans (cellsR_get HZ.out); have f3 : w8.frozen? ⟨w.heap.size, y, none⟩ = false := frozen_of_row w8 _ _ _ _ hR8; have HM8 := Lib.hid hM8; have HA8 := Lib.hid hA8; have HB8 := Lib.hid (hB8 w.heap.size (Nat.le_refl _) HV.out.size); clear hM8 hA8 hB8 hown' hgrow hlies hR8 d1 c1)
          go_roundw
          case rel =>
            have hm8 := HM8.out
            have hb8 := HB8.out
            simp only [List.length_append, List.length_cons, List.length_nil, Nat.zero_add] at hm8 hb8
            refine ⟨j + 1, _, by omega, by go_num, ⟨hm8, HA8.out, ?_, ?_⟩, HV.out.trans hb8⟩
            · rw [rowsL_set, HJ.out.2.2.1, List.take_add_one, HY.out]
              show _ = adjT n (revK (rowsL rows) i ++ (x.l.take j ++ [y]).map (fun y => (y, i)))
              rw [List.map_append, ← List.append_assoc]
              show _ = adjT n (_ ++ [(y, i)])
              rw [adjT_snoc]
              show _ = List.set _ y (row _ y ++ [i])
              rw [← HJ.out.2.2.1, rowsL_row HZ.out]
            · intro u hu
              rcases List.mem_or_eq_of_mem_set hu with hu | rfl
              · have := HJ.out.2.2.2 u hu; omega
              · have := HJ.out.2.2.2 z (List.mem_of_getElem? HZ.out); simp; omega
          case measure => simp [intOf]; omega
        · obtain rfl : j = m := by omega
          go_wp2_with fail
          go_roundw
          case rel =>
            refine ⟨i + 1, bk, by omega, by go_num, ⟨HJ.out.1, HJ.out.2.1, ?_, fun u hu => ?_⟩, HV.out⟩
            · rw [HJ.out.2.2.1, revK_succ, HRX.out, ← HM.out, List.take_length]
            · have := HJ.out.2.2.2 u hu
              rw [revK_succ, List.length_append, List.length_map, HRX.out, HM.out]; omega
          case measure => simp [intOf]; omega
    · obtain rfl : i = n := by omega
      go_wp2_with fail
      go_ret
      exact ⟨_, back, rfl, HI.out.1, HI.out.2.2.1, HW.out⟩
end Go.Proofs.Yteigepblocbnlaa.Gp
