/-
  The contract of the document's own Apply of layer 2.
-/
import Derived.Test.YtedcaodbcognjaaDoorTRefB
import Derived.Test.YtedcaodbcognjaaDoorTApply
namespace Go.Proofs.YtedcaodbcognjaaDoor
open Go Go.RowKit Go.Shelf Go.Proofs
attribute [local go_sem] Oper.semAt_some

/-- What the document's Apply answers: the tree may share the bytes of what was handed in. -/
def RefApplyPost (w : World) (r : Except Int (List Fl)) (e : Ending) (w' : World) : Prop := match r with
  | .error k => e = .returned (.tuple #[.slice none 0 0, .int .i64 k]) ∧ Below w.heap.size w w'
  | .ok f => ∃ A c l', e = .returned (.tuple #[.slice A l'.length c, .int .i64 0]) ∧ TreeAt w' A c l' ∧ flsX l' = f ∧ Below w.heap.size w w'
theorem refApply_err {w w' : World} {r : Except Int (List Fl)} {e : Ending} {k : Int} (h : r = .error k) (he : e = .returned (.tuple #[.slice none 0 0, .int .i64 k])) (hb : Below w.heap.size w w') : RefApplyPost w r e w' := by
  subst h; exact ⟨he, hb⟩
theorem refApply_ok {w w' : World} {r : Except Int (List Fl)} {e : Ending} {A : Option Addr} {c : Nat} {l' : List FX} (h : r = .ok (flsX l')) (he : e = .returned (.tuple #[.slice A l'.length c, .int .i64 0])) (ht : TreeAt w' A c l') (hb : Below w.heap.size w w') : RefApplyPost w r e w' := by
  subst h; exact ⟨A, c, l', he, ht, rfl, hb⟩

/-- Behind the first k changes: the list m. -/
structure RefInv (l : List FX) (D : List DX) (k : Nat) (m : List FX) : Prop where
  len : m.length ≤ l.length + k
  each : ∀ x ∈ m, x.p.size ≤ 1000000 ∧ x.b.length ≤ 1000000
  steps : stepsT (flsX l) (D.map DX.dl) = stepsT (flsX m) ((D.map DX.dl).drop k)
theorem RefInv.next {l m : List FX} {D : List DX} {k : Nat} {x : DX} (h : RefInv l D k m) (hx : D[k]? = some x) (h0 : refT (flsX m) x.dl = 0) (hs : x.p.size ≤ 1000000 ∧ x.b.length ≤ 1000000) : RefInv l D (k + 1) (chX m x) := by
  refine ⟨?_, fun y hy => ?_, ?_⟩
  · have := chX_le m x; have := h.len; omega
  · rcases chX_sub y hy with rfl | hy
    · exact hs
    · exact h.each y hy
  · rw [h.steps, stepsT_step (d := x.dl) (by rw [List.getElem?_map, hx]; rfl), stepT_ref, if_pos h0, chX_fls]
theorem RefInv.fail {l m : List FX} {D : List DX} {k : Nat} {x : DX} {n : Int} (h : RefInv l D k m) (hx : D[k]? = some x) (h0 : refT (flsX m) x.dl = n) (hn : n ≠ 0) : applyT (flsX l) (D.map DX.dl) = .error n := by
  subst h0
  unfold applyT
  rw [h.steps, stepsT_step (d := x.dl) (by rw [List.getElem?_map, hx]; rfl), stepT_ref, if_neg hn]
theorem RefInv.done {l m : List FX} {D : List DX} (h : RefInv l D D.length m) : applyT (flsX l) (D.map DX.dl) = if longT (flsX m) then .error 3 else if rightT (flsX m) then .ok (flsX m) else .error 4 := by
  unfold applyT
  rw [h.steps, List.drop_of_length_le (by rw [List.length_map]; exact Nat.le_refl _)]; rfl
theorem refT_bad {t : List Fl} {d : Dl} (h : (decide (d.k = 1 ∨ d.k = 2 ∨ d.k = 3) && rightB d.p) = false) : refT t d = 2 := by unfold refT; rw [h]; rfl
theorem refT_there {t : List Fl} {d : Dl} (h : rightB d.p = true) (hk : d.k = 1) (ht : hasT t d.p = true) : refT t d = 5 := by unfold refT; rw [h, hk, ht]; rfl
theorem refT_none {t : List Fl} {d : Dl} (h : rightB d.p = true) (hk : d.k = 2 ∨ d.k = 3) (ht : hasT t d.p = false) : refT t d = 6 := by unfold refT; rcases hk with hk | hk <;> (rw [h, hk, ht]; rfl)
theorem refT_good {t : List Fl} {d : Dl} (h : rightB d.p = true) (hk : d.k = 1 ∧ hasT t d.p = false ∨ (d.k = 2 ∨ d.k = 3) ∧ hasT t d.p = true) : refT t d = 0 := by
  unfold refT
  rcases hk with ⟨hk, ht⟩ | ⟨hk | hk, ht⟩ <;> (rw [h, hk, ht]; rfl)

/-- A block that holds a change's three cells. -/
structure BoxD (w : World) (g : Nat) (x : DX) : Prop where
  lt : g < w.heap.size
  c0 : w.cell? ⟨g, 0, none⟩ = some (.int .i64 x.k)
  c1 : w.cell? ⟨g, 1, none⟩ = some (.string x.p)
  c2 : w.cell? ⟨g, 2, none⟩ = some (.slice x.A x.b.length x.c)
theorem BoxD.below {w w' : World} {g : Nat} {x : DX} (h : BoxD w g x) (hb : Below w.heap.size w w') : BoxD w' g x :=
  ⟨Nat.lt_of_lt_of_le h.lt hb.size, (hb.cell (p := ⟨g, 0, none⟩) h.lt).trans h.c0, (hb.cell (p := ⟨g, 1, none⟩) h.lt).trans h.c1, (hb.cell (p := ⟨g, 2, none⟩) h.lt).trans h.c2⟩
theorem BoxD.new (w : World) (x : DX) (t : TypeId) : BoxD (w.alloc (.cells #[.int .i64 x.k, .string x.p, .slice x.A x.b.length x.c] t)) w.heap.size x := by
  have h := heap_alloc_new w (.cells #[.int .i64 x.k, .string x.p, .slice x.A x.b.length x.c] t)
  exact ⟨(Array.getElem?_eq_some_iff.1 h).1, cell_of_row _ _ 0 _ _ _ h, cell_of_row _ _ 1 _ _ _ h, cell_of_row _ _ 2 _ _ _ h⟩
theorem row_keep {base : Nat} {w w' : World} {A A' : Option Addr} {c c' : Nat} {m : List FX} {s : ByteArray} (h : FilesOwn base w' (.slice A' (keepX m s).length c') (keepX m s)) (ht : TreeAt w A c m) (hb : Below w.heap.size w w') : TreeAt w' A' c' (keepX m s) :=
  (h.tree fun y hy => (ht.files y (keepX_sub y hy)).below hb).2
theorem row_put {base : Nat} {w w' : World} {A A' : Option Addr} {c c' : Nat} {m : List FX} {f : FX} (h : FilesOwn base w' (.slice A' (putX m f).length c') (putX m f)) (ht : TreeAt w A c m) (hf : BytesAt w f.A f.b) (hb : Below w.heap.size w w') : TreeAt w' A' c' (putX m f) :=
  (h.tree fun y hy => by
    rcases putX_sub y hy with rfl | hy
    · exact hf.below hb
    · exact (ht.files y hy).below hb).2

set_option maxRecDepth 100000 in
set_option maxHeartbeats 8000000 in
theorem refapply_any (l : List FX) (D : List DX) (A B : Option Addr) (c d : Nat) (w : World) (h : TreeAt w A c l) (hs : SmallX l) (hl : l.length ≤ 70000) (hd : DelsAt w B d D) (hsd : SmallD D) :
    Calls Tryd.prog 13 #[.slice A l.length c, .slice B D.length d] w (RefApplyPost w (applyT (flsX l) (D.map DX.dl))) := by
  have HD := Lib.hid hd; clear hd
  have HSD := Lib.hid hsd; clear hsd
  have hdl := HSD.out.1
  go_enter Tryd.func13, Tryd.ntmps13
  go_wp2_with fail
  go_loopw [6, 7] (fun v i wr => ∃ (k : Nat) (m : List FX) (A' : Option Addr) (c' : Nat), k ≤ D.length ∧ v = .slice A' m.length c' ∧ i = .int .i64 k ∧ Hid (TreeAt wr A' c' m) ∧ Hid (RefInv l D k m) ∧ Below w.heap.size w wr) (fun _ i _ => D.length - (intOf i).toNat)
  case atStart => exact ⟨0, l, A, c, Nat.zero_le _, rfl, rfl, Lib.hid h, ⟨by omega, hs.2, rfl⟩, Below.refl _ _⟩
  case round =>
    obtain ⟨k, m, A', c', hk, rfl, rfl, HT, HI, hbr⟩ := hrel
    have hml : m.length ≤ 80000 := by have := HI.out.len; omega
    by_cases h1 : k < D.length
    · obtain ⟨x, hx⟩ : ∃ x, D[k]? = some x := ⟨_, List.getElem?_eq_getElem h1⟩
      obtain ⟨b, o, hB, hr⟩ := (HD.out.below hbr).row (by omega)
      subst hB
      obtain ⟨c1, c2, c3⟩ := hr k x hx
      have k1 : (k : Int) < (D.length : Int) := by omega
      have hxs := HSD.out.2 x (List.mem_of_getElem? hx)
      have HX := Lib.hid hx; clear hx
      clear hr
      have hbx : Below wr.heap.size wr (wr.alloc (.cells #[.int .i64 x.k, .string x.p, .slice x.A x.b.length x.c] 39)) := below_box _ _
      have xb0 := BoxD.new wr x 39
      have hbW := hbr.trans (hbx.mono hbr.size)
      have HRR := Lib.hid (refright_any x.p (wr.alloc (.cells #[.int .i64 x.k, .string x.p, .slice x.A x.b.length x.c] 39)) (by omega))
      have HBX := Lib.hid hbx; clear hbx
      have HB := Lib.hid hbW; clear hbW
      have HBR := Lib.hid hbr; clear hbr
      have XB0 := Lib.hid xb0; clear xb0
      by_cases hk1 : x.k < 1
      · have hbad : (decide (x.dl.k = 1 ∨ x.dl.k = 2 ∨ x.dl.k = 3) && rightB x.dl.p) = false := by
          show (decide (x.k = 1 ∨ x.k = 2 ∨ x.k = 3) && _) = false
          rw [decide_eq_false (show ¬ (x.k = 1 ∨ x.k = 2 ∨ x.k = 3) by omega)]; rfl
        have hd1 : decide (x.k < 1) = true := decide_eq_true hk1
        have hf := HI.out.fail HX.out (refT_bad hbad) (by decide : (2 : Int) ≠ 0)
        have HF := Lib.hid hf; clear hf
        go_wp2_with fail
        go_ret2
        exact refApply_err HF.out rfl HB.out
      · by_cases hk3 : 3 < x.k
        · have hbad : (decide (x.dl.k = 1 ∨ x.dl.k = 2 ∨ x.dl.k = 3) && rightB x.dl.p) = false := by
            show (decide (x.k = 1 ∨ x.k = 2 ∨ x.k = 3) && _) = false
            rw [decide_eq_false (show ¬ (x.k = 1 ∨ x.k = 2 ∨ x.k = 3) by omega)]; rfl
          have hf := HI.out.fail HX.out (refT_bad hbad) (by decide : (2 : Int) ≠ 0)
          have HF := Lib.hid hf; clear hf
          go_wp2_with fail
          go_ret2
          exact refApply_err HF.out rfl HB.out
        · have hkk : x.k = 1 ∨ x.k = 2 ∨ x.k = 3 := by omega
          go_wp2_with fail
          refine HRR.out.mono ?_
          rintro e w2 ⟨rfl, hq2⟩
          have xb2 := XB0.out.below hq2
          have hb2 : Below wr.heap.size wr w2 := HBX.out.trans (hq2.mono HBX.out.size)
          clear hq2
          cases hrx : rightB x.p.data.toList with
          | false =>
            have hbad : (decide (x.dl.k = 1 ∨ x.dl.k = 2 ∨ x.dl.k = 3) && rightB x.dl.p) = false := by
              show (_ && rightB x.p.data.toList) = false
              rw [hrx, Bool.and_false]
            have hf := HI.out.fail HX.out (refT_bad hbad) (by decide : (2 : Int) ≠ 0)
            have HF := Lib.hid hf; clear hf
            go_wp2_with fail
            go_ret2
            exact refApply_err HF.out rfl (HBR.out.trans (hb2.mono HBR.out.size))
          | true =>
            have HRX := Lib.hid hrx; clear hrx
            have e0 := xb2.c0
            have e1 := xb2.c1
            have hT2 := HT.out.below hb2
            have HFI := Lib.hid (reffind_any m A' c' x.p w2 hT2 (by omega))
            have HT2 := Lib.hid hT2; clear hT2
            go_wp2_with fail
            refine HFI.out.mono ?_
            rintro e w3 ⟨rfl, hq3⟩
            have xb3 := xb2.below hq3
            have hb3 := hb2.trans (hq3.mono hb2.size)
            have hT3 := HT2.out.below hq3
            have hbx3 := (HD.out.bytes x (List.mem_of_getElem? HX.out)).below (HBR.out.trans (hb3.mono HBR.out.size))
            have HT3 := Lib.hid hT3; clear hT3
            have HBX3 := Lib.hid hbx3; clear hbx3
            have e0 := xb3.c0
            have e1 := xb3.c1
            have e2 := xb3.c2
            have hbw3 := HBR.out.trans (hb3.mono HBR.out.size)
            have HBW3 := Lib.hid hbw3; clear hbw3
            clear hq3 hb2 xb2
            rcases place_get m x.p with ⟨p1, _, p3⟩ | ⟨j, y, p1, _, _, p3⟩
            · have P3 := Lib.hid p3; clear p3
              have hj : (0 : Int) ≤ -1 ↔ False := by decide
              rw [p1]
              clear p1
              rcases hkk with hK | hK | hK
              · rw [hK] at e0
                have HP := Lib.hid (refput_any m A' c' x.f w3 HT3.out (by omega))
                have h0 := refT_good HRX.out (.inl ⟨(show x.dl.k = 1 from hK), P3.out⟩)
                have H0 := Lib.hid h0; clear h0
                have hch : chX m x = putX m x.f := by unfold chX; rw [hK]; rfl
                have HCH := Lib.hid hch; clear hch
                go_wp2_with fail
                refine HP.out.mono ?_
                rintro e w4 ⟨v4, rfl, h4, hq4⟩
                obtain ⟨A4, c4, rfl⟩ := h4.slice
                have hT4 := row_put h4 HT3.out HBX3.out hq4
                have HT4 := Lib.hid hT4; clear hT4
                have hb4 := HBW3.out.trans (hq4.mono HBW3.out.size)
                clear h4 hq4
                go_wp2_with fail
                go_roundw
                case rel => exact ⟨k + 1, chX m x, A4, c4, by omega, by rw [HCH.out], by go_num, by rw [HCH.out]; exact HT4, Lib.hid (HI.out.next HX.out H0.out hxs), hb4⟩
                case measure => simp [intOf]; omega
              · rw [hK] at e0
                have hf := HI.out.fail HX.out (refT_none HRX.out (.inl (show x.dl.k = 2 from hK)) P3.out) (by decide : (6 : Int) ≠ 0)
                have HF := Lib.hid hf; clear hf
                go_wp2_with fail
                go_ret2
                exact refApply_err HF.out rfl HBW3.out
              · rw [hK] at e0
                have hf := HI.out.fail HX.out (refT_none HRX.out (.inr (show x.dl.k = 3 from hK)) P3.out) (by decide : (6 : Int) ≠ 0)
                have HF := Lib.hid hf; clear hf
                go_wp2_with fail
                go_ret2
                exact refApply_err HF.out rfl HBW3.out
            · have P3 := Lib.hid p3; clear p3
              have hj0 : ¬ ((j : Int) < 0) := by omega
              have hj1 : (0 : Int) ≤ (j : Int) := by omega
              rw [p1]
              clear p1
              rcases hkk with hK | hK | hK
              · rw [hK] at e0
                have hf := HI.out.fail HX.out (refT_there HRX.out (show x.dl.k = 1 from hK) P3.out) (by decide : (5 : Int) ≠ 0)
                have HF := Lib.hid hf; clear hf
                go_wp2_with fail
                go_ret2
                exact refApply_err HF.out rfl HBW3.out
              · rw [hK] at e0
                have HP := Lib.hid (refput_any m A' c' x.f w3 HT3.out (by omega))
                have h0 := refT_good HRX.out (.inr ⟨(.inl (show x.dl.k = 2 from hK)), P3.out⟩)
                have H0 := Lib.hid h0; clear h0
                have hch : chX m x = putX m x.f := by unfold chX; rw [hK]; rfl
                have HCH := Lib.hid hch; clear hch
                go_wp2_with fail
                refine HP.out.mono ?_
                rintro e w4 ⟨v4, rfl, h4, hq4⟩
                obtain ⟨A4, c4, rfl⟩ := h4.slice
                have hT4 := row_put h4 HT3.out HBX3.out hq4
                have HT4 := Lib.hid hT4; clear hT4
                have hb4 := HBW3.out.trans (hq4.mono HBW3.out.size)
                clear h4 hq4
                go_wp2_with fail
                go_roundw
                case rel => exact ⟨k + 1, chX m x, A4, c4, by omega, by rw [HCH.out], by go_num, by rw [HCH.out]; exact HT4, Lib.hid (HI.out.next HX.out H0.out hxs), hb4⟩
                case measure => simp [intOf]; omega
              · rw [hK] at e0
                have HP := Lib.hid (refdrop_any m A' c' x.p w3 HT3.out (by omega))
                have h0 := refT_good HRX.out (.inr ⟨(.inr (show x.dl.k = 3 from hK)), P3.out⟩)
                have H0 := Lib.hid h0; clear h0
                have hch : chX m x = keepX m x.p := by unfold chX; rw [hK]; rfl
                have HCH := Lib.hid hch; clear hch
                go_wp2_with fail
                refine HP.out.mono ?_
                rintro e w4 ⟨v4, rfl, h4, hq4⟩
                obtain ⟨A4, c4, rfl⟩ := h4.slice
                have hT4 := row_keep h4 HT3.out hq4
                have HT4 := Lib.hid hT4; clear hT4
                have hb4 := HBW3.out.trans (hq4.mono HBW3.out.size)
                clear h4 hq4
                go_wp2_with fail
                go_roundw
                case rel => exact ⟨k + 1, chX m x, A4, c4, by omega, by rw [HCH.out], by go_num, by rw [HCH.out]; exact HT4, Lib.hid (HI.out.next HX.out H0.out hxs), hb4⟩
                case measure => simp [intOf]; omega
    · obtain rfl : k = D.length := by omega
      have hdone := HI.out.done
      have HDN := Lib.hid hdone; clear hdone
      go_wp2_with fail
      go_loopw [10] (fun i wq => ∃ (q : Nat), q ≤ m.length ∧ i = .int .i64 q ∧ (0 < q → m.length ≤ 1000) ∧ (∀ (n : Nat) (y : FX), n < q → m[n]? = some y → y.b.length ≤ 65536) ∧ Below wr.heap.size wr wq) (fun i _ => m.length - (intOf i).toNat)
      case atStart => exact ⟨0, Nat.zero_le _, rfl, fun h => absurd h (Nat.lt_irrefl _), fun _ _ h => absurd h (Nat.not_lt_zero _), Below.refl _ _⟩
      case round =>
        obtain ⟨q, hq, rfl, hlen, hno, hbq⟩ := hrel
        have hbwq := hbr.trans (hbq.mono hbr.size)
        by_cases h2 : q < m.length
        · obtain ⟨y, hy⟩ : ∃ y, m[q]? = some y := ⟨_, List.getElem?_eq_getElem h2⟩
          obtain ⟨g, o, hA, hr⟩ := (HT.out.below hbq).row (by omega)
          subst hA
          obtain ⟨_, c2⟩ := hr q y hy
          have q1 : (q : Int) < (m.length : Int) := by omega
          have HY := Lib.hid hy; clear hy
          have HNO := Lib.hid hno; clear hno
          clear hr
          by_cases hz : 65536 < y.b.length
          · have hz2 : (65536 : Int) < (y.b.length : Int) := by omega
            have hlg : longT (flsX m) = true := by
              unfold longT
              rw [Bool.or_eq_true]
              exact .inr (List.any_eq_true.2 ⟨y.fl, List.mem_map.2 ⟨y, List.mem_of_getElem? HY.out, rfl⟩, decide_eq_true hz⟩)
            have hf := HDN.out
            rw [hlg, if_pos rfl] at hf
            have HF := Lib.hid hf; clear hf hlg
            go_wp2_with fail
            go_ret2
            exact refApply_err HF.out rfl hbwq
          · have hz2 : ¬ (65536 : Int) < (y.b.length : Int) := by omega
            by_cases hn : 1000 < m.length
            · have hn2 : (1000 : Int) < (m.length : Int) := by omega
              have hlg : longT (flsX m) = true := by
                unfold longT
                rw [Bool.or_eq_true]
                exact .inl (decide_eq_true (by rw [flsX_length]; exact hn))
              have hf := HDN.out
              rw [hlg, if_pos rfl] at hf
              have HF := Lib.hid hf; clear hf hlg
              go_wp2_with fail
              go_ret2
              exact refApply_err HF.out rfl hbwq
            · have hn2 : ¬ (1000 : Int) < (m.length : Int) := by omega
              go_wp2_with fail
              go_roundw
              case rel => exact ⟨q + 1, by omega, by go_num, fun _ => by omega, fun n z hn hz => by
                rcases Nat.lt_or_eq_of_le (Nat.lt_succ_iff.1 hn) with h | rfl
                · exact HNO.out n z h hz
                · have := HY.out; rw [hz] at this; cases this; omega, hbq⟩
              case measure => simp [intOf]; omega
        · obtain rfl : q = m.length := by omega
          have hlg : longT (flsX m) = false := by
            unfold longT
            rw [Bool.or_eq_false_iff, decide_eq_false_iff_not, flsX_length, List.any_eq_false]
            refine ⟨?_, fun z hz => ?_⟩
            · rcases Nat.eq_zero_or_pos m.length with h | h
              · omega
              · have := hlen h; omega
            · obtain ⟨y, hy, rfl⟩ := List.mem_map.1 hz
              obtain ⟨n, hn, rfl⟩ := List.mem_iff_getElem.1 hy
              have := hno n _ hn (List.getElem?_eq_getElem hn)
              simp only [decide_eq_true_eq]
              exact Nat.not_lt.2 this
          have hf := HDN.out
          rw [hlg, if_neg (by decide)] at hf
          have HF := Lib.hid hf; clear hf hlg hno hlen
          have hTq := HT.out.below hbq
          have HRT := Lib.hid (reftright_any m A' c' wr hTq ⟨by omega, HI.out.each⟩)
          have HTQ := Lib.hid hTq; clear hTq
          go_wp2_with fail
          refine HRT.out.mono ?_
          rintro e w5 ⟨rfl, hq5⟩
          have hb5 := hbwq.trans (hq5.mono hbwq.size)
          have hT5 := HTQ.out.below hq5
          have HT5 := Lib.hid hT5; clear hT5
          cases hrt : rightT (flsX m) with
          | false =>
            have hf := HF.out
            rw [hrt, if_neg (by decide)] at hf
            have HF2 := Lib.hid hf; clear hf hrt
            go_wp2_with fail
            go_ret2
            exact refApply_err HF2.out rfl hb5
          | true =>
            have hf := HF.out
            rw [hrt, if_pos rfl] at hf
            have HF2 := Lib.hid hf; clear hf hrt
            go_wp2_with fail
            go_ret2
            exact refApply_ok HF2.out rfl HT5.out hb5
end Go.Proofs.YtedcaodbcognjaaDoor
