/-
  build.Print: some text, empty just where there is no target.
-/
import Derived.Test.YtlampcelmlejbaaDoorBdUse
import Derived.Test.YtlampcelmlejbaaDoorBdOf
import Derived.Test.YtlampcelmlejbaaDoorBdSb
import Derived.Lib.Join
namespace Go.Proofs.YtlampcelmlejbaaDoor
open Go Go.RowKit Go.Shelf Go.Proofs
attribute [local go_sem] Oper.semAt_some

theorem join_two (a b : Bs) : Lib.join [a, b] [32] = a ++ 32 :: b := by
  rw [Lib.join_cons]
  simp [Lib.joinTail]
theorem bjoin2 (a b : ByteArray) (g : Nat) (w : World) (h0 : w.cell? ⟨g, 0, none⟩ = some (.string a)) (h1 : w.cell? ⟨g, 1, none⟩ = some (.string b)) (hz : a.size + b.size ≤ 1000000000) :
    Calls Tryd.prog 41 #[.slice (some ⟨g, 0, none⟩) 2 2, .string ⟨#[32]⟩] w fun e w' => e = .returned (.string (mkB (a.data.toList ++ 32 :: b.data.toList))) ∧ Below w.heap.size w w' := by
  have hg : g < w.heap.size := World.block_lt_of_cell? w (a := ⟨g, 0, none⟩) h0
  have hj := join_two a.data.toList b.data.toList
  have h := Tryd.strings_Join g 0 2 [a, b] ⟨#[32]⟩ w (fun j y hy => by
    match j, hy with
    | 0, hy => cases hy; exact h0
    | 1, hy => cases hy; exact h1
    | j + 2, hy => simp at hy) hg (by simp) (Nat.le_refl _) (by
      show (Lib.join [a.data.toList, b.data.toList] [32]).length ≤ _
      rw [hj, List.length_append, List.length_cons, Array.length_toList, Array.length_toList]
      have e1 : a.data.size = a.size := rfl
      have e2 : b.data.size = b.size := rfl
      omega)
  refine h.mono ?_
  rintro e w' ⟨rfl, hb⟩
  refine ⟨?_, hb⟩
  show Ending.returned (.string ⟨(Lib.join [a.data.toList, b.data.toList] [32]).toArray⟩) = _
  rw [hj]; rfl

set_option maxHeartbeats 2000000 in
/-- A line of two words, written. -/
theorem bline_any (B b : Nat) (t : Bs) (x y : ByteArray) (g : Nat) (w : World) (hb : BuiltF B b (Lib.byteCells t) w) (hB : B ≤ w.heap.size) (h0 : w.cell? ⟨g, 0, none⟩ = some (.string x)) (h1 : w.cell? ⟨g, 1, none⟩ = some (.string y)) (ht : t.length ≤ 1000000000000) (hz : x.size + y.size ≤ 1000000000) :
    Calls Tryd.prog 39 #[.slice (some ⟨g, 0, none⟩) 2 2, .pointer (some ⟨b, 0, none⟩)] w fun e w' => e = .returned (.tuple #[]) ∧ BuiltF B b (Lib.byteCells (t ++ (x.data.toList ++ 32 :: y.data.toList ++ [10]))) w' ∧ Below B w w' ∧ Lib.OthersKept 5 (some b) w w' := by
  have HJ := Lib.hid (bjoin2 x y g w h0 h1 hz)
  have HB := Lib.hid hb
  obtain ⟨J, hJ⟩ : ∃ J, x.data.toList ++ 32 :: y.data.toList = J := ⟨_, rfl⟩
  have hj : J.length ≤ 1000000001 := by
    rw [← hJ, List.length_append, List.length_cons, size_listT, size_listT]; omega
  rw [hJ] at HJ ⊢
  clear h0 h1 hJ hb
  go_enter Tryd.func39, Tryd.ntmps39
  go_wp2_with fail
  refine HJ.out.mono ?_
  rintro e w1 ⟨rfl, hb1⟩
  have hB1 : Below B w w1 := hb1.mono hB
  have HB1 : Hid (BuiltF B b (Lib.byteCells t) w1) := Lib.hid (built_below HB.out hb1)
  have HS := Lib.hid (sb_stringK B b (Lib.byteCells t) (mkB J) w1 HB1.out (by rw [Lib.byteCells_length, mkB_size]; omega) (Nat.le_trans hB hb1.size))
  go_wp2_with fail
  refine HS.out.mono ?_
  rintro e w2 ⟨rfl, hbu2, hb2, hk2⟩
  have hs2 := hb2.size
  have HY := Lib.hid (sb_byteK B b _ 10 w2 hbu2 (by rw [List.length_append, Lib.byteCells_length, Lib.strCells_length, mkB_size]; omega) (by have := hb1.size; omega))
  clear hbu2
  go_wp2_with fail
  refine HY.out.mono ?_
  rintro e w3 ⟨rfl, hbu3, hb3, hk3⟩
  go_wp2_with fail
  go_end0
  refine ⟨rfl, ?_, (hB1.trans (hb2.mono (Nat.le_refl _))).trans (hb3.mono (Nat.le_refl _)), (((Lib.OthersKept.refl _ _ _).below hb1).trans hk2).trans hk3⟩
  rw [Lib.byteCells_append, Lib.byteCells_append, ← List.append_assoc]
  rw [Lib.strCells_eq, mkB_data] at hbu3
  exact hbu3

theorem under2_len {s d : Bs} (hd : d.isEmpty = false) (h : under2 s d = true) : d.length + 1 ≤ s.length := by
  unfold under2 at h
  rw [hd, Bool.false_or, List.isPrefixOf_iff_prefix] at h
  have := h.length_le
  simpa using this
set_option maxHeartbeats 2000000 in
theorem bwithin_any (d s : ByteArray) (w : World) (hs : s.size ≤ 1000000) (hd : d.size ≤ 1000000) :
    Calls Tryd.prog 44 #[.string d, .string s] w fun e w' => (∃ r : ByteArray, e = .returned (.string r) ∧ r.size ≤ s.size) ∧ w' = w := by
  have HU := Lib.hid (under_any s d w hs hd)
  cases h0 : d.toList.isEmpty with
  | true =>
    go_enter Tryd.func44, Tryd.ntmps44
    go_wp2_with fail
    go_ret
    exact ⟨⟨s, rfl, Nat.le_refl _⟩, rfl⟩
  | false =>
    obtain ⟨u, hu⟩ : ∃ u, under2 s.data.toList d.data.toList = u := ⟨_, rfl⟩
    rw [hu] at HU
    cases u with
    | false =>
      clear hu
      go_enter Tryd.func44, Tryd.ntmps44
      go_wp2_with fail
      refine HU.out.mono ?_
      rintro e w' ⟨rfl, rfl⟩
      go_wp2_with fail
      go_ret
      exact ⟨⟨s, rfl, Nat.le_refl _⟩, rfl⟩
    | true =>
      have hl := under2_len (by rw [← ByteArray.toList_eq]; exact h0) hu
      rw [size_listT, size_listT] at hl
      have h1 : (d.size : Int) + 1 ≤ (s.size : Int) := by omega
      have h2 : (0 : Int) ≤ (d.size : Int) + 1 := by omega
      clear hu hl
      go_enter Tryd.func44, Tryd.ntmps44
      go_wp2_with fail
      refine HU.out.mono ?_
      rintro e w' ⟨rfl, hw⟩
      have hw := hw.symm
      subst hw
      go_wp2_with fail
      go_ret
      exact ⟨⟨_, rfl, by rw [ByteArray.size_extract]; omega⟩, rfl⟩

/-- Texts of no more than a thousand bytes, no more than two thousand of a sort. -/
structure FitT (l : List TX) : Prop where
  n : l.length ≤ 2000
  x : ∀ x ∈ l, x.n.size ≤ 4000 ∧ x.s.length ≤ 2000 ∧ x.d.length ≤ 2000 ∧ (∀ p ∈ x.s, p.length ≤ 4000) ∧ ∀ p ∈ x.d, p.length ≤ 4000
theorem two_at (w : World) (a b : ByteArray) : (w.alloc (.cells #[.string a, .string b] 9)).cell? ⟨w.heap.size, 0, none⟩ = some (.string a) ∧ (w.alloc (.cells #[.string a, .string b] 9)).cell? ⟨w.heap.size, 1, none⟩ = some (.string b) :=
  ⟨cell_of_row _ _ 0 _ _ _ (heap_alloc_new w _), cell_of_row _ _ 1 _ _ _ (heap_alloc_new w _)⟩

theorem sum_gen {t K n : Nat} (h : t ≤ K + 10000 + n * 9000) (hn : n ≤ 2000) : t ≤ K + 19000000 + 0 * 9000 := by omega
theorem sum_one {t k n : Nat} (h : t ≤ k * 50000000 + 10000 + n * 9000) (hn : n ≤ 2000) : t ≤ k * 50000000 + 19000000 + 0 * 9000 := sum_gen (K := k * 50000000) h hn
theorem sum_two {t k n : Nat} (h : t ≤ k * 50000000 + 19000000 + n * 9000) (hn : n ≤ 2000) : t ≤ (k + 1) * 50000000 := by omega
theorem line_len (t : Bs) (n : Nat) (x y : ByteArray) (hn : x.size = n) : (t ++ (x.data.toList ++ 32 :: y.data.toList ++ [10])).length = t.length + n + y.size + 2 := by
  simp only [List.length_append, List.length_cons, List.length_nil, size_listT]
  omega
theorem empty_len {α : Type} (l : List α) : l.isEmpty = decide (l.length = 0) := by cases l <;> simp

set_option maxRecDepth 100000 in
set_option maxHeartbeats 8000000 in
theorem bprint_any (l : List TX) (A : Option Addr) (c : Nat) (w : World) (h : TgsAt w A c l) (hf : FitT l) (hm : MaxOk w) :
    Calls Tryd.prog 17 #[.slice A l.length c] w fun e w' => (∃ b : ByteArray, e = .returned (.string b) ∧ (b.toList.isEmpty = l.isEmpty)) ∧ Below w.heap.size w w' := by
  have HH := Lib.hid h
  have HF := Lib.hid hf
  have HMX := Lib.hid (fun (W : World) (hb : Below w.heap.size w W) => hm.below hb)
  obtain ⟨N, hN⟩ : ∃ N, l.length = N := ⟨_, rfl⟩
  have hn2 : N ≤ 2000 := by rw [← hN]; exact hf.n
  obtain ⟨W2, hW2⟩ : ∃ W, w.alloc (.cells #[.pointer none, .slice none 0 0] 74) = W := ⟨_, rfl⟩
  have hbn : W2.heap[w.heap.size]? = some (.cells #[.pointer none, .slice none 0 0] 74 (0, 0)) := by rw [← hW2]; exact heap_alloc_new _ _
  obtain ⟨B, hB⟩ : ∃ B, w.heap.size = B := ⟨_, rfl⟩
  rw [hB] at hbn
  have HBN : Hid (BuiltF B B [] W2) := built_new (Nat.le_refl _) hbn
  have HB2 := Lib.hid (show Below B w W2 by rw [← hW2]; exact (Below.refl B w).alloc (by omega) _)
  have HB := Lib.hid hB
  have HW2 := Lib.hid hW2
  rw [hN]
  have HN := Lib.hid hN
  clear h hf hm hbn hW2 hN
  go_enter Tryd.func17, Tryd.ntmps17
  rw [hB]
  go_wp2_with fail
  rw [HW2.out]
  clear HW2
  go_loopw [17] (fun i wr => ∃ (k : Nat) (T : Bs), k ≤ N ∧ i = .int .i64 k ∧ Hid (BuiltF B B (Lib.byteCells T) wr) ∧ Below B w wr ∧ T.length ≤ k * 50000000 ∧ T.isEmpty = decide (k = 0)) (fun i _ => N - (intOf i).toNat)
  case atStart => exact ⟨0, [], Nat.zero_le _, rfl, HBN.out, HB2.out, Nat.zero_le _, rfl⟩
  case round =>
    obtain ⟨k, T, hk, rfl, HBU, hbr, htl, hte⟩ := hrel
    have HBR := Lib.hid (show Below w.heap.size w wr by rw [HB.out]; exact hbr)
    have hlt := built_lt HBU.out
    have HTL := Lib.hid htl
    have HTE := Lib.hid hte
    clear hbr htl hte
    by_cases h1 : k < N
    · have k1 : (k : Int) < (N : Int) := by omega
      obtain ⟨x, hx⟩ : ∃ x, l[k]? = some x := ⟨_, List.getElem?_eq_getElem (by rw [HN.out]; exact h1)⟩
      obtain ⟨g, o, hA, hr⟩ := (HH.out.below HBR.out).row (by rw [HN.out]; omega)
      subst hA
      obtain ⟨d0, d1, d2⟩ := hr k x hx
      have hxo := HH.out.own x (List.mem_of_getElem? hx)
      have hxf := HF.out.x x (List.mem_of_getElem? hx)
      obtain ⟨xn, xA, xc, xs, xB, xb, xd⟩ := x
      simp only at d0 d1 d2 hxf
      obtain ⟨ns, hns⟩ : ∃ ns, xs.length = ns := ⟨_, rfl⟩
      obtain ⟨nd, hnd⟩ : ∃ nd, xd.length = nd := ⟨_, rfl⟩
      rw [hns] at d1
      rw [hnd] at d2
      have HNS := Lib.hid hns
      have HND := Lib.hid hnd
      have HXO := Lib.hid hxo
      have HXF := Lib.hid hxf
      have hns2 : ns ≤ 2000 := by rw [← hns]; exact hxf.2.1
      have hnd2 : nd ≤ 2000 := by rw [← hnd]; exact hxf.2.2.1
      obtain ⟨W1, hW1⟩ : ∃ W, wr.alloc (.cells #[.string xn, .slice xA ns xc, .slice xB nd xb] 37) = W := ⟨_, rfl⟩
      have hn1 : W1.heap[wr.heap.size]? = some (.cells #[.string xn, .slice xA ns xc, .slice xB nd xb] 37 (0, 0)) := by rw [← hW1]; exact heap_alloc_new _ _
      have HB1 := Lib.hid (show Below wr.heap.size wr W1 by rw [← hW1]; exact (Below.refl _ _).alloc (Nat.le_refl _) _)
      have HBW1 := Lib.hid (HBR.out.trans (HB1.out.mono HBR.out.size))
      obtain ⟨m0, hm0⟩ : ∃ m, W1.cell? ⟨0, 0, none⟩ = some (.int .i64 m) := by obtain ⟨_, _, m, hm⟩ := HMX.out W1 HBW1.out; exact ⟨m, hm⟩
      have HCUT := Lib.hid (Tryd.strings_Cut xn ⟨#[58]⟩ m0 W1 (by have := hxf.1; omega) hm0)
      obtain ⟨D, hD⟩ : ∃ D, (⟨(Lib.cut xn.data.toList (ByteArray.mk #[58]).data.toList).1.toArray⟩ : ByteArray) = D := ⟨_, rfl⟩
      obtain ⟨M, hM⟩ : ∃ M, (⟨(Lib.cut xn.data.toList (ByteArray.mk #[58]).data.toList).2.1.toArray⟩ : ByteArray) = M := ⟨_, rfl⟩
      obtain ⟨ff, hff⟩ : ∃ f, (Lib.cut xn.data.toList (ByteArray.mk #[58]).data.toList).2.2 = f := ⟨_, rfl⟩
      have hDs : D.size ≤ 4000 := by
        have h1 := (cutC_len xn.data.toList).1
        have h2 : D.data.toList = (cutC xn.data.toList).1 := by rw [← hD, ← cutC_cut]
        rw [← h2, size_listT, size_listT] at h1
        have := hxf.1
        omega
      have hMs : M.size ≤ 4000 := by
        have h1 := (cutC_len xn.data.toList).2
        have h2 : M.data.toList = (cutC xn.data.toList).2 := by rw [← hM, ← cutC_cut]
        rw [← h2, size_listT, size_listT] at h1
        have := hxf.1
        omega
      rw [hD, hM, hff] at HCUT
      have e0 : W1.cell? ⟨wr.heap.size, 0, none⟩ = some (.string xn) := cell_of_row _ _ 0 _ _ _ hn1
      have HN1 := Lib.hid hn1
      have HW1 := Lib.hid hW1
      clear hW1 hn1 hns hnd hr hx hxo hxf hD hM hff hm0
      go_upto_region 6 with fail
      rw [HW1.out]
      clear d0 d1 d2 HW1
      go_wp2_with fail
      refine HCUT.out.mono ?_
      rintro e w2 ⟨rfl, q, hq⟩
      have hb12 : Below wr.heap.size wr w2 := by rw [hq]; exact bd_drewN HB1.out q
      have hn2 : w2.heap[wr.heap.size]? = some (.cells #[.string xn, .slice xA ns xc, .slice xB nd xb] 37 (0, 0)) := by rw [hq]; exact HN1.out
      clear hq HCUT e0
      obtain ⟨W3, hW3⟩ : ∃ W, w2.alloc (.cells #[.string ⟨#[116, 97, 114, 103, 101, 116]⟩, .string M] 9) = W := ⟨_, rfl⟩
      obtain ⟨z0, z1⟩ := two_at w2 ⟨#[116, 97, 114, 103, 101, 116]⟩ M
      rw [hW3] at z0 z1
      have hb23 : Below w2.heap.size w2 W3 := by rw [← hW3]; exact (Below.refl _ _).alloc (Nat.le_refl _) _
      have hb13 := hb12.trans (hb23.mono hb12.size)
      have hs3 := hb13.size
      have hn3 : W3.heap[wr.heap.size]? = some (.cells #[.string xn, .slice xA ns xc, .slice xB nd xb] 37 (0, 0)) := (hb23.block _ (Array.getElem?_eq_some_iff.1 hn2).1).trans hn2
      have htl1 := HTL.out
      have HL := bline_any B B T ⟨#[116, 97, 114, 103, 101, 116]⟩ M w2.heap.size W3 (built_below HBU.out hb13) (by omega) z0 z1 (by omega) (by show 6 + M.size ≤ _; omega)
      have HL := Lib.hid HL
      have HBR3 := Lib.hid (show Below B w W3 by rw [← HB.out]; exact HBR.out.trans (hb13.mono HBR.out.size))
      have HN3 := Lib.hid hn3
      have HW3 := Lib.hid hW3
      clear hW3 z0 z1 hb23 hb13 hs3 hn2 hn3 hb12 htl1
      go_wp2_with fail
      rw [HW3.out]
      refine HL.out.mono ?_
      clear HL HW3
      rintro e w4 ⟨rfl, hbu4, hb4, hk4⟩
      have hn4 := hk4 wr.heap.size _ HN3.out (by simp; omega) (fun _ _ e => by simp at e)
      have hl4 := line_len T 6 ⟨#[116, 97, 114, 103, 101, 116]⟩ M rfl
      have hb4w := HBR3.out.trans (hb4.mono (Nat.le_refl _))
      have c41 : w4.cell? ⟨wr.heap.size, 1, none⟩ = some (.slice xA ns xc) := cell_of_row _ _ 1 _ _ _ hn4
      have htl4 := HTL.out
      obtain ⟨T1, hT1⟩ : ∃ T1, T ++ ((ByteArray.mk #[116, 97, 114, 103, 101, 116]).data.toList ++ 32 :: M.data.toList ++ [10]) = T1 := ⟨_, rfl⟩
      have ht1e : T1.isEmpty = false := by rw [← hT1]; simp
      rw [hT1] at hl4 hbu4
      have HN4 := Lib.hid hn4
      have HB4 := Lib.hid hb4w
      have HBU4 := Lib.hid hbu4
      obtain ⟨BX, hBX⟩ : ∃ o : Obj, Obj.cells #[.string xn, .slice xA ns xc, .slice xB nd xb] 37 (0, 0) = o := ⟨_, rfl⟩
      rw [hBX] at HN4
      have HBXE := Lib.hid hBX.symm
      clear hBX hn4 hb4w hbu4 hb4 hk4 HBR3 HN3 hT1
      go_wp2_with fail
      clear c41
      obtain ⟨w0, hw0⟩ : ∃ W, W = wr := ⟨_, rfl⟩
      subst hw0
      go_loopw [35] (fun v wr => ∃ (j : Nat) (T2 : Bs), j ≤ ns ∧ v = .int .i64 j ∧ Hid (BuiltF B B (Lib.byteCells T2) wr) ∧ Below B w wr ∧ wr.heap[w0.heap.size]? = some BX ∧ T2.length ≤ k * 50000000 + 10000 + j * 9000 ∧ T2.isEmpty = false) (fun v _ => ns - (intOf v).toNat)
      case atStart => exact ⟨0, _, Nat.zero_le _, rfl, HBU4.out, HB4.out, HN4.out, by omega, ht1e⟩
      case round =>
        obtain ⟨j, T2, hj, rfl, HBU2, hbr2, hbx2, htl2, hte2⟩ := hrel
        have HBR2 := Lib.hid hbr2
        have HBX2 := Lib.hid hbx2
        have HTL2 := Lib.hid htl2
        have HTE2 := Lib.hid hte2
        have hlt2 := built_lt HBU2.out
        have hbw2 : Below w.heap.size w wr := by rw [HB.out]; exact hbr2
        have hsz2 := hbw2.size
        by_cases h2 : j < ns
        · have k2 : (j : Int) < (ns : Int) := by omega
          obtain ⟨p, hp⟩ : ∃ p, xs[j]? = some p := ⟨_, List.getElem?_eq_getElem (by rw [HNS.out]; exact h2)⟩
          obtain ⟨gS, oS, hS, hcell⟩ := (HXO.out.below hbw2).s (by show 0 < xs.length; rw [HNS.out]; omega)
          try simp only at hS
          subst hS
          have c0 := hcell j p hp
          have hpl : p.length ≤ 4000 := HXF.out.2.2.2.1 p (List.mem_of_getElem? hp)
          obtain ⟨qq, hqq⟩ : ∃ q, mkB p = q := ⟨_, rfl⟩
          have hqz : qq.size ≤ 4000 := by rw [← hqq, mkB_size]; exact hpl
          rw [hqq] at c0
          clear hcell hp hqq hpl hbx2 hbr2 htl2 hte2
          have HWI := Lib.hid (bwithin_any D qq wr (by omega) (by omega))
          go_wp2_with fail
          refine HWI.out.mono ?_
          rintro e w5 ⟨⟨r, rfl, hrz⟩, hw5⟩
          have hw5 := hw5.symm
          subst hw5
          obtain ⟨W6, hW6⟩ : ∃ W, wr.alloc (.cells #[.string ⟨#[32, 32, 115, 114, 99]⟩, .string r] 9) = W := ⟨_, rfl⟩
          obtain ⟨z0, z1⟩ := two_at wr ⟨#[32, 32, 115, 114, 99]⟩ r
          rw [hW6] at z0 z1
          have hb6 : Below wr.heap.size wr W6 := by rw [← hW6]; exact (Below.refl _ _).alloc (Nat.le_refl _) _
          have hs6 := hb6.size
          have HN6 := Lib.hid (show W6.heap[w0.heap.size]? = some BX from (hb6.block _ (Array.getElem?_eq_some_iff.1 HBX2.out).1).trans HBX2.out)
          have htl3 := HTL2.out
          have HL := Lib.hid (bline_any B B T2 ⟨#[32, 32, 115, 114, 99]⟩ r wr.heap.size W6 (built_below HBU2.out hb6) (by have := HB.out; omega) z0 z1 (by omega) (by show 5 + r.size ≤ _; omega))
          have HBR6 := Lib.hid (show Below B w W6 from HBR2.out.trans (hb6.mono (by have := HB.out; omega)))
          have HW6 := Lib.hid hW6
          clear hW6 z0 z1 hb6 hs6 htl3 hbw2
          go_wp2_with fail
          rw [HW6.out]
          refine HL.out.mono ?_
          clear HL HW6
          rintro e w7 ⟨rfl, hbu7, hb7, hk7⟩
          have hb7w := HBR6.out.trans (hb7.mono (Nat.le_refl _))
          have hn7 := hk7 w0.heap.size _ HN6.out (by simp; omega) (fun _ _ e => by rw [HBXE.out] at e; simp at e)
          have hl7 := line_len T2 5 ⟨#[32, 32, 115, 114, 99]⟩ r rfl
          go_wp2_with fail
          go_roundw
          case rel => exact ⟨j + 1, _, by omega, by go_num, hbu7, hb7w, hn7, by have := HTL2.out; omega, by simp⟩
          case measure => simp [intOf]; omega
        · obtain rfl : ns = j := by omega
          have c42 : wr.cell? ⟨w0.heap.size, 2, none⟩ = some (.slice xB nd xb) := cell_of_row _ _ 2 _ _ _ (by rw [HBX2.out, HBXE.out])
          clear hbr2 hbx2 htl2 hte2 hbw2
          go_wp2_with fail
          clear c42
          have HX3 := Lib.hid (sum_one HTL2.out hns2)
          obtain ⟨w1, hw1⟩ : ∃ W, W = wr := ⟨_, rfl⟩
          subst hw1
          go_loopw [49] (fun v wr => ∃ (j : Nat) (T3 : Bs), j ≤ nd ∧ v = .int .i64 j ∧ Hid (BuiltF B B (Lib.byteCells T3) wr) ∧ Below B w wr ∧ wr.heap[w0.heap.size]? = some BX ∧ T3.length ≤ k * 50000000 + 19000000 + j * 9000 ∧ T3.isEmpty = false) (fun v _ => nd - (intOf v).toNat)
          case atStart => exact ⟨0, _, Nat.zero_le _, rfl, HBU2.out, HBR2.out, HBX2.out, HX3.out, HTE2.out⟩
          case round =>
            obtain ⟨j, T3, hj, rfl, HBU3, hbr2, hbx2, htl2, hte2⟩ := hrel
            have HBR3 := Lib.hid hbr2
            have HBX3 := Lib.hid hbx2
            have HTL3 := Lib.hid htl2
            have HTE3 := Lib.hid hte2
            have hlt2 := built_lt HBU3.out
            have hbw2 : Below w.heap.size w wr := by rw [HB.out]; exact hbr2
            have hsz2 := hbw2.size
            by_cases h2 : j < nd
            · have k2 : (j : Int) < (nd : Int) := by omega
              obtain ⟨p, hp⟩ : ∃ p, xd[j]? = some p := ⟨_, List.getElem?_eq_getElem (by rw [HND.out]; exact h2)⟩
              obtain ⟨gS, oS, hS, hcell⟩ := (HXO.out.below hbw2).d (by show 0 < xd.length; rw [HND.out]; omega)
              try simp only at hS
              subst hS
              have c0 := hcell j p hp
              have hpl : p.length ≤ 4000 := HXF.out.2.2.2.2 p (List.mem_of_getElem? hp)
              obtain ⟨qq, hqq⟩ : ∃ q, mkB p = q := ⟨_, rfl⟩
              have hqz : qq.size ≤ 4000 := by rw [← hqq, mkB_size]; exact hpl
              rw [hqq] at c0
              clear hcell hp hqq hpl hbx2 hbr2 htl2 hte2
              obtain ⟨r, hrr⟩ : ∃ r, r = qq := ⟨_, rfl⟩
              subst hrr
              have hrz : r.size ≤ 4000 := hqz
              obtain ⟨W6, hW6⟩ : ∃ W, wr.alloc (.cells #[.string ⟨#[32, 32, 100, 101, 112]⟩, .string r] 9) = W := ⟨_, rfl⟩
              obtain ⟨z0, z1⟩ := two_at wr ⟨#[32, 32, 100, 101, 112]⟩ r
              rw [hW6] at z0 z1
              have hb6 : Below wr.heap.size wr W6 := by rw [← hW6]; exact (Below.refl _ _).alloc (Nat.le_refl _) _
              have hs6 := hb6.size
              have HN6 := Lib.hid (show W6.heap[w0.heap.size]? = some BX from (hb6.block _ (Array.getElem?_eq_some_iff.1 HBX3.out).1).trans HBX3.out)
              have htl3 := HTL3.out
              have HL := Lib.hid (bline_any B B T3 ⟨#[32, 32, 100, 101, 112]⟩ r wr.heap.size W6 (built_below HBU3.out hb6) (by have := HB.out; omega) z0 z1 (by omega) (by show 5 + r.size ≤ _; omega))
              have HBR6 := Lib.hid (show Below B w W6 from HBR3.out.trans (hb6.mono (by have := HB.out; omega)))
              have HW6 := Lib.hid hW6
              clear hW6 z0 z1 hb6 hs6 htl3 hbw2
              go_wp2_with fail
              rw [HW6.out]
              refine HL.out.mono ?_
              clear HL HW6
              rintro e w7 ⟨rfl, hbu7, hb7, hk7⟩
              have hb7w := HBR6.out.trans (hb7.mono (Nat.le_refl _))
              have hn7 := hk7 w0.heap.size _ HN6.out (by simp; omega) (fun _ _ e => by rw [HBXE.out] at e; simp at e)
              have hl7 := line_len T3 5 ⟨#[32, 32, 100, 101, 112]⟩ r rfl
              go_wp2_with fail
              go_roundw
              case rel => exact ⟨j + 1, _, by omega, by go_num, hbu7, hb7w, hn7, by have := HTL3.out; omega, by simp⟩
              case measure => simp [intOf]; omega
            · obtain rfl : nd = j := by omega
              clear hbr2 hbx2 htl2 hte2 hbw2
              go_wp2_with fail
              go_roundw
              case rel => exact ⟨k + 1, T3, by omega, by go_num, HBU3.out, HBR3.out, sum_two HTL3.out hnd2, by rw [HTE3.out]; simp⟩
              case measure => simp [intOf]; omega
    · obtain rfl : k = N := by omega
      have HST := Lib.hid (Tryd.Builder_String_any_k B B T wr HBU.out (by omega))
      go_wp2_with fail
      refine HST.out.mono ?_
      rintro e w9 ⟨rfl, _, hb9, _⟩
      go_wp2_with fail
      go_ret
      refine ⟨⟨_, rfl, ?_⟩, ?_⟩
      · rw [ByteArray.toList_eq]
        show T.isEmpty = _
        rw [HTE.out, empty_len, HN.out]
      · have := HBR.out.trans (by rw [HB.out]; exact hb9)
        rw [HB.out] at this
        exact this
end Go.Proofs.YtlampcelmlejbaaDoor
