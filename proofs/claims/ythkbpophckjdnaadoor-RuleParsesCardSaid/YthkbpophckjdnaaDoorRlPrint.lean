/-
  The contract of rule.Print.
-/
import Derived.Test.YthkbpophckjdnaaDoorRlWrite
import Derived.Test.YthkbpophckjdnaaDoorRlRight
namespace Go.Proofs.YthkbpophckjdnaaDoor
open Go Go.RowKit Go.Shelf Go.Proofs
attribute [local go_sem] Oper.semAt_some

/-- Its texts are no longer than memory. -/
structure RX.Fits (x : RX) : Prop where
  g : x.g.size ≤ maxLen
  o : x.o.size ≤ maxLen
  n : x.n.size ≤ maxLen
theorem print1_any (x : RX) (w : World) (hx : x.Fits) (hm : MaxOk w) :
    Calls Tryd.prog 41 #[.agg #[.int .i64 x.k, .string x.g, .string x.o, .string x.n]] w fun e w' => e = .returned (.bool (!rightU x.ru)) ∧ Below w.heap.size w w' := by
  have hb : Below w.heap.size w (w.alloc (.cells #[.int .i64 x.k, .string x.g, .string x.o, .string x.n] 35)) := (Below.refl _ w).alloc (Nat.le_refl _) _
  have HR := Lib.hid (right_rule x (w.alloc (.cells #[.int .i64 x.k, .string x.g, .string x.o, .string x.n] 35)) hx.g hx.o hx.n (hm.below hb))
  have HB := Lib.hid hb
  clear hb
  go_enter Tryd.func41, Tryd.ntmps41
  go_wp2_with fail
  refine HR.out.mono ?_
  rintro e w1 ⟨rfl, hb1⟩
  go_wp2_with fail
  go_ret
  exact ⟨rfl, HB.out.trans (hb1.mono HB.out.size)⟩
theorem textU_next {l : List Ru} {k : Nat} {r : Ru} (h : l[k]? = some r) : textU (l.take (k + 1)) = textU (l.take k) ++ (bodyU r ++ [10]) := by
  unfold textU
  rw [List.take_add_one, h, List.flatMap_append]
  simp [lineU]
theorem lineU_le {r : Ru} (h : rightU r = true) : (lineU r).length ≤ 1000 := by
  have h1 := bodyU_len h
  obtain ⟨h2, h3, h4, _⟩ := right_kind h
  have := glob_len h2
  omega
theorem textU_le : ∀ (l : List Ru), (∀ r ∈ l, rightU r = true) → (textU l).length ≤ 1000 * l.length
  | [], _ => Nat.le_refl _
  | r :: l, h => by
    have ih := textU_le l fun x hx => h x (by simp [hx])
    have h1 := lineU_le (h r (by simp))
    unfold textU at ih ⊢
    rw [List.flatMap_cons, List.length_append, List.length_cons]
    omega
theorem anyU_all (L : List RX) : (L.any fun x => !rightU x.ru) = !(rusX L).all rightU := by
  unfold rusX
  rw [List.all_map]
  induction L with
  | nil => rfl
  | cons x r ih => rw [List.any_cons, List.all_cons, ih]; simp

set_option maxRecDepth 100000 in
set_option maxHeartbeats 8000000 in
theorem print_any (A : Option Addr) (c : Nat) (L : List RX) (w : World) (h : RulesAt w A c L) (hf : ∀ x ∈ L, x.Fits) (hm : MaxOk w) :
    Calls Tryd.prog 22 #[.slice A L.length c] w fun e w' => e = .returned (.tuple #[.string (mkB (printU (rusX L)).2), .int .i64 (printU (rusX L)).1]) ∧ Below w.heap.size w w' := by
  have hlm : L.length ≤ maxLen := Nat.le_trans h.cap h.capm
  have e1 := enters_of (P := Tryd.prog) Tryd.func41 (by kernel_rfl) rfl
  have HC := Lib.hid (containsU_any 41 #[] (fun x => !rightU x.ru) L A c w e1 (fun W x hx hW => print1_any x W (hf x hx) (hm.below hW)) hlm h.row)
  rw [anyU_all] at HC
  have hll := rusX_length L
  unfold maxLen at hlm
  obtain ⟨P, hP⟩ : ∃ P, printU (rusX L) = P := ⟨_, rfl⟩
  rw [hP]
  unfold printU at hP
  rw [hll] at hP
  have HH := Lib.hid h
  have HF := Lib.hid hf
  clear h hf e1
  cases hall : (rusX L).all rightU with
  | false =>
    rw [hall, if_neg (by simp)] at hP
    rw [hall] at HC
    subst hP
    clear hall
    go_enter Tryd.func22, Tryd.ntmps22
    go_wp2_with fail
    refine HC.out.mono ?_
    rintro e w1 ⟨rfl, hb1⟩
    go_wp2_with fail
    go_ret2
    exact ⟨rfl, hb1⟩
  | true =>
    rw [hall, if_pos rfl] at hP
    rw [hall] at HC
    by_cases h50 : 50 < L.length
    · rw [if_pos h50] at hP
      subst hP
      have g50 : (50 : Int) < (L.length : Int) := by omega
      clear hall
      go_enter Tryd.func22, Tryd.ntmps22
      go_wp2_with fail
      refine HC.out.mono ?_
      rintro e w1 ⟨rfl, hb1⟩
      go_wp2_with fail
      go_ret2
      exact ⟨rfl, hb1⟩
    · rw [if_neg h50] at hP
      subst hP
      have g50 : ¬ (50 : Int) < (L.length : Int) := by omega
      have hri := List.all_eq_true.1 hall
      have HRI := Lib.hid hri
      clear hall hri
      go_enter Tryd.func22, Tryd.ntmps22
      go_wp2_with fail
      refine HC.out.mono ?_
      rintro e w1 ⟨rfl, hb1⟩
      obtain ⟨B, hB⟩ : ∃ B, w1.heap.size = B := ⟨_, rfl⟩
      obtain ⟨W2, hW2⟩ : ∃ W2, w1.alloc (.cells #[.pointer none, .slice none 0 0] 67) = W2 := ⟨_, rfl⟩
      have s2 : W2.heap.size = B + 1 := by rw [← hW2, World.size_alloc, hB]
      have n2 : W2.heap[B]? = some (.cells #[.pointer none, .slice none 0 0] 67 (0, 0)) := by rw [← hW2, ← hB]; exact heap_alloc_new _ _
      have b2 : Below B w1 W2 := by rw [← hW2]; exact (Below.refl B w1).alloc (by omega) _
      have hwB : w.heap.size ≤ B := by rw [← hB]; exact hb1.size
      have BW := Lib.hid (hb1.trans (b2.mono hwB))
      have G0 : Hid (BuiltF B B (Lib.byteCells (textU ((rusX L).take 0))) W2) := built_new (Nat.le_refl _) n2
      have HW2 := Lib.hid hW2
      have S2 := Lib.hid s2
      clear hW2 s2 n2 b2 hb1 HC
      go_wp2_with fail
      rw [HW2.out]
      clear HW2 hB
      go_loopw [6, 7, 8, 16] (fun v6 v7 v8 i wr => ∃ k : Nat, k ≤ L.length ∧ i = .int .i64 k ∧ Hid (BuiltF B B (Lib.byteCells (textU ((rusX L).take k))) wr) ∧ Below B W2 wr ∧ B + 1 ≤ wr.heap.size) (fun _ _ _ i _ => L.length - (intOf i).toNat)
      case atStart => exact ⟨0, Nat.zero_le _, rfl, G0.out, Below.refl _ _, by rw [S2.out]; exact Nat.le_refl _⟩
      case round =>
        obtain ⟨k, hk, rfl, HBU, hbr, hzr⟩ := hrel
        by_cases hlt : k < L.length
        · have k1 : (k : Int) < (L.length : Int) := by omega
          obtain ⟨x, hx⟩ : ∃ x, L[k]? = some x := ⟨_, List.getElem?_eq_getElem hlt⟩
          have hbw : Below w.heap.size w wr := BW.out.trans (hbr.mono hwB)
          obtain ⟨g, o, rfl, hrow⟩ := HH.out.row (by omega)
          obtain ⟨c0, c1, c2, c3⟩ := (hrow.below hbw) k x hx
          have hru : (rusX L)[k]? = some x.ru := by rw [rusX_getElem?, hx]; rfl
          have hxr := HRI.out _ (List.mem_of_getElem? hru)
          have hnx := textU_next hru
          obtain ⟨_, _, _, q, hq, q1, q5, _, _⟩ := right_kind hxr
          have hq : x.k = (q : Int) := hq
          have hle := textU_le ((rusX L).take k) (fun r hr => HRI.out r (List.mem_of_mem_take hr))
          have hle2 := lineU_le hxr
          unfold lineU at hle2
          rw [List.length_append] at hle2
          rw [List.length_take] at hle
          have HNX := Lib.hid hnx
          have HXR := Lib.hid hxr
          have HLE : Hid ((textU ((rusX L).take k)).length ≤ 100000 ∧ (bodyU x.ru).length ≤ 1000) := ⟨by omega, by omega⟩
          have HQ := Lib.hid hq
          clear hx hrow hru hxr hnx hle hle2
          rw [HQ.out] at c0
          have HFO := Lib.hid (fun W => formOf_any q q1 q5 W)
          have HWR := Lib.hid (fun W => write_any x q HQ.out HXR.out W)
          rw [HQ.out] at HWR
          obtain ⟨xk, xg, xo, xn⟩ := x
          simp only at c0 c1 c2 c3 HWR
          clear hq
          go_upto_region 9 with fail
          obtain ⟨R, hR⟩ : ∃ R, wr.heap.size = R := ⟨_, rfl⟩
          obtain ⟨W3, hW3⟩ : ∃ W3, wr.alloc (.cells #[.int .i64 q, .string xg, .string xo, .string xn] 35) = W3 := ⟨_, rfl⟩
          have s3 : W3.heap.size = R + 1 := by rw [← hW3, World.size_alloc, hR]
          have n3 : W3.heap[R]? = some (.cells #[.int .i64 q, .string xg, .string xo, .string xn] 35 (0, 0)) := by rw [← hW3, ← hR]; exact heap_alloc_new _ _
          have b3 : Below R wr W3 := by rw [← hW3]; exact (Below.refl _ _).alloc (by omega) _
          have d0 := cell_of_row _ _ 0 _ _ _ n3
          simp only [List.getElem?_toArray, List.getElem?_cons_zero] at d0
          have N3 := Lib.hid n3
          have B3 := Lib.hid b3
          have S3 := Lib.hid s3
          have HFO3 := Lib.hid (HFO.out W3)
          rw [hW3, hR]
          have HRR := Lib.hid hR
          clear hW3 n3 b3 s3 c0 c1 c2 c3 hR
          go_wp2_with fail
          refine HFO3.out.mono ?_
          rintro e w4 ⟨rfl, hb4⟩
          rw [S3.out] at hb4
          have hz4 : R + 1 ≤ w4.heap.size := by have := hb4.size; rw [S3.out] at this; exact this
          have n4 := (hb4.block R (by omega)).trans N3.out
          have HB4 := Lib.hid (B3.out.trans (hb4.mono (by omega)))
          have N4 := Lib.hid n4
          clear hb4 d0 n4
          go_upto_region 10 with fail
          obtain ⟨W5, hW5⟩ : ∃ W5, w4.alloc (.cells #[.int .i64 q, .int .i64 (textsN q)] 58) = W5 := ⟨_, rfl⟩
          have s5 : W5.heap.size = w4.heap.size + 1 := by rw [← hW5, World.size_alloc]
          have n5 : W5.heap[w4.heap.size]? = some (.cells #[.int .i64 q, .int .i64 (textsN q)] 58 (0, 0)) := by rw [← hW5]; exact heap_alloc_new _ _
          have b5 : Below w4.heap.size w4 W5 := by rw [← hW5]; exact (Below.refl _ _).alloc (Nat.le_refl _) _
          have m5 := (b5.block R (by omega)).trans N4.out
          have d0 := cell_of_row _ _ 0 _ _ _ m5
          have d1 := cell_of_row _ _ 1 _ _ _ m5
          have d2 := cell_of_row _ _ 2 _ _ _ m5
          have d3 := cell_of_row _ _ 3 _ _ _ m5
          have f0 := cell_of_row _ _ 0 _ _ _ n5
          have f1 := cell_of_row _ _ 1 _ _ _ n5
          simp only [List.getElem?_toArray, List.getElem?_cons_zero, List.getElem?_cons_succ] at d0 d1 d2 d3 f0 f1
          have HB5 := Lib.hid (HB4.out.trans (b5.mono (by omega)))
          have HW5' := Lib.hid (HWR.out W5)
          have S5 := Lib.hid s5
          rw [hW5]
          clear hW5 n5 b5 m5 s5
          go_wp2_with fail
          refine HW5'.out.mono ?_
          rintro e w6 ⟨rfl, hb6⟩
          have hb06 : Below R wr w6 := HB5.out.trans (hb6.mono (by have := S5.out; omega))
          have hbu6 := built_below HBU.out (by rw [HRR.out]; exact hb06)
          have HB06 := Lib.hid hb06
          have hz6 := hb06.size
          have HS6 := Lib.hid (sb_string B B _ (mkB (bodyU (RX.ru ⟨xk, xg, xo, xn⟩))) w6 hbu6 (by rw [Lib.byteCells_length, mkB_size]; have := HLE.out; omega) (by omega))
          clear hb6 hb06 hbu6 d0 d1 d2 d3 f0 f1
          go_wp2_with fail
          refine HS6.out.mono ?_
          rintro e w7 ⟨rfl, hbu7, hb7⟩
          have hz7 := hb7.size
          have HS7 := Lib.hid (sb_string B B _ ⟨#[10]⟩ w7 hbu7 (by rw [List.length_append, Lib.byteCells_length, Lib.strCells_length, mkB_size]; have := HLE.out; show _ + 1 ≤ _; omega) (by omega))
          clear hbu7
          go_wp2_with fail
          refine HS7.out.mono ?_
          rintro e w8 ⟨rfl, hbu8, hb8⟩
          have hz8 := hb8.size
          go_wp2_with fail
          go_roundw
          case rel =>
            refine ⟨k + 1, by omega, by go_num, ?_, hbr.trans (((HB06.out.mono (by have := HRR.out; omega)).trans hb7).trans hb8), by omega⟩
            unfold Hid
            rw [HNX.out]
            have e : Lib.byteCells (textU ((rusX L).take k) ++ (bodyU (RX.ru ⟨xk, xg, xo, xn⟩) ++ [10])) = Lib.byteCells (textU ((rusX L).take k)) ++ Lib.strCells (mkB (bodyU (RX.ru ⟨xk, xg, xo, xn⟩))) ++ Lib.strCells ⟨#[10]⟩ := by
              rw [List.append_assoc]
              simp [Lib.byteCells, Lib.strCells, mkB_data]
            rw [e]; exact hbu8
          case measure => simp [intOf]; omega
        · obtain rfl : k = L.length := by omega
          have hbu := HBU.out
          rw [List.take_of_length_le (by omega)] at hbu
          have HST := Lib.hid (Tryd.Builder_String_any_k B B _ wr hbu (by omega))
          clear hbu
          go_wp2_with fail
          refine HST.out.mono ?_
          rintro e w9 ⟨rfl, _, hb9, _⟩
          go_wp2_with fail
          go_ret2
          exact ⟨rfl, BW.out.trans ((hbr.trans hb9).mono hwB)⟩
end Go.Proofs.YthkbpophckjdnaaDoor
