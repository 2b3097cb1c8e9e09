/-
  The contract of form.write: a rule's line, without what ends it.
-/
import Derived.Test.YthkbpophckjdnaaDoorRlPlaces
import Derived.Test.YthkbpophckjdnaaDoorRlUnq2
import Derived.Test.YthkbpophckjdnaaDoorRefGlob
import Derived.Deep.Cut
namespace Go.Proofs.YthkbpophckjdnaaDoor
open Go Go.RowKit Go.Shelf Go.Proofs
attribute [local go_sem] Oper.semAt_some

def joinR : List Bs → Bs
  | [] => []
  | n :: r => n ++ r.flatMap (fun n => 32 :: n)
theorem joinR_lib (l : List Bs) : Lib.join l [32] = joinR l := by
  cases l with
  | nil => rfl
  | cons x r =>
    rw [Lib.join_cons]
    unfold joinR Lib.joinTail
    congr 1
theorem join_own {w : World} {base n : Nat} {v : Value} {l : List Bs} (h : w.ownsRow base 9 1 v n (strVs l)) (hl : 0 < n) (hs : (joinR l).length ≤ 1000000000) (hn : n ≤ 1000000) :
    Calls Tryd.prog 61 #[v, .string ⟨#[32]⟩] w fun e w' => e = .returned (.string (mkB (joinR l))) ∧ Below w.heap.size w w' := by
  have hlen := h.1
  rw [show (strVs l).length = l.length from by simp [strVs]] at hlen
  obtain ⟨g, cap, rfl, hrow, _, hg⟩ := names_row h (by omega)
  have hnl : n = l.length := by omega
  subst hnl
  have hcap : l.length ≤ cap := by
    rcases h.2 with ⟨hv, _⟩ | ⟨g', cap', cur, hv, _, _, hc, _⟩
    · cases hv
    · cases hv; exact hc
  have e1 : (l.map mkB).map (·.data.toList) = l := by
    rw [List.map_map]
    conv => rhs; rw [← List.map_id l]
    exact List.map_congr_left fun y _ => mkB_data y
  have h1 := Tryd.strings_Join g 0 cap (l.map mkB) ⟨#[32]⟩ w (fun j y hy => by
    rw [List.getElem?_map] at hy
    obtain ⟨z, hz, rfl⟩ := Option.map_eq_some_iff.1 hy
    rw [Nat.zero_add]
    exact hrow j z hz) hg (by rw [List.length_map]; omega) (by rw [List.length_map]; exact hcap) (by rw [e1]; show (Lib.join _ [32]).length ≤ _; rw [joinR_lib]; omega)
  rw [e1, List.length_map] at h1
  refine h1.mono ?_
  rintro e w' ⟨rfl, hb⟩
  refine ⟨?_, hb⟩
  show Ending.returned (.string ⟨(Lib.join _ [32]).toArray⟩) = _
  rw [joinR_lib]; rfl
theorem own_two (w : World) (g : Nat) (a b : Value) (h : w.heap[g]? = some (.cells #[a, b] 9 (0, 0))) : w.ownsRow g 9 1 (.slice (some ⟨g, 0, none⟩) 2 2) 2 [a, b] :=
  ⟨rfl, .inr ⟨g, 2, #[a, b], rfl, Nat.le_refl _, h, by omega, by unfold maxLen; omega, rfl, rfl⟩⟩
theorem words_len {r : Ru} {k : Nat} (hk : r.k = k) (h5 : 1 ≤ k ∧ k ≤ 5) : (wordsU r).length = 2 + textsN k := by
  unfold wordsU
  rw [hk]
  match k, h5 with
  | 1, _ => rfl
  | 2, _ => rfl
  | 3, _ => rfl
  | 4, _ => rfl
  | 5, _ => rfl
theorem words_text {r : Ru} {k : Nat} (hk : r.k = k) (h5 : 1 ≤ k ∧ k ≤ 5) : (0 < textsN k → (wordsU r)[2]? = some (quoteL r.o)) ∧ (1 < textsN k → (wordsU r)[3]? = some (quoteL r.n)) := by
  unfold wordsU
  rw [hk]
  match k, h5 with
  | 1, _ => exact ⟨fun _ => rfl, fun _ => rfl⟩
  | 2, _ => exact ⟨fun _ => rfl, fun _ => rfl⟩
  | 3, _ => exact ⟨fun _ => rfl, fun h => absurd h (by decide)⟩
  | 4, _ => exact ⟨fun _ => rfl, fun _ => rfl⟩
  | 5, _ => exact ⟨fun h => absurd h (by decide), fun h => absurd h (by decide)⟩
theorem joinR_words {r : Ru} {k : Nat} (hk : r.k = k) (h5 : 1 ≤ k ∧ k ≤ 5) : joinR (wordsU r) = bodyU r := by
  unfold wordsU bodyU tailU joinR
  rw [hk]
  match k, h5 with
  | 1, _ => simp
  | 2, _ => simp
  | 3, _ => simp
  | 4, _ => simp
  | 5, _ => simp
theorem texts_le (k : Nat) : textsN k ≤ 2 := by unfold textsN; (repeat' split) <;> omega

set_option maxRecDepth 100000 in
set_option maxHeartbeats 4000000 in
theorem write_any (x : RX) (k : Nat) (hk : x.k = (k : Int)) (hr : rightU x.ru = true) (w : World) :
    Calls Tryd.prog 44 #[.agg #[.int .i64 k, .int .i64 (textsN k)], .string (mkB (wordK k)), .agg #[.int .i64 x.k, .string x.g, .string x.o, .string x.n]] w fun e w' => e = .returned (.string (mkB (bodyU x.ru))) ∧ Below w.heap.size w w' := by
  obtain ⟨i0, hi, hz0, hz1, hz2⟩ := info_parts string_info
  obtain ⟨hgl, hol, hnl, k', hk', h1, h5, _, _⟩ := right_kind hr
  have hkk : k' = k := by
    have : x.ru.k = x.k := rfl
    rw [this, hk] at hk'; omega
  subst hkk
  have hol : x.o.size ≤ 100 := by rw [← rl_size]; exact hol
  have hnl : x.n.size ≤ 100 := by rw [← rl_size]; exact hnl
  have hbl := bodyU_len hr
  have hgl2 := glob_len hgl
  have hjw := joinR_words (r := x.ru) hk' ⟨h1, h5⟩
  have hwl := words_len (r := x.ru) hk' ⟨h1, h5⟩
  obtain ⟨hw2, hw3⟩ := words_text (r := x.ru) hk' ⟨h1, h5⟩
  have hw01 : (wordsU x.ru).take 2 = [wordK k', x.g.data.toList] := by
    unfold wordsU
    rw [show x.ru.k = (k' : Int) from hk']
    rfl
  have hbl2 : (bodyU x.ru).length ≤ 1000000000 := by
    unfold lineU at hbl
    rw [List.length_append] at hbl
    have e1 : x.ru.o.length ≤ 100 := by rw [show x.ru.o.length = x.o.size from rl_size _]; exact hol
    have e2 : x.ru.n.length ≤ 100 := by rw [show x.ru.n.length = x.n.size from rl_size _]; exact hnl
    omega
  obtain ⟨WS, hWS⟩ : ∃ WS, wordsU x.ru = WS := ⟨_, rfl⟩
  rw [hWS] at hjw hwl hw2 hw3 hw01
  have htl := texts_le k'
  obtain ⟨t, ht⟩ : ∃ t, textsN k' = t := ⟨_, rfl⟩
  rw [ht] at hwl hw2 hw3 htl ⊢
  obtain ⟨xk, xg, xo, xn⟩ := x
  simp only at hk hol hnl ⊢
  subst hk
  have HBODY := Lib.hid hjw
  have HBL2 := Lib.hid hbl2
  have HW2 : Hid (0 < t → WS[2]? = some (quoteL xo.data.toList)) := hw2
  have HW3 : Hid (1 < t → WS[3]? = some (quoteL xn.data.toList)) := hw3
  have HWL := Lib.hid hwl
  have HW01 := Lib.hid hw01
  obtain ⟨B, hB⟩ : ∃ B, w.heap.size = B := ⟨_, rfl⟩
  obtain ⟨W1, hW1⟩ : ∃ W1, w.alloc (.cells #[.int .i64 k', .int .i64 t] 58) = W1 := ⟨_, rfl⟩
  obtain ⟨W2, hW2⟩ : ∃ W2, W1.alloc (.cells #[.int .i64 k', .string xg, .string xo, .string xn] 35) = W2 := ⟨_, rfl⟩
  obtain ⟨W3, hW3⟩ : ∃ W3, W2.alloc (.cells #[.string (mkB (wordK k')), .string xg] 9) = W3 := ⟨_, rfl⟩
  have s1 : W1.heap.size = B + 1 := by rw [← hW1, World.size_alloc, hB]
  have s2 : W2.heap.size = B + 2 := by rw [← hW2, World.size_alloc, s1]
  have s3 : W3.heap.size = B + 3 := by rw [← hW3, World.size_alloc, s2]
  have b1 : Below B w W1 := by rw [← hW1]; exact (Below.refl B w).alloc (by omega) _
  have n1 : W1.heap[B]? = some (.cells #[.int .i64 k', .int .i64 t] 58 (0, 0)) := by rw [← hW1, ← hB]; exact heap_alloc_new _ _
  have b2 : Below (B + 1) W1 W2 := by rw [← hW2]; exact (Below.refl _ _).alloc (by omega) _
  have n2 : W2.heap[B + 1]? = some (.cells #[.int .i64 k', .string xg, .string xo, .string xn] 35 (0, 0)) := by rw [← hW2, ← s1]; exact heap_alloc_new _ _
  have m2 := (b2.block B (by omega)).trans n1
  have b3 : Below (B + 2) W2 W3 := by rw [← hW3]; exact (Below.refl _ _).alloc (by omega) _
  have n3 : W3.heap[B + 2]? = some (.cells #[.string (mkB (wordK k')), .string xg] 9 (0, 0)) := by rw [← hW3, ← s2]; exact heap_alloc_new _ _
  have m3 := (b3.block B (by omega)).trans m2
  have c1 := cell_of_row _ _ 1 _ _ _ n2
  have q0 := cell_of_row _ _ 0 _ _ _ m3
  have q1 := cell_of_row _ _ 1 _ _ _ m3
  simp only [List.getElem?_toArray, List.getElem?_cons_zero, List.getElem?_cons_succ] at c1 q0 q1
  have HP := Lib.hid (places_any k' t (B + 1) W3 htl)
  have HROW : Hid (W3.ownsRow (B + 2) 9 1 (.slice (some ⟨B + 2, 0, none⟩) 2 2) 2 (strVs (WS.take 2))) := by
    unfold Hid
    rw [hw01]
    have := own_two W3 (B + 2) _ _ n3
    unfold strVs
    simp only [List.map_cons, List.map_nil, strV, data_mkB]
    exact this
  have N2 := Lib.hid ((b3.block (B + 1) (by omega)).trans n2)
  have B3 := Lib.hid ((b1.trans (b2.mono (by omega))).trans (b3.mono (by omega)))
  have HW1 := Lib.hid hW1
  have HW2' := Lib.hid hW2
  have HW3' := Lib.hid hW3
  have S2 := Lib.hid s2
  have S3 := Lib.hid s3
  have HB := Lib.hid hB
  clear hW1 hW2 hW3 s1 s2 s3 b1 n1 b2 n2 m2 b3 n3 m3 hB hjw hbl2 hw2 hw3 hwl hw01 hWS ht hr hk' hgl hgl2 hbl
  go_enter Tryd.func44, Tryd.ntmps44
  go_upto_region 1 with fail
  rw [HW1.out, HW2'.out, HB.out]
  go_upto_region 2 with fail
  rw [HW3'.out]
  go_wp2_with fail
  rw [S2.out]
  refine HP.out.mono ?_
  rintro e w4 ⟨g, rfl, hg1, hg2, hgc, hb4⟩
  rw [S3.out] at hg1 hb4
  have hz4 : B + 3 ≤ w4.heap.size := by have := hb4.size; rw [S3.out] at this; exact this
  have hrow4 : w4.ownsRow (B + 2) 9 1 (.slice (some ⟨B + 2, 0, none⟩) 2 2) 2 (strVs (WS.take 2)) :=
    HROW.out.kept (row := none) ⟨hb4.os, hb4.tape, hb4.output, hb4.size, fun i hi _ => hb4.block i (by have := S3.out; omega)⟩ (by simp [Value.ownBlock])
  have n4 := (hb4.block (B + 1) (by omega)).trans N2.out
  have B4 := Lib.hid (B3.out.trans (hb4.mono (by omega)))
  have HROW4 := Lib.hid hrow4
  have N4 := Lib.hid n4
  have GC := Lib.hid hgc
  have hgne : ∀ (W : World) (v : Value) (n : Nat) (xs : List Value), W.ownsRow (B + 2) 9 1 v n xs → W.heap[g]? = some (.cells #[.pointer (some ⟨B + 1, 2, none⟩), .pointer (some ⟨B + 1, 3, none⟩)] 90 (0, 0)) → v.ownBlock ≠ some g := by
    intro W v n xs h1 h2 e
    obtain ⟨_, cur, h3⟩ := row_ge h1 e
    rw [h2] at h3
    simp only [Option.some.injEq, Obj.cells.injEq] at h3
    exact absurd h3.2.1 (by decide)
  have HGNE := Lib.hid hgne
  clear hb4 hrow4 n4 hgc c1 q0 q1 HP HROW N2 B3 hgne
  go_wp2_with fail
  go_loopw [7, 9, 17] (fun v7 v9 i wr => ∃ j : Nat, j ≤ t ∧ i = .int .i64 j ∧ Hid (wr.ownsRow (B + 2) 9 1 v7 (2 + j) (strVs (WS.take (2 + j)))) ∧ Hid (wr.heap[g]? = some (.cells #[.pointer (some ⟨B + 1, 2, none⟩), .pointer (some ⟨B + 1, 3, none⟩)] 90 (0, 0))) ∧ Below (B + 2) w4 wr) (fun _ _ i _ => t - (intOf i).toNat)
  case atStart => exact ⟨0, Nat.zero_le _, rfl, HROW4.out, GC.out, Below.refl _ _⟩
  case round =>
    obtain ⟨j, hj, rfl, HR, HGC, hbr⟩ := hrel
    have hszr := hbr.size
    by_cases hlt : j < t
    · have j1 : (j : Int) < (t : Int) := by omega
      have key : ∃ tx : ByteArray, wr.cell? ⟨g, j, none⟩ = some (.pointer (some ⟨B + 1, 2 + j, none⟩)) ∧ wr.cell? ⟨B + 1, 2 + j, none⟩ = some (.string tx) ∧ WS[2 + j]? = some (quoteL tx.data.toList) ∧ tx.size ≤ 100 := by
        have n5 := (hbr.block (B + 1) (by omega)).trans N4.out
        match j, hlt with
        | 0, hlt => exact ⟨xo, cell_of_row _ _ 0 _ _ _ HGC.out, cell_of_row _ _ 2 _ _ _ n5, HW2.out hlt, hol⟩
        | 1, hlt => exact ⟨xn, cell_of_row _ _ 1 _ _ _ HGC.out, cell_of_row _ _ 3 _ _ _ n5, HW3.out hlt, hnl⟩
        | j + 2, hlt => omega
      obtain ⟨tx, k1, k2, k3, k4⟩ := key
      have HQ := Lib.hid (quote_any tx wr (by omega))
      have K3 := Lib.hid k3
      clear k3
      go_wp2_with fail
      refine HQ.out.mono ?_
      rintro e w5 ⟨rfl, hb5⟩
      have hrow5 : w5.ownsRow (B + 2) 9 1 u7 (2 + j) (strVs (WS.take (2 + j))) := HR.out.kept (row := none) (grown_below none hb5) (by cases h : u7.ownBlock <;> simp)
      have hgc5 := (hb5.block g (Array.getElem?_eq_some_iff.1 HGC.out).1).trans HGC.out
      have hb05 := hbr.trans (hb5.mono (by omega))
      have HB05 := Lib.hid hb05
      have HGC5 := Lib.hid hgc5
      have hz5 := hb05.size
      clear hgc5 hb05 hb5
      go_wp2_with (at_builtin; go_loud (refine wpList_append_own _ rfl _ _ 49 rfl (B + 2) 9 i0 (.string ⟨#[]⟩) 1 16 Tryd.underlying49 hi hz0 hz1 hz2 rfl (by decide) _ _ _ rfl (hrow5.alloc _) ⟨w5.heap.size, 0, none⟩ 1 1 [.string (mkB (quoteL tx.data.toList))] rfl rfl (cell_one_new _ _ _) (by simp [Value.oneCell']) (by unfold maxLen; omega) (by omega) (by simp; omega) ?_; intro v' w6 hown' hgrow _))
      have hgb := HGNE.out w5 _ _ _ hrow5 HGC5.out
      refine ⟨⟨j + 1, by omega, by go_num, ?_, ?_, HB05.out.trans (((Below.refl _ _).alloc (by omega) _).grown hgrow (by simp; omega) fun q eq => (row_ge hrow5 eq).1)⟩, by simp [intOf]; omega⟩
      · unfold Hid
        have e : WS.take (2 + (j + 1)) = WS.take (2 + j) ++ [quoteL tx.data.toList] := by
          rw [show 2 + (j + 1) = 2 + j + 1 from by omega, List.take_add_one, K3.out]; rfl
        rw [e]
        unfold strVs at hown' ⊢
        rw [List.map_append]
        exact hown'
      · exact (hgrow.block g (by rw [World.size_alloc]; have := (Array.getElem?_eq_some_iff.1 HGC5.out).1; omega) (fun e => hgb e.symm)).trans ((Lib.alloc_old w5 _ g (Array.getElem?_eq_some_iff.1 HGC5.out).1).trans HGC5.out)
    · obtain rfl : j = t := by omega
      have hrr := HR.out
      rw [List.take_of_length_le (by rw [HWL.out]; omega)] at hrr
      have HJ := Lib.hid (join_own hrr (by omega) (by rw [HBODY.out]; exact HBL2.out) (by omega))
      rw [HBODY.out] at HJ
      clear hrr
      go_wp2_with fail
      refine HJ.out.mono ?_
      rintro e w7 ⟨rfl, hb7⟩
      go_wp2_with fail
      go_ret
      exact ⟨rfl, by rw [HB.out]; exact B4.out.trans ((hbr.mono (by omega)).trans (hb7.mono (by omega)))⟩
end Go.Proofs.YthkbpophckjdnaaDoor
