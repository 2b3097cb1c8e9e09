/-
  The document's own: rules of a text.
-/
import Derived.Test.YthkbpophckjdnaaDoorRlRefO
import Derived.Test.YthkbpophckjdnaaDoorRlParse
namespace Go.Proofs.YthkbpophckjdnaaDoor
open Go Go.RowKit Go.Shelf Go.Proofs
attribute [local go_sem] Oper.semAt_some

theorem pieceR_le (c : UInt8) : ∀ (q l : Bs), l ∈ splitL c q → l.length ≤ q.length
  | [], l, h => by rw [splitL] at h; simp at h; rw [h]; exact Nat.le_refl _
  | b :: q, l, h => by
    rw [splitL] at h
    have ih := pieceR_le c q
    by_cases e : (b == c) = true
    · rw [if_pos e] at h
      rcases List.mem_cons.1 h with rfl | h
      · exact Nat.zero_le _
      · have := ih l h; rw [List.length_cons]; omega
    · rw [if_neg e] at h
      cases hs : splitL c q with
      | nil =>
        rw [hs] at h
        simp at h; rw [h]; simp
      | cons p ps =>
        rw [hs] at h ih
        rcases List.mem_cons.1 h with rfl | h
        · have := ih p (List.mem_cons_self ..); simp only [List.length_cons]; omega
        · have := ih l (List.mem_cons_of_mem _ h); rw [List.length_cons]; omega
theorem strs_cell {w : World} {b g cap n : Nat} {l : List Bs} (h : w.ownsRow b 9 1 (.slice (some ⟨g, 0, none⟩) n cap) n (strVs l)) : ∀ i p, l[i]? = some p → w.cell? ⟨g, 0 + i, none⟩ = some (.string (mkB p)) := fun i p hp => by
  have := World.ownsRow.cells h (g := g) rfl i (.string (mkB p)) (by unfold strVs; rw [List.getElem?_map, hp]; rfl)
  rwa [Go.WideShapes.add_plain] at this
theorem linesU_step {L : List Bs} {k : Nat} {p : Bs} {M : List Ru} (hp : L[k]? = some p) (h : linesU (L.take k) = some M) : linesU (L.take (k + 1)) = stepU (some M) p := by
  rw [List.take_add_one, hp, Option.toList_some]
  show linesU (L.take k ++ [p]) = _
  rw [linesU_snoc, h]

set_option maxRecDepth 100000 in
set_option maxHeartbeats 16000000 in
theorem rrefparse_any (s : ByteArray) (w : World) (hs : s.size ≤ 1000000) :
    Calls Tryd.prog 13 #[.string s] w (RlPost (parseU s.data.toList) w) := by
  by_cases hbig : 16384 < s.size
  · have hpv : parseU s.data.toList = (3, []) := by
      unfold parseU
      rw [if_pos (by rw [rl_size]; exact hbig)]
    have HPV := Lib.hid hpv
    have b1 : (16384 : Int) < (s.size : Int) := by omega
    clear hpv
    go_enter Tryd.func13, Tryd.ntmps13
    go_wp2_with fail
    go_ret2
    exact ⟨none, 0, [], by rw [HPV.out]; rfl, RulesAt.nil _ _ _ (Nat.zero_le _), by rw [HPV.out]; rfl, Below.refl _ _⟩
  · have b1 : ¬ (16384 : Int) < (s.size : Int) := by omega
    have HP0 := Lib.hid (show parseU s.data.toList = match linesU (splitL 10 s.data.toList) with
        | none => (11, [])
        | some l => if 50 < l.length then (3, []) else (0, l) from by
      unfold parseU
      rw [if_neg (by rw [rl_size]; omega)]
      cases linesU (splitL 10 s.data.toList) <;> rfl)
    have HSP := Lib.hid (refsplit_any s 10 w (by omega))
    have hll := splitL_length 10 s.data.toList
    have hpl := pieceR_le 10 s.data.toList
    rw [rl_size] at hll hpl
    obtain ⟨L, hL⟩ : ∃ L, splitL 10 s.data.toList = L := ⟨_, rfl⟩
    rw [hL] at HSP hll hpl HP0
    have hL0 : 0 < L.length := by rw [← hL]; exact List.length_pos_iff.2 (splitL_ne 10 _)
    have HPL := Lib.hid hpl
    clear hL hpl hbig
    obtain ⟨ri, hri, hrz0, hrz1, hrz2⟩ := info_parts rule_info
    have HRI := Lib.hid hri
    clear hri
    go_enter Tryd.func13, Tryd.ntmps13
    go_wp2_with fail
    refine HSP.out.mono ?_
    rintro e w1 ⟨v1, rfl, ho1, hb1⟩
    obtain ⟨n, hn⟩ : ∃ n, L.length = n := ⟨_, rfl⟩
    rw [hn] at ho1 hll hL0
    obtain ⟨n', hn'⟩ : ∃ n', n = n' + 1 := ⟨n - 1, by omega⟩
    obtain ⟨g, cap, rfl⟩ : ∃ g cap, v1 = .slice (some ⟨g, 0, none⟩) n cap := by
      have h2 := ho1
      rw [hn'] at h2
      obtain ⟨g, cap, e⟩ := rules_succ h2
      exact ⟨g, cap, by rw [e, hn']⟩
    have hg1 : g < w1.heap.size := (World.ownsRow.lt ho1 g rfl).2
    have hcell := strs_cell ho1
    have CL := Lib.hid (fun (W : World) (hb : Below w1.heap.size w1 W) (i : Nat) (p : Bs) (hp : L[i]? = some p) => show W.cell? ⟨g, i, none⟩ = some (.string (mkB p)) by
      have := hcell i p hp
      rw [Nat.zero_add] at this
      exact (hb.cell (p := ⟨g, i, none⟩) hg1).trans this)
    have HN := Lib.hid hn
    have HB1 := Lib.hid hb1
    clear hcell ho1 hn hb1 hn'
    go_wp2_with fail
    go_loopw [4, 6] (fun v4 v6 wr => ∃ (k : Nat) (v : Value) (M : List RX), k ≤ n ∧ v6 = .int .i64 k ∧ v4 = v ∧ M.length ≤ k ∧ Hid (wr.ownsRow w1.heap.size 35 4 v M.length (rcells M)) ∧ Hid (linesU (L.take k) = some (rusX M)) ∧ Below w1.heap.size w1 wr) (fun _ v6 _ => n - (intOf v6).toNat)
    case atStart => exact ⟨0, .slice none 0 0, [], Nat.zero_le _, rfl, rfl, Nat.zero_le _, World.ownsRow_nil _ _ _ _, rfl, Below.refl _ _⟩
    case round =>
      obtain ⟨k, v, M, hk, rfl, hv, hMk, HOW, HLN, hbr⟩ := hrel
      have hv' := hv.symm
      subst hv'
      clear hv
      have HBR := Lib.hid hbr
      clear hbr
      by_cases h1 : k < n
      · have k1 : (k : Int) < (n : Int) := by omega
        obtain ⟨p, hp⟩ : ∃ p, L[k]? = some p := ⟨_, List.getElem?_eq_getElem (by rw [HN.out]; exact h1)⟩
        have hpz := HPL.out p (List.mem_of_getElem? hp)
        have hstep := linesU_step hp HLN.out
        have c0 := CL.out wr HBR.out k p hp
        obtain ⟨x, hx⟩ : ∃ x, mkB p = x := ⟨_, rfl⟩
        rw [hx] at c0
        have hxd : x.data.toList = p := by rw [← hx, mkB_data]
        have hxs : x.size ≤ 16384 := by rw [← hx, mkB_size]; omega
        have HXD := Lib.hid hxd
        clear hp hx hxd
        cases he : p.isEmpty with
        | true =>
          have hst2 : linesU (L.take (k + 1)) = some (rusX M) := by rw [hstep]; unfold stepU; rw [Option.bind_some, he, if_pos rfl]
          have HST := Lib.hid hst2
          have q0 : x.toList = [] := by rw [ByteArray.toList_eq, HXD.out]; simpa using he
          have q1 : x.toList.isEmpty = true := by rw [q0]; rfl
          have q2 : (x.toList == []) = true := by rw [q0]; rfl
          clear he hst2 hstep
          go_wp2_with fail
          go_roundw
          case rel => exact ⟨k + 1, _, M, by omega, by go_num, rfl, by omega, HOW.out, HST.out, HBR.out⟩
          case measure => simp [intOf]; omega
        | false =>
          have q0 : x.toList ≠ [] := by rw [ByteArray.toList_eq, HXD.out]; intro e; rw [e] at he; cases he
          have q1 : x.toList.isEmpty = false := by rw [List.isEmpty_eq_false_iff]; exact q0
          have q2 : (x.toList == []) = false := beq_eq_false_iff_ne.2 q0
          have hst2 : linesU (L.take (k + 1)) = (oneU (splitL 32 p)).map (fun r => rusX M ++ [r]) := by rw [hstep]; unfold stepU; rw [Option.bind_some, he, if_neg (by simp)]
          have HST := Lib.hid hst2
          have HS2 := Lib.hid (refsplit_any x 32 wr (by omega))
          rw [HXD.out] at HS2
          obtain ⟨ws, hws⟩ : ∃ ws, splitL 32 p = ws := ⟨_, rfl⟩
          have hwl := splitL_length 32 p
          have hwp := pieceR_le 32 p
          have hw0 : 0 < ws.length := by rw [← hws]; exact List.length_pos_iff.2 (splitL_ne 32 _)
          rw [hws] at HS2 HST hwl hwp
          have HWP := Lib.hid hwp
          have Q0 := Lib.hid q0
          clear he hst2 hstep hws hwp q0
          go_wp2_with fail
          refine HS2.out.mono ?_
          rintro e w2 ⟨v2, rfl, ho2, hb2⟩
          obtain ⟨m, hm⟩ : ∃ m, ws.length = m := ⟨_, rfl⟩
          have HM := Lib.hid hm
          rw [hm] at ho2
          obtain ⟨g2, cap2, rfl⟩ : ∃ g cap, v2 = .slice (some ⟨g, 0, none⟩) m cap := by
            have h2 := ho2
            rw [show m = (m - 1) + 1 by omega] at h2
            obtain ⟨g, cap, e⟩ := rules_succ h2
            exact ⟨g, cap, by rw [e, show m - 1 + 1 = m by omega]⟩
          have hg2 : g2 < w2.heap.size := (World.ownsRow.lt ho2 g2 rfl).2
          have hcell2 := strs_cell ho2
          have hcap2 : m ≤ cap2 := by
            rcases ho2.2 with ⟨e, _⟩ | ⟨g', cap', cur, e, _, _, h5, _⟩
            · cases e
            · cases e; exact h5
          have HONE := Lib.hid (rone_any ws g2 0 cap2 w2 hcell2 hg2 hw0 (by omega) (fun p' hp' => by have := HWP.out p' hp'; omega) (by omega))
          rw [hm] at HONE
          have hB2 := HBR.out.trans (hb2.mono HBR.out.size)
          have HB2 := Lib.hid hB2
          have HOW2 := Lib.hid (show w2.ownsRow w1.heap.size 35 4 v M.length (rcells M) from ownsRow_keepR HOW.out fun j o _ hj ho => (hb2.block j (Array.getElem?_eq_some_iff.1 ho).1).trans ho)
          clear hcell2 ho2 hm hb2 hB2 c0 q1 q2
          go_wp2_with fail
          refine HONE.out.mono ?_
          rintro e w3 ⟨y, bb, rfl, hR, hb3⟩
          obtain ⟨yk, yg, yo, yn⟩ := y
          have HR := Lib.hid hR
          have HB3 := Lib.hid (HB2.out.trans (hb3.mono HB2.out.size))
          have HOW3 := Lib.hid (show w3.ownsRow w1.heap.size 35 4 v M.length (rcells M) from ownsRow_keepR HOW2.out fun j o _ hj ho => (hb3.block j (Array.getElem?_eq_some_iff.1 ho).1).trans ho)
          obtain ⟨N4, hN4⟩ : ∃ N4, w3.heap.size = N4 := ⟨_, rfl⟩
          obtain ⟨W4, hW4⟩ : ∃ W, w3.alloc (.cells #[.int .i64 yk, .string yg, .string yo, .string yn] 35) = W := ⟨_, rfl⟩
          have hn4 : W4.heap[N4]? = some (.cells #[.int .i64 yk, .string yg, .string yo, .string yn] 35 (0, 0)) := by rw [← hW4, ← hN4]; exact heap_alloc_new _ _
          have HB4 := Lib.hid (show Below w1.heap.size w1 W4 by rw [← hW4]; exact HB3.out.alloc HB3.out.size _)
          have HOW4 := Lib.hid (show W4.ownsRow w1.heap.size 35 4 v M.length (rcells M) by rw [← hW4]; exact HOW3.out.alloc _)
          have e0 := cell_of_row _ _ 0 _ _ _ hn4
          have e1 := cell_of_row _ _ 1 _ _ _ hn4
          have e2 := cell_of_row _ _ 2 _ _ _ hn4
          have e3 := cell_of_row _ _ 3 _ _ _ hn4
          simp only [List.getElem?_toArray, List.getElem?_cons_zero, List.getElem?_cons_succ] at e0 e1 e2 e3
          have HW4 := Lib.hid hW4
          have HN4 := Lib.hid hN4
          clear hR hb3 hn4 hW4 hN4
          cases bb with
          | false =>
            have hbad : parseU s.data.toList = (11, []) := by
              rw [HP0.out]
              have h3 : linesU (L.take (k + 1)) = none := by rw [HST.out, HR.out]; rfl
              rw [linesU_take _ _ h3]
            have HBAD := Lib.hid hbad
            clear hbad e0 e1 e2 e3
            go_wp2_with fail
            go_ret2
            exact ⟨none, 0, [], by rw [HBAD.out]; rfl, RulesAt.nil _ _ _ (Nat.zero_le _), by rw [HBAD.out]; rfl, by rw [HW4.out]; exact HB1.out.trans (HB4.out.mono HB1.out.size)⟩
          | true =>
            have hnew : linesU (L.take (k + 1)) = some (rusX (M ++ [⟨yk, yg, yo, yn⟩])) := by
              rw [HST.out, HR.out, rusX_append]; rfl
            have HNEW := Lib.hid hnew
            clear hnew
            go_upto_region 12 with fail
            rw [HW4.out, HN4.out]
            obtain ⟨W5, hW5⟩ : ∃ W, W4.alloc (.cells #[.int .i64 yk, .string yg, .string yo, .string yn] 35) = W := ⟨_, rfl⟩
            have HOW5 := Lib.hid (show (W4.alloc (.cells #[.int .i64 yk, .string yg, .string yo, .string yn] 35)).ownsRow w1.heap.size 35 4 v M.length (rcells M) from HOW4.out.alloc _)
            clear hW5
            go_upto_region 7 with (at_builtin; go_loud (refine wpList_append_own _ rfl _ _ 23 rfl w1.heap.size 35 ri (.agg #[.int .i64 0, .string ⟨#[]⟩, .string ⟨#[]⟩, .string ⟨#[]⟩]) 4 56 Tryd.underlying23 HRI.out hrz0 hrz1 hrz2 rfl (by decide) v M.length (rcells M) rfl HOW5.out ⟨W4.heap.size, 0, none⟩ 1 1 [.int .i64 yk, .string yg, .string yo, .string yn] rfl rfl (cell_four_new _ _ _ _ _ _) (by intro u hu; simp only [List.mem_cons, List.mem_nil_iff, or_false] at hu; rcases hu with rfl | rfl | rfl | rfl <;> rfl) (by unfold maxLen; omega) (by omega) (by rw [World.size_alloc]; have := HB4.out.size; omega) ?_; intro v7 w7 hown7 hgr7 hnil7; have hb7 : Below w1.heap.size w1 w7 := (HB4.out.alloc HB4.out.size _).grown hgr7 (by rw [World.size_alloc]; have := HB4.out.size; omega) (by intro kk hkk; exact (row_ge HOW5.out hkk).1); have HB7 := Lib.hid hb7; have HO7 := Lib.hid hown7; clear hown7 hgr7 hnil7 hb7))
            clear e0 e1 e2 e3
            go_wp2_with fail
            go_roundw
            case rel =>
              refine ⟨k + 1, _, M ++ [(⟨yk, yg, yo, yn⟩ : RX)], by omega, by go_num, rfl, by rw [List.length_append, List.length_singleton]; omega, ?_, HNEW, HB7.out⟩
              unfold Hid
              rw [rcells_append, List.length_append]
              exact HO7.out
            case measure => simp [intOf]; omega
      · obtain rfl : k = n := by omega
        have hfin : linesU L = some (rusX M) := by
          have := HLN.out
          rwa [List.take_of_length_le (by rw [HN.out]; exact Nat.le_refl _)] at this
        obtain ⟨A, c, rfl, hat⟩ := rules_own HOW.out
        have hml : (rusX M).length = M.length := rusX_length M
        have hp5 : parseU s.data.toList = if 50 < M.length then (3, []) else (0, rusX M) := by rw [HP0.out, hfin]; show (if 50 < (rusX M).length then _ else _) = _; rw [hml]
        have HP5 := Lib.hid hp5
        have HAT := Lib.hid hat
        have HBF := Lib.hid (HB1.out.trans (HBR.out.mono HB1.out.size))
        clear hfin hml hp5 hat
        by_cases h50 : 50 < M.length
        · have m1 : (50 : Int) < (M.length : Int) := by omega
          have HPV := Lib.hid (HP5.out.trans (if_pos h50))
          clear h50
          go_wp2_with fail
          go_ret2
          exact ⟨none, 0, [], by rw [HPV.out]; rfl, RulesAt.nil _ _ _ (Nat.zero_le _), by rw [HPV.out]; rfl, HBF.out⟩
        · have m1 : ¬ (50 : Int) < (M.length : Int) := by omega
          have HPV := Lib.hid (HP5.out.trans (if_neg h50))
          clear h50
          go_wp2_with fail
          go_ret2
          exact ⟨A, c, M, by rw [HPV.out]; rfl, HAT.out, by rw [HPV.out], HBF.out⟩
end Go.Proofs.YthkbpophckjdnaaDoor
