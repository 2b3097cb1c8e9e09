/-
  The document's own: has a text a line feed, may a rule be, how many texts a kind has, the kinds' words.
-/
import Derived.Test.YthkbpophckjdnaaDoorRlLawM
import Derived.Test.YthkbpophckjdnaaDoorRefGlob
namespace Go.Proofs.YthkbpophckjdnaaDoor
open Go Go.RowKit Go.Shelf Go.Proofs
attribute [local go_sem] Oper.semAt_some

theorem feeds_split : ∀ s : Bs, feedsL s = decide (1 < (splitL 10 s).length)
  | [] => rfl
  | c :: s => by
    have ih := feeds_split s
    unfold feedsL at ih ⊢
    by_cases h : (c == 10) = true
    · rw [show splitL 10 (c :: s) = [] :: splitL 10 s from by simp only [splitL, h, if_true]]
      have h2 : (splitL 10 s).length ≠ 0 := fun e => splitL_ne 10 s (List.eq_nil_of_length_eq_zero e)
      have hc : c = 10 := by simpa using h
      rw [hc]
      simp only [List.contains_cons, BEq.rfl, Bool.true_or, List.length_cons]
      symm; rw [decide_eq_true_eq]; omega
    · have h' : (c == 10) = false := by simpa using h
      cases e : splitL 10 s with
      | nil => exact absurd e (splitL_ne 10 s)
      | cons p R =>
        rw [show splitL 10 (c :: s) = (c :: p) :: R from by simp only [splitL, h', Bool.false_eq_true, if_false, e], List.contains_cons]
        rw [e] at ih
        have h3 : ((10 : UInt8) == c) = false := by rw [beq_eq_false_iff_ne] at h' ⊢; exact fun e => h' e.symm
        rw [h3, Bool.false_or, ih]
        rfl
set_option maxHeartbeats 1000000 in
theorem rfeed_any (s : ByteArray) (w : World) (hs : s.size ≤ 1000000) :
    Calls Tryd.prog 54 #[.string s] w fun e w' => e = .returned (.bool (feedsL s.data.toList)) ∧ Below w.heap.size w w' := by
  have hf := feeds_split s.data.toList
  have HS := Lib.hid (refsplit_any s 10 w (by omega))
  obtain ⟨L, hL⟩ : ∃ L, splitL 10 s.data.toList = L := ⟨_, rfl⟩
  rw [hL] at HS hf
  have HF := Lib.hid hf
  clear hf hL
  go_enter Tryd.func54, Tryd.ntmps54
  go_wp2_with fail
  refine HS.out.mono ?_
  rintro e w1 ⟨v, rfl, ho, hb⟩
  obtain ⟨A, c, rfl⟩ : ∃ A c, v = .slice A L.length c := by
    rcases ho.2 with ⟨rfl, h0⟩ | ⟨g, cap, cur, rfl, _⟩
    · rw [h0]; exact ⟨_, _, rfl⟩
    · exact ⟨_, _, rfl⟩
  clear ho
  go_wp2_with fail
  go_ret
  refine ⟨?_, hb⟩
  rw [HF.out]
  congr 2
  simp; omega

theorem At4.at0 {W : World} {N : Nat} {x : RX} (h : At4 W N x) : W.cell? ⟨N, 0, none⟩ = some (.int .i64 x.k) := cell_of_row _ _ 0 _ _ _ h
theorem At4.at3 {W : World} {N : Nat} {x : RX} (h : At4 W N x) : W.cell? ⟨N, 3, none⟩ = some (.string x.n) := cell_of_row _ _ 3 _ _ _ h
theorem empty_of {s : ByteArray} {b : Bool} (h : s.toList.isEmpty = b) : s.data.toList.isEmpty = b := by rw [← ByteArray.toList_eq]; exact h

set_option maxRecDepth 100000 in
set_option maxHeartbeats 8000000 in
theorem rright_any (x : RX) (w : World) (hg : x.g.size ≤ 100000) (ho : x.o.size ≤ 100000) (hn : x.n.size ≤ 100000) :
    Calls Tryd.prog 25 #[.agg #[.int .i64 x.k, .string x.g, .string x.o, .string x.n]] w fun e w' => e = .returned (.bool (rightU x.ru)) ∧ Below w.heap.size w w' := by
  have hru := rightU_k x.ru
  obtain ⟨W1, hW1⟩ : ∃ W1, w.alloc (.cells #[.int .i64 x.k, .string x.g, .string x.o, .string x.n] 35) = W1 := ⟨_, rfl⟩
  obtain ⟨B, hB⟩ : ∃ B, w.heap.size = B := ⟨_, rfl⟩
  rw [hB]
  have n1 : At4 W1 B x := by rw [← hW1, ← hB]; exact At4.new _ _
  have hb1 : Below B w W1 := by rw [← hW1]; exact (Below.refl _ _).alloc (by omega) _
  have eg : x.ru.g = x.g.data.toList := rfl
  have eo : x.ru.o = x.o.data.toList := rfl
  have en : x.ru.n = x.n.data.toList := rfl
  have ek : x.ru.k = x.k := rfl
  rw [eg, eo, en, ek, rl_size, rl_size] at hru
  obtain ⟨k, g, o, n⟩ := x
  simp only at hg ho hn hru
  obtain ⟨R, hR⟩ : ∃ R, rightU (RX.ru ⟨k, g, o, n⟩) = R := ⟨_, rfl⟩
  rw [hR] at hru ⊢
  have HG := Lib.hid (fun W => refglob_any g W (by omega))
  have HTK := Lib.hid (fun W => rtoken_any o W (by unfold maxLen; omega))
  have HFO := Lib.hid (fun W => rfeed_any o W (by omega))
  have HFN := Lib.hid (fun W => rfeed_any n W (by omega))
  have HRO := Lib.hid (fun W => refright_any o W (by omega))
  have HRN := Lib.hid (fun W => refright_any n W (by omega))
  have HRU := Lib.hid hru
  have HB := Lib.hid hB
  have N1 := Lib.hid n1
  have HB1 := Lib.hid hb1
  have HW1 := Lib.hid hW1
  have c1 := n1.at1
  simp only at c1
  clear hru hR n1 hb1 hW1 hB eg eo en ek
  go_enter Tryd.func25, Tryd.ntmps25
  go_upto_region 1 with fail
  rw [HW1.out, HB.out]
  cases hgb : globB g.data.toList with
  | false =>
    rw [hgb] at HG
    have hr : R = false := by rw [HRU.out, hgb]; rfl
    subst hr
    clear hgb
    go_wp2_with fail
    refine (HG.out _).mono ?_
    rintro e w2 ⟨rfl, hb⟩
    have HB2 := Lib.hid (HB1.out.trans (hb.mono (by have := N1.out.lt; omega)))
    clear hb
    go_wp2_with fail
    go_ret
    exact ⟨rfl, HB2.out⟩
  | true =>
    rw [hgb] at HG HRU
    clear hgb
    by_cases h1 : 100 < o.size
    · have g1 : (100 : Int) < (o.size : Int) := by omega
      have hr : R = false := by rw [HRU.out, decide_eq_false (show ¬ o.size ≤ 100 by omega)]; simp
      subst hr
      go_wp2_with fail
      refine (HG.out _).mono ?_
      rintro e w2 ⟨rfl, hb⟩
      have HB2 := Lib.hid (HB1.out.trans (hb.mono (by have := N1.out.lt; omega)))
      have N2 := Lib.hid (N1.out.below hb)
      clear hb c1
      have d2 := N2.out.at2
      simp only at d2
      go_wp2_with fail
      go_ret
      exact ⟨rfl, HB2.out⟩
    · have g1 : ¬ (100 : Int) < (o.size : Int) := by omega
      by_cases h2 : 100 < n.size
      · have g2 : (100 : Int) < (n.size : Int) := by omega
        have hr : R = false := by rw [HRU.out, decide_eq_false (show ¬ n.size ≤ 100 by omega)]; simp
        subst hr
        go_wp2_with fail
        refine (HG.out _).mono ?_
        rintro e w2 ⟨rfl, hb⟩
        have HB2 := Lib.hid (HB1.out.trans (hb.mono (by have := N1.out.lt; omega)))
        have N2 := Lib.hid (N1.out.below hb)
        clear hb c1
        have d2 := N2.out.at2
        have d3 := N2.out.at3
        simp only at d2 d3
        go_wp2_with fail
        go_ret
        exact ⟨rfl, HB2.out⟩
      · have g2 : ¬ (100 : Int) < (n.size : Int) := by omega
        have hru := HRU.out
        rw [decide_eq_true (show o.size ≤ 100 by omega), decide_eq_true (show n.size ≤ 100 by omega)] at hru
        simp only [Bool.and_true, Bool.true_and] at hru
        have HRV := Lib.hid hru
        clear hru HRU h1 h2
        go_wp2_with fail
        refine (HG.out _).mono ?_
        rintro e w2 ⟨rfl, hb⟩
        have HB2 := Lib.hid (HB1.out.trans (hb.mono (by have := N1.out.lt; omega)))
        have N2 := Lib.hid (N1.out.below hb)
        clear hb c1 HG HB1
        clear HW1
        have d0 := N2.out.at0
        have d2 := N2.out.at2
        have d3 := N2.out.at3
        simp only at d0 d2 d3
        by_cases k1 : k = 1
        · subst k1
          have hr := HRV.out
          rw [if_pos rfl] at hr
          have HR := Lib.hid hr
          clear hr HRV
          go_wp2_with fail
          refine (HTK.out _).mono ?_
          rintro e w3 ⟨rfl, rfl⟩
          go_wp2_with fail
          go_ret
          exact ⟨by rw [HR.out]; rfl, HB2.out⟩
        have hr := HRV.out
        rw [if_neg k1] at hr
        have HR1 := Lib.hid hr
        clear hr HRV
        by_cases k2 : k = 2
        · subst k2
          have hr := HR1.out
          rw [if_pos rfl] at hr
          cases hfo : feedsL o.data.toList with
          | true =>
            rw [hfo] at hr HFO
            have HR := Lib.hid hr
            clear hr HR1 hfo
            go_wp2_with fail
            refine (HFO.out _).mono ?_
            rintro e w3 ⟨rfl, hb⟩
            have HB3 := Lib.hid (HB2.out.trans (hb.mono (by have := N2.out.lt; omega)))
            clear hb d0 d2 d3
            go_wp2_with fail
            go_ret
            exact ⟨by rw [HR.out]; rfl, HB3.out⟩
          | false =>
            rw [hfo] at hr HFO
            have HR := Lib.hid hr
            clear hr HR1 hfo
            go_wp2_with fail
            refine (HFO.out _).mono ?_
            rintro e w3 ⟨rfl, hb⟩
            have HB3 := Lib.hid (HB2.out.trans (hb.mono (by have := N2.out.lt; omega)))
            have e3 := (N2.out.below hb).at3
            have N3 := Lib.hid (N2.out.below hb)
            simp only at e3
            clear hb d0 d2 d3
            go_wp2_with fail
            refine (HFN.out _).mono ?_
            rintro e w4 ⟨rfl, hb⟩
            have HB4 := Lib.hid (HB3.out.trans (hb.mono (by have := N3.out.lt; omega)))
            clear hb e3
            go_wp2_with fail
            go_ret
            exact ⟨by rw [HR.out]; simp, HB4.out⟩
        have hr := HR1.out
        rw [if_neg k2] at hr
        have HR2 := Lib.hid hr
        clear hr HR1
        by_cases k3 : k = 3
        · subst k3
          have hr := HR2.out
          rw [if_pos rfl] at hr
          cases hfo : feedsL o.data.toList with
          | true =>
            rw [hfo] at hr HFO
            have HR := Lib.hid hr
            clear hr HR2 hfo
            go_wp2_with fail
            refine (HFO.out _).mono ?_
            rintro e w3 ⟨rfl, hb⟩
            have HB3 := Lib.hid (HB2.out.trans (hb.mono (by have := N2.out.lt; omega)))
            clear hb d0 d2 d3
            go_wp2_with fail
            go_ret
            exact ⟨by rw [HR.out]; simp, HB3.out⟩
          | false =>
            rw [hfo] at hr HFO
            obtain ⟨z, hz⟩ : ∃ z, n.toList.isEmpty = z := ⟨_, rfl⟩
            rw [empty_of hz] at hr
            have HR := Lib.hid hr
            clear hr HR2 hfo
            go_wp2_with fail
            refine (HFO.out _).mono ?_
            rintro e w3 ⟨rfl, hb⟩
            have HB3 := Lib.hid (HB2.out.trans (hb.mono (by have := N2.out.lt; omega)))
            have e3 := (N2.out.below hb).at3
            simp only at e3
            clear hb d0 d2 d3
            go_wp2_with fail
            go_ret
            exact ⟨by rw [HR.out]; simp [], HB3.out⟩
        have hr := HR2.out
        rw [if_neg k3] at hr
        have HR3 := Lib.hid hr
        clear hr HR2
        by_cases k4 : k = 4
        · subst k4
          have hr := HR3.out
          rw [if_pos rfl] at hr
          cases hfo : rightB o.data.toList with
          | false =>
            rw [hfo] at hr HRO
            have HR := Lib.hid hr
            clear hr HR3 hfo
            go_wp2_with fail
            refine (HRO.out _).mono ?_
            rintro e w3 ⟨rfl, hb⟩
            have HB3 := Lib.hid (HB2.out.trans (hb.mono (by have := N2.out.lt; omega)))
            clear hb d0 d2 d3
            go_wp2_with fail
            go_ret
            exact ⟨by rw [HR.out]; rfl, HB3.out⟩
          | true =>
            rw [hfo] at hr HRO
            have HR := Lib.hid hr
            clear hr HR3 hfo
            go_wp2_with fail
            refine (HRO.out _).mono ?_
            rintro e w3 ⟨rfl, hb⟩
            have HB3 := Lib.hid (HB2.out.trans (hb.mono (by have := N2.out.lt; omega)))
            have e3 := (N2.out.below hb).at3
            have N3 := Lib.hid (N2.out.below hb)
            simp only at e3
            clear hb d0 d2 d3
            go_wp2_with fail
            refine (HRN.out _).mono ?_
            rintro e w4 ⟨rfl, hb⟩
            have HB4 := Lib.hid (HB3.out.trans (hb.mono (by have := N3.out.lt; omega)))
            clear hb e3
            go_wp2_with fail
            go_ret
            exact ⟨by rw [HR.out]; rfl, HB4.out⟩
        have hr := HR3.out
        rw [if_neg k4] at hr
        have HR4 := Lib.hid hr
        clear hr HR3
        by_cases k5 : k = 5
        · subst k5
          have hr := HR4.out
          rw [if_pos rfl] at hr
          obtain ⟨y, hy⟩ : ∃ z, o.toList.isEmpty = z := ⟨_, rfl⟩
          obtain ⟨z, hz⟩ : ∃ z, n.toList.isEmpty = z := ⟨_, rfl⟩
          rw [empty_of hy, empty_of hz] at hr
          have HR := Lib.hid hr
          clear hr HR4
          cases y with
          | false =>
            go_wp2_with fail
            go_ret
            exact ⟨by rw [HR.out]; rfl, HB2.out⟩
          | true =>
            go_wp2_with fail
            go_ret
            exact ⟨by rw [HR.out]; simp [], HB2.out⟩
        have hr := HR4.out
        rw [if_neg k5] at hr
        subst hr
        clear HR4
        go_wp2_with fail
        go_ret
        exact ⟨rfl, HB2.out⟩

def txtN (k : Nat) : Nat := if k = 0 then 0 else textsN k
theorem txt_at (W : World) (t : TypeId) {k : Nat} (h : k ≤ 5) : (W.alloc (.cells #[.int .i64 0, .int .i64 2, .int .i64 2, .int .i64 1, .int .i64 2, .int .i64 0] t)).cell? ⟨W.heap.size, k, none⟩ = some (.int .i64 (txtN k)) := by
  have hn := heap_alloc_new W (.cells #[.int .i64 0, .int .i64 2, .int .i64 2, .int .i64 1, .int .i64 2, .int .i64 0] t)
  rw [cell_of_row _ _ _ _ _ _ hn]
  match k, h with
  | 0, _ => rfl
  | 1, _ => rfl
  | 2, _ => rfl
  | 3, _ => rfl
  | 4, _ => rfl
  | 5, _ => rfl
theorem rtexts_any (k : Nat) (w : World) (hk : k ≤ 5) : Calls Tryd.prog 45 #[.int .i64 k] w fun e w' => e = .returned (.int .i64 (txtN k)) ∧ Below w.heap.size w w' := by
  have ha := txt_at w 3 hk
  have k1 : (k : Int) < 6 := by omega
  go_enter Tryd.func45, Tryd.ntmps45
  go_wp2_with fail
  go_ret
  exact ⟨rfl, (Below.refl _ _).alloc (Nat.le_refl _) _⟩
def wordsO (t : TypeId) : Obj := .cells #[.string ⟨#[]⟩, .string ⟨#[114, 101, 112, 108, 97, 99, 101]⟩, .string ⟨#[105, 110, 115, 101, 114, 116]⟩, .string ⟨#[115, 116, 114, 105, 107, 101]⟩, .string ⟨#[114, 101, 110, 97, 109, 101]⟩, .string ⟨#[114, 101, 109, 111, 118, 101]⟩] t
theorem word_at (W : World) (t : TypeId) {k : Nat} (h : k ≤ 5) : (W.alloc (wordsO t)).cell? ⟨W.heap.size, k, none⟩ = some (.string (mkB (wordK k))) := by
  have hn := heap_alloc_new W (wordsO t)
  unfold wordsO at hn ⊢
  rw [cell_of_row _ _ _ _ _ _ hn]
  match k, h with
  | 0, _ => rfl
  | 1, _ => rfl
  | 2, _ => rfl
  | 3, _ => rfl
  | 4, _ => rfl
  | 5, _ => rfl
theorem rwords_any (w : World) : Calls Tryd.prog 46 #[] w fun e w' => e = .returned (.slice (some ⟨w.heap.size, 0, none⟩) 6 6) ∧ w' = w.alloc (wordsO 9) := by
  go_enter Tryd.func46, Tryd.ntmps46
  go_wp2_with fail
  go_ret
  exact ⟨rfl, rfl⟩
end Go.Proofs.YthkbpophckjdnaaDoor
