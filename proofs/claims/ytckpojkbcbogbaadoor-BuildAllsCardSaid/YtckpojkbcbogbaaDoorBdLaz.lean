/-
  The document's sorted: targets by names. · The document's own: all targets of a tree. (gen_bdrefall.py) · The walk of BuildAlls.
-/
import Derived.Test.YtckpojkbcbogbaaDoorBdUse
import Derived.BigQuiet
import Derived.IntWalk
import Derived.Test.YtckpojkbcbogbaaDoorBdRefz
import Derived.Test.YtckpojkbcbogbaaDoorRefSmall
import Derived.Deep.RegionHeld3
import Derived.Test.YtckpojkbcbogbaaDoorBdSame
namespace Go.Proofs.YtckpojkbcbogbaaDoor
open Go Go.RowKit Go.Shelf Go.Proofs
attribute [local go_sem] Oper.semAt_some

def leX (x y : TX) : Bool := !ltB x.n.data.toList y.n.data.toList
def insY (L : List TX) (x : TX) : List TX := L.takeWhile (leX x) ++ x :: L.dropWhile (leX x)
theorem insY_tgs (L : List TX) (x : TX) : tgsX (insY L x) = insN (tgsX L) x.tg := by
  unfold insY insN tgsX
  rw [List.map_append, List.map_cons, List.takeWhile_map, List.dropWhile_map]
  rfl
def sortY (l : List TX) : List TX := l.foldl insY []
theorem sortY_gen : ∀ (l a : List TX), tgsX (l.foldl insY a) = (tgsX l).foldl insN (tgsX a)
  | [], a => rfl
  | x :: l, a => by
    show tgsX (l.foldl insY (insY a x)) = (tgsX l).foldl insN (insN (tgsX a) x.tg)
    rw [sortY_gen l, insY_tgs]
theorem sortY_tgs (l : List TX) : tgsX (sortY l) = sortN (tgsX l) := sortY_gen l []
theorem sortY_next {l : List TX} {i : Nat} {x : TX} (hx : l[i]? = some x) : sortY (l.take (i + 1)) = insY (sortY (l.take i)) x := by
  unfold sortY
  rw [List.take_add_one, hx, List.foldl_append]
  rfl
theorem insY_length (L : List TX) (x : TX) : (insY L x).length = L.length + 1 := by
  unfold insY
  rw [List.length_append, List.length_cons]
  conv => rhs; rw [← List.takeWhile_append_dropWhile (p := leX x) (l := L), List.length_append]
  omega
theorem insY_at {L : List TX} {x : TX} {k : Nat} (hs : (tgsX L).Pairwise leN) (hk : k ≤ L.length) (h1 : ∀ (j : Nat) (y : TX), k ≤ j → L[j]? = some y → leX x y = false) (h2 : ∀ y, 0 < k → L[k - 1]? = some y → leX x y = true) : insY L x = L.take k ++ x :: L.drop k := by
  have ha : ∀ y ∈ L.take k, leX x y = true := by
    intro y hy
    obtain ⟨j, hj⟩ := List.mem_iff_getElem?.1 hy
    have hjk : j < k := by
      have := (List.getElem?_eq_some_iff.1 hj).1
      rw [List.length_take] at this
      omega
    rw [List.getElem?_take, if_pos hjk] at hj
    obtain ⟨z, hz⟩ : ∃ z, L[k - 1]? = some z := ⟨_, List.getElem?_eq_getElem (by omega)⟩
    have hz2 := h2 z (by omega) hz
    by_cases e : j = k - 1
    · subst e; rw [hj] at hz; cases hz; exact hz2
    · have hle : leN y.tg z.tg := by
        have h3 := List.pairwise_iff_getElem.1 hs j (k - 1) (by rw [tgsX_length]; omega) (by rw [tgsX_length]; omega) (by omega)
        have e1 : (tgsX L)[j]? = some y.tg := by rw [tgsX_getElem?, hj]; rfl
        have e2 : (tgsX L)[k - 1]? = some z.tg := by rw [tgsX_getElem?, hz]; rfl
        rw [(List.getElem?_eq_some_iff.1 e1).2, (List.getElem?_eq_some_iff.1 e2).2] at h3
        exact h3
      have hle2 : leN z.tg x.tg := by
        unfold leX at hz2
        show ltB x.n.data.toList z.n.data.toList = false
        simpa using hz2
      have := leN_trans hle hle2
      unfold leN at this
      unfold leX
      rw [show ltB x.n.data.toList y.n.data.toList = false from this]; rfl
  have hd : ∀ D : List TX, (∀ y, D[0]? = some y → leX x y = false) → D.takeWhile (leX x) = [] ∧ D.dropWhile (leX x) = D := by
    intro D hD
    cases D with
    | nil => exact ⟨rfl, rfl⟩
    | cons y D =>
      have := hD y rfl
      exact ⟨by rw [List.takeWhile_cons, if_neg (by simp [this])], by rw [List.dropWhile_cons, if_neg (by simp [this])]⟩
  obtain ⟨d1, d2⟩ := hd (L.drop k) (fun y hy => h1 k y (Nat.le_refl _) (by rw [List.getElem?_drop] at hy; simpa using hy))
  unfold insY
  conv => lhs; rw [← List.take_append_drop k L]
  rw [List.takeWhile_append_of_pos ha, List.dropWhile_append_of_pos ha, d1, d2, List.append_nil]

theorem insY_mem {L : List TX} {x y : TX} (h : y ∈ insY L x) : y ∈ L ∨ y = x := by
  unfold insY at h
  rcases List.mem_append.1 h with h | h
  · exact .inl ((List.takeWhile_sublist _).mem h)
  · rcases List.mem_cons.1 h with h | h
    · exact .inr h
    · exact .inl ((List.dropWhile_sublist _).mem h)
theorem sortY_mem : ∀ (l a : List TX) (y : TX), y ∈ l.foldl insY a → y ∈ l ∨ y ∈ a
  | [], _, _, h => .inr h
  | x :: l, a, y, h => by
    rcases sortY_mem l (insY a x) y h with h | h
    · exact .inl (List.mem_cons_of_mem _ h)
    · rcases insY_mem h with h | rfl
      · exact .inr h
      · exact .inl (by simp)
theorem tgs_take {w : World} {g o c k : Nat} {L : List TX} (hr : RowG w g o L) (hc : L.length ≤ c) (hm : c ≤ maxLen) (ho : ∀ x ∈ L, TgOk w x) : TgsAt w (some ⟨g, o, none⟩) c (L.take k) :=
  ⟨by rw [List.length_take]; omega, hm, fun _ => ⟨g, o, rfl, fun i x hx => hr i x (by
    rw [List.getElem?_take] at hx
    split at hx
    · exact hx
    · cases hx)⟩, fun x hx => ho x (List.mem_of_mem_take hx)⟩
theorem tgs_drop {w : World} {g o c k : Nat} {L : List TX} (hr : RowG w g o L) (hc : L.length ≤ c) (hm : c ≤ maxLen) (ho : ∀ x ∈ L, TgOk w x) : TgsAt w (if c = k then some ⟨g, o, none⟩ else some ⟨g, o + k * 3, none⟩) (c - k) (L.drop k) := by
  refine ⟨by rw [List.length_drop]; omega, by omega, fun hn => ?_, fun x hx => ho x (List.mem_of_mem_drop hx)⟩
  rw [List.length_drop] at hn
  rw [if_neg (by omega)]
  refine ⟨g, o + k * 3, rfl, fun i x hx => ?_⟩
  rw [List.getElem?_drop] at hx
  have := hr (k + i) x hx
  rw [show o + (k + i) * 3 = o + k * 3 + i * 3 by omega] at this
  exact this
set_option maxRecDepth 100000 in
set_option maxHeartbeats 16000000 in
theorem bsorted_any (l : List TX) (A : Option Addr) (c : Nat) (w : World) (h : TgsAt w A c l) (hl : l.length ≤ 400000) :
    Calls Tryd.prog 31 #[.slice A l.length c] w fun e w' => ∃ A' c', e = .returned (.slice A' (sortY l).length c') ∧ TgsAt w' A' c' (sortY l) ∧ (A' = none → c' = 0) ∧ Below w.heap.size w w' := by
  have HH := Lib.hid h
  obtain ⟨N, hN⟩ : ∃ N, l.length = N := ⟨_, rfl⟩
  rw [hN] at hl ⊢
  have HN := Lib.hid hN
  clear h hN
  go_enter Tryd.func31, Tryd.ntmps31
  go_wp2_with fail
  go_loopw [3, 4] (fun v3 v4 wr => ∃ (i : Nat) (L : List TX), i ≤ N ∧ v4 = .int .i64 i ∧ Hid (L = sortY (l.take i)) ∧ Hid (wr.ownsRow w.heap.size 37 3 v3 L.length (gcells L)) ∧ Below w.heap.size w wr ∧ L.length = i ∧ (i = 0 → v3 = .slice none 0 0)) (fun _ v4 _ => N - (intOf v4).toNat)
  case atStart => exact ⟨0, [], Nat.zero_le _, rfl, rfl, World.ownsRow_nil _ _ _ _, Below.refl _ _, rfl, fun _ => rfl⟩
  case round =>
    obtain ⟨i, L, hi, rfl, HL, HOW, hbr, hli, hv0⟩ := hrel
    have HV0 := Lib.hid hv0
    clear hv0
    have HBR := Lib.hid hbr
    have HLI := Lib.hid hli
    clear hbr
    by_cases h1 : i < N
    · have i1 : (i : Int) < (N : Int) := by omega
      obtain ⟨x, hx⟩ : ∃ x, l[i]? = some x := ⟨_, List.getElem?_eq_getElem (by rw [HN.out]; exact h1)⟩
      obtain ⟨g, o, hA, hr⟩ := (HH.out.below HBR.out).row (by rw [HN.out]; omega)
      subst hA
      have HX := Lib.hid hx
      have HR := Lib.hid (hr i x hx)
      have HRW := Lib.hid hr
      obtain ⟨A3, c3, rfl, hn3, hc3, hm3, hrow3⟩ := own_slice HOW.out
      have HR3 := Lib.hid hrow3
      have HOK := Lib.hid (show ∀ W, Below wr.heap.size wr W → ∀ z ∈ L, TgOk W z from fun W hb z hz => by
        rw [HL.out] at hz
        rcases sortY_mem _ _ _ hz with hz | hz
        · exact (HH.out.below (HBR.out.trans (hb.mono HBR.out.size))).own z (List.mem_of_mem_take hz)
        · cases hz)
      have HSO := Lib.hid (show (tgsX L).Pairwise leN by rw [HL.out, sortY_tgs]; exact sortN_sorted _)
      obtain ⟨w0, hw0⟩ : ∃ W, W = wr := ⟨_, rfl⟩
      subst hw0
      rw [hli]
      rw [hli] at hc3
      clear hx hr hrow3 hli
      go_wp2_with fail
      go_loopw [5] (fun v wr => ∃ (k : Nat), k ≤ i ∧ v = .int .i64 k ∧ Below w0.heap.size w0 wr ∧ Hid (∀ (j : Nat) (y : TX), k ≤ j → L[j]? = some y → leX x y = false)) (fun v _ => (intOf v).toNat)
      case atStart => exact ⟨i, Nat.le_refl _, rfl, Below.refl _ _, fun j y hj hy => by have := (List.getElem?_eq_some_iff.1 hy).1; rw [HLI.out] at this; omega⟩
      case round =>
        obtain ⟨k, hk, rfl, hbr2, HK⟩ := hrel
        have HBR2 := Lib.hid hbr2
        clear hbr2
        have HTK := Lib.hid (show (L.take k).length = k by rw [List.length_take, HLI.out]; omega)
        by_cases hi0 : i = 0
        · have hv := HV0.out hi0
          obtain rfl : L = [] := List.eq_nil_of_length_eq_zero (by rw [HLI.out]; exact hi0)
          injection hv with e1 e2 e3
          subst e1
          subst e3
          have K0 := Lib.hid (show k = 0 by omega)
          have I0 := Lib.hid hi0
          have g0 : decide (0 < k) = false := by rw [decide_eq_false_iff_not]; omega
          have gk1 : ¬ (0 : Int) < (k : Int) := by omega
          have gk2 : (k : Int) ≤ (0 : Int) := by omega
          have gki : (k : Int) ≤ (i : Int) := by omega
          have hik : i - k = 0 := by omega
          clear e2 hi0 hn3
          go_wp2_with fail
          go_quiet (fail)
          go_upto_region 9 with fail
          obtain ⟨wq, hwq⟩ : ∃ W, wr.drewN nq = W := ⟨_, rfl⟩
          have HBQ := Lib.hid (show Below w0.heap.size w0 wq by rw [← hwq]; exact ⟨HBR2.out.os, HBR2.out.tape, HBR2.out.output, HBR2.out.size, HBR2.out.block⟩)
          rw [hwq]
          clear hwq
          have hbq := HBR.out.trans (HBQ.out.mono HBR.out.size)
          go_upto_region 10 with (at_builtin; go_loud (refine wpList_append_tgs rfl _ _ rfl wq.heap.size (.slice none 0 0) none 0 [] [] rfl (World.ownsRow_nil _ _ _ _) (by first | rfl | (rw [K0.out]; rfl) | simp [Act.eval, K0.out]) (TgsAt.nil0 wq) (fun _ => rfl) (by simp) (Nat.le_refl _) ?_; intro v9 w9 hown9 hgr9))
          have hb9 : Below wq.heap.size wq w9 := (Below.refl _ _).grown hgr9 (Nat.le_refl _) (fun _ e => by simp [Value.ownBlock] at e)
          have HO9 := Lib.hid hown9
          have hbx9 := HBQ.out.trans (hb9.mono HBQ.out.size)
          obtain ⟨x0, x1, x2⟩ := (show RowG w0 g o l from (HRW.out)).below hbx9 i x HX.out
          have HB9 := Lib.hid hb9
          have hz9 := hb9.size
          have HX9 := Lib.hid (tgs_one w9 x ((HH.out.below (hbq.trans (hb9.mono hbq.size))).own x (List.mem_of_getElem? HX.out)))
          clear hown9 hgr9 hb9 hbx9
          go_upto_region 11 with (at_builtin; go_loud (refine wpList_append_tgs rfl _ _ rfl wq.heap.size v9 (some ⟨w9.heap.size, 0, none⟩) 1 ([] ++ []) [x] rfl (HO9.out.alloc _) rfl HX9.out (fun e => by cases e) (by simp) (by rw [World.size_alloc]; omega) ?_; intro v10 w10 hown10 hgr10))
          clear x0 x1 x2
          have hb10 : Below wq.heap.size wq w10 := (HB9.out.alloc HB9.out.size _).grown hgr10 (by rw [World.size_alloc]; omega) (fun _ e => (row_ge HO9.out e).1)
          have HB10 := Lib.hid hb10
          obtain ⟨A10, c10, hv10, -, -, -, -⟩ := own_slice hown10
          subst hv10
          have HO10 := Lib.hid (show w10.ownsRow wq.heap.size 37 3 (.slice A10 1 c10) [x].length (gcells [x]) from hown10)
          have hz10 := hb10.size
          clear hown10 hgr10 hb10
          try rw [show ([] ++ [] ++ [x] : List TX).length = 1 from rfl]
          go_upto_region 12 with (at_builtin; go_loud (refine wpList_append_tgs rfl _ _ rfl wq.heap.size (.slice A10 1 c10) none 0 [x] [] rfl HO10.out (by first | rfl | (rw [K0.out]; rfl) | simp [Act.eval, K0.out, I0.out]) (TgsAt.nil0 w10) (fun _ => rfl) (by simp) (by omega) ?_; intro v11 w11 hown11 hgr11))
          have hb11 : Below wq.heap.size wq w11 := HB10.out.grown hgr11 HB10.out.size (fun _ e => (row_ge HO10.out e).1)
          have HB11 := Lib.hid (hbq.trans (hb11.mono hbq.size))
          have HO11 := Lib.hid (own_lower (show w11.ownsRow wq.heap.size 37 3 v11 (insY [] x).length (gcells (insY [] x)) from hown11) hbq.size)
          clear hown11 hgr11 hb11
          go_wp2_with fail
          go_roundw
          case rel => exact ⟨i + 1, insY [] x, by omega, by go_num, by unfold Hid; rw [sortY_next HX.out, ← HL.out], HO11.out, HB11.out, by rw [insY_length, HLI.out], fun e => absurd e (by omega)⟩
          case measure => simp [intOf]; omega
        · by_cases hk0 : k = 0
          · have g0 : decide (0 < k) = false := by rw [decide_eq_false_iff_not]; omega
            have HE := Lib.hid (show insY L x = L.take k ++ x :: L.drop k from insY_at HSO.out (by rw [HLI.out]; exact hk) HK.out (fun y hy => absurd hy (by omega)))
            obtain ⟨g3, o3, hP3, hRG3⟩ : ∃ g o, A3 = some ⟨g, o, none⟩ ∧ RowG w0 g o L := HR3.out (by rw [HLI.out]; omega)
            subst hP3
            have HRG := Lib.hid hRG3
            clear hRG3 hn3
            clear hk0
            have gkc : (k : Int) ≤ (c3 : Int) := by omega
            have gki : (k : Int) ≤ (i : Int) := by omega
            go_wp2_with fail
            go_quiet (fail)
            go_upto_region 9 with fail
            obtain ⟨wq, hwq⟩ : ∃ W, wr.drewN nq = W := ⟨_, rfl⟩
            have HBQ := Lib.hid (show Below w0.heap.size w0 wq by rw [← hwq]; exact ⟨HBR2.out.os, HBR2.out.tape, HBR2.out.output, HBR2.out.size, HBR2.out.block⟩)
            have HOKQ := Lib.hid (HOK.out wq HBQ.out)
            have HRGQ := Lib.hid ((HRG.out.below HBQ.out))
            rw [hwq]
            clear hwq
            have hbq := HBR.out.trans (HBQ.out.mono HBR.out.size)
            go_upto_region 10 with (at_builtin; go_loud (refine wpList_append_tgs rfl _ _ rfl wq.heap.size (.slice none 0 0) (some ⟨g3, o3, none⟩) c3 [] (L.take k) rfl (World.ownsRow_nil _ _ _ _) (by rw [HTK.out]; rfl) (tgs_take HRGQ.out (by rw [HLI.out]; exact hc3) hm3 HOKQ.out) (fun e => by cases e) (by rw [HTK.out]; simp; omega) (Nat.le_refl _) ?_; intro v9 w9 hown9 hgr9))
            rw [List.nil_append] at hown9
            have hb9 : Below wq.heap.size wq w9 := (Below.refl _ _).grown hgr9 (Nat.le_refl _) (fun _ e => by simp [Value.ownBlock] at e)
            have HO9 := Lib.hid hown9
            have hbx9 := HBQ.out.trans (hb9.mono HBQ.out.size)
            obtain ⟨x0, x1, x2⟩ := (show RowG w0 g o l from (HRW.out)).below hbx9 i x HX.out
            have HB9 := Lib.hid hb9
            have hz9 := hb9.size
            have HX9 := Lib.hid (tgs_one w9 x ((HH.out.below (hbq.trans (hb9.mono hbq.size))).own x (List.mem_of_getElem? HX.out)))
            clear hown9 hgr9 hb9 hbx9
            go_upto_region 11 with (at_builtin; go_loud (refine wpList_append_tgs rfl _ _ rfl wq.heap.size v9 (some ⟨w9.heap.size, 0, none⟩) 1 (L.take k) [x] rfl (HO9.out.alloc _) rfl HX9.out (fun e => by cases e) (by rw [HTK.out]; simp; omega) (by rw [World.size_alloc]; omega) ?_; intro v10 w10 hown10 hgr10))
            clear x0 x1 x2
            have hb10 : Below wq.heap.size wq w10 := (HB9.out.alloc HB9.out.size _).grown hgr10 (by rw [World.size_alloc]; omega) (fun _ e => (row_ge HO9.out e).1)
            have HB10 := Lib.hid hb10
            obtain ⟨A10, c10, hv10, -, -, -, -⟩ := own_slice hown10
            subst hv10
            have HO10 := Lib.hid hown10
            have hz10 := hb10.size
            have HRG10 := Lib.hid (HRGQ.out.below HB10.out)
            obtain ⟨A11, hA11⟩ : ∃ A : Option Addr, (if c3 = k then some ⟨g3, o3, none⟩ else some ⟨g3, o3 + k * 3, none⟩) = A := ⟨_, rfl⟩
            have htd := tgs_drop (k := k) HRG10.out (by rw [HLI.out]; exact hc3) hm3 (HOK.out w10 (HBQ.out.trans (HB10.out.mono HBQ.out.size)))
            rw [hA11] at htd
            have HTD := Lib.hid htd
            have HN11 := Lib.hid (show A11 = none → c3 - k = 0 from fun e => by rw [← hA11] at e; split at e <;> cases e)
            have HDL := Lib.hid (show (L.drop k).length = i - k by rw [List.length_drop, HLI.out])
            obtain ⟨n10, hn10⟩ : ∃ n, (L.take k ++ [x]).length = n := ⟨_, rfl⟩
            have HN10 := Lib.hid (show n10 = k + 1 by rw [← hn10, List.length_append, HTK.out]; rfl)
            have HO10 := Lib.hid (show w10.ownsRow wq.heap.size 37 3 (.slice A10 n10 c10) (L.take k ++ [x]).length (gcells (L.take k ++ [x])) by rw [← hn10]; exact HO10.out)
            rw [hn10]
            clear hown10 hgr10 hb10 htd hn10
            go_upto_region 12 with (at_builtin; go_loud (refine wpList_append_tgs rfl _ _ rfl wq.heap.size (.slice A10 n10 c10) A11 (c3 - k) (L.take k ++ [x]) (L.drop k) rfl HO10.out (by rw [HDL.out]; rfl) HTD.out HN11.out (by rw [HDL.out, List.length_append, HTK.out]; simp; omega) (by omega) ?_; intro v11 w11 hown11 hgr11))
            have hb11 : Below wq.heap.size wq w11 := HB10.out.grown hgr11 HB10.out.size (fun _ e => (row_ge HO10.out e).1)
            have HB11 := Lib.hid (hbq.trans (hb11.mono hbq.size))
            have hins : L.take k ++ [x] ++ L.drop k = insY L x := by rw [HE.out]; simp
            rw [hins] at hown11
            have HO11 := Lib.hid (own_lower hown11 hbq.size)
            clear hown11 hgr11 hb11 hins
            go_wp2_with fail
            go_roundw
            case rel => exact ⟨i + 1, insY L x, by omega, by go_num, by unfold Hid; rw [sortY_next HX.out, ← HL.out], HO11.out, HB11.out, by rw [insY_length, HLI.out], fun e => absurd e (by omega)⟩
            case measure => simp [intOf]; omega
          · have g0 : decide (0 < k) = true := by rw [decide_eq_true_eq]; omega
            obtain ⟨y, hy⟩ : ∃ y, L[k - 1]? = some y := ⟨_, List.getElem?_eq_getElem (by rw [HLI.out]; omega)⟩
            obtain ⟨g3, o3, hP3, hRG3⟩ : ∃ g o, A3 = some ⟨g, o, none⟩ ∧ RowG w0 g o L := HR3.out (by rw [HLI.out]; omega)
            subst hP3
            have HRG := Lib.hid hRG3
            clear hRG3 hn3
            have HY := Lib.hid hy
            obtain ⟨x0, x1, x2⟩ := HR.out
            obtain ⟨y0, y1, y2⟩ := HRG.out (k - 1) y hy
            have x0 := (HBR2.out.cell (p := ⟨g, o + i * 3, none⟩) (World.block_lt_of_cell? w0 (a := ⟨g, o + i * 3, none⟩) x0)).trans x0
            have y0 := (HBR2.out.cell (p := ⟨g3, o3 + (k - 1) * 3, none⟩) (World.block_lt_of_cell? w0 (a := ⟨g3, o3 + (k - 1) * 3, none⟩) y0)).trans y0
            have km : ((k - 1 : Nat) : Int) = (k : Int) - 1 := by omega
            clear x1 x2 y1 y2 hy
            cases hq : ltB x.n.data.toList y.n.data.toList with
            | true =>
              have l1 : Op.bytesLess y.n.toList x.n.toList = false := by rw [ByteArray.toList_eq, ByteArray.toList_eq, ltB_def]; exact ltB_asymm _ _ hq
              have l2 : (y.n.toList == x.n.toList) = false := by rw [ByteArray.toList_eq, ByteArray.toList_eq, beq_eq_false_iff_ne]; intro e; rw [e, ltB_irrefl] at hq; cases hq
              have HQ := Lib.hid hq
              clear hq
              go_wp2_with fail
              go_quiet (fail)
              go_wp2_with fail
              refine ⟨⟨k - 1, by omega, by rw [km], ⟨HBR2.out.os, HBR2.out.tape, HBR2.out.output, HBR2.out.size, HBR2.out.block⟩, fun j z hj hz => ?_⟩, ?_⟩
              · by_cases e : j = k - 1
                · subst e
                  rw [HY.out] at hz
                  cases hz
                  unfold leX
                  rw [HQ.out]; rfl
                · exact HK.out j z (by omega) hz
              · simp [intOf]; omega
            | false =>
              have hex : ∀ z, 0 < k → L[k - 1]? = some z → leX x z = true := fun z _ hz => by
                rw [HY.out] at hz
                cases hz
                unfold leX
                rw [hq]; rfl
              have HE := Lib.hid (show insY L x = L.take k ++ x :: L.drop k from insY_at HSO.out (by rw [HLI.out]; exact hk) HK.out hex)
              clear hex
              cases hq2 : ltB y.n.data.toList x.n.data.toList with
              | true =>
                have l1 : Op.bytesLess y.n.toList x.n.toList = true := by rw [ByteArray.toList_eq, ByteArray.toList_eq, ltB_def]; exact hq2
                clear hq hq2
                have gkc : (k : Int) ≤ (c3 : Int) := by omega
                have gki : (k : Int) ≤ (i : Int) := by omega
                go_wp2_with fail
                go_quiet (fail)
                go_upto_region 9 with fail
                obtain ⟨wq, hwq⟩ : ∃ W, wr.drewN nq = W := ⟨_, rfl⟩
                have HBQ := Lib.hid (show Below w0.heap.size w0 wq by rw [← hwq]; exact ⟨HBR2.out.os, HBR2.out.tape, HBR2.out.output, HBR2.out.size, HBR2.out.block⟩)
                have HOKQ := Lib.hid (HOK.out wq HBQ.out)
                have HRGQ := Lib.hid ((HRG.out.below HBQ.out))
                rw [hwq]
                clear hwq
                have hbq := HBR.out.trans (HBQ.out.mono HBR.out.size)
                go_upto_region 10 with (at_builtin; go_loud (refine wpList_append_tgs rfl _ _ rfl wq.heap.size (.slice none 0 0) (some ⟨g3, o3, none⟩) c3 [] (L.take k) rfl (World.ownsRow_nil _ _ _ _) (by rw [HTK.out]; rfl) (tgs_take HRGQ.out (by rw [HLI.out]; exact hc3) hm3 HOKQ.out) (fun e => by cases e) (by rw [HTK.out]; simp; omega) (Nat.le_refl _) ?_; intro v9 w9 hown9 hgr9))
                rw [List.nil_append] at hown9
                have hb9 : Below wq.heap.size wq w9 := (Below.refl _ _).grown hgr9 (Nat.le_refl _) (fun _ e => by simp [Value.ownBlock] at e)
                have HO9 := Lib.hid hown9
                have hbx9 := HBQ.out.trans (hb9.mono HBQ.out.size)
                obtain ⟨x0, x1, x2⟩ := (show RowG w0 g o l from (HRW.out)).below hbx9 i x HX.out
                have HB9 := Lib.hid hb9
                have hz9 := hb9.size
                have HX9 := Lib.hid (tgs_one w9 x ((HH.out.below (hbq.trans (hb9.mono hbq.size))).own x (List.mem_of_getElem? HX.out)))
                clear hown9 hgr9 hb9 hbx9
                go_upto_region 11 with (at_builtin; go_loud (refine wpList_append_tgs rfl _ _ rfl wq.heap.size v9 (some ⟨w9.heap.size, 0, none⟩) 1 (L.take k) [x] rfl (HO9.out.alloc _) rfl HX9.out (fun e => by cases e) (by rw [HTK.out]; simp; omega) (by rw [World.size_alloc]; omega) ?_; intro v10 w10 hown10 hgr10))
                clear x0 x1 x2
                have hb10 : Below wq.heap.size wq w10 := (HB9.out.alloc HB9.out.size _).grown hgr10 (by rw [World.size_alloc]; omega) (fun _ e => (row_ge HO9.out e).1)
                have HB10 := Lib.hid hb10
                obtain ⟨A10, c10, hv10, -, -, -, -⟩ := own_slice hown10
                subst hv10
                have HO10 := Lib.hid hown10
                have hz10 := hb10.size
                have HRG10 := Lib.hid (HRGQ.out.below HB10.out)
                obtain ⟨A11, hA11⟩ : ∃ A : Option Addr, (if c3 = k then some ⟨g3, o3, none⟩ else some ⟨g3, o3 + k * 3, none⟩) = A := ⟨_, rfl⟩
                have htd := tgs_drop (k := k) HRG10.out (by rw [HLI.out]; exact hc3) hm3 (HOK.out w10 (HBQ.out.trans (HB10.out.mono HBQ.out.size)))
                rw [hA11] at htd
                have HTD := Lib.hid htd
                have HN11 := Lib.hid (show A11 = none → c3 - k = 0 from fun e => by rw [← hA11] at e; split at e <;> cases e)
                have HDL := Lib.hid (show (L.drop k).length = i - k by rw [List.length_drop, HLI.out])
                obtain ⟨n10, hn10⟩ : ∃ n, (L.take k ++ [x]).length = n := ⟨_, rfl⟩
                have HN10 := Lib.hid (show n10 = k + 1 by rw [← hn10, List.length_append, HTK.out]; rfl)
                have HO10 := Lib.hid (show w10.ownsRow wq.heap.size 37 3 (.slice A10 n10 c10) (L.take k ++ [x]).length (gcells (L.take k ++ [x])) by rw [← hn10]; exact HO10.out)
                rw [hn10]
                clear hown10 hgr10 hb10 htd hn10
                go_upto_region 12 with (at_builtin; go_loud (refine wpList_append_tgs rfl _ _ rfl wq.heap.size (.slice A10 n10 c10) A11 (c3 - k) (L.take k ++ [x]) (L.drop k) rfl HO10.out (by rw [HDL.out]; rfl) HTD.out HN11.out (by rw [HDL.out, List.length_append, HTK.out]; simp; omega) (by omega) ?_; intro v11 w11 hown11 hgr11))
                have hb11 : Below wq.heap.size wq w11 := HB10.out.grown hgr11 HB10.out.size (fun _ e => (row_ge HO10.out e).1)
                have HB11 := Lib.hid (hbq.trans (hb11.mono hbq.size))
                have hins : L.take k ++ [x] ++ L.drop k = insY L x := by rw [HE.out]; simp
                rw [hins] at hown11
                have HO11 := Lib.hid (own_lower hown11 hbq.size)
                clear hown11 hgr11 hb11 hins
                go_wp2_with fail
                go_roundw
                case rel => exact ⟨i + 1, insY L x, by omega, by go_num, by unfold Hid; rw [sortY_next HX.out, ← HL.out], HO11.out, HB11.out, by rw [insY_length, HLI.out], fun e => absurd e (by omega)⟩
                case measure => simp [intOf]; omega
              | false =>
                have l1 : Op.bytesLess y.n.toList x.n.toList = false := by rw [ByteArray.toList_eq, ByteArray.toList_eq, ltB_def]; exact hq2
                have l2 : (y.n.toList == x.n.toList) = true := by rw [ByteArray.toList_eq, ByteArray.toList_eq, beq_iff_eq]; exact ltB_tri _ _ hq2 hq
                clear hq hq2
                have gkc : (k : Int) ≤ (c3 : Int) := by omega
                have gki : (k : Int) ≤ (i : Int) := by omega
                go_wp2_with fail
                go_quiet (fail)
                go_upto_region 9 with fail
                obtain ⟨wq, hwq⟩ : ∃ W, wr.drewN nq = W := ⟨_, rfl⟩
                have HBQ := Lib.hid (show Below w0.heap.size w0 wq by rw [← hwq]; exact ⟨HBR2.out.os, HBR2.out.tape, HBR2.out.output, HBR2.out.size, HBR2.out.block⟩)
                have HOKQ := Lib.hid (HOK.out wq HBQ.out)
                have HRGQ := Lib.hid ((HRG.out.below HBQ.out))
                rw [hwq]
                clear hwq
                have hbq := HBR.out.trans (HBQ.out.mono HBR.out.size)
                go_upto_region 10 with (at_builtin; go_loud (refine wpList_append_tgs rfl _ _ rfl wq.heap.size (.slice none 0 0) (some ⟨g3, o3, none⟩) c3 [] (L.take k) rfl (World.ownsRow_nil _ _ _ _) (by rw [HTK.out]; rfl) (tgs_take HRGQ.out (by rw [HLI.out]; exact hc3) hm3 HOKQ.out) (fun e => by cases e) (by rw [HTK.out]; simp; omega) (Nat.le_refl _) ?_; intro v9 w9 hown9 hgr9))
                rw [List.nil_append] at hown9
                have hb9 : Below wq.heap.size wq w9 := (Below.refl _ _).grown hgr9 (Nat.le_refl _) (fun _ e => by simp [Value.ownBlock] at e)
                have HO9 := Lib.hid hown9
                have hbx9 := HBQ.out.trans (hb9.mono HBQ.out.size)
                obtain ⟨x0, x1, x2⟩ := (show RowG w0 g o l from (HRW.out)).below hbx9 i x HX.out
                have HB9 := Lib.hid hb9
                have hz9 := hb9.size
                have HX9 := Lib.hid (tgs_one w9 x ((HH.out.below (hbq.trans (hb9.mono hbq.size))).own x (List.mem_of_getElem? HX.out)))
                clear hown9 hgr9 hb9 hbx9
                go_upto_region 11 with (at_builtin; go_loud (refine wpList_append_tgs rfl _ _ rfl wq.heap.size v9 (some ⟨w9.heap.size, 0, none⟩) 1 (L.take k) [x] rfl (HO9.out.alloc _) rfl HX9.out (fun e => by cases e) (by rw [HTK.out]; simp; omega) (by rw [World.size_alloc]; omega) ?_; intro v10 w10 hown10 hgr10))
                clear x0 x1 x2
                have hb10 : Below wq.heap.size wq w10 := (HB9.out.alloc HB9.out.size _).grown hgr10 (by rw [World.size_alloc]; omega) (fun _ e => (row_ge HO9.out e).1)
                have HB10 := Lib.hid hb10
                obtain ⟨A10, c10, hv10, -, -, -, -⟩ := own_slice hown10
                subst hv10
                have HO10 := Lib.hid hown10
                have hz10 := hb10.size
                have HRG10 := Lib.hid (HRGQ.out.below HB10.out)
                obtain ⟨A11, hA11⟩ : ∃ A : Option Addr, (if c3 = k then some ⟨g3, o3, none⟩ else some ⟨g3, o3 + k * 3, none⟩) = A := ⟨_, rfl⟩
                have htd := tgs_drop (k := k) HRG10.out (by rw [HLI.out]; exact hc3) hm3 (HOK.out w10 (HBQ.out.trans (HB10.out.mono HBQ.out.size)))
                rw [hA11] at htd
                have HTD := Lib.hid htd
                have HN11 := Lib.hid (show A11 = none → c3 - k = 0 from fun e => by rw [← hA11] at e; split at e <;> cases e)
                have HDL := Lib.hid (show (L.drop k).length = i - k by rw [List.length_drop, HLI.out])
                obtain ⟨n10, hn10⟩ : ∃ n, (L.take k ++ [x]).length = n := ⟨_, rfl⟩
                have HN10 := Lib.hid (show n10 = k + 1 by rw [← hn10, List.length_append, HTK.out]; rfl)
                have HO10 := Lib.hid (show w10.ownsRow wq.heap.size 37 3 (.slice A10 n10 c10) (L.take k ++ [x]).length (gcells (L.take k ++ [x])) by rw [← hn10]; exact HO10.out)
                rw [hn10]
                clear hown10 hgr10 hb10 htd hn10
                go_upto_region 12 with (at_builtin; go_loud (refine wpList_append_tgs rfl _ _ rfl wq.heap.size (.slice A10 n10 c10) A11 (c3 - k) (L.take k ++ [x]) (L.drop k) rfl HO10.out (by rw [HDL.out]; rfl) HTD.out HN11.out (by rw [HDL.out, List.length_append, HTK.out]; simp; omega) (by omega) ?_; intro v11 w11 hown11 hgr11))
                have hb11 : Below wq.heap.size wq w11 := HB10.out.grown hgr11 HB10.out.size (fun _ e => (row_ge HO10.out e).1)
                have HB11 := Lib.hid (hbq.trans (hb11.mono hbq.size))
                have hins : L.take k ++ [x] ++ L.drop k = insY L x := by rw [HE.out]; simp
                rw [hins] at hown11
                have HO11 := Lib.hid (own_lower hown11 hbq.size)
                clear hown11 hgr11 hb11 hins
                go_wp2_with fail
                go_roundw
                case rel => exact ⟨i + 1, insY L x, by omega, by go_num, by unfold Hid; rw [sortY_next HX.out, ← HL.out], HO11.out, HB11.out, by rw [insY_length, HLI.out], fun e => absurd e (by omega)⟩
                case measure => simp [intOf]; omega
    · obtain rfl : N = i := by omega
      obtain ⟨A3, c3, rfl, hn3, hc3, hm3, hrow3⟩ := own_slice HOW.out
      have hfin : L = sortY l := by rw [HL.out, List.take_of_length_le (by rw [HN.out]; exact Nat.le_refl _)]
      have HF := Lib.hid hfin
      have HA := Lib.hid (show TgsAt wr A3 c3 L from ⟨hc3, hm3, hrow3, fun z hz => by
        rw [HL.out] at hz
        rcases sortY_mem _ _ _ hz with hz | hz
        · exact (HH.out.below HBR.out).own z (List.mem_of_mem_take hz)
        · cases hz⟩)
      have HN3 := Lib.hid hn3
      clear hfin hrow3 hn3 hc3 hm3
      rw [hli]
      go_wp2_with fail
      go_ret
      exact ⟨A3, c3, by rw [← HF.out, hli]; rfl, by rw [← HF.out]; exact HA.out, HN3.out, HBR.out⟩
end Go.Proofs.YtckpojkbcbogbaaDoor
namespace Go.Proofs.YtckpojkbcbogbaaDoor
open Go Go.RowKit Go.Shelf Go.Proofs
attribute [local go_sem] Oper.semAt_some

theorem adj_nodup : ∀ (l : List Tg), l.Pairwise leN → (∀ (i : Nat) (x y : Tg), l[i]? = some x → l[i + 1]? = some y → y.n ≠ x.n) → (l.map Tg.n).Nodup
  | [], _, _ => List.Pairwise.nil
  | [_], _, _ => by simp
  | x :: y :: r, hp, ha => by
    obtain ⟨h1, h2⟩ := List.pairwise_cons.1 hp
    have ih := adj_nodup (y :: r) h2 (fun i a b e1 e2 => ha (i + 1) a b e1 e2)
    rw [List.map_cons, List.nodup_cons]
    refine ⟨fun hm => ?_, ih⟩
    obtain ⟨z, hz, e⟩ := List.mem_map.1 hm
    have hxy : y.n ≠ x.n := ha 0 x y rfl rfl
    rcases List.mem_cons.1 hz with rfl | hz
    · exact hxy e
    · have h3 := (List.pairwise_cons.1 h2).1 z hz
      have h4 := h1 y (by simp)
      unfold leN at h3 h4
      rw [e] at h3
      exact hxy (ltB_tri y.n x.n h4 h3).symm.symm
theorem twice_not {l : List Tg} {i : Nat} {x y : Tg} (h1 : l[i]? = some x) (h2 : l[i + 1]? = some y) (h : y.n = x.n) : ¬ (l.map Tg.n).Nodup := fun hn => by
  have e1 : (l.map Tg.n)[i]? = some x.n := by rw [List.getElem?_map, h1]; rfl
  have e2 : (l.map Tg.n)[i + 1]? = some x.n := by rw [List.getElem?_map, h2, ← h]; rfl
  obtain ⟨l1, g1⟩ := List.getElem?_eq_some_iff.1 e1
  obtain ⟨l2, g2⟩ := List.getElem?_eq_some_iff.1 e2
  exact (List.pairwise_iff_getElem.1 hn i (i + 1) l1 l2 (by omega)) (g1.trans g2.symm)
theorem whole_twice {l : List Tg} (h : ¬ (l.map Tg.n).Nodup) : wholeT l = 12 := by unfold wholeT; rw [if_neg h]
theorem whole_lone {l : List Tg} (h : (l.map Tg.n).Nodup) {x : Tg} {d : Bs} (hx : x ∈ l) (hd : d ∈ x.d) (hn : hasN l d = false) : wholeT l = 13 := by
  unfold wholeT
  rw [if_pos h, if_neg]
  intro e
  rw [List.all_eq_true] at e
  have := e x hx
  rw [List.all_eq_true] at this
  have := this d hd
  rw [hn] at this; cases this
theorem whole_good {l : List Tg} (h : (l.map Tg.n).Nodup) (ha : ∀ x ∈ l, ∀ d ∈ x.d, hasN l d = true) : wholeT l = 0 := by
  unfold wholeT
  rw [if_pos h, if_pos]
  rw [List.all_eq_true]
  intro x hx
  rw [List.all_eq_true]
  exact fun d hd => ha x hx d hd
theorem dirA_mkB (s : ByteArray) : dirA s = mkB (dirL s.data.toList) := by
  rcases Lib.lastIndexByte_spec s 47 with ⟨hk, hn⟩ | ⟨i, hi, hk, hc, hn⟩
  · have hr : dirA s = s.extract 0 0 := by unfold dirA; rw [hk]; rfl
    rw [hr, dirL_miss s hn]; apply ByteArray.ext; simp [mkB]
  · have hr : dirA s = s.extract 0 i := by unfold dirA; rw [hk]; congr 1; omega
    rw [hr, dirL_hit s i hi hc hn, ← data_mkB (s.extract 0 i), Lib.extract_data]; simp
theorem dir_list (s : ByteArray) : (dirA s).data.toList = dirL s.data.toList := by rw [dirA_mkB, mkB_data]
theorem own_at {b : Nat} {w : World} {A : Option Addr} {c : Nat} {l : List TX} (h : w.ownsRow b 37 3 (.slice A l.length c) l.length (gcells l)) (ho : ∀ x ∈ l, TgOk w x) : TgsAt w A c l := by
  obtain ⟨A', c', e, _, h1, h2, h3⟩ := own_slice h
  cases e
  exact ⟨h1, h2, h3, ho⟩
theorem belowQB {n : Nat} {a w : World} (h : Below n a w) (q : Nat) : Below n a (w.drewN q) := ⟨h.os, h.tape, h.output, h.size, h.block⟩
set_option maxRecDepth 100000 in
set_option maxHeartbeats 32000000 in
theorem brefall_any (A : Option Addr) (c : Nat) (t : List FX) (w : World) (h : TreeAt w A c t) (hl : t.length ≤ 60) (hs : ∀ f ∈ t, f.p.size ≤ 4000 ∧ f.b.length ≤ 4000) :
    Calls Tryd.prog 12 #[.slice A t.length c] w (BdPost (allT (flsX t)) w) := by
  have HH := Lib.hid h
  have HS := Lib.hid hs
  obtain ⟨N, hN⟩ : ∃ N, t.length = N := ⟨_, rfl⟩
  have HN := Lib.hid hN
  rw [hN] at hl ⊢
  clear h hs hN
  go_enter Tryd.func12, Tryd.ntmps12
  go_wp2_with fail
  go_loopw [4, 5] (fun v4 v5 wr => ∃ (k : Nat) (M : List TX), k ≤ N ∧ v5 = .int .i64 k ∧ Hid (gatherT ((flsX t).take k) (.ok []) = .ok (tgsX M)) ∧ Hid (wr.ownsRow w.heap.size 37 3 v4 M.length (gcells M)) ∧ Hid (∀ x ∈ M, TgT w.heap.size wr x) ∧ M.length ≤ 4001 * k ∧ Hid (Below w.heap.size w wr)) (fun _ v5 _ => N - (intOf v5).toNat)
  case atStart => exact ⟨0, [], Nat.zero_le _, rfl, rfl, World.ownsRow_nil _ _ _ _, (fun x hx => by cases hx), Nat.le_refl _, Below.refl _ _⟩
  case round =>
    obtain ⟨k, M, hk, rfl, HG, HOW, HOK, hMk, HB⟩ := hrel
    obtain ⟨A1, c1, rfl, hn1, -, -, -⟩ := own_slice HOW.out
    by_cases h1 : k < N
    · have k1 : (k : Int) < (N : Int) := by omega
      obtain ⟨f, hf⟩ : ∃ f, t[k]? = some f := ⟨_, List.getElem?_eq_getElem (by rw [HN.out]; exact h1)⟩
      have hfm := List.mem_of_getElem? hf
      obtain ⟨fz1, fz2⟩ := HS.out f hfm
      have hat := HH.out.below HB.out
      obtain ⟨g, o, hA, hr⟩ := hat.row (by rw [HN.out]; omega)
      subst hA
      obtain ⟨d0, d1⟩ := hr k f hf
      have hby := hat.files f hfm
      have HST := Lib.hid (gather_step hf HG.out)
      obtain ⟨fp, fA, fc, fb⟩ := f
      simp only at fz1 fz2 d0 d1 hby
      obtain ⟨nb, hnb⟩ : ∃ nb, fb.length = nb := ⟨_, rfl⟩
      rw [hnb] at d1
      have HNB := Lib.hid hnb
      have HBY := Lib.hid hby
      have hgl : g < wr.heap.size := World.block_lt_of_cell? wr (a := ⟨g, o + k * 2, none⟩) d0
      have HNN := Lib.hid hn1
      have hwz := HB.out.size
      clear hnb hf hfm hat hr hby hn1
      obtain ⟨bz, hbz⟩ : ∃ bz, baseA fp = bz := ⟨_, rfl⟩
      have hbd : isBd fp.data.toList = (bz.toList == (ByteArray.mk #[66, 85, 73, 76, 68]).toList) := by
        unfold isBd
        rw [← base_list, hbz, ByteArray.toList_eq, ByteArray.toList_eq, buildS]
      have HBA := Lib.hid (fun W => refbase_any fp W (by omega))
      rw [hbz] at HBA
      have HBD := Lib.hid hbd
      clear hbz hbd
      cases hq : (bz.toList == (ByteArray.mk #[66, 85, 73, 76, 68]).toList) with
      | false =>
        have HQ := Lib.hid hq
        have hst2 : gatherT ((flsX t).take (k + 1)) (.ok []) = .ok (tgsX M) := by
          rw [HST.out]
          show (if isBd fp.data.toList then _ else _) = _
          rw [HBD.out, HQ.out]; rfl
        have HST2 := Lib.hid hst2
        have hq2 : (bz.toList == [66, 85, 73, 76, 68]) = false := by have := HQ.out; rwa [ByteArray.toList_eq (ByteArray.mk #[66, 85, 73, 76, 68])] at this
        clear hst2 hq
        go_wp2_with fail
        refine (HBA.out wr).mono ?_
        rintro e w1 ⟨rfl, hw1⟩
        have hw1 := hw1.symm
        subst hw1
        go_wp2_with fail
        go_roundw
        case rel => exact ⟨k + 1, M, by omega, by go_num, HST2.out, HOW.out, HOK.out, by omega, HB.out⟩
        case measure => simp [intOf]; omega
      | true =>
        have HQ := Lib.hid hq
        have hst2 : gatherT ((flsX t).take (k + 1)) (.ok []) = (bodyT (fp.data.toList, fb)).map (tgsX M ++ ·) := by
          rw [HST.out]
          show (if isBd fp.data.toList then _ else _) = _
          rw [HBD.out, HQ.out]; rfl
        have HST2 := Lib.hid hst2
        have hq2 : (bz.toList == [66, 85, 73, 76, 68]) = true := by have := HQ.out; rwa [ByteArray.toList_eq (ByteArray.mk #[66, 85, 73, 76, 68])] at this
        have hdd : (dirA fp).data.toList = dirL fp.data.toList := dir_list fp
        have hdl : (dirA fp).size ≤ 4000 := by
          have : (dirL fp.data.toList).length ≤ fp.data.toList.length := by
            unfold dirL
            rw [List.length_reverse, List.length_drop]
            have h5 := (List.dropWhile_sublist (fun c : UInt8 => c != 47) (l := fp.data.toList.reverse)).length_le
            rw [List.length_reverse] at h5
            omega
          have h6 : fp.data.toList.length = fp.size := Array.length_toList
          have h7 : (dirA fp).data.toList.length = (dirA fp).size := Array.length_toList
          rw [hdd] at h7
          omega
        have hpa := brefparse_any (dirA fp) (mkB fb) wr.drew (by omega) (by rw [mkB_size]; omega)
        rw [mkB_data, hdd] at hpa
        have hsz := parseB_sz (dir := dirL fp.data.toList) (s := fb)
        obtain ⟨PP, hPP⟩ : ∃ PP, parseB (dirL fp.data.toList) fb = PP := ⟨_, rfl⟩
        have hbt : bodyT (fp.data.toList, fb) = if PP.1 = 0 then .ok PP.2 else .error PP.1 := by unfold bodyT; rw [hPP]
        rw [hPP] at hpa hsz
        obtain ⟨PE, PL⟩ := PP
        have HPA := Lib.hid hpa
        have HSP := Lib.hid hsz
        have HBT := Lib.hid hbt
        have HDI := Lib.hid (fun W => refdir_any fp W (by omega))
        clear hst2 hq hpa hsz hPP hbt hdd hdl
        go_wp2_with fail
        refine (HBA.out wr).mono ?_
        rintro e w1 ⟨rfl, hw1⟩
        have hw1 := hw1.symm
        subst hw1
        go_upto_region 6 with fail
        refine wp_region_held_drew (S := (fun w' => w'.cell? ⟨g, o + k * 2, none⟩ = some (.string fp) ∧ w'.cell? ⟨g, o + k * 2 + 1, none⟩ = some (.slice fA nb fc) ∧ BytesAt w' fA fb)) (by kernel_rfl) ⟨d0, d1, HBY.out⟩ (fun hHeld => ?_)
        refine wpAnyH_take (i := 0) (v := ?v0) rfl (by kernel_rfl) (by kernel_rfl) (by kernel_rfl) (fun _ _ _ h => h) (Or.inl ⟨by rfl, ?y0⟩) (by assumption) ?r0
        case y0 =>
          intro w hSw
          (try dsimp only at hSw)
          go_simp
          first | done | with_reducible rfl
        try simp only [Act.put, List.getElem_toArray, List.getElem_cons_zero, List.setIfInBounds_toArray, List.set_cons_zero, List.set_cons_succ]
        refine wpAnyH_take (i := 1) (v := ?v1) rfl (by kernel_rfl) (by kernel_rfl) (by kernel_rfl) (fun _ _ _ h => h) (Or.inl ⟨by rfl, ?y1⟩) (by assumption) ?r1
        case y1 =>
          intro w hSw
          (try dsimp only at hSw)
          go_simp
          first | done | with_reducible rfl
        try simp only [Act.put, List.getElem_toArray, List.getElem_cons_zero, List.getElem_cons_succ, List.setIfInBounds_toArray, List.set_cons_zero, List.set_cons_succ]
        refine wpAnyH_take (i := 2) (v := ?v2) rfl (by kernel_rfl) (by kernel_rfl) (by kernel_rfl) (fun _ _ _ h => h) (Or.inl ⟨by rfl, ?y2⟩) (by assumption) ?r2
        case y2 =>
          intro w hSw
          (try dsimp only at hSw)
          go_simp
          first | done | with_reducible rfl
        try simp only [Act.put, List.getElem_toArray, List.getElem_cons_zero, List.getElem_cons_succ, List.setIfInBounds_toArray, List.set_cons_zero, List.set_cons_succ]
        refine wpAnyH_take (i := 3) (v := ?v3) rfl (by kernel_rfl) (by kernel_rfl) (by kernel_rfl) (fun _ _ _ h => h) (Or.inl ⟨by rfl, ?y3⟩) (by assumption) ?r3
        case y3 =>
          intro w hSw
          (try dsimp only at hSw)
          go_simp
          first | done | with_reducible rfl
        try simp only [Act.put, List.getElem_toArray, List.getElem_cons_zero, List.getElem_cons_succ, List.setIfInBounds_toArray, List.set_cons_zero, List.set_cons_succ]
        refine wpAnyH_take (i := 4) (v := ?v4) rfl (by kernel_rfl) (by kernel_rfl) (by kernel_rfl) (fun _ _ _ h => h) (Or.inl ⟨by rfl, ?y4⟩) (by assumption) ?r4
        case y4 =>
          intro w hSw
          (try dsimp only at hSw)
          go_simp
          first | done | with_reducible rfl
        try simp only [Act.put, List.getElem_toArray, List.getElem_cons_zero, List.getElem_cons_succ, List.setIfInBounds_toArray, List.set_cons_zero, List.set_cons_succ]
        refine wpAnyH_take (i := 6) (v := ?v6) rfl (by kernel_rfl) (by kernel_rfl) (by kernel_rfl) (fun _ _ _ h => h) (Or.inl ⟨by rfl, ?y6⟩) (by assumption) ?r6
        case y6 =>
          intro w hSw
          (try dsimp only at hSw)
          go_simp
          first | done | with_reducible rfl
        try simp only [Act.put, List.getElem_toArray, List.getElem_cons_zero, List.getElem_cons_succ, List.setIfInBounds_toArray, List.set_cons_zero, List.set_cons_succ]
        refine wpAnyH_take (i := 7) (v := ?v7) rfl (by kernel_rfl) (by kernel_rfl) (by kernel_rfl) (fun _ _ _ h => h) (Or.inl ⟨by rfl, ?y7⟩) (by assumption) ?r7
        case y7 =>
          intro w hSw
          (try dsimp only at hSw)
          go_simp
          first | done | with_reducible rfl
        try simp only [Act.put, List.getElem_toArray, List.getElem_cons_zero, List.getElem_cons_succ, List.setIfInBounds_toArray, List.set_cons_zero, List.set_cons_succ]
        refine wpAnyH_take (i := 8) (v := ?v8) rfl (by kernel_rfl) (by kernel_rfl) (by kernel_rfl) (fun _ _ _ h => h) (Or.inl ⟨by rfl, ?y8⟩) (by assumption) ?r8
        case y8 =>
          intro w hSw
          (try dsimp only at hSw)
          go_simp
          first | done | with_reducible rfl
        try simp only [Act.put, List.getElem_toArray, List.getElem_cons_zero, List.getElem_cons_succ, List.setIfInBounds_toArray, List.set_cons_zero, List.set_cons_succ]
        refine wpAnyH_take (i := 9) (v := ?v9) rfl (by kernel_rfl) (by kernel_rfl) (by kernel_rfl) (fun _ _ _ h => h) (Or.inl ⟨by rfl, ?y9⟩) (by assumption) ?r9
        case y9 =>
          intro w hSw
          (try dsimp only at hSw)
          go_simp
          first | done | with_reducible rfl
        try simp only [Act.put, List.getElem_toArray, List.getElem_cons_zero, List.getElem_cons_succ, List.setIfInBounds_toArray, List.set_cons_zero, List.set_cons_succ]
        refine wpAnyH_take (i := 10) (v := ?v10) rfl (by kernel_rfl) (by kernel_rfl) (by kernel_rfl) (fun _ _ _ h => h) (Or.inl ⟨by rfl, ?y10⟩) (by assumption) ?r10
        case y10 =>
          intro w hSw
          (try dsimp only at hSw)
          go_simp
          first | done | with_reducible rfl
        try simp only [Act.put, List.getElem_toArray, List.getElem_cons_zero, List.getElem_cons_succ, List.setIfInBounds_toArray, List.set_cons_zero, List.set_cons_succ]
        refine wpAnyH_take (i := 11) (v := ?v11) rfl (by kernel_rfl) (by kernel_rfl) (by kernel_rfl) (fun _ _ _ h => h) (Or.inl ⟨by rfl, ?y11⟩) (by assumption) ?r11
        case y11 =>
          intro w hSw
          (try dsimp only at hSw)
          have hcv := brun_str w fA fc fb hSw.2.2
          rw [HNB.out] at hcv
          go_simp
          first | done | with_reducible rfl
        try simp only [Act.put, List.getElem_toArray, List.getElem_cons_zero, List.getElem_cons_succ, List.setIfInBounds_toArray, List.set_cons_zero, List.set_cons_succ]
        refine wpAnyH_ready (rs := [5]) (by kernel_rfl) (by simp) ?_
        refine AllReadyH.cons rfl (fun K hK => ?_) AllReadyH.nil
        go_simp
        refine (HDI.out _).mono ?_
        rintro e wd ⟨rfl, hwd⟩
        have hwd := hwd.symm
        subst hwd
        refine hK.out _ _ ⟨d0, d1, HBY.out⟩ (fun hHeld => ?_)
        clear hK K
        try simp only [Act.put, List.getElem_toArray, List.getElem_cons_zero, List.getElem_cons_succ, List.setIfInBounds_toArray, List.set_cons_zero, List.set_cons_succ]
        refine wpAnyH_ready (rs := [12]) (by kernel_rfl) (by simp) ?_
        refine AllReadyH.cons rfl (fun K hK => ?_) AllReadyH.nil
        go_simp
        refine HPA.out.mono ?_
        rintro e wp ⟨A2, c2, m, rfl, hat2, hl2, hb2, hnc2, hown2⟩
        have HOWN2 := Lib.hid hown2
        have hbw := HB.out.drew.trans (hb2.mono HB.out.size)
        have bb0 := (hb2.cell (p := ⟨g, o + k * 2, none⟩) hgl).trans d0
        have bb1 := (hb2.cell (p := ⟨g, o + k * 2 + 1, none⟩) hgl).trans d1
        have HBY2 := Lib.hid (HBY.out.below ((Below.refl _ _).drew.trans hb2))
        have HB2 := Lib.hid hb2
        have HBW := Lib.hid hbw
        have HAT2 := Lib.hid hat2
        have HNC2 := Lib.hid hnc2
        have HL2 := Lib.hid (show tgsX m = PL from hl2)
        clear hat2 hnc2 hl2 hb2 hbw hown2
        obtain ⟨n2, hn2⟩ : ∃ n2, m.length = n2 := ⟨_, rfl⟩
        rw [hn2]
        have HN2 := Lib.hid hn2
        clear hn2
        refine hK.out _ _ ⟨bb0, bb1, HBY2.out⟩ (fun hHeld => ?_)
        clear hK K
        try simp only []
        refine wpAnyH_take (i := 13) (v := ?v13) rfl (by kernel_rfl) (by kernel_rfl) (by kernel_rfl) (fun _ _ _ h => h) (Or.inl ⟨by rfl, ?y13⟩) (by assumption) ?r13
        case y13 =>
          intro w hSw
          (try dsimp only at hSw)
          go_simp
          first | done | with_reducible rfl
        try simp only [Act.put, List.getElem_toArray, List.getElem_cons_zero, List.getElem_cons_succ, List.setIfInBounds_toArray, List.set_cons_zero, List.set_cons_succ]
        refine wpAnyH_take (i := 14) (v := ?v14) rfl (by kernel_rfl) (by kernel_rfl) (by kernel_rfl) (fun _ _ _ h => h) (Or.inl ⟨by rfl, ?y14⟩) (by assumption) ?r14
        case y14 =>
          intro w hSw
          (try dsimp only at hSw)
          go_simp
          first | done | with_reducible rfl
        try simp only [Act.put, List.getElem_toArray, List.getElem_cons_zero, List.getElem_cons_succ, List.setIfInBounds_toArray, List.set_cons_zero, List.set_cons_succ]
        refine wpAnyH_take (i := 15) (v := ?v15) rfl (by kernel_rfl) (by kernel_rfl) (by kernel_rfl) (fun _ _ _ h => h) (Or.inl ⟨by rfl, ?y15⟩) (by assumption) ?r15
        case y15 =>
          intro w hSw
          (try dsimp only at hSw)
          go_simp
          first | done | with_reducible rfl
        try simp only [Act.put, List.getElem_toArray, List.getElem_cons_zero, List.getElem_cons_succ, List.setIfInBounds_toArray, List.set_cons_zero, List.set_cons_succ]
        refine wpAnyH_take (i := 16) (v := ?v16) rfl (by kernel_rfl) (by kernel_rfl) (by kernel_rfl) (fun _ _ _ h => h) (Or.inl ⟨by rfl, ?y16⟩) (by assumption) ?r16
        case y16 =>
          intro w hSw
          (try dsimp only at hSw)
          go_simp
          first | done | with_reducible rfl
        try simp only [Act.put, List.getElem_toArray, List.getElem_cons_zero, List.getElem_cons_succ, List.setIfInBounds_toArray, List.set_cons_zero, List.set_cons_succ]
        refine wpAnyH_take (i := 17) (v := ?v17) rfl (by kernel_rfl) (by kernel_rfl) (by kernel_rfl) (fun _ _ _ h => h) (Or.inl ⟨by rfl, ?y17⟩) (by assumption) ?r17
        case y17 =>
          intro w hSw
          (try dsimp only at hSw)
          go_simp
          first | done | with_reducible rfl
        try simp only [Act.put, List.getElem_toArray, List.getElem_cons_zero, List.getElem_cons_succ, List.setIfInBounds_toArray, List.set_cons_zero, List.set_cons_succ]
        refine wpAnyH_done (by kernel_rfl) ?_ _
        clear hHeld bb0 bb1 d0 d1
        have hn2 := HN2.out
        subst hn2
        have hbt2 : Below wr.heap.size wr wp := (Below.refl _ _).drew.trans HB2.out
        have HOWP := Lib.hid (show wp.ownsRow w.heap.size 37 3 (.slice A1 M.length c1) M.length (gcells M) from ownsRow_keepA HOW.out fun j o _ _ ho => (hbt2.block j (Array.getElem?_eq_some_iff.1 ho).1).trans ho)
        have HOKP := Lib.hid (fun (x : TX) (hx : x ∈ M) => ((HOK.out x hx).keep hbt2.size fun j o _ _ ho => (hbt2.block j (Array.getElem?_eq_some_iff.1 ho).1).trans ho))
        have hwp := HBW.out.size
        clear hbt2
        by_cases hp0 : PE = 0
        · subst hp0
          have hg2 : gatherT ((flsX t).take (k + 1)) (.ok []) = .ok (tgsX (M ++ m)) := by
            rw [HST2.out, HBT.out, if_pos rfl, tgsX_append, HL2.out]; rfl
          have HG2 := Lib.hid hg2
          have hml : m.length ≤ 4001 := by
            have h5 := HSP.out.2.1
            rw [← HL2.out, tgsX_length] at h5
            omega
          clear hg2
          go_wp2_with (at_builtin; go_loud (refine wpList_append_tgs rfl _ _ rfl w.heap.size (.slice A1 M.length c1) A2 c2 M m rfl HOWP.out rfl HAT2.out HNC2.out (by omega) (by omega) ?_; intro v7 w7 hown7 hgr7))
          have hge : ∀ g, (Value.slice A1 M.length c1).ownBlock = some g → w.heap.size ≤ g ∧ ∃ cur, wp.heap[g]? = some (.cells cur 37 (0, 0)) := fun g hg => row_ge HOWP.out hg
          have key : ∀ y, TgT w.heap.size wp y → TgT w.heap.size w7 y := fun y hy => hy.keep hgr7.size fun j cur hj _ hh => (hgr7.block j (Array.getElem?_eq_some_iff.1 hh).1 (fun e => by
            obtain ⟨_, cur', hc'⟩ := hge j e.symm
            rw [hh] at hc'; cases hc')).trans hh
          have HO7 := Lib.hid hown7
          have HK7 := Lib.hid (show ∀ x ∈ M ++ m, TgT w.heap.size w7 x from fun x hx => by
            rcases List.mem_append.1 hx with hx | hx
            · exact key x (HOKP.out x hx)
            · exact key x ((HOWN2.out x hx).lower (by show w.heap.size ≤ wr.heap.size; exact hwz)))
          have HB7 := Lib.hid (HBW.out.grown hgr7 (by omega) (fun j e => (hge j e).1))
          clear hown7 hgr7 hge key
          go_wp2_with fail
          go_roundw
          case rel => exact ⟨k + 1, M ++ m, by omega, by go_num, HG2.out, HO7.out, HK7.out, by rw [List.length_append]; omega, HB7.out⟩
          case measure => simp [intOf]; omega
        · have hbad : allT (flsX t) = (PE, []) := by
            unfold allT
            rw [gather_bad (k := k + 1) (n := PE) (by rw [HST2.out, HBT.out, if_neg hp0]; rfl)]
          have HPV := Lib.hid hbad
          have hne : (PE != 0) = true := by simpa using hp0
          clear hbad
          go_wp2_with fail
          go_ret2
          exact ⟨none, 0, [], by rw [HPV.out]; rfl, TgsAt.nil _ _ _ (Nat.zero_le _), by rw [HPV.out]; rfl, HBW.out⟩
    · obtain rfl : k = N := by omega
      have hfin : gatherT (flsX t) (.ok []) = .ok (tgsX M) := by
        have := HG.out
        rwa [List.take_of_length_le (by rw [flsX_length, HN.out]; exact Nat.le_refl _)] at this
      have HAL := Lib.hid (show allT (flsX t) = if wholeT (tgsX M) = 0 then (0, sortN (tgsX M)) else (wholeT (tgsX M), []) by unfold allT; rw [hfin])
      have HSO := Lib.hid (bsorted_any M A1 c1 wr (own_at HOW.out fun x hx => (HOK.out x hx).ok) (by omega))
      clear hfin
      go_wp2_with fail
      refine HSO.out.mono ?_
      rintro e w2 ⟨A2, c2, rfl, hat2, hnc2, hb2⟩
      obtain ⟨O, hO⟩ : ∃ O, sortY M = O := ⟨_, rfl⟩
      have hto : tgsX O = sortN (tgsX M) := by rw [← hO, sortY_tgs]
      rw [hO] at hat2 ⊢
      have hol : O.length ≤ 240060 := by
        have h5 := (sortN_perm (tgsX M)).length_eq
        rw [← hto, tgsX_length, tgsX_length] at h5
        omega
      have hw0 : wholeT (tgsX O) = wholeT (tgsX M) := by rw [hto]; exact wholeT_perm (sortN_perm _)
      have HPW := Lib.hid (show (tgsX O).Pairwise leN by rw [hto]; exact sortN_sorted _)
      have HAL2 := Lib.hid (show allT (flsX t) = if wholeT (tgsX O) = 0 then (0, tgsX O) else (wholeT (tgsX O), []) by rw [HAL.out, hw0, hto])
      have HAT := Lib.hid hat2
      have HBB := Lib.hid (HB.out.trans (hb2.mono HB.out.size))
      obtain ⟨n, hn⟩ : ∃ n, O.length = n := ⟨_, rfl⟩
      have HNO := Lib.hid hn
      rw [hn] at hol ⊢
      clear hO hto hw0 hat2 hb2 hnc2 hn HSO
      go_wp2_with fail
      go_loopw [9] (fun v9 wr2 => ∃ (i : Nat), (i + 1 ≤ n ∨ i = 0) ∧ v9 = .int .i64 ((i : Int) + 1) ∧ Hid (∀ (j : Nat) (x y : Tg), j < i → (tgsX O)[j]? = some x → (tgsX O)[j + 1]? = some y → y.n ≠ x.n) ∧ Hid (Below w2.heap.size w2 wr2)) (fun v9 _ => n + 1 - (intOf v9).toNat)
      case atStart => exact ⟨0, .inr rfl, rfl, (fun j x y hj => absurd hj (Nat.not_lt_zero _)), Below.refl _ _⟩
      case round =>
        obtain ⟨i, hi, rfl, HAD, HB3⟩ := hrel
        by_cases h2 : i + 1 < n
        · have i1 : (i : Int) + 1 < (n : Int) := by omega
          obtain ⟨x, hx⟩ : ∃ x, O[i]? = some x := ⟨_, List.getElem?_eq_getElem (by rw [HNO.out]; omega)⟩
          obtain ⟨y, hy⟩ : ∃ y, O[i + 1]? = some y := ⟨_, List.getElem?_eq_getElem (by rw [HNO.out]; omega)⟩
          obtain ⟨g, o, hA, hr⟩ := (HAT.out.below HB3.out).row (by rw [HNO.out]; omega)
          subst hA
          have x0 := (hr i x hx).1
          have y0 := (hr (i + 1) y hy).1
          have wn : IntKind.i64.wrap ((i : Int) + 1 - 1) = (i : Int) := by rw [show ((i : Int) + 1 - 1) = (i : Int) from by omega]; exact IntWalk.i64_in _ (by omega)
          have i2 : (i : Int) < (n : Int) := by omega
          have i3 : (0 : Int) ≤ (i : Int) + 1 := by omega
          have ix : (tgsX O)[i]? = some x.tg := by rw [tgsX_getElem?, hx]; rfl
          have iy : (tgsX O)[i + 1]? = some y.tg := by rw [tgsX_getElem?, hy]; rfl
          have HIX := Lib.hid ix
          have HIY := Lib.hid iy
          clear hx hy hr ix iy
          cases hq : (y.n.toList == x.n.toList) with
          | true =>
            have hbad : allT (flsX t) = (12, []) := by
              rw [HAL2.out, whole_twice (twice_not HIX.out HIY.out (by rw [beq_iff_eq, ByteArray.toList_eq, ByteArray.toList_eq] at hq; exact hq))]; rfl
            have HPV := Lib.hid hbad
            clear hbad
            go_wp2_with fail
            go_quiet (fail)
            go_wp2_with fail
            go_ret2
            exact ⟨none, 0, [], by rw [HPV.out]; rfl, TgsAt.nil _ _ _ (Nat.zero_le _), by rw [HPV.out]; rfl, belowQB (HBB.out.trans (HB3.out.mono HBB.out.size)) _⟩
          | false =>
            have HQ := Lib.hid (show y.tg.n ≠ x.tg.n from fun e => by rw [beq_eq_false_iff_ne, ByteArray.toList_eq, ByteArray.toList_eq] at hq; exact hq e)
            go_wp2_with fail
            go_quiet (fail)
            go_wp2_with fail
            go_roundw
            case rel =>
              refine ⟨i + 1, .inl (by omega), by go_num, ?_, belowQB HB3.out _⟩
              intro j a b hj ha hb
              by_cases e : j = i
              · subst e
                rw [HIX.out] at ha; rw [HIY.out] at hb
                cases ha; cases hb
                exact HQ.out
              · exact HAD.out j a b (by omega) ha hb
            case measure => simp [intOf]; omega
        · have HND := Lib.hid (show ((tgsX O).map Tg.n).Nodup from adj_nodup _ HPW.out (fun j a b ha hb => HAD.out j a b (by
            have := (List.getElem?_eq_some_iff.1 hb).1
            rw [tgsX_length, HNO.out] at this
            omega) ha hb))
          have HB4 := Lib.hid (HBB.out.trans (HB3.out.mono HBB.out.size))
          have i1 : ¬ (i : Int) + 1 < (n : Int) := by omega
          go_wp2_with fail
          go_loopw [10] (fun v10 wr3 => ∃ (i : Nat), i ≤ n ∧ v10 = .int .i64 i ∧ Hid (∀ (j : Nat) (x : TX), j < i → O[j]? = some x → ∀ d ∈ x.d, hasN (tgsX O) d = true) ∧ Hid (Below w2.heap.size w2 wr3)) (fun v10 _ => n - (intOf v10).toNat)
          case atStart => exact ⟨0, Nat.zero_le _, rfl, (fun j x hj => absurd hj (Nat.not_lt_zero _)), HB3.out⟩
          case round =>
            obtain ⟨i, hi, rfl, HDD, HB5⟩ := hrel
            by_cases h3 : i < n
            · have i1 : (i : Int) < (n : Int) := by omega
              obtain ⟨x, hx⟩ : ∃ x, O[i]? = some x := ⟨_, List.getElem?_eq_getElem (by rw [HNO.out]; exact h3)⟩
              obtain ⟨g, o, hA, hr⟩ := HAT.out.row (by rw [HNO.out]; omega)
              subst hA
              have HX := Lib.hid hx
              have HC := Lib.hid (fun (W : World) (hb : Below w2.heap.size w2 W) => (hr.below hb i x hx).2.2)
              have HXO := Lib.hid (fun (W : World) (hb : Below w2.heap.size w2 W) => (HAT.out.own x (List.mem_of_getElem? hx)).below hb)
              have hxd := (HAT.out.own x (List.mem_of_getElem? hx)).dc
              have hxm := (HAT.out.own x (List.mem_of_getElem? hx)).bm
              unfold maxLen at hxm
              obtain ⟨dl, hdl⟩ : ∃ dl, x.d.length = dl := ⟨_, rfl⟩
              rw [hdl] at HC hxd
              have HDL := Lib.hid hdl
              clear hx hr hdl
              go_wp2_with fail
              go_loopw [11] (fun v11 wr4 => ∃ (k : Nat), k ≤ dl ∧ v11 = .int .i64 k ∧ Hid (∀ (j : Nat) (d : Bs), j < k → x.d[j]? = some d → hasN (tgsX O) d = true) ∧ Hid (Below w2.heap.size w2 wr4)) (fun v11 _ => dl - (intOf v11).toNat)
              case atStart => exact ⟨0, Nat.zero_le _, rfl, (fun j x hj => absurd hj (Nat.not_lt_zero _)), HB5.out⟩
              case round =>
                obtain ⟨k, hk, rfl, HKD, HB6⟩ := hrel
                have c2' := HC.out _ HB6.out
                by_cases h4 : k < dl
                · have k1 : (k : Int) < (dl : Int) := by omega
                  obtain ⟨d, hd⟩ : ∃ d, x.d[k]? = some d := ⟨_, List.getElem?_eq_getElem (by rw [HDL.out]; exact h4)⟩
                  obtain ⟨g3, o3, hB, hr3⟩ := (HXO.out _ HB6.out).d (by rw [HDL.out]; omega)
                  have d0 := hr3 k d hd
                  rw [hB] at c2'
                  have HPL := Lib.hid (brefplace_any O (some ⟨g, o, none⟩) c2 (mkB d) _ (HAT.out.below HB6.out))
                  rw [HNO.out, mkB_data] at HPL
                  have HD := Lib.hid hd
                  clear hr3 hd
                  cases hh : hasN (tgsX O) d with
                  | true =>
                    have hp := place_has hh
                    obtain ⟨q, hq⟩ : ∃ q, placeT (tgsX O) d = q := ⟨_, rfl⟩
                    rw [hq] at HPL hp
                    have HHN := Lib.hid hh
                    have q1 : ¬ q < 0 := by omega
                    clear hh hq
                    go_wp2_with fail
                    refine HPL.out.mono ?_
                    rintro e w7 ⟨rfl, hb7⟩
                    have HB7 := Lib.hid (HB6.out.trans (hb7.mono HB6.out.size))
                    clear hb7
                    go_wp2_with fail
                    go_roundw
                    case rel =>
                      refine ⟨k + 1, by omega, by go_num, ?_, HB7.out⟩
                      intro j d' hj hd'
                      by_cases e : j = k
                      · subst e; rw [HD.out] at hd'; cases hd'; exact HHN.out
                      · exact HKD.out j d' (by omega) hd'
                    case measure => simp [intOf]; omega
                  | false =>
                    have hbad : allT (flsX t) = (13, []) := by
                      rw [HAL2.out, whole_lone HND.out (x := x.tg) (d := d) (List.mem_map_of_mem (List.mem_of_getElem? HX.out)) (List.mem_of_getElem? HD.out) hh]; rfl
                    have HPV := Lib.hid hbad
                    rw [place_none hh] at HPL
                    clear hbad hh
                    go_wp2_with fail
                    refine HPL.out.mono ?_
                    rintro e w7 ⟨rfl, hb7⟩
                    have HB7 := Lib.hid (HB6.out.trans (hb7.mono HB6.out.size))
                    clear hb7
                    go_wp2_with fail
                    go_ret2
                    exact ⟨none, 0, [], by rw [HPV.out]; rfl, TgsAt.nil _ _ _ (Nat.zero_le _), by rw [HPV.out]; rfl, HBB.out.trans (HB7.out.mono HBB.out.size)⟩
                · obtain rfl : k = dl := by omega
                  go_wp2_with fail
                  go_roundw
                  case rel =>
                    refine ⟨i + 1, by omega, by go_num, ?_, HB6.out⟩
                    intro j y hj hy d hd
                    by_cases e : j = i
                    · subst e; rw [HX.out] at hy; cases hy
                      obtain ⟨j2, hj2⟩ := List.mem_iff_getElem?.1 hd
                      exact HKD.out j2 d (by have := (List.getElem?_eq_some_iff.1 hj2).1; rw [HDL.out] at this; exact this) hj2
                    · exact HDD.out j y (by omega) hy d hd
                  case measure => simp [intOf]; omega
            · obtain rfl : i = n := by omega
              have hgood : allT (flsX t) = (0, tgsX O) := by
                rw [HAL2.out, whole_good HND.out (fun x hx d hd => by
                  obtain ⟨y, hy, rfl⟩ := List.mem_map.1 hx
                  obtain ⟨j, hj⟩ := List.mem_iff_getElem?.1 hy
                  exact HDD.out j y (by have := (List.getElem?_eq_some_iff.1 hj).1; rw [HNO.out] at this; exact this) hj d hd)]
                rfl
              have HPV := Lib.hid hgood
              have hno := HNO.out
              clear hgood
              go_wp2_with fail
              go_ret2
              exact ⟨A2, c2, O, by rw [HPV.out, hno]; rfl, HAT.out.below HB5.out, by rw [HPV.out], HBB.out.trans (HB5.out.mono HBB.out.size)⟩
end Go.Proofs.YtckpojkbcbogbaaDoor
namespace Go.Proofs.YtckpojkbcbogbaaDoor
open Go Go.RowKit Go.Shelf Go.Proofs
attribute [local go_sem] Oper.semAt_some

set_option maxRecDepth 100000 in
set_option maxHeartbeats 8000000 in
theorem balls_law (t : List FX) (A : Option Addr) (c : Nat) (w : World) (h : TreeAt w A c t) (hz : BigX t) (hm : MaxOk w) :
    Calls Tryd.prog 3 #[.slice A t.length c] w (BdB true w) := by
  have hcap : t.length ≤ maxLen := Nat.le_trans h.cap h.capm
  unfold maxLen at hcap
  have HK := Lib.hid (fun (W : World) (hb : Below w.heap.size w W) => bknown_any W (hm.below hb))
  have HMX := Lib.hid (fun (W : World) (hb : Below w.heap.size w W) => hm.below hb)
  have HT := Lib.hid h
  have HZ := Lib.hid hz
  clear h hm hz
  by_cases h40 : 40 < t.length
  · have g1 : (40 : Int) < (t.length : Int) := by omega
    go_enter Tryd.func3, Tryd.ntmps3
    go_wp2_with fail
    refine (HK.out _ (Below.refl _ _)).mono ?_
    rintro e y ⟨rfl, hb⟩
    go_wp2_with fail
    go_ret
    exact ⟨rfl, hb⟩
  · have g1 : ¬ (40 : Int) < (t.length : Int) := by omega
    have HL := reflong_any t A c w HT.out (by omega) HZ.out
    obtain ⟨q, hq⟩ : ∃ q, longN t = q := ⟨_, rfl⟩
    rw [hq] at HL
    have HL := Lib.hid HL
    have HQ := Lib.hid hq
    clear hq
    obtain ⟨N, hN⟩ : ∃ N, t.length = N := ⟨_, rfl⟩
    rw [hN] at HL h40 g1 hcap ⊢
    have HN := Lib.hid hN
    clear hN
    by_cases h20 : 3000 < q
    · have g2 : (3000 : Int) < (q : Int) := by omega
      go_enter Tryd.func3, Tryd.ntmps3
      go_wp2_with fail
      refine HL.out.mono ?_
      rintro e w2 ⟨rfl, hb2⟩
      have HB2 := Lib.hid hb2
      clear hb2
      go_wp2_with fail
      refine (HK.out _ HB2.out).mono ?_
      rintro e y ⟨rfl, hb⟩
      go_wp2_with fail
      go_ret
      exact ⟨rfl, HB2.out.trans (hb.mono HB2.out.size)⟩
    · have g2 : ¬ (3000 : Int) < (q : Int) := by omega
      go_enter Tryd.func3, Tryd.ntmps3
      go_wp2_with fail
      refine HL.out.mono ?_
      rintro e w2 ⟨rfl, hb2⟩
      have HB2 := Lib.hid hb2
      clear hb2
      go_wp2_with fail
      have hsm : ∀ f ∈ t, f.p.size ≤ 4000 ∧ f.b.length ≤ 4000 := long_small (by rw [HQ.out]; omega)
      have HSM := Lib.hid hsm
      have HA1 := ball_any A c t w2 (HT.out.below HB2.out) (by rw [HN.out]; omega) hsm (HMX.out w2 HB2.out)
      have HFS := Lib.hid (fls_small hsm)
      obtain ⟨PP, hPP⟩ : ∃ PP, allT (flsX t) = PP := ⟨_, rfl⟩
      rw [hPP, HN.out] at HA1
      have HPP := Lib.hid hPP
      obtain ⟨PE, PL⟩ := PP
      have HA1 := Lib.hid HA1
      clear hPP hsm
      try go_wp2_with fail
      refine HA1.out.mono ?_
      rintro e w3 ⟨A3, c3, l3, rfl, hat3, hl3, hb3⟩
      have HB3 := Lib.hid (HB2.out.trans (hb3.mono HB2.out.size))
      have HAT3 := Lib.hid hat3
      have HL3 := Lib.hid (show tgsX l3 = PL from hl3)
      have HR1 := brefall_any A c t w3 (HT.out.below HB3.out) (by rw [HN.out]; omega) HSM.out
      rw [HPP.out, HN.out] at HR1
      have HR1 := Lib.hid HR1
      clear hb3 hat3 hl3 HA1
      go_wp2_with fail
      refine HR1.out.mono ?_
      rintro e w4 ⟨A4, c4, l4, rfl, hat4, hl4, hb4⟩
      have HL4 := Lib.hid (show tgsX l4 = PL from hl4)
      have HS4 := Lib.hid (brefsame_any A3 A4 c3 c4 l3 l4 w4 (HAT3.out.below hb4) hat4 (tgs_smallA HFS.out (by rw [HL3.out, HPP.out])) (tgs_smallA HFS.out (by rw [HL4.out, HPP.out])))
      have hd : decide (tgsX l3 = tgsX l4) = true := decide_eq_true (HL3.out.trans HL4.out.symm)
      rw [hd] at HS4
      have HB4 := Lib.hid (HB3.out.trans (hb4.mono HB3.out.size))
      clear hb4 hat4 hl4 HR1 hd
      go_wp2_with fail
      refine HS4.out.mono ?_
      rintro e w5 ⟨rfl, hb5⟩
      have HB5 := Lib.hid (HB4.out.trans (hb5.mono HB4.out.size))
      clear hb5
      go_wp2_with fail
      refine (HK.out _ HB5.out).mono ?_
      rintro e y ⟨rfl, hb⟩
      go_wp2_with fail
      go_ret
      exact ⟨rfl, HB5.out.trans (hb.mono HB5.out.size)⟩
end Go.Proofs.YtckpojkbcbogbaaDoor
