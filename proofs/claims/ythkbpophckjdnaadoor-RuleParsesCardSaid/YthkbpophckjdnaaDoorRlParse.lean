/-
  The contract of rule.Parse.
-/
import Derived.Test.YthkbpophckjdnaaDoorRlParse1
import Derived.WalkSmall
import Derived.WalkMore
import Derived.Deep.MidRow
import Derived.Laws.EntriesVeiled
import Derived.BigQuiet
import Derived.BigRegion
import Derived.Deep.Cut
import Derived.Test.YthkbpophckjdnaaDoorTRound
namespace Go.Proofs.YthkbpophckjdnaaDoor
open Go Go.RowKit Go.Shelf Go.Proofs
attribute [local go_sem] Oper.semAt_some

theorem rk_below {W W' : World} (h : Below W.heap.size W W') : KeepsOthers W W' := ⟨h.size, fun k _o hk _ => (h.block k (Array.getElem?_eq_some_iff.1 hk).1).trans hk⟩
theorem one_len {ws ps : List Bs} {p0 : Bs} {kk N : Nat} (h : ws = p0 :: ps) (hk : kindW p0 = kk) (hN : ws.length = N) (hn : ¬ N - 1 = 1 + textsN kk) : oneU ws = none := by
  unfold oneU
  rw [h] at hN ⊢
  rw [List.length_cons] at hN
  rw [List.getD_cons_zero, hk]
  split
  · rfl
  · rw [if_neg (by rw [List.length_cons]; omega)]
theorem one_kind {ws ps : List Bs} {p0 : Bs} (h : ws = p0 :: ps) (hk : kindW p0 = 0) : oneU ws = none := by
  unfold oneU
  rw [h, List.getD_cons_zero, hk, if_pos rfl]
theorem one_read {ws ps Q : List Bs} {p0 g : Bs} {kk N : Nat} (h : ws = p0 :: ps) (hps : ps = g :: Q) (hk : kindW p0 = kk) (h0 : kk ≠ 0) (hN : ws.length = N) (hn : N - 1 = 1 + textsN kk) : oneU ws = readU kk g Q := by
  unfold oneU
  subst hps
  rw [h] at hN ⊢
  rw [List.length_cons, List.length_cons] at hN
  rw [List.getD_cons_zero, hk, if_neg h0, if_pos (by rw [List.length_cons, List.length_cons]; omega)]
  rfl
set_option maxRecDepth 100000 in
set_option maxHeartbeats 16000000 in
theorem there2 {w : World} {N : Nat} {a b : Value} {t : TypeId} (h : w.heap[N]? = some (.cells #[a, b] t (0, 0))) {j : Nat} (hj : j < 2) : (w.cell? ⟨N, 0 + j, none⟩).isSome = true ∧ w.frozen? ⟨N, 0 + j, none⟩ = false := by
  refine ⟨?_, frozen_of_row w N _ _ _ h⟩
  rw [cell_of_row w N _ _ _ _ h, Nat.zero_add]
  match j, hj with
  | 0, _ => rfl
  | 1, _ => rfl
theorem store2 {w : World} {N : Nat} {a b : Value} {t : TypeId} (h : w.heap[N]? = some (.cells #[a, b] t (0, 0))) (v x : Value) : (w.setCells N 0 [v, x]).heap[N]? = some (.cells #[v, x] t (0, 0)) := heap_setCell_same _ N 1 _ _ x (heap_setCell_same w N 0 _ _ v h)
theorem store2_size (w : World) (N : Nat) (v x : Value) : (w.setCells N 0 [v, x]).heap.size = w.heap.size := by simp [World.setCells, World.setCell]
theorem rmixed : Tryd.prog.follows .mixedOrders = true := by kernel_rfl
set_option maxRecDepth 100000 in
set_option maxHeartbeats 16000000 in
theorem rparse_any (s : ByteArray) (w : World) (hs : s.size ≤ 16384) (hm : MaxOk w) :
    Calls Tryd.prog 12 #[.string s] w (RlPost (parseU s.data.toList) w) := by
  have hs1 : ¬ (16384 : Int) < (s.size : Int) := by omega
  obtain ⟨ri, hri, hrz0, hrz1, hrz2⟩ := info_parts rule_info
  refine (callsIn_wide (n := 777)).1 ?_
  generalize 777 = n
  refine callsIn_of_wp_marks Tryd.func12 rfl trivial ?_ rfl
  simp only [Tryd.ntmps12, List.size_toArray, List.length_cons, List.length_nil, Nat.reduceAdd, Nat.reduceSub, Array.replicate_succ, Array.replicate_zero, List.push_toArray, List.append_toArray, List.nil_append, List.cons_append]
  gi_wp2_with fail
  refine wpIn_scope_wide ?_
  gi_wp2_with fail
  obtain ⟨W1, hW1⟩ : ∃ W, ((w.alloc (.cells #[.slice none 0 0] 23)).alloc (.cells #[.int .i64 0] 24)).alloc (.cells #[.slice none 0 0] 23) = W := ⟨_, rfl⟩
  have hz1 : W1.heap.size = w.heap.size + 3 := by rw [← hW1]; simp
  have hb1 : Below w.heap.size w W1 := by rw [← hW1]; exact (((Below.refl _ w).alloc (Nat.le_refl _) _).alloc (by simp) _).alloc (by simp; omega) _
  have ha1 : Boxed W1 w.heap.size 23 (.slice none 0 0) := by rw [← hW1]; exact ((Boxed.new w _ _).alloc _).alloc _
  have ha2 : Boxed W1 (w.heap.size + 1) 24 (.int .i64 0) := by
    rw [← hW1]; have := Boxed.new (w.alloc (.cells #[.slice none 0 0] 23)) 24 (.int .i64 0); rw [World.size_alloc] at this; exact this.alloc _
  have ha3 : Boxed W1 (w.heap.size + 2) 23 (.slice none 0 0) := by
    rw [← hW1]; have := Boxed.new ((w.alloc (.cells #[.slice none 0 0] 23)).alloc (.cells #[.int .i64 0] 24)) 23 (.slice none 0 0); simp only [World.size_alloc] at this; exact this
  rw [hW1]
  clear hW1
  refine wide_call (forms_any W1) ?_
  rintro e w2 ⟨rfl, hfa, hb2, hz2⟩
  rw [hz1] at hfa hb2 hz2
  rw [hz1]
  have ha1 : Boxed w2 w.heap.size 23 (.slice none 0 0) := (hb2.block _ (by omega)).trans ha1
  have ha2 : Boxed w2 (w.heap.size + 1) 24 (.int .i64 0) := (hb2.block _ (by omega)).trans ha2
  have ha3 : Boxed w2 (w.heap.size + 2) 23 (.slice none 0 0) := (hb2.block _ (by omega)).trans ha3
  have hb2w := hb1.trans (hb2.mono (by omega))
  obtain ⟨W3, hW3⟩ : ∃ W, w2.alloc (.cells #[.map (some (w.heap.size + 3))] 51) = W := ⟨_, rfl⟩
  have hz3 : W3.heap.size = w.heap.size + 5 := by rw [← hW3, World.size_alloc, hz2]
  have hb3 : Below w2.heap.size w2 W3 := by rw [← hW3]; exact (Below.refl _ w2).alloc (Nat.le_refl _) _
  have hk3 : Boxed W3 (w.heap.size + 4) 51 (.map (some (w.heap.size + 3))) := by
    rw [← hW3]; have := Boxed.new w2 51 (.map (some (w.heap.size + 3))); rw [hz2] at this; exact this
  have ha1 : Boxed W3 w.heap.size 23 (.slice none 0 0) := (hb3.block _ (by omega)).trans ha1
  have ha2 : Boxed W3 (w.heap.size + 1) 24 (.int .i64 0) := (hb3.block _ (by omega)).trans ha2
  have ha3 : Boxed W3 (w.heap.size + 2) 23 (.slice none 0 0) := (hb3.block _ (by omega)).trans ha3
  have hfa := hfa.below hb3
  have hb3w := hb2w.trans (hb3.mono (by omega))
  have HW3 := Lib.hid hW3
  have HZ2 := Lib.hid hz2
  have HA := Lib.hid (show _ ∧ _ ∧ _ ∧ _ ∧ _ ∧ _ ∧ _ from ⟨ha1, ha2, ha3, hk3, hfa, hb3w, hz3⟩)
  clear hb1 hz1 hb2 hz2 hb2w hW3 hb3 ha1 ha2 ha3 hk3 hfa hb3w hz3
  gi_wp2_with fail
  rw [HZ2.out]
  refine wpIn_label ?_
  gi_wp2_with fail
  rw [HW3.out]
  refine wide_call (splitSeq_any s ⟨#[10]⟩ _) ?_
  rintro e w' ⟨rfl, rfl⟩
  gi_wp2_with fail
  obtain ⟨ha1, ha2, ha3, hk3, hfa, hb3w, hz3⟩ := HA.out
  rw [hz3]
  clear HW3 HA HZ2
  obtain ⟨W0, hW0⟩ : ∃ W, ((W3.alloc (.cells #[.string s] 9)).alloc (.cells #[.string ⟨#[10]⟩] 9)).alloc (.cells #[.int .i64 0] 3) = W := ⟨_, rfl⟩
  have hs0 : W0.heap.size = w.heap.size + 8 := by rw [← hW0]; simp [hz3]
  have hb0 : Below W3.heap.size W3 W0 := by rw [← hW0]; exact (((Below.refl _ W3).alloc (Nat.le_refl _) _).alloc (by simp) _).alloc (by simp; omega) _
  have x3 : Boxed W0 (w.heap.size + 5) 9 (.string s) := by rw [← hW0]; have := Boxed.new W3 9 (.string s); rw [hz3] at this; exact (this.alloc _).alloc _
  have x4 : Boxed W0 (w.heap.size + 6) 9 (.string ⟨#[10]⟩) := by
    rw [← hW0]; have := Boxed.new (W3.alloc (.cells #[.string s] 9)) 9 (.string ⟨#[10]⟩); rw [World.size_alloc, hz3] at this; exact this.alloc _
  have x5 : Boxed W0 (w.heap.size + 7) 3 (.int .i64 0) := by
    rw [← hW0]; have := Boxed.new ((W3.alloc (.cells #[.string s] 9)).alloc (.cells #[.string ⟨#[10]⟩] 9)) 3 (.int .i64 0); simp only [World.size_alloc, hz3] at this; exact this
  have ha1 : Boxed W0 w.heap.size 23 (.slice none 0 0) := (hb0.block _ (by omega)).trans ha1
  have ha2 : Boxed W0 (w.heap.size + 1) 24 (.int .i64 0) := (hb0.block _ (by omega)).trans ha2
  have ha3 : Boxed W0 (w.heap.size + 2) 23 (.slice none 0 0) := (hb0.block _ (by omega)).trans ha3
  have hk3 : Boxed W0 (w.heap.size + 4) 51 (.map (some (w.heap.size + 3))) := (hb0.block _ (by omega)).trans hk3
  have hfa := hfa.below hb0
  have hb0w := hb3w.trans (hb0.mono hb3w.size)
  rw [hW0]
  clear hW0 hb0 hb3w hz3
  have hpl : (piecesB 10 s).length = (splitL 10 s.data.toList).length := by unfold piecesB; simp
  have hsl := splitL_length 10 s.data.toList
  rw [rl_size] at hsl
  refine wpIn_rangeList rfl (fun h => absurd h (by decide)) (gf := 70) (lb := #[.pointer (some ⟨w.heap.size + 6, 0, none⟩), .pointer (some ⟨w.heap.size + 5, 0, none⟩), .pointer (some ⟨w.heap.size + 7, 0, none⟩)]) rfl trivial (enters_of Tryd.func70 (by kernel_rfl) rfl)
    (split_list _ (w.heap.size + 5) (w.heap.size + 6) (w.heap.size + 7) 10 s (by omega) W0 (by omega) (by omega) x3 x4 x5) KeepsB.trans (keepsB_b (by rintro k (rfl | rfl | rfl) <;> omega)) (by rintro r rfl; omega) (Below.refl _ _) (fun _ => rfl)
    (fun k W => ParseJ s w k W) (fun c k W => ParseN s w c k W)
    (parseJ_own hs0) (fun c => parseN_own hs0)
    ⟨ha1, ha2, ⟨[], rfl, ⟨_, ha3, World.ownsRow_nil _ _ _ _⟩, Nat.zero_le _⟩, hfa, hk3, hb0w⟩
    (fun x a' _ => a' = { tmps := #[.string s, undef, .pointer (some ⟨w.heap.size, 0, none⟩), .pointer (some ⟨w.heap.size + 1, 0, none⟩), .pointer (some ⟨w.heap.size + 2, 0, none⟩), .pointer (some ⟨w.heap.size + 4, 0, none⟩), .string x, undef, undef, undef, undef, undef, .string s, .int .i64 s.size, .bool (decide ((16384 : Int) < (s.size : Int))), .map (some (w.heap.size + 3)), .string s, .func (.func 70) #[] #[.pointer (some ⟨w.heap.size + 6, 0, none⟩), .pointer (some ⟨w.heap.size + 5, 0, none⟩), .pointer (some ⟨w.heap.size + 7, 0, none⟩)], .string x, undef, undef, undef, undef, undef, undef, undef, undef, undef, undef, undef, undef, undef, undef, undef, undef, undef, undef, undef, undef, undef, undef, undef, undef, undef, undef, undef, undef, undef, undef, undef, undef, undef, undef, undef, undef, undef, undef], defers := [] }) (fun _ _ _ _ _ _ hs _ _ => hs) ?assign ?body ?done ?stop
  case assign =>
    intro l k x W K hi hK
    gi_wp2
    exact hK _ _ (KeepsFrom.refl _ _) (KeepsB.refl _ _) hi rfl
  case body =>
    rintro l k x a' W hl ⟨rl, hrl⟩ hJ rfl hx
    have hWs : w.heap.size + 8 ≤ W.heap.size := by have := (Array.getElem?_eq_some_iff.1 hrl).1; omega
    clear hrl
    have hxs := piecesB_small 10 s x (List.mem_of_getElem? hx)
    have HX := Lib.hid hx
    have HJ := Lib.hid hJ
    clear hx
    obtain ⟨L, hl1, hl2, hl3⟩ := hJ.rules
    have hstep := linesTo_step HX.out hl1.out
    have HRU := Lib.hid hl2
    cases hxe : x.toList.isEmpty with
    | true =>
      have hxd := toList_nil hxe
      have HST := Lib.hid hstep
      have HL1 := Lib.hid hl1.out
      clear hstep hl1 hl2 hJ hxd
      gi_wp2_with fail
      refine ⟨KeepsFrom.refl _ _, KeepsB.refl _ _, HJ.out.still hWs (Below.refl _ _) fun l hl => ?_⟩
      rw [HL1.out] at hl
      cases hl
      rw [HST.out, toList_nil hxe]; rfl
    | false =>
      have hxd := toList_cons hxe
      have HBAD : Hid (oneU (splitL 32 x.data.toList) = none → linesTo s (k + 1) = none) := fun h => by
        rw [hstep]; unfold stepU; rw [Option.bind_some, hxd, if_neg (by simp), h]; rfl
      have HGOOD : Hid (∀ r, oneU (splitL 32 x.data.toList) = some r → linesTo s (k + 1) = some (rusX L ++ [r])) := fun r h => by
        rw [hstep]; unfold stepU; rw [Option.bind_some, hxd, if_neg (by simp), h]; rfl
      clear hstep hl1 hl2 hJ hxd
      have HWO := Lib.hid (rwordsOf_any x W (by omega))
      gi_wp2_with fail
      refine wide_call HWO.out ?_
      rintro e w1 ⟨v1, rfl, ⟨g1, c1, rfl, hg1, hg1', hrw, hc1, hcm1⟩, hb1⟩
      have hJ1 := HJ.out
      have k0 : w1.cell? ⟨w.heap.size + 4, 0, none⟩ = some (.map (some (w.heap.size + 3))) := (hb1.cell (p := ⟨w.heap.size + 4, 0, none⟩) (by show w.heap.size + 4 < _; omega)).trans hJ1.known.cell
      have k2 : w1.heap[w.heap.size + 3]? = some (.map formsE 5) := (hb1.block _ (by omega)).trans hJ1.forms.obj
      obtain ⟨p0, ps, hps⟩ : ∃ p ps, splitL 32 x.data.toList = p :: ps := by
        cases e : splitL 32 x.data.toList with
        | nil => exact absurd e (splitL_ne 32 _)
        | cons p ps => exact ⟨p, ps, rfl⟩
      obtain ⟨y0, hy0⟩ : ∃ y0, mkB p0 = y0 := ⟨_, rfl⟩
      have k1 : w1.cell? ⟨g1, 0, none⟩ = some (.string y0) := by rw [← hy0]; exact hrw 0 p0 (by rw [hps]; rfl)
      have hwn : 0 < (splitL 32 x.data.toList).length := by rw [hps]; exact Nat.succ_pos _
      obtain ⟨N, hN⟩ : ∃ N, (splitL 32 x.data.toList).length = N := ⟨_, rfl⟩
      rw [hN] at hwn hc1
      have wn0 : (0 : Int) < (N : Int) := by omega
      have wn1 : (0 : Int) < (c1 : Int) := by omega
      have hz1 := hb1.size
      have ka : Below w1.heap.size w1 (w1.alloc (.cells #[.int .i64 0, .int .i64 0] 58)) := (Below.refl _ _).alloc (Nat.le_refl _) _
      have HJ1 := Lib.hid hJ1
      have HB1 := Lib.hid hb1
      have HPS := Lib.hid hps
      have HY0 := Lib.hid hy0
      have HRW := Lib.hid hrw
      have HNN := Lib.hid hN
      rw [hN]
      clear hJ1 hb1 hps hy0 hrw hN
      gi_wp2_with fail
      obtain ⟨kk, hkk⟩ : ∃ kk, kindW p0 = kk := ⟨_, rfl⟩
      by_cases hk0 : kk = 0
      · subst hk0
        have hmiss := forms_miss y0 (by rw [← HY0.out, mkB_data]; exact hkk)
        have HFI := Lib.hid (fun (W : World) (h : W.heap[w.heap.size + 3]? = some (.map formsE 5)) => run_look_miss (P := Tryd.prog) (mty := 51) (z := formV 0 0) y0 Tryd.underlying51 Tryd.underlying9 (by kernel_rfl) h hmiss)
        have HKK := Lib.hid hkk
        clear hmiss hkk
        refine wpIn_round_held (S := fun w' => w'.cell? ⟨w.heap.size + 4, 0, none⟩ = some (.map (some (w.heap.size + 3))) ∧ w'.cell? ⟨g1, 0, none⟩ = some (.string y0) ∧ w'.heap[w.heap.size + 3]? = some (.map formsE 5)) rmixed (by kernel_rfl) ⟨k0, k1, k2⟩ (fun hHeld => ?_)
        refine wpAnyH_take (i := 0) (v := ?vg0) rfl (by kernel_rfl) (by kernel_rfl) (by kernel_rfl) (fun _ _ _ h => h) (Or.inl ⟨by rfl, ?yg0⟩) (by assumption) ?rg0
        case yg0 =>
          intro w hSw
          (try dsimp only at hSw)
          go_simp
          first | done | with_reducible rfl
        try simp only [Act.put, List.getElem_toArray, List.getElem_cons_zero, List.setIfInBounds_toArray, List.set_cons_zero, List.set_cons_succ]
        refine wpAnyH_take (i := 1) (v := ?vg1) rfl (by kernel_rfl) (by kernel_rfl) (by kernel_rfl) (fun _ _ _ h => h) (Or.inl ⟨by rfl, ?yg1⟩) (by assumption) ?rg1
        case yg1 =>
          intro w hSw
          (try dsimp only at hSw)
          go_simp
          first | done | with_reducible rfl
        try simp only [Act.put, List.getElem_toArray, List.getElem_cons_zero, List.getElem_cons_succ, List.setIfInBounds_toArray, List.set_cons_zero, List.set_cons_succ]
        refine wpAnyH_take (i := 2) (v := ?vg2) rfl (by kernel_rfl) (by kernel_rfl) (by kernel_rfl) (fun _ _ _ h => h) (Or.inl ⟨by rfl, ?yg2⟩) (by assumption) ?rg2
        case yg2 =>
          intro w hSw
          (try dsimp only at hSw)
          go_simp
          first | done | with_reducible rfl
        try simp only [Act.put, List.getElem_toArray, List.getElem_cons_zero, List.getElem_cons_succ, List.setIfInBounds_toArray, List.set_cons_zero, List.set_cons_succ]
        refine wpAnyH_take (i := 3) (v := ?vg3) rfl (by kernel_rfl) (by kernel_rfl) (by kernel_rfl) (fun _ _ _ h => h) (Or.inl ⟨by rfl, ?yg3⟩) (by assumption) ?rg3
        case yg3 =>
          intro w hSw
          (try dsimp only at hSw)
          go_simp
          first | done | with_reducible rfl
        try simp only [Act.put, List.getElem_toArray, List.getElem_cons_zero, List.getElem_cons_succ, List.setIfInBounds_toArray, List.set_cons_zero, List.set_cons_succ]
        refine wpAnyH_take (i := 4) (v := ?vg4) rfl (by kernel_rfl) (by kernel_rfl) (by kernel_rfl) (fun _ _ _ h => h) (Or.inl ⟨by rfl, ?yg4⟩) (by assumption) ?rg4
        case yg4 =>
          intro w hSw
          (try dsimp only at hSw)
          obtain ⟨u0, u1, u2⟩ := hSw
          have hlk := HFI.out w u2
          go_simp
          first | done | with_reducible rfl
        try simp only [Act.put, List.getElem_toArray, List.getElem_cons_zero, List.getElem_cons_succ, List.setIfInBounds_toArray, List.set_cons_zero, List.set_cons_succ]
        refine wpAnyH_take (i := 5) (v := ?vg5) rfl (by kernel_rfl) (by kernel_rfl) (by kernel_rfl) (fun _ _ _ h => h) (Or.inl ⟨by rfl, ?yg5⟩) (by assumption) ?rg5
        case yg5 =>
          intro w hSw
          (try dsimp only at hSw)
          go_simp
          first | done | with_reducible rfl
        try simp only [Act.put, List.getElem_toArray, List.getElem_cons_zero, List.getElem_cons_succ, List.setIfInBounds_toArray, List.set_cons_zero, List.set_cons_succ]
        refine wpAnyH_take (i := 6) (v := ?vg6) rfl (by kernel_rfl) (by kernel_rfl) (by kernel_rfl) (fun _ _ _ h => h) (Or.inl ⟨by rfl, ?yg6⟩) (by assumption) ?rg6
        case yg6 =>
          intro w hSw
          (try dsimp only at hSw)
          go_simp
          first | done | with_reducible rfl
        try simp only [Act.put, List.getElem_toArray, List.getElem_cons_zero, List.getElem_cons_succ, List.setIfInBounds_toArray, List.set_cons_zero, List.set_cons_succ]
        refine wpAnyH_take (i := 7) (v := ?vg7) rfl (by kernel_rfl) (by kernel_rfl) (by kernel_rfl) (fun _ _ _ h => h) (Or.inl ⟨by rfl, ?yg7⟩) (by assumption) ?rg7
        case yg7 =>
          intro w hSw
          (try dsimp only at hSw)
          go_simp
          first | done | with_reducible rfl
        try simp only [Act.put, List.getElem_toArray, List.getElem_cons_zero, List.getElem_cons_succ, List.setIfInBounds_toArray, List.set_cons_zero, List.set_cons_succ]
        refine wpAnyH_ready (rs := [8]) (by kernel_rfl) (by simp) ?_
        refine AllReadyH.cons rfl (fun K hK => ?_) AllReadyH.nil
        go_simp
        refine hK.out _ _ ⟨?_, ?_, ?_⟩ (fun hHeld => ?_)
        · exact (ka.cell (p := ⟨w.heap.size + 4, 0, none⟩) (by show w.heap.size + 4 < _; omega)).trans k0
        · exact (ka.cell (p := ⟨g1, 0, none⟩) hg1').trans k1
        · exact (ka.block (w.heap.size + 3) (by omega)).trans k2
        clear hK K
        try simp only [Act.put, List.getElem_toArray, List.getElem_cons_zero, List.getElem_cons_succ, List.setIfInBounds_toArray, List.set_cons_zero, List.set_cons_succ]
        refine wpAnyH_ready (rs := [9]) (by kernel_rfl) (by simp) ?_
        refine AllReadyH.cons rfl (fun K hK => ?_) AllReadyH.nil
        refine wp_store_mid 58 (.tmp 8) (.tmp 29) rfl w1.heap.size 0 #[.int .i64 0, .int .i64 0] rfl rfl (fun j hj => there2 (show ((w1.alloc (.cells #[.int .i64 0, .int .i64 0] 58)).drew).heap[w1.heap.size]? = _ from heap_alloc_new w1 _) hj) (by kernel_rfl) (by simp [Value.oneCell']) ?_
        obtain ⟨V2, hV2⟩ : ∃ V2, ((w1.alloc (.cells #[.int .i64 0, .int .i64 0] 58)).drew).setCells w1.heap.size 0 [.int .i64 0, .int .i64 0] = V2 := ⟨_, rfl⟩
        rw [show (#[Value.int .i64 0, .int .i64 0] : Array Value).toList = [.int .i64 0, .int .i64 0] from rfl, hV2]
        have hst := store2 (show ((w1.alloc (.cells #[.int .i64 0, .int .i64 0] 58)).drew).heap[w1.heap.size]? = some (.cells #[.int .i64 0, .int .i64 0] 58 (0, 0)) from heap_alloc_new w1 _) (.int .i64 0) (.int .i64 0)
        rw [hV2] at hst
        have hbV : Below w1.heap.size w1 V2 := by rw [← hV2]; exact (ka.drew.setCell (p := ⟨w1.heap.size, 0, none⟩) (Nat.le_refl _) _).setCell (p := ⟨w1.heap.size, 1, none⟩) (Nat.le_refl _) _
        have hzV : V2.heap.size = w1.heap.size + 1 := by rw [← hV2]; exact (store2_size _ _ _ _).trans (World.size_alloc _ _)
        clear hV2
        refine hK.out _ _ ⟨(hbV.cell (p := ⟨w.heap.size + 4, 0, none⟩) (by show w.heap.size + 4 < _; omega)).trans k0, (hbV.cell (p := ⟨g1, 0, none⟩) hg1').trans k1, (hbV.block (w.heap.size + 3) (by omega)).trans k2⟩ (fun hHeld => ?_)
        clear hK K
        try simp only [Act.put, List.getElem_toArray, List.getElem_cons_zero, List.getElem_cons_succ]
        refine wpAnyH_take (i := 10) (v := ?vg10) rfl (by kernel_rfl) (by kernel_rfl) (by kernel_rfl) (fun _ _ _ h => h) (Or.inl ⟨by rfl, ?yg10⟩) (by assumption) ?rg10
        case yg10 =>
          intro w hSw
          (try dsimp only at hSw)
          go_simp
          first | done | with_reducible rfl
        try simp only [Act.put, List.getElem_toArray, List.getElem_cons_zero, List.getElem_cons_succ, List.setIfInBounds_toArray, List.set_cons_zero, List.set_cons_succ]
        refine wpAnyH_done (by kernel_rfl) ?_ _
        dsimp only [NoOut]
        gi_wp2_with fail
        have hwf : Fence.wide.fn 30 := trivial
        refine wpIn_round_quiet_lit rfl rmixed (by kernel_rfl) (by kernel_rfl) ?_
        repeat (gi_big_quiet_step (fail))
        refine wpQuietIn_nil ?_
        intro _ hw2
        obtain ⟨nq, hw3⟩ := hw2
        subst hw3
        have hbq : Below V2.heap.size V2 (V2.drewN nq) := ⟨rfl, rfl, rfl, Nat.le_refl _, fun _ _ => rfl⟩
        obtain ⟨V3, hV3⟩ : ∃ V3, V2.drewN nq = V3 := ⟨_, rfl⟩
        rw [hV3] at hbq ⊢
        clear hV3
        have hbr : Below W.heap.size W V3 := HB1.out.trans ((hbV.trans (hbq.mono (by omega))).mono (by omega))
        have r1 : Boxed V3 w.heap.size 23 (.slice none 0 0) := (hbr.block _ (by omega)).trans HJ.out.res
        have r2 : Boxed V3 (w.heap.size + 1) 24 (.int .i64 0) := (hbr.block _ (by omega)).trans HJ.out.err
        have HR1 := Lib.hid r1
        have HR2 := Lib.hid r2
        have HBR := Lib.hid hbr
        have q1 := r1.cell
        have q2 := r2.cell
        have f1 := r1.frozen
        have f2 := r2.frozen
        have HNO := Lib.hid (HBAD.out (one_kind HPS.out HKK.out))
        clear r1 r2 hbr
        gi_wp2_with fail
        refine ⟨((rk_below HBR.out).trans ((KeepsOthers.setCell _ _ _).trans (KeepsOthers.setCell _ _ _))).from _, rfl, HNO.out, ?_, ?_, ?_⟩
        · exact (heap_setCell_other _ _ _ _ (by show w.heap.size ≠ w.heap.size + 1; omega)).trans (HR1.out.set _)
        · have h9 : Boxed (V3.setCell ⟨w.heap.size, 0, none⟩ (.slice none 0 0)) (w.heap.size + 1) 24 (.int .i64 0) := (heap_setCell_other _ _ _ _ (by show w.heap.size + 1 ≠ w.heap.size; omega)).trans HR2.out
          exact h9.set _
        · exact ((HJ.out.low.trans (HBR.out.mono (by omega))).setCell (p := ⟨w.heap.size, 0, none⟩) (Nat.le_refl _) _).setCell (p := ⟨w.heap.size + 1, 0, none⟩) (Nat.le_succ _) _
      · have hhit := forms_hit y0 (by rw [← HY0.out, mkB_data, hkk]; exact hk0)
        rw [← HY0.out, mkB_data, HY0.out, hkk] at hhit
        obtain ⟨fi, hfi⟩ := hhit
        have HFI := Lib.hid (fun (W : World) (h : W.heap[w.heap.size + 3]? = some (.map formsE 5)) => run_look_hit (P := Tryd.prog) (mty := 51) y0 Tryd.underlying51 Tryd.underlying9 h hfi)
        have HKK := Lib.hid hkk
        clear hfi hkk
        refine wpIn_round_held (S := fun w' => w'.cell? ⟨w.heap.size + 4, 0, none⟩ = some (.map (some (w.heap.size + 3))) ∧ w'.cell? ⟨g1, 0, none⟩ = some (.string y0) ∧ w'.heap[w.heap.size + 3]? = some (.map formsE 5)) rmixed (by kernel_rfl) ⟨k0, k1, k2⟩ (fun hHeld => ?_)
        refine wpAnyH_take (i := 0) (v := ?va0) rfl (by kernel_rfl) (by kernel_rfl) (by kernel_rfl) (fun _ _ _ h => h) (Or.inl ⟨by rfl, ?ya0⟩) (by assumption) ?ra0
        case ya0 =>
          intro w hSw
          (try dsimp only at hSw)
          go_simp
          first | done | with_reducible rfl
        try simp only [Act.put, List.getElem_toArray, List.getElem_cons_zero, List.setIfInBounds_toArray, List.set_cons_zero, List.set_cons_succ]
        refine wpAnyH_take (i := 1) (v := ?va1) rfl (by kernel_rfl) (by kernel_rfl) (by kernel_rfl) (fun _ _ _ h => h) (Or.inl ⟨by rfl, ?ya1⟩) (by assumption) ?ra1
        case ya1 =>
          intro w hSw
          (try dsimp only at hSw)
          go_simp
          first | done | with_reducible rfl
        try simp only [Act.put, List.getElem_toArray, List.getElem_cons_zero, List.getElem_cons_succ, List.setIfInBounds_toArray, List.set_cons_zero, List.set_cons_succ]
        refine wpAnyH_take (i := 2) (v := ?va2) rfl (by kernel_rfl) (by kernel_rfl) (by kernel_rfl) (fun _ _ _ h => h) (Or.inl ⟨by rfl, ?ya2⟩) (by assumption) ?ra2
        case ya2 =>
          intro w hSw
          (try dsimp only at hSw)
          go_simp
          first | done | with_reducible rfl
        try simp only [Act.put, List.getElem_toArray, List.getElem_cons_zero, List.getElem_cons_succ, List.setIfInBounds_toArray, List.set_cons_zero, List.set_cons_succ]
        refine wpAnyH_take (i := 3) (v := ?va3) rfl (by kernel_rfl) (by kernel_rfl) (by kernel_rfl) (fun _ _ _ h => h) (Or.inl ⟨by rfl, ?ya3⟩) (by assumption) ?ra3
        case ya3 =>
          intro w hSw
          (try dsimp only at hSw)
          go_simp
          first | done | with_reducible rfl
        try simp only [Act.put, List.getElem_toArray, List.getElem_cons_zero, List.getElem_cons_succ, List.setIfInBounds_toArray, List.set_cons_zero, List.set_cons_succ]
        refine wpAnyH_take (i := 4) (v := ?va4) rfl (by kernel_rfl) (by kernel_rfl) (by kernel_rfl) (fun _ _ _ h => h) (Or.inl ⟨by rfl, ?ya4⟩) (by assumption) ?ra4
        case ya4 =>
          intro w hSw
          (try dsimp only at hSw)
          obtain ⟨u0, u1, u2⟩ := hSw
          have hlk := HFI.out w u2
          go_simp
          first | done | with_reducible rfl
        try simp only [Act.put, List.getElem_toArray, List.getElem_cons_zero, List.getElem_cons_succ, List.setIfInBounds_toArray, List.set_cons_zero, List.set_cons_succ]
        refine wpAnyH_take (i := 5) (v := ?va5) rfl (by kernel_rfl) (by kernel_rfl) (by kernel_rfl) (fun _ _ _ h => h) (Or.inl ⟨by rfl, ?ya5⟩) (by assumption) ?ra5
        case ya5 =>
          intro w hSw
          (try dsimp only at hSw)
          go_simp
          first | done | with_reducible rfl
        try simp only [Act.put, List.getElem_toArray, List.getElem_cons_zero, List.getElem_cons_succ, List.setIfInBounds_toArray, List.set_cons_zero, List.set_cons_succ]
        refine wpAnyH_take (i := 6) (v := ?va6) rfl (by kernel_rfl) (by kernel_rfl) (by kernel_rfl) (fun _ _ _ h => h) (Or.inl ⟨by rfl, ?ya6⟩) (by assumption) ?ra6
        case ya6 =>
          intro w hSw
          (try dsimp only at hSw)
          go_simp
          first | done | with_reducible rfl
        try simp only [Act.put, List.getElem_toArray, List.getElem_cons_zero, List.getElem_cons_succ, List.setIfInBounds_toArray, List.set_cons_zero, List.set_cons_succ]
        refine wpAnyH_take (i := 7) (v := ?va7) rfl (by kernel_rfl) (by kernel_rfl) (by kernel_rfl) (fun _ _ _ h => h) (Or.inl ⟨by rfl, ?ya7⟩) (by assumption) ?ra7
        case ya7 =>
          intro w hSw
          (try dsimp only at hSw)
          go_simp
          first | done | with_reducible rfl
        try simp only [Act.put, List.getElem_toArray, List.getElem_cons_zero, List.getElem_cons_succ, List.setIfInBounds_toArray, List.set_cons_zero, List.set_cons_succ]
        refine wpAnyH_ready (rs := [8]) (by kernel_rfl) (by simp) ?_
        refine AllReadyH.cons rfl (fun K hK => ?_) AllReadyH.nil
        go_simp
        refine hK.out _ _ ⟨?_, ?_, ?_⟩ (fun hHeld => ?_)
        · exact (ka.cell (p := ⟨w.heap.size + 4, 0, none⟩) (by show w.heap.size + 4 < _; omega)).trans k0
        · exact (ka.cell (p := ⟨g1, 0, none⟩) hg1').trans k1
        · exact (ka.block (w.heap.size + 3) (by omega)).trans k2
        clear hK K
        try simp only [Act.put, List.getElem_toArray, List.getElem_cons_zero, List.getElem_cons_succ, List.setIfInBounds_toArray, List.set_cons_zero, List.set_cons_succ]
        refine wpAnyH_ready (rs := [9]) (by kernel_rfl) (by simp) ?_
        refine AllReadyH.cons rfl (fun K hK => ?_) AllReadyH.nil
        refine wp_store_mid 58 (.tmp 8) (.tmp 29) rfl w1.heap.size 0 #[.int .i64 (kk : Int), .int .i64 (textsN kk : Int)] rfl rfl (fun j hj => there2 (show ((w1.alloc (.cells #[.int .i64 0, .int .i64 0] 58)).drew).heap[w1.heap.size]? = _ from heap_alloc_new w1 _) hj) (by kernel_rfl) (by simp [Value.oneCell']) ?_
        obtain ⟨V2, hV2⟩ : ∃ V2, ((w1.alloc (.cells #[.int .i64 0, .int .i64 0] 58)).drew).setCells w1.heap.size 0 [.int .i64 (kk : Int), .int .i64 (textsN kk : Int)] = V2 := ⟨_, rfl⟩
        rw [show (#[Value.int .i64 (kk : Int), .int .i64 (textsN kk : Int)] : Array Value).toList = [.int .i64 (kk : Int), .int .i64 (textsN kk : Int)] from rfl, hV2]
        have hst := store2 (show ((w1.alloc (.cells #[.int .i64 0, .int .i64 0] 58)).drew).heap[w1.heap.size]? = some (.cells #[.int .i64 0, .int .i64 0] 58 (0, 0)) from heap_alloc_new w1 _) (.int .i64 (kk : Int)) (.int .i64 (textsN kk : Int))
        rw [hV2] at hst
        have hbV : Below w1.heap.size w1 V2 := by rw [← hV2]; exact (ka.drew.setCell (p := ⟨w1.heap.size, 0, none⟩) (Nat.le_refl _) _).setCell (p := ⟨w1.heap.size, 1, none⟩) (Nat.le_refl _) _
        have hzV : V2.heap.size = w1.heap.size + 1 := by rw [← hV2]; exact (store2_size _ _ _ _).trans (World.size_alloc _ _)
        clear hV2
        refine hK.out _ _ ⟨(hbV.cell (p := ⟨w.heap.size + 4, 0, none⟩) (by show w.heap.size + 4 < _; omega)).trans k0, (hbV.cell (p := ⟨g1, 0, none⟩) hg1').trans k1, (hbV.block (w.heap.size + 3) (by omega)).trans k2⟩ (fun hHeld => ?_)
        clear hK K
        try simp only [Act.put, List.getElem_toArray, List.getElem_cons_zero, List.getElem_cons_succ]
        refine wpAnyH_take (i := 10) (v := ?va10) rfl (by kernel_rfl) (by kernel_rfl) (by kernel_rfl) (fun _ _ _ h => h) (Or.inl ⟨by rfl, ?ya10⟩) (by assumption) ?ra10
        case ya10 =>
          intro w hSw
          (try dsimp only at hSw)
          go_simp
          first | done | with_reducible rfl
        try simp only [Act.put, List.getElem_toArray, List.getElem_cons_zero, List.getElem_cons_succ, List.setIfInBounds_toArray, List.set_cons_zero, List.set_cons_succ]
        refine wpAnyH_done (by kernel_rfl) ?_ _
        dsimp only [NoOut]
        gi_wp2_with fail
        by_cases hN1 : N - 1 = 1 + textsN kk
        · skip
          have z0 := cell_of_row _ _ 0 _ _ _ hst
          have z1 := cell_of_row _ _ 1 _ _ _ hst
          simp only [List.getElem?_toArray, List.getElem?_cons_zero, List.getElem?_cons_succ] at z0 z1
          have wn2 : (1 : Int) ≤ (N : Int) := by omega
          obtain ⟨A1, hA1⟩ : ∃ A1 : Option Addr, (if c1 = 1 then some ⟨g1, 0, none⟩ else some ⟨g1, 1, none⟩) = A1 := ⟨_, rfl⟩
          have HHAS := Lib.hid (fun W => has_any (kk : Int) (textsN kk) (N - 1) (c1 - 1) A1 W (texts_le kk) (by omega))
          rw [decide_eq_true hN1] at HHAS
          have HN1 := Lib.hid hN1
          clear hN1
          refine wpIn_round_held (S := fun w' => w'.cell? ⟨w1.heap.size, 0, none⟩ = some (.int .i64 (kk : Int)) ∧ w'.cell? ⟨w1.heap.size, 1, none⟩ = some (.int .i64 (textsN kk : Int))) rmixed (by kernel_rfl) ⟨z0, z1⟩ (fun hHeld => ?_)
          refine wpAnyH_take (i := 0) (v := ?vb0) rfl (by kernel_rfl) (by kernel_rfl) (by kernel_rfl) (fun _ _ _ h => h) (Or.inl ⟨by rfl, ?yb0⟩) (by assumption) ?rb0
          case yb0 =>
            intro w hSw
            (try dsimp only at hSw)
            go_simp
            first | done | with_reducible rfl
          try simp only [Act.put, List.getElem_toArray, List.getElem_cons_zero, List.setIfInBounds_toArray, List.set_cons_zero, List.set_cons_succ]
          refine wpAnyH_take (i := 1) (v := ?vb1) rfl (by kernel_rfl) (by kernel_rfl) (by kernel_rfl) (fun _ _ _ h => h) (Or.inl ⟨by rfl, ?yb1⟩) (by assumption) ?rb1
          case yb1 =>
            intro w hSw
            (try dsimp only at hSw)
            go_simp
            first | done | with_reducible rfl
          try simp only [Act.put, List.getElem_toArray, List.getElem_cons_zero, List.getElem_cons_succ, List.setIfInBounds_toArray, List.set_cons_zero, List.set_cons_succ]
          refine wpAnyH_take (i := 2) (v := ?vb2) rfl (by kernel_rfl) (by kernel_rfl) (by kernel_rfl) (fun _ _ _ h => h) (Or.inl ⟨by rfl, ?yb2⟩) (by assumption) ?rb2
          case yb2 =>
            intro w hSw
            (try dsimp only at hSw)
            go_simp
            first | done | with_reducible rfl
          try simp only [Act.put, List.getElem_toArray, List.getElem_cons_zero, List.getElem_cons_succ, List.setIfInBounds_toArray, List.set_cons_zero, List.set_cons_succ]
          refine wpAnyH_take (i := 3) (v := ?vb3) rfl (by kernel_rfl) (by kernel_rfl) (by kernel_rfl) (fun _ _ _ h => h) (Or.inl ⟨by rfl, ?yb3⟩) (by assumption) ?rb3
          case yb3 =>
            intro w hSw
            (try dsimp only at hSw)
            go_simp
            first | done | with_reducible rfl
          try simp only [Act.put, List.getElem_toArray, List.getElem_cons_zero, List.getElem_cons_succ, List.setIfInBounds_toArray, List.set_cons_zero, List.set_cons_succ]
          refine wpAnyH_take (i := 4) (v := ?vb4) rfl (by kernel_rfl) (by kernel_rfl) (by kernel_rfl) (fun _ _ _ h => h) (Or.inl ⟨by rfl, ?yb4⟩) (by assumption) ?rb4
          case yb4 =>
            intro w hSw
            (try dsimp only at hSw)
            go_simp
            first | done | with_reducible rfl
          try simp only [Act.put, List.getElem_toArray, List.getElem_cons_zero, List.getElem_cons_succ, List.setIfInBounds_toArray, List.set_cons_zero, List.set_cons_succ]
          refine wpAnyH_ready (rs := [5]) (by kernel_rfl) (by simp) ?_
          refine AllReadyH.cons rfl (fun K hK => ?_) AllReadyH.nil
          go_simp
          refine (HHAS.out V2.drew).mono ?_
          rintro e w3 ⟨rfl, hb3⟩
          have hb3' : Below w1.heap.size w1 w3 := hbV.trans (((Below.refl _ V2).drew.trans hb3).mono (by show w1.heap.size ≤ V2.heap.size; omega))
          have hq3 := (hb3.block w1.heap.size (by show w1.heap.size < V2.heap.size; omega)).trans hst
          have f0 := cell_of_row _ _ 0 _ _ _ hq3
          have f1 := cell_of_row _ _ 1 _ _ _ hq3
          have HB3 := Lib.hid hb3'
          have HQ3 := Lib.hid hq3
          clear hb3 hb3' hq3
          refine hK.out _ _ ⟨f0, f1⟩ (fun hHeld => ?_)
          clear hK K
          try simp only [Act.put, List.getElem_toArray, List.getElem_cons_zero, List.getElem_cons_succ, List.setIfInBounds_toArray, List.set_cons_zero, List.set_cons_succ]
          refine wpAnyH_take (i := 6) (v := ?vb6) rfl (by kernel_rfl) (by kernel_rfl) (by kernel_rfl) (fun _ _ _ h => h) (Or.inl ⟨by rfl, ?yb6⟩) (by assumption) ?rb6
          case yb6 =>
            intro w hSw
            (try dsimp only at hSw)
            go_simp
            first | done | with_reducible rfl
          try simp only [Act.put, List.getElem_toArray, List.getElem_cons_zero, List.getElem_cons_succ, List.setIfInBounds_toArray, List.set_cons_zero, List.set_cons_succ]
          refine wpAnyH_done (by kernel_rfl) ?_ _
          dsimp only [NoOut]
          gi_wp2_with fail
          obtain ⟨g0, Q, hpq⟩ : ∃ g Q, ps = g :: Q := by
            have hN1 := HN1.out
            cases e : ps with
            | nil =>
              have h1 := HNN.out
              rw [HPS.out, e] at h1
              simp only [List.length_cons, List.length_nil] at h1
              omega
            | cons g Q => exact ⟨g, Q, rfl⟩
          have hQl : Q.length = textsN kk := by
            have h1 := HNN.out
            have hN1 := HN1.out
            rw [HPS.out, hpq] at h1
            simp only [List.length_cons] at h1
            omega
          have hNt : N = 2 + Q.length := by have hN1 := HN1.out; omega
          have hsm : ∀ p ∈ splitL 32 x.data.toList, p.length ≤ x.size := fun p hp => by
            have h1 : mkB p ∈ piecesB 32 x := by unfold piecesB; exact List.mem_map.2 ⟨p, hp, rfl⟩
            have h2 := piecesB_small 32 x _ h1
            rwa [mkB_size] at h2
          have hg0s : g0.length ≤ 16384 := by have := hsm g0 (by rw [HPS.out, hpq]; simp); omega
          have hQs : ∀ p ∈ Q, p.length ≤ 1000000 := fun p hp => by have := hsm p (by rw [HPS.out, hpq]; simp [hp]); omega
          obtain ⟨gB, hgB⟩ : ∃ gB, mkB g0 = gB := ⟨_, rfl⟩
          have hz3 := HB3.out.size
          have hz31 : w1.heap.size < w3.heap.size := (Array.getElem?_eq_some_iff.1 HQ3.out).1
          have cg : w3.cell? ⟨g1, 1, none⟩ = some (.string gB) := by rw [← hgB]; exact (HB3.out.cell (p := ⟨g1, 1, none⟩) hg1').trans (HRW.out 1 g0 (by rw [HPS.out, hpq]; rfl))
          obtain ⟨oq, hA2, hQc⟩ : ∃ oq, (if c1 = 2 then some ⟨g1, 0, none⟩ else some ⟨g1, 2, none⟩ : Option Addr) = some ⟨g1, oq, none⟩ ∧ ∀ i p, Q[i]? = some p → w1.cell? ⟨g1, oq + i, none⟩ = some (.string (mkB p)) := by
            by_cases hc2 : c1 = 2
            · refine ⟨0, by rw [if_pos hc2], fun i p hp => ?_⟩
              have := (List.getElem?_eq_some_iff.1 hp).1
              omega
            · refine ⟨2, by rw [if_neg hc2], fun i p hp => ?_⟩
              exact HRW.out (2 + i) p (by rw [HPS.out, hpq, show 2 + i = i + 1 + 1 from by omega, List.getElem?_cons_succ, List.getElem?_cons_succ]; exact hp)
          have wm1 : (1 : Int) < (N : Int) := by omega
          have wm2 : (1 : Int) < (c1 : Int) := by omega
          have wm3 : (2 : Int) ≤ (N : Int) := by omega
          have hN2 : N - 2 = Q.length := by omega
          have hgd : gB.data.toList = g0 := by rw [← hgB, mkB_data]
          have hk15 : 1 ≤ kk ∧ kk ≤ 5 := (word_kind HKK.out hk0).2
          have hWg : ∀ {V : World}, Below w1.heap.size w1 V → Below w.heap.size w V := fun h => (HJ.out.low.trans (HB1.out.mono (by omega))).trans (h.mono (by omega))
          have hm1 : MaxOk w := hm
          have HREAD : Hid (∀ V : World, Below w1.heap.size w1 V → Calls Tryd.prog 31 #[.agg #[.int .i64 kk, .int .i64 (textsN kk)], .string gB, .slice (some ⟨g1, oq, none⟩) (N - 2) (c1 - 2)] V (ReadPost (readU kk g0 Q) V)) := fun V hV => by
            have h := read_any kk gB Q g1 oq (c1 - 2) V hk15 hQl (fun i p hp => (hV.cell (p := ⟨g1, oq + i, none⟩) hg1').trans (hQc i p hp)) (by have := hV.size; omega) (by omega) hQs (by rw [← hgB, mkB_size]; omega) (hm1.belowN (hWg hV) (Nat.le_refl _))
            rw [hgd, ← hN2] at h
            exact h
          have HONE : Hid (oneU (splitL 32 x.data.toList) = readU kk g0 Q) := one_read HPS.out hpq HKK.out hk0 HNN.out HN1.out
          have hHeld1 := hHeld.1
          have hHeld2 := hHeld.2
          have HA2 := Lib.hid hA2
          clear hpq hQl hNt hsm hg0s hQs hgB hN2 hgd hQc hA1
          gi_wp2_with fail
          refine wpIn_round_held (S := fun w' => w'.cell? ⟨w1.heap.size, 0, none⟩ = some (.int .i64 (kk : Int)) ∧ w'.cell? ⟨w1.heap.size, 1, none⟩ = some (.int .i64 (textsN kk : Int)) ∧ w'.cell? ⟨g1, 1, none⟩ = some (.string gB)) rmixed (by kernel_rfl) ⟨hHeld1, hHeld2, cg⟩ (fun hHeld => ?_)
          refine wpAnyH_take (i := 0) (v := ?vd0) rfl (by kernel_rfl) (by kernel_rfl) (by kernel_rfl) (fun _ _ _ h => h) (Or.inl ⟨by rfl, ?yd0⟩) (by assumption) ?rd0
          case yd0 =>
            intro w hSw
            (try dsimp only at hSw)
            go_simp
            first | done | with_reducible rfl
          try simp only [Act.put, List.getElem_toArray, List.getElem_cons_zero, List.setIfInBounds_toArray, List.set_cons_zero, List.set_cons_succ]
          refine wpAnyH_take (i := 1) (v := ?vd1) rfl (by kernel_rfl) (by kernel_rfl) (by kernel_rfl) (fun _ _ _ h => h) (Or.inl ⟨by rfl, ?yd1⟩) (by assumption) ?rd1
          case yd1 =>
            intro w hSw
            (try dsimp only at hSw)
            go_simp
            first | done | with_reducible rfl
          try simp only [Act.put, List.getElem_toArray, List.getElem_cons_zero, List.getElem_cons_succ, List.setIfInBounds_toArray, List.set_cons_zero, List.set_cons_succ]
          refine wpAnyH_take (i := 2) (v := ?vd2) rfl (by kernel_rfl) (by kernel_rfl) (by kernel_rfl) (fun _ _ _ h => h) (Or.inl ⟨by rfl, ?yd2⟩) (by assumption) ?rd2
          case yd2 =>
            intro w hSw
            (try dsimp only at hSw)
            go_simp
            first | done | with_reducible rfl
          try simp only [Act.put, List.getElem_toArray, List.getElem_cons_zero, List.getElem_cons_succ, List.setIfInBounds_toArray, List.set_cons_zero, List.set_cons_succ]
          refine wpAnyH_take (i := 3) (v := ?vd3) rfl (by kernel_rfl) (by kernel_rfl) (by kernel_rfl) (fun _ _ _ h => h) (Or.inl ⟨by rfl, ?yd3⟩) (by assumption) ?rd3
          case yd3 =>
            intro w hSw
            (try dsimp only at hSw)
            go_simp
            first | done | with_reducible rfl
          try simp only [Act.put, List.getElem_toArray, List.getElem_cons_zero, List.getElem_cons_succ, List.setIfInBounds_toArray, List.set_cons_zero, List.set_cons_succ]
          refine wpAnyH_take (i := 4) (v := ?vd4) rfl (by kernel_rfl) (by kernel_rfl) (by kernel_rfl) (fun _ _ _ h => h) (Or.inl ⟨by rfl, ?yd4⟩) (by assumption) ?rd4
          case yd4 =>
            intro w hSw
            (try dsimp only at hSw)
            go_simp
            first | done | with_reducible rfl
          try simp only [Act.put, List.getElem_toArray, List.getElem_cons_zero, List.getElem_cons_succ, List.setIfInBounds_toArray, List.set_cons_zero, List.set_cons_succ]
          refine wpAnyH_take (i := 5) (v := ?vd5) rfl (by kernel_rfl) (by kernel_rfl) (by kernel_rfl) (fun _ _ _ h => h) (Or.inl ⟨by rfl, ?yd5⟩) (by assumption) ?rd5
          case yd5 =>
            intro w hSw
            (try dsimp only at hSw)
            have hA2 := HA2.out
            go_simp
            first | done | with_reducible rfl
          try simp only [Act.put, List.getElem_toArray, List.getElem_cons_zero, List.getElem_cons_succ, List.setIfInBounds_toArray, List.set_cons_zero, List.set_cons_succ]
          refine wpAnyH_ready (rs := [6, 10]) (by kernel_rfl) (by simp) ?_
          refine AllReadyH.cons rfl (fun K hK => ?_) (AllReadyH.cons rfl (fun K hK => ?_) AllReadyH.nil)
          · go_simp
            refine (HREAD.out w3.drew ?_).mono ?_
            · exact HB3.out.drew
            rintro e w4 ⟨⟨xk, xg, xo, xn⟩, bb, rfl, hrd, hb4⟩
            have hb4' : Below w1.heap.size w1 w4 := (HB3.out.drew).trans (hb4.mono (by have h8 : Below w1.heap.size w1 (w3.drew) := HB3.out.drew; exact h8.size))
            have hbs : Below w3.heap.size w3 w4 := (Below.refl _ w3).drew.trans hb4
            have HB4 := Lib.hid hb4'
            have hz4 := hbs.size
            refine hK.out _ _ ⟨(hbs.cell (p := ⟨w1.heap.size, 0, none⟩) (by show w1.heap.size < _; omega)).trans hHeld1, (hbs.cell (p := ⟨w1.heap.size, 1, none⟩) (by show w1.heap.size < _; omega)).trans hHeld2, (hbs.cell (p := ⟨g1, 1, none⟩) (by show g1 < _; omega)).trans cg⟩ (fun hHeld => ?_)
            clear hK K
            try simp only []
            refine wpAnyH_take (i := 7) (v := ?ve7) rfl (by kernel_rfl) (by kernel_rfl) (by kernel_rfl) (fun _ _ _ h => h) (Or.inl ⟨by rfl, ?ye7⟩) (by assumption) ?re7
            case ye7 =>
              intro w hSw
              (try dsimp only at hSw)
              go_simp
              first | done | with_reducible rfl
            try simp only [Act.put, List.getElem_toArray, List.getElem_cons_zero, List.getElem_cons_succ, List.setIfInBounds_toArray, List.set_cons_zero, List.set_cons_succ]
            refine wpAnyH_take (i := 8) (v := ?ve8) rfl (by kernel_rfl) (by kernel_rfl) (by kernel_rfl) (fun _ _ _ h => h) (Or.inl ⟨by rfl, ?ye8⟩) (by assumption) ?re8
            case ye8 =>
              intro w hSw
              (try dsimp only at hSw)
              go_simp
              first | done | with_reducible rfl
            try simp only [Act.put, List.getElem_toArray, List.getElem_cons_zero, List.getElem_cons_succ, List.setIfInBounds_toArray, List.set_cons_zero, List.set_cons_succ]
            refine wpAnyH_take (i := 9) (v := ?ve9) rfl (by kernel_rfl) (by kernel_rfl) (by kernel_rfl) (fun _ _ _ h => h) (Or.inl ⟨by rfl, ?ye9⟩) (by assumption) ?re9
            case ye9 =>
              intro w hSw
              (try dsimp only at hSw)
              go_simp
              first | done | with_reducible rfl
            try simp only [Act.put, List.getElem_toArray, List.getElem_cons_zero, List.getElem_cons_succ, List.setIfInBounds_toArray, List.set_cons_zero, List.set_cons_succ]
            refine wpAnyH_ready (rs := [10]) (by kernel_rfl) (by simp) ?_
            refine AllReadyH.cons rfl (fun K hK => ?_) AllReadyH.nil
            go_simp
            have hbt : Below w4.heap.size w4 (w4.alloc (.cells #[.int .i64 0, .string ⟨#[]⟩, .string ⟨#[]⟩, .string ⟨#[]⟩] 35)) := (Below.refl _ _).alloc (Nat.le_refl _) _
            have hbu := hbs.trans (hbt.mono hz4)
            refine hK.out _ _ ⟨(hbu.cell (p := ⟨w1.heap.size, 0, none⟩) (by show w1.heap.size < _; omega)).trans hHeld1, (hbu.cell (p := ⟨w1.heap.size, 1, none⟩) (by show w1.heap.size < _; omega)).trans hHeld2, (hbu.cell (p := ⟨g1, 1, none⟩) (by show g1 < _; omega)).trans cg⟩ (fun hHeld => ?_)
            clear hK K
            try simp only [Act.put, List.getElem_toArray, List.getElem_cons_zero, List.getElem_cons_succ, List.setIfInBounds_toArray, List.set_cons_zero, List.set_cons_succ]
            refine wpAnyH_ready (rs := [11]) (by kernel_rfl) (by simp) ?_
            refine AllReadyH.cons rfl (fun K hK => ?_) AllReadyH.nil
            refine wp_store_mid 35 (.tmp 10) (.tmp 46) rfl w4.heap.size 0 #[.int .i64 xk, .string xg, .string xo, .string xn] rfl rfl (fun j hj => there4 (show (w4.alloc (.cells #[.int .i64 0, .string ⟨#[]⟩, .string ⟨#[]⟩, .string ⟨#[]⟩] 35)).heap[w4.heap.size]? = some (.cells #[.int .i64 0, .string ⟨#[]⟩, .string ⟨#[]⟩, .string ⟨#[]⟩] 35 (0, 0)) from heap_alloc_new w4 _) hj) (by kernel_rfl) (by simp [Value.oneCell']) ?_
            obtain ⟨V5, hV5⟩ : ∃ V5, (w4.alloc (.cells #[.int .i64 0, .string ⟨#[]⟩, .string ⟨#[]⟩, .string ⟨#[]⟩] 35)).setCells w4.heap.size 0 [.int .i64 xk, .string xg, .string xo, .string xn] = V5 := ⟨_, rfl⟩
            rw [show (#[Value.int .i64 xk, .string xg, .string xo, .string xn] : Array Value).toList = [.int .i64 xk, .string xg, .string xo, .string xn] from rfl, hV5]
            have hst5 := store4 (show (w4.alloc (.cells #[.int .i64 0, .string ⟨#[]⟩, .string ⟨#[]⟩, .string ⟨#[]⟩] 35)).heap[w4.heap.size]? = some (.cells #[.int .i64 0, .string ⟨#[]⟩, .string ⟨#[]⟩, .string ⟨#[]⟩] 35 (0, 0)) from heap_alloc_new w4 _) (.int .i64 xk) (.string xg) (.string xo) (.string xn)
            have hbV5 := store4_below (B := w3.heap.size) (N := w4.heap.size) (w4.alloc (.cells #[.int .i64 0, .string ⟨#[]⟩, .string ⟨#[]⟩, .string ⟨#[]⟩] 35)) (.int .i64 xk) (.string xg) (.string xo) (.string xn) (by omega)
            rw [hV5] at hst5 hbV5
            have hb35 : Below w3.heap.size w3 V5 := (hbu).trans hbV5
            have HB5 := Lib.hid (HB3.out.trans (hb35.mono hz3))
            have HR5 := Lib.hid hst5.1
            clear hV5 hst5 hbV5
            refine hK.out _ _ ⟨(hb35.cell (p := ⟨w1.heap.size, 0, none⟩) (by show w1.heap.size < _; omega)).trans hHeld1, (hb35.cell (p := ⟨w1.heap.size, 1, none⟩) (by show w1.heap.size < _; omega)).trans hHeld2, (hb35.cell (p := ⟨g1, 1, none⟩) (by show g1 < _; omega)).trans cg⟩ (fun hHeld => ?_)
            clear hK K
            try simp only [Act.put, List.getElem_toArray, List.getElem_cons_zero, List.getElem_cons_succ]
            refine wpAnyH_take (i := 12) (v := ?ve12) rfl (by kernel_rfl) (by kernel_rfl) (by kernel_rfl) (fun _ _ _ h => h) (Or.inl ⟨by rfl, ?ye12⟩) (by assumption) ?re12
            case ye12 =>
              intro w hSw
              (try dsimp only at hSw)
              go_simp
              first | done | with_reducible rfl
            try simp only [Act.put, List.getElem_toArray, List.getElem_cons_zero, List.getElem_cons_succ, List.setIfInBounds_toArray, List.set_cons_zero, List.set_cons_succ]
            refine wpAnyH_done (by kernel_rfl) ?_ _
            dsimp only [NoOut]
            have HRD := Lib.hid hrd
            clear hrd hHeld
            obtain ⟨R, hRn⟩ : ∃ R, w4.heap.size = R := ⟨_, rfl⟩
            rw [hRn] at HR5
            try rw [hRn]
            cases bb with
            | false =>
              have hnone : oneU (splitL 32 x.data.toList) = none := by rw [HONE.out, HRD.out]; rfl
              have hbr : Below W.heap.size W V5 := HB1.out.trans (HB5.out.mono (by omega))
              have r1 : Boxed V5 w.heap.size 23 (.slice none 0 0) := (hbr.block _ (by omega)).trans HJ.out.res
              have r2 : Boxed V5 (w.heap.size + 1) 24 (.int .i64 0) := (hbr.block _ (by omega)).trans HJ.out.err
              have HR1 := Lib.hid r1
              have HR2 := Lib.hid r2
              have HBR := Lib.hid hbr
              have q1 := r1.cell
              have q2 := r2.cell
              have f1 := r1.frozen
              have f2 := r2.frozen
              have HNO := Lib.hid (HBAD.out hnone)
              clear r1 r2 hbr
              gi_wp2_with fail
              refine ⟨((rk_below HBR.out).trans ((KeepsOthers.setCell _ _ _).trans (KeepsOthers.setCell _ _ _))).from _, rfl, HNO.out, ?_, ?_, ?_⟩
              · exact (heap_setCell_other _ _ _ _ (by show w.heap.size ≠ w.heap.size + 1; omega)).trans (HR1.out.set _)
              · have h9 : Boxed (V5.setCell ⟨w.heap.size, 0, none⟩ (.slice none 0 0)) (w.heap.size + 1) 24 (.int .i64 0) := (heap_setCell_other _ _ _ _ (by show w.heap.size + 1 ≠ w.heap.size; omega)).trans HR2.out
                exact h9.set _
              · exact ((HJ.out.low.trans (HBR.out.mono (by omega))).setCell (p := ⟨w.heap.size, 0, none⟩) (Nat.le_refl _) _).setCell (p := ⟨w.heap.size + 1, 0, none⟩) (Nat.le_succ _) _
            | true =>
              have hsome : oneU (splitL 32 x.data.toList) = some (RX.ru ⟨xk, xg, xo, xn⟩) := by rw [HONE.out, HRD.out]; rfl
              have hbW5 : Below W.heap.size W V5 := HB1.out.trans (HB5.out.mono (by omega))
              obtain ⟨v, hv, hrow⟩ := HRU.out.below hbW5
              have c2 := hv.cell
              have f2 := hv.frozen
              have e0 := cell_of_row _ _ 0 _ _ _ HR5.out
              have e1 := cell_of_row _ _ 1 _ _ _ HR5.out
              have e2 := cell_of_row _ _ 2 _ _ _ HR5.out
              have e3 := cell_of_row _ _ 3 _ _ _ HR5.out
              simp only [List.getElem?_toArray, List.getElem?_cons_zero, List.getElem?_cons_succ] at e0 e1 e2 e3
              have hz5 := hbW5.size
              have hkl : k ≤ 20000 := by have := (List.getElem?_eq_some_iff.1 HX.out).1; omega
              have HBW5 := Lib.hid hbW5
              have HSOME := Lib.hid hsome
              clear hbW5 hsome
              gi_wp2_with (gi_at_builtin; go_loud (refine wpListIn_append_own _ rfl _ _ 23 rfl (w.heap.size + 8) 35 ri (.agg #[.int .i64 0, .string ⟨#[]⟩, .string ⟨#[]⟩, .string ⟨#[]⟩]) 4 56 Tryd.underlying23 hri hrz0 hrz1 hrz2 rfl (by decide) _ _ _ rfl (hrow.alloc _) ⟨V5.heap.size, 0, none⟩ 1 1 [.int .i64 xk, .string xg, .string xo, .string xn] rfl rfl (cell_four_new _ _ _ _ _ _) (by intro u hu; simp only [List.mem_cons, List.mem_nil_iff, or_false] at hu; rcases hu with rfl | rfl | rfl | rfl <;> rfl) (by unfold maxLen; omega) (by omega) (by simp; omega) ?_; intro v' w6 hown' hgrow _; obtain ⟨g', cap', rfl⟩ := rules_succ hown'; obtain ⟨hv1, hv2, hr2, hk2, hsame, hb2⟩ := rules_push (n₀ := w.heap.size) (by decide) hv hrow (by omega) (by omega) (by omega) hown' hgrow; have hc1 := hv1.cell; have hf1 := hv1.frozen))
              have hsw : ∀ j, j < w.heap.size + 8 → j ≠ w.heap.size + 2 → (w6.setCell ⟨w.heap.size + 2, 0, none⟩ (.slice (some ⟨g', 0, none⟩) (L.length + 1) cap')).heap[j]? = W.heap[j]? := fun j h1 h2 => (hsame j h1 h2).trans (HBW5.out.block j (by omega))
              refine ⟨((rk_below HBW5.out).trans hk2).from _, ⟨by have := hb2.size; omega, ?_⟩, HJ.out.next (L := L ++ [⟨xk, xg, xo, xn⟩]) ⟨hsw _ (by omega) (by omega), hsw _ (by omega) (by omega), hsw _ (by omega) (by omega), hsw _ (by omega) (by omega)⟩ ((HBW5.out.mono (by omega)).trans hb2) (by rw [HGOOD.out _ HSOME.out, rusX_append]; rfl) ⟨_, hv2, ?_⟩ (by rw [List.length_append]; simp; omega)⟩
              · rintro j (rfl | rfl | rfl) _ <;> exact hsw _ (by omega) (by omega)
              · rw [List.length_append, rcells_append]; exact hr2
          · go_simp
            have hbt : Below w3.heap.size w3 ((w3.alloc (.cells #[.int .i64 0, .string ⟨#[]⟩, .string ⟨#[]⟩, .string ⟨#[]⟩] 35)).drew) := ((Below.refl _ _).alloc (Nat.le_refl _) _).drew
            have hrz : ((w3.alloc (.cells #[.int .i64 0, .string ⟨#[]⟩, .string ⟨#[]⟩, .string ⟨#[]⟩] 35)).drew).heap[w3.heap.size]? = some (.cells #[.int .i64 0, .string ⟨#[]⟩, .string ⟨#[]⟩, .string ⟨#[]⟩] 35 (0, 0)) := heap_alloc_new w3 _
            have hzb : ((w3.alloc (.cells #[.int .i64 0, .string ⟨#[]⟩, .string ⟨#[]⟩, .string ⟨#[]⟩] 35)).drew).heap.size = w3.heap.size + 1 := World.size_alloc _ _
            refine hK.out _ _ ⟨(hbt.cell (p := ⟨w1.heap.size, 0, none⟩) (by show w1.heap.size < _; omega)).trans hHeld1, (hbt.cell (p := ⟨w1.heap.size, 1, none⟩) (by show w1.heap.size < _; omega)).trans hHeld2, (hbt.cell (p := ⟨g1, 1, none⟩) (by show g1 < _; omega)).trans cg⟩ (fun hHeld => ?_)
            clear hK K
            try simp only [Act.put, List.getElem_toArray, List.getElem_cons_zero, List.getElem_cons_succ, List.setIfInBounds_toArray, List.set_cons_zero, List.set_cons_succ]
            refine wpAnyH_ready (rs := [6]) (by kernel_rfl) (by simp) ?_
            refine AllReadyH.cons rfl (fun K hK => ?_) AllReadyH.nil
            go_simp
            refine (HREAD.out (w3.alloc (.cells #[.int .i64 0, .string ⟨#[]⟩, .string ⟨#[]⟩, .string ⟨#[]⟩] 35)).drew ?_).mono ?_
            · exact HB3.out.trans (hbt.mono (by omega))
            rintro e w4 ⟨⟨xk, xg, xo, xn⟩, bb, rfl, hrd, hb4⟩
            have hb4' : Below w1.heap.size w1 w4 := (HB3.out.trans (hbt.mono (by omega))).trans (hb4.mono (by have h8 : Below w1.heap.size w1 ((w3.alloc (.cells #[.int .i64 0, .string ⟨#[]⟩, .string ⟨#[]⟩, .string ⟨#[]⟩] 35)).drew) := HB3.out.trans (hbt.mono (by omega)); exact h8.size))
            have hbs : Below w3.heap.size w3 w4 := hbt.trans (hb4.mono (by omega))
            have hrz4 := (hb4.block w3.heap.size (by omega)).trans hrz
            have HB4 := Lib.hid hb4'
            have hz4 := hbs.size
            refine hK.out _ _ ⟨(hbs.cell (p := ⟨w1.heap.size, 0, none⟩) (by show w1.heap.size < _; omega)).trans hHeld1, (hbs.cell (p := ⟨w1.heap.size, 1, none⟩) (by show w1.heap.size < _; omega)).trans hHeld2, (hbs.cell (p := ⟨g1, 1, none⟩) (by show g1 < _; omega)).trans cg⟩ (fun hHeld => ?_)
            clear hK K
            try simp only []
            refine wpAnyH_take (i := 7) (v := ?vf7) rfl (by kernel_rfl) (by kernel_rfl) (by kernel_rfl) (fun _ _ _ h => h) (Or.inl ⟨by rfl, ?yf7⟩) (by assumption) ?rf7
            case yf7 =>
              intro w hSw
              (try dsimp only at hSw)
              go_simp
              first | done | with_reducible rfl
            try simp only [Act.put, List.getElem_toArray, List.getElem_cons_zero, List.getElem_cons_succ, List.setIfInBounds_toArray, List.set_cons_zero, List.set_cons_succ]
            refine wpAnyH_take (i := 8) (v := ?vf8) rfl (by kernel_rfl) (by kernel_rfl) (by kernel_rfl) (fun _ _ _ h => h) (Or.inl ⟨by rfl, ?yf8⟩) (by assumption) ?rf8
            case yf8 =>
              intro w hSw
              (try dsimp only at hSw)
              go_simp
              first | done | with_reducible rfl
            try simp only [Act.put, List.getElem_toArray, List.getElem_cons_zero, List.getElem_cons_succ, List.setIfInBounds_toArray, List.set_cons_zero, List.set_cons_succ]
            refine wpAnyH_take (i := 9) (v := ?vf9) rfl (by kernel_rfl) (by kernel_rfl) (by kernel_rfl) (fun _ _ _ h => h) (Or.inl ⟨by rfl, ?yf9⟩) (by assumption) ?rf9
            case yf9 =>
              intro w hSw
              (try dsimp only at hSw)
              go_simp
              first | done | with_reducible rfl
            try simp only [Act.put, List.getElem_toArray, List.getElem_cons_zero, List.getElem_cons_succ, List.setIfInBounds_toArray, List.set_cons_zero, List.set_cons_succ]
            refine wpAnyH_ready (rs := [11]) (by kernel_rfl) (by simp) ?_
            refine AllReadyH.cons rfl (fun K hK => ?_) AllReadyH.nil
            refine wp_store_mid 35 (.tmp 10) (.tmp 46) rfl w3.heap.size 0 #[.int .i64 xk, .string xg, .string xo, .string xn] rfl rfl (fun j hj => there4 (show (w4).heap[w3.heap.size]? = some (.cells #[.int .i64 0, .string ⟨#[]⟩, .string ⟨#[]⟩, .string ⟨#[]⟩] 35 (0, 0)) from hrz4) hj) (by kernel_rfl) (by simp [Value.oneCell']) ?_
            obtain ⟨V5, hV5⟩ : ∃ V5, (w4).setCells w3.heap.size 0 [.int .i64 xk, .string xg, .string xo, .string xn] = V5 := ⟨_, rfl⟩
            rw [show (#[Value.int .i64 xk, .string xg, .string xo, .string xn] : Array Value).toList = [.int .i64 xk, .string xg, .string xo, .string xn] from rfl, hV5]
            have hst5 := store4 (show (w4).heap[w3.heap.size]? = some (.cells #[.int .i64 0, .string ⟨#[]⟩, .string ⟨#[]⟩, .string ⟨#[]⟩] 35 (0, 0)) from hrz4) (.int .i64 xk) (.string xg) (.string xo) (.string xn)
            have hbV5 := store4_below (B := w3.heap.size) (N := w3.heap.size) (w4) (.int .i64 xk) (.string xg) (.string xo) (.string xn) (by omega)
            rw [hV5] at hst5 hbV5
            have hb35 : Below w3.heap.size w3 V5 := (hbs).trans hbV5
            have HB5 := Lib.hid (HB3.out.trans (hb35.mono hz3))
            have HR5 := Lib.hid hst5.1
            clear hV5 hst5 hbV5
            refine hK.out _ _ ⟨(hb35.cell (p := ⟨w1.heap.size, 0, none⟩) (by show w1.heap.size < _; omega)).trans hHeld1, (hb35.cell (p := ⟨w1.heap.size, 1, none⟩) (by show w1.heap.size < _; omega)).trans hHeld2, (hb35.cell (p := ⟨g1, 1, none⟩) (by show g1 < _; omega)).trans cg⟩ (fun hHeld => ?_)
            clear hK K
            try simp only [Act.put, List.getElem_toArray, List.getElem_cons_zero, List.getElem_cons_succ]
            refine wpAnyH_take (i := 12) (v := ?vf12) rfl (by kernel_rfl) (by kernel_rfl) (by kernel_rfl) (fun _ _ _ h => h) (Or.inl ⟨by rfl, ?yf12⟩) (by assumption) ?rf12
            case yf12 =>
              intro w hSw
              (try dsimp only at hSw)
              go_simp
              first | done | with_reducible rfl
            try simp only [Act.put, List.getElem_toArray, List.getElem_cons_zero, List.getElem_cons_succ, List.setIfInBounds_toArray, List.set_cons_zero, List.set_cons_succ]
            refine wpAnyH_done (by kernel_rfl) ?_ _
            dsimp only [NoOut]
            have HRD := Lib.hid hrd
            clear hrd hHeld
            obtain ⟨R, hRn⟩ : ∃ R, w3.heap.size = R := ⟨_, rfl⟩
            rw [hRn] at HR5
            try rw [hRn]
            cases bb with
            | false =>
              have hnone : oneU (splitL 32 x.data.toList) = none := by rw [HONE.out, HRD.out]; rfl
              have hbr : Below W.heap.size W V5 := HB1.out.trans (HB5.out.mono (by omega))
              have r1 : Boxed V5 w.heap.size 23 (.slice none 0 0) := (hbr.block _ (by omega)).trans HJ.out.res
              have r2 : Boxed V5 (w.heap.size + 1) 24 (.int .i64 0) := (hbr.block _ (by omega)).trans HJ.out.err
              have HR1 := Lib.hid r1
              have HR2 := Lib.hid r2
              have HBR := Lib.hid hbr
              have q1 := r1.cell
              have q2 := r2.cell
              have f1 := r1.frozen
              have f2 := r2.frozen
              have HNO := Lib.hid (HBAD.out hnone)
              clear r1 r2 hbr
              gi_wp2_with fail
              refine ⟨((rk_below HBR.out).trans ((KeepsOthers.setCell _ _ _).trans (KeepsOthers.setCell _ _ _))).from _, rfl, HNO.out, ?_, ?_, ?_⟩
              · exact (heap_setCell_other _ _ _ _ (by show w.heap.size ≠ w.heap.size + 1; omega)).trans (HR1.out.set _)
              · have h9 : Boxed (V5.setCell ⟨w.heap.size, 0, none⟩ (.slice none 0 0)) (w.heap.size + 1) 24 (.int .i64 0) := (heap_setCell_other _ _ _ _ (by show w.heap.size + 1 ≠ w.heap.size; omega)).trans HR2.out
                exact h9.set _
              · exact ((HJ.out.low.trans (HBR.out.mono (by omega))).setCell (p := ⟨w.heap.size, 0, none⟩) (Nat.le_refl _) _).setCell (p := ⟨w.heap.size + 1, 0, none⟩) (Nat.le_succ _) _
            | true =>
              have hsome : oneU (splitL 32 x.data.toList) = some (RX.ru ⟨xk, xg, xo, xn⟩) := by rw [HONE.out, HRD.out]; rfl
              have hbW5 : Below W.heap.size W V5 := HB1.out.trans (HB5.out.mono (by omega))
              obtain ⟨v, hv, hrow⟩ := HRU.out.below hbW5
              have c2 := hv.cell
              have f2 := hv.frozen
              have e0 := cell_of_row _ _ 0 _ _ _ HR5.out
              have e1 := cell_of_row _ _ 1 _ _ _ HR5.out
              have e2 := cell_of_row _ _ 2 _ _ _ HR5.out
              have e3 := cell_of_row _ _ 3 _ _ _ HR5.out
              simp only [List.getElem?_toArray, List.getElem?_cons_zero, List.getElem?_cons_succ] at e0 e1 e2 e3
              have hz5 := hbW5.size
              have hkl : k ≤ 20000 := by have := (List.getElem?_eq_some_iff.1 HX.out).1; omega
              have HBW5 := Lib.hid hbW5
              have HSOME := Lib.hid hsome
              clear hbW5 hsome
              gi_wp2_with (gi_at_builtin; go_loud (refine wpListIn_append_own _ rfl _ _ 23 rfl (w.heap.size + 8) 35 ri (.agg #[.int .i64 0, .string ⟨#[]⟩, .string ⟨#[]⟩, .string ⟨#[]⟩]) 4 56 Tryd.underlying23 hri hrz0 hrz1 hrz2 rfl (by decide) _ _ _ rfl (hrow.alloc _) ⟨V5.heap.size, 0, none⟩ 1 1 [.int .i64 xk, .string xg, .string xo, .string xn] rfl rfl (cell_four_new _ _ _ _ _ _) (by intro u hu; simp only [List.mem_cons, List.mem_nil_iff, or_false] at hu; rcases hu with rfl | rfl | rfl | rfl <;> rfl) (by unfold maxLen; omega) (by omega) (by simp; omega) ?_; intro v' w6 hown' hgrow _; obtain ⟨g', cap', rfl⟩ := rules_succ hown'; obtain ⟨hv1, hv2, hr2, hk2, hsame, hb2⟩ := rules_push (n₀ := w.heap.size) (by decide) hv hrow (by omega) (by omega) (by omega) hown' hgrow; have hc1 := hv1.cell; have hf1 := hv1.frozen))
              have hsw : ∀ j, j < w.heap.size + 8 → j ≠ w.heap.size + 2 → (w6.setCell ⟨w.heap.size + 2, 0, none⟩ (.slice (some ⟨g', 0, none⟩) (L.length + 1) cap')).heap[j]? = W.heap[j]? := fun j h1 h2 => (hsame j h1 h2).trans (HBW5.out.block j (by omega))
              refine ⟨((rk_below HBW5.out).trans hk2).from _, ⟨by have := hb2.size; omega, ?_⟩, HJ.out.next (L := L ++ [⟨xk, xg, xo, xn⟩]) ⟨hsw _ (by omega) (by omega), hsw _ (by omega) (by omega), hsw _ (by omega) (by omega), hsw _ (by omega) (by omega)⟩ ((HBW5.out.mono (by omega)).trans hb2) (by rw [HGOOD.out _ HSOME.out, rusX_append]; rfl) ⟨_, hv2, ?_⟩ (by rw [List.length_append]; simp; omega)⟩
              · rintro j (rfl | rfl | rfl) _ <;> exact hsw _ (by omega) (by omega)
              · rw [List.length_append, rcells_append]; exact hr2
        · skip
          have z0 := cell_of_row _ _ 0 _ _ _ hst
          have z1 := cell_of_row _ _ 1 _ _ _ hst
          simp only [List.getElem?_toArray, List.getElem?_cons_zero, List.getElem?_cons_succ] at z0 z1
          have wn2 : (1 : Int) ≤ (N : Int) := by omega
          obtain ⟨A1, hA1⟩ : ∃ A1 : Option Addr, (if c1 = 1 then some ⟨g1, 0, none⟩ else some ⟨g1, 1, none⟩) = A1 := ⟨_, rfl⟩
          have HHAS := Lib.hid (fun W => has_any (kk : Int) (textsN kk) (N - 1) (c1 - 1) A1 W (texts_le kk) (by omega))
          rw [decide_eq_false hN1] at HHAS
          have HN1 := Lib.hid hN1
          clear hN1
          refine wpIn_round_held (S := fun w' => w'.cell? ⟨w1.heap.size, 0, none⟩ = some (.int .i64 (kk : Int)) ∧ w'.cell? ⟨w1.heap.size, 1, none⟩ = some (.int .i64 (textsN kk : Int))) rmixed (by kernel_rfl) ⟨z0, z1⟩ (fun hHeld => ?_)
          refine wpAnyH_take (i := 0) (v := ?vc0) rfl (by kernel_rfl) (by kernel_rfl) (by kernel_rfl) (fun _ _ _ h => h) (Or.inl ⟨by rfl, ?yc0⟩) (by assumption) ?rc0
          case yc0 =>
            intro w hSw
            (try dsimp only at hSw)
            go_simp
            first | done | with_reducible rfl
          try simp only [Act.put, List.getElem_toArray, List.getElem_cons_zero, List.setIfInBounds_toArray, List.set_cons_zero, List.set_cons_succ]
          refine wpAnyH_take (i := 1) (v := ?vc1) rfl (by kernel_rfl) (by kernel_rfl) (by kernel_rfl) (fun _ _ _ h => h) (Or.inl ⟨by rfl, ?yc1⟩) (by assumption) ?rc1
          case yc1 =>
            intro w hSw
            (try dsimp only at hSw)
            go_simp
            first | done | with_reducible rfl
          try simp only [Act.put, List.getElem_toArray, List.getElem_cons_zero, List.getElem_cons_succ, List.setIfInBounds_toArray, List.set_cons_zero, List.set_cons_succ]
          refine wpAnyH_take (i := 2) (v := ?vc2) rfl (by kernel_rfl) (by kernel_rfl) (by kernel_rfl) (fun _ _ _ h => h) (Or.inl ⟨by rfl, ?yc2⟩) (by assumption) ?rc2
          case yc2 =>
            intro w hSw
            (try dsimp only at hSw)
            go_simp
            first | done | with_reducible rfl
          try simp only [Act.put, List.getElem_toArray, List.getElem_cons_zero, List.getElem_cons_succ, List.setIfInBounds_toArray, List.set_cons_zero, List.set_cons_succ]
          refine wpAnyH_take (i := 3) (v := ?vc3) rfl (by kernel_rfl) (by kernel_rfl) (by kernel_rfl) (fun _ _ _ h => h) (Or.inl ⟨by rfl, ?yc3⟩) (by assumption) ?rc3
          case yc3 =>
            intro w hSw
            (try dsimp only at hSw)
            go_simp
            first | done | with_reducible rfl
          try simp only [Act.put, List.getElem_toArray, List.getElem_cons_zero, List.getElem_cons_succ, List.setIfInBounds_toArray, List.set_cons_zero, List.set_cons_succ]
          refine wpAnyH_take (i := 4) (v := ?vc4) rfl (by kernel_rfl) (by kernel_rfl) (by kernel_rfl) (fun _ _ _ h => h) (Or.inl ⟨by rfl, ?yc4⟩) (by assumption) ?rc4
          case yc4 =>
            intro w hSw
            (try dsimp only at hSw)
            go_simp
            first | done | with_reducible rfl
          try simp only [Act.put, List.getElem_toArray, List.getElem_cons_zero, List.getElem_cons_succ, List.setIfInBounds_toArray, List.set_cons_zero, List.set_cons_succ]
          refine wpAnyH_ready (rs := [5]) (by kernel_rfl) (by simp) ?_
          refine AllReadyH.cons rfl (fun K hK => ?_) AllReadyH.nil
          go_simp
          refine (HHAS.out V2.drew).mono ?_
          rintro e w3 ⟨rfl, hb3⟩
          have hb3' : Below w1.heap.size w1 w3 := hbV.trans (((Below.refl _ V2).drew.trans hb3).mono (by show w1.heap.size ≤ V2.heap.size; omega))
          have hq3 := (hb3.block w1.heap.size (by show w1.heap.size < V2.heap.size; omega)).trans hst
          have f0 := cell_of_row _ _ 0 _ _ _ hq3
          have f1 := cell_of_row _ _ 1 _ _ _ hq3
          have HB3 := Lib.hid hb3'
          have HQ3 := Lib.hid hq3
          clear hb3 hb3' hq3
          refine hK.out _ _ ⟨f0, f1⟩ (fun hHeld => ?_)
          clear hK K
          try simp only [Act.put, List.getElem_toArray, List.getElem_cons_zero, List.getElem_cons_succ, List.setIfInBounds_toArray, List.set_cons_zero, List.set_cons_succ]
          refine wpAnyH_take (i := 6) (v := ?vc6) rfl (by kernel_rfl) (by kernel_rfl) (by kernel_rfl) (fun _ _ _ h => h) (Or.inl ⟨by rfl, ?yc6⟩) (by assumption) ?rc6
          case yc6 =>
            intro w hSw
            (try dsimp only at hSw)
            go_simp
            first | done | with_reducible rfl
          try simp only [Act.put, List.getElem_toArray, List.getElem_cons_zero, List.getElem_cons_succ, List.setIfInBounds_toArray, List.set_cons_zero, List.set_cons_succ]
          refine wpAnyH_done (by kernel_rfl) ?_ _
          dsimp only [NoOut]
          have hbr : Below W.heap.size W w3 := HB1.out.trans (HB3.out.mono (by omega))
          have r1 : Boxed w3 w.heap.size 23 (.slice none 0 0) := (hbr.block _ (by omega)).trans HJ.out.res
          have r2 : Boxed w3 (w.heap.size + 1) 24 (.int .i64 0) := (hbr.block _ (by omega)).trans HJ.out.err
          have HR1 := Lib.hid r1
          have HR2 := Lib.hid r2
          have HBR := Lib.hid hbr
          have q1 := r1.cell
          have q2 := r2.cell
          have f1 := r1.frozen
          have f2 := r2.frozen
          have HNO := Lib.hid (HBAD.out (one_len HPS.out HKK.out HNN.out HN1.out))
          clear r1 r2 hbr
          gi_wp2_with fail
          refine ⟨((rk_below HBR.out).trans ((KeepsOthers.setCell _ _ _).trans (KeepsOthers.setCell _ _ _))).from _, rfl, HNO.out, ?_, ?_, ?_⟩
          · exact (heap_setCell_other _ _ _ _ (by show w.heap.size ≠ w.heap.size + 1; omega)).trans (HR1.out.set _)
          · have h9 : Boxed (w3.setCell ⟨w.heap.size, 0, none⟩ (.slice none 0 0)) (w.heap.size + 1) 24 (.int .i64 0) := (heap_setCell_other _ _ _ _ (by show w.heap.size + 1 ≠ w.heap.size; omega)).trans HR2.out
            exact h9.set _
          · exact ((HJ.out.low.trans (HBR.out.mono (by omega))).setCell (p := ⟨w.heap.size, 0, none⟩) (Nat.le_refl _) _).setCell (p := ⟨w.heap.size + 1, 0, none⟩) (Nat.le_succ _) _
  case done =>
    rintro D W hD hJ hK
    have hWs : w.heap.size + 8 ≤ W.heap.size := by have := (Array.getElem?_eq_some_iff.1 hK).1; omega
    obtain ⟨L, hl1, ⟨v, hv, hrow⟩, hl3⟩ := hJ.rules
    have hlt := hl1.out
    unfold linesTo at hlt
    rw [List.take_of_length_le (by omega)] at hlt
    obtain ⟨A, c, rfl, hc, hcm⟩ := ownsRow_slice hrow
    have hll := rusX_length L
    have c2 := hv.cell
    have p1 := hJ.res.cell
    have p2 := hJ.err.cell
    have f1 := hJ.res.frozen
    have f2 := hJ.err.frozen
    have HK := Lib.hid hK
    have HJ := Lib.hid hJ
    have HRW := Lib.hid hrow
    have HLT := Lib.hid hlt
    clear hK hJ hrow hlt hl1
    have hDb : D ≠ w.heap.size := by omega
    have hDb1 : D ≠ w.heap.size + 1 := by omega
    by_cases h50 : 50 < L.length
    · have g50 : (50 : Int) < (L.length : Int) := by omega
      have hpv : parseU s.data.toList = (3, []) := by
        unfold parseU
        rw [if_neg (by rw [rl_size]; omega), HLT.out]
        simp only
        rw [if_pos (by rw [hll]; exact h50)]
      have HPV := Lib.hid hpv
      clear hpv h50
      gi_wp2_with fail
      have e1 : Boxed ((W.setCell ⟨w.heap.size, 0, none⟩ (.slice none 0 0)).setCell ⟨w.heap.size + 1, 0, none⟩ (.int .i64 3)) w.heap.size 23 (.slice none 0 0) := (heap_setCell_other _ _ _ _ (by show w.heap.size ≠ w.heap.size + 1; omega)).trans (HJ.out.res.set _)
      have e2 : Boxed ((W.setCell ⟨w.heap.size, 0, none⟩ (.slice none 0 0)).setCell ⟨w.heap.size + 1, 0, none⟩ (.int .i64 3)) (w.heap.size + 1) 24 (.int .i64 3) := by
        have h9 : Boxed (W.setCell ⟨w.heap.size, 0, none⟩ (.slice none 0 0)) (w.heap.size + 1) 24 (.int .i64 0) := (heap_setCell_other _ _ _ _ (by show w.heap.size + 1 ≠ w.heap.size; omega)).trans HJ.out.err
        exact h9.set _
      have eK : ((W.setCell ⟨w.heap.size, 0, none⟩ (.slice none 0 0)).setCell ⟨w.heap.size + 1, 0, none⟩ (.int .i64 3)).heap[D]? = some (.deferred (some [])) := (heap_setCell_other _ _ _ _ hDb1).trans ((heap_setCell_other _ _ _ _ hDb).trans HK.out)
      have eB : Below w.heap.size w ((W.setCell ⟨w.heap.size, 0, none⟩ (.slice none 0 0)).setCell ⟨w.heap.size + 1, 0, none⟩ (.int .i64 3)) := (HJ.out.low.setCell (p := ⟨w.heap.size, 0, none⟩) (Nat.le_refl _) _).setCell (p := ⟨w.heap.size + 1, 0, none⟩) (Nat.le_succ _) _
      have eR : ((W.setCell ⟨w.heap.size, 0, none⟩ (.slice none 0 0)).setCell ⟨w.heap.size + 1, 0, none⟩ (.int .i64 3)).ownsRow (w.heap.size + 8) 35 4 (.slice A L.length c) L.length (rcells L) :=
        (HRW.out.kept (grownBy_setCell' W w.heap.size (.slice none 0 0)) (.inr (fun e => by have := (row_ge HRW.out e).1; omega))).kept (grownBy_setCell' _ (w.heap.size + 1) _) (.inr (fun e => by have := (row_ge HRW.out e).1; omega))
      generalize ((W.setCell ⟨w.heap.size, 0, none⟩ (.slice none 0 0)).setCell ⟨w.heap.size + 1, 0, none⟩ (.int .i64 3)) = V at *
      have g1 : Boxed (V.putObj D (.deferred none)) w.heap.size 23 (.slice none 0 0) := (World.putObj_heap_other hDb.symm).trans e1
      have g2 : Boxed (V.putObj D (.deferred none)) (w.heap.size + 1) 24 (.int .i64 3) := (World.putObj_heap_other hDb1.symm).trans e2
      have c5 := g1.cell
      have c7 := g2.cell
      refine ⟨by simp, .inl ⟨_, _, rfl, run_takeDeferred eK, ?_⟩⟩
      refine ⟨.tuple #[(.slice none 0 0), .int .i64 3], by simp [results, Tryd.f12, go_sem, c5, c7], ?_⟩
      have hbk := eB.trans (belowK_b (w := w) (Nat.le_refl _) V D _ (.deferred none) (by omega) eK rfl rfl)
      rw [HPV.out]
      exact ⟨none, 0, [], rfl, RulesAt.nil _ _ _ (Nat.zero_le _), rfl, hbk⟩
    · have g50 : ¬ (50 : Int) < (L.length : Int) := by omega
      have hpv : parseU s.data.toList = (0, rusX L) := by
        unfold parseU
        rw [if_neg (by rw [rl_size]; omega), HLT.out]
        simp only
        rw [if_neg (by rw [hll]; exact h50)]
      have HPV := Lib.hid hpv
      clear hpv h50
      gi_wp2_with fail
      have e1 : Boxed ((W.setCell ⟨w.heap.size, 0, none⟩ (.slice A L.length c)).setCell ⟨w.heap.size + 1, 0, none⟩ (.int .i64 0)) w.heap.size 23 (.slice A L.length c) := (heap_setCell_other _ _ _ _ (by show w.heap.size ≠ w.heap.size + 1; omega)).trans (HJ.out.res.set _)
      have e2 : Boxed ((W.setCell ⟨w.heap.size, 0, none⟩ (.slice A L.length c)).setCell ⟨w.heap.size + 1, 0, none⟩ (.int .i64 0)) (w.heap.size + 1) 24 (.int .i64 0) := by
        have h9 : Boxed (W.setCell ⟨w.heap.size, 0, none⟩ (.slice A L.length c)) (w.heap.size + 1) 24 (.int .i64 0) := (heap_setCell_other _ _ _ _ (by show w.heap.size + 1 ≠ w.heap.size; omega)).trans HJ.out.err
        exact h9.set _
      have eK : ((W.setCell ⟨w.heap.size, 0, none⟩ (.slice A L.length c)).setCell ⟨w.heap.size + 1, 0, none⟩ (.int .i64 0)).heap[D]? = some (.deferred (some [])) := (heap_setCell_other _ _ _ _ hDb1).trans ((heap_setCell_other _ _ _ _ hDb).trans HK.out)
      have eB : Below w.heap.size w ((W.setCell ⟨w.heap.size, 0, none⟩ (.slice A L.length c)).setCell ⟨w.heap.size + 1, 0, none⟩ (.int .i64 0)) := (HJ.out.low.setCell (p := ⟨w.heap.size, 0, none⟩) (Nat.le_refl _) _).setCell (p := ⟨w.heap.size + 1, 0, none⟩) (Nat.le_succ _) _
      have eR : ((W.setCell ⟨w.heap.size, 0, none⟩ (.slice A L.length c)).setCell ⟨w.heap.size + 1, 0, none⟩ (.int .i64 0)).ownsRow (w.heap.size + 8) 35 4 (.slice A L.length c) L.length (rcells L) :=
        (HRW.out.kept (grownBy_setCell' W w.heap.size (.slice A L.length c)) (.inr (fun e => by have := (row_ge HRW.out e).1; omega))).kept (grownBy_setCell' _ (w.heap.size + 1) _) (.inr (fun e => by have := (row_ge HRW.out e).1; omega))
      generalize ((W.setCell ⟨w.heap.size, 0, none⟩ (.slice A L.length c)).setCell ⟨w.heap.size + 1, 0, none⟩ (.int .i64 0)) = V at *
      have g1 : Boxed (V.putObj D (.deferred none)) w.heap.size 23 (.slice A L.length c) := (World.putObj_heap_other hDb.symm).trans e1
      have g2 : Boxed (V.putObj D (.deferred none)) (w.heap.size + 1) 24 (.int .i64 0) := (World.putObj_heap_other hDb1.symm).trans e2
      have c5 := g1.cell
      have c7 := g2.cell
      refine ⟨by simp, .inl ⟨_, _, rfl, run_takeDeferred eK, ?_⟩⟩
      refine ⟨.tuple #[(.slice A L.length c), .int .i64 0], by simp [results, Tryd.f12, go_sem, c5, c7], ?_⟩
      have hbk := eB.trans (belowK_b (w := w) (Nat.le_refl _) V D _ (.deferred none) (by omega) eK rfl rfl)
      rw [HPV.out]
      have eR2 : (V.putObj D (.deferred none)).ownsRow (w.heap.size + 8) 35 4 (.slice A L.length c) L.length (rcells L) := eR.kept (grownBy_putObj' V D (.deferred none)) (.inr (fun e => by
        obtain ⟨_, cur, h3⟩ := row_ge eR e
        rw [eK] at h3; cases h3))
      obtain ⟨A2, c2, e2, hR2⟩ := rules_own eR2
      cases e2
      exact ⟨A, c, L, rfl, hR2, rfl, hbk⟩
  case stop =>
    rintro D c k W hD hk ⟨rfl, hst, y1, y2, hB⟩ hK
    have hpv : parseU s.data.toList = (11, []) := by
      unfold parseU
      rw [if_neg (by rw [rl_size]; omega), linesU_take _ k hst.out]
    have HK := Lib.hid hK
    have HPV := Lib.hid hpv
    have HY1 := Lib.hid y1
    have HY2 := Lib.hid y2
    clear hK hpv hst y1 y2
    gi_wp2_with fail
    rw [Exit.noGoto_ret]
    have hD2 : D ≠ w.heap.size := by omega
    have hD3 : D ≠ w.heap.size + 1 := by omega
    have e1 : Boxed (W.putObj D (.deferred none)) w.heap.size 23 (.slice none 0 0) := (World.putObj_heap_other hD2.symm).trans HY1.out
    have e2 : Boxed (W.putObj D (.deferred none)) (w.heap.size + 1) 24 (.int .i64 11) := (World.putObj_heap_other hD3.symm).trans HY2.out
    have c5 := e1.cell
    have c7 := e2.cell
    refine ⟨by simp, .inl ⟨_, _, rfl, run_takeDeferred HK.out, ?_⟩⟩
    refine ⟨.tuple #[.slice none 0 0, .int .i64 11], by simp [results, Tryd.f12, go_sem, c5, c7], ?_⟩
    rw [HPV.out]
    exact ⟨none, 0, [], rfl, RulesAt.nil _ _ _ (Nat.zero_le _), rfl, hB.trans (belowK_b (w := w) (Nat.le_refl _) W D _ (.deferred none) (by omega) HK.out rfl rfl)⟩
end Go.Proofs.YthkbpophckjdnaaDoor
