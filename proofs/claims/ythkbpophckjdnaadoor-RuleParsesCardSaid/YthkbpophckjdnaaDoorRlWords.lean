/-
  The contracts of rule.wordsOf, form.has.
-/
import Derived.Test.YthkbpophckjdnaaDoorRlWrite
import Derived.Test.YthkbpophckjdnaaDoorSplit
import Derived.RangeFuncOwn
import Derived.RangeFuncCalls
namespace Go.Proofs.YthkbpophckjdnaaDoor
open Go Go.RowKit Go.Shelf Go.Proofs
attribute [local go_sem] Oper.semAt_some

/-- A row of texts of one's own, in new memory. -/
def OwnRow (B : Nat) (l : List Bs) (v : Value) (w : World) : Prop := ∃ g c, v = .slice (some ⟨g, 0, none⟩) l.length c ∧ B ≤ g ∧ g < w.heap.size ∧ RowS g l w ∧ l.length ≤ c ∧ c ≤ maxLen
def TexPost (w : World) (l : List Bs) (e : Ending) (w' : World) : Prop := ∃ v, e = .returned v ∧ OwnRow w.heap.size l v w' ∧ Below w.heap.size w w'
theorem ownRow_of {b : Nat} {w : World} {v : Value} {l : List Bs} (h : w.ownsRow b 9 1 v l.length (strVs l)) (hn : l ≠ []) : OwnRow b l v w := by
  obtain ⟨g, cap, rfl, hr, hb, hg⟩ := names_row h (by intro e; exact hn (List.eq_nil_of_length_eq_zero e))
  obtain ⟨a, c, e, h1, h2⟩ := ownsRow_slice h
  cases e
  exact ⟨g, cap, rfl, hb, hg, hr, h1, h2⟩
theorem OwnRow.below {B : Nat} {w w' : World} {v : Value} {l : List Bs} (h : OwnRow B l v w) (hb : Below w.heap.size w w') : OwnRow B l v w' := by
  obtain ⟨g, c, e, h1, h2, h3, h4, h5⟩ := h
  exact ⟨g, c, e, h1, by have := hb.size; omega, h3.below hb h2, h4, h5⟩

set_option maxRecDepth 100000 in
set_option maxHeartbeats 4000000 in
theorem rwordsOf_any (s : ByteArray) (w : World) (hs : s.size ≤ 1000000) :
    Calls Tryd.prog 29 #[.string s] w (TexPost w (splitL 32 s.data.toList)) := by
  obtain ⟨i0, hi, hz0, hz1, hz2⟩ := info_parts string_info
  refine (callsIn_wide (n := 777)).1 ?_
  generalize 777 = n
  refine callsIn_of_wp_marks Tryd.func29 rfl trivial ?_ rfl
  simp only [Tryd.ntmps29, List.size_toArray, List.length_cons, List.length_nil, Nat.reduceAdd, Nat.reduceSub, Array.replicate_succ, Array.replicate_zero, List.push_toArray, List.append_toArray, List.nil_append, List.cons_append]
  gi_wp2_with fail
  refine wide_call (splitSeq_any s ⟨#[32]⟩ _) ?_
  rintro e w' ⟨rfl, rfl⟩
  gi_wp2_with fail
  obtain ⟨W0, hW0⟩ : ∃ W0, (((w.alloc (.cells #[.slice none 0 0] 49)).alloc (.cells #[.string s] 9)).alloc (.cells #[.string ⟨#[32]⟩] 9)).alloc (.cells #[.int .i64 0] 3) = W0 := ⟨_, rfl⟩
  have hs0 : W0.heap.size = w.heap.size + 4 := by rw [← hW0]; simp
  have x0 : Boxed W0 w.heap.size 49 (.slice none 0 0) := by rw [← hW0]; exact (((Boxed.new w _ _).alloc _).alloc _).alloc _
  have x1 : Boxed W0 (w.heap.size + 1) 9 (.string s) := by
    rw [← hW0]; have := Boxed.new (w.alloc (.cells #[.slice none 0 0] 49)) 9 (.string s); rw [World.size_alloc] at this; exact (this.alloc _).alloc _
  have x2 : Boxed W0 (w.heap.size + 2) 9 (.string ⟨#[32]⟩) := by
    rw [← hW0]; have := Boxed.new ((w.alloc (.cells #[.slice none 0 0] 49)).alloc (.cells #[.string s] 9)) 9 (.string ⟨#[32]⟩); simp only [World.size_alloc] at this; exact this.alloc _
  have x3 : Boxed W0 (w.heap.size + 3) 3 (.int .i64 0) := by
    rw [← hW0]; have := Boxed.new (((w.alloc (.cells #[.slice none 0 0] 49)).alloc (.cells #[.string s] 9)).alloc (.cells #[.string ⟨#[32]⟩] 9)) 3 (.int .i64 0); simp only [World.size_alloc] at this; exact this
  have hB0 : Below w.heap.size w W0 := by
    rw [← hW0]; exact ((((Below.refl _ w).alloc (Nat.le_refl _) _).alloc (by simp) _).alloc (by simp; omega) _).alloc (by simp; omega) _
  rw [hW0]
  clear hW0
  have hpl : (piecesB 32 s).length = (splitL 32 s.data.toList).length := by unfold piecesB; simp
  have hsl := splitL_length 32 s.data.toList
  rw [rl_size] at hsl
  refine wpIn_rangeList rfl (fun h => absurd h (by decide)) (gf := 70) (lb := #[.pointer (some ⟨w.heap.size + 2, 0, none⟩), .pointer (some ⟨w.heap.size + 1, 0, none⟩), .pointer (some ⟨w.heap.size + 3, 0, none⟩)]) rfl trivial (enters_of Tryd.func70 (by kernel_rfl) rfl)
    (split_list _ (w.heap.size + 1) (w.heap.size + 2) (w.heap.size + 3) 32 s (by omega) W0 (by omega) (by omega) x1 x2 x3) KeepsB.trans (keepsB_b (by rintro k (rfl | rfl | rfl) <;> omega)) (by rintro r rfl; omega) (Below.refl _ _) (fun _ => rfl)
    (fun k W => Names (w.heap.size + 4) w.heap.size ((splitL 32 s.data.toList).take k) W ∧ Below w.heap.size w W)
    (fun _ _ _ => False)
    (OwnTo.and (fun _ _ _ _ hs hg hr => names_kept (by omega) (by unfold OnlyS; omega) (by rintro r rfl; omega) hs hg hr) (OwnTo.below (Nat.le_refl _) (by omega) (by rintro r rfl; omega)))
    (fun _ _ _ _ _ h _ _ => h)
    ⟨⟨_, x0, World.ownsRow_nil _ _ _ _⟩, hB0⟩
    (fun x a' _ => a' = { tmps := #[.string s, undef, .slice none 0 0, .pointer (some ⟨w.heap.size, 0, none⟩), .string x, .string s, .func (.func 70) #[] #[.pointer (some ⟨w.heap.size + 2, 0, none⟩), .pointer (some ⟨w.heap.size + 1, 0, none⟩), .pointer (some ⟨w.heap.size + 3, 0, none⟩)], .string x, undef, undef, undef, undef, undef], defers := [] }) (fun _ _ _ _ _ _ hs _ _ => hs) ?assign ?body ?done ?stop
  case assign =>
    intro l k x W K hi hK
    gi_wp2
    exact hK _ _ (KeepsFrom.refl _ _) (KeepsB.refl _ _) hi rfl
  case body =>
    rintro l k x a' W hl ⟨rl, hrl⟩ ⟨⟨v, hv, hrow⟩, hB⟩ rfl hx
    have hWs : w.heap.size + 4 ≤ W.heap.size := by have := (Array.getElem?_eq_some_iff.1 hrl).1; omega
    clear hrl
    have c0 := hv.cell
    have f0 := hv.frozen
    have hkl : k < (splitL 32 s.data.toList).length := by
      have := (List.getElem?_eq_some_iff.1 hx).1; omega
    have hxe : (splitL 32 s.data.toList)[k]? = some x.data.toList := by
      unfold piecesB at hx
      rw [List.getElem?_map] at hx
      cases e : (splitL 32 s.data.toList)[k]? with
      | none => rw [e] at hx; cases hx
      | some p => rw [e] at hx; cases hx; rw [mkB_data]
    have hns : (splitL 32 s.data.toList).take (k + 1) = (splitL 32 s.data.toList).take k ++ [x.data.toList] := by rw [List.take_add_one, hxe]; rfl
    have hnl : ((splitL 32 s.data.toList).take k).length ≤ 2000000 := by rw [List.length_take]; omega
    obtain ⟨ns, hnse⟩ : ∃ ns, (splitL 32 s.data.toList).take k = ns := ⟨_, rfl⟩
    rw [hnse] at hns hnl hrow
    have HX := Lib.hid hx; clear hx
    have HXE := Lib.hid hxe; clear hxe
    have HNS := Lib.hid hns; clear hns hnse
    gi_wp2_with (gi_at_builtin; refine wpListIn_append_own _ rfl _ _ 49 rfl (w.heap.size + 4) 9 i0 (.string ⟨#[]⟩) 1 16 Tryd.underlying49 hi hz0 hz1 hz2 rfl (by decide) _ _ _ rfl (hrow.alloc _) ⟨W.heap.size, 0, none⟩ 1 1 [.string x] rfl rfl (cell_one_new _ _ _) (by simp [Value.oneCell']) (by unfold maxLen; omega) (by omega) (by simp; omega) ?_; intro v' w1 hown' hgrow _; obtain ⟨g', cap', rfl⟩ := ownsRow_succ hown'; obtain ⟨hv1, hv2, hr2, hk2, hsame, hb2⟩ := names_push (n₀ := w.heap.size) (by decide) hv hrow hWs (by omega) (by omega) hown' hgrow; have hc1 := hv1.cell; have hf1 := hv1.frozen)
    refine ⟨hk2.from _, ⟨hk2.size, ?_⟩, ⟨_, hv2, ?_⟩, hB.trans hb2⟩
    · rintro j (rfl | rfl | rfl) _
      · exact hsame _ (by omega) (by omega)
      · exact hsame _ (by omega) (by omega)
      · exact hsame _ (by omega) (by omega)
    · have e1 : (ns ++ [x.data.toList]).length = ns.length + 1 := by simp
      have e2 : strVs (ns ++ [x.data.toList]) = strVs ns ++ [.string x] := by simp [strVs, strV, data_mkB]
      rw [HNS.out, e1, e2]; exact hr2
  case done =>
    rintro D W hD ⟨⟨v, hv, hrow⟩, hB⟩ hK
    rw [List.take_of_length_le (by omega)] at hrow
    have c2 := hv.cell
    gi_wp2
    refine ⟨by simp, .inl ⟨_, _, rfl, run_takeDeferred hK, ?_⟩⟩
    obtain ⟨g, c, rfl, h1, h2, h3, h4, h5⟩ := ownRow_of hrow (splitL_ne 32 _)
    have hbk := belowK_b (w := w) (Nat.le_refl _) W D _ (.deferred none) (by omega) hK rfl rfl
    have hgD : g ≠ D := by
      intro e
      obtain ⟨p, ps, hps⟩ : ∃ p ps, splitL 32 s.data.toList = p :: ps := by
        cases e : splitL 32 s.data.toList with
        | nil => exact absurd e (splitL_ne 32 _)
        | cons p ps => exact ⟨p, ps, rfl⟩
      have := h3 0 p (by rw [hps]; rfl)
      rw [e, World.cell?, hK] at this
      cases this
    refine ⟨_, by simp [results, Tryd.f29, go_sem], _, rfl, ⟨g, c, rfl, by omega, by have := hbk.size; omega, fun j p hp => ?_, h4, h5⟩, hB.trans hbk⟩
    exact (World.cell?_of_block (a := ⟨g, j, none⟩) (World.putObj_heap_other hgD)).trans (h3 j p hp)
  case stop =>
    rintro D c k W hD hk h
    exact h.elim

set_option maxHeartbeats 2000000 in
theorem has_any (k : Int) (t n c : Nat) (A : Option Addr) (w : World) (ht : t ≤ 2) (hn0 : n ≤ maxLen) :
    Calls Tryd.prog 30 #[.agg #[.int .i64 k, .int .i64 t], .slice A n c] w fun e w' => e = .returned (.bool (decide (n = 1 + t))) ∧ Below w.heap.size w w' := by
  have hn := hn0
  clear hn0
  unfold maxLen at hn
  have hw : IntKind.i64.wrap (1 + (t : Int)) = 1 + (t : Int) := IntWalk.i64_in _ (by omega)
  by_cases h : n = 1 + t
  · have h2 : ((n : Int) == 1 + (t : Int)) = true := by rw [beq_iff_eq]; omega
    rw [decide_eq_true h]
    clear h
    go_enter Tryd.func30, Tryd.ntmps30
    go_wp2_with fail
    go_ret
    exact ⟨rfl, (Below.refl _ w).alloc (Nat.le_refl _) _⟩
  · have h2 : ((n : Int) == 1 + (t : Int)) = false := by rw [beq_eq_false_iff_ne]; omega
    rw [decide_eq_false h]
    clear h
    go_enter Tryd.func30, Tryd.ntmps30
    go_wp2_with fail
    go_ret
    exact ⟨rfl, (Below.refl _ w).alloc (Nat.le_refl _) _⟩
end Go.Proofs.YthkbpophckjdnaaDoor
