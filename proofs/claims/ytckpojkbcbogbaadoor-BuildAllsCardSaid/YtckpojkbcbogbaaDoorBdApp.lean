/-
  Targets behind targets: append of a row of them.
-/
import Derived.Test.YtckpojkbcbogbaaDoorBdRdr
import Derived.Laws.AppendOwnNone
namespace Go.Proofs.YtckpojkbcbogbaaDoor
open Go Go.RowKit Go.Shelf Go.Proofs
attribute [local go_sem] Oper.semAt_some

theorem gcells_oneC (l : List TX) : ∀ u ∈ gcells l, u.oneCell' = true := by
  induction l with
  | nil => intro u hu; cases hu
  | cons x l ih =>
    intro u hu
    rw [gcells_cons] at hu
    simp only [List.mem_cons] at hu
    rcases hu with rfl | rfl | rfl | hu
    · rfl
    · rfl
    · rfl
    · exact ih u hu
theorem rowG_cells {w : World} {g o : Nat} {l : List TX} (h : RowG w g o l) : ∀ j u, (gcells l)[j]? = some u → w.cell? ((⟨g, o, none⟩ : Addr).add j) = some u := by
  intro j u hj
  have hlt := (List.getElem?_eq_some_iff.1 hj).1
  rw [gcells_length] at hlt
  have hi : j / 3 < l.length := by omega
  obtain ⟨x, hx⟩ : ∃ x, l[j / 3]? = some x := ⟨_, List.getElem?_eq_getElem hi⟩
  obtain ⟨a0, a1, a2⟩ := gcells_at l (j / 3) x hx
  obtain ⟨b0, b1, b2⟩ := h (j / 3) x hx
  rw [Go.WideShapes.add_plain]
  have hr : j % 3 < 3 := by omega
  have key : j = j / 3 * 3 + j % 3 := by omega
  generalize j % 3 = r at *
  generalize j / 3 = i at *
  subst key
  match r, hr with
  | 0, _ => rw [Nat.add_zero] at hj ⊢; rw [a0] at hj; rw [← hj]; exact b0
  | 1, _ => rw [a1] at hj; rw [← hj]; exact b1
  | 2, _ => rw [a2] at hj; rw [← hj]; exact b2
theorem wpList_append_tgs {ops : Array Oper} {rest : List Oper} {o : Oper} {a : Act} {w : World} {Q : Exit → Act → World → Prop} (hgd : o.guard = none) (s x : Operand)
    (ho : o.op = .call { callee := .builtin .append, args := #[s, x], argTypes := #[26, 26] })
    (base : Nat) (v : Value) (A : Option Addr) (c : Nat) (l m : List TX) (hs : a.eval s = v) (hown : w.ownsRow base 37 3 v l.length (gcells l)) (hx : a.eval x = .slice A m.length c) (hm : TgsAt w A c m) (hn : A = none → c = 0) (hl : l.length + m.length ≤ 1000000) (hbase : base ≤ w.heap.size)
    (h : ∀ v' w', w'.ownsRow base 37 3 v' (l ++ m).length (gcells (l ++ m)) → w.grownBy w' v.ownBlock → wpList Tryd.prog ops Q rest (a.put o.dst v') w') : wpList Tryd.prog ops Q (o :: rest) a w := by
  obtain ⟨i0, hi, hz0, hz1, hz2⟩ := info_parts target_info
  cases A with
  | none =>
    obtain rfl : m = [] := by
      cases m with
      | nil => rfl
      | cons y m => obtain ⟨g, o, e, _⟩ := hm.row (by simp); cases e
    obtain rfl := hn rfl
    refine wpList_append_own_none hgd s x 26 ho base 37 i0 3 Tryd.underlying26 hi v l.length (gcells l) hs hown hx (h v w ?_ (World.grownBy.refl w _))
    rw [List.append_nil]; exact hown
  | some p =>
    refine wpList_append_own w hgd s x 26 ho base 37 i0 (.agg #[.string ⟨#[]⟩, .slice none 0 0, .slice none 0 0]) 3 64 Tryd.underlying26 hi hz0 hz1 hz2 rfl (by decide) v l.length (gcells l) hs hown p m.length c (gcells m) hx (gcells_length m) ?_ (gcells_oneC m) (by unfold maxLen; omega) (by omega) hbase fun v' w' h1 h2 _ => h v' w' ?_ h2
    · intro j u hj
      have hlt := (List.getElem?_eq_some_iff.1 hj).1
      rw [gcells_length] at hlt
      obtain ⟨g, o', e, hr⟩ := hm.row (by omega)
      cases e
      exact rowG_cells hr j u hj
    · rw [List.length_append, gcells_append]; exact h1
theorem own_slice {base : Nat} {w : World} {v : Value} {l : List TX} (h : w.ownsRow base 37 3 v l.length (gcells l)) : ∃ A c, v = .slice A l.length c ∧ (A = none → c = 0) ∧ l.length ≤ c ∧ c ≤ maxLen ∧ (0 < l.length → ∃ g o, A = some ⟨g, o, none⟩ ∧ RowG w g o l) := by
  rcases h.2 with ⟨rfl, h0⟩ | ⟨g, cap, cur, rfl, hbg, hgb, hc, hcm, _, _⟩
  · exact ⟨none, 0, by rw [h0], fun _ => rfl, by omega, Nat.zero_le _, fun h1 => by omega⟩
  · refine ⟨_, _, rfl, fun e => (by cases e), hc, hcm, fun _ => ⟨g, 0, rfl, fun i x hx => ?_⟩⟩
    obtain ⟨a1, a2, a3⟩ := gcells_at l i x hx
    have b1 := World.ownsRow.cells h (g := g) rfl _ _ a1
    have b2 := World.ownsRow.cells h (g := g) rfl _ _ a2
    have b3 := World.ownsRow.cells h (g := g) rfl _ _ a3
    rw [Go.WideShapes.add_plain, Nat.zero_add] at b1 b2 b3
    rw [Nat.zero_add]
    exact ⟨b1, b2, b3⟩
theorem tgs_one (w : World) (x : TX) (h : TgOk w x) : TgsAt (w.alloc (.cells #[.string x.n, .slice x.A x.s.length x.c, .slice x.B x.d.length x.b] 37)) (some ⟨w.heap.size, 0, none⟩) 1 [x] :=
  ⟨Nat.le_refl _, by unfold maxLen; omega, fun _ => ⟨w.heap.size, 0, rfl, fun i y hy => by
    match i, hy with
    | 0, hy =>
      cases hy
      exact ⟨cell_of_row _ _ 0 _ _ _ (heap_alloc_new w _), cell_of_row _ _ 1 _ _ _ (heap_alloc_new w _), cell_of_row _ _ 2 _ _ _ (heap_alloc_new w _)⟩
    | i + 1, hy => simp at hy⟩, fun y hy => by
    rw [List.mem_singleton] at hy
    subst hy
    exact h.below ((Below.refl _ _).alloc (Nat.le_refl _) _)⟩
theorem own_lower {w : World} {base base' n : Nat} {v : Value} {xs : List Value} (h : w.ownsRow base 37 3 v n xs) (hb : base' ≤ base) : w.ownsRow base' 37 3 v n xs := by
  refine ⟨h.1, ?_⟩
  rcases h.2 with h | ⟨g, cap, cur, h1, h2, h3⟩
  · exact .inl h
  · exact .inr ⟨g, cap, cur, h1, Nat.le_trans hb h2, h3⟩
end Go.Proofs.YtckpojkbcbogbaaDoor
