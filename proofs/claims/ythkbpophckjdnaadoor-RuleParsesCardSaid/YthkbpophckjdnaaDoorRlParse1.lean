/-
  What is known between two lines of rule.Parse.
-/
import Derived.Test.YthkbpophckjdnaaDoorRlRead
namespace Go.Proofs.YthkbpophckjdnaaDoor
open Go Go.RowKit Go.Shelf Go.Proofs

/-- The box B holds a slice of the call's own, from block b on, that holds the rules L. -/
def RulesO (b B : Nat) (L : List RX) (W : World) : Prop := ∃ v, Boxed W B 23 v ∧ W.ownsRow b 35 4 v L.length (rcells L)
theorem rules_kept {T : Nat → Prop} {b B B0 : Nat} {L : List RX} (hT : ¬ T B) (hT2 : ∀ r, T r → r < b) {X Y : World} {row : Option Nat} (h : RulesO b B L X) (hg : X.grownBy Y row)
    (hrow : ∀ r, row = some r → T r ∨ (B0 ≤ r ∧ ∃ o : Obj, X.heap[r]? = some o ∧ o.isCells = false)) : RulesO b B L Y := by
  obtain ⟨v, hv, hr⟩ := h
  refine ⟨v, hv.kept hg (fun e => ?_), hr.kept hg ?_⟩
  · rcases hrow B e.symm with h | ⟨h, o, ho, hc⟩
    · exact hT h
    · rw [show X.heap[B]? = _ from hv] at ho; cases ho; cases hc
  · rcases hr.2 with ⟨rfl, _⟩ | ⟨g, cap, cur, rfl, hbg, hgb, _⟩
    · exact .inl rfl
    · refine .inr fun e => ?_
      rcases hrow g (by simpa [Value.ownBlock] using e.symm) with h | ⟨h, o, ho, hc⟩
      · have := hT2 g h; omega
      · rw [hgb] at ho; cases ho; cases hc
theorem RulesO.below {b B : Nat} {L : List RX} {W W' : World} (h : RulesO b B L W) (hb : Below W.heap.size W W') : RulesO b B L W' := by
  obtain ⟨v, hv, hr⟩ := h
  exact ⟨v, (hb.block B hv.lt).trans hv, hr.kept (row := none) (grown_below none hb) (by cases h : v.ownBlock <;> simp)⟩
theorem rule_info : (Tryd.prog.info? 35).map (fun i => (i.zero, i.size, i.bytes)) = some (some (.agg #[.int .i64 0, .string ⟨#[]⟩, .string ⟨#[]⟩, .string ⟨#[]⟩]), 4, 56) := by kernel_rfl
theorem cell_four_new (W : World) (a b c d : Value) (t : TypeId) : ∀ (j : Nat) (u : Value), ([a, b, c, d] : List Value)[j]? = some u → (W.alloc (.cells #[a, b, c, d] t)).cell? ((⟨W.heap.size, 0, none⟩ : Addr).add j) = some u := fun j u hj => by
  have hn := heap_alloc_new W (.cells #[a, b, c, d] t)
  rw [Go.WideShapes.add_plain, Nat.zero_add, cell_of_row _ _ _ _ _ _ hn]
  match j, hj with
  | 0, hj => exact hj
  | 1, hj => exact hj
  | 2, hj => exact hj
  | 3, hj => exact hj
  | j + 4, hj => simp at hj
/-- Behind an append to the slice in box B, and the store back. -/
theorem rules_push {W w1 : World} {n₀ b B t e sz k m : Nat} {v v' : Value} {tmp : Obj} {xs ys : List Value} (hte : t ≠ e) (hv : Boxed W B t v) (hrow : W.ownsRow b e sz v k xs) (hb : b ≤ W.heap.size) (h0 : n₀ ≤ B) (hB : B < b)
    (hown' : w1.ownsRow b e sz v' m ys) (hgrow : (W.alloc tmp).grownBy w1 v.ownBlock) :
    Boxed w1 B t v ∧ Boxed (w1.setCell ⟨B, 0, none⟩ v') B t v' ∧ (w1.setCell ⟨B, 0, none⟩ v').ownsRow b e sz v' m ys ∧ KeepsOthers W (w1.setCell ⟨B, 0, none⟩ v') ∧
      (∀ j, j < b → j ≠ B → (w1.setCell ⟨B, 0, none⟩ v').heap[j]? = W.heap[j]?) ∧ Below n₀ W (w1.setCell ⟨B, 0, none⟩ v') := by
  have hv1 : Boxed w1 B t v := (hv.alloc tmp).kept hgrow (hv.not_row hte hrow)
  refine ⟨hv1, hv1.set v', hown'.kept (grownBy_setCell' w1 B v') (.inr (hv1.not_row hte hown').symm), ?_, ?_, ?_⟩
  · refine ((KeepsOthers.alloc W tmp).trans (KeepsOthers.of_grownBy hgrow fun j o ej hj => ?_)).trans (KeepsOthers.setCell _ _ _)
    obtain ⟨_, cur, hc⟩ := row_ge (hrow.alloc tmp) ej
    rw [hc] at hj; cases hj; rfl
  · intro j hj hne
    refine (Below.heap_setCell _ _ _ j hne).trans ((hgrow.block j (by simp; omega) (fun e => ?_)).trans (Below.heap_alloc _ _ _ (by omega)))
    have := (row_ge hrow e.symm).1
    omega
  · refine (((Below.refl n₀ W).alloc (by omega) tmp).grown hgrow (by simp; omega) fun j ej => ?_).setCell (p := ⟨B, 0, none⟩) h0 v'
    have := (row_ge hrow ej).1
    omega
theorem rules_succ {w : World} {b e sz n : Nat} {v : Value} {xs : List Value} (h : w.ownsRow b e sz v (n + 1) xs) : ∃ g cap, v = .slice (some ⟨g, 0, none⟩) (n + 1) cap := by
  rcases h.2 with ⟨_, h0⟩ | ⟨g, cap, cur, hv, _⟩
  · omega
  · exact ⟨g, cap, hv⟩
theorem rules_own {base : Nat} {w : World} {v : Value} {l : List RX} (h : w.ownsRow base 35 4 v l.length (rcells l)) : ∃ A c, v = .slice A l.length c ∧ RulesAt w A c l := by
  rcases h.2 with ⟨rfl, h0⟩ | ⟨g, cap, cur, rfl, hbg, hgb, hc, hcm, _, _⟩
  · obtain rfl : l = [] := List.eq_nil_of_length_eq_zero h0
    exact ⟨none, 0, rfl, RulesAt.nil _ _ _ (Nat.zero_le _)⟩
  · refine ⟨_, _, rfl, hc, hcm, fun _ => ⟨g, 0, rfl, fun i x hx => ?_⟩⟩
    obtain ⟨a1, a2, a3, a4⟩ := rcells_at l i x hx
    have b1 := World.ownsRow.cells h (g := g) rfl _ _ a1
    have b2 := World.ownsRow.cells h (g := g) rfl _ _ a2
    have b3 := World.ownsRow.cells h (g := g) rfl _ _ a3
    have b4 := World.ownsRow.cells h (g := g) rfl _ _ a4
    rw [Go.WideShapes.add_plain, Nat.zero_add] at b1 b2 b3 b4
    rw [Nat.zero_add]
    exact ⟨b1, b2, b3, b4⟩
/-- What the first k lines tell. -/
def linesTo (s : ByteArray) (k : Nat) : Option (List Ru) := linesU ((splitL 10 s.data.toList).take k)
theorem linesTo_step {s : ByteArray} {k : Nat} {x : ByteArray} {l : List Ru} (hx : (piecesB 10 s)[k]? = some x) (h : linesTo s k = some l) : linesTo s (k + 1) = stepU (some l) x.data.toList := by
  unfold linesTo at h ⊢
  unfold piecesB at hx
  rw [List.getElem?_map] at hx
  cases e : (splitL 10 s.data.toList)[k]? with
  | none => rw [e] at hx; cases hx
  | some p =>
    rw [e] at hx
    cases hx
    rw [List.take_add_one, e, Option.toList_some, linesU_snoc, h, mkB_data]
structure ParseJ (s : ByteArray) (w : World) (k : Nat) (W : World) : Prop where
  res : Boxed W w.heap.size 23 (.slice none 0 0)
  err : Boxed W (w.heap.size + 1) 24 (.int .i64 0)
  rules : ∃ L, Hid (linesTo s k = some (rusX L)) ∧ RulesO (w.heap.size + 8) (w.heap.size + 2) L W ∧ L.length ≤ k
  forms : FormsAt W (w.heap.size + 3)
  known : Boxed W (w.heap.size + 4) 51 (.map (some (w.heap.size + 3)))
  low : Below w.heap.size w W
structure ParseN (s : ByteArray) (w : World) (c : Code) (k : Nat) (W : World) : Prop where
  ret : c = .ret
  bad : Hid (linesTo s k = none)
  res : Boxed W w.heap.size 23 (.slice none 0 0)
  err : Boxed W (w.heap.size + 1) 24 (.int .i64 11)
  low : Below w.heap.size w W
theorem parseJ_own {s : ByteArray} {w W0 : World} (hs0 : W0.heap.size = w.heap.size + 8) : OwnTo (OnlyS (w.heap.size + 5)) W0.heap.size (fun k W => ParseJ s w k W) := by
  rintro k X Y row ⟨h1, h2, ⟨L, h3, h4, h5⟩, h6, h7, h8⟩ hg hr
  have keep : ∀ j o, X.heap[j]? = some o → j < w.heap.size + 8 → j ≠ w.heap.size + 5 → Y.heap[j]? = some o := fun j o hj hlt hne => (hg.block j (Array.getElem?_eq_some_iff.1 hj).1 (fun e => by
    rcases hr j e.symm with h | ⟨h, _⟩
    · exact hne h
    · omega)).trans hj
  refine ⟨keep _ _ h1 (by omega) (by omega), keep _ _ h2 (by omega) (by omega), ⟨L, h3, rules_kept (T := OnlyS (w.heap.size + 5)) (B0 := W0.heap.size) (by unfold OnlyS; omega) (by intro r h; unfold OnlyS at h; omega) h4 hg hr, h5⟩, h6.keep ?_, keep _ _ h7 (by omega) (by omega), h8.grown hg h8.size (fun r e => ?_)⟩
  · exact (keep _ _ h6.obj (by omega) (by omega)).trans h6.obj.symm
  · rcases hr r e with h | ⟨h, _⟩
    · unfold OnlyS at h; omega
    · omega
theorem parseN_own {s : ByteArray} {w W0 : World} {c : Code} (hs0 : W0.heap.size = w.heap.size + 8) : OwnTo (OnlyS (w.heap.size + 5)) W0.heap.size (fun k W => ParseN s w c k W) := by
  rintro k X Y row ⟨h0, h1, h2, h3, h7⟩ hg hr
  have keep : ∀ j o, X.heap[j]? = some o → j < w.heap.size + 8 → j ≠ w.heap.size + 5 → Y.heap[j]? = some o := fun j o hj hlt hne => (hg.block j (Array.getElem?_eq_some_iff.1 hj).1 (fun e => by
    rcases hr j e.symm with h | ⟨h, _⟩
    · exact hne h
    · omega)).trans hj
  refine ⟨h0, h1, keep _ _ h2 (by omega) (by omega), keep _ _ h3 (by omega) (by omega), h7.grown hg h7.size (fun r e => ?_)⟩
  rcases hr r e with h | ⟨h, _⟩
  · unfold OnlyS at h; omega
  · omega
/-- From one line to the next: only what is new was turned, and the row of rules. -/
theorem ParseJ.next {s : ByteArray} {w W W' : World} {k : Nat} {L : List RX} (h : ParseJ s w k W) (hk : W'.heap[w.heap.size]? = W.heap[w.heap.size]? ∧ W'.heap[w.heap.size + 1]? = W.heap[w.heap.size + 1]? ∧ W'.heap[w.heap.size + 3]? = W.heap[w.heap.size + 3]? ∧ W'.heap[w.heap.size + 4]? = W.heap[w.heap.size + 4]?)
    (hb : Below w.heap.size W W') (hl : linesTo s (k + 1) = some (rusX L)) (hr : RulesO (w.heap.size + 8) (w.heap.size + 2) L W') (hn : L.length ≤ k + 1) : ParseJ s w (k + 1) W' :=
  ⟨hk.1.trans h.res, hk.2.1.trans h.err, ⟨L, hl, hr, hn⟩, h.forms.keep hk.2.2.1, hk.2.2.2.trans h.known, h.low.trans hb⟩
theorem ParseJ.still {s : ByteArray} {w W W' : World} {k : Nat} (h : ParseJ s w k W) (hz : w.heap.size + 8 ≤ W.heap.size) (hb : Below W.heap.size W W') (hs : ∀ l, linesTo s k = some l → linesTo s (k + 1) = some l) : ParseJ s w (k + 1) W' := by
  obtain ⟨L, h1, h2, h3⟩ := h.rules
  exact h.next ⟨hb.block _ (by omega), hb.block _ (by omega), hb.block _ (by omega), hb.block _ (by omega)⟩ (hb.mono (by omega)) (hs _ h1.out) (h2.below hb) (by omega)
end Go.Proofs.YthkbpophckjdnaaDoor
