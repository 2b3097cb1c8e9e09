/-
  Rows of bytes of the call's own; the pieces that the iterator of frame.frames hands out; frame.Next.
-/
import Derived.Test.YtojkifcclgecoaaFrIter
namespace Go.Proofs.Ytojkifcclgecoaa
open Go Go.RowKit Go.Shelf Go.Proofs
attribute [local go_sem] Oper.semAt_some

theorem fr_bytes_info : (Try.prog.info? 29).map (fun i => (i.zero, i.size, i.bytes)) = some (some (.slice none 0 0), 1, 24) := by kernel_rfl
/-- A row of rows of bytes, all of the call's own. -/
structure RowsB (base : Nat) (W : World) (v : Value) (l : List BX) : Prop where
  own : W.ownsRow base 29 1 v l.length (l.map BX.v)
  bod : ∀ x ∈ l, OwnS W x.A x.c x.b ∧ x.b.length ≤ 1000000
theorem RowsB.nil (base : Nat) (W : World) : RowsB base W (.slice none 0 0) [] := ⟨World.ownsRow_nil _ _ _ _, fun x hx => by cases hx⟩
theorem RowsB.below {base : Nat} {W W' : World} {v : Value} {l : List BX} (h : RowsB base W v l) (hb : Below W.heap.size W W') : RowsB base W' v l :=
  ⟨World.ownsRow.kept (row := none) h.own ⟨hb.os, hb.tape, hb.output, hb.size, fun k hk _ => hb.block k hk⟩ (by cases (Value.ownBlock v) <;> simp), fun x hx => ⟨(h.bod x hx).1.below hb, (h.bod x hx).2⟩⟩
theorem RowsB.lower {base base' : Nat} {W : World} {v : Value} {l : List BX} (h : RowsB base W v l) (hb : base' ≤ base) : RowsB base' W v l := by
  refine ⟨⟨h.own.1, ?_⟩, h.bod⟩
  rcases h.own.2 with h2 | ⟨g, cap, cur, h1, h2, h3⟩
  · exact .inl h2
  · exact .inr ⟨g, cap, cur, h1, by omega, h3⟩
/-- What turns blocks that are no cells keeps it. -/
theorem RowsB.keepNC {base : Nat} {W W' : World} {v : Value} {l : List BX} {row : Option Nat} (h : RowsB base W v l) (hg : W.grownBy W' row) (hr : ∀ r, row = some r → ∃ o : Obj, W.heap[r]? = some o ∧ o.isCells = false) : RowsB base W' v l := by
  have hk : ∀ (g : Nat) (C : Array Value) (t : TypeId), W.heap[g]? = some (Obj.cells C t (0, 0)) → W'.heap[g]? = W.heap[g]? := fun g C t hh => hg.block g (Array.getElem?_eq_some_iff.1 hh).1 (fun e => by
    obtain ⟨o, ho, hc⟩ := hr g e.symm
    rw [hh] at ho; cases ho; cases hc)
  refine ⟨⟨h.own.1, ?_⟩, fun x hx => ⟨(h.bod x hx).1.keep fun g cur hh => hk g cur _ hh, (h.bod x hx).2⟩⟩
  rcases h.own.2 with h2 | ⟨g, cap, cur, h1, h2, h3, h4⟩
  · exact .inl h2
  · exact .inr ⟨g, cap, cur, h1, h2, (hk g cur _ h3).trans h3, h4⟩
theorem RowsB.slice {base : Nat} {W : World} {v : Value} {l : List BX} (h : RowsB base W v l) : ∃ A c, v = .slice A l.length c ∧ BRowAt W A c l := by
  have hl : ∀ x ∈ l, x.b.length ≤ x.c ∧ x.c ≤ maxLen ∧ x.b.length ≤ reachBytes := fun x hx => by
    have h1 := h.bod x hx
    exact ⟨h1.1.sl.cap, h1.1.sl.capm, by unfold reachBytes; omega⟩
  rcases h.own.2 with ⟨rfl, hn⟩ | ⟨g, cap, cur, rfl, _, hg, hnc, hcm, _⟩
  · obtain rfl := List.eq_nil_of_length_eq_zero hn
    exact ⟨none, 0, rfl, BRowAt.nil _ _ _ (Nat.zero_le _)⟩
  · refine ⟨_, _, rfl, hnc, hcm, fun _ => ⟨g, 0, rfl, fun i x hi => ?_⟩, fun x hx => (h.bod x hx).1.sl.bytes, hl⟩
    have h1 := World.ownsRow.cells h.own (g := g) rfl i x.v (by rw [List.getElem?_map, hi]; rfl)
    rw [Go.WideShapes.add_plain] at h1
    exact h1
theorem RowsB.nils {base : Nat} {W : World} {v : Value} {l : List BX} (h : RowsB base W v l) : ∀ x ∈ l, x.A = none → x.c = 0 := fun x hx => (h.bod x hx).1.sl.nil

theorem wp_appR {base : Nat} {w : World} {v : Value} {l : List BX} {o : Oper} {a : Act} {K : Act → World → Prop} {Q : Exit → Act → World → Prop} (s x : Operand)
    (ho : o.op = .call { callee := .builtin .append, args := #[s, x], argTypes := #[30, 30] }) (hs : a.eval s = v) (hr : RowsB base w v l) (y : BX) (hy : OwnS w y.A y.c y.b) (hyl : y.b.length ≤ 1000000)
    (g : Nat) (hx : a.eval x = .slice (some ⟨g, 0, none⟩) 1 1) (hcell : w.cell? ⟨g, 0, none⟩ = some y.v) (hlen : l.length ≤ 1000000) (hbase : base ≤ w.heap.size)
    (h : ∀ v' w', RowsB base w' v' (l ++ [y]) → w.grownBy w' v.ownBlock → K (a.put o.dst v') w') : Oper.wp Try.prog o a w K Q := by
  obtain ⟨i0, hi, hz0, hz1, hz2⟩ := info_parts fr_bytes_info
  refine wp_append_own w s x 30 ho base 29 i0 (.slice none 0 0) 1 24 Try.underlying30 hi hz0 hz1 hz2 rfl (by decide) v l.length (l.map BX.v) hs hr.own ⟨g, 0, none⟩ 1 1 [y.v] hx rfl
    (fun j u hu => by
      have hj : j = 0 := by
        have := (List.getElem?_eq_some_iff.1 hu).1
        simp at this; omega
      subst hj
      obtain rfl : y.v = u := by simpa using hu
      rw [Go.WideShapes.add_plain]; exact hcell) (fun u hu => by rw [List.mem_singleton] at hu; subst hu; rfl) (by unfold maxLen; omega) (by omega) hbase fun v' w' h1 h2 _ => h v' w' ⟨?_, ?_⟩ h2
  · rw [List.length_append, List.map_append]; exact h1
  · have hk : ∀ (g : Nat) (cur : Array Value), w.heap[g]? = some (Obj.cells cur 5 (0, 0)) → w'.heap[g]? = w.heap[g]? := fun g' cur hh => h2.block g' (Array.getElem?_eq_some_iff.1 hh).1 (fun e => by
      rcases hr.own.2 with ⟨rfl, _⟩ | ⟨g2, cap, cur2, rfl, _, hg2, _⟩
      · simp [Value.ownBlock] at e
      · obtain rfl : g' = g2 := by simpa [Value.ownBlock] using e
        rw [hh] at hg2
        simp at hg2)
    intro z hz
    rcases List.mem_append.1 hz with hz | hz
    · exact ⟨(hr.bod z hz).1.keep hk, (hr.bod z hz).2⟩
    · rw [List.mem_singleton] at hz; subst hz; exact ⟨hy.keep hk, hyl⟩
theorem wpList_appR {base : Nat} {w : World} {v : Value} {l : List BX} {ops : Array Oper} {rest : List Oper} {o : Oper} {a : Act} {Q : Exit → Act → World → Prop} (hgd : o.guard = none) (s x : Operand)
    (ho : o.op = .call { callee := .builtin .append, args := #[s, x], argTypes := #[30, 30] }) (hs : a.eval s = v) (hr : RowsB base w v l) (y : BX) (hy : OwnS w y.A y.c y.b) (hyl : y.b.length ≤ 1000000)
    (g : Nat) (hx : a.eval x = .slice (some ⟨g, 0, none⟩) 1 1) (hcell : w.cell? ⟨g, 0, none⟩ = some y.v) (hlen : l.length ≤ 1000000) (hbase : base ≤ w.heap.size)
    (h : ∀ v' w', RowsB base w' v' (l ++ [y]) → w.grownBy w' v.ownBlock → wpList Try.prog ops Q rest (a.put o.dst v') w') : wpList Try.prog ops Q (o :: rest) a w :=
  wpList_plain hgd fun _ hK => wp_appR s x ho hs hr y hy hyl g hx hcell hlen hbase fun v' w' h2 h3 => hK _ _ (h v' w' h2 h3)

/-- The pieces lie where the bytes lie. -/
theorem frX_mem {w : World} : ∀ (f : Nat) (A : Option Addr) (c : Nat) (b : Bs), BytesAt w A b → b.length ≤ c → c ≤ maxLen → ∀ x ∈ frX f A c b, SlAt w x.A x.c x.b ∧ 8 + x.b.length ≤ b.length
  | 0, _, _, _, _, _, _ => fun x hx => by cases hx
  | f + 1, A, c, b, hb, hc, hm => fun x hx => by
    cases hn : nextF b with
    | none => rw [frX_none hn] at hx; cases hx
    | some y =>
      obtain ⟨h1, _, h3⟩ := next_some hn
      obtain ⟨g, o, rfl, _⟩ := hb (by omega)
      obtain ⟨o', e1, hb1⟩ := bytes_sub (l := 8) hb (by omega) hc
      have hy : y = (b.drop 8).take y.length := by
        unfold nextF at hn
        split at hn
        · simp only [Option.some.injEq] at hn
          have hl : y.length ≤ valN (b.take 4) := by rw [← hn, List.length_take]; omega
          conv => lhs; rw [← hn]
          rw [← hn, List.length_take]
          by_cases e : valN (b.take 4) ≤ (b.drop 8).length
          · rw [Nat.min_eq_left e]
          · rw [List.take_of_length_le (by omega), List.take_of_length_le (by omega)]
        · cases hn
      rw [frX_some hn, e1] at hx
      rcases List.mem_cons.1 hx with rfl | hx
      · refine ⟨⟨?_, Nat.le_refl _, by show y.length ≤ maxLen; omega, fun e => by cases e⟩, h3⟩
        show BytesAt w (some ⟨g, o', none⟩) y
        rw [hy]; exact hb1.front _
      · obtain ⟨o2, e2, hb2⟩ := bytes_sub (l := y.length) (c := c - 8) hb1 (by rw [List.length_drop]; omega) (by rw [List.length_drop]; omega)
        rw [e2] at hx
        rw [List.drop_drop] at hb2
        have := frX_mem f _ _ _ hb2 (by rw [List.length_drop]; omega) (by omega) x hx
        exact ⟨this.1, by have h4 := this.2; rw [List.length_drop] at h4; omega⟩
theorem inB_low {w : World} {A : Option Addr} {c : Nat} {b : Bs} (h : SlAt w A c b) (hn : 0 < b.length) : ∀ k, InB A k → k < w.heap.size := fun k hk => by
  obtain ⟨a, e, rfl⟩ := hk
  obtain ⟨g, o, e2, hc⟩ := h.bytes hn
  rw [e2] at e; cases e
  exact World.block_lt_of_cell? w (a := ⟨g, o + 0, none⟩) (hc 0 hn)
end Go.Proofs.Ytojkifcclgecoaa
