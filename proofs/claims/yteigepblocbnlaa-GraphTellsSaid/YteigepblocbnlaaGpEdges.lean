/-
  Rows of edges of the call's own: what is appended to them; rings, and depths, by which nodes come to which alone.
-/
import Derived.Test.YteigepblocbnlaaGpKnown
namespace Go.Proofs.Yteigepblocbnlaa.Gp
open Go Go.RowKit Go.Shelf Go.Proofs
attribute [local go_sem] Oper.semAt_some

def ecells (l : List EI) : List Value := l.flatMap (fun e => [.int .i64 e.1, .int .i64 e.2])
theorem ecells_length (l : List EI) : (ecells l).length = l.length * 2 := by
  induction l with
  | nil => rfl
  | cons e r ih => unfold ecells at *; rw [List.flatMap_cons, List.length_append, ih]; simp; omega
theorem ecells_append (a b : List EI) : ecells (a ++ b) = ecells a ++ ecells b := by unfold ecells; rw [List.flatMap_append]
theorem ecells_at (l : List EI) : ∀ (i : Nat) (x : EI), l[i]? = some x → (ecells l)[i * 2]? = some (.int .i64 x.1) ∧ (ecells l)[i * 2 + 1]? = some (.int .i64 x.2) := by
  induction l with
  | nil => intro i x h; simp at h
  | cons e r ih =>
    intro i x h
    have hc : ecells (e :: r) = .int .i64 e.1 :: .int .i64 e.2 :: ecells r := by unfold ecells; rw [List.flatMap_cons]; rfl
    rw [hc]
    cases i with
    | zero => simp at h; subst h; exact ⟨rfl, rfl⟩
    | succ i =>
      obtain ⟨h1, h2⟩ := ih i x (by simpa using h)
      rw [show (i + 1) * 2 = i * 2 + 1 + 1 from by omega]
      exact ⟨by simpa using h1, by simpa using h2⟩
theorem ecells_pair (l : List EI) (j : Nat) (u : Value) (h : (ecells l)[j]? = some u) : ∃ i x, l[i]? = some x ∧ ((j = i * 2 ∧ u = .int .i64 x.1) ∨ (j = i * 2 + 1 ∧ u = .int .i64 x.2)) := by
  have hj : j < l.length * 2 := by have := (List.getElem?_eq_some_iff.1 h).1; rwa [ecells_length] at this
  obtain ⟨x, hx⟩ : ∃ x, l[j / 2]? = some x := ⟨_, List.getElem?_eq_getElem (by omega)⟩
  obtain ⟨h1, h2⟩ := ecells_at l (j / 2) x hx
  refine ⟨j / 2, x, hx, ?_⟩
  rcases Nat.mod_two_eq_zero_or_one j with hm | hm
  · left
    have e : j / 2 * 2 = j := by omega
    rw [e, h] at h1; cases h1; exact ⟨e.symm, rfl⟩
  · right
    have e : j / 2 * 2 + 1 = j := by omega
    rw [e, h] at h2; cases h2; exact ⟨e.symm, rfl⟩
/-- Edges in a row of the call's own. -/
def OE (base : Nat) (w : World) (v : Value) (l : List EI) : Prop := w.ownsRow base 35 2 v l.length (ecells l)
theorem gp_edge : (Try.prog.info? 35).map (fun i => (i.zero, i.size, i.bytes)) = some (some (.agg #[.int .i64 0, .int .i64 0]), 2, 16) := by kernel_rfl
theorem OE.nil (base : Nat) (w : World) : OE base w (.slice none 0 0) [] := World.ownsRow_nil _ _ _ _
theorem OE.form {base : Nat} {w : World} {v : Value} {l : List EI} (h : OE base w v l) : ∃ A c, v = .slice A l.length c ∧ EdgesAt w A l ∧ (∀ g, blkA A = some g → base ≤ g) := by
  have h0 := h
  rcases h.2 with ⟨rfl, hn⟩ | ⟨g, cap, cur, rfl, hb, hg, _⟩
  · obtain rfl := List.eq_nil_of_length_eq_zero hn
    exact ⟨none, 0, rfl, fun h => absurd h (by simp), fun g h => by cases h⟩
  · refine ⟨some ⟨g, 0, none⟩, cap, rfl, fun _ => ⟨g, 0, rfl, fun i x hx => ?_⟩, fun g' e => by cases e; exact hb⟩
    obtain ⟨e1, e2⟩ := ecells_at l i x hx
    have h1 := World.ownsRow.cells h0 (g := g) rfl _ _ e1
    have h2 := World.ownsRow.cells h0 (g := g) rfl _ _ e2
    rw [Go.WideShapes.add_plain] at h1 h2
    exact ⟨by simpa using h1, by simpa [Nat.add_assoc] using h2⟩
theorem OE.below {base : Nat} {w w' : World} {v : Value} {l : List EI} (h : OE base w v l) (hb : Below w.heap.size w w') : OE base w' v l :=
  ownsRow_keepA h fun j _ _ _ ho => (hb.block j (Array.getElem?_eq_some_iff.1 ho).1).trans ho
theorem OE.low {n base : Nat} {w0 w w' : World} {v : Value} {l : List EI} (h : OE base w v l) (hb : Below n w0 w) (hg : w.grownBy w' v.ownBlock) (hn : n ≤ base) (hs : n ≤ w.heap.size) : Below n w0 w' :=
  hb.grown hg hs (fun k e => Nat.le_trans hn (World.ownsRow.lt h k e).1)
theorem ecells_one (e : EI) : ∀ u ∈ ecells [e], u.oneCell' = true := by
  intro u hu
  unfold ecells at hu
  simp only [List.flatMap_cons, List.flatMap_nil, List.append_nil, List.mem_cons, List.mem_nil_iff, or_false] at hu
  rcases hu with rfl | rfl <;> rfl
theorem ecells_all (l : List EI) : ∀ u ∈ ecells l, u.oneCell' = true := by
  intro u hu
  unfold ecells at hu
  obtain ⟨e, _, he⟩ := List.mem_flatMap.1 hu
  simp only [List.mem_cons, List.mem_nil_iff, or_false] at he
  rcases he with rfl | rfl <;> rfl
section
variable {w : World} {base : Nat} {l : List EI} {v : Value} {o : Oper} {a : Act} {K : Act → World → Prop} {Q : Exit → Act → World → Prop}
/-- append(l, e). -/
theorem wp_appE {e : EI} {g : Nat} (s y : Operand)
    (ho : o.op = .call { callee := .builtin .append, args := #[s, y], argTypes := #[22, 22] }) (hs : a.eval s = v) (hown : OE base w v l)
    (hy : a.eval y = .slice (some ⟨g, 0, none⟩) 1 1) (hc : w.heap[g]? = some (.cells #[.int .i64 e.1, .int .i64 e.2] 35 (0, 0))) (hlen : l.length ≤ 1000000) (hbase : base ≤ w.heap.size)
    (h : ∀ A' c' w', OE base w' (.slice A' (l ++ [e]).length c') (l ++ [e]) → w.grownBy w' v.ownBlock → K (a.put o.dst (.slice A' (l ++ [e]).length c')) w') : Oper.wp Try.prog o a w K Q := by
  obtain ⟨i0, hi, hz0, hz1, hz2⟩ := info_parts gp_edge
  refine wp_append_own w s y 22 ho base 35 i0 (.agg #[.int .i64 0, .int .i64 0]) 2 16 Try.underlying22 hi hz0 hz1 hz2 rfl (by decide) v l.length (ecells l) hs hown ⟨g, 0, none⟩ 1 1 (ecells [e]) hy rfl
    (World.news_of_block hc) (ecells_one e) (by unfold maxLen; omega) (by omega) hbase fun v' w' h1 h2 _ => ?_
  have e1 : (l ++ [e]).length = l.length + 1 := by simp
  have h1' : OE base w' v' (l ++ [e]) := by unfold OE; rw [e1, ecells_append]; exact h1
  obtain ⟨A', c', rfl, _⟩ := h1'.form
  exact h A' c' w' h1' h2
theorem wpList_appE {e : EI} {g : Nat} {ops : Array Oper} {rest : List Oper} (hgd : o.guard = none) (s y : Operand)
    (ho : o.op = .call { callee := .builtin .append, args := #[s, y], argTypes := #[22, 22] }) (hs : a.eval s = v) (hown : OE base w v l)
    (hy : a.eval y = .slice (some ⟨g, 0, none⟩) 1 1) (hc : w.heap[g]? = some (.cells #[.int .i64 e.1, .int .i64 e.2] 35 (0, 0))) (hlen : l.length ≤ 1000000) (hbase : base ≤ w.heap.size)
    (h : ∀ A' c' w', OE base w' (.slice A' (l ++ [e]).length c') (l ++ [e]) → w.grownBy w' v.ownBlock → wpList Try.prog ops Q rest (a.put o.dst (.slice A' (l ++ [e]).length c')) w') : wpList Try.prog ops Q (o :: rest) a w :=
  wpList_plain hgd fun _ hK => wp_appE s y ho hs hown hy hc hlen hbase fun A' c' w' h1 h2 => hK _ _ (h A' c' w' h1 h2)
/-- append(l, m...). -/
theorem wp_appEs {m : List EI} {B : Option Addr} {c : Nat} (s y : Operand)
    (ho : o.op = .call { callee := .builtin .append, args := #[s, y], argTypes := #[22, 22] }) (hs : a.eval s = v) (hown : OE base w v l)
    (hy : a.eval y = .slice B m.length c) (hc : EdgesAt w B m) (hB : B = none → c = 0) (hlen : l.length + m.length ≤ 1000000) (hbase : base ≤ w.heap.size)
    (h : ∀ A' c' w', OE base w' (.slice A' (l ++ m).length c') (l ++ m) → w.grownBy w' v.ownBlock → K (a.put o.dst (.slice A' (l ++ m).length c')) w') : Oper.wp Try.prog o a w K Q := by
  obtain ⟨i0, hi, hz0, hz1, hz2⟩ := info_parts gp_edge
  have fin : ∀ v' w', w'.ownsRow base 35 2 v' (l.length + m.length) (ecells l ++ ecells m) → w.grownBy w' v.ownBlock → K (a.put o.dst v') w' := fun v' w' h1 h2 => by
    have h1' : OE base w' v' (l ++ m) := by unfold OE; rw [List.length_append, ecells_append]; exact h1
    obtain ⟨A', c', rfl, _⟩ := h1'.form
    exact h A' c' w' h1' h2
  cases B with
  | none =>
    have hm : m = [] := by
      cases m with
      | nil => rfl
      | cons x r => obtain ⟨g, o, e, _⟩ := hc (by simp); cases e
    have hc0 := hB rfl
    subst hm hc0
    have hr := run_append_owned_none (P := Try.prog) (w := w) base 22 o.type 35 i0 2 Try.underlying22 hi v l.length (ecells l) hown
    unfold Oper.wp execOp
    have hy : a.eval y = .slice none 0 0 := hy
    simp only [ho, resolve, invoke, builtin, Sem.run_bind, Sem.run_pure, Result.andThen_ok, List.map_toArray, List.map_cons, List.map_nil, hs, hy, hr]
    exact fin v w (by have h1 := hown; unfold OE at h1; simpa [ecells] using h1) ⟨rfl, rfl, rfl, Nat.le_refl _, fun _ _ _ => rfl⟩
  | some ad =>
    obtain ⟨g, o', s'⟩ := ad
    refine wp_append_own w s y 22 ho base 35 i0 (.agg #[.int .i64 0, .int .i64 0]) 2 16 Try.underlying22 hi hz0 hz1 hz2 rfl (by decide) v l.length (ecells l) hs hown ⟨g, o', s'⟩ m.length c (ecells m) hy (ecells_length m)
      (fun j u hu => ?_) (ecells_all m) (by unfold maxLen; omega) (by omega) hbase fun v' w' h1 h2 _ => fin v' w' h1 h2
    obtain ⟨i, x, hx, hj⟩ := ecells_pair m j u hu
    obtain ⟨g2, o2, e, hcl⟩ := hc (by have := (List.getElem?_eq_some_iff.1 hx).1; omega)
    cases e
    obtain ⟨c1, c2⟩ := hcl i x hx
    rw [Go.WideShapes.add_plain]
    rcases hj with ⟨rfl, rfl⟩ | ⟨rfl, rfl⟩
    · exact c1
    · rw [← Nat.add_assoc]; exact c2
theorem wpList_appEs {m : List EI} {B : Option Addr} {c : Nat} {ops : Array Oper} {rest : List Oper} (hgd : o.guard = none) (s y : Operand)
    (ho : o.op = .call { callee := .builtin .append, args := #[s, y], argTypes := #[22, 22] }) (hs : a.eval s = v) (hown : OE base w v l)
    (hy : a.eval y = .slice B m.length c) (hc : EdgesAt w B m) (hB : B = none → c = 0) (hlen : l.length + m.length ≤ 1000000) (hbase : base ≤ w.heap.size)
    (h : ∀ A' c' w', OE base w' (.slice A' (l ++ m).length c') (l ++ m) → w.grownBy w' v.ownBlock → wpList Try.prog ops Q rest (a.put o.dst (.slice A' (l ++ m).length c')) w') : wpList Try.prog ops Q (o :: rest) a w :=
  wpList_plain hgd fun _ hK => wp_appEs s y ho hs hown hy hc hB hlen hbase fun A' c' w' h1 h2 => hK _ _ (h A' c' w' h1 h2)
end
theorem castE_append (a b : List EN) : castE (a ++ b) = castE a ++ castE b := by unfold castE; simp
theorem rightB_cast {N : Nat} {m : List EN} (hN : N ≤ 2000) (h : ∀ e ∈ m, e.1 < N ∧ e.2 < N) : rightB N (castE m) = true := by
  unfold rightB sizeB edgeB endB castE
  simp only [Bool.and_eq_true, decide_eq_true_eq, List.all_eq_true, List.mem_map]
  refine ⟨⟨by omega, by omega⟩, ?_⟩
  rintro e ⟨e0, h0, rfl⟩
  have := h e0 h0
  simp only; omega
/-- Two rows of edges by which the same nodes come to the same ones: the same rings. -/
theorem RT_same {N : Nat} {m k : List EN} (hm : ∀ e ∈ m, e.1 < N ∧ e.2 < N) (hk : ∀ e ∈ k, e.1 < N ∧ e.2 < N) (h : ∀ x y, Mut (adjT N m) N x y ↔ Mut (adjT N k) N x y) : RT N m = RT N k := by
  obtain ⟨R, hR, e1⟩ := leastsT_least (turnT_turned (adj_ok hm).1) (Nat.lt_succ_self N)
  obtain ⟨S, hS, e2⟩ := leastsT_least (turnT_turned (adj_ok hk).1) (Nat.lt_succ_self N)
  have h1 : RT N m = (List.range N).map R := e1
  have h2 : RT N k = (List.range N).map S := e2
  rw [h1, h2]
  refine List.map_congr_left fun x hx => ?_
  have hxN := List.mem_range.1 hx
  have a := hR x hxN
  have b := hS x hxN
  exact IsLeast.uniq a ⟨(h _ _).2 b.1, fun y hy => b.2 y ((h _ _).1 hy)⟩
theorem RT_least {N : Nat} {m : List EN} (hm : ∀ e ∈ m, e.1 < N ∧ e.2 < N) : ∃ R : Nat → Nat, (∀ x, x < N → IsLeast (adjT N m) N x (R x)) ∧ RT N m = (List.range N).map R :=
  leastsT_least (turnT_turned (adj_ok hm).1) (Nat.lt_succ_self N)
theorem DT_same {N : Nat} {m k : List EN} (hm : ∀ e ∈ m, e.1 < N ∧ e.2 < N) (hk : ∀ e ∈ k, e.1 < N ∧ e.2 < N) (h : ∀ x y, Mut (adjT N m) N x y ↔ Mut (adjT N k) N x y)
    (he : ∀ x y, x < N → y < N → ¬ Mut (adjT N m) N x y → (y ∈ row (adjT N m) x ↔ y ∈ row (adjT N k) x)) : DT N m = DT N k := by
  obtain ⟨D, hD, e1, _⟩ := DT_deep hm
  obtain ⟨E, hE, e2, _⟩ := DT_deep hk
  rw [e1, e2]
  exact List.map_congr_left fun x hx => Deep.uniq (Deep.other h he hD) hE (List.mem_range.1 hx)
theorem adj_iff {N : Nat} {m : List EN} (hm : ∀ e ∈ m, e.1 < N ∧ e.2 < N) (x y : Nat) : y ∈ row (adjT N m) x ↔ (x, y) ∈ m := row_adjT (fun e he => (hm e he).1) x y
/-- The same edges, in whatever order, however often. -/
theorem Rch_sub {N : Nat} {m k : List EN} (hm : ∀ e ∈ m, e.1 < N ∧ e.2 < N) (hk : ∀ e ∈ k, e.1 < N ∧ e.2 < N) (h : ∀ e ∈ m, e ∈ k ∨ e.1 = e.2) {x y : Nat} (w : Rch (adjT N m) N x y) : Rch (adjT N k) N x y :=
  Rch.ind (P := fun x y => Rch (adjT N k) N x y) (fun _ hx => .refl hx) (fun x y z hx hy e _ ih => by
    have he := (adj_iff hm x y).1 e
    rcases h _ he with h1 | h1
    · exact .step hx ((adj_iff hk x y).2 h1) ih
    · simp only at h1; rw [h1]; exact ih) w
end Go.Proofs.Yteigepblocbnlaa.Gp
