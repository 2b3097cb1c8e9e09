/-
  Two graphs, side by side: ways, rings and depths are those of each.
-/
import Derived.Test.YteigepblocbnlaaGpLawD
namespace Go.Proofs.Yteigepblocbnlaa.Gp
open Go Go.RowKit Go.Shelf Go.Proofs

def shE (N : Nat) (m : List EN) : List EN := m.map (fun e => (e.1 + N, e.2 + N))
theorem shE_length (N : Nat) (m : List EN) : (shE N m).length = m.length := by unfold shE; simp
theorem shE_mem {N : Nat} {m : List EN} {x y : Nat} : (x, y) ∈ shE N m ↔ ∃ u v, (u, v) ∈ m ∧ x = u + N ∧ y = v + N := by
  unfold shE
  simp only [List.mem_map, Prod.mk.injEq]
  constructor
  · rintro ⟨⟨u, v⟩, h, h1, h2⟩; exact ⟨u, v, h, h1.symm, h2.symm⟩
  · rintro ⟨u, v, h, rfl, rfl⟩; exact ⟨(u, v), h, rfl, rfl⟩
section
variable {N P : Nat} {a b : List EN} (ha : ∀ e ∈ a, e.1 < N ∧ e.2 < N) (hb : ∀ e ∈ b, e.1 < P ∧ e.2 < P)
include ha hb
theorem sides_ok : ∀ e ∈ a ++ shE N b, e.1 < N + P ∧ e.2 < N + P := by
  rintro ⟨x, y⟩ he
  rcases List.mem_append.1 he with he | he
  · have := ha _ he; simp only at this ⊢; omega
  · obtain ⟨u, v, h, rfl, rfl⟩ := shE_mem.1 he
    have := hb _ h; simp only at this ⊢; omega
theorem side_edge {x y : Nat} (h : y ∈ row (adjT (N + P) (a ++ shE N b)) x) : (x < N ∧ y < N ∧ y ∈ row (adjT N a) x) ∨ ∃ u v, x = u + N ∧ y = v + N ∧ u < P ∧ v < P ∧ v ∈ row (adjT P b) u := by
  rw [adj_iff (sides_ok ha hb)] at h
  rcases List.mem_append.1 h with h | h
  · have := ha _ h
    exact .inl ⟨this.1, this.2, (adj_iff ha x y).2 h⟩
  · obtain ⟨u, v, h5, rfl, rfl⟩ := shE_mem.1 h
    have := hb _ h5
    exact .inr ⟨u, v, rfl, rfl, this.1, this.2, (adj_iff hb u v).2 h5⟩
theorem left_edge {x y : Nat} (h : y ∈ row (adjT N a) x) : y ∈ row (adjT (N + P) (a ++ shE N b)) x := (adj_iff (sides_ok ha hb) x y).2 (List.mem_append_left _ ((adj_iff ha x y).1 h))
theorem right_edge {x y : Nat} (h : y ∈ row (adjT P b) x) : y + N ∈ row (adjT (N + P) (a ++ shE N b)) (x + N) := (adj_iff (sides_ok ha hb) _ _).2 (List.mem_append_right _ (shE_mem.2 ⟨x, y, (adj_iff hb x y).1 h, rfl, rfl⟩))
theorem left_way {x y : Nat} (w : Rch (adjT N a) N x y) : Rch (adjT (N + P) (a ++ shE N b)) (N + P) x y :=
  Rch.mono (by omega) (fun _ _ _ _ e => left_edge ha hb e) w
theorem right_way {x y : Nat} (w : Rch (adjT P b) P x y) : Rch (adjT (N + P) (a ++ shE N b)) (N + P) (x + N) (y + N) :=
  Rch.ind (P := fun x y => Rch (adjT (N + P) (a ++ shE N b)) (N + P) (x + N) (y + N)) (fun _ hx => .refl (by omega)) (fun _ _ _ hx _ e _ ih => .step (by omega) (right_edge ha hb e) ih) w
theorem side_way {x y : Nat} (w : Rch (adjT (N + P) (a ++ shE N b)) (N + P) x y) : (x < N ∧ Rch (adjT N a) N x y) ∨ ∃ u v, x = u + N ∧ y = v + N ∧ Rch (adjT P b) P u v :=
  Rch.ind (P := fun x y => (x < N ∧ Rch (adjT N a) N x y) ∨ ∃ u v, x = u + N ∧ y = v + N ∧ Rch (adjT P b) P u v) (fun x hx => by
    by_cases h : x < N
    · exact .inl ⟨h, .refl h⟩
    · exact .inr ⟨x - N, x - N, by omega, by omega, .refl (by omega)⟩) (fun x y z _ _ e _ ih => by
    rcases side_edge ha hb e with ⟨h1, h2, h3⟩ | ⟨u, v, rfl, rfl, h1, h2, h3⟩
    · rcases ih with ⟨_, ih⟩ | ⟨u, v, h4, _, _⟩
      · exact .inl ⟨h1, .step h1 h3 ih⟩
      · omega
    · rcases ih with ⟨h4, _⟩ | ⟨u2, v2, h4, h5, ih⟩
      · omega
      · obtain rfl : u2 = v := by omega
        exact .inr ⟨u, v2, rfl, h5, .step h1 h3 ih⟩) w
theorem left_mut {x y : Nat} (hx : x < N) : Mut (adjT (N + P) (a ++ shE N b)) (N + P) x y ↔ Mut (adjT N a) N x y := by
  constructor
  · intro m
    rcases side_way ha hb m.1 with ⟨_, h⟩ | ⟨u, v, h1, _, _⟩
    · rcases side_way ha hb m.2 with ⟨_, h'⟩ | ⟨u, v, _, h2, _⟩
      · exact ⟨h, h'⟩
      · omega
    · omega
  · exact fun m => ⟨left_way ha hb m.1, left_way ha hb m.2⟩
theorem right_mut {x y : Nat} : Mut (adjT (N + P) (a ++ shE N b)) (N + P) (x + N) y ↔ ∃ v, y = v + N ∧ Mut (adjT P b) P x v := by
  constructor
  · intro m
    rcases side_way ha hb m.1 with ⟨h, _⟩ | ⟨u, v, h1, h2, h3⟩
    · omega
    · obtain rfl : u = x := by omega
      subst h2
      rcases side_way ha hb m.2 with ⟨h, _⟩ | ⟨u', v', h4, h5, h6⟩
      · omega
      · obtain rfl : u' = v := by omega
        obtain rfl : v' = u := by omega
        exact ⟨u', rfl, h3, h6⟩
  · rintro ⟨v, rfl, m⟩
    exact ⟨right_way ha hb m.1, right_way ha hb m.2⟩
theorem sides_R : RT (N + P) (a ++ shE N b) = RT N a ++ (RT P b).map (· + N) := by
  obtain ⟨R, hR, e⟩ := RT_least (sides_ok ha hb)
  obtain ⟨A, hA, ea⟩ := RT_least ha
  obtain ⟨B, hB, eb⟩ := RT_least hb
  rw [e, ea, eb, List.map_map, List.range_add, List.map_append, List.map_map]
  congr 1
  · refine List.map_congr_left fun x hx => ?_
    have hx := List.mem_range.1 hx
    refine IsLeast.uniq (hR x (by omega)) ⟨(left_mut ha hb hx).2 (hA x hx).1, fun y hy => (hA x hx).2 y ((left_mut ha hb hx).1 hy)⟩
  · refine List.map_congr_left fun x hx => ?_
    have hx := List.mem_range.1 hx
    show R (N + x) = B x + N
    rw [Nat.add_comm N x]
    refine IsLeast.uniq (hR (x + N) (by omega)) ⟨(right_mut ha hb).2 ⟨B x, rfl, (hB x hx).1⟩, fun y hy => ?_⟩
    obtain ⟨v, rfl, hv⟩ := (right_mut ha hb).1 hy
    have := (hB x hx).2 v hv; omega
theorem sides_D : DT (N + P) (a ++ shE N b) = DT N a ++ DT P b := by
  obtain ⟨D, hD, e, _⟩ := DT_deep (sides_ok ha hb)
  obtain ⟨A, hA, ea, _⟩ := DT_deep ha
  obtain ⟨B, hB, eb, _⟩ := DT_deep hb
  have key : Deep (adjT (N + P) (a ++ shE N b)) (N + P) (fun x => if x < N then A x else B (x - N)) := by
    refine ⟨fun x y m => ?_, fun x y hx hy he hne => ?_, fun x hx => ?_⟩
    · by_cases h : x < N
      · have m' := (left_mut ha hb h).1 m
        rw [if_pos h, if_pos m'.1.lt.2]; exact hA.ring _ _ m'
      · obtain ⟨u, rfl⟩ : ∃ u, x = u + N := ⟨x - N, by omega⟩
        obtain ⟨v, rfl, m'⟩ := (right_mut ha hb).1 m
        rw [if_neg h, if_neg (by omega), Nat.add_sub_cancel, Nat.add_sub_cancel]; exact hB.ring _ _ m'
    · rcases side_edge ha hb he with ⟨h1, h2, h3⟩ | ⟨u, v, rfl, rfl, h1, h2, h3⟩
      · rw [if_pos h1, if_pos h2]
        exact hA.out x y h1 h2 h3 (fun m => hne ((left_mut ha hb h1).2 m))
      · rw [if_neg (by omega), if_neg (by omega), Nat.add_sub_cancel, Nat.add_sub_cancel]
        exact hB.out u v h1 h2 h3 (fun m => hne ((right_mut ha hb).2 ⟨v, rfl, m⟩))
    · by_cases h : x < N
      · rw [if_pos h]
        refine (hA.by1 x h).imp id ?_
        rintro ⟨x', y, m, hy, e1, hne, h1⟩
        exact ⟨x', y, (left_mut ha hb h).2 m, by omega, left_edge ha hb e1, fun m' => hne ((left_mut ha hb h).1 m'), by rw [if_pos hy]; exact h1⟩
      · obtain ⟨u, rfl⟩ : ∃ u, x = u + N := ⟨x - N, by omega⟩
        rw [if_neg h, Nat.add_sub_cancel]
        refine (hB.by1 u (by omega)).imp id ?_
        rintro ⟨x', y, m, hy, e1, hne, h1⟩
        refine ⟨x' + N, y + N, (right_mut ha hb).2 ⟨x', rfl, m⟩, by omega, right_edge ha hb e1, fun m' => ?_, by rw [if_neg (by omega), Nat.add_sub_cancel]; exact h1⟩
        obtain ⟨v, hv, m2⟩ := (right_mut ha hb).1 m'
        obtain rfl : v = y := by omega
        exact hne m2
  rw [e, ea, eb, List.range_add, List.map_append, List.map_map]
  congr 1
  · refine List.map_congr_left fun x hx => ?_
    have hx := List.mem_range.1 hx
    rw [Deep.uniq hD key (by omega), if_pos hx]
  · refine List.map_congr_left fun x hx => ?_
    have hx := List.mem_range.1 hx
    show D (N + x) = B x
    rw [Deep.uniq hD key (by omega), if_neg (by omega), Nat.add_sub_cancel_left]
end
end Go.Proofs.Yteigepblocbnlaa.Gp
