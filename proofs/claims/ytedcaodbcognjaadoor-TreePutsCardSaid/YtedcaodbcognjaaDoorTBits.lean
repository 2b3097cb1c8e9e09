/-
  What the laws of layer 2 want besides: sizes of a small tree, where a difference's changes come from.
-/
import Derived.Test.YtedcaodbcognjaaDoorTLawKnown
namespace Go.Proofs.YtedcaodbcognjaaDoor
open Go Go.RowKit Go.Shelf Go.Proofs

theorem longN_mem {l : List FX} {x : FX} (h : x ∈ l) : 1 + x.p.size + x.b.length ≤ longN l := by
  induction l with
  | nil => cases h
  | cons y l ih =>
    have e : longN (y :: l) = 1 + y.p.size + y.b.length + longN l := by unfold longN; simp [FX.long]
    rw [e]
    rcases List.mem_cons.1 h with rfl | h
    · omega
    · have := ih h; omega
/-- A tree that is looked at. -/
structure TinyX (l : List FX) : Prop where
  len : l.length ≤ 40
  each : ∀ x ∈ l, x.p.size ≤ 3000 ∧ x.b.length ≤ 3000
theorem smallL_tiny {l : List FX} (h : smallL l = true) : TinyX l := by
  unfold smallL at h
  simp only [Bool.and_eq_true, decide_eq_true_eq] at h
  exact ⟨h.1, fun x hx => by have := longN_mem hx; omega⟩
theorem TinyX.small {l : List FX} (h : TinyX l) : SmallX l := ⟨by have := h.len; omega, fun x hx => by have := h.each x hx; omega⟩
theorem TinyX.paths {l : List FX} (h : TinyX l) : ∀ x ∈ l, x.p.size ≤ 1000000 := fun x hx => (h.small.2 x hx).1

theorem diffT_from : ∀ (a b : List Fl), ∀ d ∈ diffT a b, (∃ x ∈ a, d.p = x.1 ∧ d.b = []) ∨ ∃ y ∈ b, d.p = y.1 ∧ d.b = y.2
  | [], [] => fun d hd => by simp [diffT] at hd
  | [], y :: b => fun d hd => by
    simp only [diffT, List.mem_cons] at hd
    rcases hd with rfl | hd
    · exact .inr ⟨y, by simp, rfl, rfl⟩
    · exact (diffT_from [] b d hd).imp (fun ⟨x, h, _⟩ => by cases h) fun ⟨z, h, h2⟩ => ⟨z, by simp [h], h2⟩
  | x :: a, [] => fun d hd => by
    simp only [diffT, List.mem_cons] at hd
    rcases hd with rfl | hd
    · exact .inl ⟨x, by simp, rfl, rfl⟩
    · exact (diffT_from a [] d hd).imp (fun ⟨z, h, h2⟩ => ⟨z, by simp [h], h2⟩) fun ⟨_, h, _⟩ => by cases h
  | x :: a, y :: b => fun d hd => by
    rw [diffT] at hd
    have up1 := fun h => (diffT_from a b d h).imp (fun ⟨z, h, h2⟩ => (⟨z, List.mem_cons_of_mem _ h, h2⟩ : ∃ z ∈ x :: a, d.p = z.1 ∧ d.b = [])) fun ⟨z, h, h2⟩ => (⟨z, List.mem_cons_of_mem _ h, h2⟩ : ∃ z ∈ y :: b, d.p = z.1 ∧ d.b = z.2)
    split at hd
    · split at hd
      · exact up1 hd
      · rcases List.mem_cons.1 hd with rfl | hd
        · exact .inr ⟨y, by simp, rfl, rfl⟩
        · exact up1 hd
    · split at hd
      · rcases List.mem_cons.1 hd with rfl | hd
        · exact .inl ⟨x, by simp, rfl, rfl⟩
        · exact (diffT_from a (y :: b) d hd).imp (fun ⟨z, h, h2⟩ => ⟨z, List.mem_cons_of_mem _ h, h2⟩) id
      · rcases List.mem_cons.1 hd with rfl | hd
        · exact .inr ⟨y, by simp, rfl, rfl⟩
        · exact (diffT_from (x :: a) b d hd).imp id fun ⟨z, h, h2⟩ => ⟨z, List.mem_cons_of_mem _ h, h2⟩
termination_by a b => a.length + b.length
theorem diffT_len : ∀ (a b : List Fl), (diffT a b).length ≤ a.length + b.length
  | [], [] => by simp [diffT]
  | [], y :: b => by have := diffT_len [] b; simp only [diffT, List.length_cons, List.length_nil] at *; omega
  | x :: a, [] => by have := diffT_len a []; simp only [diffT, List.length_cons, List.length_nil] at *; omega
  | x :: a, y :: b => by
    have h1 := diffT_len a b
    have h2 := diffT_len a (y :: b)
    have h3 := diffT_len (x :: a) b
    rw [diffT]
    simp only [List.length_cons] at *
    split
    · split
      · omega
      · rw [List.length_cons]; omega
    · split <;> (rw [List.length_cons]; omega)
termination_by a b => a.length + b.length

/-- What Diff answered of two small trees is a small row of changes. -/
theorem diff_small {a b : List FX} {l : List DX} (ha : TinyX a) (hb : TinyX b) (h : l.map DX.dl = diffT (flsX a) (flsX b)) : l.length ≤ 80 ∧ ∀ x ∈ l, x.p.size ≤ 3000 ∧ x.b.length ≤ 3000 := by
  have hn := diffT_len (flsX a) (flsX b)
  rw [← h, List.length_map, flsX_length, flsX_length] at hn
  refine ⟨by have := ha.len; have := hb.len; omega, fun x hx => ?_⟩
  have hm : x.dl ∈ diffT (flsX a) (flsX b) := by rw [← h]; exact List.mem_map.2 ⟨x, hx, rfl⟩
  have hp : x.p.size = x.dl.p.length := Array.length_toList.symm
  have hf : ∀ {c : List FX}, TinyX c → ∀ y ∈ flsX c, y.1.length ≤ 3000 ∧ y.2.length ≤ 3000 := fun hc y hy => by
    obtain ⟨z, hz, rfl⟩ := List.mem_map.1 hy
    have := hc.each z hz
    exact ⟨by show z.p.data.toList.length ≤ 3000; rw [Array.length_toList]; exact this.1, this.2⟩
  rcases diffT_from _ _ _ hm with ⟨y, hy, e1, e2⟩ | ⟨y, hy, e1, e2⟩
  · have := hf ha y hy
    exact ⟨by rw [hp, e1]; exact this.1, by show x.dl.b.length ≤ 3000; rw [e2]; simp⟩
  · have := hf hb y hy
    exact ⟨by rw [hp, e1]; exact this.1, by show x.dl.b.length ≤ 3000; rw [e2]; exact this.2⟩
end Go.Proofs.YtedcaodbcognjaaDoor
