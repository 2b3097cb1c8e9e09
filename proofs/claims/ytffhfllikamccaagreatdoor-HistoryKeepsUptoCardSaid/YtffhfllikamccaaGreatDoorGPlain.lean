/-
  What a history tells at a revision, path by path: the last record that is not behind it. No program is named here.
-/
import Derived.Test.YtffhfllikamccaaGreatDoorGHist
namespace Go.Proofs.YtffhfllikamccaaGreatDoor
open Go Go.RowKit Go.Shelf Go.Proofs Go.ChangeMaps Go.Maps Go.WideMaps

def dropC (c : List RX) (r : Nat) : List RX := c.dropWhile fun x => decide (r < x.r)
def valC (c : List RX) (r : Nat) : Option Bs := match dropC c r with
  | [] => none
  | x :: _ => if x.k = 3 then none else some x.b
def valR (H : List (Nat × List DX)) (r : Nat) (s : Bs) : Option Bs := valC (chain H s) r
theorem dropC_late {x : RX} {c : List RX} {r : Nat} (h : r < x.r) : dropC (x :: c) r = dropC c r := by
  unfold dropC
  rw [List.dropWhile_cons, if_pos (decide_eq_true h)]
theorem dropC_here {x : RX} {c : List RX} {r : Nat} (h : ¬ r < x.r) : dropC (x :: c) r = x :: c := by
  unfold dropC
  rw [List.dropWhile_cons, if_neg (by simpa using h)]
/-- f is the tree that the revisions make: by rising paths, each path what its chain tells. -/
def IsTree (H : List (Nat × List DX)) (r : Nat) (f : List Fl) : Prop := Rises f ∧ ∀ s b, (s, b) ∈ f ↔ valR H r s = some b
theorem isTree_unique {H H' : List (Nat × List DX)} {r r' : Nat} {f f' : List Fl} (h : IsTree H r f) (h' : IsTree H' r' f') (e : ∀ s, valR H r s = valR H' r' s) : f = f' :=
  rises_ext f f' h.1 h'.1 fun x => by
    obtain ⟨s, b⟩ := x
    rw [h.2 s b, h'.2 s b, e s]
/-- A path that the map lacks has no record. -/
theorem chain_nil {w : World} {H : List (Nat × List DX)} {D : DataW Unit} (h : RevsF w H D) {s : Bs} (hs : atS D s = .nil) : chain H s = [] := by
  have h1 := h.chain s
  rw [hs] at h1
  cases hc : chain H s with
  | nil => rfl
  | cons x c =>
    rw [hc] at h1
    obtain ⟨G, o, A, n, bv, e, _⟩ := h1
    cases e
theorem valR_nil {w : World} {H : List (Nat × List DX)} {D : DataW Unit} (h : RevsF w H D) {s : Bs} (hs : atS D s = .nil) (r : Nat) : valR H r s = none := by
  unfold valR valC dropC
  rw [chain_nil h hs]; rfl
theorem chainL_nil_of {r : Nat} {L : List DX} {s : Bs} (h : s ∉ pathsX L) : chainL r L s = [] := by
  unfold chainL
  have : (L.filter fun x => x.p.data.toList == s) = [] := by
    rw [List.filter_eq_nil_iff]
    intro x hx e
    exact h (by unfold pathsX; exact List.mem_map.2 ⟨x, hx, by simpa using e⟩)
  rw [this]; rfl
theorem chainL_rev {r : Nat} {L : List DX} {s : Bs} : ∀ x ∈ chainL r L s, x.r = r := fun x hx => by
  unfold chainL at hx
  rw [List.mem_reverse] at hx
  obtain ⟨y, _, rfl⟩ := List.mem_map.1 hx
  rfl
theorem chain_rev : ∀ (H : List (Nat × List DX)) (s : Bs), ∀ x ∈ chain H s, x.r < H.length
  | [], _, x, hx => by cases hx
  | (G, L) :: H, s, x, hx => by
    rcases List.mem_append.1 hx with h | h
    · rw [chainL_rev x h, List.length_cons]; omega
    · have := chain_rev H s x h
      rw [List.length_cons]; omega
/-- What comes behind the revision r makes no difference. -/
theorem dropC_append {a b : List RX} {r : Nat} (h : ∀ x ∈ a, r < x.r) : dropC (a ++ b) r = dropC b r := by
  induction a with
  | nil => rfl
  | cons x a ih =>
    rw [List.cons_append, dropC_late (h x (by simp)), ih fun y hy => h y (by simp [hy])]
theorem valR_later {G : Nat} {L : List DX} {H : List (Nat × List DX)} {r : Nat} (h : r < H.length) (s : Bs) : valR ((G, L) :: H) r s = valR H r s := by
  unfold valR valC
  rw [show chain ((G, L) :: H) s = chainL H.length L s ++ chain H s from rfl, dropC_append fun x hx => by rw [chainL_rev x hx]; exact h]
theorem dropC_none {c : List RX} {r : Nat} (h : ∀ x ∈ c, ¬ r < x.r) : dropC c r = c := by
  cases c with
  | nil => rfl
  | cons x c => exact dropC_here (h x (by simp))
/-- The same changes in two histories make the same chains. -/
def SameH : List (Nat × List DX) → List (Nat × List DX) → Prop
  | [], [] => True
  | (_, L) :: H, (_, L') :: H' => L.map DX.dl = L'.map DX.dl ∧ SameH H H'
  | _, _ => False
end Go.Proofs.YtffhfllikamccaaGreatDoor
