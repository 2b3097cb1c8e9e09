/-
  Plain facts on rows of patterns, from behind: what the document's own answer reckons front by front.
-/
import Derived.Test.YtcnifjjdnomgpaaDoorPartedLaws
namespace Go.Proofs.YtcnifjjdnomgpaaDoor
open Go

theorem parted_nil_one {α : Type} (many : α → Bool) (one : α → α → Bool) (p : α) (hp : many p = false) : ∀ P : List α, partedB many one (P ++ [p]) [] = false
  | [] => by simp [partedB, hp]
  | q :: P => by
    have ih := parted_nil_one many one p hp P
    simp only [List.cons_append, partedB, ih, Bool.and_false]
theorem parted_nil_many {α : Type} (many : α → Bool) (one : α → α → Bool) (p : α) (hp : many p = true) : ∀ P : List α, partedB many one (P ++ [p]) [] = partedB many one P []
  | [] => by simp [partedB, hp]
  | q :: P => by
    have ih := parted_nil_many many one p hp P
    simp only [List.cons_append, partedB, ih]
theorem parted_snoc_one {α : Type} (many : α → Bool) (one : α → α → Bool) (p x : α) (hp : many p = false) : ∀ P I : List α, partedB many one (P ++ [p]) (I ++ [x]) = (partedB many one P I && one p x) := by
  intro P
  induction P with
  | nil =>
    intro I
    cases I with
    | nil => simp [partedB, hp]
    | cons i J =>
      have h : partedB many one [] (J ++ [x]) = false := by rw [partedB]; cases J <;> rfl
      simp only [List.nil_append, List.cons_append, partedB, hp, Bool.false_eq_true, if_false]
      cases J <;> simp
  | cons q P ih =>
    intro I
    induction I with
    | nil =>
      have h1 := ih []
      have h2 := parted_nil_one many one p hp P
      simp only [List.nil_append] at h1
      simp only [List.nil_append, List.cons_append, partedB, h1, h2]
      cases many q <;> simp
    | cons i J ihJ =>
      have h1 := ih (i :: J)
      have h2 := ih J
      simp only [List.cons_append] at h1 ihJ
      simp only [List.cons_append, partedB, h1, h2, ihJ]
      cases many q <;> cases one p x <;> simp
theorem parted_snoc_many {α : Type} (many : α → Bool) (one : α → α → Bool) (p x : α) (hp : many p = true) : ∀ P I : List α, partedB many one (P ++ [p]) (I ++ [x]) = (partedB many one P (I ++ [x]) || partedB many one (P ++ [p]) I) := by
  intro P
  induction P with
  | nil =>
    intro I
    rw [List.nil_append, parted_rest many one p hp, parted_rest many one p hp, Bool.or_true]
  | cons q P ih =>
    intro I
    induction I with
    | nil =>
      have h1 := ih []
      have h2 := parted_nil_many many one p hp P
      simp only [List.nil_append] at h1
      simp only [List.nil_append, List.cons_append, partedB, h1, h2]
      cases many q <;> cases partedB many one P [x] <;> cases partedB many one P [] <;> simp
    | cons i J ihJ =>
      have h1 := ih (i :: J)
      have h2 := ih J
      simp only [List.cons_append] at h1 ihJ
      simp only [List.cons_append, partedB, h1, h2, ihJ]
      cases many q <;> simp only [Bool.false_eq_true, if_false, if_true]
      · cases one q i <;> simp
      · generalize partedB many one P (i :: (J ++ [x])) = a1
        generalize partedB many one (P ++ [p]) (i :: J) = a2
        generalize partedB many one (q :: P) (J ++ [x]) = a3
        generalize partedB many one (q :: (P ++ [p])) J = a4
        cases a1 <;> cases a2 <;> cases a3 <;> cases a4 <;> rfl

/-- What the document's answer reckons: how the first i patterns and the first k items fit. -/
def frontsB {α : Type} (many : α → Bool) (one : α → α → Bool) (ps is : List α) (i k : Nat) : Bool := partedB many one (ps.take i) (is.take k)
theorem fronts_none {α : Type} (many : α → Bool) (one : α → α → Bool) (ps is : List α) (k : Nat) (hk : k ≤ is.length) : frontsB many one ps is 0 k = decide (k = 0) := by
  unfold frontsB
  rw [List.take_zero, partedB]
  cases k with
  | zero => rfl
  | succ k =>
    have : is.take (k + 1) ≠ [] := fun e => by
      have := congrArg List.length e
      rw [List.length_take, List.length_nil] at this; omega
    cases e : is.take (k + 1) with
    | nil => exact absurd e this
    | cons a r => simp
theorem fronts_many_zero {α : Type} (many : α → Bool) (one : α → α → Bool) (ps is : List α) (i : Nat) (p : α) (h : ps[i]? = some p) (hp : many p = true) : frontsB many one ps is (i + 1) 0 = frontsB many one ps is i 0 := by
  unfold frontsB
  rw [List.take_add_one, h, Option.toList_some, List.take_zero, parted_nil_many many one p hp]
theorem fronts_many {α : Type} (many : α → Bool) (one : α → α → Bool) (ps is : List α) (i k : Nat) (p : α) (h : ps[i]? = some p) (hp : many p = true) (hk : k < is.length) : frontsB many one ps is (i + 1) (k + 1) = (frontsB many one ps is i (k + 1) || frontsB many one ps is (i + 1) k) := by
  unfold frontsB
  have hx : is[k]? = some is[k] := List.getElem?_eq_getElem hk
  rw [List.take_add_one (l := ps), h, Option.toList_some, List.take_add_one (l := is), hx, Option.toList_some, parted_snoc_many many one p _ hp]
theorem fronts_one_zero {α : Type} (many : α → Bool) (one : α → α → Bool) (ps is : List α) (i : Nat) (p : α) (h : ps[i]? = some p) (hp : many p = false) : frontsB many one ps is (i + 1) 0 = false := by
  unfold frontsB
  rw [List.take_add_one, h, Option.toList_some, List.take_zero, parted_nil_one many one p hp]
theorem fronts_one {α : Type} (many : α → Bool) (one : α → α → Bool) (ps is : List α) (i k : Nat) (p x : α) (h : ps[i]? = some p) (hp : many p = false) (hx : is[k]? = some x) : frontsB many one ps is (i + 1) (k + 1) = (frontsB many one ps is i k && one p x) := by
  unfold frontsB
  rw [List.take_add_one (l := ps), h, Option.toList_some, List.take_add_one (l := is), hx, Option.toList_some, parted_snoc_one many one p _ hp]
theorem fronts_all {α : Type} (many : α → Bool) (one : α → α → Bool) (ps is : List α) : frontsB many one ps is ps.length is.length = partedB many one ps is := by
  unfold frontsB; rw [List.take_length, List.take_length]
end Go.Proofs.YtcnifjjdnomgpaaDoor
