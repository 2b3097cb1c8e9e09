/-
  Plain functions on files and changes for layer 2 (tree): the order of paths, what may be a tree, merging, putting, dropping. No program is named here.
-/
import Derived.Test.YtffhfllikamccaaGreatDoorPlain
namespace Go.Proofs.YtffhfllikamccaaGreatDoor
open Go

abbrev Fl := Bs × Bs
def ltB (a b : Bs) : Bool := Op.bytesLess a b
theorem ltB_def (a b : Bs) : Op.bytesLess a b = ltB a b := rfl
theorem ltB_nil_right (a : Bs) : ltB a [] = false := by cases a <;> rfl
theorem ltB_nil_cons (x : UInt8) (b : Bs) : ltB [] (x :: b) = true := rfl
theorem ltB_cons (x y : UInt8) (a b : Bs) : ltB (x :: a) (y :: b) = (decide (x < y) || (x == y && ltB a b)) := rfl
theorem ltB_irrefl : ∀ a : Bs, ltB a a = false
  | [] => rfl
  | x :: a => by rw [ltB_cons, ltB_irrefl a]; simp [UInt8.lt_irrefl]
theorem ltB_trans : ∀ a b c : Bs, ltB a b = true → ltB b c = true → ltB a c = true
  | _, _, [], _, h => by rw [ltB_nil_right] at h; cases h
  | _, [], _, h, _ => by rw [ltB_nil_right] at h; cases h
  | [], _ :: _, z :: c, _, _ => rfl
  | x :: a, y :: b, z :: c, h1, h2 => by
    rw [ltB_cons] at h1 h2 ⊢
    simp only [Bool.or_eq_true, decide_eq_true_eq, Bool.and_eq_true, beq_iff_eq] at h1 h2 ⊢
    rcases h1 with h1 | ⟨rfl, h1⟩
    · rcases h2 with h2 | ⟨rfl, h2⟩
      · exact .inl (UInt8.lt_trans h1 h2)
      · exact .inl h1
    · rcases h2 with h2 | ⟨rfl, h2⟩
      · exact .inl h2
      · exact .inr ⟨rfl, ltB_trans a b c h1 h2⟩
theorem ltB_tri : ∀ a b : Bs, ltB a b = false → ltB b a = false → a = b
  | [], [], _, _ => rfl
  | [], _ :: _, h, _ => by cases h
  | _ :: _, [], _, h => by cases h
  | x :: a, y :: b, h1, h2 => by
    rw [ltB_cons] at h1 h2
    simp only [Bool.or_eq_false_iff, decide_eq_false_iff_not] at h1 h2
    have hxy : x = y := UInt8.le_antisymm (UInt8.not_lt.1 h2.1) (UInt8.not_lt.1 h1.1)
    subst hxy
    simp only [beq_self_eq_true, Bool.true_and] at h1 h2
    rw [ltB_tri a b h1.2 h2.2]
theorem ltB_asymm (a b : Bs) (h : ltB a b = true) : ltB b a = false := by
  cases e : ltB b a with
  | false => rfl
  | true => have := ltB_trans a b a h e; rw [ltB_irrefl] at this; cases this
theorem ltB_ne (a b : Bs) (h : ltB a b = true) : a ≠ b := fun e => by subst e; rw [ltB_irrefl] at h; cases h
theorem ltB_longer : ∀ (a c : Bs), c ≠ [] → ltB a (a ++ c) = true
  | [], [], h => absurd rfl h
  | [], _ :: _, _ => rfl
  | x :: a, c, h => by rw [List.cons_append, ltB_cons, ltB_longer a c h]; simp

theorem gtB_eq (a b : Bs) : (!ltB a b && !(a == b)) = ltB b a := by
  cases h : ltB b a with
  | true => rw [ltB_asymm _ _ h, beq_eq_false_iff_ne.2 (ltB_ne _ _ h).symm]; rfl
  | false => cases h2 : ltB a b with
    | true => rfl
    | false => rw [ltB_tri a b h2 h]; simp
theorem cmpB_cases (a b : Bs) : (Lib.compareBytes a b = -1 ∧ ltB a b = true) ∨ (Lib.compareBytes a b = 0 ∧ a = b) ∨ (Lib.compareBytes a b = 1 ∧ ltB b a = true) := by
  induction a generalizing b with
  | nil => cases b with
    | nil => exact .inr (.inl ⟨rfl, rfl⟩)
    | cons y b => exact .inl ⟨rfl, rfl⟩
  | cons x a ih => cases b with
    | nil => exact .inr (.inr ⟨rfl, rfl⟩)
    | cons y b =>
      unfold Lib.compareBytes
      by_cases h1 : x < y
      · exact .inl ⟨by simp [h1], by rw [ltB_cons]; simp [h1]⟩
      · by_cases h2 : y < x
        · exact .inr (.inr ⟨by simp [h1, h2], by rw [ltB_cons]; simp [h2]⟩)
        · have hxy : x = y := UInt8.le_antisymm (UInt8.not_lt.1 h2) (UInt8.not_lt.1 h1)
          subst hxy
          simp only [h1, if_false]
          rcases ih b with ⟨e, h⟩ | ⟨e, h⟩ | ⟨e, h⟩
          · exact .inl ⟨e, by rw [ltB_cons, h]; simp⟩
          · exact .inr (.inl ⟨e, by rw [h]⟩)
          · exact .inr (.inr ⟨e, by rw [ltB_cons, h]; simp⟩)
theorem cmpB_lt {a b : Bs} (h : ltB a b = true) : Lib.compareBytes a b = -1 := by
  rcases cmpB_cases a b with ⟨e, _⟩ | ⟨_, h2⟩ | ⟨_, h2⟩
  · exact e
  · subst h2; rw [ltB_irrefl] at h; cases h
  · rw [ltB_asymm _ _ h] at h2; cases h2
theorem cmpB_gt {a b : Bs} (h : ltB b a = true) : Lib.compareBytes a b = 1 := by
  rcases cmpB_cases a b with ⟨_, h2⟩ | ⟨_, h2⟩ | ⟨e, _⟩
  · rw [ltB_asymm _ _ h] at h2; cases h2
  · subst h2; rw [ltB_irrefl] at h; cases h
  · exact e
theorem cmpB_eq (a : Bs) : Lib.compareBytes a a = 0 := by
  rcases cmpB_cases a a with ⟨_, h2⟩ | ⟨e, _⟩ | ⟨_, h2⟩
  · rw [ltB_irrefl] at h2; cases h2
  · exact e
  · rw [ltB_irrefl] at h2; cases h2

def underL (s d : Bs) : Bool := d.isEmpty || (d ++ [47]).isPrefixOf s
def okF (x : Fl) : Bool := rightB x.1 && decide (x.2.length ≤ 65536)
def aheadB (x y : Fl) : Bool := ltB x.1 y.1 && !underL y.1 x.1
/-- r holds of each two, the one behind the other. -/
def pairB {α : Type} (r : α → α → Bool) : List α → Bool
  | [] => true
  | x :: l => l.all (r x) && pairB r l
/-- May it be a tree? -/
def rightT (l : List Fl) : Bool := decide (l.length ≤ 1000) && l.all okF && pairB aheadB l
theorem pairB_iff {α : Type} (r : α → α → Bool) (l : List α) : pairB r l = true ↔ l.Pairwise (fun x y => r x y = true) := by
  induction l with
  | nil => simp [pairB]
  | cons x l ih => simp only [pairB, Bool.and_eq_true, List.all_eq_true, ih, List.pairwise_cons]

/-- The first file of a path. -/
def hasT (l : List Fl) (s : Bs) : Bool := l.any (fun x => x.1 == s)
def getT (l : List Fl) (s : Bs) : Option Bs := (l.find? (fun x => x.1 == s)).map (·.2)
def dropT (l : List Fl) (s : Bs) : List Fl := l.filter (fun x => !(x.1 == s))
/-- Ahead of the first whose path is above. -/
def insT (l : List Fl) (f : Fl) : List Fl := l.takeWhile (fun x => !ltB f.1 x.1) ++ f :: l.dropWhile (fun x => !ltB f.1 x.1)
def putT (l : List Fl) (f : Fl) : List Fl := insT (dropT l f.1) f

/-- A change: its kind, path, bytes. -/
structure Dl where
  k : Int
  p : Bs
  b : Bs
/-- Two lists by rising paths, side by side. -/
def diffT : List Fl → List Fl → List Dl
  | [], [] => []
  | [], y :: b => ⟨1, y.1, y.2⟩ :: diffT [] b
  | x :: a, [] => ⟨3, x.1, []⟩ :: diffT a []
  | x :: a, y :: b => if x.1 == y.1 then (if x.2 == y.2 then diffT a b else ⟨2, y.1, y.2⟩ :: diffT a b)
    else if ltB x.1 y.1 then ⟨3, x.1, []⟩ :: diffT a (y :: b) else ⟨1, y.1, y.2⟩ :: diffT (x :: a) b
termination_by a b => a.length + b.length

/-- The places that are told side by side. -/
def pairsN : List Fl → List Fl → Nat → Nat → List (Option Nat × Option Nat)
  | [], [], _, _ => []
  | [], _ :: b, i, j => (none, some j) :: pairsN [] b i (j + 1)
  | _ :: a, [], i, j => (some i, none) :: pairsN a [] (i + 1) j
  | x :: a, y :: b, i, j => if x.1 == y.1 then (some i, some j) :: pairsN a b (i + 1) (j + 1)
    else if ltB x.1 y.1 then (some i, none) :: pairsN a (y :: b) (i + 1) j else (none, some j) :: pairsN (x :: a) b i (j + 1)
termination_by a b => a.length + b.length

/-- What one change makes of a list; the error. -/
def stepT (t : List Fl) (d : Dl) : Except Int (List Fl) :=
  if !(decide (d.k = 1 ∨ d.k = 2 ∨ d.k = 3) && rightB d.p) then .error 2
  else if hasT t d.p && decide (d.k = 1) then .error 5
  else if !hasT t d.p && !decide (d.k = 1) then .error 6
  else .ok (if d.k = 3 then dropT t d.p else putT t (d.p, d.b))
def stepsT : List Fl → List Dl → Except Int (List Fl)
  | t, [] => .ok t
  | t, d :: l => match stepT t d with
    | .error e => .error e
    | .ok u => stepsT u l
def longT (t : List Fl) : Bool := decide (1000 < t.length) || t.any (fun x => decide (65536 < x.2.length))
def applyT (t : List Fl) (l : List Dl) : Except Int (List Fl) := match stepsT t l with
  | .error e => .error e
  | .ok u => if longT u then .error 3 else if rightT u then .ok u else .error 4
end Go.Proofs.YtffhfllikamccaaGreatDoor
