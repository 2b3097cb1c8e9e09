/-
  The contracts of package tree's closures.
-/
import Derived.Test.YtckpojkbcbogbaaDoorTMem
import Derived.WalkKit
import Derived.WalkLawsBesides
import Derived.Lib.Hide
import Derived.Outline
import Derived.Test.YtckpojkbcbogbaaDoorProg
namespace Go.Proofs.YtckpojkbcbogbaaDoor
open Go Go.RowKit Go.Shelf Go.Proofs

theorem ret_boolT {a b : Bool} (h : a = b) : Ending.returned (.bool a) = .returned (.bool b) := by rw [h]

/-- What is asked of a predicate: in whatever world that has all that lay in w it answers p, and turns nothing. -/
def PredF (g : Nat) (lb : Array Value) (p : FX → Bool) (l : List FX) (w : World) : Prop :=
  ∀ (W : World) (x : FX), x ∈ l → Below w.heap.size w W → Calls Tryd.prog g (#[.agg #[.string x.p, .slice x.A x.b.length x.c]] ++ lb) W fun e w' => e = .returned (.bool (p x)) ∧ Below W.heap.size W w'
def idxF (p : FX → Bool) (l : List FX) : Int := match l.findIdx? p with
  | some i => i
  | none => -1
theorem idxF_hit {p : FX → Bool} {l : List FX} {k : Nat} {x : FX} (hx : l[k]? = some x) (hp : p x = true) (hn : ∀ j y, j < k → l[j]? = some y → p y = false) : idxF p l = k := by
  have : l.findIdx? p = some k := by
    rw [List.findIdx?_eq_some_iff_getElem]
    obtain ⟨hk, rfl⟩ := List.getElem?_eq_some_iff.1 hx
    exact ⟨hk, hp, fun j hj => by simpa using hn j _ hj (List.getElem?_eq_getElem (by omega))⟩
  unfold idxF; rw [this]
theorem idxF_miss {p : FX → Bool} {l : List FX} (hn : ∀ y ∈ l, p y = false) : idxF p l = -1 := by
  have : l.findIdx? p = none := by rw [List.findIdx?_eq_none_iff]; exact hn
  unfold idxF; rw [this]
theorem idxF_cases (p : FX → Bool) (l : List FX) : (idxF p l = -1 ∧ ∀ y ∈ l, p y = false) ∨ ∃ k x, idxF p l = (k : Nat) ∧ l[k]? = some x ∧ p x = true ∧ ∀ j y, j < k → l[j]? = some y → p y = false := by
  cases h : l.findIdx? p with
  | none => exact .inl ⟨by unfold idxF; rw [h], by rw [List.findIdx?_eq_none_iff] at h; exact h⟩
  | some k =>
    obtain ⟨hk, h1, h2⟩ := List.findIdx?_eq_some_iff_getElem.1 h
    refine .inr ⟨k, l[k], by unfold idxF; rw [h], List.getElem?_eq_getElem hk, h1, fun j y hj hy => ?_⟩
    obtain ⟨_, rfl⟩ := List.getElem?_eq_some_iff.1 hy
    simpa using h2 j hj

/-- The place of the first file of a path; below 0: there is none. -/
def placeX (l : List FX) (s : ByteArray) : Int := idxF (fun x => x.p.toList == s.toList) l
end Go.Proofs.YtckpojkbcbogbaaDoor
