/-
  What the closure in path.parted has captured; how it lies on while only the map of failures and new blocks turn.
-/
import Derived.Test.YtcnifjjdnomgpaaDoorClean
import Derived.Test.YtcnifjjdnomgpaaDoorPlace
import Derived.Test.YtcnifjjdnomgpaaDoorPartedLaws
import Derived.IntWalk
namespace Go.Proofs.YtcnifjjdnomgpaaDoor
open Go Go.RowKit Go.Shelf Go.Proofs

theorem wrap_succ (n : Nat) (h : n ≤ 100000) : IntKind.i64.wrap ((n : Int) + 1) = ((n + 1 : Nat) : Int) := by
  rw [IntWalk.i64_in _ (by omega)]; rfl
structure Caught where
  bp : Nat
  bi : Nat
  bm : Nat
  bo : Nat
  bf : Nat
  bx : Nat
  mb : Nat
  ap : Option Addr
  cp : Nat
  ai : Option Addr
  ci : Nat
  gm : Nat
  go : Nat

def Reads {α : Type} (enc : α → Value) (W : World) (A : Option Addr) (xs : List α) : Prop := ∀ j x, xs[j]? = some x → ∃ b, A = some ⟨b, 0, none⟩ ∧ W.cell? ⟨b, j, none⟩ = some (enc x)

theorem boxed_ne_map {W : World} {B mb : Nat} {t : TypeId} {v : Value} (h : Boxed W B t v) (hm : ∃ es clock, W.heap[mb]? = some (.map es clock)) : B ≠ mb := by
  rintro rfl
  obtain ⟨es, clock, hm⟩ := hm
  rw [show W.heap[B]? = _ from h] at hm; cases hm
theorem cell_ne_map {W : World} {b mb j : Nat} {v : Value} (h : W.cell? ⟨b, j, none⟩ = some v) (hm : ∃ es clock, W.heap[mb]? = some (.map es clock)) : b ≠ mb := by
  rintro rfl
  obtain ⟨es, clock, hm⟩ := hm
  simp [World.cell?, hm] at h
theorem Reads.kept {α : Type} {enc : α → Value} {W W' : World} {A : Option Addr} {xs : List α} {mb : Nat} (h : Reads enc W A xs) (hg : W.grownBy W' (some mb)) (hm : ∃ es clock, W.heap[mb]? = some (.map es clock)) : Reads enc W' A xs := by
  intro j x hx
  obtain ⟨b, hA, hc⟩ := h j x hx
  exact ⟨b, hA, hg.cell hc (fun e => cell_ne_map hc hm (by injection e))⟩
theorem boxed_keptM {W W' : World} {B mb : Nat} {t : TypeId} {v : Value} (h : Boxed W B t v) (hg : W.grownBy W' (some mb)) (hm : ∃ es clock, W.heap[mb]? = some (.map es clock)) : Boxed W' B t v :=
  h.kept hg (fun e => boxed_ne_map h hm (by injection e))
theorem grown_trans {A B C : World} {row : Option Nat} (h : A.grownBy B row) (k : B.grownBy C row) : A.grownBy C row :=
  ⟨k.os.trans h.os, k.tape.trans h.tape, k.output.trans h.output, Nat.le_trans h.size k.size, fun i hi hne => (k.block i (Nat.lt_of_lt_of_le hi h.size) hne).trans (h.block i hi hne)⟩
theorem grown_below {A B : World} (row : Option Nat) (h : Below A.heap.size A B) : A.grownBy B row := ⟨h.os, h.tape, h.output, h.size, fun i hi _ => h.block i hi⟩
theorem cells_of_heap {W : World} {b t : Nat} {x y : Value} (h : W.heap[b]? = some (.cells #[x, y] t (0, 0))) : W.cell? ⟨b, 0, none⟩ = some x ∧ W.cell? ⟨b, 1, none⟩ = some y := by
  simp [World.cell?, h]
theorem partedB_nil {α : Type} (many : α → Bool) (one : α → α → Bool) (is : List α) : partedB many one [] is = is.isEmpty := by unfold partedB; rfl
theorem partedB_stop {α : Type} (many : α → Bool) (one : α → α → Bool) (p : α) (ps : List α) : partedB many one (p :: ps) [] = (many p && partedB many one ps []) := by conv => lhs; unfold partedB
theorem partedB_cons {α : Type} (many : α → Bool) (one : α → α → Bool) (p : α) (ps : List α) (i : α) (is : List α) :
    partedB many one (p :: ps) (i :: is) = if many p then partedB many one ps (i :: is) || partedB many one (p :: ps) is else one p i && partedB many one ps is := by conv => lhs; unfold partedB
end Go.Proofs.YtcnifjjdnomgpaaDoor
