/-
  slices.DeleteFunc on a row of files of the call's own; tree.drop. · tree.drop on a row of files of the call's own; tree.own.
-/
import Derived.Test.YtkihgbggndikpaaGreatDoorTOwn
import Derived.Test.YtkihgbggndikpaaGreatDoorTDelta
namespace Go.Proofs.YtkihgbggndikpaaGreatDoor
open Go Go.RowKit Go.Shelf Go.Proofs

def keepX (l : List FX) (s : ByteArray) : List FX := l.filter fun x => !(x.p.toList == s.toList)
theorem keepX_all {l : List FX} {s : ByteArray} (h : ∀ y ∈ l, (y.p.toList == s.toList) = false) : keepX l s = l := by
  unfold keepX
  rw [List.filter_eq_self]
  intro y hy; rw [h y hy]; rfl
theorem keepX_snoc (l : List FX) (s : ByteArray) (k : Nat) (x : FX) (hx : l[k]? = some x) : keepX (l.take (k + 1)) s = if (x.p.toList == s.toList) = true then keepX (l.take k) s else keepX (l.take k) s ++ [x] := by
  unfold keepX
  rw [List.take_add_one, hx, List.filter_append]
  cases e : (x.p.toList == s.toList) with
  | true => simp only [Option.toList, List.filter_cons, e, List.filter_nil]; simp
  | false => simp only [Option.toList, List.filter_cons, e, List.filter_nil]; simp
theorem keepX_fls (l : List FX) (s : ByteArray) : flsX (keepX l s) = dropT (flsX l) s.data.toList := by
  unfold keepX flsX dropT
  rw [List.filter_map]
  congr 1
  refine List.filter_congr fun x _ => ?_
  simp only [Function.comp, FX.fl, ByteArray.toList_eq]

/-- What is known in the loop: i are kept of the first j; behind j all is as it was. -/
structure DelInv (base : Nat) (l : List FX) (s : ByteArray) (w : World) (g n cap B : Nat) (i j : Nat) (wr : World) (m : List FX) : Prop where
  own : FilesOwn base wr (.slice (some ⟨g, 0, none⟩) n cap) m
  len : m.length = n
  kept : m.take i = keepX (l.take j) s
  rest : m.drop j = l.drop j
  grown : w.grownBy wr (some g)
  box : Boxed wr B 9 (.string s)

theorem take_set_succ {α : Type} (m : List α) (i : Nat) (x : α) (hi : i < m.length) : (m.set i x).take (i + 1) = m.take i ++ [x] := by
  rw [List.take_succ_eq_append_getElem (by rw [List.length_set]; exact hi), List.take_set_of_le (Nat.le_refl i)]
  simp
theorem DelInv.next {base : Nat} {l : List FX} {s : ByteArray} {w : World} {g cap B i j : Nat} {wr w2 : World} {m : List FX} {x : FX} (h : DelInv base l s w g l.length cap B i j wr m) (hml : m.length = l.length) (hb : Below wr.heap.size wr w2) (hij : i < j) (hj : j < l.length) (hne : B ≠ g) (_hx : l[j]? = some x) (hk : keepX (l.take (j + 1)) s = keepX (l.take j) s ++ [x]) :
    DelInv base l s w g l.length cap B (i + 1) (j + 1) ((w2.setCell ⟨g, i * 2, none⟩ (.string x.p)).setCell ⟨g, i * 2 + 1, none⟩ (.slice x.A x.b.length x.c)) (m.set i x) where
  own := (h.own.below hb).store hml.symm i x
  len := by rw [List.length_set]; exact hml
  kept := by rw [take_set_succ m i x (by omega), h.kept, hk]
  rest := by
    rw [List.drop_set_of_lt (by omega), ← List.drop_drop, h.rest, List.drop_drop]
  grown := grown_trans2 (grown_trans2 h.grown (grownN hb none) (.inr (fun _ e => by cases e))) grown_two (.inl rfl)
  box := by
    have h1 : Boxed w2 B 9 (.string s) := (hb.block _ h.box.lt).trans h.box
    exact (Below.heap_setCell _ _ _ _ hne).trans ((Below.heap_setCell _ _ _ _ hne).trans h1)

end Go.Proofs.YtkihgbggndikpaaGreatDoor
namespace Go.Proofs.YtkihgbggndikpaaGreatDoor
open Go Go.RowKit Go.Shelf Go.Proofs

/-- What is asked of a call that turns a row of the caller's own: the row that it answers; what else lay in w is as it was. -/
def RowPost (base : Nat) (v : Value) (w : World) (l : List FX) (e : Ending) (w' : World) : Prop :=
  ∃ v', e = .returned v' ∧ FilesOwn base w' v' l ∧ w.grownBy w' v.ownBlock ∧ (v'.ownBlock = v.ownBlock ∨ ∀ g, v'.ownBlock = some g → w.heap.size ≤ g)

end Go.Proofs.YtkihgbggndikpaaGreatDoor
