/-
  frame.All.
-/
import Derived.Test.YtojkifcclgecoaaFrNext
namespace Go.Proofs.Ytojkifcclgecoaa
open Go Go.RowKit Go.Shelf Go.Proofs
attribute [local go_sem] Oper.semAt_some

theorem ownRow_cells {w : World} {base e size n : Nat} {v : Value} {xs : List Value} {j : Nat} {o : Obj} (h : w.ownsRow base e size v n xs) (e1 : v.ownBlock = some j) (ho : w.heap[j]? = some o) : o.isCells = true := by
  rcases h.2 with ⟨rfl, _⟩ | ⟨g, cap, cur, rfl, _, hg, _⟩
  · simp [Value.ownBlock] at e1
  · simp [Value.ownBlock] at e1
    subst e1
    rw [hg] at ho; cases ho; rfl
theorem lenF_snoc (l : List Bs) (x : Bs) : lenF (l ++ [x]) = lenF l + (8 + x.length) := by
  unfold lenF
  rw [join_append, List.length_append]
  have : joinF [x] = encF x := by unfold joinF; simp
  rw [this, encF_length]
theorem lenF_take (l : List Bs) (k : Nat) : lenF (l.take k) ≤ lenF l := by
  conv => rhs; rw [← List.take_append_drop k l]
  unfold lenF
  rw [join_append, List.length_append]; omega
theorem lenF_count (l : List Bs) : 8 * l.length ≤ lenF l := by
  induction l with
  | nil => simp
  | cons x l ih => rw [lenF_cons, List.length_cons]; omega
theorem RowsB.box {base : Nat} {W : World} {v : Value} {l : List BX} {B : Nat} {t : TypeId} {u : Value} (h : RowsB base W v l) (hx : Boxed W B t u) (h1 : t ≠ 29) (h2 : t ≠ 5) (z : Value) : RowsB base (W.setCell ⟨B, 0, none⟩ z) v l :=
  ⟨World.ownsRow.kept h.own (grownBy_setCell' W B z) (.inr (fun e => hx.not_row h1 h.own e.symm)), fun y hy => ⟨(h.bod y hy).1.box hx h2 z, (h.bod y hy).2⟩⟩
def AllI (b : Bs) (w : World) (k : Nat) (W : World) : Prop := ∃ v rows, Boxed W w.heap.size 30 v ∧ RowsB w.heap.size W v rows ∧ Hid (rows.map BX.b = (allB b).take k) ∧ Boxed W (w.heap.size + 1) 3 (.int .i64 (lenF ((allB b).take k) : Nat)) ∧ Below w.heap.size w W
theorem allI_own (b : Bs) (w : World) (B : Nat) (hB : w.heap.size + 1 < B) : OwnTo NoB B (AllI b w) := by
  rintro k W W' row ⟨v, rows, h1, h2, h3, h4, h5⟩ hg hr
  have hr' : ∀ r, row = some r → B ≤ r ∧ ∃ o : Obj, W.heap[r]? = some o ∧ o.isCells = false := fun r e => (hr r e).resolve_left (fun h => h)
  exact ⟨v, rows, h1.kept hg (fun e => by have := (hr' _ e.symm).1; omega), h2.keepNC hg (fun r e => (hr' r e).2), h3, h4.kept hg (fun e => by have := (hr' _ e.symm).1; omega), h5.grown hg h5.size (fun r e => by have := (hr' r e).1; omega)⟩
/-- What All answers. -/
def AllPost (b : Bs) (w : World) (e : Ending) (w' : World) : Prop := ∃ v rows, e = .returned (.tuple #[v, .int .i64 (lenF (allB b) : Nat)]) ∧ RowsB w.heap.size w' v rows ∧ rows.map BX.b = allB b ∧ Below w.heap.size w w'

end Go.Proofs.Ytojkifcclgecoaa
