/-
  frame.Join; the laws' helpers Long, SameLists; known.
-/
import Derived.Test.YtojkifcclgecoaaFrAll
namespace Go.Proofs.Ytojkifcclgecoaa
open Go Go.RowKit Go.Shelf Go.Proofs

/-- The frames of the first k. -/
def joinTo (l : List BX) (k : Nat) : Bs := joinF ((l.take k).map BX.b)
theorem joinTo_next {l : List BX} {k : Nat} {x : BX} (hx : l[k]? = some x) : joinTo l (k + 1) = joinTo l k ++ encF x.b := by
  unfold joinTo
  rw [List.take_add_one, hx, List.map_append, join_append]
  congr 1
  unfold joinF; simp
theorem joinTo_le (l : List BX) (k : Nat) : (joinTo l k).length ≤ lenF (l.map BX.b) := by
  unfold joinTo
  rw [List.map_take]
  exact lenF_take _ _
theorem joinTo_all (l : List BX) : joinTo l l.length = joinF (l.map BX.b) := by unfold joinTo; rw [List.take_length]

def longBN (l : List BX) : Nat := (l.map fun x => 1 + x.b.length).sum
theorem longBN_next {l : List BX} {k : Nat} {x : BX} (hx : l[k]? = some x) : longBN (l.take (k + 1)) = longBN (l.take k) + 1 + x.b.length := by
  unfold longBN
  rw [List.take_add_one, hx, List.map_append, List.sum_append]
  simp [Nat.add_assoc]
theorem longBN_take (l : List BX) (k : Nat) : longBN (l.take k) ≤ longBN l := by
  conv => rhs; rw [← List.take_append_drop k l]
  unfold longBN
  rw [List.map_append, List.sum_append]; omega
theorem longBN_len (l : List BX) : l.length ≤ longBN l := by
  unfold longBN
  induction l with
  | nil => simp
  | cons x l ih => rw [List.map_cons, List.sum_cons, List.length_cons]; omega
theorem longBN_mem {l : List BX} {x : BX} (h : x ∈ l) : 1 + x.b.length ≤ longBN l := by
  unfold longBN
  induction l with
  | nil => cases h
  | cons y l ih =>
    rw [List.map_cons, List.sum_cons]
    rcases List.mem_cons.1 h with rfl | h
    · omega
    · have := ih h; omega
theorem lenF_long (l : List BX) : lenF (l.map BX.b) ≤ 8 * longBN l := by
  unfold longBN
  induction l with
  | nil => simp [lenF, joinF]
  | cons y l ih => rw [List.map_cons, List.map_cons, List.sum_cons, lenF_cons]; omega

end Go.Proofs.Ytojkifcclgecoaa
