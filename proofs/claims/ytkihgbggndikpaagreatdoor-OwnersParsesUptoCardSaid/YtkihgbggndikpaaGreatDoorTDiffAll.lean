/-
  The contract of tree.Diff. · The contract of tree.Diff, whole.
-/
import Derived.Test.YtkihgbggndikpaaGreatDoorTDelta
import Derived.Test.YtkihgbggndikpaaGreatDoorTRightW
namespace Go.Proofs.YtkihgbggndikpaaGreatDoor
open Go Go.RowKit Go.Shelf Go.Proofs
attribute [local go_sem] Oper.semAt_some

def diffB (a b : List FX) : List Dl := if rightT (flsX a) && rightT (flsX b) then diffT (flsX a) (flsX b) else []
/-- What has been told of the first k pairs. -/
def toldP (a b : List FX) (k : Nat) : List Dl := ((pairsX a b).take k).flatMap (delP (flsX a) (flsX b))
theorem toldP_zero (a b : List FX) : toldP a b 0 = [] := rfl
theorem toldP_snoc (a b : List FX) (k : Nat) (x : Option Nat × Option Nat) (hx : (pairsX a b)[k]? = some x) : toldP a b (k + 1) = toldP a b k ++ delP (flsX a) (flsX b) x := by
  unfold toldP
  rw [List.take_add_one, hx, List.flatMap_append]; simp
theorem toldP_all (a b : List FX) : toldP a b (pairsX a b).length = diffT (flsX a) (flsX b) := by
  unfold toldP
  rw [List.take_length]
  exact pairsN_delP _ _ _ _ 0 0 rfl rfl
theorem tree_low {w : World} {A B : Option Addr} {c d : Nat} {a b : List FX} (ha : TreeAt w A c a) (hb : TreeAt w B d b) : ∀ k, KeepTwo A B a b k → k < w.heap.size := by
  rintro k (⟨hn, a', e, rfl⟩ | ⟨hn, a', e, rfl⟩)
  · obtain ⟨g, o, rfl, hr⟩ := ha.row hn
    cases e
    obtain ⟨x, hx⟩ : ∃ x, a[0]? = some x := ⟨_, List.getElem?_eq_getElem hn⟩
    exact World.block_lt_of_cell? w (a := ⟨g, o + 0 * 2, none⟩) (hr 0 x hx).1
  · obtain ⟨g, o, rfl, hr⟩ := hb.row hn
    cases e
    obtain ⟨x, hx⟩ : ∃ x, b[0]? = some x := ⟨_, List.getElem?_eq_getElem hn⟩
    exact World.block_lt_of_cell? w (a := ⟨g, o + 0 * 2, none⟩) (hr 0 x hx).1
theorem body_len {b : List FX} (h : rightT (flsX b) = true) {j : Nat} {x : FX} (hx : b[j]? = some x) : x.b.length ≤ 1000000 := by
  have := ((right_all h).2.1 x.fl (by unfold flsX; exact List.mem_map.2 ⟨x, List.mem_of_getElem? hx, rfl⟩)).2
  have e : x.fl.2 = x.b := rfl
  rw [e] at this; omega
theorem below_back {B : Nat} {w W W' : World} (h1 : Below B w W) (h2 : Below B w W') : W.heap.size ≤ W'.heap.size → Below B W W' := fun hs =>
  ⟨h2.os.trans h1.os.symm, h2.tape.trans h1.tape.symm, h2.output.trans h1.output.symm, hs, fun k hk => (h2.block k hk).trans (h1.block k hk).symm⟩
end Go.Proofs.YtkihgbggndikpaaGreatDoor
namespace Go.Proofs.YtkihgbggndikpaaGreatDoor
open Go Go.RowKit Go.Shelf Go.Proofs

end Go.Proofs.YtkihgbggndikpaaGreatDoor
