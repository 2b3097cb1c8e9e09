/-
  The contracts of the document's own answers of layer 4: Step, More, Sum.
-/
import Derived.Test.YtojkifcclgecoaaProg
import Derived.Test.YtojkifcclgecoaaCPlain
import Derived.Test.YtojkifcclgecoaaOpenRows
import Derived.WalkKit
import Derived.OwnWalk
import Derived.IntWalk
import Derived.BigRegion
import Derived.Laws.BitsAllLaws
import Derived.Lib.Hide
namespace Go.Proofs.Ytojkifcclgecoaa
open Go Go.RowKit Go.Shelf Go.Proofs

theorem BytesAt.byte {w : World} {A : Option Addr} {b : Bs} {k : Nat} {x : UInt8} (h : BytesAt w A b) (hx : b[k]? = some x) : ∃ g o, A = some ⟨g, o, none⟩ ∧ w.cell? ⟨g, o + k, none⟩ = some (.int .u8 (x.toNat : Int)) := by
  obtain ⟨hk, rfl⟩ := List.getElem?_eq_some_iff.1 hx
  obtain ⟨g, o, e, hc⟩ := h (by omega)
  refine ⟨g, o, e, ?_⟩
  rw [hc k hk]
  have e2 : (numsB b)[k]? = some ((b[k].toNat : Nat) : Int) := by unfold numsB; rw [List.getElem?_map, List.getElem?_eq_getElem hk]; rfl
  rw [List.getD_eq_getElem?_getD, e2]; rfl
theorem raw_snoc {b : Bs} {k : Nat} {x : UInt8} (n : Nat) (hx : b[k]? = some x) : rawN n (b.take (k + 1)) = halvesN 8 (rawN n (b.take k) ^^^ x.toNat) := by
  rw [List.take_add_one, hx, raw_append]; rfl
theorem halves_next (m n : Nat) : halvesN (m + 1) n = halfN (halvesN m n) := steps_add m 1 n
theorem xor32 {a b : Nat} (ha : a < 2 ^ 32) (hb : b < 2 ^ 32) : bits .xor .u32 (a : Int) (b : Int) = ((a ^^^ b : Nat) : Int) := u32_xor_nat a b (by omega) (by omega)
theorem half_odd {n : Nat} (hn : n < 2 ^ 32) (h : n % 2 = 1) : bits .xor .u32 ((n : Int) / 2) 3988292384 = ((halfN n : Nat) : Int) := by
  have e := xor32 (a := n / 2) (b := polyN) (by omega) poly_lt
  unfold halfN
  rw [if_pos h, ← e]; rfl
theorem half_even {n : Nat} (h : ¬ n % 2 = 1) : ((n : Int) / 2) = ((halfN n : Nat) : Int) := by
  unfold halfN
  rw [if_neg h]; omega

/-- The sum of the first k rows. -/
def sumTo (l : List BX) (k : Nat) : Nat := sumN ((l.take k).map BX.b)
theorem sumTo_zero (l : List BX) : sumTo l 0 = 0 := by unfold sumTo; rw [List.take_zero]; rfl
theorem sumTo_lt (l : List BX) (k : Nat) : sumTo l k < 2 ^ 32 := sum_lt _
theorem sumTo_all (l : List BX) : sumTo l l.length = sumN (l.map BX.b) := by unfold sumTo; rw [List.take_length]
theorem sumTo_next {l : List BX} {k : Nat} {x : BX} (hx : l[k]? = some x) : sumTo l (k + 1) = moreN (sumTo l k) x.b := by
  unfold sumTo
  rw [List.take_add_one, hx, List.map_append]
  unfold sumN
  simp only [List.foldl_append, Option.toList, List.map_cons, List.map_nil, List.foldl_cons, List.foldl_nil]

end Go.Proofs.Ytojkifcclgecoaa
