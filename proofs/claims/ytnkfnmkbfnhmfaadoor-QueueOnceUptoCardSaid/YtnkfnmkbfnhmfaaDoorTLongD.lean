/-
  How long changes are: the document's LongDeltas.
-/
import Derived.Test.YtnkfnmkbfnhmfaaDoorTLawKnown
import Derived.Deep.RegionLaw
namespace Go.Proofs.YtnkfnmkbfnhmfaaDoor
open Go Go.RowKit Go.Shelf Go.Proofs
attribute [local go_sem] Oper.semAt_some

def DX.long (x : DX) : Nat := 1 + x.p.size + x.b.length
def longDN (l : List DX) : Nat := (l.map DX.long).sum
def BigD (l : List DX) : Prop := ∀ x ∈ l, x.p.size ≤ 281474976710656 ∧ x.b.length ≤ 281474976710656
theorem longDN_snoc {l : List DX} {k : Nat} {x : DX} (hx : l[k]? = some x) : longDN (l.take (k + 1)) = longDN (l.take k) + 1 + x.p.size + x.b.length := by
  unfold longDN
  rw [List.take_add_one, hx, List.map_append, List.sum_append]
  simp [DX.long]; omega
theorem longDN_le (l : List DX) (h : BigD l) : longDN l ≤ l.length * 562949953421313 := by
  induction l with
  | nil => simp [longDN]
  | cons x l ih =>
    have := ih fun y hy => h y (by simp [hy])
    have := h x (by simp)
    unfold longDN at *
    simp only [List.map_cons, List.sum_cons, List.length_cons, DX.long]
    omega
theorem longDN_mem {l : List DX} {x : DX} (h : x ∈ l) : 1 + x.p.size + x.b.length ≤ longDN l := by
  induction l with
  | nil => cases h
  | cons y l ih =>
    have e : longDN (y :: l) = 1 + y.p.size + y.b.length + longDN l := by unfold longDN; simp [DX.long]
    rw [e]
    rcases List.mem_cons.1 h with rfl | h
    · omega
    · have := ih h; omega

set_option maxRecDepth 100000 in
set_option maxHeartbeats 4000000 in
theorem reflongdeltas_any (l : List DX) (A : Option Addr) (c : Nat) (w : World) (h : DelsAt w A c l) (hl : l.length ≤ 40) (hs : BigD l) :
    Calls Tryd.prog 53 #[.slice A l.length c] w fun e w' => e = .returned (.int .i64 (longDN l)) ∧ Below w.heap.size w w' := by
  have HT := Lib.hid h; clear h
  have HS := Lib.hid hs; clear hs
  go_enter Tryd.func53, Tryd.ntmps53
  go_wp2_with fail
  go_loopw [3, 4] (fun s i wr => ∃ (k : Nat), k ≤ l.length ∧ s = .int .i64 (longDN (l.take k)) ∧ i = .int .i64 k ∧ Below w.heap.size w wr) (fun _ i _ => l.length - (intOf i).toNat)
  case atStart => exact ⟨0, Nat.zero_le _, rfl, rfl, Below.refl _ _⟩
  case round =>
    obtain ⟨k, hk, rfl, rfl, hbr⟩ := hrel
    by_cases h1 : k < l.length
    · obtain ⟨x, hx⟩ : ∃ x, l[k]? = some x := ⟨_, List.getElem?_eq_getElem h1⟩
      obtain ⟨b, o, hA, hr⟩ := (HT.out.below hbr).row (by omega)
      subst hA
      obtain ⟨_, c1, c2⟩ := hr k x hx
      have hsn := longDN_snoc hx
      have hle := longDN_le (l.take k) fun y hy => HS.out y (List.mem_of_mem_take hy)
      have hlt : (l.take k).length ≤ 40 := by rw [List.length_take]; omega
      obtain ⟨hx1, hx2⟩ := HS.out x (List.mem_of_getElem? hx)
      have k1 : (k : Int) < (l.length : Int) := by omega
      have hn : longDN (l.take k) ≤ 40 * 562949953421313 := Nat.le_trans hle (Nat.mul_le_mul_right _ hlt)
      generalize longDN (l.take k) = n at *
      have e1 : IntKind.i64.wrap ((n : Int) + 1) = (n : Int) + 1 := IntWalk.i64_in _ (by omega)
      have e2 : IntKind.i64.wrap ((n : Int) + 1 + (x.p.size : Int)) = (n : Int) + 1 + (x.p.size : Int) := IntWalk.i64_in _ (by omega)
      have e3 : IntKind.i64.wrap ((n : Int) + 1 + (x.p.size : Int) + (x.b.length : Int)) = (n : Int) + 1 + (x.p.size : Int) + (x.b.length : Int) := IntWalk.i64_in _ (by omega)
      clear hr hle hlt
      have HX := Lib.hid hx; clear hx
      have HSN := Lib.hid hsn; clear hsn
      go_wp2_with fail
      go_region
      go_wp2_with fail
      go_roundw
      case rel => exact ⟨k + 1, by omega, by rw [HSN.out]; go_num, by go_num, hbr.drew⟩
      case measure => simp [intOf]; omega
    · obtain rfl : k = l.length := by omega
      have hln : longDN (l.take l.length) = longDN l := by rw [List.take_length]
      have HLN := Lib.hid hln; clear hln
      go_wp2_with fail
      go_ret
      exact ⟨by rw [← HLN.out]; rfl, hbr⟩
end Go.Proofs.YtnkfnmkbfnhmfaaDoor
