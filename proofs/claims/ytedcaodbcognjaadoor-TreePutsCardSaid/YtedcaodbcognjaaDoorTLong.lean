/-
  The contracts of the document's Long, and of small.
-/
import Derived.Test.YtedcaodbcognjaaDoorTMem
import Derived.BigRegion
import Derived.Deep.RegionHeld3
import Derived.Test.YtedcaodbcognjaaDoorTFuncs
namespace Go.Proofs.YtedcaodbcognjaaDoor
open Go Go.RowKit Go.Shelf Go.Proofs
attribute [local go_sem] Oper.semAt_some

def FX.long (x : FX) : Nat := 1 + x.p.size + x.b.length
def longN (l : List FX) : Nat := (l.map FX.long).sum
theorem longN_snoc {l : List FX} {k : Nat} {x : FX} (hx : l[k]? = some x) : longN (l.take (k + 1)) = longN (l.take k) + 1 + x.p.size + x.b.length := by
  unfold longN
  rw [List.take_add_one, hx, List.map_append, List.sum_append]
  simp [FX.long]; omega
theorem longN_le (l : List FX) (h : ∀ x ∈ l, x.p.size ≤ 281474976710656 ∧ x.b.length ≤ 281474976710656) : longN l ≤ l.length * 562949953421313 := by
  induction l with
  | nil => simp [longN]
  | cons x l ih =>
    have := ih fun y hy => h y (by simp [hy])
    have := h x (by simp)
    unfold longN at *
    simp only [List.map_cons, List.sum_cons, List.length_cons, FX.long]
    omega

set_option maxRecDepth 100000 in
set_option maxHeartbeats 4000000 in
theorem reflong_any (l : List FX) (A : Option Addr) (c : Nat) (w : World) (h : TreeAt w A c l) (hl : l.length ≤ 40) (hs : ∀ x ∈ l, x.p.size ≤ 281474976710656 ∧ x.b.length ≤ 281474976710656) :
    Calls Tryd.prog 26 #[.slice A l.length c] w fun e w' => e = .returned (.int .i64 (longN l)) ∧ Below w.heap.size w w' := by
  have HT := Lib.hid h; clear h
  have HS := Lib.hid hs; clear hs
  go_enter Tryd.func26, Tryd.ntmps26
  go_wp2_with fail
  go_loopw [3, 4] (fun s i wr => ∃ (k : Nat), k ≤ l.length ∧ s = .int .i64 (longN (l.take k)) ∧ i = .int .i64 k ∧ Below w.heap.size w wr) (fun _ i _ => l.length - (intOf i).toNat)
  case atStart => exact ⟨0, Nat.zero_le _, rfl, rfl, Below.refl _ _⟩
  case round =>
    obtain ⟨k, hk, rfl, rfl, hbr⟩ := hrel
    by_cases h1 : k < l.length
    · obtain ⟨x, hx⟩ : ∃ x, l[k]? = some x := ⟨_, List.getElem?_eq_getElem h1⟩
      obtain ⟨b, o, hA, hr⟩ := HT.out.row (by omega)
      subst hA
      obtain ⟨c1, c2⟩ := (hr.keep fun hb => hbr.block _ hb) k x hx
      have hsn := longN_snoc hx
      have hle := longN_le (l.take k) fun y hy => HS.out y (List.mem_of_mem_take hy)
      have hlt : (l.take k).length ≤ 40 := by rw [List.length_take]; omega
      obtain ⟨hx1, hx2⟩ := HS.out x (List.mem_of_getElem? hx)
      have k1 : (k : Int) < (l.length : Int) := by omega
      have hn : longN (l.take k) ≤ 40 * 562949953421313 := Nat.le_trans hle (Nat.mul_le_mul_right _ hlt)
      generalize longN (l.take k) = n at *
      have e1 : IntKind.i64.wrap ((n : Int) + 1) = (n : Int) + 1 := IntWalk.i64_in _ (by omega)
      have e2 : IntKind.i64.wrap ((n : Int) + 1 + (x.p.size : Int)) = (n : Int) + 1 + (x.p.size : Int) := IntWalk.i64_in _ (by omega)
      have e3 : IntKind.i64.wrap ((n : Int) + 1 + (x.p.size : Int) + (x.b.length : Int)) = (n : Int) + 1 + (x.p.size : Int) + (x.b.length : Int) := IntWalk.i64_in _ (by omega)
      clear hr hle hlt
      have HX := Lib.hid hx; clear hx
      have HSN := Lib.hid hsn; clear hsn
      go_wp2_with fail
      go_region
      go_wp2_with fail
      go_roundw
      case rel => exact ⟨k + 1, by omega, by rw [HSN.out]; go_num, by go_num, hbr.drew⟩
      case measure => simp [intOf]; omega
    · obtain rfl : k = l.length := by omega
      have hln : longN (l.take l.length) = longN l := by rw [List.take_length]
      have HLN := Lib.hid hln; clear hln
      go_wp2_with fail
      go_ret
      exact ⟨by rw [← HLN.out]; rfl, hbr⟩

def smallL (l : List FX) : Bool := decide (l.length ≤ 40) && decide (longN l ≤ 3000)
set_option maxHeartbeats 1000000 in
theorem lawsmall_any (l : List FX) (A : Option Addr) (c : Nat) (w : World) (h : TreeAt w A c l) (hs : ∀ x ∈ l, x.p.size ≤ 281474976710656 ∧ x.b.length ≤ 281474976710656) :
    Calls Tryd.prog 9 #[.slice A l.length c] w fun e w' => e = .returned (.bool (smallL l)) ∧ Below w.heap.size w w' := by
  have hm : l.length ≤ maxLen := Nat.le_trans h.cap h.capm
  unfold maxLen at hm
  by_cases h1 : l.length ≤ 40
  · have HC := Lib.hid (reflong_any l A c w h h1 hs)
    have hr : smallL l = decide ((longN l : Int) ≤ 3000) := by unfold smallL; simp [h1]; omega
    rw [hr]
    clear h hs hr
    go_enter Tryd.func9, Tryd.ntmps9
    go_wp2_with fail
    refine HC.out.mono ?_
    rintro e w1 ⟨rfl, hb1⟩
    go_wp2_with fail
    go_ret
    exact ⟨rfl, hb1⟩
  · have hr : smallL l = false := by unfold smallL; simp [h1]
    rw [hr]
    clear h hs hr
    go_enter Tryd.func9, Tryd.ntmps9
    go_wp2_with fail
    go_ret
    exact ⟨rfl, Below.refl _ _⟩
end Go.Proofs.YtedcaodbcognjaaDoor
