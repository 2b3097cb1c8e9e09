/-
  What the laws of layer 3 call: known, Long, small. · What the laws of layer 3 call: small.
-/
import Derived.Test.YtnkfnmkbfnhmfaaGreatDoorGCommit
import Derived.Test.YtnkfnmkbfnhmfaaGreatDoorShelf
import Derived.Test.YtnkfnmkbfnhmfaaGreatDoorTLo
import Derived.Lib.SlBytesConst
namespace Go.Proofs.YtnkfnmkbfnhmfaaGreatDoor
open Go Go.RowKit Go.Shelf Go.Proofs Go.ChangeMaps Go.Maps Go.WideMaps
attribute [local go_sem] Oper.semAt_some

def dA : DX := ⟨1, ⟨#[97]⟩, none, 0, []⟩
theorem apply_dA : applyT (flsX []) ([dA].map DX.dl) = .ok [([97], [])] := by kernel_rfl

theorem longDN_take (l : List DX) (k : Nat) : longDN (l.take k) ≤ longDN l := by
  have e : longDN l = longDN (l.take k) + longDN (l.drop k) := by
    unfold longDN
    rw [← List.sum_append, ← List.map_append, List.take_append_drop]
  omega
theorem longDN_len (l : List DX) : l.length ≤ longDN l := by
  induction l with
  | nil => exact Nat.zero_le _
  | cons x l ih =>
    have e : longDN (x :: l) = 1 + x.p.size + x.b.length + longDN l := by unfold longDN; simp [DX.long]
    rw [e, List.length_cons]
    omega
set_option maxRecDepth 100000 in
set_option maxHeartbeats 4000000 in
theorem reflongdeltas_many (l : List DX) (A : Option Addr) (c : Nat) (w : World) (h : DelsAt w A c l) (hl : longDN l ≤ 4611686018427387904) :
    Calls Tryz.prog 27 #[.slice A l.length c] w fun e w' => e = .returned (.int .i64 (longDN l)) ∧ Below w.heap.size w w' := by
  have HT := Lib.hid h; clear h
  have HLB := Lib.hid hl
  have hll := longDN_len l
  clear hl
  have hlm : l.length ≤ 4611686018427387904 := Nat.le_trans hll HLB.out
  go_enter Tryz.func27, Tryz.ntmps27
  go_wp2_with fail
  go_loopw [3, 4] (fun s i wr => ∃ (k : Nat), k ≤ l.length ∧ s = .int .i64 (longDN (l.take k)) ∧ i = .int .i64 k ∧ Below w.heap.size w wr) (fun _ i _ => l.length - (intOf i).toNat)
  case atStart => exact ⟨0, Nat.zero_le _, rfl, rfl, Below.refl _ _⟩
  case round =>
    obtain ⟨k, hk, rfl, rfl, hbr⟩ := hrel
    by_cases h1 : k < l.length
    · obtain ⟨x, hx⟩ : ∃ x, l[k]? = some x := ⟨_, List.getElem?_eq_getElem h1⟩
      obtain ⟨b, o, hA, hr⟩ := (HT.out.below hbr).row (by omega)
      subst hA
      obtain ⟨_, c1, c2⟩ := hr k x hx
      have hsn := longDN_snoc hx
      have hle : longDN (l.take (k + 1)) ≤ longDN l := longDN_take l (k + 1)
      have hlb := HLB.out
      rw [hsn] at hle
      have k1 : (k : Int) < (l.length : Int) := by omega
      generalize longDN (l.take k) = n at *
      have e1 : IntKind.i64.wrap ((n : Int) + 1) = (n : Int) + 1 := IntWalk.i64_in _ (by omega)
      have e2 : IntKind.i64.wrap ((n : Int) + 1 + (x.p.size : Int)) = (n : Int) + 1 + (x.p.size : Int) := IntWalk.i64_in _ (by omega)
      have e3 : IntKind.i64.wrap ((n : Int) + 1 + (x.p.size : Int) + (x.b.length : Int)) = (n : Int) + 1 + (x.p.size : Int) + (x.b.length : Int) := IntWalk.i64_in _ (by omega)
      clear hr hle hlb
      have HX := Lib.hid hx; clear hx
      have HSN := Lib.hid hsn; clear hsn
      go_wp2_with fail
      go_region
      go_wp2_with fail
      go_roundw
      case rel => exact ⟨k + 1, by omega, by rw [HSN.out]; go_num, by go_num, hbr.drew⟩
      case measure => simp [intOf]; omega
    · obtain rfl : k = l.length := by omega
      have hln : longDN (l.take l.length) = longDN l := by rw [List.take_length]
      have HLN := Lib.hid hln; clear hln
      go_wp2_with fail
      go_ret
      exact ⟨by rw [← HLN.out]; rfl, hbr⟩

def longLN (l : List LX) : Nat := (l.map fun x => 1 + longDN x.d).sum
theorem longLN_take (l : List LX) (k : Nat) : longLN (l.take k) ≤ longLN l := by
  have e : longLN l = longLN (l.take k) + longLN (l.drop k) := by
    unfold longLN
    rw [← List.sum_append, ← List.map_append, List.take_append_drop]
  omega
theorem longLN_snoc {l : List LX} {k : Nat} {x : LX} (hx : l[k]? = some x) : longLN (l.take (k + 1)) = longLN (l.take k) + 1 + longDN x.d := by
  unfold longLN
  rw [List.take_add_one, hx, List.map_append, List.sum_append]
  simp; omega
theorem longLN_mem {l : List LX} {x : LX} (h : x ∈ l) : 1 + longDN x.d ≤ longLN l := by
  induction l with
  | nil => cases h
  | cons y l ih =>
    have e : longLN (y :: l) = 1 + longDN y.d + longLN l := by unfold longLN; simp
    rw [e]
    rcases List.mem_cons.1 h with rfl | h
    · omega
    · have := ih h; omega
set_option maxRecDepth 100000 in
set_option maxHeartbeats 4000000 in
theorem hreflong_any (l : List LX) (A : Option Addr) (c : Nat) (w : World) (h : LRowAt w A c l) (hl : longLN l ≤ 4611686018427387904) :
    Calls Tryz.prog 26 #[.slice A l.length c] w fun e w' => e = .returned (.int .i64 (longLN l)) ∧ Below w.heap.size w w' := by
  have hlm : l.length ≤ maxLen := Nat.le_trans h.cap h.capm
  unfold maxLen at hlm
  have HT := Lib.hid h; clear h
  have HLB := Lib.hid hl; clear hl
  go_enter Tryz.func26, Tryz.ntmps26
  go_wp2_with fail
  go_loopw [3, 4] (fun s i wr => ∃ (k : Nat), k ≤ l.length ∧ s = .int .i64 (longLN (l.take k)) ∧ i = .int .i64 k ∧ Below w.heap.size w wr) (fun _ i _ => l.length - (intOf i).toNat)
  case atStart => exact ⟨0, Nat.zero_le _, rfl, rfl, Below.refl _ _⟩
  case round =>
    obtain ⟨k, hk, rfl, rfl, hbr⟩ := hrel
    by_cases h1 : k < l.length
    · obtain ⟨x, hx⟩ : ∃ x, l[k]? = some x := ⟨_, List.getElem?_eq_getElem h1⟩
      have hT := HT.out.below hbr
      obtain ⟨b, o, hA, hr⟩ := hT.row (by omega)
      subst hA
      have c1 := hr k x hx
      have hmem := List.mem_of_getElem? hx
      have hsn := longLN_snoc hx
      have hle : longLN (l.take (k + 1)) ≤ longLN l := longLN_take l (k + 1)
      have hlb := HLB.out
      rw [hsn] at hle
      have hmm := longLN_mem hmem
      have HLD := Lib.hid (reflongdeltas_many x.d x.A x.c wr (hT.dels x hmem) (by omega))
      have k1 : (k : Int) < (l.length : Int) := by omega
      generalize longLN (l.take k) = n at *
      generalize longDN x.d = m at *
      have e1 : IntKind.i64.wrap ((n : Int) + 1) = (n : Int) + 1 := IntWalk.i64_in _ (by omega)
      have e2 : IntKind.i64.wrap ((n : Int) + 1 + (m : Int)) = (n : Int) + 1 + (m : Int) := IntWalk.i64_in _ (by omega)
      have HSN := Lib.hid hsn
      clear hr hle hlb hsn hx hmem hmm hT
      go_wp2_with fail
      refine HLD.out.mono ?_
      rintro e w2 ⟨rfl, hq2⟩
      have hb2 := hbr.trans (hq2.mono hbr.size)
      clear hq2
      go_wp2_with fail
      go_roundw
      case rel => exact ⟨k + 1, by omega, by rw [HSN.out]; go_num, by go_num, hb2⟩
      case measure => simp [intOf]; omega
    · obtain rfl : k = l.length := by omega
      have hln : longLN (l.take l.length) = longLN l := by rw [List.take_length]
      have HLN := Lib.hid hln; clear hln
      go_wp2_with fail
      go_ret
      exact ⟨by rw [← HLN.out]; rfl, hbr⟩

def hsmallL (t : List FX) (l : List LX) : Bool := decide (t.length ≤ 30) && decide (longN t ≤ 2000) && decide (l.length ≤ 25) && decide (longLN l ≤ 3000)
end Go.Proofs.YtnkfnmkbfnhmfaaGreatDoor
namespace Go.Proofs.YtnkfnmkbfnhmfaaGreatDoor
open Go Go.RowKit Go.Shelf Go.Proofs Go.ChangeMaps Go.Maps Go.WideMaps
attribute [local go_sem] Oper.semAt_some

end Go.Proofs.YtnkfnmkbfnhmfaaGreatDoor
