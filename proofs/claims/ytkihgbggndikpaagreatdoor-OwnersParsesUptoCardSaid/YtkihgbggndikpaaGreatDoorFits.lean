/-
  The contracts of path.fits and its two closures.
-/
import Derived.Test.YtkihgbggndikpaaGreatDoorPartedTB
import Derived.Laws.IdiomStrings
namespace Go.Proofs.YtkihgbggndikpaaGreatDoor
open Go Go.RowKit Go.Shelf Go.Proofs

def fits1B (c : UInt8) : Bool := c == 42
def fits2B (c b : UInt8) : Bool := c == 63 || c == b
theorem u8_eq (c k : UInt8) : ((c.toNat : Int) == (k.toNat : Int)) = (c == k) := by
  rw [Bool.eq_iff_iff, beq_iff_eq, beq_iff_eq, ← UInt8.toNat_inj]; omega

theorem fits1_any : ManyB 115 fits1B := by
  intro x w _
  have hr : fits1B x = ((x.toNat : Int) == 42) := (u8_eq x 42).symm
  have HR := Lib.hid hr; clear hr
  go_enter Tryz.func115, Tryz.ntmps115
  go_wp2_with fail
  go_ret
  exact ⟨ret_bool HR.out.symm, rfl⟩

theorem fits2_any : OneB 116 fits2B := by
  intro x y w _ _
  by_cases h : x = 63
  · subst h
    have hr : fits2B 63 y = true := by simp [fits2B]
    have HR := Lib.hid hr; clear hr
    go_enter Tryz.func116, Tryz.ntmps116
    go_wp2_with fail
    go_ret
    exact ⟨ret_bool HR.out.symm, Below.refl _ _⟩
  · have hb : ((x.toNat : Int) == 63) = false := by rw [show (63 : Int) = ((63 : UInt8).toNat : Int) from rfl, u8_eq]; simpa using h
    have hr : fits2B x y = ((x.toNat : Int) == (y.toNat : Int)) := by rw [u8_eq]; unfold fits2B; rw [show (x == 63) = false from by simpa using h]; rfl
    have HR := Lib.hid hr; clear hr h
    go_enter Tryz.func116, Tryz.ntmps116
    go_wp2_with fail
    go_ret
    exact ⟨ret_bool HR.out.symm, Below.refl _ _⟩

def capB (w : World) (s : ByteArray) : Nat := grownCap w s.size 0 5
def rowB (w : World) (s : ByteArray) : Obj := .cells (bytesRow s (capB w s)) 5 ((bytesRow s (capB w s)).size, (bytesRow s (capB w s)).size + 1)
theorem conv_bytes (w : World) (s : ByteArray) : (convert 9 50 (.string s)).run Tryz.prog w = .ok (.slice (some ⟨w.heap.size, 0, none⟩) s.size (capB w s)) (w.drew.alloc (rowB w s)) :=
  run_bytes_of_string w 9 50 5 s Tryz.underlying9 Tryz.underlying50 Tryz.underlying5
theorem capB_le (w : World) (s : ByteArray) (h : s.size ≤ 1000) : capB w s ≤ 9223372036854775807 :=
  grownCap_le_maxLen w s.size 0 _ (by unfold maxLen; omega)
theorem rowB_reads (w W : World) (s : ByteArray) (k : Nat) (hk : W.heap[k]? = some (rowB w s)) : Reads byteV W (some ⟨k, 0, none⟩) s.data.toList := by
  intro j x hx
  refine ⟨k, rfl, ?_⟩
  obtain ⟨hl, rfl⟩ := List.getElem?_eq_some_iff.1 hx
  rw [Array.length_toList] at hl
  have := bytesRow_at s (capB w s) j hl
  unfold rowB at hk
  simp only [World.cell?, hk, this]
  rfl

set_option maxHeartbeats 1000000 in
theorem fits_any (p s : ByteArray) (w : World) (hp : p.size ≤ 1000) (hs : s.size ≤ 1000) :
    Calls Tryz.prog 94 #[.string p, .string s] w fun e w' => e = .returned (.bool (fitsB p.data.toList s.data.toList)) ∧ Below w.heap.size w w' := by
  have hcv := conv_bytes
  have HE1 := Lib.hid (enters_of (P := Tryz.prog) Tryz.func115 (by kernel_rfl) rfl)
  have HE2 := Lib.hid (enters_of (P := Tryz.prog) Tryz.func116 (by kernel_rfl) rfl)
  go_enter Tryz.func94, Tryz.ntmps94
  go_wp2_with fail
  have l1 : p.data.toList.length = p.size := Array.length_toList
  have l2 : s.data.toList.length = s.size := Array.length_toList
  have r1 : Reads byteV ((w.alloc (rowB w p)).alloc (rowB (w.alloc (rowB w p)).drew s)).drew.drew (some ⟨w.heap.size, 0, none⟩) p.data.toList :=
    rowB_reads w _ p _ ((Below.heap_alloc _ _ _ (by simp)).trans (World.alloc_heap_new w _))
  have r2 : Reads byteV ((w.alloc (rowB w p)).alloc (rowB (w.alloc (rowB w p)).drew s)).drew.drew (some ⟨w.heap.size + 1, 0, none⟩) s.data.toList :=
    rowB_reads _ _ s _ (by have := World.alloc_heap_new (w.alloc (rowB w p)) (rowB (w.alloc (rowB w p)).drew s); rw [World.size_alloc] at this; exact this)
  have hb : Below w.heap.size w ((w.alloc (rowB w p)).alloc (rowB (w.alloc (rowB w p)).drew s)).drew.drew := ((((Below.refl _ w).alloc (Nat.le_refl _) _).alloc (by simp) _).drew).drew
  have H := partedB_any _ _ fits1B fits2B p.data.toList s.data.toList _ _ (capB w p) (capB (w.alloc (rowB w p)).drew s) _ (by omega) (by omega) (capB_le _ _ hp) (capB_le _ _ hs) HE1.out HE2.out fits1_any fits2_any (fun _ _ => trivial) (fun _ _ => trivial) r1 r2
  rw [l1, l2] at H
  refine H.mono ?_
  rintro e w1 ⟨rfl, hb1⟩
  have hb2 := hb.trans (hb1.mono hb.size)
  clear H r1 r2 hb hb1 hcv
  go_wp2_with fail
  go_ret
  exact ⟨rfl, hb2⟩
end Go.Proofs.YtkihgbggndikpaaGreatDoor
