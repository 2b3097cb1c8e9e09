/-
  What the chapter's example fixes: known.
-/
import Derived.Test.YtojkifcclgecoaaDkUse
import Derived.Lib.SlBytesConst
namespace Go.Proofs.Ytojkifcclgecoaa.Dk
open Go Go.RowKit Go.Shelf Go.Proofs

/-- Two bytes that stand in the text. -/
theorem sl_two (w : World) (x y : UInt8) (fr : Nat × Nat) : SlAt (w.alloc (.cells #[.int .u8 (x.toNat : Int), .int .u8 (y.toNat : Int)] 5 fr)) (some ⟨w.heap.size, 0, none⟩) 2 [x, y] := ⟨BytesAt.of_cells fun i z hx => by
    have hi : i < 2 := (List.getElem?_eq_some_iff.1 hx).1
    have bV := heap_alloc_new w (.cells #[.int .u8 (x.toNat : Int), .int .u8 (y.toNat : Int)] 5 fr)
    simp only [World.cell?, bV, Option.isSome_none, Nat.zero_add]
    match i, hi, hx with
    | 0, _, hx => cases hx; rfl
    | 1, _, hx => cases hx; rfl, Nat.le_refl 2, by unfold maxLen; omega, fun e => by cases e⟩
/-- The disk of the example. -/
def kd1 : DDk := appendD (DDk.new 1 99) 0 [97, 98]
def kd2 : DDk := syncD kd1 0
def kd3 : DDk := appendD kd2 0 [99, 100]
def kd4 : DDk := kd3.restart 1
theorem kd_ok : appendE (DDk.new 1 99) 0 [97, 98] = 0 ∧ syncE kd1 0 = 0 ∧ appendE kd2 0 [99, 100] = 0 ∧ kd4.readL 0 = [97, 98, 99] := by decide

set_option maxRecDepth 100000 in
set_option maxHeartbeats 4000000 in
theorem known_any (w : World) : Calls Try.prog 28 #[] w fun e w' => e = .returned (.bool true) ∧ Below w.heap.size w w' := by
  have kc := fun (w : World) (C : Array Value) (n c : Nat) => Lib.run_convert_bytes_const (P := Try.prog) w 29 5 C n c Try.underlying29 Try.underlying5
  have HN := Lib.hid (new_ds w 1 99)
  obtain ⟨z1, z2, z3, z4⟩ := kd_ok
  have Z1 := Lib.hid z1
  have Z2 := Lib.hid z2
  have Z3 := Lib.hid z3
  have Z4 := Lib.hid z4
  clear z1 z2 z3 z4
  go_enter Try.func28, Try.ntmps28
  go_wp2_with fail
  refine HN.out.mono ?_
  rintro e w1 ⟨g, rfl, who1, hD1, ht1⟩
  have k1 := kc w1 #[.int .u8 97, .int .u8 98] 2 2
  have b1 : Below w1.heap.size w1 (w1.alloc (.cells #[.int .u8 97, .int .u8 98] 5 (2, 3))) := (Below.refl _ _).alloc (Nat.le_refl _) _
  have HA := Lib.hid ((hD1.below b1).append (by omega) (by omega) 0 (sl_two w1 97 98 (2, 3)) rfl (by decide) (fun _ q o e => (by cases e; exact hD1.fresh _ (Nat.le_refl _))))
  rw [Z1.out] at HA
  have HT := Lib.hid (ht1.trans (Turn.below b1))
  clear hD1 ht1 b1
  go_wp2_with fail
  refine HA.out.mono ?_
  rintro e w2 ⟨rfl, who2, hD2, ht2⟩
  have HS := Lib.hid (hD2.sync (by omega) (by decide) 0)
  rw [show syncE (appendD (DDk.new 1 99) 0 [97, 98]) 0 = 0 from Z2.out] at HS
  have HT2 := Lib.hid (HT.out.trans ht2)
  clear hD2 ht2 HA HT
  go_wp2_with fail
  refine HS.out.mono ?_
  rintro e w3 ⟨rfl, who3, hD3, ht3⟩
  have k3 := kc w3 #[.int .u8 99, .int .u8 100] 2 2
  have b3 : Below w3.heap.size w3 (w3.alloc (.cells #[.int .u8 99, .int .u8 100] 5 (2, 3))) := (Below.refl _ _).alloc (Nat.le_refl _) _
  have HB := Lib.hid ((hD3.below b3).append (by omega) (by decide) 0 (sl_two w3 99 100 (2, 3)) rfl (by decide) (fun _ q o e => (by cases e; exact hD3.fresh _ (Nat.le_refl _))))
  rw [show appendE (syncD (appendD (DDk.new 1 99) 0 [97, 98]) 0) 0 [99, 100] = 0 from Z3.out] at HB
  have HT3 := Lib.hid ((HT2.out.trans ht3).trans (Turn.below b3))
  clear hD3 ht3 b3 HS HT2
  go_wp2_with fail
  refine HB.out.mono ?_
  rintro e w4 ⟨rfl, who4, hD4, ht4⟩
  have HR := Lib.hid (hD4.restart (by omega) (by decide) 1 (by decide))
  have HT4 := Lib.hid (HT3.out.trans ht4)
  clear hD4 ht4 HB HT3
  go_wp2_with fail
  refine HR.out.mono ?_
  rintro e w5 ⟨rfl, who5, hD5, ht5⟩
  have HRD := Lib.hid (hD5.read (by decide) 0)
  rw [show ((appendD (syncD (appendD (DDk.new 1 99) 0 [97, 98]) 0) 0 [99, 100]).restart 1).readL 0 = [97, 98, 99] from Z4.out] at HRD
  have HT5 := Lib.hid (HT4.out.trans ht5)
  clear hD5 ht5 HR HT4
  go_wp2_with fail
  refine HRD.out.mono ?_
  rintro e w6 ⟨v, rfl, ho, hb6⟩
  obtain ⟨A6, c6, rfl, hsl, _⟩ := OB.sl ho
  have r6 := fr_str w6 A6 c6 [97, 98, 99] hsl.bytes
  have r6 : (convert 29 9 (.slice A6 3 c6)).run Try.prog w6 = .ok (.string ⟨#[97, 98, 99]⟩) w6 := r6
  have HT6 := Lib.hid (HT5.out.trans (Turn.below hb6))
  clear ho hb6 hsl HRD HT5
  show _
  simp only [List.length_cons, List.length_nil]
  go_wp2_with fail
  refine (sync_nil _ _).mono ?_
  rintro e w7 ⟨rfl, hw⟩
  have hw := hw.symm
  subst hw
  go_wp2_with fail
  go_ret
  exact ⟨rfl, HT6.out.zero (by omega)⟩
end Go.Proofs.Ytojkifcclgecoaa.Dk
