/-
  The law CrcOne, walked.
-/
import Derived.Test.YtopehblbkffncaaCPieces
import Derived.Laws.OwnMore
namespace Go.Proofs.Ytopehblbkffncaa
open Go Go.RowKit Go.Shelf Go.Proofs

theorem one_at (w : World) (c : UInt8) (t : TypeId) : BytesAt (w.alloc (.cells #[.int .u8 (c.toNat : Int)] t)) (some ⟨w.heap.size, 0, none⟩) [c] := fun _ => ⟨_, 0, rfl, fun i hi => by
  have hi : i < 1 := hi
  obtain rfl : i = 0 := by omega
  exact cell_of_row _ _ 0 _ _ _ (heap_alloc_new w (.cells #[.int .u8 (c.toNat : Int)] t))⟩
theorem u8_info : (Try.prog.info? 5).map (fun i => (i.zero, i.size, i.bytes)) = some (some (.int .u8 0), 1, 1) := by kernel_rfl
/-- make([]byte, n). -/
theorem make_zeros (w : World) (n : Nat) (hn : n ≤ 1000000) : ∃ w', (Instr.makeSlice 24 (.int .i64 (n : Int)) (.int .i64 (n : Int))).run Try.prog w = .ok (.slice (some ⟨w.heap.size, 0, none⟩) n n) w' ∧ BytesAt w' (some ⟨w.heap.size, 0, none⟩) (List.replicate n 0) ∧ Below w.heap.size w w' := by
  obtain ⟨i0, hi, hz0, hz1, hz2⟩ := info_parts u8_info
  obtain ⟨w', h1, h2, h3⟩ := run_make_full (P := Try.prog) w w.heap.size 24 5 i0 (.int .u8 0) 1 Try.underlying24 hi hz0 hz1 .i64 .i64 n (by rw [hz2]; omega) (by unfold maxLen; omega) (Nat.le_refl _)
  refine ⟨w', h1, fun _ => ⟨w.heap.size, 0, rfl, fun i hi => ?_⟩, (Below.refl _ w).grown h3 (Nat.le_refl _) (by intro k hk; cases hk)⟩
  rw [List.length_replicate] at hi
  have h4 := World.ownsRow.cells h2 (g := w.heap.size) rfl i (.int .u8 0) (by
    show (madeCells #[.int .u8 0] (n * 1)).toList[i]? = _
    rw [Nat.mul_one, toList_madeCells_one, List.getElem?_replicate, if_pos hi])
  rw [Go.WideShapes.add_plain] at h4
  rw [h4]
  have e : (numsB (List.replicate n 0))[i]? = some 0 := by unfold numsB; rw [List.map_replicate, List.getElem?_replicate, if_pos hi]; rfl
  rw [List.getD_eq_getElem?_getD, e]; rfl
theorem more_one (n : Nat) (c : UInt8) : moreN n [c] = halvesN 8 (n ^^^ onesN ^^^ c.toNat) ^^^ onesN := by unfold moreN rawN; simp only [List.foldl_cons, List.foldl_nil, byteN]
theorem more_zeros (n k : Nat) : moreN n (List.replicate k 0) = halvesN (8 * k) (n ^^^ onesN) ^^^ onesN := by unfold moreN; rw [raw_zeros]

set_option maxHeartbeats 8000000 in
theorem cone_any (hM : MoreOk) (hS : SumOk) (hT : StepOk) (n : Nat) (c k : UInt8) (hn : n < 2 ^ 32) (w : World) :
    Calls Try.prog 8 #[.int .u32 (n : Int), .int .u8 (c.toNat : Int), .int .u8 (k.toNat : Int)] w fun e w' => e = .returned (.bool true) ∧ Below w.heap.size w w' := by
  have hc := byte_lt32 c
  have hk := k.toNat_lt
  have x1 := xor32 hn ones_lt
  have l1 := xor_lt32 hn ones_lt
  have x2 := xor32 l1 hc
  have l2 := xor_lt32 l1 hc
  have m1 := more_one n c
  have m2 := more_zeros n (k.toNat % 20)
  have wc : IntKind.u32.wrap (c.toNat : Int) = (c.toNat : Int) := by rw [IntKind.wrap_u32']; omega
  have wk : IntKind.i64.wrap (k.toNat : Int) = (k.toNat : Int) := IntWalk.i64_in _ (by omega)
  have MC := Lib.hid (fun (W : World) => hM n hn [c] (some ⟨W.heap.size, 0, none⟩) 1 (W.alloc (.cells #[.int .u8 (c.toNat : Int)] 5)) (one_at W c _) (by simp))
  have MZ := Lib.hid (fun (A : Option Addr) (C : Nat) (W : World) (h : BytesAt W A (List.replicate (k.toNat % 20) 0)) => hM n hn (List.replicate (k.toNat % 20) 0) A C W h (by simp; omega))
  rw [m1] at MC
  rw [m2] at MZ
  clear m1 m2
  have HKN := Lib.hid (fun (W : World) => ckown_any hS hT W)
  have HT := Lib.hid hT
  have x1 : bits .xor .u32 (n : Int) 4294967295 = ((n ^^^ onesN : Nat) : Int) := x1
  generalize n ^^^ onesN = N at *
  generalize N ^^^ c.toNat = X at *
  have x3 : bits .xor .u32 ((halvesN 8 X : Nat) : Int) 4294967295 = ((halvesN 8 X ^^^ onesN : Nat) : Int) := xor32 (steps_lt 8 l2) ones_lt
  have x4 : bits .xor .u32 ((halvesN (8 * (k.toNat % 20)) N : Nat) : Int) 4294967295 = ((halvesN (8 * (k.toNat % 20)) N ^^^ onesN : Nat) : Int) := xor32 (steps_lt _ l1) ones_lt
  have L1 := Lib.hid l1
  have L2 := Lib.hid l2
  generalize halvesN 8 X ^^^ onesN = R1 at *
  generalize halvesN (8 * (k.toNat % 20)) N ^^^ onesN = R2 at *
  clear hM hS hT l1 l2 hc hn
  go_enter Try.func8, Try.ntmps8
  go_wp2_with fail
  go_loopw [7, 8] (fun v i wr => ∃ (m : Nat), m ≤ 8 ∧ v = .int .u32 (halvesN m X : Int) ∧ i = .int .i64 m ∧ Below w.heap.size w wr) (fun _ i _ => 8 - (intOf i).toNat)
  case atStart => exact ⟨0, Nat.zero_le _, rfl, rfl, Below.refl _ _⟩
  case round =>
    obtain ⟨m, hm, rfl, rfl, hbr⟩ := hrel
    by_cases h2 : m < 8
    · have m1 : (m : Int) < 8 := by omega
      have HS := Lib.hid (HT.out (halvesN m X) (steps_lt m L2.out) wr)
      have hnx := halves_next m X
      have HNX := Lib.hid hnx; clear hnx
      clear x3 x4 x1 x2
      go_wp2_with fail
      refine HS.out.mono ?_
      rintro e w2 ⟨rfl, hq2⟩
      have hb2 := hbr.trans (hq2.mono hbr.size)
      go_wp2_with fail
      go_roundw
      case rel => exact ⟨m + 1, by omega, by rw [HNX.out], by go_num, hb2⟩
      case measure => simp [intOf]; omega
    · obtain rfl : m = 8 := by omega
      have MC := Lib.hid (MC.out wr)
      go_wp2_with fail
      refine MC.out.mono ?_
      rintro e w2 ⟨rfl, hq2⟩
      have hb2 : Below w.heap.size w w2 := (hbr.trans (((Below.refl _ wr).alloc (Nat.le_refl _) _).mono hbr.size)).trans (hq2.mono (Nat.le_trans hbr.size (by simp)))
      clear hq2 MC
      go_wp2_with fail
      clear x1 x2 x3
      go_loopw [10, 11] (fun v i wq => ∃ (m : Nat), m ≤ 8 * (k.toNat % 20) ∧ v = .int .u32 (halvesN m N : Int) ∧ i = .int .i64 m ∧ Below w.heap.size w wq) (fun _ i _ => 8 * (k.toNat % 20) - (intOf i).toNat)
      case atStart => exact ⟨0, Nat.zero_le _, rfl, rfl, hb2⟩
      case round =>
        clear hbr hb2 h2 hm
        obtain ⟨m, hm, rfl, rfl, hbr⟩ := hrel
        by_cases h2 : m < 8 * (k.toNat % 20)
        · have m1 : (m : Int) < 8 * ((k.toNat : Int) % 20) := by omega
          have HS := Lib.hid (refstep_any (halvesN m N) (steps_lt m L1.out) wr)
          have hnx := halves_next m N
          have HNX := Lib.hid hnx; clear hnx
          clear x4
          go_wp2_with fail
          refine HS.out.mono ?_
          rintro e w2 ⟨rfl, hw2⟩
          have hw2 := hw2.symm
          subst hw2
          go_wp2_with fail
          go_roundw
          case rel => exact ⟨m + 1, by omega, by rw [HNX.out], by go_num, hbr⟩
          case measure => simp [intOf]; omega
        · obtain rfl : m = 8 * (k.toNat % 20) := by omega
          obtain ⟨w3, hmk, hz3, hb3⟩ := make_zeros wr (k.toNat % 20) (by omega)
          have hzz : ((k.toNat % 20 : Nat) : Int) = (k.toNat : Int) % 20 := by omega
          rw [hzz] at hmk
          have MZ := Lib.hid (MZ.out _ (k.toNat % 20) w3 hz3)
          rw [List.length_replicate] at MZ
          have HB3 := Lib.hid (hbr.trans (hb3.mono hbr.size))
          clear hz3 hb3 h2 hm hzz
          go_wp2_with fail
          refine MZ.out.mono ?_
          rintro e w4 ⟨rfl, hq4⟩
          have hb4 := HB3.out.trans (hq4.mono HB3.out.size)
          go_wp2_with fail
          refine (HKN.out w4).mono ?_
          rintro e wz ⟨rfl, hz⟩
          have HZ := Lib.hid (hb4.trans (hz.mono hb4.size)); clear hz
          go_wp2_with fail
          go_ret
          exact ⟨rfl, HZ.out⟩
end Go.Proofs.Ytopehblbkffncaa
