/-
  The contracts of the document's own answers of layer 4: Step, More, Sum.
-/
import Derived.Test.YthmhofmkiliihaaProg
import Derived.Test.YthmhofmkiliihaaCPlain
import Derived.Test.YthmhofmkiliihaaOpenRows
import Derived.WalkKit
import Derived.OwnWalk
import Derived.IntWalk
import Derived.BigRegion
import Derived.Laws.BitsAllLaws
import Derived.Lib.Hide
namespace Go.Proofs.Ythmhofmkiliihaa
open Go Go.RowKit Go.Shelf Go.Proofs

theorem BytesAt.byte {w : World} {A : Option Addr} {b : Bs} {k : Nat} {x : UInt8} (h : BytesAt w A b) (hx : b[k]? = some x) : ∃ g o, A = some ⟨g, o, none⟩ ∧ w.cell? ⟨g, o + k, none⟩ = some (.int .u8 (x.toNat : Int)) := by
  obtain ⟨hk, rfl⟩ := List.getElem?_eq_some_iff.1 hx
  obtain ⟨g, o, e, hc⟩ := h (by omega)
  refine ⟨g, o, e, ?_⟩
  rw [hc k hk]
  have e2 : (numsB b)[k]? = some ((b[k].toNat : Nat) : Int) := by unfold numsB; rw [List.getElem?_map, List.getElem?_eq_getElem hk]; rfl
  rw [List.getD_eq_getElem?_getD, e2]; rfl
theorem raw_snoc {b : Bs} {k : Nat} {x : UInt8} (n : Nat) (hx : b[k]? = some x) : rawN n (b.take (k + 1)) = halvesN 8 (rawN n (b.take k) ^^^ x.toNat) := by
  rw [List.take_add_one, hx, raw_append]; rfl
theorem halves_next (m n : Nat) : halvesN (m + 1) n = halfN (halvesN m n) := steps_add m 1 n
theorem xor32 {a b : Nat} (ha : a < 2 ^ 32) (hb : b < 2 ^ 32) : bits .xor .u32 (a : Int) (b : Int) = ((a ^^^ b : Nat) : Int) := u32_xor_nat a b (by omega) (by omega)
theorem half_odd {n : Nat} (hn : n < 2 ^ 32) (h : n % 2 = 1) : bits .xor .u32 ((n : Int) / 2) 3988292384 = ((halfN n : Nat) : Int) := by
  have e := xor32 (a := n / 2) (b := polyN) (by omega) poly_lt
  unfold halfN
  rw [if_pos h, ← e]; rfl
theorem half_even {n : Nat} (h : ¬ n % 2 = 1) : ((n : Int) / 2) = ((halfN n : Nat) : Int) := by
  unfold halfN
  rw [if_neg h]; omega

theorem refstep_any (n : Nat) (hn : n < 2 ^ 32) (w : World) :
    Calls Try.prog 35 #[.int .u32 (n : Int)] w fun e w' => e = .returned (.int .u32 (halfN n : Int)) ∧ w' = w := by
  by_cases h : n % 2 = 1
  · have h1 : ((n : Int) % 2 == 1) = true := by rw [beq_iff_eq]; omega
    have h2 := half_odd hn h
    have hw : (n : Int) / 2 % 4294967296 = (n : Int) / 2 := by omega
    generalize (halfN n : Int) = r at *
    clear hn h
    go_enter Try.func35, Try.ntmps35
    go_wp2_with fail
    go_ret
    exact ⟨by rw [← h2]; rfl, rfl⟩
  · have h1 : ((n : Int) % 2 == 1) = false := by rw [beq_eq_false_iff_ne]; omega
    have h2 := half_even h
    have hw : (n : Int) / 2 % 4294967296 = (n : Int) / 2 := by omega
    generalize (halfN n : Int) = r at *
    clear hn h
    go_enter Try.func35, Try.ntmps35
    go_wp2_with fail
    go_ret
    exact ⟨by rw [← h2]; rfl, rfl⟩

set_option maxHeartbeats 4000000 in
theorem refmore_any (n : Nat) (hn : n < 2 ^ 32) (b : Bs) (A : Option Addr) (c : Nat) (w : World) (h : BytesAt w A b) (hl : b.length ≤ 9223372036854775000) :
    Calls Try.prog 33 #[.int .u32 (n : Int), .slice A b.length c] w fun e w' => e = .returned (.int .u32 (moreN n b : Int)) ∧ Below w.heap.size w w' := by
  have HT := Lib.hid h; clear h
  have h0 := xor32 hn ones_lt
  have hlt := xor_lt32 hn ones_lt
  have hmore : moreN n b = rawN (n ^^^ onesN) b ^^^ onesN := rfl
  rw [hmore]
  generalize n ^^^ onesN = N at *
  have h0 : bits .xor .u32 (n : Int) 4294967295 = (N : Int) := h0
  have HN := Lib.hid hlt; clear hlt hn hmore
  go_enter Try.func33, Try.ntmps33
  go_wp2_with fail
  clear h0
  go_loopw [0, 5] (fun v i wr => ∃ (k : Nat), k ≤ b.length ∧ v = .int .u32 (rawN N (b.take k) : Int) ∧ i = .int .i64 k ∧ Below w.heap.size w wr) (fun _ i _ => b.length - (intOf i).toNat)
  case atStart => exact ⟨0, Nat.zero_le _, rfl, rfl, Below.refl _ _⟩
  case round =>
    obtain ⟨k, hk, rfl, rfl, hbr⟩ := hrel
    by_cases h1 : k < b.length
    · obtain ⟨x, hx⟩ : ∃ x, b[k]? = some x := ⟨_, List.getElem?_eq_getElem h1⟩
      obtain ⟨g, o, hA, c1⟩ := (HT.out.below hbr).byte hx
      subst hA
      have k1 : (k : Int) < (b.length : Int) := by omega
      have hR := raw_lt (b.take k) HN.out
      have hsn := raw_snoc N hx
      have hxl := byte_lt32 x
      have hxr := xor32 hR hxl
      have hX := xor_lt32 hR hxl
      generalize rawN N (b.take k) = R at *
      generalize R ^^^ x.toNat = X at *
      have wx : IntKind.u32.wrap (x.toNat : Int) = (x.toNat : Int) := by rw [IntKind.wrap_u32']; omega
      have HX := Lib.hid hX; clear hX
      have HSN := Lib.hid hsn; clear hsn
      clear hx hR hxl
      go_wp2_with fail
      clear hxr
      go_loopw [0, 6] (fun v i wq => ∃ (m : Nat), m ≤ 8 ∧ v = .int .u32 (halvesN m X : Int) ∧ i = .int .i64 m ∧ Below w.heap.size w wq) (fun _ i _ => 8 - (intOf i).toNat)
      case atStart => exact ⟨0, Nat.zero_le _, rfl, rfl, hbr⟩
      case round =>
        obtain ⟨m, hm, rfl, rfl, hbi⟩ := hrel
        by_cases h2 : m < 8
        · have m1 : (m : Int) < 8 := by omega
          have HS := Lib.hid (refstep_any (halvesN m X) (steps_lt m HX.out) wr)
          have hnx := halves_next m X
          have HNX := Lib.hid hnx; clear hnx
          go_wp2_with fail
          refine HS.out.mono ?_
          rintro e w2 ⟨rfl, hw2⟩
          have hw2 := hw2.symm
          subst hw2
          go_wp2_with fail
          go_roundw
          case rel => exact ⟨m + 1, by omega, by rw [HNX.out], by go_num, hbi⟩
          case measure => simp [intOf]; omega
        · obtain rfl : m = 8 := by omega
          go_wp2_with fail
          go_roundw
          case rel => exact ⟨k + 1, by omega, by rw [HSN.out], by go_num, hbi⟩
          case measure => simp [intOf]; omega
    · obtain rfl : k = b.length := by omega
      rw [List.take_length] at *
      have hR := raw_lt b HN.out
      have h3 := xor32 hR ones_lt
      have h3 : bits .xor .u32 (rawN N b : Int) 4294967295 = ((rawN N b ^^^ onesN : Nat) : Int) := h3
      clear hR
      go_wp2_with fail
      go_ret
      exact ⟨by rw [← h3]; rfl, hbr⟩

/-- The sum of the first k rows. -/
def sumTo (l : List BX) (k : Nat) : Nat := sumN ((l.take k).map BX.b)
theorem sumTo_zero (l : List BX) : sumTo l 0 = 0 := by unfold sumTo; rw [List.take_zero]; rfl
theorem sumTo_lt (l : List BX) (k : Nat) : sumTo l k < 2 ^ 32 := sum_lt _
theorem sumTo_all (l : List BX) : sumTo l l.length = sumN (l.map BX.b) := by unfold sumTo; rw [List.take_length]
theorem sumTo_next {l : List BX} {k : Nat} {x : BX} (hx : l[k]? = some x) : sumTo l (k + 1) = moreN (sumTo l k) x.b := by
  unfold sumTo
  rw [List.take_add_one, hx, List.map_append]
  unfold sumN
  simp only [List.foldl_append, Option.toList, List.map_cons, List.map_nil, List.foldl_cons, List.foldl_nil]

set_option maxHeartbeats 4000000 in
theorem refsum_any (l : List BX) (A : Option Addr) (c : Nat) (w : World) (h : BRowAt w A c l) :
    Calls Try.prog 29 #[.slice A l.length c] w fun e w' => e = .returned (.int .u32 (sumN (l.map BX.b) : Int)) ∧ Below w.heap.size w w' := by
  have hcap : l.length ≤ maxLen := Nat.le_trans h.cap h.capm
  unfold maxLen at hcap
  have HT := Lib.hid h; clear h
  go_enter Try.func29, Try.ntmps29
  go_wp2_with fail
  go_loopw [3, 4] (fun v i wr => ∃ (k : Nat), k ≤ l.length ∧ v = .int .u32 (sumTo l k : Int) ∧ i = .int .i64 k ∧ Below w.heap.size w wr) (fun _ i _ => l.length - (intOf i).toNat)
  case atStart => exact ⟨0, Nat.zero_le _, by rw [sumTo_zero]; rfl, rfl, Below.refl _ _⟩
  case round =>
    obtain ⟨k, hk, rfl, rfl, hbr⟩ := hrel
    by_cases h1 : k < l.length
    · obtain ⟨x, hx⟩ : ∃ x, l[k]? = some x := ⟨_, List.getElem?_eq_getElem h1⟩
      have hT := HT.out.below hbr
      obtain ⟨g, o, hA, hr⟩ := hT.row (by omega)
      subst hA
      have c1 := hr k x hx
      have hmem := List.mem_of_getElem? hx
      have hcx := (hT.caps x hmem).2.2
      unfold reachBytes at hcx
      have k1 : (k : Int) < (l.length : Int) := by omega
      have HM := Lib.hid (refmore_any (sumTo l k) (sumTo_lt l k) x.b x.A x.c wr (hT.bytes x hmem) (by omega))
      have hsn := sumTo_next hx
      have HSN := Lib.hid hsn; clear hsn
      clear hr hx hT hmem hcx
      go_wp2_with fail
      refine HM.out.mono ?_
      rintro e w2 ⟨rfl, hq2⟩
      have hb2 := hbr.trans (hq2.mono hbr.size)
      clear hq2
      go_wp2_with fail
      go_roundw
      case rel => exact ⟨k + 1, by omega, by rw [HSN.out], by go_num, hb2⟩
      case measure => simp [intOf]; omega
    · obtain rfl : k = l.length := by omega
      have hall := sumTo_all l
      have HALL := Lib.hid hall; clear hall
      go_wp2_with fail
      go_ret
      exact ⟨by rw [← HALL.out]; rfl, hbr⟩
end Go.Proofs.Ythmhofmkiliihaa
