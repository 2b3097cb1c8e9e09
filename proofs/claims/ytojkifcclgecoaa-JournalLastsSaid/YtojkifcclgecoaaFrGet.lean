/-
  Bytes as numbers: frame.Get; the document's own Get and Num.
-/
import Derived.Test.YtojkifcclgecoaaFrNum
import Derived.Laws.BitsAllLaws
namespace Go.Proofs.Ytojkifcclgecoaa
open Go Go.RowKit Go.Shelf Go.Proofs

theorem valN_next {b : Bs} {k : Nat} {x : UInt8} (hx : b[k]? = some x) : valN (b.take (k + 1)) = valN (b.take k) * 256 + x.toNat := by
  rw [List.take_add_one, hx]
  exact valN_snoc _ _
theorem val_small {b : Bs} {k : Nat} (hk : k < b.length) (hl : b.length ≤ 8) : valN (b.take k) < 2 ^ 56 := by
  have h := valN_lt k (b.take k) (by rw [List.length_take]; omega)
  have : 256 ^ k ≤ 256 ^ 7 := Nat.pow_le_pow_right (by omega) (by omega)
  omega
theorem or_byte (V : Nat) (x : UInt8) (hV : V < 2 ^ 56) : bits .or .u64 ((V : Int) * 256) (x.toNat : Int) = ((V * 256 + x.toNat : Nat) : Int) := by
  have hx := x.toNat_lt
  have h1 := u64_or_nat (256 * V) x.toNat (by omega) (by omega)
  have h2 := Nat.two_pow_add_eq_or_of_lt (show x.toNat < 2 ^ 8 from hx) V
  rw [← show (2 : Nat) ^ 8 = 256 from rfl, ← h2] at h1
  rw [show (V : Int) * 256 = ((2 ^ 8 * V : Nat) : Int) by omega, h1]
  omega

set_option maxHeartbeats 4000000 in
theorem get_any (b : Bs) (A : Option Addr) (c : Nat) (w : World) (h : SlAt w A c b) (hl : b.length ≤ 8) (h0 : 0 < b.length) :
    Calls Try.prog 82 #[.slice A b.length c] w fun e w' => e = .returned (.int .u64 (valN b : Int)) ∧ w' = w := by
  obtain ⟨g, o, rfl⟩ := h.addr h0
  have hcap := h.cap
  have hcapm := h.c63
  have HT := Lib.hid h.bytes; clear h
  have q1 : max ((b.length : Int) - 8) 0 = 0 := by omega
  have q2 : (0 : Int) ≤ (b.length : Int) := by omega
  have q3 : (b.length : Int) ≤ (c : Int) := by omega
  go_enter Try.func82, Try.ntmps82
  go_wp2_with fail
  go_loopw [3, 13] (fun v i wr => ∃ (k : Nat), k ≤ b.length ∧ v = .int .u64 (valN (b.take k) : Int) ∧ i = .int .i64 k ∧ wr = w) (fun _ i _ => b.length - (intOf i).toNat)
  case atStart => exact ⟨0, Nat.zero_le _, rfl, rfl, by trivial⟩
  case round =>
    obtain ⟨k, hk, rfl, rfl, hw⟩ := hrel
    have hw := hw.symm
    subst hw
    by_cases h1 : k < b.length
    · obtain ⟨x, hx⟩ : ∃ x, b[k]? = some x := ⟨_, List.getElem?_eq_getElem h1⟩
      have c1 := HT.out.cell hx
      have k1 : (k : Int) < (b.length : Int) := by omega
      have hn := valN_next hx
      have hv := val_small h1 hl
      have ho := or_byte _ x hv
      have ws : IntKind.u64.wrap ((valN (b.take k) : Int) * 256) = (valN (b.take k) : Int) * 256 := IntWalk.u64_in _ (by omega)
      have wx : IntKind.u64.wrap (x.toNat : Int) = (x.toNat : Int) := IntWalk.u64_in _ (by have := x.toNat_lt; omega)
      rw [← hn] at ho
      generalize valN (b.take k) = V at *
      have HO := Lib.hid ho
      clear hn hx hv ho
      go_wp2_with fail
      go_roundw
      case rel => exact ⟨k + 1, by omega, by rw [← HO.out], by go_num, by trivial⟩
      case measure => simp [intOf]; omega
    · obtain rfl : k = b.length := by omega
      rw [List.take_length] at *
      go_wp2_with fail
      go_ret
      exact ⟨rfl, rfl⟩

/-- The bytes of n from the k-th lowest down, i of them. -/
theorem be_take (n : Nat) : ∀ (N i : Nat), i ≤ N → (beN N n).take i = beN i (n / 256 ^ (N - i))
  | N, 0, _ => by rw [List.take_zero]; rfl
  | 0, i + 1, h => by omega
  | N + 1, i + 1, h => by
    rw [be_cons, List.take_succ_cons, be_take n N i (by omega), be_cons, Nat.div_div_eq_div_mul, ← Nat.pow_add, show N + 1 - (i + 1) = N - i from by omega, show N - i + i = N from by omega]
theorem be_snoc (n : Nat) {N i : Nat} (h : i < N) : (beN N n).take (i + 1) = (beN N n).take i ++ [UInt8.ofNat (n / 256 ^ (N - 1 - i))] := by
  rw [be_take n N (i + 1) h, be_take n N i (by omega)]
  show beN i (n / 256 ^ (N - (i + 1)) / 256) ++ [UInt8.ofNat (n / 256 ^ (N - (i + 1)))] = _
  rw [Nat.div_div_eq_div_mul, ← Nat.pow_succ, show (N - (i + 1)).succ = N - i from by omega, show N - (i + 1) = N - 1 - i from by omega]

/-- One byte in a new block. -/
theorem sl_one (w : World) (x : UInt8) (t : TypeId) : SlAt (w.alloc (.cells #[.int .u8 (x.toNat : Int)] t)) (some ⟨w.heap.size, 0, none⟩) 1 [x] :=
  ⟨BytesAt.of_cells fun i y hy => by
    have hi := (List.getElem?_eq_some_iff.1 hy).1
    have hi : i < 1 := hi
    obtain rfl : i = 0 := by omega
    obtain rfl : x = y := by simpa using hy
    exact cell_of_row _ _ 0 _ _ _ (heap_alloc_new w (.cells #[.int .u8 (x.toNat : Int)] t)), Nat.le_refl 1, by unfold maxLen; omega, fun e => by cases e⟩

end Go.Proofs.Ytojkifcclgecoaa
