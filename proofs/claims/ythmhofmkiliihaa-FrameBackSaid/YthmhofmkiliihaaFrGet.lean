/-
  Bytes as numbers: frame.Get; the document's own Get and Num.
-/
import Derived.Test.YthmhofmkiliihaaFrNum
import Derived.Laws.BitsAllLaws
namespace Go.Proofs.Ythmhofmkiliihaa
open Go Go.RowKit Go.Shelf Go.Proofs

theorem valN_next {b : Bs} {k : Nat} {x : UInt8} (hx : b[k]? = some x) : valN (b.take (k + 1)) = valN (b.take k) * 256 + x.toNat := by
  rw [List.take_add_one, hx]
  exact valN_snoc _ _
theorem val_small {b : Bs} {k : Nat} (hk : k < b.length) (hl : b.length ≤ 8) : valN (b.take k) < 2 ^ 56 := by
  have h := valN_lt k (b.take k) (by rw [List.length_take]; omega)
  have : 256 ^ k ≤ 256 ^ 7 := Nat.pow_le_pow_right (by omega) (by omega)
  omega
theorem or_byte (V : Nat) (x : UInt8) (hV : V < 2 ^ 56) : bits .or .u64 ((V : Int) * 256) (x.toNat : Int) = ((V * 256 + x.toNat : Nat) : Int) := by
  have hx := x.toNat_lt
  have h1 := u64_or_nat (256 * V) x.toNat (by omega) (by omega)
  have h2 := Nat.two_pow_add_eq_or_of_lt (show x.toNat < 2 ^ 8 from hx) V
  rw [← show (2 : Nat) ^ 8 = 256 from rfl, ← h2] at h1
  rw [show (V : Int) * 256 = ((2 ^ 8 * V : Nat) : Int) by omega, h1]
  omega

set_option maxHeartbeats 4000000 in
theorem get_any (b : Bs) (A : Option Addr) (c : Nat) (w : World) (h : SlAt w A c b) (hl : b.length ≤ 8) (h0 : 0 < b.length) :
    Calls Try.prog 19 #[.slice A b.length c] w fun e w' => e = .returned (.int .u64 (valN b : Int)) ∧ w' = w := by
  obtain ⟨g, o, rfl⟩ := h.addr h0
  have hcap := h.cap
  have hcapm := h.c63
  have HT := Lib.hid h.bytes; clear h
  have q1 : max ((b.length : Int) - 8) 0 = 0 := by omega
  have q2 : (0 : Int) ≤ (b.length : Int) := by omega
  have q3 : (b.length : Int) ≤ (c : Int) := by omega
  go_enter Try.func19, Try.ntmps19
  go_wp2_with fail
  go_loopw [3, 13] (fun v i wr => ∃ (k : Nat), k ≤ b.length ∧ v = .int .u64 (valN (b.take k) : Int) ∧ i = .int .i64 k ∧ wr = w) (fun _ i _ => b.length - (intOf i).toNat)
  case atStart => exact ⟨0, Nat.zero_le _, rfl, rfl, by trivial⟩
  case round =>
    obtain ⟨k, hk, rfl, rfl, hw⟩ := hrel
    have hw := hw.symm
    subst hw
    by_cases h1 : k < b.length
    · obtain ⟨x, hx⟩ : ∃ x, b[k]? = some x := ⟨_, List.getElem?_eq_getElem h1⟩
      have c1 := HT.out.cell hx
      have k1 : (k : Int) < (b.length : Int) := by omega
      have hn := valN_next hx
      have hv := val_small h1 hl
      have ho := or_byte _ x hv
      have ws : IntKind.u64.wrap ((valN (b.take k) : Int) * 256) = (valN (b.take k) : Int) * 256 := IntWalk.u64_in _ (by omega)
      have wx : IntKind.u64.wrap (x.toNat : Int) = (x.toNat : Int) := IntWalk.u64_in _ (by have := x.toNat_lt; omega)
      rw [← hn] at ho
      generalize valN (b.take k) = V at *
      have HO := Lib.hid ho
      clear hn hx hv ho
      go_wp2_with fail
      go_roundw
      case rel => exact ⟨k + 1, by omega, by rw [← HO.out], by go_num, by trivial⟩
      case measure => simp [intOf]; omega
    · obtain rfl : k = b.length := by omega
      rw [List.take_length] at *
      go_wp2_with fail
      go_ret
      exact ⟨rfl, rfl⟩

set_option maxHeartbeats 4000000 in
theorem refget_any (b : Bs) (A : Option Addr) (c : Nat) (w : World) (h : SlAt w A c b) (hl : b.length ≤ 8) :
    Calls Try.prog 22 #[.slice A b.length c] w fun e w' => e = .returned (.int .u64 (valN b : Int)) ∧ w' = w := by
  have HT := Lib.hid h.bytes; clear h
  go_enter Try.func22, Try.ntmps22
  go_wp2_with fail
  go_loopw [3, 4] (fun v i wr => ∃ (k : Nat), k ≤ b.length ∧ v = .int .u64 (valN (b.take k) : Int) ∧ i = .int .i64 k ∧ wr = w) (fun _ i _ => b.length - (intOf i).toNat)
  case atStart => exact ⟨0, Nat.zero_le _, rfl, rfl, by trivial⟩
  case round =>
    obtain ⟨k, hk, rfl, rfl, hw⟩ := hrel
    have hw := hw.symm
    subst hw
    by_cases h1 : k < b.length
    · obtain ⟨x, hx⟩ : ∃ x, b[k]? = some x := ⟨_, List.getElem?_eq_getElem h1⟩
      obtain ⟨g, o, rfl, c1⟩ := HT.out.byte hx
      have k1 : (k : Int) < (b.length : Int) := by omega
      have hn := valN_next hx
      have hv := val_small h1 hl
      have hxl := x.toNat_lt
      have ho : 256 * (valN (b.take k) : Int) + (x.toNat : Int) = (valN (b.take (k + 1)) : Int) := by rw [hn]; omega
      have ws : IntKind.u64.wrap (256 * (valN (b.take k) : Int)) = 256 * (valN (b.take k) : Int) := IntWalk.u64_in _ (by omega)
      have wt : IntKind.u64.wrap (256 * (valN (b.take k) : Int) + (x.toNat : Int)) = (valN (b.take (k + 1)) : Int) := by rw [← ho]; exact IntWalk.u64_in _ (by omega)
      have wx : IntKind.u64.wrap (x.toNat : Int) = (x.toNat : Int) := IntWalk.u64_in _ (by omega)
      have HWT := Lib.hid wt
      generalize valN (b.take k) = V at *
      clear hn hx hv hxl wt ho
      go_wp2_with fail
      go_roundw
      case rel => exact ⟨k + 1, by omega, by rw [HWT.out], by go_num, by trivial⟩
      case measure => simp [intOf]; omega
    · obtain rfl : k = b.length := by omega
      rw [List.take_length] at *
      go_wp2_with fail
      go_ret
      exact ⟨rfl, rfl⟩

/-- The bytes of n from the k-th lowest down, i of them. -/
theorem be_take (n : Nat) : ∀ (N i : Nat), i ≤ N → (beN N n).take i = beN i (n / 256 ^ (N - i))
  | N, 0, _ => by rw [List.take_zero]; rfl
  | 0, i + 1, h => by omega
  | N + 1, i + 1, h => by
    rw [be_cons, List.take_succ_cons, be_take n N i (by omega), be_cons, Nat.div_div_eq_div_mul, ← Nat.pow_add, show N + 1 - (i + 1) = N - i from by omega, show N - i + i = N from by omega]
theorem be_snoc (n : Nat) {N i : Nat} (h : i < N) : (beN N n).take (i + 1) = (beN N n).take i ++ [UInt8.ofNat (n / 256 ^ (N - 1 - i))] := by
  rw [be_take n N (i + 1) h, be_take n N i (by omega)]
  show beN i (n / 256 ^ (N - (i + 1)) / 256) ++ [UInt8.ofNat (n / 256 ^ (N - (i + 1)))] = _
  rw [Nat.div_div_eq_div_mul, ← Nat.pow_succ, show (N - (i + 1)).succ = N - i from by omega, show N - (i + 1) = N - 1 - i from by omega]

/-- One byte in a new block. -/
theorem sl_one (w : World) (x : UInt8) (t : TypeId) : SlAt (w.alloc (.cells #[.int .u8 (x.toNat : Int)] t)) (some ⟨w.heap.size, 0, none⟩) 1 [x] :=
  ⟨BytesAt.of_cells fun i y hy => by
    have hi := (List.getElem?_eq_some_iff.1 hy).1
    have hi : i < 1 := hi
    obtain rfl : i = 0 := by omega
    obtain rfl : x = y := by simpa using hy
    exact cell_of_row _ _ 0 _ _ _ (heap_alloc_new w (.cells #[.int .u8 (x.toNat : Int)] t)), Nat.le_refl 1, by unfold maxLen; omega, fun e => by cases e⟩

set_option maxHeartbeats 4000000 in
theorem refnum_any (n N : Nat) (hn : n < 2 ^ 64) (hN : N ≤ 8) (w : World) :
    Calls Try.prog 28 #[.int .u64 n, .int .i64 N] w fun e w' => ∃ v, e = .returned v ∧ OB w.heap.size w' v (beN N n) ∧ Below w.heap.size w w' := by
  have q3 : max 0 (min (N : Int) 8) = N := by omega
  have q4 : min (N : Int) 8 = N := by omega
  go_enter Try.func28, Try.ntmps28
  go_wp2_with fail
  go_loopw [5, 6] (fun v i wr => ∃ (k : Nat), k ≤ N ∧ i = .int .i64 ((N : Int) - 1 - k) ∧ Hid (OB w.heap.size wr v ((beN N n).take k)) ∧ Below w.heap.size w wr) (fun _ i _ => (intOf i + 1).toNat)
  case atStart => exact ⟨0, Nat.zero_le _, by go_num, OB.nil _ _, Below.refl _ _⟩
  case round =>
    obtain ⟨k, hk, rfl, HO, hbr⟩ := hrel
    by_cases h1 : k < N
    · have e1 : (N : Int) - 1 - k = ((N - 1 - k : Nat) : Int) := by omega
      have e2 : ((N - 1 - k : Nat) : Int) - 1 = (N : Int) - 1 - ((k + 1 : Nat) : Int) := by omega
      have hs := be_snoc n h1
      have hKl : (N - 1 - k) ≤ 8 := by omega
      rw [e1]
      generalize hK : N - 1 - k = K at *
      go_wp2_with fail
      go_loopw [7, 8] (fun x i wq => ∃ (j : Nat), j ≤ K ∧ x = .int .u64 (n / 256 ^ j : Nat) ∧ i = .int .i64 j ∧ wq = wr) (fun _ i _ => K - (intOf i).toNat)
      case atStart => exact ⟨0, Nat.zero_le _, by rw [Nat.pow_zero, Nat.div_one], rfl, by trivial⟩
      case round =>
        obtain ⟨j, hj, rfl, rfl, hw⟩ := hrel
        have hw := hw.symm
        subst hw
        by_cases h2 : j < K
        · have k2 : (j : Int) < (K : Int) := by omega
          have hd : n / 256 ^ (j + 1) = n / 256 ^ j / 256 := by rw [Nat.div_div_eq_div_mul, ← Nat.pow_succ]
          have HD := Lib.hid hd; clear hd
          have hq : n / 256 ^ j < 2 ^ 64 := Nat.lt_of_le_of_lt (Nat.div_le_self _ _) hn
          generalize n / 256 ^ j = q at *
          go_wp2_with fail
          go_roundw
          case rel => exact ⟨j + 1, by omega, by rw [HD.out]; first | rfl | (congr 1; omega), by go_num, by trivial⟩
          case measure => simp [intOf]; omega
        · obtain rfl : j = K := by omega
          have HS := Lib.hid hs; clear hs
          have hb : ((n / 256 ^ j : Nat) : Int) % 256 = ((UInt8.ofNat (n / 256 ^ j)).toNat : Int) := rfl
          generalize hx : UInt8.ofNat (n / 256 ^ j) = x at *
          generalize n / 256 ^ j = q at *
          have hlen : ((beN N n).take k).length + 1 ≤ 1000000 := by rw [List.length_take]; omega
          have HN := Lib.hid (sl_one wr x 5)
          have HOA := Lib.hid (HO.out.alloc (.cells #[.int .u8 (x.toNat : Int)] 5))
          have hsz : w.heap.size ≤ (wr.alloc (.cells #[.int .u8 (x.toNat : Int)] 5)).heap.size := by have := hbr.size; simp; omega
          go_wp2_with (at_builtin; refine wpList_appB rfl _ _ rfl rfl HOA.out rfl HN.out hlen hsz ?_; intro v2 w2 hown2 hgrow2)
          have hb2 := below_app (hbr.alloc hbr.size _) HOA.out hgrow2 (Nat.le_refl _) hsz
          rw [← HS.out] at hown2
          go_wp2_with fail
          go_roundw
          case rel => exact ⟨k + 1, by omega, by go_num, hown2, hb2⟩
          case measure => simp [intOf]; omega
    · obtain rfl : k = N := by omega
      rw [show (k : Int) - 1 - k = -1 by omega]
      rw [List.take_of_length_le (by rw [beN_length]; exact Nat.le_refl _)] at HO
      go_wp2_with fail
      go_ret
      exact ⟨_, rfl, HO.out, hbr⟩
end Go.Proofs.Ythmhofmkiliihaa
