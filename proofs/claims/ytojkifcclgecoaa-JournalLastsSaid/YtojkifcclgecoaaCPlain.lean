/-
  Plain functions on numbers and bytes for layer 4 (crc): half a number, eight halves a byte, sums; that they are linear, and never tell two numbers alike. No program is named here.
-/
import Derived.Test.YtojkifcclgecoaaPlain
namespace Go.Proofs.Ytojkifcclgecoaa
open Go

def polyN : Nat := 0xedb88320
def onesN : Nat := 0xffffffff
/-- Half of a number, and, if it was odd, that xor the polynomial. -/
def halfN (n : Nat) : Nat := if n % 2 = 1 then (n / 2) ^^^ polyN else n / 2
def halvesN : Nat → Nat → Nat
  | 0, n => n
  | k + 1, n => halvesN k (halfN n)
def byteN (n : Nat) (b : UInt8) : Nat := halvesN 8 (n ^^^ b.toNat)
def rawN (n : Nat) (l : Bs) : Nat := l.foldl byteN n
def moreN (n : Nat) (l : Bs) : Nat := rawN (n ^^^ onesN) l ^^^ onesN
def sumN (ls : List Bs) : Nat := ls.foldl moreN 0

theorem ones_lt : onesN < 2 ^ 32 := by decide
theorem poly_lt : polyN < 2 ^ 32 := by decide
theorem xor_lt32 {a b : Nat} (ha : a < 2 ^ 32) (hb : b < 2 ^ 32) : a ^^^ b < 2 ^ 32 := Nat.xor_lt_two_pow ha hb
theorem byte_lt32 (b : UInt8) : b.toNat < 2 ^ 32 := by have := b.toNat_lt; omega
theorem xor_twice (a b : Nat) : a ^^^ b ^^^ b = a := by rw [Nat.xor_assoc, Nat.xor_self, Nat.xor_zero]
theorem xor_swap (a b c d : Nat) : (a ^^^ b) ^^^ (c ^^^ d) = (a ^^^ c) ^^^ (b ^^^ d) := by
  rw [Nat.xor_assoc, Nat.xor_assoc, ← Nat.xor_assoc b c d, Nat.xor_comm b c, Nat.xor_assoc c b d]
theorem half_xor (a b : Nat) : (a ^^^ b) / 2 = (a / 2) ^^^ (b / 2) := by
  apply Nat.eq_of_testBit_eq
  intro i
  rw [Nat.testBit_xor, Nat.testBit_div_two, Nat.testBit_div_two, Nat.testBit_div_two, Nat.testBit_xor]
theorem odd_xor (a b : Nat) : (a ^^^ b) % 2 = 1 ↔ ¬ (a % 2 = 1 ↔ b % 2 = 1) := by
  have h : ∀ n : Nat, n % 2 = 1 ↔ n.testBit 0 = true := fun n => by rw [Nat.testBit_zero]; simp
  rw [h, h, h, Nat.testBit_xor]
  cases a.testBit 0 <;> cases b.testBit 0 <;> simp
theorem step_xor (a b : Nat) : halfN (a ^^^ b) = halfN a ^^^ halfN b := by
  unfold halfN
  have ho := odd_xor a b
  rw [half_xor]
  by_cases ha : a % 2 = 1 <;> by_cases hb : b % 2 = 1
  · rw [if_pos ha, if_pos hb, if_neg (by rw [ho]; simp [ha, hb]), xor_swap, Nat.xor_self, Nat.xor_zero]
  · rw [if_pos ha, if_neg hb, if_pos (by rw [ho]; simp [ha, hb]), Nat.xor_assoc, Nat.xor_comm (b / 2), ← Nat.xor_assoc]
  · rw [if_neg ha, if_pos hb, if_pos (by rw [ho]; simp [ha, hb]), Nat.xor_assoc]
  · rw [if_neg ha, if_neg hb, if_neg (by rw [ho]; simp [ha, hb])]
theorem steps_xor : ∀ (k a b : Nat), halvesN k (a ^^^ b) = halvesN k a ^^^ halvesN k b
  | 0, _, _ => rfl
  | k + 1, a, b => by
    show halvesN k (halfN (a ^^^ b)) = _
    rw [step_xor, steps_xor k]; rfl
theorem steps_add : ∀ (j k n : Nat), halvesN (j + k) n = halvesN k (halvesN j n)
  | 0, k, n => by rw [Nat.zero_add]; rfl
  | j + 1, k, n => by
    rw [Nat.add_right_comm]
    show halvesN (j + k) (halfN n) = _
    rw [steps_add j k]; rfl
theorem step_lt {n : Nat} (h : n < 2 ^ 32) : halfN n < 2 ^ 32 := by
  unfold halfN
  split
  · exact xor_lt32 (by omega) poly_lt
  · omega
theorem steps_lt : ∀ (k : Nat) {n : Nat}, n < 2 ^ 32 → halvesN k n < 2 ^ 32
  | 0, _, h => h
  | k + 1, _, h => steps_lt k (step_lt h)
theorem step_zero {n : Nat} (h : n < 2 ^ 32) (e : halfN n = 0) : n = 0 := by
  unfold halfN at e
  split at e
  · have h1 : ((n / 2) ^^^ polyN).testBit 31 = true := by
      rw [Nat.testBit_xor, Nat.testBit_lt_two_pow (show n / 2 < 2 ^ 31 by omega)]
      decide
    rw [e] at h1
    simp at h1
  · omega
theorem steps_zero : ∀ (k : Nat) {n : Nat}, n < 2 ^ 32 → halvesN k n = 0 → n = 0
  | 0, _, _, e => e
  | k + 1, _, h, e => step_zero h (steps_zero k (step_lt h) e)
theorem xor_zero_iff {a b : Nat} : a ^^^ b = 0 ↔ a = b := by
  constructor
  · intro h
    have := xor_twice a b
    rw [h, Nat.zero_xor] at this
    exact this.symm
  · rintro rfl; exact Nat.xor_self _
theorem steps_inj (k : Nat) {a b : Nat} (ha : a < 2 ^ 32) (hb : b < 2 ^ 32) (h : halvesN k a = halvesN k b) : a = b := by
  rw [← xor_zero_iff] at h ⊢
  rw [← steps_xor] at h
  exact steps_zero k (xor_lt32 ha hb) h

theorem raw_lt : ∀ (l : Bs) {n : Nat}, n < 2 ^ 32 → rawN n l < 2 ^ 32
  | [], _, h => h
  | b :: l, n, h => raw_lt l (n := byteN n b) (steps_lt 8 (xor_lt32 h (byte_lt32 b)))
theorem more_lt {n : Nat} (l : Bs) (h : n < 2 ^ 32) : moreN n l < 2 ^ 32 := xor_lt32 (raw_lt l (xor_lt32 h ones_lt)) ones_lt
theorem sum_lt (ls : List Bs) : sumN ls < 2 ^ 32 := by
  have : ∀ (ls : List Bs) (n : Nat), n < 2 ^ 32 → ls.foldl moreN n < 2 ^ 32 := by
    intro ls
    induction ls with
    | nil => intro n h; exact h
    | cons l ls ih => intro n h; exact ih _ (more_lt l h)
  exact this ls 0 (by decide)
theorem raw_append (n : Nat) (a b : Bs) : rawN n (a ++ b) = rawN (rawN n a) b := List.foldl_append
theorem more_append (n : Nat) (a b : Bs) : moreN n (a ++ b) = moreN (moreN n a) b := by
  unfold moreN
  rw [raw_append, xor_twice]
theorem more_nil (n : Nat) : moreN n [] = n := xor_twice n onesN
theorem sum_cons (l : Bs) (ls : List Bs) (n : Nat) : (l :: ls).foldl moreN n = ls.foldl moreN (moreN n l) := rfl
theorem sum_one (a : Bs) : sumN [a] = moreN 0 a := rfl
theorem sum_two (a b : Bs) : sumN [a, b] = moreN (moreN 0 a) b := rfl
/-- All pieces are as one. -/
theorem sum_join : ∀ (ls : List Bs) (n : Nat), ls.foldl moreN n = moreN n ls.flatten
  | [], n => by rw [List.flatten_nil, more_nil]; rfl
  | l :: ls, n => by rw [List.flatten_cons, more_append, ← sum_join ls]; rfl

theorem raw_inj : ∀ (l : Bs) {a b : Nat}, a < 2 ^ 32 → b < 2 ^ 32 → rawN a l = rawN b l → a = b
  | [], _, _, _, _, h => h
  | c :: l, a, b, ha, hb, h => by
    have h1 := raw_inj l (a := byteN a c) (b := byteN b c) (steps_lt 8 (xor_lt32 ha (byte_lt32 c))) (steps_lt 8 (xor_lt32 hb (byte_lt32 c))) h
    have h2 := steps_inj 8 (xor_lt32 ha (byte_lt32 c)) (xor_lt32 hb (byte_lt32 c)) h1
    have h3 := congrArg (· ^^^ c.toNat) h2
    simp only [xor_twice] at h3
    exact h3
theorem more_inj {l : Bs} {a b : Nat} (ha : a < 2 ^ 32) (hb : b < 2 ^ 32) (h : moreN a l = moreN b l) : a = b := by
  unfold moreN at h
  have h1 := congrArg (· ^^^ onesN) h
  simp only [xor_twice] at h1
  have h2 := raw_inj l (xor_lt32 ha ones_lt) (xor_lt32 hb ones_lt) h1
  have h3 := congrArg (· ^^^ onesN) h2
  simp only [xor_twice] at h3
  exact h3

/-- Byte by byte. -/
def xorB (a b : Bs) : Bs := List.zipWith (fun x y => x ^^^ y) a b
theorem byte_xor (m n : Nat) (x y : UInt8) : byteN (m ^^^ n) (x ^^^ y) = byteN m x ^^^ byteN n y := by
  unfold byteN
  rw [UInt8.toNat_xor, xor_swap, steps_xor]
theorem raw_xor : ∀ (a b : Bs) (m n : Nat), a.length = b.length → rawN (m ^^^ n) (xorB a b) = rawN m a ^^^ rawN n b
  | [], [], _, _, _ => rfl
  | x :: a, y :: b, m, n, h => by
    show rawN (byteN (m ^^^ n) (x ^^^ y)) (xorB a b) = _
    rw [byte_xor, raw_xor a b _ _ (by simpa using h)]; rfl
  | [], _ :: _, _, _, h => by simp at h
  | _ :: _, [], _, _, h => by simp at h
theorem xorB_length (a b : Bs) (h : a.length = b.length) : (xorB a b).length = a.length := by unfold xorB; rw [List.length_zipWith]; omega
theorem sum_xor3 (a b c : Bs) (h1 : a.length = b.length) (h2 : b.length = c.length) : moreN 0 (xorB (xorB a b) c) = moreN 0 a ^^^ moreN 0 b ^^^ moreN 0 c := by
  unfold moreN
  simp only [Nat.zero_xor]
  have e : onesN = (onesN ^^^ onesN) ^^^ onesN := by rw [Nat.xor_self, Nat.zero_xor]
  conv => lhs; arg 1; rw [e]
  rw [raw_xor _ _ _ _ (by rw [xorB_length a b h1, h1, h2]), raw_xor _ _ _ _ h1, xor_swap (rawN onesN a) onesN, Nat.xor_self, Nat.xor_zero, Nat.xor_assoc]

/-- Bytes 0 are steps alone. -/
theorem raw_zeros : ∀ (k n : Nat), rawN n (List.replicate k 0) = halvesN (8 * k) n
  | 0, _ => rfl
  | k + 1, n => by
    rw [List.replicate_succ]
    show rawN (byteN n 0) (List.replicate k 0) = _
    rw [raw_zeros k, show 8 * (k + 1) = 8 + 8 * k from by omega, steps_add]
    unfold byteN
    rw [show (0 : UInt8).toNat = 0 from rfl, Nat.xor_zero]
theorem steps_zero_zero : ∀ k, halvesN k 0 = 0
  | 0 => rfl
  | k + 1 => by
    show halvesN k (halfN 0) = 0
    rw [show halfN 0 = 0 from rfl, steps_zero_zero k]
/-- The bytes of a number, the lowest first, are eight steps each of the number. -/
theorem step_double (n : Nat) : halfN (2 * n) = n := by
  unfold halfN
  rw [if_neg (by omega)]; omega
theorem steps_shift : ∀ (k n : Nat), halvesN k (2 ^ k * n) = n
  | 0, n => by show 2 ^ 0 * n = n; omega
  | k + 1, n => by
    show halvesN k (halfN (2 ^ (k + 1) * n)) = n
    rw [show 2 ^ (k + 1) * n = 2 * (2 ^ k * n) from by rw [Nat.pow_succ, Nat.mul_comm (2 ^ k) 2, Nat.mul_assoc], step_double, steps_shift k]

theorem halves_up (k n : Nat) (j : Nat) : halvesN k n = halvesN (j + k) (2 ^ j * n) := by rw [steps_add, steps_shift]
theorem raw_four (a b c d : UInt8) : rawN 0 [a, b, c, d] = halvesN 32 (a.toNat ^^^ 2 ^ 8 * b.toNat ^^^ 2 ^ 16 * c.toNat ^^^ 2 ^ 24 * d.toNat) := by
  show byteN (byteN (byteN (byteN 0 a) b) c) d = _
  unfold byteN
  simp only [Nat.zero_xor, steps_xor, ← steps_add, Nat.reduceAdd]
  rw [halves_up 24 b.toNat 8, halves_up 16 c.toNat 16, halves_up 8 d.toNat 24]
theorem four_zero {a b c d : Nat} (ha : a < 256) (hb : b < 256) (hc : c < 256) (_hd : d < 256) (h : a ^^^ 2 ^ 8 * b ^^^ 2 ^ 16 * c ^^^ 2 ^ 24 * d = 0) : a = 0 ∧ b = 0 ∧ c = 0 ∧ d = 0 := by
  have h1 := congrArg (· % 2 ^ 8) h
  simp only [Nat.xor_mod_two_pow] at h1
  rw [show 2 ^ 8 * b % 2 ^ 8 = 0 from by omega, show 2 ^ 16 * c % 2 ^ 8 = 0 from by omega, show 2 ^ 24 * d % 2 ^ 8 = 0 from by omega, Nat.xor_zero, Nat.xor_zero, Nat.xor_zero] at h1
  have a0 : a = 0 := by omega
  subst a0
  rw [Nat.zero_xor] at h
  have h2 := congrArg (· % 2 ^ 16) h
  simp only [Nat.xor_mod_two_pow] at h2
  rw [show 2 ^ 16 * c % 2 ^ 16 = 0 from by omega, show 2 ^ 24 * d % 2 ^ 16 = 0 from by omega, Nat.xor_zero, Nat.xor_zero] at h2
  have b0 : b = 0 := by omega
  subst b0
  rw [Nat.mul_zero, Nat.zero_xor] at h
  have h3 := congrArg (· % 2 ^ 24) h
  simp only [Nat.xor_mod_two_pow] at h3
  rw [show 2 ^ 24 * d % 2 ^ 24 = 0 from by omega, Nat.xor_zero] at h3
  have c0 : c = 0 := by omega
  subst c0
  rw [Nat.mul_zero, Nat.zero_xor] at h
  exact ⟨rfl, rfl, rfl, by omega⟩
theorem raw_four_zero {a b c d : UInt8} (h : rawN 0 [a, b, c, d] = 0) : a.toNat = 0 ∧ b.toNat = 0 ∧ c.toNat = 0 ∧ d.toNat = 0 := by
  have ha := a.toNat_lt; have hb := b.toNat_lt; have hc := c.toNat_lt; have hd := d.toNat_lt
  rw [raw_four] at h
  refine four_zero ha hb hc hd (steps_zero 32 ?_ h)
  exact xor_lt32 (xor_lt32 (xor_lt32 (by omega) (by omega)) (by omega)) (by omega)

/-- Four bytes at k xored, all others as they are. -/
def maskB (n k : Nat) (xs : Bs) : Bs := List.replicate k 0 ++ (xs ++ List.replicate (n - k - xs.length) 0)
theorem maskB_length {n k : Nat} {xs : Bs} (h : k + xs.length ≤ n) : (maskB n k xs).length = n := by unfold maskB; simp; omega
theorem sum_mask {b : Bs} {k : Nat} {p q r s : UInt8} (h : k + 4 ≤ b.length) (e : moreN 0 (xorB b (maskB b.length k [p, q, r, s])) = moreN 0 b) : p.toNat = 0 ∧ q.toNat = 0 ∧ r.toNat = 0 ∧ s.toNat = 0 := by
  have hl : b.length = (maskB b.length k [p, q, r, s]).length := (maskB_length (by simp only [List.length_cons, List.length_nil]; omega)).symm
  unfold moreN at e
  have e1 := congrArg (· ^^^ onesN) e
  simp only [xor_twice, Nat.zero_xor] at e1
  have e2 := raw_xor b (maskB b.length k [p, q, r, s]) onesN 0 hl
  rw [Nat.xor_zero, e1] at e2
  have e3 : rawN 0 (maskB b.length k [p, q, r, s]) = 0 := by
    have := congrArg (rawN onesN b ^^^ ·) e2
    simp only [← Nat.xor_assoc, Nat.xor_self, Nat.zero_xor] at this
    exact this.symm
  unfold maskB at e3
  rw [raw_append, raw_append, raw_zeros k, steps_zero_zero, raw_zeros] at e3
  have hlt : rawN 0 [p, q, r, s] < 2 ^ 32 := raw_lt _ (by decide)
  exact raw_four_zero (steps_zero _ hlt e3)
/-- The four bytes of a number, the lowest first. -/
def fourB (x : Nat) : Bs := [UInt8.ofNat x, UInt8.ofNat (x / 2 ^ 8), UInt8.ofNat (x / 2 ^ 16), UInt8.ofNat (x / 2 ^ 24)]
theorem four_none {x : Nat} (hx : x < 2 ^ 32) (h0 : (UInt8.ofNat x).toNat = 0) (h1 : (UInt8.ofNat (x / 2 ^ 8)).toNat = 0) (h2 : (UInt8.ofNat (x / 2 ^ 16)).toNat = 0) (h3 : (UInt8.ofNat (x / 2 ^ 24)).toNat = 0) : x = 0 := by
  have e : ∀ n : Nat, (UInt8.ofNat n).toNat = n % 256 := fun n => rfl
  rw [e] at h0 h1 h2 h3
  omega
theorem sum_bits {b : Bs} {k x : Nat} (h : k + 4 ≤ b.length) (hx : x < 2 ^ 32) (h0 : x ≠ 0) : moreN 0 b ≠ moreN 0 (xorB b (maskB b.length k (fourB x))) := fun e => by
  obtain ⟨h1, h2, h3, h4⟩ := sum_mask h e.symm
  exact h0 (four_none hx h1 h2 h3 h4)
end Go.Proofs.Ytojkifcclgecoaa
