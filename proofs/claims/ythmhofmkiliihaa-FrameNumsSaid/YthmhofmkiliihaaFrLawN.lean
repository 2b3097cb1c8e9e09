/-
  The law FrameNums, walked.
-/
import Derived.Test.YthmhofmkiliihaaFrKnown
namespace Go.Proofs.Ythmhofmkiliihaa
open Go Go.RowKit Go.Shelf Go.Proofs

theorem val_fold : ∀ (b : Bs) (a : Nat), b.foldl (fun a x => a * 256 + x.toNat) a = a * 256 ^ b.length + valN b
  | [], a => by simp [valN]
  | x :: b, a => by
    have e : valN (x :: b) = b.foldl (fun a x => a * 256 + x.toNat) (0 * 256 + x.toNat) := rfl
    rw [List.foldl_cons, val_fold b, e, val_fold b, List.length_cons, Nat.pow_succ, Nat.add_mul, Nat.zero_mul, Nat.zero_add, Nat.mul_assoc, Nat.mul_comm 256, Nat.add_assoc]
theorem val_cons (x : UInt8) (b : Bs) : valN (x :: b) = x.toNat * 256 ^ b.length + valN b := by
  have e : valN (x :: b) = b.foldl (fun a x => a * 256 + x.toNat) (0 * 256 + x.toNat) := rfl
  rw [e, val_fold, Nat.zero_mul, Nat.zero_add]
/-- Numbers of as many bytes stand in the order of their bytes. -/
theorem less_val : ∀ (a b : Bs), a.length = b.length → Op.bytesLess a b = decide (valN a < valN b)
  | [], [], _ => by simp [Op.bytesLess, valN]
  | [], _ :: _, h => by simp at h
  | _ :: _, [], h => by simp at h
  | x :: a, y :: b, h => by
    have hl : a.length = b.length := by simpa using h
    have h1 := valN_lt a.length a rfl
    have h2 := valN_lt a.length b hl.symm
    unfold Op.bytesLess
    rw [less_val a b hl, val_cons, val_cons, ← hl]
    generalize valN a = p at *
    generalize valN b = q at *
    generalize 256 ^ a.length = m at *
    rcases Nat.lt_trichotomy x.toNat y.toNat with hlt | heq | hgt
    · have e1 : (decide (x < y)) = true := decide_eq_true hlt
      have : x.toNat * m + m ≤ y.toNat * m := by
        rw [← Nat.succ_mul]; exact Nat.mul_le_mul_right m hlt
      rw [e1, Bool.true_or]
      exact (decide_eq_true (by omega)).symm
    · have e1 : x = y := UInt8.toNat_inj.1 heq
      subst e1
      have e2 : (decide (x < x)) = false := decide_eq_false (UInt8.lt_irrefl x)
      rw [e2, Bool.false_or]
      simp
    · have e1 : (decide (x < y)) = false := decide_eq_false (fun h => by have : x.toNat < y.toNat := h; omega)
      have e2 : (x == y) = false := by rw [beq_eq_false_iff_ne]; rintro rfl; omega
      have : y.toNat * m + m ≤ x.toNat * m := by
        rw [← Nat.succ_mul]; exact Nat.mul_le_mul_right m hgt
      rw [e1, e2, Bool.false_and, Bool.or_false]
      exact (decide_eq_false (by omega)).symm
theorem less_nums {a b : Nat} (ha : a < 2 ^ 64) (hb : b < 2 ^ 64) : Op.bytesLess (mkB (beN 8 a)).toList (mkB (beN 8 b)).toList = decide (a < b) := by
  rw [ByteArray.toList_eq, ByteArray.toList_eq, mkB_data, mkB_data, less_val _ _ (by rw [beN_length, beN_length]), val_be, val_be, Nat.mod_eq_of_lt ha, Nat.mod_eq_of_lt hb]

set_option maxHeartbeats 8000000 in
theorem framenums_any (a b : Nat) (s : UInt8) (ha : a < 2 ^ 64) (hb : b < 2 ^ 64) (w : World) :
    Calls Try.prog 6 #[.int .u64 a, .int .u64 b, .int .u8 (s.toNat : Int)] w fun e w' => e = .returned (.bool true) ∧ Below w.heap.size w w' := by
  obtain ⟨N, hN⟩ : ∃ N, 1 + s.toNat % 8 = N := ⟨_, rfl⟩
  have hN1 : 1 ≤ N := by omega
  have hN8 : N ≤ 8 := by omega
  have H1 := Lib.hid (fun W => num_any a 8 ha (by omega) (by omega) W)
  have H2 := Lib.hid (fun W => num_any b 8 hb (by omega) (by omega) W)
  have HN := Lib.hid (fun W => num_any a N ha hN8 hN1 W)
  have hless := less_nums ha hb
  have va : valN (beN 8 a) = a := by rw [val_be]; exact Nat.mod_eq_of_lt ha
  have hs := s.toNat_lt
  have ws : IntKind.i64.wrap (s.toNat : Int) = (s.toNat : Int) := IntWalk.i64_in _ (by omega)
  have e1 : (1 : Int) + (s.toNat : Int) % 8 = (N : Int) := by omega
  obtain ⟨M, hM⟩ : ∃ M, a % 256 ^ N = M := ⟨_, rfl⟩
  have vn : valN (beN N a) = M := by rw [val_be]; exact hM
  have hcase : (((N : Int) < 8) = True ∧ ∃ P : Nat, IntKind.u64.wrap (2 ^ (8 * N)) = (P : Int) ∧ (a : Int) % (P : Int) = (M : Int) ∧ (P = 0) = False) ∨ (((N : Int) < 8) = False ∧ M = a) := by
    by_cases h : N < 8
    · refine .inl ⟨eq_true (by omega), ?_⟩
      have e3 : (2 : Nat) ^ (8 * N) = 256 ^ N := by rw [Nat.pow_mul]
      have e4 : 256 ^ N ≤ 256 ^ 7 := Nat.pow_le_pow_right (by omega) (by omega)
      have e5 : ((2 : Int) ^ (8 * N)) = ((256 ^ N : Nat) : Int) := by rw [← e3]; simp
      have e6 : 0 < 256 ^ N := Nat.pow_pos (by omega)
      refine ⟨256 ^ N, by rw [e5, IntWalk.u64_in _ (by omega)], by rw [← hM]; rfl, eq_false (by omega)⟩
    · refine .inr ⟨eq_false (by omega), ?_⟩
      obtain rfl : N = 8 := by omega
      rw [← hM]; exact Nat.mod_eq_of_lt ha
  rcases hcase with ⟨p1, P, p2, p3, p5⟩ | ⟨p1, rfl⟩
  all_goals
    go_enter Try.func6, Try.ntmps6
    go_wp2_with fail
    refine (H1.out w).mono ?_
    clear H1
    rintro e w1 ⟨v1, rfl, ho1, hb1⟩
    go_wp2_with fail
    refine (H2.out w1).mono ?_
    clear H2
    rintro e w2 ⟨v2, rfl, ho2, hb2⟩
    obtain ⟨A1, c1, rfl, hs1, _⟩ := ho1.sl
    obtain ⟨A2, c2, rfl, hs2, _⟩ := ho2.sl
    have S1 := hs1.below hb2
    have hb02 := hb1.trans (hb2.mono hb1.size)
    have H3 := Lib.hid (get_any (beN 8 _) A1 c1 w2 S1 (by rw [beN_length]; omega) (by rw [beN_length]; omega))
    have r1 := fr_str w2 A1 c1 _ S1.bytes
    have r2 := fr_str w2 A2 c2 _ hs2.bytes
    rw [beN_length, va] at H3
    rw [beN_length] at r1 r2
    have HB := Lib.hid hb02
    clear ho1 ho2 hs1 hs2 hb1 hb2 hb02 S1 va
    show _
    simp only [beN_length]
    go_wp2_with fail
    refine H3.out.mono ?_
    clear H3
    rintro e w3 ⟨rfl, hw3⟩
    subst hw3
    go_wp2_with fail
    refine (HN.out w3).mono ?_
    rintro e w4 ⟨v4, rfl, ho4, hb4⟩
    obtain ⟨A4, c4, rfl, hs4, _⟩ := ho4.sl
    have hb04 := HB.out.trans (hb4.mono HB.out.size)
    have H5 := Lib.hid (get_any _ A4 c4 w4 hs4 (by rw [beN_length]; omega) (by rw [beN_length]; omega))
    rw [beN_length, vn] at H5
    clear ho4 hs4 hb4 r1 r2 hless
    show _
    simp only [beN_length]
    go_wp2_with fail
    refine H5.out.mono ?_
    clear H5
    rintro e w5 ⟨rfl, hw5⟩
    subst hw5
    go_wp2_with fail
    refine (HN.out w5).mono ?_
    clear HN
    rintro e w6 ⟨v6, rfl, ho6, hb6⟩
    obtain ⟨A6, c6, rfl, _, _⟩ := ho6.sl
    have hb06 := hb04.trans (hb6.mono hb04.size)
    have H7 := Lib.hid (known_any w6)
    show _
    simp only [beN_length]
    clear hb6 ho6 hb04
    go_wp2_with fail
    refine H7.out.mono ?_
    clear H7
    rintro e w7 ⟨rfl, hb7⟩
    go_wp2_with fail
    go_ret
    exact ⟨rfl, hb06.trans (hb7.mono hb06.size)⟩
end Go.Proofs.Ythmhofmkiliihaa
