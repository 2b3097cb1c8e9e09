/-
  Plain functions on bytes for layer 5 (frame): numbers as bytes, frames, all frames that bytes begin with. No program is named here.
-/
import Derived.Test.YtojkifcclgecoaaCPlain
namespace Go.Proofs.Ytojkifcclgecoaa
open Go

/-- The lowest k bytes of n, the greatest first. -/
def beN : Nat → Nat → Bs
  | 0, _ => []
  | k + 1, n => beN k (n / 256) ++ [UInt8.ofNat n]
/-- The number whose bytes they are. -/
def valN (b : Bs) : Nat := b.foldl (fun a x => a * 256 + x.toNat) 0

theorem beN_length : ∀ k n, (beN k n).length = k
  | 0, _ => rfl
  | k + 1, n => by show (beN k (n / 256) ++ [UInt8.ofNat n]).length = k + 1; simp [beN_length k]
theorem valN_snoc (b : Bs) (x : UInt8) : valN (b ++ [x]) = valN b * 256 + x.toNat := by simp [valN, List.foldl_append]
theorem val_be : ∀ k n, valN (beN k n) = n % 256 ^ k
  | 0, n => by show 0 = n % 1; omega
  | k + 1, n => by
    show valN (beN k (n / 256) ++ [UInt8.ofNat n]) = _
    have e : (UInt8.ofNat n).toNat = n % 256 := rfl
    rw [valN_snoc, val_be k, e, Nat.pow_succ, Nat.mul_comm (256 ^ k) 256, Nat.mod_mul]
    omega
theorem snoc_of {b : Bs} (h : 0 < b.length) : ∃ c x, b = c ++ [x] := by
  rcases List.eq_nil_or_concat b with rfl | ⟨c, x, rfl⟩
  · simp at h
  · exact ⟨c, x, by simp⟩
theorem valN_lt : ∀ (k : Nat) (b : Bs), b.length = k → valN b < 256 ^ k
  | 0, b, h => by obtain rfl := List.eq_nil_of_length_eq_zero h; show 0 < 1; omega
  | k + 1, b, h => by
    obtain ⟨c, x, rfl⟩ := snoc_of (b := b) (by omega)
    have := valN_lt k c (by simpa using h)
    have hx := x.toNat_lt
    rw [valN_snoc, Nat.pow_succ]; omega
theorem be_val : ∀ (k : Nat) (b : Bs), b.length = k → beN k (valN b) = b
  | 0, b, h => by obtain rfl := List.eq_nil_of_length_eq_zero h; rfl
  | k + 1, b, h => by
    obtain ⟨c, x, rfl⟩ := snoc_of (b := b) (by omega)
    have hx := x.toNat_lt
    have h1 : (valN (c ++ [x])) / 256 = valN c := by rw [valN_snoc]; omega
    have h2 : UInt8.ofNat (valN (c ++ [x])) = x := by
      apply UInt8.toNat_inj.1
      show valN (c ++ [x]) % 256 = x.toNat
      rw [valN_snoc]; omega
    show beN k (valN (c ++ [x]) / 256) ++ [UInt8.ofNat (valN (c ++ [x]))] = _
    rw [h1, h2, be_val k c (by simpa using h)]
theorem be_mod : ∀ (k n : Nat), beN k (n % 256 ^ k) = beN k n := fun k n => by rw [← val_be]; exact be_val k _ (beN_length k n)
theorem be_inj {k m n : Nat} (hm : m < 256 ^ k) (hn : n < 256 ^ k) (h : beN k m = beN k n) : m = n := by
  have := congrArg valN h
  rwa [val_be, val_be, Nat.mod_eq_of_lt hm, Nat.mod_eq_of_lt hn] at this
theorem valN_inj {a b : Bs} (hl : a.length = b.length) (h : valN a = valN b) : a = b := by
  rw [← be_val a.length a rfl, ← be_val b.length b rfl, hl, h]

/-- The frame of some bytes. -/
def sizeF (b : Bs) : Bs := beN 4 b.length
def sumF (b : Bs) : Bs := beN 4 (sumN [sizeF b, b])
def encF (b : Bs) : Bs := sizeF b ++ (sumF b ++ b)
/-- The bytes of the frame that b begins with. -/
def isF (b : Bs) : Prop := 8 ≤ b.length ∧ valN (b.take 4) ≤ 65536 ∧ valN (b.take 4) ≤ b.length - 8 ∧ sumN [b.take 4, (b.drop 8).take (valN (b.take 4))] = valN ((b.drop 4).take 4)
instance (b : Bs) : Decidable (isF b) := inferInstanceAs (Decidable (_ ∧ _))
def nextF (b : Bs) : Option Bs := if isF b then some ((b.drop 8).take (valN (b.take 4))) else none
/-- All of them, of at most so many. -/
def allF : Nat → Bs → List Bs
  | 0, _ => []
  | f + 1, b => match nextF b with
    | none => []
    | some x => x :: allF f (b.drop (8 + x.length))
def allB (b : Bs) : List Bs := allF b.length b
def joinF (l : List Bs) : Bs := (l.map encF).flatten
/-- How many bytes the frames of l have. -/
def lenF (l : List Bs) : Nat := (joinF l).length

theorem encF_length (b : Bs) : (encF b).length = 8 + b.length := by unfold encF sizeF sumF; simp [beN_length]; omega
theorem sum_lt32 (l : List Bs) : sumN l < 256 ^ 4 := sum_lt l
theorem next_enc {a t : Bs} (h : a.length ≤ 65536) : nextF (encF a ++ t) = some a := by
  have h1 : (sizeF a).length = 4 := beN_length _ _
  have h2 : (sumF a).length = 4 := beN_length _ _
  have e1 : (encF a ++ t).take 4 = sizeF a := by unfold encF; rw [List.append_assoc]; exact List.take_left' h1
  have e2 : (encF a ++ t).drop 4 = sumF a ++ (a ++ t) := by unfold encF; rw [List.append_assoc, List.append_assoc]; exact List.drop_left' h1
  have e3 : (encF a ++ t).drop 8 = a ++ t := by rw [show 8 = 4 + 4 from rfl, ← List.drop_drop, e2]; exact List.drop_left' h2
  have e4 : ((encF a ++ t).drop 4).take 4 = sumF a := by rw [e2]; exact List.take_left' h2
  have e5 : valN (sizeF a) = a.length := by unfold sizeF; rw [val_be]; exact Nat.mod_eq_of_lt (by omega)
  have e6 : valN (sumF a) = sumN [sizeF a, a] := by unfold sumF; rw [val_be]; exact Nat.mod_eq_of_lt (sum_lt32 _)
  have e7 : (a ++ t).take a.length = a := List.take_left' rfl
  have hi : isF (encF a ++ t) := by
    unfold isF
    rw [e1, e3, e4, e5, e6, e7]
    refine ⟨by rw [List.length_append, encF_length]; omega, h, by rw [List.length_append, encF_length]; omega, rfl⟩
  unfold nextF
  rw [if_pos hi, e1, e3, e5, e7]
theorem next_some {b x : Bs} (h : nextF b = some x) : b = encF x ++ b.drop (8 + x.length) ∧ x.length ≤ 65536 ∧ 8 + x.length ≤ b.length := by
  unfold nextF at h
  split at h
  case isFalse => cases h
  case isTrue hi =>
    obtain ⟨h8, hm, hl, hs⟩ := hi
    simp only [Option.some.injEq] at h
    have hx : x.length = valN (b.take 4) := by rw [← h, List.length_take, List.length_drop]; omega
    have e1 : sizeF x = b.take 4 := by unfold sizeF; rw [hx]; exact be_val 4 _ (by rw [List.length_take]; omega)
    have e2 : sumF x = (b.drop 4).take 4 := by
      unfold sumF
      rw [e1, ← h, hs]
      exact be_val 4 _ (by rw [List.length_take, List.length_drop]; omega)
    refine ⟨?_, by omega, by omega⟩
    have e3 : b.drop (8 + x.length) = (b.drop 8).drop x.length := (List.drop_drop ..).symm
    have e4 : x = (b.drop 8).take x.length := by rw [hx]; exact h.symm
    unfold encF
    rw [e1, e2, e3, List.append_assoc, List.append_assoc]
    conv => rhs; arg 2; arg 2; arg 1; rw [e4]
    rw [List.take_append_drop, show b.drop 8 = (b.drop 4).drop 4 from by rw [List.drop_drop], List.take_append_drop, List.take_append_drop]
theorem next_short {b : Bs} (h : b.length < 8) : nextF b = none := by unfold nextF; rw [if_neg]; rintro ⟨h8, _⟩; omega
theorem allF_more : ∀ (f g : Nat) (b : Bs), b.length ≤ f → b.length ≤ g → allF f b = allF g b
  | 0, 0, _, _, _ => rfl
  | 0, g + 1, b, h, _ => by show [] = allF (g + 1) b; unfold allF; rw [next_short (by omega)]
  | f + 1, 0, b, _, h => by show allF (f + 1) b = []; unfold allF; rw [next_short (by omega)]
  | f + 1, g + 1, b, hf, hg => by
    unfold allF
    cases hn : nextF b with
    | none => rfl
    | some x =>
      have := (next_some hn).2.2
      exact congrArg _ (allF_more f g _ (by rw [List.length_drop]; omega) (by rw [List.length_drop]; omega))
theorem allB_none {b : Bs} (h : nextF b = none) : allB b = [] := by
  unfold allB
  cases hb : b.length with
  | zero => rfl
  | succ n => unfold allF; rw [h]
theorem allB_some {b x : Bs} (h : nextF b = some x) : allB b = x :: allB (b.drop (8 + x.length)) := by
  have := (next_some h).2.2
  unfold allB
  obtain ⟨m, hm⟩ : ∃ m, b.length = m + 1 := ⟨b.length - 1, by omega⟩
  rw [hm]
  conv => lhs; unfold allF
  rw [h]
  exact congrArg _ (allF_more _ _ _ (by rw [List.length_drop]; omega) (Nat.le_refl _))
theorem join_nil : joinF [] = [] := rfl
theorem join_cons (x : Bs) (l : List Bs) : joinF (x :: l) = encF x ++ joinF l := rfl
theorem join_append (a b : List Bs) : joinF (a ++ b) = joinF a ++ joinF b := by unfold joinF; simp
theorem lenF_cons (x : Bs) (l : List Bs) : lenF (x :: l) = 8 + x.length + lenF l := by unfold lenF; rw [join_cons, List.length_append, encF_length]
theorem all_short {b : Bs} (h : b.length < 8) : allB b = [] := allB_none (next_short h)
/-- What was joined is there again, with whatever of no frame behind it. -/
theorem all_join : ∀ (l : List Bs) (t : Bs), (∀ x ∈ l, x.length ≤ 65536) → nextF t = none → allB (joinF l ++ t) = l
  | [], t, _, ht => by rw [join_nil, List.nil_append]; exact allB_none ht
  | x :: l, t, h, ht => by
    have e : joinF (x :: l) ++ t = encF x ++ (joinF l ++ t) := by rw [join_cons, List.append_assoc]
    rw [e, allB_some (next_enc (h x (by simp)))]
    rw [show (encF x ++ (joinF l ++ t)).drop (8 + x.length) = joinF l ++ t from List.drop_left' (encF_length x)]
    rw [all_join l t (fun y hy => h y (by simp [hy])) ht]
/-- All of some bytes are at their front. -/
theorem all_front : ∀ (f : Nat) (b : Bs), b.length ≤ f → ∃ t, b = joinF (allB b) ++ t ∧ nextF t = none
  | f, b, h => by
    cases hn : nextF b with
    | none => exact ⟨b, by rw [allB_none hn, join_nil, List.nil_append], hn⟩
    | some x =>
      obtain ⟨h1, _, h3⟩ := next_some hn
      cases f with
      | zero => omega
      | succ f =>
        obtain ⟨t, ht, hn2⟩ := all_front f (b.drop (8 + x.length)) (by rw [List.length_drop]; omega)
        refine ⟨t, ?_, hn2⟩
        rw [allB_some hn, join_cons, List.append_assoc, ← ht]
        exact h1
theorem lenF_le (b : Bs) : lenF (allB b) ≤ b.length := by
  obtain ⟨t, h, _⟩ := all_front b.length b (Nat.le_refl _)
  have := congrArg List.length h
  rw [List.length_append] at this
  unfold lenF; omega

/-- What is cut off a frame is none. -/
theorem next_cut {x t : Bs} (hx : x.length ≤ 65536) {k : Nat} (hk : k < 8 + x.length) : nextF ((encF x ++ t).take k) = none := by
  cases hn : nextF ((encF x ++ t).take k) with
  | none => rfl
  | some y =>
    obtain ⟨_, h2, h3⟩ := next_some hn
    have e : nextF ((encF x ++ t).take k) = some y := hn
    unfold nextF at e
    split at e
    case isFalse => cases e
    case isTrue hi =>
      obtain ⟨h8, _, hl, _⟩ := hi
      have hk8 : 8 ≤ k := by rw [List.length_take] at h8; omega
      have ht : ((encF x ++ t).take k).take 4 = sizeF x := by
        rw [List.take_take, Nat.min_eq_left (by omega)]
        unfold encF; rw [List.append_assoc]; exact List.take_left' (beN_length _ _)
      rw [ht] at hl
      have e5 : valN (sizeF x) = x.length := by unfold sizeF; rw [val_be]; exact Nat.mod_eq_of_lt (by omega)
      rw [e5, List.length_take] at hl
      omega
end Go.Proofs.Ytojkifcclgecoaa
