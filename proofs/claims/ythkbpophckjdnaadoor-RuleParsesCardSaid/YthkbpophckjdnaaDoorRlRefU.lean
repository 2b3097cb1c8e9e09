/-
  The document's own: a digit, and the text that a word stands for.
-/
import Derived.Test.YthkbpophckjdnaaDoorRlUnq2
import Derived.Test.YthkbpophckjdnaaDoorRlRefQ
import Derived.Deep.Cut
namespace Go.Proofs.YthkbpophckjdnaaDoor
open Go Go.RowKit Go.Shelf Go.Proofs
attribute [local go_sem] Oper.semAt_some

theorem drop_at (s : ByteArray) (k : Nat) (h : k < s.size) : s.data.toList.drop k = s[k] :: s.data.toList.drop (k + 1) := by
  rw [List.drop_eq_getElem_cons (by rw [rl_size]; exact h)]; rfl
theorem step_none (s : ByteArray) (k : Nat) (h : k < s.size) (hn : s[k] ≠ 37 ∨ s.size ≤ k + 2 ∨ ∃ h2 : k + 2 < s.size, isHexL s[k + 1] = false ∨ isHexL s[k + 2] = false) :
    decU (s.data.toList.drop k) = s[k] :: decU (s.data.toList.drop (k + 1)) := by
  rw [drop_at s k h]
  by_cases h2 : k + 2 < s.size
  · rw [drop_at s (k + 1) (by omega), drop_at s (k + 1 + 1) (by omega), decU]
    have he : escL s[k] s[k + 1] s[k + 1 + 1] = false := by
      unfold escL
      rw [Bool.and_eq_false_iff, Bool.and_eq_false_iff]
      rcases hn with hn | hn | ⟨_, hn | hn⟩
      · exact .inl (.inl (beq_eq_false_iff_ne.2 hn))
      · omega
      · exact .inl (.inr hn)
      · exact .inr hn
    rw [he, if_neg (by simp)]
  · have hl : (s.data.toList.drop (k + 1)).length ≤ 1 := by rw [List.length_drop, rl_size]; omega
    match s.data.toList.drop (k + 1), hl with
    | [], _ => rfl
    | [b], _ => rfl
theorem step_esc (s : ByteArray) (k : Nat) (h : k + 2 < s.size) (h0 : s[k] = 37) (h1 : isHexL s[k + 1] = true) (h2 : isHexL s[k + 2] = true) :
    decU (s.data.toList.drop k) = (16 * hexL s[k + 1] + hexL s[k + 2]) :: decU (s.data.toList.drop (k + 3)) := by
  rw [drop_at s k (by omega), drop_at s (k + 1) (by omega), drop_at s (k + 1 + 1) (by omega), decU]
  have he : escL s[k] s[k + 1] s[k + 1 + 1] = true := by
    unfold escL
    rw [h0, h1, show isHexL s[k + 1 + 1] = true from h2]; rfl
  rw [he, if_pos rfl]
def digV (x : UInt8) : Int := if isHexL x then ((hexL x).toNat : Int) else -1
theorem digV_at : ∀ i : Fin 16, digV (digL (UInt8.ofNat i.val)) = i.val := by decide +kernel
theorem digV_none (x : UInt8) (h : ∀ i : Fin 16, digL (UInt8.ofNat i.val) ≠ x) : digV x = -1 := u8_all (p := fun x => (∀ i : Fin 16, digL (UInt8.ofNat i.val) ≠ x) → digV x = -1) (by decide +kernel) x h
set_option maxHeartbeats 2000000 in
theorem digit_any (x : UInt8) (w : World) : Calls Tryd.prog 37 #[.int .u8 x.toNat] w fun e w' => e = .returned (.int .i64 (digV x)) ∧ w' = w := by
  obtain ⟨V, hV⟩ : ∃ V, digV x = V := ⟨_, rfl⟩
  rw [hV]
  have HV := Lib.hid hV
  clear hV
  go_enter Tryd.func37, Tryd.ntmps37
  go_wp2_with fail
  go_loop [3] (fun i => ∃ k : Nat, k ≤ 16 ∧ i = .int .i64 k ∧ Hid (∀ j : Fin 16, j.val < k → digL (UInt8.ofNat j.val) ≠ x)) (fun i => 16 - (intOf i).toNat)
  case atStart => exact ⟨0, Nat.zero_le _, rfl, fun j hj => absurd hj (Nat.not_lt_zero _)⟩
  case round =>
    obtain ⟨k, hk, rfl, HN⟩ := hrel
    by_cases h1 : k < 16
    · have k1 : (k : Int) < 16 := by omega
      have hd := dig_at ⟨k, h1⟩
      simp only at hd
      obtain ⟨d, hdd⟩ : ∃ d, digL (UInt8.ofNat k) = d := ⟨_, rfl⟩
      rw [hdd] at hd
      have HDD := Lib.hid hdd
      clear hdd
      by_cases hx : d = x
      · subst hx
        have hv : V = (k : Int) := by rw [← HV.out, ← HDD.out]; exact digV_at ⟨k, h1⟩
        subst hv
        go_wp2_with fail
        go_ret
        exact ⟨rfl, rfl⟩
      · have hne : ((d.toNat : Int) == (x.toNat : Int)) = false := by
          rw [beq_eq_false_iff_ne]; intro e; exact hx (UInt8.toNat_inj.1 (by omega))
        go_wp2_with fail
        go_round
        case rel =>
          refine ⟨k + 1, by omega, by go_num, fun j hj => ?_⟩
          by_cases hjk : j.val < k
          · exact HN.out j hjk
          · have : j.val = k := by omega
            rw [this, HDD.out]; exact hx
        case measure => simp [intOf]; omega
    · obtain rfl : k = 16 := by omega
      have hv : V = -1 := by rw [← HV.out]; exact digV_none x fun i => HN.out i i.isLt
      subst hv
      go_wp2_with fail
      go_ret
      exact ⟨rfl, rfl⟩
end Go.Proofs.YthkbpophckjdnaaDoor
