/-
  The contracts of rule.itself, ofToken, short, empty, Token, and of the document's own Sign, Token.
-/
import Derived.Test.YthkbpophckjdnaaDoorRlPlain
import Derived.Test.YthkbpophckjdnaaDoorConsists
import Derived.Laws.RangeAny
import Derived.Lib.Hide
import Derived.WalkKit
namespace Go.Proofs.YthkbpophckjdnaaDoor
open Go Go.RowKit Go.Shelf Go.Proofs
attribute [local go_sem] Oper.semAt_some

def selfI (c : Int) : Bool := (decide (33 ≤ c) && decide (c ≤ 126)) && !(c == 37)
theorem selfI_eq (b : UInt8) : selfI b.toNat = selfL b := by
  refine u8_all (p := fun b => selfI b.toNat = selfL b) ?_ b
  decide +kernel
def signI (c : Int) : Bool := (decide (97 ≤ c) && decide (c ≤ 122)) || (decide (65 ≤ c) && decide (c ≤ 90)) || (decide (48 ≤ c) && decide (c ≤ 57)) || c == 95
theorem signI_eq (b : UInt8) : signI b.toNat = signL b := by
  refine u8_all (p := fun b => signI b.toNat = signL b) ?_ b
  decide +kernel
theorem signI_high (c : Int) (h : 128 ≤ c) : signI c = false := by
  unfold signI
  simp only [Bool.or_eq_false_iff, Bool.and_eq_false_iff, decide_eq_false_iff_not, beq_eq_false_iff_ne]
  omega
theorem signL_high (b : UInt8) (h : 128 ≤ b.toNat) : signL b = false := by rw [← signI_eq, signI_high _ (by omega)]

set_option maxHeartbeats 1000000 in
theorem itself_any (c : Int) (w : World) (h0 : 0 ≤ c) (h1 : c ≤ 255) :
    Calls Tryd.prog 38 #[.int .u8 c] w fun e w' => e = .returned (.bool (selfI c)) ∧ w' = w := by
  go_enter Tryd.func38, Tryd.ntmps38
  go_wp2
  all_goals (go_ret; exact ⟨ret_bool (by unfold selfI; first | decide | (rw [Bool.eq_iff_iff]; simp <;> omega)), rfl⟩)
theorem itself_byte (b : UInt8) (w : World) : Calls Tryd.prog 38 #[.int .u8 ↑b.toNat] w fun e w' => e = .returned (.bool (selfL b)) ∧ w' = w := by
  have := b.toNat_lt
  have h := itself_any b.toNat w (by omega) (by omega)
  rwa [selfI_eq] at h
set_option maxHeartbeats 1000000 in
theorem ofToken_any (c : Int) (w : World) :
    Calls Tryd.prog 39 #[.int .i32 c] w fun e w' => e = .returned (.bool (signI c)) ∧ w' = w := by
  go_enter Tryd.func39, Tryd.ntmps39
  go_wp2
  all_goals (go_ret; exact ⟨ret_bool (by unfold signI; first | decide | (rw [Bool.eq_iff_iff]; simp <;> omega)), rfl⟩)
set_option maxHeartbeats 1000000 in
theorem rsign_any (c : Int) (w : World) (h0 : 0 ≤ c) (h1 : c ≤ 255) :
    Calls Tryd.prog 26 #[.int .u8 c] w fun e w' => e = .returned (.bool (signI c)) ∧ w' = w := by
  go_enter Tryd.func26, Tryd.ntmps26
  go_wp2
  all_goals (go_ret; exact ⟨ret_bool (by unfold signI; first | decide | (rw [Bool.eq_iff_iff]; simp <;> omega)), rfl⟩)
theorem rsign_byte (b : UInt8) (w : World) : Calls Tryd.prog 26 #[.int .u8 ↑b.toNat] w fun e w' => e = .returned (.bool (signL b)) ∧ w' = w := by
  have := b.toNat_lt
  have h := rsign_any b.toNat w (by omega) (by omega)
  rwa [signI_eq] at h
theorem iter_below (w : World) (s : ByteArray) (pos : Nat) : Below w.heap.size w (w.iter s pos) := (Below.refl _ w).alloc (Nat.le_refl _) _
theorem rl_size (s : ByteArray) : s.data.toList.length = s.size := Array.length_toList
theorem toList_nil {s : ByteArray} (h : s.toList.isEmpty = true) : s.data.toList = [] := by rw [← ByteArray.toList_eq]; simpa using h
theorem toList_cons {s : ByteArray} (h : s.toList.isEmpty = false) : s.data.toList.isEmpty = false := by rw [← ByteArray.toList_eq]; exact h
theorem token_full (s : ByteArray) (h : s.data.toList.all signL = true) : tokenL s.data.toList = !s.toList.isEmpty := by
  unfold tokenL
  rw [h, Bool.and_true, ByteArray.toList_eq]
theorem token_none (s : ByteArray) (h : s.data.toList.all signL = false) : tokenL s.data.toList = false := by unfold tokenL; rw [h, Bool.and_false]

set_option maxHeartbeats 1000000 in
theorem token_any (s : ByteArray) (w : World) (hs0 : s.size ≤ maxLen) :
    Calls Tryd.prog 19 #[.string s] w fun e w' => e = .returned (.bool (tokenL s.data.toList)) ∧ Below w.heap.size w w' := by
  have hs := hs0
  clear hs0
  unfold maxLen at hs
  have hl := rl_size s
  obtain ⟨r, hr⟩ : ∃ r, tokenL s.data.toList = r := ⟨_, rfl⟩
  rw [hr]
  have HR := Lib.hid hr; clear hr
  go_enter Tryd.func19, Tryd.ntmps19
  go_wp2_with fail
  go_loopw [4] (fun v4 w' => ∃ pos : Nat, w' = w.iter s pos ∧ pos ≤ s.size ∧ Hid ((s.data.toList.take pos).all signL = true)) (fun _ w' => s.size - w'.iterPos w.heap.size)
  case atStart => exact ⟨0, rfl, Nat.zero_le _, rfl⟩
  case round =>
    obtain ⟨pos, rfl, hps, hall⟩ := hrel
    by_cases hp : pos < s.size
    · have hsn := all_snoc signL s pos hp hall.out
      by_cases ha : (s[pos]'hp).toNat < 128
      · have hd := decode_ascii s pos hp ha
        obtain ⟨b, hb⟩ : ∃ b, s[pos] = b := ⟨_, rfl⟩
        rw [hb] at hsn hd
        have hnx : ∀ ty, (Instr.next (.pointer (some ⟨w.heap.size, 0, none⟩)) true ty).run Tryd.prog (w.iter s pos) = .ok (.tuple #[.bool true, .int .i64 pos, .int .i32 (b.toNat : Int)]) (w.iter s (pos + 1)) := fun ty => by
          rw [run_next_any w s pos ty hp, hd]
        have HT := Lib.hid (ofToken_any (b.toNat : Int))
        have hse := signI_eq b
        cases hp2 : signL b with
        | true =>
          rw [hp2] at hsn hse
          have HS := Lib.hid hsn
          have HSE := Lib.hid hse
          clear hsn hse hp2 hd hb ha hl
          go_wp2_with (go_at_call 39; refine (HT.out _).mono ?_; rintro e w' ⟨rfl, rfl⟩; rw [HSE.out])
          go_roundw
          case rel => exact ⟨pos + 1, rfl, by omega, HS.out⟩
          case measure => simp; omega
        | false =>
          rw [hp2] at hsn hse
          have HS := Lib.hid hsn
          have HSE := Lib.hid hse
          clear hsn hse hp2 hd hb ha hl
          go_wp2_with (go_at_call 39; refine (HT.out _).mono ?_; rintro e w' ⟨rfl, rfl⟩; rw [HSE.out])
          go_ret
          exact ⟨ret_bool (by rw [← HR.out, token_none s (all_take_false _ s (pos + 1) HS.out)]), iter_below w s (pos + 1)⟩
      · obtain ⟨c, k, hd⟩ : ∃ c k, Utf8.decode s pos = (c, k) := ⟨_, _, rfl⟩
        have hdh := decode_high s pos hp (by omega)
        rw [hd] at hdh
        have hnx : ∀ ty, (Instr.next (.pointer (some ⟨w.heap.size, 0, none⟩)) true ty).run Tryd.prog (w.iter s pos) = .ok (.tuple #[.bool true, .int .i64 pos, .int .i32 (c : Int)]) (w.iter s (pos + k)) := fun ty => by
          rw [run_next_any w s pos ty hp, hd]
        have HT := Lib.hid (ofToken_any (c : Int))
        have HSE := Lib.hid (signI_high (c : Int) (by have := hdh.1; simp only at this; omega))
        rw [signL_high _ (by omega)] at hsn
        have HS := Lib.hid hsn
        clear hsn hd hdh ha hl
        go_wp2_with (go_at_call 39; refine (HT.out _).mono ?_; rintro e w' ⟨rfl, rfl⟩; rw [HSE.out])
        go_ret
        exact ⟨ret_bool (by rw [← HR.out, token_none s (all_take_false _ s (pos + 1) HS.out)]), iter_below w s (pos + k)⟩
    · have hnx : ∀ ty, (Instr.next (.pointer (some ⟨w.heap.size, 0, none⟩)) true ty).run Tryd.prog (w.iter s pos) = _ := fun ty => run_next_end w s pos ty hp
      have hf : s.data.toList.all signL = true := by
        have h := hall.out; rw [List.take_of_length_le (by omega)] at h; exact h
      have HF := Lib.hid (token_full s hf)
      clear hf hl
      cases he : s.toList.isEmpty with
      | true =>
        go_wp2_with fail
        go_ret
        exact ⟨ret_bool (by rw [← HR.out, HF.out, he]; rfl), iter_below w s _⟩
      | false =>
        go_wp2_with fail
        go_ret
        exact ⟨ret_bool (by rw [← HR.out, HF.out, he]; rfl), iter_below w s _⟩

set_option maxHeartbeats 1000000 in
theorem rtoken_any (s : ByteArray) (w : World) (hs : s.size ≤ maxLen) :
    Calls Tryd.prog 20 #[.string s] w fun e w' => e = .returned (.bool (tokenL s.data.toList)) ∧ w' = w := by
  unfold maxLen at hs
  have hl := rl_size s
  obtain ⟨r, hr⟩ : ∃ r, tokenL s.data.toList = r := ⟨_, rfl⟩
  rw [hr]
  have HR := Lib.hid hr; clear hr
  go_enter Tryd.func20, Tryd.ntmps20
  go_wp2_with fail
  go_loop [3] (fun i => ∃ k : Nat, k ≤ s.size ∧ i = .int .i64 k ∧ Hid ((s.data.toList.take k).all signL = true)) (fun i => s.size - (intOf i).toNat)
  case atStart => exact ⟨0, Nat.zero_le _, rfl, rfl⟩
  case round =>
    obtain ⟨k, hk, rfl, hall⟩ := hrel
    by_cases hlt : k < s.size
    · have hsn := all_snoc signL s k hlt hall.out
      obtain ⟨b, hb⟩ : ∃ b, s[k] = b := ⟨_, rfl⟩
      have HS := Lib.hid hsn; clear hsn
      have HB := Lib.hid hb; clear hb
      cases hp : signL b with
      | true =>
        have HP := Lib.hid hp; clear hp
        go_wp2_with (go_at_call 26; refine (rsign_byte _ _).mono ?_; rintro e w' ⟨rfl, rfl⟩; rw [HB.out, HP.out])
        go_round
        case rel => exact ⟨k + 1, by omega, by go_num, by unfold Hid; rw [HS.out, HB.out]; exact HP.out⟩
        case measure => simp [intOf]; omega
      | false =>
        have HP := Lib.hid hp; clear hp
        go_wp2_with (go_at_call 26; refine (rsign_byte _ _).mono ?_; rintro e w' ⟨rfl, rfl⟩; rw [HB.out, HP.out])
        go_ret
        exact ⟨ret_bool (by rw [← HR.out, token_none s (all_take_false _ s (k + 1) _)]; rw [HS.out, HB.out]; exact HP.out), rfl⟩
    · have ha : s.data.toList.all signL = true := by
        have h := hall.out; rw [List.take_of_length_le (by omega)] at h; exact h
      have HF := Lib.hid (token_full s ha)
      clear ha
      have hz : (decide (0 < s.data.toList.length)) = !s.toList.isEmpty := by
        rw [ByteArray.toList_eq]
        cases s.data.toList <;> simp
      by_cases h0 : 0 < s.size
      · have g0 : (0 : Int) < (s.size : Int) := by omega
        rw [hl, decide_eq_true h0] at hz
        have HZ := Lib.hid hz; clear hz
        go_wp2_with fail
        go_ret
        exact ⟨ret_bool (by rw [← HR.out, HF.out, ← HZ.out]), rfl⟩
      · have g0 : ¬ (0 : Int) < (s.size : Int) := by omega
        rw [hl, decide_eq_false h0] at hz
        have HZ := Lib.hid hz; clear hz
        go_wp2_with fail
        go_ret
        exact ⟨ret_bool (by rw [← HR.out, HF.out, ← HZ.out]), rfl⟩
set_option maxHeartbeats 1000000 in
theorem short_any (s : ByteArray) (w : World) (hs : s.size ≤ maxLen) : Calls Tryd.prog 49 #[.string s] w fun e w' => e = .returned (.bool (decide (s.data.toList.length ≤ 100))) ∧ w' = w := by
  unfold maxLen at hs
  have hl := rl_size s
  by_cases h : s.size ≤ 100
  · have g : (s.size : Int) ≤ 100 := by omega
    rw [hl, decide_eq_true h]
    go_enter Tryd.func49, Tryd.ntmps49
    go_wp2_with fail
    go_ret
    exact ⟨rfl, rfl⟩
  · have g : ¬ (s.size : Int) ≤ 100 := by omega
    rw [hl, decide_eq_false h]
    go_enter Tryd.func49, Tryd.ntmps49
    go_wp2_with fail
    go_ret
    exact ⟨rfl, rfl⟩
theorem empty_any (s : ByteArray) (w : World) : Calls Tryd.prog 52 #[.string s] w fun e w' => e = .returned (.bool s.data.toList.isEmpty) ∧ w' = w := by
  rw [← ByteArray.toList_eq]
  cases h : s.toList.isEmpty with
  | true =>
    go_enter Tryd.func52, Tryd.ntmps52
    go_wp2_with fail
    go_ret
    exact ⟨rfl, rfl⟩
  | false =>
    go_enter Tryd.func52, Tryd.ntmps52
    go_wp2_with fail
    go_ret
    exact ⟨rfl, rfl⟩
end Go.Proofs.YthkbpophckjdnaaDoor
