/-
  The contracts of build.plain, Named, and of the document's own Named.
-/
import Derived.Test.YtckpojkbcbogbaaDoorBdPlain
import Derived.Test.YtckpojkbcbogbaaDoorConsists
import Derived.WalkKit
namespace Go.Proofs.YtckpojkbcbogbaaDoor
open Go Go.RowKit Go.Shelf Go.Proofs
attribute [local go_sem] Oper.semAt_some

def plainTI (c : Int) : Bool := (decide (97 ≤ c) && decide (c ≤ 122)) || (decide (48 ≤ c) && decide (c ≤ 57)) || c == 95
theorem plainTI_eq (b : UInt8) : plainTI b.toNat = plainT b := by
  have hb : ∀ k : Nat, k < 256 → ((b == UInt8.ofNat k) = ((b.toNat : Int) == (k : Int))) := fun k hk => by
    rw [Bool.eq_iff_iff, beq_iff_eq, beq_iff_eq, ← UInt8.toNat_inj, UInt8.toNat_ofNat']
    omega
  unfold plainTI plainT
  simp only [UInt8.le_iff_toNat_le]
  have h3 := hb 95 (by omega)
  simp only [show UInt8.ofNat 95 = 95 from rfl] at h3
  rw [h3]
  simp only [show (97 : UInt8).toNat = 97 from rfl, show (122 : UInt8).toNat = 122 from rfl, show (48 : UInt8).toNat = 48 from rfl, show (57 : UInt8).toNat = 57 from rfl]
  have e : ∀ a b : Nat, decide ((a : Int) ≤ (b : Int)) = decide (a ≤ b) := fun a b => by rw [Bool.eq_iff_iff]; simp
  rw [← e, ← e, ← e, ← e]
  rfl

set_option maxHeartbeats 1000000 in
theorem bdplain_any (c : Int) (w : World) (h0 : 0 ≤ c) (h1 : c ≤ 255) :
    Calls Tryd.prog 46 #[.int .u8 c] w fun e w' => e = .returned (.bool (plainTI c)) ∧ w' = w := by
  go_enter Tryd.func46, Tryd.ntmps46
  go_wp2
  all_goals (go_ret; exact ⟨ret_bool (by unfold plainTI; first | decide | (rw [Bool.eq_iff_iff]; simp <;> omega)), rfl⟩)
theorem bdplain_byte (b : UInt8) (w : World) : Calls Tryd.prog 46 #[.int .u8 ↑b.toNat] w fun e w' => e = .returned (.bool (plainT b)) ∧ w' = w := by
  have := b.toNat_lt
  have h := bdplain_any b.toNat w (by omega) (by omega)
  rwa [plainTI_eq] at h

theorem size_listT (s : ByteArray) : s.data.toList.length = s.size := Array.length_toList
set_option maxHeartbeats 1000000 in
theorem bnamed_any (s : ByteArray) (w : World) (hs : s.size ≤ maxLen) :
    Calls Tryd.prog 18 #[.string s] w fun e w' => e = .returned (.bool (namedT s.data.toList)) ∧ w' = w := by
  unfold maxLen at hs
  have hl := size_listT s
  by_cases h1 : s.toList = []
  · have g1 : s.toList.isEmpty = true := by simp [h1]
    have hr : namedT s.data.toList = false := by unfold namedT; rw [← ByteArray.toList_eq, h1]; rfl
    have HR := Lib.hid hr; clear hr h1 hl
    go_enter Tryd.func18, Tryd.ntmps18
    go_wp2_with fail
    go_ret
    exact ⟨ret_bool HR.out.symm, rfl⟩
  · have g1 : s.toList.isEmpty = false := by simpa using h1
    have h0 : 0 < s.data.toList.length := by
      rw [ByteArray.toList_eq] at h1
      exact List.length_pos_iff.2 h1
    by_cases h2 : s.size ≤ 20
    · have g2 : (s.size : Int) ≤ 20 := by omega
      have hr : namedT s.data.toList = s.data.toList.all plainT := by unfold namedT; rw [decide_eq_true h0, decide_eq_true (by omega)]; simp
      obtain ⟨r, hre⟩ : ∃ r, namedT s.data.toList = r := ⟨_, rfl⟩
      rw [hre] at hr ⊢
      have HR := Lib.hid hr; clear hr h1 h0 hre h2
      go_enter Tryd.func18, Tryd.ntmps18
      go_wp2_with fail
      clear g1
      go_loop [13] (fun i => ∃ k : Nat, k ≤ s.size ∧ i = .int .i64 k ∧ Hid ((s.data.toList.take k).all plainT = true)) (fun i => s.size - (intOf i).toNat)
      case atStart => exact ⟨0, Nat.zero_le _, rfl, rfl⟩
      case round =>
        obtain ⟨k, hk, rfl, hall⟩ := hrel
        by_cases hlt : k < s.size
        · have hsn := all_snoc plainT s k hlt hall.out
          obtain ⟨b, hb⟩ : ∃ b, s[k] = b := ⟨_, rfl⟩
          have HS := Lib.hid hsn; clear hsn
          have HB := Lib.hid hb; clear hb
          cases hp : plainT b with
          | true =>
            have HP := Lib.hid hp; clear hp
            go_wp2_with (go_at_call 46; refine (bdplain_byte _ _).mono ?_; rintro e w' ⟨rfl, rfl⟩; rw [HB.out, HP.out])
            go_round
            case rel => exact ⟨k + 1, by omega, by go_num, by unfold Hid; rw [HS.out, HB.out]; exact HP.out⟩
            case measure => simp [intOf]; omega
          | false =>
            have HP := Lib.hid hp; clear hp
            go_wp2_with (go_at_call 46; refine (bdplain_byte _ _).mono ?_; rintro e w' ⟨rfl, rfl⟩; rw [HB.out, HP.out])
            go_ret
            exact ⟨ret_bool (by rw [HR.out, all_take_false _ s (k + 1)]; rw [HS.out, HB.out]; exact HP.out), rfl⟩
        · have ha : s.data.toList.all plainT = true := by
            have h := hall.out; rw [List.take_of_length_le (by rw [Array.length_toList]; show s.size ≤ k; omega)] at h; exact h
          have HA := Lib.hid ha; clear ha
          go_wp2_with fail
          go_ret
          exact ⟨ret_bool (by rw [HR.out, HA.out]), rfl⟩
    · have g2 : 20 < (s.size : Int) := by omega
      have hr : namedT s.data.toList = false := by unfold namedT; rw [decide_eq_false (p := s.data.toList.length ≤ 20) (by omega)]; simp
      have HR := Lib.hid hr; clear hr h1 h0 hl h2
      go_enter Tryd.func18, Tryd.ntmps18
      go_wp2_with fail
      go_ret
      exact ⟨ret_bool HR.out.symm, rfl⟩

set_option maxRecDepth 100000 in
set_option maxHeartbeats 4000000 in
theorem brefnamed_any (s : ByteArray) (w : World) (hs : s.size ≤ maxLen) :
    Calls Tryd.prog 82 #[.string s] w fun e w' => e = .returned (.bool (namedT s.data.toList)) ∧ w' = w := by
  unfold maxLen at hs
  have hl := size_listT s
  have hn : namedT s.data.toList = (s.data.toList.all plainT && (decide ((1 : Int) ≤ (s.size : Int)) && decide ((s.size : Int) ≤ 20))) := by
    unfold namedT
    rw [show decide ((1 : Int) ≤ (s.size : Int)) = decide (0 < s.data.toList.length) from by rw [hl, Bool.eq_iff_iff]; simp; omega, show decide ((s.size : Int) ≤ 20) = decide (s.data.toList.length ≤ 20) from by rw [hl, Bool.eq_iff_iff]; simp; omega, Bool.and_comm]
  obtain ⟨r, hr⟩ : ∃ r, namedT s.data.toList = r := ⟨_, rfl⟩
  rw [hr] at hn ⊢
  have HN := Lib.hid hn; clear hn hr hl
  go_enter Tryd.func82, Tryd.ntmps82
  go_wp2_with fail
  go_loop [3] (fun i => ∃ k : Nat, k ≤ s.size ∧ i = .int .i64 k ∧ Hid ((s.data.toList.take k).all plainT = true)) (fun i => s.size - (intOf i).toNat)
  case atStart => exact ⟨0, Nat.zero_le _, rfl, rfl⟩
  case round =>
    obtain ⟨k, hk, rfl, hall⟩ := hrel
    by_cases hlt : k < s.size
    · have hsn := all_snoc plainT s k hlt hall.out
      obtain ⟨b, hb⟩ : ∃ b, s[k] = b := ⟨_, rfl⟩
      have hpn := plainTI_eq b
      have hb0 := b.toNat_lt
      obtain ⟨c, hc⟩ : ∃ c : Int, (b.toNat : Int) = c := ⟨_, rfl⟩
      have hc0 : 0 ≤ c := by omega
      have hc1 : c ≤ 255 := by omega
      rw [hc] at hpn
      have HS := Lib.hid hsn; clear hsn
      have HC := Lib.hid hc
      have HPN := Lib.hid hpn; clear hpn
      by_cases c1 : 97 ≤ c
      · by_cases c2 : c ≤ 122
        · have HP : Hid (plainT b = true) := by unfold Hid; rw [← HPN.out]; unfold plainTI; simp [c1, c2]
          go_wp2_with fail
          go_round
          case rel => exact ⟨k + 1, by omega, by go_num, by unfold Hid; rw [HS.out, hb]; exact HP.out⟩
          case measure => simp [intOf]; omega
        · have HP : Hid (plainT b = false) := by unfold Hid; rw [← HPN.out]; unfold plainTI; rw [Bool.eq_false_iff]; simp; omega
          have d1 : 48 ≤ c := by omega
          have d2 : ¬ c ≤ 57 := by omega
          have d3 : (c == 95) = false := by rw [beq_eq_false_iff_ne]; omega
          go_wp2_with fail
          go_ret
          exact ⟨ret_bool (by rw [HN.out, all_take_false _ s (k + 1) (by rw [HS.out, hb]; exact HP.out)]; rfl), rfl⟩
      · by_cases c3 : 48 ≤ c
        · by_cases c4 : c ≤ 57
          · have HP : Hid (plainT b = true) := by unfold Hid; rw [← HPN.out]; unfold plainTI; simp [c3, c4]
            go_wp2_with fail
            go_round
            case rel => exact ⟨k + 1, by omega, by go_num, by unfold Hid; rw [HS.out, hb]; exact HP.out⟩
            case measure => simp [intOf]; omega
          · by_cases c5 : c = 95
            · have HP : Hid (plainT b = true) := by unfold Hid; rw [← HPN.out]; unfold plainTI; simp [c5]
              go_wp2_with fail
              go_round
              case rel => exact ⟨k + 1, by omega, by go_num, by unfold Hid; rw [HS.out, hb]; exact HP.out⟩
              case measure => simp [intOf]; omega
            · have HP : Hid (plainT b = false) := by unfold Hid; rw [← HPN.out]; unfold plainTI; rw [Bool.eq_false_iff]; simp; omega
              have d3 : (c == 95) = false := by rw [beq_eq_false_iff_ne]; omega
              clear c5
              go_wp2_with fail
              go_ret
              exact ⟨ret_bool (by rw [HN.out, all_take_false _ s (k + 1) (by rw [HS.out, hb]; exact HP.out)]; rfl), rfl⟩
        · have c5 : (c == 95) = false := by rw [beq_eq_false_iff_ne]; omega
          have HP : Hid (plainT b = false) := by unfold Hid; rw [← HPN.out]; unfold plainTI; rw [Bool.eq_false_iff]; simp; omega
          go_wp2_with fail
          go_ret
          exact ⟨ret_bool (by rw [HN.out, all_take_false _ s (k + 1) (by rw [HS.out, hb]; exact HP.out)]; rfl), rfl⟩
    · have ha : s.data.toList.all plainT = true := by
        have h := hall.out; rw [List.take_of_length_le (by rw [Array.length_toList]; show s.size ≤ k; omega)] at h; exact h
      have HN2 : Hid (r = (decide ((1 : Int) ≤ (s.size : Int)) && decide ((s.size : Int) ≤ 20))) := by
        unfold Hid; rw [HN.out, ha]; rfl
      clear ha HN hall
      by_cases h0 : (1 : Int) ≤ (s.size : Int)
      · by_cases h1 : (s.size : Int) ≤ 20
        · have H := Lib.hid (show r = true by rw [HN2.out, decide_eq_true h0, decide_eq_true h1]; rfl)
          clear HN2
          go_wp2_with fail
          go_ret
          exact ⟨ret_bool H.out.symm, rfl⟩
        · have H := Lib.hid (show r = false by rw [HN2.out, decide_eq_false h1]; simp)
          clear HN2
          go_wp2_with fail
          go_ret
          exact ⟨ret_bool H.out.symm, rfl⟩
      · have H := Lib.hid (show r = false by rw [HN2.out, decide_eq_false h0]; simp)
        clear HN2
        go_wp2_with fail
        go_ret
        exact ⟨ret_bool H.out.symm, rfl⟩
end Go.Proofs.YtckpojkbcbogbaaDoor
