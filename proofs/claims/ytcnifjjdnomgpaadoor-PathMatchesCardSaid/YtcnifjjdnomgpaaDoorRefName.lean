/-
  The contracts of the document's own answers: plain, Name.
-/
import Derived.Test.YtcnifjjdnomgpaaDoorRight
namespace Go.Proofs.YtcnifjjdnomgpaaDoor
open Go Go.RowKit Go.Shelf Go.Proofs
attribute [local go_sem] Oper.semAt_some

set_option maxHeartbeats 1000000 in
theorem refplain_any (c : Int) (w : World) (h0 : 0 ≤ c) (h1 : c ≤ 255) :
    Calls Tryd.prog 64 #[.int .u8 c] w fun e w' => e = .returned (.bool (plainI c)) ∧ w' = w := by
  go_enter Tryd.func64, Tryd.ntmps64
  go_wp2
  all_goals (go_ret; exact ⟨ret_bool (by unfold plainI; first | decide | (rw [Bool.eq_iff_iff]; simp <;> omega)), rfl⟩)

theorem refplain_byte (b : UInt8) (w : World) : Calls Tryd.prog 64 #[.int .u8 ↑b.toNat] w fun e w' => e = .returned (.bool (plainB b)) ∧ w' = w := by
  have := b.toNat_lt
  have h := refplain_any b.toNat w (by omega) (by omega)
  rwa [plainI_eq] at h

theorem nameB_eq (s : ByteArray) : nameB s.data.toList = (s.data.toList.all plainB && (decide (0 < s.size) && decide (s.size ≤ 30) && !(s.toList == [46]) && !(s.toList == [46, 46]))) := by
  have hl : s.data.toList.length = s.size := Array.length_toList
  have he : s.data.toList.isEmpty = !decide (0 < s.size) := by
    rw [← hl]; cases s.data.toList <;> simp
  have ho : okB [] = plainB := by funext c; unfold okB; simp
  unfold nameB speltB
  rw [he, ho, ByteArray.toList_eq, hl]
  cases s.data.toList.all plainB <;> cases decide (0 < s.size) <;> cases decide (s.size ≤ 30) <;> cases (s.data.toList == [46]) <;> cases (s.data.toList == [46, 46]) <;> rfl

set_option maxHeartbeats 2000000 in
theorem refname_any (s : ByteArray) (w : World) (hs : s.size ≤ maxLen) :
    Calls Tryd.prog 71 #[.string s] w fun e w' => e = .returned (.bool (nameB s.data.toList)) ∧ w' = w := by
  unfold maxLen at hs
  have hn := nameB_eq s
  obtain ⟨r, hr⟩ : ∃ r, nameB s.data.toList = r := ⟨_, rfl⟩
  rw [hr] at hn ⊢
  have HN := Lib.hid hn; clear hn hr
  go_enter Tryd.func71, Tryd.ntmps71
  go_wp2_with fail
  go_loop [3] (fun i => ∃ k : Nat, k ≤ s.size ∧ i = .int .i64 k ∧ Hid ((s.data.toList.take k).all plainB = true)) (fun i => s.size - (intOf i).toNat)
  case atStart => exact ⟨0, Nat.zero_le _, rfl, rfl⟩
  case round =>
    obtain ⟨k, hk, rfl, hall⟩ := hrel
    by_cases hlt : k < s.size
    · have hsn := all_snoc plainB s k hlt hall.out
      obtain ⟨b, hb⟩ : ∃ b, s[k] = b := ⟨_, rfl⟩
      have HS := Lib.hid hsn; clear hsn
      have HB := Lib.hid hb; clear hb
      cases hp : plainB b with
      | true =>
        have HP := Lib.hid hp; clear hp
        go_wp2_with (go_at_call 64; refine (refplain_byte _ _).mono ?_; rintro e w' ⟨rfl, rfl⟩; rw [HB.out, HP.out])
        go_round
        case rel => exact ⟨k + 1, by omega, by go_num, by unfold Hid; rw [HS.out, HB.out]; exact HP.out⟩
        case measure => simp [intOf]; omega
      | false =>
        have HP := Lib.hid hp; clear hp
        go_wp2_with (go_at_call 64; refine (refplain_byte _ _).mono ?_; rintro e w' ⟨rfl, rfl⟩; rw [HB.out, HP.out])
        go_ret
        exact ⟨ret_bool (by rw [HN.out, all_take_false _ s (k + 1) (by rw [HS.out, HB.out]; exact HP.out)]; rfl), rfl⟩
    · have ha : s.data.toList.all plainB = true := by
        have h := hall.out; rw [List.take_of_length_le (by rw [Array.length_toList]; show s.size ≤ k; omega)] at h; exact h
      have HN2 : Hid (r = (decide (0 < s.size) && decide (s.size ≤ 30) && !(s.toList == [46]) && !(s.toList == [46, 46]))) := by
        unfold Hid; rw [HN.out, ha]; rfl
      clear ha HN hall
      by_cases h0 : (0 : Int) < (s.size : Int)
      · have e0 : decide (0 < s.size) = true := decide_eq_true (by omega)
        by_cases h1 : (s.size : Int) ≤ 30
        · have e1 : decide (s.size ≤ 30) = true := decide_eq_true (by omega)
          cases h2 : (s.toList == [46]) with
          | true =>
            have g2 : (s.toList != [46]) = false := by unfold bne; rw [h2]; rfl
            have H := Lib.hid (show r = false by rw [HN2.out, e0, e1, h2]; rfl)
            clear HN2 e0 e1
            go_wp2_with fail
            go_ret
            exact ⟨ret_bool H.out.symm, rfl⟩
          | false =>
            have g2 : (s.toList != [46]) = true := by unfold bne; rw [h2]; rfl
            cases h3 : (s.toList == [46, 46]) with
            | true =>
              have g3 : (s.toList != [46, 46]) = false := by unfold bne; rw [h3]; rfl
              have H := Lib.hid (show r = false by rw [HN2.out, e0, e1, h2, h3]; rfl)
              clear HN2 e0 e1
              go_wp2_with fail
              go_ret
              exact ⟨ret_bool H.out.symm, rfl⟩
            | false =>
              have g3 : (s.toList != [46, 46]) = true := by unfold bne; rw [h3]; rfl
              have H := Lib.hid (show r = true by rw [HN2.out, e0, e1, h2, h3]; rfl)
              clear HN2 e0 e1
              go_wp2_with fail
              go_ret
              exact ⟨ret_bool H.out.symm, rfl⟩
        · have H := Lib.hid (show r = false by rw [HN2.out, e0, decide_eq_false (by omega)]; rfl)
          clear HN2 e0
          go_wp2_with fail
          go_ret
          exact ⟨ret_bool H.out.symm, rfl⟩
      · have H := Lib.hid (show r = false by rw [HN2.out, decide_eq_false (by omega)]; rfl)
        clear HN2
        go_wp2_with fail
        go_ret
        exact ⟨ret_bool H.out.symm, rfl⟩
end Go.Proofs.YtcnifjjdnomgpaaDoor
