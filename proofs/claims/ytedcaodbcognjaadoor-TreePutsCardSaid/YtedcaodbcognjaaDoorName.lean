/-
  The contracts of path.plain, spelt, name, pattern, consistsOf, Right, Glob.
-/
import Derived.Test.YtedcaodbcognjaaDoorSplit
import Derived.BigQuiet
import Derived.Deep.QuietTactic
namespace Go.Proofs.YtedcaodbcognjaaDoor
open Go Go.RowKit Go.Shelf Go.Proofs
attribute [local go_sem] Oper.semAt_some

def plainI (c : Int) : Bool := (decide (97 ≤ c) && decide (c ≤ 122)) || (decide (65 ≤ c) && decide (c ≤ 90)) || (decide (48 ≤ c) && decide (c ≤ 57)) || c == 46 || c == 95 || c == 45
theorem plainI_eq (b : UInt8) : plainI b.toNat = plainB b := by
  have hb : ∀ k : Nat, k < 256 → ((b == UInt8.ofNat k) = ((b.toNat : Int) == (k : Int))) := fun k hk => by
    rw [Bool.eq_iff_iff, beq_iff_eq, beq_iff_eq, ← UInt8.toNat_inj, UInt8.toNat_ofNat']
    omega
  unfold plainI plainB
  simp only [UInt8.le_iff_toNat_le]
  have h1 := hb 46 (by omega); have h2 := hb 95 (by omega); have h3 := hb 45 (by omega)
  simp only [show UInt8.ofNat 46 = 46 from rfl, show UInt8.ofNat 95 = 95 from rfl, show UInt8.ofNat 45 = 45 from rfl] at h1 h2 h3
  rw [h1, h2, h3]
  simp only [show (97 : UInt8).toNat = 97 from rfl, show (122 : UInt8).toNat = 122 from rfl, show (65 : UInt8).toNat = 65 from rfl, show (90 : UInt8).toNat = 90 from rfl, show (48 : UInt8).toNat = 48 from rfl, show (57 : UInt8).toNat = 57 from rfl]
  have e : ∀ a b : Nat, decide ((a : Int) ≤ (b : Int)) = decide (a ≤ b) := fun a b => by rw [Bool.eq_iff_iff]; simp
  rw [← e, ← e, ← e, ← e, ← e, ← e]
  rfl

theorem ret_bool {a b : Bool} (h : a = b) : Ending.returned (.bool a) = .returned (.bool b) := by rw [h]

set_option maxHeartbeats 1000000 in
theorem plain_any (c : Int) (w : World) (h0 : 0 ≤ c) (h1 : c ≤ 255) :
    Calls Tryd.prog 87 #[.int .u8 c] w fun e w' => e = .returned (.bool (plainI c)) ∧ w' = w := by
  go_enter Tryd.func87, Tryd.ntmps87
  go_wp2
  all_goals (go_ret; exact ⟨ret_bool (by unfold plainI; first | decide | (rw [Bool.eq_iff_iff]; simp <;> omega)), rfl⟩)

theorem plain_byte (b : UInt8) (w : World) : Calls Tryd.prog 87 #[.int .u8 ↑b.toNat] w fun e w' => e = .returned (.bool (plainB b)) ∧ w' = w := by
  have := b.toNat_lt
  have h := plain_any b.toNat w (by omega) (by omega)
  rwa [plainI_eq] at h

theorem index_byte (s : ByteArray) (b : UInt8) (w : World) : Calls Tryd.prog 88 #[.string s, .int .u8 ↑b.toNat] w fun e w' => e = .returned (.int .i64 (Lib.indexByte s.data.toList b)) ∧ w' = w := by
  have h := Tryd.strings_IndexByte s (b.toNat : Int) w
  have e : ((b.toNat : Int).toNat.toUInt8) = b := by simp
  rwa [e] at h

theorem indexByte_neg (c : UInt8) : ∀ l : Bs, Lib.indexByte l c < 0 ↔ l.contains c = false
  | [] => by simp [Lib.indexByte]
  | b :: r => by
    have hge := Lib.indexByte_ge r c
    have ih := indexByte_neg c r
    unfold Lib.indexByte
    by_cases hb : (b == c) = true
    · simp only [hb, if_true, List.contains_cons]
      have : (c == b) = true := by rw [beq_iff_eq] at hb ⊢; exact hb.symm
      simp [this]
    · have hb' : (b == c) = false := by simpa using hb
      have hc : (c == b) = false := by rw [beq_eq_false_iff_ne] at hb' ⊢; exact fun e => hb' e.symm
      simp only [hb', Bool.false_eq_true, if_false, List.contains_cons, hc, Bool.false_or]
      by_cases e : Lib.indexByte r c = -1
      · rw [if_pos (by simpa using e), ← ih]; omega
      · rw [if_neg (by simpa using e), ← ih]; omega

theorem take_snoc (s : ByteArray) (k : Nat) (h : k < s.size) : s.data.toList.take (k + 1) = s.data.toList.take k ++ [s[k]] := by
  rw [List.take_succ_eq_append_getElem (by simpa using h)]; rfl
theorem all_snoc (p : UInt8 → Bool) (s : ByteArray) (k : Nat) (h : k < s.size) (ha : (s.data.toList.take k).all p = true) : (s.data.toList.take (k + 1)).all p = p s[k] := by
  rw [take_snoc s k h, List.all_append, ha]; simp
theorem all_take_false (p : UInt8 → Bool) (s : ByteArray) (k : Nat) (h : (s.data.toList.take k).all p = false) : s.data.toList.all p = false := by
  cases e : s.data.toList.all p with
  | false => rfl
  | true =>
    have := List.all_eq_true.1 e
    rw [← h]
    symm
    exact List.all_eq_true.2 fun x hx => this x (List.mem_of_mem_take hx)

def allOk (wild : Bs) (s : ByteArray) : Bool := s.data.toList.all (okB wild)
set_option maxHeartbeats 1000000 in
theorem spelt_bad (s wild : ByteArray) (w : World) (hs : s.size ≤ maxLen) (h : s.toList = [] ∨ s.toList = [46] ∨ s.toList = [46, 46] ∨ 30 < s.size) :
    Calls Tryd.prog 75 #[.string s, .string wild] w fun e w' => e = .returned (.bool false) ∧ w' = w := by
  unfold maxLen at hs
  by_cases h1 : s.toList = []
  · have g1 : s.toList.isEmpty = true := by simp [h1]
    clear h h1
    go_enter Tryd.func75, Tryd.ntmps75
    go_wp2_with fail
    go_ret
    exact ⟨rfl, rfl⟩
  · have g1 : s.toList.isEmpty = false := by simpa using h1
    by_cases h2 : s.toList = [46]
    · have g2 : (s.toList == [46]) = true := by simp [h2]
      clear h h1 h2
      go_enter Tryd.func75, Tryd.ntmps75
      go_wp2_with fail
      go_ret
      exact ⟨rfl, rfl⟩
    · have g2 : (s.toList == [46]) = false := by simpa using h2
      by_cases h3 : s.toList = [46, 46]
      · have g3 : (s.toList == [46, 46]) = true := by simp [h3]
        clear h h1 h2 h3
        go_enter Tryd.func75, Tryd.ntmps75
        go_wp2_with fail
        go_ret
        exact ⟨rfl, rfl⟩
      · have g3 : (s.toList == [46, 46]) = false := by simpa using h3
        have h4 : 30 < (s.size : Int) := by
          rcases h with h | h | h | h
          · exact absurd h h1
          · exact absurd h h2
          · exact absurd h h3
          · omega
        clear h h1 h2 h3
        go_enter Tryd.func75, Tryd.ntmps75
        go_wp2_with fail
        go_ret
        exact ⟨rfl, rfl⟩

set_option maxHeartbeats 1000000 in
theorem spelt_good (s wild : ByteArray) (w : World) (h1 : ¬ s.toList = []) (h2 : ¬ s.toList = [46]) (h3 : ¬ s.toList = [46, 46]) (h4 : s.size ≤ 30) :
    Calls Tryd.prog 75 #[.string s, .string wild] w fun e w' => e = .returned (.bool (allOk wild.data.toList s)) ∧ w' = w := by
  have g1 : s.toList.isEmpty = false := by simpa using h1
  have g2 : (s.toList == [46]) = false := by simpa using h2
  have g3 : (s.toList == [46, 46]) = false := by simpa using h3
  have g4 : (s.size : Int) ≤ 30 := by omega
  clear h1 h2 h3
  go_enter Tryd.func75, Tryd.ntmps75
  go_wp2_with fail
  clear g1 g2 g3
  go_loop [23] (fun i => ∃ k : Nat, k ≤ s.size ∧ i = .int .i64 k ∧ Hid ((s.data.toList.take k).all (okB wild.data.toList) = true)) (fun i => s.size - (intOf i).toNat)
  case atStart => exact ⟨0, Nat.zero_le _, rfl, rfl⟩
  case round =>
    obtain ⟨k, hk, rfl, hall⟩ := hrel
    by_cases hlt : k < s.size
    · have hsn := all_snoc (okB wild.data.toList) s k hlt hall.out
      obtain ⟨b, hb⟩ : ∃ b, s[k] = b := ⟨_, rfl⟩
      have HS := Lib.hid hsn; clear hsn
      by_cases hp : plainB b = true
      · have HP := Lib.hid hp; clear hp
        have HB := Lib.hid hb; clear hb
        go_wp2_with (go_at_call 87; refine (plain_byte _ _).mono ?_; rintro e w' ⟨rfl, rfl⟩; rw [HB.out, HP.out])
        go_round
        case rel => exact ⟨k + 1, by omega, by go_num, by unfold Hid; rw [HS.out, HB.out]; simp [okB, HP.out]⟩
        case measure => simp [intOf]; omega
      · have hp' : plainB b = false := by simpa using hp
        have hn := indexByte_neg b wild.data.toList
        by_cases hi : Lib.indexByte wild.data.toList b < 0
        · have hc := hn.1 hi
          have HP := Lib.hid hp'; clear hp' hp
          have HB := Lib.hid hb; clear hb
          have HC := Lib.hid hc; clear hc hn
          go_wp2_with (first | (go_at_call 87; refine (plain_byte _ _).mono ?_; rintro e w' ⟨rfl, rfl⟩; rw [HB.out, HP.out]) | (go_at_call 88; refine (index_byte _ _ _).mono ?_; rintro e w' ⟨rfl, rfl⟩; rw [HB.out]))
          go_ret
          exact ⟨ret_bool (by unfold allOk; rw [all_take_false _ s (k + 1)]; rw [HS.out, HB.out]; unfold okB; rw [HP.out, HC.out]; rfl), rfl⟩
        · have hc : wild.data.toList.contains b = true := by
            cases e : wild.data.toList.contains b with
            | true => rfl
            | false => exact absurd (hn.2 e) hi
          have hi2 : 0 ≤ Lib.indexByte wild.data.toList b := by omega
          have HP := Lib.hid hp'; clear hp' hp
          have HB := Lib.hid hb; clear hb
          have HC := Lib.hid hc; clear hc hn hi
          go_wp2_with (first | (go_at_call 87; refine (plain_byte _ _).mono ?_; rintro e w' ⟨rfl, rfl⟩; rw [HB.out, HP.out]) | (go_at_call 88; refine (index_byte _ _ _).mono ?_; rintro e w' ⟨rfl, rfl⟩; rw [HB.out]))
          go_round
          case rel => exact ⟨k + 1, by omega, by go_num, by unfold Hid; rw [HS.out, HB.out]; unfold okB; rw [HC.out]; simp⟩
          case measure => simp [intOf]; omega
    · go_wp2
      go_ret
      exact ⟨ret_bool (by unfold allOk; have h := hall.out; rw [List.take_of_length_le (by rw [Array.length_toList]; show s.size ≤ k; omega)] at h; exact h.symm), rfl⟩

theorem spelt_any (s wild : ByteArray) (w : World) (hs : s.size ≤ maxLen) :
    Calls Tryd.prog 75 #[.string s, .string wild] w fun e w' => e = .returned (.bool (speltB wild.data.toList s.data.toList)) ∧ w' = w := by
  have hl : s.data.toList.length = s.size := by rw [Array.length_toList]; rfl
  by_cases h : s.toList = [] ∨ s.toList = [46] ∨ s.toList = [46, 46] ∨ 30 < s.size
  · refine (spelt_bad s wild w hs h).mono fun e w' ⟨he, hw⟩ => ⟨?_, hw⟩
    rw [he]
    refine ret_bool ?_
    rw [ByteArray.toList_eq] at h
    unfold speltB
    rcases h with h | h | h | h
    · simp [h]
    · simp [h]
    · simp [h]
    · simp [hl]; intros; omega
  · simp only [not_or] at h
    refine (spelt_good s wild w h.1 h.2.1 h.2.2.1 (by omega)).mono fun e w' ⟨he, hw⟩ => ⟨?_, hw⟩
    rw [he]
    refine ret_bool ?_
    rw [ByteArray.toList_eq] at h
    unfold speltB
    have h1 : s.data.toList.isEmpty = false := by simpa using h.1
    have h2 : (s.data.toList == [46]) = false := by simpa using h.2.1
    have h3 : (s.data.toList == [46, 46]) = false := by simpa using h.2.2.1
    rw [h1, h2, h3, decide_eq_true (by omega)]; rfl
end Go.Proofs.YtedcaodbcognjaaDoor
