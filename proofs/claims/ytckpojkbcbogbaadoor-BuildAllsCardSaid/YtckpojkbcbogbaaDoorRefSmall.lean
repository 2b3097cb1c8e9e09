/-
  The contracts of the document's own answers: slash, Dir, Base, Join, Under.
-/
import Derived.Test.YtckpojkbcbogbaaDoorBase
import Derived.Test.YtckpojkbcbogbaaDoorRefGlob
namespace Go.Proofs.YtckpojkbcbogbaaDoor
open Go Go.RowKit Go.Shelf Go.Proofs
attribute [local go_sem] Oper.semAt_some

set_option maxHeartbeats 1000000 in
theorem refslash_any (s : ByteArray) (w : World) (hs : s.size ≤ 1000000) :
    Calls Tryd.prog 53 #[.string s] w fun e w' => e = .returned (.int .i64 (Lib.lastIndexByte s 47)) ∧ w' = w := by
  have h0 : Lib.lastIdx s 47 0 = -1 := rfl
  go_enter Tryd.func53, Tryd.ntmps53
  go_wp2_with fail
  go_loop [3, 4] (fun v i => ∃ k : Nat, k ≤ s.size ∧ i = .int .i64 k ∧ v = .int .i64 (Lib.lastIdx s 47 k)) (fun _ i => s.size - (intOf i).toNat)
  case atStart => exact ⟨0, Nat.zero_le _, rfl, rfl⟩
  case round =>
    obtain ⟨k, hk, rfl, rfl⟩ := hrel
    by_cases hlt : k < s.size
    · have hb2 : s.data[k]! = s[k] := getElem!_pos s.data k hlt
      obtain ⟨b, hb⟩ : ∃ b, s[k] = b := ⟨_, rfl⟩
      rw [hb] at hb2
      by_cases hc : ((b.toNat : Int)) = 47
      · have hl := Lib.lastIdx_hit s 47 k (by rw [hb2]; exact hc)
        have hc2 : ((b.toNat : Int) == 47) = true := by rw [hc]; rfl
        have HL := Lib.hid hl; clear hl
        clear hb2
        go_wp2_with fail
        go_round
        case rel => exact ⟨k + 1, by omega, by go_num, by rw [HL.out]⟩
        case measure => simp [intOf]; omega
      · have hl := Lib.lastIdx_miss s 47 k (by rw [hb2]; exact hc)
        have hc2 : ((b.toNat : Int) == 47) = false := by rw [beq_eq_false_iff_ne]; exact hc
        have HL := Lib.hid hl; clear hl
        clear hb2
        go_wp2_with fail
        go_round
        case rel => exact ⟨k + 1, by omega, by go_num, by rw [HL.out]⟩
        case measure => simp [intOf]; omega
    · have hk2 : k = s.size := by omega
      subst hk2
      go_wp2_with fail
      go_ret
      exact ⟨rfl, rfl⟩

set_option maxHeartbeats 1000000 in
theorem refdir_any (s : ByteArray) (w : World) (hs : s.size ≤ 1000000) :
    Calls Tryd.prog 30 #[.string s] w fun e w' => e = .returned (.string (dirA s)) ∧ w' = w := by
  rcases Lib.lastIndexByte_spec s 47 with ⟨hk, _⟩ | ⟨i, hi, hk, _⟩
  · have hr : dirA s = ⟨#[]⟩ := by
      unfold dirA; rw [hk, ← data_mkB (s.extract _ _), Lib.extract_data]; rfl
    have HR := Lib.hid hr; clear hr
    have HK := Lib.hid hk; clear hk
    go_enter Tryd.func30, Tryd.ntmps30
    go_wp2_with fail
    refine (refslash_any s _ hs).mono ?_
    rintro e w' ⟨rfl, hw⟩
    have hw := hw.symm; subst hw
    rw [HK.out]
    go_wp2_with fail
    go_ret
    exact ⟨by rw [HR.out]; rfl, rfl⟩
  · have hr : dirA s = s.extract 0 i := by unfold dirA; rw [hk, Int.max_eq_left (by omega)]; rfl
    have HR := Lib.hid hr; clear hr
    have HK := Lib.hid hk; clear hk
    go_enter Tryd.func30, Tryd.ntmps30
    go_wp2_with fail
    refine (refslash_any s _ hs).mono ?_
    rintro e w' ⟨rfl, hw⟩
    have hw := hw.symm; subst hw
    rw [HK.out]
    go_wp2_with fail
    go_ret
    exact ⟨by rw [HR.out]; rfl, rfl⟩

set_option maxHeartbeats 1000000 in
theorem refbase_any (s : ByteArray) (w : World) (hs : s.size ≤ 1000000) :
    Calls Tryd.prog 28 #[.string s] w fun e w' => e = .returned (.string (baseA s)) ∧ w' = w := by
  rcases Lib.lastIndexByte_spec s 47 with ⟨hk, _⟩ | ⟨i, hi, hk, _⟩
  · have hr : baseA s = s := by unfold baseA; rw [hk]; simp
    have HR := Lib.hid hr; clear hr
    have HK := Lib.hid hk; clear hk
    go_enter Tryd.func28, Tryd.ntmps28
    go_wp2_with fail
    refine (refslash_any s _ hs).mono ?_
    rintro e w' ⟨rfl, hw⟩
    have hw := hw.symm; subst hw
    rw [HK.out]
    go_wp2_with fail
    go_ret
    exact ⟨by rw [HR.out]; rfl, rfl⟩
  · have hr : baseA s = s.extract (i + 1) s.size := by unfold baseA; rw [hk]; rfl
    have HR := Lib.hid hr; clear hr
    have HK := Lib.hid hk; clear hk
    go_enter Tryd.func28, Tryd.ntmps28
    go_wp2_with fail
    refine (refslash_any s _ hs).mono ?_
    rintro e w' ⟨rfl, hw⟩
    have hw := hw.symm; subst hw
    rw [HK.out]
    go_wp2_with fail
    go_ret
    exact ⟨by rw [HR.out]; rfl, rfl⟩

set_option maxHeartbeats 1000000 in
theorem refjoin_any (d s : ByteArray) (w : World) (hd : d.size ≤ 1000000) (hs : s.size ≤ 1000000) :
    Calls Tryd.prog 83 #[.string d, .string s] w fun e w' => e = .returned (.string (mkB (join2 d.data.toList s.data.toList))) ∧ w' = w := by
  by_cases h1 : d.toList = []
  · have g1 : d.toList.isEmpty = true := by simp [h1]
    have hr : mkB (join2 d.data.toList s.data.toList) = s := by unfold join2; rw [← ByteArray.toList_eq d, if_pos h1, data_mkB]
    have HR := Lib.hid hr; clear hr h1
    go_enter Tryd.func83, Tryd.ntmps83
    go_wp2_with fail
    go_ret
    exact ⟨by rw [HR.out]; rfl, rfl⟩
  · have g1 : d.toList.isEmpty = false := by simpa using h1
    by_cases h2 : s.toList = []
    · have g2 : s.toList.isEmpty = true := by simp [h2]
      have hr : mkB (join2 d.data.toList s.data.toList) = d := by unfold join2; rw [← ByteArray.toList_eq d, ← ByteArray.toList_eq s, if_neg h1, if_pos h2, ByteArray.toList_eq, data_mkB]
      have HR := Lib.hid hr; clear hr h1 h2
      go_enter Tryd.func83, Tryd.ntmps83
      go_wp2_with fail
      go_ret
      exact ⟨by rw [HR.out]; rfl, rfl⟩
    · have g2 : s.toList.isEmpty = false := by simpa using h2
      have hr : mkB (join2 d.data.toList s.data.toList) = d ++ ⟨#[47]⟩ ++ s := by
        unfold join2; rw [← ByteArray.toList_eq d, ← ByteArray.toList_eq s, if_neg h1, if_neg h2, ByteArray.toList_eq, ByteArray.toList_eq, ← data_mkB (d ++ ⟨#[47]⟩ ++ s)]
        congr 1
        simp only [ByteArray.data_append, Array.toList_append]
        simp
      have HR := Lib.hid hr; clear hr h1 h2
      go_enter Tryd.func83, Tryd.ntmps83
      go_wp2_with fail
      go_ret
      exact ⟨by rw [HR.out]; rfl, rfl⟩

theorem under2_parts (s d : ByteArray) (hd : d.toList ≠ []) (hl : d.size < s.size) :
    under2 s.data.toList d.data.toList = (((s.extract 0 d.size).toList == d.toList) && (((s[d.size]'hl).toNat : Int) == 47)) := by
  have e1 : d.data.toList.length = d.size := Array.length_toList
  have e2 : s.data.toList.length = s.size := Array.length_toList
  have he : d.data.toList.isEmpty = false := by rw [ByteArray.toList_eq] at hd; simpa using hd
  have hk : s.data.toList[d.size]? = some s[d.size] := by rw [List.getElem?_eq_getElem (by omega)]; rfl
  have hsp := drop_some hk
  unfold under2
  rw [he, Bool.false_or, ByteArray.toList_eq, ByteArray.toList_eq, Lib.extract_data, Bool.eq_iff_iff, List.isPrefixOf_iff_prefix, Bool.and_eq_true, beq_iff_eq, beq_iff_eq]
  have h47 : (s[d.size].toNat : Int) = 47 ↔ s[d.size] = 47 := by
    rw [← UInt8.toNat_inj]; show _ ↔ _ = 47; omega
  rw [h47]
  simp only [List.drop_zero, Nat.sub_zero]
  constructor
  · rintro ⟨t, ht⟩
    have h1 : s.data.toList.take d.size = d.data.toList := by rw [← ht, ← e1]; simp
    refine ⟨h1, ?_⟩
    have : s.data.toList[d.size]? = some 47 := by rw [← ht, ← e1]; simp
    rw [hk] at this; exact Option.some.inj this
  · rintro ⟨h1, h2⟩
    refine ⟨s.data.toList.drop (d.size + 1), ?_⟩
    conv => rhs; rw [← List.take_append_drop d.size s.data.toList, hsp, h1, h2]
    simp

end Go.Proofs.YtckpojkbcbogbaaDoor
