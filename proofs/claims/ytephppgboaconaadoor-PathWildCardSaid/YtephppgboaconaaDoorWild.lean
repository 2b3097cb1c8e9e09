/-
  The walk of the law PathWild.
-/
import Derived.Test.YtephppgboaconaaDoorWildLaws
import Derived.Test.YtephppgboaconaaDoorBack
namespace Go.Proofs.YtephppgboaconaaDoor
open Go Go.RowKit Go.Shelf Go.Proofs

theorem base_match (s : ByteArray) (hr : rightB s.data.toList = true) : matchB (⟨#[42, 42, 47]⟩ ++ baseA s).data.toList s.data.toList = true := by
  obtain ⟨F, hF⟩ := last_name s.data.toList
  have := wild_last _ _ hr F hF
  simp only [ByteArray.data_append, Array.toList_append, base_list]
  exact this

set_option maxHeartbeats 2000000 in
theorem wild_wrong (s : ByteArray) (a : Int) (w : World) (hs : s.size ≤ 140737488351232) (hm : MaxOk w) (h : 90 < s.size ∨ rightB s.data.toList = false) :
    Calls Tryd.prog 6 #[.string s, .int .u8 a] w fun e w' => e = .returned (.bool true) ∧ Below w.heap.size w w' := by
  by_cases h0 : 90 < s.size
  · have h1 : (90 : Int) < (s.size : Int) := by omega
    clear h
    go_enter Tryd.func6, Tryd.ntmps6
    go_wp2_with fail
    refine (known_any _ hm).mono ?_
    rintro e w1 ⟨rfl, hb1⟩
    go_wp2_with fail
    go_ret
    exact ⟨rfl, hb1⟩
  · have h1 : (s.size : Int) ≤ 90 := by omega
    have HR := Lib.hid (h.resolve_left h0); clear h h0
    go_enter Tryd.func6, Tryd.ntmps6
    go_wp2_with fail
    refine (right_to s false _ (by unfold maxLen; omega) hm HR.out).mono ?_
    rintro e w1 ⟨rfl, hb1⟩
    have hm1 := hm.below hb1
    go_wp2_with fail
    refine (known_any _ hm1).mono ?_
    rintro e w2 ⟨rfl, hb2⟩
    have hb3 := hb1.trans (hb2.mono hb1.size)
    go_wp2_with fail
    go_ret
    exact ⟨rfl, hb3⟩

set_option maxHeartbeats 8000000 in
theorem wild_right (s : ByteArray) (a : Int) (w : World) (ha : 0 ≤ a) (ha2 : a ≤ 255) (hm : MaxOk w) (h : s.size ≤ 90) (hr : rightB s.data.toList = true) :
    Calls Tryd.prog 6 #[.string s, .int .u8 a] w fun e w' => e = .returned (.bool true) ∧ Below w.heap.size w w' := by
  have h1 : (s.size : Int) ≤ 90 := by omega
  have hl : s.data.toList.length = s.size := Array.length_toList
  have h90 : s.data.toList.length ≤ 90 := by omega
  obtain ⟨L, hL⟩ : ∃ L, splitL 47 s.data.toList = L := ⟨_, rfl⟩
  have hlen := splitL_length 47 s.data.toList
  have hwide := wide_splitL 47 s.data.toList
  have hne : L.length ≠ 0 := fun e => splitL_ne 47 s.data.toList (by rw [hL]; exact List.eq_nil_of_length_eq_zero e)
  obtain ⟨n, hn⟩ : ∃ n, L.length = n + 1 := ⟨L.length - 1, by omega⟩
  have q1 : matchB s.data.toList s.data.toList = true := by rw [literal_match _ _ hr hr]; simp
  have q2 : matchB (⟨#[42, 42]⟩ : ByteArray).data.toList s.data.toList = true := wild_all _ hr
  have q3 := wild_front s.data.toList hr h90
  have q4 := wild_one s.data.toList hr h90 n (by rw [hL]; exact hn)
  have q5 := wild_more s.data.toList n (by rw [hL]; exact hn)
  have q6 : matchB (s ++ ⟨#[47, 63]⟩).data.toList s.data.toList = false := by
    simp only [ByteArray.data_append, Array.toList_append]; exact wild_name _ hr
  have q7 := base_match s hr
  have q8 : matchB (s ++ ⟨#[47, 42, 42]⟩).data.toList s.data.toList = true := by
    simp only [ByteArray.data_append, Array.toList_append]; exact wild_behind _ hr h90
  have hbs : (baseA s).size ≤ 100 := by unfold baseA; simp only [ByteArray.size_extract]; omega
  obtain ⟨ba, hba⟩ : ∃ b, baseA s = b := ⟨_, rfl⟩
  rw [hba] at q7 hbs
  rw [hL] at q3 hlen hwide
  have HR := Lib.hid hr; clear hr
  have HL := Lib.hid hL; clear hL
  have HB := Lib.hid hba; clear hba
  have Q1 := Lib.hid q1; clear q1
  have Q2 := Lib.hid q2; clear q2
  have Q3 := Lib.hid q3; clear q3
  have Q4 := Lib.hid q4; clear q4
  have Q5 := Lib.hid q5; clear q5
  have Q6 := Lib.hid q6; clear q6
  have Q7 := Lib.hid q7; clear q7
  have Q8 := Lib.hid q8; clear q8
  go_enter Tryd.func6, Tryd.ntmps6
  go_wp2_with fail
  refine (right_to s true _ (by unfold maxLen; omega) hm HR.out).mono ?_
  rintro e w1 ⟨rfl, hb1⟩
  have hm1 := hm.below hb1
  go_wp2_with fail
  refine (refsplit_any s 47 _ (by omega)).mono ?_
  rintro e w2 ⟨v, rfl, hrow0, hb2⟩
  have hm2 := hm1.below hb2
  have hb3 := hb1.trans (hb2.mono hb1.size)
  rw [HL.out, hn] at hrow0
  obtain ⟨g, cap, rfl⟩ := ownsRow_succ hrow0
  obtain ⟨_, _, hvv, hcp, hcm⟩ := ownsRow_slice hrow0
  cases hvv
  have hR0 := rowS_of hrow0
  have HROW := Lib.hid hR0; clear hR0 hrow0
  have hcm' : cap ≤ 9223372036854775807 := hcm
  clear hcm
  obtain ⟨k, hk⟩ : ∃ k : Nat, a % ((n : Int) + 1 + 1) = (k : Int) := ⟨(a % ((n : Int) + 1 + 1)).toNat, (Int.toNat_of_nonneg (Int.emod_nonneg _ (by omega))).symm⟩
  have hk1 : (k : Int) < (n : Int) + 1 + 1 := by rw [← hk]; exact Int.emod_lt_of_pos _ (by omega)
  have hk2 : k ≤ n + 1 := by omega
  have hk3 : k ≤ cap := by omega
  have hkl : (L.take k).length = k := by rw [List.length_take]; omega
  have hRk : RowS g (L.take k) w2 := fun j p hp => HROW.out j p (by
    rw [List.getElem?_take] at hp
    split at hp
    · exact hp
    · cases hp)
  have hwk := wide_take L k
  have hjk := join_le (L.take k)
  have hjs : (mkB (joinL (L.take k))).size ≤ 200 := by rw [mkB_size]; omega
  obtain ⟨gl, hgl⟩ : ∃ gl, mkB (join2 (joinL (L.take k)) [42, 42]) = gl := ⟨_, rfl⟩
  have hgs : gl.size ≤ 300 := by
    rw [← hgl, mkB_size]
    have := join2_len (joinL (L.take k)) [42, 42]
    rw [mkB_size] at hjs
    simp at this; omega
  have hq3 : matchB gl.data.toList s.data.toList = true := by rw [← hgl, mkB_data]; exact Q3.out k
  have hgl2 : join2 (mkB (joinL (L.take k))).data.toList (⟨#[42, 42]⟩ : ByteArray).data.toList = gl.data.toList := by rw [← hgl, mkB_data, mkB_data]
  have HRK := Lib.hid hRk; clear hRk
  have HQ3 := Lib.hid hq3; clear hq3
  have HGL := Lib.hid hgl2; clear hgl2 hgl
  have HKL := Lib.hid hkl; clear hkl
  have HJS := Lib.hid hjs; clear hjs
  have hwl : wide (L.take k) ≤ 1200000 := by omega
  clear hjk hwk
  go_wp2_with fail
  have hjo := refjoined_row g cap (L.take k) w2 HRK.out hwl
  rw [HKL.out] at hjo
  refine hjo.mono ?_
  rintro e w9 ⟨rfl, hw9⟩; have hw9 := hw9.symm; subst hw9
  clear hjo
  go_wp2_with fail
  refine (join_to _ ⟨#[42, 42]⟩ gl _ (by have := HJS.out; omega) (by decide) HGL.out).mono ?_
  rintro e w9 ⟨rfl, hw9⟩; have hw9 := hw9.symm; subst hw9
  go_wp2_with fail
  go_loop [8, 9] (fun v i => ∃ (m : Nat) (t : ByteArray), m ≤ n ∧ i = .int .i64 ((m : Int) + 1) ∧ v = .string t ∧ Hid (t = mkB (joinL (stars (m + 1))))) (fun _ i => n + 1 - (intOf i).toNat)
  case atStart => exact ⟨0, ⟨#[42]⟩, Nat.zero_le _, rfl, rfl, rfl⟩
  case round =>
    obtain ⟨m, t, hmn, rfl, rfl, ht⟩ := hrel
    have hts : t.size = 2 * m + 1 := by rw [ht.out, mkB_size, stars_len]
    have hm3 := hm2
    by_cases hlt : m < n
    · have hst : t ++ ⟨#[47, 42]⟩ = mkB (joinL (stars (m + 1 + 1))) := by
        rw [stars_step, ht.out, ← data_mkB (mkB (joinL (stars (m + 1))) ++ ⟨#[47, 42]⟩)]
        simp only [ByteArray.data_append, Array.toList_append, mkB_data]
      have HST := Lib.hid hst; clear hst
      go_wp2_with fail
      go_round
      case rel => exact ⟨m + 1, _, by omega, by go_num, rfl, HST.out⟩
      case measure => simp [intOf]; omega
    · have hmm : m = n := by omega
      subst hmm
      have hq4 : matchB t.data.toList s.data.toList = true := by rw [ht.out, mkB_data]; exact Q4.out
      have hq5 : matchB (t ++ ⟨#[47, 42]⟩).data.toList s.data.toList = false := by
        simp only [ByteArray.data_append, Array.toList_append]; rw [ht.out, mkB_data]; exact Q5.out
      have HQ4 := Lib.hid hq4; clear hq4
      have HQ5 := Lib.hid hq5; clear hq5
      have s5 : (t ++ ⟨#[47, 42]⟩ : ByteArray).size ≤ maxLen := by rw [ByteArray.size_append]; show t.size + 2 ≤ maxLen; unfold maxLen; omega
      have s6 : (s ++ ⟨#[47, 63]⟩ : ByteArray).size ≤ maxLen := by rw [ByteArray.size_append]; show s.size + 2 ≤ maxLen; unfold maxLen; omega
      have s7 : (⟨#[42, 42, 47]⟩ ++ ba : ByteArray).size ≤ maxLen := by rw [ByteArray.size_append]; show 3 + ba.size ≤ maxLen; unfold maxLen; omega
      have s8 : (s ++ ⟨#[47, 42, 42]⟩ : ByteArray).size ≤ maxLen := by rw [ByteArray.size_append]; show s.size + 3 ≤ maxLen; unfold maxLen; omega
      have s1 : s.size ≤ maxLen := by unfold maxLen; omega
      have s2 : (⟨#[42, 42]⟩ : ByteArray).size ≤ maxLen := by decide
      have s3 : gl.size ≤ maxLen := by unfold maxLen; omega
      have s4 : t.size ≤ maxLen := by unfold maxLen; omega
      have S1 := Lib.hid s1; have S2 := Lib.hid s2; have S3 := Lib.hid s3; have S4 := Lib.hid s4; have S5 := Lib.hid s5; have S6 := Lib.hid s6; have S7 := Lib.hid s7; have S8 := Lib.hid s8
      clear s1 s2 s3 s4 s5 s6 s7 s8
      go_wp2_with fail
      refine (match_to s s true _ S1.out S1.out hm2 Q1.out).mono ?_
      rintro e x1 ⟨rfl, c1⟩
      have m1 := hm2.below c1
      have d1 := hb3.trans (c1.mono hb3.size)
      go_wp2_with fail
      refine (match_to ⟨#[42, 42]⟩ s true _ S2.out S1.out m1 Q2.out).mono ?_
      rintro e x2 ⟨rfl, c2⟩
      have m2 := m1.below c2
      have d2 := d1.trans (c2.mono d1.size)
      clear c1 m1 d1
      go_wp2_with fail
      refine (match_to gl s true _ S3.out S1.out m2 HQ3.out).mono ?_
      rintro e x3 ⟨rfl, c3⟩
      have m3 := m2.below c3
      have d3 := d2.trans (c3.mono d2.size)
      clear c2 m2 d2
      go_wp2_with fail
      refine (match_to t s true _ S4.out S1.out m3 HQ4.out).mono ?_
      rintro e x4 ⟨rfl, c4⟩
      have m4 := m3.below c4
      have d4 := d3.trans (c4.mono d3.size)
      clear c3 m3 d3
      go_wp2_with fail
      refine (match_to _ s false _ S5.out S1.out m4 HQ5.out).mono ?_
      rintro e x5 ⟨rfl, c5⟩
      have m5 := m4.below c5
      have d5 := d4.trans (c5.mono d4.size)
      clear c4 m4 d4
      go_wp2_with fail
      refine (match_to _ s false _ S6.out S1.out m5 Q6.out).mono ?_
      rintro e x6 ⟨rfl, c6⟩
      have m6 := m5.below c6
      have d6 := d5.trans (c6.mono d5.size)
      clear c5 m5 d5
      go_wp2_with fail
      refine (base_is s ba _ (by omega) HB.out).mono ?_
      rintro e w9 ⟨rfl, hw9⟩; have hw9 := hw9.symm; subst hw9
      go_wp2_with fail
      refine (match_to _ s true _ S7.out S1.out m6 Q7.out).mono ?_
      rintro e x7 ⟨rfl, c7⟩
      have m7 := m6.below c7
      have d7 := d6.trans (c7.mono d6.size)
      clear c6 m6 d6
      go_wp2_with fail
      refine (match_to _ s true _ S8.out S1.out m7 Q8.out).mono ?_
      rintro e x8 ⟨rfl, c8⟩
      have m8 := m7.below c8
      have d8 := d7.trans (c8.mono d7.size)
      clear c7 m7 d7
      go_wp2_with fail
      refine (known_any _ m8).mono ?_
      rintro e x9 ⟨rfl, c9⟩
      have d9 := d8.trans (c9.mono d8.size)
      go_wp2_with fail
      go_ret
      exact ⟨rfl, d9⟩

theorem wild_any (s : ByteArray) (a : Int) (w : World) (hs : s.size ≤ 140737488351232) (ha : (Lit.int .u8 a).wf = true) (hm : MaxOk w) :
    Calls Tryd.prog 6 #[.string s, .int .u8 a] w fun e w' => e = .returned (.bool true) ∧ Below w.heap.size w w' := by
  have ha' : IntKind.u8.min ≤ a ∧ a ≤ IntKind.u8.max := by simpa [Lit.wf] using ha
  rw [show IntKind.u8.min = 0 from rfl, show IntKind.u8.max = 255 from rfl] at ha'
  by_cases h : 90 < s.size ∨ rightB s.data.toList = false
  · exact wild_wrong s a w hs hm h
  · refine wild_right s a w ha'.1 ha'.2 hm (by omega) ?_
    cases e : rightB s.data.toList with
    | true => rfl
    | false => exact absurd (.inr e) h
end Go.Proofs.YtephppgboaconaaDoor
