/-
  The walk of the law PathSigns.
-/
import Derived.Test.YtephppgboaconaaDoorSignsLaws
import Derived.Test.YtephppgboaconaaDoorTells
namespace Go.Proofs.YtephppgboaconaaDoor
open Go Go.RowKit Go.Shelf Go.Proofs

def putA (s : ByteArray) (k : Nat) (c : UInt8) : ByteArray := s.extract 0 k ++ ⟨#[c]⟩ ++ s.extract (k + 1) s.size
theorem putA_data (s : ByteArray) (k : Nat) (c : UInt8) : (putA s k c).data.toList = s.data.toList.take k ++ c :: s.data.toList.drop (k + 1) := by
  have hl : s.data.toList.length = s.size := Array.length_toList
  unfold putA
  simp only [ByteArray.data_append, Array.toList_append, Lib.extract_data]
  rw [List.drop_zero, Nat.sub_zero, List.take_of_length_le (l := s.data.toList.drop (k + 1)) (by rw [List.length_drop]; omega)]
  simp
theorem put_self (s : ByteArray) (k : Nat) (h : k < s.size) : s.data.toList = s.data.toList.take k ++ s[k] :: s.data.toList.drop (k + 1) := by
  have hl : s.data.toList.length = s.size := Array.length_toList
  have hk : s.data.toList[k]? = some s[k] := by rw [List.getElem?_eq_getElem (by omega)]; rfl
  rw [← drop_some hk, List.take_append_drop]
theorem putA_size (s : ByteArray) (k : Nat) (c : UInt8) (h : k < s.size) : (putA s k c).size = s.size := by
  have e1 : (putA s k c).data.toList.length = (putA s k c).size := Array.length_toList
  have hl : s.data.toList.length = s.size := Array.length_toList
  rw [putA_data, List.length_append, List.length_cons, List.length_take, List.length_drop] at e1
  omega
theorem match_glob (g s : Bs) (h : matchB g s = true) : globB g = true := by
  unfold matchB at h
  simp only [Bool.and_eq_true] at h
  exact h.1.1
theorem put_match (s : ByteArray) (k : Nat) (h : k < s.size) (hr : rightB s.data.toList = true) (hb : s[k] ≠ 47) (c : UInt8) (hc : c = 63 ∨ c = 42) : matchB (putA s k c).data.toList s.data.toList = true := by
  have hs := put_self s k h
  rw [hs] at hr
  have := sign_match _ _ _ c hb hr hc
  rw [← hs, ← putA_data s k c] at this
  exact this
theorem put_right (s : ByteArray) (k : Nat) (h : k < s.size) (hr : rightB s.data.toList = true) (hb : s[k] ≠ 47) (c : UInt8) (hc : isLetter c) : rightB (putA s k c).data.toList = true := by
  have hs := put_self s k h
  rw [hs] at hr
  rw [putA_data]
  exact right_put _ _ _ c hb hr hc
theorem put_match2 (s : ByteArray) (k : Nat) (h : k < s.size) (hr : rightB s.data.toList = true) (hb : s[k] ≠ 47) (l : UInt8) (hl : isLetter l) (c : UInt8) (hc : c = 63 ∨ c = 42) : matchB (putA s k c).data.toList (putA s k l).data.toList = true := by
  have h1 := put_right s k h hr hb l hl
  have hl47 : l ≠ 47 := by rintro rfl; exact absurd hl.1 (by decide)
  rw [putA_data] at h1
  rw [putA_data, putA_data]
  exact sign_match _ _ _ c hl47 h1 hc

set_option maxHeartbeats 2000000 in
theorem signs_wrong (s : ByteArray) (a c : Int) (w : World) (hs : s.size ≤ 1048576) (hm : MaxOk w) (h : rightB s.data.toList = false ∨ 90 < s.size) :
    Calls Tryd.prog 10 #[.string s, .int .u8 a, .int .u8 c] w fun e w' => e = .returned (.bool true) ∧ Below w.heap.size w w' := by
  cases hr : rightB s.data.toList with
  | false =>
    have HR := Lib.hid hr; clear hr h
    go_enter Tryd.func10, Tryd.ntmps10
    go_wp2_with fail
    refine (refright_to s false _ (by omega) HR.out).mono ?_
    rintro e w1 ⟨rfl, hb1⟩
    have hm1 := hm.below hb1
    go_wp2_with fail
    refine (known_any _ hm1).mono ?_
    rintro e w2 ⟨rfl, hb2⟩
    have hb3 := hb1.trans (hb2.mono hb1.size)
    go_wp2_with fail
    go_ret
    exact ⟨rfl, hb3⟩
  | true =>
    have h2 : 90 < s.size := h.resolve_left (by rw [hr]; simp)
    have h1 : (90 : Int) < (s.size : Int) := by omega
    have HR := Lib.hid hr; clear hr h
    go_enter Tryd.func10, Tryd.ntmps10
    go_wp2_with fail
    refine (refright_to s true _ (by omega) HR.out).mono ?_
    rintro e w1 ⟨rfl, hb1⟩
    have hm1 := hm.below hb1
    go_wp2_with fail
    refine (known_any _ hm1).mono ?_
    rintro e w2 ⟨rfl, hb2⟩
    have hb3 := hb1.trans (hb2.mono hb1.size)
    go_wp2_with fail
    go_ret
    exact ⟨rfl, hb3⟩

set_option maxHeartbeats 2000000 in
theorem signs_slash (s : ByteArray) (a c : Int) (k : Nat) (w : World) (ha : 0 ≤ a) (ha2 : a ≤ 255) (hm : MaxOk w) (h : s.size ≤ 90) (hr : rightB s.data.toList = true)
    (hlt : k < s.size) (hk : a % (s.size : Int) = (k : Int)) (hb : s[k] = 47) :
    Calls Tryd.prog 10 #[.string s, .int .u8 a, .int .u8 c] w fun e w' => e = .returned (.bool true) ∧ Below w.heap.size w w' := by
  have h1 : (s.size : Int) ≤ 90 := by omega
  have h0 : ¬ ((s.size : Int) = 0) := by omega
  have hb2 : (s[k].toNat : Int) = 47 := by rw [hb]; rfl
  have HR := Lib.hid hr; clear hr
  go_enter Tryd.func10, Tryd.ntmps10
  go_wp2_with fail
  refine (refright_to s true _ (by omega) HR.out).mono ?_
  rintro e w1 ⟨rfl, hb1⟩
  have hm1 := hm.below hb1
  go_wp2_with fail
  refine (known_any _ hm1).mono ?_
  rintro e w2 ⟨rfl, hb2⟩
  have hb3 := hb1.trans (hb2.mono hb1.size)
  go_wp2_with fail
  go_ret
  exact ⟨rfl, hb3⟩

theorem signs_letter (c : Int) (_h0 : 0 ≤ c) : ∃ cb : UInt8, (cb.toNat : Int) = 97 + c % 26 ∧ isLetter cb := by
  have h1 : 0 ≤ c % 26 := Int.emod_nonneg _ (by decide)
  have h2 : c % 26 < 26 := Int.emod_lt_of_pos _ (by decide)
  have h3 : (UInt8.ofNat (97 + c % 26).toNat).toNat = (97 + c % 26).toNat := by
    rw [UInt8.toNat_ofNat']; omega
  have h4 : ((UInt8.ofNat (97 + c % 26).toNat).toNat : Int) = 97 + c % 26 := by rw [h3]; omega
  refine ⟨_, h4, ?_, ?_⟩
  · rw [← plainI_eq, h4]; unfold plainI
    rw [decide_eq_true (show (97 : Int) ≤ 97 + c % 26 by omega), decide_eq_true (show 97 + c % 26 ≤ (122 : Int) by omega)]; rfl
  · intro e; rw [e] at h4; have : ((46 : UInt8).toNat : Int) = 46 := rfl; omega

set_option maxHeartbeats 4000000 in
theorem signs_right (s : ByteArray) (a c : Int) (k : Nat) (w : World) (ha : 0 ≤ a) (ha2 : a ≤ 255) (hc : 0 ≤ c) (hc2 : c ≤ 255) (hm : MaxOk w) (h : s.size ≤ 90) (hr : rightB s.data.toList = true)
    (hlt : k < s.size) (hk : a % (s.size : Int) = (k : Int)) (hb : s[k] ≠ 47) :
    Calls Tryd.prog 10 #[.string s, .int .u8 a, .int .u8 c] w fun e w' => e = .returned (.bool true) ∧ Below w.heap.size w w' := by
  have h1 : (s.size : Int) ≤ 90 := by omega
  have h0 : ¬ ((s.size : Int) = 0) := by omega
  have hb2 : ((s[k].toNat : Int) == 47) = false := by
    rw [beq_eq_false_iff_ne]; intro e; exact hb (by rw [← UInt8.toNat_inj]; show _ = 47; omega)
  obtain ⟨cb, hcb, hcl⟩ := signs_letter c hc
  have q1 := put_match s k hlt hr hb 63 (.inl rfl)
  have q2 := put_match s k hlt hr hb 42 (.inr rfl)
  have q3 := put_match2 s k hlt hr hb cb hcl 63 (.inl rfl)
  have q4 := put_match2 s k hlt hr hb cb hcl 42 (.inr rfl)
  have qc := clean_right _ (put_right s k hlt hr hb cb hcl)
  have z1 := putA_size s k 63 hlt
  have z2 := putA_size s k 42 hlt
  have z3 := putA_size s k cb hlt
  obtain ⟨G, hG⟩ : ∃ G, putA s k 63 = G := ⟨_, rfl⟩
  obtain ⟨J, hJ⟩ : ∃ J, putA s k 42 = J := ⟨_, rfl⟩
  obtain ⟨T, hT⟩ : ∃ T, putA s k cb = T := ⟨_, rfl⟩
  rw [hG] at q1 q3 z1
  rw [hJ] at q2 q4 z2
  rw [hT] at q3 q4 qc z3
  unfold putA at hG hJ hT
  have g1 := match_glob _ _ q1
  have g2 := match_glob _ _ q2
  have Q1 := Lib.hid q1; clear q1
  have Q2 := Lib.hid q2; clear q2
  have Q3 := Lib.hid q3; clear q3
  have Q4 := Lib.hid q4; clear q4
  have QC := Lib.hid qc; clear qc
  have G1 := Lib.hid g1; clear g1
  have G2 := Lib.hid g2; clear g2
  have hG' := Lib.hid hG; clear hG
  have hJ' := Lib.hid hJ; clear hJ
  have hT' := Lib.hid hT; clear hT
  have HR := Lib.hid hr; clear hr
  go_enter Tryd.func10, Tryd.ntmps10
  go_wp2_with fail
  refine (refright_to s true _ (by omega) HR.out).mono ?_
  rintro e w1 ⟨rfl, hb1⟩
  have hm1 := hm.below hb1
  go_wp2_with fail
  have hcv : (convert 37 9 (.slice (some ⟨w1.heap.size, 0, none⟩) 1 1)).run Tryd.prog ((w1.alloc (.cells #[.int .u8 (97 + c % 26)] 5)).drew.drew.drew) = .ok (.string ⟨#[cb]⟩) ((w1.alloc (.cells #[.int .u8 (97 + c % 26)] 5)).drew.drew.drew) :=
    run_convert_bytes_back _ _ _ 5 ⟨w1.heap.size, 0, none⟩ 1 [cb] rfl rfl rfl (fun j hj => by
      obtain rfl : j = 0 := by simpa using hj
      have := cell_one_new w1 (.int .u8 (97 + c % 26)) 5 0 (.int .u8 (97 + c % 26)) rfl
      rw [← hcb] at this ⊢
      exact this)
  go_region
  all_goals (try go_wp2_with fail)
  go_region
  all_goals (try go_wp2_with fail)
  go_region
  all_goals (try go_wp2_with fail)
  rw [hG'.out, hJ'.out, hT'.out]
  have hbw : Below w.heap.size w ((w1.alloc (.cells #[.int .u8 (97 + c % 26)] 5)).drew.drew.drew) := (((hb1.alloc hb1.size _).drew).drew).drew
  clear hcv
  generalize ((w1.alloc (.cells #[.int .u8 (97 + c % 26)] 5)).drew.drew.drew) = w2 at hbw ⊢
  have hm2 := hm.below hbw
  have s1 : s.size ≤ maxLen := by unfold maxLen; omega
  have s2 : G.size ≤ maxLen := by unfold maxLen; omega
  have s3 : J.size ≤ maxLen := by unfold maxLen; omega
  have s4 : T.size ≤ maxLen := by unfold maxLen; omega
  have S1 := Lib.hid s1; have S2 := Lib.hid s2; have S3 := Lib.hid s3; have S4 := Lib.hid s4
  clear s1 s2 s3 s4 hk
  refine (glob_to G true _ S2.out hm2 G1.out).mono ?_
  rintro e x1 ⟨rfl, c1⟩
  have m1 := hm2.below c1
  have d1 := hbw.trans (c1.mono hbw.size)
  go_wp2_with fail
  refine (glob_to J true _ S3.out m1 G2.out).mono ?_
  rintro e x2 ⟨rfl, c2⟩
  have m2 := m1.below c2
  have d2 := d1.trans (c2.mono d1.size)
  clear c1 m1 d1
  go_wp2_with fail
  refine (clean_some T T _ (by omega) m2 QC.out).mono ?_
  rintro e x3 ⟨rfl, c3⟩
  have m3 := m2.below c3
  have d3 := d2.trans (c3.mono d2.size)
  clear c2 m2 d2
  go_wp2_with fail
  refine (match_to G s true _ S2.out S1.out m3 Q1.out).mono ?_
  rintro e x4 ⟨rfl, c4⟩
  have m4 := m3.below c4
  have d4 := d3.trans (c4.mono d3.size)
  clear c3 m3 d3
  go_wp2_with fail
  refine (match_to J s true _ S3.out S1.out m4 Q2.out).mono ?_
  rintro e x5 ⟨rfl, c5⟩
  have m5 := m4.below c5
  have d5 := d4.trans (c5.mono d4.size)
  clear c4 m4 d4
  go_wp2_with fail
  refine (match_to G T true _ S2.out S4.out m5 Q3.out).mono ?_
  rintro e x6 ⟨rfl, c6⟩
  have m6 := m5.below c6
  have d6 := d5.trans (c6.mono d5.size)
  clear c5 m5 d5
  go_wp2_with fail
  refine (match_to J T true _ S3.out S4.out m6 Q4.out).mono ?_
  rintro e x7 ⟨rfl, c7⟩
  have m7 := m6.below c7
  have d7 := d6.trans (c7.mono d6.size)
  clear c6 m6 d6
  go_wp2_with fail
  refine (known_any _ m7).mono ?_
  rintro e x8 ⟨rfl, c8⟩
  have d8 := d7.trans (c8.mono d7.size)
  go_wp2_with fail
  go_ret
  exact ⟨rfl, d8⟩

theorem signs_any (s : ByteArray) (a c : Int) (w : World) (hs : s.size ≤ 1048576) (ha : (Lit.int .u8 a).wf = true) (hc : (Lit.int .u8 c).wf = true) (hm : MaxOk w) :
    Calls Tryd.prog 10 #[.string s, .int .u8 a, .int .u8 c] w fun e w' => e = .returned (.bool true) ∧ Below w.heap.size w w' := by
  have ha' : IntKind.u8.min ≤ a ∧ a ≤ IntKind.u8.max := by simpa [Lit.wf] using ha
  rw [show IntKind.u8.min = 0 from rfl, show IntKind.u8.max = 255 from rfl] at ha'
  have hc' : IntKind.u8.min ≤ c ∧ c ≤ IntKind.u8.max := by simpa [Lit.wf] using hc
  rw [show IntKind.u8.min = 0 from rfl, show IntKind.u8.max = 255 from rfl] at hc'
  by_cases h : rightB s.data.toList = false ∨ 90 < s.size
  · exact signs_wrong s a c w hs hm h
  · have hr : rightB s.data.toList = true := by
      cases e : rightB s.data.toList with
      | true => rfl
      | false => exact absurd (.inl e) h
    have h90 : s.size ≤ 90 := by
      rcases Nat.lt_or_ge 90 s.size with e | e
      · exact absurd (.inr e) h
      · exact e
    have hl : s.data.toList.length = s.size := Array.length_toList
    have h0 : 0 < s.size := by rw [← hl]; exact List.length_pos_iff.2 (right_ne _ hr)
    have hk : a % (s.size : Int) = ((a % (s.size : Int)).toNat : Int) := (Int.toNat_of_nonneg (Int.emod_nonneg _ (by omega))).symm
    have hk1 : a % (s.size : Int) < (s.size : Int) := Int.emod_lt_of_pos _ (by omega)
    have hlt : (a % (s.size : Int)).toNat < s.size := by omega
    by_cases hb : s[(a % (s.size : Int)).toNat] = 47
    · exact signs_slash s a c _ w ha'.1 ha'.2 hm h90 hr hlt hk hb
    · exact signs_right s a c _ w ha'.1 ha'.2 hc'.1 hc'.2 hm h90 hr hlt hk hb
end Go.Proofs.YtephppgboaconaaDoor
