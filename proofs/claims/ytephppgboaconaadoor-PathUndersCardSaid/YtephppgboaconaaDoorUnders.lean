/-
  The walk of the law PathUnders.
-/
import Derived.Test.YtephppgboaconaaDoorBack
namespace Go.Proofs.YtephppgboaconaaDoor
open Go Go.RowKit Go.Shelf Go.Proofs

theorem under_iff (s d : Bs) : under2 s d = true ↔ d = [] ∨ (d ++ [47]) <+: s := by
  unfold under2
  rw [Bool.or_eq_true, List.isEmpty_iff, List.isPrefixOf_iff_prefix]
theorem under_trans (s a b : Bs) (h1 : under2 s a = true) (h2 : under2 a b = true) : under2 s b = true := by
  rw [under_iff] at h1 h2 ⊢
  rcases h2 with h2 | h2
  · exact .inl h2
  · right
    rcases h1 with h1 | h1
    · subst h1
      have := h2.length_le
      simp at this
    · exact (h2.trans (List.prefix_append a [47])).trans h1
theorem under_front (s d r : Bs) (h : s = d ++ 47 :: r) : under2 s d = true := by
  rw [under_iff, h]
  exact .inr ⟨r, by simp⟩
theorem under_same (s d a r : Bs) (h : s = d ++ 47 :: r) (hd : d ≠ []) (hl : d.length = a.length) (hu : under2 s a = true) : d = a := by
  rw [under_iff] at hu
  rcases hu with hu | ⟨t, ht⟩
  · subst hu
    exact absurd (List.eq_nil_of_length_eq_zero hl) hd
  · rw [h, List.append_assoc] at ht
    exact (List.append_inj_left ht.symm hl)

def OkFront (s d : Bs) : Prop := d = [] ∨ (rightB d = true ∧ ∃ r, s = d ++ 47 :: r)
theorem front_dir (s : Bs) (d : ByteArray) (h : OkFront s d.data.toList) : OkFront s (dirA d).data.toList := by
  rcases h with h | ⟨hr, r, hs⟩
  · rcases dir_base d with ⟨_, h2, _⟩ | ⟨h2, _⟩
    · exact .inl h2
    · rw [h] at h2
      have := congrArg List.length h2
      simp at this
  · by_cases hd : (dirA d).data.toList = []
    · exact .inl hd
    · obtain ⟨h1, h2⟩ := (right_dir d hr).2.2 hd
      exact .inr ⟨h1, (baseA d).data.toList ++ 47 :: r, by rw [hs]; conv => lhs; rw [h2]; simp⟩
theorem front_of (d : ByteArray) (hr : rightB d.data.toList = true) : OkFront d.data.toList (dirA d).data.toList := by
  by_cases hd : (dirA d).data.toList = []
  · exact .inl hd
  · obtain ⟨h1, h2⟩ := (right_dir d hr).2.2 hd
    exact .inr ⟨h1, _, h2⟩
theorem dir_less (d : ByteArray) (h : d.data.toList ≠ []) : (dirA d).size < d.size := by
  have e1 : (dirA d).data.toList.length = (dirA d).size := Array.length_toList
  have e2 : d.data.toList.length = d.size := Array.length_toList
  have e3 : 0 < d.data.toList.length := List.length_pos_iff.2 h
  rcases dir_base d with ⟨_, h2, _⟩ | ⟨h2, _⟩
  · rw [h2] at e1; simp at e1; omega
  · have := congrArg List.length h2
    simp only [List.length_append, List.length_cons] at this
    omega
def sizeV : Value → Nat
  | .string d => d.size
  | _ => 0

set_option maxHeartbeats 2000000 in
theorem unders_long (s a b : ByteArray) (w : World) (ha : s.size ≤ 140737488351232) (hb : a.size ≤ 140737488351232) (hc : b.size ≤ 140737488351232) (hm : MaxOk w) (h : 400 < s.size + a.size + b.size) :
    Calls Tryd.prog 8 #[.string s, .string a, .string b] w fun e w' => e = .returned (.bool true) ∧ Below w.heap.size w w' := by
  have h1 : (400 : Int) < (s.size : Int) + (a.size : Int) + (b.size : Int) := by omega
  go_enter Tryd.func8, Tryd.ntmps8
  go_wp2_with fail
  refine (known_any _ hm).mono ?_
  rintro e w1 ⟨rfl, hb1⟩
  go_wp2_with fail
  go_ret
  exact ⟨rfl, hb1⟩

set_option maxHeartbeats 2000000 in
theorem unders_wrong1 (s a b : ByteArray) (w : World) (hm : MaxOk w) (h : s.size + a.size + b.size ≤ 400) (u1 : under2 s.data.toList a.data.toList = false) (hr : rightB s.data.toList = false) :
    Calls Tryd.prog 8 #[.string s, .string a, .string b] w fun e w' => e = .returned (.bool true) ∧ Below w.heap.size w w' := by
  have h1 : (s.size : Int) + (a.size : Int) + (b.size : Int) ≤ 400 := by omega
  have U1 := Lib.hid u1; clear u1
  have HR := Lib.hid hr; clear hr
  go_enter Tryd.func8, Tryd.ntmps8
  go_wp2_with fail
  refine (under_to s a false _ (by omega) (by omega) U1.out).mono ?_
  rintro e w9 ⟨rfl, hw9⟩; have hw9 := hw9.symm; subst hw9
  go_wp2_with fail
  refine (right_to s false _ (by unfold maxLen; omega) hm HR.out).mono ?_
  rintro e w1 ⟨rfl, hb1⟩
  have hm1 := hm.below hb1
  go_wp2_with fail
  refine (known_any _ hm1).mono ?_
  rintro e w2 ⟨rfl, hb2⟩
  have hb3 := hb1.trans (hb2.mono hb1.size)
  go_wp2_with fail
  go_ret
  exact ⟨rfl, hb3⟩

set_option maxHeartbeats 4000000 in
theorem unders_right1 (s a b : ByteArray) (w : World) (hm : MaxOk w) (h : s.size + a.size + b.size ≤ 400) (u1 : under2 s.data.toList a.data.toList = false) (hr : rightB s.data.toList = true) :
    Calls Tryd.prog 8 #[.string s, .string a, .string b] w fun e w' => e = .returned (.bool true) ∧ Below w.heap.size w w' := by
  have h1 : (s.size : Int) + (a.size : Int) + (b.size : Int) ≤ 400 := by omega
  have U1 := Lib.hid u1; clear u1
  have hf0 := front_of s hr
  have hd0 : (dirA s).size ≤ 400 := by unfold dirA; simp only [ByteArray.size_extract]; omega
  have hn : under2 s.data.toList (⟨#[]⟩ : ByteArray).data.toList = true := by unfold under2; rfl
  have HN := Lib.hid hn; clear hn
  have HR := Lib.hid hr; clear hr
  have HF := Lib.hid hf0; clear hf0
  go_enter Tryd.func8, Tryd.ntmps8
  go_wp2_with fail
  refine (under_to s a false _ (by omega) (by omega) U1.out).mono ?_
  rintro e w9 ⟨rfl, hw9⟩; have hw9 := hw9.symm; subst hw9
  go_wp2_with fail
  refine (right_to s true _ (by unfold maxLen; omega) hm HR.out).mono ?_
  rintro e w1 ⟨rfl, hb1⟩
  go_wp2_with fail
  refine (dir_to s (dirA s) _ (by omega) rfl).mono ?_
  rintro e w9 ⟨rfl, hw9⟩; have hw9 := hw9.symm; subst hw9
  go_wp2_with fail
  clear h1
  go_loopw [7] (fun v wr => ∃ d : ByteArray, v = .string d ∧ d.size ≤ 400 ∧ Hid (OkFront s.data.toList d.data.toList) ∧ Below w.heap.size w wr) (fun v _ => sizeV v)
  case atStart => exact ⟨_, rfl, hd0, HF.out, hb1⟩
  case round =>
    obtain ⟨d, rfl, hds, hfr, hbr⟩ := hrel
    have hmr := hm.below hbr
    have hdd : (dirA d).size ≤ 400 := by unfold dirA; simp only [ByteArray.size_extract]; omega
    by_cases hd : d.toList = []
    · have gd : d.toList.isEmpty = true := by simp [hd]
      clear hd
      go_wp2_with fail
      refine (under_to s ⟨#[]⟩ true _ (by omega) (by decide) HN.out).mono ?_
      rintro e w9 ⟨rfl, hw9⟩; have hw9 := hw9.symm; subst hw9
      go_wp2_with fail
      refine (known_any _ hmr).mono ?_
      rintro e w2 ⟨rfl, hb2⟩
      have hb3 := hbr.trans (hb2.mono hbr.size)
      go_wp2_with fail
      go_ret
      exact ⟨rfl, hb3⟩
    · have gd : d.toList.isEmpty = false := by simpa using hd
      have hd' : d.data.toList ≠ [] := by rw [← ByteArray.toList_eq]; exact hd
      have hf := hfr.out
      have hf2 := front_dir s.data.toList d hf
      have hless := dir_less d hd'
      obtain ⟨hrd, r, hsr⟩ : rightB d.data.toList = true ∧ ∃ r, s.data.toList = d.data.toList ++ 47 :: r := by
        rcases hf with hf | hf
        · exact absurd hf hd'
        · exact hf
      have hud := under_front _ _ _ hsr
      have F2 := Lib.hid hf2; clear hf2
      have RD := Lib.hid hrd; clear hrd
      have UD := Lib.hid hud; clear hud
      have e1 : d.data.toList.length = d.size := Array.length_toList
      have e2 : a.data.toList.length = a.size := Array.length_toList
      by_cases hl : d.size = a.size
      · have gl : ((d.size : Int) == (a.size : Int)) = true := by rw [beq_iff_eq]; omega
        by_cases hda : d = a
        · subst hda
          clear hd hd' hf hsr e1 e2 hl
          go_wp2_with fail
          refine (under_to s d true _ (by omega) (by omega) UD.out).mono ?_
          rintro e w9 ⟨rfl, hw9⟩; have hw9 := hw9.symm; subst hw9
          go_wp2_with fail
          refine (right_to d true _ (by unfold maxLen; omega) hmr RD.out).mono ?_
          rintro e w2 ⟨rfl, hb2⟩
          have hb3 := hbr.trans (hb2.mono hbr.size)
          go_wp2_with fail
          refine (dir_to d (dirA d) _ (by omega) rfl).mono ?_
          rintro e w9 ⟨rfl, hw9⟩; have hw9 := hw9.symm; subst hw9
          go_wp2_with fail
          go_roundw
          case rel => exact ⟨_, rfl, hdd, F2.out, hb3⟩
          case measure => exact hless
        · have hua : under2 s.data.toList a.data.toList = false := by
            cases e : under2 s.data.toList a.data.toList with
            | false => rfl
            | true =>
              have := under_same _ _ _ _ hsr hd' (by omega) e
              exact absurd (by rw [← data_mkB d, ← data_mkB a, this]) hda
          have g5 : (d.toList == a.toList) = false := by
            rw [beq_eq_false_iff_ne, ByteArray.toList_eq, ByteArray.toList_eq]
            exact fun e => hda (by rw [← data_mkB d, ← data_mkB a, e])
          have g6 : (d.toList != a.toList) = true := by unfold bne; rw [g5]; rfl
          have UA := Lib.hid hua; clear hua
          clear hd hd' hf hsr e1 e2 hl hda
          go_wp2_with fail
          refine (under_to s d true _ (by omega) (by omega) UD.out).mono ?_
          rintro e w9 ⟨rfl, hw9⟩; have hw9 := hw9.symm; subst hw9
          go_wp2_with fail
          refine (right_to d true _ (by unfold maxLen; omega) hmr RD.out).mono ?_
          rintro e w2 ⟨rfl, hb2⟩
          have hb3 := hbr.trans (hb2.mono hbr.size)
          go_wp2_with fail
          refine (under_to s a false _ (by omega) (by omega) UA.out).mono ?_
          rintro e w9 ⟨rfl, hw9⟩; have hw9 := hw9.symm; subst hw9
          go_wp2_with fail
          refine (dir_to d (dirA d) _ (by omega) rfl).mono ?_
          rintro e w9 ⟨rfl, hw9⟩; have hw9 := hw9.symm; subst hw9
          go_wp2_with fail
          go_roundw
          case rel => exact ⟨_, rfl, hdd, F2.out, hb3⟩
          case measure => exact hless
      · have gl : ((d.size : Int) == (a.size : Int)) = false := by rw [beq_eq_false_iff_ne]; omega
        clear hd hd' hf hsr e1 e2 hl
        go_wp2_with fail
        refine (under_to s d true _ (by omega) (by omega) UD.out).mono ?_
        rintro e w9 ⟨rfl, hw9⟩; have hw9 := hw9.symm; subst hw9
        go_wp2_with fail
        refine (right_to d true _ (by unfold maxLen; omega) hmr RD.out).mono ?_
        rintro e w2 ⟨rfl, hb2⟩
        have hb3 := hbr.trans (hb2.mono hbr.size)
        go_wp2_with fail
        refine (dir_to d (dirA d) _ (by omega) rfl).mono ?_
        rintro e w9 ⟨rfl, hw9⟩; have hw9 := hw9.symm; subst hw9
        go_wp2_with fail
        go_roundw
        case rel => exact ⟨_, rfl, hdd, F2.out, hb3⟩
        case measure => exact hless

set_option maxHeartbeats 2000000 in
theorem unders_wrong2 (s a b : ByteArray) (w : World) (hm : MaxOk w) (h : s.size + a.size + b.size ≤ 400) (u1 : under2 s.data.toList a.data.toList = true) (u2 : under2 a.data.toList b.data.toList = false) (hr : rightB s.data.toList = false) :
    Calls Tryd.prog 8 #[.string s, .string a, .string b] w fun e w' => e = .returned (.bool true) ∧ Below w.heap.size w w' := by
  have h1 : (s.size : Int) + (a.size : Int) + (b.size : Int) ≤ 400 := by omega
  have U1 := Lib.hid u1; clear u1
  have U2 := Lib.hid u2; clear u2
  have HR := Lib.hid hr; clear hr
  go_enter Tryd.func8, Tryd.ntmps8
  go_wp2_with fail
  refine (under_to s a true _ (by omega) (by omega) U1.out).mono ?_
  rintro e w9 ⟨rfl, hw9⟩; have hw9 := hw9.symm; subst hw9
  go_wp2_with fail
  refine (under_to a b false _ (by omega) (by omega) U2.out).mono ?_
  rintro e w9 ⟨rfl, hw9⟩; have hw9 := hw9.symm; subst hw9
  go_wp2_with fail
  refine (right_to s false _ (by unfold maxLen; omega) hm HR.out).mono ?_
  rintro e w1 ⟨rfl, hb1⟩
  have hm1 := hm.below hb1
  go_wp2_with fail
  refine (known_any _ hm1).mono ?_
  rintro e w2 ⟨rfl, hb2⟩
  have hb3 := hb1.trans (hb2.mono hb1.size)
  go_wp2_with fail
  go_ret
  exact ⟨rfl, hb3⟩

set_option maxHeartbeats 4000000 in
theorem unders_right2 (s a b : ByteArray) (w : World) (hm : MaxOk w) (h : s.size + a.size + b.size ≤ 400) (u1 : under2 s.data.toList a.data.toList = true) (u2 : under2 a.data.toList b.data.toList = false) (hr : rightB s.data.toList = true) :
    Calls Tryd.prog 8 #[.string s, .string a, .string b] w fun e w' => e = .returned (.bool true) ∧ Below w.heap.size w w' := by
  have h1 : (s.size : Int) + (a.size : Int) + (b.size : Int) ≤ 400 := by omega
  have U1 := Lib.hid u1; clear u1
  have U2 := Lib.hid u2; clear u2
  have hf0 := front_of s hr
  have hd0 : (dirA s).size ≤ 400 := by unfold dirA; simp only [ByteArray.size_extract]; omega
  have hn : under2 s.data.toList (⟨#[]⟩ : ByteArray).data.toList = true := by unfold under2; rfl
  have HN := Lib.hid hn; clear hn
  have HR := Lib.hid hr; clear hr
  have HF := Lib.hid hf0; clear hf0
  go_enter Tryd.func8, Tryd.ntmps8
  go_wp2_with fail
  refine (under_to s a true _ (by omega) (by omega) U1.out).mono ?_
  rintro e w9 ⟨rfl, hw9⟩; have hw9 := hw9.symm; subst hw9
  go_wp2_with fail
  refine (under_to a b false _ (by omega) (by omega) U2.out).mono ?_
  rintro e w9 ⟨rfl, hw9⟩; have hw9 := hw9.symm; subst hw9
  go_wp2_with fail
  refine (right_to s true _ (by unfold maxLen; omega) hm HR.out).mono ?_
  rintro e w1 ⟨rfl, hb1⟩
  go_wp2_with fail
  refine (dir_to s (dirA s) _ (by omega) rfl).mono ?_
  rintro e w9 ⟨rfl, hw9⟩; have hw9 := hw9.symm; subst hw9
  go_wp2_with fail
  clear h1
  go_loopw [7] (fun v wr => ∃ d : ByteArray, v = .string d ∧ d.size ≤ 400 ∧ Hid (OkFront s.data.toList d.data.toList) ∧ Below w.heap.size w wr) (fun v _ => sizeV v)
  case atStart => exact ⟨_, rfl, hd0, HF.out, hb1⟩
  case round =>
    obtain ⟨d, rfl, hds, hfr, hbr⟩ := hrel
    have hmr := hm.below hbr
    have hdd : (dirA d).size ≤ 400 := by unfold dirA; simp only [ByteArray.size_extract]; omega
    by_cases hd : d.toList = []
    · have gd : d.toList.isEmpty = true := by simp [hd]
      clear hd
      go_wp2_with fail
      refine (under_to s ⟨#[]⟩ true _ (by omega) (by decide) HN.out).mono ?_
      rintro e w9 ⟨rfl, hw9⟩; have hw9 := hw9.symm; subst hw9
      go_wp2_with fail
      refine (known_any _ hmr).mono ?_
      rintro e w2 ⟨rfl, hb2⟩
      have hb3 := hbr.trans (hb2.mono hbr.size)
      go_wp2_with fail
      go_ret
      exact ⟨rfl, hb3⟩
    · have gd : d.toList.isEmpty = false := by simpa using hd
      have hd' : d.data.toList ≠ [] := by rw [← ByteArray.toList_eq]; exact hd
      have hf := hfr.out
      have hf2 := front_dir s.data.toList d hf
      have hless := dir_less d hd'
      obtain ⟨hrd, r, hsr⟩ : rightB d.data.toList = true ∧ ∃ r, s.data.toList = d.data.toList ++ 47 :: r := by
        rcases hf with hf | hf
        · exact absurd hf hd'
        · exact hf
      have hud := under_front _ _ _ hsr
      have F2 := Lib.hid hf2; clear hf2
      have RD := Lib.hid hrd; clear hrd
      have UD := Lib.hid hud; clear hud
      have e1 : d.data.toList.length = d.size := Array.length_toList
      have e2 : a.data.toList.length = a.size := Array.length_toList
      by_cases hl : d.size = a.size
      · have gl : ((d.size : Int) == (a.size : Int)) = true := by rw [beq_iff_eq]; omega
        by_cases hda : d = a
        · subst hda
          clear hd hd' hf hsr e1 e2 hl
          go_wp2_with fail
          refine (under_to s d true _ (by omega) (by omega) UD.out).mono ?_
          rintro e w9 ⟨rfl, hw9⟩; have hw9 := hw9.symm; subst hw9
          go_wp2_with fail
          refine (right_to d true _ (by unfold maxLen; omega) hmr RD.out).mono ?_
          rintro e w2 ⟨rfl, hb2⟩
          have hb3 := hbr.trans (hb2.mono hbr.size)
          go_wp2_with fail
          refine (dir_to d (dirA d) _ (by omega) rfl).mono ?_
          rintro e w9 ⟨rfl, hw9⟩; have hw9 := hw9.symm; subst hw9
          go_wp2_with fail
          go_roundw
          case rel => exact ⟨_, rfl, hdd, F2.out, hb3⟩
          case measure => exact hless
        · have hua : under2 s.data.toList a.data.toList = false := by
            cases e : under2 s.data.toList a.data.toList with
            | false => rfl
            | true =>
              have := under_same _ _ _ _ hsr hd' (by omega) e
              exact absurd (by rw [← data_mkB d, ← data_mkB a, this]) hda
          have g5 : (d.toList == a.toList) = false := by
            rw [beq_eq_false_iff_ne, ByteArray.toList_eq, ByteArray.toList_eq]
            exact fun e => hda (by rw [← data_mkB d, ← data_mkB a, e])
          have g6 : (d.toList != a.toList) = true := by unfold bne; rw [g5]; rfl
          have UA := Lib.hid hua; clear hua
          clear hd hd' hf hsr e1 e2 hl hda
          go_wp2_with fail
          refine (under_to s d true _ (by omega) (by omega) UD.out).mono ?_
          rintro e w9 ⟨rfl, hw9⟩; have hw9 := hw9.symm; subst hw9
          go_wp2_with fail
          refine (right_to d true _ (by unfold maxLen; omega) hmr RD.out).mono ?_
          rintro e w2 ⟨rfl, hb2⟩
          have hb3 := hbr.trans (hb2.mono hbr.size)
          go_wp2_with fail
          refine (under_to s a false _ (by omega) (by omega) UA.out).mono ?_
          rintro e w9 ⟨rfl, hw9⟩; have hw9 := hw9.symm; subst hw9
          go_wp2_with fail
          refine (dir_to d (dirA d) _ (by omega) rfl).mono ?_
          rintro e w9 ⟨rfl, hw9⟩; have hw9 := hw9.symm; subst hw9
          go_wp2_with fail
          go_roundw
          case rel => exact ⟨_, rfl, hdd, F2.out, hb3⟩
          case measure => exact hless
      · have gl : ((d.size : Int) == (a.size : Int)) = false := by rw [beq_eq_false_iff_ne]; omega
        clear hd hd' hf hsr e1 e2 hl
        go_wp2_with fail
        refine (under_to s d true _ (by omega) (by omega) UD.out).mono ?_
        rintro e w9 ⟨rfl, hw9⟩; have hw9 := hw9.symm; subst hw9
        go_wp2_with fail
        refine (right_to d true _ (by unfold maxLen; omega) hmr RD.out).mono ?_
        rintro e w2 ⟨rfl, hb2⟩
        have hb3 := hbr.trans (hb2.mono hbr.size)
        go_wp2_with fail
        refine (dir_to d (dirA d) _ (by omega) rfl).mono ?_
        rintro e w9 ⟨rfl, hw9⟩; have hw9 := hw9.symm; subst hw9
        go_wp2_with fail
        go_roundw
        case rel => exact ⟨_, rfl, hdd, F2.out, hb3⟩
        case measure => exact hless

set_option maxHeartbeats 2000000 in
theorem unders_wrong3 (s a b : ByteArray) (w : World) (hm : MaxOk w) (h : s.size + a.size + b.size ≤ 400) (u1 : under2 s.data.toList a.data.toList = true) (u2 : under2 a.data.toList b.data.toList = true) (u3 : under2 s.data.toList b.data.toList = true) (hr : rightB s.data.toList = false) :
    Calls Tryd.prog 8 #[.string s, .string a, .string b] w fun e w' => e = .returned (.bool true) ∧ Below w.heap.size w w' := by
  have h1 : (s.size : Int) + (a.size : Int) + (b.size : Int) ≤ 400 := by omega
  have U1 := Lib.hid u1; clear u1
  have U2 := Lib.hid u2; clear u2
  have U3 := Lib.hid u3; clear u3
  have HR := Lib.hid hr; clear hr
  go_enter Tryd.func8, Tryd.ntmps8
  go_wp2_with fail
  refine (under_to s a true _ (by omega) (by omega) U1.out).mono ?_
  rintro e w9 ⟨rfl, hw9⟩; have hw9 := hw9.symm; subst hw9
  go_wp2_with fail
  refine (under_to a b true _ (by omega) (by omega) U2.out).mono ?_
  rintro e w9 ⟨rfl, hw9⟩; have hw9 := hw9.symm; subst hw9
  go_wp2_with fail
  refine (under_to s b true _ (by omega) (by omega) U3.out).mono ?_
  rintro e w9 ⟨rfl, hw9⟩; have hw9 := hw9.symm; subst hw9
  go_wp2_with fail
  refine (right_to s false _ (by unfold maxLen; omega) hm HR.out).mono ?_
  rintro e w1 ⟨rfl, hb1⟩
  have hm1 := hm.below hb1
  go_wp2_with fail
  refine (known_any _ hm1).mono ?_
  rintro e w2 ⟨rfl, hb2⟩
  have hb3 := hb1.trans (hb2.mono hb1.size)
  go_wp2_with fail
  go_ret
  exact ⟨rfl, hb3⟩

set_option maxHeartbeats 4000000 in
theorem unders_right3 (s a b : ByteArray) (w : World) (hm : MaxOk w) (h : s.size + a.size + b.size ≤ 400) (u1 : under2 s.data.toList a.data.toList = true) (u2 : under2 a.data.toList b.data.toList = true) (u3 : under2 s.data.toList b.data.toList = true) (hr : rightB s.data.toList = true) :
    Calls Tryd.prog 8 #[.string s, .string a, .string b] w fun e w' => e = .returned (.bool true) ∧ Below w.heap.size w w' := by
  have h1 : (s.size : Int) + (a.size : Int) + (b.size : Int) ≤ 400 := by omega
  have U1 := Lib.hid u1; clear u1
  have U2 := Lib.hid u2; clear u2
  have U3 := Lib.hid u3; clear u3
  have hf0 := front_of s hr
  have hd0 : (dirA s).size ≤ 400 := by unfold dirA; simp only [ByteArray.size_extract]; omega
  have hn : under2 s.data.toList (⟨#[]⟩ : ByteArray).data.toList = true := by unfold under2; rfl
  have HN := Lib.hid hn; clear hn
  have HR := Lib.hid hr; clear hr
  have HF := Lib.hid hf0; clear hf0
  go_enter Tryd.func8, Tryd.ntmps8
  go_wp2_with fail
  refine (under_to s a true _ (by omega) (by omega) U1.out).mono ?_
  rintro e w9 ⟨rfl, hw9⟩; have hw9 := hw9.symm; subst hw9
  go_wp2_with fail
  refine (under_to a b true _ (by omega) (by omega) U2.out).mono ?_
  rintro e w9 ⟨rfl, hw9⟩; have hw9 := hw9.symm; subst hw9
  go_wp2_with fail
  refine (under_to s b true _ (by omega) (by omega) U3.out).mono ?_
  rintro e w9 ⟨rfl, hw9⟩; have hw9 := hw9.symm; subst hw9
  go_wp2_with fail
  refine (right_to s true _ (by unfold maxLen; omega) hm HR.out).mono ?_
  rintro e w1 ⟨rfl, hb1⟩
  go_wp2_with fail
  refine (dir_to s (dirA s) _ (by omega) rfl).mono ?_
  rintro e w9 ⟨rfl, hw9⟩; have hw9 := hw9.symm; subst hw9
  go_wp2_with fail
  clear h1
  go_loopw [7] (fun v wr => ∃ d : ByteArray, v = .string d ∧ d.size ≤ 400 ∧ Hid (OkFront s.data.toList d.data.toList) ∧ Below w.heap.size w wr) (fun v _ => sizeV v)
  case atStart => exact ⟨_, rfl, hd0, HF.out, hb1⟩
  case round =>
    obtain ⟨d, rfl, hds, hfr, hbr⟩ := hrel
    have hmr := hm.below hbr
    have hdd : (dirA d).size ≤ 400 := by unfold dirA; simp only [ByteArray.size_extract]; omega
    by_cases hd : d.toList = []
    · have gd : d.toList.isEmpty = true := by simp [hd]
      clear hd
      go_wp2_with fail
      refine (under_to s ⟨#[]⟩ true _ (by omega) (by decide) HN.out).mono ?_
      rintro e w9 ⟨rfl, hw9⟩; have hw9 := hw9.symm; subst hw9
      go_wp2_with fail
      refine (known_any _ hmr).mono ?_
      rintro e w2 ⟨rfl, hb2⟩
      have hb3 := hbr.trans (hb2.mono hbr.size)
      go_wp2_with fail
      go_ret
      exact ⟨rfl, hb3⟩
    · have gd : d.toList.isEmpty = false := by simpa using hd
      have hd' : d.data.toList ≠ [] := by rw [← ByteArray.toList_eq]; exact hd
      have hf := hfr.out
      have hf2 := front_dir s.data.toList d hf
      have hless := dir_less d hd'
      obtain ⟨hrd, r, hsr⟩ : rightB d.data.toList = true ∧ ∃ r, s.data.toList = d.data.toList ++ 47 :: r := by
        rcases hf with hf | hf
        · exact absurd hf hd'
        · exact hf
      have hud := under_front _ _ _ hsr
      have F2 := Lib.hid hf2; clear hf2
      have RD := Lib.hid hrd; clear hrd
      have UD := Lib.hid hud; clear hud
      have e1 : d.data.toList.length = d.size := Array.length_toList
      have e2 : a.data.toList.length = a.size := Array.length_toList
      by_cases hl : d.size = a.size
      · have gl : ((d.size : Int) == (a.size : Int)) = true := by rw [beq_iff_eq]; omega
        by_cases hda : d = a
        · subst hda
          clear hd hd' hf hsr e1 e2 hl
          go_wp2_with fail
          refine (under_to s d true _ (by omega) (by omega) UD.out).mono ?_
          rintro e w9 ⟨rfl, hw9⟩; have hw9 := hw9.symm; subst hw9
          go_wp2_with fail
          refine (right_to d true _ (by unfold maxLen; omega) hmr RD.out).mono ?_
          rintro e w2 ⟨rfl, hb2⟩
          have hb3 := hbr.trans (hb2.mono hbr.size)
          go_wp2_with fail
          refine (dir_to d (dirA d) _ (by omega) rfl).mono ?_
          rintro e w9 ⟨rfl, hw9⟩; have hw9 := hw9.symm; subst hw9
          go_wp2_with fail
          go_roundw
          case rel => exact ⟨_, rfl, hdd, F2.out, hb3⟩
          case measure => exact hless
        · have hua : under2 s.data.toList a.data.toList = false := by
            cases e : under2 s.data.toList a.data.toList with
            | false => rfl
            | true =>
              have := under_same _ _ _ _ hsr hd' (by omega) e
              exact absurd (by rw [← data_mkB d, ← data_mkB a, this]) hda
          have g5 : (d.toList == a.toList) = false := by
            rw [beq_eq_false_iff_ne, ByteArray.toList_eq, ByteArray.toList_eq]
            exact fun e => hda (by rw [← data_mkB d, ← data_mkB a, e])
          have g6 : (d.toList != a.toList) = true := by unfold bne; rw [g5]; rfl
          have UA := Lib.hid hua; clear hua
          clear hd hd' hf hsr e1 e2 hl hda
          go_wp2_with fail
          refine (under_to s d true _ (by omega) (by omega) UD.out).mono ?_
          rintro e w9 ⟨rfl, hw9⟩; have hw9 := hw9.symm; subst hw9
          go_wp2_with fail
          refine (right_to d true _ (by unfold maxLen; omega) hmr RD.out).mono ?_
          rintro e w2 ⟨rfl, hb2⟩
          have hb3 := hbr.trans (hb2.mono hbr.size)
          go_wp2_with fail
          refine (under_to s a false _ (by omega) (by omega) UA.out).mono ?_
          rintro e w9 ⟨rfl, hw9⟩; have hw9 := hw9.symm; subst hw9
          go_wp2_with fail
          refine (dir_to d (dirA d) _ (by omega) rfl).mono ?_
          rintro e w9 ⟨rfl, hw9⟩; have hw9 := hw9.symm; subst hw9
          go_wp2_with fail
          go_roundw
          case rel => exact ⟨_, rfl, hdd, F2.out, hb3⟩
          case measure => exact hless
      · have gl : ((d.size : Int) == (a.size : Int)) = false := by rw [beq_eq_false_iff_ne]; omega
        clear hd hd' hf hsr e1 e2 hl
        go_wp2_with fail
        refine (under_to s d true _ (by omega) (by omega) UD.out).mono ?_
        rintro e w9 ⟨rfl, hw9⟩; have hw9 := hw9.symm; subst hw9
        go_wp2_with fail
        refine (right_to d true _ (by unfold maxLen; omega) hmr RD.out).mono ?_
        rintro e w2 ⟨rfl, hb2⟩
        have hb3 := hbr.trans (hb2.mono hbr.size)
        go_wp2_with fail
        refine (dir_to d (dirA d) _ (by omega) rfl).mono ?_
        rintro e w9 ⟨rfl, hw9⟩; have hw9 := hw9.symm; subst hw9
        go_wp2_with fail
        go_roundw
        case rel => exact ⟨_, rfl, hdd, F2.out, hb3⟩
        case measure => exact hless

theorem unders_any (s a b : ByteArray) (w : World) (hs : s.size ≤ 140737488351232) (ha : a.size ≤ 140737488351232) (hb : b.size ≤ 140737488351232) (hm : MaxOk w) :
    Calls Tryd.prog 8 #[.string s, .string a, .string b] w fun e w' => e = .returned (.bool true) ∧ Below w.heap.size w w' := by
  by_cases h : 400 < s.size + a.size + b.size
  · exact unders_long s a b w hs ha hb hm h
  · have h' : s.size + a.size + b.size ≤ 400 := by omega
    cases u1 : under2 s.data.toList a.data.toList with
    | false =>
      cases hr : rightB s.data.toList with
      | false => exact unders_wrong1 s a b w hm h' u1 hr
      | true => exact unders_right1 s a b w hm h' u1 hr
    | true =>
      cases u2 : under2 a.data.toList b.data.toList with
      | false =>
        cases hr : rightB s.data.toList with
        | false => exact unders_wrong2 s a b w hm h' u1 u2 hr
        | true => exact unders_right2 s a b w hm h' u1 u2 hr
      | true =>
        have u3 := under_trans _ _ _ u1 u2
        cases hr : rightB s.data.toList with
        | false => exact unders_wrong3 s a b w hm h' u1 u2 u3 hr
        | true => exact unders_right3 s a b w hm h' u1 u2 u3 hr
end Go.Proofs.YtephppgboaconaaDoor
