/-
  The walk of the law PathLiteral.
-/
import Derived.Test.YtephppgboaconaaDoorCleanLaws
import Derived.Test.YtephppgboaconaaDoorKnown
import Derived.Test.YtephppgboaconaaDoorRefSplit
namespace Go.Proofs.YtephppgboaconaaDoor
open Go Go.RowKit Go.Shelf Go.Proofs

/-- Patterns of which none takes many, each just itself: rows fit if they are the same. -/
theorem parted_same {α : Type} [BEq α] [LawfulBEq α] (many : α → Bool) (one : α → α → Bool) : ∀ (ps is : List α), (∀ p ∈ ps, many p = false) → (∀ p ∈ ps, ∀ i, one p i = (p == i)) → partedB many one ps is = (ps == is)
  | [], [], _, _ => by simp [partedB]
  | [], i :: is, _, _ => by rw [partedB]; rfl
  | p :: ps, [], h, _ => by simp [partedB, h p (by simp)]
  | p :: ps, i :: is, h, h2 => by
    have ih := parted_same many one ps is (fun q hq => h q (by simp [hq])) (fun q hq => h2 q (by simp [hq]))
    simp only [partedB, h p (by simp), Bool.false_eq_true, if_false, h2 p (by simp), ih]
    rfl
theorem name_all (p : Bs) (h : nameB p = true) : p ≠ [46] ∧ p ≠ [46, 46] ∧ p.length ≤ 30 ∧ ∀ b ∈ p, plainB b = true := by
  unfold nameB speltB at h
  simp only [Bool.and_eq_true, Bool.not_eq_true', decide_eq_true_eq, List.all_eq_true, beq_eq_false_iff_ne] at h
  obtain ⟨⟨⟨⟨_, h2⟩, h3⟩, h4⟩, h5⟩ := h
  exact ⟨h2, h3, h4, fun b hb => by have := h5 b hb; unfold okB at this; simpa using this⟩
theorem plain_signs (b : UInt8) (h : plainB b = true) : (b == 42) = false ∧ (b == 63) = false ∧ (b == 47) = false := by
  refine ⟨?_, ?_, ?_⟩ <;> (rw [beq_eq_false_iff_ne]; rintro rfl; exact absurd h (by decide))
theorem spelt_more (p w : Bs) (h : speltB [] p = true) : speltB w p = true := by
  unfold speltB at h ⊢
  simp only [Bool.and_eq_true, List.all_eq_true] at h ⊢
  refine ⟨h.1, fun b hb => ?_⟩
  have := h.2 b hb
  unfold okB at this ⊢
  simp at this
  simp [this]
theorem contains_twice (p : Bs) (a : UInt8) (h : Lib.contains p [a, a] = true) : a ∈ p := by
  unfold Lib.contains at h
  rw [decide_eq_true_eq] at h
  rcases Lib.index_spec p [a, a] with ⟨h1, _⟩ | ⟨i, _, _, ho, _⟩
  · omega
  · unfold Lib.occAt at ho
    have h1 : a ∈ p.drop i := (List.isPrefixOf_iff_prefix.1 ho).subset (by simp)
    exact List.mem_of_mem_drop h1
theorem name_pat (p : Bs) (h : nameB p = true) : patB p = true := by
  have hc : Lib.contains p [42, 42] = false := by
    cases e : Lib.contains p [42, 42] with
    | false => rfl
    | true =>
      have h1 := contains_twice p 42 e
      have h2 := (plain_signs 42 ((name_all p h).2.2.2 42 h1)).1
      exact absurd h2 (by decide)
  unfold patB
  rw [spelt_more p _ h, hc]; simp
theorem right_glob (s : Bs) (h : rightB s = true) : globB s = true := by
  obtain ⟨h1, h2⟩ := right_names s h
  unfold globB partsB
  rw [Bool.and_eq_true, decide_eq_true_eq, List.all_eq_true]
  exact ⟨h1, fun p hp => name_pat p (h2 p hp)⟩
theorem name_fits (p q : Bs) (h : nameB p = true) : fitsB p q = (p == q) := by
  have hp := (name_all p h).2.2.2
  unfold fitsB
  refine parted_same _ _ p q (fun b hb => (plain_signs b (hp b hb)).1) (fun b hb i => ?_)
  rw [(plain_signs b (hp b hb)).2.1]; rfl
theorem split_inj (s t : Bs) (h : splitL 47 s = splitL 47 t) : s = t := by
  rw [← join_split s, h, join_split]
theorem literal_match (s t : Bs) (hs : rightB s = true) (ht : rightB t = true) : matchB s t = (s == t) := by
  have hn := (right_names s hs).2
  unfold matchB
  rw [right_glob s hs, ht, parted_same _ fitsB (splitL 47 s) (splitL 47 t) (fun p hp => ?_) (fun p hp q => name_fits p q (hn p hp))]
  · rw [Bool.eq_iff_iff]
    simp only [Bool.true_and, beq_iff_eq]
    exact ⟨split_inj s t, fun h => by rw [h]⟩
  · rw [beq_eq_false_iff_ne]; rintro rfl
    exact absurd (plain_signs 42 ((name_all _ (hn _ hp)).2.2.2 42 (by simp))).1 (by decide)

theorem match_to (g s : ByteArray) (r : Bool) (w : World) (hg : g.size ≤ maxLen) (hs : s.size ≤ maxLen) (hm : MaxOk w) (h : matchB g.data.toList s.data.toList = r) :
    Calls Tryd.prog 26 #[.string g, .string s] w fun e w' => e = .returned (.bool r) ∧ Below w.heap.size w w' := by
  have := match_any g s w hg hs hm
  rwa [h] at this
theorem glob_to (g : ByteArray) (r : Bool) (w : World) (hg : g.size ≤ maxLen) (hm : MaxOk w) (h : globB g.data.toList = r) :
    Calls Tryd.prog 24 #[.string g] w fun e w' => e = .returned (.bool r) ∧ Below w.heap.size w w' := by
  have := glob_any g w hg hm
  rwa [h] at this
theorem refright_to (s : ByteArray) (r : Bool) (w : World) (hs : s.size ≤ 1100000) (h : rightB s.data.toList = r) :
    Calls Tryd.prog 15 #[.string s] w fun e w' => e = .returned (.bool r) ∧ Below w.heap.size w w' := by
  have := refright_any s w hs
  rwa [h] at this

set_option maxHeartbeats 2000000 in
theorem literal_long (s t : ByteArray) (w : World) (hs : s.size ≤ 140737488351232) (ht : t.size ≤ 140737488351232) (hm : MaxOk w) (h : 300 < s.size + t.size) :
    Calls Tryd.prog 9 #[.string s, .string t] w fun e w' => e = .returned (.bool true) ∧ Below w.heap.size w w' := by
  have h1 : (300 : Int) < (s.size : Int) + (t.size : Int) := by omega
  go_enter Tryd.func9, Tryd.ntmps9
  go_wp2_with fail
  refine (known_any _ hm).mono ?_
  rintro e w1 ⟨rfl, hb1⟩
  go_wp2_with fail
  go_ret
  exact ⟨rfl, hb1⟩

set_option maxHeartbeats 2000000 in
theorem literal_wrong1 (s t : ByteArray) (w : World) (hm : MaxOk w) (h : s.size + t.size ≤ 300) (hr : rightB s.data.toList = false) :
    Calls Tryd.prog 9 #[.string s, .string t] w fun e w' => e = .returned (.bool true) ∧ Below w.heap.size w w' := by
  have h1 : (s.size : Int) + (t.size : Int) ≤ 300 := by omega
  have HR := Lib.hid hr; clear hr
  go_enter Tryd.func9, Tryd.ntmps9
  go_wp2_with fail
  refine (refright_to s false _ (by omega) HR.out).mono ?_
  rintro e w1 ⟨rfl, hb1⟩
  have hm1 := hm.below hb1
  go_wp2_with fail
  refine (known_any _ hm1).mono ?_
  rintro e w2 ⟨rfl, hb2⟩
  have hb3 := hb1.trans (hb2.mono hb1.size)
  go_wp2_with fail
  go_ret
  exact ⟨rfl, hb3⟩

set_option maxHeartbeats 2000000 in
theorem literal_wrong2 (s t : ByteArray) (w : World) (hm : MaxOk w) (h : s.size + t.size ≤ 300) (hr : rightB s.data.toList = true) (hr2 : rightB t.data.toList = false) :
    Calls Tryd.prog 9 #[.string s, .string t] w fun e w' => e = .returned (.bool true) ∧ Below w.heap.size w w' := by
  have h1 : (s.size : Int) + (t.size : Int) ≤ 300 := by omega
  have HR := Lib.hid hr; clear hr
  have HR2 := Lib.hid hr2; clear hr2
  go_enter Tryd.func9, Tryd.ntmps9
  go_wp2_with fail
  refine (refright_to s true _ (by omega) HR.out).mono ?_
  rintro e w1 ⟨rfl, hb1⟩
  have hm1 := hm.below hb1
  go_wp2_with fail
  refine (refright_to t false _ (by omega) HR2.out).mono ?_
  rintro e w2 ⟨rfl, hb2⟩
  have hm2 := hm1.below hb2
  have hb3 := hb1.trans (hb2.mono hb1.size)
  go_wp2_with fail
  refine (known_any _ hm2).mono ?_
  rintro e w3 ⟨rfl, hb4⟩
  have hb5 := hb3.trans (hb4.mono hb3.size)
  go_wp2_with fail
  go_ret
  exact ⟨rfl, hb5⟩

set_option maxHeartbeats 4000000 in
theorem literal_right (s t : ByteArray) (w : World) (hm : MaxOk w) (h : s.size + t.size ≤ 300) (hr : rightB s.data.toList = true) (hr2 : rightB t.data.toList = true) :
    Calls Tryd.prog 9 #[.string s, .string t] w fun e w' => e = .returned (.bool true) ∧ Below w.heap.size w w' := by
  have h1 : (s.size : Int) + (t.size : Int) ≤ 300 := by omega
  obtain ⟨d, hd⟩ : ∃ d, (s.toList == t.toList) = d := ⟨_, rfl⟩
  have hg := right_glob _ hr
  have hst : matchB s.data.toList t.data.toList = d := by rw [literal_match _ _ hr hr2, ← hd, ByteArray.toList_eq, ByteArray.toList_eq]
  have hts : matchB t.data.toList s.data.toList = d := by
    rw [literal_match _ _ hr2 hr, ← hd, ByteArray.toList_eq, ByteArray.toList_eq, Bool.eq_iff_iff, beq_iff_eq, beq_iff_eq]; exact eq_comm
  have HR := Lib.hid hr; clear hr
  have HR2 := Lib.hid hr2; clear hr2
  have HG := Lib.hid hg; clear hg
  have HST := Lib.hid hst; clear hst
  have HTS := Lib.hid hts; clear hts
  go_enter Tryd.func9, Tryd.ntmps9
  go_wp2_with fail
  refine (refright_to s true _ (by omega) HR.out).mono ?_
  rintro e w1 ⟨rfl, hb1⟩
  have hm1 := hm.below hb1
  go_wp2_with fail
  refine (refright_to t true _ (by omega) HR2.out).mono ?_
  rintro e w2 ⟨rfl, hb2⟩
  have hm2 := hm1.below hb2
  have hb3 := hb1.trans (hb2.mono hb1.size)
  clear hb1 hb2 hm1
  go_wp2_with fail
  refine (glob_to s true _ (by unfold maxLen; omega) hm2 HG.out).mono ?_
  rintro e w3 ⟨rfl, hb4⟩
  have hm3 := hm2.below hb4
  have hb5 := hb3.trans (hb4.mono hb3.size)
  clear hb3 hb4 hm2
  cases d <;>
  · go_wp2_with fail
    refine (match_to s t _ _ (by unfold maxLen; omega) (by unfold maxLen; omega) hm3 HST.out).mono ?_
    rintro e w4 ⟨rfl, hb6⟩
    have hm4 := hm3.below hb6
    have hb7 := hb5.trans (hb6.mono hb5.size)
    go_wp2_with fail
    refine (match_to t s _ _ (by unfold maxLen; omega) (by unfold maxLen; omega) hm4 HTS.out).mono ?_
    rintro e w5 ⟨rfl, hb8⟩
    have hm5 := hm4.below hb8
    have hb9 := hb7.trans (hb8.mono hb7.size)
    go_wp2_with fail
    refine (known_any _ hm5).mono ?_
    rintro e w6 ⟨rfl, hb10⟩
    have hb11 := hb9.trans (hb10.mono hb9.size)
    go_wp2_with fail
    go_ret
    exact ⟨rfl, hb11⟩

theorem literal_any (s t : ByteArray) (w : World) (hs : s.size ≤ 140737488351232) (ht : t.size ≤ 140737488351232) (hm : MaxOk w) :
    Calls Tryd.prog 9 #[.string s, .string t] w fun e w' => e = .returned (.bool true) ∧ Below w.heap.size w w' := by
  by_cases h : 300 < s.size + t.size
  · exact literal_long s t w hs ht hm h
  · cases hr : rightB s.data.toList with
    | false => exact literal_wrong1 s t w hm (by omega) hr
    | true =>
      cases hr2 : rightB t.data.toList with
      | false => exact literal_wrong2 s t w hm (by omega) hr hr2
      | true => exact literal_right s t w hm (by omega) hr hr2
end Go.Proofs.YtephppgboaconaaDoor
