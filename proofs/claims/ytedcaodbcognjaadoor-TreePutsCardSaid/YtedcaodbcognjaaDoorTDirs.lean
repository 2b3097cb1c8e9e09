/-
  Plain laws of layer 2 (tree): the directories of a path, one above the other. No program is named here.
-/
import Derived.Test.YtedcaodbcognjaaDoorTRight
namespace Go.Proofs.YtedcaodbcognjaaDoor
open Go

/-- What is ahead of the last slash; nothing, if there is none. -/
def dirL (s : Bs) : Bs := ((s.reverse.dropWhile (fun c => c != 47)).drop 1).reverse
theorem dirL_none (s : Bs) (h : ∀ c ∈ s, c ≠ 47) : dirL s = [] := by
  unfold dirL
  have : s.reverse.dropWhile (fun c => c != 47) = [] := by
    have := List.dropWhile_append_of_pos (p := fun c : UInt8 => c != 47) (l₁ := s.reverse) (l₂ := []) (fun c hc => by simpa using h c (by simpa using hc))
    simpa using this
  rw [this]; rfl
theorem dirL_slash (p l : Bs) (h : ∀ c ∈ l, c ≠ 47) : dirL (p ++ 47 :: l) = p := by
  unfold dirL
  rw [List.reverse_append, List.reverse_cons, List.append_assoc, List.dropWhile_append_of_pos (fun c hc => by simpa using h c (by simpa using hc))]
  simp
theorem last_slash (s : Bs) : (∀ c ∈ s, c ≠ 47) ∨ ∃ p l, s = p ++ 47 :: l ∧ ∀ c ∈ l, c ≠ (47 : UInt8) := by
  induction s with
  | nil => exact .inl fun c hc => by cases hc
  | cons b s ih =>
    rcases ih with h | ⟨p, l, rfl, hl⟩
    · by_cases hb : b = 47
      · subst hb; exact .inr ⟨[], s, rfl, h⟩
      · refine .inl fun c hc => ?_
        rcases List.mem_cons.1 hc with rfl | hc
        · exact hb
        · exact h c hc
    · exact .inr ⟨b :: p, l, rfl, hl⟩
theorem underL_iff {s q : Bs} (hq : q ≠ []) : underL s q = true ↔ ∃ r, s = q ++ 47 :: r := by
  unfold underL
  rw [Bool.or_eq_true, List.isPrefixOf_iff_prefix]
  constructor
  · rintro (h | ⟨r, rfl⟩)
    · exact absurd (List.isEmpty_iff.1 h) hq
    · exact ⟨r, by simp⟩
  · rintro ⟨r, rfl⟩
    exact .inr ⟨r, by simp⟩
theorem under_dir {s q : Bs} (hq : q ≠ []) (h : underL s q = true) : q = dirL s ∨ underL (dirL s) q = true := by
  obtain ⟨r, hr⟩ := (underL_iff hq).1 h
  rcases last_slash s with h0 | ⟨p, l, rfl, hl⟩
  · exact absurd rfl (h0 47 (by rw [hr]; simp))
  · rw [dirL_slash p l hl]
    rcases List.append_eq_append_iff.1 hr with ⟨t, h1, h2⟩ | ⟨t, h1, h2⟩
    · cases t with
      | nil => left; simpa using h1
      | cons b t =>
        exfalso
        have : l = t ++ 47 :: r := by simpa using (List.cons.inj h2).2
        exact hl 47 (by rw [this]; simp) rfl
    · cases t with
      | nil => left; simpa using h1.symm
      | cons b t =>
        right
        have hb : b = 47 := by simpa using (List.cons.inj h2).1.symm
        subst hb
        exact (underL_iff hq).2 ⟨t, h1⟩
theorem dir_under {s : Bs} (h : dirL s ≠ []) : underL s (dirL s) = true := by
  rcases last_slash s with h0 | ⟨p, l, rfl, hl⟩
  · exact absurd (dirL_none s h0) h
  · rw [dirL_slash p l hl] at h ⊢
    exact (underL_iff h).2 ⟨l, rfl⟩
theorem dir_shorter {s : Bs} (h : s ≠ []) : (dirL s).length < s.length := by
  rcases last_slash s with h0 | ⟨p, l, rfl, hl⟩
  · rw [dirL_none s h0]
    exact List.length_pos_iff.2 h
  · rw [dirL_slash p l hl]; simp
theorem under_trans {s d q : Bs} (hd : d ≠ []) (hq : q ≠ []) (h1 : underL s d = true) (h2 : underL d q = true) : underL s q = true := by
  obtain ⟨r, rfl⟩ := (underL_iff hd).1 h1
  obtain ⟨r', rfl⟩ := (underL_iff hq).1 h2
  exact (underL_iff hq).2 ⟨r' ++ 47 :: r, by simp⟩
theorem under_nil {q : Bs} (hq : q ≠ []) : underL [] q = false := by
  cases e : underL [] q with
  | false => rfl
  | true => obtain ⟨r, hr⟩ := (underL_iff hq).1 e; simp at hr

/-- What is known while the directories of s are gone through: d is the next one; none of those behind it is a path of l. -/
structure DirInv (l : List Fl) (s d : Bs) : Prop where
  at_ : d ≠ [] → underL s d = true
  rest : ∀ y ∈ l, y.1 ≠ [] → underL s y.1 = true → y.1 = d ∨ underL d y.1 = true
theorem DirInv.start (l : List Fl) (s : Bs) : DirInv l s (dirL s) := ⟨fun h => dir_under h, fun _ _ hn hu => under_dir hn hu⟩
theorem DirInv.next {l : List Fl} {s d : Bs} (h : DirInv l s d) (hd : d ≠ []) (hno : ∀ y ∈ l, y.1 ≠ d) : DirInv l s (dirL d) := by
  refine ⟨fun hn => ?_, fun y hy hn hu => ?_⟩
  · exact under_trans hd hn (h.at_ hd) (dir_under hn)
  · rcases h.rest y hy hn hu with e | h1
    · exact absurd e (hno y hy)
    · exact under_dir hn h1
theorem DirInv.done {l : List Fl} {s : Bs} (h : DirInv l s []) : (l.any fun y => !y.1.isEmpty && underL s y.1) = false := by
  rw [List.any_eq_false]
  intro y hy
  by_cases hn : y.1 = []
  · simp [hn]
  · cases e : underL s y.1 with
    | false => simp
    | true =>
      rcases h.rest y hy hn e with e1 | e1
      · exact absurd e1 hn
      · rw [under_nil hn] at e1; cases e1
theorem DirInv.found {l : List Fl} {s d : Bs} (h : DirInv l s d) (hd : d ≠ []) {y : Fl} (hy : y ∈ l) (e : y.1 = d) : (l.any fun y => !y.1.isEmpty && underL s y.1) = true := by
  rw [List.any_eq_true]
  refine ⟨y, hy, ?_⟩
  rw [e, h.at_ hd]
  simp [hd]
end Go.Proofs.YtedcaodbcognjaaDoor
