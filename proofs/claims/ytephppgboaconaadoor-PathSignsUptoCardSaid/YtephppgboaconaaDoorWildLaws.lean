/-
  Plain facts for the law PathWild: rows of patterns that match a path, or not.
-/
import Derived.Test.YtephppgboaconaaDoorLiteral
import Derived.Test.YtephppgboaconaaDoorRefClean
namespace Go.Proofs.YtephppgboaconaaDoor
open Go

theorem parted_front {α : Type} (many : α → Bool) (one : α → α → Bool) (ps is : List α) : ∀ P : List α, (∀ p ∈ P, many p = false ∧ one p p = true) → partedB many one (P ++ ps) (P ++ is) = partedB many one ps is
  | [], _ => rfl
  | p :: P, h => by
    have ih := parted_front many one ps is P (fun q hq => h q (by simp [hq]))
    simp only [List.cons_append, partedB, (h p (by simp)).1, (h p (by simp)).2, Bool.false_eq_true, if_false, Bool.true_and, ih]
theorem parted_skip {α : Type} (many : α → Bool) (one : α → α → Bool) (m : α) (ps is : List α) (hm : many m = true) (h : partedB many one ps is = true) : ∀ P : List α, partedB many one (m :: ps) (P ++ is) = true
  | [] => by
    cases is with
    | nil => simp only [List.nil_append, partedB, hm, h, Bool.and_self]
    | cons i r => simp only [List.nil_append, partedB, hm, h, if_true, Bool.true_or]
  | p :: P => by
    have ih := parted_skip many one m ps is hm h P
    simp only [List.cons_append, partedB, hm, if_true, ih, Bool.or_true]
theorem parted_rest {α : Type} (many : α → Bool) (one : α → α → Bool) (m : α) (hm : many m = true) (is : List α) : partedB many one [m] is = true := by
  have := parted_skip many one m [] [] hm (by simp [partedB]) is
  rwa [List.append_nil] at this
theorem parted_each {α : Type} (many : α → Bool) (one : α → α → Bool) : ∀ ps is : List α, ps.length = is.length → (∀ p ∈ ps, many p = false ∧ ∀ i, one p i = true) → partedB many one ps is = true
  | [], [], _, _ => by simp [partedB]
  | [], _ :: _, h, _ => by simp at h
  | p :: ps, [], h, _ => by simp at h
  | p :: ps, i :: is, h, hp => by
    have ih := parted_each many one ps is (by simpa using h) (fun q hq => hp q (by simp [hq]))
    simp only [partedB, (hp p (by simp)).1, (hp p (by simp)).2 i, Bool.false_eq_true, if_false, Bool.true_and, ih]
theorem parted_length {α : Type} (many : α → Bool) (one : α → α → Bool) : ∀ ps is : List α, (∀ p ∈ ps, many p = false) → ps.length ≠ is.length → partedB many one ps is = false
  | [], [], _, h => by simp at h
  | [], i :: is, _, _ => by rw [partedB]; rfl
  | p :: ps, [], hp, _ => by simp only [partedB, hp p (by simp), Bool.false_and]
  | p :: ps, i :: is, hp, h => by
    have ih := parted_length many one ps is (fun q hq => hp q (by simp [hq])) (by simpa using h)
    simp only [partedB, hp p (by simp), Bool.false_eq_true, if_false, ih, Bool.and_false]

theorem split_join : ∀ P : List Bs, P ≠ [] → (∀ p ∈ P, (47 : UInt8) ∉ p) → splitL 47 (joinL P) = P
  | [], h, _ => absurd rfl h
  | [p], _, h => by
    rw [joinL_one]
    exact splitL_all 47 p p.length (fun j _ _ e => h p (by simp) (List.mem_of_getElem? e)) (Nat.le_refl _)
  | p :: q :: r, _, h => by
    have ih := split_join (q :: r) (by simp) (fun x hx => h x (by simp [hx]))
    have h1 : splitL 47 p = [p] := splitL_all 47 p p.length (fun j _ _ e => h p (by simp) (List.mem_of_getElem? e)) (Nat.le_refl _)
    rw [joinL_cons _ _ (by simp), splitL_append, ih, h1]; rfl
theorem name_slash (p : Bs) (h : nameB p = true) : (47 : UInt8) ∉ p := fun hm =>
  absurd (plain_signs 47 ((name_all p h).2.2.2 47 hm)).2.2 (by decide)
theorem name_many (p : Bs) (h : nameB p = true) : (p == [42, 42]) = false := by
  rw [beq_eq_false_iff_ne]; rintro rfl
  exact absurd (plain_signs 42 ((name_all _ h).2.2.2 42 (by simp))).1 (by decide)

theorem star_pat : patB [42] = true := by decide
theorem stars_pat : patB [42, 42] = true := by decide
theorem any_pat : patB [63] = true := by decide
theorem star_fits (q : Bs) : fitsB [42] q = true := by
  unfold fitsB; exact parted_rest _ _ 42 (by decide) q

/-- A glob by its patterns. -/
theorem match_rows (g s : Bs) (P : List Bs) (hs : rightB s = true) (hg : splitL 47 g = P) (hl : g.length ≤ 100) (hP : ∀ p ∈ P, patB p = true) : matchB g s = partedB (fun p => p == [42, 42]) fitsB P (splitL 47 s) := by
  have h1 : globB g = true := by
    unfold globB partsB
    rw [hg, Bool.and_eq_true, decide_eq_true_eq, List.all_eq_true]
    exact ⟨hl, hP⟩
  unfold matchB
  rw [h1, hs, hg]; rfl
theorem match_not (g s : Bs) (P : List Bs) (hg : splitL 47 g = P) (hp : partedB (fun p => p == [42, 42]) fitsB P (splitL 47 s) = false) : matchB g s = false := by
  unfold matchB
  rw [hg, hp, Bool.and_false]

theorem names_front (s : Bs) (hs : rightB s = true) (k : Nat) : ∀ p ∈ (splitL 47 s).take k, nameB p = true := fun p hp => (right_names s hs).2 p (List.mem_of_mem_take hp)
theorem name_self (p : Bs) (h : nameB p = true) : (fun p : Bs => p == [42, 42]) p = false ∧ fitsB p p = true := ⟨name_many p h, by rw [name_fits p p h]; simp⟩

/-- Some of the first names, and any number behind. -/
theorem wild_front (s : Bs) (hs : rightB s = true) (h90 : s.length ≤ 90) (k : Nat) : matchB (join2 (joinL ((splitL 47 s).take k)) [42, 42]) s = true := by
  have hn := names_front s hs k
  obtain ⟨P, hP⟩ : ∃ P, (splitL 47 s).take k = P := ⟨_, rfl⟩
  have hsp : splitL 47 s = P ++ (splitL 47 s).drop k := by rw [← hP, List.take_append_drop]
  have hw : (joinL P).length ≤ s.length + 1 := by
    have h1 := join_le P
    have h2 := wide_take (splitL 47 s) k
    have h3 := wide_splitL 47 s
    rw [hP] at h2; omega
  rw [hP] at hn ⊢
  have hg : splitL 47 (join2 (joinL P) [42, 42]) = P ++ [[42, 42]] := by
    by_cases hk : P = []
    · subst hk; rw [joinL_nil, nil_join2]; decide
    · have hj : joinL P ≠ [] := by
        intro e
        have h1 := split_join P hk (fun p hp => name_slash p (hn p hp))
        rw [e] at h1
        have h2 : P = [[]] := by rw [← h1]; rfl
        exact name_ne [] (hn [] (by rw [h2]; simp)) rfl
      unfold join2
      rw [if_neg hj, if_neg (by simp), splitL_append, split_join P hk (fun p hp => name_slash p (hn p hp))]
      rfl
  have hlen := join2_len (joinL P) [42, 42]
  rw [match_rows _ s _ hs hg (by simp at hlen; omega) (fun p hp => ?_), hsp, parted_front _ _ _ _ P (fun p hp => name_self p (hn p hp)), parted_rest _ _ _ (by rfl)]
  rcases List.mem_append.1 hp with h | h
  · exact name_pat p (hn p h)
  · rw [List.mem_singleton.1 h]; exact stars_pat

def stars (m : Nat) : List Bs := List.replicate m [42]
theorem stars_len : ∀ m : Nat, (joinL (stars (m + 1))).length = 2 * m + 1
  | 0 => by unfold stars; rw [List.replicate_one, joinL_one]; rfl
  | m + 1 => by
    have ih := stars_len m
    unfold stars at ih ⊢
    rw [List.replicate_succ' , joinL_snoc _ _ (by simp), List.length_append, ih]
    simp; omega
theorem stars_split (m : Nat) : splitL 47 (joinL (stars (m + 1))) = stars (m + 1) :=
  split_join _ (by unfold stars; simp) (fun p hp => by rw [List.eq_of_mem_replicate hp]; decide)
theorem stars_step (m : Nat) : joinL (stars (m + 2)) = joinL (stars (m + 1)) ++ [47, 42] := by
  unfold stars; rw [List.replicate_succ', joinL_snoc _ _ (by simp)]
theorem right_count (s : Bs) (hs : rightB s = true) : 2 * (splitL 47 s).length ≤ s.length + 1 := by
  have h := wide_splitL 47 s
  have hn := (right_names s hs).2
  have : ∀ P : List Bs, (∀ p ∈ P, nameB p = true) → 2 * P.length ≤ wide P := by
    intro P
    induction P with
    | nil => intro _; simp
    | cons p r ih =>
      intro hp
      have h1 := ih (fun q hq => hp q (by simp [hq]))
      have h2 : p ≠ [] := name_ne p (hp p (by simp))
      have h3 := List.length_pos_iff.2 h2
      simp only [wide, List.map_cons, List.sum_cons, List.length_cons] at h1 ⊢
      omega
  have := this _ hn
  omega
theorem wild_one (s : Bs) (hs : rightB s = true) (h90 : s.length ≤ 90) (n : Nat) (hn : (splitL 47 s).length = n + 1) : matchB (joinL (stars (n + 1))) s = true := by
  have hc := right_count s hs
  have hl := stars_len n
  rw [match_rows _ s _ hs (stars_split n) (by omega) (fun p hp => by rw [List.eq_of_mem_replicate hp]; exact star_pat)]
  exact parted_each _ _ _ _ (by unfold stars; rw [List.length_replicate, hn]) (fun p hp => by rw [List.eq_of_mem_replicate hp]; exact ⟨by decide, star_fits⟩)
theorem wild_more (s : Bs) (n : Nat) (hn : (splitL 47 s).length = n + 1) : matchB (joinL (stars (n + 1)) ++ [47, 42]) s = false := by
  rw [← stars_step n]
  refine match_not _ s _ (stars_split (n + 1)) (parted_length _ _ _ _ (fun p hp => by rw [List.eq_of_mem_replicate hp]; decide) ?_)
  unfold stars; rw [List.length_replicate, hn]; omega
theorem wild_name (s : Bs) (hs : rightB s = true) : matchB (s ++ [47, 63]) s = false := by
  refine match_not _ s (splitL 47 s ++ [[63]]) (splitL_append 47 s [63]) (parted_length _ _ _ _ (fun p hp => ?_) (by simp))
  rcases List.mem_append.1 hp with h | h
  · exact name_many p ((right_names s hs).2 p h)
  · rw [List.mem_singleton.1 h]; decide
theorem wild_behind (s : Bs) (hs : rightB s = true) (h90 : s.length ≤ 90) : matchB (s ++ [47, 42, 42]) s = true := by
  have hn := (right_names s hs).2
  rw [match_rows _ s _ hs (splitL_append 47 s [42, 42]) (by simp; omega) (fun p hp => ?_)]
  · have h1 := parted_front (fun p : Bs => p == [42, 42]) fitsB (splitL 47 [42, 42]) [] (splitL 47 s) (fun p hp => name_self p (hn p hp))
    rw [List.append_nil] at h1
    rw [h1, show splitL 47 [42, 42] = [[42, 42]] from by decide]; exact parted_rest _ _ _ (by rfl) _
  · rcases List.mem_append.1 hp with h | h
    · exact name_pat p (hn p h)
    · rw [show p = [42, 42] by simpa [splitL] using h]; exact stars_pat
theorem wild_all (s : Bs) (hs : rightB s = true) : matchB [42, 42] s = true := by
  rw [match_rows [42, 42] s [[42, 42]] hs (by decide) (by simp) (fun p hp => by rw [List.mem_singleton.1 hp]; exact stars_pat)]
  exact parted_rest _ _ _ (by rfl) _
/-- The last name, behind any number. -/
theorem wild_last (s b : Bs) (hs : rightB s = true) (F : List Bs) (hb : splitL 47 s = F ++ [b]) : matchB ([42, 42, 47] ++ b) s = true := by
  have hn := (right_names s hs).2
  have hbn : nameB b = true := hn b (by rw [hb]; simp)
  have hbl := (name_all b hbn).2.2.1
  have h1 : splitL 47 b = [b] := splitL_all 47 b b.length (fun j _ _ e => name_slash b hbn (List.mem_of_getElem? e)) (Nat.le_refl _)
  have hg : splitL 47 ([42, 42, 47] ++ b) = [42, 42] :: [b] := by
    have := splitL_append 47 [42, 42] b
    rw [h1] at this
    exact this
  rw [match_rows _ s _ hs hg (by simp; omega) (fun p hp => ?_), hb]
  · refine parted_skip _ _ _ _ _ (by rfl) ?_ F
    have := parted_front (fun p : Bs => p == [42, 42]) fitsB [] [] [b] (fun p hp => by rw [List.mem_singleton.1 hp]; exact name_self b hbn)
    simpa [partedB] using this
  · rcases List.mem_cons.1 hp with h | h
    · rw [h]; exact stars_pat
    · rw [List.mem_singleton.1 h]; exact name_pat b hbn
theorem last_name (s : Bs) : ∃ F, splitL 47 s = F ++ [baseL s] := by
  rcases List.eq_nil_or_concat (splitL 47 s) with h | ⟨F, b, h⟩
  · exact absurd h (splitL_ne 47 s)
  · refine ⟨F, ?_⟩
    rw [List.concat_eq_append] at h
    rw [h]
    have hs : s = joinL (F ++ [b]) := by rw [← h, join_split]
    have hb : ∀ c ∈ b, c ≠ 47 := by
      have : ∀ (l : Bs) (p : Bs), p ∈ splitL 47 l → ∀ c ∈ p, c ≠ 47 := by
        intro l
        induction l with
        | nil => intro p hp c hc; simp [splitL] at hp; subst hp; cases hc
        | cons x r ih =>
          intro p hp c hc
          by_cases hx : (x == 47) = true
          · rw [splitL_cons_hit 47 x r hx] at hp
            rcases List.mem_cons.1 hp with e | e
            · subst e; cases hc
            · exact ih p e c hc
          · have hx' : (x == 47) = false := by simpa using hx
            cases e : splitL 47 r with
            | nil => exact absurd e (splitL_ne 47 r)
            | cons q qs =>
              rw [splitL_cons_miss 47 x r q qs hx' e] at hp
              rcases List.mem_cons.1 hp with e2 | e2
              · subst e2
                rcases List.mem_cons.1 hc with e3 | e3
                · subst e3; simpa using hx'
                · exact ih q (by rw [e]; simp) c e3
              · exact ih p (by rw [e]; simp [e2]) c hc
      exact this s b (by rw [h]; simp)
    by_cases hF : F = []
    · subst hF; rw [hs, List.nil_append, joinL_one, baseL_none b hb]; rfl
    · rw [hs, joinL_snoc F b hF, baseL_slash, baseL_none b hb]
end Go.Proofs.YtephppgboaconaaDoor
