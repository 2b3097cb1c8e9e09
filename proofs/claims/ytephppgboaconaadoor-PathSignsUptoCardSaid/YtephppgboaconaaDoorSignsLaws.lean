/-
  Plain facts for the law PathSigns: a path with one byte of a name another one, or a sign.
-/
import Derived.Test.YtephppgboaconaaDoorWildLaws
namespace Go.Proofs.YtephppgboaconaaDoor
open Go

/-- The pieces, where one byte that is no slash is put. -/
theorem split_put : ∀ X Y : Bs, ∃ (F : List Bs) (p q : Bs) (R : List Bs), ∀ c : UInt8, c ≠ 47 → splitL 47 (X ++ c :: Y) = F ++ (p ++ c :: q) :: R
  | [], Y => by
    cases e : splitL 47 Y with
    | nil => exact absurd e (splitL_ne 47 Y)
    | cons q R => exact ⟨[], [], q, R, fun c hc => splitL_cons_miss 47 c Y q R (beq_eq_false_iff_ne.2 hc) e⟩
  | x :: X, Y => by
    obtain ⟨F, p, q, R, h⟩ := split_put X Y
    by_cases hx : (x == 47) = true
    · exact ⟨[] :: F, p, q, R, fun c hc => by rw [List.cons_append, splitL_cons_hit 47 x _ hx, h c hc]; rfl⟩
    · have hx' : (x == 47) = false := by simpa using hx
      cases F with
      | nil => exact ⟨[], x :: p, q, R, fun c hc => by rw [List.cons_append, splitL_cons_miss 47 x _ _ _ hx' (h c hc)]; rfl⟩
      | cons f F => exact ⟨(x :: f) :: F, p, q, R, fun c hc => by rw [List.cons_append, splitL_cons_miss 47 x _ _ _ hx' (h c hc)]; rfl⟩

def isLetter (c : UInt8) : Prop := plainB c = true ∧ c ≠ 46
/-- A name, or a pattern, with one byte another. -/
theorem name_put (p q : Bs) (b c : UInt8) (h : nameB (p ++ b :: q) = true) (hc : isLetter c) : nameB (p ++ c :: q) = true := by
  obtain ⟨_, _, h3, h4⟩ := name_all _ h
  have hall : ∀ x ∈ p ++ c :: q, plainB x = true := fun x hx => by
    rcases List.mem_append.1 hx with e | e
    · exact h4 x (by simp [e])
    · rcases List.mem_cons.1 e with e | e
      · rw [e]; exact hc.1
      · exact h4 x (by simp [e])
  have hm : c ∈ p ++ c :: q := by simp
  have n1 : p ++ c :: q ≠ [46] := fun e => by rw [e] at hm; exact hc.2 (by simpa using hm)
  have n2 : p ++ c :: q ≠ [46, 46] := fun e => by rw [e] at hm; exact hc.2 (by simpa using hm)
  unfold nameB speltB
  simp only [Bool.and_eq_true, Bool.not_eq_true', decide_eq_true_eq, List.all_eq_true, beq_eq_false_iff_ne]
  refine ⟨⟨⟨⟨by simp, n1⟩, n2⟩, by simpa using h3⟩, fun x hx => ?_⟩
  unfold okB; rw [hall x hx]; rfl
theorem once_twice (p q : Bs) (c a : UInt8) (hp : a ∉ p) (hq : a ∉ q) : Lib.contains (p ++ c :: q) [a, a] = false := by
  cases e : Lib.contains (p ++ c :: q) [a, a] with
  | false => rfl
  | true =>
    unfold Lib.contains at e
    rw [decide_eq_true_eq] at e
    rcases Lib.index_spec (p ++ c :: q) [a, a] with ⟨h1, _⟩ | ⟨i, _, _, ho, _⟩
    · omega
    · unfold Lib.occAt at ho
      obtain ⟨t, ht⟩ := List.isPrefixOf_iff_prefix.1 ho
      have hcount : (p ++ c :: q).count a ≤ 1 := by
        rw [List.count_append, List.count_cons, List.count_eq_zero.2 hp, List.count_eq_zero.2 hq]
        split <;> simp
      have h2 : ((p ++ c :: q).drop i).count a ≤ (p ++ c :: q).count a := List.Sublist.count_le a (List.drop_sublist _ _)
      rw [← ht, List.count_append] at h2
      have h3 : ([a, a] : List UInt8).count a = 2 := by simp
      omega
theorem pat_put (p q : Bs) (b c : UInt8) (h : nameB (p ++ b :: q) = true) (hc : c = 63 ∨ c = 42) : patB (p ++ c :: q) = true := by
  obtain ⟨_, _, h3, h4⟩ := name_all _ h
  have h46 : c ≠ 46 := by rcases hc with rfl | rfl <;> decide
  have hm : c ∈ p ++ c :: q := by simp
  have n1 : p ++ c :: q ≠ [46] := fun e => by rw [e] at hm; exact h46 (by simpa using hm)
  have n2 : p ++ c :: q ≠ [46, 46] := fun e => by rw [e] at hm; exact h46 (by simpa using hm)
  have ha : ∀ x ∈ p ++ c :: q, okB [42, 63] x = true := fun x hx => by
    unfold okB
    rcases List.mem_append.1 hx with e | e
    · rw [h4 x (by simp [e])]; rfl
    · rcases List.mem_cons.1 e with e | e
      · rw [e]; rcases hc with rfl | rfl <;> decide
      · rw [h4 x (by simp [e])]; rfl
  have h42 : ∀ l : Bs, (∀ x ∈ l, plainB x = true) → (42 : UInt8) ∉ l := fun l hl hx => absurd (plain_signs 42 (hl 42 hx)).1 (by decide)
  have ho := once_twice p q c 42 (h42 p fun x hx => h4 x (by simp [hx])) (h42 q fun x hx => h4 x (by simp [hx]))
  unfold patB
  rw [ho]
  have hs : speltB [42, 63] (p ++ c :: q) = true := by
    unfold speltB
    simp only [Bool.and_eq_true, Bool.not_eq_true', decide_eq_true_eq, List.all_eq_true, beq_eq_false_iff_ne]
    exact ⟨⟨⟨⟨by simp, n1⟩, n2⟩, by simpa using h3⟩, ha⟩
  rw [hs]; simp
theorem bytes_self (p : Bs) (h : ∀ x ∈ p, plainB x = true) : ∀ x ∈ p, (fun c : UInt8 => c == 42) x = false ∧ (fun c b : UInt8 => c == 63 || c == b) x x = true := fun x hx => ⟨(plain_signs x (h x hx)).1, by simp⟩
theorem bytes_rest (q : Bs) (h : ∀ x ∈ q, plainB x = true) : partedB (fun c : UInt8 => c == 42) (fun c b => c == 63 || c == b) q q = true := by
  have := parted_front (fun c : UInt8 => c == 42) (fun c b => c == 63 || c == b) [] [] q (bytes_self q h)
  simpa [partedB] using this
theorem any_fits (p q : Bs) (b : UInt8) (h : nameB (p ++ b :: q) = true) : fitsB (p ++ 63 :: q) (p ++ b :: q) = true := by
  have h4 := (name_all _ h).2.2.2
  unfold fitsB
  rw [parted_front _ _ _ _ p (bytes_self p fun x hx => h4 x (by simp [hx]))]
  have := bytes_rest q (fun x hx => h4 x (by simp [hx]))
  simp only [partedB, this]; rfl
theorem many_fits (p q : Bs) (b : UInt8) (h : nameB (p ++ b :: q) = true) : fitsB (p ++ 42 :: q) (p ++ b :: q) = true := by
  have h4 := (name_all _ h).2.2.2
  unfold fitsB
  rw [parted_front _ _ _ _ p (bytes_self p fun x hx => h4 x (by simp [hx]))]
  exact parted_skip _ _ 42 q q (by rfl) (bytes_rest q (fun x hx => h4 x (by simp [hx]))) [b]

theorem right_put (X Y : Bs) (b c : UInt8) (hb : b ≠ 47) (h : rightB (X ++ b :: Y) = true) (hc : isLetter c) : rightB (X ++ c :: Y) = true := by
  obtain ⟨F, p, q, R, hs⟩ := split_put X Y
  obtain ⟨h1, h2⟩ := right_names _ h
  have hc47 : c ≠ 47 := by rintro rfl; exact absurd hc.1 (by decide)
  rw [hs b hb] at h2
  unfold rightB partsB
  rw [Bool.and_eq_true, decide_eq_true_eq, List.all_eq_true, hs c hc47]
  refine ⟨by simpa using h1, fun x hx => ?_⟩
  rcases List.mem_append.1 hx with e | e
  · exact h2 x (by simp [e])
  · rcases List.mem_cons.1 e with e | e
    · rw [e]; exact name_put p q b c (h2 _ (by simp)) hc
    · exact h2 x (by simp [e])
theorem sign_match (X Y : Bs) (b c : UInt8) (hb : b ≠ 47) (h : rightB (X ++ b :: Y) = true) (hc : c = 63 ∨ c = 42) : matchB (X ++ c :: Y) (X ++ b :: Y) = true := by
  obtain ⟨F, p, q, R, hs⟩ := split_put X Y
  obtain ⟨h1, h2⟩ := right_names _ h
  have hc47 : c ≠ 47 := by rcases hc with rfl | rfl <;> decide
  have hsb := hs b hb
  rw [hsb] at h2
  have hmid : nameB (p ++ b :: q) = true := h2 _ (by simp)
  have hF : ∀ x ∈ F, nameB x = true := fun x hx => h2 x (by simp [hx])
  have hR : ∀ x ∈ R, nameB x = true := fun x hx => h2 x (by simp [hx])
  have hpat := pat_put p q b c hmid hc
  have hfit : fitsB (p ++ c :: q) (p ++ b :: q) = true := by
    rcases hc with rfl | rfl
    · exact any_fits p q b hmid
    · exact many_fits p q b hmid
  rw [match_rows _ _ _ h (hs c hc47) (by simpa using h1) (fun x hx => ?_), hsb]
  · rw [parted_front _ _ _ _ F (fun x hx => name_self x (hF x hx))]
    have hrest := parted_front (fun p : Bs => p == [42, 42]) fitsB [] [] R (fun x hx => name_self x (hR x hx))
    rw [List.append_nil] at hrest
    by_cases hm : ((p ++ c :: q) == [42, 42]) = true
    · exact parted_skip (fun p : Bs => p == [42, 42]) fitsB _ R R hm (by rw [hrest]; simp [partedB]) [p ++ b :: q]
    · have hm' : ((p ++ c :: q) == [42, 42]) = false := by simpa using hm
      simp only [partedB, hm', hfit, Bool.false_eq_true, if_false, Bool.true_and]
      rw [hrest]; simp [partedB]
  · rcases List.mem_append.1 hx with e | e
    · exact name_pat x (hF x e)
    · rcases List.mem_cons.1 e with e | e
      · rw [e]; exact hpat
      · exact name_pat x (hR x e)
end Go.Proofs.YtephppgboaconaaDoor
