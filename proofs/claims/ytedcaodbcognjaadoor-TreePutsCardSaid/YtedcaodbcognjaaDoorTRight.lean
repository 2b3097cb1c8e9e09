/-
  Plain laws of layer 2 (tree): when a list may be a tree, place by place; files that lie below others. No program is named here.
-/
import Derived.Test.YtedcaodbcognjaaDoorTLaws
namespace Go.Proofs.YtedcaodbcognjaaDoor
open Go

theorem rightB_ne {s : Bs} (h : rightB s = true) : s ≠ [] := by
  rintro rfl
  revert h
  decide +kernel
theorem right_iff (l : List Fl) : rightT l = true ↔ l.length ≤ 1000 ∧ ∀ (i : Nat) (x : Fl), l[i]? = some x → okF x = true ∧ ∀ (k : Nat) (y : Fl), k < i → l[k]? = some y → aheadB y x = true := by
  unfold rightT
  simp only [Bool.and_eq_true, decide_eq_true_eq, List.all_eq_true, pairB_iff]
  rw [List.pairwise_iff_getElem]
  constructor
  · rintro ⟨⟨h1, h2⟩, h3⟩
    refine ⟨h1, fun i x hx => ⟨h2 x (List.mem_of_getElem? hx), fun k y hk hy => ?_⟩⟩
    obtain ⟨hi, rfl⟩ := List.getElem?_eq_some_iff.1 hx
    obtain ⟨hk', rfl⟩ := List.getElem?_eq_some_iff.1 hy
    exact h3 k i hk' hi hk
  · rintro ⟨h1, h2⟩
    refine ⟨⟨h1, fun x hx => ?_⟩, fun k i hk hi hki => ?_⟩
    · obtain ⟨i, hi⟩ := List.mem_iff_getElem?.1 hx
      exact (h2 i x hi).1
    · exact (h2 i _ (List.getElem?_eq_getElem hi)).2 k _ hki (List.getElem?_eq_getElem hk)

/-- A file of l lies below another one. -/
def nestedL (l : List Fl) : Bool := l.any fun x => l.any fun y => !y.1.isEmpty && underL x.1 y.1
theorem chain_lt {l : List Fl} (h : ∀ (i : Nat) (x y : Fl), l[i]? = some x → l[i + 1]? = some y → ltB x.1 y.1 = true) : ∀ (d i : Nat) (x y : Fl), l[i]? = some x → l[i + d + 1]? = some y → ltB x.1 y.1 = true
  | 0, i, x, y, hx, hy => h i x y hx hy
  | d + 1, i, x, y, hx, hy => by
    have hl := (List.getElem?_eq_some_iff.1 hy).1
    obtain ⟨z, hz⟩ : ∃ z, l[i + d + 1]? = some z := ⟨_, List.getElem?_eq_getElem (by omega)⟩
    exact ltB_trans _ _ _ (chain_lt h d i x z hx hz) (h _ z y hz (by rw [show i + d + 1 + 1 = i + (d + 1) + 1 from by omega]; exact hy))
theorem chain_rises {l : List Fl} (h : ∀ (i : Nat) (x y : Fl), l[i]? = some x → l[i + 1]? = some y → ltB x.1 y.1 = true) : l.Pairwise (fun x y => ltB x.1 y.1 = true) := by
  rw [List.pairwise_iff_getElem]
  intro i j hi hj hij
  exact chain_lt h (j - i - 1) i _ _ (List.getElem?_eq_getElem hi) (by rw [show i + (j - i - 1) + 1 = j from by omega]; exact List.getElem?_eq_getElem hj)
theorem under_lt {s d : Bs} (hd : d ≠ []) (h : underL s d = true) : ltB d s = true := by
  unfold underL at h
  rw [Bool.or_eq_true] at h
  rcases h with h | h
  · exact absurd (List.isEmpty_iff.1 h) hd
  · rw [List.isPrefixOf_iff_prefix] at h
    obtain ⟨r, rfl⟩ := h
    rw [List.append_assoc]
    exact ltB_longer _ _ (by simp)
/-- What the program asks of a list is what the document does. -/
theorem right_of {l : List Fl} (h1 : longT l = false) (h2 : ∀ (i : Nat) (x : Fl), l[i]? = some x → rightB x.1 = true) (h3 : ∀ (i : Nat) (x y : Fl), l[i]? = some x → l[i + 1]? = some y → ltB x.1 y.1 = true) : rightT l = !nestedL l := by
  have hs := chain_rises h3
  unfold longT at h1
  simp only [Bool.or_eq_false_iff, decide_eq_false_iff_not, List.any_eq_false, decide_eq_true_eq] at h1
  have hb : ∀ x ∈ l, rightB x.1 = true := fun x hx => by obtain ⟨i, hi⟩ := List.mem_iff_getElem?.1 hx; exact h2 i x hi
  cases e : nestedL l with
  | false =>
    unfold rightT
    simp only [Bool.not_false, Bool.and_eq_true, decide_eq_true_eq, List.all_eq_true, pairB_iff]
    refine ⟨⟨by omega, fun x hx => ?_⟩, ?_⟩
    · unfold okF
      have := h1.2 x hx
      simp only [hb x hx, Bool.true_and, decide_eq_true_eq]
      omega
    · have hne := e
      unfold nestedL at hne
      simp only [List.any_eq_false, Bool.not_eq_true] at hne
      rw [List.pairwise_iff_getElem] at hs ⊢
      intro i j hi hj hij
      unfold aheadB
      rw [hs i j hi hj hij]
      have := hne _ (List.getElem_mem hj) _ (List.getElem_mem hi)
      have hn := rightB_ne (hb _ (List.getElem_mem hi))
      simpa [hn] using this
  | true =>
    cases e2 : rightT l with
    | false => rfl
    | true =>
      obtain ⟨_, _, hp⟩ := right_all e2
      unfold nestedL at e
      simp only [List.any_eq_true, Bool.and_eq_true, Bool.not_eq_true', List.isEmpty_eq_false_iff] at e
      obtain ⟨x, hx, y, hy, hyn, hu⟩ := e
      have hlt := under_lt hyn hu
      obtain ⟨i, hi⟩ := List.mem_iff_getElem?.1 hx
      obtain ⟨j, hj⟩ := List.mem_iff_getElem?.1 hy
      obtain ⟨hil, rfl⟩ := List.getElem?_eq_some_iff.1 hi
      obtain ⟨hjl, rfl⟩ := List.getElem?_eq_some_iff.1 hj
      rw [List.pairwise_iff_getElem] at hs hp
      rcases Nat.lt_trichotomy i j with h | h | h
      · have := hs i j hil hjl h
        rw [ltB_asymm _ _ hlt] at this; cases this
      · subst h; rw [ltB_irrefl] at hlt; cases hlt
      · have := hp j i hjl hil h
        unfold aheadB at this
        rw [hu] at this; simp at this
theorem right_long {l : List Fl} (h : longT l = true) : rightT l = false := by
  cases e : rightT l with
  | false => rfl
  | true => rw [right_not_long e] at h; cases h
theorem right_bad {l : List Fl} {i : Nat} {x : Fl} (hx : l[i]? = some x) (h : rightB x.1 = false) : rightT l = false := by
  cases e : rightT l with
  | false => rfl
  | true => rw [((right_all e).2.1 x (List.mem_of_getElem? hx)).1] at h; cases h
theorem right_falls {l : List Fl} {i k : Nat} {x y : Fl} (hk : k < i) (hx : l[i]? = some x) (hy : l[k]? = some y) (h : aheadB y x = false) : rightT l = false := by
  cases e : rightT l with
  | false => rfl
  | true => rw [(((right_iff l).1 e).2 i x hx).2 k y hk hy] at h; cases h
end Go.Proofs.YtedcaodbcognjaaDoor
