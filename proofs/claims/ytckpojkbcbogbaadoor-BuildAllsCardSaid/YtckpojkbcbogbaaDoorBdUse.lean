/-
  What the laws of layer 9 share: small trees, what All answers of them, a tree that a call made.
-/
import Derived.Test.YtckpojkbcbogbaaDoorBdWalkA
import Derived.Test.YtckpojkbcbogbaaDoorTTrb
namespace Go.Proofs.YtckpojkbcbogbaaDoor
open Go Go.RowKit Go.Shelf Go.Proofs
attribute [local go_sem] Oper.semAt_some

def SmT (x : Tg) : Prop := x.s.length ≤ 4001 ∧ x.d.length ≤ 4001
theorem gather_small : ∀ (t : List Fl) (l0 l : List Tg), (∀ f ∈ t, f.2.length ≤ 4000) → (∀ x ∈ l0, SmT x) → gatherT t (.ok l0) = .ok l → ∀ x ∈ l, SmT x
  | [], l0, l, _, h0, e => by cases e; exact h0
  | f :: t, l0, l, hs, h0, e => by
    rw [gatherT_cons] at e
    have hs2 : ∀ f ∈ t, f.2.length ≤ 4000 := fun g hg => hs g (List.mem_cons_of_mem _ hg)
    cases hb : isBd f.1 with
    | false =>
      have e2 : (Except.bind (.ok l0) fun l => if isBd f.1 then (bodyT f).map (l ++ ·) else .ok l) = (.ok l0 : Except Int (List Tg)) := by show (if isBd f.1 then _ else _) = _; rw [hb]; rfl
      rw [show ((Except.ok l0).bind fun l => if isBd f.1 then (bodyT f).map (l ++ ·) else .ok l) = (.ok l0 : Except Int (List Tg)) from e2] at e
      exact gather_small t l0 l hs2 h0 e
    | true =>
      have e2 : (Except.bind (.ok l0) fun l => if isBd f.1 then (bodyT f).map (l ++ ·) else .ok l) = (bodyT f).map (l0 ++ ·) := by show (if isBd f.1 then _ else _) = _; rw [hb]; rfl
      rw [show ((Except.ok l0).bind fun l => if isBd f.1 then (bodyT f).map (l ++ ·) else .ok l) = (bodyT f).map (l0 ++ ·) from e2] at e
      cases h2 : bodyT f with
      | error n => rw [h2] at e; rw [show (Except.error n : Except Int (List Tg)).map (l0 ++ ·) = .error n from rfl, gatherT_err] at e; cases e
      | ok m =>
        rw [h2] at e
        refine gather_small t (l0 ++ m) l hs2 (fun x hx => ?_) e
        rcases List.mem_append.1 hx with hx | hx
        · exact h0 x hx
        · unfold bodyT at h2
          split at h2
          · cases h2
            have h3 := (parseB_sz (dir := dirL f.1) (s := f.2)).2.2 x hx
            have h4 := hs f (by simp)
            exact ⟨by omega, by omega⟩
          · cases h2
theorem allT_small {t : List Fl} (hs : ∀ f ∈ t, f.2.length ≤ 4000) : ∀ x ∈ (allT t).2, SmT x := by
  intro x hx
  unfold allT at hx
  split at hx
  · cases hx
  · rename_i l hl
    split at hx
    · exact gather_small t [] l hs (fun x hx => by cases hx) hl x ((sortN_perm l).mem_iff.1 hx)
    · cases hx
theorem tgs_smallA {l : List TX} {t : List Fl} (hs : ∀ f ∈ t, f.2.length ≤ 4000) (h : tgsX l = (allT t).2) : ∀ x ∈ l, x.s.length ≤ 9000000000000 ∧ x.d.length ≤ 9000000000000 := fun x hx => by
  have := allT_small hs x.tg (by rw [← h]; exact List.mem_map.2 ⟨x, hx, rfl⟩)
  have e1 : x.tg.s = x.s := rfl
  have e2 : x.tg.d = x.d := rfl
  unfold SmT at this
  rw [e1, e2] at this
  omega
theorem fls_small {l : List FX} (h : ∀ f ∈ l, f.p.size ≤ 4000 ∧ f.b.length ≤ 4000) : ∀ f ∈ flsX l, f.2.length ≤ 4000 := fun f hf => by
  obtain ⟨x, hx, rfl⟩ := List.mem_map.1 hf
  exact (h x hx).2
theorem tree_own {base : Nat} {w : World} {v : Value} {l : List FX} (h : FilesOwn base w v l) (hf : FilesAt w l) : ∃ A c, v = .slice A l.length c ∧ TreeAt w A c l := by
  rcases h.form with ⟨rfl, rfl⟩ | ⟨g, cap, cur, rfl, _, _, h1, h2, _⟩
  · exact ⟨none, 0, rfl, Nat.le_refl _, Nat.zero_le _, fun h => absurd h (by simp), hf⟩
  · exact ⟨_, _, rfl, h1, h2, fun _ => ⟨g, 0, rfl, FilesOwn.rowF h⟩, hf⟩
theorem long_small {l : List FX} (h : longN l ≤ 3000) : ∀ f ∈ l, f.p.size ≤ 4000 ∧ f.b.length ≤ 4000 := fun f hf => by
  have := longN_mem hf
  omega
theorem gather_count : ∀ (t : List Fl) (l0 l : List Tg), (∀ f ∈ t, f.2.length ≤ 4000) → gatherT t (.ok l0) = .ok l → l.length ≤ l0.length + 4001 * t.length
  | [], l0, l, _, e => by cases e; simp
  | f :: t, l0, l, hs, e => by
    rw [gatherT_cons] at e
    have hs2 : ∀ f ∈ t, f.2.length ≤ 4000 := fun g hg => hs g (List.mem_cons_of_mem _ hg)
    cases hb : isBd f.1 with
    | false =>
      have e2 : (Except.bind (.ok l0) fun l => if isBd f.1 then (bodyT f).map (l ++ ·) else .ok l) = (.ok l0 : Except Int (List Tg)) := by show (if isBd f.1 then _ else _) = _; rw [hb]; rfl
      rw [show ((Except.ok l0).bind fun l => if isBd f.1 then (bodyT f).map (l ++ ·) else .ok l) = (.ok l0 : Except Int (List Tg)) from e2] at e
      have := gather_count t l0 l hs2 e
      rw [List.length_cons]; omega
    | true =>
      have e2 : (Except.bind (.ok l0) fun l => if isBd f.1 then (bodyT f).map (l ++ ·) else .ok l) = (bodyT f).map (l0 ++ ·) := by show (if isBd f.1 then _ else _) = _; rw [hb]; rfl
      rw [show ((Except.ok l0).bind fun l => if isBd f.1 then (bodyT f).map (l ++ ·) else .ok l) = (bodyT f).map (l0 ++ ·) from e2] at e
      cases h2 : bodyT f with
      | error n => rw [h2] at e; rw [show (Except.error n : Except Int (List Tg)).map (l0 ++ ·) = .error n from rfl, gatherT_err] at e; cases e
      | ok m =>
        rw [h2] at e
        have h3 := gather_count t (l0 ++ m) l hs2 e
        rw [List.length_append] at h3
        have h4 : m.length ≤ 4001 := by
          unfold bodyT at h2
          split at h2
          · cases h2
            have h5 := (parseB_sz (dir := dirL f.1) (s := f.2)).2.1
            have h6 := hs f (by simp)
            omega
          · cases h2
        rw [List.length_cons]; omega
theorem allT_count {t : List Fl} (hs : ∀ f ∈ t, f.2.length ≤ 4000) : (allT t).2.length ≤ 4001 * t.length := by
  unfold allT
  split
  · simp
  · rename_i l hl
    have := gather_count t [] l hs hl
    split
    · show (sortN l).length ≤ _
      rw [(sortN_perm l).length_eq]
      simpa using this
    · simp
end Go.Proofs.YtckpojkbcbogbaaDoor
