/-
  Plain laws of layer 2 (tree), for the statements without the document's answer. No program is named here.
-/
import Derived.Test.YtedcaodbcognjaaDoorTLaws
namespace Go.Proofs.YtedcaodbcognjaaDoor
open Go

abbrev Rises (l : List Fl) : Prop := l.Pairwise (fun x y => ltB x.1 y.1 = true)

/-- Lists by rising paths that have the same files are the same. -/
theorem rises_ext : ∀ (a b : List Fl), Rises a → Rises b → (∀ x, x ∈ a ↔ x ∈ b) → a = b
  | [], [], _, _, _ => rfl
  | [], y :: b, _, _, h => by have := (h y).2 (by simp); simp at this
  | x :: a, [], _, _, h => by have := (h x).1 (by simp); simp at this
  | x :: a, y :: b, ha, hb, h => by
    obtain ⟨a1, a2⟩ := List.pairwise_cons.1 ha
    obtain ⟨b1, b2⟩ := List.pairwise_cons.1 hb
    have hxy : x = y := by
      rcases List.mem_cons.1 ((h x).1 (by simp)) with e | hx
      · exact e
      · rcases List.mem_cons.1 ((h y).2 (by simp)) with e | hy
        · exact e.symm
        · have h1 := b1 x hx
          have h2 := a1 y hy
          rw [ltB_asymm _ _ h1] at h2; cases h2
    subst hxy
    have hnx : ∀ z, z ∈ a → z ≠ x := fun z hz e => by subst e; exact ltB_ne _ _ (a1 z hz) rfl
    have hnx' : ∀ z, z ∈ b → z ≠ x := fun z hz e => by subst e; exact ltB_ne _ _ (b1 z hz) rfl
    rw [rises_ext a b a2 b2 fun z => ?_]
    constructor
    · intro hz
      rcases List.mem_cons.1 ((h z).1 (by simp [hz])) with e | h1
      · exact absurd e (hnx z hz)
      · exact h1
    · intro hz
      rcases List.mem_cons.1 ((h z).2 (by simp [hz])) with e | h1
      · exact absurd e (hnx' z hz)
      · exact h1

theorem mem_dropT {l : List Fl} {s : Bs} {x : Fl} : x ∈ dropT l s ↔ x ∈ l ∧ x.1 ≠ s := by unfold dropT; simp [List.mem_filter]
theorem mem_insT {l : List Fl} {f x : Fl} : x ∈ insT l f ↔ x = f ∨ x ∈ l := by
  unfold insT
  have : x ∈ l ↔ x ∈ l.takeWhile (fun x => !ltB f.1 x.1) ∨ x ∈ l.dropWhile (fun x => !ltB f.1 x.1) := by
    rw [← List.mem_append, List.takeWhile_append_dropWhile]
  rw [this, List.mem_append, List.mem_cons]
  constructor
  · rintro (h | h | h)
    · exact .inr (.inl h)
    · exact .inl h
    · exact .inr (.inr h)
  · rintro (h | h | h)
    · exact .inr (.inl h)
    · exact .inl h
    · exact .inr (.inr h)
theorem mem_putT {l : List Fl} {f x : Fl} : x ∈ putT l f ↔ x = f ∨ (x ∈ l ∧ x.1 ≠ f.1) := by unfold putT; rw [mem_insT, mem_dropT]
theorem rises_dropT {l : List Fl} (s : Bs) (h : Rises l) : Rises (dropT l s) := h.filter _
theorem dropWhile_head {α : Type} (p : α → Bool) : ∀ (l : List α) (x : α) (r : List α), l.dropWhile p = x :: r → p x = false
  | [], x, r, h => by simp at h
  | y :: l, x, r, h => by
    rw [List.dropWhile_cons] at h
    split at h
    · exact dropWhile_head p l x r h
    · rename_i hy
      cases h
      simpa using hy
theorem rises_insT {l : List Fl} {f : Fl} (h : Rises l) (hn : ∀ x ∈ l, x.1 ≠ f.1) : Rises (insT l f) := by
  have e : l = l.takeWhile (fun x => !ltB f.1 x.1) ++ l.dropWhile (fun x => !ltB f.1 x.1) := List.takeWhile_append_dropWhile.symm
  have h0 := h
  rw [e] at h0
  obtain ⟨h1, h2, h3⟩ := List.pairwise_append.1 h0
  have ha : ∀ x ∈ l.takeWhile (fun x => !ltB f.1 x.1), ltB x.1 f.1 = true := fun x hx => by
    have hx1 := List.all_eq_true.1 (List.all_takeWhile (p := fun x : Fl => !ltB f.1 x.1) (l := l)) x hx
    have hx2 : x ∈ l := (List.takeWhile_prefix _).subset hx
    cases e2 : ltB x.1 f.1 with
    | true => rfl
    | false => exact absurd (ltB_tri _ _ e2 (by simpa using hx1)) (hn x hx2)
  have hb : ∀ y ∈ l.dropWhile (fun x => !ltB f.1 x.1), ltB f.1 y.1 = true := fun y hy => by
    cases e2 : l.dropWhile (fun x => !ltB f.1 x.1) with
    | nil => rw [e2] at hy; cases hy
    | cons z r =>
      have hz := dropWhile_head _ _ _ _ e2
      have hz' : ltB f.1 z.1 = true := by simpa using hz
      rw [e2] at hy h2
      rcases List.mem_cons.1 hy with rfl | hy
      · exact hz'
      · exact ltB_trans _ _ _ hz' ((List.pairwise_cons.1 h2).1 y hy)
  unfold insT
  rw [Rises, List.pairwise_append]
  refine ⟨h1, List.pairwise_cons.2 ⟨hb, h2⟩, fun x hx y hy => ?_⟩
  rcases List.mem_cons.1 hy with rfl | hy
  · exact ha x hx
  · exact h3 x hx y hy
theorem rises_putT {l : List Fl} (f : Fl) (h : Rises l) : Rises (putT l f) := rises_insT (rises_dropT f.1 h) fun _ hx => (mem_dropT.1 hx).2
theorem put_put_other {l : List Fl} {f g : Fl} (h : Rises l) (hne : f.1 ≠ g.1) : putT (putT l f) g = putT (putT l g) f := by
  refine rises_ext _ _ (rises_putT _ (rises_putT _ h)) (rises_putT _ (rises_putT _ h)) fun x => ?_
  simp only [mem_putT]
  constructor
  · rintro (rfl | ⟨rfl | ⟨h1, h2⟩, h3⟩)
    · exact .inr ⟨.inl rfl, fun e => hne e.symm⟩
    · exact .inl rfl
    · exact .inr ⟨.inr ⟨h1, h3⟩, h2⟩
  · rintro (rfl | ⟨rfl | ⟨h1, h2⟩, h3⟩)
    · exact .inr ⟨.inl rfl, hne⟩
    · exact .inl rfl
    · exact .inr ⟨.inr ⟨h1, h3⟩, h2⟩
theorem put_put_same {l : List Fl} {f g : Fl} (h : Rises l) (he : f.1 = g.1) : putT (putT l f) g = putT l g := by
  refine rises_ext _ _ (rises_putT _ (rises_putT _ h)) (rises_putT _ h) fun x => ?_
  simp only [mem_putT]
  constructor
  · rintro (rfl | ⟨rfl | ⟨h1, h2⟩, h3⟩)
    · exact .inl rfl
    · exact absurd he h3
    · exact .inr ⟨h1, h3⟩
  · rintro (rfl | ⟨h1, h2⟩)
    · exact .inl rfl
    · exact .inr ⟨.inr ⟨h1, by rw [he]; exact h2⟩, h2⟩
theorem rises_unique {l : List Fl} (h : Rises l) {x y : Fl} (hx : x ∈ l) (hy : y ∈ l) (e : x.1 = y.1) : x = y := by
  induction l with
  | nil => cases hx
  | cons z l ih =>
    obtain ⟨h1, h2⟩ := List.pairwise_cons.1 h
    rcases List.mem_cons.1 hx with rfl | hx'
    · rcases List.mem_cons.1 hy with rfl | hy'
      · rfl
      · exact absurd e (ltB_ne _ _ (h1 y hy'))
    · rcases List.mem_cons.1 hy with rfl | hy'
      · exact absurd e.symm (ltB_ne _ _ (h1 x hx'))
      · exact ih h2 hx' hy'
theorem put_again {l : List Fl} {f : Fl} (h : Rises l) (hf : f ∈ l) : putT l f = l := by
  refine rises_ext _ _ (rises_putT _ h) h fun x => ?_
  rw [mem_putT]
  constructor
  · rintro (rfl | ⟨h1, _⟩)
    · exact hf
    · exact h1
  · intro hx
    by_cases e : x.1 = f.1
    · exact .inl (rises_unique h hx hf e)
    · exact .inr ⟨hx, e⟩

theorem insT_split (l : List Fl) (f : Fl) : ∃ a b, l = a ++ b ∧ insT l f = a ++ f :: b := ⟨_, _, List.takeWhile_append_dropWhile.symm, rfl⟩
theorem drop_put (l : List Fl) (f : Fl) : dropT (putT l f) f.1 = dropT l f.1 := by
  have h : ∀ m : List Fl, dropT (dropT m f.1) f.1 = dropT m f.1 := fun m => by unfold dropT; rw [List.filter_filter]; simp
  obtain ⟨a, b, e1, e2⟩ := insT_split (dropT l f.1) f
  unfold putT
  rw [e2, dropT_append, show f :: b = [f] ++ b from rfl, dropT_append, show dropT [f] f.1 = [] from by simp [dropT], List.nil_append, ← dropT_append, ← e1, h]
theorem getT_append_none {a b : List Fl} {s : Bs} (h : hasT a s = false) : getT (a ++ b) s = getT b s := by
  unfold getT
  rw [List.find?_append]
  unfold hasT at h
  rw [List.any_eq_false] at h
  rw [List.find?_eq_none.2 h]; rfl
theorem hasT_drop_self (l : List Fl) (s : Bs) : hasT (dropT l s) s = false := by
  cases e : hasT (dropT l s) s with
  | false => rfl
  | true => obtain ⟨x, hx, hs⟩ := (hasT_iff _ _).1 e; exact absurd hs (mem_dropT.1 hx).2
theorem get_none {l : List Fl} {s : Bs} (h : hasT l s = false) : getT l s = none := by
  unfold getT
  unfold hasT at h
  rw [List.any_eq_false] at h
  rw [List.find?_eq_none.2 h]; rfl
theorem get_put (l : List Fl) (f : Fl) : getT (putT l f) f.1 = some f.2 := by
  obtain ⟨a, b, e1, e2⟩ := insT_split (dropT l f.1) f
  have h := hasT_drop_self l f.1
  rw [e1, hasT_append] at h
  have ha : hasT a f.1 = false := by simp at h; exact h.1
  unfold putT
  rw [e2, getT_append_none ha]
  simp [getT]
theorem get_drop_other (l : List Fl) {s u : Bs} (hne : s ≠ u) : getT (dropT l u) s = getT l s := by
  unfold getT dropT
  rw [List.find?_filter]
  congr 2
  funext x
  by_cases e : x.1 = s
  · simp [e, hne]
  · simp [e]
theorem get_put_other (l : List Fl) (f : Fl) {s : Bs} (hne : s ≠ f.1) : getT (putT l f) s = getT l s := by
  rw [← get_drop_other (putT l f) hne, drop_put, get_drop_other l hne]

theorem right_sub {l m : List Fl} (h : rightT l = true) (hs : m.Sublist l) : rightT m = true := by
  obtain ⟨h1, h2, h3⟩ := right_all h
  unfold rightT
  simp only [Bool.and_eq_true, decide_eq_true_eq, List.all_eq_true]
  refine ⟨⟨Nat.le_trans hs.length_le h1, fun x hx => ?_⟩, (pairB_iff _ _).2 (h3.sublist hs)⟩
  have := h2 x (hs.subset hx)
  unfold okF
  simpa using this
theorem right_drop {l : List Fl} (s : Bs) (h : rightT l = true) : rightT (dropT l s) = true := right_sub h List.filter_sublist

theorem diff_nil_iff : ∀ (a b : List Fl), diffT a b = [] ↔ a = b
  | [], [] => by simp [diffT]
  | [], y :: b => by simp [diffT]
  | x :: a, [] => by simp [diffT]
  | x :: a, y :: b => by
    rw [diffT]
    by_cases h1 : x.1 = y.1
    · rw [if_pos (by simpa using h1)]
      by_cases h2 : x.2 = y.2
      · rw [if_pos (by simpa using h2), diff_nil_iff a b]
        have : x = y := Prod.ext h1 h2
        simp [this]
      · rw [if_neg (by simpa using h2)]
        have : x ≠ y := fun e => h2 (by rw [e])
        simp [this]
    · have : x ≠ y := fun e => h1 (by rw [e])
      rw [if_neg (by simpa using h1)]
      split <;> simp [this]
termination_by a b => a.length + b.length
/-- Each change's path is one of a's, or of b's. -/
theorem diff_mem : ∀ (a b : List Fl) (d : Dl), d ∈ diffT a b → (∃ x ∈ a, x.1 = d.p) ∨ (∃ y ∈ b, y.1 = d.p)
  | [], [], d, h => by simp [diffT] at h
  | [], y :: b, d, h => by
    rw [diffT] at h
    rcases List.mem_cons.1 h with rfl | h
    · exact .inr ⟨y, by simp, rfl⟩
    · rcases diff_mem [] b d h with ⟨x, hx, e⟩ | ⟨z, hz, e⟩
      · cases hx
      · exact .inr ⟨z, by simp [hz], e⟩
  | x :: a, [], d, h => by
    rw [diffT] at h
    rcases List.mem_cons.1 h with rfl | h
    · exact .inl ⟨x, by simp, rfl⟩
    · rcases diff_mem a [] d h with ⟨z, hz, e⟩ | ⟨z, hz, e⟩
      · exact .inl ⟨z, by simp [hz], e⟩
      · cases hz
  | x :: a, y :: b, d, h => by
    rw [diffT] at h
    have lift : ((∃ x ∈ a, x.1 = d.p) ∨ (∃ y ∈ b, y.1 = d.p)) → (∃ z ∈ x :: a, z.1 = d.p) ∨ (∃ z ∈ y :: b, z.1 = d.p) := by
      rintro (⟨z, hz, e⟩ | ⟨z, hz, e⟩)
      · exact .inl ⟨z, by simp [hz], e⟩
      · exact .inr ⟨z, by simp [hz], e⟩
    split at h
    · split at h
      · exact lift (diff_mem a b d h)
      · rcases List.mem_cons.1 h with rfl | h
        · exact .inr ⟨y, by simp, rfl⟩
        · exact lift (diff_mem a b d h)
    · split at h
      · rcases List.mem_cons.1 h with rfl | h
        · exact .inl ⟨x, by simp, rfl⟩
        · rcases diff_mem a (y :: b) d h with ⟨z, hz, e⟩ | h
          · exact .inl ⟨z, by simp [hz], e⟩
          · exact .inr h
      · rcases List.mem_cons.1 h with rfl | h
        · exact .inr ⟨y, by simp, rfl⟩
        · rcases diff_mem (x :: a) b d h with h | ⟨z, hz, e⟩
          · exact .inl h
          · exact .inr ⟨z, by simp [hz], e⟩
termination_by a b => a.length + b.length
theorem diff_rises : ∀ (a b : List Fl), Rises a → Rises b → (diffT a b).Pairwise (fun d e => ltB d.p e.p = true)
  | [], [], _, _ => by simp [diffT]
  | [], y :: b, ha, hb => by
    obtain ⟨b1, b2⟩ := List.pairwise_cons.1 hb
    rw [diffT, List.pairwise_cons]
    refine ⟨fun d hd => ?_, diff_rises [] b ha b2⟩
    rcases diff_mem _ _ d hd with ⟨x, hx, _⟩ | ⟨z, hz, e⟩
    · cases hx
    · rw [← e]; exact b1 z hz
  | x :: a, [], ha, hb => by
    obtain ⟨a1, a2⟩ := List.pairwise_cons.1 ha
    rw [diffT, List.pairwise_cons]
    refine ⟨fun d hd => ?_, diff_rises a [] a2 hb⟩
    rcases diff_mem _ _ d hd with ⟨z, hz, e⟩ | ⟨z, hz, _⟩
    · rw [← e]; exact a1 z hz
    · cases hz
  | x :: a, y :: b, ha, hb => by
    obtain ⟨a1, a2⟩ := List.pairwise_cons.1 ha
    obtain ⟨b1, b2⟩ := List.pairwise_cons.1 hb
    rw [diffT]
    by_cases h1 : x.1 = y.1
    · rw [if_pos (by simpa using h1)]
      split
      · exact diff_rises a b a2 b2
      · rw [List.pairwise_cons]
        refine ⟨fun d hd => ?_, diff_rises a b a2 b2⟩
        rcases diff_mem _ _ d hd with ⟨z, hz, e⟩ | ⟨z, hz, e⟩
        · rw [← e]; show ltB y.1 z.1 = true; rw [← h1]; exact a1 z hz
        · rw [← e]; exact b1 z hz
    · rw [if_neg (by simpa using h1)]
      by_cases h2 : ltB x.1 y.1 = true
      · rw [if_pos h2, List.pairwise_cons]
        refine ⟨fun d hd => ?_, diff_rises a (y :: b) a2 hb⟩
        rcases diff_mem _ _ d hd with ⟨z, hz, e⟩ | ⟨z, hz, e⟩
        · rw [← e]; exact a1 z hz
        · rw [← e]
          rcases List.mem_cons.1 hz with rfl | hz
          · exact h2
          · exact ltB_trans _ _ _ h2 (b1 z hz)
      · have h3 : ltB y.1 x.1 = true := by
          cases e : ltB y.1 x.1 with
          | true => rfl
          | false => exact absurd (ltB_tri _ _ (by simpa using h2) e) h1
        rw [if_neg h2, List.pairwise_cons]
        refine ⟨fun d hd => ?_, diff_rises (x :: a) b ha b2⟩
        rcases diff_mem _ _ d hd with ⟨z, hz, e⟩ | ⟨z, hz, e⟩
        · rw [← e]
          rcases List.mem_cons.1 hz with rfl | hz
          · exact h3
          · exact ltB_trans _ _ _ h3 (a1 z hz)
        · rw [← e]; exact b1 z hz
termination_by a b => a.length + b.length

theorem steps_append : ∀ (l m : List Dl) (t : List Fl), stepsT t (l ++ m) = match stepsT t l with
    | .error e => .error e
    | .ok u => stepsT u m
  | [], m, t => by simp [stepsT]
  | d :: l, m, t => by
    rw [List.cons_append, stepsT, stepsT]
    cases stepT t d with
    | error e => rfl
    | ok u => exact steps_append l m u
theorem steps_of_apply {t u : List Fl} {l : List Dl} (h : applyT t l = .ok u) : stepsT t l = .ok u := by
  unfold applyT at h
  cases e : stepsT t l with
  | error e' => rw [e] at h; cases h
  | ok v =>
    rw [e] at h
    simp only at h
    split at h
    · cases h
    · split at h
      · cases h; rfl
      · cases h
theorem apply_chain {a b c : List Fl} (ha : rightT a = true) (hb : rightT b = true) (hc : rightT c = true) : applyT a (diffT a b ++ diffT b c) = .ok c := by
  have h1 := steps_of_apply (apply_diff ha hb)
  have h2 := steps_of_apply (apply_diff hb hc)
  unfold applyT
  rw [steps_append, h1]
  simp only [h2, right_not_long hc, hc]
  simp
end Go.Proofs.YtedcaodbcognjaaDoor
