/-
  Plain laws of layer 2 (tree): what is told side by side; differences. No program is named here. · Plain laws of layer 2 (tree), for the statements without the document's answer. No program is named here. · Plain laws of layer 2 (tree): when a list may be a tree, place by place; files that lie below others. No program is named here. · Plain laws of layer 2 (tree): the directories of a path, one above the other. No program is named here.
-/
import Derived.Test.YtffhfllikamccaaGreatDoorTPlain
namespace Go.Proofs.YtffhfllikamccaaGreatDoor
open Go

theorem drop_cons {α : Type} {A : List α} {i : Nat} {x : α} {a : List α} (h : A.drop i = x :: a) : A[i]? = some x ∧ A.drop (i + 1) = a := by
  refine ⟨by rw [← List.head?_drop, h]; rfl, ?_⟩
  rw [← List.drop_drop, h]; rfl

def okPair (A B : List Fl) : Option Nat × Option Nat → Bool
  | (some i, some j) => A[i]?.map (·.2) == B[j]?.map (·.2)
  | _ => false
def delP (A B : List Fl) : Option Nat × Option Nat → List Dl
  | (some i, some j) => if (A.getD i ([], [])).2 == (B.getD j ([], [])).2 then [] else [⟨2, (B.getD j ([], [])).1, (B.getD j ([], [])).2⟩]
  | (some i, none) => [⟨3, (A.getD i ([], [])).1, []⟩]
  | (none, some j) => [⟨1, (B.getD j ([], [])).1, (B.getD j ([], [])).2⟩]
  | (none, none) => []

theorem getD_of {α : Type} {A : List α} {i : Nat} {x z : α} (h : A[i]? = some x) : A.getD i z = x := by simp [List.getD, h]

theorem pairsN_all (A B : List Fl) : ∀ (a b : List Fl) (i j : Nat), A.drop i = a → B.drop j = b → (pairsN a b i j).all (okPair A B) = decide (a = b)
  | [], [], _, _, _, _ => by simp [pairsN]
  | [], y :: b, i, j, _, _ => by simp [pairsN, okPair]
  | x :: a, [], i, j, _, _ => by simp [pairsN, okPair]
  | x :: a, y :: b, i, j, ha, hb => by
    obtain ⟨hx, ha'⟩ := drop_cons ha
    obtain ⟨hy, hb'⟩ := drop_cons hb
    rw [pairsN]
    by_cases h1 : x.1 = y.1
    · have ih := pairsN_all A B a b (i + 1) (j + 1) ha' hb'
      rw [if_pos (by simpa using h1), List.all_cons, ih]
      simp only [okPair, hx, hy, Option.map_some]
      by_cases h2 : x.2 = y.2
      · have : x = y := Prod.ext h1 h2
        subst this; simp
      · have : x ≠ y := fun e => h2 (by rw [e])
        simp [this, h2]
    · have : x ≠ y := fun e => h1 (by rw [e])
      rw [if_neg (by simpa using h1)]
      split <;> simp [okPair, this]
termination_by a b => a.length + b.length

theorem pairsN_delP (A B : List Fl) : ∀ (a b : List Fl) (i j : Nat), A.drop i = a → B.drop j = b → (pairsN a b i j).flatMap (delP A B) = diffT a b
  | [], [], _, _, _, _ => by simp [pairsN, diffT]
  | [], y :: b, i, j, ha, hb => by
    obtain ⟨hy, hb'⟩ := drop_cons hb
    have ih := pairsN_delP A B [] b i (j + 1) ha hb'
    rw [pairsN, diffT, List.flatMap_cons, ih]
    simp only [delP, getD_of hy, List.singleton_append]
  | x :: a, [], i, j, ha, hb => by
    obtain ⟨hx, ha'⟩ := drop_cons ha
    have ih := pairsN_delP A B a [] (i + 1) j ha' hb
    rw [pairsN, diffT, List.flatMap_cons, ih]
    simp only [delP, getD_of hx, List.singleton_append]
  | x :: a, y :: b, i, j, ha, hb => by
    obtain ⟨hx, ha'⟩ := drop_cons ha
    obtain ⟨hy, hb'⟩ := drop_cons hb
    rw [pairsN, diffT]
    by_cases h1 : (x.1 == y.1) = true
    · have ih := pairsN_delP A B a b (i + 1) (j + 1) ha' hb'
      rw [if_pos h1, if_pos h1, List.flatMap_cons, ih]
      simp only [delP, getD_of hx, getD_of hy]
      split <;> simp
    · rw [if_neg h1, if_neg h1]
      by_cases h2 : ltB x.1 y.1 = true
      · have ih := pairsN_delP A B a (y :: b) (i + 1) j ha' hb
        rw [if_pos h2, if_pos h2, List.flatMap_cons, ih]
        simp only [delP, getD_of hx, List.singleton_append]
      · have ih := pairsN_delP A B (x :: a) b i (j + 1) ha hb'
        rw [if_neg h2, if_neg h2, List.flatMap_cons, ih]
        simp only [delP, getD_of hy, List.singleton_append]
termination_by a b => a.length + b.length

theorem pairsN_length : ∀ (a b : List Fl) (i j : Nat), (pairsN a b i j).length ≤ a.length + b.length
  | [], [], _, _ => by simp [pairsN]
  | [], y :: b, i, j => by
    have := pairsN_length [] b i (j + 1)
    rw [pairsN]; simp at this ⊢; omega
  | x :: a, [], i, j => by
    have := pairsN_length a [] (i + 1) j
    rw [pairsN]; simp at this ⊢; omega
  | x :: a, y :: b, i, j => by
    have h1 := pairsN_length a b (i + 1) (j + 1)
    have h2 := pairsN_length a (y :: b) (i + 1) j
    have h3 := pairsN_length (x :: a) b i (j + 1)
    rw [pairsN]
    split
    · simp at h1 ⊢; omega
    · split
      · simp at h2 ⊢; omega
      · simp at h3 ⊢; omega
termination_by a b => a.length + b.length
/-- What is told names places that are there. -/
def inPair (n m : Nat) : Option Nat × Option Nat → Prop
  | (some i, some j) => i < n ∧ j < m
  | (some i, none) => i < n
  | (none, some j) => j < m
  | (none, none) => False
theorem pairsN_in (A B : List Fl) : ∀ (a b : List Fl) (i j : Nat), A.drop i = a → B.drop j = b → ∀ p ∈ pairsN a b i j, inPair A.length B.length p
  | [], [], _, _, _, _ => by simp [pairsN]
  | [], y :: b, i, j, ha, hb => by
    obtain ⟨hy, hb'⟩ := drop_cons hb
    have ih := pairsN_in A B [] b i (j + 1) ha hb'
    rw [pairsN]
    intro p hp
    rcases List.mem_cons.1 hp with rfl | hp
    · exact (List.getElem?_eq_some_iff.1 hy).1
    · exact ih p hp
  | x :: a, [], i, j, ha, hb => by
    obtain ⟨hx, ha'⟩ := drop_cons ha
    have ih := pairsN_in A B a [] (i + 1) j ha' hb
    rw [pairsN]
    intro p hp
    rcases List.mem_cons.1 hp with rfl | hp
    · exact (List.getElem?_eq_some_iff.1 hx).1
    · exact ih p hp
  | x :: a, y :: b, i, j, ha, hb => by
    obtain ⟨hx, ha'⟩ := drop_cons ha
    obtain ⟨hy, hb'⟩ := drop_cons hb
    have hxl := (List.getElem?_eq_some_iff.1 hx).1
    have hyl := (List.getElem?_eq_some_iff.1 hy).1
    have h1 := pairsN_in A B a b (i + 1) (j + 1) ha' hb'
    have h2 := pairsN_in A B a (y :: b) (i + 1) j ha' hb
    have h3 := pairsN_in A B (x :: a) b i (j + 1) ha hb'
    rw [pairsN]
    split
    · intro p hp
      rcases List.mem_cons.1 hp with rfl | hp
      · exact ⟨hxl, hyl⟩
      · exact h1 p hp
    · split
      · intro p hp
        rcases List.mem_cons.1 hp with rfl | hp
        · exact hxl
        · exact h2 p hp
      · intro p hp
        rcases List.mem_cons.1 hp with rfl | hp
        · exact hyl
        · exact h3 p hp
termination_by a b => a.length + b.length

/-! What a row of changes makes. -/
theorem right_all {l : List Fl} (h : rightT l = true) : l.length ≤ 1000 ∧ (∀ x ∈ l, rightB x.1 = true ∧ x.2.length ≤ 65536) ∧ l.Pairwise (fun x y => aheadB x y = true) := by
  unfold rightT at h
  simp only [Bool.and_eq_true, decide_eq_true_eq, List.all_eq_true] at h
  refine ⟨h.1.1, fun x hx => ?_, (pairB_iff _ _).1 h.2⟩
  have := h.1.2 x hx
  unfold okF at this
  simpa using this
theorem right_sorted {l : List Fl} (h : rightT l = true) : l.Pairwise (fun x y => ltB x.1 y.1 = true) :=
  (right_all h).2.2.imp fun h => by unfold aheadB at h; simp at h; exact h.1
theorem right_not_long {l : List Fl} (h : rightT l = true) : longT l = false := by
  obtain ⟨h1, h2, _⟩ := right_all h
  unfold longT
  simp only [Bool.or_eq_false_iff, decide_eq_false_iff_not, List.any_eq_false, decide_eq_true_eq]
  exact ⟨by omega, fun x hx => by have := (h2 x hx).2; omega⟩

theorem hasT_append (a b : List Fl) (s : Bs) : hasT (a ++ b) s = (hasT a s || hasT b s) := by unfold hasT; rw [List.any_append]
theorem hasT_iff (l : List Fl) (s : Bs) : hasT l s = true ↔ ∃ x ∈ l, x.1 = s := by unfold hasT; simp
theorem hasT_below {l : List Fl} {s : Bs} (h : ∀ x ∈ l, ltB x.1 s = true) : hasT l s = false := by
  cases e : hasT l s with
  | false => rfl
  | true =>
    obtain ⟨x, hx, hs⟩ := (hasT_iff l s).1 e
    have := h x hx
    rw [hs, ltB_irrefl] at this; cases this
theorem hasT_above {l : List Fl} {s : Bs} (h : ∀ x ∈ l, ltB s x.1 = true) : hasT l s = false := by
  cases e : hasT l s with
  | false => rfl
  | true =>
    obtain ⟨x, hx, hs⟩ := (hasT_iff l s).1 e
    have := h x hx
    rw [hs, ltB_irrefl] at this; cases this
theorem dropT_none {l : List Fl} {s : Bs} (h : hasT l s = false) : dropT l s = l := by
  unfold dropT
  rw [List.filter_eq_self]
  intro x hx
  unfold hasT at h
  rw [List.any_eq_false] at h
  simpa using h x hx
theorem dropT_append (a b : List Fl) (s : Bs) : dropT (a ++ b) s = dropT a s ++ dropT b s := by unfold dropT; rw [List.filter_append]
theorem insT_between {a b : List Fl} {f : Fl} (ha : ∀ x ∈ a, ltB x.1 f.1 = true) (hb : ∀ x ∈ b, ltB f.1 x.1 = true) : insT (a ++ b) f = a ++ f :: b := by
  have h1 : ∀ x ∈ a, (!ltB f.1 x.1) = true := fun x hx => by rw [ltB_asymm _ _ (ha x hx)]; rfl
  unfold insT
  rw [List.takeWhile_append_of_pos h1, List.dropWhile_append_of_pos h1]
  cases b with
  | nil => simp
  | cons y b =>
    have := hb y (by simp)
    simp [this]
/-- Behind what is done already (P, all below) the changes make b of a. -/
theorem steps_diff : ∀ (a b P : List Fl), (∀ x ∈ a, rightB x.1 = true) → (∀ x ∈ b, rightB x.1 = true) →
    a.Pairwise (fun x y => ltB x.1 y.1 = true) → b.Pairwise (fun x y => ltB x.1 y.1 = true) →
    (∀ x ∈ P, ∀ y ∈ a, ltB x.1 y.1 = true) → (∀ x ∈ P, ∀ y ∈ b, ltB x.1 y.1 = true) → stepsT (P ++ a) (diffT a b) = .ok (P ++ b)
  | [], [], P, _, _, _, _, _, _ => by simp [diffT, stepsT]
  | [], y :: b, P, ra, rb, sa, sb, pa, pb => by
    have hy := rb y (by simp)
    have hno : hasT P y.1 = false := hasT_below fun x hx => pb x hx y (by simp)
    obtain ⟨sb1, sb2⟩ := List.pairwise_cons.1 sb
    have hst : stepT (P ++ []) ⟨1, y.1, y.2⟩ = .ok (P ++ [y]) := by
      unfold stepT
      rw [List.append_nil]
      simp only [hy, hno]
      simp only [putT, dropT_none hno]
      have := insT_between (a := P) (b := []) (f := y) (fun x hx => pb x hx y (by simp)) (fun x hx => by simp at hx)
      simpa using this
    have ih := steps_diff [] b (P ++ [y]) ra (fun x hx => rb x (by simp [hx])) List.Pairwise.nil sb2 (fun x _ z hz => by simp at hz) (fun x hx z hz => by
      rcases List.mem_append.1 hx with hx | hx
      · exact pb x hx z (by simp [hz])
      · rw [List.mem_singleton] at hx; subst hx; exact sb1 z hz)
    rw [diffT, stepsT, hst]
    simpa using ih
  | x :: a, [], P, ra, rb, sa, sb, pa, pb => by
    have hx := ra x (by simp)
    obtain ⟨sa1, sa2⟩ := List.pairwise_cons.1 sa
    have hno : hasT P x.1 = false := hasT_below fun z hz => pa z hz x (by simp)
    have hno2 : hasT a x.1 = false := hasT_above sa1
    have hyes : hasT (P ++ x :: a) x.1 = true := (hasT_iff _ _).2 ⟨x, by simp, rfl⟩
    have hdrop : dropT (P ++ x :: a) x.1 = P ++ a := by
      rw [dropT_append, dropT_none hno, show x :: a = [x] ++ a from rfl, dropT_append, dropT_none hno2]
      simp [dropT]
    have hst : stepT (P ++ x :: a) ⟨3, x.1, []⟩ = .ok (P ++ a) := by
      unfold stepT
      simp only [hx, hyes]
      simp [hdrop]
    have ih := steps_diff a [] P (fun z hz => ra z (by simp [hz])) rb sa2 sb (fun z hz u hu => pa z hz u (by simp [hu])) (fun z _ u hu => by simp at hu)
    rw [diffT, stepsT, hst]
    exact ih
  | x :: a, y :: b, P, ra, rb, sa, sb, pa, pb => by
    have hx := ra x (by simp)
    have hy := rb y (by simp)
    obtain ⟨sa1, sa2⟩ := List.pairwise_cons.1 sa
    obtain ⟨sb1, sb2⟩ := List.pairwise_cons.1 sb
    have hno : hasT P x.1 = false := hasT_below fun z hz => pa z hz x (by simp)
    have hno2 : hasT a x.1 = false := hasT_above sa1
    have hyes : hasT (P ++ x :: a) x.1 = true := (hasT_iff _ _).2 ⟨x, by simp, rfl⟩
    have hdrop : dropT (P ++ x :: a) x.1 = P ++ a := by
      rw [dropT_append, dropT_none hno, show x :: a = [x] ++ a from rfl, dropT_append, dropT_none hno2]
      simp [dropT]
    rw [diffT]
    by_cases h1 : x.1 = y.1
    · rw [if_pos (by simpa using h1)]
      have ih := steps_diff a b (P ++ [y]) (fun z hz => ra z (by simp [hz])) (fun z hz => rb z (by simp [hz])) sa2 sb2 (fun z hz u hu => by
        rcases List.mem_append.1 hz with hz | hz
        · exact pa z hz u (by simp [hu])
        · rw [List.mem_singleton] at hz; subst hz; rw [← h1]; exact sa1 u hu) (fun z hz u hu => by
        rcases List.mem_append.1 hz with hz | hz
        · exact pb z hz u (by simp [hu])
        · rw [List.mem_singleton] at hz; subst hz; exact sb1 u hu)
      by_cases h2 : x.2 = y.2
      · rw [if_pos (by simpa using h2)]
        have : x = y := Prod.ext h1 h2
        subst this
        simpa using ih
      · rw [if_neg (by simpa using h2), stepsT]
        have hst : stepT (P ++ x :: a) ⟨2, y.1, y.2⟩ = .ok (P ++ y :: a) := by
          unfold stepT
          simp only [← h1, hx, hyes]
          simp only [putT, hdrop]
          have := insT_between (a := P) (b := a) (f := (x.1, y.2)) (fun z hz => pa z hz x (by simp)) (fun z hz => sa1 z hz)
          rw [show (x.1, y.2) = y from Prod.ext h1 rfl] at this
          simp only [h1] at this ⊢
          simpa using this
        rw [hst]
        simpa using ih
    · rw [if_neg (by simpa using h1)]
      by_cases h2 : ltB x.1 y.1 = true
      · rw [if_pos h2, stepsT]
        have hst : stepT (P ++ x :: a) ⟨3, x.1, []⟩ = .ok (P ++ a) := by
          unfold stepT
          simp only [hx, hyes]
          simp [hdrop]
        have ih := steps_diff a (y :: b) P (fun z hz => ra z (by simp [hz])) rb sa2 sb (fun z hz u hu => pa z hz u (by simp [hu])) pb
        rw [hst]
        exact ih
      · have h3 : ltB y.1 x.1 = true := by
          cases e : ltB y.1 x.1 with
          | true => rfl
          | false => exact absurd (ltB_tri _ _ (by simpa using h2) e) h1
        rw [if_neg h2, stepsT]
        have habove : ∀ z ∈ x :: a, ltB y.1 z.1 = true := fun z hz => by
          rcases List.mem_cons.1 hz with rfl | hz
          · exact h3
          · exact ltB_trans _ _ _ h3 (sa1 z hz)
        have hno3 : hasT (P ++ x :: a) y.1 = false := by
          rw [hasT_append, hasT_below fun z hz => pb z hz y (by simp), hasT_above habove]; rfl
        have hst : stepT (P ++ x :: a) ⟨1, y.1, y.2⟩ = .ok (P ++ y :: x :: a) := by
          unfold stepT
          simp only [hy, hno3]
          simp only [putT, dropT_none hno3]
          have := insT_between (a := P) (b := x :: a) (f := y) (fun z hz => pb z hz y (by simp)) habove
          simpa using this
        have ih := steps_diff (x :: a) b (P ++ [y]) ra (fun z hz => rb z (by simp [hz])) sa sb2 (fun z hz u hu => by
          rcases List.mem_append.1 hz with hz | hz
          · exact pa z hz u hu
          · rw [List.mem_singleton] at hz; subst hz; exact habove u hu) (fun z hz u hu => by
          rcases List.mem_append.1 hz with hz | hz
          · exact pb z hz u (by simp [hu])
          · rw [List.mem_singleton] at hz; subst hz; exact sb1 u hu)
        rw [hst]
        simpa using ih
termination_by a b => a.length + b.length
theorem apply_diff {a b : List Fl} (ha : rightT a = true) (hb : rightT b = true) : applyT a (diffT a b) = .ok b := by
  have h := steps_diff a b [] (fun x hx => ((right_all ha).2.1 x hx).1) (fun x hx => ((right_all hb).2.1 x hx).1) (right_sorted ha) (right_sorted hb) (fun x hx => by simp at hx) (fun x hx => by simp at hx)
  simp only [List.nil_append] at h
  unfold applyT
  rw [h]
  simp only [right_not_long hb, hb]
  simp
end Go.Proofs.YtffhfllikamccaaGreatDoor
namespace Go.Proofs.YtffhfllikamccaaGreatDoor
open Go

abbrev Rises (l : List Fl) : Prop := l.Pairwise (fun x y => ltB x.1 y.1 = true)

/-- Lists by rising paths that have the same files are the same. -/
theorem rises_ext : ∀ (a b : List Fl), Rises a → Rises b → (∀ x, x ∈ a ↔ x ∈ b) → a = b
  | [], [], _, _, _ => rfl
  | [], y :: b, _, _, h => by have := (h y).2 (by simp); simp at this
  | x :: a, [], _, _, h => by have := (h x).1 (by simp); simp at this
  | x :: a, y :: b, ha, hb, h => by
    obtain ⟨a1, a2⟩ := List.pairwise_cons.1 ha
    obtain ⟨b1, b2⟩ := List.pairwise_cons.1 hb
    have hxy : x = y := by
      rcases List.mem_cons.1 ((h x).1 (by simp)) with e | hx
      · exact e
      · rcases List.mem_cons.1 ((h y).2 (by simp)) with e | hy
        · exact e.symm
        · have h1 := b1 x hx
          have h2 := a1 y hy
          rw [ltB_asymm _ _ h1] at h2; cases h2
    subst hxy
    have hnx : ∀ z, z ∈ a → z ≠ x := fun z hz e => by subst e; exact ltB_ne _ _ (a1 z hz) rfl
    have hnx' : ∀ z, z ∈ b → z ≠ x := fun z hz e => by subst e; exact ltB_ne _ _ (b1 z hz) rfl
    rw [rises_ext a b a2 b2 fun z => ?_]
    constructor
    · intro hz
      rcases List.mem_cons.1 ((h z).1 (by simp [hz])) with e | h1
      · exact absurd e (hnx z hz)
      · exact h1
    · intro hz
      rcases List.mem_cons.1 ((h z).2 (by simp [hz])) with e | h1
      · exact absurd e (hnx' z hz)
      · exact h1

theorem mem_dropT {l : List Fl} {s : Bs} {x : Fl} : x ∈ dropT l s ↔ x ∈ l ∧ x.1 ≠ s := by unfold dropT; simp [List.mem_filter]
theorem mem_insT {l : List Fl} {f x : Fl} : x ∈ insT l f ↔ x = f ∨ x ∈ l := by
  unfold insT
  have : x ∈ l ↔ x ∈ l.takeWhile (fun x => !ltB f.1 x.1) ∨ x ∈ l.dropWhile (fun x => !ltB f.1 x.1) := by
    rw [← List.mem_append, List.takeWhile_append_dropWhile]
  rw [this, List.mem_append, List.mem_cons]
  constructor
  · rintro (h | h | h)
    · exact .inr (.inl h)
    · exact .inl h
    · exact .inr (.inr h)
  · rintro (h | h | h)
    · exact .inr (.inl h)
    · exact .inl h
    · exact .inr (.inr h)
theorem mem_putT {l : List Fl} {f x : Fl} : x ∈ putT l f ↔ x = f ∨ (x ∈ l ∧ x.1 ≠ f.1) := by unfold putT; rw [mem_insT, mem_dropT]
theorem rises_dropT {l : List Fl} (s : Bs) (h : Rises l) : Rises (dropT l s) := h.filter _
theorem dropWhile_head {α : Type} (p : α → Bool) : ∀ (l : List α) (x : α) (r : List α), l.dropWhile p = x :: r → p x = false
  | [], x, r, h => by simp at h
  | y :: l, x, r, h => by
    rw [List.dropWhile_cons] at h
    split at h
    · exact dropWhile_head p l x r h
    · rename_i hy
      cases h
      simpa using hy
theorem rises_insT {l : List Fl} {f : Fl} (h : Rises l) (hn : ∀ x ∈ l, x.1 ≠ f.1) : Rises (insT l f) := by
  have e : l = l.takeWhile (fun x => !ltB f.1 x.1) ++ l.dropWhile (fun x => !ltB f.1 x.1) := List.takeWhile_append_dropWhile.symm
  have h0 := h
  rw [e] at h0
  obtain ⟨h1, h2, h3⟩ := List.pairwise_append.1 h0
  have ha : ∀ x ∈ l.takeWhile (fun x => !ltB f.1 x.1), ltB x.1 f.1 = true := fun x hx => by
    have hx1 := List.all_eq_true.1 (List.all_takeWhile (p := fun x : Fl => !ltB f.1 x.1) (l := l)) x hx
    have hx2 : x ∈ l := (List.takeWhile_prefix _).subset hx
    cases e2 : ltB x.1 f.1 with
    | true => rfl
    | false => exact absurd (ltB_tri _ _ e2 (by simpa using hx1)) (hn x hx2)
  have hb : ∀ y ∈ l.dropWhile (fun x => !ltB f.1 x.1), ltB f.1 y.1 = true := fun y hy => by
    cases e2 : l.dropWhile (fun x => !ltB f.1 x.1) with
    | nil => rw [e2] at hy; cases hy
    | cons z r =>
      have hz := dropWhile_head _ _ _ _ e2
      have hz' : ltB f.1 z.1 = true := by simpa using hz
      rw [e2] at hy h2
      rcases List.mem_cons.1 hy with rfl | hy
      · exact hz'
      · exact ltB_trans _ _ _ hz' ((List.pairwise_cons.1 h2).1 y hy)
  unfold insT
  rw [Rises, List.pairwise_append]
  refine ⟨h1, List.pairwise_cons.2 ⟨hb, h2⟩, fun x hx y hy => ?_⟩
  rcases List.mem_cons.1 hy with rfl | hy
  · exact ha x hx
  · exact h3 x hx y hy
theorem rises_putT {l : List Fl} (f : Fl) (h : Rises l) : Rises (putT l f) := rises_insT (rises_dropT f.1 h) fun _ hx => (mem_dropT.1 hx).2
theorem put_put_other {l : List Fl} {f g : Fl} (h : Rises l) (hne : f.1 ≠ g.1) : putT (putT l f) g = putT (putT l g) f := by
  refine rises_ext _ _ (rises_putT _ (rises_putT _ h)) (rises_putT _ (rises_putT _ h)) fun x => ?_
  simp only [mem_putT]
  constructor
  · rintro (rfl | ⟨rfl | ⟨h1, h2⟩, h3⟩)
    · exact .inr ⟨.inl rfl, fun e => hne e.symm⟩
    · exact .inl rfl
    · exact .inr ⟨.inr ⟨h1, h3⟩, h2⟩
  · rintro (rfl | ⟨rfl | ⟨h1, h2⟩, h3⟩)
    · exact .inr ⟨.inl rfl, hne⟩
    · exact .inl rfl
    · exact .inr ⟨.inr ⟨h1, h3⟩, h2⟩
theorem put_put_same {l : List Fl} {f g : Fl} (h : Rises l) (he : f.1 = g.1) : putT (putT l f) g = putT l g := by
  refine rises_ext _ _ (rises_putT _ (rises_putT _ h)) (rises_putT _ h) fun x => ?_
  simp only [mem_putT]
  constructor
  · rintro (rfl | ⟨rfl | ⟨h1, h2⟩, h3⟩)
    · exact .inl rfl
    · exact absurd he h3
    · exact .inr ⟨h1, h3⟩
  · rintro (rfl | ⟨h1, h2⟩)
    · exact .inl rfl
    · exact .inr ⟨.inr ⟨h1, by rw [he]; exact h2⟩, h2⟩
theorem rises_unique {l : List Fl} (h : Rises l) {x y : Fl} (hx : x ∈ l) (hy : y ∈ l) (e : x.1 = y.1) : x = y := by
  induction l with
  | nil => cases hx
  | cons z l ih =>
    obtain ⟨h1, h2⟩ := List.pairwise_cons.1 h
    rcases List.mem_cons.1 hx with rfl | hx'
    · rcases List.mem_cons.1 hy with rfl | hy'
      · rfl
      · exact absurd e (ltB_ne _ _ (h1 y hy'))
    · rcases List.mem_cons.1 hy with rfl | hy'
      · exact absurd e.symm (ltB_ne _ _ (h1 x hx'))
      · exact ih h2 hx' hy'
theorem put_again {l : List Fl} {f : Fl} (h : Rises l) (hf : f ∈ l) : putT l f = l := by
  refine rises_ext _ _ (rises_putT _ h) h fun x => ?_
  rw [mem_putT]
  constructor
  · rintro (rfl | ⟨h1, _⟩)
    · exact hf
    · exact h1
  · intro hx
    by_cases e : x.1 = f.1
    · exact .inl (rises_unique h hx hf e)
    · exact .inr ⟨hx, e⟩

theorem insT_split (l : List Fl) (f : Fl) : ∃ a b, l = a ++ b ∧ insT l f = a ++ f :: b := ⟨_, _, List.takeWhile_append_dropWhile.symm, rfl⟩
theorem drop_put (l : List Fl) (f : Fl) : dropT (putT l f) f.1 = dropT l f.1 := by
  have h : ∀ m : List Fl, dropT (dropT m f.1) f.1 = dropT m f.1 := fun m => by unfold dropT; rw [List.filter_filter]; simp
  obtain ⟨a, b, e1, e2⟩ := insT_split (dropT l f.1) f
  unfold putT
  rw [e2, dropT_append, show f :: b = [f] ++ b from rfl, dropT_append, show dropT [f] f.1 = [] from by simp [dropT], List.nil_append, ← dropT_append, ← e1, h]
theorem getT_append_none {a b : List Fl} {s : Bs} (h : hasT a s = false) : getT (a ++ b) s = getT b s := by
  unfold getT
  rw [List.find?_append]
  unfold hasT at h
  rw [List.any_eq_false] at h
  rw [List.find?_eq_none.2 h]; rfl
theorem hasT_drop_self (l : List Fl) (s : Bs) : hasT (dropT l s) s = false := by
  cases e : hasT (dropT l s) s with
  | false => rfl
  | true => obtain ⟨x, hx, hs⟩ := (hasT_iff _ _).1 e; exact absurd hs (mem_dropT.1 hx).2
theorem get_none {l : List Fl} {s : Bs} (h : hasT l s = false) : getT l s = none := by
  unfold getT
  unfold hasT at h
  rw [List.any_eq_false] at h
  rw [List.find?_eq_none.2 h]; rfl
theorem get_put (l : List Fl) (f : Fl) : getT (putT l f) f.1 = some f.2 := by
  obtain ⟨a, b, e1, e2⟩ := insT_split (dropT l f.1) f
  have h := hasT_drop_self l f.1
  rw [e1, hasT_append] at h
  have ha : hasT a f.1 = false := by simp at h; exact h.1
  unfold putT
  rw [e2, getT_append_none ha]
  simp [getT]
theorem get_drop_other (l : List Fl) {s u : Bs} (hne : s ≠ u) : getT (dropT l u) s = getT l s := by
  unfold getT dropT
  rw [List.find?_filter]
  congr 2
  funext x
  by_cases e : x.1 = s
  · simp [e, hne]
  · simp [e]
theorem get_put_other (l : List Fl) (f : Fl) {s : Bs} (hne : s ≠ f.1) : getT (putT l f) s = getT l s := by
  rw [← get_drop_other (putT l f) hne, drop_put, get_drop_other l hne]

theorem right_sub {l m : List Fl} (h : rightT l = true) (hs : m.Sublist l) : rightT m = true := by
  obtain ⟨h1, h2, h3⟩ := right_all h
  unfold rightT
  simp only [Bool.and_eq_true, decide_eq_true_eq, List.all_eq_true]
  refine ⟨⟨Nat.le_trans hs.length_le h1, fun x hx => ?_⟩, (pairB_iff _ _).2 (h3.sublist hs)⟩
  have := h2 x (hs.subset hx)
  unfold okF
  simpa using this
theorem right_drop {l : List Fl} (s : Bs) (h : rightT l = true) : rightT (dropT l s) = true := right_sub h List.filter_sublist

theorem diff_nil_iff : ∀ (a b : List Fl), diffT a b = [] ↔ a = b
  | [], [] => by simp [diffT]
  | [], y :: b => by simp [diffT]
  | x :: a, [] => by simp [diffT]
  | x :: a, y :: b => by
    rw [diffT]
    by_cases h1 : x.1 = y.1
    · rw [if_pos (by simpa using h1)]
      by_cases h2 : x.2 = y.2
      · rw [if_pos (by simpa using h2), diff_nil_iff a b]
        have : x = y := Prod.ext h1 h2
        simp [this]
      · rw [if_neg (by simpa using h2)]
        have : x ≠ y := fun e => h2 (by rw [e])
        simp [this]
    · have : x ≠ y := fun e => h1 (by rw [e])
      rw [if_neg (by simpa using h1)]
      split <;> simp [this]
termination_by a b => a.length + b.length
/-- Each change's path is one of a's, or of b's. -/
theorem diff_mem : ∀ (a b : List Fl) (d : Dl), d ∈ diffT a b → (∃ x ∈ a, x.1 = d.p) ∨ (∃ y ∈ b, y.1 = d.p)
  | [], [], d, h => by simp [diffT] at h
  | [], y :: b, d, h => by
    rw [diffT] at h
    rcases List.mem_cons.1 h with rfl | h
    · exact .inr ⟨y, by simp, rfl⟩
    · rcases diff_mem [] b d h with ⟨x, hx, e⟩ | ⟨z, hz, e⟩
      · cases hx
      · exact .inr ⟨z, by simp [hz], e⟩
  | x :: a, [], d, h => by
    rw [diffT] at h
    rcases List.mem_cons.1 h with rfl | h
    · exact .inl ⟨x, by simp, rfl⟩
    · rcases diff_mem a [] d h with ⟨z, hz, e⟩ | ⟨z, hz, e⟩
      · exact .inl ⟨z, by simp [hz], e⟩
      · cases hz
  | x :: a, y :: b, d, h => by
    rw [diffT] at h
    have lift : ((∃ x ∈ a, x.1 = d.p) ∨ (∃ y ∈ b, y.1 = d.p)) → (∃ z ∈ x :: a, z.1 = d.p) ∨ (∃ z ∈ y :: b, z.1 = d.p) := by
      rintro (⟨z, hz, e⟩ | ⟨z, hz, e⟩)
      · exact .inl ⟨z, by simp [hz], e⟩
      · exact .inr ⟨z, by simp [hz], e⟩
    split at h
    · split at h
      · exact lift (diff_mem a b d h)
      · rcases List.mem_cons.1 h with rfl | h
        · exact .inr ⟨y, by simp, rfl⟩
        · exact lift (diff_mem a b d h)
    · split at h
      · rcases List.mem_cons.1 h with rfl | h
        · exact .inl ⟨x, by simp, rfl⟩
        · rcases diff_mem a (y :: b) d h with ⟨z, hz, e⟩ | h
          · exact .inl ⟨z, by simp [hz], e⟩
          · exact .inr h
      · rcases List.mem_cons.1 h with rfl | h
        · exact .inr ⟨y, by simp, rfl⟩
        · rcases diff_mem (x :: a) b d h with h | ⟨z, hz, e⟩
          · exact .inl h
          · exact .inr ⟨z, by simp [hz], e⟩
termination_by a b => a.length + b.length
theorem diff_rises : ∀ (a b : List Fl), Rises a → Rises b → (diffT a b).Pairwise (fun d e => ltB d.p e.p = true)
  | [], [], _, _ => by simp [diffT]
  | [], y :: b, ha, hb => by
    obtain ⟨b1, b2⟩ := List.pairwise_cons.1 hb
    rw [diffT, List.pairwise_cons]
    refine ⟨fun d hd => ?_, diff_rises [] b ha b2⟩
    rcases diff_mem _ _ d hd with ⟨x, hx, _⟩ | ⟨z, hz, e⟩
    · cases hx
    · rw [← e]; exact b1 z hz
  | x :: a, [], ha, hb => by
    obtain ⟨a1, a2⟩ := List.pairwise_cons.1 ha
    rw [diffT, List.pairwise_cons]
    refine ⟨fun d hd => ?_, diff_rises a [] a2 hb⟩
    rcases diff_mem _ _ d hd with ⟨z, hz, e⟩ | ⟨z, hz, _⟩
    · rw [← e]; exact a1 z hz
    · cases hz
  | x :: a, y :: b, ha, hb => by
    obtain ⟨a1, a2⟩ := List.pairwise_cons.1 ha
    obtain ⟨b1, b2⟩ := List.pairwise_cons.1 hb
    rw [diffT]
    by_cases h1 : x.1 = y.1
    · rw [if_pos (by simpa using h1)]
      split
      · exact diff_rises a b a2 b2
      · rw [List.pairwise_cons]
        refine ⟨fun d hd => ?_, diff_rises a b a2 b2⟩
        rcases diff_mem _ _ d hd with ⟨z, hz, e⟩ | ⟨z, hz, e⟩
        · rw [← e]; show ltB y.1 z.1 = true; rw [← h1]; exact a1 z hz
        · rw [← e]; exact b1 z hz
    · rw [if_neg (by simpa using h1)]
      by_cases h2 : ltB x.1 y.1 = true
      · rw [if_pos h2, List.pairwise_cons]
        refine ⟨fun d hd => ?_, diff_rises a (y :: b) a2 hb⟩
        rcases diff_mem _ _ d hd with ⟨z, hz, e⟩ | ⟨z, hz, e⟩
        · rw [← e]; exact a1 z hz
        · rw [← e]
          rcases List.mem_cons.1 hz with rfl | hz
          · exact h2
          · exact ltB_trans _ _ _ h2 (b1 z hz)
      · have h3 : ltB y.1 x.1 = true := by
          cases e : ltB y.1 x.1 with
          | true => rfl
          | false => exact absurd (ltB_tri _ _ (by simpa using h2) e) h1
        rw [if_neg h2, List.pairwise_cons]
        refine ⟨fun d hd => ?_, diff_rises (x :: a) b ha b2⟩
        rcases diff_mem _ _ d hd with ⟨z, hz, e⟩ | ⟨z, hz, e⟩
        · rw [← e]
          rcases List.mem_cons.1 hz with rfl | hz
          · exact h3
          · exact ltB_trans _ _ _ h3 (a1 z hz)
        · rw [← e]; exact b1 z hz
termination_by a b => a.length + b.length

theorem steps_append : ∀ (l m : List Dl) (t : List Fl), stepsT t (l ++ m) = match stepsT t l with
    | .error e => .error e
    | .ok u => stepsT u m
  | [], m, t => by simp [stepsT]
  | d :: l, m, t => by
    rw [List.cons_append, stepsT, stepsT]
    cases stepT t d with
    | error e => rfl
    | ok u => exact steps_append l m u
theorem steps_of_apply {t u : List Fl} {l : List Dl} (h : applyT t l = .ok u) : stepsT t l = .ok u := by
  unfold applyT at h
  cases e : stepsT t l with
  | error e' => rw [e] at h; cases h
  | ok v =>
    rw [e] at h
    simp only at h
    split at h
    · cases h
    · split at h
      · cases h; rfl
      · cases h
theorem apply_chain {a b c : List Fl} (ha : rightT a = true) (hb : rightT b = true) (hc : rightT c = true) : applyT a (diffT a b ++ diffT b c) = .ok c := by
  have h1 := steps_of_apply (apply_diff ha hb)
  have h2 := steps_of_apply (apply_diff hb hc)
  unfold applyT
  rw [steps_append, h1]
  simp only [h2, right_not_long hc, hc]
  simp
end Go.Proofs.YtffhfllikamccaaGreatDoor
namespace Go.Proofs.YtffhfllikamccaaGreatDoor
open Go

theorem rightB_ne {s : Bs} (h : rightB s = true) : s ≠ [] := by
  rintro rfl
  revert h
  decide +kernel
theorem right_iff (l : List Fl) : rightT l = true ↔ l.length ≤ 1000 ∧ ∀ (i : Nat) (x : Fl), l[i]? = some x → okF x = true ∧ ∀ (k : Nat) (y : Fl), k < i → l[k]? = some y → aheadB y x = true := by
  unfold rightT
  simp only [Bool.and_eq_true, decide_eq_true_eq, List.all_eq_true, pairB_iff]
  rw [List.pairwise_iff_getElem]
  constructor
  · rintro ⟨⟨h1, h2⟩, h3⟩
    refine ⟨h1, fun i x hx => ⟨h2 x (List.mem_of_getElem? hx), fun k y hk hy => ?_⟩⟩
    obtain ⟨hi, rfl⟩ := List.getElem?_eq_some_iff.1 hx
    obtain ⟨hk', rfl⟩ := List.getElem?_eq_some_iff.1 hy
    exact h3 k i hk' hi hk
  · rintro ⟨h1, h2⟩
    refine ⟨⟨h1, fun x hx => ?_⟩, fun k i hk hi hki => ?_⟩
    · obtain ⟨i, hi⟩ := List.mem_iff_getElem?.1 hx
      exact (h2 i x hi).1
    · exact (h2 i _ (List.getElem?_eq_getElem hi)).2 k _ hki (List.getElem?_eq_getElem hk)

/-- A file of l lies below another one. -/
def nestedL (l : List Fl) : Bool := l.any fun x => l.any fun y => !y.1.isEmpty && underL x.1 y.1
theorem chain_lt {l : List Fl} (h : ∀ (i : Nat) (x y : Fl), l[i]? = some x → l[i + 1]? = some y → ltB x.1 y.1 = true) : ∀ (d i : Nat) (x y : Fl), l[i]? = some x → l[i + d + 1]? = some y → ltB x.1 y.1 = true
  | 0, i, x, y, hx, hy => h i x y hx hy
  | d + 1, i, x, y, hx, hy => by
    have hl := (List.getElem?_eq_some_iff.1 hy).1
    obtain ⟨z, hz⟩ : ∃ z, l[i + d + 1]? = some z := ⟨_, List.getElem?_eq_getElem (by omega)⟩
    exact ltB_trans _ _ _ (chain_lt h d i x z hx hz) (h _ z y hz (by rw [show i + d + 1 + 1 = i + (d + 1) + 1 from by omega]; exact hy))
theorem chain_rises {l : List Fl} (h : ∀ (i : Nat) (x y : Fl), l[i]? = some x → l[i + 1]? = some y → ltB x.1 y.1 = true) : l.Pairwise (fun x y => ltB x.1 y.1 = true) := by
  rw [List.pairwise_iff_getElem]
  intro i j hi hj hij
  exact chain_lt h (j - i - 1) i _ _ (List.getElem?_eq_getElem hi) (by rw [show i + (j - i - 1) + 1 = j from by omega]; exact List.getElem?_eq_getElem hj)
theorem under_lt {s d : Bs} (hd : d ≠ []) (h : underL s d = true) : ltB d s = true := by
  unfold underL at h
  rw [Bool.or_eq_true] at h
  rcases h with h | h
  · exact absurd (List.isEmpty_iff.1 h) hd
  · rw [List.isPrefixOf_iff_prefix] at h
    obtain ⟨r, rfl⟩ := h
    rw [List.append_assoc]
    exact ltB_longer _ _ (by simp)
/-- What the program asks of a list is what the document does. -/
theorem right_of {l : List Fl} (h1 : longT l = false) (h2 : ∀ (i : Nat) (x : Fl), l[i]? = some x → rightB x.1 = true) (h3 : ∀ (i : Nat) (x y : Fl), l[i]? = some x → l[i + 1]? = some y → ltB x.1 y.1 = true) : rightT l = !nestedL l := by
  have hs := chain_rises h3
  unfold longT at h1
  simp only [Bool.or_eq_false_iff, decide_eq_false_iff_not, List.any_eq_false, decide_eq_true_eq] at h1
  have hb : ∀ x ∈ l, rightB x.1 = true := fun x hx => by obtain ⟨i, hi⟩ := List.mem_iff_getElem?.1 hx; exact h2 i x hi
  cases e : nestedL l with
  | false =>
    unfold rightT
    simp only [Bool.not_false, Bool.and_eq_true, decide_eq_true_eq, List.all_eq_true, pairB_iff]
    refine ⟨⟨by omega, fun x hx => ?_⟩, ?_⟩
    · unfold okF
      have := h1.2 x hx
      simp only [hb x hx, Bool.true_and, decide_eq_true_eq]
      omega
    · have hne := e
      unfold nestedL at hne
      simp only [List.any_eq_false, Bool.not_eq_true] at hne
      rw [List.pairwise_iff_getElem] at hs ⊢
      intro i j hi hj hij
      unfold aheadB
      rw [hs i j hi hj hij]
      have := hne _ (List.getElem_mem hj) _ (List.getElem_mem hi)
      have hn := rightB_ne (hb _ (List.getElem_mem hi))
      simpa [hn] using this
  | true =>
    cases e2 : rightT l with
    | false => rfl
    | true =>
      obtain ⟨_, _, hp⟩ := right_all e2
      unfold nestedL at e
      simp only [List.any_eq_true, Bool.and_eq_true, Bool.not_eq_true', List.isEmpty_eq_false_iff] at e
      obtain ⟨x, hx, y, hy, hyn, hu⟩ := e
      have hlt := under_lt hyn hu
      obtain ⟨i, hi⟩ := List.mem_iff_getElem?.1 hx
      obtain ⟨j, hj⟩ := List.mem_iff_getElem?.1 hy
      obtain ⟨hil, rfl⟩ := List.getElem?_eq_some_iff.1 hi
      obtain ⟨hjl, rfl⟩ := List.getElem?_eq_some_iff.1 hj
      rw [List.pairwise_iff_getElem] at hs hp
      rcases Nat.lt_trichotomy i j with h | h | h
      · have := hs i j hil hjl h
        rw [ltB_asymm _ _ hlt] at this; cases this
      · subst h; rw [ltB_irrefl] at hlt; cases hlt
      · have := hp j i hjl hil h
        unfold aheadB at this
        rw [hu] at this; simp at this
theorem right_long {l : List Fl} (h : longT l = true) : rightT l = false := by
  cases e : rightT l with
  | false => rfl
  | true => rw [right_not_long e] at h; cases h
theorem right_bad {l : List Fl} {i : Nat} {x : Fl} (hx : l[i]? = some x) (h : rightB x.1 = false) : rightT l = false := by
  cases e : rightT l with
  | false => rfl
  | true => rw [((right_all e).2.1 x (List.mem_of_getElem? hx)).1] at h; cases h
theorem right_falls {l : List Fl} {i k : Nat} {x y : Fl} (hk : k < i) (hx : l[i]? = some x) (hy : l[k]? = some y) (h : aheadB y x = false) : rightT l = false := by
  cases e : rightT l with
  | false => rfl
  | true => rw [(((right_iff l).1 e).2 i x hx).2 k y hk hy] at h; cases h
end Go.Proofs.YtffhfllikamccaaGreatDoor
namespace Go.Proofs.YtffhfllikamccaaGreatDoor
open Go

/-- What is ahead of the last slash; nothing, if there is none. -/
def dirL (s : Bs) : Bs := ((s.reverse.dropWhile (fun c => c != 47)).drop 1).reverse
theorem dirL_none (s : Bs) (h : ∀ c ∈ s, c ≠ 47) : dirL s = [] := by
  unfold dirL
  have : s.reverse.dropWhile (fun c => c != 47) = [] := by
    have := List.dropWhile_append_of_pos (p := fun c : UInt8 => c != 47) (l₁ := s.reverse) (l₂ := []) (fun c hc => by simpa using h c (by simpa using hc))
    simpa using this
  rw [this]; rfl
theorem dirL_slash (p l : Bs) (h : ∀ c ∈ l, c ≠ 47) : dirL (p ++ 47 :: l) = p := by
  unfold dirL
  rw [List.reverse_append, List.reverse_cons, List.append_assoc, List.dropWhile_append_of_pos (fun c hc => by simpa using h c (by simpa using hc))]
  simp
theorem last_slash (s : Bs) : (∀ c ∈ s, c ≠ 47) ∨ ∃ p l, s = p ++ 47 :: l ∧ ∀ c ∈ l, c ≠ (47 : UInt8) := by
  induction s with
  | nil => exact .inl fun c hc => by cases hc
  | cons b s ih =>
    rcases ih with h | ⟨p, l, rfl, hl⟩
    · by_cases hb : b = 47
      · subst hb; exact .inr ⟨[], s, rfl, h⟩
      · refine .inl fun c hc => ?_
        rcases List.mem_cons.1 hc with rfl | hc
        · exact hb
        · exact h c hc
    · exact .inr ⟨b :: p, l, rfl, hl⟩
theorem underL_iff {s q : Bs} (hq : q ≠ []) : underL s q = true ↔ ∃ r, s = q ++ 47 :: r := by
  unfold underL
  rw [Bool.or_eq_true, List.isPrefixOf_iff_prefix]
  constructor
  · rintro (h | ⟨r, rfl⟩)
    · exact absurd (List.isEmpty_iff.1 h) hq
    · exact ⟨r, by simp⟩
  · rintro ⟨r, rfl⟩
    exact .inr ⟨r, by simp⟩
theorem under_dir {s q : Bs} (hq : q ≠ []) (h : underL s q = true) : q = dirL s ∨ underL (dirL s) q = true := by
  obtain ⟨r, hr⟩ := (underL_iff hq).1 h
  rcases last_slash s with h0 | ⟨p, l, rfl, hl⟩
  · exact absurd rfl (h0 47 (by rw [hr]; simp))
  · rw [dirL_slash p l hl]
    rcases List.append_eq_append_iff.1 hr with ⟨t, h1, h2⟩ | ⟨t, h1, h2⟩
    · cases t with
      | nil => left; simpa using h1
      | cons b t =>
        exfalso
        have : l = t ++ 47 :: r := by simpa using (List.cons.inj h2).2
        exact hl 47 (by rw [this]; simp) rfl
    · cases t with
      | nil => left; simpa using h1.symm
      | cons b t =>
        right
        have hb : b = 47 := by simpa using (List.cons.inj h2).1.symm
        subst hb
        exact (underL_iff hq).2 ⟨t, h1⟩
theorem dir_under {s : Bs} (h : dirL s ≠ []) : underL s (dirL s) = true := by
  rcases last_slash s with h0 | ⟨p, l, rfl, hl⟩
  · exact absurd (dirL_none s h0) h
  · rw [dirL_slash p l hl] at h ⊢
    exact (underL_iff h).2 ⟨l, rfl⟩
theorem dir_shorter {s : Bs} (h : s ≠ []) : (dirL s).length < s.length := by
  rcases last_slash s with h0 | ⟨p, l, rfl, hl⟩
  · rw [dirL_none s h0]
    exact List.length_pos_iff.2 h
  · rw [dirL_slash p l hl]; simp
theorem under_trans {s d q : Bs} (hd : d ≠ []) (hq : q ≠ []) (h1 : underL s d = true) (h2 : underL d q = true) : underL s q = true := by
  obtain ⟨r, rfl⟩ := (underL_iff hd).1 h1
  obtain ⟨r', rfl⟩ := (underL_iff hq).1 h2
  exact (underL_iff hq).2 ⟨r' ++ 47 :: r, by simp⟩
theorem under_nil {q : Bs} (hq : q ≠ []) : underL [] q = false := by
  cases e : underL [] q with
  | false => rfl
  | true => obtain ⟨r, hr⟩ := (underL_iff hq).1 e; simp at hr

/-- What is known while the directories of s are gone through: d is the next one; none of those behind it is a path of l. -/
structure DirInv (l : List Fl) (s d : Bs) : Prop where
  at_ : d ≠ [] → underL s d = true
  rest : ∀ y ∈ l, y.1 ≠ [] → underL s y.1 = true → y.1 = d ∨ underL d y.1 = true
theorem DirInv.start (l : List Fl) (s : Bs) : DirInv l s (dirL s) := ⟨fun h => dir_under h, fun _ _ hn hu => under_dir hn hu⟩
theorem DirInv.next {l : List Fl} {s d : Bs} (h : DirInv l s d) (hd : d ≠ []) (hno : ∀ y ∈ l, y.1 ≠ d) : DirInv l s (dirL d) := by
  refine ⟨fun hn => ?_, fun y hy hn hu => ?_⟩
  · exact under_trans hd hn (h.at_ hd) (dir_under hn)
  · rcases h.rest y hy hn hu with e | h1
    · exact absurd e (hno y hy)
    · exact under_dir hn h1
theorem DirInv.done {l : List Fl} {s : Bs} (h : DirInv l s []) : (l.any fun y => !y.1.isEmpty && underL s y.1) = false := by
  rw [List.any_eq_false]
  intro y hy
  by_cases hn : y.1 = []
  · simp [hn]
  · cases e : underL s y.1 with
    | false => simp
    | true =>
      rcases h.rest y hy hn e with e1 | e1
      · exact absurd e1 hn
      · rw [under_nil hn] at e1; cases e1
theorem DirInv.found {l : List Fl} {s d : Bs} (h : DirInv l s d) (hd : d ≠ []) {y : Fl} (hy : y ∈ l) (e : y.1 = d) : (l.any fun y => !y.1.isEmpty && underL s y.1) = true := by
  rw [List.any_eq_true]
  refine ⟨y, hy, ?_⟩
  rw [e, h.at_ hd]
  simp [hd]
end Go.Proofs.YtffhfllikamccaaGreatDoor
