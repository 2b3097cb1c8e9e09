/-
  Plain laws of layer 2 (tree): what is told side by side; differences. No program is named here.
-/
import Derived.Test.YtedcaodbcognjaaDoorTPlain
namespace Go.Proofs.YtedcaodbcognjaaDoor
open Go

theorem drop_cons {α : Type} {A : List α} {i : Nat} {x : α} {a : List α} (h : A.drop i = x :: a) : A[i]? = some x ∧ A.drop (i + 1) = a := by
  refine ⟨by rw [← List.head?_drop, h]; rfl, ?_⟩
  rw [← List.drop_drop, h]; rfl

def okPair (A B : List Fl) : Option Nat × Option Nat → Bool
  | (some i, some j) => A[i]?.map (·.2) == B[j]?.map (·.2)
  | _ => false
def delP (A B : List Fl) : Option Nat × Option Nat → List Dl
  | (some i, some j) => if (A.getD i ([], [])).2 == (B.getD j ([], [])).2 then [] else [⟨2, (B.getD j ([], [])).1, (B.getD j ([], [])).2⟩]
  | (some i, none) => [⟨3, (A.getD i ([], [])).1, []⟩]
  | (none, some j) => [⟨1, (B.getD j ([], [])).1, (B.getD j ([], [])).2⟩]
  | (none, none) => []

theorem getD_of {α : Type} {A : List α} {i : Nat} {x z : α} (h : A[i]? = some x) : A.getD i z = x := by simp [List.getD, h]

theorem pairsN_all (A B : List Fl) : ∀ (a b : List Fl) (i j : Nat), A.drop i = a → B.drop j = b → (pairsN a b i j).all (okPair A B) = decide (a = b)
  | [], [], _, _, _, _ => by simp [pairsN]
  | [], y :: b, i, j, _, _ => by simp [pairsN, okPair]
  | x :: a, [], i, j, _, _ => by simp [pairsN, okPair]
  | x :: a, y :: b, i, j, ha, hb => by
    obtain ⟨hx, ha'⟩ := drop_cons ha
    obtain ⟨hy, hb'⟩ := drop_cons hb
    rw [pairsN]
    by_cases h1 : x.1 = y.1
    · have ih := pairsN_all A B a b (i + 1) (j + 1) ha' hb'
      rw [if_pos (by simpa using h1), List.all_cons, ih]
      simp only [okPair, hx, hy, Option.map_some]
      by_cases h2 : x.2 = y.2
      · have : x = y := Prod.ext h1 h2
        subst this; simp
      · have : x ≠ y := fun e => h2 (by rw [e])
        simp [this, h2]
    · have : x ≠ y := fun e => h1 (by rw [e])
      rw [if_neg (by simpa using h1)]
      split <;> simp [okPair, this]
termination_by a b => a.length + b.length

theorem pairsN_delP (A B : List Fl) : ∀ (a b : List Fl) (i j : Nat), A.drop i = a → B.drop j = b → (pairsN a b i j).flatMap (delP A B) = diffT a b
  | [], [], _, _, _, _ => by simp [pairsN, diffT]
  | [], y :: b, i, j, ha, hb => by
    obtain ⟨hy, hb'⟩ := drop_cons hb
    have ih := pairsN_delP A B [] b i (j + 1) ha hb'
    rw [pairsN, diffT, List.flatMap_cons, ih]
    simp only [delP, getD_of hy, List.singleton_append]
  | x :: a, [], i, j, ha, hb => by
    obtain ⟨hx, ha'⟩ := drop_cons ha
    have ih := pairsN_delP A B a [] (i + 1) j ha' hb
    rw [pairsN, diffT, List.flatMap_cons, ih]
    simp only [delP, getD_of hx, List.singleton_append]
  | x :: a, y :: b, i, j, ha, hb => by
    obtain ⟨hx, ha'⟩ := drop_cons ha
    obtain ⟨hy, hb'⟩ := drop_cons hb
    rw [pairsN, diffT]
    by_cases h1 : (x.1 == y.1) = true
    · have ih := pairsN_delP A B a b (i + 1) (j + 1) ha' hb'
      rw [if_pos h1, if_pos h1, List.flatMap_cons, ih]
      simp only [delP, getD_of hx, getD_of hy]
      split <;> simp
    · rw [if_neg h1, if_neg h1]
      by_cases h2 : ltB x.1 y.1 = true
      · have ih := pairsN_delP A B a (y :: b) (i + 1) j ha' hb
        rw [if_pos h2, if_pos h2, List.flatMap_cons, ih]
        simp only [delP, getD_of hx, List.singleton_append]
      · have ih := pairsN_delP A B (x :: a) b i (j + 1) ha hb'
        rw [if_neg h2, if_neg h2, List.flatMap_cons, ih]
        simp only [delP, getD_of hy, List.singleton_append]
termination_by a b => a.length + b.length

theorem pairsN_length : ∀ (a b : List Fl) (i j : Nat), (pairsN a b i j).length ≤ a.length + b.length
  | [], [], _, _ => by simp [pairsN]
  | [], y :: b, i, j => by
    have := pairsN_length [] b i (j + 1)
    rw [pairsN]; simp at this ⊢; omega
  | x :: a, [], i, j => by
    have := pairsN_length a [] (i + 1) j
    rw [pairsN]; simp at this ⊢; omega
  | x :: a, y :: b, i, j => by
    have h1 := pairsN_length a b (i + 1) (j + 1)
    have h2 := pairsN_length a (y :: b) (i + 1) j
    have h3 := pairsN_length (x :: a) b i (j + 1)
    rw [pairsN]
    split
    · simp at h1 ⊢; omega
    · split
      · simp at h2 ⊢; omega
      · simp at h3 ⊢; omega
termination_by a b => a.length + b.length
/-- What is told names places that are there. -/
def inPair (n m : Nat) : Option Nat × Option Nat → Prop
  | (some i, some j) => i < n ∧ j < m
  | (some i, none) => i < n
  | (none, some j) => j < m
  | (none, none) => False
theorem pairsN_in (A B : List Fl) : ∀ (a b : List Fl) (i j : Nat), A.drop i = a → B.drop j = b → ∀ p ∈ pairsN a b i j, inPair A.length B.length p
  | [], [], _, _, _, _ => by simp [pairsN]
  | [], y :: b, i, j, ha, hb => by
    obtain ⟨hy, hb'⟩ := drop_cons hb
    have ih := pairsN_in A B [] b i (j + 1) ha hb'
    rw [pairsN]
    intro p hp
    rcases List.mem_cons.1 hp with rfl | hp
    · exact (List.getElem?_eq_some_iff.1 hy).1
    · exact ih p hp
  | x :: a, [], i, j, ha, hb => by
    obtain ⟨hx, ha'⟩ := drop_cons ha
    have ih := pairsN_in A B a [] (i + 1) j ha' hb
    rw [pairsN]
    intro p hp
    rcases List.mem_cons.1 hp with rfl | hp
    · exact (List.getElem?_eq_some_iff.1 hx).1
    · exact ih p hp
  | x :: a, y :: b, i, j, ha, hb => by
    obtain ⟨hx, ha'⟩ := drop_cons ha
    obtain ⟨hy, hb'⟩ := drop_cons hb
    have hxl := (List.getElem?_eq_some_iff.1 hx).1
    have hyl := (List.getElem?_eq_some_iff.1 hy).1
    have h1 := pairsN_in A B a b (i + 1) (j + 1) ha' hb'
    have h2 := pairsN_in A B a (y :: b) (i + 1) j ha' hb
    have h3 := pairsN_in A B (x :: a) b i (j + 1) ha hb'
    rw [pairsN]
    split
    · intro p hp
      rcases List.mem_cons.1 hp with rfl | hp
      · exact ⟨hxl, hyl⟩
      · exact h1 p hp
    · split
      · intro p hp
        rcases List.mem_cons.1 hp with rfl | hp
        · exact hxl
        · exact h2 p hp
      · intro p hp
        rcases List.mem_cons.1 hp with rfl | hp
        · exact hyl
        · exact h3 p hp
termination_by a b => a.length + b.length

/-! What a row of changes makes. -/
theorem right_all {l : List Fl} (h : rightT l = true) : l.length ≤ 1000 ∧ (∀ x ∈ l, rightB x.1 = true ∧ x.2.length ≤ 65536) ∧ l.Pairwise (fun x y => aheadB x y = true) := by
  unfold rightT at h
  simp only [Bool.and_eq_true, decide_eq_true_eq, List.all_eq_true] at h
  refine ⟨h.1.1, fun x hx => ?_, (pairB_iff _ _).1 h.2⟩
  have := h.1.2 x hx
  unfold okF at this
  simpa using this
theorem right_sorted {l : List Fl} (h : rightT l = true) : l.Pairwise (fun x y => ltB x.1 y.1 = true) :=
  (right_all h).2.2.imp fun h => by unfold aheadB at h; simp at h; exact h.1
theorem right_not_long {l : List Fl} (h : rightT l = true) : longT l = false := by
  obtain ⟨h1, h2, _⟩ := right_all h
  unfold longT
  simp only [Bool.or_eq_false_iff, decide_eq_false_iff_not, List.any_eq_false, decide_eq_true_eq]
  exact ⟨by omega, fun x hx => by have := (h2 x hx).2; omega⟩

theorem hasT_append (a b : List Fl) (s : Bs) : hasT (a ++ b) s = (hasT a s || hasT b s) := by unfold hasT; rw [List.any_append]
theorem hasT_iff (l : List Fl) (s : Bs) : hasT l s = true ↔ ∃ x ∈ l, x.1 = s := by unfold hasT; simp
theorem hasT_below {l : List Fl} {s : Bs} (h : ∀ x ∈ l, ltB x.1 s = true) : hasT l s = false := by
  cases e : hasT l s with
  | false => rfl
  | true =>
    obtain ⟨x, hx, hs⟩ := (hasT_iff l s).1 e
    have := h x hx
    rw [hs, ltB_irrefl] at this; cases this
theorem hasT_above {l : List Fl} {s : Bs} (h : ∀ x ∈ l, ltB s x.1 = true) : hasT l s = false := by
  cases e : hasT l s with
  | false => rfl
  | true =>
    obtain ⟨x, hx, hs⟩ := (hasT_iff l s).1 e
    have := h x hx
    rw [hs, ltB_irrefl] at this; cases this
theorem dropT_none {l : List Fl} {s : Bs} (h : hasT l s = false) : dropT l s = l := by
  unfold dropT
  rw [List.filter_eq_self]
  intro x hx
  unfold hasT at h
  rw [List.any_eq_false] at h
  simpa using h x hx
theorem dropT_append (a b : List Fl) (s : Bs) : dropT (a ++ b) s = dropT a s ++ dropT b s := by unfold dropT; rw [List.filter_append]
theorem insT_between {a b : List Fl} {f : Fl} (ha : ∀ x ∈ a, ltB x.1 f.1 = true) (hb : ∀ x ∈ b, ltB f.1 x.1 = true) : insT (a ++ b) f = a ++ f :: b := by
  have h1 : ∀ x ∈ a, (!ltB f.1 x.1) = true := fun x hx => by rw [ltB_asymm _ _ (ha x hx)]; rfl
  unfold insT
  rw [List.takeWhile_append_of_pos h1, List.dropWhile_append_of_pos h1]
  cases b with
  | nil => simp
  | cons y b =>
    have := hb y (by simp)
    simp [this]
/-- Behind what is done already (P, all below) the changes make b of a. -/
theorem steps_diff : ∀ (a b P : List Fl), (∀ x ∈ a, rightB x.1 = true) → (∀ x ∈ b, rightB x.1 = true) →
    a.Pairwise (fun x y => ltB x.1 y.1 = true) → b.Pairwise (fun x y => ltB x.1 y.1 = true) →
    (∀ x ∈ P, ∀ y ∈ a, ltB x.1 y.1 = true) → (∀ x ∈ P, ∀ y ∈ b, ltB x.1 y.1 = true) → stepsT (P ++ a) (diffT a b) = .ok (P ++ b)
  | [], [], P, _, _, _, _, _, _ => by simp [diffT, stepsT]
  | [], y :: b, P, ra, rb, sa, sb, pa, pb => by
    have hy := rb y (by simp)
    have hno : hasT P y.1 = false := hasT_below fun x hx => pb x hx y (by simp)
    obtain ⟨sb1, sb2⟩ := List.pairwise_cons.1 sb
    have hst : stepT (P ++ []) ⟨1, y.1, y.2⟩ = .ok (P ++ [y]) := by
      unfold stepT
      rw [List.append_nil]
      simp only [hy, hno]
      simp only [putT, dropT_none hno]
      have := insT_between (a := P) (b := []) (f := y) (fun x hx => pb x hx y (by simp)) (fun x hx => by simp at hx)
      simpa using this
    have ih := steps_diff [] b (P ++ [y]) ra (fun x hx => rb x (by simp [hx])) List.Pairwise.nil sb2 (fun x _ z hz => by simp at hz) (fun x hx z hz => by
      rcases List.mem_append.1 hx with hx | hx
      · exact pb x hx z (by simp [hz])
      · rw [List.mem_singleton] at hx; subst hx; exact sb1 z hz)
    rw [diffT, stepsT, hst]
    simpa using ih
  | x :: a, [], P, ra, rb, sa, sb, pa, pb => by
    have hx := ra x (by simp)
    obtain ⟨sa1, sa2⟩ := List.pairwise_cons.1 sa
    have hno : hasT P x.1 = false := hasT_below fun z hz => pa z hz x (by simp)
    have hno2 : hasT a x.1 = false := hasT_above sa1
    have hyes : hasT (P ++ x :: a) x.1 = true := (hasT_iff _ _).2 ⟨x, by simp, rfl⟩
    have hdrop : dropT (P ++ x :: a) x.1 = P ++ a := by
      rw [dropT_append, dropT_none hno, show x :: a = [x] ++ a from rfl, dropT_append, dropT_none hno2]
      simp [dropT]
    have hst : stepT (P ++ x :: a) ⟨3, x.1, []⟩ = .ok (P ++ a) := by
      unfold stepT
      simp only [hx, hyes]
      simp [hdrop]
    have ih := steps_diff a [] P (fun z hz => ra z (by simp [hz])) rb sa2 sb (fun z hz u hu => pa z hz u (by simp [hu])) (fun z _ u hu => by simp at hu)
    rw [diffT, stepsT, hst]
    exact ih
  | x :: a, y :: b, P, ra, rb, sa, sb, pa, pb => by
    have hx := ra x (by simp)
    have hy := rb y (by simp)
    obtain ⟨sa1, sa2⟩ := List.pairwise_cons.1 sa
    obtain ⟨sb1, sb2⟩ := List.pairwise_cons.1 sb
    have hno : hasT P x.1 = false := hasT_below fun z hz => pa z hz x (by simp)
    have hno2 : hasT a x.1 = false := hasT_above sa1
    have hyes : hasT (P ++ x :: a) x.1 = true := (hasT_iff _ _).2 ⟨x, by simp, rfl⟩
    have hdrop : dropT (P ++ x :: a) x.1 = P ++ a := by
      rw [dropT_append, dropT_none hno, show x :: a = [x] ++ a from rfl, dropT_append, dropT_none hno2]
      simp [dropT]
    rw [diffT]
    by_cases h1 : x.1 = y.1
    · rw [if_pos (by simpa using h1)]
      have ih := steps_diff a b (P ++ [y]) (fun z hz => ra z (by simp [hz])) (fun z hz => rb z (by simp [hz])) sa2 sb2 (fun z hz u hu => by
        rcases List.mem_append.1 hz with hz | hz
        · exact pa z hz u (by simp [hu])
        · rw [List.mem_singleton] at hz; subst hz; rw [← h1]; exact sa1 u hu) (fun z hz u hu => by
        rcases List.mem_append.1 hz with hz | hz
        · exact pb z hz u (by simp [hu])
        · rw [List.mem_singleton] at hz; subst hz; exact sb1 u hu)
      by_cases h2 : x.2 = y.2
      · rw [if_pos (by simpa using h2)]
        have : x = y := Prod.ext h1 h2
        subst this
        simpa using ih
      · rw [if_neg (by simpa using h2), stepsT]
        have hst : stepT (P ++ x :: a) ⟨2, y.1, y.2⟩ = .ok (P ++ y :: a) := by
          unfold stepT
          simp only [← h1, hx, hyes]
          simp only [putT, hdrop]
          have := insT_between (a := P) (b := a) (f := (x.1, y.2)) (fun z hz => pa z hz x (by simp)) (fun z hz => sa1 z hz)
          rw [show (x.1, y.2) = y from Prod.ext h1 rfl] at this
          simp only [h1] at this ⊢
          simpa using this
        rw [hst]
        simpa using ih
    · rw [if_neg (by simpa using h1)]
      by_cases h2 : ltB x.1 y.1 = true
      · rw [if_pos h2, stepsT]
        have hst : stepT (P ++ x :: a) ⟨3, x.1, []⟩ = .ok (P ++ a) := by
          unfold stepT
          simp only [hx, hyes]
          simp [hdrop]
        have ih := steps_diff a (y :: b) P (fun z hz => ra z (by simp [hz])) rb sa2 sb (fun z hz u hu => pa z hz u (by simp [hu])) pb
        rw [hst]
        exact ih
      · have h3 : ltB y.1 x.1 = true := by
          cases e : ltB y.1 x.1 with
          | true => rfl
          | false => exact absurd (ltB_tri _ _ (by simpa using h2) e) h1
        rw [if_neg h2, stepsT]
        have habove : ∀ z ∈ x :: a, ltB y.1 z.1 = true := fun z hz => by
          rcases List.mem_cons.1 hz with rfl | hz
          · exact h3
          · exact ltB_trans _ _ _ h3 (sa1 z hz)
        have hno3 : hasT (P ++ x :: a) y.1 = false := by
          rw [hasT_append, hasT_below fun z hz => pb z hz y (by simp), hasT_above habove]; rfl
        have hst : stepT (P ++ x :: a) ⟨1, y.1, y.2⟩ = .ok (P ++ y :: x :: a) := by
          unfold stepT
          simp only [hy, hno3]
          simp only [putT, dropT_none hno3]
          have := insT_between (a := P) (b := x :: a) (f := y) (fun z hz => pb z hz y (by simp)) habove
          simpa using this
        have ih := steps_diff (x :: a) b (P ++ [y]) ra (fun z hz => rb z (by simp [hz])) sa sb2 (fun z hz u hu => by
          rcases List.mem_append.1 hz with hz | hz
          · exact pa z hz u hu
          · rw [List.mem_singleton] at hz; subst hz; exact habove u hu) (fun z hz u hu => by
          rcases List.mem_append.1 hz with hz | hz
          · exact pb z hz u (by simp [hu])
          · rw [List.mem_singleton] at hz; subst hz; exact sb1 u hu)
        rw [hst]
        simpa using ih
termination_by a b => a.length + b.length
theorem apply_diff {a b : List Fl} (ha : rightT a = true) (hb : rightT b = true) : applyT a (diffT a b) = .ok b := by
  have h := steps_diff a b [] (fun x hx => ((right_all ha).2.1 x hx).1) (fun x hx => ((right_all hb).2.1 x hx).1) (right_sorted ha) (right_sorted hb) (fun x hx => by simp at hx) (fun x hx => by simp at hx)
  simp only [List.nil_append] at h
  unfold applyT
  rw [h]
  simp only [right_not_long hb, hb]
  simp
end Go.Proofs.YtedcaodbcognjaaDoor
