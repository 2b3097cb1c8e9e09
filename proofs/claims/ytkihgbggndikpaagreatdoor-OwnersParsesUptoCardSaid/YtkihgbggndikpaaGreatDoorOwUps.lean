/-
  Plain: the directories upward; what a parsed text is like; whose a file is. No program is named here.
-/
import Derived.Test.YtkihgbggndikpaaGreatDoorOwPlain
import Derived.Test.YtkihgbggndikpaaGreatDoorTLaws
import Derived.Test.YtkihgbggndikpaaGreatDoorSmall
import Derived.Test.YtkihgbggndikpaaGreatDoorBase
namespace Go.Proofs.YtkihgbggndikpaaGreatDoor
open Go

/-- A directory, and each one that it lies in, up to the top. -/
def upsL : Nat → Bs → List Bs
  | 0, _ => []
  | n + 1, d => d :: (if d.isEmpty then [] else upsL n (dirL d))
def ups (d : Bs) : List Bs := upsL (d.length + 1) d
theorem dirL_less {d : Bs} (h : d.isEmpty = false) : (dirL d).length < d.length := dir_shorter (fun e => by rw [e] at h; cases h)
theorem upsL_more : ∀ (n : Nat) (d : Bs), d.length < n → upsL n d = ups d
  | 0, _, h => by omega
  | n + 1, d, h => by
    unfold ups
    by_cases e : d.isEmpty = true
    · simp [upsL, e]
    · have e : d.isEmpty = false := by simpa using e
      have h1 := dirL_less e
      simp only [upsL, e]
      rw [upsL_more n (dirL d) (by omega), if_neg (by simp), if_neg (by simp)]
      congr 1
      cases hd : d.length with
      | zero => omega
      | succ k => exact (upsL_more (k + 1) (dirL d) (by omega)).symm
termination_by n => n
theorem ups_step (d : Bs) : ups d = d :: (if d.isEmpty then [] else ups (dirL d)) := by
  conv => lhs; unfold ups
  rw [upsL]
  by_cases e : d.isEmpty = true
  · rw [if_pos e, if_pos e]
  · have e' : d.isEmpty = false := by simpa using e
    rw [if_neg e, if_neg e]
    have h1 := dirL_less e'
    rw [upsL_more _ _ h1]
theorem ups_small : ∀ (n : Nat) (d : Bs), d.length ≤ n → ∀ x ∈ ups d, x.length ≤ d.length
  | n, d, h, x, hx => by
    rw [ups_step] at hx
    rcases List.mem_cons.1 hx with rfl | hx
    · exact Nat.le_refl _
    · by_cases e : d.isEmpty = true
      · rw [if_pos e] at hx; cases hx
      · rw [if_neg e] at hx
        have h1 := dirL_less (by simpa using e : d.isEmpty = false)
        have := ups_small (n - 1) (dirL d) (by omega) x hx
        omega
termination_by _n d => d.length
theorem ups_len : ∀ (n : Nat) (d : Bs), d.length ≤ n → (ups d).length ≤ d.length + 1
  | n, d, h => by
    rw [ups_step]
    by_cases e : d.isEmpty = true
    · rw [if_pos e]; simp
    · rw [if_neg e]
      have h1 := dirL_less (by simpa using e : d.isEmpty = false)
      have := ups_len (n - 1) (dirL d) (by omega)
      simp only [List.length_cons]; omega
termination_by _n d => d.length

/-- What a parsed text is like. -/
def okLn (n : Nat) (x : Ln) : Prop := x.1.length ≤ n ∧ x.2.length ≤ n + 1 ∧ (∀ p ∈ x.2, namedB p = true) ∧ ((x.1 = [] ∧ ∃ p, x.2 = [p]) ∨ (isGlobL x.1 = true ∧ x.2 ≠ []))
theorem cutR_len (l : Bs) : (cutR l).length ≤ l.length := by unfold cutR; exact (List.takeWhile_prefix _).length_le
theorem pieceL_le (c : UInt8) : ∀ (q l : Bs), l ∈ splitL c q → l.length ≤ q.length := by
  intro q
  induction q with
  | nil => intro l hl; simp [splitL] at hl; simp [hl]
  | cons b r ih =>
    intro l hl
    unfold splitL at hl
    split at hl
    · rcases List.mem_cons.1 hl with rfl | h
      · simp
      · have := ih l h; simp; omega
    · split at hl
      · rename_i e; exact absurd e (splitL_ne c r)
      · rename_i p ps e
        rcases List.mem_cons.1 hl with rfl | h
        · have := ih p (by rw [e]; simp); simp; omega
        · have := ih l (by rw [e]; simp [h]); simp; omega
theorem words_le (l : Bs) : (∀ p ∈ wordsL l, p.length ≤ l.length) ∧ (wordsL l).length ≤ l.length + 1 :=
  ⟨fun _ hp => Nat.le_trans (pieceL_le 32 _ _ (List.mem_filter.1 hp).1) (cutR_len l), Nat.le_trans (List.length_filter_le _ _) (Nat.le_trans (splitL_length 32 _) (Nat.succ_le_succ (cutR_len l)))⟩
theorem tell_ok {o o' : Ow} {l : Bs} {n : Nat} (hl : l.length ≤ n) (h : tellL o (wordsL l) = some o') (ho : ∀ x ∈ o.2, okLn n x) : (∀ x ∈ o'.2, okLn n x) ∧ o'.2.length ≤ o.2.length + 1 := by
  obtain ⟨h1, h2⟩ := words_le l
  unfold tellL at h
  have add : ∀ x : Ln, okLn n x → (∀ y ∈ o.2 ++ [x], okLn n y) ∧ (o.2 ++ [x]).length ≤ o.2.length + 1 := fun x hx => ⟨fun y hy => by
    rcases List.mem_append.1 hy with hy | hy
    · exact ho y hy
    · simp only [List.mem_singleton] at hy; subst hy; exact hx, by simp⟩
  by_cases e0 : (wordsL l).isEmpty = true
  · rw [show kindL (wordsL l) = 0 from by simp [kindL, e0]] at h
    simp only [tellK, Option.some.injEq] at h
    subst h; exact ⟨ho, by omega⟩
  · by_cases e1 : isNopL (wordsL l) = true
    · rw [show kindL (wordsL l) = 1 from by simp [kindL, e0, e1]] at h
      simp only [tellK, Option.some.injEq] at h
      subst h; exact ⟨ho, by show o.2.length ≤ _; omega⟩
    · by_cases e2 : isPerL (wordsL l) = true
      · rw [show kindL (wordsL l) = 2 from by simp [kindL, e0, e1, e2]] at h
        simp only [tellK, Option.some.injEq] at h
        subst h
        unfold isPerL at e2
        simp only [Bool.and_eq_true, decide_eq_true_eq] at e2
        obtain ⟨k1, k2, k3, k4⟩ := e2
        have hg : (wordsL l).getD 1 [] ∈ wordsL l := by
          rw [List.getD_eq_getElem?_getD, List.getElem?_eq_getElem (by omega)]; exact List.getElem_mem _
        refine add _ ⟨Nat.le_trans (h1 _ hg) hl, by rw [List.length_drop]; omega, fun p hp => List.all_eq_true.1 k4 p hp, .inr ⟨k3, fun e => ?_⟩⟩
        have := congrArg List.length e
        rw [List.length_drop] at this
        simp at this; omega
      · by_cases e3 : isNameL (wordsL l) = true
        · rw [show kindL (wordsL l) = 3 from by simp [kindL, e0, e1, e2, e3]] at h
          simp only [tellK, Option.some.injEq] at h
          subst h
          unfold isNameL at e3
          simp only [Bool.and_eq_true, decide_eq_true_eq] at e3
          obtain ⟨k1, k2⟩ := e3
          obtain ⟨p, hp⟩ := List.length_eq_one_iff.1 k1
          rw [hp] at k2 ⊢
          exact add _ ⟨by simp, by simp, fun q hq => by simp only [List.mem_singleton] at hq; subst hq; simpa using k2, .inl ⟨rfl, p, rfl⟩⟩
        · rw [show kindL (wordsL l) = 4 from by simp [kindL, e0, e1, e2, e3]] at h
          cases h
theorem parseL_ok {n : Nat} : ∀ (ls : List Bs) (o : Ow), (∀ l ∈ ls, l.length ≤ n) → parseL ls = some o → (∀ x ∈ o.2, okLn n x) ∧ o.2.length ≤ ls.length := by
  have gen : ∀ (ls : List Bs) (o o' : Ow), (∀ l ∈ ls, l.length ≤ n) → (∀ x ∈ o.2, okLn n x) → ls.foldl (fun o l => o.bind (tellL · (wordsL l))) (some o) = some o' → (∀ x ∈ o'.2, okLn n x) ∧ o'.2.length ≤ o.2.length + ls.length := by
    intro ls
    induction ls with
    | nil => intro o o' _ ho h; simp at h; subst h; exact ⟨ho, by simp⟩
    | cons l r ih =>
      intro o o' hl ho h
      rw [List.foldl_cons] at h
      show _
      cases e : tellL o (wordsL l) with
      | none =>
        rw [show (some o).bind (fun x => tellL x (wordsL l)) = none from e] at h
        exfalso
        have : ∀ r : List Bs, r.foldl (fun o l => o.bind (tellL · (wordsL l))) (none : Option Ow) = none := by
          intro r; induction r with
          | nil => rfl
          | cons _ _ ih => simpa using ih
        rw [this] at h; cases h
      | some o1 =>
        rw [show (some o).bind (fun x => tellL x (wordsL l)) = some o1 from e] at h
        obtain ⟨h1, h2⟩ := tell_ok (hl l (by simp)) e ho
        obtain ⟨h3, h4⟩ := ih o1 o' (fun x hx => hl x (by simp [hx])) h1 h
        exact ⟨h3, by simp only [List.length_cons]; omega⟩
  intro ls o hl h
  have := gen ls emptyO o hl (fun x hx => by cases hx) h
  simpa [emptyO] using this
theorem parseV_ok (s : Bs) : (∀ x ∈ (parseV s).2.2, okLn 16384 x) ∧ (parseV s).2.2.length ≤ 16385 := by
  unfold parseV
  split
  · exact ⟨fun x hx => (by cases hx), Nat.zero_le _⟩
  · rename_i hs
    split
    · exact ⟨fun x hx => (by cases hx), Nat.zero_le _⟩
    · rename_i o e
      obtain ⟨h1, h2⟩ := parseL_ok (n := 16384) _ o (fun l hl => Nat.le_trans (pieceL_le 10 s l hl) (by omega)) e
      exact ⟨h1, Nat.le_trans h2 (Nat.le_trans (splitL_length 10 s) (by omega))⟩
theorem parseV_empty (s : Bs) (h : (parseV s).1 ≠ 0) : (parseV s).2 = emptyO := by
  unfold parseV at h ⊢
  by_cases h1 : 16384 < s.length
  · rw [if_pos h1]
  · rw [if_neg h1] at h ⊢
    cases e : parseL (splitL 10 s) with
    | none => rfl
    | some o => rw [e] at h; exact absurd rfl h

/-- What the OWNERS file of a directory tells. -/
def atT (t : List Fl) (d : Bs) : Int × Ow := match getT t (join2 d ownW) with
  | none => (0, emptyO)
  | some b => parseV b
theorem atT_ok (t : List Fl) (d : Bs) : (∀ x ∈ (atT t d).2.2, okLn 16384 x) ∧ (atT t d).2.2.length ≤ 16385 := by
  unfold atT
  split
  · exact ⟨fun x hx => (by cases hx), Nat.zero_le _⟩
  · exact parseV_ok _
/-- Is a line with this glob asked for? -/
def askB (home base d g : Bs) : Bool := d == home && matchB g base
/-- Directory by directory: the error, or the names. -/
def ofStep (t : List Fl) (home base : Bs) : List Bs → List Bs → Int × List Bs
  | [], K => (0, K)
  | d :: ds, K => if (atT t d).1 = 0 then (if (atT t d).2.1 = true then (0, gatherS K (atT t d).2.2 (askB home base d)) else ofStep t home base ds (gatherS K (atT t d).2.2 (askB home base d))) else ((atT t d).1, [])
def ofT (t : List Fl) (s : Bs) : Int × List Bs := if rightB s then ofStep t (dirL s) (baseL s) (ups (dirL s)) [] else (4, [])
theorem ofStep_rising (t : List Fl) (home base : Bs) : ∀ (ds K : List Bs), risingB K → risingB (ofStep t home base ds K).2
  | [], K, h => h
  | d :: ds, K, h => by
    unfold ofStep
    split
    · split
      · exact gatherS_rising _ _ _ h
      · exact ofStep_rising t home base ds _ (gatherS_rising _ _ _ h)
    · exact List.Pairwise.nil
end Go.Proofs.YtkihgbggndikpaaGreatDoor
