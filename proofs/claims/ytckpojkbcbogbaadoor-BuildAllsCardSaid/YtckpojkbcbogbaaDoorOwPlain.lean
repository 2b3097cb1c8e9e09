/-
  Plain functions for layer 8 (owners): names, words, lines, what a text tells, what is printed, whose a file is. No program is named here.
-/
import Derived.Test.YtckpojkbcbogbaaDoorTPlain
namespace Go.Proofs.YtckpojkbcbogbaaDoor
open Go

def plainN (c : UInt8) : Bool := (97 ≤ c && c ≤ 122) || (48 ≤ c && c ≤ 57) || c == 45
/-- May it be a name? -/
def namedB (s : Bs) : Bool := decide (0 < s.length) && decide (s.length ≤ 20) && s.all plainN
/-- A line without its remark; its words. -/
def cutR (l : Bs) : Bs := l.takeWhile (fun c => c != 35)
def wordsL (l : Bs) : List Bs := (splitL 32 (cutR l)).filter (fun p => !p.isEmpty)
def setW : Bs := [115, 101, 116]
def nopW : Bs := [110, 111, 112, 97, 114, 101, 110, 116]
def perW : Bs := [112, 101, 114, 45, 102, 105, 108, 101]
def ownW : Bs := [79, 87, 78, 69, 82, 83]
def isNopL (ws : List Bs) : Bool := ws == [setW, nopW]
def isGlobL (s : Bs) : Bool := globB s && !s.contains 47
def isPerL (ws : List Bs) : Bool := decide (2 < ws.length) && (ws.getD 0 [] == perW && (isGlobL (ws.getD 1 []) && (ws.drop 2).all namedB))
def isNameL (ws : List Bs) : Bool := decide (ws.length = 1) && namedB (ws.getD 0 [])

/-- A line: its glob, its owners; what a text tells. -/
abbrev Ln := Bs × List Bs
abbrev Ow := Bool × List Ln
def kindL (ws : List Bs) : Nat := if ws.isEmpty then 0 else if isNopL ws then 1 else if isPerL ws then 2 else if isNameL ws then 3 else 4
def tellK (o : Ow) (ws : List Bs) : Nat → Option Ow
  | 0 => some o
  | 1 => some (true, o.2)
  | 2 => some (o.1, o.2 ++ [(ws.getD 1 [], ws.drop 2)])
  | 3 => some (o.1, o.2 ++ [([], ws)])
  | _ => none
def tellL (o : Ow) (ws : List Bs) : Option Ow := tellK o ws (kindL ws)
def emptyO : Ow := (false, [])
def parseL (ls : List Bs) : Option Ow := ls.foldl (fun o l => o.bind (tellL · (wordsL l))) (some emptyO)
theorem parseL_nil : parseL [] = some emptyO := rfl
theorem parseL_snoc (ls : List Bs) (l : Bs) : parseL (ls ++ [l]) = (parseL ls).bind (tellL · (wordsL l)) := by simp [parseL]
theorem parseL_none (ls ms : List Bs) (h : parseL ls = none) : parseL (ls ++ ms) = none := by
  unfold parseL at h ⊢
  rw [List.foldl_append, h]
  induction ms with
  | nil => rfl
  | cons q r ih => simpa using ih
theorem parseL_take (ls : List Bs) (k : Nat) (h : parseL (ls.take k) = none) : parseL ls = none := by
  have := parseL_none _ (ls.drop k) h
  rwa [List.take_append_drop] at this
/-- What a text is parsed as: the error, what it tells. -/
def parseV (s : Bs) : Int × Ow := if 16384 < s.length then (3, emptyO) else match parseL (splitL 10 s) with
  | none => (11, emptyO)
  | some o => (0, o)

/-- A text, where texts rise, each once. -/
def addS : List Bs → Bs → List Bs
  | [], s => [s]
  | x :: r, s => if ltB x s then x :: addS r s else if x == s then x :: r else s :: x :: r
def gatherS (l : List Bs) (ls : List Ln) (p : Bs → Bool) : List Bs := ls.foldl (fun l x => if x.1.isEmpty || p x.1 then x.2.foldl addS l else l) l

/-- Rising, each once. -/
def risingB (l : List Bs) : Prop := l.Pairwise (fun a b => ltB a b = true)
theorem addS_mem (s : Bs) : ∀ (l : List Bs) (x : Bs), x ∈ addS l s ↔ x = s ∨ x ∈ l
  | [], x => by simp [addS]
  | y :: r, x => by
    unfold addS
    split
    · rw [List.mem_cons, addS_mem s r x, List.mem_cons]
      constructor
      · rintro (h | h | h)
        · exact .inr (.inl h)
        · exact .inl h
        · exact .inr (.inr h)
      · rintro (h | h | h)
        · exact .inr (.inl h)
        · exact .inl h
        · exact .inr (.inr h)
    · split
      · rename_i h
        obtain rfl : y = s := by simpa using h
        simp
      · simp
theorem addS_rising (s : Bs) : ∀ l : List Bs, risingB l → risingB (addS l s)
  | [], _ => List.pairwise_singleton _ _
  | y :: r, h => by
    have h1 := List.pairwise_cons.1 h
    unfold addS
    split
    · rename_i hy
      refine List.pairwise_cons.2 ⟨fun z hz => ?_, addS_rising s r h1.2⟩
      rcases (addS_mem s r z).1 hz with rfl | hz
      · exact hy
      · exact h1.1 z hz
    · split
      · exact h
      · rename_i hy hn
        have hlt : ltB s y = true := by
          cases e : ltB s y with
          | true => rfl
          | false => exact absurd (ltB_tri y s (by simpa using hy) e) (by simpa using hn)
        refine List.pairwise_cons.2 ⟨fun z hz => ?_, h⟩
        rcases List.mem_cons.1 hz with rfl | hz
        · exact hlt
        · exact ltB_trans _ _ _ hlt (h1.1 z hz)
theorem addsS_rising (m : List Bs) : ∀ l : List Bs, risingB l → risingB (m.foldl addS l) := by
  induction m with
  | nil => intro l h; exact h
  | cons x r ih => intro l h; exact ih _ (addS_rising x l h)
theorem addsS_mem (m : List Bs) : ∀ (l : List Bs) (x : Bs), x ∈ m.foldl addS l ↔ x ∈ m ∨ x ∈ l := by
  induction m with
  | nil => intro l x; simp
  | cons y r ih =>
    intro l x
    rw [List.foldl_cons, ih, addS_mem, List.mem_cons]
    constructor
    · rintro (h | h | h)
      · exact .inl (.inr h)
      · exact .inl (.inl h)
      · exact .inr h
    · rintro ((h | h) | h)
      · exact .inr (.inl h)
      · exact .inl h
      · exact .inr (.inr h)
theorem gatherS_rising (p : Bs → Bool) (ls : List Ln) : ∀ l : List Bs, risingB l → risingB (gatherS l ls p) := by
  unfold gatherS
  induction ls with
  | nil => intro l h; exact h
  | cons x r ih =>
    intro l h
    rw [List.foldl_cons]
    refine ih _ ?_
    split
    · exact addsS_rising _ _ h
    · exact h
theorem gatherS_mem (p : Bs → Bool) (ls : List Ln) : ∀ (l : List Bs) (x : Bs), x ∈ gatherS l ls p ↔ (∃ y ∈ ls, (y.1.isEmpty || p y.1) = true ∧ x ∈ y.2) ∨ x ∈ l := by
  unfold gatherS
  induction ls with
  | nil => intro l x; simp
  | cons y r ih =>
    intro l x
    rw [List.foldl_cons, ih]
    by_cases h : (y.1.isEmpty || p y.1) = true
    · rw [if_pos h, addsS_mem]
      constructor
      · rintro (⟨z, hz, h1⟩ | h1 | h1)
        · exact .inl ⟨z, by simp [hz], h1⟩
        · exact .inl ⟨y, by simp, h, h1⟩
        · exact .inr h1
      · rintro (⟨z, hz, h1, h2⟩ | h1)
        · rcases List.mem_cons.1 hz with rfl | hz
          · exact .inr (.inl h2)
          · exact .inl ⟨z, hz, h1, h2⟩
        · exact .inr (.inr h1)
    · rw [if_neg h]
      constructor
      · rintro (⟨z, hz, h1⟩ | h1)
        · exact .inl ⟨z, by simp [hz], h1⟩
        · exact .inr h1
      · rintro (⟨z, hz, h1, h2⟩ | h1)
        · rcases List.mem_cons.1 hz with rfl | hz
          · exact absurd h1 h
          · exact .inl ⟨z, hz, h1, h2⟩
        · exact .inr h1
/-- Two rows that rise, and have the same, are the same. -/
theorem rising_ext : ∀ (a b : List Bs), risingB a → risingB b → (∀ x, x ∈ a ↔ x ∈ b) → a = b
  | [], [], _, _, _ => rfl
  | [], y :: b, _, _, h => absurd ((h y).2 (by simp)) (by simp)
  | x :: a, [], _, _, h => absurd ((h x).1 (by simp)) (by simp)
  | x :: a, y :: b, ha, hb, h => by
    have h1 := List.pairwise_cons.1 ha
    have h2 := List.pairwise_cons.1 hb
    have hxy : x = y := by
      rcases List.mem_cons.1 ((h x).1 (by simp)) with e | hx
      · exact e
      · rcases List.mem_cons.1 ((h y).2 (by simp)) with e | hy
        · exact e.symm
        · have := ltB_asymm _ _ (h1.1 y hy)
          rw [h2.1 x hx] at this; cases this
    subst hxy
    refine congrArg (x :: ·) (rising_ext a b h1.2 h2.2 fun z => ?_)
    constructor
    · intro hz
      rcases List.mem_cons.1 ((h z).1 (by simp [hz])) with rfl | hz2
      · have := h1.1 _ hz; rw [ltB_irrefl] at this; cases this
      · exact hz2
    · intro hz
      rcases List.mem_cons.1 ((h z).2 (by simp [hz])) with rfl | hz2
      · have := h2.1 _ hz; rw [ltB_irrefl] at this; cases this
      · exact hz2

/-- What is printed. -/
def lineP (x : Ln) : Bs := if x.1.isEmpty then x.2.flatMap (fun n => n ++ [10]) else perW ++ 32 :: x.1 ++ x.2.flatMap (fun n => 32 :: n) ++ [10]
def printO (o : Ow) : Bs := (if o.1 then setW ++ 32 :: nopW ++ [10] else []) ++ o.2.flatMap lineP
/-- How many bytes there are. -/
def longLn (x : Ln) : Nat := 1 + x.1.length + (x.2.map (fun n => 1 + n.length)).sum
def longO (o : Ow) : Nat := (o.2.map longLn).sum
end Go.Proofs.YtckpojkbcbogbaaDoor
