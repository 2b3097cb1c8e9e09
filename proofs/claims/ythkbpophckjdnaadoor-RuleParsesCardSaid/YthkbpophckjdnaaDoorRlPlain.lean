/-
  Plain functions for layer 11 (rule): tokens, texts as words, rules, lines, what a text tells, what is printed; and what holds of them. No program is named here.
-/
import Derived.Test.YthkbpophckjdnaaDoorPlain
namespace Go.Proofs.YthkbpophckjdnaaDoor
open Go

def signL (c : UInt8) : Bool := (97 ≤ c && c ≤ 122) || (65 ≤ c && c ≤ 90) || (48 ≤ c && c ≤ 57) || c == 95
def tokenL (s : Bs) : Bool := !s.isEmpty && s.all signL
def selfL (c : UInt8) : Bool := 33 ≤ c && c ≤ 126 && c != 37
def digL (n : UInt8) : UInt8 := if n < 10 then 48 + n else 87 + n
def qb (c : UInt8) : Bs := if selfL c then [c] else [37, digL (c / 16), digL (c % 16)]
def quoteB (s : Bs) : Bs := s.flatMap qb
def quoteL (s : Bs) : Bs := if s.isEmpty then [37] else quoteB s
/-- Is it a digit, and of what? -/
def isHexL (c : UInt8) : Bool := (48 ≤ c && c ≤ 57) || (97 ≤ c && c ≤ 102)
def hexL (c : UInt8) : UInt8 := if c ≤ 57 then c - 48 else c - 87
def escL (a b c : UInt8) : Bool := a == 37 && isHexL b && isHexL c
def decU : Bs → Bs
  | [] => []
  | [a] => [a]
  | [a, b] => [a, b]
  | a :: b :: c :: r => if escL a b c then (16 * hexL b + hexL c) :: decU r else a :: decU (b :: c :: r)
def unquoteL (s : Bs) : Option Bs := if s == [37] then some [] else if quoteL (decU s) == s then some (decU s) else none

theorem dig_hex : ∀ n : Fin 256, let c := UInt8.ofNat n.val; isHexL (digL (c / 16)) = true ∧ isHexL (digL (c % 16)) = true ∧ 16 * hexL (digL (c / 16)) + hexL (digL (c % 16)) = c := by decide +kernel
theorem u8_all {p : UInt8 → Prop} (h : ∀ n : Fin 256, p (UInt8.ofNat n.val)) (c : UInt8) : p c := by
  have := h ⟨c.toNat, c.toNat_lt⟩
  simpa using this
theorem esc_q (c : UInt8) : escL 37 (digL (c / 16)) (digL (c % 16)) = true ∧ 16 * hexL (digL (c / 16)) + hexL (digL (c % 16)) = c := by
  have h := u8_all (p := fun c => isHexL (digL (c / 16)) = true ∧ isHexL (digL (c % 16)) = true ∧ 16 * hexL (digL (c / 16)) + hexL (digL (c % 16)) = c) dig_hex c
  refine ⟨?_, h.2.2⟩
  unfold escL; rw [h.1, h.2.1]; rfl
theorem self_ne {c : UInt8} (h : selfL c = true) : (c == 37) = false := by
  unfold selfL at h
  simp only [Bool.and_eq_true, bne_iff_ne] at h
  exact beq_eq_false_iff_ne.2 h.2
theorem decU_self {c : UInt8} (h : (c == 37) = false) (r : Bs) : decU (c :: r) = c :: decU r := by
  match r with
  | [] => rfl
  | [b] => rfl
  | b :: d :: r =>
    rw [decU, escL, h]
    simp only [Bool.false_and, Bool.false_eq_true, if_false]
theorem decU_quoteB : ∀ s : Bs, decU (quoteB s) = s
  | [] => rfl
  | c :: r => by
    have ih := decU_quoteB r
    unfold quoteB at ih ⊢
    rw [List.flatMap_cons]
    unfold qb
    cases h : selfL c with
    | true =>
      rw [if_pos rfl, List.singleton_append, decU_self (self_ne h)]
      exact congrArg _ ih
    | false =>
      rw [if_neg (by simp)]
      have hq := esc_q c
      show decU (37 :: digL (c / 16) :: digL (c % 16) :: r.flatMap qb) = _
      rw [decU, if_pos hq.1, hq.2]
      exact congrArg _ ih
theorem qb_ne (c : UInt8) : qb c ≠ [] := by unfold qb; split <;> simp
theorem quoteB_ne {s : Bs} (h : s.isEmpty = false) : quoteB s ≠ [] ∧ quoteB s ≠ [37] := by
  match s, h with
  | c :: r, _ =>
    unfold quoteB
    rw [List.flatMap_cons]
    unfold qb
    cases h : selfL c with
    | true =>
      rw [if_pos rfl]
      refine ⟨by simp, fun e => ?_⟩
      simp only [List.cons_append, List.nil_append, List.cons.injEq] at e
      have := self_ne h
      rw [e.1] at this
      cases this
    | false =>
      rw [if_neg (by simp)]
      refine ⟨by simp, fun e => ?_⟩
      have := congrArg List.length e
      simp at this
theorem quoteL_ne (s : Bs) : quoteL s ≠ [] := by
  unfold quoteL
  split
  · simp
  · rename_i h
    exact (quoteB_ne (by cases e : s.isEmpty with
      | true => exact absurd e h
      | false => rfl)).1
theorem unquote_quote (s : Bs) : unquoteL (quoteL s) = some s := by
  cases h : s.isEmpty with
  | true =>
    obtain rfl : s = [] := by simpa using h
    rfl
  | false =>
    have hn := (quoteB_ne h).2
    have e : quoteL s = quoteB s := by unfold quoteL; rw [h, if_neg (by simp)]
    unfold unquoteL
    rw [e, if_neg (by simpa using hn), decU_quoteB, e]
    simp
theorem unquote_some {q s : Bs} (h : unquoteL q = some s) : q = quoteL s := by
  unfold unquoteL at h
  split at h
  · rename_i e
    cases h
    exact eq_of_beq e
  · split at h
    · rename_i e
      cases h
      exact (eq_of_beq e).symm
    · cases h
theorem quoteL_inj {s t : Bs} (h : quoteL s = quoteL t) : s = t := by
  have h1 := unquote_quote s
  rw [h, unquote_quote] at h1
  cases h1; rfl
def seenL (c : UInt8) : Bool := 33 ≤ c && c ≤ 126
theorem qb_seen (c : UInt8) : (qb c).all seenL = true := by
  refine u8_all (p := fun c => (qb c).all seenL = true) ?_ c
  decide +kernel
theorem quoteL_seen (s : Bs) : ∀ c ∈ quoteL s, seenL c = true := by
  unfold quoteL
  split
  · intro c hc
    obtain rfl : c = 37 := by simpa using hc
    rfl
  · intro c hc
    unfold quoteB at hc
    obtain ⟨b, _, hb⟩ := List.mem_flatMap.1 hc
    exact List.all_eq_true.1 (qb_seen b) c hb
theorem qb_len (c : UInt8) : (qb c).length ≤ 3 := by unfold qb; split <;> simp
theorem quoteB_len : ∀ s : Bs, (quoteB s).length ≤ 3 * s.length
  | [] => Nat.le_refl _
  | c :: r => by
    have ih := quoteB_len r
    have := qb_len c
    unfold quoteB at ih ⊢
    rw [List.flatMap_cons, List.length_append, List.length_cons]
    omega
theorem quoteL_len (s : Bs) : (quoteL s).length ≤ 3 * s.length + 1 := by
  have := quoteB_len s
  unfold quoteL
  split
  · simp
  · omega

/-- A rule: its kind, its glob, its texts. -/
structure Ru where
  k : Int
  g : Bs
  o : Bs
  n : Bs
def feedsL (s : Bs) : Bool := s.contains 10
/-- May it be? -/
def rightU (r : Ru) : Bool := globB r.g && (decide (r.o.length ≤ 100) && decide (r.n.length ≤ 100)) &&
  (if r.k = 1 then tokenL r.o else if r.k = 2 then !feedsL r.o && !feedsL r.n else if r.k = 3 then r.n.isEmpty && !feedsL r.o else if r.k = 4 then rightB r.o && rightB r.n else if r.k = 5 then r.o.isEmpty && r.n.isEmpty else false)
def replW : Bs := [114, 101, 112, 108, 97, 99, 101]
def insW : Bs := [105, 110, 115, 101, 114, 116]
def strW : Bs := [115, 116, 114, 105, 107, 101]
def renW : Bs := [114, 101, 110, 97, 109, 101]
def remW : Bs := [114, 101, 109, 111, 118, 101]
/-- The kind that a word tells; 0: none. -/
def kindW (w : Bs) : Nat := if w == replW then 1 else if w == insW then 2 else if w == strW then 3 else if w == renW then 4 else if w == remW then 5 else 0
def wordK (k : Int) : Bs := if k = 1 then replW else if k = 2 then insW else if k = 3 then strW else if k = 4 then renW else if k = 5 then remW else []
/-- How many texts a kind has. -/
def textsN (k : Nat) : Nat := if k = 3 then 1 else if k = 5 then 0 else 2
/-- The text that stands there; none: none does. -/
def textAt (ws : List Bs) (m i : Nat) : Option Bs := if i < m then unquoteL (ws.getD i []) else some []
/-- A line's words, ahead of being asked whether it may be. -/
def readU (k : Nat) (g : Bs) (q : List Bs) : Option Ru := (textAt q (textsN k) 0).bind fun o => (textAt q (textsN k) 1).bind fun n => if rightU ⟨k, g, o, n⟩ then some ⟨k, g, o, n⟩ else none
def oneU (ws : List Bs) : Option Ru := if kindW (ws.getD 0 []) = 0 then none else if ws.length = 2 + textsN (kindW (ws.getD 0 [])) then readU (kindW (ws.getD 0 [])) (ws.getD 1 []) (ws.drop 2) else none
def stepU (o : Option (List Ru)) (l : Bs) : Option (List Ru) := o.bind fun rs => if l.isEmpty then some rs else (oneU (splitL 32 l)).map (fun r => rs ++ [r])
def linesU (ls : List Bs) : Option (List Ru) := ls.foldl stepU (some [])
def parseU (s : Bs) : Int × List Ru := if 16384 < s.length then (3, []) else match linesU (splitL 10 s) with
  | none => (11, [])
  | some l => if 50 < l.length then (3, []) else (0, l)
/-- A rule's line, without what ends it; its texts. -/
def tailU (r : Ru) : Bs := (if r.k = 5 then [] else 32 :: quoteL r.o) ++ (if r.k = 5 ∨ r.k = 3 then [] else 32 :: quoteL r.n)
def bodyU (r : Ru) : Bs := wordK r.k ++ 32 :: (r.g ++ tailU r)
def lineU (r : Ru) : Bs := bodyU r ++ [10]
def textU (l : List Ru) : Bs := l.flatMap lineU
def printU (l : List Ru) : Int × Bs := if l.all rightU then (if 50 < l.length then (3, []) else (0, textU l)) else (2, [])

theorem snoc_ind {α : Type} {p : List α → Prop} (h0 : p []) (h1 : ∀ l x, p l → p (l ++ [x])) (l : List α) : p l := by
  have key : ∀ m : List α, p m.reverse := by
    intro m
    induction m with
    | nil => exact h0
    | cons x r ih => rw [List.reverse_cons]; exact h1 _ _ ih
  have := key l.reverse
  rwa [List.reverse_reverse] at this
theorem linesU_fold (a b : List Bs) : linesU (a ++ b) = b.foldl stepU (linesU a) := by unfold linesU; rw [List.foldl_append]
theorem linesU_snoc (a : List Bs) (l : Bs) : linesU (a ++ [l]) = stepU (linesU a) l := by rw [linesU_fold]; rfl
theorem fold_none (b : List Bs) : b.foldl stepU none = none := by
  induction b with
  | nil => rfl
  | cons x r ih => simpa [stepU] using ih
theorem linesU_none (a b : List Bs) (h : linesU a = none) : linesU (a ++ b) = none := by rw [linesU_fold, h, fold_none]
theorem linesU_take (a : List Bs) (k : Nat) (h : linesU (a.take k) = none) : linesU a = none := by
  have := linesU_none _ (a.drop k) h
  rwa [List.take_append_drop] at this
theorem fold_some (b : List Bs) : ∀ (a : List Ru), b.foldl stepU (some a) = (b.foldl stepU (some [])).map (a ++ ·) := by
  refine snoc_ind (p := fun b => ∀ a : List Ru, b.foldl stepU (some a) = (b.foldl stepU (some [])).map (a ++ ·)) ?_ ?_ b
  · intro a; simp
  · intro b x ih a
    rw [List.foldl_append, List.foldl_append, ih a]
    cases b.foldl stepU (some []) with
    | none => rfl
    | some l =>
      simp only [List.foldl_cons, List.foldl_nil, stepU, Option.map_some, Option.bind_some]
      split
      · rfl
      · cases oneU (splitL 32 x) <;> simp
theorem linesU_append (a b : List Bs) : linesU (a ++ b) = (linesU a).bind fun l => (linesU b).map (l ++ ·) := by
  rw [linesU_fold]
  cases linesU a with
  | none => exact fold_none b
  | some l => exact fold_some b l

theorem splitR_hit (c b : UInt8) (r : Bs) (h : (b == c) = true) : splitL c (b :: r) = [] :: splitL c r := by
  rw [splitL]; simp [h]
theorem splitR_miss (c b : UInt8) (r p : Bs) (ps : List Bs) (h : (b == c) = false) (e : splitL c r = p :: ps) :
    splitL c (b :: r) = (b :: p) :: ps := by
  rw [splitL, h, if_neg (by simp), e]
theorem splitR_cat (c : UInt8) : ∀ (a b : Bs), splitL c (a ++ c :: b) = splitL c a ++ splitL c b
  | [], b => by rw [List.nil_append, splitR_hit c c b (by simp)]; rfl
  | x :: a, b => by
    have ih := splitR_cat c a b
    rw [List.cons_append]
    cases h : x == c with
    | true => rw [splitR_hit c x _ h, splitR_hit c x _ h, ih]; rfl
    | false =>
      obtain ⟨p, ps, e⟩ : ∃ p ps, splitL c a = p :: ps := by
        cases e : splitL c a with
        | nil => exact absurd e (splitL_ne c a)
        | cons p ps => exact ⟨p, ps, rfl⟩
      rw [splitR_miss c x a p ps h e, splitR_miss c x _ p (ps ++ splitL c b) h (by rw [ih, e]; rfl)]
      rfl
theorem splitR_none (c : UInt8) : ∀ a : Bs, (∀ x ∈ a, (x == c) = false) → splitL c a = [a]
  | [], _ => rfl
  | x :: a, h => by
    rw [splitR_miss c x a a [] (h x (by simp)) (splitR_none c a fun y hy => h y (by simp [hy]))]
/-- The words of a line: joined they are the line. -/
def joinW (c : UInt8) : List Bs → Bs
  | [] => []
  | [w] => w
  | w :: v :: r => w ++ c :: joinW c (v :: r)
theorem joinW_split (c : UInt8) : ∀ s : Bs, joinW c (splitL c s) = s
  | [] => rfl
  | x :: a => by
    have ih := joinW_split c a
    obtain ⟨p, ps, e⟩ : ∃ p ps, splitL c a = p :: ps := by
      cases e : splitL c a with
      | nil => exact absurd e (splitL_ne c a)
      | cons p ps => exact ⟨p, ps, rfl⟩
    cases h : x == c with
    | true =>
      obtain rfl : x = c := eq_of_beq h
      rw [splitR_hit x x a (by simp), e]
      rw [e] at ih
      show [] ++ x :: joinW x (p :: ps) = _
      rw [ih]; rfl
    | false =>
      rw [splitR_miss c x a p ps h e]
      rw [e] at ih
      cases ps with
      | nil => show x :: p = _; rw [show p = a from ih]
      | cons q qs =>
        show x :: p ++ c :: joinW c (q :: qs) = _
        rw [List.cons_append]
        rw [show p ++ c :: joinW c (q :: qs) = a from ih]

theorem globB_byte {g : Bs} (h : globB g = true) : ∀ c ∈ g, c = 47 ∨ okB [42, 63] c = true := by
  unfold globB partsB at h
  simp only [Bool.and_eq_true, decide_eq_true_eq] at h
  have h2 := List.all_eq_true.1 h.2
  intro c hc
  have key : ∀ (s : Bs), (∀ p ∈ splitL 47 s, patB p = true) → ∀ c ∈ s, c = 47 ∨ okB [42, 63] c = true := by
    intro s
    induction s with
    | nil => intro _ c hc; simp at hc
    | cons x a ih =>
      intro hp c hc
      obtain ⟨p, ps, e⟩ : ∃ p ps, splitL 47 a = p :: ps := by
        cases e : splitL 47 a with
        | nil => exact absurd e (splitL_ne 47 a)
        | cons p ps => exact ⟨p, ps, rfl⟩
      have pats : ∀ (y : UInt8) (p : Bs), patB (y :: p) = true → okB [42, 63] y = true ∧ ∀ z ∈ p, okB [42, 63] z = true := by
        intro y p hy
        unfold patB at hy
        rw [Bool.or_eq_true] at hy
        rcases hy with hy | hy
        · have := eq_of_beq hy
          cases this
          exact ⟨rfl, fun z hz => by obtain rfl : z = 42 := by simpa using hz
                                     rfl⟩
        · unfold speltB at hy
          simp only [Bool.and_eq_true, List.all_cons] at hy
          exact ⟨hy.1.2.1, List.all_eq_true.1 hy.1.2.2⟩
      cases h : x == (47 : UInt8) with
      | true =>
        obtain rfl : x = 47 := eq_of_beq h
        rw [splitR_hit 47 47 a (by simp)] at hp
        rcases List.mem_cons.1 hc with rfl | hc
        · exact .inl rfl
        · exact ih (fun p hp' => hp p (by simp [hp'])) c hc
      | false =>
        rw [splitR_miss 47 x a p ps h e] at hp
        have h1 := pats x p (hp _ (by simp))
        rcases List.mem_cons.1 hc with rfl | hc
        · exact .inr h1.1
        · have hsub : c ∈ a → c = 47 ∨ okB [42, 63] c = true := by
            intro hca
            have hj := joinW_split 47 a
            rw [e] at hj
            rw [← hj] at hca
            cases ps with
            | nil => exact .inr (h1.2 c hca)
            | cons q qs =>
              have hca : c ∈ p ++ 47 :: joinW 47 (q :: qs) := hca
              rcases List.mem_append.1 hca with hca | hca
              · exact .inr (h1.2 c hca)
              · rcases List.mem_cons.1 hca with rfl | hca
                · exact .inl rfl
                · have tl : ∀ (qs : List Bs) (q : Bs), (∀ p ∈ q :: qs, patB p = true) → ∀ c ∈ joinW 47 (q :: qs), c = 47 ∨ okB [42, 63] c = true := by
                    intro qs
                    induction qs with
                    | nil =>
                      intro q hq c hc
                      have hc : c ∈ q := hc
                      match q, hc, hq with
                      | y :: q, hc, hq =>
                        have h2 := pats y q (hq _ (by simp))
                        rcases List.mem_cons.1 hc with rfl | hc
                        · exact .inr h2.1
                        · exact .inr (h2.2 c hc)
                    | cons q2 qs ih2 =>
                      intro q hq c hc
                      have hc : c ∈ q ++ 47 :: joinW 47 (q2 :: qs) := hc
                      rcases List.mem_append.1 hc with hc | hc
                      · match q, hc, hq with
                        | y :: q, hc, hq =>
                          have h2 := pats y q (hq _ (by simp))
                          rcases List.mem_cons.1 hc with rfl | hc
                          · exact .inr h2.1
                          · exact .inr (h2.2 c hc)
                      · rcases List.mem_cons.1 hc with rfl | hc
                        · exact .inl rfl
                        · exact ih2 q2 (fun p hp' => hq p (by simp [hp'])) c hc
                  exact tl qs q (fun p hp' => hp p (by simp only [List.mem_cons] at hp' ⊢; rcases hp' with h | h <;> simp [h])) c hca
          exact hsub hc
  exact key g h2 c hc
theorem glob_no {g : Bs} (h : globB g = true) : (∀ x ∈ g, (x == 32) = false) ∧ ∀ x ∈ g, (x == 10) = false := by
  constructor <;> intro x hx <;> rcases globB_byte h x hx with rfl | h2
  · rfl
  · cases e : x == 32 with
    | false => rfl
    | true => obtain rfl := eq_of_beq e; cases h2
  · rfl
  · cases e : x == 10 with
    | false => rfl
    | true => obtain rfl := eq_of_beq e; cases h2
theorem glob_len {g : Bs} (h : globB g = true) : g.length ≤ 100 := by
  unfold globB partsB at h
  simp only [Bool.and_eq_true, decide_eq_true_eq] at h
  exact h.1
theorem quote_no (s : Bs) : (∀ x ∈ quoteL s, (x == 32) = false) ∧ ∀ x ∈ quoteL s, (x == 10) = false := by
  constructor <;> intro x hx <;> have h2 := quoteL_seen s x hx
  · cases e : x == 32 with
    | false => rfl
    | true => obtain rfl := eq_of_beq e; cases h2
  · cases e : x == 10 with
    | false => rfl
    | true => obtain rfl := eq_of_beq e; cases h2

/-- What may be: of one of five kinds. -/
theorem right_kind {r : Ru} (h : rightU r = true) : globB r.g = true ∧ r.o.length ≤ 100 ∧ r.n.length ≤ 100 ∧ ∃ k : Nat, r.k = k ∧ 1 ≤ k ∧ k ≤ 5 ∧ (k = 3 → r.n = []) ∧ (k = 5 → r.o = [] ∧ r.n = []) := by
  unfold rightU at h
  simp only [Bool.and_eq_true, decide_eq_true_eq] at h
  refine ⟨h.1.1, h.1.2.1, h.1.2.2, ?_⟩
  have h2 := h.2
  by_cases e1 : r.k = 1
  · exact ⟨1, e1, by omega, by omega, by omega, by omega⟩
  by_cases e2 : r.k = 2
  · exact ⟨2, e2, by omega, by omega, by omega, by omega⟩
  by_cases e3 : r.k = 3
  · rw [if_neg e1, if_neg e2, if_pos e3, Bool.and_eq_true] at h2
    exact ⟨3, e3, by omega, by omega, fun _ => by simpa using h2.1, by omega⟩
  by_cases e4 : r.k = 4
  · exact ⟨4, e4, by omega, by omega, by omega, by omega⟩
  by_cases e5 : r.k = 5
  · rw [if_neg e1, if_neg e2, if_neg e3, if_neg e4, if_pos e5, Bool.and_eq_true] at h2
    exact ⟨5, e5, by omega, by omega, by omega, fun _ => ⟨by simpa using h2.1, by simpa using h2.2⟩⟩
  · rw [if_neg e1, if_neg e2, if_neg e3, if_neg e4, if_neg e5] at h2
    cases h2
theorem word_no (k : Int) : (∀ x ∈ wordK k, (x == 32) = false) ∧ ∀ x ∈ wordK k, (x == 10) = false := by
  unfold wordK
  (repeat' split) <;> decide
theorem kind_word {k : Nat} (h1 : 1 ≤ k) (h5 : k ≤ 5) : kindW (wordK (k : Int)) = k := by
  match k, h1, h5 with
  | 1, _, _ => rfl
  | 2, _, _ => rfl
  | 3, _, _ => rfl
  | 4, _, _ => rfl
  | 5, _, _ => rfl
theorem word_kind {w : Bs} {k : Nat} (h : kindW w = k) (hk : k ≠ 0) : w = wordK (k : Int) ∧ 1 ≤ k ∧ k ≤ 5 := by
  unfold kindW at h
  (repeat' split at h) <;> rename_i e <;> subst h
  all_goals first
    | exact absurd rfl hk
    | exact ⟨eq_of_beq e, by decide, by decide⟩
def wordsU (r : Ru) : List Bs := wordK r.k :: r.g :: ((if r.k = 5 then [] else [quoteL r.o]) ++ (if r.k = 5 ∨ r.k = 3 then [] else [quoteL r.n]))
theorem body_words {r : Ru} (h : globB r.g = true) : splitL 32 (bodyU r) = wordsU r := by
  unfold bodyU tailU wordsU
  rw [splitR_cat, splitR_none 32 _ (word_no r.k).1]
  have q1 := splitR_none 32 _ (quote_no r.o).1
  have q2 := splitR_none 32 _ (quote_no r.n).1
  have g1 := splitR_none 32 _ (glob_no h).1
  by_cases e5 : r.k = 5
  · rw [if_pos e5, if_pos (.inl e5), if_pos e5, if_pos (.inl e5), List.append_nil, List.append_nil, g1]; rfl
  · rw [if_neg e5, if_neg e5]
    by_cases e3 : r.k = 3
    · rw [if_pos (.inr e3), if_pos (.inr e3), List.append_nil, List.append_nil, splitR_cat, g1, q1]; rfl
    · have e : r.g ++ (32 :: quoteL r.o ++ 32 :: quoteL r.n) = r.g ++ 32 :: (quoteL r.o ++ 32 :: quoteL r.n) := rfl
      rw [if_neg (by omega), if_neg (by omega), e, splitR_cat, g1, splitR_cat, q1, q2]; rfl
theorem body_feed {r : Ru} (h : globB r.g = true) : ∀ x ∈ bodyU r, (x == 10) = false := by
  intro x hx
  unfold bodyU tailU at hx
  have q1 := (quote_no r.o).2
  have q2 := (quote_no r.n).2
  rcases List.mem_append.1 hx with hx | hx
  · exact (word_no r.k).2 x hx
  · rcases List.mem_cons.1 hx with rfl | hx
    · rfl
    · rcases List.mem_append.1 hx with hx | hx
      · exact (glob_no h).2 x hx
      · rcases List.mem_append.1 hx with hx | hx
        · split at hx
          · simp at hx
          · rcases List.mem_cons.1 hx with rfl | hx
            · rfl
            · exact q1 x hx
        · split at hx
          · simp at hx
          · rcases List.mem_cons.1 hx with rfl | hx
            · rfl
            · exact q2 x hx
theorem body_ne (r : Ru) : (bodyU r).isEmpty = false := by unfold bodyU; simp
theorem one_words {r : Ru} (h : rightU r = true) : oneU (wordsU r) = some r := by
  obtain ⟨_, _, _, k, hk, h1, h5, h3n, h5n⟩ := right_kind h
  obtain ⟨rk, rg, ro, rn⟩ := r
  subst hk
  unfold oneU wordsU
  simp only [List.getD_cons_zero, kind_word h1 h5, List.getD_cons_succ, List.drop_succ_cons, List.drop_zero]
  rw [if_neg (by omega)]
  unfold readU textAt
  match k, h1, h5 with
  | 1, _, _ => simpa [textsN, unquote_quote] using h
  | 2, _, _ => simpa [textsN, unquote_quote] using h
  | 3, _, _ =>
    obtain rfl : rn = [] := h3n rfl
    simpa [textsN, unquote_quote] using h
  | 4, _, _ => simpa [textsN, unquote_quote] using h
  | 5, _, _ =>
    obtain ⟨e1, e2⟩ := h5n rfl
    simp only at e1 e2
    subst e1; subst e2
    simpa [textsN] using h
theorem one_some {ws : List Bs} {r : Ru} (h : oneU ws = some r) : rightU r = true ∧ ws = wordsU r := by
  unfold oneU at h
  split at h
  · cases h
  rename_i hk
  split at h
  · rename_i hl
    generalize hkk : kindW (ws.getD 0 []) = k at *
    obtain ⟨hw, h1, h5⟩ := word_kind hkk hk
    unfold readU at h
    match ws, hl, hw with
    | [w], hl, _ => simp at hl; omega
    | w :: g :: q, hl, hw =>
      simp only [List.getD_cons_zero, List.getD_cons_succ, List.drop_succ_cons, List.drop_zero, List.length_cons] at h hl hw
      subst hw
      have hq : q.length = textsN k := by omega
      cases eo : textAt q (textsN k) 0 with
      | none => rw [eo] at h; cases h
      | some o =>
        cases en : textAt q (textsN k) 1 with
        | none => rw [eo, en] at h; cases h
        | some n =>
          rw [eo, en] at h
          simp only [Option.bind_some] at h
          split at h
          · rename_i hr
            cases h
            refine ⟨hr, ?_⟩
            unfold textAt at eo en
            unfold wordsU
            match k, h1, h5 with
            | 1, _, _ =>
              match q, hq with
              | [a, b], _ =>
                rw [show a = quoteL o from unquote_some (by simpa [textsN] using eo), show b = quoteL n from unquote_some (by simpa [textsN] using en)]; rfl
            | 2, _, _ =>
              match q, hq with
              | [a, b], _ =>
                rw [show a = quoteL o from unquote_some (by simpa [textsN] using eo), show b = quoteL n from unquote_some (by simpa [textsN] using en)]; rfl
            | 3, _, _ =>
              match q, hq with
              | [a], _ =>
                rw [show a = quoteL o from unquote_some (by simpa [textsN] using eo)]; rfl
            | 4, _, _ =>
              match q, hq with
              | [a, b], _ =>
                rw [show a = quoteL o from unquote_some (by simpa [textsN] using eo), show b = quoteL n from unquote_some (by simpa [textsN] using en)]; rfl
            | 5, _, _ =>
              match q, hq with
              | [], _ => rfl
          · cases h
  · cases h
theorem words_body {r : Ru} {s : Bs} (hg : globB r.g = true) (h : splitL 32 s = wordsU r) : s = bodyU r := by
  rw [← joinW_split 32 s, h, ← body_words hg, joinW_split]
theorem step_body (o : List Ru) {r : Ru} (h : rightU r = true) : stepU (some o) (bodyU r) = some (o ++ [r]) := by
  unfold stepU
  rw [Option.bind_some, body_ne, if_neg (by simp), body_words (right_kind h).1, one_words h]
  rfl
/-- Lines ahead of a text. -/
theorem lines_text : ∀ (l : List Ru) (s : Bs), (∀ r ∈ l, rightU r = true) → linesU (splitL 10 (textU l ++ s)) = (linesU (splitL 10 s)).map (l ++ ·)
  | [], s, _ => by
    show linesU (splitL 10 s) = _
    cases linesU (splitL 10 s) <;> rfl
  | r :: l, s, h => by
    have ih := lines_text l s fun x hx => h x (by simp [hx])
    have hr := h r (by simp)
    have e : textU (r :: l) ++ s = bodyU r ++ 10 :: (textU l ++ s) := by
      unfold textU lineU
      rw [List.flatMap_cons]; simp
    rw [e, splitR_cat, splitR_none 10 _ (body_feed (right_kind hr).1), linesU_append, ih]
    rw [show linesU [bodyU r] = some [r] from by
      show stepU (some []) (bodyU r) = _
      rw [step_body [] hr]; rfl]
    cases linesU (splitL 10 s) <;> rfl
theorem lines_feed (s : Bs) : linesU (splitL 10 (10 :: s)) = linesU (splitL 10 s) := by
  rw [splitR_hit 10 10 s (by simp)]
  rw [show ([] : Bs) :: splitL 10 s = [[]] ++ splitL 10 s from rfl, linesU_append]
  show (linesU (splitL 10 s)).map _ = _
  cases linesU (splitL 10 s) <;> rfl
theorem lines_end : linesU (splitL 10 []) = some [] := rfl
theorem parse_lines_text {l : List Ru} (h : ∀ r ∈ l, rightU r = true) : linesU (splitL 10 (textU l)) = some l := by
  have := lines_text l [] h
  rw [List.append_nil, lines_end] at this
  simpa using this
theorem print_ok {l : List Ru} (h : (printU l).1 = 0) : (∀ r ∈ l, rightU r = true) ∧ l.length ≤ 50 ∧ (printU l).2 = textU l := by
  unfold printU at h ⊢
  split at h
  · rename_i h1
    split at h
    · cases h
    · rename_i h2
      refine ⟨List.all_eq_true.1 h1, by omega, ?_⟩
      rw [if_pos h1, if_neg h2]
  · cases h
theorem print_of {l : List Ru} (h : ∀ r ∈ l, rightU r = true) (hl : l.length ≤ 50) : printU l = (0, textU l) := by
  unfold printU
  rw [if_pos (List.all_eq_true.2 h), if_neg (by omega)]
/-- What is printed is parsed. -/
theorem parse_print_u {l : List Ru} (h : (printU l).1 = 0) (hz : (printU l).2.length + 2 ≤ 16384) : parseU (10 :: ((printU l).2 ++ [10])) = (0, l) := by
  obtain ⟨h1, h2, h3⟩ := print_ok h
  rw [h3] at hz ⊢
  unfold parseU
  rw [if_neg (by simp; omega), lines_feed, lines_text l [10] h1, lines_feed, lines_end]
  simp only [Option.map_some, List.append_nil]
  rw [if_neg (by omega)]
theorem linesU_right (ls : List Bs) : ∀ {l : List Ru}, linesU ls = some l → ∀ r ∈ l, rightU r = true := by
  refine snoc_ind (p := fun ls => ∀ {l : List Ru}, linesU ls = some l → ∀ r ∈ l, rightU r = true) ?_ ?_ ls
  · intro l h r hr; cases h; cases hr
  · intro ls x ih l h r hr
    rw [linesU_snoc] at h
    cases e : linesU ls with
    | none => rw [e] at h; cases h
    | some m =>
      rw [e] at h
      unfold stepU at h
      rw [Option.bind_some] at h
      split at h
      · cases h; exact ih e r hr
      · cases e1 : oneU (splitL 32 x) with
        | none => rw [e1] at h; cases h
        | some q =>
          rw [e1] at h
          cases h
          rcases List.mem_append.1 hr with hr | hr
          · exact ih e r hr
          · obtain rfl : r = q := by simpa using hr
            exact (one_some e1).1
def lenU (ls : List Bs) : Nat := (ls.map (fun p => p.length + 1)).sum
theorem lenU_append (a b : List Bs) : lenU (a ++ b) = lenU a + lenU b := by simp [lenU]
theorem linesU_len (ls : List Bs) : ∀ {l : List Ru}, linesU ls = some l → (textU l).length ≤ lenU ls := by
  refine snoc_ind (p := fun ls => ∀ {l : List Ru}, linesU ls = some l → (textU l).length ≤ lenU ls) ?_ ?_ ls
  · intro l h; cases h; exact Nat.le_refl _
  · intro ls x ih l h
    rw [linesU_snoc] at h
    rw [lenU_append]
    cases e : linesU ls with
    | none => rw [e] at h; cases h
    | some m =>
      have hm := ih e
      rw [e] at h
      unfold stepU at h
      rw [Option.bind_some] at h
      split at h
      · cases h; omega
      · cases e1 : oneU (splitL 32 x) with
        | none => rw [e1] at h; cases h
        | some q =>
          rw [e1] at h
          cases h
          obtain ⟨h1, h2⟩ := one_some e1
          have hx := words_body (right_kind h1).1 h2
          have hq : (lineU q).length = x.length + 1 := by unfold lineU; rw [List.length_append, ← hx]; rfl
          unfold textU at hm ⊢
          rw [List.flatMap_append, List.length_append, List.flatMap_cons, List.flatMap_nil, List.append_nil, hq]
          show _ ≤ lenU ls + (x.length + 1 + 0)
          omega
theorem lenU_split (c : UInt8) (s : Bs) : lenU (splitL c s) = s.length + 1 := wide_splitL c s
/-- What is parsed is printed, and parsed again. -/
theorem print_parse {s : Bs} (h : (parseU s).1 = 0) (hs : s.length ≤ 1500) : (∀ r ∈ (parseU s).2, rightU r = true) ∧ printU (parseU s).2 = (0, textU (parseU s).2) ∧ (textU (parseU s).2).length ≤ 1501 ∧ parseU (textU (parseU s).2) = (0, (parseU s).2) := by
  unfold parseU at h
  rw [if_neg (by omega)] at h
  cases e : linesU (splitL 10 s) with
  | none => rw [e] at h; cases h
  | some l =>
    rw [e] at h
    simp only at h
    split at h
    · cases h
    rename_i hl
    have hp : parseU s = (0, l) := by
      unfold parseU
      rw [if_neg (by omega), e]
      simp only
      rw [if_neg hl]
    rw [hp]
    have h1 := linesU_right _ e
    have h2 := linesU_len _ e
    rw [lenU_split] at h2
    have hl2 : l.length ≤ 50 := Nat.le_of_not_lt hl
    refine ⟨h1, print_of h1 hl2, by simp only; omega, ?_⟩
    simp only
    unfold parseU
    rw [if_neg (by omega), parse_lines_text h1]
    simp only
    rw [if_neg hl]
theorem parse_bad {s : Bs} (h : (parseU s).1 ≠ 0) : (parseU s).2 = [] := by
  unfold parseU at h ⊢
  split
  · rfl
  · rename_i h1
    rw [if_neg h1] at h
    cases e : linesU (splitL 10 s) with
    | none => rfl
    | some l =>
      rw [e] at h
      simp only at h ⊢
      split
      · rfl
      · rename_i h2
        rw [if_neg h2] at h
        exact absurd rfl h
/-- Rules in two texts. -/
theorem parse_two {a b : List Ru} (ha : (printU a).1 = 0) (hb : (printU b).1 = 0) (hz : (printU a).2.length + (printU b).2.length ≤ 16384) :
    parseU ((printU a).2 ++ (printU b).2) = if 50 < (a ++ b).length then (3, []) else (0, a ++ b) := by
  obtain ⟨h1, h2, h3⟩ := print_ok ha
  obtain ⟨k1, k2, k3⟩ := print_ok hb
  rw [h3, k3] at hz ⊢
  unfold parseU
  rw [if_neg (by rw [List.length_append]; omega), lines_text a _ h1, parse_lines_text k1]
  rfl
/-- One line that is none. -/
theorem parse_odd {a b : List Ru} {odd : Bs} (ha : (printU a).1 = 0) (ho : linesU (splitL 10 odd) = none) (hz : ((printU a).2 ++ odd ++ 10 :: (printU b).2).length ≤ 16384) :
    parseU ((printU a).2 ++ odd ++ 10 :: (printU b).2) = (11, []) := by
  obtain ⟨h1, h2, h3⟩ := print_ok ha
  rw [h3] at hz ⊢
  unfold parseU
  rw [if_neg (by omega), List.append_assoc, lines_text a _ h1, splitR_cat, linesU_none _ _ ho]
  rfl
theorem bodyU_len {r : Ru} (_h : rightU r = true) : (lineU r).length ≤ 15 + r.g.length + 3 * (r.o.length + r.n.length) := by
  have h1 := quoteL_len r.o
  have h2 := quoteL_len r.n
  have hw : (wordK r.k).length ≤ 7 := by unfold wordK; (repeat' split) <;> decide
  unfold lineU bodyU tailU
  simp only [List.length_append, List.length_cons, List.length_nil]
  have e1 : ((if r.k = 5 then [] else 32 :: quoteL r.o) : Bs).length ≤ 3 * r.o.length + 2 := by split <;> simp <;> omega
  have e2 : ((if r.k = 5 ∨ r.k = 3 then [] else 32 :: quoteL r.n) : Bs).length ≤ 3 * r.n.length + 2 := by split <;> simp <;> omega
  omega
def longU (l : List Ru) : Nat := (l.map (fun r => 1 + r.g.length + r.o.length + r.n.length)).sum
theorem textU_len : ∀ (l : List Ru), (∀ r ∈ l, rightU r = true) → (textU l).length ≤ 15 * longU l
  | [], _ => Nat.le_refl _
  | r :: l, h => by
    have ih := textU_len l fun x hx => h x (by simp [hx])
    have h1 := bodyU_len (h r (by simp))
    unfold textU longU at ih ⊢
    rw [List.flatMap_cons, List.length_append, List.map_cons, List.sum_cons]
    omega
theorem token_cat {a b : Bs} (ha : tokenL a = true) (hb : tokenL b = true) : tokenL (a ++ b) = true := by
  unfold tokenL at *
  simp only [Bool.and_eq_true, List.all_append] at *
  refine ⟨?_, ha.2, hb.2⟩
  cases a with
  | nil => cases ha.1
  | cons x r => rfl
theorem token_mid {a b : Bs} (c : UInt8) (ha : tokenL a = true) (hb : tokenL b = true) : tokenL (a ++ [c] ++ b) = signL c := by
  unfold tokenL at *
  simp only [Bool.and_eq_true, List.all_append, List.all_cons, List.all_nil, Bool.and_true] at *
  rw [ha.2, hb.2]
  cases a with
  | nil => cases ha.1
  | cons x r => simp
theorem token_one (c : UInt8) : tokenL [c] = signL c := by unfold tokenL; simp
theorem right_six (r : Ru) (h : r.k = 6) : rightU r = false := by unfold rightU; rw [h]; simp
theorem right_glob (r : Ru) (h : r.g = []) : rightU r = false := by unfold rightU; rw [h]; rfl
theorem right_long (r : Ru) (h : 100 < r.o.length) : rightU r = false := by
  unfold rightU
  rw [show decide (r.o.length ≤ 100) = false from by simpa using h]
  simp
end Go.Proofs.YthkbpophckjdnaaDoor
