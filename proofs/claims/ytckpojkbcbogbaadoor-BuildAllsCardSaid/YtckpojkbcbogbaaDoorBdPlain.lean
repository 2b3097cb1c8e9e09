/-
  Plain functions for layer 9 (build): names, labels, lines, what a text tells, what is printed. No program is named here.
-/
import Derived.Test.YtckpojkbcbogbaaDoorOwPlain
import Derived.Test.YtckpojkbcbogbaaDoorTLaws
import Derived.Test.YtckpojkbcbogbaaDoorSmall
import Derived.Test.YtckpojkbcbogbaaDoorBase
namespace Go.Proofs.YtckpojkbcbogbaaDoor
open Go

def plainT (c : UInt8) : Bool := (97 ≤ c && c ≤ 122) || (48 ≤ c && c ≤ 57) || c == 95
/-- May it be the name of a target? -/
def namedT (s : Bs) : Bool := decide (0 < s.length) && decide (s.length ≤ 20) && s.all plainT
def buildW : Bs := [66, 85, 73, 76, 68]
def tgtW : Bs := [116, 97, 114, 103, 101, 116]
def srcW : Bs := [115, 114, 99]
def depW : Bs := [100, 101, 112]
/-- A target: its name, its files, what it stands on. -/
structure Tg where
  n : Bs
  s : List Bs
  d : List Bs
deriving DecidableEq
/-- A label: its directory, its name; cut at the first colon. -/
def cutC (s : Bs) : Bs × Bs := (s.takeWhile (fun c => c != 58), (s.dropWhile (fun c => c != 58)).drop 1)
def labelT (dir s : Bs) : Option Bs := if namedT (cutC s).2 && ((cutC s).1.isEmpty || rightB (cutC s).1) then some ((if (cutC s).1.isEmpty then dir else (cutC s).1) ++ 58 :: (cutC s).2) else none
def hasN (l : List Tg) (n : Bs) : Bool := l.any (fun x => x.n == n)
/-- The last one, changed. -/
def lastM (f : Tg → Tg) : List Tg → List Tg
  | [] => []
  | [x] => [f x]
  | x :: y :: r => x :: lastM f (y :: r)
def targetT (dir : Bs) (l : List Tg) (s : Bs) : Except Int (List Tg) := if namedT s then (if hasN l (dir ++ 58 :: s) then .error 12 else .ok (l ++ [⟨dir ++ 58 :: s, [], []⟩])) else .error 11
def srcT (dir : Bs) (l : List Tg) (s : Bs) : Except Int (List Tg) := if !l.isEmpty && rightB (join2 dir s) then .ok (lastM (fun x => { x with s := x.s ++ [join2 dir s] }) l) else .error 11
def depT (dir : Bs) (l : List Tg) (s : Bs) : Except Int (List Tg) := if l.isEmpty then .error 11 else match labelT dir s with
  | none => .error 11
  | some n => .ok (lastM (fun x => { x with d := x.d ++ [n] }) l)
def actT (dir : Bs) (l : List Tg) (w s : Bs) : Except Int (List Tg) := if w == tgtW then targetT dir l s else if w == srcW then srcT dir l s else if w == depW then depT dir l s else .error 11
def lineT (dir : Bs) (l : List Tg) : List Bs → Except Int (List Tg)
  | [] => .ok l
  | [w, s] => actT dir l w s
  | _ => .error 11
def linesT (dir : Bs) (ws : List (List Bs)) (l : Except Int (List Tg)) : Except Int (List Tg) := ws.foldl (fun r w => r.bind (lineT dir · w)) l
def parseT (dir : Bs) (ls : List Bs) : Except Int (List Tg) := linesT dir (ls.map wordsL) (.ok [])
/-- What a text of a directory is parsed as: the error, the targets. -/
def parseB (dir s : Bs) : Int × List Tg := if !dir.isEmpty && !rightB dir then (4, []) else if 16384 < s.length then (3, []) else match parseT dir (splitL 10 s) with
  | .error e => (e, [])
  | .ok l => (0, l)
theorem linesT_err (dir : Bs) (ws : List (List Bs)) (e : Int) : linesT dir ws (.error e) = .error e := by
  unfold linesT
  induction ws with
  | nil => rfl
  | cons w r ih => rw [List.foldl_cons]; exact ih
theorem linesT_cons (dir : Bs) (w : List Bs) (ws : List (List Bs)) (l : Except Int (List Tg)) : linesT dir (w :: ws) l = linesT dir ws (l.bind (lineT dir · w)) := rfl
theorem linesT_append (dir : Bs) (a b : List (List Bs)) (l : Except Int (List Tg)) : linesT dir (a ++ b) l = linesT dir b (linesT dir a l) := by unfold linesT; rw [List.foldl_append]
theorem linesT_nil (dir : Bs) (l : Except Int (List Tg)) : linesT dir [[]] l = l := by cases l <;> rfl
/-- Lines without words make no difference. -/
theorem linesT_filter (dir : Bs) (ws : List (List Bs)) : ∀ l, linesT dir (ws.filter (fun w => !w.isEmpty)) l = linesT dir ws l := by
  induction ws with
  | nil => intro l; rfl
  | cons w r ih =>
    intro l
    cases w with
    | nil =>
      rw [List.filter_cons, if_neg (by simp), ih, linesT_cons]
      congr 1
      cases l <;> rfl
    | cons x y => rw [List.filter_cons, if_pos (by simp), linesT_cons, linesT_cons, ih]

theorem lineT_two (dir : Bs) (l : List Tg) (w t : Bs) : lineT dir l [w, t] = actT dir l w t := rfl
theorem targetT_ne (dir : Bs) (l : List Tg) (t : Bs) : targetT dir l t ≠ .error 0 := by
  unfold targetT
  split
  · split <;> simp
  · simp
theorem srcT_ne (dir : Bs) (l : List Tg) (t : Bs) : srcT dir l t ≠ .error 0 := by
  unfold srcT
  split <;> simp
theorem depT_ne (dir : Bs) (l : List Tg) (t : Bs) : depT dir l t ≠ .error 0 := by
  unfold depT
  split
  · simp
  · split <;> simp
theorem lineT_ne (dir : Bs) (l : List Tg) (w : List Bs) : lineT dir l w ≠ .error 0 := by
  match w with
  | [] => intro h; cases h
  | [w, t] =>
    rw [lineT_two]
    unfold actT
    split
    · exact targetT_ne _ _ _
    · split
      · exact srcT_ne _ _ _
      · split
        · exact depT_ne _ _ _
        · simp
  | [_] => intro h; cases h
  | _ :: _ :: _ :: _ => intro h; cases h
theorem linesT_ne (dir : Bs) : ∀ (ws : List (List Bs)) (l : List Tg), linesT dir ws (.ok l) ≠ .error 0
  | [], l, h => by cases h
  | w :: ws, l, h => by
    rw [linesT_cons] at h
    cases e : lineT dir l w with
    | error n =>
      rw [show (Except.ok l : Except Int (List Tg)).bind (lineT dir · w) = .error n from e, linesT_err] at h
      cases h
      exact lineT_ne dir l w e
    | ok m =>
      rw [show (Except.ok l : Except Int (List Tg)).bind (lineT dir · w) = .ok m from e] at h
      exact linesT_ne dir ws m h
theorem parseT_ne (dir : Bs) (ls : List Bs) : parseT dir ls ≠ .error 0 := linesT_ne dir _ _

/-! Blanks more, lines that have nothing, what is behind a mark. -/
def fieldsT (l : Bs) : List Bs := (splitL 32 l).filter (fun p => !p.isEmpty)
theorem splitT_hit (c b : UInt8) (r : Bs) (h : (b == c) = true) : splitL c (b :: r) = [] :: splitL c r := by
  simp only [splitL, h, if_true]
theorem splitT_miss (c b : UInt8) (r p : Bs) (ps : List Bs) (h : (b == c) = false) (e : splitL c r = p :: ps) :
    splitL c (b :: r) = (b :: p) :: ps := by
  simp only [splitL, h, Bool.false_eq_true, if_false, e]
def mindW : Bs := [32, 35, 32, 120, 32, 121, 32, 122, 10, 32, 10]
def bwideC (c : UInt8) : Bs := if c == 32 then [32, 32, 32] else if c == 10 then 10 :: mindW else [c]
def bwide (s : Bs) : Bs := s.flatMap bwideC
def threeC (c : UInt8) : Bs := if c == 32 then [32, 32, 32] else [c]
def three (s : Bs) : Bs := s.flatMap threeC
theorem three_hit (r : Bs) : three (32 :: r) = 32 :: 32 :: 32 :: three r := rfl
theorem three_miss {c : UInt8} (h : (c == 32) = false) (r : Bs) : three (c :: r) = c :: three r := by
  show threeC c ++ three r = _
  unfold threeC; rw [h]; rfl
theorem three_cut : ∀ l : Bs, cutR (three l) = three (cutR l)
  | [] => rfl
  | c :: r => by
    have ih := three_cut r
    unfold cutR at ih ⊢
    by_cases h : (c == 32) = true
    · have hc : c = 32 := by simpa using h
      subst hc
      rw [three_hit]
      simp only [List.takeWhile_cons, show ((32 : UInt8) != 35) = true from by decide, if_true, three_hit, ih]
    · have h : (c == 32) = false := by simpa using h
      rw [three_miss h, List.takeWhile_cons, List.takeWhile_cons]
      split
      · rw [three_miss h, ih]
      · rfl
theorem three_blank : ∀ l : Bs, ∃ p ps qs, splitL 32 l = p :: ps ∧ splitL 32 (three l) = p :: qs ∧ qs.filter (fun x => !x.isEmpty) = ps.filter (fun x => !x.isEmpty)
  | [] => ⟨[], [], [], rfl, rfl, rfl⟩
  | c :: r => by
    obtain ⟨p, ps, qs, h1, h2, h3⟩ := three_blank r
    by_cases h : (c == 32) = true
    · have hc : c = 32 := by simpa using h
      subst hc
      refine ⟨[], p :: ps, [] :: [] :: p :: qs, by rw [splitT_hit 32 32 r (by decide), h1], ?_, ?_⟩
      · rw [three_hit, splitT_hit 32 32 _ (by decide), splitT_hit 32 32 _ (by decide), splitT_hit 32 32 _ (by decide), h2]
      · rw [List.filter_cons, if_neg (by simp), List.filter_cons, if_neg (by simp), List.filter_cons, List.filter_cons, h3]
    · have h : (c == 32) = false := by simpa using h
      refine ⟨c :: p, ps, qs, splitT_miss 32 c r p ps h h1, ?_, h3⟩
      rw [three_miss h]
      exact splitT_miss 32 c _ p qs h h2
theorem three_words (l : Bs) : wordsL (three l) = wordsL l := by
  obtain ⟨p, ps, qs, h1, h2, h3⟩ := three_blank (cutR l)
  unfold wordsL
  rw [three_cut, h1, h2, List.filter_cons, List.filter_cons, h3]
/-- The lines of the wider text: the text's own, wider, and behind each but the last two that have nothing. -/
theorem bwide_split : ∀ s : Bs, ∃ p ps qs, splitL 10 s = p :: ps ∧ splitL 10 (bwide s) = three p :: qs ∧ (qs.map wordsL).filter (fun w => !w.isEmpty) = (ps.map wordsL).filter (fun w => !w.isEmpty)
  | [] => ⟨[], [], [], rfl, rfl, rfl⟩
  | c :: r => by
    obtain ⟨p, ps, qs, h1, h2, h3⟩ := bwide_split r
    by_cases h : (c == 32) = true
    · have hc : c = 32 := by simpa using h
      subst hc
      refine ⟨32 :: p, ps, qs, splitT_miss 10 32 r p ps (by decide) h1, ?_, h3⟩
      show splitL 10 (32 :: 32 :: 32 :: bwide r) = _
      rw [three_hit]
      exact splitT_miss 10 32 _ _ _ (by decide) (splitT_miss 10 32 _ _ _ (by decide) (splitT_miss 10 32 _ _ _ (by decide) h2))
    · have h : (c == 32) = false := by simpa using h
      by_cases h0 : (c == 10) = true
      · have hc : c = 10 := by simpa using h0
        subst hc
        refine ⟨[], p :: ps, [32, 35, 32, 120, 32, 121, 32, 122] :: [32] :: three p :: qs, by rw [splitT_hit 10 10 r (by decide), h1], ?_, ?_⟩
        · show splitL 10 (10 :: 32 :: 35 :: 32 :: 120 :: 32 :: 121 :: 32 :: 122 :: 10 :: 32 :: 10 :: bwide r) = _
          rw [splitT_hit 10 10 _ (by decide)]
          congr 1
          have e1 : splitL 10 (10 :: 32 :: 10 :: bwide r) = [] :: [32] :: three p :: qs := by
            rw [splitT_hit 10 10 _ (by decide)]
            congr 1
            exact splitT_miss 10 32 _ _ _ (by decide) (by rw [splitT_hit 10 10 _ (by decide), h2])
          exact splitT_miss 10 32 _ _ _ (by decide) (splitT_miss 10 35 _ _ _ (by decide) (splitT_miss 10 32 _ _ _ (by decide) (splitT_miss 10 120 _ _ _ (by decide) (splitT_miss 10 32 _ _ _ (by decide) (splitT_miss 10 121 _ _ _ (by decide) (splitT_miss 10 32 _ _ _ (by decide) (splitT_miss 10 122 _ _ _ (by decide) e1)))))))
        · rw [List.map_cons, List.map_cons, List.map_cons, List.map_cons, three_words]
          rw [show wordsL [32, 35, 32, 120, 32, 121, 32, 122] = [] from by decide +kernel, show wordsL [32] = [] from by decide +kernel]
          rw [List.filter_cons, if_neg (by simp), List.filter_cons, if_neg (by simp), List.filter_cons, List.filter_cons, h3]
      · have h0 : (c == 10) = false := by simpa using h0
        refine ⟨c :: p, ps, qs, splitT_miss 10 c r p ps h0 h1, ?_, h3⟩
        rw [three_miss h]
        have : bwide (c :: r) = c :: bwide r := by
          show bwideC c ++ bwide r = _
          unfold bwideC; rw [h, h0]; rfl
        rw [this]
        exact splitT_miss 10 c _ _ _ h0 h2
theorem parseT_bwide (dir s : Bs) : parseT dir (splitL 10 (bwide s)) = parseT dir (splitL 10 s) := by
  obtain ⟨p, ps, qs, h1, h2, h3⟩ := bwide_split s
  unfold parseT
  rw [← linesT_filter, ← linesT_filter (ws := (splitL 10 s).map wordsL), h1, h2, List.map_cons, List.map_cons, three_words, List.filter_cons, List.filter_cons, h3]
theorem bwide_len : ∀ s : Bs, (bwide s).length ≤ 12 * s.length
  | [] => Nat.le_refl _
  | c :: r => by
    have ih := bwide_len r
    have : (bwideC c).length ≤ 12 := by unfold bwideC; split <;> (try split) <;> simp [mindW]
    show (bwideC c ++ bwide r).length ≤ _
    rw [List.length_append, List.length_cons]
    omega
/-- What the law BuildWords says. -/
theorem parseB_bwide (dir s : Bs) (h : s.length ≤ 800) : parseB dir (bwide s) = parseB dir s := by
  have := bwide_len s
  unfold parseB
  rw [parseT_bwide, if_neg (show ¬ 16384 < (bwide s).length from by omega), if_neg (show ¬ 16384 < s.length from by omega)]

/-! The same text in two directories. -/
/-- A target of one directory, and one of another: the same name behind both, as many files, as many deps. -/
def twinT (a b : Bs) (x y : Tg) : Prop := (∃ n, x.n = a ++ 58 :: n ∧ y.n = b ++ 58 :: n) ∧ x.s.length = y.s.length ∧ x.d.length = y.d.length
inductive Twins (a b : Bs) : List Tg → List Tg → Prop where
  | nil : Twins a b [] []
  | cons {x y : Tg} {l m : List Tg} (h : twinT a b x y) (t : Twins a b l m) : Twins a b (x :: l) (y :: m)
theorem Twins.length {a b : Bs} {l m : List Tg} (h : Twins a b l m) : l.length = m.length := by
  induction h with
  | nil => rfl
  | cons _ _ ih => rw [List.length_cons, List.length_cons, ih]
theorem Twins.snoc {a b : Bs} {l m : List Tg} {x y : Tg} (h : Twins a b l m) (t : twinT a b x y) : Twins a b (l ++ [x]) (m ++ [y]) := by
  induction h with
  | nil => exact .cons t .nil
  | cons h1 _ ih => exact .cons h1 ih
theorem Twins.at_ {a b : Bs} {l m : List Tg} (h : Twins a b l m) : ∀ (i : Nat) (x y : Tg), l[i]? = some x → m[i]? = some y → twinT a b x y := by
  induction h with
  | nil => intro i x y h; simp at h
  | cons h1 _ ih =>
    intro i x y hx hy
    cases i with
    | zero => simp at hx hy; subst hx; subst hy; exact h1
    | succ i => exact ih i x y (by simpa using hx) (by simpa using hy)
theorem Twins.last {a b : Bs} {f g : Tg → Tg} (hf : ∀ x y, twinT a b x y → twinT a b (f x) (g y)) {l m : List Tg} (h : Twins a b l m) : Twins a b (lastM f l) (lastM g m) := by
  induction h with
  | nil => exact .nil
  | cons h1 t ih =>
    cases t with
    | nil => exact .cons (hf _ _ h1) .nil
    | cons h2 t2 => exact .cons h1 ih
theorem line_twins {a b : Bs} {l m l' m' : List Tg} {w : List Bs} (h : Twins a b l m) (h1 : lineT a l w = .ok l') (h2 : lineT b m w = .ok m') : Twins a b l' m' := by
  match w, h1, h2 with
  | [], h1, h2 =>
    cases h1; cases h2; exact h
  | [w, s], h1, h2 =>
    rw [lineT_two] at h1 h2
    unfold actT at h1 h2
    by_cases e1 : (w == tgtW) = true
    · rw [if_pos e1] at h1 h2
      unfold targetT at h1 h2
      by_cases e : namedT s = true
      · rw [if_pos e] at h1 h2
        split at h1
        · cases h1
        · split at h2
          · cases h2
          · cases h1; cases h2
            exact h.snoc ⟨⟨s, rfl, rfl⟩, rfl, rfl⟩
      · rw [if_neg e] at h1; cases h1
    · rw [if_neg e1] at h1 h2
      by_cases e2 : (w == srcW) = true
      · rw [if_pos e2] at h1 h2
        unfold srcT at h1 h2
        split at h1
        · split at h2
          · cases h1; cases h2
            refine Twins.last (fun x y hxy => ?_) h
            exact ⟨hxy.1, by simp [hxy.2.1], hxy.2.2⟩
          · cases h2
        · cases h1
      · rw [if_neg e2] at h1 h2
        by_cases e3 : (w == depW) = true
        · rw [if_pos e3] at h1 h2
          unfold depT at h1 h2
          split at h1
          · cases h1
          · split at h2
            · cases h2
            · split at h1
              · cases h1
              · split at h2
                · cases h2
                · cases h1; cases h2
                  refine Twins.last (fun x y hxy => ?_) h
                  exact ⟨hxy.1, hxy.2.1, by simp [hxy.2.2]⟩
        · rw [if_neg e3] at h1; cases h1
  | [_], h1, _ => cases h1
  | _ :: _ :: _ :: _, h1, _ => cases h1
theorem lines_twins {a b : Bs} : ∀ (ws : List (List Bs)) {l m l' m' : List Tg}, Twins a b l m → linesT a ws (.ok l) = .ok l' → linesT b ws (.ok m) = .ok m' → Twins a b l' m'
  | [], l, m, l', m', h, h1, h2 => by cases h1; cases h2; exact h
  | w :: ws, l, m, l', m', h, h1, h2 => by
    rw [linesT_cons] at h1 h2
    cases e1 : lineT a l w with
    | error e => rw [show (Except.ok l : Except Int (List Tg)).bind (lineT a · w) = .error e from e1, linesT_err] at h1; cases h1
    | ok l1 =>
      cases e2 : lineT b m w with
      | error e => rw [show (Except.ok m : Except Int (List Tg)).bind (lineT b · w) = .error e from e2, linesT_err] at h2; cases h2
      | ok m1 =>
        rw [show (Except.ok l : Except Int (List Tg)).bind (lineT a · w) = .ok l1 from e1] at h1
        rw [show (Except.ok m : Except Int (List Tg)).bind (lineT b · w) = .ok m1 from e2] at h2
        exact lines_twins ws (line_twins h e1 e2) h1 h2
/-- What the law BuildDirs says. -/
theorem parse_twins (a b s : Bs) (h1 : (parseB a s).1 = 0) (h2 : (parseB b s).1 = 0) : Twins a b (parseB a s).2 (parseB b s).2 := by
  unfold parseB at h1 h2 ⊢
  by_cases a1 : (!a.isEmpty && !rightB a) = true
  · rw [if_pos a1] at h1; cases h1
  · rw [if_neg a1] at h1 ⊢
    by_cases b1 : (!b.isEmpty && !rightB b) = true
    · rw [if_pos b1] at h2; cases h2
    · rw [if_neg b1] at h2 ⊢
      by_cases c1 : 16384 < s.length
      · rw [if_pos c1] at h1; cases h1
      · rw [if_neg c1] at h1 h2 ⊢
        rw [if_neg c1]
        cases e1 : parseT a (splitL 10 s) with
        | error e => rw [e1] at h1; exact (by
            have : e = 0 := h1
            subst this
            exact absurd e1 (parseT_ne a _))
        | ok l =>
          cases e2 : parseT b (splitL 10 s) with
          | error e => rw [e2] at h2; exact (by
              have : e = 0 := h2
              subst this
              exact absurd e2 (parseT_ne b _))
          | ok m => exact lines_twins _ .nil e1 e2
end Go.Proofs.YtckpojkbcbogbaaDoor
