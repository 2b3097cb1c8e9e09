/-
  Plain functions on lists of bytes for layer 1 (path): pieces, names, patterns, clean paths. No program is named here.
-/
import Derived.Lib.Bytealg
import Derived.Lib.IndexMore
import Derived.Lib.Join
import Derived.Lib.LastIndexByte
namespace Go.Proofs.YtffhfllikamccaaGreatDoor
open Go
abbrev Bs := List UInt8
def mkB (l : Bs) : ByteArray := ⟨l.toArray⟩
theorem mkB_data (l : Bs) : (mkB l).data.toList = l := by simp [mkB]
theorem data_mkB (s : ByteArray) : mkB s.data.toList = s := by cases s; simp [mkB]
theorem mkB_size (l : Bs) : (mkB l).size = l.length := by simp [mkB, ByteArray.size]

/-- The pieces between the signs. -/
def splitL (c : UInt8) : Bs → List Bs
  | [] => [[]]
  | b :: r => if b == c then [] :: splitL c r else match splitL c r with
    | [] => [[b]]
    | p :: ps => (b :: p) :: ps

theorem splitL_ne (c : UInt8) (l : Bs) : splitL c l ≠ [] := by
  cases l with
  | nil => simp [splitL]
  | cons b r => unfold splitL; split <;> (try split) <;> simp

theorem splitL_miss (c : UInt8) : ∀ l : Bs, Lib.indexByte l c = -1 → splitL c l = [l]
  | [], _ => rfl
  | b :: r, h => by
    unfold Lib.indexByte at h
    have hge := Lib.indexByte_ge r c
    by_cases hb : (b == c) = true
    · simp [hb] at h
    · have hb' : (b == c) = false := by simpa using hb
      simp only [hb', Bool.false_eq_true, if_false] at h
      have hr : Lib.indexByte r c = -1 := by
        by_cases e : Lib.indexByte r c = -1
        · exact e
        · rw [if_neg (by simpa using e)] at h; omega
      unfold splitL
      simp only [hb', Bool.false_eq_true, if_false]
      rw [splitL_miss c r hr]

theorem splitL_hit (c : UInt8) : ∀ (l : Bs) (i : Nat), Lib.indexByte l c = i → i < l.length ∧ splitL c l = l.take i :: splitL c (l.drop (i + 1))
  | [], i, h => by unfold Lib.indexByte at h; omega
  | b :: r, i, h => by
    unfold Lib.indexByte at h
    have hge := Lib.indexByte_ge r c
    by_cases hb : (b == c) = true
    · simp only [hb, if_true] at h
      obtain rfl : i = 0 := by omega
      refine ⟨by simp, ?_⟩
      simp [splitL, hb]
    · have hb' : (b == c) = false := by simpa using hb
      simp only [hb', Bool.false_eq_true, if_false] at h
      by_cases e : Lib.indexByte r c = -1
      · rw [if_pos (by simpa using e)] at h; omega
      · rw [if_neg (by simpa using e)] at h
        obtain ⟨j, rfl⟩ : ∃ j, i = j + 1 := ⟨i - 1, by omega⟩
        have ih := splitL_hit c r j (by omega)
        refine ⟨by simp; omega, ?_⟩
        rw [splitL]
        simp only [hb', Bool.false_eq_true, if_false]
        rw [ih.2]
        simp

/-- How many pieces: at most one more than there are bytes. -/
theorem splitL_length (c : UInt8) : ∀ l : Bs, (splitL c l).length ≤ l.length + 1
  | [] => by simp [splitL]
  | b :: r => by
    have ih := splitL_length c r
    unfold splitL
    split
    · simp; omega
    · split
      · simp
      · rename_i p ps e; rw [e] at ih; simp at ih ⊢; omega

def plainB (c : UInt8) : Bool := (97 ≤ c && c ≤ 122) || (65 ≤ c && c ≤ 90) || (48 ≤ c && c ≤ 57) || c == 46 || c == 95 || c == 45
def okB (wild : Bs) (c : UInt8) : Bool := plainB c || wild.contains c
def speltB (wild s : Bs) : Bool := !s.isEmpty && !(s == [46]) && !(s == [46, 46]) && decide (s.length ≤ 30) && s.all (okB wild)
def nameB (s : Bs) : Bool := speltB [] s
def patB (s : Bs) : Bool := (s == [42, 42]) || (speltB [42, 63] s && !Lib.contains s [42, 42])
def partsB (p : Bs → Bool) (s : Bs) : Bool := decide (s.length ≤ 100) && (splitL 47 s).all p
def rightB (s : Bs) : Bool := partsB nameB s
def globB (s : Bs) : Bool := partsB patB s

/-- One part more: what is left; none: '..' has nothing to take away. -/
def stepN (ns : List Bs) (p : Bs) : Option (List Bs) :=
  if p == [46, 46] then (if ns.isEmpty then none else some ns.dropLast) else if p == [] || p == [46] then some ns else some (ns ++ [p])
def sweepN (ps : List Bs) : Option (List Bs) := ps.foldl (fun o p => o.bind (stepN · p)) (some [])
theorem sweepN_nil : sweepN [] = some [] := rfl
theorem sweepN_snoc (ps : List Bs) (p : Bs) : sweepN (ps ++ [p]) = (sweepN ps).bind (stepN · p) := by simp [sweepN]
theorem sweepN_none (ps qs : List Bs) (h : sweepN ps = none) : sweepN (ps ++ qs) = none := by
  unfold sweepN at h ⊢
  rw [List.foldl_append, h]
  induction qs with
  | nil => rfl
  | cons q r ih => simpa using ih
theorem sweepN_take (ps : List Bs) (k : Nat) (h : sweepN (ps.take k) = none) : sweepN ps = none := by
  have := sweepN_none _ (ps.drop k) h
  rwa [List.take_append_drop] at this

def joinL (ps : List Bs) : Bs := Lib.join ps [47]
def cleanB (s : Bs) : Option Bs := match sweepN (splitL 47 s) with
  | none => none
  | some ns => if rightB (joinL ns) then some (joinL ns) else none

/-- The bytes of pieces, each with a sign behind it. -/
def wide (ps : List Bs) : Nat := (ps.map (fun p => p.length + 1)).sum
theorem wide_append (ps qs : List Bs) : wide (ps ++ qs) = wide ps + wide qs := by simp [wide]
theorem wide_splitL (c : UInt8) : ∀ l : Bs, wide (splitL c l) = l.length + 1
  | [] => by simp [splitL, wide]
  | b :: r => by
    have ih := wide_splitL c r
    unfold splitL
    split
    · simp only [wide, List.map_cons, List.sum_cons] at ih ⊢; simp at ih ⊢; omega
    · split
      · rename_i e; exact absurd e (splitL_ne c r)
      · rename_i p ps e
        rw [e] at ih
        simp only [wide, List.map_cons, List.sum_cons, List.length_cons] at ih ⊢; omega
theorem wide_take (ps : List Bs) (k : Nat) : wide (ps.take k) ≤ wide ps := by
  have := wide_append (ps.take k) (ps.drop k)
  rw [List.take_append_drop] at this; omega
theorem wide_length (ps : List Bs) : ps.length ≤ wide ps := by
  induction ps with
  | nil => simp
  | cons p r ih => simp only [wide, List.map_cons, List.sum_cons, List.length_cons] at ih ⊢; omega
theorem wide_step (ns ms : List Bs) (p : Bs) (h : stepN ns p = some ms) : wide ms ≤ wide ns + (p.length + 1) := by
  unfold stepN at h
  split at h
  · split at h
    · cases h
    · cases h
      rw [List.dropLast_eq_take]
      have := wide_take ns (ns.length - 1)
      omega
  · split at h
    · cases h; omega
    · cases h; rw [wide_append]; simp [wide]
theorem wide_sweep (ps : List Bs) : ∀ ns, sweepN ps = some ns → wide ns ≤ wide ps := by
  have : ∀ (qs : List Bs) (o : Option (List Bs)) (b : Nat), (∀ ns, o = some ns → wide ns ≤ b) → ∀ ns, qs.foldl (fun o p => o.bind (stepN · p)) o = some ns → wide ns ≤ b + wide qs := by
    intro qs
    induction qs with
    | nil => intro o b hb ns h; have := hb ns h; omega
    | cons q r ih =>
      intro o b hb ns h
      have h2 := ih (o.bind (stepN · q)) (b + (q.length + 1)) (fun ms hms => by
        cases o with
        | none => cases hms
        | some ks => have h3 := hb ks rfl; have h4 := wide_step ks ms q hms; omega) ns h
      simp only [wide, List.map_cons, List.sum_cons] at h2 ⊢; omega
  intro ns h
  have := this ps (some []) 0 (fun ns h => by cases h; simp [wide]) ns h
  omega
theorem join_le (ns : List Bs) : (joinL ns).length ≤ wide ns := by
  unfold joinL
  cases ns with
  | nil => simp [Lib.join_nil, wide]
  | cons p r =>
    rw [Lib.join_cons]
    have : ∀ q : List Bs, (Lib.joinTail [47] q).length = wide q := by
      intro q
      induction q with
      | nil => rfl
      | cons a b ih =>
        rw [show Lib.joinTail [47] (a :: b) = (47 :: a) ++ Lib.joinTail [47] b from rfl, List.length_append, ih]
        simp only [wide, List.map_cons, List.sum_cons, List.length_cons]
    rw [List.length_append, this]
    simp only [wide, List.map_cons, List.sum_cons]; omega

/-- Rows of items, one for each pattern. -/
def partedB {α : Type} (many : α → Bool) (one : α → α → Bool) : List α → List α → Bool
  | [], is => is.isEmpty
  | p :: ps, [] => many p && partedB many one ps []
  | p :: ps, i :: is => if many p then partedB many one ps (i :: is) || partedB many one (p :: ps) is else one p i && partedB many one ps is

def fitsB (p s : Bs) : Bool := partedB (fun c => c == 42) (fun c b => c == 63 || c == b) p s
def matchB (g s : Bs) : Bool := globB g && rightB s && partedB (fun p => p == [42, 42]) fitsB (splitL 47 g) (splitL 47 s)
end Go.Proofs.YtffhfllikamccaaGreatDoor
