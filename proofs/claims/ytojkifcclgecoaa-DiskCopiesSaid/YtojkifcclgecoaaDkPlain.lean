/-
  Disks, plain: what is pending is bytes and cuts; what an area is read as; what is done to a disk. No program is named here.
-/
import Derived.Below
namespace Go.Proofs.Ytojkifcclgecoaa.Dk
open Go

/-- Something that is pending: a byte, or a cut. -/
inductive DSt where
  | byte (x : UInt8)
  | cut (n : Nat)
def DSt.on (b : List UInt8) : DSt → List UInt8
  | .byte x => b ++ [x]
  | .cut n => b.take n
def runS (b : List UInt8) (l : List DSt) : List UInt8 := l.foldl DSt.on b
theorem runS_nil (b : List UInt8) : runS b [] = b := rfl
theorem runS_cons (b : List UInt8) (s : DSt) (l : List DSt) : runS b (s :: l) = runS (s.on b) l := rfl
theorem runS_append (b : List UInt8) (l m : List DSt) : runS b (l ++ m) = runS (runS b l) m := List.foldl_append
theorem runS_bytes (b g : List UInt8) : runS b (g.map .byte) = b ++ g := by
  induction g generalizing b with
  | nil => simp [runS]
  | cons x r ih => rw [List.map_cons, runS_cons, ih]; simp [DSt.on]
theorem on_length (b : List UInt8) (s : DSt) : (s.on b).length ≤ b.length + 1 := by
  cases s with
  | byte x => simp [DSt.on]
  | cut n => simp [DSt.on]; omega
theorem runS_length (l : List DSt) : ∀ b, (runS b l).length ≤ b.length + l.length := by
  induction l with
  | nil => intro b; simp [runS]
  | cons s r ih => intro b; rw [runS_cons, List.length_cons]; have := ih (s.on b); have := on_length b s; omega

/-- An area: what lasts, what is pending. -/
structure DAr where
  l : List UInt8
  p : List DSt
def DAr.now (a : DAr) : List UInt8 := runS a.l a.p
/-- A disk; pw: for how many units there is power, if it is armed. -/
structure DDk where
  as : List DAr
  room : Nat
  pw : Option Nat
  dead : Bool
/-- How much there may be in each area. -/
def DDk.fits (d : DDk) (n : Nat) : Prop := d.as.length ≤ 8 ∧ d.room ≤ 4194304 ∧ (∀ k, d.pw = some k → k ≤ 1000000000) ∧ ∀ a ∈ d.as, a.l.length + a.p.length ≤ n
theorem DDk.fits.mono {d : DDk} {n m : Nat} (h : d.fits n) (hm : n ≤ m) : d.fits m := ⟨h.1, h.2.1, h.2.2.1, fun a ha => Nat.le_trans (h.2.2.2 a ha) hm⟩
/-- Where power is lost none is left. -/
def DDk.sane (d : DDk) : Prop := d.dead = true → d.pw = some 0
theorem DAr.now_length (a : DAr) : a.now.length ≤ a.l.length + a.p.length := runS_length _ _

def usedL (l : List DAr) : Nat := (l.map fun a => a.now.length).sum
theorem usedL_nil : usedL [] = 0 := rfl
theorem usedL_snoc {l : List DAr} {k : Nat} {a : DAr} (h : l[k]? = some a) : usedL (l.take (k + 1)) = usedL (l.take k) + a.now.length := by
  unfold usedL
  rw [List.take_add_one, h]
  simp
theorem usedL_le {n : Nat} {l : List DAr} (h : ∀ a ∈ l, a.l.length + a.p.length ≤ n) : usedL l ≤ l.length * n := by
  unfold usedL
  induction l with
  | nil => simp
  | cons a r ih =>
    have h1 := ih (fun x hx => h x (List.mem_cons_of_mem _ hx))
    have h2 := h a (List.mem_cons_self ..)
    have h3 := a.now_length
    rw [List.map_cons, List.sum_cons, List.length_cons, Nat.add_mul]
    omega
def DDk.used (d : DDk) : Nat := usedL d.as
theorem DDk.used_le {d : DDk} {n : Nat} (h : d.fits n) : d.used ≤ 8 * n := Nat.le_trans (usedL_le h.2.2.2) (Nat.mul_le_mul_right _ h.1)
theorem usedL_take_le {n k : Nat} {l : List DAr} (h : ∀ a ∈ l, a.l.length + a.p.length ≤ n) (h8 : l.length ≤ 8) : usedL (l.take k) ≤ 8 * n := by
  refine Nat.le_trans (usedL_le (n := n) fun a ha => h a (List.mem_of_mem_take ha)) (Nat.mul_le_mul_right _ ?_)
  rw [List.length_take]; omega

def DDk.has (d : DDk) (a : Int) : Bool := decide (0 ≤ a) && decide (a < d.as.length)
def stateN (dead : Bool) : Nat := if dead then 10 else 0
def DDk.state (d : DDk) : Nat := stateN d.dead
def DDk.may (d : DDk) (a : Int) : Nat := if d.has a then d.state else 2
def DDk.readL (d : DDk) (a : Int) : List UInt8 := if d.has a then ((d.as[a.toNat]?).map DAr.now).getD [] else []
def DDk.lastL (d : DDk) (a : Int) : List UInt8 := if d.has a then ((d.as[a.toNat]?).map DAr.l).getD [] else []

/-- How many units are taken of n. -/
def DDk.spend (d : DDk) (n : Nat) : Nat := match d.pw with | none => n | some k => min n k
def DDk.after (d : DDk) (n : Nat) : DDk := match d.pw with
  | none => d
  | some k => { d with pw := some (k - min n k), dead := decide (min n k < n) }
def addAt (l : List DAr) (a : Nat) (s : List DSt) : List DAr := l.modify a fun x => ⟨x.l, x.p ++ s⟩
def DDk.add (d : DDk) (a : Nat) (s : List DSt) : DDk := { d with as := addAt d.as a s }
def DDk.append (d : DDk) (a : Nat) (b : List UInt8) : DDk := (d.after b.length).add a ((b.take (d.spend b.length)).map .byte)
def DDk.cut (d : DDk) (a n : Nat) : DDk := (d.after 1).add a (if 0 < d.spend 1 then [.cut n] else [])
def DDk.settle (d : DDk) (a : Nat) : DDk := { d with as := d.as.modify a fun x => ⟨x.now, []⟩ }
def DDk.sync (d : DDk) (a : Nat) : DDk := if 0 < d.spend 1 then (d.after 1).settle a else d.after 1
def DDk.arm (d : DDk) (n : Int) : DDk := if d.dead then d else { d with pw := some (min (max n 0) 1000000000).toNat }
def keepA (k : Nat) (x : DAr) : DAr := ⟨runS x.l (x.p.take k), []⟩
def DDk.restart (d : DDk) (k : Int) : DDk := { as := d.as.map (keepA k.toNat), room := d.room, pw := none, dead := false }
def DDk.new (n r : Int) : DDk := ⟨List.replicate (min (max n 0) 8).toNat ⟨[], []⟩, (min (max r 0) 4194304).toNat, none, false⟩

/-- What the calls answer, and the disk then. -/
def appendE (d : DDk) (a : Int) (b : List UInt8) : Nat := if d.may a ≠ 0 then d.may a else if d.room < d.used + b.length then 8 else (d.append a.toNat b).state
def appendD (d : DDk) (a : Int) (b : List UInt8) : DDk := if d.may a ≠ 0 then d else if d.room < d.used + b.length then d else d.append a.toNat b
def cutBad (d : DDk) (a n : Int) : Prop := n < 0 ∨ ((d.readL a).length : Int) < n
instance (d : DDk) (a n : Int) : Decidable (cutBad d a n) := by unfold cutBad; infer_instance
def cutE (d : DDk) (a n : Int) : Nat := if d.may a ≠ 0 then d.may a else if cutBad d a n then 2 else (d.cut a.toNat n.toNat).state
def cutD (d : DDk) (a n : Int) : DDk := if d.may a ≠ 0 then d else if cutBad d a n then d else d.cut a.toNat n.toNat
def syncE (d : DDk) (a : Int) : Nat := if d.may a ≠ 0 then d.may a else (d.sync a.toNat).state
def syncD (d : DDk) (a : Int) : DDk := if d.may a ≠ 0 then d else d.sync a.toNat

/-- What is done, in plain data. -/
structure DDo where
  k : Int
  a : Int
  n : Int
  b : List UInt8
def stepE (d : DDk) (x : DDo) : Nat := if x.k = 1 then appendE d x.a x.b else if x.k = 2 then cutE d x.a x.n else if x.k = 3 then syncE d x.a else 0
def stepD (d : DDk) (x : DDo) : DDk := if x.k = 1 then appendD d x.a x.b else if x.k = 2 then cutD d x.a x.n else if x.k = 3 then syncD d x.a else if x.k = 4 then d.arm x.n else if x.k = 5 then d.restart x.n else d
end Go.Proofs.Ytojkifcclgecoaa.Dk
