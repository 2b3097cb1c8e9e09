/-
  The contracts of tree.heads, tree.pairs: two lists by rising paths, told side by side.
-/
import Derived.Test.YtkihgbggndikpaaGreatDoorTFuncs
import Derived.Test.YtkihgbggndikpaaGreatDoorTLaws
import Derived.Test.YtkihgbggndikpaaGreatDoorShelf
import Derived.Test.YtkihgbggndikpaaGreatDoorSeq
import Derived.Deep.QuietTactic
import Derived.BigQuiet
import Derived.RangeFuncBound
import Derived.Shelf.Abstract
import Derived.Shelf.RegionOpen
import Derived.OwnWalkIn
import Derived.TacticsInMore
import Derived.LoopNIn
import Derived.LoopIn
import Derived.IntWalk
namespace Go.Proofs.YtkihgbggndikpaaGreatDoor
open Go Go.RowKit Go.Shelf Go.Proofs
attribute [local go_sem] Oper.semAt_some

theorem ret_intT {a b : Int} (h : a = b) : Ending.returned (.int .i64 a) = .returned (.int .i64 b) := by rw [h]
/-- How the heads of two lists stand to one another. -/
def headsV : List FX → List FX → Int
  | _, [] => -1
  | [], _ :: _ => 1
  | x :: _, y :: _ => Lib.compareBytes x.p.data.toList y.p.data.toList
/-- The slice .slice A n c holds l's paths from its head on. -/
def HeadAt (w : World) (A : Option Addr) (l : List FX) : Prop := ∀ x r, l = x :: r → ∃ g o, A = some ⟨g, o, none⟩ ∧ w.cell? ⟨g, o, none⟩ = some (.string x.p)

theorem below_drewN0 {B : Nat} {a w : World} (h : Below B a w) (n : Nat) : Below B a (w.drewN n) := ⟨h.os, h.tape, h.output, h.size, h.block⟩

def ptrV (A : Option Addr) : Option Nat → Value
  | none => .pointer none
  | some i => .pointer (A.map fun a => ⟨a.block, a.off + i * 2, none⟩)
def encP (A B : Option Addr) (p : Option Nat × Option Nat) : Array Value := #[ptrV A p.1, ptrV B p.2]
def InA (A : Option Addr) (k : Nat) : Prop := ∃ a, A = some a ∧ k = a.block
def KeepTwo (A B : Option Addr) (a b : List FX) (k : Nat) : Prop := (0 < a.length ∧ InA A k) ∨ (0 < b.length ∧ InA B k)
def RowP (w : World) (A : Option Addr) (l : List FX) : Prop := 0 < l.length → ∃ g o, A = some ⟨g, o, none⟩ ∧ RowF w g o l
theorem RowP.keeps {w w' : World} {A : Option Addr} {l : List FX} {K : Nat → Prop} (h : RowP w A l) (hk : KeepsB K w w') (hK : 0 < l.length → ∀ k, InA A k → K k) : RowP w' A l := fun hn => by
  obtain ⟨g, o, e, hr⟩ := h hn
  exact ⟨g, o, e, hr.keep fun hg => hk.same g (hK hn g ⟨_, e, rfl⟩) hg⟩
theorem RowP.below {w w' : World} {A : Option Addr} {l : List FX} (h : RowP w A l) (hb : Below w.heap.size w w') : RowP w' A l := fun hn => by
  obtain ⟨g, o, e, hr⟩ := h hn
  exact ⟨g, o, e, hr.below hb⟩
/-- What is left of a list in a walk: its slice value. -/
structure LeftAt (A : Option Addr) (l : List FX) (i : Nat) (Ai : Option Addr) (n c : Nat) : Prop where
  len : i + n = l.length
  cap : n ≤ c
  addr : 0 < n → Ai = A.map fun a => ⟨a.block, a.off + i * 2, none⟩
theorem LeftAt.head {w : World} {A Ai : Option Addr} {l : List FX} {i n c : Nat} (h : LeftAt A l i Ai n c) (hr : RowP w A l) : HeadAt w Ai (l.drop i) := fun x r e => by
  obtain ⟨hx, _⟩ := drop_cons e
  have hl := (List.getElem?_eq_some_iff.1 hx).1
  have h1 := h.len
  obtain ⟨g, o, rfl, hrow⟩ := hr (by omega)
  exact ⟨g, o + i * 2, h.addr (by omega), (hrow i x hx).1⟩
theorem LeftAt.next {A : Option Addr} {l : List FX} {i n c c' : Nat} {Ai Ai' : Option Addr} (h : LeftAt A l i Ai n c) (hn : 1 ≤ n) (hc : n - 1 ≤ c') (hA : 0 < n - 1 → Ai' = A.map fun a => ⟨a.block, a.off + (i + 1) * 2, none⟩) : LeftAt A l (i + 1) Ai' (n - 1) c' :=
  ⟨by have := h.len; omega, hc, hA⟩
theorem addr_next (g o i : Nat) : (some ⟨g, o + i * 2 + 2, none⟩ : Option Addr) = (some ⟨g, o, none⟩ : Option Addr).map fun a => ⟨a.block, a.off + (i + 1) * 2, none⟩ := by simp only [Option.map_some]; congr 2; omega
theorem pairs_step (a b : List FX) (i j : Nat) (h : i < a.length ∨ j < b.length) :
    (i < a.length ∧ j < b.length ∧ headsV (a.drop i) (b.drop j) = 0 ∧ pairsN ((flsX a).drop i) ((flsX b).drop j) i j = (some i, some j) :: pairsN ((flsX a).drop (i + 1)) ((flsX b).drop (j + 1)) (i + 1) (j + 1)) ∨
    (i < a.length ∧ headsV (a.drop i) (b.drop j) = -1 ∧ pairsN ((flsX a).drop i) ((flsX b).drop j) i j = (some i, none) :: pairsN ((flsX a).drop (i + 1)) ((flsX b).drop j) (i + 1) j) ∨
    (j < b.length ∧ headsV (a.drop i) (b.drop j) = 1 ∧ pairsN ((flsX a).drop i) ((flsX b).drop j) i j = (none, some j) :: pairsN ((flsX a).drop i) ((flsX b).drop (j + 1)) i (j + 1)) := by
  by_cases ha : i < a.length
  · have ea : a.drop i = a[i] :: a.drop (i + 1) := List.drop_eq_getElem_cons ha
    have fa : (flsX a).drop i = a[i].fl :: (flsX a).drop (i + 1) := by unfold flsX; rw [← List.map_drop, ea, List.map_cons, List.map_drop]
    by_cases hb : j < b.length
    · have eb : b.drop j = b[j] :: b.drop (j + 1) := List.drop_eq_getElem_cons hb
      have fb : (flsX b).drop j = b[j].fl :: (flsX b).drop (j + 1) := by unfold flsX; rw [← List.map_drop, eb, List.map_cons, List.map_drop]
      rw [fa, fb, ea, eb, pairsN]
      have hv : headsV (a[i] :: a.drop (i + 1)) (b[j] :: b.drop (j + 1)) = Lib.compareBytes a[i].fl.1 b[j].fl.1 := rfl
      rw [hv]
      rcases cmpB_cases a[i].fl.1 b[j].fl.1 with ⟨h1, h2⟩ | ⟨h1, h2⟩ | ⟨h1, h2⟩
      · refine .inr (.inl ⟨ha, h1, ?_⟩)
        rw [if_neg (by simpa using ltB_ne _ _ h2), if_pos h2]
      · refine .inl ⟨ha, hb, h1, ?_⟩
        rw [if_pos (by simpa using h2)]
      · refine .inr (.inr ⟨hb, h1, ?_⟩)
        rw [if_neg (by simpa using (ltB_ne _ _ h2).symm), if_neg (by rw [ltB_asymm _ _ h2]; simp)]
    · have eb : b.drop j = [] := List.drop_eq_nil_of_le (by omega)
      have fb : (flsX b).drop j = [] := List.drop_eq_nil_of_le (by rw [flsX_length]; omega)
      rw [fa, fb, ea, eb, pairsN]
      exact .inr (.inl ⟨ha, rfl, rfl⟩)
  · have ea : a.drop i = [] := List.drop_eq_nil_of_le (by omega)
    have fa : (flsX a).drop i = [] := List.drop_eq_nil_of_le (by rw [flsX_length]; omega)
    have hb : j < b.length := by omega
    have eb : b.drop j = b[j] :: b.drop (j + 1) := List.drop_eq_getElem_cons hb
    have fb : (flsX b).drop j = b[j].fl :: (flsX b).drop (j + 1) := by unfold flsX; rw [← List.map_drop, eb, List.map_cons, List.map_drop]
    rw [fa, fb, ea, eb, pairsN]
    exact .inr (.inr ⟨hb, rfl, rfl⟩)
def sliceLen : Value → Nat
  | .slice _ n _ => n
  | _ => 0
def pairsX (a b : List FX) : List (Option Nat × Option Nat) := pairsN (flsX a) (flsX b) 0 0
def NoBlock (_ : Nat) : Prop := False
theorem grownB {w w' : World} (h : Below w.heap.size w w') : w.grownBy w' none := ⟨h.os, h.tape, h.output, h.size, fun i hi _ => h.block i hi⟩
theorem AbidesTo.below {β : Type} {T : Nat → Prop} {B : Nat} {J : β → World → Prop} (h : AbidesTo T B J) {s : β} {w w' : World} (hj : J s w) (hb : Below w.heap.size w w') : J s w' := h s w w' none hj (grownB hb) (fun _ e => by cases e)
theorem below_drew0 (w : World) : Below w.heap.size w w.drew := (Below.refl _ w).drew

end Go.Proofs.YtkihgbggndikpaaGreatDoor
