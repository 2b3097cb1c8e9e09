/-
  How changes lie in memory that a call made itself: a row of three cells each, their bytes in rows of their own; bytes.Clone in these words.
-/
import Derived.Test.YtkihgbggndikpaaGreatDoorTSame
namespace Go.Proofs.YtkihgbggndikpaaGreatDoor
open Go Go.RowKit Go.Shelf Go.Proofs

/-- A change in memory. -/
structure DX where
  k : Int
  p : ByteArray
  A : Option Addr
  c : Nat
  b : Bs
def DX.dl (x : DX) : Dl := ⟨x.k, x.p.data.toList, x.b⟩
def DX.cs (x : DX) : List Value := [.int .i64 x.k, .string x.p, .slice x.A x.b.length x.c]
def dcells (l : List DX) : List Value := l.flatMap DX.cs
theorem dcells_snoc (l : List DX) (x : DX) : dcells (l ++ [x]) = dcells l ++ x.cs := by unfold dcells; rw [List.flatMap_append]; simp

/-- Bytes in a row of their own. -/
def BytesOwn (W : World) (A : Option Addr) (b : Bs) : Prop := 0 < b.length → ∃ g cur, A = some ⟨g, 0, none⟩ ∧ W.heap[g]? = some (.cells cur 5 (0, 0)) ∧ ∀ i, i < b.length → W.cell? ⟨g, i, none⟩ = some (.int .u8 ((numsB b).getD i 0))
theorem BytesOwn.nil (W : World) (A : Option Addr) : BytesOwn W A [] := fun h => absurd h (by simp)
theorem BytesOwn.at_ {W : World} {A : Option Addr} {b : Bs} (h : BytesOwn W A b) : BytesAt W A b := fun hn => by
  obtain ⟨g, cur, e, _, hc⟩ := h hn
  exact ⟨g, 0, e, fun i hi => by rw [Nat.zero_add]; exact hc i hi⟩
theorem BytesOwn.keep {W W' : World} {A : Option Addr} {b : Bs} (h : BytesOwn W A b) (hk : ∀ (g : Nat) (cur : Array Value), W.heap[g]? = some (Obj.cells cur 5 (0, 0)) → W'.heap[g]? = W.heap[g]?) : BytesOwn W' A b := fun hn => by
  obtain ⟨g, cur, e, hh, hc⟩ := h hn
  have hs := hk g cur hh
  exact ⟨g, cur, e, hs.trans hh, fun i hi => (World.cell?_of_block (a := ⟨g, i, none⟩) hs).trans (hc i hi)⟩
theorem BytesOwn.below {W W' : World} {A : Option Addr} {b : Bs} (h : BytesOwn W A b) (hb : Below W.heap.size W W') : BytesOwn W' A b := h.keep fun g _ hh => hb.block g (Array.getElem?_eq_some_iff.1 hh).1

theorem bclone_any (A : Option Addr) (c : Nat) (b : Bs) (w : World) (h : BytesAt w A b) (hl : b.length ≤ 1000000) :
    Calls Tryz.prog 111 #[.slice A b.length c] w fun e w' => ∃ (A' : Option Addr) (c' : Nat), e = .returned (.slice A' b.length c') ∧ BytesOwn w' A' b ∧ Below w.heap.size w w' := by
  cases A with
  | none =>
    have hn : b = [] := by
      cases b with
      | nil => rfl
      | cons x r => obtain ⟨g, o, e, _⟩ := h (by simp); cases e
    subst hn
    refine (Tryz.bytes_Clone_nil _ _ w).mono ?_
    rintro e w' ⟨rfl, rfl⟩
    exact ⟨none, 0, rfl, BytesOwn.nil _ _, Below.refl _ _⟩
  | some a =>
    refine (Tryz.bytes_Clone_at a b.length c (numsB b) w (numsB_length b) (by omega) (fun i hi => ?_)).mono ?_
    · obtain ⟨g, o, e, hc⟩ := h (by omega)
      cases e
      rw [Go.WideShapes.add_plain]
      exact hc i hi
    · rintro e w' ⟨v', rfl, hown, _, hb⟩
      rcases hown.2 with ⟨rfl, hn⟩ | ⟨g, cap, cur, rfl, _, hh, _, _, _, _⟩
      · have : b = [] := List.eq_nil_of_length_eq_zero hn
        subst this
        exact ⟨none, 0, rfl, BytesOwn.nil _ _, hb⟩
      · refine ⟨some ⟨g, 0, none⟩, cap, rfl, fun _ => ⟨g, cur, rfl, hh, fun i hi => ?_⟩, hb⟩
        have := hown.cells (g := g) rfl i (.int .u8 ((numsB b).getD i 0)) (by
          rw [List.getElem?_map]
          have hl' : i < (numsB b).length := by rw [numsB_length]; exact hi
          simp [List.getD, List.getElem?_eq_getElem hl'])
        rw [Go.WideShapes.add_plain, Nat.zero_add] at this
        exact this

theorem rowT_ge {w : World} {b e size n g : Nat} {v : Value} {xs : List Value} (h : w.ownsRow b e size v n xs) (hg : v.ownBlock = some g) : b ≤ g ∧ ∃ cur : Array Value, w.heap[g]? = some (Obj.cells cur e (0, 0)) := by
  rcases h.2 with ⟨rfl, _⟩ | ⟨g', cap, cur, rfl, hb, hh, _⟩
  · simp [Value.ownBlock] at hg
  · have : g' = g := by simpa [Value.ownBlock] using hg
    subst this
    exact ⟨hb, cur, hh⟩
theorem step_wanted {P : Program} {ops : Array Oper} {o : Oper} {a : Act} {w : World} {K : Act → World → Prop} {Q : Exit → Act → World → Prop} {E : Prop} (hgd : o.guard = none) (h : Oper.wp P o a w K Q) : if Region.wanted o (yielded ops a.tmps) = true then Oper.wp P o a w K Q else E := by
  rw [if_pos (by simp [Region.wanted, hgd])]
  exact h
theorem DX.one {x : DX} : ∀ u ∈ x.cs, u.oneCell' = true := by
  intro u hu
  unfold DX.cs at hu
  simp only [List.mem_cons, List.mem_nil_iff, or_false] at hu
  rcases hu with rfl | rfl | rfl <;> rfl

theorem keepsO_below {W W' : World} (h : Below W.heap.size W W') : KeepsOthers W W' := ⟨h.size, fun k _o hk _ => (h.block k (Array.getElem?_eq_some_iff.1 hk).1).trans hk⟩
end Go.Proofs.YtkihgbggndikpaaGreatDoor
