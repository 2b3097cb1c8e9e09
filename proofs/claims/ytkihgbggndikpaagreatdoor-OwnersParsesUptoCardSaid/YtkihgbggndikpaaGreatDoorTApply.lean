/-
  tree.Apply.
-/
import Derived.Test.YtkihgbggndikpaaGreatDoorTChanged
namespace Go.Proofs.YtkihgbggndikpaaGreatDoor
open Go Go.RowKit Go.Shelf Go.Proofs

/-- The slice value .slice A n c holds the changes l. -/
structure DelsAt (w : World) (A : Option Addr) (c : Nat) (l : List DX) : Prop where
  cap : l.length ≤ c
  capm : c ≤ maxLen
  row : 0 < l.length → ∃ g o, A = some ⟨g, o, none⟩ ∧ ∀ i x, l[i]? = some x → w.cell? ⟨g, o + i * 3, none⟩ = some (.int .i64 x.k) ∧ w.cell? ⟨g, o + i * 3 + 1, none⟩ = some (.string x.p) ∧ w.cell? ⟨g, o + i * 3 + 2, none⟩ = some (.slice x.A x.b.length x.c)
  bytes : ∀ x ∈ l, BytesAt w x.A x.b
def SmallD (l : List DX) : Prop := l.length ≤ 10000 ∧ ∀ x ∈ l, x.p.size ≤ 1000000 ∧ x.b.length ≤ 1000000
theorem DelsAt.below {w w' : World} {A : Option Addr} {c : Nat} {l : List DX} (h : DelsAt w A c l) (hb : Below w.heap.size w w') : DelsAt w' A c l := by
  refine ⟨h.cap, h.capm, fun hn => ?_, fun x hx => (h.bytes x hx).below hb⟩
  obtain ⟨g, o, e, hr⟩ := h.row hn
  refine ⟨g, o, e, fun i x hx => ?_⟩
  obtain ⟨h1, h2, h3⟩ := hr i x hx
  have hl : g < w.heap.size := World.block_lt_of_cell? w (a := ⟨g, o + i * 3, none⟩) h1
  exact ⟨(hb.cell (p := ⟨g, o + i * 3, none⟩) hl).trans h1, (hb.cell (p := ⟨g, o + i * 3 + 1, none⟩) hl).trans h2, (hb.cell (p := ⟨g, o + i * 3 + 2, none⟩) hl).trans h3⟩
theorem stepsT_step {t : List Fl} {D : List Dl} {k : Nat} {d : Dl} (hd : D[k]? = some d) : stepsT t (D.drop k) = match stepT t d with
    | .error e => .error e
    | .ok u => stepsT u (D.drop (k + 1)) := by
  obtain ⟨hk, rfl⟩ := List.getElem?_eq_some_iff.1 hd
  rw [List.drop_eq_getElem_cons hk]; rfl

/-- Behind the first k changes: the list m, in a row of the call's own. -/
structure AppInv (w : World) (l : List FX) (D : List DX) (v : Value) (wr : World) (k : Nat) (m : List FX) : Prop where
  own : FilesOwn w.heap.size wr v m
  len : m.length ≤ l.length + k
  bod : BodiesLow w.heap.size w m
  pat : ∀ x ∈ m, x.p.size ≤ 1000000
  bel : Below w.heap.size w wr
  steps : stepsT (flsX l) (D.map DX.dl) = stepsT (flsX m) ((D.map DX.dl).drop k)

theorem AppInv.tree {w wr : World} {l m : List FX} {D : List DX} {A : Option Addr} {n c k : Nat} (h : AppInv w l D (.slice A n c) wr k m) : TreeAt wr A c m :=
  (h.own.tree fun x hx => ((h.bod.below h.bel) x hx).1).2
theorem AppInv.next {w wr w2 w3 : World} {l m : List FX} {D : List DX} {v v' : Value} {k : Nat} {x : DX} (h : AppInv w l D v wr k m) (hx : D[k]? = some x) (h0 : refT (flsX m) x.dl = 0) (hb : BytesAt w x.A x.b) (hs : x.p.size ≤ 1000000 ∧ x.b.length ≤ 1000000)
    (hb2 : Below wr.heap.size wr w2) (ho : FilesOwn w.heap.size w3 v' (chX m x)) (hg : w2.grownBy w3 v.ownBlock) : AppInv w l D v' w3 (k + 1) (chX m x) := by
  have hbel : Below w.heap.size w w2 := h.bel.trans (hb2.mono h.bel.size)
  refine ⟨ho, ?_, fun y hy => ?_, fun y hy => ?_, hbel.grown hg hbel.size fun g e => (h.own.row e).1, ?_⟩
  · have := chX_le m x; have := h.len; omega
  · rcases chX_sub y hy with rfl | hy
    · exact ⟨hb, hb.low, hs.2⟩
    · exact h.bod y hy
  · rcases chX_sub y hy with rfl | hy
    · exact hs.1
    · exact h.pat y hy
  · rw [h.steps, stepsT_step (d := x.dl) (by rw [List.getElem?_map, hx]; rfl), stepT_ref, if_pos h0, chX_fls]
theorem AppInv.fail {w wr : World} {l m : List FX} {D : List DX} {v : Value} {k : Nat} {x : DX} (h : AppInv w l D v wr k m) (hx : D[k]? = some x) (h0 : refT (flsX m) x.dl ≠ 0) : applyT (flsX l) (D.map DX.dl) = .error (refT (flsX m) x.dl) := by
  unfold applyT
  rw [h.steps, stepsT_step (d := x.dl) (by rw [List.getElem?_map, hx]; rfl), stepT_ref, if_neg h0]
theorem AppInv.done {w wr : World} {l m : List FX} {D : List DX} {v : Value} (h : AppInv w l D v wr D.length m) : applyT (flsX l) (D.map DX.dl) = if longT (flsX m) then .error 3 else if rightT (flsX m) then .ok (flsX m) else .error 4 := by
  unfold applyT
  rw [h.steps, List.drop_of_length_le (by rw [List.length_map]; exact Nat.le_refl _)]; rfl

def ApplyPost (w : World) (r : Except Int (List Fl)) (e : Ending) (w' : World) : Prop := match r with
  | .error k => e = .returned (.tuple #[.slice none 0 0, .int .i64 k]) ∧ Below w.heap.size w w'
  | .ok f => ∃ v' l', e = .returned (.tuple #[v', .int .i64 0]) ∧ TreeMade w.heap.size w' v' l' ∧ flsX l' = f ∧ Below w.heap.size w w'

end Go.Proofs.YtkihgbggndikpaaGreatDoor
