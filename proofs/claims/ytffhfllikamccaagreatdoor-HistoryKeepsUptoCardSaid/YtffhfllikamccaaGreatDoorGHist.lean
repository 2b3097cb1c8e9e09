/-
  A history in memory, with all its records: its names, its commits, its map and records; that it stays.
-/
import Derived.Test.YtffhfllikamccaaGreatDoorGRecs
import Derived.Test.YtffhfllikamccaaGreatDoorTLawKnown
import Derived.Test.YtffhfllikamccaaGreatDoorTApply
namespace Go.Proofs.YtffhfllikamccaaGreatDoor
open Go Go.RowKit Go.Shelf Go.Proofs Go.ChangeMaps Go.Maps Go.WideMaps

theorem FilesOwn.keepG {base : Nat} {w w' : World} {v : Value} {l : List FX} {row : Option Nat} (h : FilesOwn base w v l) (hg : w.grownBy w' row) (hr : ∀ g, row = some g → ∀ cur : Array Value, w.heap[g]? ≠ some (Obj.cells cur 65 (0, 0))) : FilesOwn base w' v l := by
  refine World.ownsRow.kept h hg ?_
  cases e : v.ownBlock with
  | none => exact .inl rfl
  | some g =>
    refine .inr fun e2 => ?_
    obtain ⟨_, cur, hh⟩ := h.row e
    exact hr g e2.symm cur hh
theorem FilesOwn.base {base base' : Nat} {w : World} {v : Value} {l : List FX} (h : FilesOwn base w v l) (hb : base' ≤ base) : FilesOwn base' w v l := by
  refine ⟨h.1, ?_⟩
  rcases h.2 with h1 | ⟨g, cap, cur, h2, h3, h4⟩
  · exact .inl h1
  · exact .inr ⟨g, cap, cur, h2, Nat.le_trans hb h3, h4⟩

theorem NInv.revs {w : World} {hb mb G k0 : Nat} {D : DataW Unit} {L : List DX} {r : Nat} {wr : World} (h : NInv w hb mb G k0 D L (r : Int) L.length wr) {M : Bs → Nat} (hR : RevsAt 85 wr D M) (hD : IsMap D) :
    RevsAt 85 wr (laidS D G (L.map fun x => x.p.data.toList) L.length) (fun s => if s ∈ (L.map fun x => x.p.data.toList) then r else M s) := by
  obtain ⟨cur, hc, _⟩ := h.blk
  have h1 := RevsAt.laid (r := r) (ps := L.map fun x => x.p.data.toList) hR hD hc (fun j hj => by
    rw [List.length_map] at hj
    obtain ⟨A', c', h2, _⟩ := h.recs j L[j] hj (List.getElem?_eq_getElem hj)
    exact (cell_of_row wr G (j * 5 + 3) _ _ _ hc).symm.trans h2.rev)
  rw [List.length_map] at h1
  exact h1

/-- The history at block hb: n commits; the names nm; in which revision each path was changed last. All of it lies from block base on. -/
structure HistAt (base : Nat) (w : World) (hb n : Nat) (nm : List FX) (M : Bs → Nat) (nv cv : Value) (mb k : Nat) (D : DataW Unit) (H : List (Nat × List DX)) : Prop where
  heap : w.heap[hb]? = some (.cells #[nv, cv, .map (some mb)] 74 (0, 0))
  names : FilesOwn 0 w nv nm
  right : rightT (flsX nm) = true
  bare : ∀ x ∈ nm, x.A = none ∧ x.b = []
  commits : w.ownsRow base 75 1 cv n (rowsV H)
  num : H.length = n + 1
  full : RevsF w H D
  sm : ∀ x ∈ H, SmallD x.2
  map : MapAt w mb k D
  room : k ≤ 10000 * (n + 1)
  revs : RevsAt 85 w D M
  le : ∀ s, M s ≤ n
  lb : base ≤ hb
  lm : base ≤ mb
theorem HistAt.below {base : Nat} {w w' : World} {hb n : Nat} {nm : List FX} {M : Bs → Nat} {nv cv : Value} {mb k : Nat} {D : DataW Unit} {H : List (Nat × List DX)} (h : HistAt base w hb n nm M nv cv mb k D H) (hbl : Below w.heap.size w w') : HistAt base w' hb n nm M nv cv mb k D H := by
  refine ⟨(hbl.block hb (Array.getElem?_eq_some_iff.1 h.heap).1).trans h.heap, h.names.below hbl, h.right, h.bare, ?_, h.num, h.full.below hbl, h.sm, h.map.below hbl, h.room, h.revs.below hbl, h.le, h.lb, h.lm⟩
  exact h.commits.kept (row := none) ⟨hbl.os, hbl.tape, hbl.output, hbl.size, fun k hk _ => hbl.block k hk⟩ (by cases cv.ownBlock <;> simp)
theorem HistAt.tree {base : Nat} {w : World} {hb n : Nat} {nm : List FX} {M : Bs → Nat} {nv cv : Value} {mb k : Nat} {D : DataW Unit} {H : List (Nat × List DX)} (h : HistAt base w hb n nm M nv cv mb k D H) : ∃ A c, nv = .slice A nm.length c ∧ TreeAt w A c nm := by
  obtain ⟨A, c, e⟩ := h.names.slice
  subst e
  exact ⟨A, c, rfl, (h.names.tree fun x hx => by obtain ⟨_, h2⟩ := h.bare x hx; rw [h2]; exact BytesAt.nil _ _).2⟩
theorem HistAt.small {base : Nat} {w : World} {hb n : Nat} {nm : List FX} {M : Bs → Nat} {nv cv : Value} {mb k : Nat} {D : DataW Unit} {H : List (Nat × List DX)} (h : HistAt base w hb n nm M nv cv mb k D H) : SmallX nm ∧ nm.length ≤ 1000 := by
  have h1 := right_len h.right
  rw [flsX_length] at h1
  refine ⟨⟨by omega, fun x hx => ?_⟩, h1⟩
  have h2 := right_ok h.right x.fl (List.mem_map_of_mem hx)
  have h3 : x.p.data.toList.length ≤ 100 := by
    have h4 : rightB x.p.data.toList = true := h2.1
    unfold rightB partsB at h4
    simp only [Bool.and_eq_true, decide_eq_true_eq] at h4
    exact h4.1
  have e : x.p.data.toList.length = x.p.size := by rw [Array.length_toList]; rfl
  refine ⟨by omega, ?_⟩
  have h5 : x.b.length ≤ 65536 := h2.2
  omega
theorem HistAt.commit_slice {base : Nat} {w : World} {hb n : Nat} {nm : List FX} {M : Bs → Nat} {nv cv : Value} {mb k : Nat} {D : DataW Unit} {H : List (Nat × List DX)} (h : HistAt base w hb n nm M nv cv mb k D H) : ∃ A c, cv = .slice A n c ∧ c ≤ maxLen := by
  rcases h.commits.2 with ⟨rfl, h0⟩ | ⟨g, cap, cur, rfl, _, _, _, hc, _⟩
  · exact ⟨none, 0, by rw [h0], Nat.zero_le _⟩
  · exact ⟨_, _, rfl, hc⟩
end Go.Proofs.YtffhfllikamccaaGreatDoor
