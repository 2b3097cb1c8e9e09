/-
  How a history lies in memory: a map from paths to records; records of five cells; what the map holds behind some changes. No program is named here.
-/
import Derived.Test.YtffhfllikamccaaGreatDoorTMem
import Derived.Maps.Views
import Derived.Maps.OwnOps
namespace Go.Proofs.YtffhfllikamccaaGreatDoor
open Go Go.RowKit Go.Shelf Go.Proofs Go.ChangeMaps

/-- How a pointer to a record reads: nil, or where it leads to. -/
def addrOf (g o : Nat) : DataW Unit := .agg [.lit (.int .i64 (g : Int)), .lit (.int .i64 (o : Int))]
def ptrD : Value → Option (DataW Unit × List MemPlace)
  | .pointer none => some (.nil, [])
  | .pointer (some ⟨g, o, none⟩) => some (addrOf g o, [])
  | _ => none
theorem addrOf_inj {g o g' o' : Nat} (h : addrOf g o = addrOf g' o') : g = g' ∧ o = o' := by
  unfold addrOf at h
  simp only [DataW.agg.injEq, List.cons.injEq, DataW.lit.injEq, Lit.int.injEq, true_and, and_true] at h
  omega
theorem addrOf_ne {g o : Nat} : addrOf g o ≠ .nil := by unfold addrOf; simp
theorem ptrD_nil {v : Value} {ps : List MemPlace} (h : ptrD v = some (.nil, ps)) : v = .pointer none := by
  unfold ptrD at h
  split at h
  · rfl
  · simp [addrOf] at h
  · cases h
theorem ptrD_addr {v : Value} {g o : Nat} {ps : List MemPlace} (h : ptrD v = some (addrOf g o, ps)) : v = .pointer (some ⟨g, o, none⟩) := by
  unfold ptrD at h
  split at h
  · simp [addrOf] at h
  · simp only [Option.some.injEq, Prod.mk.injEq] at h
    obtain ⟨rfl, rfl⟩ := addrOf_inj h.1
    rfl
  · cases h
/-- The pointer that reads so. -/
def ptrOf : DataW Unit → Value
  | .agg [.lit (.int _ g), .lit (.int _ o)] => .pointer (some ⟨g.toNat, o.toNat, none⟩)
  | _ => .pointer none
theorem ptrOf_ptr (d : DataW Unit) : ∃ q, ptrOf d = .pointer q := by
  unfold ptrOf
  split
  · exact ⟨_, rfl⟩
  · exact ⟨_, rfl⟩
theorem ptrOf_addr (g o : Nat) : ptrOf (addrOf g o) = .pointer (some ⟨g, o, none⟩) := by simp [ptrOf, addrOf]
theorem ptrOf_of {v : Value} {d : DataW Unit} {ps : List MemPlace} (h : ptrD v = some (d, ps)) : v = ptrOf d := by
  unfold ptrD at h
  split at h
  · cases h; rfl
  · cases h; rw [ptrOf_addr]
  · cases h
theorem ptrD_some (g o : Nat) : ptrD (.pointer (some ⟨g, o, none⟩)) = some (addrOf g o, []) := rfl

/-- What the map holds at a path. -/
def atS (D : DataW Unit) (s : Bs) : DataW Unit := D.atKey (.string s) .nil
def putS (D : DataW Unit) (s : Bs) (d : DataW Unit) : DataW Unit := D.put (.string s) d
theorem atS_put {D : DataW Unit} (hD : Maps.IsMap D) (s t : Bs) (d : DataW Unit) : atS (putS D s d) t = if t = s then d else atS D t := by
  unfold atS putS
  by_cases h : t = s
  · subst h
    rw [if_pos rfl]
    exact Maps.atKey_put_same hD (by simp [WideAt.IsKeyLit]) d _
  · rw [if_neg h]
    exact Maps.atKey_put_other (fun e => h (by simpa using e)) d _
theorem atS_empty (s : Bs) : atS (.map []) s = .nil := rfl

/-- What the map holds when the first k of some paths have been laid, the j-th at place 5 j of block G. -/
def laidS (D : DataW Unit) (G : Nat) (ps : List Bs) : Nat → DataW Unit
  | 0 => D
  | k + 1 => putS (laidS D G ps k) (ps.getD k []) (addrOf G (k * 5))
theorem laidS_isMap {D : DataW Unit} (hD : Maps.IsMap D) (G : Nat) (ps : List Bs) : ∀ k, Maps.IsMap (laidS D G ps k)
  | 0 => hD
  | k + 1 => (laidS_isMap hD G ps k).put _ _
theorem laidS_other {D : DataW Unit} (hD : Maps.IsMap D) (G : Nat) {ps : List Bs} {s : Bs} : ∀ {k : Nat}, k ≤ ps.length → s ∉ ps.take k → atS (laidS D G ps k) s = atS D s
  | 0, _, _ => rfl
  | k + 1, hk, hn => by
    have h1 : ps[k]? = some ps[k] := List.getElem?_eq_getElem (by omega)
    rw [List.take_add_one, h1] at hn
    simp only [Option.toList, List.mem_append, List.mem_singleton, not_or] at hn
    show atS (putS _ _ _) s = _
    rw [atS_put (laidS_isMap hD G ps k), if_neg (by rw [List.getD_eq_getElem?_getD, h1]; exact hn.2), laidS_other hD G (by omega) hn.1]
theorem laidS_hit {D : DataW Unit} (hD : Maps.IsMap D) (G : Nat) {ps : List Bs} {s : Bs} : ∀ {k : Nat}, k ≤ ps.length → s ∈ ps.take k → ∃ j, j < k ∧ ps[j]? = some s ∧ atS (laidS D G ps k) s = addrOf G (j * 5)
  | 0, _, h => by simp at h
  | k + 1, hk, h => by
    have h1 : ps[k]? = some ps[k] := List.getElem?_eq_getElem (by omega)
    show ∃ j, j < k + 1 ∧ ps[j]? = some s ∧ atS (putS _ _ _) s = _
    rw [atS_put (laidS_isMap hD G ps k), List.getD_eq_getElem?_getD, h1]
    by_cases e : s = ps[k]
    · subst e
      exact ⟨k, by omega, h1, if_pos rfl⟩
    · rw [List.take_add_one, h1] at h
      simp only [Option.toList, List.mem_append, List.mem_singleton] at h
      obtain ⟨j, hj, h2, h3⟩ := laidS_hit hD G (by omega) (h.resolve_right e)
      exact ⟨j, by omega, h2, by rw [Option.getD_some, if_neg e]; exact h3⟩

/-- The record at place o of block g: its change, its revision, and what is ahead of it. -/
structure RecAt (w : World) (g o : Nat) (k : Int) (p : ByteArray) (A : Option Addr) (n c : Nat) (rev : Int) (bv : Value) : Prop where
  kind : w.cell? ⟨g, o, none⟩ = some (.int .i64 k)
  path : w.cell? ⟨g, o + 1, none⟩ = some (.string p)
  body : w.cell? ⟨g, o + 2, none⟩ = some (.slice A n c)
  rev : w.cell? ⟨g, o + 3, none⟩ = some (.int .i64 rev)
  before : w.cell? ⟨g, o + 4, none⟩ = some bv
theorem RecAt.keep {w w' : World} {g o : Nat} {k : Int} {p : ByteArray} {A : Option Addr} {n c : Nat} {rev : Int} {bv : Value} (h : RecAt w g o k p A n c rev bv) (hk : g < w.heap.size → w'.heap[g]? = w.heap[g]?) : RecAt w' g o k p A n c rev bv := by
  have hl : g < w.heap.size := World.block_lt_of_cell? w (a := ⟨g, o, none⟩) h.kind
  have e : ∀ j, w'.cell? ⟨g, j, none⟩ = w.cell? ⟨g, j, none⟩ := fun j => World.cell?_of_block (a := ⟨g, j, none⟩) (hk hl)
  exact ⟨(e _).trans h.kind, (e _).trans h.path, (e _).trans h.body, (e _).trans h.rev, (e _).trans h.before⟩

/-- Which revision each path was changed in last, as the map and its records (in blocks of the type tr) tell it. -/
def RevsAt (tr : TypeId) (w : World) (D : DataW Unit) (M : Bs → Nat) : Prop := ∀ s, (atS D s = .nil ∧ M s = 0) ∨ ∃ g o cur, atS D s = addrOf g o ∧ w.heap[g]? = some (.cells cur tr (0, 0)) ∧ cur[o + 3]? = some (.int .i64 (M s : Int))
theorem RevsAt.keep {tr : TypeId} {w w' : World} {D : DataW Unit} {M : Bs → Nat} (h : RevsAt tr w D M) (hk : ∀ (g : Nat) (cur : Array Value), w.heap[g]? = some (.cells cur tr (0, 0)) → w'.heap[g]? = w.heap[g]?) : RevsAt tr w' D M := fun s => by
  rcases h s with h | ⟨g, o, cur, h1, h2, h3⟩
  · exact .inl h
  · exact .inr ⟨g, o, cur, h1, (hk g cur h2).trans h2, h3⟩
theorem RevsAt.below {tr : TypeId} {w w' : World} {D : DataW Unit} {M : Bs → Nat} (h : RevsAt tr w D M) (hb : Below w.heap.size w w') : RevsAt tr w' D M := h.keep fun g _ hg => hb.block g (Array.getElem?_eq_some_iff.1 hg).1
/-- Behind the records of one more revision. -/
theorem RevsAt.laid {tr : TypeId} {w : World} {D : DataW Unit} {M : Bs → Nat} {G r : Nat} {cur : Array Value} {ps : List Bs} (h : RevsAt tr w D M) (hD : Maps.IsMap D) (hG : w.heap[G]? = some (.cells cur tr (0, 0))) (hr : ∀ j, j < ps.length → cur[j * 5 + 3]? = some (.int .i64 (r : Int))) :
    RevsAt tr w (laidS D G ps ps.length) (fun s => if s ∈ ps then r else M s) := fun s => by
  by_cases hs : s ∈ ps
  · obtain ⟨j, hj, h1, h2⟩ := laidS_hit hD G (k := ps.length) (Nat.le_refl _) (by rw [List.take_length]; exact hs)
    exact .inr ⟨G, j * 5, cur, h2, hG, by simp only [if_pos hs]; exact hr j hj⟩
  · rw [laidS_other hD G (Nat.le_refl _) (by rw [List.take_length]; exact hs)]
    simp only [if_neg hs]
    exact h s
end Go.Proofs.YtffhfllikamccaaGreatDoor
