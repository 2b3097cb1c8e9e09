/-
  All records of a history in memory: revision by revision; the chain of each path's records.
-/
import Derived.Test.YtffhfllikamccaaGreatDoorHN
namespace Go.Proofs.YtffhfllikamccaaGreatDoor
open Go Go.RowKit Go.Shelf Go.Proofs Go.ChangeMaps Go.Maps Go.WideMaps

def pathsX (L : List DX) : List Bs := L.map fun x => x.p.data.toList
/-- The records of one revision: at block G; D: what the map held ahead of them. -/
structure RevAt (w : World) (G : Nat) (L : List DX) (r : Nat) (D : DataW Unit) : Prop where
  blk : ∃ cur, w.heap[G]? = some (.cells cur 85 (0, 0)) ∧ cur.size = L.length * 5
  recs : ∀ j x, L[j]? = some x → ∃ (A' : Option Addr) (c' : Nat), RecAt w G (j * 5) x.k x.p A' x.b.length c' (r : Int) (ptrOf (atS (laidS D G (pathsX L) j) x.p.data.toList)) ∧ BytesOwn w A' x.b
/-- All revisions, the last first; D: what the map holds. -/
def RevsF (w : World) : List (Nat × List DX) → DataW Unit → Prop
  | [], D => D = .map []
  | (G, L) :: H, D => ∃ D', RevsF w H D' ∧ RevAt w G L H.length D' ∧ D = laidS D' G (pathsX L) L.length
/-- The rows of the revisions but the first. -/
def rowsV (H : List (Nat × List DX)) : List Value := H.dropLast.reverse.map fun x => .slice (some ⟨x.1, 0, none⟩) x.2.length x.2.length
/-- What blocks of cells hold stays, but histories and rows of rows of records. -/
def KeepR (w w' : World) : Prop := ∀ (g : Nat) (cur : Array Value) (t : TypeId), t ≠ 74 ∧ t ≠ 75 → ∀ {mk : Nat × Nat}, w.heap[g]? = some (.cells cur t mk) → w'.heap[g]? = w.heap[g]?
theorem KeepR.below {w w' : World} (h : Below w.heap.size w w') : KeepR w w' := fun g _ _ _ _ hg => h.block g (Array.getElem?_eq_some_iff.1 hg).1
theorem KeepR.grown {w w' : World} {row : Option Nat} (h : w.grownBy w' row) (hr : ∀ (g : Nat) (cur : Array Value) (t : TypeId), row = some g → t ≠ 74 ∧ t ≠ 75 → ∀ {mk : Nat × Nat}, w.heap[g]? ≠ some (Obj.cells cur t mk)) : KeepR w w' := fun g cur t ht _ hg =>
  h.block g (Array.getElem?_eq_some_iff.1 hg).1 (fun e => hr g cur t e.symm ht hg)
theorem KeepR.trans {a b c : World} (h : KeepR a b) (k : KeepR b c) : KeepR a c := fun g cur t ht _ hg => (k g cur t ht ((h g cur t ht hg).trans hg)).trans (h g cur t ht hg)
/-- What maps hold stays, but block m. -/
def KeepM (m : Nat) (w w' : World) : Prop := ∀ (g : Nat) (es : Array MapEntry) (ck : Nat), g ≠ m → w.heap[g]? = some (.map es ck) → w'.heap[g]? = w.heap[g]?
theorem KeepM.below {m : Nat} {w w' : World} (h : Below w.heap.size w w') : KeepM m w w' := fun g _ _ _ hg => h.block g (Array.getElem?_eq_some_iff.1 hg).1
theorem KeepM.trans {m : Nat} {a b c : World} (h : KeepM m a b) (k : KeepM m b c) : KeepM m a c := fun g es ck hn hg => (k g es ck hn ((h g es ck hn hg).trans hg)).trans (h g es ck hn hg)
theorem KeepM.grown {m : Nat} {w w' : World} {row : Option Nat} (h : w.grownBy w' row) (hr : ∀ g, row = some g → g = m ∨ ∃ cur t fr, w.heap[g]? = some (Obj.cells cur t fr)) : KeepM m w w' := fun g es ck hn hg =>
  h.block g (Array.getElem?_eq_some_iff.1 hg).1 (fun e => by
    rcases hr g e.symm with h | ⟨cur, t, fr, h⟩
    · exact hn h
    · rw [hg] at h; cases h)
/-- What blocks of records, and of bodies, hold stays. -/
def KeepB (w w' : World) : Prop := ∀ (g : Nat) (cur : Array Value) (t : TypeId), t = 85 ∨ t = 5 → w.heap[g]? = some (.cells cur t (0, 0)) → w'.heap[g]? = w.heap[g]?
theorem KeepR.b {w w' : World} (h : KeepR w w') : KeepB w w' := fun g cur t ht hg => h g cur t (by rcases ht with rfl | rfl <;> decide) hg
theorem RevAt.keepB {w w' : World} {G : Nat} {L : List DX} {r : Nat} {D : DataW Unit} (h : RevAt w G L r D) (hk : KeepB w w') : RevAt w' G L r D := by
  obtain ⟨cur, hc, hs⟩ := h.blk
  refine ⟨⟨cur, (hk G cur _ (.inl rfl) hc).trans hc, hs⟩, fun j x hx => ?_⟩
  obtain ⟨A', c', h1, h2⟩ := h.recs j x hx
  exact ⟨A', c', h1.keep fun _ => hk G cur _ (.inl rfl) hc, h2.keep fun g cur2 hg => hk g cur2 _ (.inr rfl) hg⟩
theorem RevsF.keepB {w w' : World} (hk : KeepB w w') : ∀ {H : List (Nat × List DX)} {D : DataW Unit}, RevsF w H D → RevsF w' H D
  | [], _, h => h
  | (_, _) :: _, _, ⟨D', h1, h2, h3⟩ => ⟨D', h1.keepB hk, h2.keepB hk, h3⟩
theorem RevAt.keep {w w' : World} {G : Nat} {L : List DX} {r : Nat} {D : DataW Unit} (h : RevAt w G L r D) (hk : KeepR w w') : RevAt w' G L r D := h.keepB hk.b
theorem RevsF.keep {w w' : World} (hk : KeepR w w') {H : List (Nat × List DX)} {D : DataW Unit} (h : RevsF w H D) : RevsF w' H D := h.keepB hk.b
theorem RevsF.below {w w' : World} {H : List (Nat × List DX)} {D : DataW Unit} (h : RevsF w H D) (hb : Below w.heap.size w w') : RevsF w' H D := h.keep (KeepR.below hb)
theorem NInv.rev {w : World} {hb mb G k0 : Nat} {D : DataW Unit} {L : List DX} {r : Nat} {wr : World} (h : NInv w hb mb G k0 D L (r : Int) L.length wr) : RevAt wr G L r D := by
  refine ⟨h.blk, fun j x hx => h.recs j x (List.getElem?_eq_some_iff.1 hx).1 hx⟩

/-- A record, as a path's chain tells it. -/
structure RX where
  r : Nat
  k : Int
  p : ByteArray
  b : Bs
def recX (r : Nat) (x : DX) : RX := ⟨r, x.k, x.p, x.b⟩
/-- The records of a path, the last first. -/
def chainL (r : Nat) (L : List DX) (s : Bs) : List RX := ((L.filter fun x => x.p.data.toList == s).map (recX r)).reverse
def chain : List (Nat × List DX) → Bs → List RX
  | [], _ => []
  | (_, L) :: H, s => chainL H.length L s ++ chain H s
def ChainAt (w : World) : List RX → Value → Prop
  | [], v => v = .pointer none
  | x :: c, v => ∃ G o A n bv, v = .pointer (some ⟨G, o, none⟩) ∧ RecAt w G o x.k x.p A x.b.length n (x.r : Int) bv ∧ BytesOwn w A x.b ∧ ChainAt w c bv
theorem chain_laid {w : World} {G : Nat} {L : List DX} {r : Nat} {D : DataW Unit} (hD : Maps.IsMap D) (h : RevAt w G L r D) (s : Bs) (c : List RX) (h0 : ChainAt w c (ptrOf (atS D s))) :
    ∀ k, k ≤ L.length → ChainAt w (chainL r (L.take k) s ++ c) (ptrOf (atS (laidS D G (pathsX L) k) s))
  | 0, _ => h0
  | k + 1, hk => by
    have ih := chain_laid hD h s c h0 k (by omega)
    obtain ⟨x, hx⟩ : ∃ x, L[k]? = some x := ⟨_, List.getElem?_eq_getElem (by omega)⟩
    have hp : (pathsX L).getD k [] = x.p.data.toList := by unfold pathsX; rw [List.getD_eq_getElem?_getD, List.getElem?_map, hx]; rfl
    show ChainAt w _ (ptrOf (atS (putS (laidS D G (pathsX L) k) ((pathsX L).getD k []) (addrOf G (k * 5))) s))
    rw [atS_put (laidS_isMap hD G _ k), hp, List.take_add_one, hx]
    by_cases e : s = x.p.data.toList
    · rw [if_pos e, ptrOf_addr]
      subst e
      obtain ⟨A', c', h1, h2⟩ := h.recs k x hx
      have e2 : chainL r (L.take k ++ (some x).toList) x.p.data.toList = recX r x :: chainL r (L.take k) x.p.data.toList := by
        unfold chainL
        simp [List.filter_append]
      rw [e2]
      exact ⟨G, k * 5, A', c', _, rfl, h1, h2, ih⟩
    · rw [if_neg e]
      have e2 : chainL r (L.take k ++ (some x).toList) s = chainL r (L.take k) s := by
        unfold chainL
        have : (x.p.data.toList == s) = false := by rw [beq_eq_false_iff_ne]; exact fun h => e h.symm
        simp [List.filter_append, this]
      rw [e2]
      exact ih
theorem RevsF.isMap {w : World} : ∀ {H : List (Nat × List DX)} {D : DataW Unit}, RevsF w H D → Maps.IsMap D
  | [], _, h => by rw [show _ = _ from h]; exact Maps.isMap_empty
  | (G, L) :: _, _, ⟨_, h1, _, h3⟩ => by rw [h3]; exact laidS_isMap h1.isMap G _ _
/-- The map leads to each path's chain. -/
theorem RevsF.chain {w : World} : ∀ {H : List (Nat × List DX)} {D : DataW Unit}, RevsF w H D → ∀ s, ChainAt w (chain H s) (ptrOf (atS D s))
  | [], _, h, s => by rw [show _ = _ from h]; rfl
  | (G, L) :: H, _, ⟨D', h1, h2, h3⟩, s => by
    have := chain_laid h1.isMap h2 s _ (h1.chain s) L.length (Nat.le_refl _)
    rw [List.take_length] at this
    rw [h3]
    exact this
end Go.Proofs.YtffhfllikamccaaGreatDoor
