/-
  How what an OWNERS file tells lies in memory: rows of texts, rows of lines of two cells each; and that they stay there. No program is named here.
-/
import Derived.Test.YtckpojkbcbogbaaDoorOwPlain
import Derived.Test.YtckpojkbcbogbaaDoorTMem
namespace Go.Proofs.YtckpojkbcbogbaaDoor
open Go Go.RowKit Go.Shelf Go.Proofs

/-- Texts in a row, wherever it begins. -/
def StrsAt (w : World) (A : Option Addr) (l : List Bs) : Prop := 0 < l.length → ∃ g o, A = some ⟨g, o, none⟩ ∧ ∀ i p, l[i]? = some p → w.cell? ⟨g, o + i, none⟩ = some (.string (mkB p))
theorem StrsAt.nil (w : World) (A : Option Addr) : StrsAt w A [] := fun h => absurd h (by simp)
theorem StrsAt.keep {w w' : World} {A : Option Addr} {l : List Bs} (h : StrsAt w A l) (hk : ∀ g o, A = some ⟨g, o, none⟩ → g < w.heap.size → w'.heap[g]? = w.heap[g]?) : StrsAt w' A l := fun hn => by
  obtain ⟨g, o, e, hc⟩ := h hn
  refine ⟨g, o, e, fun i p hp => ?_⟩
  have h1 := hc i p hp
  have hl : g < w.heap.size := World.block_lt_of_cell? w (a := ⟨g, o + i, none⟩) h1
  exact (World.cell?_of_block (a := ⟨g, o + i, none⟩) (hk g o e hl)).trans h1
theorem StrsAt.below {w w' : World} {A : Option Addr} {l : List Bs} (h : StrsAt w A l) (hb : Below w.heap.size w w') : StrsAt w' A l := h.keep fun g _ _ hg => hb.block g hg
theorem StrsAt.lt {w : World} {l : List Bs} {g o : Nat} {s : Option Nat} (h : StrsAt w (some ⟨g, o, s⟩) l) (hn : 0 < l.length) : s = none ∧ g < w.heap.size ∧ ∀ i p, l[i]? = some p → w.cell? ⟨g, o + i, none⟩ = some (.string (mkB p)) := by
  obtain ⟨g', o', e, hc⟩ := h hn
  simp only [Option.some.injEq, Addr.mk.injEq] at e
  obtain ⟨rfl, rfl, rfl⟩ := e
  exact ⟨rfl, World.block_lt_of_cell? w (a := ⟨g, o + 0, none⟩) (hc 0 _ (List.getElem?_eq_getElem hn)), hc⟩
/-- All blocks are below B. -/
def LowS (B : Nat) (A : Option Addr) (l : List Bs) : Prop := 0 < l.length → ∀ g o s, A = some ⟨g, o, s⟩ → g < B
theorem StrsAt.low {w : World} {A : Option Addr} {l : List Bs} (h : StrsAt w A l) : LowS w.heap.size A l := fun hn g o s e => by
  subst e; exact (h.lt hn).2.1

/-- The same in a block of texts, from base on. -/
def StrsT (base : Nat) (w : World) (A : Option Addr) (l : List Bs) : Prop := 0 < l.length → ∃ g o cur, A = some ⟨g, o, none⟩ ∧ base ≤ g ∧ w.heap[g]? = some (.cells cur 9 (0, 0)) ∧ ∀ i p, l[i]? = some p → cur[o + i]? = some (.string (mkB p))
theorem StrsT.keep {base : Nat} {w w' : World} {A : Option Addr} {l : List Bs} (h : StrsT base w A l) (hk : ∀ g cur, base ≤ g → w.heap[g]? = some (.cells cur 9 (0, 0)) → w'.heap[g]? = w.heap[g]?) : StrsT base w' A l := fun hn => by
  obtain ⟨g, o, cur, e, hb, hg, hc⟩ := h hn
  exact ⟨g, o, cur, e, hb, (hk g cur hb hg).trans hg, hc⟩
theorem StrsT.below {base : Nat} {w w' : World} {A : Option Addr} {l : List Bs} (h : StrsT base w A l) (hb : Below w.heap.size w w') : StrsT base w' A l := h.keep fun g _ _ hg => hb.block g (Array.getElem?_eq_some_iff.1 hg).1
theorem StrsT.at_ {base : Nat} {w : World} {A : Option Addr} {l : List Bs} (h : StrsT base w A l) : StrsAt w A l := fun hn => by
  obtain ⟨g, o, cur, e, _, hg, hc⟩ := h hn
  refine ⟨g, o, e, fun i p hp => ?_⟩
  rw [World.cell?, hg]
  simp [hc i p hp]
theorem StrsT.lower {base base' : Nat} {w : World} {A : Option Addr} {l : List Bs} (h : StrsT base w A l) (hb : base' ≤ base) : StrsT base' w A l := fun hn => by
  obtain ⟨g, o, cur, e, h1, h2⟩ := h hn
  exact ⟨g, o, cur, e, Nat.le_trans hb h1, h2⟩
theorem StrsT.drop {base : Nat} {w : World} {g o : Nat} {l : List Bs} (h : StrsT base w (some ⟨g, o, none⟩) l) (k : Nat) : StrsT base w (some ⟨g, o + k, none⟩) (l.drop k) := fun hn => by
  rw [List.length_drop] at hn
  obtain ⟨g', o', cur, e, h1, h2, hc⟩ := h (by omega)
  simp only [Option.some.injEq, Addr.mk.injEq] at e
  obtain ⟨rfl, rfl, _⟩ := e
  refine ⟨g, o + k, cur, rfl, h1, h2, fun i p hp => ?_⟩
  rw [List.getElem?_drop] at hp
  have := hc _ p hp
  rwa [show o + k + i = o + (k + i) from by omega]

/-- A line in memory: its glob; where its owners lie, their room; the owners. -/
structure LX where
  g : ByteArray
  A : Option Addr
  c : Nat
  ns : List Bs
instance : Inhabited LX := ⟨⟨⟨#[]⟩, none, 0, []⟩⟩
def LX.ln (x : LX) : Ln := (x.g.data.toList, x.ns)
def LX.cs (x : LX) : List Value := [.string x.g, .slice x.A x.ns.length x.c]
def lnsX (l : List LX) : List Ln := l.map LX.ln
theorem lnsX_length (l : List LX) : (lnsX l).length = l.length := by unfold lnsX; simp
theorem lnsX_getElem? (l : List LX) (i : Nat) : (lnsX l)[i]? = l[i]?.map LX.ln := by unfold lnsX; rw [List.getElem?_map]
theorem lnsX_append (a b : List LX) : lnsX (a ++ b) = lnsX a ++ lnsX b := by unfold lnsX; rw [List.map_append]

def RowL (w : World) (g o : Nat) (l : List LX) : Prop := ∀ i x, l[i]? = some x → w.cell? ⟨g, o + i * 2, none⟩ = some (.string x.g) ∧ w.cell? ⟨g, o + i * 2 + 1, none⟩ = some (.slice x.A x.ns.length x.c)
theorem RowL.keep {w w' : World} {g o : Nat} {l : List LX} (h : RowL w g o l) (hk : g < w.heap.size → w'.heap[g]? = w.heap[g]?) : RowL w' g o l := fun i x hx => by
  obtain ⟨h1, h2⟩ := h i x hx
  have hl : g < w.heap.size := World.block_lt_of_cell? w (a := ⟨g, o + i * 2, none⟩) h1
  exact ⟨(World.cell?_of_block (a := ⟨g, o + i * 2, none⟩) (hk hl)).trans h1, (World.cell?_of_block (a := ⟨g, o + i * 2 + 1, none⟩) (hk hl)).trans h2⟩
theorem RowL.below {w w' : World} {g o : Nat} {l : List LX} (h : RowL w g o l) (hb : Below w.heap.size w w') : RowL w' g o l := h.keep fun hg => hb.block g hg

/-- The owners of each line are there. -/
def OwnersAt (w : World) (l : List LX) : Prop := ∀ x ∈ l, StrsAt w x.A x.ns ∧ x.ns.length ≤ x.c ∧ x.c ≤ maxLen
theorem OwnersAt.below {w w' : World} {l : List LX} (h : OwnersAt w l) (hb : Below w.heap.size w w') : OwnersAt w' l := fun x hx => ⟨(h x hx).1.below hb, (h x hx).2⟩
/-- The slice value .slice A n c holds the lines l. -/
structure LinesAt (w : World) (A : Option Addr) (c : Nat) (l : List LX) : Prop where
  cap : l.length ≤ c
  capm : c ≤ maxLen
  row : 0 < l.length → ∃ g o, A = some ⟨g, o, none⟩ ∧ RowL w g o l
  own : OwnersAt w l
theorem LinesAt.below {w w' : World} {A : Option Addr} {c : Nat} {l : List LX} (h : LinesAt w A c l) (hb : Below w.heap.size w w') : LinesAt w' A c l :=
  ⟨h.cap, h.capm, fun hn => by obtain ⟨g, o, e, hr⟩ := h.row hn; exact ⟨g, o, e, hr.below hb⟩, h.own.below hb⟩
theorem LinesAt.nil (w : World) (A : Option Addr) (c : Nat) (hc : c ≤ maxLen) : LinesAt w A c [] := ⟨Nat.zero_le _, hc, fun h => absurd h (by simp), fun x hx => by cases hx⟩
/-- What a value of type Owners tells. -/
def owV (b : Bool) (A : Option Addr) (n c : Nat) : Value := .agg #[.bool b, .slice A n c]
def OwAt (w : World) (v : Value) (o : Ow) : Prop := ∃ A c l, v = owV o.1 A l.length c ∧ LinesAt w A c l ∧ lnsX l = o.2
theorem OwAt.below {w w' : World} {v : Value} {o : Ow} (h : OwAt w v o) (hb : Below w.heap.size w w') : OwAt w' v o := by
  obtain ⟨A, c, l, e, hl, ho⟩ := h
  exact ⟨A, c, l, e, hl.below hb, ho⟩
theorem OwAt.empty (w : World) : OwAt w (owV false none 0 0) emptyO := ⟨none, 0, [], rfl, LinesAt.nil _ _ _ (Nat.zero_le _), rfl⟩
end Go.Proofs.YtckpojkbcbogbaaDoor
