/-
  How rules lie in memory: rows of four cells each; and that they stay there. No program is named here.
-/
import Derived.Test.YthkbpophckjdnaaDoorRlPlain
import Derived.Test.YthkbpophckjdnaaDoorOwMem
namespace Go.Proofs.YthkbpophckjdnaaDoor
open Go Go.RowKit Go.Shelf Go.Proofs

/-- A rule in memory. -/
structure RX where
  k : Int
  g : ByteArray
  o : ByteArray
  n : ByteArray
instance : Inhabited RX := ⟨⟨0, ⟨#[]⟩, ⟨#[]⟩, ⟨#[]⟩⟩⟩
def RX.ru (x : RX) : Ru := ⟨x.k, x.g.data.toList, x.o.data.toList, x.n.data.toList⟩
def RX.cs (x : RX) : List Value := [.int .i64 x.k, .string x.g, .string x.o, .string x.n]
def RX.v (x : RX) : Value := .agg #[.int .i64 x.k, .string x.g, .string x.o, .string x.n]
def Ru.rx (r : Ru) : RX := ⟨r.k, mkB r.g, mkB r.o, mkB r.n⟩
theorem rx_ru (r : Ru) : r.rx.ru = r := by simp [Ru.rx, RX.ru, mkB_data]
theorem ru_rx (x : RX) : x.ru.rx = x := by simp [Ru.rx, RX.ru, data_mkB]
def rusX (l : List RX) : List Ru := l.map RX.ru
theorem rusX_length (l : List RX) : (rusX l).length = l.length := by unfold rusX; simp
theorem rusX_getElem? (l : List RX) (i : Nat) : (rusX l)[i]? = l[i]?.map RX.ru := by unfold rusX; rw [List.getElem?_map]
theorem rusX_append (a b : List RX) : rusX (a ++ b) = rusX a ++ rusX b := by unfold rusX; rw [List.map_append]
theorem rusX_inj {a b : List RX} (h : rusX a = rusX b) : a = b := by
  have e : ∀ l : List RX, (rusX l).map Ru.rx = l := fun l => by
    unfold rusX
    rw [List.map_map]
    have : (Ru.rx ∘ RX.ru) = id := funext fun x => ru_rx x
    rw [this, List.map_id]
  rw [← e a, h, e]
def rxsU (l : List Ru) : List RX := l.map Ru.rx
theorem rusX_rxs (l : List Ru) : rusX (rxsU l) = l := by
  unfold rusX rxsU
  rw [List.map_map]
  have : (RX.ru ∘ Ru.rx) = id := funext fun x => rx_ru x
  rw [this, List.map_id]

def RowU (w : World) (g o : Nat) (l : List RX) : Prop := ∀ i x, l[i]? = some x → w.cell? ⟨g, o + i * 4, none⟩ = some (.int .i64 x.k) ∧ w.cell? ⟨g, o + i * 4 + 1, none⟩ = some (.string x.g) ∧ w.cell? ⟨g, o + i * 4 + 2, none⟩ = some (.string x.o) ∧ w.cell? ⟨g, o + i * 4 + 3, none⟩ = some (.string x.n)
theorem RowU.keep {w w' : World} {g o : Nat} {l : List RX} (h : RowU w g o l) (hk : g < w.heap.size → w'.heap[g]? = w.heap[g]?) : RowU w' g o l := fun i x hx => by
  obtain ⟨h1, h2, h3, h4⟩ := h i x hx
  have hl : g < w.heap.size := World.block_lt_of_cell? w (a := ⟨g, o + i * 4, none⟩) h1
  exact ⟨(World.cell?_of_block (a := ⟨g, o + i * 4, none⟩) (hk hl)).trans h1, (World.cell?_of_block (a := ⟨g, o + i * 4 + 1, none⟩) (hk hl)).trans h2, (World.cell?_of_block (a := ⟨g, o + i * 4 + 2, none⟩) (hk hl)).trans h3, (World.cell?_of_block (a := ⟨g, o + i * 4 + 3, none⟩) (hk hl)).trans h4⟩
theorem RowU.below {w w' : World} {g o : Nat} {l : List RX} (h : RowU w g o l) (hb : Below w.heap.size w w') : RowU w' g o l := h.keep fun hg => hb.block g hg
/-- The slice value .slice A n c holds the rules l. -/
structure RulesAt (w : World) (A : Option Addr) (c : Nat) (l : List RX) : Prop where
  cap : l.length ≤ c
  capm : c ≤ maxLen
  row : 0 < l.length → ∃ g o, A = some ⟨g, o, none⟩ ∧ RowU w g o l
theorem RulesAt.below {w w' : World} {A : Option Addr} {c : Nat} {l : List RX} (h : RulesAt w A c l) (hb : Below w.heap.size w w') : RulesAt w' A c l :=
  ⟨h.cap, h.capm, fun hn => by obtain ⟨g, o, e, hr⟩ := h.row hn; exact ⟨g, o, e, hr.below hb⟩⟩
theorem RulesAt.nil (w : World) (A : Option Addr) (c : Nat) (hc : c ≤ maxLen) : RulesAt w A c [] := ⟨Nat.zero_le _, hc, fun h => absurd h (by simp)⟩
/-- A part of a row of rules. -/
theorem RulesAt.part {w : World} {g o c : Nat} {l : List RX} (h : RulesAt w (some ⟨g, o, none⟩) c l) (i n : Nat) (hn : i + n ≤ l.length) : RulesAt w (some ⟨g, o + i * 4, none⟩) (c - i) ((l.drop i).take n) := by
  have hc := h.cap
  refine ⟨by rw [List.length_take, List.length_drop]; omega, by have := h.capm; omega, fun h0 => ?_⟩
  rw [List.length_take, List.length_drop] at h0
  obtain ⟨g', o', e, hr⟩ := h.row (by omega)
  cases e
  refine ⟨g, o + i * 4, rfl, fun j x hx => ?_⟩
  have hj : j < n := by
    have := (List.getElem?_eq_some_iff.1 hx).1
    rw [List.length_take] at this; omega
  rw [List.getElem?_take, if_pos hj, List.getElem?_drop] at hx
  have := hr (i + j) x hx
  rwa [show o + i * 4 + j * 4 = o + (i + j) * 4 from by omega]
/-- What Parse answers: the error, the rules. -/
def RlPost (r : Int × List Ru) (w : World) (e : Ending) (w' : World) : Prop := ∃ A c l, e = .returned (.tuple #[.slice A (List.length l) c, .int .i64 r.1]) ∧ RulesAt w' A c l ∧ rusX l = r.2 ∧ Below w.heap.size w w'
def rcells (l : List RX) : List Value := l.flatMap RX.cs
theorem rcells_length (l : List RX) : (rcells l).length = l.length * 4 := by
  unfold rcells
  induction l with
  | nil => rfl
  | cons x r ih => rw [List.flatMap_cons, List.length_append, ih, List.length_cons]; simp only [RX.cs, List.length_cons, List.length_nil]; omega
theorem rcells_append (a b : List RX) : rcells (a ++ b) = rcells a ++ rcells b := by unfold rcells; rw [List.flatMap_append]
theorem rcells_at : ∀ (l : List RX) (i : Nat) (x : RX), l[i]? = some x → (rcells l)[i * 4]? = some (.int .i64 x.k) ∧ (rcells l)[i * 4 + 1]? = some (.string x.g) ∧ (rcells l)[i * 4 + 2]? = some (.string x.o) ∧ (rcells l)[i * 4 + 3]? = some (.string x.n)
  | [], i, x, h => by simp at h
  | y :: r, 0, x, h => by
    cases h
    exact ⟨rfl, rfl, rfl, rfl⟩
  | y :: r, i + 1, x, h => by
    have ih := rcells_at r i x (by simpa using h)
    have e : rcells (y :: r) = .int .i64 y.k :: .string y.g :: .string y.o :: .string y.n :: rcells r := rfl
    rw [e, show (i + 1) * 4 = i * 4 + 1 + 1 + 1 + 1 from by omega]
    simp only [List.getElem?_cons_succ]
    exact ih
theorem rcells_one (l : List RX) : ∀ u ∈ rcells l, u.oneCell' = true := by
  intro u hu
  unfold rcells at hu
  obtain ⟨x, _, hx⟩ := List.mem_flatMap.1 hu
  simp only [RX.cs, List.mem_cons, List.mem_nil_iff, or_false] at hx
  rcases hx with rfl | rfl | rfl | rfl <;> rfl
end Go.Proofs.YthkbpophckjdnaaDoor
