/-
  Arguments that are bytes, rows of bytes, rows of texts, opened. No program is named here.
-/
import Derived.Test.YtnkfnmkbfnhmfaaGreatDoorTOpen
namespace Go.Proofs.YtnkfnmkbfnhmfaaGreatDoor
open Go Go.RowKit Go.Shelf Go.Proofs Go.ChangeShapes Go.WideShapes Go.Deep

/-- Bytes in memory: where they lie, their room, the bytes. -/
structure BX where
  A : Option Addr
  c : Nat
  b : Bs
instance : Inhabited BX := ⟨⟨none, 0, []⟩⟩
def BX.v (x : BX) : Value := .slice x.A x.b.length x.c
/-- The slice value .slice A n c holds the rows of bytes l. -/
structure BRowAt (w : World) (A : Option Addr) (c : Nat) (l : List BX) : Prop where
  cap : l.length ≤ c
  capm : c ≤ maxLen
  row : 0 < l.length → ∃ g o, A = some ⟨g, o, none⟩ ∧ ∀ i x, l[i]? = some x → w.cell? ⟨g, o + i, none⟩ = some (.slice x.A x.b.length x.c)
  bytes : ∀ x ∈ l, BytesAt w x.A x.b
  caps : ∀ x ∈ l, x.b.length ≤ x.c ∧ x.c ≤ maxLen ∧ x.b.length ≤ reachBytes
theorem BRowAt.below {w w' : World} {A : Option Addr} {c : Nat} {l : List BX} (h : BRowAt w A c l) (hb : Below w.heap.size w w') : BRowAt w' A c l := by
  refine ⟨h.cap, h.capm, fun hn => ?_, fun x hx => (h.bytes x hx).below hb, h.caps⟩
  obtain ⟨g, o, e, hr⟩ := h.row hn
  refine ⟨g, o, e, fun i x hx => ?_⟩
  have h1 := hr i x hx
  exact (hb.cell (p := ⟨g, o + i, none⟩) (World.block_lt_of_cell? w (a := ⟨g, o + i, none⟩) h1)).trans h1
theorem BRowAt.nil (w : World) (A : Option Addr) (c : Nat) (hc : c ≤ maxLen) : BRowAt w A c [] := ⟨Nat.zero_le _, hc, fun h => absurd h (by simp), fun x hx => (by cases hx), fun x hx => (by cases hx)⟩

section
variable {H : Type} {enc : TypeId × Value → H} {P : Program} {w : World} {base : Nat} {spare : Nat → Bool} {held : Bool}

/-- []byte that is an argument. -/
theorem open_bytesV {t u : TypeId} (ht : P.underlying t = some (.slice u)) (hu : P.underlying u = some (.int .u8)) (hc : P.cellsOf u = 1) (h1 : P.bytesOf u = 1) {r : Reach} {b0 : Nat} {v : Value} {d : DataW H} {p : List MemPlace} (hv : Value.okWide P w r b0 t v)
    (h : DataW.Trod enc P w base spare held t v d p) (hz : Sized P t d) : ∃ A c b, v = .slice A b.length c ∧ BytesAt w A b ∧ b.length ≤ c ∧ c ≤ maxLen ∧ b.length ≤ reachBytes := by
  obtain ⟨a, len, cap, rfl⟩ := okWide_slice ht hv
  obtain ⟨fuel, hf⟩ := h
  obtain ⟨A, c, b, hcs, h2⟩ := open_bytesB ht hu hc h1 hf hz
  simp only [Value.cells, List.cons.injEq, and_true] at hcs
  exact ⟨A, c, b, hcs, h2⟩

/-- [][]byte that is an argument. -/
theorem open_bytesRowV {t e u : TypeId} (ht : P.underlying t = some (.slice e)) (he : P.underlying e = some (.slice u)) (hu : P.underlying u = some (.int .u8)) (hce : P.cellsOf e = 1) (hc : P.cellsOf u = 1) (h1 : P.bytesOf u = 1) {r : Reach} {b0 : Nat} {v : Value} {d : DataW H} {p : List MemPlace}
    (hv : Value.okWide P w r b0 t v) (h : DataW.Trod enc P w base spare held t v d p) (hz : Sized P t d) : ∃ A c l, v = .slice A l.length c ∧ BRowAt w A c l := by
  obtain ⟨a, len, cap, rfl⟩ := okWide_slice ht hv
  obtain ⟨fuel, hf⟩ := h
  rcases open_slice1 ht hce hf with ⟨hcs, _⟩ | ⟨a, len, cap, m, n, V, D, Pl, hcs, _, hl, hm, hmm, hx, hi⟩
  · simp only [Value.cells, List.cons.injEq, and_true] at hcs
    exact ⟨none, 0, [], hcs, BRowAt.nil _ _ _ (Nat.zero_le _)⟩
  · simp only [Value.cells, List.cons.injEq, and_true] at hcs
    rw [Prod.mk.injEq] at hx
    obtain ⟨rfl, _⟩ := hx
    have hle : len ≤ m := by rw [hmm]; split <;> omega
    have each : ∀ i, i < len → ∃ x : BX, w.cell? (a.add i) = some (.slice x.A x.b.length x.c) ∧ BytesAt w x.A x.b ∧ x.b.length ≤ x.c ∧ x.c ≤ maxLen ∧ x.b.length ≤ reachBytes := fun i hil => by
      obtain ⟨h2, h3⟩ := hi i (by omega)
      have hsz : Sized P e (D i) := hz.elem ht (List.mem_map.2 ⟨i, List.mem_range.2 hil, rfl⟩)
      obtain ⟨A, c, b, hcs, h4, h5, h6, h7⟩ := open_bytesB he hu hc h1 h3 hsz
      simp only [List.cons.injEq, and_true] at hcs
      rw [hcs] at h2
      exact ⟨⟨A, c, b⟩, h2, h4, h5, h6, h7⟩
    obtain ⟨F, hF⟩ := choose_lt each
    have hll : ((List.range len).map F).length = len := by simp
    have hmem : ∀ x ∈ (List.range len).map F, ∃ i, i < len ∧ F i = x := fun x hx => by
      obtain ⟨i, hi', rfl⟩ := List.mem_map.1 hx
      exact ⟨i, List.mem_range.1 hi', rfl⟩
    refine ⟨some a, cap, (List.range len).map F, by rw [hll]; exact hcs, by rw [hll]; exact hl, hm, fun hn => ?_, fun x hx => ?_, fun x hx => ?_⟩
    · rw [hll] at hn
      obtain ⟨g, o, s⟩ := a
      have h00 := (hF 0 hn).1
      obtain rfl : s = none := by simpa [Addr.add] using World.cell?_spot h00
      refine ⟨g, o, rfl, fun i x hx => ?_⟩
      have hil : i < len := by
        have := (List.getElem?_eq_some_iff.1 hx).1
        rwa [hll] at this
      rw [List.getElem?_map, List.getElem?_range hil] at hx
      obtain rfl : F i = x := by simpa using hx
      have := (hF i hil).1
      rw [Go.WideShapes.add_plain] at this
      exact this
    · obtain ⟨i, hil, rfl⟩ := hmem x hx
      exact (hF i hil).2.1
    · obtain ⟨i, hil, rfl⟩ := hmem x hx
      exact (hF i hil).2.2
end
end Go.Proofs.YtnkfnmkbfnhmfaaGreatDoor
