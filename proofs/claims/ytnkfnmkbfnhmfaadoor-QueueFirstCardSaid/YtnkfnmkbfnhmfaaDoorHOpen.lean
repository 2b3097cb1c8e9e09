/-
  An argument that is rows of changes, one behind the other, opened.
-/
import Derived.Test.YtnkfnmkbfnhmfaaDoorTOpenD
namespace Go.Proofs.YtnkfnmkbfnhmfaaDoor
open Go Go.RowKit Go.Shelf Go.Proofs Go.ChangeShapes Go.WideShapes Go.Deep

/-- A row of changes in memory: where it lies, its room, the changes. -/
structure LX where
  A : Option Addr
  c : Nat
  d : List DX
instance : Inhabited LX := ⟨⟨none, 0, []⟩⟩
def LX.v (x : LX) : Value := .slice x.A x.d.length x.c
/-- The slice value .slice A n c holds the rows of changes l. -/
structure LRowAt (w : World) (A : Option Addr) (c : Nat) (l : List LX) : Prop where
  cap : l.length ≤ c
  capm : c ≤ maxLen
  row : 0 < l.length → ∃ g o, A = some ⟨g, o, none⟩ ∧ ∀ i x, l[i]? = some x → w.cell? ⟨g, o + i, none⟩ = some (.slice x.A x.d.length x.c)
  dels : ∀ x ∈ l, DelsAt w x.A x.c x.d
  big : ∀ x ∈ l, BigD x.d
theorem LRowAt.below {w w' : World} {A : Option Addr} {c : Nat} {l : List LX} (h : LRowAt w A c l) (hb : Below w.heap.size w w') : LRowAt w' A c l := by
  refine ⟨h.cap, h.capm, fun hn => ?_, fun x hx => (h.dels x hx).below hb, h.big⟩
  obtain ⟨g, o, e, hr⟩ := h.row hn
  refine ⟨g, o, e, fun i x hx => ?_⟩
  have h1 := hr i x hx
  exact (hb.cell (p := ⟨g, o + i, none⟩) (World.block_lt_of_cell? w (a := ⟨g, o + i, none⟩) h1)).trans h1
theorem LRowAt.nil (w : World) (A : Option Addr) (c : Nat) (hc : c ≤ maxLen) : LRowAt w A c [] := ⟨Nat.zero_le _, hc, fun h => absurd h (by simp), fun x hx => (by cases hx), fun x hx => (by cases hx)⟩

section
variable {H : Type} {enc : TypeId × Value → H} {P : Program} {w : World} {base : Nat} {spare : Nat → Bool} {held : Bool}

theorem open_deltasB {t e u : TypeId} {f0 f1 f2 : Field} (ht : P.underlying t = some (.slice e)) (T : DeltaTy P e u f0 f1 f2) {fuel : Nat} {cs : List Value} {x : DataW H × List MemPlace}
    (hf : DataW.trod enc P w base spare held fuel t cs = some x) (hz : Sized P t x.1) : ∃ A c l, cs = [.slice A l.length c] ∧ DelsAt w A c l ∧ BigD l := by
  rcases open_slice ht hf with ⟨hcs, _⟩ | ⟨a, len, cap, m, n, D, Pl, hcs, _, hl, hm, hmm, hx, hi⟩
  · exact ⟨none, 0, [], hcs, ⟨Nat.le_refl _, Nat.zero_le _, fun h => absurd h (by simp), fun x hx => by cases hx⟩, fun x hx => by cases hx⟩
  · subst hx
    have hle : len ≤ m := by rw [hmm]; split <;> omega
    rw [T.cells] at hi
    have each : ∀ i, i < len → ∃ f : DX, DeltaOk w f ∧ w.cell? ((a.add (i * 3)).add 0) = some (.int .i64 f.k) ∧ w.cell? ((a.add (i * 3)).add 1) = some (.string f.p) ∧ w.cell? ((a.add (i * 3)).add 2) = some (.slice f.A f.b.length f.c) := fun i hil => by
      obtain ⟨cs', hc, ht'⟩ := hi i (by omega)
      have hsz : Sized P e (D i) := hz.elem ht (List.mem_map.2 ⟨i, List.mem_range.2 hil, rfl⟩)
      obtain ⟨f, rfl, hf⟩ := open_deltaB T ht' hsz
      obtain ⟨_, _, hat⟩ := World.cells?_some hc
      exact ⟨f, hf, hat 0 (by omega), hat 1 (by omega), hat 2 (by omega)⟩
    haveI : Inhabited DX := ⟨⟨0, ⟨#[]⟩, none, 0, []⟩⟩
    obtain ⟨F, hF⟩ := choose_lt each
    have hll : ((List.range len).map F).length = len := by simp
    have hmem : ∀ f ∈ (List.range len).map F, DeltaOk w f := fun f hf => by
      obtain ⟨i, hi', rfl⟩ := List.mem_map.1 hf
      exact (hF i (List.mem_range.1 hi')).1
    refine ⟨some a, cap, (List.range len).map F, by rw [hll]; exact hcs, ⟨by rw [hll]; exact hl, hm, fun hn => ?_, fun f hf => (hmem f hf).bytes⟩, fun f hf => ?_⟩
    · rw [hll] at hn
      obtain ⟨g, o, s⟩ := a
      have h00 := (hF 0 hn).2.1
      obtain rfl : s = none := by simpa [Addr.add] using World.cell?_spot h00
      refine ⟨g, o, rfl, fun i x hx => ?_⟩
      have hil : i < len := by
        have := (List.getElem?_eq_some_iff.1 hx).1
        rwa [hll] at this
      rw [List.getElem?_map, List.getElem?_range hil] at hx
      obtain rfl : F i = x := by simpa using hx
      obtain ⟨_, h0, h1, h2⟩ := hF i hil
      rw [Go.WideShapes.add_plain, Go.WideShapes.add_plain] at h0 h1 h2
      exact ⟨h0, h1, h2⟩
    · have h3 := (hmem f hf).p
      have h4 := (hmem f hf).b
      unfold reachBytes at h3 h4
      exact ⟨by omega, by omega⟩

/-- [][]api.Delta that is an argument. -/
theorem open_rowsV {t e f u : TypeId} {f0 f1 f2 : Field} (ht : P.underlying t = some (.slice e)) (he : P.underlying e = some (.slice f)) (hce : P.cellsOf e = 1) (T : DeltaTy P f u f0 f1 f2) {r : Reach} {b0 : Nat} {v : Value} {d : DataW H} {p : List MemPlace}
    (hv : Value.okWide P w r b0 t v) (h : DataW.Trod enc P w base spare held t v d p) (hz : Sized P t d) : ∃ A c l, v = .slice A l.length c ∧ LRowAt w A c l := by
  obtain ⟨a, len, cap, rfl⟩ := okWide_slice ht hv
  obtain ⟨fuel, hf⟩ := h
  rcases open_slice1 ht hce hf with ⟨hcs, _⟩ | ⟨a, len, cap, m, n, V, D, Pl, hcs, _, hl, hm, hmm, hx, hi⟩
  · simp only [Value.cells, List.cons.injEq, and_true] at hcs
    exact ⟨none, 0, [], hcs, LRowAt.nil _ _ _ (Nat.zero_le _)⟩
  · simp only [Value.cells, List.cons.injEq, and_true] at hcs
    rw [Prod.mk.injEq] at hx
    obtain ⟨rfl, _⟩ := hx
    have hle : len ≤ m := by rw [hmm]; split <;> omega
    have each : ∀ i, i < len → ∃ x : LX, w.cell? (a.add i) = some (.slice x.A x.d.length x.c) ∧ DelsAt w x.A x.c x.d ∧ BigD x.d := fun i hil => by
      obtain ⟨h2, h3⟩ := hi i (by omega)
      have hsz : Sized P e (D i) := hz.elem ht (List.mem_map.2 ⟨i, List.mem_range.2 hil, rfl⟩)
      obtain ⟨A, c, l, hcs, h4, h5⟩ := open_deltasB he T h3 hsz
      simp only [List.cons.injEq, and_true] at hcs
      rw [hcs] at h2
      exact ⟨⟨A, c, l⟩, h2, h4, h5⟩
    obtain ⟨F, hF⟩ := choose_lt each
    have hll : ((List.range len).map F).length = len := by simp
    have hmem : ∀ x ∈ (List.range len).map F, ∃ i, i < len ∧ F i = x := fun x hx => by
      obtain ⟨i, hi', rfl⟩ := List.mem_map.1 hx
      exact ⟨i, List.mem_range.1 hi', rfl⟩
    refine ⟨some a, cap, (List.range len).map F, by rw [hll]; exact hcs, by rw [hll]; exact hl, hm, fun hn => ?_, fun x hx => ?_, fun x hx => ?_⟩
    · rw [hll] at hn
      obtain ⟨g, o, s⟩ := a
      have h00 := (hF 0 hn).1
      obtain rfl : s = none := by simpa [Addr.add] using World.cell?_spot h00
      refine ⟨g, o, rfl, fun i x hx => ?_⟩
      have hil : i < len := by
        have := (List.getElem?_eq_some_iff.1 hx).1
        rwa [hll] at this
      rw [List.getElem?_map, List.getElem?_range hil] at hx
      obtain rfl : F i = x := by simpa using hx
      have := (hF i hil).1
      rw [Go.WideShapes.add_plain] at this
      exact this
    · obtain ⟨i, hil, rfl⟩ := hmem x hx
      exact (hF i hil).2.1
    · obtain ⟨i, hil, rfl⟩ := hmem x hx
      exact (hF i hil).2.2
end
end Go.Proofs.YtnkfnmkbfnhmfaaDoor
