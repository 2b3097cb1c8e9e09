/-
  An argument that is a row of changes, opened; what is known of its sizes.
-/
import Derived.Test.YtnkfnmkbfnhmfaaDoorTLongD
import Derived.Test.YtnkfnmkbfnhmfaaDoorTOpen
namespace Go.Proofs.YtnkfnmkbfnhmfaaDoor
open Go Go.RowKit Go.Shelf Go.Proofs Go.ChangeShapes Go.WideShapes Go.Deep

section
variable {H : Type} {enc : TypeId × Value → H} {P : Program} {w : World} {base : Nat} {spare : Nat → Bool} {held : Bool}

/-- The closed facts of a type of changes: a number, a path, bytes. -/
structure DeltaTy (P : Program) (t u : TypeId) (f0 f1 f2 : Field) : Prop where
  st : P.underlying t = some (.struct #[f0, f1, f2])
  cells : P.cellsOf t = 3
  one : oneCellFields P #[f0, f1, f2] = true
  num : P.underlying f0.type = some (.int .i64)
  str : P.underlying f1.type = some .string
  byt : P.underlying f2.type = some (.slice u)
  u8 : P.underlying u = some (.int .u8)
  c1 : P.cellsOf u = 1
  b1 : P.bytesOf u = 1
/-- What a change that was handed in bears. -/
structure DeltaOk (w : World) (x : DX) : Prop where
  bytes : BytesAt w x.A x.b
  p : x.p.size ≤ reachBytes
  b : x.b.length ≤ reachBytes

theorem open_deltaB {t u : TypeId} {f0 f1 f2 : Field} (T : DeltaTy P t u f0 f1 f2) {fuel : Nat} {cs : List Value} {x : DataW H × List MemPlace}
    (h : DataW.trod enc P w base spare held fuel t cs = some x) (hz : Sized P t x.1) : ∃ d : DX, cs = d.cs ∧ DeltaOk w d := by
  obtain ⟨y0, y1, y2, n, rfl, hlen, h0, h1, h2⟩ := trod_struct3 T.st h
  obtain ⟨o0, k0⟩ := hone_of T.one 0 f0 rfl
  obtain ⟨o1, k1⟩ := hone_of T.one 1 f1 rfl
  obtain ⟨o2, k2⟩ := hone_of T.one 2 f2 rfl
  rw [T.cells] at hlen
  match cs, hlen with
  | [c0, c1, c2], _ =>
    have h0 : DataW.trod enc P w base spare held n f0.type [c0] = some y0 := by simpa [o0, k0] using h0
    have h1 : DataW.trod enc P w base spare held n f1.type [c1] = some y1 := by simpa [o1, k1] using h1
    have h2 : DataW.trod enc P w base spare held n f2.type [c2] = some y2 := by simpa [o2, k2] using h2
    obtain ⟨m, hm, rfl, _⟩ := DataW.trod_int T.num h0
    obtain ⟨s, hs, rfl, _⟩ := DataW.trod_string T.str h1
    have z2 : Sized P f2.type y2.1 := hz.field T.st (j := 2) (f := f2) rfl rfl
    have z1 : Sized P f1.type (.lit (.string s.data.toList) : DataW H) := hz.field T.st (j := 1) (f := f1) rfl rfl
    have z1 := z1.str
    rw [Array.length_toList] at z1
    obtain ⟨A, c, b, hb, h3, _, _, h5⟩ := open_bytesB T.byt T.u8 T.c1 T.b1 h2 z2
    simp only [List.cons.injEq, and_true] at hm hs hb
    subst hm; subst hs; subst hb
    exact ⟨⟨m, s, A, c, b⟩, rfl, h3, z1, h5⟩

theorem open_deltasV {t e u : TypeId} {f0 f1 f2 : Field} (ht : P.underlying t = some (.slice e)) (T : DeltaTy P e u f0 f1 f2) {r : Reach} {b0 : Nat} {v : Value} {d : DataW H} {p : List MemPlace} (hv : Value.okWide P w r b0 t v)
    (h : DataW.Trod enc P w base spare held t v d p) (hz : Sized P t d) : ∃ A c l, v = .slice A l.length c ∧ DelsAt w A c l ∧ BigD l := by
  obtain ⟨a, len, cap, rfl⟩ := okWide_slice ht hv
  obtain ⟨fuel, hf⟩ := h
  rcases open_slice ht hf with ⟨hcs, _⟩ | ⟨a, len, cap, m, n, D, Pl, hcs, _, hl, hm, hmm, hx, hi⟩
  · simp only [Value.cells, List.cons.injEq, and_true] at hcs
    exact ⟨none, 0, [], hcs, ⟨Nat.le_refl _, Nat.zero_le _, fun h => absurd h (by simp), fun x hx => by cases hx⟩, fun x hx => by cases hx⟩
  · simp only [Value.cells, List.cons.injEq, and_true] at hcs
    rw [Prod.mk.injEq] at hx
    obtain ⟨rfl, _⟩ := hx
    have hle : len ≤ m := by rw [hmm]; split <;> omega
    rw [T.cells] at hi
    have each : ∀ i, i < len → ∃ f : DX, DeltaOk w f ∧ w.cell? ((a.add (i * 3)).add 0) = some (.int .i64 f.k) ∧ w.cell? ((a.add (i * 3)).add 1) = some (.string f.p) ∧ w.cell? ((a.add (i * 3)).add 2) = some (.slice f.A f.b.length f.c) := fun i hil => by
      obtain ⟨cs', hc, ht'⟩ := hi i (by omega)
      have hsz : Sized P e (D i) := hz.elem ht (List.mem_map.2 ⟨i, List.mem_range.2 hil, rfl⟩)
      obtain ⟨f, rfl, hf⟩ := open_deltaB T ht' hsz
      obtain ⟨_, _, hat⟩ := World.cells?_some hc
      exact ⟨f, hf, hat 0 (by omega), hat 1 (by omega), hat 2 (by omega)⟩
    haveI : Inhabited DX := ⟨⟨0, ⟨#[]⟩, none, 0, []⟩⟩
    obtain ⟨F, hF⟩ := choose_lt each
    have hll : ((List.range len).map F).length = len := by simp
    have hmem : ∀ f ∈ (List.range len).map F, DeltaOk w f := fun f hf => by
      obtain ⟨i, hi', rfl⟩ := List.mem_map.1 hf
      exact (hF i (List.mem_range.1 hi')).1
    refine ⟨some a, cap, (List.range len).map F, by rw [hll]; exact hcs, ⟨by rw [hll]; exact hl, hm, fun hn => ?_, fun f hf => (hmem f hf).bytes⟩, fun f hf => ?_⟩
    · rw [hll] at hn
      obtain ⟨g, o, s⟩ := a
      have h00 := (hF 0 hn).2.1
      obtain rfl : s = none := by simpa [Addr.add] using World.cell?_spot h00
      refine ⟨g, o, rfl, fun i x hx => ?_⟩
      have hil : i < len := by
        have := (List.getElem?_eq_some_iff.1 hx).1
        rwa [hll] at this
      rw [List.getElem?_map, List.getElem?_range hil] at hx
      obtain rfl : F i = x := by simpa using hx
      obtain ⟨_, h0, h1, h2⟩ := hF i hil
      rw [Go.WideShapes.add_plain, Go.WideShapes.add_plain] at h0 h1 h2
      exact ⟨h0, h1, h2⟩
    · have h3 := (hmem f hf).p
      have h4 := (hmem f hf).b
      unfold reachBytes at h3 h4
      exact ⟨by omega, by omega⟩
end
theorem delta_ty : ∃ f0 f1 f2, DeltaTy Tryd.prog 51 5 f0 f1 f2 := ⟨_, _, _, Tryd.underlying51, by kernel_rfl, by kernel_rfl, by kernel_rfl, by kernel_rfl, by kernel_rfl, by kernel_rfl, by kernel_rfl, by kernel_rfl⟩
end Go.Proofs.YtnkfnmkbfnhmfaaDoor
