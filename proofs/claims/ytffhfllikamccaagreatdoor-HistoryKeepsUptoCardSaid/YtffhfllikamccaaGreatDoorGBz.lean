/-
  How long rows of changes are is at most their bulk. · Of changes that were handed in: each body has room for its bytes, and none where it is nil.
-/
import Derived.Test.YtffhfllikamccaaGreatDoorGSmall
import Derived.Test.YtffhfllikamccaaGreatDoorRows
namespace Go.Proofs.YtffhfllikamccaaGreatDoor
open Go Go.RowKit Go.Shelf Go.Proofs Go.ChangeShapes Go.WideShapes Go.Deep

theorem bulk_all {H : Type} (L : List (DataW H)) : Rows.uptoBulkAll L = (L.map Rows.uptoBulk).sum := by
  induction L with
  | nil => simp [Rows.uptoBulkAll]
  | cons d r ih => simp [Rows.uptoBulkAll, ih]
theorem bulk_pos {H : Type} (d : DataW H) : 1 ≤ Rows.uptoBulk d := by
  cases d with
  | lit l => cases l <;> simp [Rows.uptoBulk]
  | _ => simp [Rows.uptoBulk]
theorem sum_at {α : Type} (f : α → Nat) (g : Nat → Nat) (l : List α) (h : ∀ i x, l[i]? = some x → f x ≤ g i) : (l.map f).sum ≤ ((List.range l.length).map g).sum := by
  have key : ∀ k, k ≤ l.length → ((l.take k).map f).sum ≤ ((List.range k).map g).sum := by
    intro k
    induction k with
    | zero => intro _; simp
    | succ k ih =>
      intro hk
      obtain ⟨x, hx⟩ : ∃ x, l[k]? = some x := ⟨_, List.getElem?_eq_getElem (by omega)⟩
      have h1 := ih (by omega)
      have h2 := h k x hx
      rw [List.take_add_one, hx, List.map_append, List.sum_append, List.range_succ, List.map_append, List.sum_append]
      simp only [Option.toList, List.map_cons, List.map_nil, List.sum_cons, List.sum_nil]
      omega
  have := key l.length (Nat.le_refl _)
  rwa [List.take_length] at this
theorem bulk_ge {H : Type} (n : Nat) (D : Nat → DataW H) : n ≤ (((List.range n).map D).map Rows.uptoBulk).sum := by
  induction n with
  | zero => simp
  | succ n ih =>
    have := bulk_pos (D n)
    rw [List.range_succ, List.map_append, List.map_append, List.sum_append]
    simp
    simp at ih
    omega

section
variable {H : Type} {enc : TypeId × Value → H} {P : Program} {w : World} {base : Nat} {spare : Nat → Bool} {held : Bool}

theorem delta_bulk {t u : TypeId} {f0 f1 f2 : Field} (T : DeltaTy P t u f0 f1 f2) {fuel : Nat} {d : DX} {x : DataW H × List MemPlace}
    (h : DataW.trod enc P w base spare held fuel t d.cs = some x) : d.long ≤ Rows.uptoBulk x.1 := by
  obtain ⟨y0, y1, y2, n, rfl, hlen, h0, h1, h2⟩ := trod_struct3 T.st h
  obtain ⟨o0, k0⟩ := hone_of T.one 0 f0 rfl
  obtain ⟨o1, k1⟩ := hone_of T.one 1 f1 rfl
  obtain ⟨o2, k2⟩ := hone_of T.one 2 f2 rfl
  have h1 : DataW.trod enc P w base spare held n f1.type [.string d.p] = some y1 := by simpa [o1, k1, DX.cs] using h1
  have h2 : DataW.trod enc P w base spare held n f2.type [.slice d.A d.b.length d.c] = some y2 := by simpa [o2, k2, DX.cs] using h2
  obtain ⟨s, hs, rfl, _⟩ := DataW.trod_string T.str h1
  simp only [List.cons.injEq, and_true, Value.string.injEq] at hs
  subst hs
  have b2 : d.b.length ≤ Rows.uptoBulk y2.1 := by
    rcases open_slice T.byt h2 with ⟨hcs, hx⟩ | ⟨a, len, cap, m, n, D, Pl, hcs, _, hl, hm, hmm, hx, hi⟩
    · simp only [List.cons.injEq, and_true, Value.slice.injEq] at hcs
      omega
    · simp only [List.cons.injEq, and_true, Value.slice.injEq] at hcs
      rw [hx]
      simp only [Rows.uptoBulk, bulk_all]
      have := bulk_ge len D
      omega
  have e : d.p.data.toList.length = d.p.size := Array.length_toList
  simp only [Rows.uptoBulk, bulk_all, List.map_cons, List.map_nil, List.sum_cons, List.sum_nil]
  unfold DX.long
  omega

theorem deltas_bulk {t e u : TypeId} {f0 f1 f2 : Field} (ht : P.underlying t = some (.slice e)) (T : DeltaTy P e u f0 f1 f2) {fuel : Nat} {A : Option Addr} {c : Nat} {l : List DX} {x : DataW H × List MemPlace}
    (h : DataW.trod enc P w base spare held fuel t [.slice A l.length c] = some x) (hd : DelsAt w A c l) : 1 + longDN l ≤ Rows.uptoBulk x.1 := by
  rcases open_slice ht h with ⟨hcs, hx⟩ | ⟨a, len, cap, m, n, D, Pl, hcs, _, hl, hm, hmm, hx, hi⟩
  · simp only [List.cons.injEq, and_true, Value.slice.injEq] at hcs
    obtain rfl : l = [] := List.eq_nil_of_length_eq_zero (by omega)
    subst hx
    simp [Rows.uptoBulk, longDN]
  · simp only [List.cons.injEq, and_true, Value.slice.injEq] at hcs
    obtain ⟨rfl, rfl, rfl⟩ := hcs
    rw [hx]
    rw [T.cells] at hi
    have hle : l.length ≤ m := by rw [hmm]; split <;> omega
    simp only [Rows.uptoBulk, bulk_all, List.map_map]
    have := sum_at DX.long (Rows.uptoBulk ∘ D) l (fun i y hy => by
      have hil := (List.getElem?_eq_some_iff.1 hy).1
      obtain ⟨cs', hc, ht'⟩ := hi i (by omega)
      obtain ⟨g, o, hA, hrow⟩ := hd.row (by omega)
      simp only [Option.some.injEq] at hA
      subst hA
      obtain ⟨c0, c1, c2⟩ := hrow i y hy
      obtain ⟨_, hln, hat⟩ := World.cells?_some hc
      match cs', hln with
      | [v0, v1, v2], _ =>
        have a0 := hat 0 (by omega)
        have a1 := hat 1 (by omega)
        have a2 := hat 2 (by omega)
        rw [Go.WideShapes.add_plain, Go.WideShapes.add_plain] at a0 a1 a2
        have e0 := Option.some.inj (a0.symm.trans c0)
        have e1 := Option.some.inj (a1.symm.trans c1)
        have e2 := Option.some.inj (a2.symm.trans c2)
        subst e0; subst e1; subst e2
        exact delta_bulk T ht')
    unfold longDN
    omega

theorem rows_bulk {t e f u : TypeId} {f0 f1 f2 : Field} (ht : P.underlying t = some (.slice e)) (he : P.underlying e = some (.slice f)) (hce : P.cellsOf e = 1) (T : DeltaTy P f u f0 f1 f2) {A : Option Addr} {c : Nat} {l : List LX} {d : DataW H} {p : List MemPlace}
    (h : DataW.Trod enc P w base spare held t (.slice A l.length c) d p) (hl : LRowAt w A c l) : longLN l ≤ Rows.uptoBulk d := by
  obtain ⟨fuel, hf⟩ := h
  rcases open_slice1 ht hce hf with ⟨hcs, hx⟩ | ⟨a, len, cap, m, n, V, D, Pl, hcs, _, _, hm, hmm, hx, hi⟩
  · simp only [Value.cells, List.cons.injEq, and_true, Value.slice.injEq] at hcs
    obtain rfl : l = [] := List.eq_nil_of_length_eq_zero (by omega)
    simp [longLN]
  · simp only [Value.cells, List.cons.injEq, and_true, Value.slice.injEq] at hcs
    obtain ⟨rfl, rfl, rfl⟩ := hcs
    rw [Prod.mk.injEq] at hx
    obtain ⟨rfl, _⟩ := hx
    have hle : l.length ≤ m := by rw [hmm]; split <;> omega
    simp only [Rows.uptoBulk, bulk_all, List.map_map]
    have := sum_at (fun x : LX => 1 + longDN x.d) (Rows.uptoBulk ∘ D) l (fun i y hy => by
      have hil := (List.getElem?_eq_some_iff.1 hy).1
      obtain ⟨h2, h3⟩ := hi i (by omega)
      obtain ⟨g, o, hA, hrow⟩ := hl.row (by omega)
      simp only [Option.some.injEq] at hA
      subst hA
      have c0 := hrow i y hy
      rw [Go.WideShapes.add_plain] at h2
      have e0 := Option.some.inj (h2.symm.trans c0)
      rw [e0] at h3
      exact deltas_bulk he T h3 (hl.dels y (List.mem_of_getElem? hy)))
    unfold longLN
    omega
end
end Go.Proofs.YtffhfllikamccaaGreatDoor
namespace Go.Proofs.YtffhfllikamccaaGreatDoor
open Go Go.RowKit Go.Shelf Go.Proofs Go.ChangeShapes Go.WideShapes Go.Deep

section
variable {H : Type} {enc : TypeId × Value → H} {P : Program} {w : World} {base : Nat} {spare : Nat → Bool} {held : Bool}
theorem delta_caps {t u : TypeId} {f0 f1 f2 : Field} (T : DeltaTy P t u f0 f1 f2) {fuel : Nat} {d : DX} {x : DataW H × List MemPlace}
    (h : DataW.trod enc P w base spare held fuel t d.cs = some x) : d.b.length ≤ d.c ∧ (d.A = none → d.c = 0) := by
  obtain ⟨y0, y1, y2, n, rfl, hlen, h0, h1, h2⟩ := trod_struct3 T.st h
  obtain ⟨o2, k2⟩ := hone_of T.one 2 f2 rfl
  have h2 : DataW.trod enc P w base spare held n f2.type [.slice d.A d.b.length d.c] = some y2 := by simpa [o2, k2, DX.cs] using h2
  rcases open_slice T.byt h2 with ⟨hcs, hx⟩ | ⟨a, len, cap, m, n, D, Pl, hcs, _, hl, hm, hmm, hx, hi⟩
  · simp only [List.cons.injEq, and_true, Value.slice.injEq] at hcs
    exact ⟨by omega, fun _ => hcs.2.2⟩
  · simp only [List.cons.injEq, and_true, Value.slice.injEq] at hcs
    refine ⟨by omega, fun e => ?_⟩
    rw [hcs.1] at e
    cases e
theorem deltas_caps {t e u : TypeId} {f0 f1 f2 : Field} (ht : P.underlying t = some (.slice e)) (T : DeltaTy P e u f0 f1 f2) {A : Option Addr} {c : Nat} {l : List DX} {d : DataW H} {p : List MemPlace}
    (h : DataW.Trod enc P w base spare held t (.slice A l.length c) d p) (hd : DelsAt w A c l) : ∀ x ∈ l, x.b.length ≤ x.c ∧ (x.A = none → x.c = 0) := by
  obtain ⟨fuel, hf⟩ := h
  rcases open_slice ht hf with ⟨hcs, hx⟩ | ⟨a, len, cap, m, n, D, Pl, hcs, _, hl, hm, hmm, hx, hi⟩
  · simp only [Value.cells, List.cons.injEq, and_true, Value.slice.injEq] at hcs
    obtain rfl : l = [] := List.eq_nil_of_length_eq_zero (by omega)
    exact fun x hx => by cases hx
  · simp only [Value.cells, List.cons.injEq, and_true, Value.slice.injEq] at hcs
    obtain ⟨rfl, rfl, rfl⟩ := hcs
    rw [T.cells] at hi
    have hle : l.length ≤ m := by rw [hmm]; split <;> omega
    intro y hmem
    obtain ⟨i, hy⟩ := List.mem_iff_getElem?.1 hmem
    have hil := (List.getElem?_eq_some_iff.1 hy).1
    obtain ⟨cs', hc, ht'⟩ := hi i (by omega)
    obtain ⟨g, o, hA, hrow⟩ := hd.row (by omega)
    simp only [Option.some.injEq] at hA
    subst hA
    obtain ⟨c0, c1, c2⟩ := hrow i y hy
    obtain ⟨_, hln, hat⟩ := World.cells?_some hc
    match cs', hln with
    | [v0, v1, v2], _ =>
      have a0 := hat 0 (by omega)
      have a1 := hat 1 (by omega)
      have a2 := hat 2 (by omega)
      rw [Go.WideShapes.add_plain, Go.WideShapes.add_plain] at a0 a1 a2
      have e0 := Option.some.inj (a0.symm.trans c0)
      have e1 := Option.some.inj (a1.symm.trans c1)
      have e2 := Option.some.inj (a2.symm.trans c2)
      subst e0; subst e1; subst e2
      exact delta_caps T ht'
end
end Go.Proofs.YtffhfllikamccaaGreatDoor
