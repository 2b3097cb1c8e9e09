/-
  An argument that is a row of texts, opened; the bulk of its reading.
-/
import Derived.Test.YtioiieammmdilaaGreatDoorOwMem
import Derived.Test.YtioiieammmdilaaGreatDoorOwFrame
import Derived.SliceStrings
namespace Go.Proofs.YtioiieammmdilaaGreatDoor
open Go Go.RowKit Go.Shelf Go.Proofs Go.ChangeShapes Go.WideShapes Go.Deep

section
variable {H : Type} {enc : TypeId × Value → H} {P : Program} {w : World} {base : Nat} {spare : Nat → Bool} {held : Bool}
theorem strs_bulk : ∀ l : List ByteArray, (∀ s ∈ l, s.size + 1 ≤ Rows.uptoBulkAll (H := H) (strs l)) ∧ l.length ≤ Rows.uptoBulkAll (H := H) (strs l)
  | [] => ⟨fun s hs => (by cases hs), Nat.zero_le _⟩
  | x :: r => by
    obtain ⟨h1, h2⟩ := strs_bulk r
    have hx : x.data.toList.length = x.size := Array.length_toList
    have e : Rows.uptoBulkAll (H := H) (strs (x :: r)) = (x.data.toList.length + 1) + Rows.uptoBulkAll (H := H) (strs r) := rfl
    rw [e]
    refine ⟨fun s hs => ?_, by simp only [List.length_cons]; omega⟩
    rcases List.mem_cons.1 hs with rfl | hs
    · omega
    · have := h1 s hs; omega
theorem open_textsV {t e : TypeId} (ht : P.underlying t = some (.slice e)) (he : P.underlying e = some .string) (hc : P.cellsOf e = 1) {r : Reach} {b0 : Nat} {v : Value} {d : DataW H} {p : List MemPlace}
    (hv : Value.okWide P w r b0 t v) (h : DataW.Trod enc P w base spare held t v d p) :
    ∃ A c l, v = .slice A (List.length l) c ∧ StrsAt w A l ∧ l.length ≤ Rows.uptoBulk d ∧ ∀ q ∈ l, q.length ≤ Rows.uptoBulk d := by
  obtain ⟨a, len, cap, rfl⟩ := okWide_slice ht hv
  obtain ⟨fuel, hf⟩ := h
  rcases open_strings ht he hc hf with ⟨hcs, _⟩ | ⟨a, len, cap, ss, hcs, _, hl, hm, hss, hx, hi, _⟩
  · simp only [Value.cells, List.cons.injEq, and_true] at hcs
    exact ⟨none, 0, [], hcs, StrsAt.nil _ _, Nat.zero_le _, fun q hq => (by cases hq)⟩
  · simp only [Value.cells, List.cons.injEq, and_true] at hcs
    rw [Prod.mk.injEq] at hx
    obtain ⟨rfl, _⟩ := hx
    have hle : len ≤ ss.length := by rw [hss]; split <;> omega
    have hlen : ((ss.take len).map (·.data.toList)).length = len := by rw [List.length_map, List.length_take]; omega
    obtain ⟨h1, h2⟩ := strs_bulk (H := H) (ss.take len)
    have hb : Rows.uptoBulk (H := H) (.slice (strs (ss.take len)) (strs (ss.drop len))) = Rows.uptoBulkAll (H := H) (strs (ss.take len)) + Rows.uptoBulkAll (H := H) (strs (ss.drop len)) + 1 := rfl
    rw [List.length_take] at h2
    refine ⟨some a, cap, (ss.take len).map (·.data.toList), by rw [hlen]; exact hcs, fun hn => ?_, by rw [hlen, hb]; omega, fun q hq => ?_⟩
    · rw [hlen] at hn
      obtain ⟨g, o, s⟩ := a
      have h00 := hi 0 (by omega)
      obtain rfl : s = none := by simpa [Addr.add] using World.cell?_spot h00
      refine ⟨g, o, rfl, fun i x hx => ?_⟩
      have hil : i < len := by
        have := (List.getElem?_eq_some_iff.1 hx).1
        rwa [hlen] at this
      have hix : i < ss.length := by omega
      rw [List.getElem?_map, List.getElem?_take, if_pos hil, List.getElem?_eq_getElem hix] at hx
      simp only [Option.map_some, Option.some.injEq] at hx
      have := hi i hix
      rw [Go.WideShapes.add_plain, List.getD_eq_getElem?_getD, List.getElem?_eq_getElem hix] at this
      rw [← hx, data_mkB]; exact this
    · obtain ⟨y, hy, rfl⟩ := List.mem_map.1 hq
      have := h1 y hy
      have h3 : y.data.toList.length = y.size := Array.length_toList
      rw [hb]; omega
end
end Go.Proofs.YtioiieammmdilaaGreatDoor
