/-
  What every law's row of layer 10 wants: arguments opened (rows of edges), numbers.
-/
import Derived.Test.YteigepblocbnlaaGpKnown
import Derived.Test.YteigepblocbnlaaRows
import Derived.Deep.Slices
import Derived.Deep.Fields
import Derived.Deep.Strs
import Derived.ChangeSame
import Derived.Carry
import Derived.SizedLaws
import Derived.WalkKit
import Derived.ProofKit
import Derived.OpenShut
import Derived.Deep.DeepHandedRow
import Derived.LaidLaws
namespace Go.Proofs.Yteigepblocbnlaa.Gp
open Go Go.ChangeShapes Go.WideShapes Go.ChangeAt Go.RowKit Go.Shelf Go.Proofs Go.Deep

theorem own : ownKnob Try.prog.godebug = none := by kernel_rfl
theorem laid_out : laidOutB Try.prog = true := by kernel_rfl
theorem nat_u8 {n : Int} (h : (Lit.int .u8 n).wf = true) : ∃ b : Nat, n = (b : Int) ∧ b < 256 := by
  obtain ⟨h1, h2⟩ := bounds_u8 h
  exact ⟨n.toNat, by omega, by omega⟩
section
variable {H : Type} {enc : TypeId × Value → H} {P : Program} {w : World} {base : Nat} {spare : Nat → Bool} {held : Bool}
structure EdgeTy (P : Program) (t : TypeId) (f0 f1 : Field) : Prop where
  st : P.underlying t = some (.struct #[f0, f1])
  cells : P.cellsOf t = 2
  one : oneCellFields P #[f0, f1] = true
  num : P.underlying f0.type = some (.int .i64)
  nun : P.underlying f1.type = some (.int .i64)
theorem open_edge {t : TypeId} {f0 f1 : Field} (T : EdgeTy P t f0 f1) {fuel : Nat} {cs : List Value} {x : DataW H × List MemPlace}
    (h : DataW.trod enc P w base spare held fuel t cs = some x) : ∃ d : EI, cs = [.int .i64 d.1, .int .i64 d.2] := by
  obtain ⟨y0, y1, n, rfl, hlen, h0, h1⟩ := trod_struct2 T.st h
  obtain ⟨o0, k0⟩ := hone_of T.one 0 f0 rfl
  obtain ⟨o1, k1⟩ := hone_of T.one 1 f1 rfl
  rw [T.cells] at hlen
  match cs, hlen with
  | [c0, c1], _ =>
    have h0 : DataW.trod enc P w base spare held n f0.type [c0] = some y0 := by simpa [o0, k0] using h0
    have h1 : DataW.trod enc P w base spare held n f1.type [c1] = some y1 := by simpa [o1, k1] using h1
    obtain ⟨m, hm, _, _⟩ := DataW.trod_int T.num h0
    obtain ⟨m1, hm1, _, _⟩ := DataW.trod_int T.nun h1
    simp only [List.cons.injEq, and_true] at hm hm1
    subst hm; subst hm1
    exact ⟨(m, m1), rfl⟩
theorem open_edgesV {t e : TypeId} {f0 f1 : Field} (ht : P.underlying t = some (.slice e)) (T : EdgeTy P e f0 f1) {r : Reach} {b0 : Nat} {v : Value} {d : DataW H} {p : List MemPlace} (hv : Value.okWide P w r b0 t v)
    (h : DataW.Trod enc P w base spare held t v d p) : ∃ A c l, v = .slice A (List.length l) c ∧ EdgesAt w A l ∧ (A = none → c = 0) := by
  obtain ⟨a, len, cap, rfl⟩ := okWide_slice ht hv
  obtain ⟨fuel, hf⟩ := h
  rcases open_slice ht hf with ⟨hcs, _⟩ | ⟨a, len, cap, m, n, D, Pl, hcs, _, hl, hm, hmm, hx, hi⟩
  · simp only [Value.cells, List.cons.injEq, and_true] at hcs
    exact ⟨none, 0, [], hcs, fun h => absurd h (by simp), fun _ => rfl⟩
  · simp only [Value.cells, List.cons.injEq, and_true] at hcs
    have hle : len ≤ m := by rw [hmm]; split <;> omega
    rw [T.cells] at hi
    have each : ∀ i, i < len → ∃ f : EI, w.cell? ((a.add (i * 2)).add 0) = some (.int .i64 f.1) ∧ w.cell? ((a.add (i * 2)).add 1) = some (.int .i64 f.2) := fun i hil => by
      obtain ⟨cs', hc, ht'⟩ := hi i (by omega)
      obtain ⟨f, rfl⟩ := open_edge T ht'
      obtain ⟨_, _, hat⟩ := World.cells?_some hc
      exact ⟨f, hat 0 (by omega), hat 1 (by omega)⟩
    obtain ⟨F, hF⟩ := choose_lt each
    have hll : ((List.range len).map F).length = len := by simp
    refine ⟨some a, cap, (List.range len).map F, by rw [hll]; exact hcs, fun hn => ?_, fun h => by cases h⟩
    rw [hll] at hn
    obtain ⟨g, o, s⟩ := a
    have h00 := (hF 0 hn).1
    obtain rfl : s = none := by simpa [Addr.add] using World.cell?_spot h00
    refine ⟨g, o, rfl, fun i x hx => ?_⟩
    have hil : i < len := by
      have := (List.getElem?_eq_some_iff.1 hx).1
      rwa [hll] at this
    rw [List.getElem?_map, List.getElem?_range hil] at hx
    obtain rfl : F i = x := by simpa using hx
    obtain ⟨h0, h1⟩ := hF i hil
    rw [Go.WideShapes.add_plain, Go.WideShapes.add_plain] at h0 h1
    exact ⟨h0, h1⟩
end
theorem edge_ty : ∃ f0 f1, EdgeTy Try.prog 35 f0 f1 := ⟨_, _, Try.underlying35, by kernel_rfl, by kernel_rfl, by kernel_rfl, by kernel_rfl⟩
set_option maxRecDepth 100000 in
theorem open_edges {H : Type} {enc : TypeId × Value → H} {W : World} {base b0 : Nat} {spare : Nat → Bool} {held : Bool} {r : Reach} {v : Value} {d : DataW H} {p : List MemPlace} (hv : Value.okWide Try.prog W r b0 22 v)
    (h : DataW.Trod enc Try.prog W base spare held 22 v d p) : ∃ A c l, v = .slice A (List.length l) c ∧ EdgesAt W A l ∧ (A = none → c = 0) := by
  obtain ⟨f0, f1, T⟩ := edge_ty
  exact open_edgesV Try.underlying22 T hv h
end Go.Proofs.Yteigepblocbnlaa.Gp
