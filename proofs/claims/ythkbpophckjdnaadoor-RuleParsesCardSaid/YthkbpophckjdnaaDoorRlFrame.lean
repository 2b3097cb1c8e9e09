/-
  What every law's row of the package rule wants: the world of the witness, the library's variable; a row of rules opened.
-/
import Derived.Test.YthkbpophckjdnaaDoorTOpen
import Derived.Test.YthkbpophckjdnaaDoorRlPrint
import Derived.Test.YthkbpophckjdnaaDoorShelf
import Derived.Test.YthkbpophckjdnaaDoorCards
import Derived.Test.YthkbpophckjdnaaDoorTie
import Derived.WalkKit
import Derived.ProofKit
import Derived.OpenShut
import Derived.SizedLaws
import Derived.ShutString
import Derived.Deep.DeepHandedRow
import Derived.Lib.LaidTab
import Derived.Lib.SmallJoins
namespace Go.Proofs.YthkbpophckjdnaaDoor
open Go Go.ChangeShapes Go.WideShapes Go.ChangeAt Go.RowKit Go.Proofs Go.Deep

theorem own : ownKnob Tryd.prog.godebug = none := by kernel_rfl
def leafV : DataW Unit → Value
  | .lit (.int k n) => .int k n
  | _ => .int .u8 0
def flat1 : DataW Unit → List Value
  | .agg l => l.map leafV
  | _ => []
def flat2 : DataW Unit → List Value
  | .agg l => l.flatMap flat1
  | _ => []
def setCells (l : List Value) : Obj → Obj
  | .cells _ t frozen => .cells l.toArray t frozen
  | o => o
/-- A world for the witness: the settled one, the two tables holding what the program lays. -/
noncomputable def laidWorld (os : Os) : World :=
  { World.holding Tryd.prog os ⟨#[], #[], []⟩ with heap := ((World.holding Tryd.prog os ⟨#[], #[], []⟩).heap.modify 0 (setCells (flat1 Rows.laid_unicode_utf8_first))).modify 1 (setCells (flat2 Rows.laid_unicode_utf8_acceptRanges)) }

theorem max_ok {W : World} (h : W.ShapedOpen Tryd.prog) : MaxOk W := by
  have H : ∃ m, W.cell? ⟨2, 0, none⟩ = some (.int .i64 m) := by first | exact Tryd.laysM146.s1_3 W h | exact Tryd.laysM143.s1_3 W h | exact Tryd.laysM219.s1_3 W h
  obtain ⟨m, hm⟩ := H
  have hl := World.block_lt_of_cell? W _ hm
  exact ⟨Nat.lt_of_le_of_lt (Nat.zero_le _) hl, hl, m, hm⟩
theorem laid_out : laidOutB Tryd.prog = true := by kernel_rfl

section
variable {H : Type} {enc : TypeId × Value → H} {P : Program} {w : World} {base : Nat} {spare : Nat → Bool} {held : Bool}

/-- The closed facts of a rule's type: a number, three texts. -/
structure RuleTy (P : Program) (t : TypeId) (f0 f1 f2 f3 : Field) : Prop where
  st : P.underlying t = some (.struct #[f0, f1, f2, f3])
  cells : P.cellsOf t = 4
  one : oneCellFields P #[f0, f1, f2, f3] = true
  num : P.underlying f0.type = some (.int .i64)
  s1 : P.underlying f1.type = some .string
  s2 : P.underlying f2.type = some .string
  s3 : P.underlying f3.type = some .string
/-- What a rule that was handed in bears. -/
structure RX.Ok (x : RX) : Prop where
  wf : (Lit.int .i64 x.k).wf = true
  g : x.g.size ≤ reachBytes
  o : x.o.size ≤ reachBytes
  n : x.n.size ≤ reachBytes
theorem RX.Ok.fits {x : RX} (h : x.Ok) : x.Fits := by
  have := h.g; have := h.o; have := h.n
  have hw := h.wf
  unfold reachBytes at *
  simp [Lit.wf, IntKind.min, IntKind.max, IntKind.signed, IntKind.bits] at hw
  constructor <;> (try unfold maxLen) <;> omega

theorem open_ruleB {t : TypeId} {f0 f1 f2 f3 : Field} (T : RuleTy P t f0 f1 f2 f3) {fuel : Nat} {cs : List Value} {x : DataW H × List MemPlace}
    (h : DataW.trod enc P w base spare held fuel t cs = some x) (hz : Sized P t x.1) : ∃ d : RX, cs = d.cs ∧ d.Ok := by
  obtain ⟨y0, y1, y2, y3, n, rfl, hlen, h0, h1, h2, h3⟩ := Go.Joins.trod_struct4 T.st h
  obtain ⟨o0, k0⟩ := hone_of T.one 0 f0 rfl
  obtain ⟨o1, k1⟩ := hone_of T.one 1 f1 rfl
  obtain ⟨o2, k2⟩ := hone_of T.one 2 f2 rfl
  obtain ⟨o3, k3⟩ := hone_of T.one 3 f3 rfl
  rw [T.cells] at hlen
  obtain ⟨c0, c1, c2, c3, rfl⟩ : ∃ c0 c1 c2 c3, cs = [c0, c1, c2, c3] := by
    match cs, hlen with
    | [c0, c1, c2, c3], _ => exact ⟨c0, c1, c2, c3, rfl⟩
  · clear hlen
    have h0 : DataW.trod enc P w base spare held n f0.type [c0] = some y0 := by simpa [o0, k0] using h0
    have h1 : DataW.trod enc P w base spare held n f1.type [c1] = some y1 := by simpa [o1, k1] using h1
    have h2 : DataW.trod enc P w base spare held n f2.type [c2] = some y2 := by simpa [o2, k2] using h2
    have h3 : DataW.trod enc P w base spare held n f3.type [c3] = some y3 := by simpa [o3, k3] using h3
    obtain ⟨m, hm, rfl, hwf⟩ := DataW.trod_int T.num h0
    obtain ⟨s1, hs1, rfl, _⟩ := DataW.trod_string T.s1 h1
    obtain ⟨s2, hs2, rfl, _⟩ := DataW.trod_string T.s2 h2
    obtain ⟨s3, hs3, rfl, _⟩ := DataW.trod_string T.s3 h3
    have z1 : Sized P f1.type (.lit (.string s1.data.toList) : DataW H) := hz.field T.st (j := 1) (f := f1) rfl rfl
    have z1 := z1.str
    rw [Array.length_toList] at z1
    have z2 : Sized P f2.type (.lit (.string s2.data.toList) : DataW H) := hz.field T.st (j := 2) (f := f2) rfl rfl
    have z2 := z2.str
    rw [Array.length_toList] at z2
    have z3 : Sized P f3.type (.lit (.string s3.data.toList) : DataW H) := hz.field T.st (j := 3) (f := f3) rfl rfl
    have z3 := z3.str
    rw [Array.length_toList] at z3
    simp only [List.cons.injEq, and_true] at hm hs1 hs2 hs3
    subst hm; subst hs1; subst hs2; subst hs3
    exact ⟨⟨m, s1, s2, s3⟩, rfl, ⟨hwf, z1, z2, z3⟩⟩

theorem open_rulesV {t e : TypeId} {f0 f1 f2 f3 : Field} (ht : P.underlying t = some (.slice e)) (T : RuleTy P e f0 f1 f2 f3) {r : Reach} {b0 : Nat} {v : Value} {d : DataW H} {p : List MemPlace} (hv : Value.okWide P w r b0 t v)
    (h : DataW.Trod enc P w base spare held t v d p) (hz : Sized P t d) : ∃ A c l, v = .slice A (List.length l) c ∧ RulesAt w A c l ∧ ∀ x ∈ l, x.Ok := by
  obtain ⟨a, len, cap, rfl⟩ := okWide_slice ht hv
  obtain ⟨fuel, hf⟩ := h
  rcases open_slice ht hf with ⟨hcs, _⟩ | ⟨a, len, cap, m, n, D, Pl, hcs, _, hl, hm, hmm, hx, hi⟩
  · simp only [Value.cells, List.cons.injEq, and_true] at hcs
    exact ⟨none, 0, [], hcs, RulesAt.nil _ _ _ (Nat.zero_le _), fun x hx => by cases hx⟩
  · simp only [Value.cells, List.cons.injEq, and_true] at hcs
    rw [Prod.mk.injEq] at hx
    obtain ⟨rfl, _⟩ := hx
    have hle : len ≤ m := by rw [hmm]; split <;> omega
    rw [T.cells] at hi
    have each : ∀ i, i < len → ∃ f : RX, f.Ok ∧ w.cell? ((a.add (i * 4)).add 0) = some (.int .i64 f.k) ∧ w.cell? ((a.add (i * 4)).add 1) = some (.string f.g) ∧ w.cell? ((a.add (i * 4)).add 2) = some (.string f.o) ∧ w.cell? ((a.add (i * 4)).add 3) = some (.string f.n) := fun i hil => by
      obtain ⟨cs', hc, ht'⟩ := hi i (by omega)
      have hsz : Sized P e (D i) := hz.elem ht (List.mem_map.2 ⟨i, List.mem_range.2 hil, rfl⟩)
      obtain ⟨f, rfl, hf⟩ := open_ruleB T ht' hsz
      obtain ⟨_, _, hat⟩ := World.cells?_some hc
      exact ⟨f, hf, hat 0 (by omega), hat 1 (by omega), hat 2 (by omega), hat 3 (by omega)⟩
    obtain ⟨F, hF⟩ := choose_lt each
    have hll : ((List.range len).map F).length = len := by simp
    have hmem : ∀ f ∈ (List.range len).map F, f.Ok := fun f hf => by
      obtain ⟨i, hi', rfl⟩ := List.mem_map.1 hf
      exact (hF i (List.mem_range.1 hi')).1
    refine ⟨some a, cap, (List.range len).map F, by rw [hll]; exact hcs, ⟨by rw [hll]; exact hl, hm, fun hn => ?_⟩, hmem⟩
    rw [hll] at hn
    obtain ⟨g, o, s⟩ := a
    have h00 := (hF 0 hn).2.1
    obtain rfl : s = none := by simpa [Addr.add] using World.cell?_spot h00
    refine ⟨g, o, rfl, fun i x hx => ?_⟩
    have hil : i < len := by
      have := (List.getElem?_eq_some_iff.1 hx).1
      rwa [hll] at this
    rw [List.getElem?_map, List.getElem?_range hil] at hx
    obtain rfl : F i = x := by simpa using hx
    obtain ⟨_, h0, h1, h2, h3⟩ := hF i hil
    rw [Go.WideShapes.add_plain, Go.WideShapes.add_plain] at h0 h1 h2 h3
    exact ⟨h0, h1, h2, h3⟩

theorem open_ruleV {t : TypeId} {f0 f1 f2 f3 : Field} (T : RuleTy P t f0 f1 f2 f3) {r : Reach} {b0 : Nat} {v : Value} {d : DataW H} {p : List MemPlace} (hv : Value.okWide P w r b0 t v)
    (h : DataW.Trod enc P w base spare held t v d p) (hz : Sized P t d) : ∃ x : RX, v = x.v ∧ x.Ok := by
  obtain ⟨cs, rfl, hsz⟩ := okWide_struct T.st hv
  obtain ⟨fuel, hf⟩ := h
  obtain ⟨x, hcs, h1⟩ := open_ruleB T hf hz
  refine ⟨x, ?_, h1⟩
  have hcs : cs.toList = x.cs := hcs
  show Value.agg cs = .agg x.cs.toArray
  rw [← hcs]
end
theorem rule_ty : ∃ f0 f1 f2 f3, RuleTy Tryd.prog 35 f0 f1 f2 f3 := ⟨_, _, _, _, Tryd.underlying35, by kernel_rfl, by kernel_rfl, by kernel_rfl, by kernel_rfl, by kernel_rfl, by kernel_rfl⟩
end Go.Proofs.YthkbpophckjdnaaDoor
