/-
  The map of the three acts as its literal may make it: the region draws the order of the three entries.
-/
import Derived.Test.YtlampcelmlejbaaDoorBdRead0
import Derived.Maps.OwnIn
namespace Go.Proofs.YtlampcelmlejbaaDoor
open Go Go.RowKit Go.Shelf Go.Proofs

/-- An entry of a map's literal at the operation, for a fenced walk: its run is laid ahead. -/
theorem wpListIn_insert {P : Program} {F : Fence} {nF : Nat} {w w' : World} {ops : Array Oper} {rest : List Oper} {o : Oper} {a : Act} {Q : Exit → Act → World → Prop}
    (hg : o.guard = none) (m x v : Operand) (t : TypeId) (hop : o.op = Op.insert t m x v) (mv key val : Value) (hm : a.eval m = mv) (hx : a.eval x = key) (hv : a.eval v = val)
    (hrun : (Instr.mapUpdate t mv key val).run P w = .ok () w') (hK : wpListIn F nF P ops Q rest (a.put o.dst undef) w') :
    wpListIn F nF P ops Q (o :: rest) a w := by
  refine wpListIn_plain hg fun K' hK' => ?_
  unfold Oper.wpIn
  refine ⟨by simp [Oper.about, hop], ?_⟩
  rw [Oper.semAt_plain F _ _ (by rw [hop]; intro c hc'; cases hc')]
  simp [execOp, hop, hm, hx, hv, hrun, Result.andThen]
  exact hK' _ _ hK
/-- The block mb has these entries; else only what is new was turned. -/
structure InsI (b mb : Nat) (w0 W : World) (es : Array MapEntry) (clock : Nat) : Prop where
  map : W.heap[mb]? = some (.map es clock)
  low : Below b w0 W
theorem InsI.step {P : Program} {mty kt et : TypeId} {b mb clock : Nat} {w0 W : World} {es : Array MapEntry} (h : InsI b mb w0 W es clock) (hb : b ≤ mb) (s : ByteArray) (v : Value) (hm : P.underlying mty = some (.map kt et)) (hk : P.underlying kt = some .string) (hn : Instr.findNow .string (.string s) es.toList 0 = some none) :
    ∃ W', (Instr.mapUpdate mty (.map (some mb)) (.string s) v).run P W = .ok () W' ∧ W'.heap.size = W.heap.size ∧ InsI b mb w0 W' (es.push { key := .string s, val := v, born := clock }) (clock + 1) := by
  refine ⟨_, run_insert_new s v hm hk h.map hn, by simp, ⟨(MapKept.heap_set h.map).1, h.low.trans ⟨rfl, rfl, rfl, by simp, fun k hk => ?_⟩⟩⟩
  exact (MapKept.heap_set h.map).2 k (by omega)
/-- What a word names, in whatever order the entries stand. -/
def FindsActs (R : Nat) (es : Array MapEntry) : Prop := ∀ s : ByteArray,
    (s == kTarget) = true ∧ (∃ i, Instr.findNow .string (.string s) es.toList 0 = some (some (i, actOf R 61))) ∨
    (s == kSrc) = true ∧ (∃ i, Instr.findNow .string (.string s) es.toList 0 = some (some (i, actOf R 62))) ∨
    (s == kDep) = true ∧ (∃ i, Instr.findNow .string (.string s) es.toList 0 = some (some (i, actOf R 63))) ∨
    ((s == kTarget) = false ∧ (s == kSrc) = false ∧ (s == kDep) = false) ∧ Instr.findNow .string (.string s) es.toList 0 = some none
theorem finds_of (R : Nat) (es : Array MapEntry) (e1 e2 e3 : MapEntry) (he : es.toList = [e1, e2, e3])
    (h : ∀ x, x ∈ [e1, e2, e3] → (x.key = .string kTarget ∧ x.val = actOf R 61) ∨ (x.key = .string kSrc ∧ x.val = actOf R 62) ∨ (x.key = .string kDep ∧ x.val = actOf R 63))
    (hall : (∃ x ∈ [e1, e2, e3], x.key = .string kTarget) ∧ (∃ x ∈ [e1, e2, e3], x.key = .string kSrc) ∧ (∃ x ∈ [e1, e2, e3], x.key = .string kDep)) : FindsActs R es := by
  intro s
  have hks : ∀ x ∈ es.toList, MapKept.IsKey .string x.key := fun x hx => by
    rw [he] at hx
    rcases h x hx with ⟨h1, _⟩ | ⟨h1, _⟩ | ⟨h1, _⟩ <;> rw [h1] <;> simp [MapKept.IsKey]
  rcases MapKept.findNow_spec (d := .string) (k := .string s) (by simp [MapKept.IsKey]) es.toList 0 hks with ⟨h1, h2⟩ | ⟨j, e, h1, h2, h3⟩
  · refine .inr (.inr (.inr ⟨⟨?_, ?_, ?_⟩, h1⟩))
    all_goals rw [Bool.eq_false_iff]; intro q; rw [MapKept.bytes_beq] at q; subst q
    · obtain ⟨x, hx, hk⟩ := hall.1; exact h2 x (by rw [he]; exact hx) hk
    · obtain ⟨x, hx, hk⟩ := hall.2.1; exact h2 x (by rw [he]; exact hx) hk
    · obtain ⟨x, hx, hk⟩ := hall.2.2; exact h2 x (by rw [he]; exact hx) hk
  · have hx : e ∈ [e1, e2, e3] := by rw [← he]; exact List.mem_of_getElem? h2
    rcases h e hx with ⟨g1, g2⟩ | ⟨g1, g2⟩ | ⟨g1, g2⟩
    · rw [g1] at h3; rw [g2] at h1
      have : kTarget = s := by simpa using h3
      exact .inl ⟨by rw [MapKept.bytes_beq]; exact this.symm, _, h1⟩
    · rw [g1] at h3; rw [g2] at h1
      have : kSrc = s := by simpa using h3
      exact .inr (.inl ⟨by rw [MapKept.bytes_beq]; exact this.symm, _, h1⟩)
    · rw [g1] at h3; rw [g2] at h1
      have : kDep = s := by simpa using h3
      exact .inr (.inr (.inl ⟨by rw [MapKept.bytes_beq]; exact this.symm, _, h1⟩))
end Go.Proofs.YtlampcelmlejbaaDoor
