/-
  A queue in memory: its requests, its answers; that they stay.
-/
import Derived.Test.YtnkfnmkbfnhmfaaDoorGCommit
import Derived.Maps.OwnSet
namespace Go.Proofs.YtnkfnmkbfnhmfaaDoor
open Go Go.RowKit Go.Shelf Go.Proofs Go.ChangeMaps Go.Maps Go.WideMaps

/-- A request in memory. -/
structure QX where
  id : Int
  base : Int
  A : Option Addr
  c : Nat
  l : List DX
instance : Inhabited QX := ⟨⟨0, 0, none, 0, []⟩⟩
def QX.cs (x : QX) : List Value := [.int .i64 x.id, .int .i64 x.base, .slice x.A x.l.length x.c]
def QX.v (x : QX) : Value := .agg #[.int .i64 x.id, .int .i64 x.base, .slice x.A x.l.length x.c]
def qcells (l : List QX) : List Value := l.flatMap QX.cs
theorem qcells_cons (x : QX) (l : List QX) : qcells (x :: l) = .int .i64 x.id :: .int .i64 x.base :: .slice x.A x.l.length x.c :: qcells l := rfl
theorem qcells_append (a b : List QX) : qcells (a ++ b) = qcells a ++ qcells b := by unfold qcells; rw [List.flatMap_append]
theorem qcells_length (l : List QX) : (qcells l).length = l.length * 3 := by
  induction l with
  | nil => rfl
  | cons x l ih => rw [qcells_cons]; simp only [List.length_cons, ih]; omega
theorem qcells_at (l : List QX) (i : Nat) (x : QX) (h : l[i]? = some x) : (qcells l)[i * 3]? = some (.int .i64 x.id) ∧ (qcells l)[i * 3 + 1]? = some (.int .i64 x.base) ∧ (qcells l)[i * 3 + 2]? = some (.slice x.A x.l.length x.c) := by
  induction l generalizing i with
  | nil => simp at h
  | cons y l ih => cases i with
    | zero => simp at h; subst h; exact ⟨rfl, rfl, rfl⟩
    | succ i =>
      obtain ⟨h1, h2, h3⟩ := ih i (by simpa using h)
      rw [qcells_cons, show (i + 1) * 3 = i * 3 + 1 + 1 + 1 from by omega]
      exact ⟨by simpa using h1, by simpa using h2, by simpa using h3⟩
theorem QX.one {x : QX} : ∀ u ∈ x.cs, u.oneCell' = true := by
  intro u hu
  unfold QX.cs at hu
  simp only [List.mem_cons, List.mem_nil_iff, or_false] at hu
  rcases hu with rfl | rfl | rfl <;> rfl
theorem qcells_one (l : List QX) : ∀ u ∈ qcells l, u.oneCell' = true := by
  intro u hu
  unfold qcells at hu
  obtain ⟨x, _, hu⟩ := List.mem_flatMap.1 hu
  exact QX.one u hu
theorem request_info : (Tryd.prog.info? 42).map (fun i => (i.zero, i.size, i.bytes)) = some (some (.agg #[.int .i64 0, .int .i64 0, .slice none 0 0]), 3, 40) := by kernel_rfl

/-- An answer: who, what, which revision, which error. -/
structure AX where
  id : Int
  k : Int
  r : Int
  e : Int
def AX.v (x : AX) : Value := .agg #[.int .i64 x.id, .int .i64 x.k, .int .i64 x.r, .int .i64 x.e]
def AX.cells (x : AX) : Array Value := #[.int .i64 x.id, .int .i64 x.k, .int .i64 x.r, .int .i64 x.e]
def noA : AX := ⟨0, 0, 0, 0⟩
def AX.d (x : AX) : DataW Unit := .agg [.lit (.int .i64 x.id), .lit (.int .i64 x.k), .lit (.int .i64 x.r), .lit (.int .i64 x.e)]
def ansElem (v : Value) : Option (DataW Unit × List MemPlace) :=
  match v with
  | .agg xs => (match xs.toList with | [.int .i64 a, .int .i64 b, .int .i64 c, .int .i64 d] => some (.agg [.lit (.int .i64 a), .lit (.int .i64 b), .lit (.int .i64 c), .lit (.int .i64 d)], []) | _ => none)
  | _ => none
theorem ansElem_mk (x : AX) : ansElem x.v = some (x.d, []) := rfl
theorem ansElem_inv {v : Value} {z : DataW Unit × List MemPlace} (h : ansElem v = some z) : ∃ x : AX, v = x.v ∧ z = (x.d, []) := by
  cases v with
  | agg xs =>
    obtain ⟨l⟩ := xs
    match l, h with
    | [.int .i64 a, .int .i64 b, .int .i64 c, .int .i64 d], h => exact ⟨⟨a, b, c, d⟩, rfl, (Option.some.inj h).symm⟩
  | _ => simp [ansElem] at h
theorem AX.d_inj {x y : AX} (h : x.d = y.d) : x = y := by
  obtain ⟨a, b, c, d⟩ := x
  obtain ⟨a', b', c', d'⟩ := y
  simp only [AX.d, DataW.agg.injEq, List.cons.injEq, DataW.lit.injEq, Lit.int.injEq, true_and, and_true] at h
  obtain ⟨rfl, rfl, rfl, rfl⟩ := h
  rfl
theorem ikeyed : Keyed Tryd.prog 3 := int_keyed Tryd.underlying3

/-- The answers laid so far, the newest first, as the map has them. -/
def ansD : List AX → DataW Unit
  | [] => .map []
  | x :: l => (ansD l).put (.int .i64 x.id) x.d
theorem ansD_isMap : ∀ l : List AX, Maps.IsMap (ansD l)
  | [] => Maps.isMap_empty
  | _ :: l => Maps.IsMap.put (ansD_isMap l) _ _
def ansOf (l : List AX) (id : Int) : Option AX := l.find? fun x => x.id == id

/-- The requests that wait: a row of the queue's own, with changes of their own. -/
structure WaitsAt (base : Nat) (w : World) (v : Value) (R : List QX) : Prop where
  row : w.ownsRow base 42 3 v R.length (qcells R)
  own : ∀ x ∈ R, DeltasAt base w (.slice x.A x.l.length x.c) x.l
  sm : ∀ x ∈ R, SmallD x.l ∧ 0 < x.l.length
/-- The queue at block qb: over the history at hb; the map of answers at ab. -/
structure QueueAt (base : Nat) (w : World) (qb hb ab room : Nat) (v : Value) (R : List QX) (L : List AX) : Prop where
  heap : w.heap[qb]? = some (.cells #[.pointer (some ⟨hb, 0, none⟩), v, .int .i64 room, .map (some ab)] 79 (0, 0))
  waits : WaitsAt base w v R
  ans : w.ownsMap Tryd.prog 3 ansElem ab L.length (ansD L)
  lq : base ≤ qb
  la : base ≤ ab
theorem WaitsAt.keep {base : Nat} {w w' : World} {v : Value} {R : List QX} (h : WaitsAt base w v R) (hk : ∀ (g : Nat) (cur : Array Value) (t : TypeId), t = 42 ∨ t = 51 ∨ t = 5 → w.heap[g]? = some (.cells cur t (0, 0)) → w'.heap[g]? = w.heap[g]?) : WaitsAt base w' v R := by
  refine ⟨⟨h.row.1, h.row.2.imp id fun ⟨g, cap, cur, hv, hb, hg, r⟩ => ⟨g, cap, cur, hv, hb, (hk g cur _ (.inl rfl) hg).trans hg, r⟩⟩, fun x hx => ?_, h.sm⟩
  have h1 := h.own x hx
  exact ⟨⟨h1.own.1, h1.own.2.imp id fun ⟨g, cap, cur, hv, hb, hg, r⟩ => ⟨g, cap, cur, hv, hb, (hk g cur _ (.inr (.inl rfl)) hg).trans hg, r⟩⟩, fun y hy => (h1.bod y hy).keep fun g cur hg => hk g cur _ (.inr (.inr rfl)) hg⟩
theorem ownsMap_keep {H : Type} {w w' : World} {P : Program} {k : TypeId} {R : Value → Option (DataW H × List MemPlace)} {b n : Nat} {D : DataW H} (h : w.ownsMap P k R b n D) (hk : ∀ o, w.heap[b]? = some o → w'.heap[b]? = some o) : w'.ownsMap P k R b n D := by
  obtain ⟨es, clock, he, F, hs, hD⟩ := h
  exact ⟨es, clock, hk _ he, F, hs, hD⟩
theorem QueueAt.keep {base : Nat} {w w' : World} {qb hb ab room : Nat} {v : Value} {R : List QX} {L : List AX} (h : QueueAt base w qb hb ab room v R L) (hk : ∀ (g : Nat) (cur : Array Value) (t : TypeId), t = 42 ∨ t = 51 ∨ t = 5 ∨ t = 79 → w.heap[g]? = some (.cells cur t (0, 0)) → w'.heap[g]? = w.heap[g]?) (hm : ∀ o, w.heap[ab]? = some o → w'.heap[ab]? = some o) : QueueAt base w' qb hb ab room v R L :=
  ⟨(hk qb _ _ (.inr (.inr (.inr rfl))) h.heap).trans h.heap, h.waits.keep fun g cur t ht hg => hk g cur t (by rcases ht with h | h | h <;> simp [h]) hg, ownsMap_keep h.ans hm, h.lq, h.la⟩
theorem QueueAt.below {base : Nat} {w w' : World} {qb hb ab room : Nat} {v : Value} {R : List QX} {L : List AX} (h : QueueAt base w qb hb ab room v R L) (hb' : Below w.heap.size w w') : QueueAt base w' qb hb ab room v R L :=
  h.keep (fun g _ _ _ hg => hb'.block g (Array.getElem?_eq_some_iff.1 hg).1) (fun _ ho => (hb'.block ab (Array.getElem?_eq_some_iff.1 ho).1).trans ho)
/-- A history stays where what is turned is no history's. -/
theorem HistAt.turnQ {base : Nat} {w w' : World} {hb n : Nat} {nm : List FX} {M : Bs → Nat} {nv cv : Value} {mb k : Nat} {D : DataW Unit} {H : List (Nat × List DX)} (h : HistAt base w hb n nm M nv cv mb k D H) (hk : ∀ (g : Nat) (cur : Array Value) (t : TypeId), t ≠ 79 ∧ t ≠ 42 → w.heap[g]? = some (.cells cur t (0, 0)) → w'.heap[g]? = w.heap[g]?) (hm : ∀ o, w.heap[mb]? = some o → w'.heap[mb]? = some o) : HistAt base w' hb n nm M nv cv mb k D H := by
  refine ⟨(hk hb _ _ (by decide) h.heap).trans h.heap, ⟨h.names.1, ?_⟩, h.right, h.bare, ⟨h.commits.1, ?_⟩, h.num, h.full.keepB (fun g cur t ht hg => hk g cur t (by rcases ht with rfl | rfl <;> decide) hg), h.sm, h.map.keep ?_, h.room, h.revs.keep (fun g cur hg => hk g cur _ (by decide) hg), h.le, h.lb, h.lm⟩
  · exact h.names.2.imp id fun ⟨g, cap, cur, hv, hb, hg, r⟩ => ⟨g, cap, cur, hv, hb, (hk g cur _ (by decide) hg).trans hg, r⟩
  · exact h.commits.2.imp id fun ⟨g, cap, cur, hv, hb, hg, r⟩ => ⟨g, cap, cur, hv, hb, (hk g cur _ (by decide) hg).trans hg, r⟩
  · obtain ⟨es, ck, hy⟩ := h.map.block
    rw [hm _ hy, hy]
end Go.Proofs.YtnkfnmkbfnhmfaaDoor
