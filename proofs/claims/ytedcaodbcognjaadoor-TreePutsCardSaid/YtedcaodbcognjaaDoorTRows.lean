/-
  Two rows of changes, the one behind the other.
-/
import Derived.Test.YtedcaodbcognjaaDoorTBits
import Derived.Laws.AppendOwnNone
namespace Go.Proofs.YtedcaodbcognjaaDoor
open Go Go.RowKit Go.Shelf Go.Proofs

theorem dcells_append (a b : List DX) : dcells (a ++ b) = dcells a ++ dcells b := by unfold dcells; rw [List.flatMap_append]
theorem dcells_one (l : List DX) : ∀ u ∈ dcells l, u.oneCell' = true := by
  intro u hu
  unfold dcells at hu
  obtain ⟨x, _, hx⟩ := List.mem_flatMap.1 hu
  unfold DX.cs at hx
  simp only [List.mem_cons, List.mem_nil_iff, or_false] at hx
  rcases hx with rfl | rfl | rfl <;> rfl
def RowD (base : Nat) (w : World) (v : Value) (l : List DX) : Prop := w.ownsRow base 39 3 v l.length (dcells l)
theorem wpList_append_dels {ops : Array Oper} {rest : List Oper} {o : Oper} {a : Act} {w : World} {Q : Exit → Act → World → Prop} (hgd : o.guard = none) (s x : Operand)
    (ho : o.op = .call { callee := .builtin .append, args := #[s, x], argTypes := #[24, 24] })
    (base base' : Nat) (v vx : Value) (l m : List DX) (hs : a.eval s = v) (hown : RowD base w v l) (hx : a.eval x = vx) (hm : DeltasAt base' w vx m) (hl : l.length + m.length ≤ 10000) (hbase : base ≤ w.heap.size)
    (h : ∀ v' w', RowD base w' v' (l ++ m) → w.grownBy w' v.ownBlock → wpList Tryd.prog ops Q rest (a.put o.dst v') w') : wpList Tryd.prog ops Q (o :: rest) a w := by
  obtain ⟨i0, hi, hz0, hz1, hz2⟩ := info_parts delta_info
  rcases hm.own.2 with ⟨rfl, h0⟩ | ⟨g, cap, cur, rfl, _⟩
  · obtain rfl : m = [] := List.eq_nil_of_length_eq_zero h0
    refine wpList_append_own_none hgd s x 24 ho base 39 i0 3 Tryd.underlying24 hi v l.length (dcells l) hs hown hx (h v w ?_ (World.grownBy.refl w _))
    rw [List.append_nil]; exact hown
  · refine wpList_append_own w hgd s x 24 ho base 39 i0 (.agg #[.int .i64 0, .string ⟨#[]⟩, .slice none 0 0]) 3 48 Tryd.underlying24 hi hz0 hz1 hz2 rfl (by decide) v l.length (dcells l) hs hown ⟨g, 0, none⟩ m.length cap (dcells m) hx (dcells_length m) ?_ (dcells_one m) (by unfold maxLen; omega) (by omega) hbase fun v' w' h1 h2 _ => h v' w' ?_ h2
    · exact World.ownsRow.cells hm.own (g := g) rfl
    · show World.ownsRow _ _ _ _ _ _ _
      rw [List.length_append, dcells_append]; exact h1
theorem RowD.dels {base : Nat} {w : World} {v : Value} {l : List DX} (h : RowD base w v l) (hb : ∀ x ∈ l, BytesAt w x.A x.b) : ∃ A c, v = .slice A l.length c ∧ DelsAt w A c l := by
  rcases h.2 with ⟨rfl, h0⟩ | ⟨g, cap, cur, rfl, _, _, hc, hcm, _, _⟩
  · obtain rfl : l = [] := List.eq_nil_of_length_eq_zero h0
    exact ⟨none, 0, rfl, Nat.zero_le _, Nat.zero_le _, fun h => absurd h (by simp), fun x hx => by cases hx⟩
  · refine ⟨_, _, rfl, hc, hcm, fun _ => ⟨g, 0, rfl, fun i x hx => ?_⟩, hb⟩
    obtain ⟨h1, h2, h3⟩ := dcells_at l i x hx
    have a1 := World.ownsRow.cells h (g := g) rfl _ _ h1
    have a2 := World.ownsRow.cells h (g := g) rfl _ _ h2
    have a3 := World.ownsRow.cells h (g := g) rfl _ _ h3
    rw [Go.WideShapes.add_plain, Nat.zero_add] at a1 a2 a3
    rw [Nat.zero_add]
    exact ⟨a1, a2, a3⟩
theorem TinyX.of_fls {l m : List FX} (h : flsX l = flsX m) (hm : TinyX m) : TinyX l := by
  have hn := congrArg List.length h
  rw [flsX_length, flsX_length] at hn
  refine ⟨by rw [hn]; exact hm.len, fun x hx => ?_⟩
  have hx2 : x.fl ∈ flsX m := by rw [← h]; exact List.mem_map.2 ⟨x, hx, rfl⟩
  obtain ⟨y, hy, e⟩ := List.mem_map.1 hx2
  have hh := hm.each y hy
  have e1 : y.p.data.toList = x.p.data.toList := congrArg (·.1) e
  have e2 : y.b = x.b := congrArg (·.2) e
  have e3 := congrArg List.length e1
  rw [Array.length_toList, Array.length_toList] at e3
  have e4 : y.p.size = x.p.size := e3
  rw [← e4, ← e2]; exact hh
end Go.Proofs.YtedcaodbcognjaaDoor
