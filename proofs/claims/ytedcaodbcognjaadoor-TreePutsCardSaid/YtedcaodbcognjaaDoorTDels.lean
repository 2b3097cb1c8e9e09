/-
  A row of changes that a call made, read as an argument; bytes compared as strings; the document's Same of bytes.
-/
import Derived.Test.YtedcaodbcognjaaDoorTApply
import Derived.Test.YtedcaodbcognjaaDoorTDiffAll
import Derived.Laws.BytesArg
namespace Go.Proofs.YtedcaodbcognjaaDoor
open Go Go.RowKit Go.Shelf Go.Proofs
attribute [local go_sem] Oper.semAt_some

theorem dcells_length (l : List DX) : (dcells l).length = l.length * 3 := by
  induction l with
  | nil => rfl
  | cons x l ih =>
    have e : dcells (x :: l) = x.cs ++ dcells l := rfl
    rw [e, List.length_append, ih]; simp only [DX.cs, List.length_cons, List.length_nil]; omega
theorem dcells_at : ∀ (l : List DX) (i : Nat) (x : DX), l[i]? = some x → (dcells l)[i * 3]? = some (.int .i64 x.k) ∧ (dcells l)[i * 3 + 1]? = some (.string x.p) ∧ (dcells l)[i * 3 + 2]? = some (.slice x.A x.b.length x.c)
  | [], i, x, h => by simp at h
  | y :: l, 0, x, h => by simp at h; subst h; exact ⟨rfl, rfl, rfl⟩
  | y :: l, i + 1, x, h => by
    obtain ⟨h1, h2, h3⟩ := dcells_at l i x (by simpa using h)
    have e : dcells (y :: l) = .int .i64 y.k :: .string y.p :: .slice y.A y.b.length y.c :: dcells l := rfl
    rw [e, show (i + 1) * 3 = i * 3 + 1 + 1 + 1 from by omega]
    refine ⟨by simpa using h1, ?_, ?_⟩
    · rw [show i * 3 + 1 + 1 + 1 + 1 = (i * 3 + 1) + 1 + 1 + 1 from by omega]; simpa using h2
    · rw [show i * 3 + 1 + 1 + 1 + 2 = (i * 3 + 2) + 1 + 1 + 1 from by omega]; simpa using h3
theorem DeltasAt.dels {base : Nat} {w : World} {v : Value} {l : List DX} (h : DeltasAt base w v l) : ∃ A c, v = .slice A l.length c ∧ DelsAt w A c l := by
  rcases h.own.2 with ⟨rfl, h0⟩ | ⟨g, cap, cur, rfl, _, _, hc, hcm, _, _⟩
  · obtain rfl : l = [] := List.eq_nil_of_length_eq_zero h0
    exact ⟨none, 0, rfl, Nat.zero_le _, Nat.zero_le _, fun h => absurd h (by simp), fun x hx => by cases hx⟩
  · refine ⟨_, _, rfl, hc, hcm, fun _ => ⟨g, 0, rfl, fun i x hx => ?_⟩, fun x hx => (h.bod x hx).at_⟩
    obtain ⟨h1, h2, h3⟩ := dcells_at l i x hx
    have a1 := World.ownsRow.cells h.own (g := g) rfl _ _ h1
    have a2 := World.ownsRow.cells h.own (g := g) rfl _ _ h2
    have a3 := World.ownsRow.cells h.own (g := g) rfl _ _ h3
    rw [Go.WideShapes.add_plain, Nat.zero_add] at a1 a2 a3
    rw [Nat.zero_add]
    exact ⟨a1, a2, a3⟩

/-- string(b). -/
theorem run_str (w : World) (A : Option Addr) (c : Nat) (b : Bs) (h : BytesAt w A b) : (convert 37 9 (.slice A b.length c)).run Tryd.prog w = .ok (.string (mkB b)) w := by
  cases b with
  | nil => exact run_convert_bytes_zero w 37 5 Tryd.underlying37 Tryd.underlying5 A c 9 Tryd.underlying9
  | cons x r =>
    obtain ⟨g, o, rfl, hc⟩ := h (by simp)
    refine run_convert_bytes_back w 37 9 5 ⟨g, o, none⟩ c (x :: r) Tryd.underlying37 Tryd.underlying5 Tryd.underlying9 fun j hj => ?_
    rw [Go.WideShapes.add_plain, hc j hj]
    have e : (numsB (x :: r))[j]? = some (((x :: r)[j].toNat : Nat) : Int) := by unfold numsB; rw [List.getElem?_map, List.getElem?_eq_getElem hj]; rfl
    rw [List.getD, e]; rfl
theorem mkB_eq (a b : Bs) : ((mkB a).toList == (mkB b).toList) = (a == b) := by
  rw [ByteArray.toList_eq, ByteArray.toList_eq, mkB_data, mkB_data]

set_option maxHeartbeats 1000000 in
theorem samebytes_any (a b : Bs) (A B : Option Addr) (c d : Nat) (w : World) (ha : BytesAt w A a) (hb : BytesAt w B b) :
    Calls Tryd.prog 23 #[.slice A a.length c, .slice B b.length d] w fun e w' => e = .returned (.bool (a == b)) ∧ Below w.heap.size w w' := by
  have h1 := run_str w A c a ha
  have h2 := run_str w B d b hb
  have he := mkB_eq a b
  have HE := Lib.hid he; clear he
  go_enter Tryd.func23, Tryd.ntmps23
  go_wp2_with fail
  go_ret
  exact ⟨ret_boolT HE.out, Below.refl _ _⟩
end Go.Proofs.YtedcaodbcognjaaDoor
