/-
  A row of files that a call made itself; slices.DeleteFunc on it. · The contracts of tree.heads, tree.pairs: two lists by rising paths, told side by side. · The contract of tree.Same. · How changes lie in memory that a call made itself: a row of three cells each, their bytes in rows of their own; bytes.Clone in these words. · slices.DeleteFunc on a row of files of the call's own; tree.drop. · tree.drop on a row of files of the call's own; tree.own. · What slices.Insert does to a row of files of the call's own: laws of memory. · slices.Insert of one file into a row of files of the call's own. · slices.Insert of one file into a row of files of the call's own, ahead of its end, where there is room. · slices.Insert of one file into a row of files of the call's own, ahead of its end, where there is no room; all three roads. · tree.put, tree.changed on a row of files of the call's own. · tree.own: each file of a row of the call's own gets bytes of its own; slices.Clone of a tree. · slices.Clone of a tree; tree.Drop, tree.Put. · tree.Drop, tree.Put. · tree.Get.
-/
import Derived.Test.YtckpojkbcbogbaaDoorTFuncs
import Derived.Deep.Upon
import Derived.RangeFuncBox
import Derived.Laws.IdiomCopy
import Derived.Lib.SliceRun
import Derived.Test.YtckpojkbcbogbaaDoorProg
import Derived.Test.YtckpojkbcbogbaaDoorTLaws
import Derived.Test.YtckpojkbcbogbaaDoorShelf
import Derived.Test.YtckpojkbcbogbaaDoorSeq
import Derived.Deep.QuietTactic
import Derived.BigQuiet
import Derived.RangeFuncBound
import Derived.Shelf.Abstract
import Derived.Shelf.RegionOpen
import Derived.OwnWalkIn
import Derived.TacticsInMore
import Derived.LoopNIn
import Derived.LoopIn
import Derived.IntWalk
import Derived.Test.YtckpojkbcbogbaaDoorConsists
import Derived.Test.YtckpojkbcbogbaaDoorBdActz
import Derived.Lib.Overlaps
import Derived.Lib.AppendZerosOnto
import Derived.Laws.Externs
import Derived.Shelf.Spec.SlicesInsert
import Derived.Deep.RegionLaw
import Derived.Maps.AppendAt
import Derived.Lib.Hide
namespace Go.Proofs.YtckpojkbcbogbaaDoor
open Go Go.RowKit Go.Shelf Go.Proofs

def fcells (l : List FX) : List Value := l.flatMap FX.cs
theorem fcells_cons (x : FX) (l : List FX) : fcells (x :: l) = .string x.p :: .slice x.A x.b.length x.c :: fcells l := rfl
theorem fcells_append (a b : List FX) : fcells (a ++ b) = fcells a ++ fcells b := by unfold fcells; rw [List.flatMap_append]
theorem fcells_length (l : List FX) : (fcells l).length = l.length * 2 := by
  induction l with
  | nil => rfl
  | cons x l ih => rw [fcells_cons]; simp only [List.length_cons, ih]; omega
theorem fcells_take (l : List FX) (k : Nat) : (fcells l).take (k * 2) = fcells (l.take k) := by
  induction l generalizing k with
  | nil => simp [fcells]
  | cons x l ih => cases k with
    | zero => simp [fcells]
    | succ k => rw [List.take_succ_cons, fcells_cons, fcells_cons, show (k + 1) * 2 = k * 2 + 1 + 1 from by omega, List.take_succ_cons, List.take_succ_cons, ih]
theorem fcells_at (l : List FX) (i : Nat) (x : FX) (h : l[i]? = some x) : (fcells l)[i * 2]? = some (.string x.p) ∧ (fcells l)[i * 2 + 1]? = some (.slice x.A x.b.length x.c) := by
  induction l generalizing i with
  | nil => simp at h
  | cons y l ih => cases i with
    | zero => simp at h; subst h; exact ⟨rfl, rfl⟩
    | succ i =>
      have := ih i (by simpa using h)
      rw [fcells_cons, show (i + 1) * 2 = i * 2 + 1 + 1 from by omega]
      simpa using this
theorem fcells_set (l : List FX) (i : Nat) (x : FX) : ((fcells l).set (i * 2) (.string x.p)).set (i * 2 + 1) (.slice x.A x.b.length x.c) = fcells (l.set i x) := by
  induction l generalizing i with
  | nil => simp [fcells]
  | cons y l ih => cases i with
    | zero => rfl
    | succ i =>
      rw [List.set_cons_succ, fcells_cons, fcells_cons, ← ih, show (i + 1) * 2 = i * 2 + 1 + 1 from by omega]
      simp only [List.set_cons_succ]
theorem fcells_one (l : List FX) : ∀ u ∈ fcells l, u.oneCell' = true := by
  intro u hu
  unfold fcells at hu
  obtain ⟨x, _, hx⟩ := List.mem_flatMap.1 hu
  unfold FX.cs at hx
  simp only [List.mem_cons, List.mem_nil_iff, or_false] at hx
  rcases hx with rfl | rfl <;> rfl

/-- A row of files in a block of its own, from 'base' on. -/
def FilesOwn (base : Nat) (W : World) (v : Value) (l : List FX) : Prop := W.ownsRow base 49 2 v l.length (fcells l)
theorem FilesOwn.form {base : Nat} {W : World} {v : Value} {l : List FX} (h : FilesOwn base W v l) : (v = .slice none 0 0 ∧ l = []) ∨ ∃ g cap cur, v = .slice (some ⟨g, 0, none⟩) l.length cap ∧ base ≤ g ∧ W.heap[g]? = some (Obj.cells cur 49 (0, 0)) ∧ l.length ≤ cap ∧ cap ≤ maxLen ∧ cur.size = cap * 2 := by
  rcases h.2 with ⟨rfl, hn⟩ | ⟨g, cap, cur, rfl, h1, h2, h3, h4, h5, _⟩
  · exact .inl ⟨rfl, List.eq_nil_of_length_eq_zero hn⟩
  · exact .inr ⟨g, cap, cur, rfl, h1, h2, h3, h4, h5⟩
theorem FilesOwn.rowF {base : Nat} {W : World} {g cap : Nat} {l : List FX} {n : Nat} (h : FilesOwn base W (.slice (some ⟨g, 0, none⟩) n cap) l) : RowF W g 0 l := fun i x hx => by
  obtain ⟨h1, h2⟩ := fcells_at l i x hx
  have a1 := World.ownsRow.cells h (g := g) rfl _ _ h1
  have a2 := World.ownsRow.cells h (g := g) rfl _ _ h2
  rw [Go.WideShapes.add_plain] at a1 a2
  exact ⟨a1, by rw [Nat.add_assoc]; exact a2⟩
theorem FilesOwn.row {base : Nat} {W : World} {v : Value} {l : List FX} (h : FilesOwn base W v l) {g : Nat} (hg : v.ownBlock = some g) : base ≤ g ∧ ∃ cur : Array Value, W.heap[g]? = some (Obj.cells cur 49 (0, 0)) := by
  rcases h.form with ⟨rfl, _⟩ | ⟨g', cap, cur, rfl, h1, h2, _⟩
  · simp [Value.ownBlock] at hg
  · have : g' = g := by simpa [Value.ownBlock] using hg
    subst this
    exact ⟨h1, cur, h2⟩
theorem FilesOwn.frozen {base : Nat} {W : World} {g n cap : Nat} {l : List FX} (h : FilesOwn base W (.slice (some ⟨g, 0, none⟩) n cap) l) (j : Nat) : W.frozen? ⟨g, j, none⟩ = false := by
  rcases h.form with ⟨h0, _⟩ | ⟨g', cap', cur, h0, _, h2, _⟩
  · cases h0
  · cases h0
    simp [World.frozen?, h2]
theorem grownN {w w' : World} (h : Below w.heap.size w w') (row : Option Nat) : w.grownBy w' row := ⟨h.os, h.tape, h.output, h.size, fun i hi _ => h.block i hi⟩
theorem FilesOwn.below {base : Nat} {W W' : World} {v : Value} {l : List FX} (h : FilesOwn base W v l) (hb : Below W.heap.size W W') : FilesOwn base W' v l := by
  refine World.ownsRow.kept h (row := none) (grownN hb none) ?_
  cases v.ownBlock with
  | none => exact .inl rfl
  | some g => exact .inr (by simp)
/-- x stored at place i. -/
theorem FilesOwn.store {base : Nat} {W : World} {g n cap : Nat} {l : List FX} (h : FilesOwn base W (.slice (some ⟨g, 0, none⟩) n cap) l) (hn : n = l.length) (i : Nat) (x : FX) :
    FilesOwn base ((W.setCell ⟨g, i * 2, none⟩ (.string x.p)).setCell ⟨g, i * 2 + 1, none⟩ (.slice x.A x.b.length x.c)) (.slice (some ⟨g, 0, none⟩) n cap) (l.set i x) := by
  subst hn
  have h1 := (World.ownsRow.stored h (i * 2) (.string x.p)).1
  have h2 := (World.ownsRow.stored h1 (i * 2 + 1) (.slice x.A x.b.length x.c)).1
  unfold FilesOwn
  rw [List.length_set, ← fcells_set]
  exact h2
theorem grown_two {W : World} {g i : Nat} {u v : Value} : W.grownBy ((W.setCell ⟨g, i * 2, none⟩ u).setCell ⟨g, i * 2 + 1, none⟩ v) (some g) := by
  refine ⟨rfl, rfl, rfl, by simp [World.setCell], fun k hk hne => ?_⟩
  have hg : k ≠ g := fun e => hne (by rw [e])
  exact (Below.heap_setCell _ _ _ _ hg).trans (Below.heap_setCell _ _ _ _ hg)
theorem grown_trans2 {a b c : World} {r r' : Option Nat} (h1 : a.grownBy b r) (h2 : b.grownBy c r') (hr : r' = r ∨ ∀ g, r' = some g → a.heap.size ≤ g) : a.grownBy c r := by
  refine ⟨h2.os.trans h1.os, h2.tape.trans h1.tape, h2.output.trans h1.output, Nat.le_trans h1.size h2.size, fun k hk hne => ?_⟩
  refine (h2.block k (Nat.lt_of_lt_of_le hk h1.size) (fun e => ?_)).trans (h1.block k hk hne)
  rcases hr with rfl | hr
  · exact hne e
  · have := hr k e.symm; omega
/-- The front of a row. -/
theorem FilesOwn.front {base : Nat} {W : World} {g n cap : Nat} {l : List FX} (h : FilesOwn base W (.slice (some ⟨g, 0, none⟩) n cap) l) (hn : n = l.length) (k : Nat) (hk : k ≤ l.length) : FilesOwn base W (.slice (some ⟨g, 0, none⟩) k cap) (l.take k) := by
  subst hn
  rcases h.2 with ⟨h0, _⟩ | ⟨g', cap', cur, h0, h1, h2, h3, h4, h5, h6⟩
  · cases h0
  · cases h0
    refine ⟨by rw [fcells_length], .inr ⟨g, cap, cur, by rw [List.length_take, Nat.min_eq_left hk], h1, h2, by rw [List.length_take]; omega, h4, h5, ?_⟩⟩
    rw [List.length_take, Nat.min_eq_left hk, ← fcells_take, ← h6, List.take_take]
    congr 1
    omega
/-- Behind what is written from its end on. -/
theorem FilesOwn.tail {base : Nat} {W : World} {g n cap : Nat} {l : List FX} (h : FilesOwn base W (.slice (some ⟨g, 0, none⟩) n cap) l) (hn : n = l.length) (vs : List Value) : FilesOwn base (W.setCells g (n * 2) vs) (.slice (some ⟨g, 0, none⟩) n cap) l := by
  subst hn
  have : ∀ (vs : List Value) (o : Nat) (W : World), l.length * 2 ≤ o → FilesOwn base W (.slice (some ⟨g, 0, none⟩) l.length cap) l → FilesOwn base (W.setCells g o vs) (.slice (some ⟨g, 0, none⟩) l.length cap) l := by
    intro vs
    induction vs with
    | nil => intro o W _ h; exact h
    | cons u vs ih =>
      intro o W ho h
      have h1 := (World.ownsRow.stored h o u).1
      rw [List.set_eq_of_length_le (by rw [fcells_length]; exact ho)] at h1
      exact ih (o + 1) _ (by omega) h1
  exact this vs _ W (Nat.le_refl _) h
theorem grown_setCells {W : World} {g : Nat} (vs : List Value) : ∀ (o : Nat), W.grownBy (W.setCells g o vs) (some g) := by
  induction vs generalizing W with
  | nil => intro o; exact World.grownBy.refl W _
  | cons u vs ih =>
    intro o
    have h1 : W.grownBy (W.setCell ⟨g, o, none⟩ u) (some g) := ⟨rfl, rfl, rfl, by simp [World.setCell], fun k hk hne => Below.heap_setCell _ _ _ _ (fun e => hne (by rw [e]))⟩
    exact grown_trans2 h1 (ih (o + 1)) (.inl rfl)

theorem zero_file (w : World) : (zeroValue 49).run Tryd.prog w = .ok (.agg #[.string ⟨#[]⟩, .slice none 0 0]) w := by kernel_rfl
def zerosF (n : Nat) : List Value := (Builtin.zeroCells #[.string ⟨#[]⟩, .slice none 0 0] n).toList
theorem zerosF_length (n : Nat) : (zerosF n).length = n * 2 := by unfold zerosF; rw [Array.length_toList, size_zeroCells]; rfl
theorem zerosF_one (n : Nat) : ∀ v ∈ zerosF n, v.oneCell' = true := by
  intro v hv
  unfold zerosF Builtin.zeroCells at hv
  rw [Array.toList_map, List.mem_map] at hv
  obtain ⟨i, _, rfl⟩ := hv
  have : i % (#[Value.string ⟨#[]⟩, Value.slice none 0 0] : Array Value).size < 2 := Nat.mod_lt _ (by decide)
  generalize i % (#[Value.string ⟨#[]⟩, Value.slice none 0 0] : Array Value).size = k at this
  match k, this with
  | 0, _ => rfl
  | 1, _ => rfl
/-- 'clear' of a slice of files. -/
theorem run_clear_files (w : World) (ty : TypeId) (b o n c : Nat) (hn : 0 < n) (hc : ∀ j, j < n * 2 → (w.cell? ⟨b, o + j, none⟩).isSome = true) (hf : ∀ j, j < n * 2 → w.frozen? ⟨b, o + j, none⟩ = false) :
    (Builtin.clear_ #[23] ty #[.slice (some ⟨b, o, none⟩) n c]).run Tryd.prog w = .ok (.tuple #[]) (w.setCells b o (zerosF n)) := by
  have hst := run_storeCells_cells (P := Tryd.prog) b o (zerosF n) 0 w (by rw [zerosF_length]; simpa using hc) (by rw [zerosF_length]; simpa using hf) (zerosF_one n)
  simp only [Nat.add_zero] at hst
  have hst' : (storeCells ⟨b, o, none⟩ (Builtin.zeroCells #[.string ⟨#[]⟩, .slice none 0 0] n).toList).run Tryd.prog w = .ok () (w.setCells b o (zerosF n)) := hst
  have hz := zero_file w
  clear hst
  obtain ⟨m, rfl⟩ : ∃ m, n = m + 1 := ⟨n - 1, by omega⟩
  simp [Builtin.clear_, run_underlying Tryd.underlying23, hz, Value.cells, hst']
end Go.Proofs.YtckpojkbcbogbaaDoor
namespace Go.Proofs.YtckpojkbcbogbaaDoor
open Go Go.RowKit Go.Shelf Go.Proofs
attribute [local go_sem] Oper.semAt_some

theorem ret_intT {a b : Int} (h : a = b) : Ending.returned (.int .i64 a) = .returned (.int .i64 b) := by rw [h]
/-- How the heads of two lists stand to one another. -/
def headsV : List FX → List FX → Int
  | _, [] => -1
  | [], _ :: _ => 1
  | x :: _, y :: _ => Lib.compareBytes x.p.data.toList y.p.data.toList
/-- The slice .slice A n c holds l's paths from its head on. -/
def HeadAt (w : World) (A : Option Addr) (l : List FX) : Prop := ∀ x r, l = x :: r → ∃ g o, A = some ⟨g, o, none⟩ ∧ w.cell? ⟨g, o, none⟩ = some (.string x.p)

theorem below_drewN0 {B : Nat} {a w : World} (h : Below B a w) (n : Nat) : Below B a (w.drewN n) := ⟨h.os, h.tape, h.output, h.size, h.block⟩

def ptrV (A : Option Addr) : Option Nat → Value
  | none => .pointer none
  | some i => .pointer (A.map fun a => ⟨a.block, a.off + i * 2, none⟩)
def encP (A B : Option Addr) (p : Option Nat × Option Nat) : Array Value := #[ptrV A p.1, ptrV B p.2]
def InA (A : Option Addr) (k : Nat) : Prop := ∃ a, A = some a ∧ k = a.block
def KeepTwo (A B : Option Addr) (a b : List FX) (k : Nat) : Prop := (0 < a.length ∧ InA A k) ∨ (0 < b.length ∧ InA B k)
def RowP (w : World) (A : Option Addr) (l : List FX) : Prop := 0 < l.length → ∃ g o, A = some ⟨g, o, none⟩ ∧ RowF w g o l
theorem RowP.keeps {w w' : World} {A : Option Addr} {l : List FX} {K : Nat → Prop} (h : RowP w A l) (hk : KeepsB K w w') (hK : 0 < l.length → ∀ k, InA A k → K k) : RowP w' A l := fun hn => by
  obtain ⟨g, o, e, hr⟩ := h hn
  exact ⟨g, o, e, hr.keep fun hg => hk.same g (hK hn g ⟨_, e, rfl⟩) hg⟩
theorem RowP.below {w w' : World} {A : Option Addr} {l : List FX} (h : RowP w A l) (hb : Below w.heap.size w w') : RowP w' A l := fun hn => by
  obtain ⟨g, o, e, hr⟩ := h hn
  exact ⟨g, o, e, hr.below hb⟩
/-- What is left of a list in a walk: its slice value. -/
structure LeftAt (A : Option Addr) (l : List FX) (i : Nat) (Ai : Option Addr) (n c : Nat) : Prop where
  len : i + n = l.length
  cap : n ≤ c
  addr : 0 < n → Ai = A.map fun a => ⟨a.block, a.off + i * 2, none⟩
theorem LeftAt.head {w : World} {A Ai : Option Addr} {l : List FX} {i n c : Nat} (h : LeftAt A l i Ai n c) (hr : RowP w A l) : HeadAt w Ai (l.drop i) := fun x r e => by
  obtain ⟨hx, _⟩ := drop_cons e
  have hl := (List.getElem?_eq_some_iff.1 hx).1
  have h1 := h.len
  obtain ⟨g, o, rfl, hrow⟩ := hr (by omega)
  exact ⟨g, o + i * 2, h.addr (by omega), (hrow i x hx).1⟩
theorem LeftAt.next {A : Option Addr} {l : List FX} {i n c c' : Nat} {Ai Ai' : Option Addr} (h : LeftAt A l i Ai n c) (hn : 1 ≤ n) (hc : n - 1 ≤ c') (hA : 0 < n - 1 → Ai' = A.map fun a => ⟨a.block, a.off + (i + 1) * 2, none⟩) : LeftAt A l (i + 1) Ai' (n - 1) c' :=
  ⟨by have := h.len; omega, hc, hA⟩
theorem addr_next (g o i : Nat) : (some ⟨g, o + i * 2 + 2, none⟩ : Option Addr) = (some ⟨g, o, none⟩ : Option Addr).map fun a => ⟨a.block, a.off + (i + 1) * 2, none⟩ := by simp only [Option.map_some]; congr 2; omega
theorem pairs_step (a b : List FX) (i j : Nat) (h : i < a.length ∨ j < b.length) :
    (i < a.length ∧ j < b.length ∧ headsV (a.drop i) (b.drop j) = 0 ∧ pairsN ((flsX a).drop i) ((flsX b).drop j) i j = (some i, some j) :: pairsN ((flsX a).drop (i + 1)) ((flsX b).drop (j + 1)) (i + 1) (j + 1)) ∨
    (i < a.length ∧ headsV (a.drop i) (b.drop j) = -1 ∧ pairsN ((flsX a).drop i) ((flsX b).drop j) i j = (some i, none) :: pairsN ((flsX a).drop (i + 1)) ((flsX b).drop j) (i + 1) j) ∨
    (j < b.length ∧ headsV (a.drop i) (b.drop j) = 1 ∧ pairsN ((flsX a).drop i) ((flsX b).drop j) i j = (none, some j) :: pairsN ((flsX a).drop i) ((flsX b).drop (j + 1)) i (j + 1)) := by
  by_cases ha : i < a.length
  · have ea : a.drop i = a[i] :: a.drop (i + 1) := List.drop_eq_getElem_cons ha
    have fa : (flsX a).drop i = a[i].fl :: (flsX a).drop (i + 1) := by unfold flsX; rw [← List.map_drop, ea, List.map_cons, List.map_drop]
    by_cases hb : j < b.length
    · have eb : b.drop j = b[j] :: b.drop (j + 1) := List.drop_eq_getElem_cons hb
      have fb : (flsX b).drop j = b[j].fl :: (flsX b).drop (j + 1) := by unfold flsX; rw [← List.map_drop, eb, List.map_cons, List.map_drop]
      rw [fa, fb, ea, eb, pairsN]
      have hv : headsV (a[i] :: a.drop (i + 1)) (b[j] :: b.drop (j + 1)) = Lib.compareBytes a[i].fl.1 b[j].fl.1 := rfl
      rw [hv]
      rcases cmpB_cases a[i].fl.1 b[j].fl.1 with ⟨h1, h2⟩ | ⟨h1, h2⟩ | ⟨h1, h2⟩
      · refine .inr (.inl ⟨ha, h1, ?_⟩)
        rw [if_neg (by simpa using ltB_ne _ _ h2), if_pos h2]
      · refine .inl ⟨ha, hb, h1, ?_⟩
        rw [if_pos (by simpa using h2)]
      · refine .inr (.inr ⟨hb, h1, ?_⟩)
        rw [if_neg (by simpa using (ltB_ne _ _ h2).symm), if_neg (by rw [ltB_asymm _ _ h2]; simp)]
    · have eb : b.drop j = [] := List.drop_eq_nil_of_le (by omega)
      have fb : (flsX b).drop j = [] := List.drop_eq_nil_of_le (by rw [flsX_length]; omega)
      rw [fa, fb, ea, eb, pairsN]
      exact .inr (.inl ⟨ha, rfl, rfl⟩)
  · have ea : a.drop i = [] := List.drop_eq_nil_of_le (by omega)
    have fa : (flsX a).drop i = [] := List.drop_eq_nil_of_le (by rw [flsX_length]; omega)
    have hb : j < b.length := by omega
    have eb : b.drop j = b[j] :: b.drop (j + 1) := List.drop_eq_getElem_cons hb
    have fb : (flsX b).drop j = b[j].fl :: (flsX b).drop (j + 1) := by unfold flsX; rw [← List.map_drop, eb, List.map_cons, List.map_drop]
    rw [fa, fb, ea, eb, pairsN]
    exact .inr (.inr ⟨hb, rfl, rfl⟩)
def sliceLen : Value → Nat
  | .slice _ n _ => n
  | _ => 0
def pairsX (a b : List FX) : List (Option Nat × Option Nat) := pairsN (flsX a) (flsX b) 0 0
def NoBlock (_ : Nat) : Prop := False
theorem grownB {w w' : World} (h : Below w.heap.size w w') : w.grownBy w' none := ⟨h.os, h.tape, h.output, h.size, fun i hi _ => h.block i hi⟩
theorem AbidesTo.below {β : Type} {T : Nat → Prop} {B : Nat} {J : β → World → Prop} (h : AbidesTo T B J) {s : β} {w w' : World} (hj : J s w) (hb : Below w.heap.size w w') : J s w' := h s w w' none hj (grownB hb) (fun _ e => by cases e)
theorem below_drew0 (w : World) : Below w.heap.size w w.drew := (Below.refl _ w).drew

end Go.Proofs.YtckpojkbcbogbaaDoor
namespace Go.Proofs.YtckpojkbcbogbaaDoor
open Go Go.RowKit Go.Shelf Go.Proofs
attribute [local go_sem] Oper.semAt_some

def okTo (a b : List FX) (k : Nat) : Bool := ((pairsX a b).take k).all (okPair (flsX a) (flsX b))
theorem okTo_snoc (a b : List FX) (k : Nat) (x : Option Nat × Option Nat) (hx : (pairsX a b)[k]? = some x) (h : okTo a b k = true) : okTo a b (k + 1) = okPair (flsX a) (flsX b) x := by
  unfold okTo at h ⊢
  rw [List.take_add_one, hx, List.all_append, h]; simp
theorem keepsO_drewN (W : World) (n : Nat) : KeepsOthers W (W.drewN n) := ⟨Nat.le_refl _, fun _ _ h _ => h⟩
theorem boxed_drewN {W : World} {b t : Nat} {v : Value} (h : Boxed W b t v) {n : Nat} : Boxed (W.drewN n) b t v := h
theorem okTo_all (a b : List FX) : okTo a b (pairsX a b).length = decide (flsX a = flsX b) := by
  unfold okTo
  rw [List.take_length]
  exact pairsN_all _ _ _ _ 0 0 rfl rfl
theorem okTo_false (a b : List FX) (k : Nat) (h : okTo a b k = false) : decide (flsX a = flsX b) = false := by
  rw [← okTo_all]
  unfold okTo at h ⊢
  rw [List.take_length]
  cases e : (pairsX a b).all (okPair (flsX a) (flsX b)) with
  | false => rfl
  | true =>
    have := List.all_eq_true.1 e
    rw [← h]
    symm
    exact List.all_eq_true.2 fun x hx => this x (List.mem_of_mem_take hx)

end Go.Proofs.YtckpojkbcbogbaaDoor
namespace Go.Proofs.YtckpojkbcbogbaaDoor
open Go Go.RowKit Go.Shelf Go.Proofs

/-- A change in memory. -/
structure DX where
  k : Int
  p : ByteArray
  A : Option Addr
  c : Nat
  b : Bs
def DX.dl (x : DX) : Dl := ⟨x.k, x.p.data.toList, x.b⟩
def DX.cs (x : DX) : List Value := [.int .i64 x.k, .string x.p, .slice x.A x.b.length x.c]
def dcells (l : List DX) : List Value := l.flatMap DX.cs
theorem dcells_snoc (l : List DX) (x : DX) : dcells (l ++ [x]) = dcells l ++ x.cs := by unfold dcells; rw [List.flatMap_append]; simp

/-- Bytes in a row of their own. -/
def BytesOwn (W : World) (A : Option Addr) (b : Bs) : Prop := 0 < b.length → ∃ g cur, A = some ⟨g, 0, none⟩ ∧ W.heap[g]? = some (.cells cur 5 (0, 0)) ∧ ∀ i, i < b.length → W.cell? ⟨g, i, none⟩ = some (.int .u8 ((numsB b).getD i 0))
theorem BytesOwn.nil (W : World) (A : Option Addr) : BytesOwn W A [] := fun h => absurd h (by simp)
theorem BytesOwn.at_ {W : World} {A : Option Addr} {b : Bs} (h : BytesOwn W A b) : BytesAt W A b := fun hn => by
  obtain ⟨g, cur, e, _, hc⟩ := h hn
  exact ⟨g, 0, e, fun i hi => by rw [Nat.zero_add]; exact hc i hi⟩
theorem BytesOwn.keep {W W' : World} {A : Option Addr} {b : Bs} (h : BytesOwn W A b) (hk : ∀ (g : Nat) (cur : Array Value), W.heap[g]? = some (Obj.cells cur 5 (0, 0)) → W'.heap[g]? = W.heap[g]?) : BytesOwn W' A b := fun hn => by
  obtain ⟨g, cur, e, hh, hc⟩ := h hn
  have hs := hk g cur hh
  exact ⟨g, cur, e, hs.trans hh, fun i hi => (World.cell?_of_block (a := ⟨g, i, none⟩) hs).trans (hc i hi)⟩
theorem BytesOwn.below {W W' : World} {A : Option Addr} {b : Bs} (h : BytesOwn W A b) (hb : Below W.heap.size W W') : BytesOwn W' A b := h.keep fun g _ hh => hb.block g (Array.getElem?_eq_some_iff.1 hh).1

theorem rowT_ge {w : World} {b e size n g : Nat} {v : Value} {xs : List Value} (h : w.ownsRow b e size v n xs) (hg : v.ownBlock = some g) : b ≤ g ∧ ∃ cur : Array Value, w.heap[g]? = some (Obj.cells cur e (0, 0)) := by
  rcases h.2 with ⟨rfl, _⟩ | ⟨g', cap, cur, rfl, hb, hh, _⟩
  · simp [Value.ownBlock] at hg
  · have : g' = g := by simpa [Value.ownBlock] using hg
    subst this
    exact ⟨hb, cur, hh⟩
theorem step_wanted {P : Program} {ops : Array Oper} {o : Oper} {a : Act} {w : World} {K : Act → World → Prop} {Q : Exit → Act → World → Prop} {E : Prop} (hgd : o.guard = none) (h : Oper.wp P o a w K Q) : if Region.wanted o (yielded ops a.tmps) = true then Oper.wp P o a w K Q else E := by
  rw [if_pos (by simp [Region.wanted, hgd])]
  exact h
theorem DX.one {x : DX} : ∀ u ∈ x.cs, u.oneCell' = true := by
  intro u hu
  unfold DX.cs at hu
  simp only [List.mem_cons, List.mem_nil_iff, or_false] at hu
  rcases hu with rfl | rfl | rfl <;> rfl

theorem keepsO_below {W W' : World} (h : Below W.heap.size W W') : KeepsOthers W W' := ⟨h.size, fun k _o hk _ => (h.block k (Array.getElem?_eq_some_iff.1 hk).1).trans hk⟩
end Go.Proofs.YtckpojkbcbogbaaDoor
namespace Go.Proofs.YtckpojkbcbogbaaDoor
open Go Go.RowKit Go.Shelf Go.Proofs

def keepX (l : List FX) (s : ByteArray) : List FX := l.filter fun x => !(x.p.toList == s.toList)
theorem keepX_all {l : List FX} {s : ByteArray} (h : ∀ y ∈ l, (y.p.toList == s.toList) = false) : keepX l s = l := by
  unfold keepX
  rw [List.filter_eq_self]
  intro y hy; rw [h y hy]; rfl
theorem keepX_snoc (l : List FX) (s : ByteArray) (k : Nat) (x : FX) (hx : l[k]? = some x) : keepX (l.take (k + 1)) s = if (x.p.toList == s.toList) = true then keepX (l.take k) s else keepX (l.take k) s ++ [x] := by
  unfold keepX
  rw [List.take_add_one, hx, List.filter_append]
  cases e : (x.p.toList == s.toList) with
  | true => simp only [Option.toList, List.filter_cons, e, List.filter_nil]; simp
  | false => simp only [Option.toList, List.filter_cons, e, List.filter_nil]; simp
theorem keepX_fls (l : List FX) (s : ByteArray) : flsX (keepX l s) = dropT (flsX l) s.data.toList := by
  unfold keepX flsX dropT
  rw [List.filter_map]
  congr 1
  refine List.filter_congr fun x _ => ?_
  simp only [Function.comp, FX.fl, ByteArray.toList_eq]

/-- What is known in the loop: i are kept of the first j; behind j all is as it was. -/
structure DelInv (base : Nat) (l : List FX) (s : ByteArray) (w : World) (g n cap B : Nat) (i j : Nat) (wr : World) (m : List FX) : Prop where
  own : FilesOwn base wr (.slice (some ⟨g, 0, none⟩) n cap) m
  len : m.length = n
  kept : m.take i = keepX (l.take j) s
  rest : m.drop j = l.drop j
  grown : w.grownBy wr (some g)
  box : Boxed wr B 9 (.string s)

theorem take_set_succ {α : Type} (m : List α) (i : Nat) (x : α) (hi : i < m.length) : (m.set i x).take (i + 1) = m.take i ++ [x] := by
  rw [List.take_succ_eq_append_getElem (by rw [List.length_set]; exact hi), List.take_set_of_le (Nat.le_refl i)]
  simp
theorem DelInv.next {base : Nat} {l : List FX} {s : ByteArray} {w : World} {g cap B i j : Nat} {wr w2 : World} {m : List FX} {x : FX} (h : DelInv base l s w g l.length cap B i j wr m) (hml : m.length = l.length) (hb : Below wr.heap.size wr w2) (hij : i < j) (hj : j < l.length) (hne : B ≠ g) (_hx : l[j]? = some x) (hk : keepX (l.take (j + 1)) s = keepX (l.take j) s ++ [x]) :
    DelInv base l s w g l.length cap B (i + 1) (j + 1) ((w2.setCell ⟨g, i * 2, none⟩ (.string x.p)).setCell ⟨g, i * 2 + 1, none⟩ (.slice x.A x.b.length x.c)) (m.set i x) where
  own := (h.own.below hb).store hml.symm i x
  len := by rw [List.length_set]; exact hml
  kept := by rw [take_set_succ m i x (by omega), h.kept, hk]
  rest := by
    rw [List.drop_set_of_lt (by omega), ← List.drop_drop, h.rest, List.drop_drop]
  grown := grown_trans2 (grown_trans2 h.grown (grownN hb none) (.inr (fun _ e => by cases e))) grown_two (.inl rfl)
  box := by
    have h1 : Boxed w2 B 9 (.string s) := (hb.block _ h.box.lt).trans h.box
    exact (Below.heap_setCell _ _ _ _ hne).trans ((Below.heap_setCell _ _ _ _ hne).trans h1)

end Go.Proofs.YtckpojkbcbogbaaDoor
namespace Go.Proofs.YtckpojkbcbogbaaDoor
open Go Go.RowKit Go.Shelf Go.Proofs

/-- What is asked of a call that turns a row of the caller's own: the row that it answers; what else lay in w is as it was. -/
def RowPost (base : Nat) (v : Value) (w : World) (l : List FX) (e : Ending) (w' : World) : Prop :=
  ∃ v', e = .returned v' ∧ FilesOwn base w' v' l ∧ w.grownBy w' v.ownBlock ∧ (v'.ownBlock = v.ownBlock ∨ ∀ g, v'.ownBlock = some g → w.heap.size ≤ g)

end Go.Proofs.YtckpojkbcbogbaaDoor
namespace Go.Proofs.YtckpojkbcbogbaaDoor
open Go Go.RowKit Go.Shelf Go.Proofs

/-- Cells stored within a row. -/
theorem own_setCells {base e size g n cap : Nat} : ∀ (vs : List Value) (o : Nat) (W : World) (xs : List Value), W.ownsRow base e size (.slice (some ⟨g, 0, none⟩) n cap) n xs → o + vs.length ≤ xs.length →
    (W.setCells g o vs).ownsRow base e size (.slice (some ⟨g, 0, none⟩) n cap) n (xs.take o ++ vs ++ xs.drop (o + vs.length))
  | [], o, W, xs, h, _ => by
    show W.ownsRow _ _ _ _ _ _
    simpa using h
  | u :: vs, o, W, xs, h, hl => by
    simp only [List.length_cons] at hl
    have h1 := (World.ownsRow.stored h o u).1
    have ih := own_setCells vs (o + 1) _ _ h1 (by rw [List.length_set]; omega)
    rw [World.setCells]
    have e1 : (xs.set o u).take (o + 1) = xs.take o ++ [u] := by
      rw [List.take_succ_eq_append_getElem (by rw [List.length_set]; omega), List.take_set_of_le (Nat.le_refl o)]; simp
    have e2 : (xs.set o u).drop (o + 1 + vs.length) = xs.drop (o + (u :: vs).length) := by
      rw [List.drop_set_of_lt (by omega)]; simp only [List.length_cons]; congr 1; omega
    rw [e1, e2] at ih
    simpa using ih
/-- A row, one element longer, where there is room. -/
theorem own_more {base : Nat} {W : World} {g n cap : Nat} {xs : List Value} {e size : Nat} (h : W.ownsRow base e size (.slice (some ⟨g, 0, none⟩) n cap) n xs) (hr : n + 1 ≤ cap) :
    ∃ ys, W.ownsRow base e size (.slice (some ⟨g, 0, none⟩) (n + 1) cap) (n + 1) ys ∧ ys.take (n * size) = xs ∧ ys.length = (n + 1) * size := by
  rcases h.2 with ⟨h0, _⟩ | ⟨g', cap', cur, h0, h1, h2, h3, h4, h5, h6⟩
  · cases h0
  · cases h0
    have hl : (n + 1) * size ≤ cur.size := by rw [h5]; exact Nat.mul_le_mul_right _ hr
    have hy : (cur.toList.take ((n + 1) * size)).length = (n + 1) * size := by rw [List.length_take, Array.length_toList]; omega
    refine ⟨cur.toList.take ((n + 1) * size), ⟨hy, .inr ⟨g, cap, cur, rfl, h1, h2, hr, h4, h5, rfl⟩⟩, ?_, hy⟩
    rw [List.take_take, ← h6]
    congr 1
    have : n * size ≤ (n + 1) * size := Nat.mul_le_mul_right _ (by omega)
    omega
def insX (l : List FX) (i : Nat) (x : FX) : List FX := l.take i ++ x :: l.drop i
theorem insX_length (l : List FX) (i : Nat) (x : FX) (hi : i ≤ l.length) : (insX l i x).length = l.length + 1 := by unfold insX; simp; omega
theorem fcells_drop (l : List FX) (k : Nat) : (fcells l).drop (k * 2) = fcells (l.drop k) := by
  have h := fcells_append (l.take k) (l.drop k)
  rw [List.take_append_drop] at h
  by_cases hk : k ≤ l.length
  · rw [h, List.drop_append_of_le_length (by rw [fcells_length, List.length_take]; omega), List.drop_of_length_le (by rw [fcells_length, List.length_take]; omega), List.nil_append]
  · rw [List.drop_of_length_le (by rw [fcells_length]; omega), List.drop_of_length_le (by omega)]; rfl
theorem fcells_ins (l : List FX) (i : Nat) (x : FX) : fcells (insX l i x) = (fcells l).take (i * 2) ++ x.cs ++ fcells (l.drop i) := by
  unfold insX
  rw [fcells_append, fcells_take, List.append_assoc]; rfl
/-- The one behind the other: what stood from i on, one further; then x. -/
theorem own_shift {base : Nat} {W : World} {g n cap : Nat} {l : List FX} {x : FX} {ys : List Value} (hn : n = l.length) {i : Nat} (hi : i ≤ n) (h : W.ownsRow base 49 2 (.slice (some ⟨g, 0, none⟩) (n + 1) cap) (n + 1) ys) (hy : ys.take (i * 2) = (fcells l).take (i * 2)) (hl : ys.length = (n + 1) * 2) :
    FilesOwn base ((W.setCells g ((i + 1) * 2) (fcells (l.drop i))).setCells g (i * 2) x.cs) (.slice (some ⟨g, 0, none⟩) (n + 1) cap) (insX l i x) := by
  subst hn
  have e0 : (fcells (l.drop i)).length = (l.length - i) * 2 := by rw [fcells_length, List.length_drop]
  have h1 := own_setCells (fcells (l.drop i)) ((i + 1) * 2) W ys h (by rw [e0, hl]; omega)
  have h2 := own_setCells x.cs (i * 2) _ _ h1 (by
    simp only [List.length_append, List.length_take, List.length_drop, e0, hl]
    show i * 2 + 2 ≤ _
    omega)
  unfold FilesOwn
  rw [insX_length l i x hi, fcells_ins]
  have e3 : ys.drop ((i + 1) * 2 + (fcells (l.drop i)).length) = [] := List.drop_of_length_le (by rw [e0, hl]; omega)
  rw [e3, List.append_nil] at h2
  have e1 : (ys.take ((i + 1) * 2) ++ fcells (l.drop i)).take (i * 2) = ys.take (i * 2) := by
    rw [List.take_append_of_le_length (by rw [List.length_take, hl]; omega), List.take_take]; congr 1; omega
  have e2 : (ys.take ((i + 1) * 2) ++ fcells (l.drop i)).drop (i * 2 + x.cs.length) = fcells (l.drop i) := by
    have : (ys.take ((i + 1) * 2)).length = i * 2 + x.cs.length := by rw [List.length_take, hl]; show min _ _ = i * 2 + 2; omega
    rw [← this, List.drop_left]
  rw [e1, e2, hy] at h2
  exact h2
/-- x, then what stood from i on. -/
theorem own_laid {base : Nat} {W : World} {g n cap : Nat} {l : List FX} {x : FX} {ys : List Value} (hn : n = l.length) {i : Nat} (hi : i ≤ n) (h : W.ownsRow base 49 2 (.slice (some ⟨g, 0, none⟩) (n + 1) cap) (n + 1) ys) (hy : ys.take (i * 2) = (fcells l).take (i * 2)) (hl : ys.length = (n + 1) * 2) :
    FilesOwn base ((W.setCells g (i * 2) x.cs).setCells g ((i + 1) * 2) (fcells (l.drop i))) (.slice (some ⟨g, 0, none⟩) (n + 1) cap) (insX l i x) := by
  subst hn
  have e0 : (fcells (l.drop i)).length = (l.length - i) * 2 := by rw [fcells_length, List.length_drop]
  have hx : x.cs.length = 2 := rfl
  have h1 := own_setCells x.cs (i * 2) W ys h (by rw [hx, hl]; omega)
  have h2 := own_setCells (fcells (l.drop i)) ((i + 1) * 2) _ _ h1 (by
    simp only [List.length_append, List.length_take, List.length_drop, hx, hl, e0]
    omega)
  unfold FilesOwn
  rw [insX_length l i x hi, fcells_ins]
  have hf : (ys.take (i * 2) ++ x.cs).length = (i + 1) * 2 := by rw [List.length_append, List.length_take, hl, hx]; omega
  have e1 : (ys.take (i * 2) ++ x.cs ++ ys.drop (i * 2 + x.cs.length)).take ((i + 1) * 2) = ys.take (i * 2) ++ x.cs := by rw [← hf, List.take_left]
  have e2 : (ys.take (i * 2) ++ x.cs ++ ys.drop (i * 2 + x.cs.length)).drop ((i + 1) * 2 + (fcells (l.drop i)).length) = [] := List.drop_of_length_le (by
    simp only [List.length_append, List.length_take, List.length_drop, hx, hl, e0]; omega)
  rw [e1, e2, List.append_nil, hy] at h2
  exact h2

theorem file_info : (Tryd.prog.info? 49).map (fun i => (i.zero, i.size, i.bytes)) = some (some (.agg #[.string ⟨#[]⟩, .slice none 0 0]), 2, 40) := by kernel_rfl
/-- 'copy' between two slices of files: all is read before anything is written. -/
theorem run_copy_files (w : World) (dT sT ty : TypeId) (hu : Tryd.prog.underlying dT = some (.slice 49)) (b o dLen dCap : Nat) (a : Addr) (sLen sCap k : Nat) (cs : List Value) (hn : k = Nat.min sLen dLen) (hk : cs.length = k * 2)
    (hsrc : ∀ j v, cs[j]? = some v → w.cell? (a.add j) = some v) (hc : ∀ j, j < cs.length → (w.cell? ⟨b, o + j, none⟩).isSome = true) (hf : ∀ j, j < cs.length → w.frozen? ⟨b, o + j, none⟩ = false) (h1 : ∀ v ∈ cs, v.oneCell' = true) :
    (Builtin.copy_ #[dT, sT] ty #[.slice (some ⟨b, o, none⟩) dLen dCap, .slice (some a) sLen sCap]).run Tryd.prog w = .ok (goInt k) (w.setCells b o cs) := by
  have hl := run_loadCells_list (P := Tryd.prog) w a cs hsrc
  have hst := run_storeCells_cells (P := Tryd.prog) b o cs 0 w (by simpa using hc) (by simpa using hf) h1
  obtain ⟨i, hi, _, hs, _⟩ := info_parts file_info
  rw [hk] at hl
  simp [Builtin.copy_, run_underlying hu, Builtin.lenOf, Builtin.firstCells, sizeOf, typeInfo, hi, hs, ← hn, hl, hst]
end Go.Proofs.YtckpojkbcbogbaaDoor
namespace Go.Proofs.YtckpojkbcbogbaaDoor
open Go Go.RowKit Go.Shelf Go.Proofs

def InsPost (base : Nat) (v : Value) (w : World) (l : List FX) (e : Ending) (w' : World) : Prop := ∃ v', e = .returned v' ∧ FilesOwn base w' v' l ∧ w.grownBy w' v.ownBlock
theorem FX.one {x : FX} : ∀ u ∈ x.cs, u.oneCell' = true := by
  intro u hu
  unfold FX.cs at hu
  simp only [List.mem_cons, List.mem_nil_iff, or_false] at hu
  rcases hu with rfl | rfl <;> rfl

theorem append_types (w : World) (ty : TypeId) (A B : Option Addr) (n c m d : Nat) : (Builtin.append_ #[23, 22] ty #[.slice A n c, .slice B m d]).run Tryd.prog w = (Builtin.append_ #[23, 23] ty #[.slice A n c, .slice B m d]).run Tryd.prog w := by
  simp [Builtin.append_, run_underlying Tryd.underlying23, run_underlying Tryd.underlying22]
end Go.Proofs.YtckpojkbcbogbaaDoor
namespace Go.Proofs.YtckpojkbcbogbaaDoor
open Go Go.RowKit Go.Shelf Go.Proofs

theorem below_drew1 (w : World) : Below w.heap.size w w.drew := (Below.refl _ w).drew
end Go.Proofs.YtckpojkbcbogbaaDoor
namespace Go.Proofs.YtckpojkbcbogbaaDoor
open Go Go.RowKit Go.Shelf Go.Proofs

end Go.Proofs.YtckpojkbcbogbaaDoor
namespace Go.Proofs.YtckpojkbcbogbaaDoor
open Go Go.RowKit Go.Shelf Go.Proofs

/-- The place of the first file whose path is above; their number, if there is none. -/
def aboveX (l : List FX) (s : ByteArray) : Nat := (l.takeWhile fun x => !ltB s.data.toList x.p.data.toList).length
def putX (l : List FX) (f : FX) : List FX := insX (keepX l f.p) (aboveX (keepX l f.p) f.p) f
theorem aboveX_le (l : List FX) (s : ByteArray) : aboveX l s ≤ l.length := (List.takeWhile_prefix _).length_le
theorem aboveX_hit {l : List FX} {s : ByteArray} {k : Nat} {x : FX} (hx : l[k]? = some x) (hp : ltB s.data.toList x.p.data.toList = true) (hn : ∀ j y, j < k → l[j]? = some y → ltB s.data.toList y.p.data.toList = false) : aboveX l s = k := by
  induction l generalizing k with
  | nil => simp at hx
  | cons z l ih =>
    unfold aboveX
    cases k with
    | zero => simp at hx; subst hx; simp [hp]
    | succ k =>
      have hz := hn 0 z (by omega) rfl
      have := ih (k := k) (by simpa using hx) (fun j y hj hy => hn (j + 1) y (by omega) (by simpa using hy))
      unfold aboveX at this
      simp [hz, this]
theorem aboveX_miss {l : List FX} {s : ByteArray} (hn : ∀ y ∈ l, ltB s.data.toList y.p.data.toList = false) : aboveX l s = l.length := by
  unfold aboveX
  induction l with
  | nil => rfl
  | cons z l ih =>
    have hz := hn z (by simp)
    simp [hz, ih fun y hy => hn y (by simp [hy])]
theorem putX_fls (l : List FX) (f : FX) : flsX (putX l f) = putT (flsX l) f.fl := by
  unfold putX putT
  rw [show f.fl.1 = f.p.data.toList from rfl, ← keepX_fls]
  generalize keepX l f.p = m
  unfold insX insT aboveX flsX
  have e : (m.map FX.fl).takeWhile (fun x => !ltB f.fl.1 x.1) = (m.takeWhile fun x => !ltB f.p.data.toList x.p.data.toList).map FX.fl := by
    rw [List.takeWhile_map]; rfl
  have e2 : (m.map FX.fl).dropWhile (fun x => !ltB f.fl.1 x.1) = (m.dropWhile fun x => !ltB f.p.data.toList x.p.data.toList).map FX.fl := by
    rw [List.dropWhile_map]; rfl
  rw [e, e2, List.map_append, List.map_cons]
  have h1 : m.take (m.takeWhile fun x => !ltB f.p.data.toList x.p.data.toList).length = m.takeWhile fun x => !ltB f.p.data.toList x.p.data.toList := by
    conv => lhs; rw [← List.takeWhile_append_dropWhile (p := fun x : FX => !ltB f.p.data.toList x.p.data.toList) (l := m)]
    rw [List.takeWhile_append_dropWhile]
    exact (List.prefix_iff_eq_take.1 (List.takeWhile_prefix _)).symm
  have h2 : m.drop (m.takeWhile fun x => !ltB f.p.data.toList x.p.data.toList).length = m.dropWhile fun x => !ltB f.p.data.toList x.p.data.toList := by
    have h3 := List.take_append_drop (m.takeWhile fun x => !ltB f.p.data.toList x.p.data.toList).length m
    rw [h1] at h3
    have h4 : m.takeWhile (fun x => !ltB f.p.data.toList x.p.data.toList) ++ m.drop (m.takeWhile fun x => !ltB f.p.data.toList x.p.data.toList).length = m.takeWhile (fun x => !ltB f.p.data.toList x.p.data.toList) ++ m.dropWhile (fun x => !ltB f.p.data.toList x.p.data.toList) := by
      rw [h3, List.takeWhile_append_dropWhile]
    exact List.append_cancel_left h4
  rw [h1, h2]

end Go.Proofs.YtckpojkbcbogbaaDoor
namespace Go.Proofs.YtckpojkbcbogbaaDoor
open Go Go.RowKit Go.Shelf Go.Proofs

/-- In the loop: the first k have bytes of their own. -/
structure OwnInv (base : Nat) (l : List FX) (v : Value) (w : World) (k : Nat) (wr : World) (m : List FX) : Prop where
  own : FilesOwn base wr v m
  len : m.length = l.length
  same : flsX m = flsX l
  rest : m.drop k = l.drop k
  bod : ∀ j x, j < k → m[j]? = some x → BytesOwn wr x.A x.b
  grown : w.grownBy wr v.ownBlock
/-- Their bytes lie below block B, and are there. -/
def BodiesLow (B : Nat) (w : World) (l : List FX) : Prop := ∀ x ∈ l, BytesAt w x.A x.b ∧ LowA B x.A x.b ∧ x.b.length ≤ 1000000
theorem BodiesLow.grown {B : Nat} {w w' : World} {l : List FX} {row : Option Nat} (h : BodiesLow B w l) (hg : w.grownBy w' row) (hr : ∀ g, row = some g → B ≤ g) : BodiesLow B w' l := fun x hx => by
  obtain ⟨h1, h2, h3⟩ := h x hx
  refine ⟨fun hn => ?_, h2, h3⟩
  exact (h1.keep (w' := w') (fun g o e hl => hg.block g hl (fun e2 => by
    have := h2 hn g o none e
    have := hr g e2.symm
    omega))) hn

def OwnPost (base : Nat) (v : Value) (l : List FX) (w : World) (e : Ending) (w' : World) : Prop := ∃ l', e = .returned v ∧ FilesOwn base w' v l' ∧ flsX l' = flsX l ∧ (∀ x ∈ l', BytesOwn w' x.A x.b) ∧ w.grownBy w' v.ownBlock

theorem FilesOwn.storeBody {base : Nat} {W : World} {g n cap : Nat} {l : List FX} (h : FilesOwn base W (.slice (some ⟨g, 0, none⟩) n cap) l) (hn : n = l.length) {i : Nat} {x : FX} (hx : l[i]? = some x) (A' : Option Addr) (c' : Nat) :
    FilesOwn base (W.setCell ⟨g, i * 2 + 1, none⟩ (.slice A' x.b.length c')) (.slice (some ⟨g, 0, none⟩) n cap) (l.set i ⟨x.p, A', c', x.b⟩) := by
  subst hn
  have h2 := (World.ownsRow.stored h (i * 2 + 1) (.slice A' x.b.length c')).1
  unfold FilesOwn
  rw [List.length_set, ← fcells_set]
  have e : (fcells l).set (i * 2) (.string x.p) = fcells l := by
    obtain ⟨hl, he⟩ := List.getElem?_eq_some_iff.1 (fcells_at l i x hx).1
    rw [← he, List.set_getElem_self]
  show World.ownsRow _ _ _ _ _ _ (((fcells l).set (i * 2) (.string x.p)).set (i * 2 + 1) (.slice A' x.b.length c'))
  rw [e]
  exact h2
theorem OwnInv.next {base : Nat} {l : List FX} {g n c : Nat} {w wr w2 : World} {k : Nat} {m : List FX} {x : FX} {A' : Option Addr} {c' : Nat} (h : OwnInv base l (.slice (some ⟨g, 0, none⟩) n c) w k wr m) (hn : n = m.length) (hx : m[k]? = some x) (hb : Below wr.heap.size wr w2) (hbo : BytesOwn w2 A' x.b) (hgl : base ≤ g) :
    OwnInv base l (.slice (some ⟨g, 0, none⟩) n c) w (k + 1) (w2.setCell ⟨g, k * 2 + 1, none⟩ (.slice A' x.b.length c')) (m.set k ⟨x.p, A', c', x.b⟩) := by
  have hkl := (List.getElem?_eq_some_iff.1 hx).1
  have hrow2 := h.own.below hb
  obtain ⟨_, cur, hh⟩ := hrow2.row (g := g) rfl
  have hkeep : ∀ {A : Option Addr} {b : Bs} (u : Value), BytesOwn w2 A b → BytesOwn (w2.setCell ⟨g, k * 2 + 1, none⟩ u) A b := fun u hb' => hb'.keep fun q cur' hq => Below.heap_setCell _ _ _ _ (fun e => by
    have e : q = g := e
    subst e
    rw [hh] at hq; cases hq)
  have h1 := hrow2.storeBody hn hx A' c'
  refine ⟨h1, by rw [List.length_set]; exact h.len, ?_, ?_, fun j y hj hy => ?_, ?_⟩
  · rw [← h.same]
    unfold flsX
    rw [List.map_set]
    have e : (m.map FX.fl)[k]? = some x.fl := by rw [List.getElem?_map, hx]; rfl
    obtain ⟨hl2, he2⟩ := List.getElem?_eq_some_iff.1 e
    show (m.map FX.fl).set k x.fl = _
    rw [← he2, List.set_getElem_self]
  · rw [List.drop_set_of_lt (by omega), ← List.drop_drop, h.rest, List.drop_drop]
  · by_cases e : j = k
    · subst e
      rw [List.getElem?_set_self hkl] at hy
      cases hy
      exact hkeep _ hbo
    · rw [List.getElem?_set_ne (by omega)] at hy
      exact hkeep _ ((h.bod j y (by omega) hy).below hb)
  · refine grown_trans2 (grown_trans2 h.grown (grownN hb _) (.inl rfl)) (?_ : w2.grownBy _ (some g)) (.inl rfl)
    exact ⟨rfl, rfl, rfl, by simp [World.setCell], fun q hq hne => Below.heap_setCell _ _ _ _ (fun e => hne (by rw [e]))⟩

end Go.Proofs.YtckpojkbcbogbaaDoor
namespace Go.Proofs.YtckpojkbcbogbaaDoor
open Go Go.RowKit Go.Shelf Go.Proofs

theorem treeAt_cells {w : World} {A : Option Addr} {c : Nat} {l : List FX} (h : TreeAt w A c l) {a : Addr} (hA : A = some a) : ∀ j u, (fcells l)[j]? = some u → w.cell? (a.add j) = some u := by
  intro j u hu
  have hjl := (List.getElem?_eq_some_iff.1 hu).1
  rw [fcells_length] at hjl
  obtain ⟨g, o, e, hr⟩ := h.row (by omega)
  rw [hA] at e
  cases e
  rw [Go.WideShapes.add_plain]
  obtain ⟨x, hx⟩ : ∃ x, l[j / 2]? = some x := ⟨_, List.getElem?_eq_getElem (by omega)⟩
  obtain ⟨c1, c2⟩ := hr _ x hx
  obtain ⟨f1, f2⟩ := fcells_at l _ x hx
  rcases Nat.mod_two_eq_zero_or_one j with e | e
  · rw [show j / 2 * 2 = j from by omega] at c1 f1
    rw [c1, ← f1, hu]
  · rw [show o + j / 2 * 2 + 1 = o + j from by omega] at c2
    rw [show j / 2 * 2 + 1 = j from by omega] at f2
    rw [c2, ← f2, hu]

end Go.Proofs.YtckpojkbcbogbaaDoor
namespace Go.Proofs.YtckpojkbcbogbaaDoor
open Go Go.RowKit Go.Shelf Go.Proofs

/-- A tree that a call has made: a row of its own, each file with bytes of its own. -/
structure TreeMade (base : Nat) (w : World) (v : Value) (l : List FX) : Prop where
  own : FilesOwn base w v l
  bod : ∀ x ∈ l, BytesOwn w x.A x.b
theorem FilesOwn.slice {base : Nat} {w : World} {v : Value} {l : List FX} (h : FilesOwn base w v l) : ∃ A c, v = .slice A l.length c := by
  rcases h.form with ⟨rfl, rfl⟩ | ⟨g, cap, cur, rfl, _⟩
  · exact ⟨_, _, rfl⟩
  · exact ⟨_, _, rfl⟩
theorem FilesOwn.tree {base : Nat} {w : World} {A : Option Addr} {n c : Nat} {l : List FX} (h : FilesOwn base w (.slice A n c) l) (hb : FilesAt w l) : n = l.length ∧ TreeAt w A c l := by
  rcases h.form with ⟨e1, e2⟩ | ⟨g, cap, cur, e1, _, _, hc, hcm, _⟩
  · cases e1
    subst e2
    exact ⟨rfl, TreeAt.nil _ _ _ (Nat.zero_le _)⟩
  · cases e1
    exact ⟨rfl, hc, hcm, fun _ => ⟨g, 0, rfl, h.rowF⟩, hb⟩
theorem TreeMade.tree {base : Nat} {w : World} {A : Option Addr} {n c : Nat} {l : List FX} (h : TreeMade base w (.slice A n c) l) : n = l.length ∧ TreeAt w A c l := h.own.tree fun x hx => (h.bod x hx).at_
theorem TreeMade.below {base : Nat} {w w' : World} {v : Value} {l : List FX} (h : TreeMade base w v l) (hb : Below w.heap.size w w') : TreeMade base w' v l := ⟨h.own.below hb, fun x hx => (h.bod x hx).below hb⟩

def TreePost (w : World) (f : List Fl) (e : Ending) (w' : World) : Prop := ∃ v' l', e = .returned v' ∧ TreeMade w.heap.size w' v' l' ∧ flsX l' = f ∧ Below w.heap.size w w'

theorem keepX_sub {l : List FX} {s : ByteArray} : ∀ x ∈ keepX l s, x ∈ l := fun _x hx => (List.mem_filter.1 hx).1
theorem TreeAt.bodies {w : World} {A : Option Addr} {c : Nat} {l : List FX} (h : TreeAt w A c l) (hs : SmallX l) : BodiesLow w.heap.size w l := fun x hx => ⟨h.files x hx, (h.files x hx).low, (hs.2 x hx).2⟩
theorem BodiesLow.below {B : Nat} {w w' : World} {l : List FX} (h : BodiesLow B w l) (hb : Below B w w') : BodiesLow B w' l := fun x hx => by
  obtain ⟨h1, h2, h3⟩ := h x hx
  refine ⟨fun hn => ?_, h2, h3⟩
  exact (h1.keep (w' := w') fun g o e _ => hb.block g (h2 hn g o none e)) hn

theorem FilesOwn.lower {base base' : Nat} {W : World} {v : Value} {l : List FX} (h : FilesOwn base W v l) (hb : base' ≤ base) : FilesOwn base' W v l := by
  refine ⟨h.1, ?_⟩
  rcases h.2 with h2 | ⟨g, cap, cur, h1, h2, h3⟩
  · exact .inl h2
  · exact .inr ⟨g, cap, cur, h1, by omega, h3⟩
theorem insX_sub {l : List FX} {i : Nat} {f : FX} : ∀ x ∈ insX l i f, x = f ∨ x ∈ l := fun x hx => by
  unfold insX at hx
  rcases List.mem_append.1 hx with h | h
  · exact .inr (List.mem_of_mem_take h)
  · rcases List.mem_cons.1 h with h | h
    · exact .inl h
    · exact .inr (List.mem_of_mem_drop h)
theorem putX_sub {l : List FX} {f : FX} : ∀ x ∈ putX l f, x = f ∨ x ∈ l := fun x hx => (insX_sub x hx).imp id fun h => keepX_sub x h
theorem putX_le (l : List FX) (f : FX) : (putX l f).length ≤ l.length + 1 := by
  have h1 : (keepX l f.p).length ≤ l.length := List.length_filter_le _ _
  unfold putX insX
  have h2 := aboveX_le (keepX l f.p) f.p
  simp only [List.length_append, List.length_take, List.length_cons, List.length_drop]
  omega
theorem putX_len (l : List FX) (f : FX) (h : l.length ≤ 90000) : (putX l f).length ≤ 100000 := by have := putX_le l f; omega

end Go.Proofs.YtckpojkbcbogbaaDoor
namespace Go.Proofs.YtckpojkbcbogbaaDoor
open Go Go.RowKit Go.Shelf Go.Proofs

theorem place_get (l : List FX) (s : ByteArray) : (placeX l s = -1 ∧ getT (flsX l) s.data.toList = none ∧ hasT (flsX l) s.data.toList = false) ∨ ∃ (k : Nat) (x : FX), placeX l s = (k : Int) ∧ l[k]? = some x ∧ getT (flsX l) s.data.toList = some x.b ∧ hasT (flsX l) s.data.toList = true := by
  have hp : ∀ x : FX, (x.fl.1 == s.data.toList) = (x.p.toList == s.toList) := fun x => by simp only [FX.fl, ByteArray.toList_eq]
  have hget : getT (flsX l) s.data.toList = (l.find? fun x => x.p.toList == s.toList).map FX.b := by
    unfold getT flsX
    rw [List.find?_map, Option.map_map]
    have e : ((fun x : Fl => x.1 == s.data.toList) ∘ FX.fl) = fun x : FX => x.p.toList == s.toList := funext hp
    rw [e]; rfl
  have hhas : hasT (flsX l) s.data.toList = l.any fun x => x.p.toList == s.toList := by
    unfold hasT flsX
    rw [List.any_map]
    exact congrArg l.any (funext hp)
  rcases idxF_cases (fun x : FX => x.p.toList == s.toList) l with ⟨h1, h2⟩ | ⟨k, x, h1, h2, h3, h4⟩
  · refine .inl ⟨h1, ?_, ?_⟩
    · rw [hget, List.find?_eq_none.2 (fun y hy => by rw [h2 y hy]; simp)]; rfl
    · rw [hhas, List.any_eq_false]
      exact fun y hy => by rw [h2 y hy]; simp
  · refine .inr ⟨k, x, h1, h2, ?_, ?_⟩
    · obtain ⟨hk, rfl⟩ := List.getElem?_eq_some_iff.1 h2
      rw [hget, (List.find?_eq_some_iff_getElem (p := fun x : FX => x.p.toList == s.toList)).2 ⟨h3, k, hk, rfl, fun j hj => by rw [h4 j _ hj (List.getElem?_eq_getElem (by omega))]; rfl⟩]; rfl
    · rw [hhas, List.any_eq_true]
      exact ⟨x, List.mem_of_getElem? h2, h3⟩

def GetPost (w : World) (r : Option Bs) (e : Ending) (w' : World) : Prop := match r with
  | none => e = .returned (.tuple #[.slice none 0 0, .bool false]) ∧ Below w.heap.size w w'
  | some b => ∃ A c, e = .returned (.tuple #[.slice A b.length c, .bool true]) ∧ BytesOwn w' A b ∧ Below w.heap.size w w'

end Go.Proofs.YtckpojkbcbogbaaDoor
