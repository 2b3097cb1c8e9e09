/-
  A row of strings of a call's own, and the box that holds it. · Keys of path.place: how they read; the set of places that failed. · Plain facts on rows of patterns, and on the bytes of names. No program is named here. · What the closure in path.parted has captured; how it lies on while only the map of failures and new blocks turn.
-/
import Derived.Test.YtckpojkbcbogbaaDoorConsists
import Derived.Maps.AppendAt
import Derived.WalkSmall
import Derived.WalkMore
import Derived.Maps.OwnSet
import Derived.DeepKeys4
import Derived.WalkArith
import Derived.Test.YtckpojkbcbogbaaDoorPlain
import Derived.IntWalk
namespace Go.Proofs.YtckpojkbcbogbaaDoor
open Go Go.RowKit Go.Shelf Go.Proofs
attribute [local go_sem] Oper.semAt_some

theorem wpIn_scope_wide {n : Nat} {P : Program} {c : Code} {Q : Exit → Act → World → Prop} {a : Act} {w : World} (h : c.wpIn Fence.wide n P (Exit.noGoto Q) a w) : (Code.scope c).wpIn Fence.wide n P Q a w := wpIn_wide.2 (wp_scope_straight (wpIn_wide.1 h))

theorem string_info : (Tryd.prog.info? 9).map (fun i => (i.zero, i.size, i.bytes)) = some (some (.string ⟨#[]⟩), 1, 16) := by kernel_rfl

def strV (b : Bs) : Value := .string (mkB b)
def strVs (ns : List Bs) : List Value := ns.map strV

/-- The box B holds a slice of the call's own, from block b on, that reads ns. -/
def Names (b B : Nat) (ns : List Bs) (W : World) : Prop := ∃ v, Boxed W B 34 v ∧ W.ownsRow b 9 1 v ns.length (strVs ns)

theorem ownsRow_slice {w : World} {base e size n : Nat} {v : Value} {xs : List Value} (h : w.ownsRow base e size v n xs) : ∃ a c, v = .slice a n c ∧ n ≤ c ∧ c ≤ maxLen := by
  rcases h.2 with ⟨rfl, rfl⟩ | ⟨g, c, _, rfl, _, _, hc, hm, _⟩
  · exact ⟨none, 0, rfl, Nat.le_refl _, Nat.zero_le _⟩
  · exact ⟨_, c, rfl, hc, hm⟩

theorem names_kept {T : Nat → Prop} {b B B0 : Nat} {ns : List Bs} (_hB : B < b) (hT : ¬ T B) (hT2 : ∀ r, T r → r < b) {X Y : World} {row : Option Nat} (h : Names b B ns X) (hg : X.grownBy Y row)
    (hrow : ∀ r, row = some r → T r ∨ (B0 ≤ r ∧ ∃ o : Obj, X.heap[r]? = some o ∧ o.isCells = false)) : Names b B ns Y := by
  obtain ⟨v, hv, hr⟩ := h
  refine ⟨v, hv.kept hg (fun e => ?_), hr.kept hg ?_⟩
  · rcases hrow B e.symm with h | ⟨h, o, ho, hc⟩
    · exact hT h
    · rw [show X.heap[B]? = _ from hv] at ho; cases ho; cases hc
  · rcases hr.2 with ⟨rfl, _⟩ | ⟨g, cap, cur, rfl, hbg, hgb, _⟩
    · exact .inl rfl
    · refine .inr fun e => ?_
      rcases hrow g (by simpa [Value.ownBlock] using e.symm) with h | ⟨h, o, ho, hc⟩
      · have := hT2 g h; omega
      · rw [hgb] at ho; cases ho; cases hc

theorem row_ge {w : World} {b e size n g : Nat} {v : Value} {xs : List Value} (h : w.ownsRow b e size v n xs) (hg : v.ownBlock = some g) : b ≤ g ∧ ∃ cur, w.heap[g]? = some (.cells cur e (0, 0)) := by
  rcases h.2 with ⟨rfl, _⟩ | ⟨g', cap, cur, rfl, hbg, hgb, _⟩
  · simp [Value.ownBlock] at hg
  · obtain rfl : g' = g := by simpa [Value.ownBlock] using hg
    exact ⟨hbg, cur, hgb⟩

/-- Behind an append to the slice in box B, and the store back. -/
theorem names_push {W w1 : World} {n₀ b B t e k m : Nat} {v v' : Value} {tmp : Obj} {xs ys : List Value} (hte : t ≠ e) (hv : Boxed W B t v) (hrow : W.ownsRow b e 1 v k xs) (hb : b ≤ W.heap.size) (h0 : n₀ ≤ B) (hB : B < b)
    (hown' : w1.ownsRow b e 1 v' m ys) (hgrow : (W.alloc tmp).grownBy w1 v.ownBlock) :
    Boxed w1 B t v ∧ Boxed (w1.setCell ⟨B, 0, none⟩ v') B t v' ∧ (w1.setCell ⟨B, 0, none⟩ v').ownsRow b e 1 v' m ys ∧ KeepsOthers W (w1.setCell ⟨B, 0, none⟩ v') ∧
      (∀ j, j < b → j ≠ B → (w1.setCell ⟨B, 0, none⟩ v').heap[j]? = W.heap[j]?) ∧ Below n₀ W (w1.setCell ⟨B, 0, none⟩ v') := by
  have hv1 : Boxed w1 B t v := (hv.alloc tmp).kept hgrow (hv.not_row hte hrow)
  refine ⟨hv1, hv1.set v', hown'.kept (grownBy_setCell' w1 B v') (.inr (hv1.not_row hte hown').symm), ?_, ?_, ?_⟩
  · refine ((KeepsOthers.alloc W tmp).trans (KeepsOthers.of_grownBy hgrow fun j o ej hj => ?_)).trans (KeepsOthers.setCell _ _ _)
    obtain ⟨_, cur, hc⟩ := row_ge (hrow.alloc tmp) ej
    rw [hc] at hj; cases hj; rfl
  · intro j hj hne
    refine (Below.heap_setCell _ _ _ j hne).trans ((hgrow.block j (by simp; omega) (fun e => ?_)).trans (Below.heap_alloc _ _ _ (by omega)))
    have := (row_ge hrow e.symm).1
    omega
  · refine (((Below.refl n₀ W).alloc (by omega) tmp).grown hgrow (by simp; omega) fun j ej => ?_).setCell (p := ⟨B, 0, none⟩) h0 v'
    have := (row_ge hrow ej).1
    omega
end Go.Proofs.YtckpojkbcbogbaaDoor
namespace Go.Proofs.YtckpojkbcbogbaaDoor
open Go Go.RowKit Go.Shelf Go.Proofs
open Go.Maps (Keyed)

set_option maxRecDepth 100000 in
theorem place_laid : laidOutB Tryd.prog = true := by kernel_rfl
def placeV (i j : Nat) : Value := .agg #[.int .i64 i, .int .i64 j]
set_option maxRecDepth 100000 in
theorem int_cells : Tryd.prog.cellsOf 3 = 1 := by kernel_rfl
set_option maxRecDepth 100000 in
theorem int_wf (n : Nat) (h : n < 9223372036854775808) : (Lit.int .i64 (n : Int)).wf = true := by
  exact WalkArith.wf_i64 (by omega)

def gridL (n m : Nat) : List (Nat × Nat) := (List.range (n + 1)).flatMap fun i => (List.range (m + 1)).map fun j => (i, j)
set_option maxRecDepth 100000 in
theorem grid_mem {n m i j : Nat} (hi : i ≤ n) (hj : j ≤ m) : (i, j) ∈ gridL n m := by
  unfold gridL
  rw [List.mem_flatMap]
  exact ⟨i, List.mem_range.2 (by omega), List.mem_map.2 ⟨j, List.mem_range.2 (by omega), rfl⟩⟩
set_option maxRecDepth 100000 in
theorem grid_length (n m : Nat) : (gridL n m).length = (n + 1) * (m + 1) := by
  unfold gridL
  rw [List.length_flatMap]
  simp only [List.length_map, List.length_range]
  have : ∀ k, ((List.range k).map fun _ => m + 1).sum = k * (m + 1) := by
    intro k
    induction k with
    | zero => simp
    | succ k ih => rw [show List.range (k + 1) = List.range k ++ [k] from List.range_succ, List.map_append, List.sum_append, ih]; simp [Nat.succ_mul]
  exact this (n + 1)
set_option maxRecDepth 100000 in
theorem grid_small {n m : Nat} {p : Nat × Nat} (h : p ∈ gridL n m) : p.1 ≤ n ∧ p.2 ≤ m := by
  unfold gridL at h
  obtain ⟨i, hi, h2⟩ := List.mem_flatMap.1 h
  obtain ⟨j, hj, rfl⟩ := List.mem_map.1 h2
  rw [List.mem_range] at hi hj
  exact ⟨by simp; omega, by simp; omega⟩

set_option maxRecDepth 100000 in
theorem filter_less {α : Type} (l : List α) (p q : α → Bool) (hpq : ∀ x ∈ l, q x = true → p x = true) : (l.filter q).length ≤ (l.filter p).length := by
  induction l with
  | nil => simp
  | cons a r ih =>
    have ih := ih fun x hx => hpq x (by simp [hx])
    have ha := hpq a (by simp)
    cases e : q a with
    | true => rw [List.filter_cons_of_pos (by simpa using e), List.filter_cons_of_pos (ha e)]; simp; exact ih
    | false =>
      rw [List.filter_cons_of_neg (by simpa using e)]
      cases e2 : p a with
      | true => rw [List.filter_cons_of_pos (by simpa using e2)]; simp; omega
      | false => rw [List.filter_cons_of_neg (by simpa using e2)]; exact ih
set_option maxRecDepth 100000 in
theorem filter_drop {α : Type} (l : List α) (p q : α → Bool) (hpq : ∀ x ∈ l, q x = true → p x = true) (a : α) (ha : a ∈ l) (h1 : p a = true) (h2 : q a = false) : (l.filter q).length + 1 ≤ (l.filter p).length := by
  induction l with
  | nil => cases ha
  | cons b r ih =>
    have hpq' : ∀ x ∈ r, q x = true → p x = true := fun x hx => hpq x (by simp [hx])
    rcases List.mem_cons.1 ha with rfl | h
    · rw [List.filter_cons_of_neg (by simpa using h2), List.filter_cons_of_pos h1]
      have := filter_less r p q hpq'
      simp; omega
    · have ih := ih hpq' h
      have hb := hpq b (by simp)
      cases e : q b with
      | true => rw [List.filter_cons_of_pos (by simpa using e), List.filter_cons_of_pos (hb e)]; simp; omega
      | false =>
        rw [List.filter_cons_of_neg (by simpa using e)]
        cases e2 : p b with
        | true => rw [List.filter_cons_of_pos (by simpa using e2)]; simp; omega
        | false => rw [List.filter_cons_of_neg (by simpa using e2)]; exact ih

set_option maxRecDepth 100000 in
theorem zero_unit (w : World) : (zeroValue 93).run Tryd.prog w = .ok (.agg #[]) w := by kernel_rfl
end Go.Proofs.YtckpojkbcbogbaaDoor
namespace Go.Proofs.YtckpojkbcbogbaaDoor
open Go

theorem drop_some {α : Type} {xs : List α} {i : Nat} {p : α} (h : xs[i]? = some p) : xs.drop i = p :: xs.drop (i + 1) := by
  obtain ⟨hlt, rfl⟩ := List.getElem?_eq_some_iff.1 h
  exact List.drop_eq_getElem_cons hlt
theorem parted_skip {α : Type} (many : α → Bool) (one : α → α → Bool) (m : α) (ps is : List α) (hm : many m = true) (h : partedB many one ps is = true) : ∀ P : List α, partedB many one (m :: ps) (P ++ is) = true
  | [] => by
    cases is with
    | nil => simp only [List.nil_append, partedB, hm, h, Bool.and_self]
    | cons i r => simp only [List.nil_append, partedB, hm, h, if_true, Bool.true_or]
  | p :: P => by
    have ih := parted_skip many one m ps is hm h P
    simp only [List.cons_append, partedB, hm, if_true, ih, Bool.or_true]
theorem parted_rest {α : Type} (many : α → Bool) (one : α → α → Bool) (m : α) (hm : many m = true) (is : List α) : partedB many one [m] is = true := by
  have := parted_skip many one m [] [] hm (by simp [partedB]) is
  rwa [List.append_nil] at this
theorem plain_signs (b : UInt8) (h : plainB b = true) : (b == 42) = false ∧ (b == 63) = false ∧ (b == 47) = false := by
  refine ⟨?_, ?_, ?_⟩ <;> (rw [beq_eq_false_iff_ne]; rintro rfl; exact absurd h (by decide))
end Go.Proofs.YtckpojkbcbogbaaDoor
namespace Go.Proofs.YtckpojkbcbogbaaDoor
open Go Go.RowKit Go.Shelf Go.Proofs

theorem wrap_succ (n : Nat) (h : n ≤ 100000) : IntKind.i64.wrap ((n : Int) + 1) = ((n + 1 : Nat) : Int) := by
  rw [IntWalk.i64_in _ (by omega)]; rfl
structure Caught where
  bp : Nat
  bi : Nat
  bm : Nat
  bo : Nat
  bf : Nat
  bx : Nat
  mb : Nat
  ap : Option Addr
  cp : Nat
  ai : Option Addr
  ci : Nat
  gm : Nat
  go : Nat

def Reads {α : Type} (enc : α → Value) (W : World) (A : Option Addr) (xs : List α) : Prop := ∀ j x, xs[j]? = some x → ∃ b, A = some ⟨b, 0, none⟩ ∧ W.cell? ⟨b, j, none⟩ = some (enc x)

theorem boxed_ne_map {W : World} {B mb : Nat} {t : TypeId} {v : Value} (h : Boxed W B t v) (hm : ∃ es clock, W.heap[mb]? = some (.map es clock)) : B ≠ mb := by
  rintro rfl
  obtain ⟨es, clock, hm⟩ := hm
  rw [show W.heap[B]? = _ from h] at hm; cases hm
theorem cell_ne_map {W : World} {b mb j : Nat} {v : Value} (h : W.cell? ⟨b, j, none⟩ = some v) (hm : ∃ es clock, W.heap[mb]? = some (.map es clock)) : b ≠ mb := by
  rintro rfl
  obtain ⟨es, clock, hm⟩ := hm
  simp [World.cell?, hm] at h
theorem Reads.kept {α : Type} {enc : α → Value} {W W' : World} {A : Option Addr} {xs : List α} {mb : Nat} (h : Reads enc W A xs) (hg : W.grownBy W' (some mb)) (hm : ∃ es clock, W.heap[mb]? = some (.map es clock)) : Reads enc W' A xs := by
  intro j x hx
  obtain ⟨b, hA, hc⟩ := h j x hx
  exact ⟨b, hA, hg.cell hc (fun e => cell_ne_map hc hm (by injection e))⟩
theorem boxed_keptM {W W' : World} {B mb : Nat} {t : TypeId} {v : Value} (h : Boxed W B t v) (hg : W.grownBy W' (some mb)) (hm : ∃ es clock, W.heap[mb]? = some (.map es clock)) : Boxed W' B t v :=
  h.kept hg (fun e => boxed_ne_map h hm (by injection e))
theorem grown_trans {A B C : World} {row : Option Nat} (h : A.grownBy B row) (k : B.grownBy C row) : A.grownBy C row :=
  ⟨k.os.trans h.os, k.tape.trans h.tape, k.output.trans h.output, Nat.le_trans h.size k.size, fun i hi hne => (k.block i (Nat.lt_of_lt_of_le hi h.size) hne).trans (h.block i hi hne)⟩
theorem grown_below {A B : World} (row : Option Nat) (h : Below A.heap.size A B) : A.grownBy B row := ⟨h.os, h.tape, h.output, h.size, fun i hi _ => h.block i hi⟩
theorem cells_of_heap {W : World} {b t : Nat} {x y : Value} (h : W.heap[b]? = some (.cells #[x, y] t (0, 0))) : W.cell? ⟨b, 0, none⟩ = some x ∧ W.cell? ⟨b, 1, none⟩ = some y := by
  simp [World.cell?, h]
theorem partedB_nil {α : Type} (many : α → Bool) (one : α → α → Bool) (is : List α) : partedB many one [] is = is.isEmpty := by unfold partedB; rfl
theorem partedB_stop {α : Type} (many : α → Bool) (one : α → α → Bool) (p : α) (ps : List α) : partedB many one (p :: ps) [] = (many p && partedB many one ps []) := by conv => lhs; unfold partedB
theorem partedB_cons {α : Type} (many : α → Bool) (one : α → α → Bool) (p : α) (ps : List α) (i : α) (is : List α) :
    partedB many one (p :: ps) (i :: is) = if many p then partedB many one ps (i :: is) || partedB many one (p :: ps) is else one p i && partedB many one ps is := by conv => lhs; unfold partedB
end Go.Proofs.YtckpojkbcbogbaaDoor
