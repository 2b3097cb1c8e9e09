/-
  A row of strings of a call's own, and the box that holds it. · Keys of path.place: how they read; the set of places that failed. · Plain facts on rows of patterns, and on the bytes of names. No program is named here. · What the closure in path.parted has captured; how it lies on while only the map of failures and new blocks turn. · The contracts of the document's own answers: plain, Name. · The contracts of the document's own answers: Split, Right. · How a row of strings lies in the cells of a block, and stays there. · Plain facts on rows of patterns, from behind: what the document's own answer reckons front by front. · The contracts of the document's own answers: pattern, Glob. · The contract of the document's own Under, in the words of layer 2. · The contracts of the document's own answers of layer 2: Same, Right. · Arguments that are bytes, rows of bytes, rows of texts, opened. No program is named here. · Plain: one change of a file that is there, of a tree that may be. · The law QueueOthers, walked.
-/
import Derived.Test.YtffeanopdifegaaDoorConsists
import Derived.Maps.AppendAt
import Derived.WalkSmall
import Derived.WalkMore
import Derived.Maps.OwnSet
import Derived.DeepKeys4
import Derived.WalkArith
import Derived.Test.YtffeanopdifegaaDoorPlain
import Derived.IntWalk
import Derived.WalkKit
import Derived.Test.YtffeanopdifegaaDoorTPlain
import Derived.Test.YtffeanopdifegaaDoorTRefA
import Derived.BigRegion
import Derived.Deep.RegionHeld3
import Derived.BigQuiet
import Derived.Test.YtffeanopdifegaaDoorTOpen
import Derived.Test.YtffeanopdifegaaDoorTLaws
import Derived.Test.YtffeanopdifegaaDoorHPlain
import Derived.Test.YtffeanopdifegaaDoorQuZ
namespace Go.Proofs.YtffeanopdifegaaDoor
open Go Go.RowKit Go.Shelf Go.Proofs
attribute [local go_sem] Oper.semAt_some

theorem wpIn_scope_wide {n : Nat} {P : Program} {c : Code} {Q : Exit → Act → World → Prop} {a : Act} {w : World} (h : c.wpIn Fence.wide n P (Exit.noGoto Q) a w) : (Code.scope c).wpIn Fence.wide n P Q a w := wpIn_wide.2 (wp_scope_straight (wpIn_wide.1 h))

theorem string_info : (Tryd.prog.info? 9).map (fun i => (i.zero, i.size, i.bytes)) = some (some (.string ⟨#[]⟩), 1, 16) := by kernel_rfl

def strV (b : Bs) : Value := .string (mkB b)
def strVs (ns : List Bs) : List Value := ns.map strV

/-- The box B holds a slice of the call's own, from block b on, that reads ns. -/
def Names (b B : Nat) (ns : List Bs) (W : World) : Prop := ∃ v, Boxed W B 110 v ∧ W.ownsRow b 9 1 v ns.length (strVs ns)

theorem ownsRow_slice {w : World} {base e size n : Nat} {v : Value} {xs : List Value} (h : w.ownsRow base e size v n xs) : ∃ a c, v = .slice a n c ∧ n ≤ c ∧ c ≤ maxLen := by
  rcases h.2 with ⟨rfl, rfl⟩ | ⟨g, c, _, rfl, _, _, hc, hm, _⟩
  · exact ⟨none, 0, rfl, Nat.le_refl _, Nat.zero_le _⟩
  · exact ⟨_, c, rfl, hc, hm⟩

theorem names_kept {T : Nat → Prop} {b B B0 : Nat} {ns : List Bs} (_hB : B < b) (hT : ¬ T B) (hT2 : ∀ r, T r → r < b) {X Y : World} {row : Option Nat} (h : Names b B ns X) (hg : X.grownBy Y row)
    (hrow : ∀ r, row = some r → T r ∨ (B0 ≤ r ∧ ∃ o : Obj, X.heap[r]? = some o ∧ o.isCells = false)) : Names b B ns Y := by
  obtain ⟨v, hv, hr⟩ := h
  refine ⟨v, hv.kept hg (fun e => ?_), hr.kept hg ?_⟩
  · rcases hrow B e.symm with h | ⟨h, o, ho, hc⟩
    · exact hT h
    · rw [show X.heap[B]? = _ from hv] at ho; cases ho; cases hc
  · rcases hr.2 with ⟨rfl, _⟩ | ⟨g, cap, cur, rfl, hbg, hgb, _⟩
    · exact .inl rfl
    · refine .inr fun e => ?_
      rcases hrow g (by simpa [Value.ownBlock] using e.symm) with h | ⟨h, o, ho, hc⟩
      · have := hT2 g h; omega
      · rw [hgb] at ho; cases ho; cases hc

theorem row_ge {w : World} {b e size n g : Nat} {v : Value} {xs : List Value} (h : w.ownsRow b e size v n xs) (hg : v.ownBlock = some g) : b ≤ g ∧ ∃ cur, w.heap[g]? = some (.cells cur e (0, 0)) := by
  rcases h.2 with ⟨rfl, _⟩ | ⟨g', cap, cur, rfl, hbg, hgb, _⟩
  · simp [Value.ownBlock] at hg
  · obtain rfl : g' = g := by simpa [Value.ownBlock] using hg
    exact ⟨hbg, cur, hgb⟩

/-- Behind an append to the slice in box B, and the store back. -/
theorem names_push {W w1 : World} {n₀ b B t e k m : Nat} {v v' : Value} {tmp : Obj} {xs ys : List Value} (hte : t ≠ e) (hv : Boxed W B t v) (hrow : W.ownsRow b e 1 v k xs) (hb : b ≤ W.heap.size) (h0 : n₀ ≤ B) (hB : B < b)
    (hown' : w1.ownsRow b e 1 v' m ys) (hgrow : (W.alloc tmp).grownBy w1 v.ownBlock) :
    Boxed w1 B t v ∧ Boxed (w1.setCell ⟨B, 0, none⟩ v') B t v' ∧ (w1.setCell ⟨B, 0, none⟩ v').ownsRow b e 1 v' m ys ∧ KeepsOthers W (w1.setCell ⟨B, 0, none⟩ v') ∧
      (∀ j, j < b → j ≠ B → (w1.setCell ⟨B, 0, none⟩ v').heap[j]? = W.heap[j]?) ∧ Below n₀ W (w1.setCell ⟨B, 0, none⟩ v') := by
  have hv1 : Boxed w1 B t v := (hv.alloc tmp).kept hgrow (hv.not_row hte hrow)
  refine ⟨hv1, hv1.set v', hown'.kept (grownBy_setCell' w1 B v') (.inr (hv1.not_row hte hown').symm), ?_, ?_, ?_⟩
  · refine ((KeepsOthers.alloc W tmp).trans (KeepsOthers.of_grownBy hgrow fun j o ej hj => ?_)).trans (KeepsOthers.setCell _ _ _)
    obtain ⟨_, cur, hc⟩ := row_ge (hrow.alloc tmp) ej
    rw [hc] at hj; cases hj; rfl
  · intro j hj hne
    refine (Below.heap_setCell _ _ _ j hne).trans ((hgrow.block j (by simp; omega) (fun e => ?_)).trans (Below.heap_alloc _ _ _ (by omega)))
    have := (row_ge hrow e.symm).1
    omega
  · refine (((Below.refl n₀ W).alloc (by omega) tmp).grown hgrow (by simp; omega) fun j ej => ?_).setCell (p := ⟨B, 0, none⟩) h0 v'
    have := (row_ge hrow ej).1
    omega
end Go.Proofs.YtffeanopdifegaaDoor
namespace Go.Proofs.YtffeanopdifegaaDoor
open Go Go.RowKit Go.Shelf Go.Proofs
open Go.Maps (Keyed)

set_option maxRecDepth 100000 in
theorem place_laid : laidOutB Tryd.prog = true := by kernel_rfl
def placeV (i j : Nat) : Value := .agg #[.int .i64 i, .int .i64 j]
set_option maxRecDepth 100000 in
theorem int_cells : Tryd.prog.cellsOf 3 = 1 := by kernel_rfl
set_option maxRecDepth 100000 in
theorem int_wf (n : Nat) (h : n < 9223372036854775808) : (Lit.int .i64 (n : Int)).wf = true := by
  exact WalkArith.wf_i64 (by omega)

def gridL (n m : Nat) : List (Nat × Nat) := (List.range (n + 1)).flatMap fun i => (List.range (m + 1)).map fun j => (i, j)
set_option maxRecDepth 100000 in
theorem grid_mem {n m i j : Nat} (hi : i ≤ n) (hj : j ≤ m) : (i, j) ∈ gridL n m := by
  unfold gridL
  rw [List.mem_flatMap]
  exact ⟨i, List.mem_range.2 (by omega), List.mem_map.2 ⟨j, List.mem_range.2 (by omega), rfl⟩⟩
set_option maxRecDepth 100000 in
theorem grid_length (n m : Nat) : (gridL n m).length = (n + 1) * (m + 1) := by
  unfold gridL
  rw [List.length_flatMap]
  simp only [List.length_map, List.length_range]
  have : ∀ k, ((List.range k).map fun _ => m + 1).sum = k * (m + 1) := by
    intro k
    induction k with
    | zero => simp
    | succ k ih => rw [show List.range (k + 1) = List.range k ++ [k] from List.range_succ, List.map_append, List.sum_append, ih]; simp [Nat.succ_mul]
  exact this (n + 1)
set_option maxRecDepth 100000 in
theorem grid_small {n m : Nat} {p : Nat × Nat} (h : p ∈ gridL n m) : p.1 ≤ n ∧ p.2 ≤ m := by
  unfold gridL at h
  obtain ⟨i, hi, h2⟩ := List.mem_flatMap.1 h
  obtain ⟨j, hj, rfl⟩ := List.mem_map.1 h2
  rw [List.mem_range] at hi hj
  exact ⟨by simp; omega, by simp; omega⟩

set_option maxRecDepth 100000 in
theorem filter_less {α : Type} (l : List α) (p q : α → Bool) (hpq : ∀ x ∈ l, q x = true → p x = true) : (l.filter q).length ≤ (l.filter p).length := by
  induction l with
  | nil => simp
  | cons a r ih =>
    have ih := ih fun x hx => hpq x (by simp [hx])
    have ha := hpq a (by simp)
    cases e : q a with
    | true => rw [List.filter_cons_of_pos (by simpa using e), List.filter_cons_of_pos (ha e)]; simp; exact ih
    | false =>
      rw [List.filter_cons_of_neg (by simpa using e)]
      cases e2 : p a with
      | true => rw [List.filter_cons_of_pos (by simpa using e2)]; simp; omega
      | false => rw [List.filter_cons_of_neg (by simpa using e2)]; exact ih
set_option maxRecDepth 100000 in
theorem filter_drop {α : Type} (l : List α) (p q : α → Bool) (hpq : ∀ x ∈ l, q x = true → p x = true) (a : α) (ha : a ∈ l) (h1 : p a = true) (h2 : q a = false) : (l.filter q).length + 1 ≤ (l.filter p).length := by
  induction l with
  | nil => cases ha
  | cons b r ih =>
    have hpq' : ∀ x ∈ r, q x = true → p x = true := fun x hx => hpq x (by simp [hx])
    rcases List.mem_cons.1 ha with rfl | h
    · rw [List.filter_cons_of_neg (by simpa using h2), List.filter_cons_of_pos h1]
      have := filter_less r p q hpq'
      simp; omega
    · have ih := ih hpq' h
      have hb := hpq b (by simp)
      cases e : q b with
      | true => rw [List.filter_cons_of_pos (by simpa using e), List.filter_cons_of_pos (hb e)]; simp; omega
      | false =>
        rw [List.filter_cons_of_neg (by simpa using e)]
        cases e2 : p b with
        | true => rw [List.filter_cons_of_pos (by simpa using e2)]; simp; omega
        | false => rw [List.filter_cons_of_neg (by simpa using e2)]; exact ih

set_option maxRecDepth 100000 in
theorem zero_unit (w : World) : (zeroValue 131).run Tryd.prog w = .ok (.agg #[]) w := by kernel_rfl
end Go.Proofs.YtffeanopdifegaaDoor
namespace Go.Proofs.YtffeanopdifegaaDoor
open Go

theorem drop_some {α : Type} {xs : List α} {i : Nat} {p : α} (h : xs[i]? = some p) : xs.drop i = p :: xs.drop (i + 1) := by
  obtain ⟨hlt, rfl⟩ := List.getElem?_eq_some_iff.1 h
  exact List.drop_eq_getElem_cons hlt
theorem parted_skip {α : Type} (many : α → Bool) (one : α → α → Bool) (m : α) (ps is : List α) (hm : many m = true) (h : partedB many one ps is = true) : ∀ P : List α, partedB many one (m :: ps) (P ++ is) = true
  | [] => by
    cases is with
    | nil => simp only [List.nil_append, partedB, hm, h, Bool.and_self]
    | cons i r => simp only [List.nil_append, partedB, hm, h, if_true, Bool.true_or]
  | p :: P => by
    have ih := parted_skip many one m ps is hm h P
    simp only [List.cons_append, partedB, hm, if_true, ih, Bool.or_true]
theorem parted_rest {α : Type} (many : α → Bool) (one : α → α → Bool) (m : α) (hm : many m = true) (is : List α) : partedB many one [m] is = true := by
  have := parted_skip many one m [] [] hm (by simp [partedB]) is
  rwa [List.append_nil] at this
theorem plain_signs (b : UInt8) (h : plainB b = true) : (b == 42) = false ∧ (b == 63) = false ∧ (b == 47) = false := by
  refine ⟨?_, ?_, ?_⟩ <;> (rw [beq_eq_false_iff_ne]; rintro rfl; exact absurd h (by decide))
end Go.Proofs.YtffeanopdifegaaDoor
namespace Go.Proofs.YtffeanopdifegaaDoor
open Go Go.RowKit Go.Shelf Go.Proofs

theorem wrap_succ (n : Nat) (h : n ≤ 100000) : IntKind.i64.wrap ((n : Int) + 1) = ((n + 1 : Nat) : Int) := by
  rw [IntWalk.i64_in _ (by omega)]; rfl
structure Caught where
  bp : Nat
  bi : Nat
  bm : Nat
  bo : Nat
  bf : Nat
  bx : Nat
  mb : Nat
  ap : Option Addr
  cp : Nat
  ai : Option Addr
  ci : Nat
  gm : Nat
  go : Nat

def Reads {α : Type} (enc : α → Value) (W : World) (A : Option Addr) (xs : List α) : Prop := ∀ j x, xs[j]? = some x → ∃ b, A = some ⟨b, 0, none⟩ ∧ W.cell? ⟨b, j, none⟩ = some (enc x)

theorem boxed_ne_map {W : World} {B mb : Nat} {t : TypeId} {v : Value} (h : Boxed W B t v) (hm : ∃ es clock, W.heap[mb]? = some (.map es clock)) : B ≠ mb := by
  rintro rfl
  obtain ⟨es, clock, hm⟩ := hm
  rw [show W.heap[B]? = _ from h] at hm; cases hm
theorem cell_ne_map {W : World} {b mb j : Nat} {v : Value} (h : W.cell? ⟨b, j, none⟩ = some v) (hm : ∃ es clock, W.heap[mb]? = some (.map es clock)) : b ≠ mb := by
  rintro rfl
  obtain ⟨es, clock, hm⟩ := hm
  simp [World.cell?, hm] at h
theorem Reads.kept {α : Type} {enc : α → Value} {W W' : World} {A : Option Addr} {xs : List α} {mb : Nat} (h : Reads enc W A xs) (hg : W.grownBy W' (some mb)) (hm : ∃ es clock, W.heap[mb]? = some (.map es clock)) : Reads enc W' A xs := by
  intro j x hx
  obtain ⟨b, hA, hc⟩ := h j x hx
  exact ⟨b, hA, hg.cell hc (fun e => cell_ne_map hc hm (by injection e))⟩
theorem boxed_keptM {W W' : World} {B mb : Nat} {t : TypeId} {v : Value} (h : Boxed W B t v) (hg : W.grownBy W' (some mb)) (hm : ∃ es clock, W.heap[mb]? = some (.map es clock)) : Boxed W' B t v :=
  h.kept hg (fun e => boxed_ne_map h hm (by injection e))
theorem grown_trans {A B C : World} {row : Option Nat} (h : A.grownBy B row) (k : B.grownBy C row) : A.grownBy C row :=
  ⟨k.os.trans h.os, k.tape.trans h.tape, k.output.trans h.output, Nat.le_trans h.size k.size, fun i hi hne => (k.block i (Nat.lt_of_lt_of_le hi h.size) hne).trans (h.block i hi hne)⟩
theorem grown_below {A B : World} (row : Option Nat) (h : Below A.heap.size A B) : A.grownBy B row := ⟨h.os, h.tape, h.output, h.size, fun i hi _ => h.block i hi⟩
theorem cells_of_heap {W : World} {b t : Nat} {x y : Value} (h : W.heap[b]? = some (.cells #[x, y] t (0, 0))) : W.cell? ⟨b, 0, none⟩ = some x ∧ W.cell? ⟨b, 1, none⟩ = some y := by
  simp [World.cell?, h]
theorem partedB_nil {α : Type} (many : α → Bool) (one : α → α → Bool) (is : List α) : partedB many one [] is = is.isEmpty := by unfold partedB; rfl
theorem partedB_stop {α : Type} (many : α → Bool) (one : α → α → Bool) (p : α) (ps : List α) : partedB many one (p :: ps) [] = (many p && partedB many one ps []) := by conv => lhs; unfold partedB
theorem partedB_cons {α : Type} (many : α → Bool) (one : α → α → Bool) (p : α) (ps : List α) (i : α) (is : List α) :
    partedB many one (p :: ps) (i :: is) = if many p then partedB many one ps (i :: is) || partedB many one (p :: ps) is else one p i && partedB many one ps is := by conv => lhs; unfold partedB
end Go.Proofs.YtffeanopdifegaaDoor
namespace Go.Proofs.YtffeanopdifegaaDoor
open Go Go.RowKit Go.Shelf Go.Proofs
attribute [local go_sem] Oper.semAt_some

set_option maxHeartbeats 1000000 in
theorem refplain_any (c : Int) (w : World) (h0 : 0 ≤ c) (h1 : c ≤ 255) :
    Calls Tryd.prog 72 #[.int .u8 c] w fun e w' => e = .returned (.bool (plainI c)) ∧ w' = w := by
  go_enter Tryd.func72, Tryd.ntmps72
  go_wp2
  all_goals (go_ret; exact ⟨ret_bool (by unfold plainI; first | decide | (rw [Bool.eq_iff_iff]; simp <;> omega)), rfl⟩)

theorem refplain_byte (b : UInt8) (w : World) : Calls Tryd.prog 72 #[.int .u8 ↑b.toNat] w fun e w' => e = .returned (.bool (plainB b)) ∧ w' = w := by
  have := b.toNat_lt
  have h := refplain_any b.toNat w (by omega) (by omega)
  rwa [plainI_eq] at h

theorem nameB_eq (s : ByteArray) : nameB s.data.toList = (s.data.toList.all plainB && (decide (0 < s.size) && decide (s.size ≤ 30) && !(s.toList == [46]) && !(s.toList == [46, 46]))) := by
  have hl : s.data.toList.length = s.size := Array.length_toList
  have he : s.data.toList.isEmpty = !decide (0 < s.size) := by
    rw [← hl]; cases s.data.toList <;> simp
  have ho : okB [] = plainB := by funext c; unfold okB; simp
  unfold nameB speltB
  rw [he, ho, ByteArray.toList_eq, hl]
  cases s.data.toList.all plainB <;> cases decide (0 < s.size) <;> cases decide (s.size ≤ 30) <;> cases (s.data.toList == [46]) <;> cases (s.data.toList == [46, 46]) <;> rfl

set_option maxHeartbeats 2000000 in
theorem refname_any (s : ByteArray) (w : World) (hs : s.size ≤ maxLen) :
    Calls Tryd.prog 52 #[.string s] w fun e w' => e = .returned (.bool (nameB s.data.toList)) ∧ w' = w := by
  unfold maxLen at hs
  have hn := nameB_eq s
  obtain ⟨r, hr⟩ : ∃ r, nameB s.data.toList = r := ⟨_, rfl⟩
  rw [hr] at hn ⊢
  have HN := Lib.hid hn; clear hn hr
  go_enter Tryd.func52, Tryd.ntmps52
  go_wp2_with fail
  go_loop [3] (fun i => ∃ k : Nat, k ≤ s.size ∧ i = .int .i64 k ∧ Hid ((s.data.toList.take k).all plainB = true)) (fun i => s.size - (intOf i).toNat)
  case atStart => exact ⟨0, Nat.zero_le _, rfl, rfl⟩
  case round =>
    obtain ⟨k, hk, rfl, hall⟩ := hrel
    by_cases hlt : k < s.size
    · have hsn := all_snoc plainB s k hlt hall.out
      obtain ⟨b, hb⟩ : ∃ b, s[k] = b := ⟨_, rfl⟩
      have HS := Lib.hid hsn; clear hsn
      have HB := Lib.hid hb; clear hb
      cases hp : plainB b with
      | true =>
        have HP := Lib.hid hp; clear hp
        go_wp2_with (go_at_call 72; refine (refplain_byte _ _).mono ?_; rintro e w' ⟨rfl, rfl⟩; rw [HB.out, HP.out])
        go_round
        case rel => exact ⟨k + 1, by omega, by go_num, by unfold Hid; rw [HS.out, HB.out]; exact HP.out⟩
        case measure => simp [intOf]; omega
      | false =>
        have HP := Lib.hid hp; clear hp
        go_wp2_with (go_at_call 72; refine (refplain_byte _ _).mono ?_; rintro e w' ⟨rfl, rfl⟩; rw [HB.out, HP.out])
        go_ret
        exact ⟨ret_bool (by rw [HN.out, all_take_false _ s (k + 1) (by rw [HS.out, HB.out]; exact HP.out)]; rfl), rfl⟩
    · have ha : s.data.toList.all plainB = true := by
        have h := hall.out; rw [List.take_of_length_le (by rw [Array.length_toList]; show s.size ≤ k; omega)] at h; exact h
      have HN2 : Hid (r = (decide (0 < s.size) && decide (s.size ≤ 30) && !(s.toList == [46]) && !(s.toList == [46, 46]))) := by
        unfold Hid; rw [HN.out, ha]; rfl
      clear ha HN hall
      by_cases h0 : (0 : Int) < (s.size : Int)
      · have e0 : decide (0 < s.size) = true := decide_eq_true (by omega)
        by_cases h1 : (s.size : Int) ≤ 30
        · have e1 : decide (s.size ≤ 30) = true := decide_eq_true (by omega)
          cases h2 : (s.toList == [46]) with
          | true =>
            have g2 : (s.toList != [46]) = false := by unfold bne; rw [h2]; rfl
            have H := Lib.hid (show r = false by rw [HN2.out, e0, e1, h2]; rfl)
            clear HN2 e0 e1
            go_wp2_with fail
            go_ret
            exact ⟨ret_bool H.out.symm, rfl⟩
          | false =>
            have g2 : (s.toList != [46]) = true := by unfold bne; rw [h2]; rfl
            cases h3 : (s.toList == [46, 46]) with
            | true =>
              have g3 : (s.toList != [46, 46]) = false := by unfold bne; rw [h3]; rfl
              have H := Lib.hid (show r = false by rw [HN2.out, e0, e1, h2, h3]; rfl)
              clear HN2 e0 e1
              go_wp2_with fail
              go_ret
              exact ⟨ret_bool H.out.symm, rfl⟩
            | false =>
              have g3 : (s.toList != [46, 46]) = true := by unfold bne; rw [h3]; rfl
              have H := Lib.hid (show r = true by rw [HN2.out, e0, e1, h2, h3]; rfl)
              clear HN2 e0 e1
              go_wp2_with fail
              go_ret
              exact ⟨ret_bool H.out.symm, rfl⟩
        · have H := Lib.hid (show r = false by rw [HN2.out, e0, decide_eq_false (by omega)]; rfl)
          clear HN2 e0
          go_wp2_with fail
          go_ret
          exact ⟨ret_bool H.out.symm, rfl⟩
      · have H := Lib.hid (show r = false by rw [HN2.out, decide_eq_false (by omega)]; rfl)
        clear HN2
        go_wp2_with fail
        go_ret
        exact ⟨ret_bool H.out.symm, rfl⟩
end Go.Proofs.YtffeanopdifegaaDoor
namespace Go.Proofs.YtffeanopdifegaaDoor
open Go Go.RowKit Go.Shelf Go.Proofs
attribute [local go_sem] Oper.semAt_some

/-- No sign from f on, up to k. -/
def Clear (c : UInt8) (s : Bs) (f k : Nat) : Prop := ∀ j, f ≤ j → j < k → s[j]? ≠ some c
theorem splitL_clear (c : UInt8) : ∀ (l : Bs) (m : Nat), Clear c l 0 m → l[m]? = some c → splitL c l = l.take m :: splitL c (l.drop (m + 1))
  | [], m, _, h => by simp at h
  | b :: r, 0, _, h => by
    have : b = c := by simpa using h
    subst this
    simp [splitL]
  | b :: r, m + 1, hc, h => by
    have hb : (b == c) = false := by
      rw [beq_eq_false_iff_ne]; intro e
      exact hc 0 (Nat.le_refl _) (by omega) (by simp [e])
    have ih := splitL_clear c r m (fun j _ hj => by have := hc (j + 1) (by omega) (by omega); simpa using this) (by simpa using h)
    simp only [splitL, hb, Bool.false_eq_true, if_false, ih]
    simp
theorem splitL_all (c : UInt8) : ∀ (l : Bs) (m : Nat), Clear c l 0 m → l.length ≤ m → splitL c l = [l]
  | [], _, _, _ => rfl
  | b :: r, m, hc, hm => by
    have hm' : r.length + 1 ≤ m := by simpa using hm
    have hb : (b == c) = false := by
      rw [beq_eq_false_iff_ne]; intro e
      exact hc 0 (Nat.le_refl _) (by omega) (by simp [e])
    have ih := splitL_all c r (m - 1) (fun j _ hj => by have := hc (j + 1) (by omega) (by omega); simpa using this) (by omega)
    simp only [splitL, hb, Bool.false_eq_true, if_false, ih]

/-- What has been gathered, where k has been looked at, and f begins the next piece. -/
def Gathered (c : UInt8) (s : Bs) (k f : Nat) (P : List Bs) : Prop :=
  f ≤ k ∧ k ≤ s.length + 1 ∧ P.length ≤ f ∧ (k ≤ s.length → Clear c s f k ∧ splitL c s = P ++ splitL c (s.drop f)) ∧ (k = s.length + 1 → P = splitL c s)
theorem gathered_start (c : UInt8) (s : Bs) : Gathered c s 0 0 [] := ⟨Nat.le_refl _, by omega, Nat.le_refl _, fun _ => ⟨fun j _ h => by omega, rfl⟩, fun h => by omega⟩
theorem clear_drop (c : UInt8) (s : Bs) (f k : Nat) (h : Clear c s f k) : Clear c (s.drop f) 0 (k - f) := fun j _ hj => by
  rw [List.getElem?_drop]; exact h (f + j) (by omega) (by omega)
theorem gathered_hit (c : UInt8) (s : Bs) (k f : Nat) (P : List Bs) (h : Gathered c s k f P) (hk : s[k]? = some c) : Gathered c s (k + 1) (k + 1) (P ++ [(s.drop f).take (k - f)]) := by
  obtain ⟨h1, h2, h3, h4, _⟩ := h
  have hl : k < s.length := by
    rcases Nat.lt_or_ge k s.length with h | h
    · exact h
    · rw [List.getElem?_eq_none h] at hk; cases hk
  obtain ⟨h5, h6⟩ := h4 (by omega)
  refine ⟨Nat.le_refl _, by omega, by simp; omega, fun _ => ⟨fun j a b => by omega, ?_⟩, fun e => by omega⟩
  rw [h6, splitL_clear c (s.drop f) (k - f) (clear_drop c s f k h5) (by rw [List.getElem?_drop, show f + (k - f) = k by omega]; exact hk), List.drop_drop, show f + (k - f + 1) = k + 1 by omega]
  simp
theorem gathered_miss (c : UInt8) (s : Bs) (k f : Nat) (P : List Bs) (h : Gathered c s k f P) (hl : k < s.length) (hk : s[k]? ≠ some c) : Gathered c s (k + 1) f P := by
  obtain ⟨h1, h2, h3, h4, _⟩ := h
  obtain ⟨h5, h6⟩ := h4 (by omega)
  refine ⟨by omega, by omega, h3, fun _ => ⟨fun j a b => ?_, h6⟩, fun e => by omega⟩
  rcases Nat.lt_or_ge j k with hj | hj
  · exact h5 j a hj
  · rw [show j = k by omega]; exact hk
theorem gathered_end (c : UInt8) (s : Bs) (f : Nat) (P : List Bs) (h : Gathered c s s.length f P) : Gathered c s (s.length + 1) (s.length + 1) (P ++ [(s.drop f).take (s.length - f)]) := by
  obtain ⟨h1, h2, h3, h4, _⟩ := h
  obtain ⟨h5, h6⟩ := h4 (by omega)
  refine ⟨Nat.le_refl _, Nat.le_refl _, by simp; omega, fun e => by omega, fun _ => ?_⟩
  rw [h6, splitL_all c (s.drop f) (s.length - f) (clear_drop c s f _ h5) (by simp), List.take_of_length_le (by simp)]
theorem extract_piece (s : ByteArray) (f k : Nat) (_hf : f ≤ k) : s.extract f k = mkB ((s.data.toList.drop f).take (k - f)) := by
  rw [← data_mkB (s.extract f k)]
  congr 1
  rw [Lib.extract_data]
theorem strVs_snoc (P : List Bs) (s : ByteArray) (f k : Nat) (hf : f ≤ k) : strVs (P ++ [(s.data.toList.drop f).take (k - f)]) = strVs P ++ [.string (s.extract f k)] := by
  simp [strVs, strV, extract_piece s f k hf]

set_option maxRecDepth 100000 in
set_option maxHeartbeats 4000000 in
theorem refsplit_any (s : ByteArray) (c : UInt8) (w : World) (hs : s.size ≤ 1100000) :
    Calls Tryd.prog 51 #[.string s, .int .u8 ↑c.toNat] w fun e w' =>
      ∃ v, e = .returned v ∧ w'.ownsRow w.heap.size 9 1 v (splitL c s.data.toList).length (strVs (splitL c s.data.toList)) ∧ Below w.heap.size w w' := by
  obtain ⟨i0, hi, hz0, hz1, hz2⟩ := info_parts string_info
  have hl : s.data.toList.length = s.size := Array.length_toList
  go_enter Tryd.func51, Tryd.ntmps51
  go_wp2_with fail
  go_loopw [5, 6, 7] (fun v f i wr => ∃ (k g : Nat) (P : List Bs), k ≤ s.size + 1 ∧ g ≤ k ∧ P.length ≤ g ∧ f = .int .i64 g ∧ i = .int .i64 k ∧ wr.ownsRow w.heap.size 9 1 v P.length (strVs P) ∧ Below w.heap.size w wr ∧ Hid (Gathered c s.data.toList k g P)) (fun _ _ i _ => s.size + 1 - (intOf i).toNat)
  case atStart => exact ⟨0, 0, [], Nat.zero_le _, Nat.le_refl _, Nat.le_refl _, rfl, rfl, World.ownsRow_nil _ _ _ _, Below.refl _ _, gathered_start _ _⟩
  case round =>
    obtain ⟨k, g, P, hk, hg, hP, rfl, rfl, hrow, hbr, hga⟩ := hrel
    have hW : w.heap.size ≤ wr.heap.size := hbr.size
    by_cases h1 : k ≤ s.size
    · by_cases h2 : k = s.size
      · subst h2
        have he := gathered_end c s.data.toList g P (by rw [hl]; exact hga.out)
        rw [hl] at he
        have HE := Lib.hid he; clear he hga
        go_wp2_with (at_builtin; refine wpList_append_own _ rfl _ _ 110 rfl w.heap.size 9 i0 (.string ⟨#[]⟩) 1 16 Tryd.underlying110 hi hz0 hz1 hz2 rfl (by decide) _ _ _ rfl (hrow.alloc _) ⟨wr.heap.size, 0, none⟩ 1 1 [.string (s.extract g s.size)] rfl rfl (cell_one_new _ _ _) (by simp [Value.oneCell']) (by unfold maxLen; omega) (by omega) (by simp; omega) ?_; intro v' w1 hown' hgrow _)
        go_roundw
        case rel =>
          refine ⟨s.size + 1, s.size + 1, P ++ [(s.data.toList.drop g).take (s.size - g)], Nat.le_refl _, Nat.le_refl _, by rw [List.length_append]; simp; omega, by go_num, by go_num, ?_, hbr.trans (((Below.refl _ _).alloc hW _).grown hgrow (by simp; omega) fun j ej => (row_ge hrow ej).1), HE.out⟩
          rw [strVs_snoc P s g s.size hg, List.length_append]; exact hown'
        case measure => simp [intOf]
      · have hlt : k < s.size := by omega
        obtain ⟨b, hb⟩ : ∃ b, s[k] = b := ⟨_, rfl⟩
        have hk? : s.data.toList[k]? = some b := by
          rw [List.getElem?_eq_getElem (by rw [hl]; exact hlt), ← hb]; rfl
        by_cases hbc : b = c
        · subst hbc
          have he := gathered_hit b s.data.toList k g P hga.out hk?
          have HE := Lib.hid he; clear he hga
          have HK := Lib.hid hk?; clear hk?
          go_wp2_with (at_builtin; refine wpList_append_own _ rfl _ _ 110 rfl w.heap.size 9 i0 (.string ⟨#[]⟩) 1 16 Tryd.underlying110 hi hz0 hz1 hz2 rfl (by decide) _ _ _ rfl (hrow.alloc _) ⟨wr.heap.size, 0, none⟩ 1 1 [.string (s.extract g k)] rfl rfl (cell_one_new _ _ _) (by simp [Value.oneCell']) (by unfold maxLen; omega) (by omega) (by simp; omega) ?_; intro v' w1 hown' hgrow _)
          go_roundw
          case rel =>
            refine ⟨k + 1, k + 1, P ++ [(s.data.toList.drop g).take (k - g)], by omega, Nat.le_refl _, by simp; (try omega), by go_num, by go_num, ?_, hbr.trans (((Below.refl _ _).alloc hW _).grown hgrow (by simp; omega) fun j ej => (row_ge hrow ej).1), HE.out⟩
            rw [strVs_snoc P s g k hg, List.length_append]; exact hown'
          case measure => simp [intOf]; omega
        · have he := gathered_miss c s.data.toList k g P hga.out (by rw [hl]; exact hlt) (by rw [hk?]; exact fun e => hbc (Option.some.inj e))
          have hne : ¬ ((b.toNat : Int) = (c.toNat : Int)) := fun e => hbc (by rw [← UInt8.toNat_inj]; omega)
          have hne2 : ((b.toNat : Int) == (c.toNat : Int)) = false := by rw [beq_eq_false_iff_ne]; exact hne
          have hks : ((k : Int) == (s.size : Int)) = false := by rw [beq_eq_false_iff_ne]; omega
          have HE := Lib.hid he; clear he hga
          have HK := Lib.hid hk?; clear hk?
          go_wp2_with fail
          go_roundw
          case rel => exact ⟨k + 1, g, P, by omega, by omega, hP, rfl, by go_num, hrow, hbr, HE.out⟩
          case measure => simp [intOf]; omega
    · have h2 : k = s.size + 1 := by omega
      subst h2
      have he := hga.out.2.2.2.2 (by rw [hl])
      subst he
      go_wp2_with fail
      go_ret
      exact ⟨_, rfl, hrow, hbr⟩

set_option maxHeartbeats 4000000 in
theorem refright_any (s : ByteArray) (w : World) (hs : s.size ≤ 1100000) :
    Calls Tryd.prog 34 #[.string s] w fun e w' => e = .returned (.bool (rightB s.data.toList)) ∧ Below w.heap.size w w' := by
  have hl : s.data.toList.length = s.size := Array.length_toList
  have hr : rightB s.data.toList = (decide (s.size ≤ 100) && allTo nameB (piecesB 47 s) (piecesB 47 s).length) := by
    rw [allTo_all]; unfold rightB partsB; rw [hl]
  have hfa := allTo_false nameB 47 s
  have hlen := splitL_length 47 s.data.toList
  have hsm := piecesB_small 47 s
  have hpl : (piecesB 47 s).length = (splitL 47 s.data.toList).length := by unfold piecesB; simp
  obtain ⟨r, hrr⟩ : ∃ r, rightB s.data.toList = r := ⟨_, rfl⟩
  have hfa' : ∀ k, allTo nameB (piecesB 47 s) k = false → r = false := fun k h => by
    rw [← hrr]; unfold rightB partsB; rw [hfa k h]; simp
  rw [hrr] at hr ⊢
  obtain ⟨L, hL⟩ : ∃ L, splitL 47 s.data.toList = L := ⟨_, rfl⟩
  obtain ⟨X, hX⟩ : ∃ X, piecesB 47 s = X := ⟨_, rfl⟩
  have hLX : ∀ j x, X[j]? = some x → (strVs L)[j]? = some (Value.string x) := fun j x h => by
    rw [← hX] at h; rw [← hL]
    unfold piecesB at h
    unfold strVs strV
    rw [List.getElem?_map] at h ⊢
    cases e : (splitL 47 s.data.toList)[j]? with
    | none => rw [e] at h; cases h
    | some p => rw [e] at h; cases h; rfl
  rw [hX] at hr hfa' hpl hsm
  rw [hL] at hlen hpl
  have HR := Lib.hid hr; clear hr
  have HF := Lib.hid hfa'; clear hfa' hfa
  have HLX := Lib.hid hLX; clear hLX
  have HSM := Lib.hid hsm; clear hsm
  clear hX hrr
  go_enter Tryd.func34, Tryd.ntmps34
  go_wp2_with fail
  refine (refsplit_any s 47 _ hs).mono ?_
  rintro e w1 ⟨v, rfl, hrow, hb1⟩
  rw [hL] at hrow
  have hne : L.length ≠ 0 := fun e => splitL_ne 47 s.data.toList (by rw [hL]; exact List.eq_nil_of_length_eq_zero e)
  obtain ⟨n, hn⟩ : ∃ n, L.length = n + 1 := ⟨L.length - 1, by omega⟩
  rw [hn] at hrow
  obtain ⟨g, cap, rfl⟩ := ownsRow_succ hrow
  have hcell := hrow.cells (g := g) rfl
  have hcells : ∀ j x, X[j]? = some x → w1.cell? ⟨g, j, none⟩ = some (.string x) := fun j x h => by
    have := hcell j _ (HLX.out j x h)
    unfold Addr.add at this
    split at this
    · rename_i hz; subst hz; exact this
    · simpa using this
  have HC := Lib.hid hcells; clear hcells hcell hrow
  clear hL
  go_wp2_with fail
  go_loop [4] (fun i => ∃ k : Nat, k ≤ n + 1 ∧ i = .int .i64 k ∧ Hid (allTo nameB X k = true)) (fun i => n + 1 - (intOf i).toNat)
  case atStart => exact ⟨0, Nat.zero_le _, rfl, rfl⟩
  case round =>
    obtain ⟨k, hk, rfl, hall⟩ := hrel
    by_cases hlt : k < n + 1
    · have hkX : k < X.length := by omega
      obtain ⟨x, hx⟩ : ∃ x, X[k] = x := ⟨_, rfl⟩
      have hxk : X[k]? = some x := by rw [List.getElem?_eq_getElem hkX, hx]
      have hxs := HSM.out x (by rw [← hx]; exact List.getElem_mem _)
      have hcx := HC.out k x hxk
      have hsn := allTo_snoc nameB X k x hxk hall.out
      have HS := Lib.hid hsn; clear hsn
      clear hx
      have HX := Lib.hid hxk; clear hxk
      cases hp : nameB x.data.toList with
      | true =>
        have HP := Lib.hid hp; clear hp
        go_wp2_with (go_at_call 52; refine (refname_any x _ (by unfold maxLen; omega)).mono ?_; rintro e w' ⟨rfl, rfl⟩; rw [HP.out])
        go_round
        case rel => exact ⟨k + 1, by omega, by go_num, by unfold Hid; rw [HS.out]; exact HP.out⟩
        case measure => simp [intOf]; omega
      | false =>
        have HP := Lib.hid hp; clear hp
        go_wp2_with (go_at_call 52; refine (refname_any x _ (by unfold maxLen; omega)).mono ?_; rintro e w' ⟨rfl, rfl⟩; rw [HP.out])
        go_ret
        exact ⟨ret_bool (HF.out (k + 1) (by rw [HS.out]; exact HP.out)).symm, hb1⟩
    · have hk2 : k = X.length := by omega
      have hr2 : r = decide ((s.size : Int) ≤ 100) := by
        have := hall.out; rw [hk2] at this
        rw [HR.out, this, Bool.and_true, Bool.eq_iff_iff]; simp; omega
      have H2 := Lib.hid hr2; clear hr2
      clear HR
      go_wp2_with fail
      go_ret
      exact ⟨ret_bool H2.out.symm, hb1⟩
end Go.Proofs.YtffeanopdifegaaDoor
namespace Go.Proofs.YtffeanopdifegaaDoor
open Go Go.RowKit Go.Shelf Go.Proofs

/-- The cells of a slice of strings, from block g on, read L. -/
def RowS (g : Nat) (L : List Bs) (w : World) : Prop := ∀ j p, L[j]? = some p → w.cell? ⟨g, j, none⟩ = some (.string (mkB p))
theorem rowS_of {w : World} {b g n cap : Nat} {L : List Bs} (h : w.ownsRow b 9 1 (.slice (some ⟨g, 0, none⟩) n cap) n (strVs L)) : RowS g L w := fun j p hp => by
  have := h.cells (g := g) rfl j (.string (mkB p)) (by unfold strVs strV; rw [List.getElem?_map, hp]; rfl)
  unfold Addr.add at this
  split at this
  · rename_i hz; subst hz; exact this
  · simpa using this

theorem RowS.below {n : Nat} {w w' : World} {g : Nat} {L : List Bs} (h : RowS g L w) (hb : Below n w w') (hg : g < n) : RowS g L w' := fun j p hp => (hb.cell (p := ⟨g, j, none⟩) hg).trans (h j p hp)
theorem names_row {w : World} {b n : Nat} {v : Value} {L : List Bs} (h : w.ownsRow b 9 1 v n (strVs L)) (hn : n ≠ 0) : ∃ g cap, v = .slice (some ⟨g, 0, none⟩) n cap ∧ RowS g L w ∧ b ≤ g ∧ g < w.heap.size := by
  cases n with
  | zero => exact absurd rfl hn
  | succ k =>
    obtain ⟨g, cap, rfl⟩ := ownsRow_succ h
    obtain ⟨h1, cur, h2⟩ := row_ge h rfl
    exact ⟨g, cap, rfl, rowS_of h, h1, (Array.getElem?_eq_some_iff.1 h2).1⟩
end Go.Proofs.YtffeanopdifegaaDoor
namespace Go.Proofs.YtffeanopdifegaaDoor
open Go

theorem parted_nil_one {α : Type} (many : α → Bool) (one : α → α → Bool) (p : α) (hp : many p = false) : ∀ P : List α, partedB many one (P ++ [p]) [] = false
  | [] => by simp [partedB, hp]
  | q :: P => by
    have ih := parted_nil_one many one p hp P
    simp only [List.cons_append, partedB, ih, Bool.and_false]
theorem parted_nil_many {α : Type} (many : α → Bool) (one : α → α → Bool) (p : α) (hp : many p = true) : ∀ P : List α, partedB many one (P ++ [p]) [] = partedB many one P []
  | [] => by simp [partedB, hp]
  | q :: P => by
    have ih := parted_nil_many many one p hp P
    simp only [List.cons_append, partedB, ih]
theorem parted_snoc_one {α : Type} (many : α → Bool) (one : α → α → Bool) (p x : α) (hp : many p = false) : ∀ P I : List α, partedB many one (P ++ [p]) (I ++ [x]) = (partedB many one P I && one p x) := by
  intro P
  induction P with
  | nil =>
    intro I
    cases I with
    | nil => simp [partedB, hp]
    | cons i J =>
      have h : partedB many one [] (J ++ [x]) = false := by rw [partedB]; cases J <;> rfl
      simp only [List.nil_append, List.cons_append, partedB, hp, Bool.false_eq_true, if_false]
      cases J <;> simp
  | cons q P ih =>
    intro I
    induction I with
    | nil =>
      have h1 := ih []
      have h2 := parted_nil_one many one p hp P
      simp only [List.nil_append] at h1
      simp only [List.nil_append, List.cons_append, partedB, h1, h2]
      cases many q <;> simp
    | cons i J ihJ =>
      have h1 := ih (i :: J)
      have h2 := ih J
      simp only [List.cons_append] at h1 ihJ
      simp only [List.cons_append, partedB, h1, h2, ihJ]
      cases many q <;> cases one p x <;> simp
theorem parted_snoc_many {α : Type} (many : α → Bool) (one : α → α → Bool) (p x : α) (hp : many p = true) : ∀ P I : List α, partedB many one (P ++ [p]) (I ++ [x]) = (partedB many one P (I ++ [x]) || partedB many one (P ++ [p]) I) := by
  intro P
  induction P with
  | nil =>
    intro I
    rw [List.nil_append, parted_rest many one p hp, parted_rest many one p hp, Bool.or_true]
  | cons q P ih =>
    intro I
    induction I with
    | nil =>
      have h1 := ih []
      have h2 := parted_nil_many many one p hp P
      simp only [List.nil_append] at h1
      simp only [List.nil_append, List.cons_append, partedB, h1, h2]
      cases many q <;> cases partedB many one P [x] <;> cases partedB many one P [] <;> simp
    | cons i J ihJ =>
      have h1 := ih (i :: J)
      have h2 := ih J
      simp only [List.cons_append] at h1 ihJ
      simp only [List.cons_append, partedB, h1, h2, ihJ]
      cases many q <;> simp only [Bool.false_eq_true, if_false, if_true]
      · cases one q i <;> simp
      · generalize partedB many one P (i :: (J ++ [x])) = a1
        generalize partedB many one (P ++ [p]) (i :: J) = a2
        generalize partedB many one (q :: P) (J ++ [x]) = a3
        generalize partedB many one (q :: (P ++ [p])) J = a4
        cases a1 <;> cases a2 <;> cases a3 <;> cases a4 <;> rfl

/-- What the document's answer reckons: how the first i patterns and the first k items fit. -/
def frontsB {α : Type} (many : α → Bool) (one : α → α → Bool) (ps is : List α) (i k : Nat) : Bool := partedB many one (ps.take i) (is.take k)
theorem fronts_none {α : Type} (many : α → Bool) (one : α → α → Bool) (ps is : List α) (k : Nat) (hk : k ≤ is.length) : frontsB many one ps is 0 k = decide (k = 0) := by
  unfold frontsB
  rw [List.take_zero, partedB]
  cases k with
  | zero => rfl
  | succ k =>
    have : is.take (k + 1) ≠ [] := fun e => by
      have := congrArg List.length e
      rw [List.length_take, List.length_nil] at this; omega
    cases e : is.take (k + 1) with
    | nil => exact absurd e this
    | cons a r => simp
theorem fronts_many_zero {α : Type} (many : α → Bool) (one : α → α → Bool) (ps is : List α) (i : Nat) (p : α) (h : ps[i]? = some p) (hp : many p = true) : frontsB many one ps is (i + 1) 0 = frontsB many one ps is i 0 := by
  unfold frontsB
  rw [List.take_add_one, h, Option.toList_some, List.take_zero, parted_nil_many many one p hp]
theorem fronts_many {α : Type} (many : α → Bool) (one : α → α → Bool) (ps is : List α) (i k : Nat) (p : α) (h : ps[i]? = some p) (hp : many p = true) (hk : k < is.length) : frontsB many one ps is (i + 1) (k + 1) = (frontsB many one ps is i (k + 1) || frontsB many one ps is (i + 1) k) := by
  unfold frontsB
  have hx : is[k]? = some is[k] := List.getElem?_eq_getElem hk
  rw [List.take_add_one (l := ps), h, Option.toList_some, List.take_add_one (l := is), hx, Option.toList_some, parted_snoc_many many one p _ hp]
theorem fronts_one_zero {α : Type} (many : α → Bool) (one : α → α → Bool) (ps is : List α) (i : Nat) (p : α) (h : ps[i]? = some p) (hp : many p = false) : frontsB many one ps is (i + 1) 0 = false := by
  unfold frontsB
  rw [List.take_add_one, h, Option.toList_some, List.take_zero, parted_nil_one many one p hp]
theorem fronts_one {α : Type} (many : α → Bool) (one : α → α → Bool) (ps is : List α) (i k : Nat) (p x : α) (h : ps[i]? = some p) (hp : many p = false) (hx : is[k]? = some x) : frontsB many one ps is (i + 1) (k + 1) = (frontsB many one ps is i k && one p x) := by
  unfold frontsB
  rw [List.take_add_one (l := ps), h, Option.toList_some, List.take_add_one (l := is), hx, Option.toList_some, parted_snoc_one many one p _ hp]
theorem fronts_all {α : Type} (many : α → Bool) (one : α → α → Bool) (ps is : List α) : frontsB many one ps is ps.length is.length = partedB many one ps is := by
  unfold frontsB; rw [List.take_length, List.take_length]
end Go.Proofs.YtffeanopdifegaaDoor
namespace Go.Proofs.YtffeanopdifegaaDoor
open Go Go.RowKit Go.Shelf Go.Proofs
attribute [local go_sem] Oper.semAt_some

theorem contains_two (s : Bs) : Lib.contains s [42, 42] = true ↔ ∃ j : Nat, s[j]? = some (42 : UInt8) ∧ s[j + 1]? = some (42 : UInt8) := by
  have hocc : ∀ i, Lib.occAt s [42, 42] i = true ↔ (s[i]? = some (42 : UInt8) ∧ s[i + 1]? = some (42 : UInt8)) := fun i => by
    unfold Lib.occAt
    rw [List.isPrefixOf_iff_prefix]
    constructor
    · rintro ⟨t, ht⟩
      have h0 : (s.drop i)[0]? = some 42 := by rw [← ht]; rfl
      have h1 : (s.drop i)[1]? = some 42 := by rw [← ht]; rfl
      rw [List.getElem?_drop] at h0 h1
      exact ⟨h0, h1⟩
    · rintro ⟨h0, h1⟩
      refine ⟨s.drop (i + 2), ?_⟩
      rw [drop_some h0, drop_some h1]; rfl
  unfold Lib.contains
  rw [decide_eq_true_eq]
  rcases Lib.index_spec s [42, 42] with ⟨h1, h2⟩ | ⟨i, h1, _, h3, _⟩
  · constructor
    · intro h; omega
    · rintro ⟨j, hj⟩
      have hl := (List.getElem?_eq_some_iff.1 hj.1).1
      have := h2 j (by omega)
      rw [(hocc j).2 hj] at this; cases this
  · constructor
    · intro _; exact ⟨i, (hocc i).1 h3⟩
    · intro _; omega

/-- What has been looked at, up to k, is fit for a pattern. -/
def FitTo (s : Bs) (k : Nat) : Prop := (s.take k).all (okB [42, 63]) = true ∧ ∀ j, j + 1 < k → ¬ (s[j]? = some 42 ∧ s[j + 1]? = some 42)
theorem fit_start (s : Bs) : FitTo s 0 := ⟨rfl, fun j h => by omega⟩
theorem fit_step (s : Bs) (k : Nat) (b : UInt8) (h : FitTo s k) (hb : s[k]? = some b) (hok : okB [42, 63] b = true) (h2 : ∀ j, k = j + 1 → ¬ (s[j]? = some 42 ∧ b = 42)) : FitTo s (k + 1) := by
  refine ⟨?_, fun j hj hh => ?_⟩
  · rw [List.take_add_one, hb, Option.toList_some, List.all_append, h.1]; simp [hok]
  · by_cases e : j + 1 < k
    · exact h.2 j e hh
    · obtain rfl : k = j + 1 := by omega
      exact h2 j rfl ⟨hh.1, by rw [hb] at hh; exact Option.some.inj hh.2⟩
theorem pat_bad (s : Bs) (k : Nat) (b : UInt8) (h0 : (s == [42, 42]) = false) (hb : s[k]? = some b) (h : okB [42, 63] b = false ∨ (∃ j, k = j + 1 ∧ s[j]? = some 42 ∧ b = 42)) : patB s = false := by
  unfold patB
  rw [h0, Bool.false_or]
  rcases h with h | ⟨j, rfl, h1, rfl⟩
  · have : s.all (okB [42, 63]) = false := by
      cases e : s.all (okB [42, 63]) with
      | false => rfl
      | true => have := List.all_eq_true.1 e b (List.mem_of_getElem? hb); rw [h] at this; cases this
    unfold speltB; rw [this]; simp
  · rw [(contains_two s).2 ⟨j, h1, hb⟩]; simp
theorem pat_good (s : ByteArray) (h0 : (s.data.toList == [42, 42]) = false) (h : FitTo s.data.toList s.size) : patB s.data.toList = (decide (0 < s.size) && decide (s.size ≤ 30) && !(s.toList == [46]) && !(s.toList == [46, 46])) := by
  have hl : s.data.toList.length = s.size := Array.length_toList
  have he : s.data.toList.isEmpty = !decide (0 < s.size) := by
    rw [← hl]; cases s.data.toList <;> simp
  have ha : s.data.toList.all (okB [42, 63]) = true := by
    have := h.1; rwa [List.take_of_length_le (by omega)] at this
  have hc : Lib.contains s.data.toList [42, 42] = false := by
    cases e : Lib.contains s.data.toList [42, 42] with
    | false => rfl
    | true =>
      obtain ⟨j, hj⟩ := (contains_two _).1 e
      have := (List.getElem?_eq_some_iff.1 hj.2).1
      exact absurd hj (h.2 j (by omega))
  unfold patB speltB
  rw [h0, hc, ha, he, hl, ByteArray.toList_eq]
  cases decide (0 < s.size) <;> cases decide (s.size ≤ 30) <;> cases (s.data.toList == [46]) <;> cases (s.data.toList == [46, 46]) <;> rfl

theorem byte_tests (b : UInt8) : okB [42, 63] b = (plainB b || ((b.toNat : Int) == 42) || ((b.toNat : Int) == 63)) := by
  have h : ∀ k : UInt8, (b == k) = ((b.toNat : Int) == (k.toNat : Int)) := fun k => by
    rw [Bool.eq_iff_iff, beq_iff_eq, beq_iff_eq, ← UInt8.toNat_inj]; omega
  have h1 : ((b.toNat : Int) == 42) = (b == 42) := (h 42).symm
  have h2 : ((b.toNat : Int) == 63) = (b == 63) := (h 63).symm
  rw [h1, h2]
  unfold okB
  simp only [List.contains_cons, List.contains_nil, Bool.or_false, Bool.or_assoc]

end Go.Proofs.YtffeanopdifegaaDoor
namespace Go.Proofs.YtffeanopdifegaaDoor
open Go Go.RowKit Go.Shelf Go.Proofs
attribute [local go_sem] Oper.semAt_some

theorem underL_parts (s d : ByteArray) (hd : d.toList ≠ []) (hl : d.size < s.size) :
    underL s.data.toList d.data.toList = (((s.extract 0 d.size).toList == d.toList) && (((s[d.size]'hl).toNat : Int) == 47)) := by
  have e1 : d.data.toList.length = d.size := Array.length_toList
  have e2 : s.data.toList.length = s.size := Array.length_toList
  have he : d.data.toList.isEmpty = false := by rw [ByteArray.toList_eq] at hd; simpa using hd
  have hk : s.data.toList[d.size]? = some s[d.size] := by rw [List.getElem?_eq_getElem (by omega)]; rfl
  have hsp := drop_some hk
  unfold underL
  rw [he, Bool.false_or, ByteArray.toList_eq, ByteArray.toList_eq, Lib.extract_data, Bool.eq_iff_iff, List.isPrefixOf_iff_prefix, Bool.and_eq_true, beq_iff_eq, beq_iff_eq]
  have h47 : (s[d.size].toNat : Int) = 47 ↔ s[d.size] = 47 := by
    rw [← UInt8.toNat_inj]; show _ ↔ _ = 47; omega
  rw [h47]
  simp only [List.drop_zero, Nat.sub_zero]
  constructor
  · rintro ⟨t, ht⟩
    have h1 : s.data.toList.take d.size = d.data.toList := by rw [← ht, ← e1]; simp
    refine ⟨h1, ?_⟩
    have : s.data.toList[d.size]? = some 47 := by rw [← ht, ← e1]; simp
    rw [hk] at this; exact Option.some.inj this
  · rintro ⟨h1, h2⟩
    refine ⟨s.data.toList.drop (d.size + 1), ?_⟩
    conv => rhs; rw [← List.take_append_drop d.size s.data.toList, hsp, h1, h2]
    simp

set_option maxHeartbeats 2000000 in
theorem refunderL_any (s d : ByteArray) (w : World) (_hs : s.size ≤ 1000000) (hd : d.size ≤ 1000000) :
    Calls Tryd.prog 35 #[.string s, .string d] w fun e w' => e = .returned (.bool (underL s.data.toList d.data.toList)) ∧ w' = w := by
  by_cases h1 : d.toList = []
  · have g1 : d.toList.isEmpty = true := by simp [h1]
    have hr : underL s.data.toList d.data.toList = true := by unfold underL; rw [← ByteArray.toList_eq d, h1]; rfl
    have HR := Lib.hid hr; clear hr h1
    go_enter Tryd.func35, Tryd.ntmps35
    go_wp2_with fail
    go_ret
    exact ⟨ret_bool HR.out.symm, rfl⟩
  · have g1 : d.toList.isEmpty = false := by simpa using h1
    by_cases h2 : d.size < s.size
    · have hr := underL_parts s d h1 h2
      have h3 : (d.size : Int) < (s.size : Int) := by omega
      obtain ⟨b, hb⟩ : ∃ b, s[d.size] = b := ⟨_, rfl⟩
      rw [hb] at hr
      cases c1 : ((s.extract 0 d.size).toList == d.toList) with
      | false =>
        rw [c1] at hr
        have HR := Lib.hid hr; clear hr
        clear h1
        go_enter Tryd.func35, Tryd.ntmps35
        go_wp2_with fail
        go_ret
        exact ⟨ret_bool (by rw [HR.out]; rfl), rfl⟩
      | true =>
        cases c2 : ((b.toNat : Int) == 47) with
        | false =>
          rw [c1, c2] at hr
          have HR := Lib.hid hr; clear hr
          clear h1
          go_enter Tryd.func35, Tryd.ntmps35
          go_wp2_with fail
          go_ret
          exact ⟨ret_bool (by rw [HR.out]; rfl), rfl⟩
        | true =>
          rw [c1, c2] at hr
          have HR := Lib.hid hr; clear hr
          clear h1
          go_enter Tryd.func35, Tryd.ntmps35
          go_wp2_with fail
          go_ret
          exact ⟨ret_bool (by rw [HR.out]; rfl), rfl⟩
    · have hr : underL s.data.toList d.data.toList = false := by
        have e1 : d.data.toList.length = d.size := Array.length_toList
        have e2 : s.data.toList.length = s.size := Array.length_toList
        have he : d.data.toList.isEmpty = false := by rw [ByteArray.toList_eq] at h1; simpa using h1
        unfold underL
        rw [he, Bool.false_or]
        cases e : (d.data.toList ++ [47]).isPrefixOf s.data.toList with
        | false => rfl
        | true =>
          have := (List.isPrefixOf_iff_prefix.1 e).length_le
          simp only [List.length_append, List.length_cons, List.length_nil] at this
          omega
      have h3 : ¬ ((d.size : Int) < (s.size : Int)) := by omega
      have h4 : (s.size : Int) ≤ (d.size : Int) := by omega
      have HR := Lib.hid hr; clear hr h1
      go_enter Tryd.func35, Tryd.ntmps35
      go_wp2_with fail
      go_ret
      exact ⟨ret_bool HR.out.symm, rfl⟩
end Go.Proofs.YtffeanopdifegaaDoor
namespace Go.Proofs.YtffeanopdifegaaDoor
open Go Go.RowKit Go.Shelf Go.Proofs
attribute [local go_sem] Oper.semAt_some

theorem fls_take_eq {a b : List FX} {k : Nat} {x y : FX} (h : (flsX a).take k = (flsX b).take k) (hx : a[k]? = some x) (hy : b[k]? = some y) (h1 : (x.p.toList == y.p.toList) = true) (h2 : (x.b == y.b) = true) : (flsX a).take (k + 1) = (flsX b).take (k + 1) := by
  rw [List.take_add_one, List.take_add_one, h, flsX_getElem?, flsX_getElem?, hx, hy]
  rw [beq_iff_eq, ByteArray.toList_eq, ByteArray.toList_eq] at h1
  have e : x.fl = y.fl := Prod.ext h1 (beq_iff_eq.1 h2)
  show _ ++ (some x.fl).toList = _ ++ (some y.fl).toList
  rw [e]
theorem fls_ne_at {a b : List FX} {k : Nat} {x y : FX} (hx : a[k]? = some x) (hy : b[k]? = some y) (h : (x.p.toList == y.p.toList) = false ∨ (x.b == y.b) = false) : decide (flsX a = flsX b) = false := decide_eq_false fun e => by
  have e2 : (flsX a)[k]? = (flsX b)[k]? := by rw [e]
  rw [flsX_getElem?, flsX_getElem?, hx, hy] at e2
  have e3 : x.fl = y.fl := Option.some.inj e2
  rcases h with h | h
  · rw [beq_eq_false_iff_ne, ByteArray.toList_eq, ByteArray.toList_eq] at h
    exact h (congrArg (·.1) e3)
  · rw [beq_eq_false_iff_ne] at h
    exact h (congrArg (·.2) e3)

/-- What Right has seen of the files ahead of k. -/
def SeenR (l : List FX) (k : Nat) : Prop := ∀ (i : Nat) (x : Fl), i < k → (flsX l)[i]? = some x → okF x = true ∧ ∀ (q : Nat) (y : Fl), q < i → (flsX l)[q]? = some y → aheadB y x = true

set_option maxRecDepth 100000 in
set_option maxHeartbeats 8000000 in
theorem reftright_any (l : List FX) (A : Option Addr) (c : Nat) (w : World) (h : TreeAt w A c l) (hs : SmallX l) :
    Calls Tryd.prog 19 #[.slice A l.length c] w fun e w' => e = .returned (.bool (rightT (flsX l))) ∧ Below w.heap.size w w' := by
  have HT := Lib.hid h; clear h
  have HS := Lib.hid hs.2
  have hl := hs.1
  clear hs
  go_enter Tryd.func19, Tryd.ntmps19
  go_wp2_with fail
  go_loopw [3, 4] (fun i _ wr => ∃ (k : Nat), k ≤ l.length ∧ i = .int .i64 k ∧ SeenR l k ∧ Below w.heap.size w wr) (fun i _ _ => l.length - (intOf i).toNat)
  case atStart => exact ⟨0, Nat.zero_le _, rfl, fun _ _ h => absurd h (Nat.not_lt_zero _), Below.refl _ _⟩
  case round =>
    obtain ⟨k, hk, rfl, hseen, hbr⟩ := hrel
    by_cases h1 : k < l.length
    · obtain ⟨x, hx⟩ : ∃ x, l[k]? = some x := ⟨_, List.getElem?_eq_getElem h1⟩
      obtain ⟨g, o, eA, hr⟩ := HT.out.row (by omega)
      subst eA
      have hr2 := hr.below hbr
      obtain ⟨c1, c2⟩ := hr2 k x hx
      have hgl : g < wr.heap.size := World.block_lt_of_cell? wr (a := ⟨g, o + k * 2, none⟩) c1
      have hxs := HS.out x (List.mem_of_getElem? hx)
      have hfx : (flsX l)[k]? = some x.fl := by rw [flsX_getElem?, hx]; rfl
      have k1 : (k : Int) < (l.length : Int) := by omega
      have wk : IntKind.i64.wrap (k : Int) = (k : Int) := IntWalk.i64_in _ (by omega)
      have HX := Lib.hid hx; clear hx
      have HFX := Lib.hid hfx; clear hfx
      have HSEEN := Lib.hid hseen; clear hseen
      have HR := Lib.hid hr2; clear hr2
      clear hr
      have HRR := Lib.hid (refright_any x.p wr (by omega))
      cases hrx : rightB x.p.data.toList with
      | false =>
        have hf := right_bad HFX.out hrx
        have HF := Lib.hid hf; clear hf
        have HRX := Lib.hid hrx; clear hrx
        go_wp2_with fail
        refine HRR.out.mono ?_
        rw [HRX.out]
        rintro e w1 ⟨rfl, hq1⟩
        go_wp2_with fail
        go_ret
        exact ⟨by rw [HF.out]; rfl, hbr.trans (hq1.mono hbr.size)⟩
      | true =>
        have HRX := Lib.hid hrx; clear hrx
        go_wp2_with fail
        refine HRR.out.mono ?_
        rw [HRX.out]
        rintro e w1 ⟨rfl, hq1⟩
        have c2 := (hq1.cell (p := ⟨g, o + k * 2 + 1, none⟩) hgl).trans c2
        have hb1 := hbr.trans (hq1.mono hbr.size)
        by_cases hz : 65536 < x.b.length
        · have hz2 : (65536 : Int) < (x.b.length : Int) := by omega
          have hf : rightT (flsX l) = false := right_long (by
            unfold longT
            rw [Bool.or_eq_true]
            exact .inr (List.any_eq_true.2 ⟨x.fl, List.mem_of_getElem? HFX.out, decide_eq_true hz⟩))
          have HF := Lib.hid hf; clear hf
          go_wp2_with fail
          go_ret
          exact ⟨by rw [HF.out]; rfl, hb1⟩
        · have hz2 : ¬ (65536 : Int) < (x.b.length : Int) := by omega
          have hok : okF x.fl = true := by
            unfold okF
            rw [Bool.and_eq_true, decide_eq_true_eq]
            exact ⟨HRX.out, by show x.b.length ≤ 65536; omega⟩
          have HOK := Lib.hid hok; clear hok
          have HR1 := Lib.hid (HR.out.below hq1)
          have HB1 := Lib.hid hb1; clear hb1
          go_wp2_with fail
          clear c1 c2 hq1
          go_loopw [4] (fun j wr => ∃ (m : Nat), m ≤ k ∧ j = .int .i64 m ∧ (∀ (q : Nat) (y : Fl), q < m → (flsX l)[q]? = some y → aheadB y x.fl = true) ∧ Below w1.heap.size w1 wr) (fun j _ => k - (intOf j).toNat)
          case atStart => exact ⟨0, Nat.zero_le _, rfl, fun _ _ h => absurd h (Nat.not_lt_zero _), Below.refl _ _⟩
          case round =>
            obtain ⟨m, hm, rfl, hah, hbi⟩ := hrel
            by_cases h2 : m < k
            · obtain ⟨y, hy⟩ : ∃ y, l[m]? = some y := ⟨_, List.getElem?_eq_getElem (by omega)⟩
              have hri := HR1.out.below hbi
              obtain ⟨c1, _⟩ := hri k x HX.out
              obtain ⟨d1, _⟩ := hri m y hy
              have hys := HS.out y (List.mem_of_getElem? hy)
              have hfy : (flsX l)[m]? = some y.fl := by rw [flsX_getElem?, hy]; rfl
              have m1 : (m : Int) < (l.length : Int) := by omega
              have m2 : (m : Int) < (k : Int) := by omega
              have wm : IntKind.i64.wrap (m : Int) = (m : Int) := IntWalk.i64_in _ (by omega)
              have HAH := Lib.hid hah; clear hah
              have HFY := Lib.hid hfy; clear hfy
              clear hri hy
              cases hlt : ltB y.p.data.toList x.p.data.toList with
              | false =>
                have hf := right_falls h2 HFX.out HFY.out (by unfold aheadB; show (ltB y.p.data.toList x.p.data.toList && _) = false; rw [hlt]; rfl)
                have HF := Lib.hid hf; clear hf
                have hq : Op.bytesLess y.p.toList x.p.toList = false := by rw [ByteArray.toList_eq, ByteArray.toList_eq]; exact hlt
                clear hlt
                go_wp2_with fail
                go_region
                go_wp2_with fail
                go_ret
                exact ⟨by rw [HF.out]; rfl, HB1.out.trans ((hbi.drew).mono HB1.out.size)⟩
              | true =>
                have hq : Op.bytesLess y.p.toList x.p.toList = true := by rw [ByteArray.toList_eq, ByteArray.toList_eq]; exact hlt
                have HU := Lib.hid (refunderL_any x.p y.p wr.drew (by omega) (by omega))
                have HLT := Lib.hid hlt; clear hlt
                go_wp2_with fail
                refine wp_region_held_drew (S := (fun w' => w'.cell? ⟨g, o + k * 2, none⟩ = some (.string x.p) ∧ w'.cell? ⟨g, o + m * 2, none⟩ = some (.string y.p))) (by kernel_rfl) ⟨c1, d1⟩ (fun hHeld => ?_)
                refine wpAnyH_take (i := 0) (v := ?vu0) rfl (by kernel_rfl) (by kernel_rfl) (by kernel_rfl) (fun _ _ _ h => h) (Or.inl ⟨by rfl, ?yu0⟩) (by assumption) ?ru0
                case yu0 =>
                  intro w hSw
                  (try dsimp only at hSw)
                  go_simp
                  first | done | with_reducible rfl
                try simp only [Act.put, List.getElem_toArray, List.getElem_cons_zero, List.setIfInBounds_toArray, List.set_cons_zero, List.set_cons_succ]
                refine wpAnyH_take (i := 1) (v := ?vu1) rfl (by kernel_rfl) (by kernel_rfl) (by kernel_rfl) (fun _ _ _ h => h) (Or.inl ⟨by rfl, ?yu1⟩) (by assumption) ?ru1
                case yu1 =>
                  intro w hSw
                  (try dsimp only at hSw)
                  go_simp
                  first | done | with_reducible rfl
                try simp only [Act.put, List.getElem_toArray, List.getElem_cons_zero, List.getElem_cons_succ, List.setIfInBounds_toArray, List.set_cons_zero, List.set_cons_succ]
                refine wpAnyH_take (i := 2) (v := ?vu2) rfl (by kernel_rfl) (by kernel_rfl) (by kernel_rfl) (fun _ _ _ h => h) (Or.inl ⟨by rfl, ?yu2⟩) (by assumption) ?ru2
                case yu2 =>
                  intro w hSw
                  (try dsimp only at hSw)
                  go_simp
                  first | done | with_reducible rfl
                try simp only [Act.put, List.getElem_toArray, List.getElem_cons_zero, List.getElem_cons_succ, List.setIfInBounds_toArray, List.set_cons_zero, List.set_cons_succ]
                refine wpAnyH_take (i := 3) (v := ?vu3) rfl (by kernel_rfl) (by kernel_rfl) (by kernel_rfl) (fun _ _ _ h => h) (Or.inl ⟨by rfl, ?yu3⟩) (by assumption) ?ru3
                case yu3 =>
                  intro w hSw
                  (try dsimp only at hSw)
                  go_simp
                  first | done | with_reducible rfl
                try simp only [Act.put, List.getElem_toArray, List.getElem_cons_zero, List.getElem_cons_succ, List.setIfInBounds_toArray, List.set_cons_zero, List.set_cons_succ]
                refine wpAnyH_take (i := 4) (v := ?vu4) rfl (by kernel_rfl) (by kernel_rfl) (by kernel_rfl) (fun _ _ _ h => h) (Or.inl ⟨by rfl, ?yu4⟩) (by assumption) ?ru4
                case yu4 =>
                  intro w hSw
                  (try dsimp only at hSw)
                  go_simp
                  first | done | with_reducible rfl
                try simp only [Act.put, List.getElem_toArray, List.getElem_cons_zero, List.getElem_cons_succ, List.setIfInBounds_toArray, List.set_cons_zero, List.set_cons_succ]
                refine wpAnyH_take (i := 5) (v := ?vu5) rfl (by kernel_rfl) (by kernel_rfl) (by kernel_rfl) (fun _ _ _ h => h) (Or.inl ⟨by rfl, ?yu5⟩) (by assumption) ?ru5
                case yu5 =>
                  intro w hSw
                  (try dsimp only at hSw)
                  go_simp
                  first | done | with_reducible rfl
                try simp only [Act.put, List.getElem_toArray, List.getElem_cons_zero, List.getElem_cons_succ, List.setIfInBounds_toArray, List.set_cons_zero, List.set_cons_succ]
                refine wpAnyH_take (i := 6) (v := ?vu6) rfl (by kernel_rfl) (by kernel_rfl) (by kernel_rfl) (fun _ _ _ h => h) (Or.inl ⟨by rfl, ?yu6⟩) (by assumption) ?ru6
                case yu6 =>
                  intro w hSw
                  (try dsimp only at hSw)
                  go_simp
                  first | done | with_reducible rfl
                try simp only [Act.put, List.getElem_toArray, List.getElem_cons_zero, List.getElem_cons_succ, List.setIfInBounds_toArray, List.set_cons_zero, List.set_cons_succ]
                refine wpAnyH_take (i := 7) (v := ?vu7) rfl (by kernel_rfl) (by kernel_rfl) (by kernel_rfl) (fun _ _ _ h => h) (Or.inl ⟨by rfl, ?yu7⟩) (by assumption) ?ru7
                case yu7 =>
                  intro w hSw
                  (try dsimp only at hSw)
                  go_simp
                  first | done | with_reducible rfl
                try simp only [Act.put, List.getElem_toArray, List.getElem_cons_zero, List.getElem_cons_succ, List.setIfInBounds_toArray, List.set_cons_zero, List.set_cons_succ]
                refine wpAnyH_take (i := 8) (v := ?vu8) rfl (by kernel_rfl) (by kernel_rfl) (by kernel_rfl) (fun _ _ _ h => h) (Or.inl ⟨by rfl, ?yu8⟩) (by assumption) ?ru8
                case yu8 =>
                  intro w hSw
                  (try dsimp only at hSw)
                  go_simp
                  first | done | with_reducible rfl
                try simp only [Act.put, List.getElem_toArray, List.getElem_cons_zero, List.getElem_cons_succ, List.setIfInBounds_toArray, List.set_cons_zero, List.set_cons_succ]
                refine wpAnyH_take (i := 9) (v := ?vu9) rfl (by kernel_rfl) (by kernel_rfl) (by kernel_rfl) (fun _ _ _ h => h) (Or.inl ⟨by rfl, ?yu9⟩) (by assumption) ?ru9
                case yu9 =>
                  intro w hSw
                  (try dsimp only at hSw)
                  go_simp
                  first | done | with_reducible rfl
                try simp only [Act.put, List.getElem_toArray, List.getElem_cons_zero, List.getElem_cons_succ, List.setIfInBounds_toArray, List.set_cons_zero, List.set_cons_succ]
                refine wpAnyH_take (i := 10) (v := ?vu10) rfl (by kernel_rfl) (by kernel_rfl) (by kernel_rfl) (fun _ _ _ h => h) (Or.inl ⟨by rfl, ?yu10⟩) (by assumption) ?ru10
                case yu10 =>
                  intro w hSw
                  (try dsimp only at hSw)
                  go_simp
                  first | done | with_reducible rfl
                try simp only [Act.put, List.getElem_toArray, List.getElem_cons_zero, List.getElem_cons_succ, List.setIfInBounds_toArray, List.set_cons_zero, List.set_cons_succ]
                refine wpAnyH_take (i := 11) (v := ?vu11) rfl (by kernel_rfl) (by kernel_rfl) (by kernel_rfl) (fun _ _ _ h => h) (Or.inl ⟨by rfl, ?yu11⟩) (by assumption) ?ru11
                case yu11 =>
                  intro w hSw
                  (try dsimp only at hSw)
                  go_simp
                  first | done | with_reducible rfl
                try simp only [Act.put, List.getElem_toArray, List.getElem_cons_zero, List.getElem_cons_succ, List.setIfInBounds_toArray, List.set_cons_zero, List.set_cons_succ]
                refine wpAnyH_take (i := 12) (v := ?vu12) rfl (by kernel_rfl) (by kernel_rfl) (by kernel_rfl) (fun _ _ _ h => h) (Or.inl ⟨by rfl, ?yu12⟩) (by assumption) ?ru12
                case yu12 =>
                  intro w hSw
                  (try dsimp only at hSw)
                  go_simp
                  first | done | with_reducible rfl
                try simp only [Act.put, List.getElem_toArray, List.getElem_cons_zero, List.getElem_cons_succ, List.setIfInBounds_toArray, List.set_cons_zero, List.set_cons_succ]
                refine wpAnyH_take (i := 13) (v := ?vu13) rfl (by kernel_rfl) (by kernel_rfl) (by kernel_rfl) (fun _ _ _ h => h) (Or.inl ⟨by rfl, ?yu13⟩) (by assumption) ?ru13
                case yu13 =>
                  intro w hSw
                  (try dsimp only at hSw)
                  go_simp
                  first | done | with_reducible rfl
                try simp only [Act.put, List.getElem_toArray, List.getElem_cons_zero, List.getElem_cons_succ, List.setIfInBounds_toArray, List.set_cons_zero, List.set_cons_succ]
                refine wpAnyH_take (i := 14) (v := ?vu14) rfl (by kernel_rfl) (by kernel_rfl) (by kernel_rfl) (fun _ _ _ h => h) (Or.inl ⟨by rfl, ?yu14⟩) (by assumption) ?ru14
                case yu14 =>
                  intro w hSw
                  (try dsimp only at hSw)
                  go_simp
                  first | done | with_reducible rfl
                try simp only [Act.put, List.getElem_toArray, List.getElem_cons_zero, List.getElem_cons_succ, List.setIfInBounds_toArray, List.set_cons_zero, List.set_cons_succ]
                refine wpAnyH_take (i := 15) (v := ?vu15) rfl (by kernel_rfl) (by kernel_rfl) (by kernel_rfl) (fun _ _ _ h => h) (Or.inl ⟨by rfl, ?yu15⟩) (by assumption) ?ru15
                case yu15 =>
                  intro w hSw
                  (try dsimp only at hSw)
                  go_simp
                  first | done | with_reducible rfl
                try simp only [Act.put, List.getElem_toArray, List.getElem_cons_zero, List.getElem_cons_succ, List.setIfInBounds_toArray, List.set_cons_zero, List.set_cons_succ]
                refine wpAnyH_take (i := 16) (v := ?vu16) rfl (by kernel_rfl) (by kernel_rfl) (by kernel_rfl) (fun _ _ _ h => h) (Or.inl ⟨by rfl, ?yu16⟩) (by assumption) ?ru16
                case yu16 =>
                  intro w hSw
                  (try dsimp only at hSw)
                  go_simp
                  first | done | with_reducible rfl
                try simp only [Act.put, List.getElem_toArray, List.getElem_cons_zero, List.getElem_cons_succ, List.setIfInBounds_toArray, List.set_cons_zero, List.set_cons_succ]
                refine wpAnyH_take (i := 17) (v := ?vu17) rfl (by kernel_rfl) (by kernel_rfl) (by kernel_rfl) (fun _ _ _ h => h) (Or.inl ⟨by rfl, ?yu17⟩) (by assumption) ?ru17
                case yu17 =>
                  intro w hSw
                  (try dsimp only at hSw)
                  go_simp
                  first | done | with_reducible rfl
                try simp only [Act.put, List.getElem_toArray, List.getElem_cons_zero, List.getElem_cons_succ, List.setIfInBounds_toArray, List.set_cons_zero, List.set_cons_succ]
                refine wpAnyH_take (i := 18) (v := ?vu18) rfl (by kernel_rfl) (by kernel_rfl) (by kernel_rfl) (fun _ _ _ h => h) (Or.inl ⟨by rfl, ?yu18⟩) (by assumption) ?ru18
                case yu18 =>
                  intro w hSw
                  (try dsimp only at hSw)
                  go_simp
                  first | done | with_reducible rfl
                try simp only [Act.put, List.getElem_toArray, List.getElem_cons_zero, List.getElem_cons_succ, List.setIfInBounds_toArray, List.set_cons_zero, List.set_cons_succ]
                refine wpAnyH_take (i := 19) (v := ?vu19) rfl (by kernel_rfl) (by kernel_rfl) (by kernel_rfl) (fun _ _ _ h => h) (Or.inl ⟨by rfl, ?yu19⟩) (by assumption) ?ru19
                case yu19 =>
                  intro w hSw
                  (try dsimp only at hSw)
                  go_simp
                  first | done | with_reducible rfl
                try simp only [Act.put, List.getElem_toArray, List.getElem_cons_zero, List.getElem_cons_succ, List.setIfInBounds_toArray, List.set_cons_zero, List.set_cons_succ]
                refine wpAnyH_take (i := 20) (v := ?vu20) rfl (by kernel_rfl) (by kernel_rfl) (by kernel_rfl) (fun _ _ _ h => h) (Or.inl ⟨by rfl, ?yu20⟩) (by assumption) ?ru20
                case yu20 =>
                  intro w hSw
                  (try dsimp only at hSw)
                  go_simp
                  first | done | with_reducible rfl
                try simp only [Act.put, List.getElem_toArray, List.getElem_cons_zero, List.getElem_cons_succ, List.setIfInBounds_toArray, List.set_cons_zero, List.set_cons_succ]
                refine wpAnyH_take (i := 21) (v := ?vu21) rfl (by kernel_rfl) (by kernel_rfl) (by kernel_rfl) (fun _ _ _ h => h) (Or.inl ⟨by rfl, ?yu21⟩) (by assumption) ?ru21
                case yu21 =>
                  intro w hSw
                  (try dsimp only at hSw)
                  go_simp
                  first | done | with_reducible rfl
                try simp only [Act.put, List.getElem_toArray, List.getElem_cons_zero, List.getElem_cons_succ, List.setIfInBounds_toArray, List.set_cons_zero, List.set_cons_succ]
                refine wpAnyH_ready (rs := [22]) (by kernel_rfl) (by simp) ?_
                refine AllReadyH.cons rfl (fun K hK => ?_) AllReadyH.nil
                go_simp
                refine HU.out.mono ?_
                rintro e w5 ⟨rfl, hw5⟩
                subst hw5
                go_wp2_with fail
                refine hK.out _ _ ⟨c1, d1⟩ (fun hHeld => ?_)
                clear hK K
                try simp only [Act.put, List.getElem_toArray, List.getElem_cons_zero, List.getElem_cons_succ, List.setIfInBounds_toArray, List.set_cons_zero, List.set_cons_succ]
                refine wpAnyH_take (i := 23) (v := ?vu23) rfl (by kernel_rfl) (by kernel_rfl) (by kernel_rfl) (fun _ _ _ h => h) (Or.inl ⟨by rfl, ?yu23⟩) (by assumption) ?ru23
                case yu23 =>
                  intro w hSw
                  (try dsimp only at hSw)
                  go_simp
                  first | done | with_reducible rfl
                try simp only [Act.put, List.getElem_toArray, List.getElem_cons_zero, List.getElem_cons_succ, List.setIfInBounds_toArray, List.set_cons_zero, List.set_cons_succ]
                refine wpAnyH_done (by kernel_rfl) ?_ _
                cases hun : underL x.p.data.toList y.p.data.toList with
                | true =>
                  have hf := right_falls h2 HFX.out HFY.out (by unfold aheadB; show (_ && !underL x.p.data.toList y.p.data.toList) = false; rw [hun, Bool.not_true, Bool.and_false])
                  have HF := Lib.hid hf; clear hf
                  go_wp2_with fail
                  go_ret
                  exact ⟨by rw [HF.out]; rfl, HB1.out.trans ((hbi.drew).mono HB1.out.size)⟩
                | false =>
                  have hn : aheadB y.fl x.fl = true := by unfold aheadB; show (ltB y.p.data.toList x.p.data.toList && !underL x.p.data.toList y.p.data.toList) = true; rw [HLT.out, hun]; rfl
                  have HN := Lib.hid hn; clear hn
                  go_wp2_with fail
                  go_roundw
                  case rel => exact ⟨m + 1, by omega, by go_num, fun q z hq hz => by
                    rcases Nat.lt_or_eq_of_le (Nat.lt_succ_iff.1 hq) with h | rfl
                    · exact HAH.out q z h hz
                    · have := HFY.out; rw [hz] at this; cases this; exact HN.out, hbi.drew⟩
                  case measure => simp [intOf]; omega
            · obtain rfl : m = k := by omega
              have HAH := Lib.hid hah; clear hah
              go_wp2_with fail
              go_roundw
              case rel => exact ⟨m + 1, by omega, by go_num, fun i z hi hz => by
                rcases Nat.lt_or_eq_of_le (Nat.lt_succ_iff.1 hi) with h | rfl
                · exact HSEEN.out i z h hz
                · have := HFX.out; rw [hz] at this; cases this; exact ⟨HOK.out, HAH.out⟩, HB1.out.trans (hbi.mono HB1.out.size)⟩
              case measure => simp [intOf]; omega
    · obtain rfl : k = l.length := by omega
      have hf : rightT (flsX l) = decide ((l.length : Int) ≤ 1000) := by
        by_cases hz : l.length ≤ 1000
        · rw [decide_eq_true (by omega), right_iff]
          refine ⟨by rw [flsX_length]; exact hz, fun i x hi => hseen i x ?_ hi⟩
          have := (List.getElem?_eq_some_iff.1 hi).1
          rwa [flsX_length] at this
        · rw [decide_eq_false (by omega)]
          exact right_long (by unfold longT; rw [Bool.or_eq_true]; exact .inl (decide_eq_true (by rw [flsX_length]; omega)))
      have HF := Lib.hid hf; clear hf hseen
      go_wp2_with fail
      go_ret
      exact ⟨by rw [HF.out]; rfl, hbr⟩
end Go.Proofs.YtffeanopdifegaaDoor
namespace Go.Proofs.YtffeanopdifegaaDoor
open Go Go.RowKit Go.Shelf Go.Proofs Go.ChangeShapes Go.WideShapes Go.Deep

/-- Bytes in memory: where they lie, their room, the bytes. -/
structure BX where
  A : Option Addr
  c : Nat
  b : Bs
instance : Inhabited BX := ⟨⟨none, 0, []⟩⟩
def BX.v (x : BX) : Value := .slice x.A x.b.length x.c
/-- The slice value .slice A n c holds the rows of bytes l. -/
structure BRowAt (w : World) (A : Option Addr) (c : Nat) (l : List BX) : Prop where
  cap : l.length ≤ c
  capm : c ≤ maxLen
  row : 0 < l.length → ∃ g o, A = some ⟨g, o, none⟩ ∧ ∀ i x, l[i]? = some x → w.cell? ⟨g, o + i, none⟩ = some (.slice x.A x.b.length x.c)
  bytes : ∀ x ∈ l, BytesAt w x.A x.b
  caps : ∀ x ∈ l, x.b.length ≤ x.c ∧ x.c ≤ maxLen ∧ x.b.length ≤ reachBytes
theorem BRowAt.below {w w' : World} {A : Option Addr} {c : Nat} {l : List BX} (h : BRowAt w A c l) (hb : Below w.heap.size w w') : BRowAt w' A c l := by
  refine ⟨h.cap, h.capm, fun hn => ?_, fun x hx => (h.bytes x hx).below hb, h.caps⟩
  obtain ⟨g, o, e, hr⟩ := h.row hn
  refine ⟨g, o, e, fun i x hx => ?_⟩
  have h1 := hr i x hx
  exact (hb.cell (p := ⟨g, o + i, none⟩) (World.block_lt_of_cell? w (a := ⟨g, o + i, none⟩) h1)).trans h1
theorem BRowAt.nil (w : World) (A : Option Addr) (c : Nat) (hc : c ≤ maxLen) : BRowAt w A c [] := ⟨Nat.zero_le _, hc, fun h => absurd h (by simp), fun x hx => (by cases hx), fun x hx => (by cases hx)⟩

section
variable {H : Type} {enc : TypeId × Value → H} {P : Program} {w : World} {base : Nat} {spare : Nat → Bool} {held : Bool}

/-- []byte that is an argument. -/
theorem open_bytesV {t u : TypeId} (ht : P.underlying t = some (.slice u)) (hu : P.underlying u = some (.int .u8)) (hc : P.cellsOf u = 1) (h1 : P.bytesOf u = 1) {r : Reach} {b0 : Nat} {v : Value} {d : DataW H} {p : List MemPlace} (hv : Value.okWide P w r b0 t v)
    (h : DataW.Trod enc P w base spare held t v d p) (hz : Sized P t d) : ∃ A c b, v = .slice A b.length c ∧ BytesAt w A b ∧ b.length ≤ c ∧ c ≤ maxLen ∧ b.length ≤ reachBytes := by
  obtain ⟨a, len, cap, rfl⟩ := okWide_slice ht hv
  obtain ⟨fuel, hf⟩ := h
  obtain ⟨A, c, b, hcs, h2⟩ := open_bytesB ht hu hc h1 hf hz
  simp only [Value.cells, List.cons.injEq, and_true] at hcs
  exact ⟨A, c, b, hcs, h2⟩

/-- [][]byte that is an argument. -/
theorem open_bytesRowV {t e u : TypeId} (ht : P.underlying t = some (.slice e)) (he : P.underlying e = some (.slice u)) (hu : P.underlying u = some (.int .u8)) (hce : P.cellsOf e = 1) (hc : P.cellsOf u = 1) (h1 : P.bytesOf u = 1) {r : Reach} {b0 : Nat} {v : Value} {d : DataW H} {p : List MemPlace}
    (hv : Value.okWide P w r b0 t v) (h : DataW.Trod enc P w base spare held t v d p) (hz : Sized P t d) : ∃ A c l, v = .slice A l.length c ∧ BRowAt w A c l := by
  obtain ⟨a, len, cap, rfl⟩ := okWide_slice ht hv
  obtain ⟨fuel, hf⟩ := h
  rcases open_slice1 ht hce hf with ⟨hcs, _⟩ | ⟨a, len, cap, m, n, V, D, Pl, hcs, _, hl, hm, hmm, hx, hi⟩
  · simp only [Value.cells, List.cons.injEq, and_true] at hcs
    exact ⟨none, 0, [], hcs, BRowAt.nil _ _ _ (Nat.zero_le _)⟩
  · simp only [Value.cells, List.cons.injEq, and_true] at hcs
    rw [Prod.mk.injEq] at hx
    obtain ⟨rfl, _⟩ := hx
    have hle : len ≤ m := by rw [hmm]; split <;> omega
    have each : ∀ i, i < len → ∃ x : BX, w.cell? (a.add i) = some (.slice x.A x.b.length x.c) ∧ BytesAt w x.A x.b ∧ x.b.length ≤ x.c ∧ x.c ≤ maxLen ∧ x.b.length ≤ reachBytes := fun i hil => by
      obtain ⟨h2, h3⟩ := hi i (by omega)
      have hsz : Sized P e (D i) := hz.elem ht (List.mem_map.2 ⟨i, List.mem_range.2 hil, rfl⟩)
      obtain ⟨A, c, b, hcs, h4, h5, h6, h7⟩ := open_bytesB he hu hc h1 h3 hsz
      simp only [List.cons.injEq, and_true] at hcs
      rw [hcs] at h2
      exact ⟨⟨A, c, b⟩, h2, h4, h5, h6, h7⟩
    obtain ⟨F, hF⟩ := choose_lt each
    have hll : ((List.range len).map F).length = len := by simp
    have hmem : ∀ x ∈ (List.range len).map F, ∃ i, i < len ∧ F i = x := fun x hx => by
      obtain ⟨i, hi', rfl⟩ := List.mem_map.1 hx
      exact ⟨i, List.mem_range.1 hi', rfl⟩
    refine ⟨some a, cap, (List.range len).map F, by rw [hll]; exact hcs, by rw [hll]; exact hl, hm, fun hn => ?_, fun x hx => ?_, fun x hx => ?_⟩
    · rw [hll] at hn
      obtain ⟨g, o, s⟩ := a
      have h00 := (hF 0 hn).1
      obtain rfl : s = none := by simpa [Addr.add] using World.cell?_spot h00
      refine ⟨g, o, rfl, fun i x hx => ?_⟩
      have hil : i < len := by
        have := (List.getElem?_eq_some_iff.1 hx).1
        rwa [hll] at this
      rw [List.getElem?_map, List.getElem?_range hil] at hx
      obtain rfl : F i = x := by simpa using hx
      have := (hF i hil).1
      rw [Go.WideShapes.add_plain] at this
      exact this
    · obtain ⟨i, hil, rfl⟩ := hmem x hx
      exact (hF i hil).2.1
    · obtain ⟨i, hil, rfl⟩ := hmem x hx
      exact (hF i hil).2.2
end
end Go.Proofs.YtffeanopdifegaaDoor
namespace Go.Proofs.YtffeanopdifegaaDoor
open Go

/-- A file's bytes turned. -/
def setT (t : List Fl) (s b : Bs) : List Fl := t.map fun x => if x.1 = s then (s, b) else x
theorem setT_fst (s b : Bs) (x : Fl) : (if x.1 = s then (s, b) else x : Fl).1 = x.1 := by
  by_cases h : x.1 = s
  · rw [if_pos h]; exact h.symm
  · rw [if_neg h]
theorem right_setT {t : List Fl} {s b : Bs} (h : rightT t = true) (hb : b.length ≤ 65536) : rightT (setT t s b) = true := by
  obtain ⟨h1, h2⟩ := (right_iff t).1 h
  refine (right_iff _).2 ⟨by unfold setT; rw [List.length_map]; exact h1, fun i x hx => ?_⟩
  unfold setT at hx
  rw [List.getElem?_map] at hx
  cases hi : t[i]? with
  | none => rw [hi] at hx; cases hx
  | some z =>
    rw [hi] at hx
    obtain rfl := Option.some.inj hx
    obtain ⟨h3, h4⟩ := h2 i z hi
    refine ⟨?_, fun k y hk hy => ?_⟩
    · show okF (if z.1 = s then (s, b) else z) = true
      by_cases he : z.1 = s
      · rw [if_pos he]
        unfold okF at h3 ⊢
        rw [Bool.and_eq_true] at h3 ⊢
        exact ⟨by rw [← he]; exact h3.1, by simpa using hb⟩
      · rw [if_neg he]; exact h3
    · unfold setT at hy
      rw [List.getElem?_map] at hy
      cases hj : t[k]? with
      | none => rw [hj] at hy; cases hy
      | some u =>
        rw [hj] at hy
        obtain rfl := Option.some.inj hy
        have h5 := h4 k u hk hj
        unfold aheadB at h5 ⊢
        rw [setT_fst, setT_fst]
        exact h5
theorem put_setT {t : List Fl} {s b : Bs} (h : rightT t = true) (hs : hasT t s = true) : putT t (s, b) = setT t s b := by
  have hr : Rises t := right_sorted h
  refine rises_ext _ _ (rises_putT _ hr) ?_ fun x => ?_
  · unfold setT
    refine List.pairwise_map.2 (hr.imp fun {x y} hxy => ?_)
    rw [setT_fst, setT_fst]; exact hxy
  · rw [mem_putT]
    unfold setT
    rw [List.mem_map]
    constructor
    · rintro (rfl | ⟨h1, h2⟩)
      · obtain ⟨y, hy, e⟩ := (hasT_iff t s).1 hs
        exact ⟨y, hy, if_pos e⟩
      · exact ⟨x, h1, if_neg h2⟩
    · rintro ⟨y, hy, rfl⟩
      by_cases he : y.1 = s
      · rw [if_pos he]; exact .inl rfl
      · rw [if_neg he]; exact .inr ⟨hy, he⟩
theorem apply_mod {t : List Fl} {s b : Bs} (h : rightT t = true) (hs : hasT t s = true) (hb : b.length ≤ 65536) : applyT t [⟨2, s, b⟩] = .ok (setT t s b) := by
  have hr := right_setT (s := s) h hb
  have hsb : rightB s = true := by
    obtain ⟨y, hy, rfl⟩ := (hasT_iff t s).1 hs
    exact ((right_all h).2.1 y hy).1
  have h1 : stepT t ⟨2, s, b⟩ = .ok (setT t s b) := by
    unfold stepT
    simp only [hsb, hs, put_setT h hs]
    rfl
  unfold applyT stepsT
  rw [h1]
  unfold stepsT
  simp only [right_not_long hr, hr]
  rfl
theorem has_setT {t : List Fl} {s b u : Bs} : hasT (bareT (setT t s b)) u = hasT t u := by
  unfold hasT bareT setT
  rw [List.map_map, List.any_map]
  congr 1
  funext x
  simp only [Function.comp]
  rw [setT_fst]
theorem has_bareT {t : List Fl} {u : Bs} : hasT (bareT t) u = hasT t u := by
  unfold hasT bareT
  rw [List.any_map]
  rfl
end Go.Proofs.YtffeanopdifegaaDoor
namespace Go.Proofs.YtffeanopdifegaaDoor
open Go Go.RowKit Go.Shelf Go.Proofs Go.ChangeMaps Go.Maps Go.WideMaps
attribute [local go_sem] Oper.semAt_some

theorem sum_memQ {l : List Nat} {x : Nat} (h : x ∈ l) : x ≤ l.sum := by
  induction l with
  | nil => cases h
  | cons y l ih =>
    rw [List.sum_cons]
    rcases List.mem_cons.1 h with rfl | h
    · omega
    · have := ih h; omega
theorem longN_all {t : List FX} (h1 : t.length ≤ 20) (h2 : longN t ≤ 1000) : SmallX t := by
  refine ⟨by omega, fun x hx => ?_⟩
  have h3 : x.long ≤ longN t := by
    unfold longN
    exact sum_memQ (List.mem_map_of_mem hx)
  unfold FX.long at h3
  exact ⟨by omega, by omega⟩
def dX (p : ByteArray) (A : Option Addr) (c : Nat) (b : Bs) : DX := ⟨2, p, A, c, b⟩
theorem small_dX {p : ByteArray} {A : Option Addr} {c : Nat} {b : Bs} (h1 : p.size ≤ 1000000) (h2 : b.length ≤ 1000000) : SmallD [dX p A c b] := ⟨by simp, fun x hx => by
  obtain rfl : x = dX p A c b := by simpa using hx
  exact ⟨h1, h2⟩⟩
theorem dels_dX {W : World} {d : Nat} {p : ByteArray} {A : Option Addr} {c : Nat} {b : Bs} (h : W.heap[d]? = some (.cells #[.int .i64 2, .string p, .slice A b.length c] 51 (0, 0))) (hb : BytesAt W A b) : DelsAt W (some ⟨d, 0, none⟩) 1 [dX p A c b] := by
  refine ⟨Nat.le_refl _, by unfold maxLen; omega, fun _ => ⟨d, 0, rfl, fun i x hx => ?_⟩, fun x hx => ?_⟩
  · have hi : i = 0 := by
      have := (List.getElem?_eq_some_iff.1 hx).1
      simpa using this
    subst hi
    obtain rfl : dX p A c b = x := by simpa using hx
    exact ⟨cell_of_row W d 0 _ _ _ h, cell_of_row W d 1 _ _ _ h, cell_of_row W d 2 _ _ _ h⟩
  · obtain rfl : x = dX p A c b := by simpa using hx
    exact hb
set_option maxRecDepth 100000 in
set_option maxHeartbeats 32000000 in
theorem qothers_any (t : List FX) (A Aa Ab : Option Addr) (c ca cb : Nat) (ba bb : Bs) (i j : Int) (w : World) (ht : TreeAt w A c t) (zt : BigX t) (ha : BytesAt w Aa ba) (hb : BytesAt w Ab bb) (hla : ba.length ≤ 281474976710656) (hlb : bb.length ≤ 281474976710656) (hi : 0 ≤ i ∧ i ≤ 255) (hj : 0 ≤ j ∧ j ≤ 255) (hm : MaxOk w) :
    Calls Tryd.prog 6 #[.slice A t.length c, .slice Aa ba.length ca, .slice Ab bb.length cb, .int .u8 i, .int .u8 j] w fun e w' => e = .returned (.bool true) ∧ Below w.heap.size w w' := by
  have HKN := Lib.hid (fun (W : World) (h : Below w.heap.size w W) => qknown_any W (hm.below h))
  have HT := Lib.hid ht
  have HM := Lib.hid hm
  have HA := Lib.hid ha
  have HBB := Lib.hid hb
  have hcap : t.length ≤ 9223372036854775807 := by have := Nat.le_trans ht.cap ht.capm; unfold maxLen at this; omega
  by_cases g1 : 20 < t.length
  · have q1 : (20 : Int) < (t.length : Int) := by omega
    clear ht zt ha hb hm
    go_enter Tryd.func6, Tryd.ntmps6
    go_wp2_with fail
    refine (HKN.out w (Below.refl _ w)).mono ?_
    rintro e wk ⟨rfl, hbk⟩
    have HBK := Lib.hid (show Below w.heap.size w wk from (Below.refl _ w : Below w.heap.size w w).trans (hbk.mono (Below.refl _ w : Below w.heap.size w w).size))
    clear hbk
    go_wp2_with fail
    go_ret
    exact ⟨rfl, HBK.out⟩
  have q1 : ¬ (20 : Int) < (t.length : Int) := by omega
  have HLO := Lib.hid (reflong_any t A c w ht (by omega) zt)
  clear ht zt ha hb hm
  go_enter Tryd.func6, Tryd.ntmps6
  go_wp2_with fail
  refine HLO.out.mono ?_
  rintro e w1 ⟨rfl, hb1⟩
  by_cases g2 : 1000 < longN t
  · have q2 : (1000 : Int) < (longN t : Int) := by omega
    have HB1 := Lib.hid hb1
    clear hb1
    go_wp2_with fail
    refine (HKN.out w1 HB1.out).mono ?_
    rintro e wk ⟨rfl, hbk⟩
    have HBK := Lib.hid (show Below w.heap.size w wk from (HB1.out).trans (hbk.mono (HB1.out).size))
    clear hbk
    go_wp2_with fail
    go_ret
    exact ⟨rfl, HBK.out⟩
  have q2 : ¬ (1000 : Int) < (longN t : Int) := by omega
  by_cases g3 : t.length = 0
  · have q3 : (t.length : Int) = 0 := by omega
    have HB1 := Lib.hid hb1
    clear hb1
    go_wp2_with fail
    refine (HKN.out w1 HB1.out).mono ?_
    rintro e wk ⟨rfl, hbk⟩
    have HBK := Lib.hid (show Below w.heap.size w wk from (HB1.out).trans (hbk.mono (HB1.out).size))
    clear hbk
    go_wp2_with fail
    go_ret
    exact ⟨rfl, HBK.out⟩
  have q3 : ¬ (t.length : Int) = 0 := by omega
  have HSX := Lib.hid (longN_all (by omega) (Nat.le_of_not_lt g2))
  have HRI := Lib.hid (reftright_any t A c w1 (HT.out.below hb1) HSX.out)
  have HB1 := Lib.hid hb1
  clear hb1
  go_wp2_with fail
  refine HRI.out.mono ?_
  rintro e w2 ⟨rfl, hb2⟩
  have HB2 := Lib.hid (HB1.out.trans (hb2.mono HB1.out.size))
  clear hb2
  cases hr : rightT (flsX t) with
  | false =>
    go_wp2_with fail
    refine (HKN.out w2 HB2.out).mono ?_
    rintro e wk ⟨rfl, hbk⟩
    have HBK := Lib.hid (show Below w.heap.size w wk from (HB2.out).trans (hbk.mono (HB2.out).size))
    clear hbk
    go_wp2_with fail
    go_ret
    exact ⟨rfl, HBK.out⟩
  | true =>
    by_cases g5 : 300 < ba.length + bb.length
    · have q5 : (300 : Int) < (ba.length : Int) + (bb.length : Int) := by omega
      go_wp2_with fail
      refine (HKN.out w2 HB2.out).mono ?_
      rintro e wk ⟨rfl, hbk⟩
      have HBK := Lib.hid (show Below w.heap.size w wk from (HB2.out).trans (hbk.mono (HB2.out).size))
      clear hbk
      go_wp2_with fail
      go_ret
      exact ⟨rfl, HBK.out⟩
    have q5 : ¬ (300 : Int) < (ba.length : Int) + (bb.length : Int) := by omega
    have HNEW := Lib.hid (hnew_any t A c w2 (HT.out.below HB2.out) (fun x hx => (HSX.out.2 x hx).1) (HM.out.below HB2.out))
    go_wp2_with fail
    · exfalso
      have h : ((1000 : Int) < (longN t : Int) ∨ ((t.length : Int) == 0) = true) ∨ (300 : Int) < (ba.length : Int) + (bb.length : Int) := by assumption
      rcases h with (h | h) | h
      · omega
      · have := beq_iff_eq.1 h; omega
      · omega
    refine HNEW.out.mono ?_
    intro e w3 hp
    unfold NewPost at hp
    rw [if_pos hr] at hp
    obtain ⟨hb, nv, cv, mb, k0, D, G0, l0, rfl, hH, -, hb3⟩ := hp
    have HQN := Lib.hid (qnew_any hb 9 9 w3 (by decide))
    go_wp2_with fail
    refine HQN.out.mono ?_
    rintro e w4 ⟨qb, ab, rfl, hab, hq4, hb4⟩
    have hne : ab ≠ mb := by
      obtain ⟨es, ck, hy⟩ := hH.map.block
      have := (Array.getElem?_eq_some_iff.1 hy).1
      omega
    have hbw4 := hb3.trans (hb4.mono hb3.size)
    have hq4 := hq4.lower hb3.size
    have hH4 := hH.below hb4
    have HNE := Lib.hid hne
    have HQ4 := Lib.hid hq4
    have HH4 := Lib.hid hH4
    have HBW4 := Lib.hid hbw4
    obtain ⟨N, hN⟩ : ∃ N, t.length = N := ⟨_, rfl⟩
    rw [hN] at g1 g3 q1 q3 hcap ⊢
    obtain ⟨p1, hp1⟩ : ∃ p : Nat, i % (N : Int) = (p : Int) := ⟨(i % (N : Int)).toNat, (Int.toNat_of_nonneg (Int.emod_nonneg _ (by omega))).symm⟩
    obtain ⟨p2, hp2⟩ : ∃ p : Nat, j % (N : Int) = (p : Int) := ⟨(j % (N : Int)).toNat, (Int.toNat_of_nonneg (Int.emod_nonneg _ (by omega))).symm⟩
    have hl1 : p1 < N := by have := Int.emod_lt_of_pos i (b := (N : Int)) (by omega); omega
    have hl2 : p2 < N := by have := Int.emod_lt_of_pos j (b := (N : Int)) (by omega); omega
    have l1 : (p1 : Int) < (N : Int) := by omega
    have l2 : (p2 : Int) < (N : Int) := by omega
    obtain ⟨x1, hx1⟩ : ∃ x, t[p1]? = some x := ⟨_, List.getElem?_eq_getElem (by omega)⟩
    obtain ⟨x2, hx2⟩ : ∃ x, t[p2]? = some x := ⟨_, List.getElem?_eq_getElem (by omega)⟩
    obtain ⟨tg, to, htA, hrow⟩ := (HT.out.below (HB2.out.trans (hbw4.mono HB2.out.size))).row (by omega)
    subst htA
    obtain ⟨c1, -⟩ := hrow p1 x1 hx1
    obtain ⟨c2, -⟩ := hrow p2 x2 hx2
    have HX1 := Lib.hid hx1
    have HX2 := Lib.hid hx2
    have HN := Lib.hid hN
    clear hne hq4 hH4 hbw4 hH hb3 hb4 hab hrow hx1 hx2 hN
    have HB4 := Lib.hid (HB2.out.trans ((HBW4.out).mono HB2.out.size))
    obtain ⟨d5, hd5⟩ : ∃ b, w4.heap.size = b := ⟨_, rfl⟩
    obtain ⟨W5, hW5⟩ : ∃ W, w4.alloc (.cells #[.int .i64 2, .string x1.p, .slice Aa ba.length ca] 51) = W := ⟨_, rfl⟩
    have r5 : W5.heap[d5]? = some (.cells #[.int .i64 2, .string x1.p, .slice Aa ba.length ca] 51 (0, 0)) := by rw [← hW5, ← hd5]; exact heap_alloc_new _ _
    have hb5 : Below w4.heap.size w4 W5 := by rw [← hW5]; exact (Below.refl _ _).alloc (Nat.le_refl _) _
    have hB5 := HBW4.out.trans (hb5.mono HBW4.out.size)
    have HC5 := Lib.hid (HB2.out.trans (hB5.mono HB2.out.size))
    have hq5 := HQ4.out.below hb5
    have hH5 := HH4.out.below hb5
    have hsm1 : SmallD [dX x1.p Aa ca ba] := small_dX (HSX.out.2 x1 (List.mem_of_getElem? HX1.out)).1 (by omega)
    have hsm2 : SmallD [dX x2.p Ab cb bb] := small_dX (HSX.out.2 x2 (List.mem_of_getElem? HX2.out)).1 (by omega)
    have hs5 := submit_any hq5 hH5 ⟨1, 0, some ⟨d5, 0, none⟩, 1, [dX x1.p Aa ca ba]⟩ hB5.size (dels_dX r5 (HA.out.below HC5.out)) hsm1 (by simp) (key_int 1 (by omega) (by omega))
    have hse5 : subE 0 9 [] [] ⟨1, 0, some ⟨d5, 0, none⟩, 1, [dX x1.p Aa ca ba]⟩ = 0 := sub_free (by show (1 : Int) ≤ 1; omega) (by show 1 ≠ 0; decide) rfl rfl rfl (by decide)
    have hs5 : Calls Tryd.prog 13 #[.pointer (some ⟨qb, 0, none⟩), .agg #[.int .i64 1, .int .i64 0, .slice (some ⟨d5, 0, none⟩) 1 1]] W5 _ := hs5
    have HS5 := Lib.hid hs5
    have HSE5 := Lib.hid hse5
    have HQ5 := Lib.hid hq5
    have HH5 := Lib.hid hH5
    have HB5 := Lib.hid hB5
    have HSM2 := Lib.hid hsm2
    clear r5 hb5 hB5 hq5 hH5 hsm1 hsm2 hs5 hse5 HQ4 HH4
    go_wp2_with fail
    clear c1 c2 hW5 hd5
    refine HS5.out.mono ?_
    rintro e w6 ⟨rfl, hp6⟩
    rw [HSE5.out] at hp6 ⊢
    rcases hp6 with ⟨h, _⟩ | ⟨_, v6, Y, hq6, ⟨hY1, hY2, hY3⟩, ht6, hv6⟩
    · exact absurd rfl h
    have HQ6 := Lib.hid hq6
    have HH6 := Lib.hid (HH5.out.turned HQ5.out ht6)
    have HB6 := Lib.hid (HB5.out.trans (ht6.below (n := w2.heap.size) (fun j e => by
      rcases e with rfl | e
      · exact HQ5.out.lq
      · cases e) HB5.out.size))
    have HY := Lib.hid (show Y.id = 1 ∧ Y.base = 0 ∧ Y.l.map DX.dl = [dX x1.p Aa ca ba].map DX.dl from ⟨hY1, hY2, hY3⟩)
    clear hq6 hY1 hY2 hY3 ht6 hv6 HS5 HQ5 HH5
    obtain ⟨d7, hd7⟩ : ∃ b, w6.heap.size = b := ⟨_, rfl⟩
    obtain ⟨W7, hW7⟩ : ∃ W, w6.alloc (.cells #[.int .i64 2, .string x2.p, .slice Ab bb.length cb] 51) = W := ⟨_, rfl⟩
    have r7 : W7.heap[d7]? = some (.cells #[.int .i64 2, .string x2.p, .slice Ab bb.length cb] 51 (0, 0)) := by rw [← hW7, ← hd7]; exact heap_alloc_new _ _
    have hb7 : Below w6.heap.size w6 W7 := by rw [← hW7]; exact (Below.refl _ _).alloc (Nat.le_refl _) _
    have hB7 := HB6.out.trans (hb7.mono HB6.out.size)
    have HC7 := Lib.hid (HB2.out.trans (hB7.mono HB2.out.size))
    have hq7 := HQ6.out.below hb7
    have hH7 := HH6.out.below hb7
    have hs7 := submit_any hq7 hH7 ⟨2, 0, some ⟨d7, 0, none⟩, 1, [dX x2.p Ab cb bb]⟩ hB7.size (dels_dX r7 (HBB.out.below HC7.out)) HSM2.out (by simp) (key_int 2 (by omega) (by omega))
    have hse7 : subE 0 9 ([] ++ [Y]) [] ⟨2, 0, some ⟨d7, 0, none⟩, 1, [dX x2.p Ab cb bb]⟩ = 0 := sub_free (by show (1 : Int) ≤ 2; omega) (by show 1 ≠ 0; decide) rfl rfl (by unfold waitsQ; simp [HY.out.1]) (by show 1 < 9; decide)
    have hs7 : Calls Tryd.prog 13 #[.pointer (some ⟨qb, 0, none⟩), .agg #[.int .i64 2, .int .i64 0, .slice (some ⟨d7, 0, none⟩) 1 1]] W7 _ := hs7
    have HS7 := Lib.hid hs7
    have HSE7 := Lib.hid hse7
    have HQ7 := Lib.hid hq7
    have HH7 := Lib.hid hH7
    have HB7 := Lib.hid hB7
    clear r7 hb7 hB7 hq7 hH7 hs7 hse7 HQ6 HH6
    go_wp2_with fail
    clear hW7 hd7
    refine HS7.out.mono ?_
    rintro e w8 ⟨rfl, hp8⟩
    rw [HSE7.out] at hp8 ⊢
    rcases hp8 with ⟨h, _⟩ | ⟨_, v8, Z, hq8, ⟨hZ1, hZ2, hZ3⟩, ht8, hv8⟩
    · exact absurd rfl h
    have hH8 := HH7.out.turned HQ7.out ht8
    have HB8 := Lib.hid (HB7.out.trans (ht8.below (n := w2.heap.size) (fun j e => by
      rcases e with rfl | e
      · exact HQ7.out.lq
      · obtain ⟨hl, _⟩ := HQ7.out.waits.far e
        exact hl) HB7.out.size))
    have HZ := Lib.hid (show Z.id = 2 ∧ Z.base = 0 ∧ Z.l.map DX.dl = [dX x2.p Ab cb bb].map DX.dl from ⟨hZ1, hZ2, hZ3⟩)
    have HRB := Lib.hid hH8.right
    have hst8 := step_any w2 (show QueueAt w2.heap.size w8 qb hb ab 9 v8 (Y :: [Z]) [] from hq8) hH8 HNE.out HB8.out true (by omega) (by simp) (by simp) (HM.out.below HB2.out) (by rw [HY.out.1]; exact key_int 1 (by omega) (by omega))
    have HST8 := Lib.hid hst8
    clear hq8 hZ1 hZ2 hZ3 ht8 hv8 HS7 HQ7 HH7 hH8 hst8
    go_wp2_with fail
    refine HST8.out.mono ?_
    rintro e w9 ⟨a9, v9, rfl, hq9, hst9, hbw9, hf9, hv9⟩
    have hn1 : hasT (flsX (bareX t)) x1.p.data.toList = true := by
      rw [bareX_fls, has_bareT]
      exact (hasT_iff _ _).2 ⟨x1.fl, List.mem_map_of_mem (List.mem_of_getElem? HX1.out), rfl⟩
    have hn2 : hasT (flsX (bareX t)) x2.p.data.toList = true := by
      rw [bareX_fls, has_bareT]
      exact (hasT_iff _ _).2 ⟨x2.fl, List.mem_map_of_mem (List.mem_of_getElem? HX2.out), rfl⟩
    have hrb : rightT (flsX (bareX t)) = true := by
      exact HRB.out
    have hap1 : applyT (flsX (bareX t)) (Y.l.map DX.dl) = .ok (setT (flsX (bareX t)) x1.p.data.toList ba) := by
      rw [HY.out.2.2]
      exact apply_mod hrb hn1 (show ba.length ≤ 65536 by omega)
    have hpY : pathsX Y.l = [x1.p.data.toList] := by
      have : pathsX Y.l = (Y.l.map DX.dl).map Dl.p := by unfold pathsX; rw [List.map_map]; rfl
      rw [this, HY.out.2.2]; rfl
    have hpZ : pathsX Z.l = [x2.p.data.toList] := by
      have : pathsX Z.l = (Z.l.map DX.dl).map Dl.p := by unfold pathsX; rw [List.map_map]; rfl
      rw [this, HZ.out.2.2]; rfl
    have ha9 : a9 = ⟨1, 1, 1, 0⟩ ∧ ∃ nm nv cv k D H, flsX nm = bareT (setT (flsX (bareX t)) x1.p.data.toList ba) ∧ HistAt w2.heap.size w9 hb 1 nm (fun s => if s ∈ [x1.p.data.toList] then 1 else 0) nv cv mb k D H := by
      rcases hst9 with ⟨⟨h, _⟩ | ⟨_, h, _⟩ | ⟨_, _, q, _, h, _⟩, _⟩ | ⟨_, _, h, nm', nv', cv', k', D', G', ⟨f, hf, hn⟩, h2⟩
      · rw [HY.out.2.1, late_zero] at h; cases h
      · cases h
      · rw [hap1] at h; cases h
      · rw [hap1] at hf; cases hf
        rw [hpY] at h2
        exact ⟨by rw [h, HY.out.1]; rfl, nm', nv', cv', k', D', _, hn, h2⟩
    obtain ⟨rfl, nm9, nv9, cv9, k9, D9, H9, hnm9, hH9⟩ := ha9
    simp only [AX.v]
    obtain ⟨b11, hb11⟩ : ∃ b, w9.heap.size = b := ⟨_, rfl⟩
    obtain ⟨W10, hW10⟩ : ∃ W, w9.alloc (.cells #[.int .i64 0, .int .i64 0, .int .i64 0, .int .i64 0] 36) = W := ⟨_, rfl⟩
    have z11 : AnsB W10 b11 noA := by unfold AnsB; rw [← hW10, ← hb11]; exact heap_alloc_new _ _
    have hbl11 : Below w9.heap.size w9 W10 := by rw [← hW10]; exact (Below.refl _ _).alloc (Nat.le_refl _) _
    obtain ⟨a11, g11⟩ := z11.store ⟨1, 1, 1, 0⟩
    simp only at a11 g11
    obtain ⟨W11, hW11⟩ : ∃ W, (((W10.setCell ⟨b11, 0, none⟩ (.int .i64 1)).setCell ⟨b11, 1, none⟩ (.int .i64 1)).setCell ⟨b11, 2, none⟩ (.int .i64 1)).setCell ⟨b11, 3, none⟩ (.int .i64 0) = W := ⟨_, rfl⟩
    rw [hW11] at a11 g11
    have hbm11 : Below w9.heap.size w9 W11 := hbl11.grown g11 hbl11.size (fun j e => by cases e; omega)
    obtain ⟨z0, z1, z2, z3, z4, z5, z6, z7⟩ := z11.facts
    simp only [noA] at z0 z1 z2 z3
    have HW11 := Lib.hid hW11
    clear z11 hbl11 hW11 g11
    have HB11 := Lib.hid ((HB8.out.trans hbw9).trans (hbm11.mono (by have := HB8.out.size; have := hf9.size; omega)))
    have HQ11 := Lib.hid (hq9.below hbm11)
    have HH11 := Lib.hid (hH9.below hbm11)
    have A11 := Lib.hid a11
    have HR9 := Lib.hid hH9.right
    have hn9 : hasT (flsX nm9) x2.p.data.toList = true := by rw [hnm9, has_setT]; exact hn2
    have hst11 := step_any w2 HQ11.out HH11.out HNE.out HB11.out true (by omega) (by simp) (by simp) (HM.out.below HB2.out) (by rw [HZ.out.1]; exact key_int 2 (by omega) (by omega))
    have HST11 := Lib.hid hst11
    have HN9 := Lib.hid hn9
    have HPZ := Lib.hid hpZ
    clear hq9 hst9 hbw9 hf9 hv9 hn1 hn2 hrb hap1 hpY hpZ hnm9 hH9 a11 hbm11 hn9 hst11 HST8
    go_upto_region 10 with fail
    rw [HW11.out]
    clear z0 z1 z2 z3 z4 z5 z6 z7 hW10 hb11
    go_wp2_with fail
    refine HST11.out.mono ?_
    rintro e w12 ⟨a12, v12, rfl, hq12, hst12, hbw12, hf12, hv12⟩
    have hnq : b11 ≠ qb := fun e => by
      have h := A11.out
      unfold AnsB at h
      rw [e, HQ11.out.heap] at h; cases h
    have hnv : v9.ownBlock ≠ some b11 := fun e => by
      obtain ⟨_, cur2, hy⟩ := HQ11.out.waits.far e
      have h := A11.out
      unfold AnsB at h
      rw [hy] at h; cases h
    have A12 := Lib.hid (show AnsB w12 b11 ⟨1, 1, 1, 0⟩ from (hf12.cells b11 _ _ (by decide) hnq hnv A11.out).trans A11.out)
    have hlq : lateQ (fun s => if s ∈ [x1.p.data.toList] then 1 else 0) Z.base Z.l = decide ((0 : Int) < ((if x2.p.data.toList ∈ [x1.p.data.toList] then 1 else 0 : Nat) : Int)) := by
      unfold lateQ
      rw [HPZ.out, HZ.out.2.1]; simp
    have hap2 : applyT (flsX nm9) (Z.l.map DX.dl) = .ok (setT (flsX nm9) x2.p.data.toList bb) := by
      rw [HZ.out.2.2]
      exact apply_mod HR9.out HN9.out (show bb.length ≤ 65536 by omega)
    by_cases hxy : x1.p = x2.p
    · have ha12 : a12 = ⟨2, 2, 0, 0⟩ ∧ ∃ nv cv k D, HistAt w2.heap.size w12 hb 1 nm9 (fun s => if s ∈ [x1.p.data.toList] then 1 else 0) nv cv mb k D H9 := by
        rw [hxy, if_pos (by simp)] at hlq
        rcases hst12 with ⟨⟨_, h⟩ | ⟨h, _⟩ | ⟨h, _⟩, hh⟩ | ⟨h, _⟩
        · exact ⟨by rw [h, HZ.out.1], hh⟩
        · rw [hxy] at h; rw [hlq] at h; cases h
        · rw [hxy] at h; rw [hlq] at h; cases h
        · rw [hxy] at h; rw [hlq] at h; cases h
      obtain ⟨rfl, nv12, cv12, k12, D12, hH12⟩ := ha12
      simp only [AX.v]
      obtain ⟨b14, hb14⟩ : ∃ b, w12.heap.size = b := ⟨_, rfl⟩
      obtain ⟨W13, hW13⟩ : ∃ W, w12.alloc (.cells #[.int .i64 0, .int .i64 0, .int .i64 0, .int .i64 0] 36) = W := ⟨_, rfl⟩
      have z14 : AnsB W13 b14 noA := by unfold AnsB; rw [← hW13, ← hb14]; exact heap_alloc_new _ _
      have hbl14 : Below w12.heap.size w12 W13 := by rw [← hW13]; exact (Below.refl _ _).alloc (Nat.le_refl _) _
      obtain ⟨a14, g14⟩ := z14.store ⟨2, 2, 0, 0⟩
      simp only at a14 g14
      obtain ⟨W14, hW14⟩ : ∃ W, (((W13.setCell ⟨b14, 0, none⟩ (.int .i64 2)).setCell ⟨b14, 1, none⟩ (.int .i64 2)).setCell ⟨b14, 2, none⟩ (.int .i64 0)).setCell ⟨b14, 3, none⟩ (.int .i64 0) = W := ⟨_, rfl⟩
      rw [hW14] at a14 g14
      have hbm14 : Below w12.heap.size w12 W14 := hbl14.grown g14 hbl14.size (fun j e => by cases e; omega)
      obtain ⟨z0, z1, z2, z3, z4, z5, z6, z7⟩ := z14.facts
      simp only [noA] at z0 z1 z2 z3
      have HW14 := Lib.hid hW14
      clear z14 hbl14 hW14 g14
      have HB14 := Lib.hid (HB2.out.trans (((HB11.out.trans hbw12).trans (hbm14.mono (by have := HB11.out.size; have := hf12.size; omega))).mono HB2.out.size))
      have a12b : AnsB W14 b11 ⟨1, 1, 1, 0⟩ := row_belowQ A12.out hbm14
      have hH14 := hH12.below hbm14
      obtain ⟨hA, hcc, hcv, -⟩ := hH14.commit_slice
      have HHD := Lib.hid (by have h := hH14.heap; rw [hcv] at h; exact hhead_any hb hA _ hcc W14 (cell_of_row W14 hb 1 _ _ _ h))
      have A14 := Lib.hid a14
      have A12B := Lib.hid a12b
      have HK14 := Lib.hid (HKN.out W14 HB14.out)
      clear hq12 hst12 hbw12 hf12 hv12 hnq hnv hlq hap2 hH12 hbm14 a12b hH14 hcv a14
      go_upto_region 11 with fail
      rw [HW14.out]
      clear z0 z1 z2 z3 z4 z5 z6 z7 hW13 hb14
      obtain ⟨y0, y1, y2, y3, -, -, -, -⟩ := A14.out.facts
      obtain ⟨u0, u1, u2, u3, -, -, -, -⟩ := A12B.out.facts
      simp only at y0 y1 y2 y3 u0 u1 u2 u3
      go_wp2_with fail
      refine HHD.out.mono ?_
      rintro e w15 ⟨rfl, hw15⟩
      have hw15 := hw15.symm
      subst hw15
      go_wp2_with fail
      refine HK14.out.mono ?_
      rintro e w16 ⟨rfl, hb16⟩
      have HB16 := Lib.hid (HB14.out.trans (hb16.mono HB14.out.size))
      clear hb16
      go_wp2_with fail
      go_ret
      exact ⟨rfl, HB16.out⟩
    · have hxl : x2.p.data.toList ≠ x1.p.data.toList := fun e => hxy (by
        have h2 : x2.p.data = x1.p.data := Array.toList_inj.1 e
        cases h : x1.p; cases h' : x2.p
        rw [h, h'] at h2
        exact congrArg ByteArray.mk h2.symm)
      have hxb : (x1.p.toList == x2.p.toList) = false := by rw [ByteArray.toList_eq, ByteArray.toList_eq, beq_eq_false_iff_ne]; exact fun e => hxl e.symm
      have ha12 : a12 = ⟨2, 1, 2, 0⟩ ∧ ∃ nm nv cv k D H, HistAt w2.heap.size w12 hb 2 nm (fun s => if s ∈ [x2.p.data.toList] then 2 else if s ∈ [x1.p.data.toList] then 1 else 0) nv cv mb k D H := by
        rw [if_neg (by simpa using hxl)] at hlq
        have hlq : lateQ (fun s => if s ∈ [x1.p.data.toList] then 1 else 0) Z.base Z.l = false := hlq
        rcases hst12 with ⟨⟨h, _⟩ | ⟨_, h, _⟩ | ⟨_, _, q, _, h, _⟩, _⟩ | ⟨_, _, h, nm', nv', cv', k', D', G', _, h2⟩
        · rw [hlq] at h; cases h
        · cases h
        · rw [hap2] at h; cases h
        · rw [HPZ.out] at h2
          exact ⟨by rw [h, HZ.out.1]; rfl, nm', nv', cv', k', D', _, h2⟩
      obtain ⟨rfl, nm12, nv12, cv12, k12, D12, H12, hH12⟩ := ha12
      simp only [AX.v]
      obtain ⟨b14, hb14⟩ : ∃ b, w12.heap.size = b := ⟨_, rfl⟩
      obtain ⟨W13, hW13⟩ : ∃ W, w12.alloc (.cells #[.int .i64 0, .int .i64 0, .int .i64 0, .int .i64 0] 36) = W := ⟨_, rfl⟩
      have z14 : AnsB W13 b14 noA := by unfold AnsB; rw [← hW13, ← hb14]; exact heap_alloc_new _ _
      have hbl14 : Below w12.heap.size w12 W13 := by rw [← hW13]; exact (Below.refl _ _).alloc (Nat.le_refl _) _
      obtain ⟨a14, g14⟩ := z14.store ⟨2, 1, 2, 0⟩
      simp only at a14 g14
      obtain ⟨W14, hW14⟩ : ∃ W, (((W13.setCell ⟨b14, 0, none⟩ (.int .i64 2)).setCell ⟨b14, 1, none⟩ (.int .i64 1)).setCell ⟨b14, 2, none⟩ (.int .i64 2)).setCell ⟨b14, 3, none⟩ (.int .i64 0) = W := ⟨_, rfl⟩
      rw [hW14] at a14 g14
      have hbm14 : Below w12.heap.size w12 W14 := hbl14.grown g14 hbl14.size (fun j e => by cases e; omega)
      obtain ⟨z0, z1, z2, z3, z4, z5, z6, z7⟩ := z14.facts
      simp only [noA] at z0 z1 z2 z3
      have HW14 := Lib.hid hW14
      clear z14 hbl14 hW14 g14
      have HB14 := Lib.hid (HB2.out.trans (((HB11.out.trans hbw12).trans (hbm14.mono (by have := HB11.out.size; have := hf12.size; omega))).mono HB2.out.size))
      have a12b : AnsB W14 b11 ⟨1, 1, 1, 0⟩ := row_belowQ A12.out hbm14
      have hH14 := hH12.below hbm14
      have hls := fun (s : ByteArray) (hs : s.size ≤ 1000000) => hlast_any hb mb k12 D12 (fun s => if s ∈ [x2.p.data.toList] then 2 else if s ∈ [x1.p.data.toList] then 1 else 0) s (by unfold maxLen; omega) W14 (cell_of_row W14 hb 2 _ _ _ hH14.heap) hH14.map hH14.revs
      have HL1 := Lib.hid (hls x1.p (HSX.out.2 x1 (List.mem_of_getElem? HX1.out)).1)
      have HL2 := Lib.hid (hls x2.p (HSX.out.2 x2 (List.mem_of_getElem? HX2.out)).1)
      have m1 : (if x1.p.data.toList ∈ [x2.p.data.toList] then 2 else if x1.p.data.toList ∈ [x1.p.data.toList] then 1 else 0 : Nat) = 1 := by
        rw [if_neg (fun h => hxl (List.mem_singleton.1 h).symm), if_pos (by simp)]
      have m2 : (if x2.p.data.toList ∈ [x2.p.data.toList] then 2 else if x2.p.data.toList ∈ [x1.p.data.toList] then 1 else 0 : Nat) = 2 := by
        rw [if_pos (by simp)]
      simp only [m1] at HL1
      simp only [m2] at HL2
      have A14 := Lib.hid a14
      have A12B := Lib.hid a12b
      have HK14 := Lib.hid (HKN.out W14 HB14.out)
      clear hq12 hst12 hbw12 hf12 hv12 hnq hnv hlq hap2 hH12 hbm14 a12b hH14 a14 hls m1 m2 hxl
      go_upto_region 11 with fail
      rw [HW14.out]
      clear z0 z1 z2 z3 z4 z5 z6 z7 hW13 hb14
      obtain ⟨y0, y1, y2, y3, -, -, -, -⟩ := A14.out.facts
      obtain ⟨u0, u1, u2, u3, -, -, -, -⟩ := A12B.out.facts
      simp only at y0 y1 y2 y3 u0 u1 u2 u3
      go_wp2_with fail
      refine HL1.out.mono ?_
      rintro e w15 ⟨rfl, hw15⟩
      have hw15 := hw15.symm
      subst hw15
      go_wp2_with fail
      refine HL2.out.mono ?_
      rintro e w15 ⟨rfl, hw15⟩
      have hw15 := hw15.symm
      subst hw15
      go_wp2_with fail
      refine HK14.out.mono ?_
      rintro e w16 ⟨rfl, hb16⟩
      have HB16 := Lib.hid (HB14.out.trans (hb16.mono HB14.out.size))
      clear hb16
      go_wp2_with fail
      go_ret
      exact ⟨rfl, HB16.out⟩
end Go.Proofs.YtffeanopdifegaaDoor
