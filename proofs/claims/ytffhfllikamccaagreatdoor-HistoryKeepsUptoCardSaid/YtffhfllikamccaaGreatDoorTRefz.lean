/-
  A row of strings of a call's own, and the box that holds it. · Keys of path.place: how they read; the set of places that failed. · Plain facts on rows of patterns, and on the bytes of names. No program is named here. · What the closure in path.parted has captured; how it lies on while only the map of failures and new blocks turn. · The contracts of the document's own answers: plain, Name. · The contracts of the document's own answers: Split, Right. · How a row of strings lies in the cells of a block, and stays there. · Plain facts on rows of patterns, from behind: what the document's own answer reckons front by front. · The contracts of the document's own answers: pattern, Glob. · The contract of the document's own Under, in the words of layer 2. · The contracts of the document's own answers of layer 2: Same, Right. · The contract of the document's own Apply of layer 2. · The document's own Apply once more: what it answers stays wherever rows of files, and what was handed in, stay. (after XTRefD)
-/
import Derived.Test.YtffhfllikamccaaGreatDoorConsists
import Derived.Maps.AppendAt
import Derived.WalkSmall
import Derived.WalkMore
import Derived.Maps.OwnSet
import Derived.DeepKeys4
import Derived.WalkArith
import Derived.Test.YtffhfllikamccaaGreatDoorPlain
import Derived.IntWalk
import Derived.WalkKit
import Derived.Test.YtffhfllikamccaaGreatDoorTPlain
import Derived.Test.YtffhfllikamccaaGreatDoorTRefA
import Derived.BigRegion
import Derived.Deep.RegionHeld3
import Derived.BigQuiet
import Derived.Test.YtffhfllikamccaaGreatDoorTApply
namespace Go.Proofs.YtffhfllikamccaaGreatDoor
open Go Go.RowKit Go.Shelf Go.Proofs
attribute [local go_sem] Oper.semAt_some

theorem wpIn_scope_wide {n : Nat} {P : Program} {c : Code} {Q : Exit → Act → World → Prop} {a : Act} {w : World} (h : c.wpIn Fence.wide n P (Exit.noGoto Q) a w) : (Code.scope c).wpIn Fence.wide n P Q a w := wpIn_wide.2 (wp_scope_straight (wpIn_wide.1 h))

theorem string_info : (Tryz.prog.info? 9).map (fun i => (i.zero, i.size, i.bytes)) = some (some (.string ⟨#[]⟩), 1, 16) := by kernel_rfl

def strV (b : Bs) : Value := .string (mkB b)
def strVs (ns : List Bs) : List Value := ns.map strV

/-- The box B holds a slice of the call's own, from block b on, that reads ns. -/
def Names (b B : Nat) (ns : List Bs) (W : World) : Prop := ∃ v, Boxed W B 25 v ∧ W.ownsRow b 9 1 v ns.length (strVs ns)

theorem ownsRow_slice {w : World} {base e size n : Nat} {v : Value} {xs : List Value} (h : w.ownsRow base e size v n xs) : ∃ a c, v = .slice a n c ∧ n ≤ c ∧ c ≤ maxLen := by
  rcases h.2 with ⟨rfl, rfl⟩ | ⟨g, c, _, rfl, _, _, hc, hm, _⟩
  · exact ⟨none, 0, rfl, Nat.le_refl _, Nat.zero_le _⟩
  · exact ⟨_, c, rfl, hc, hm⟩

theorem names_kept {T : Nat → Prop} {b B B0 : Nat} {ns : List Bs} (_hB : B < b) (hT : ¬ T B) (hT2 : ∀ r, T r → r < b) {X Y : World} {row : Option Nat} (h : Names b B ns X) (hg : X.grownBy Y row)
    (hrow : ∀ r, row = some r → T r ∨ (B0 ≤ r ∧ ∃ o : Obj, X.heap[r]? = some o ∧ o.isCells = false)) : Names b B ns Y := by
  obtain ⟨v, hv, hr⟩ := h
  refine ⟨v, hv.kept hg (fun e => ?_), hr.kept hg ?_⟩
  · rcases hrow B e.symm with h | ⟨h, o, ho, hc⟩
    · exact hT h
    · rw [show X.heap[B]? = _ from hv] at ho; cases ho; cases hc
  · rcases hr.2 with ⟨rfl, _⟩ | ⟨g, cap, cur, rfl, hbg, hgb, _⟩
    · exact .inl rfl
    · refine .inr fun e => ?_
      rcases hrow g (by simpa [Value.ownBlock] using e.symm) with h | ⟨h, o, ho, hc⟩
      · have := hT2 g h; omega
      · rw [hgb] at ho; cases ho; cases hc

theorem row_ge {w : World} {b e size n g : Nat} {v : Value} {xs : List Value} (h : w.ownsRow b e size v n xs) (hg : v.ownBlock = some g) : b ≤ g ∧ ∃ cur, w.heap[g]? = some (.cells cur e (0, 0)) := by
  rcases h.2 with ⟨rfl, _⟩ | ⟨g', cap, cur, rfl, hbg, hgb, _⟩
  · simp [Value.ownBlock] at hg
  · obtain rfl : g' = g := by simpa [Value.ownBlock] using hg
    exact ⟨hbg, cur, hgb⟩

/-- Behind an append to the slice in box B, and the store back. -/
theorem names_push {W w1 : World} {n₀ b B t e k m : Nat} {v v' : Value} {tmp : Obj} {xs ys : List Value} (hte : t ≠ e) (hv : Boxed W B t v) (hrow : W.ownsRow b e 1 v k xs) (hb : b ≤ W.heap.size) (h0 : n₀ ≤ B) (hB : B < b)
    (hown' : w1.ownsRow b e 1 v' m ys) (hgrow : (W.alloc tmp).grownBy w1 v.ownBlock) :
    Boxed w1 B t v ∧ Boxed (w1.setCell ⟨B, 0, none⟩ v') B t v' ∧ (w1.setCell ⟨B, 0, none⟩ v').ownsRow b e 1 v' m ys ∧ KeepsOthers W (w1.setCell ⟨B, 0, none⟩ v') ∧
      (∀ j, j < b → j ≠ B → (w1.setCell ⟨B, 0, none⟩ v').heap[j]? = W.heap[j]?) ∧ Below n₀ W (w1.setCell ⟨B, 0, none⟩ v') := by
  have hv1 : Boxed w1 B t v := (hv.alloc tmp).kept hgrow (hv.not_row hte hrow)
  refine ⟨hv1, hv1.set v', hown'.kept (grownBy_setCell' w1 B v') (.inr (hv1.not_row hte hown').symm), ?_, ?_, ?_⟩
  · refine ((KeepsOthers.alloc W tmp).trans (KeepsOthers.of_grownBy hgrow fun j o ej hj => ?_)).trans (KeepsOthers.setCell _ _ _)
    obtain ⟨_, cur, hc⟩ := row_ge (hrow.alloc tmp) ej
    rw [hc] at hj; cases hj; rfl
  · intro j hj hne
    refine (Below.heap_setCell _ _ _ j hne).trans ((hgrow.block j (by simp; omega) (fun e => ?_)).trans (Below.heap_alloc _ _ _ (by omega)))
    have := (row_ge hrow e.symm).1
    omega
  · refine (((Below.refl n₀ W).alloc (by omega) tmp).grown hgrow (by simp; omega) fun j ej => ?_).setCell (p := ⟨B, 0, none⟩) h0 v'
    have := (row_ge hrow ej).1
    omega
end Go.Proofs.YtffhfllikamccaaGreatDoor
namespace Go.Proofs.YtffhfllikamccaaGreatDoor
open Go Go.RowKit Go.Shelf Go.Proofs
open Go.Maps (Keyed)

set_option maxRecDepth 100000 in
theorem place_laid : laidOutB Tryz.prog = true := by kernel_rfl
def placeV (i j : Nat) : Value := .agg #[.int .i64 i, .int .i64 j]
set_option maxRecDepth 100000 in
theorem int_cells : Tryz.prog.cellsOf 3 = 1 := by kernel_rfl
set_option maxRecDepth 100000 in
theorem int_wf (n : Nat) (h : n < 9223372036854775808) : (Lit.int .i64 (n : Int)).wf = true := by
  exact WalkArith.wf_i64 (by omega)

def gridL (n m : Nat) : List (Nat × Nat) := (List.range (n + 1)).flatMap fun i => (List.range (m + 1)).map fun j => (i, j)
set_option maxRecDepth 100000 in
theorem grid_mem {n m i j : Nat} (hi : i ≤ n) (hj : j ≤ m) : (i, j) ∈ gridL n m := by
  unfold gridL
  rw [List.mem_flatMap]
  exact ⟨i, List.mem_range.2 (by omega), List.mem_map.2 ⟨j, List.mem_range.2 (by omega), rfl⟩⟩
set_option maxRecDepth 100000 in
theorem grid_length (n m : Nat) : (gridL n m).length = (n + 1) * (m + 1) := by
  unfold gridL
  rw [List.length_flatMap]
  simp only [List.length_map, List.length_range]
  have : ∀ k, ((List.range k).map fun _ => m + 1).sum = k * (m + 1) := by
    intro k
    induction k with
    | zero => simp
    | succ k ih => rw [show List.range (k + 1) = List.range k ++ [k] from List.range_succ, List.map_append, List.sum_append, ih]; simp [Nat.succ_mul]
  exact this (n + 1)
set_option maxRecDepth 100000 in
theorem grid_small {n m : Nat} {p : Nat × Nat} (h : p ∈ gridL n m) : p.1 ≤ n ∧ p.2 ≤ m := by
  unfold gridL at h
  obtain ⟨i, hi, h2⟩ := List.mem_flatMap.1 h
  obtain ⟨j, hj, rfl⟩ := List.mem_map.1 h2
  rw [List.mem_range] at hi hj
  exact ⟨by simp; omega, by simp; omega⟩

set_option maxRecDepth 100000 in
theorem filter_less {α : Type} (l : List α) (p q : α → Bool) (hpq : ∀ x ∈ l, q x = true → p x = true) : (l.filter q).length ≤ (l.filter p).length := by
  induction l with
  | nil => simp
  | cons a r ih =>
    have ih := ih fun x hx => hpq x (by simp [hx])
    have ha := hpq a (by simp)
    cases e : q a with
    | true => rw [List.filter_cons_of_pos (by simpa using e), List.filter_cons_of_pos (ha e)]; simp; exact ih
    | false =>
      rw [List.filter_cons_of_neg (by simpa using e)]
      cases e2 : p a with
      | true => rw [List.filter_cons_of_pos (by simpa using e2)]; simp; omega
      | false => rw [List.filter_cons_of_neg (by simpa using e2)]; exact ih
set_option maxRecDepth 100000 in
theorem filter_drop {α : Type} (l : List α) (p q : α → Bool) (hpq : ∀ x ∈ l, q x = true → p x = true) (a : α) (ha : a ∈ l) (h1 : p a = true) (h2 : q a = false) : (l.filter q).length + 1 ≤ (l.filter p).length := by
  induction l with
  | nil => cases ha
  | cons b r ih =>
    have hpq' : ∀ x ∈ r, q x = true → p x = true := fun x hx => hpq x (by simp [hx])
    rcases List.mem_cons.1 ha with rfl | h
    · rw [List.filter_cons_of_neg (by simpa using h2), List.filter_cons_of_pos h1]
      have := filter_less r p q hpq'
      simp; omega
    · have ih := ih hpq' h
      have hb := hpq b (by simp)
      cases e : q b with
      | true => rw [List.filter_cons_of_pos (by simpa using e), List.filter_cons_of_pos (hb e)]; simp; omega
      | false =>
        rw [List.filter_cons_of_neg (by simpa using e)]
        cases e2 : p b with
        | true => rw [List.filter_cons_of_pos (by simpa using e2)]; simp; omega
        | false => rw [List.filter_cons_of_neg (by simpa using e2)]; exact ih

end Go.Proofs.YtffhfllikamccaaGreatDoor
namespace Go.Proofs.YtffhfllikamccaaGreatDoor
open Go

theorem drop_some {α : Type} {xs : List α} {i : Nat} {p : α} (h : xs[i]? = some p) : xs.drop i = p :: xs.drop (i + 1) := by
  obtain ⟨hlt, rfl⟩ := List.getElem?_eq_some_iff.1 h
  exact List.drop_eq_getElem_cons hlt
theorem parted_skip {α : Type} (many : α → Bool) (one : α → α → Bool) (m : α) (ps is : List α) (hm : many m = true) (h : partedB many one ps is = true) : ∀ P : List α, partedB many one (m :: ps) (P ++ is) = true
  | [] => by
    cases is with
    | nil => simp only [List.nil_append, partedB, hm, h, Bool.and_self]
    | cons i r => simp only [List.nil_append, partedB, hm, h, if_true, Bool.true_or]
  | p :: P => by
    have ih := parted_skip many one m ps is hm h P
    simp only [List.cons_append, partedB, hm, if_true, ih, Bool.or_true]
theorem parted_rest {α : Type} (many : α → Bool) (one : α → α → Bool) (m : α) (hm : many m = true) (is : List α) : partedB many one [m] is = true := by
  have := parted_skip many one m [] [] hm (by simp [partedB]) is
  rwa [List.append_nil] at this
theorem plain_signs (b : UInt8) (h : plainB b = true) : (b == 42) = false ∧ (b == 63) = false ∧ (b == 47) = false := by
  refine ⟨?_, ?_, ?_⟩ <;> (rw [beq_eq_false_iff_ne]; rintro rfl; exact absurd h (by decide))
end Go.Proofs.YtffhfllikamccaaGreatDoor
namespace Go.Proofs.YtffhfllikamccaaGreatDoor
open Go Go.RowKit Go.Shelf Go.Proofs

theorem wrap_succ (n : Nat) (h : n ≤ 100000) : IntKind.i64.wrap ((n : Int) + 1) = ((n + 1 : Nat) : Int) := by
  rw [IntWalk.i64_in _ (by omega)]; rfl
structure Caught where
  bp : Nat
  bi : Nat
  bm : Nat
  bo : Nat
  bf : Nat
  bx : Nat
  mb : Nat
  ap : Option Addr
  cp : Nat
  ai : Option Addr
  ci : Nat
  gm : Nat
  go : Nat

def Reads {α : Type} (enc : α → Value) (W : World) (A : Option Addr) (xs : List α) : Prop := ∀ j x, xs[j]? = some x → ∃ b, A = some ⟨b, 0, none⟩ ∧ W.cell? ⟨b, j, none⟩ = some (enc x)

theorem boxed_ne_map {W : World} {B mb : Nat} {t : TypeId} {v : Value} (h : Boxed W B t v) (hm : ∃ es clock, W.heap[mb]? = some (.map es clock)) : B ≠ mb := by
  rintro rfl
  obtain ⟨es, clock, hm⟩ := hm
  rw [show W.heap[B]? = _ from h] at hm; cases hm
theorem cell_ne_map {W : World} {b mb j : Nat} {v : Value} (h : W.cell? ⟨b, j, none⟩ = some v) (hm : ∃ es clock, W.heap[mb]? = some (.map es clock)) : b ≠ mb := by
  rintro rfl
  obtain ⟨es, clock, hm⟩ := hm
  simp [World.cell?, hm] at h
theorem Reads.kept {α : Type} {enc : α → Value} {W W' : World} {A : Option Addr} {xs : List α} {mb : Nat} (h : Reads enc W A xs) (hg : W.grownBy W' (some mb)) (hm : ∃ es clock, W.heap[mb]? = some (.map es clock)) : Reads enc W' A xs := by
  intro j x hx
  obtain ⟨b, hA, hc⟩ := h j x hx
  exact ⟨b, hA, hg.cell hc (fun e => cell_ne_map hc hm (by injection e))⟩
theorem boxed_keptM {W W' : World} {B mb : Nat} {t : TypeId} {v : Value} (h : Boxed W B t v) (hg : W.grownBy W' (some mb)) (hm : ∃ es clock, W.heap[mb]? = some (.map es clock)) : Boxed W' B t v :=
  h.kept hg (fun e => boxed_ne_map h hm (by injection e))
theorem grown_trans {A B C : World} {row : Option Nat} (h : A.grownBy B row) (k : B.grownBy C row) : A.grownBy C row :=
  ⟨k.os.trans h.os, k.tape.trans h.tape, k.output.trans h.output, Nat.le_trans h.size k.size, fun i hi hne => (k.block i (Nat.lt_of_lt_of_le hi h.size) hne).trans (h.block i hi hne)⟩
theorem grown_below {A B : World} (row : Option Nat) (h : Below A.heap.size A B) : A.grownBy B row := ⟨h.os, h.tape, h.output, h.size, fun i hi _ => h.block i hi⟩
theorem cells_of_heap {W : World} {b t : Nat} {x y : Value} (h : W.heap[b]? = some (.cells #[x, y] t (0, 0))) : W.cell? ⟨b, 0, none⟩ = some x ∧ W.cell? ⟨b, 1, none⟩ = some y := by
  simp [World.cell?, h]
theorem partedB_nil {α : Type} (many : α → Bool) (one : α → α → Bool) (is : List α) : partedB many one [] is = is.isEmpty := by unfold partedB; rfl
theorem partedB_stop {α : Type} (many : α → Bool) (one : α → α → Bool) (p : α) (ps : List α) : partedB many one (p :: ps) [] = (many p && partedB many one ps []) := by conv => lhs; unfold partedB
theorem partedB_cons {α : Type} (many : α → Bool) (one : α → α → Bool) (p : α) (ps : List α) (i : α) (is : List α) :
    partedB many one (p :: ps) (i :: is) = if many p then partedB many one ps (i :: is) || partedB many one (p :: ps) is else one p i && partedB many one ps is := by conv => lhs; unfold partedB
end Go.Proofs.YtffhfllikamccaaGreatDoor
namespace Go.Proofs.YtffhfllikamccaaGreatDoor
open Go Go.RowKit Go.Shelf Go.Proofs
attribute [local go_sem] Oper.semAt_some

set_option maxHeartbeats 1000000 in
theorem refplain_any (c : Int) (w : World) (h0 : 0 ≤ c) (h1 : c ≤ 255) :
    Calls Tryz.prog 86 #[.int .u8 c] w fun e w' => e = .returned (.bool (plainI c)) ∧ w' = w := by
  go_enter Tryz.func86, Tryz.ntmps86
  go_wp2
  all_goals (go_ret; exact ⟨ret_bool (by unfold plainI; first | decide | (rw [Bool.eq_iff_iff]; simp <;> omega)), rfl⟩)

theorem refplain_byte (b : UInt8) (w : World) : Calls Tryz.prog 86 #[.int .u8 ↑b.toNat] w fun e w' => e = .returned (.bool (plainB b)) ∧ w' = w := by
  have := b.toNat_lt
  have h := refplain_any b.toNat w (by omega) (by omega)
  rwa [plainI_eq] at h

theorem nameB_eq (s : ByteArray) : nameB s.data.toList = (s.data.toList.all plainB && (decide (0 < s.size) && decide (s.size ≤ 30) && !(s.toList == [46]) && !(s.toList == [46, 46]))) := by
  have hl : s.data.toList.length = s.size := Array.length_toList
  have he : s.data.toList.isEmpty = !decide (0 < s.size) := by
    rw [← hl]; cases s.data.toList <;> simp
  have ho : okB [] = plainB := by funext c; unfold okB; simp
  unfold nameB speltB
  rw [he, ho, ByteArray.toList_eq, hl]
  cases s.data.toList.all plainB <;> cases decide (0 < s.size) <;> cases decide (s.size ≤ 30) <;> cases (s.data.toList == [46]) <;> cases (s.data.toList == [46, 46]) <;> rfl

set_option maxHeartbeats 2000000 in
theorem refname_any (s : ByteArray) (w : World) (hs : s.size ≤ maxLen) :
    Calls Tryz.prog 62 #[.string s] w fun e w' => e = .returned (.bool (nameB s.data.toList)) ∧ w' = w := by
  unfold maxLen at hs
  have hn := nameB_eq s
  obtain ⟨r, hr⟩ : ∃ r, nameB s.data.toList = r := ⟨_, rfl⟩
  rw [hr] at hn ⊢
  have HN := Lib.hid hn; clear hn hr
  go_enter Tryz.func62, Tryz.ntmps62
  go_wp2_with fail
  go_loop [3] (fun i => ∃ k : Nat, k ≤ s.size ∧ i = .int .i64 k ∧ Hid ((s.data.toList.take k).all plainB = true)) (fun i => s.size - (intOf i).toNat)
  case atStart => exact ⟨0, Nat.zero_le _, rfl, rfl⟩
  case round =>
    obtain ⟨k, hk, rfl, hall⟩ := hrel
    by_cases hlt : k < s.size
    · have hsn := all_snoc plainB s k hlt hall.out
      obtain ⟨b, hb⟩ : ∃ b, s[k] = b := ⟨_, rfl⟩
      have HS := Lib.hid hsn; clear hsn
      have HB := Lib.hid hb; clear hb
      cases hp : plainB b with
      | true =>
        have HP := Lib.hid hp; clear hp
        go_wp2_with (go_at_call 86; refine (refplain_byte _ _).mono ?_; rintro e w' ⟨rfl, rfl⟩; rw [HB.out, HP.out])
        go_round
        case rel => exact ⟨k + 1, by omega, by go_num, by unfold Hid; rw [HS.out, HB.out]; exact HP.out⟩
        case measure => simp [intOf]; omega
      | false =>
        have HP := Lib.hid hp; clear hp
        go_wp2_with (go_at_call 86; refine (refplain_byte _ _).mono ?_; rintro e w' ⟨rfl, rfl⟩; rw [HB.out, HP.out])
        go_ret
        exact ⟨ret_bool (by rw [HN.out, all_take_false _ s (k + 1) (by rw [HS.out, HB.out]; exact HP.out)]; rfl), rfl⟩
    · have ha : s.data.toList.all plainB = true := by
        have h := hall.out; rw [List.take_of_length_le (by rw [Array.length_toList]; show s.size ≤ k; omega)] at h; exact h
      have HN2 : Hid (r = (decide (0 < s.size) && decide (s.size ≤ 30) && !(s.toList == [46]) && !(s.toList == [46, 46]))) := by
        unfold Hid; rw [HN.out, ha]; rfl
      clear ha HN hall
      by_cases h0 : (0 : Int) < (s.size : Int)
      · have e0 : decide (0 < s.size) = true := decide_eq_true (by omega)
        by_cases h1 : (s.size : Int) ≤ 30
        · have e1 : decide (s.size ≤ 30) = true := decide_eq_true (by omega)
          cases h2 : (s.toList == [46]) with
          | true =>
            have g2 : (s.toList != [46]) = false := by unfold bne; rw [h2]; rfl
            have H := Lib.hid (show r = false by rw [HN2.out, e0, e1, h2]; rfl)
            clear HN2 e0 e1
            go_wp2_with fail
            go_ret
            exact ⟨ret_bool H.out.symm, rfl⟩
          | false =>
            have g2 : (s.toList != [46]) = true := by unfold bne; rw [h2]; rfl
            cases h3 : (s.toList == [46, 46]) with
            | true =>
              have g3 : (s.toList != [46, 46]) = false := by unfold bne; rw [h3]; rfl
              have H := Lib.hid (show r = false by rw [HN2.out, e0, e1, h2, h3]; rfl)
              clear HN2 e0 e1
              go_wp2_with fail
              go_ret
              exact ⟨ret_bool H.out.symm, rfl⟩
            | false =>
              have g3 : (s.toList != [46, 46]) = true := by unfold bne; rw [h3]; rfl
              have H := Lib.hid (show r = true by rw [HN2.out, e0, e1, h2, h3]; rfl)
              clear HN2 e0 e1
              go_wp2_with fail
              go_ret
              exact ⟨ret_bool H.out.symm, rfl⟩
        · have H := Lib.hid (show r = false by rw [HN2.out, e0, decide_eq_false (by omega)]; rfl)
          clear HN2 e0
          go_wp2_with fail
          go_ret
          exact ⟨ret_bool H.out.symm, rfl⟩
      · have H := Lib.hid (show r = false by rw [HN2.out, decide_eq_false (by omega)]; rfl)
        clear HN2
        go_wp2_with fail
        go_ret
        exact ⟨ret_bool H.out.symm, rfl⟩
end Go.Proofs.YtffhfllikamccaaGreatDoor
namespace Go.Proofs.YtffhfllikamccaaGreatDoor
open Go Go.RowKit Go.Shelf Go.Proofs
attribute [local go_sem] Oper.semAt_some

/-- No sign from f on, up to k. -/
def Clear (c : UInt8) (s : Bs) (f k : Nat) : Prop := ∀ j, f ≤ j → j < k → s[j]? ≠ some c
theorem splitL_clear (c : UInt8) : ∀ (l : Bs) (m : Nat), Clear c l 0 m → l[m]? = some c → splitL c l = l.take m :: splitL c (l.drop (m + 1))
  | [], m, _, h => by simp at h
  | b :: r, 0, _, h => by
    have : b = c := by simpa using h
    subst this
    simp [splitL]
  | b :: r, m + 1, hc, h => by
    have hb : (b == c) = false := by
      rw [beq_eq_false_iff_ne]; intro e
      exact hc 0 (Nat.le_refl _) (by omega) (by simp [e])
    have ih := splitL_clear c r m (fun j _ hj => by have := hc (j + 1) (by omega) (by omega); simpa using this) (by simpa using h)
    simp only [splitL, hb, Bool.false_eq_true, if_false, ih]
    simp
theorem splitL_all (c : UInt8) : ∀ (l : Bs) (m : Nat), Clear c l 0 m → l.length ≤ m → splitL c l = [l]
  | [], _, _, _ => rfl
  | b :: r, m, hc, hm => by
    have hm' : r.length + 1 ≤ m := by simpa using hm
    have hb : (b == c) = false := by
      rw [beq_eq_false_iff_ne]; intro e
      exact hc 0 (Nat.le_refl _) (by omega) (by simp [e])
    have ih := splitL_all c r (m - 1) (fun j _ hj => by have := hc (j + 1) (by omega) (by omega); simpa using this) (by omega)
    simp only [splitL, hb, Bool.false_eq_true, if_false, ih]

/-- What has been gathered, where k has been looked at, and f begins the next piece. -/
def Gathered (c : UInt8) (s : Bs) (k f : Nat) (P : List Bs) : Prop :=
  f ≤ k ∧ k ≤ s.length + 1 ∧ P.length ≤ f ∧ (k ≤ s.length → Clear c s f k ∧ splitL c s = P ++ splitL c (s.drop f)) ∧ (k = s.length + 1 → P = splitL c s)
theorem gathered_start (c : UInt8) (s : Bs) : Gathered c s 0 0 [] := ⟨Nat.le_refl _, by omega, Nat.le_refl _, fun _ => ⟨fun j _ h => by omega, rfl⟩, fun h => by omega⟩
theorem clear_drop (c : UInt8) (s : Bs) (f k : Nat) (h : Clear c s f k) : Clear c (s.drop f) 0 (k - f) := fun j _ hj => by
  rw [List.getElem?_drop]; exact h (f + j) (by omega) (by omega)
theorem gathered_hit (c : UInt8) (s : Bs) (k f : Nat) (P : List Bs) (h : Gathered c s k f P) (hk : s[k]? = some c) : Gathered c s (k + 1) (k + 1) (P ++ [(s.drop f).take (k - f)]) := by
  obtain ⟨h1, h2, h3, h4, _⟩ := h
  have hl : k < s.length := by
    rcases Nat.lt_or_ge k s.length with h | h
    · exact h
    · rw [List.getElem?_eq_none h] at hk; cases hk
  obtain ⟨h5, h6⟩ := h4 (by omega)
  refine ⟨Nat.le_refl _, by omega, by simp; omega, fun _ => ⟨fun j a b => by omega, ?_⟩, fun e => by omega⟩
  rw [h6, splitL_clear c (s.drop f) (k - f) (clear_drop c s f k h5) (by rw [List.getElem?_drop, show f + (k - f) = k by omega]; exact hk), List.drop_drop, show f + (k - f + 1) = k + 1 by omega]
  simp
theorem gathered_miss (c : UInt8) (s : Bs) (k f : Nat) (P : List Bs) (h : Gathered c s k f P) (hl : k < s.length) (hk : s[k]? ≠ some c) : Gathered c s (k + 1) f P := by
  obtain ⟨h1, h2, h3, h4, _⟩ := h
  obtain ⟨h5, h6⟩ := h4 (by omega)
  refine ⟨by omega, by omega, h3, fun _ => ⟨fun j a b => ?_, h6⟩, fun e => by omega⟩
  rcases Nat.lt_or_ge j k with hj | hj
  · exact h5 j a hj
  · rw [show j = k by omega]; exact hk
theorem gathered_end (c : UInt8) (s : Bs) (f : Nat) (P : List Bs) (h : Gathered c s s.length f P) : Gathered c s (s.length + 1) (s.length + 1) (P ++ [(s.drop f).take (s.length - f)]) := by
  obtain ⟨h1, h2, h3, h4, _⟩ := h
  obtain ⟨h5, h6⟩ := h4 (by omega)
  refine ⟨Nat.le_refl _, Nat.le_refl _, by simp; omega, fun e => by omega, fun _ => ?_⟩
  rw [h6, splitL_all c (s.drop f) (s.length - f) (clear_drop c s f _ h5) (by simp), List.take_of_length_le (by simp)]
theorem extract_piece (s : ByteArray) (f k : Nat) (_hf : f ≤ k) : s.extract f k = mkB ((s.data.toList.drop f).take (k - f)) := by
  rw [← data_mkB (s.extract f k)]
  congr 1
  rw [Lib.extract_data]
theorem strVs_snoc (P : List Bs) (s : ByteArray) (f k : Nat) (hf : f ≤ k) : strVs (P ++ [(s.data.toList.drop f).take (k - f)]) = strVs P ++ [.string (s.extract f k)] := by
  simp [strVs, strV, extract_piece s f k hf]

set_option maxRecDepth 100000 in
set_option maxHeartbeats 4000000 in
theorem refsplit_any (s : ByteArray) (c : UInt8) (w : World) (hs : s.size ≤ 1100000) :
    Calls Tryz.prog 61 #[.string s, .int .u8 ↑c.toNat] w fun e w' =>
      ∃ v, e = .returned v ∧ w'.ownsRow w.heap.size 9 1 v (splitL c s.data.toList).length (strVs (splitL c s.data.toList)) ∧ Below w.heap.size w w' := by
  obtain ⟨i0, hi, hz0, hz1, hz2⟩ := info_parts string_info
  have hl : s.data.toList.length = s.size := Array.length_toList
  go_enter Tryz.func61, Tryz.ntmps61
  go_wp2_with fail
  go_loopw [5, 6, 7] (fun v f i wr => ∃ (k g : Nat) (P : List Bs), k ≤ s.size + 1 ∧ g ≤ k ∧ P.length ≤ g ∧ f = .int .i64 g ∧ i = .int .i64 k ∧ wr.ownsRow w.heap.size 9 1 v P.length (strVs P) ∧ Below w.heap.size w wr ∧ Hid (Gathered c s.data.toList k g P)) (fun _ _ i _ => s.size + 1 - (intOf i).toNat)
  case atStart => exact ⟨0, 0, [], Nat.zero_le _, Nat.le_refl _, Nat.le_refl _, rfl, rfl, World.ownsRow_nil _ _ _ _, Below.refl _ _, gathered_start _ _⟩
  case round =>
    obtain ⟨k, g, P, hk, hg, hP, rfl, rfl, hrow, hbr, hga⟩ := hrel
    have hW : w.heap.size ≤ wr.heap.size := hbr.size
    by_cases h1 : k ≤ s.size
    · by_cases h2 : k = s.size
      · subst h2
        have he := gathered_end c s.data.toList g P (by rw [hl]; exact hga.out)
        rw [hl] at he
        have HE := Lib.hid he; clear he hga
        go_wp2_with (at_builtin; refine wpList_append_own _ rfl _ _ 25 rfl w.heap.size 9 i0 (.string ⟨#[]⟩) 1 16 Tryz.underlying25 hi hz0 hz1 hz2 rfl (by decide) _ _ _ rfl (hrow.alloc _) ⟨wr.heap.size, 0, none⟩ 1 1 [.string (s.extract g s.size)] rfl rfl (cell_one_new _ _ _) (by simp [Value.oneCell']) (by unfold maxLen; omega) (by omega) (by simp; omega) ?_; intro v' w1 hown' hgrow _)
        go_roundw
        case rel =>
          refine ⟨s.size + 1, s.size + 1, P ++ [(s.data.toList.drop g).take (s.size - g)], Nat.le_refl _, Nat.le_refl _, by rw [List.length_append]; simp; omega, by go_num, by go_num, ?_, hbr.trans (((Below.refl _ _).alloc hW _).grown hgrow (by simp; omega) fun j ej => (row_ge hrow ej).1), HE.out⟩
          rw [strVs_snoc P s g s.size hg, List.length_append]; exact hown'
        case measure => simp [intOf]
      · have hlt : k < s.size := by omega
        obtain ⟨b, hb⟩ : ∃ b, s[k] = b := ⟨_, rfl⟩
        have hk? : s.data.toList[k]? = some b := by
          rw [List.getElem?_eq_getElem (by rw [hl]; exact hlt), ← hb]; rfl
        by_cases hbc : b = c
        · subst hbc
          have he := gathered_hit b s.data.toList k g P hga.out hk?
          have HE := Lib.hid he; clear he hga
          have HK := Lib.hid hk?; clear hk?
          go_wp2_with (at_builtin; refine wpList_append_own _ rfl _ _ 25 rfl w.heap.size 9 i0 (.string ⟨#[]⟩) 1 16 Tryz.underlying25 hi hz0 hz1 hz2 rfl (by decide) _ _ _ rfl (hrow.alloc _) ⟨wr.heap.size, 0, none⟩ 1 1 [.string (s.extract g k)] rfl rfl (cell_one_new _ _ _) (by simp [Value.oneCell']) (by unfold maxLen; omega) (by omega) (by simp; omega) ?_; intro v' w1 hown' hgrow _)
          go_roundw
          case rel =>
            refine ⟨k + 1, k + 1, P ++ [(s.data.toList.drop g).take (k - g)], by omega, Nat.le_refl _, by simp; (try omega), by go_num, by go_num, ?_, hbr.trans (((Below.refl _ _).alloc hW _).grown hgrow (by simp; omega) fun j ej => (row_ge hrow ej).1), HE.out⟩
            rw [strVs_snoc P s g k hg, List.length_append]; exact hown'
          case measure => simp [intOf]; omega
        · have he := gathered_miss c s.data.toList k g P hga.out (by rw [hl]; exact hlt) (by rw [hk?]; exact fun e => hbc (Option.some.inj e))
          have hne : ¬ ((b.toNat : Int) = (c.toNat : Int)) := fun e => hbc (by rw [← UInt8.toNat_inj]; omega)
          have hne2 : ((b.toNat : Int) == (c.toNat : Int)) = false := by rw [beq_eq_false_iff_ne]; exact hne
          have hks : ((k : Int) == (s.size : Int)) = false := by rw [beq_eq_false_iff_ne]; omega
          have HE := Lib.hid he; clear he hga
          have HK := Lib.hid hk?; clear hk?
          go_wp2_with fail
          go_roundw
          case rel => exact ⟨k + 1, g, P, by omega, by omega, hP, rfl, by go_num, hrow, hbr, HE.out⟩
          case measure => simp [intOf]; omega
    · have h2 : k = s.size + 1 := by omega
      subst h2
      have he := hga.out.2.2.2.2 (by rw [hl])
      subst he
      go_wp2_with fail
      go_ret
      exact ⟨_, rfl, hrow, hbr⟩

set_option maxHeartbeats 4000000 in
theorem refright_any (s : ByteArray) (w : World) (hs : s.size ≤ 1100000) :
    Calls Tryz.prog 42 #[.string s] w fun e w' => e = .returned (.bool (rightB s.data.toList)) ∧ Below w.heap.size w w' := by
  have hl : s.data.toList.length = s.size := Array.length_toList
  have hr : rightB s.data.toList = (decide (s.size ≤ 100) && allTo nameB (piecesB 47 s) (piecesB 47 s).length) := by
    rw [allTo_all]; unfold rightB partsB; rw [hl]
  have hfa := allTo_false nameB 47 s
  have hlen := splitL_length 47 s.data.toList
  have hsm := piecesB_small 47 s
  have hpl : (piecesB 47 s).length = (splitL 47 s.data.toList).length := by unfold piecesB; simp
  obtain ⟨r, hrr⟩ : ∃ r, rightB s.data.toList = r := ⟨_, rfl⟩
  have hfa' : ∀ k, allTo nameB (piecesB 47 s) k = false → r = false := fun k h => by
    rw [← hrr]; unfold rightB partsB; rw [hfa k h]; simp
  rw [hrr] at hr ⊢
  obtain ⟨L, hL⟩ : ∃ L, splitL 47 s.data.toList = L := ⟨_, rfl⟩
  obtain ⟨X, hX⟩ : ∃ X, piecesB 47 s = X := ⟨_, rfl⟩
  have hLX : ∀ j x, X[j]? = some x → (strVs L)[j]? = some (Value.string x) := fun j x h => by
    rw [← hX] at h; rw [← hL]
    unfold piecesB at h
    unfold strVs strV
    rw [List.getElem?_map] at h ⊢
    cases e : (splitL 47 s.data.toList)[j]? with
    | none => rw [e] at h; cases h
    | some p => rw [e] at h; cases h; rfl
  rw [hX] at hr hfa' hpl hsm
  rw [hL] at hlen hpl
  have HR := Lib.hid hr; clear hr
  have HF := Lib.hid hfa'; clear hfa' hfa
  have HLX := Lib.hid hLX; clear hLX
  have HSM := Lib.hid hsm; clear hsm
  clear hX hrr
  go_enter Tryz.func42, Tryz.ntmps42
  go_wp2_with fail
  refine (refsplit_any s 47 _ hs).mono ?_
  rintro e w1 ⟨v, rfl, hrow, hb1⟩
  rw [hL] at hrow
  have hne : L.length ≠ 0 := fun e => splitL_ne 47 s.data.toList (by rw [hL]; exact List.eq_nil_of_length_eq_zero e)
  obtain ⟨n, hn⟩ : ∃ n, L.length = n + 1 := ⟨L.length - 1, by omega⟩
  rw [hn] at hrow
  obtain ⟨g, cap, rfl⟩ := ownsRow_succ hrow
  have hcell := hrow.cells (g := g) rfl
  have hcells : ∀ j x, X[j]? = some x → w1.cell? ⟨g, j, none⟩ = some (.string x) := fun j x h => by
    have := hcell j _ (HLX.out j x h)
    unfold Addr.add at this
    split at this
    · rename_i hz; subst hz; exact this
    · simpa using this
  have HC := Lib.hid hcells; clear hcells hcell hrow
  clear hL
  go_wp2_with fail
  go_loop [4] (fun i => ∃ k : Nat, k ≤ n + 1 ∧ i = .int .i64 k ∧ Hid (allTo nameB X k = true)) (fun i => n + 1 - (intOf i).toNat)
  case atStart => exact ⟨0, Nat.zero_le _, rfl, rfl⟩
  case round =>
    obtain ⟨k, hk, rfl, hall⟩ := hrel
    by_cases hlt : k < n + 1
    · have hkX : k < X.length := by omega
      obtain ⟨x, hx⟩ : ∃ x, X[k] = x := ⟨_, rfl⟩
      have hxk : X[k]? = some x := by rw [List.getElem?_eq_getElem hkX, hx]
      have hxs := HSM.out x (by rw [← hx]; exact List.getElem_mem _)
      have hcx := HC.out k x hxk
      have hsn := allTo_snoc nameB X k x hxk hall.out
      have HS := Lib.hid hsn; clear hsn
      clear hx
      have HX := Lib.hid hxk; clear hxk
      cases hp : nameB x.data.toList with
      | true =>
        have HP := Lib.hid hp; clear hp
        go_wp2_with (go_at_call 62; refine (refname_any x _ (by unfold maxLen; omega)).mono ?_; rintro e w' ⟨rfl, rfl⟩; rw [HP.out])
        go_round
        case rel => exact ⟨k + 1, by omega, by go_num, by unfold Hid; rw [HS.out]; exact HP.out⟩
        case measure => simp [intOf]; omega
      | false =>
        have HP := Lib.hid hp; clear hp
        go_wp2_with (go_at_call 62; refine (refname_any x _ (by unfold maxLen; omega)).mono ?_; rintro e w' ⟨rfl, rfl⟩; rw [HP.out])
        go_ret
        exact ⟨ret_bool (HF.out (k + 1) (by rw [HS.out]; exact HP.out)).symm, hb1⟩
    · have hk2 : k = X.length := by omega
      have hr2 : r = decide ((s.size : Int) ≤ 100) := by
        have := hall.out; rw [hk2] at this
        rw [HR.out, this, Bool.and_true, Bool.eq_iff_iff]; simp; omega
      have H2 := Lib.hid hr2; clear hr2
      clear HR
      go_wp2_with fail
      go_ret
      exact ⟨ret_bool H2.out.symm, hb1⟩
end Go.Proofs.YtffhfllikamccaaGreatDoor
namespace Go.Proofs.YtffhfllikamccaaGreatDoor
open Go Go.RowKit Go.Shelf Go.Proofs

/-- The cells of a slice of strings, from block g on, read L. -/
def RowS (g : Nat) (L : List Bs) (w : World) : Prop := ∀ j p, L[j]? = some p → w.cell? ⟨g, j, none⟩ = some (.string (mkB p))
theorem rowS_of {w : World} {b g n cap : Nat} {L : List Bs} (h : w.ownsRow b 9 1 (.slice (some ⟨g, 0, none⟩) n cap) n (strVs L)) : RowS g L w := fun j p hp => by
  have := h.cells (g := g) rfl j (.string (mkB p)) (by unfold strVs strV; rw [List.getElem?_map, hp]; rfl)
  unfold Addr.add at this
  split at this
  · rename_i hz; subst hz; exact this
  · simpa using this

theorem RowS.below {n : Nat} {w w' : World} {g : Nat} {L : List Bs} (h : RowS g L w) (hb : Below n w w') (hg : g < n) : RowS g L w' := fun j p hp => (hb.cell (p := ⟨g, j, none⟩) hg).trans (h j p hp)
theorem names_row {w : World} {b n : Nat} {v : Value} {L : List Bs} (h : w.ownsRow b 9 1 v n (strVs L)) (hn : n ≠ 0) : ∃ g cap, v = .slice (some ⟨g, 0, none⟩) n cap ∧ RowS g L w ∧ b ≤ g ∧ g < w.heap.size := by
  cases n with
  | zero => exact absurd rfl hn
  | succ k =>
    obtain ⟨g, cap, rfl⟩ := ownsRow_succ h
    obtain ⟨h1, cur, h2⟩ := row_ge h rfl
    exact ⟨g, cap, rfl, rowS_of h, h1, (Array.getElem?_eq_some_iff.1 h2).1⟩
end Go.Proofs.YtffhfllikamccaaGreatDoor
namespace Go.Proofs.YtffhfllikamccaaGreatDoor
open Go

theorem parted_nil_one {α : Type} (many : α → Bool) (one : α → α → Bool) (p : α) (hp : many p = false) : ∀ P : List α, partedB many one (P ++ [p]) [] = false
  | [] => by simp [partedB, hp]
  | q :: P => by
    have ih := parted_nil_one many one p hp P
    simp only [List.cons_append, partedB, ih, Bool.and_false]
theorem parted_nil_many {α : Type} (many : α → Bool) (one : α → α → Bool) (p : α) (hp : many p = true) : ∀ P : List α, partedB many one (P ++ [p]) [] = partedB many one P []
  | [] => by simp [partedB, hp]
  | q :: P => by
    have ih := parted_nil_many many one p hp P
    simp only [List.cons_append, partedB, ih]
theorem parted_snoc_one {α : Type} (many : α → Bool) (one : α → α → Bool) (p x : α) (hp : many p = false) : ∀ P I : List α, partedB many one (P ++ [p]) (I ++ [x]) = (partedB many one P I && one p x) := by
  intro P
  induction P with
  | nil =>
    intro I
    cases I with
    | nil => simp [partedB, hp]
    | cons i J =>
      have h : partedB many one [] (J ++ [x]) = false := by rw [partedB]; cases J <;> rfl
      simp only [List.nil_append, List.cons_append, partedB, hp, Bool.false_eq_true, if_false]
      cases J <;> simp
  | cons q P ih =>
    intro I
    induction I with
    | nil =>
      have h1 := ih []
      have h2 := parted_nil_one many one p hp P
      simp only [List.nil_append] at h1
      simp only [List.nil_append, List.cons_append, partedB, h1, h2]
      cases many q <;> simp
    | cons i J ihJ =>
      have h1 := ih (i :: J)
      have h2 := ih J
      simp only [List.cons_append] at h1 ihJ
      simp only [List.cons_append, partedB, h1, h2, ihJ]
      cases many q <;> cases one p x <;> simp
theorem parted_snoc_many {α : Type} (many : α → Bool) (one : α → α → Bool) (p x : α) (hp : many p = true) : ∀ P I : List α, partedB many one (P ++ [p]) (I ++ [x]) = (partedB many one P (I ++ [x]) || partedB many one (P ++ [p]) I) := by
  intro P
  induction P with
  | nil =>
    intro I
    rw [List.nil_append, parted_rest many one p hp, parted_rest many one p hp, Bool.or_true]
  | cons q P ih =>
    intro I
    induction I with
    | nil =>
      have h1 := ih []
      have h2 := parted_nil_many many one p hp P
      simp only [List.nil_append] at h1
      simp only [List.nil_append, List.cons_append, partedB, h1, h2]
      cases many q <;> cases partedB many one P [x] <;> cases partedB many one P [] <;> simp
    | cons i J ihJ =>
      have h1 := ih (i :: J)
      have h2 := ih J
      simp only [List.cons_append] at h1 ihJ
      simp only [List.cons_append, partedB, h1, h2, ihJ]
      cases many q <;> simp only [Bool.false_eq_true, if_false, if_true]
      · cases one q i <;> simp
      · generalize partedB many one P (i :: (J ++ [x])) = a1
        generalize partedB many one (P ++ [p]) (i :: J) = a2
        generalize partedB many one (q :: P) (J ++ [x]) = a3
        generalize partedB many one (q :: (P ++ [p])) J = a4
        cases a1 <;> cases a2 <;> cases a3 <;> cases a4 <;> rfl

/-- What the document's answer reckons: how the first i patterns and the first k items fit. -/
def frontsB {α : Type} (many : α → Bool) (one : α → α → Bool) (ps is : List α) (i k : Nat) : Bool := partedB many one (ps.take i) (is.take k)
theorem fronts_none {α : Type} (many : α → Bool) (one : α → α → Bool) (ps is : List α) (k : Nat) (hk : k ≤ is.length) : frontsB many one ps is 0 k = decide (k = 0) := by
  unfold frontsB
  rw [List.take_zero, partedB]
  cases k with
  | zero => rfl
  | succ k =>
    have : is.take (k + 1) ≠ [] := fun e => by
      have := congrArg List.length e
      rw [List.length_take, List.length_nil] at this; omega
    cases e : is.take (k + 1) with
    | nil => exact absurd e this
    | cons a r => simp
theorem fronts_many_zero {α : Type} (many : α → Bool) (one : α → α → Bool) (ps is : List α) (i : Nat) (p : α) (h : ps[i]? = some p) (hp : many p = true) : frontsB many one ps is (i + 1) 0 = frontsB many one ps is i 0 := by
  unfold frontsB
  rw [List.take_add_one, h, Option.toList_some, List.take_zero, parted_nil_many many one p hp]
theorem fronts_many {α : Type} (many : α → Bool) (one : α → α → Bool) (ps is : List α) (i k : Nat) (p : α) (h : ps[i]? = some p) (hp : many p = true) (hk : k < is.length) : frontsB many one ps is (i + 1) (k + 1) = (frontsB many one ps is i (k + 1) || frontsB many one ps is (i + 1) k) := by
  unfold frontsB
  have hx : is[k]? = some is[k] := List.getElem?_eq_getElem hk
  rw [List.take_add_one (l := ps), h, Option.toList_some, List.take_add_one (l := is), hx, Option.toList_some, parted_snoc_many many one p _ hp]
theorem fronts_one_zero {α : Type} (many : α → Bool) (one : α → α → Bool) (ps is : List α) (i : Nat) (p : α) (h : ps[i]? = some p) (hp : many p = false) : frontsB many one ps is (i + 1) 0 = false := by
  unfold frontsB
  rw [List.take_add_one, h, Option.toList_some, List.take_zero, parted_nil_one many one p hp]
theorem fronts_one {α : Type} (many : α → Bool) (one : α → α → Bool) (ps is : List α) (i k : Nat) (p x : α) (h : ps[i]? = some p) (hp : many p = false) (hx : is[k]? = some x) : frontsB many one ps is (i + 1) (k + 1) = (frontsB many one ps is i k && one p x) := by
  unfold frontsB
  rw [List.take_add_one (l := ps), h, Option.toList_some, List.take_add_one (l := is), hx, Option.toList_some, parted_snoc_one many one p _ hp]
theorem fronts_all {α : Type} (many : α → Bool) (one : α → α → Bool) (ps is : List α) : frontsB many one ps is ps.length is.length = partedB many one ps is := by
  unfold frontsB; rw [List.take_length, List.take_length]
end Go.Proofs.YtffhfllikamccaaGreatDoor
namespace Go.Proofs.YtffhfllikamccaaGreatDoor
open Go Go.RowKit Go.Shelf Go.Proofs
attribute [local go_sem] Oper.semAt_some

theorem contains_two (s : Bs) : Lib.contains s [42, 42] = true ↔ ∃ j : Nat, s[j]? = some (42 : UInt8) ∧ s[j + 1]? = some (42 : UInt8) := by
  have hocc : ∀ i, Lib.occAt s [42, 42] i = true ↔ (s[i]? = some (42 : UInt8) ∧ s[i + 1]? = some (42 : UInt8)) := fun i => by
    unfold Lib.occAt
    rw [List.isPrefixOf_iff_prefix]
    constructor
    · rintro ⟨t, ht⟩
      have h0 : (s.drop i)[0]? = some 42 := by rw [← ht]; rfl
      have h1 : (s.drop i)[1]? = some 42 := by rw [← ht]; rfl
      rw [List.getElem?_drop] at h0 h1
      exact ⟨h0, h1⟩
    · rintro ⟨h0, h1⟩
      refine ⟨s.drop (i + 2), ?_⟩
      rw [drop_some h0, drop_some h1]; rfl
  unfold Lib.contains
  rw [decide_eq_true_eq]
  rcases Lib.index_spec s [42, 42] with ⟨h1, h2⟩ | ⟨i, h1, _, h3, _⟩
  · constructor
    · intro h; omega
    · rintro ⟨j, hj⟩
      have hl := (List.getElem?_eq_some_iff.1 hj.1).1
      have := h2 j (by omega)
      rw [(hocc j).2 hj] at this; cases this
  · constructor
    · intro _; exact ⟨i, (hocc i).1 h3⟩
    · intro _; omega

/-- What has been looked at, up to k, is fit for a pattern. -/
def FitTo (s : Bs) (k : Nat) : Prop := (s.take k).all (okB [42, 63]) = true ∧ ∀ j, j + 1 < k → ¬ (s[j]? = some 42 ∧ s[j + 1]? = some 42)
theorem fit_start (s : Bs) : FitTo s 0 := ⟨rfl, fun j h => by omega⟩
theorem fit_step (s : Bs) (k : Nat) (b : UInt8) (h : FitTo s k) (hb : s[k]? = some b) (hok : okB [42, 63] b = true) (h2 : ∀ j, k = j + 1 → ¬ (s[j]? = some 42 ∧ b = 42)) : FitTo s (k + 1) := by
  refine ⟨?_, fun j hj hh => ?_⟩
  · rw [List.take_add_one, hb, Option.toList_some, List.all_append, h.1]; simp [hok]
  · by_cases e : j + 1 < k
    · exact h.2 j e hh
    · obtain rfl : k = j + 1 := by omega
      exact h2 j rfl ⟨hh.1, by rw [hb] at hh; exact Option.some.inj hh.2⟩
theorem pat_bad (s : Bs) (k : Nat) (b : UInt8) (h0 : (s == [42, 42]) = false) (hb : s[k]? = some b) (h : okB [42, 63] b = false ∨ (∃ j, k = j + 1 ∧ s[j]? = some 42 ∧ b = 42)) : patB s = false := by
  unfold patB
  rw [h0, Bool.false_or]
  rcases h with h | ⟨j, rfl, h1, rfl⟩
  · have : s.all (okB [42, 63]) = false := by
      cases e : s.all (okB [42, 63]) with
      | false => rfl
      | true => have := List.all_eq_true.1 e b (List.mem_of_getElem? hb); rw [h] at this; cases this
    unfold speltB; rw [this]; simp
  · rw [(contains_two s).2 ⟨j, h1, hb⟩]; simp
theorem pat_good (s : ByteArray) (h0 : (s.data.toList == [42, 42]) = false) (h : FitTo s.data.toList s.size) : patB s.data.toList = (decide (0 < s.size) && decide (s.size ≤ 30) && !(s.toList == [46]) && !(s.toList == [46, 46])) := by
  have hl : s.data.toList.length = s.size := Array.length_toList
  have he : s.data.toList.isEmpty = !decide (0 < s.size) := by
    rw [← hl]; cases s.data.toList <;> simp
  have ha : s.data.toList.all (okB [42, 63]) = true := by
    have := h.1; rwa [List.take_of_length_le (by omega)] at this
  have hc : Lib.contains s.data.toList [42, 42] = false := by
    cases e : Lib.contains s.data.toList [42, 42] with
    | false => rfl
    | true =>
      obtain ⟨j, hj⟩ := (contains_two _).1 e
      have := (List.getElem?_eq_some_iff.1 hj.2).1
      exact absurd hj (h.2 j (by omega))
  unfold patB speltB
  rw [h0, hc, ha, he, hl, ByteArray.toList_eq]
  cases decide (0 < s.size) <;> cases decide (s.size ≤ 30) <;> cases (s.data.toList == [46]) <;> cases (s.data.toList == [46, 46]) <;> rfl

theorem byte_tests (b : UInt8) : okB [42, 63] b = (plainB b || ((b.toNat : Int) == 42) || ((b.toNat : Int) == 63)) := by
  have h : ∀ k : UInt8, (b == k) = ((b.toNat : Int) == (k.toNat : Int)) := fun k => by
    rw [Bool.eq_iff_iff, beq_iff_eq, beq_iff_eq, ← UInt8.toNat_inj]; omega
  have h1 : ((b.toNat : Int) == 42) = (b == 42) := (h 42).symm
  have h2 : ((b.toNat : Int) == 63) = (b == 63) := (h 63).symm
  rw [h1, h2]
  unfold okB
  simp only [List.contains_cons, List.contains_nil, Bool.or_false, Bool.or_assoc]

end Go.Proofs.YtffhfllikamccaaGreatDoor
namespace Go.Proofs.YtffhfllikamccaaGreatDoor
open Go Go.RowKit Go.Shelf Go.Proofs
attribute [local go_sem] Oper.semAt_some

theorem underL_parts (s d : ByteArray) (hd : d.toList ≠ []) (hl : d.size < s.size) :
    underL s.data.toList d.data.toList = (((s.extract 0 d.size).toList == d.toList) && (((s[d.size]'hl).toNat : Int) == 47)) := by
  have e1 : d.data.toList.length = d.size := Array.length_toList
  have e2 : s.data.toList.length = s.size := Array.length_toList
  have he : d.data.toList.isEmpty = false := by rw [ByteArray.toList_eq] at hd; simpa using hd
  have hk : s.data.toList[d.size]? = some s[d.size] := by rw [List.getElem?_eq_getElem (by omega)]; rfl
  have hsp := drop_some hk
  unfold underL
  rw [he, Bool.false_or, ByteArray.toList_eq, ByteArray.toList_eq, Lib.extract_data, Bool.eq_iff_iff, List.isPrefixOf_iff_prefix, Bool.and_eq_true, beq_iff_eq, beq_iff_eq]
  have h47 : (s[d.size].toNat : Int) = 47 ↔ s[d.size] = 47 := by
    rw [← UInt8.toNat_inj]; show _ ↔ _ = 47; omega
  rw [h47]
  simp only [List.drop_zero, Nat.sub_zero]
  constructor
  · rintro ⟨t, ht⟩
    have h1 : s.data.toList.take d.size = d.data.toList := by rw [← ht, ← e1]; simp
    refine ⟨h1, ?_⟩
    have : s.data.toList[d.size]? = some 47 := by rw [← ht, ← e1]; simp
    rw [hk] at this; exact Option.some.inj this
  · rintro ⟨h1, h2⟩
    refine ⟨s.data.toList.drop (d.size + 1), ?_⟩
    conv => rhs; rw [← List.take_append_drop d.size s.data.toList, hsp, h1, h2]
    simp

set_option maxHeartbeats 2000000 in
theorem refunderL_any (s d : ByteArray) (w : World) (_hs : s.size ≤ 1000000) (hd : d.size ≤ 1000000) :
    Calls Tryz.prog 52 #[.string s, .string d] w fun e w' => e = .returned (.bool (underL s.data.toList d.data.toList)) ∧ w' = w := by
  by_cases h1 : d.toList = []
  · have g1 : d.toList.isEmpty = true := by simp [h1]
    have hr : underL s.data.toList d.data.toList = true := by unfold underL; rw [← ByteArray.toList_eq d, h1]; rfl
    have HR := Lib.hid hr; clear hr h1
    go_enter Tryz.func52, Tryz.ntmps52
    go_wp2_with fail
    go_ret
    exact ⟨ret_bool HR.out.symm, rfl⟩
  · have g1 : d.toList.isEmpty = false := by simpa using h1
    by_cases h2 : d.size < s.size
    · have hr := underL_parts s d h1 h2
      have h3 : (d.size : Int) < (s.size : Int) := by omega
      obtain ⟨b, hb⟩ : ∃ b, s[d.size] = b := ⟨_, rfl⟩
      rw [hb] at hr
      cases c1 : ((s.extract 0 d.size).toList == d.toList) with
      | false =>
        rw [c1] at hr
        have HR := Lib.hid hr; clear hr
        clear h1
        go_enter Tryz.func52, Tryz.ntmps52
        go_wp2_with fail
        go_ret
        exact ⟨ret_bool (by rw [HR.out]; rfl), rfl⟩
      | true =>
        cases c2 : ((b.toNat : Int) == 47) with
        | false =>
          rw [c1, c2] at hr
          have HR := Lib.hid hr; clear hr
          clear h1
          go_enter Tryz.func52, Tryz.ntmps52
          go_wp2_with fail
          go_ret
          exact ⟨ret_bool (by rw [HR.out]; rfl), rfl⟩
        | true =>
          rw [c1, c2] at hr
          have HR := Lib.hid hr; clear hr
          clear h1
          go_enter Tryz.func52, Tryz.ntmps52
          go_wp2_with fail
          go_ret
          exact ⟨ret_bool (by rw [HR.out]; rfl), rfl⟩
    · have hr : underL s.data.toList d.data.toList = false := by
        have e1 : d.data.toList.length = d.size := Array.length_toList
        have e2 : s.data.toList.length = s.size := Array.length_toList
        have he : d.data.toList.isEmpty = false := by rw [ByteArray.toList_eq] at h1; simpa using h1
        unfold underL
        rw [he, Bool.false_or]
        cases e : (d.data.toList ++ [47]).isPrefixOf s.data.toList with
        | false => rfl
        | true =>
          have := (List.isPrefixOf_iff_prefix.1 e).length_le
          simp only [List.length_append, List.length_cons, List.length_nil] at this
          omega
      have h3 : ¬ ((d.size : Int) < (s.size : Int)) := by omega
      have h4 : (s.size : Int) ≤ (d.size : Int) := by omega
      have HR := Lib.hid hr; clear hr h1
      go_enter Tryz.func52, Tryz.ntmps52
      go_wp2_with fail
      go_ret
      exact ⟨ret_bool HR.out.symm, rfl⟩
end Go.Proofs.YtffhfllikamccaaGreatDoor
namespace Go.Proofs.YtffhfllikamccaaGreatDoor
open Go Go.RowKit Go.Shelf Go.Proofs
attribute [local go_sem] Oper.semAt_some

theorem fls_take_eq {a b : List FX} {k : Nat} {x y : FX} (h : (flsX a).take k = (flsX b).take k) (hx : a[k]? = some x) (hy : b[k]? = some y) (h1 : (x.p.toList == y.p.toList) = true) (h2 : (x.b == y.b) = true) : (flsX a).take (k + 1) = (flsX b).take (k + 1) := by
  rw [List.take_add_one, List.take_add_one, h, flsX_getElem?, flsX_getElem?, hx, hy]
  rw [beq_iff_eq, ByteArray.toList_eq, ByteArray.toList_eq] at h1
  have e : x.fl = y.fl := Prod.ext h1 (beq_iff_eq.1 h2)
  show _ ++ (some x.fl).toList = _ ++ (some y.fl).toList
  rw [e]
theorem fls_ne_at {a b : List FX} {k : Nat} {x y : FX} (hx : a[k]? = some x) (hy : b[k]? = some y) (h : (x.p.toList == y.p.toList) = false ∨ (x.b == y.b) = false) : decide (flsX a = flsX b) = false := decide_eq_false fun e => by
  have e2 : (flsX a)[k]? = (flsX b)[k]? := by rw [e]
  rw [flsX_getElem?, flsX_getElem?, hx, hy] at e2
  have e3 : x.fl = y.fl := Option.some.inj e2
  rcases h with h | h
  · rw [beq_eq_false_iff_ne, ByteArray.toList_eq, ByteArray.toList_eq] at h
    exact h (congrArg (·.1) e3)
  · rw [beq_eq_false_iff_ne] at h
    exact h (congrArg (·.2) e3)

set_option maxRecDepth 100000 in
set_option maxHeartbeats 8000000 in
theorem refsame_any (a b : List FX) (A B : Option Addr) (ca cb : Nat) (w : World) (ha : TreeAt w A ca a) (hb : TreeAt w B cb b) (la : a.length ≤ 100000) (_lb : b.length ≤ 100000) :
    Calls Tryz.prog 20 #[.slice A a.length ca, .slice B b.length cb] w fun e w' => e = .returned (.bool (decide (flsX a = flsX b))) ∧ Below w.heap.size w w' := by
  have HA := Lib.hid ha; clear ha
  have HB := Lib.hid hb; clear hb
  by_cases hlen : a.length = b.length
  · have h0 : ((a.length : Int) == (b.length : Int)) = true := by rw [beq_iff_eq]; omega
    go_enter Tryz.func20, Tryz.ntmps20
    go_wp2_with fail
    go_loopw [5] (fun i wr => ∃ (k : Nat), k ≤ a.length ∧ i = .int .i64 k ∧ (flsX a).take k = (flsX b).take k ∧ Below w.heap.size w wr) (fun i _ => a.length - (intOf i).toNat)
    case atStart => exact ⟨0, Nat.zero_le _, rfl, rfl, Below.refl _ _⟩
    case round =>
      obtain ⟨k, hk, rfl, heq, hbr⟩ := hrel
      by_cases h1 : k < a.length
      · obtain ⟨x, hx⟩ : ∃ x, a[k]? = some x := ⟨_, List.getElem?_eq_getElem h1⟩
        obtain ⟨y, hy⟩ : ∃ y, b[k]? = some y := ⟨_, List.getElem?_eq_getElem (by omega)⟩
        have htA := HA.out.below hbr
        have htB := HB.out.below hbr
        obtain ⟨g, o, eA, hr⟩ := htA.row (by omega)
        subst eA
        obtain ⟨g', o', eB, hr'⟩ := htB.row (by omega)
        subst eB
        obtain ⟨c1, c2⟩ := hr k x hx
        obtain ⟨d1, d2⟩ := hr' k y hy
        have s1 := run_str wr.drew x.A x.c x.b ((htA.files x (List.mem_of_getElem? hx)).below (below_drew1 wr))
        have s2 := run_str wr.drew y.A y.c y.b ((htB.files y (List.mem_of_getElem? hy)).below (below_drew1 wr))
        have he := mkB_eq x.b y.b
        have k1 : (k : Int) < (a.length : Int) := by omega
        have k2 : (k : Int) < (b.length : Int) := by omega
        have wk : IntKind.i64.wrap (k : Int) = (k : Int) := IntWalk.i64_in _ (by omega)
        have HX := Lib.hid hx; clear hx
        have HY := Lib.hid hy; clear hy
        have HEQ := Lib.hid heq; clear heq
        clear hr hr' htA htB
        cases hq : (x.p.toList == y.p.toList) with
        | false =>
          have hf := fls_ne_at HX.out HY.out (.inl hq)
          have HF := Lib.hid hf; clear hf
          go_wp2_with fail
          go_region
          go_wp2_with fail
          go_ret
          exact ⟨by rw [HF.out]; rfl, hbr.drew⟩
        | true =>
          cases hq2 : (x.b == y.b) with
          | false =>
            have hf := fls_ne_at HX.out HY.out (.inr hq2)
            have HF := Lib.hid hf; clear hf
            rw [hq2] at he
            go_wp2_with fail
            go_region
            go_wp2_with fail
            go_ret
            exact ⟨by rw [HF.out]; rfl, hbr.drew⟩
          | true =>
            have hn := fls_take_eq HEQ.out HX.out HY.out hq hq2
            have HN := Lib.hid hn; clear hn
            rw [hq2] at he
            go_wp2_with fail
            go_region
            go_wp2_with fail
            go_roundw
            case rel => exact ⟨k + 1, by omega, by go_num, HN.out, hbr.drew⟩
            case measure => simp [intOf]; omega
      · obtain rfl : k = a.length := by omega
        have hf : decide (flsX a = flsX b) = true := decide_eq_true (by
          rw [List.take_of_length_le (by rw [flsX_length]; omega), List.take_of_length_le (by rw [flsX_length]; omega)] at heq
          exact heq)
        have HF := Lib.hid hf; clear hf heq
        go_wp2_with fail
        go_ret
        exact ⟨by rw [HF.out]; rfl, hbr⟩
  · have h0 : ((a.length : Int) == (b.length : Int)) = false := by rw [beq_eq_false_iff_ne]; omega
    have hf : decide (flsX a = flsX b) = false := decide_eq_false fun e => hlen (by have := congrArg List.length e; rwa [flsX_length, flsX_length] at this)
    have HF := Lib.hid hf; clear hf
    go_enter Tryz.func20, Tryz.ntmps20
    go_wp2_with fail
    go_ret
    exact ⟨by rw [HF.out]; rfl, Below.refl _ _⟩

/-- What Right has seen of the files ahead of k. -/
def SeenR (l : List FX) (k : Nat) : Prop := ∀ (i : Nat) (x : Fl), i < k → (flsX l)[i]? = some x → okF x = true ∧ ∀ (q : Nat) (y : Fl), q < i → (flsX l)[q]? = some y → aheadB y x = true

set_option maxRecDepth 100000 in
set_option maxHeartbeats 8000000 in
theorem reftright_any (l : List FX) (A : Option Addr) (c : Nat) (w : World) (h : TreeAt w A c l) (hs : SmallX l) :
    Calls Tryz.prog 31 #[.slice A l.length c] w fun e w' => e = .returned (.bool (rightT (flsX l))) ∧ Below w.heap.size w w' := by
  have HT := Lib.hid h; clear h
  have HS := Lib.hid hs.2
  have hl := hs.1
  clear hs
  go_enter Tryz.func31, Tryz.ntmps31
  go_wp2_with fail
  go_loopw [3, 4] (fun i _ wr => ∃ (k : Nat), k ≤ l.length ∧ i = .int .i64 k ∧ SeenR l k ∧ Below w.heap.size w wr) (fun i _ _ => l.length - (intOf i).toNat)
  case atStart => exact ⟨0, Nat.zero_le _, rfl, fun _ _ h => absurd h (Nat.not_lt_zero _), Below.refl _ _⟩
  case round =>
    obtain ⟨k, hk, rfl, hseen, hbr⟩ := hrel
    by_cases h1 : k < l.length
    · obtain ⟨x, hx⟩ : ∃ x, l[k]? = some x := ⟨_, List.getElem?_eq_getElem h1⟩
      obtain ⟨g, o, eA, hr⟩ := HT.out.row (by omega)
      subst eA
      have hr2 := hr.below hbr
      obtain ⟨c1, c2⟩ := hr2 k x hx
      have hgl : g < wr.heap.size := World.block_lt_of_cell? wr (a := ⟨g, o + k * 2, none⟩) c1
      have hxs := HS.out x (List.mem_of_getElem? hx)
      have hfx : (flsX l)[k]? = some x.fl := by rw [flsX_getElem?, hx]; rfl
      have k1 : (k : Int) < (l.length : Int) := by omega
      have wk : IntKind.i64.wrap (k : Int) = (k : Int) := IntWalk.i64_in _ (by omega)
      have HX := Lib.hid hx; clear hx
      have HFX := Lib.hid hfx; clear hfx
      have HSEEN := Lib.hid hseen; clear hseen
      have HR := Lib.hid hr2; clear hr2
      clear hr
      have HRR := Lib.hid (refright_any x.p wr (by omega))
      cases hrx : rightB x.p.data.toList with
      | false =>
        have hf := right_bad HFX.out hrx
        have HF := Lib.hid hf; clear hf
        have HRX := Lib.hid hrx; clear hrx
        go_wp2_with fail
        refine HRR.out.mono ?_
        rw [HRX.out]
        rintro e w1 ⟨rfl, hq1⟩
        go_wp2_with fail
        go_ret
        exact ⟨by rw [HF.out]; rfl, hbr.trans (hq1.mono hbr.size)⟩
      | true =>
        have HRX := Lib.hid hrx; clear hrx
        go_wp2_with fail
        refine HRR.out.mono ?_
        rw [HRX.out]
        rintro e w1 ⟨rfl, hq1⟩
        have c2 := (hq1.cell (p := ⟨g, o + k * 2 + 1, none⟩) hgl).trans c2
        have hb1 := hbr.trans (hq1.mono hbr.size)
        by_cases hz : 65536 < x.b.length
        · have hz2 : (65536 : Int) < (x.b.length : Int) := by omega
          have hf : rightT (flsX l) = false := right_long (by
            unfold longT
            rw [Bool.or_eq_true]
            exact .inr (List.any_eq_true.2 ⟨x.fl, List.mem_of_getElem? HFX.out, decide_eq_true hz⟩))
          have HF := Lib.hid hf; clear hf
          go_wp2_with fail
          go_ret
          exact ⟨by rw [HF.out]; rfl, hb1⟩
        · have hz2 : ¬ (65536 : Int) < (x.b.length : Int) := by omega
          have hok : okF x.fl = true := by
            unfold okF
            rw [Bool.and_eq_true, decide_eq_true_eq]
            exact ⟨HRX.out, by show x.b.length ≤ 65536; omega⟩
          have HOK := Lib.hid hok; clear hok
          have HR1 := Lib.hid (HR.out.below hq1)
          have HB1 := Lib.hid hb1; clear hb1
          go_wp2_with fail
          clear c1 c2 hq1
          go_loopw [4] (fun j wr => ∃ (m : Nat), m ≤ k ∧ j = .int .i64 m ∧ (∀ (q : Nat) (y : Fl), q < m → (flsX l)[q]? = some y → aheadB y x.fl = true) ∧ Below w1.heap.size w1 wr) (fun j _ => k - (intOf j).toNat)
          case atStart => exact ⟨0, Nat.zero_le _, rfl, fun _ _ h => absurd h (Nat.not_lt_zero _), Below.refl _ _⟩
          case round =>
            obtain ⟨m, hm, rfl, hah, hbi⟩ := hrel
            by_cases h2 : m < k
            · obtain ⟨y, hy⟩ : ∃ y, l[m]? = some y := ⟨_, List.getElem?_eq_getElem (by omega)⟩
              have hri := HR1.out.below hbi
              obtain ⟨c1, _⟩ := hri k x HX.out
              obtain ⟨d1, _⟩ := hri m y hy
              have hys := HS.out y (List.mem_of_getElem? hy)
              have hfy : (flsX l)[m]? = some y.fl := by rw [flsX_getElem?, hy]; rfl
              have m1 : (m : Int) < (l.length : Int) := by omega
              have m2 : (m : Int) < (k : Int) := by omega
              have wm : IntKind.i64.wrap (m : Int) = (m : Int) := IntWalk.i64_in _ (by omega)
              have HAH := Lib.hid hah; clear hah
              have HFY := Lib.hid hfy; clear hfy
              clear hri hy
              cases hlt : ltB y.p.data.toList x.p.data.toList with
              | false =>
                have hf := right_falls h2 HFX.out HFY.out (by unfold aheadB; show (ltB y.p.data.toList x.p.data.toList && _) = false; rw [hlt]; rfl)
                have HF := Lib.hid hf; clear hf
                have hq : Op.bytesLess y.p.toList x.p.toList = false := by rw [ByteArray.toList_eq, ByteArray.toList_eq]; exact hlt
                clear hlt
                go_wp2_with fail
                go_region
                go_wp2_with fail
                go_ret
                exact ⟨by rw [HF.out]; rfl, HB1.out.trans ((hbi.drew).mono HB1.out.size)⟩
              | true =>
                have hq : Op.bytesLess y.p.toList x.p.toList = true := by rw [ByteArray.toList_eq, ByteArray.toList_eq]; exact hlt
                have HU := Lib.hid (refunderL_any x.p y.p wr.drew (by omega) (by omega))
                have HLT := Lib.hid hlt; clear hlt
                go_wp2_with fail
                refine wp_region_held_drew (S := (fun w' => w'.cell? ⟨g, o + k * 2, none⟩ = some (.string x.p) ∧ w'.cell? ⟨g, o + m * 2, none⟩ = some (.string y.p))) (by kernel_rfl) ⟨c1, d1⟩ (fun hHeld => ?_)
                refine wpAnyH_take (i := 0) (v := ?vu0) rfl (by kernel_rfl) (by kernel_rfl) (by kernel_rfl) (fun _ _ _ h => h) (Or.inl ⟨by rfl, ?yu0⟩) (by assumption) ?ru0
                case yu0 =>
                  intro w hSw
                  (try dsimp only at hSw)
                  go_simp
                  first | done | with_reducible rfl
                try simp only [Act.put, List.getElem_toArray, List.getElem_cons_zero, List.setIfInBounds_toArray, List.set_cons_zero, List.set_cons_succ]
                refine wpAnyH_take (i := 1) (v := ?vu1) rfl (by kernel_rfl) (by kernel_rfl) (by kernel_rfl) (fun _ _ _ h => h) (Or.inl ⟨by rfl, ?yu1⟩) (by assumption) ?ru1
                case yu1 =>
                  intro w hSw
                  (try dsimp only at hSw)
                  go_simp
                  first | done | with_reducible rfl
                try simp only [Act.put, List.getElem_toArray, List.getElem_cons_zero, List.getElem_cons_succ, List.setIfInBounds_toArray, List.set_cons_zero, List.set_cons_succ]
                refine wpAnyH_take (i := 2) (v := ?vu2) rfl (by kernel_rfl) (by kernel_rfl) (by kernel_rfl) (fun _ _ _ h => h) (Or.inl ⟨by rfl, ?yu2⟩) (by assumption) ?ru2
                case yu2 =>
                  intro w hSw
                  (try dsimp only at hSw)
                  go_simp
                  first | done | with_reducible rfl
                try simp only [Act.put, List.getElem_toArray, List.getElem_cons_zero, List.getElem_cons_succ, List.setIfInBounds_toArray, List.set_cons_zero, List.set_cons_succ]
                refine wpAnyH_take (i := 3) (v := ?vu3) rfl (by kernel_rfl) (by kernel_rfl) (by kernel_rfl) (fun _ _ _ h => h) (Or.inl ⟨by rfl, ?yu3⟩) (by assumption) ?ru3
                case yu3 =>
                  intro w hSw
                  (try dsimp only at hSw)
                  go_simp
                  first | done | with_reducible rfl
                try simp only [Act.put, List.getElem_toArray, List.getElem_cons_zero, List.getElem_cons_succ, List.setIfInBounds_toArray, List.set_cons_zero, List.set_cons_succ]
                refine wpAnyH_take (i := 4) (v := ?vu4) rfl (by kernel_rfl) (by kernel_rfl) (by kernel_rfl) (fun _ _ _ h => h) (Or.inl ⟨by rfl, ?yu4⟩) (by assumption) ?ru4
                case yu4 =>
                  intro w hSw
                  (try dsimp only at hSw)
                  go_simp
                  first | done | with_reducible rfl
                try simp only [Act.put, List.getElem_toArray, List.getElem_cons_zero, List.getElem_cons_succ, List.setIfInBounds_toArray, List.set_cons_zero, List.set_cons_succ]
                refine wpAnyH_take (i := 5) (v := ?vu5) rfl (by kernel_rfl) (by kernel_rfl) (by kernel_rfl) (fun _ _ _ h => h) (Or.inl ⟨by rfl, ?yu5⟩) (by assumption) ?ru5
                case yu5 =>
                  intro w hSw
                  (try dsimp only at hSw)
                  go_simp
                  first | done | with_reducible rfl
                try simp only [Act.put, List.getElem_toArray, List.getElem_cons_zero, List.getElem_cons_succ, List.setIfInBounds_toArray, List.set_cons_zero, List.set_cons_succ]
                refine wpAnyH_take (i := 6) (v := ?vu6) rfl (by kernel_rfl) (by kernel_rfl) (by kernel_rfl) (fun _ _ _ h => h) (Or.inl ⟨by rfl, ?yu6⟩) (by assumption) ?ru6
                case yu6 =>
                  intro w hSw
                  (try dsimp only at hSw)
                  go_simp
                  first | done | with_reducible rfl
                try simp only [Act.put, List.getElem_toArray, List.getElem_cons_zero, List.getElem_cons_succ, List.setIfInBounds_toArray, List.set_cons_zero, List.set_cons_succ]
                refine wpAnyH_take (i := 7) (v := ?vu7) rfl (by kernel_rfl) (by kernel_rfl) (by kernel_rfl) (fun _ _ _ h => h) (Or.inl ⟨by rfl, ?yu7⟩) (by assumption) ?ru7
                case yu7 =>
                  intro w hSw
                  (try dsimp only at hSw)
                  go_simp
                  first | done | with_reducible rfl
                try simp only [Act.put, List.getElem_toArray, List.getElem_cons_zero, List.getElem_cons_succ, List.setIfInBounds_toArray, List.set_cons_zero, List.set_cons_succ]
                refine wpAnyH_take (i := 8) (v := ?vu8) rfl (by kernel_rfl) (by kernel_rfl) (by kernel_rfl) (fun _ _ _ h => h) (Or.inl ⟨by rfl, ?yu8⟩) (by assumption) ?ru8
                case yu8 =>
                  intro w hSw
                  (try dsimp only at hSw)
                  go_simp
                  first | done | with_reducible rfl
                try simp only [Act.put, List.getElem_toArray, List.getElem_cons_zero, List.getElem_cons_succ, List.setIfInBounds_toArray, List.set_cons_zero, List.set_cons_succ]
                refine wpAnyH_take (i := 9) (v := ?vu9) rfl (by kernel_rfl) (by kernel_rfl) (by kernel_rfl) (fun _ _ _ h => h) (Or.inl ⟨by rfl, ?yu9⟩) (by assumption) ?ru9
                case yu9 =>
                  intro w hSw
                  (try dsimp only at hSw)
                  go_simp
                  first | done | with_reducible rfl
                try simp only [Act.put, List.getElem_toArray, List.getElem_cons_zero, List.getElem_cons_succ, List.setIfInBounds_toArray, List.set_cons_zero, List.set_cons_succ]
                refine wpAnyH_take (i := 10) (v := ?vu10) rfl (by kernel_rfl) (by kernel_rfl) (by kernel_rfl) (fun _ _ _ h => h) (Or.inl ⟨by rfl, ?yu10⟩) (by assumption) ?ru10
                case yu10 =>
                  intro w hSw
                  (try dsimp only at hSw)
                  go_simp
                  first | done | with_reducible rfl
                try simp only [Act.put, List.getElem_toArray, List.getElem_cons_zero, List.getElem_cons_succ, List.setIfInBounds_toArray, List.set_cons_zero, List.set_cons_succ]
                refine wpAnyH_take (i := 11) (v := ?vu11) rfl (by kernel_rfl) (by kernel_rfl) (by kernel_rfl) (fun _ _ _ h => h) (Or.inl ⟨by rfl, ?yu11⟩) (by assumption) ?ru11
                case yu11 =>
                  intro w hSw
                  (try dsimp only at hSw)
                  go_simp
                  first | done | with_reducible rfl
                try simp only [Act.put, List.getElem_toArray, List.getElem_cons_zero, List.getElem_cons_succ, List.setIfInBounds_toArray, List.set_cons_zero, List.set_cons_succ]
                refine wpAnyH_take (i := 12) (v := ?vu12) rfl (by kernel_rfl) (by kernel_rfl) (by kernel_rfl) (fun _ _ _ h => h) (Or.inl ⟨by rfl, ?yu12⟩) (by assumption) ?ru12
                case yu12 =>
                  intro w hSw
                  (try dsimp only at hSw)
                  go_simp
                  first | done | with_reducible rfl
                try simp only [Act.put, List.getElem_toArray, List.getElem_cons_zero, List.getElem_cons_succ, List.setIfInBounds_toArray, List.set_cons_zero, List.set_cons_succ]
                refine wpAnyH_take (i := 13) (v := ?vu13) rfl (by kernel_rfl) (by kernel_rfl) (by kernel_rfl) (fun _ _ _ h => h) (Or.inl ⟨by rfl, ?yu13⟩) (by assumption) ?ru13
                case yu13 =>
                  intro w hSw
                  (try dsimp only at hSw)
                  go_simp
                  first | done | with_reducible rfl
                try simp only [Act.put, List.getElem_toArray, List.getElem_cons_zero, List.getElem_cons_succ, List.setIfInBounds_toArray, List.set_cons_zero, List.set_cons_succ]
                refine wpAnyH_take (i := 14) (v := ?vu14) rfl (by kernel_rfl) (by kernel_rfl) (by kernel_rfl) (fun _ _ _ h => h) (Or.inl ⟨by rfl, ?yu14⟩) (by assumption) ?ru14
                case yu14 =>
                  intro w hSw
                  (try dsimp only at hSw)
                  go_simp
                  first | done | with_reducible rfl
                try simp only [Act.put, List.getElem_toArray, List.getElem_cons_zero, List.getElem_cons_succ, List.setIfInBounds_toArray, List.set_cons_zero, List.set_cons_succ]
                refine wpAnyH_take (i := 15) (v := ?vu15) rfl (by kernel_rfl) (by kernel_rfl) (by kernel_rfl) (fun _ _ _ h => h) (Or.inl ⟨by rfl, ?yu15⟩) (by assumption) ?ru15
                case yu15 =>
                  intro w hSw
                  (try dsimp only at hSw)
                  go_simp
                  first | done | with_reducible rfl
                try simp only [Act.put, List.getElem_toArray, List.getElem_cons_zero, List.getElem_cons_succ, List.setIfInBounds_toArray, List.set_cons_zero, List.set_cons_succ]
                refine wpAnyH_take (i := 16) (v := ?vu16) rfl (by kernel_rfl) (by kernel_rfl) (by kernel_rfl) (fun _ _ _ h => h) (Or.inl ⟨by rfl, ?yu16⟩) (by assumption) ?ru16
                case yu16 =>
                  intro w hSw
                  (try dsimp only at hSw)
                  go_simp
                  first | done | with_reducible rfl
                try simp only [Act.put, List.getElem_toArray, List.getElem_cons_zero, List.getElem_cons_succ, List.setIfInBounds_toArray, List.set_cons_zero, List.set_cons_succ]
                refine wpAnyH_take (i := 17) (v := ?vu17) rfl (by kernel_rfl) (by kernel_rfl) (by kernel_rfl) (fun _ _ _ h => h) (Or.inl ⟨by rfl, ?yu17⟩) (by assumption) ?ru17
                case yu17 =>
                  intro w hSw
                  (try dsimp only at hSw)
                  go_simp
                  first | done | with_reducible rfl
                try simp only [Act.put, List.getElem_toArray, List.getElem_cons_zero, List.getElem_cons_succ, List.setIfInBounds_toArray, List.set_cons_zero, List.set_cons_succ]
                refine wpAnyH_take (i := 18) (v := ?vu18) rfl (by kernel_rfl) (by kernel_rfl) (by kernel_rfl) (fun _ _ _ h => h) (Or.inl ⟨by rfl, ?yu18⟩) (by assumption) ?ru18
                case yu18 =>
                  intro w hSw
                  (try dsimp only at hSw)
                  go_simp
                  first | done | with_reducible rfl
                try simp only [Act.put, List.getElem_toArray, List.getElem_cons_zero, List.getElem_cons_succ, List.setIfInBounds_toArray, List.set_cons_zero, List.set_cons_succ]
                refine wpAnyH_take (i := 19) (v := ?vu19) rfl (by kernel_rfl) (by kernel_rfl) (by kernel_rfl) (fun _ _ _ h => h) (Or.inl ⟨by rfl, ?yu19⟩) (by assumption) ?ru19
                case yu19 =>
                  intro w hSw
                  (try dsimp only at hSw)
                  go_simp
                  first | done | with_reducible rfl
                try simp only [Act.put, List.getElem_toArray, List.getElem_cons_zero, List.getElem_cons_succ, List.setIfInBounds_toArray, List.set_cons_zero, List.set_cons_succ]
                refine wpAnyH_take (i := 20) (v := ?vu20) rfl (by kernel_rfl) (by kernel_rfl) (by kernel_rfl) (fun _ _ _ h => h) (Or.inl ⟨by rfl, ?yu20⟩) (by assumption) ?ru20
                case yu20 =>
                  intro w hSw
                  (try dsimp only at hSw)
                  go_simp
                  first | done | with_reducible rfl
                try simp only [Act.put, List.getElem_toArray, List.getElem_cons_zero, List.getElem_cons_succ, List.setIfInBounds_toArray, List.set_cons_zero, List.set_cons_succ]
                refine wpAnyH_take (i := 21) (v := ?vu21) rfl (by kernel_rfl) (by kernel_rfl) (by kernel_rfl) (fun _ _ _ h => h) (Or.inl ⟨by rfl, ?yu21⟩) (by assumption) ?ru21
                case yu21 =>
                  intro w hSw
                  (try dsimp only at hSw)
                  go_simp
                  first | done | with_reducible rfl
                try simp only [Act.put, List.getElem_toArray, List.getElem_cons_zero, List.getElem_cons_succ, List.setIfInBounds_toArray, List.set_cons_zero, List.set_cons_succ]
                refine wpAnyH_ready (rs := [22]) (by kernel_rfl) (by simp) ?_
                refine AllReadyH.cons rfl (fun K hK => ?_) AllReadyH.nil
                go_simp
                refine HU.out.mono ?_
                rintro e w5 ⟨rfl, hw5⟩
                subst hw5
                go_wp2_with fail
                refine hK.out _ _ ⟨c1, d1⟩ (fun hHeld => ?_)
                clear hK K
                try simp only [Act.put, List.getElem_toArray, List.getElem_cons_zero, List.getElem_cons_succ, List.setIfInBounds_toArray, List.set_cons_zero, List.set_cons_succ]
                refine wpAnyH_take (i := 23) (v := ?vu23) rfl (by kernel_rfl) (by kernel_rfl) (by kernel_rfl) (fun _ _ _ h => h) (Or.inl ⟨by rfl, ?yu23⟩) (by assumption) ?ru23
                case yu23 =>
                  intro w hSw
                  (try dsimp only at hSw)
                  go_simp
                  first | done | with_reducible rfl
                try simp only [Act.put, List.getElem_toArray, List.getElem_cons_zero, List.getElem_cons_succ, List.setIfInBounds_toArray, List.set_cons_zero, List.set_cons_succ]
                refine wpAnyH_done (by kernel_rfl) ?_ _
                cases hun : underL x.p.data.toList y.p.data.toList with
                | true =>
                  have hf := right_falls h2 HFX.out HFY.out (by unfold aheadB; show (_ && !underL x.p.data.toList y.p.data.toList) = false; rw [hun, Bool.not_true, Bool.and_false])
                  have HF := Lib.hid hf; clear hf
                  go_wp2_with fail
                  go_ret
                  exact ⟨by rw [HF.out]; rfl, HB1.out.trans ((hbi.drew).mono HB1.out.size)⟩
                | false =>
                  have hn : aheadB y.fl x.fl = true := by unfold aheadB; show (ltB y.p.data.toList x.p.data.toList && !underL x.p.data.toList y.p.data.toList) = true; rw [HLT.out, hun]; rfl
                  have HN := Lib.hid hn; clear hn
                  go_wp2_with fail
                  go_roundw
                  case rel => exact ⟨m + 1, by omega, by go_num, fun q z hq hz => by
                    rcases Nat.lt_or_eq_of_le (Nat.lt_succ_iff.1 hq) with h | rfl
                    · exact HAH.out q z h hz
                    · have := HFY.out; rw [hz] at this; cases this; exact HN.out, hbi.drew⟩
                  case measure => simp [intOf]; omega
            · obtain rfl : m = k := by omega
              have HAH := Lib.hid hah; clear hah
              go_wp2_with fail
              go_roundw
              case rel => exact ⟨m + 1, by omega, by go_num, fun i z hi hz => by
                rcases Nat.lt_or_eq_of_le (Nat.lt_succ_iff.1 hi) with h | rfl
                · exact HSEEN.out i z h hz
                · have := HFX.out; rw [hz] at this; cases this; exact ⟨HOK.out, HAH.out⟩, HB1.out.trans (hbi.mono HB1.out.size)⟩
              case measure => simp [intOf]; omega
    · obtain rfl : k = l.length := by omega
      have hf : rightT (flsX l) = decide ((l.length : Int) ≤ 1000) := by
        by_cases hz : l.length ≤ 1000
        · rw [decide_eq_true (by omega), right_iff]
          refine ⟨by rw [flsX_length]; exact hz, fun i x hi => hseen i x ?_ hi⟩
          have := (List.getElem?_eq_some_iff.1 hi).1
          rwa [flsX_length] at this
        · rw [decide_eq_false (by omega)]
          exact right_long (by unfold longT; rw [Bool.or_eq_true]; exact .inl (decide_eq_true (by rw [flsX_length]; omega)))
      have HF := Lib.hid hf; clear hf hseen
      go_wp2_with fail
      go_ret
      exact ⟨by rw [HF.out]; rfl, hbr⟩
end Go.Proofs.YtffhfllikamccaaGreatDoor
namespace Go.Proofs.YtffhfllikamccaaGreatDoor
open Go Go.RowKit Go.Shelf Go.Proofs
attribute [local go_sem] Oper.semAt_some

/-- What the document's Apply answers: the tree may share the bytes of what was handed in. -/
def RefApplyPost (w : World) (r : Except Int (List Fl)) (e : Ending) (w' : World) : Prop := match r with
  | .error k => e = .returned (.tuple #[.slice none 0 0, .int .i64 k]) ∧ Below w.heap.size w w'
  | .ok f => ∃ A c l', e = .returned (.tuple #[.slice A l'.length c, .int .i64 0]) ∧ TreeAt w' A c l' ∧ flsX l' = f ∧ Below w.heap.size w w'
theorem refApply_err {w w' : World} {r : Except Int (List Fl)} {e : Ending} {k : Int} (h : r = .error k) (he : e = .returned (.tuple #[.slice none 0 0, .int .i64 k])) (hb : Below w.heap.size w w') : RefApplyPost w r e w' := by
  subst h; exact ⟨he, hb⟩
theorem refApply_ok {w w' : World} {r : Except Int (List Fl)} {e : Ending} {A : Option Addr} {c : Nat} {l' : List FX} (h : r = .ok (flsX l')) (he : e = .returned (.tuple #[.slice A l'.length c, .int .i64 0])) (ht : TreeAt w' A c l') (hb : Below w.heap.size w w') : RefApplyPost w r e w' := by
  subst h; exact ⟨A, c, l', he, ht, rfl, hb⟩

/-- Behind the first k changes: the list m. -/
structure RefInv (l : List FX) (D : List DX) (k : Nat) (m : List FX) : Prop where
  len : m.length ≤ l.length + k
  each : ∀ x ∈ m, x.p.size ≤ 1000000 ∧ x.b.length ≤ 1000000
  steps : stepsT (flsX l) (D.map DX.dl) = stepsT (flsX m) ((D.map DX.dl).drop k)
theorem RefInv.next {l m : List FX} {D : List DX} {k : Nat} {x : DX} (h : RefInv l D k m) (hx : D[k]? = some x) (h0 : refT (flsX m) x.dl = 0) (hs : x.p.size ≤ 1000000 ∧ x.b.length ≤ 1000000) : RefInv l D (k + 1) (chX m x) := by
  refine ⟨?_, fun y hy => ?_, ?_⟩
  · have := chX_le m x; have := h.len; omega
  · rcases chX_sub y hy with rfl | hy
    · exact hs
    · exact h.each y hy
  · rw [h.steps, stepsT_step (d := x.dl) (by rw [List.getElem?_map, hx]; rfl), stepT_ref, if_pos h0, chX_fls]
theorem RefInv.fail {l m : List FX} {D : List DX} {k : Nat} {x : DX} {n : Int} (h : RefInv l D k m) (hx : D[k]? = some x) (h0 : refT (flsX m) x.dl = n) (hn : n ≠ 0) : applyT (flsX l) (D.map DX.dl) = .error n := by
  subst h0
  unfold applyT
  rw [h.steps, stepsT_step (d := x.dl) (by rw [List.getElem?_map, hx]; rfl), stepT_ref, if_neg hn]
theorem RefInv.done {l m : List FX} {D : List DX} (h : RefInv l D D.length m) : applyT (flsX l) (D.map DX.dl) = if longT (flsX m) then .error 3 else if rightT (flsX m) then .ok (flsX m) else .error 4 := by
  unfold applyT
  rw [h.steps, List.drop_of_length_le (by rw [List.length_map]; exact Nat.le_refl _)]; rfl
theorem refT_bad {t : List Fl} {d : Dl} (h : (decide (d.k = 1 ∨ d.k = 2 ∨ d.k = 3) && rightB d.p) = false) : refT t d = 2 := by unfold refT; rw [h]; rfl
theorem refT_there {t : List Fl} {d : Dl} (h : rightB d.p = true) (hk : d.k = 1) (ht : hasT t d.p = true) : refT t d = 5 := by unfold refT; rw [h, hk, ht]; rfl
theorem refT_none {t : List Fl} {d : Dl} (h : rightB d.p = true) (hk : d.k = 2 ∨ d.k = 3) (ht : hasT t d.p = false) : refT t d = 6 := by unfold refT; rcases hk with hk | hk <;> (rw [h, hk, ht]; rfl)
theorem refT_good {t : List Fl} {d : Dl} (h : rightB d.p = true) (hk : d.k = 1 ∧ hasT t d.p = false ∨ (d.k = 2 ∨ d.k = 3) ∧ hasT t d.p = true) : refT t d = 0 := by
  unfold refT
  rcases hk with ⟨hk, ht⟩ | ⟨hk | hk, ht⟩ <;> (rw [h, hk, ht]; rfl)

/-- A block that holds a change's three cells. -/
structure BoxD (w : World) (g : Nat) (x : DX) : Prop where
  lt : g < w.heap.size
  c0 : w.cell? ⟨g, 0, none⟩ = some (.int .i64 x.k)
  c1 : w.cell? ⟨g, 1, none⟩ = some (.string x.p)
  c2 : w.cell? ⟨g, 2, none⟩ = some (.slice x.A x.b.length x.c)
theorem BoxD.below {w w' : World} {g : Nat} {x : DX} (h : BoxD w g x) (hb : Below w.heap.size w w') : BoxD w' g x :=
  ⟨Nat.lt_of_lt_of_le h.lt hb.size, (hb.cell (p := ⟨g, 0, none⟩) h.lt).trans h.c0, (hb.cell (p := ⟨g, 1, none⟩) h.lt).trans h.c1, (hb.cell (p := ⟨g, 2, none⟩) h.lt).trans h.c2⟩
theorem BoxD.new (w : World) (x : DX) (t : TypeId) : BoxD (w.alloc (.cells #[.int .i64 x.k, .string x.p, .slice x.A x.b.length x.c] t)) w.heap.size x := by
  have h := heap_alloc_new w (.cells #[.int .i64 x.k, .string x.p, .slice x.A x.b.length x.c] t)
  exact ⟨(Array.getElem?_eq_some_iff.1 h).1, cell_of_row _ _ 0 _ _ _ h, cell_of_row _ _ 1 _ _ _ h, cell_of_row _ _ 2 _ _ _ h⟩
theorem row_keep {base : Nat} {w w' : World} {A A' : Option Addr} {c c' : Nat} {m : List FX} {s : ByteArray} (h : FilesOwn base w' (.slice A' (keepX m s).length c') (keepX m s)) (ht : TreeAt w A c m) (hb : Below w.heap.size w w') : TreeAt w' A' c' (keepX m s) :=
  (h.tree fun y hy => (ht.files y (keepX_sub y hy)).below hb).2
theorem row_put {base : Nat} {w w' : World} {A A' : Option Addr} {c c' : Nat} {m : List FX} {f : FX} (h : FilesOwn base w' (.slice A' (putX m f).length c') (putX m f)) (ht : TreeAt w A c m) (hf : BytesAt w f.A f.b) (hb : Below w.heap.size w w') : TreeAt w' A' c' (putX m f) :=
  (h.tree fun y hy => by
    rcases putX_sub y hy with rfl | hy
    · exact hf.below hb
    · exact (ht.files y hy).below hb).2

set_option maxRecDepth 100000 in
set_option maxHeartbeats 8000000 in
theorem refapply_any (l : List FX) (D : List DX) (A B : Option Addr) (c d : Nat) (w : World) (h : TreeAt w A c l) (hs : SmallX l) (hl : l.length ≤ 70000) (hd : DelsAt w B d D) (hsd : SmallD D) :
    Calls Tryz.prog 24 #[.slice A l.length c, .slice B D.length d] w (RefApplyPost w (applyT (flsX l) (D.map DX.dl))) := by
  have HD := Lib.hid hd; clear hd
  have HSD := Lib.hid hsd; clear hsd
  have hdl := HSD.out.1
  go_enter Tryz.func24, Tryz.ntmps24
  go_wp2_with fail
  go_loopw [6, 7] (fun v i wr => ∃ (k : Nat) (m : List FX) (A' : Option Addr) (c' : Nat), k ≤ D.length ∧ v = .slice A' m.length c' ∧ i = .int .i64 k ∧ Hid (TreeAt wr A' c' m) ∧ Hid (RefInv l D k m) ∧ Below w.heap.size w wr) (fun _ i _ => D.length - (intOf i).toNat)
  case atStart => exact ⟨0, l, A, c, Nat.zero_le _, rfl, rfl, Lib.hid h, ⟨by omega, hs.2, rfl⟩, Below.refl _ _⟩
  case round =>
    obtain ⟨k, m, A', c', hk, rfl, rfl, HT, HI, hbr⟩ := hrel
    have hml : m.length ≤ 80000 := by have := HI.out.len; omega
    by_cases h1 : k < D.length
    · obtain ⟨x, hx⟩ : ∃ x, D[k]? = some x := ⟨_, List.getElem?_eq_getElem h1⟩
      obtain ⟨b, o, hB, hr⟩ := (HD.out.below hbr).row (by omega)
      subst hB
      obtain ⟨c1, c2, c3⟩ := hr k x hx
      have k1 : (k : Int) < (D.length : Int) := by omega
      have hxs := HSD.out.2 x (List.mem_of_getElem? hx)
      have HX := Lib.hid hx; clear hx
      clear hr
      have hbx : Below wr.heap.size wr (wr.alloc (.cells #[.int .i64 x.k, .string x.p, .slice x.A x.b.length x.c] 62)) := below_box _ _
      have xb0 := BoxD.new wr x 62
      have hbW := hbr.trans (hbx.mono hbr.size)
      have HRR := Lib.hid (refright_any x.p (wr.alloc (.cells #[.int .i64 x.k, .string x.p, .slice x.A x.b.length x.c] 62)) (by omega))
      have HBX := Lib.hid hbx; clear hbx
      have HB := Lib.hid hbW; clear hbW
      have HBR := Lib.hid hbr; clear hbr
      have XB0 := Lib.hid xb0; clear xb0
      by_cases hk1 : x.k < 1
      · have hbad : (decide (x.dl.k = 1 ∨ x.dl.k = 2 ∨ x.dl.k = 3) && rightB x.dl.p) = false := by
          show (decide (x.k = 1 ∨ x.k = 2 ∨ x.k = 3) && _) = false
          rw [decide_eq_false (show ¬ (x.k = 1 ∨ x.k = 2 ∨ x.k = 3) by omega)]; rfl
        have hd1 : decide (x.k < 1) = true := decide_eq_true hk1
        have hf := HI.out.fail HX.out (refT_bad hbad) (by decide : (2 : Int) ≠ 0)
        have HF := Lib.hid hf; clear hf
        go_wp2_with fail
        go_ret2
        exact refApply_err HF.out rfl HB.out
      · by_cases hk3 : 3 < x.k
        · have hbad : (decide (x.dl.k = 1 ∨ x.dl.k = 2 ∨ x.dl.k = 3) && rightB x.dl.p) = false := by
            show (decide (x.k = 1 ∨ x.k = 2 ∨ x.k = 3) && _) = false
            rw [decide_eq_false (show ¬ (x.k = 1 ∨ x.k = 2 ∨ x.k = 3) by omega)]; rfl
          have hf := HI.out.fail HX.out (refT_bad hbad) (by decide : (2 : Int) ≠ 0)
          have HF := Lib.hid hf; clear hf
          go_wp2_with fail
          go_ret2
          exact refApply_err HF.out rfl HB.out
        · have hkk : x.k = 1 ∨ x.k = 2 ∨ x.k = 3 := by omega
          go_wp2_with fail
          refine HRR.out.mono ?_
          rintro e w2 ⟨rfl, hq2⟩
          have xb2 := XB0.out.below hq2
          have hb2 : Below wr.heap.size wr w2 := HBX.out.trans (hq2.mono HBX.out.size)
          clear hq2
          cases hrx : rightB x.p.data.toList with
          | false =>
            have hbad : (decide (x.dl.k = 1 ∨ x.dl.k = 2 ∨ x.dl.k = 3) && rightB x.dl.p) = false := by
              show (_ && rightB x.p.data.toList) = false
              rw [hrx, Bool.and_false]
            have hf := HI.out.fail HX.out (refT_bad hbad) (by decide : (2 : Int) ≠ 0)
            have HF := Lib.hid hf; clear hf
            go_wp2_with fail
            go_ret2
            exact refApply_err HF.out rfl (HBR.out.trans (hb2.mono HBR.out.size))
          | true =>
            have HRX := Lib.hid hrx; clear hrx
            have e0 := xb2.c0
            have e1 := xb2.c1
            have hT2 := HT.out.below hb2
            have HFI := Lib.hid (reffind_any m A' c' x.p w2 hT2 (by omega))
            have HT2 := Lib.hid hT2; clear hT2
            go_wp2_with fail
            refine HFI.out.mono ?_
            rintro e w3 ⟨rfl, hq3⟩
            have xb3 := xb2.below hq3
            have hb3 := hb2.trans (hq3.mono hb2.size)
            have hT3 := HT2.out.below hq3
            have hbx3 := (HD.out.bytes x (List.mem_of_getElem? HX.out)).below (HBR.out.trans (hb3.mono HBR.out.size))
            have HT3 := Lib.hid hT3; clear hT3
            have HBX3 := Lib.hid hbx3; clear hbx3
            have e0 := xb3.c0
            have e1 := xb3.c1
            have e2 := xb3.c2
            have hbw3 := HBR.out.trans (hb3.mono HBR.out.size)
            have HBW3 := Lib.hid hbw3; clear hbw3
            clear hq3 hb2 xb2
            rcases place_get m x.p with ⟨p1, _, p3⟩ | ⟨j, y, p1, _, _, p3⟩
            · have P3 := Lib.hid p3; clear p3
              have hj : (0 : Int) ≤ -1 ↔ False := by decide
              rw [p1]
              clear p1
              rcases hkk with hK | hK | hK
              · rw [hK] at e0
                have HP := Lib.hid (refput_any m A' c' x.f w3 HT3.out (by omega))
                have h0 := refT_good HRX.out (.inl ⟨(show x.dl.k = 1 from hK), P3.out⟩)
                have H0 := Lib.hid h0; clear h0
                have hch : chX m x = putX m x.f := by unfold chX; rw [hK]; rfl
                have HCH := Lib.hid hch; clear hch
                go_wp2_with fail
                refine HP.out.mono ?_
                rintro e w4 ⟨v4, rfl, h4, hq4⟩
                obtain ⟨A4, c4, rfl⟩ := h4.slice
                have hT4 := row_put h4 HT3.out HBX3.out hq4
                have HT4 := Lib.hid hT4; clear hT4
                have hb4 := HBW3.out.trans (hq4.mono HBW3.out.size)
                clear h4 hq4
                go_wp2_with fail
                go_roundw
                case rel => exact ⟨k + 1, chX m x, A4, c4, by omega, by rw [HCH.out], by go_num, by rw [HCH.out]; exact HT4, Lib.hid (HI.out.next HX.out H0.out hxs), hb4⟩
                case measure => simp [intOf]; omega
              · rw [hK] at e0
                have hf := HI.out.fail HX.out (refT_none HRX.out (.inl (show x.dl.k = 2 from hK)) P3.out) (by decide : (6 : Int) ≠ 0)
                have HF := Lib.hid hf; clear hf
                go_wp2_with fail
                go_ret2
                exact refApply_err HF.out rfl HBW3.out
              · rw [hK] at e0
                have hf := HI.out.fail HX.out (refT_none HRX.out (.inr (show x.dl.k = 3 from hK)) P3.out) (by decide : (6 : Int) ≠ 0)
                have HF := Lib.hid hf; clear hf
                go_wp2_with fail
                go_ret2
                exact refApply_err HF.out rfl HBW3.out
            · have P3 := Lib.hid p3; clear p3
              have hj0 : ¬ ((j : Int) < 0) := by omega
              have hj1 : (0 : Int) ≤ (j : Int) := by omega
              rw [p1]
              clear p1
              rcases hkk with hK | hK | hK
              · rw [hK] at e0
                have hf := HI.out.fail HX.out (refT_there HRX.out (show x.dl.k = 1 from hK) P3.out) (by decide : (5 : Int) ≠ 0)
                have HF := Lib.hid hf; clear hf
                go_wp2_with fail
                go_ret2
                exact refApply_err HF.out rfl HBW3.out
              · rw [hK] at e0
                have HP := Lib.hid (refput_any m A' c' x.f w3 HT3.out (by omega))
                have h0 := refT_good HRX.out (.inr ⟨(.inl (show x.dl.k = 2 from hK)), P3.out⟩)
                have H0 := Lib.hid h0; clear h0
                have hch : chX m x = putX m x.f := by unfold chX; rw [hK]; rfl
                have HCH := Lib.hid hch; clear hch
                go_wp2_with fail
                refine HP.out.mono ?_
                rintro e w4 ⟨v4, rfl, h4, hq4⟩
                obtain ⟨A4, c4, rfl⟩ := h4.slice
                have hT4 := row_put h4 HT3.out HBX3.out hq4
                have HT4 := Lib.hid hT4; clear hT4
                have hb4 := HBW3.out.trans (hq4.mono HBW3.out.size)
                clear h4 hq4
                go_wp2_with fail
                go_roundw
                case rel => exact ⟨k + 1, chX m x, A4, c4, by omega, by rw [HCH.out], by go_num, by rw [HCH.out]; exact HT4, Lib.hid (HI.out.next HX.out H0.out hxs), hb4⟩
                case measure => simp [intOf]; omega
              · rw [hK] at e0
                have HP := Lib.hid (refdrop_any m A' c' x.p w3 HT3.out (by omega))
                have h0 := refT_good HRX.out (.inr ⟨(.inr (show x.dl.k = 3 from hK)), P3.out⟩)
                have H0 := Lib.hid h0; clear h0
                have hch : chX m x = keepX m x.p := by unfold chX; rw [hK]; rfl
                have HCH := Lib.hid hch; clear hch
                go_wp2_with fail
                refine HP.out.mono ?_
                rintro e w4 ⟨v4, rfl, h4, hq4⟩
                obtain ⟨A4, c4, rfl⟩ := h4.slice
                have hT4 := row_keep h4 HT3.out hq4
                have HT4 := Lib.hid hT4; clear hT4
                have hb4 := HBW3.out.trans (hq4.mono HBW3.out.size)
                clear h4 hq4
                go_wp2_with fail
                go_roundw
                case rel => exact ⟨k + 1, chX m x, A4, c4, by omega, by rw [HCH.out], by go_num, by rw [HCH.out]; exact HT4, Lib.hid (HI.out.next HX.out H0.out hxs), hb4⟩
                case measure => simp [intOf]; omega
    · obtain rfl : k = D.length := by omega
      have hdone := HI.out.done
      have HDN := Lib.hid hdone; clear hdone
      go_wp2_with fail
      go_loopw [10] (fun i wq => ∃ (q : Nat), q ≤ m.length ∧ i = .int .i64 q ∧ (0 < q → m.length ≤ 1000) ∧ (∀ (n : Nat) (y : FX), n < q → m[n]? = some y → y.b.length ≤ 65536) ∧ Below wr.heap.size wr wq) (fun i _ => m.length - (intOf i).toNat)
      case atStart => exact ⟨0, Nat.zero_le _, rfl, fun h => absurd h (Nat.lt_irrefl _), fun _ _ h => absurd h (Nat.not_lt_zero _), Below.refl _ _⟩
      case round =>
        obtain ⟨q, hq, rfl, hlen, hno, hbq⟩ := hrel
        have hbwq := hbr.trans (hbq.mono hbr.size)
        by_cases h2 : q < m.length
        · obtain ⟨y, hy⟩ : ∃ y, m[q]? = some y := ⟨_, List.getElem?_eq_getElem h2⟩
          obtain ⟨g, o, hA, hr⟩ := (HT.out.below hbq).row (by omega)
          subst hA
          obtain ⟨_, c2⟩ := hr q y hy
          have q1 : (q : Int) < (m.length : Int) := by omega
          have HY := Lib.hid hy; clear hy
          have HNO := Lib.hid hno; clear hno
          clear hr
          by_cases hz : 65536 < y.b.length
          · have hz2 : (65536 : Int) < (y.b.length : Int) := by omega
            have hlg : longT (flsX m) = true := by
              unfold longT
              rw [Bool.or_eq_true]
              exact .inr (List.any_eq_true.2 ⟨y.fl, List.mem_map.2 ⟨y, List.mem_of_getElem? HY.out, rfl⟩, decide_eq_true hz⟩)
            have hf := HDN.out
            rw [hlg, if_pos rfl] at hf
            have HF := Lib.hid hf; clear hf hlg
            go_wp2_with fail
            go_ret2
            exact refApply_err HF.out rfl hbwq
          · have hz2 : ¬ (65536 : Int) < (y.b.length : Int) := by omega
            by_cases hn : 1000 < m.length
            · have hn2 : (1000 : Int) < (m.length : Int) := by omega
              have hlg : longT (flsX m) = true := by
                unfold longT
                rw [Bool.or_eq_true]
                exact .inl (decide_eq_true (by rw [flsX_length]; exact hn))
              have hf := HDN.out
              rw [hlg, if_pos rfl] at hf
              have HF := Lib.hid hf; clear hf hlg
              go_wp2_with fail
              go_ret2
              exact refApply_err HF.out rfl hbwq
            · have hn2 : ¬ (1000 : Int) < (m.length : Int) := by omega
              go_wp2_with fail
              go_roundw
              case rel => exact ⟨q + 1, by omega, by go_num, fun _ => by omega, fun n z hn hz => by
                rcases Nat.lt_or_eq_of_le (Nat.lt_succ_iff.1 hn) with h | rfl
                · exact HNO.out n z h hz
                · have := HY.out; rw [hz] at this; cases this; omega, hbq⟩
              case measure => simp [intOf]; omega
        · obtain rfl : q = m.length := by omega
          have hlg : longT (flsX m) = false := by
            unfold longT
            rw [Bool.or_eq_false_iff, decide_eq_false_iff_not, flsX_length, List.any_eq_false]
            refine ⟨?_, fun z hz => ?_⟩
            · rcases Nat.eq_zero_or_pos m.length with h | h
              · omega
              · have := hlen h; omega
            · obtain ⟨y, hy, rfl⟩ := List.mem_map.1 hz
              obtain ⟨n, hn, rfl⟩ := List.mem_iff_getElem.1 hy
              have := hno n _ hn (List.getElem?_eq_getElem hn)
              simp only [decide_eq_true_eq]
              exact Nat.not_lt.2 this
          have hf := HDN.out
          rw [hlg, if_neg (by decide)] at hf
          have HF := Lib.hid hf; clear hf hlg hno hlen
          have hTq := HT.out.below hbq
          have HRT := Lib.hid (reftright_any m A' c' wr hTq ⟨by omega, HI.out.each⟩)
          have HTQ := Lib.hid hTq; clear hTq
          go_wp2_with fail
          refine HRT.out.mono ?_
          rintro e w5 ⟨rfl, hq5⟩
          have hb5 := hbwq.trans (hq5.mono hbwq.size)
          have hT5 := HTQ.out.below hq5
          have HT5 := Lib.hid hT5; clear hT5
          cases hrt : rightT (flsX m) with
          | false =>
            have hf := HF.out
            rw [hrt, if_neg (by decide)] at hf
            have HF2 := Lib.hid hf; clear hf hrt
            go_wp2_with fail
            go_ret2
            exact refApply_err HF2.out rfl hb5
          | true =>
            have hf := HF.out
            rw [hrt, if_pos rfl] at hf
            have HF2 := Lib.hid hf; clear hf hrt
            go_wp2_with fail
            go_ret2
            exact refApply_ok HF2.out rfl HT5.out hb5
end Go.Proofs.YtffhfllikamccaaGreatDoor
namespace Go.Proofs.YtffhfllikamccaaGreatDoor
open Go Go.RowKit Go.Shelf Go.Proofs
attribute [local go_sem] Oper.semAt_some

/-- A way for worlds to turn that leaves rows of files alone. -/
structure KRel (n : Nat) (K : World → World → Prop) : Prop where
  self : ∀ w, K w w
  back : ∀ {a b c : World}, n ≤ a.heap.size → Below a.heap.size a b → K b c → K a c
  rows : ∀ {a b : World}, K a b → ∀ (g : Nat) (cur : Array Value), a.heap[g]? = some (Obj.cells cur 65 (0, 0)) → b.heap[g]? = a.heap[g]?
structure StickT (n : Nat) (K : World → World → Prop) (w : World) (A : Option Addr) (c : Nat) (m : List FX) : Prop where
  rel : KRel n K
  le : n ≤ w.heap.size
  all : ∀ w', K w w' → TreeAt w' A c m
theorem StickT.now {n : Nat} {K : World → World → Prop} {w : World} {A : Option Addr} {c : Nat} {m : List FX} (h : StickT n K w A c m) : TreeAt w A c m := h.all w (h.rel.self w)
theorem StickT.below {n : Nat} {K : World → World → Prop} {w w' : World} {A : Option Addr} {c : Nat} {m : List FX} (h : StickT n K w A c m) (hb : Below w.heap.size w w') : StickT n K w' A c m :=
  ⟨h.rel, Nat.le_trans h.le hb.size, fun v hk => h.all v (h.rel.back h.le hb hk)⟩
theorem filesOwn_rel {n base : Nat} {K : World → World → Prop} {w w' : World} {v : Value} {l : List FX} (h : FilesOwn base w v l) (hr : KRel n K) (hk : K w w') : FilesOwn base w' v l :=
  ⟨h.1, h.2.imp (fun h => h) fun ⟨g, cap, cur, hv, hb', hg, r⟩ => ⟨g, cap, cur, hv, hb', (hr.rows hk g cur hg).trans hg, r⟩⟩
def RefApplyPostS (n : Nat) (K : World → World → Prop) (w : World) (r : Except Int (List Fl)) (e : Ending) (w' : World) : Prop := match r with
  | .error k => e = .returned (.tuple #[.slice none 0 0, .int .i64 k]) ∧ Below w.heap.size w w'
  | .ok f => ∃ A c l', e = .returned (.tuple #[.slice A l'.length c, .int .i64 0]) ∧ StickT n K w' A c l' ∧ flsX l' = f ∧ Below w.heap.size w w'
theorem refApplyS_err {n : Nat} {K : World → World → Prop} {w w' : World} {r : Except Int (List Fl)} {e : Ending} {k : Int} (h : r = .error k) (he : e = .returned (.tuple #[.slice none 0 0, .int .i64 k])) (hb : Below w.heap.size w w') : RefApplyPostS n K w r e w' := by
  subst h; exact ⟨he, hb⟩
theorem refApplyS_ok {n : Nat} {K : World → World → Prop} {w w' : World} {r : Except Int (List Fl)} {e : Ending} {A : Option Addr} {c : Nat} {l' : List FX} (h : r = .ok (flsX l')) (he : e = .returned (.tuple #[.slice A l'.length c, .int .i64 0])) (ht : StickT n K w' A c l') (hb : Below w.heap.size w w') : RefApplyPostS n K w r e w' := by
  subst h; exact ⟨A, c, l', he, ht, rfl, hb⟩
theorem row_keepS {n base : Nat} {K : World → World → Prop} {w w' : World} {A A' : Option Addr} {c c' : Nat} {m : List FX} {s : ByteArray} (h : FilesOwn base w' (.slice A' (keepX m s).length c') (keepX m s)) (ht : StickT n K w A c m) (hb : Below w.heap.size w w') : StickT n K w' A' c' (keepX m s) :=
  ⟨ht.rel, Nat.le_trans ht.le hb.size, fun v hk => ((filesOwn_rel h ht.rel hk).tree fun y hy => (ht.all v (ht.rel.back ht.le hb hk)).files y (keepX_sub y hy)).2⟩
theorem row_putS {n base : Nat} {K : World → World → Prop} {w w' : World} {A A' : Option Addr} {c c' : Nat} {m : List FX} {f : FX} (h : FilesOwn base w' (.slice A' (putX m f).length c') (putX m f)) (ht : StickT n K w A c m) (hf : ∀ v, K w v → BytesAt v f.A f.b) (hb : Below w.heap.size w w') : StickT n K w' A' c' (putX m f) :=
  ⟨ht.rel, Nat.le_trans ht.le hb.size, fun v hk => ((filesOwn_rel h ht.rel hk).tree fun y hy => by
    have hk2 := ht.rel.back ht.le hb hk
    rcases putX_sub y hy with rfl | hy
    · exact hf v hk2
    · exact (ht.all v hk2).files y hy).2⟩

set_option maxRecDepth 100000 in
set_option maxHeartbeats 8000000 in
theorem refapplyS_any {n : Nat} {K : World → World → Prop} (l : List FX) (D : List DX) (A B : Option Addr) (c d : Nat) (w : World) (h : StickT n K w A c l) (hs : SmallX l) (hl : l.length ≤ 70000) (hd : ∀ v, K w v → DelsAt v B d D) (hsd : SmallD D) :
    Calls Tryz.prog 24 #[.slice A l.length c, .slice B D.length d] w (RefApplyPostS n K w (applyT (flsX l) (D.map DX.dl))) := by
  have HDS := Lib.hid hd
  have HREL := Lib.hid h.rel
  have HLE := Lib.hid h.le
  have HD := Lib.hid (hd w (h.rel.self w)); clear hd
  have HSD := Lib.hid hsd; clear hsd
  have hdl := HSD.out.1
  go_enter Tryz.func24, Tryz.ntmps24
  go_wp2_with fail
  go_loopw [6, 7] (fun v i wr => ∃ (k : Nat) (m : List FX) (A' : Option Addr) (c' : Nat), k ≤ D.length ∧ v = .slice A' m.length c' ∧ i = .int .i64 k ∧ Hid (StickT n K wr A' c' m) ∧ Hid (RefInv l D k m) ∧ Below w.heap.size w wr) (fun _ i _ => D.length - (intOf i).toNat)
  case atStart => exact ⟨0, l, A, c, Nat.zero_le _, rfl, rfl, Lib.hid h, ⟨by omega, hs.2, rfl⟩, Below.refl _ _⟩
  case round =>
    obtain ⟨k, m, A', c', hk, rfl, rfl, HT, HI, hbr⟩ := hrel
    have hml : m.length ≤ 80000 := by have := HI.out.len; omega
    by_cases h1 : k < D.length
    · obtain ⟨x, hx⟩ : ∃ x, D[k]? = some x := ⟨_, List.getElem?_eq_getElem h1⟩
      obtain ⟨b, o, hB, hr⟩ := (HD.out.below hbr).row (by omega)
      subst hB
      obtain ⟨c1, c2, c3⟩ := hr k x hx
      have k1 : (k : Int) < (D.length : Int) := by omega
      have hxs := HSD.out.2 x (List.mem_of_getElem? hx)
      have HX := Lib.hid hx; clear hx
      clear hr
      have hbx : Below wr.heap.size wr (wr.alloc (.cells #[.int .i64 x.k, .string x.p, .slice x.A x.b.length x.c] 62)) := below_box _ _
      have xb0 := BoxD.new wr x 62
      have hbW := hbr.trans (hbx.mono hbr.size)
      have HRR := Lib.hid (refright_any x.p (wr.alloc (.cells #[.int .i64 x.k, .string x.p, .slice x.A x.b.length x.c] 62)) (by omega))
      have HBX := Lib.hid hbx; clear hbx
      have HB := Lib.hid hbW; clear hbW
      have HBR := Lib.hid hbr; clear hbr
      have XB0 := Lib.hid xb0; clear xb0
      by_cases hk1 : x.k < 1
      · have hbad : (decide (x.dl.k = 1 ∨ x.dl.k = 2 ∨ x.dl.k = 3) && rightB x.dl.p) = false := by
          show (decide (x.k = 1 ∨ x.k = 2 ∨ x.k = 3) && _) = false
          rw [decide_eq_false (show ¬ (x.k = 1 ∨ x.k = 2 ∨ x.k = 3) by omega)]; rfl
        have hd1 : decide (x.k < 1) = true := decide_eq_true hk1
        have hf := HI.out.fail HX.out (refT_bad hbad) (by decide : (2 : Int) ≠ 0)
        have HF := Lib.hid hf; clear hf
        go_wp2_with fail
        go_ret2
        exact refApplyS_err HF.out rfl HB.out
      · by_cases hk3 : 3 < x.k
        · have hbad : (decide (x.dl.k = 1 ∨ x.dl.k = 2 ∨ x.dl.k = 3) && rightB x.dl.p) = false := by
            show (decide (x.k = 1 ∨ x.k = 2 ∨ x.k = 3) && _) = false
            rw [decide_eq_false (show ¬ (x.k = 1 ∨ x.k = 2 ∨ x.k = 3) by omega)]; rfl
          have hf := HI.out.fail HX.out (refT_bad hbad) (by decide : (2 : Int) ≠ 0)
          have HF := Lib.hid hf; clear hf
          go_wp2_with fail
          go_ret2
          exact refApplyS_err HF.out rfl HB.out
        · have hkk : x.k = 1 ∨ x.k = 2 ∨ x.k = 3 := by omega
          go_wp2_with fail
          refine HRR.out.mono ?_
          rintro e w2 ⟨rfl, hq2⟩
          have xb2 := XB0.out.below hq2
          have hb2 : Below wr.heap.size wr w2 := HBX.out.trans (hq2.mono HBX.out.size)
          clear hq2
          cases hrx : rightB x.p.data.toList with
          | false =>
            have hbad : (decide (x.dl.k = 1 ∨ x.dl.k = 2 ∨ x.dl.k = 3) && rightB x.dl.p) = false := by
              show (_ && rightB x.p.data.toList) = false
              rw [hrx, Bool.and_false]
            have hf := HI.out.fail HX.out (refT_bad hbad) (by decide : (2 : Int) ≠ 0)
            have HF := Lib.hid hf; clear hf
            go_wp2_with fail
            go_ret2
            exact refApplyS_err HF.out rfl (HBR.out.trans (hb2.mono HBR.out.size))
          | true =>
            have HRX := Lib.hid hrx; clear hrx
            have e0 := xb2.c0
            have e1 := xb2.c1
            have hT2 := HT.out.below hb2
            have HFI := Lib.hid (reffind_any m A' c' x.p w2 hT2.now (by omega))
            have HT2 := Lib.hid hT2; clear hT2
            go_wp2_with fail
            refine HFI.out.mono ?_
            rintro e w3 ⟨rfl, hq3⟩
            have xb3 := xb2.below hq3
            have hb3 := hb2.trans (hq3.mono hb2.size)
            have hT3 := HT2.out.below hq3
            have hbx3 := fun (v : World) (hv : K w3 v) => (HDS.out v (HREL.out.back HLE.out (HBR.out.trans (hb3.mono HBR.out.size)) hv)).bytes x (List.mem_of_getElem? HX.out)
            have HT3 := Lib.hid hT3; clear hT3
            have HBX3 := Lib.hid hbx3; clear hbx3
            have e0 := xb3.c0
            have e1 := xb3.c1
            have e2 := xb3.c2
            have hbw3 := HBR.out.trans (hb3.mono HBR.out.size)
            have HBW3 := Lib.hid hbw3; clear hbw3
            clear hq3 hb2 xb2
            rcases place_get m x.p with ⟨p1, _, p3⟩ | ⟨j, y, p1, _, _, p3⟩
            · have P3 := Lib.hid p3; clear p3
              have hj : (0 : Int) ≤ -1 ↔ False := by decide
              rw [p1]
              clear p1
              rcases hkk with hK | hK | hK
              · rw [hK] at e0
                have HP := Lib.hid (refput_any m A' c' x.f w3 HT3.out.now (by omega))
                have h0 := refT_good HRX.out (.inl ⟨(show x.dl.k = 1 from hK), P3.out⟩)
                have H0 := Lib.hid h0; clear h0
                have hch : chX m x = putX m x.f := by unfold chX; rw [hK]; rfl
                have HCH := Lib.hid hch; clear hch
                go_wp2_with fail
                refine HP.out.mono ?_
                rintro e w4 ⟨v4, rfl, h4, hq4⟩
                obtain ⟨A4, c4, rfl⟩ := h4.slice
                have hT4 := row_putS h4 HT3.out HBX3.out hq4
                have HT4 := Lib.hid hT4; clear hT4
                have hb4 := HBW3.out.trans (hq4.mono HBW3.out.size)
                clear h4 hq4
                go_wp2_with fail
                go_roundw
                case rel => exact ⟨k + 1, chX m x, A4, c4, by omega, by rw [HCH.out], by go_num, by rw [HCH.out]; exact HT4, Lib.hid (HI.out.next HX.out H0.out hxs), hb4⟩
                case measure => simp [intOf]; omega
              · rw [hK] at e0
                have hf := HI.out.fail HX.out (refT_none HRX.out (.inl (show x.dl.k = 2 from hK)) P3.out) (by decide : (6 : Int) ≠ 0)
                have HF := Lib.hid hf; clear hf
                go_wp2_with fail
                go_ret2
                exact refApplyS_err HF.out rfl HBW3.out
              · rw [hK] at e0
                have hf := HI.out.fail HX.out (refT_none HRX.out (.inr (show x.dl.k = 3 from hK)) P3.out) (by decide : (6 : Int) ≠ 0)
                have HF := Lib.hid hf; clear hf
                go_wp2_with fail
                go_ret2
                exact refApplyS_err HF.out rfl HBW3.out
            · have P3 := Lib.hid p3; clear p3
              have hj0 : ¬ ((j : Int) < 0) := by omega
              have hj1 : (0 : Int) ≤ (j : Int) := by omega
              rw [p1]
              clear p1
              rcases hkk with hK | hK | hK
              · rw [hK] at e0
                have hf := HI.out.fail HX.out (refT_there HRX.out (show x.dl.k = 1 from hK) P3.out) (by decide : (5 : Int) ≠ 0)
                have HF := Lib.hid hf; clear hf
                go_wp2_with fail
                go_ret2
                exact refApplyS_err HF.out rfl HBW3.out
              · rw [hK] at e0
                have HP := Lib.hid (refput_any m A' c' x.f w3 HT3.out.now (by omega))
                have h0 := refT_good HRX.out (.inr ⟨(.inl (show x.dl.k = 2 from hK)), P3.out⟩)
                have H0 := Lib.hid h0; clear h0
                have hch : chX m x = putX m x.f := by unfold chX; rw [hK]; rfl
                have HCH := Lib.hid hch; clear hch
                go_wp2_with fail
                refine HP.out.mono ?_
                rintro e w4 ⟨v4, rfl, h4, hq4⟩
                obtain ⟨A4, c4, rfl⟩ := h4.slice
                have hT4 := row_putS h4 HT3.out HBX3.out hq4
                have HT4 := Lib.hid hT4; clear hT4
                have hb4 := HBW3.out.trans (hq4.mono HBW3.out.size)
                clear h4 hq4
                go_wp2_with fail
                go_roundw
                case rel => exact ⟨k + 1, chX m x, A4, c4, by omega, by rw [HCH.out], by go_num, by rw [HCH.out]; exact HT4, Lib.hid (HI.out.next HX.out H0.out hxs), hb4⟩
                case measure => simp [intOf]; omega
              · rw [hK] at e0
                have HP := Lib.hid (refdrop_any m A' c' x.p w3 HT3.out.now (by omega))
                have h0 := refT_good HRX.out (.inr ⟨(.inr (show x.dl.k = 3 from hK)), P3.out⟩)
                have H0 := Lib.hid h0; clear h0
                have hch : chX m x = keepX m x.p := by unfold chX; rw [hK]; rfl
                have HCH := Lib.hid hch; clear hch
                go_wp2_with fail
                refine HP.out.mono ?_
                rintro e w4 ⟨v4, rfl, h4, hq4⟩
                obtain ⟨A4, c4, rfl⟩ := h4.slice
                have hT4 := row_keepS h4 HT3.out hq4
                have HT4 := Lib.hid hT4; clear hT4
                have hb4 := HBW3.out.trans (hq4.mono HBW3.out.size)
                clear h4 hq4
                go_wp2_with fail
                go_roundw
                case rel => exact ⟨k + 1, chX m x, A4, c4, by omega, by rw [HCH.out], by go_num, by rw [HCH.out]; exact HT4, Lib.hid (HI.out.next HX.out H0.out hxs), hb4⟩
                case measure => simp [intOf]; omega
    · obtain rfl : k = D.length := by omega
      have hdone := HI.out.done
      have HDN := Lib.hid hdone; clear hdone
      go_wp2_with fail
      go_loopw [10] (fun i wq => ∃ (q : Nat), q ≤ m.length ∧ i = .int .i64 q ∧ (0 < q → m.length ≤ 1000) ∧ (∀ (n : Nat) (y : FX), n < q → m[n]? = some y → y.b.length ≤ 65536) ∧ Below wr.heap.size wr wq) (fun i _ => m.length - (intOf i).toNat)
      case atStart => exact ⟨0, Nat.zero_le _, rfl, fun h => absurd h (Nat.lt_irrefl _), fun _ _ h => absurd h (Nat.not_lt_zero _), Below.refl _ _⟩
      case round =>
        obtain ⟨q, hq, rfl, hlen, hno, hbq⟩ := hrel
        have hbwq := hbr.trans (hbq.mono hbr.size)
        by_cases h2 : q < m.length
        · obtain ⟨y, hy⟩ : ∃ y, m[q]? = some y := ⟨_, List.getElem?_eq_getElem h2⟩
          obtain ⟨g, o, hA, hr⟩ := (HT.out.below hbq).now.row (by omega)
          subst hA
          obtain ⟨_, c2⟩ := hr q y hy
          have q1 : (q : Int) < (m.length : Int) := by omega
          have HY := Lib.hid hy; clear hy
          have HNO := Lib.hid hno; clear hno
          clear hr
          by_cases hz : 65536 < y.b.length
          · have hz2 : (65536 : Int) < (y.b.length : Int) := by omega
            have hlg : longT (flsX m) = true := by
              unfold longT
              rw [Bool.or_eq_true]
              exact .inr (List.any_eq_true.2 ⟨y.fl, List.mem_map.2 ⟨y, List.mem_of_getElem? HY.out, rfl⟩, decide_eq_true hz⟩)
            have hf := HDN.out
            rw [hlg, if_pos rfl] at hf
            have HF := Lib.hid hf; clear hf hlg
            go_wp2_with fail
            go_ret2
            exact refApplyS_err HF.out rfl hbwq
          · have hz2 : ¬ (65536 : Int) < (y.b.length : Int) := by omega
            by_cases hn : 1000 < m.length
            · have hn2 : (1000 : Int) < (m.length : Int) := by omega
              have hlg : longT (flsX m) = true := by
                unfold longT
                rw [Bool.or_eq_true]
                exact .inl (decide_eq_true (by rw [flsX_length]; exact hn))
              have hf := HDN.out
              rw [hlg, if_pos rfl] at hf
              have HF := Lib.hid hf; clear hf hlg
              go_wp2_with fail
              go_ret2
              exact refApplyS_err HF.out rfl hbwq
            · have hn2 : ¬ (1000 : Int) < (m.length : Int) := by omega
              go_wp2_with fail
              go_roundw
              case rel => exact ⟨q + 1, by omega, by go_num, fun _ => by omega, fun n z hn hz => by
                rcases Nat.lt_or_eq_of_le (Nat.lt_succ_iff.1 hn) with h | rfl
                · exact HNO.out n z h hz
                · have := HY.out; rw [hz] at this; cases this; omega, hbq⟩
              case measure => simp [intOf]; omega
        · obtain rfl : q = m.length := by omega
          have hlg : longT (flsX m) = false := by
            unfold longT
            rw [Bool.or_eq_false_iff, decide_eq_false_iff_not, flsX_length, List.any_eq_false]
            refine ⟨?_, fun z hz => ?_⟩
            · rcases Nat.eq_zero_or_pos m.length with h | h
              · omega
              · have := hlen h; omega
            · obtain ⟨y, hy, rfl⟩ := List.mem_map.1 hz
              obtain ⟨n, hn, rfl⟩ := List.mem_iff_getElem.1 hy
              have := hno n _ hn (List.getElem?_eq_getElem hn)
              simp only [decide_eq_true_eq]
              exact Nat.not_lt.2 this
          have hf := HDN.out
          rw [hlg, if_neg (by decide)] at hf
          have HF := Lib.hid hf; clear hf hlg hno hlen
          have hTq := HT.out.below hbq
          have HRT := Lib.hid (reftright_any m A' c' wr hTq.now ⟨by omega, HI.out.each⟩)
          have HTQ := Lib.hid hTq; clear hTq
          go_wp2_with fail
          refine HRT.out.mono ?_
          rintro e w5 ⟨rfl, hq5⟩
          have hb5 := hbwq.trans (hq5.mono hbwq.size)
          have hT5 := HTQ.out.below hq5
          have HT5 := Lib.hid hT5; clear hT5
          cases hrt : rightT (flsX m) with
          | false =>
            have hf := HF.out
            rw [hrt, if_neg (by decide)] at hf
            have HF2 := Lib.hid hf; clear hf hrt
            go_wp2_with fail
            go_ret2
            exact refApplyS_err HF2.out rfl hb5
          | true =>
            have hf := HF.out
            rw [hrt, if_pos rfl] at hf
            have HF2 := Lib.hid hf; clear hf hrt
            go_wp2_with fail
            go_ret2
            exact refApplyS_ok HF2.out rfl HT5.out hb5
end Go.Proofs.YtffhfllikamccaaGreatDoor
