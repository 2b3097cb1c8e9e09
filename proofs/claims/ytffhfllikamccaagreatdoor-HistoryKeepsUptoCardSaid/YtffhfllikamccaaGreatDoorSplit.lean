/-
  strings.SplitSeq at a separator of one byte: the pieces come, one by one; the iterator keeps what is left in a box.
-/
import Derived.Test.YtffhfllikamccaaGreatDoorSeq
import Derived.Test.YtffhfllikamccaaGreatDoorPlain
import Derived.Test.YtffhfllikamccaaGreatDoorShelf
import Derived.RangeFuncBound
import Derived.Lib.Hide
import Derived.Outline
import Derived.Shelf.Abstract
import Derived.Shelf.RegionOpen
import Derived.WalkKit
import Derived.OwnWalkIn
import Derived.TacticsInMore
import Derived.LoopNIn
import Derived.LoopIn
import Derived.Test.YtffhfllikamccaaGreatDoorProg
namespace Go.Proofs.YtffhfllikamccaaGreatDoor
open Go Go.RowKit Go.Shelf Go.Proofs
attribute [local go_sem] Oper.semAt_some

theorem extract_mkB (s : ByteArray) (i : Nat) : s.extract 0 i = mkB (s.data.toList.take i) := by
  rw [← data_mkB (s.extract 0 i), Lib.extract_data]; simp

def piecesB (c : UInt8) (s : ByteArray) : List ByteArray := (splitL c s.data.toList).map mkB
theorem piecesB_miss (c : UInt8) (s : ByteArray) (h : Lib.indexByte s.data.toList c = -1) : piecesB c s = [s] := by
  unfold piecesB; rw [splitL_miss c _ h]; simp [data_mkB]
theorem piecesB_hit (c : UInt8) (s : ByteArray) (i : Nat) (h : Lib.indexByte s.data.toList c = i) : i < s.size ∧ piecesB c s = s.extract 0 i :: piecesB c (s.extract (i + 1) s.size) := by
  obtain ⟨hl, he⟩ := splitL_hit c _ i h
  refine ⟨by rw [Array.length_toList] at hl; exact hl, ?_⟩
  unfold piecesB
  rw [he, extract_mkB, Lib.extract_to_end]
  rfl

theorem piecesB_len (c : UInt8) (s r : ByteArray) (k : Nat) (h : (piecesB c s).drop k = piecesB c r) : (piecesB c s).length = k + (piecesB c r).length := by
  have h1 : (piecesB c r).length = (piecesB c s).length - k := by rw [← h]; simp
  have h2 : piecesB c r ≠ [] := by unfold piecesB; simpa using splitL_ne c _
  have h3 : 0 < (piecesB c r).length := List.length_pos_iff.2 h2
  omega
/-- What is left, read off the box: for the loop's measure. -/
def leftB (b : Nat) (w : World) : Nat := match w.cell? ⟨b, 0, none⟩ with
  | some (.string r) => r.size + 1
  | _ => 0

theorem leftB_eq {w : World} {b t : Nat} {r : ByteArray} (h : Boxed w b t (.string r)) : leftB b w = r.size + 1 := by unfold leftB; rw [h.cell]
def KeepThree (bs bp bv : Nat) (k : Nat) : Prop := k = bs ∨ k = bp ∨ k = bv
def OnlyS (bs : Nat) (k : Nat) : Prop := k = bs

set_option maxRecDepth 100000 in
set_option maxHeartbeats 2000000 in
theorem split1_in (n l bs bp bv : Nat) (c : UInt8) (s : ByteArray) (hs : s.size ≤ 9223372036854775800) (J Jx : Nat → World → Prop) (W : World)
    (hJ : AbidesTo (OnlyS bs) W.heap.size J) (_hJx : AbidesTo (OnlyS bs) W.heap.size Jx)
    (hY : ∀ k x W1, J k W1 → (piecesB c s)[k]? = some x → YieldAt Fence.wide (n - 1) Tryz.prog l #[.string x] W1 fun e W' =>
      (e = .returned (.bool true) ∧ J (k + 1) W' ∧ KeepsB (KeepThree bs bp bv) W1 W') ∨ (e = .returned (.bool false) ∧ Jx (k + 1) W'))
    (hne : bs ≠ bp) (hne' : bs ≠ bv)
    (b1 : Boxed W bs 9 (.string s)) (b2 : Boxed W bp 9 (.string ⟨#[c]⟩)) (b3 : Boxed W bv 3 (.int .i64 0)) (h0 : J 0 W) :
    CallsIn Fence.wide n Tryz.prog 108 #[.func (.yield l) #[] #[], .pointer (some ⟨bp, 0, none⟩), .pointer (some ⟨bs, 0, none⟩), .pointer (some ⟨bv, 0, none⟩)] W fun e W' =>
      (∃ v, e = .returned v) ∧ (J (piecesB c s).length W' ∨ ∃ k, k ≤ (piecesB c s).length ∧ Jx k W') := by
  refine callsIn_of_wp Tryz.func108 rfl trivial ?_ rfl
  simp only [Tryz.ntmps108, List.size_toArray, List.length_cons, List.length_nil, Nat.reduceAdd, Nat.reduceSub, Array.replicate_succ, Array.replicate_zero, List.push_toArray, List.append_toArray, List.nil_append, List.cons_append]
  have c2 := b2.cell
  gi_wp2
  clear c2
  gi_loopw [7] (fun _ wr => ∃ (k : Nat) (r : ByteArray), Boxed wr bs 9 (.string r) ∧ Boxed wr bp 9 (.string ⟨#[c]⟩) ∧ Boxed wr bv 3 (.int .i64 0) ∧ r.size ≤ s.size ∧ W.heap.size ≤ wr.heap.size ∧ Hid ((piecesB c s).drop k = piecesB c r) ∧ J k wr)
    (fun _ wr => leftB bs wr)
  case atStart => exact ⟨0, s, b1, b2, b3, Nat.le_refl _, Nat.le_refl _, rfl, h0⟩
  case round =>
    obtain ⟨k, r, a1, a2, a3, hrs, hsz, hd, hj⟩ := hrel
    have c1 := a1.cell
    have c2 := a2.cell
    have c3 := a3.cell
    have f1 := a1.frozen
    have hge := Lib.indexByte_ge r.data.toList c
    have hl := piecesB_len c s r k hd.out
    by_cases hi : Lib.indexByte r.data.toList c = -1
    · have hp := piecesB_miss c r hi
      have hx : (piecesB c s)[k]? = some r := by rw [← List.head?_drop, hd.out, hp]; rfl
      have hlen : (piecesB c s).length = k + 1 := by rw [hp] at hl; simpa using hl
      obtain ⟨fn, tmps, assign, body, hy, hR⟩ := hY k r wr hj hx
      have HX := Lib.hid hx; clear hx
      have HL := Lib.hid hlen; clear hlen
      have HI := Lib.hid hi; clear hi
      clear hp hl
      gi_wp2_with (refine wide_call (Tryz.strings_Index_one r c _) ?_; rintro e w' ⟨rfl, rfl⟩; rw [HI.out])
      refine wide_round hR ?_
      rintro e W3 (⟨rfl, hJ3, hk3⟩ | ⟨rfl, hJx3⟩)
      · gi_wp2
        go_end0
        exact ⟨⟨_, rfl⟩, .inl (HL.out ▸ hJ3)⟩
      · gi_wp2
        go_end0
        exact ⟨⟨_, rfl⟩, .inr ⟨k + 1, by rw [HL.out]; exact Nat.le_refl _, hJx3⟩⟩
    · obtain ⟨i, hi'⟩ : ∃ i : Nat, Lib.indexByte r.data.toList c = i := ⟨(Lib.indexByte r.data.toList c).toNat, by omega⟩
      obtain ⟨hir, hp⟩ := piecesB_hit c r i hi'
      have hx : (piecesB c s)[k]? = some (r.extract 0 i) := by rw [← List.head?_drop, hd.out, hp]; rfl
      have hd2 : (piecesB c s).drop (k + 1) = piecesB c (r.extract (i + 1) r.size) := by rw [← List.drop_drop, hd.out, hp]; rfl
      obtain ⟨fn, tmps, assign, body, hy, hR⟩ := hY k (r.extract 0 i) wr hj hx
      have hk1 : k + 1 ≤ (piecesB c s).length := by
        have := (List.getElem?_eq_some_iff.1 hx).1; omega
      have HX := Lib.hid hx; clear hx
      have HI := Lib.hid hi'; clear hi'
      have HD := Lib.hid hd2; clear hd2
      clear hp hl hi hge
      gi_wp2_with (refine wide_call (Tryz.strings_Index_one r c _) ?_; rintro e w' ⟨rfl, rfl⟩; rw [HI.out])
      refine wide_round hR ?_
      rintro e W3 (⟨rfl, hJ3, hk3⟩ | ⟨rfl, hJx3⟩)
      · have d1 : Boxed W3 bs 9 (.string r) := (hk3.same bs (.inl rfl) a1.lt).trans a1
        have d2 : Boxed W3 bp 9 (.string ⟨#[c]⟩) := (hk3.same bp (.inr (.inl rfl)) a2.lt).trans a2
        have d3 : Boxed W3 bv 3 (.int .i64 0) := (hk3.same bv (.inr (.inr rfl)) a3.lt).trans a3
        have c1 := d1.cell
        have c2 := d2.cell
        have c3 := d3.cell
        have f1 := d1.frozen
        have hes : (r.extract (i + 1) r.size).size = r.size - (i + 1) := by simp [ByteArray.size_extract]
        gi_wp2
        refine ⟨⟨k + 1, r.extract (i + 1) r.size, d1.set _, d2.other hne.symm _, d3.other hne'.symm _, by omega, by rw [World.size_setCell]; exact Nat.le_trans hsz hk3.size, HD.out, hJ _ W3 _ (some bs) hJ3 (grownBy_setCell' W3 bs _) (fun q e => by cases e; exact .inl rfl)⟩, ?_⟩
        rw [leftB_eq (d1.set _), leftB_eq a1, hes]; omega
      · gi_wp2
        refine bodyPost_ret (results_none rfl _ _ _) rfl ?_
        exact ⟨⟨_, rfl⟩, .inr ⟨k + 1, hk1, hJx3⟩⟩

/-- The iterator's contract. -/
theorem split_list (n bs bp bv : Nat) (c : UInt8) (s : ByteArray) (hs : s.size ≤ 9223372036854775800) (w : World) (hne : bs ≠ bp) (hne' : bs ≠ bv)
    (b1 : Boxed w bs 9 (.string s)) (b2 : Boxed w bp 9 (.string ⟨#[c]⟩)) (b3 : Boxed w bv 3 (.int .i64 0)) :
    SeqList Fence.wide n Tryz.prog 108 #[.pointer (some ⟨bp, 0, none⟩), .pointer (some ⟨bs, 0, none⟩), .pointer (some ⟨bv, 0, none⟩)] (fun x : ByteArray => #[Value.string x]) (KeepsB (KeepThree bs bp bv)) (OnlyS bs) (piecesB c s) w :=
  fun l J Jx W hW hJ hJx hY h0 => split1_in n l bs bp bv c s hs J Jx W hJ hJx hY hne hne' ((hW.block bs b1.lt).trans b1) ((hW.block bp b2.lt).trans b2) ((hW.block bv b3.lt).trans b3) h0

set_option maxHeartbeats 1000000 in
theorem splitSeq0_any (s sep : ByteArray) (w : World) :
    Calls Tryz.prog 101 #[.string s, .string sep, .int .i64 0] w fun e w' =>
      e = .returned (.func (.func 108) #[] #[.pointer (some ⟨w.heap.size + 1, 0, none⟩), .pointer (some ⟨w.heap.size, 0, none⟩), .pointer (some ⟨w.heap.size + 2, 0, none⟩)]) ∧
      w' = ((w.alloc (.cells #[.string s] 9)).alloc (.cells #[.string sep] 9)).alloc (.cells #[.int .i64 0] 3) := by
  go_enter Tryz.func101, Tryz.ntmps101
  go_wp2
  go_ret
  exact ⟨rfl, rfl⟩

set_option maxHeartbeats 1000000 in
theorem splitSeq_any (s sep : ByteArray) (w : World) :
    Calls Tryz.prog 88 #[.string s, .string sep] w fun e w' =>
      e = .returned (.func (.func 108) #[] #[.pointer (some ⟨w.heap.size + 1, 0, none⟩), .pointer (some ⟨w.heap.size, 0, none⟩), .pointer (some ⟨w.heap.size + 2, 0, none⟩)]) ∧
      w' = ((w.alloc (.cells #[.string s] 9)).alloc (.cells #[.string sep] 9)).alloc (.cells #[.int .i64 0] 3) := by
  go_enter Tryz.func88, Tryz.ntmps88
  go_wp2_with (go_at_call 101; refine (splitSeq0_any _ _ _).mono ?_; rintro e w' ⟨rfl, rfl⟩)
  go_ret
  exact ⟨rfl, rfl⟩
end Go.Proofs.YtffhfllikamccaaGreatDoor
