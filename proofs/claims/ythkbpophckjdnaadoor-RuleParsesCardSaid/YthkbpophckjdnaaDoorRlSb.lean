/-
  strings.Builder beside a row of bytes: what its writing methods do where the builder's own row lies from a base on, behind other blocks that stay.
-/
import Derived.Test.YthkbpophckjdnaaDoorOwSb
import Derived.Test.YthkbpophckjdnaaDoorRlMem
namespace Go.Proofs.YthkbpophckjdnaaDoor
open Go Go.RowKit Go.Shelf Go.Proofs
attribute [local go_sem] Oper.semAt_some

/-- All blocks below R but b stay. -/
structure KeepBut (R b : Nat) (w w' : World) : Prop where
  os : w'.os = w.os
  tape : w'.tape = w.tape
  output : w'.output = w.output
  size : w.heap.size ≤ w'.heap.size
  block : ∀ k, k < R → k ≠ b → w'.heap[k]? = w.heap[k]?
theorem KeepBut.refl (R b : Nat) (w : World) : KeepBut R b w w := ⟨rfl, rfl, rfl, Nat.le_refl _, fun _ _ _ => rfl⟩
theorem KeepBut.trans {R b : Nat} {u v w : World} (h : KeepBut R b u v) (k : KeepBut R b v w) : KeepBut R b u w :=
  ⟨k.os.trans h.os, k.tape.trans h.tape, k.output.trans h.output, Nat.le_trans h.size k.size, fun i h1 h2 => (k.block i h1 h2).trans (h.block i h1 h2)⟩
theorem KeepBut.put {R b : Nat} {u v : World} (h : KeepBut R b u v) (j : Nat) (x : Value) : KeepBut R b u (v.setCell ⟨b, j, none⟩ x) :=
  h.trans ⟨rfl, rfl, rfl, by simp, fun k _ hk => heap_setCell_other v ⟨b, j, none⟩ k x hk⟩
theorem KeepBut.grown {R b : Nat} {u v w : World} {r : Option Nat} (h : KeepBut R b u v) (hg : v.grownBy w r) (hR : R ≤ v.heap.size) (hr : ∀ k, r = some k → R ≤ k) : KeepBut R b u w :=
  h.trans ⟨hg.os, hg.tape, hg.output, hg.size, fun k h1 _ => hg.block k (by omega) (fun e => by have := hr k e.symm; omega)⟩
theorem KeepBut.alloc {R b : Nat} {u v : World} (h : KeepBut R b u v) (hR : R ≤ v.heap.size) (o : Obj) : KeepBut R b u (v.alloc o) :=
  h.trans ⟨rfl, rfl, rfl, by simp, fun k h1 _ => Lib.alloc_old v o k (by omega)⟩
theorem KeepBut.below {R b B : Nat} {u v : World} (h : KeepBut R b u v) (h1 : B ≤ R) (h2 : B ≤ b) : Below B u v :=
  ⟨h.os, h.tape, h.output, h.size, fun k hk => h.block k (by omega) (by omega)⟩

def BuiltP (R b : Nat) (p : Value) (bs : List Value) (w : World) : Prop := ∃ v, w.heap[b]? = some (.cells #[p, v] 67 (0, 0)) ∧ w.ownsRowF R 5 1 v bs.length bs ∧ v.ownBlock ≠ some b
def BuiltG (R b : Nat) (bs : List Value) (w : World) : Prop := BuiltP R b (.pointer none) bs w ∨ BuiltP R b (.pointer (some ⟨b, 0, none⟩)) bs w
theorem BuiltG.lt {R b : Nat} {bs : List Value} {w : World} (h : BuiltG R b bs w) : b < w.heap.size := by
  rcases h with ⟨v, h, _⟩ | ⟨v, h, _⟩ <;> exact (Array.getElem?_eq_some_iff.1 h).1
theorem BuiltG.new {R b : Nat} {w : World} (h : w.heap[b]? = some (.cells #[.pointer none, .slice none 0 0] 67 (0, 0))) : BuiltG R b [] w := .inl ⟨_, h, World.ownsRowF_nil _ _ _ _, by simp [Value.ownBlock]⟩
theorem ownsF_lower {w : World} {R B e size n : Nat} {v : Value} {xs : List Value} (h : w.ownsRowF R e size v n xs) (hB : B ≤ R) : w.ownsRowF B e size v n xs := by
  refine ⟨h.1, ?_⟩
  rcases h.2 with hn | ⟨g, cap, cur, fz, hv, hb, rest⟩
  · exact .inl hn
  · exact .inr ⟨g, cap, cur, fz, hv, Nat.le_trans hB hb, rest⟩
theorem BuiltG.built {R b : Nat} {bs : List Value} {w : World} (h : BuiltG R b bs w) (hb : b ≤ R) : BuiltF b b bs w := by
  rcases h with ⟨v, h1, h2, h3⟩ | ⟨v, h1, h2, h3⟩
  · exact .inl ⟨Nat.le_refl _, v, h1, ownsF_lower h2 hb, h3⟩
  · exact .inr ⟨Nat.le_refl _, v, h1, ownsF_lower h2 hb, h3⟩
theorem sg_check (R b : Nat) (bs : List Value) (w : World) (h : BuiltG R b bs w) :
    Calls Tryd.prog 59 #[.pointer (some ⟨b, 0, none⟩)] w fun e w' => e = .returned (.tuple #[]) ∧ BuiltP R b (.pointer (some ⟨b, 0, none⟩)) bs w' ∧ KeepBut R b w w' ∧ w'.heap.size = w.heap.size := by
  rcases h with ⟨v, h1, h2, h3⟩ | ⟨v, h1, h2, h3⟩
  · have c0 : w.cell? ⟨b, 0, none⟩ = some (.pointer none) := cell_of_row _ _ 0 _ _ _ h1
    have hs : w.shape? b = some (67, 2) := by simp [World.shape?, h1]
    refine (sb_fresh b w c0 hs (frozen_of_row _ _ _ _ _ h1)).mono ?_
    rintro e w' ⟨rfl, rfl⟩
    refine ⟨rfl, ⟨v, heap_setCell_same _ _ 0 _ _ _ h1, h2.kept (row := some b) ⟨rfl, rfl, rfl, by simp, fun i _ hi => heap_setCell_other w ⟨b, 0, none⟩ i _ (fun e => hi (by rw [e]))⟩ (.inr h3), h3⟩, (KeepBut.refl R b w).put 0 _, by simp⟩
  · have c0 : w.cell? ⟨b, 0, none⟩ = some (.pointer (some ⟨b, 0, none⟩)) := cell_of_row _ _ 0 _ _ _ h1
    refine (sb_used b w c0).mono ?_
    rintro e w' ⟨rfl, rfl⟩
    exact ⟨rfl, ⟨v, h1, h2, h3⟩, KeepBut.refl _ _ _, rfl⟩

set_option maxRecDepth 100000 in
set_option maxHeartbeats 2000000 in
theorem sg_byte (R b : Nat) (bs : List Value) (c : Int) (w : World) (h : BuiltG R b bs w) (hlen : bs.length + 1 ≤ 140737488355328) (hRw : R ≤ w.heap.size) :
    Calls Tryd.prog 35 #[.pointer (some ⟨b, 0, none⟩), .int .u8 c] w fun e w' => e = .returned .nilIface ∧ BuiltG R b (bs ++ [.int .u8 c]) w' ∧ KeepBut R b w w' := by
  obtain ⟨i0, hi, hz0, hz1, hz2⟩ := info_parts sb_u8
  have HC := Lib.hid (sg_check R b bs w h)
  clear h
  go_enter Tryd.func35, Tryd.ntmps35
  go_wp2_with fail
  refine HC.out.mono ?_
  rintro e w1 ⟨rfl, ⟨v, hbk, hown, hne⟩, hb1, hs1⟩
  have HS1 := Lib.hid hs1
  clear hs1
  have hs2 : R ≤ w1.heap.size := by rw [HS1.out]; exact hRw
  have c1 : w1.cell? ⟨b, 1, none⟩ = some v := by rw [Lib.cell_of_heap hbk]; rfl
  go_wp2_with (at_builtin; refine wpList_append_ownF _ rfl _ _ 45 rfl R 5 i0 (.int .u8 0) 1 1 Tryd.underlying45 hi hz0 hz1 hz2 rfl (by decide) _ _ _ rfl (hown.alloc _) ⟨w1.heap.size, 0, none⟩ 1 1 [.int .u8 c] rfl rfl ?c1 ?c2 ?c3 ?c4 ?c5 ?_)
  case c1 =>
    intro j u hj
    match j, hj with
    | 0, hj => simp at hj; subst hj; simp [Addr.add]
  case c2 => intro u hu; simp at hu; subst hu; rfl
  case c3 => unfold maxLen; omega
  case c4 => omega
  case c5 => simp; omega
  have hs1 := HS1.out
  intro v' w2 hown' hgrow _
  have hlt : b < w1.heap.size := (Array.getElem?_eq_some_iff.1 hbk).1
  have hb2 : w2.heap[b]? = some (.cells #[.pointer (some ⟨b, 0, none⟩), v] 67 (0, 0)) := by
    rw [hgrow.block b (by simp; omega) (fun e => hne e.symm), Lib.alloc_old w1 _ b hlt]
    exact hbk
  have d1 : w2.cell? ⟨b, 1, none⟩ = some v := by rw [Lib.cell_of_heap hb2]; rfl
  have f1 : w2.frozen? ⟨b, 1, none⟩ = false := Lib.frozen_of_heap hb2 1
  obtain ⟨g, cap, rfl⟩ : ∃ g cap, v' = .slice (some ⟨g, 0, none⟩) (bs.length + 1) cap := by
    rcases hown'.2 with ⟨_, h0⟩ | ⟨g, cap, cur, fz, hv, _⟩
    · omega
    · exact ⟨g, cap, hv⟩
  have hnb := Lib.ownBlock_neF hown' hb2 (by decide)
  have hkb : KeepBut R b w w2 := (hb1.alloc (by omega) _).grown hgrow (by simp; omega) (fun k hk => (hown.lt k hk).1)
  clear c1 hs1
  go_wp2_with fail
  go_ret
  refine ⟨rfl, .inr ⟨_, heap_setCell_same _ _ 1 _ _ _ hb2, ?_, hnb⟩, hkb.put 1 _⟩
  have := hown'.kept (row := some b) (w' := w2.setCell ⟨b, 1, none⟩ (.slice (some ⟨g, 0, none⟩) (bs.length + 1) cap)) ⟨rfl, rfl, rfl, by simp, fun i _ hi => heap_setCell_other w2 ⟨b, 1, none⟩ i _ (fun e => hi (by rw [e]))⟩ (.inr hnb)
  rw [List.length_append]
  exact this
end Go.Proofs.YthkbpophckjdnaaDoor
