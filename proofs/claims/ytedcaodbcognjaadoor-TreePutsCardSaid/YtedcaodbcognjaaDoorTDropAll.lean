/-
  tree.drop on a row of files of the call's own; tree.own.
-/
import Derived.Test.YtedcaodbcognjaaDoorTDrop
import Derived.Test.YtedcaodbcognjaaDoorTDelta
namespace Go.Proofs.YtedcaodbcognjaaDoor
open Go Go.RowKit Go.Shelf Go.Proofs

/-- What is asked of a call that turns a row of the caller's own: the row that it answers; what else lay in w is as it was. -/
def RowPost (base : Nat) (v : Value) (w : World) (l : List FX) (e : Ending) (w' : World) : Prop :=
  ∃ v', e = .returned v' ∧ FilesOwn base w' v' l ∧ w.grownBy w' v.ownBlock ∧ (v'.ownBlock = v.ownBlock ∨ ∀ g, v'.ownBlock = some g → w.heap.size ≤ g)

set_option maxHeartbeats 1000000 in
theorem delete_any (base : Nat) (l : List FX) (v : Value) (s : ByteArray) (B : Nat) (w : World) (h : FilesOwn base w v l) (hl : l.length ≤ 100000) (hB : Boxed w B 9 (.string s)) :
    Calls Tryd.prog 64 #[v, .func (.func 65) #[] #[.pointer (some ⟨B, 0, none⟩)]] w (RowPost base v w (keepX l s)) := by
  rcases h.form with ⟨rfl, rfl⟩ | ⟨g, cap, cur, rfl, _, hh, hc, hcm, _⟩
  · have HI := Lib.hid (indexF_any 65 #[.pointer (some ⟨B, 0, none⟩)] (fun x => x.p.toList == s.toList) [] none 0 w (enters_of (P := Tryd.prog) Tryd.func65 (by kernel_rfl) rfl) (pred_drop [] s B w hB) (by unfold maxLen; omega) (fun h => absurd h (by simp)))
    have hi : idxF (fun x : FX => x.p.toList == s.toList) [] = -1 := rfl
    have H1 := Lib.hid hi; clear hi
    have HF := Lib.hid h; clear h
    have HBX := Lib.hid hB; clear hB
    go_enter Tryd.func64, Tryd.ntmps64
    go_wp2_with fail
    refine HI.out.mono ?_
    rintro e w1 ⟨rfl, hb1⟩
    rw [H1.out]
    have HB1 := Lib.hid hb1; clear hb1
    go_wp2_with fail
    go_ret
    exact ⟨_, rfl, HF.out.below HB1.out, grownN HB1.out _, .inl rfl⟩
  · have hne : B ≠ g := fun e => by
      subst e
      have := hB.symm.trans hh
      cases this
    refine (delete_some base l g l.length cap s B w h rfl hl hc (by unfold maxLen at hcm; omega) hB hne).mono ?_
    rintro e w' ⟨m, rfl, h1, h2, h3⟩
    exact ⟨_, rfl, h1, h3, .inl rfl⟩

set_option maxHeartbeats 1000000 in
theorem drop_any (base : Nat) (l : List FX) (v : Value) (s : ByteArray) (w : World) (h : FilesOwn base w v l) (hl : l.length ≤ 100000) :
    Calls Tryd.prog 43 #[v, .string s] w (RowPost base v w (keepX l s)) := by
  have hb : Below w.heap.size w (w.alloc (.cells #[.string s] 9)) := (Below.refl _ w).alloc (Nat.le_refl _) _
  have H := delete_any base l v s w.heap.size (w.alloc (.cells #[.string s] 9)) (h.below hb) hl (Boxed.new w _ _)
  have HC := Lib.hid H; clear H
  have HB := Lib.hid hb; clear hb
  have HF := Lib.hid h; clear h
  obtain ⟨A, n, c, rfl⟩ : ∃ A n c, v = .slice A n c := by
    rcases HF.out.form with ⟨rfl, _⟩ | ⟨g, cap, cur, rfl, _⟩
    · exact ⟨_, _, _, rfl⟩
    · exact ⟨_, _, _, rfl⟩
  go_enter Tryd.func43, Tryd.ntmps43
  go_wp2_with fail
  refine HC.out.mono ?_
  rintro e w1 ⟨v', rfl, h1, h2, h3⟩
  have H1 := Lib.hid h1; clear h1
  have H2 := Lib.hid h2; clear h2
  have H3 := Lib.hid h3; clear h3
  obtain ⟨A', n', c', rfl⟩ : ∃ A n c, v' = .slice A n c := by
    rcases H1.out.form with ⟨rfl, _⟩ | ⟨g, cap, cur, rfl, _⟩
    · exact ⟨_, _, _, rfl⟩
    · exact ⟨_, _, _, rfl⟩
  go_wp2_with fail
  go_ret
  refine ⟨_, rfl, H1.out, ⟨H2.out.os, H2.out.tape, H2.out.output, Nat.le_trans HB.out.size H2.out.size, fun k hk hne => (H2.out.block k (Nat.lt_of_lt_of_le hk HB.out.size) hne).trans (HB.out.block k hk)⟩, H3.out.imp id fun h g e => Nat.le_trans HB.out.size (h g e)⟩
end Go.Proofs.YtedcaodbcognjaaDoor
