/-
  The contract of tree.Diff, whole.
-/
import Derived.Test.YtedcaodbcognjaaDoorTDiff
namespace Go.Proofs.YtedcaodbcognjaaDoor
open Go Go.RowKit Go.Shelf Go.Proofs

set_option maxRecDepth 100000 in
set_option maxHeartbeats 2000000 in
theorem diff_wrong (a b : List FX) (A B : Option Addr) (c d : Nat) (w0 : World) (ha : TreeAt w0 A c a) (hb : TreeAt w0 B d b) (hsa : ∀ x ∈ a, x.p.size ≤ 1000000) (hsb : ∀ x ∈ b, x.p.size ≤ 1000000) (hm : MaxOk w0)
    (hr : (rightT (flsX a) && rightT (flsX b)) = false) :
    Calls Tryd.prog 15 #[.slice A a.length c, .slice B b.length d] w0 (DiffPost a b w0) := by
  have hd : diffB a b = [] := by unfold diffB; rw [hr]; rfl
  have HD := Lib.hid hd; clear hd
  have HSA := Lib.hid hsa; clear hsa
  have HSB := Lib.hid hsb; clear hsb
  have HM := Lib.hid hm; clear hm
  cases hra : rightT (flsX a) with
  | false =>
    have RA := Lib.hid hra; clear hra hr
    go_enter Tryd.func15, Tryd.ntmps15
    go_wp2_with fail
    refine (tright_any a A c _ ha HSA.out HM.out).mono ?_
    rintro e w1 ⟨rfl, hb1⟩
    rw [RA.out]
    have HB1 := Lib.hid hb1; clear hb1
    go_wp2_with fail
    go_ret
    exact ⟨_, [], rfl, DeltasAt.nil _ _, HD.out.symm, HB1.out⟩
  | true =>
    rw [hra, Bool.true_and] at hr
    have RA := Lib.hid hra; clear hra
    have RB := Lib.hid hr; clear hr
    go_enter Tryd.func15, Tryd.ntmps15
    go_wp2_with fail
    refine (tright_any a A c _ ha HSA.out HM.out).mono ?_
    rintro e w1 ⟨rfl, hb1⟩
    rw [RA.out]
    have HB1 := Lib.hid hb1; clear hb1
    go_wp2_with fail
    refine (tright_any b B d _ (hb.below HB1.out) HSB.out (HM.out.below HB1.out)).mono ?_
    rintro e w2 ⟨rfl, hb2⟩
    rw [RB.out]
    have HB2 := Lib.hid (HB1.out.trans (hb2.mono HB1.out.size)); clear hb2 HB1
    go_wp2_with fail
    go_ret
    exact ⟨_, [], rfl, DeltasAt.nil _ _, HD.out.symm, HB2.out⟩
theorem diff_any (a b : List FX) (A B : Option Addr) (c d : Nat) (w0 : World) (ha : TreeAt w0 A c a) (hb : TreeAt w0 B d b) (hsa : ∀ x ∈ a, x.p.size ≤ 1000000) (hsb : ∀ x ∈ b, x.p.size ≤ 1000000) (hm : MaxOk w0) :
    Calls Tryd.prog 15 #[.slice A a.length c, .slice B b.length d] w0 (DiffPost a b w0) := by
  cases h : (rightT (flsX a) && rightT (flsX b)) with
  | false => exact diff_wrong a b A B c d w0 ha hb hsa hsb hm h
  | true =>
    rw [Bool.and_eq_true] at h
    exact diff_right a b A B c d w0 ha hb hsa hsb hm h.1 h.2
end Go.Proofs.YtedcaodbcognjaaDoor
