/-
  did; a disk of the program's and one of the document's, side by side.
-/
import Derived.Test.YtojkifcclgecoaaDkDo
import Derived.Test.YtojkifcclgecoaaDkRefV
import Derived.Test.YtojkifcclgecoaaDkCopy2
namespace Go.Proofs.Ytojkifcclgecoaa.Dk
open Go Go.RowKit Go.Shelf Go.Proofs

def JX.do (x : JX) : DDo := ⟨x.k, x.a, x.n, x.b⟩
def JX.v (x : JX) : Value := .agg #[.int .i64 x.k, .int .i64 x.a, .int .i64 x.n, .slice x.A x.b.length x.c]
set_option maxRecDepth 100000 in
set_option maxHeartbeats 8000000 in
theorem did_any (B : Nat) (who : Nat → Nat) (w : World) (T g : Nat) (D : DDk) (n : Nat) (x : JX) (h : DS B who w T g D n) (hT : 0 < T) (hn : n + 1 + x.b.length ≤ 1000000) (hs : SlAt w x.A x.c x.b) (hw : 0 < x.b.length → ∀ q o, x.A = some ⟨q, o, none⟩ → who q = 0) (hk : x.n ≤ 9223372036854775807) :
    Calls Try.prog 30 #[.pointer (some ⟨g, 0, none⟩), x.v] w fun e w' => e = .returned (.int .i64 (stepE D x.do : Nat)) ∧ DP B who w T g (stepD D x.do) (n + (1 + x.b.length)) w' := by
  obtain ⟨V, hV⟩ : ∃ V, w.alloc (.cells #[.int .i64 x.k, .int .i64 x.a, .int .i64 x.n, .slice x.A x.b.length x.c] 61) = V := ⟨_, rfl⟩
  have hbV : Below w.heap.size w V := by rw [← hV]; exact (Below.refl _ _).alloc (Nat.le_refl _) _
  have hz : V.heap[w.heap.size]? = some (.cells #[.int .i64 x.k, .int .i64 x.a, .int .i64 x.n, .slice x.A x.b.length x.c] 61 (0, 0)) := by rw [← hV]; exact heap_alloc_new w _
  have y0 := cell_of_row V w.heap.size 0 _ _ _ hz
  have y1 := cell_of_row V w.heap.size 1 _ _ _ hz
  have y2 := cell_of_row V w.heap.size 2 _ _ _ hz
  have y3 := cell_of_row V w.heap.size 3 _ _ _ hz
  have HBV := Lib.hid hbV
  have HV := Lib.hid hV
  have HD := Lib.hid (h.below hbV)
  have HS := Lib.hid (hs.below hbV)
  have HW := Lib.hid hw
  have HW0 := Lib.hid (show DP B who w T g D (n + (1 + x.b.length)) V from ⟨who, (h.below hbV).mono (by omega), Turn.below hbV⟩)
  unfold JX.v
  clear hbV hz hV h hs hw
  go_enter Try.func30, Try.ntmps30
  go_upto_region 1 with (fail)
  rw [HV.out]
  by_cases K1 : x.k = 1
  · have hcall := HD.out.append hT (by omega) x.a HS.out rfl (by omega) HW.out
    have HCALL := Lib.hid hcall
    clear hcall
    go_wp2_with fail
    refine HCALL.out.mono ?_
    rintro e w5 ⟨rfl, who5, h5, ht5⟩
    have HFIN := Lib.hid (show DP B who w T g (stepD D x.do) (n + (1 + x.b.length)) w5 from by
      rw [show stepD D x.do = appendD D x.a x.b from by unfold stepD; rw [if_pos (show x.do.k = 1 from K1)]; rfl]
      exact ⟨who5, h5.mono (by omega), (Turn.below HBV.out).trans ht5⟩)
    clear h5 ht5 HCALL
    go_wp2_with fail
    go_ret
    exact ⟨by unfold stepE; rw [if_pos (show x.do.k = 1 from K1)]; rfl, HFIN.out⟩
  by_cases K2 : x.k = 2
  · have hcall := HD.out.cut hT (by omega) x.a x.n
    have HCALL := Lib.hid hcall
    clear hcall
    go_wp2_with fail
    refine HCALL.out.mono ?_
    rintro e w5 ⟨rfl, who5, h5, ht5⟩
    have HFIN := Lib.hid (show DP B who w T g (stepD D x.do) (n + (1 + x.b.length)) w5 from by
      rw [show stepD D x.do = cutD D x.a x.n from by unfold stepD; rw [if_neg (show ¬ x.do.k = 1 from K1), if_pos (show x.do.k = 2 from K2)]; rfl]
      exact ⟨who5, h5.mono (by omega), (Turn.below HBV.out).trans ht5⟩)
    clear h5 ht5 HCALL
    go_wp2_with fail
    go_ret
    exact ⟨by unfold stepE; rw [if_neg (show ¬ x.do.k = 1 from K1), if_pos (show x.do.k = 2 from K2)]; rfl, HFIN.out⟩
  by_cases K3 : x.k = 3
  · have hcall := HD.out.sync hT (by omega) x.a
    have HCALL := Lib.hid hcall
    clear hcall
    go_wp2_with fail
    refine HCALL.out.mono ?_
    rintro e w5 ⟨rfl, who5, h5, ht5⟩
    have HFIN := Lib.hid (show DP B who w T g (stepD D x.do) (n + (1 + x.b.length)) w5 from by
      rw [show stepD D x.do = syncD D x.a from by unfold stepD; rw [if_neg (show ¬ x.do.k = 1 from K1), if_neg (show ¬ x.do.k = 2 from K2), if_pos (show x.do.k = 3 from K3)]; rfl]
      exact ⟨who5, h5.mono (by omega), (Turn.below HBV.out).trans ht5⟩)
    clear h5 ht5 HCALL
    go_wp2_with fail
    go_ret
    exact ⟨by unfold stepE; rw [if_neg (show ¬ x.do.k = 1 from K1), if_neg (show ¬ x.do.k = 2 from K2), if_pos (show x.do.k = 3 from K3)]; rfl, HFIN.out⟩
  by_cases K4 : x.k = 4
  · have hcall := HD.out.arm hT x.n
    have HCALL := Lib.hid hcall
    clear hcall
    go_wp2_with fail
    refine HCALL.out.mono ?_
    rintro e w5 ⟨rfl, who5, h5, ht5⟩
    have HFIN := Lib.hid (show DP B who w T g (stepD D x.do) (n + (1 + x.b.length)) w5 from by
      rw [show stepD D x.do = D.arm x.n from by unfold stepD; rw [if_neg (show ¬ x.do.k = 1 from K1), if_neg (show ¬ x.do.k = 2 from K2), if_neg (show ¬ x.do.k = 3 from K3), if_pos (show x.do.k = 4 from K4)]; rfl]
      exact ⟨who5, h5.mono (by omega), (Turn.below HBV.out).trans ht5⟩)
    clear h5 ht5 HCALL
    go_wp2_with fail
    go_ret
    exact ⟨by unfold stepE; rw [if_neg (show ¬ x.do.k = 1 from K1), if_neg (show ¬ x.do.k = 2 from K2), if_neg (show ¬ x.do.k = 3 from K3)]; rfl, HFIN.out⟩
  by_cases K5 : x.k = 5
  · have hcall := HD.out.restart hT (by omega) x.n hk
    have HCALL := Lib.hid hcall
    clear hcall
    go_wp2_with fail
    refine HCALL.out.mono ?_
    rintro e w5 ⟨rfl, who5, h5, ht5⟩
    have HFIN := Lib.hid (show DP B who w T g (stepD D x.do) (n + (1 + x.b.length)) w5 from by
      rw [show stepD D x.do = D.restart x.n from by unfold stepD; rw [if_neg (show ¬ x.do.k = 1 from K1), if_neg (show ¬ x.do.k = 2 from K2), if_neg (show ¬ x.do.k = 3 from K3), if_neg (show ¬ x.do.k = 4 from K4), if_pos (show x.do.k = 5 from K5)]; rfl]
      exact ⟨who5, h5.mono (by omega), (Turn.below HBV.out).trans ht5⟩)
    clear h5 ht5 HCALL
    go_wp2_with fail
    go_ret
    exact ⟨by unfold stepE; rw [if_neg (show ¬ x.do.k = 1 from K1), if_neg (show ¬ x.do.k = 2 from K2), if_neg (show ¬ x.do.k = 3 from K3)]; rfl, HFIN.out⟩
  have hD : stepD D x.do = D := by unfold stepD; rw [if_neg (show ¬ x.do.k = 1 from K1), if_neg (show ¬ x.do.k = 2 from K2), if_neg (show ¬ x.do.k = 3 from K3), if_neg (show ¬ x.do.k = 4 from K4), if_neg (show ¬ x.do.k = 5 from K5)]
  have hE : stepE D x.do = 0 := by unfold stepE; rw [if_neg (show ¬ x.do.k = 1 from K1), if_neg (show ¬ x.do.k = 2 from K2), if_neg (show ¬ x.do.k = 3 from K3)]
  have HDE := Lib.hid hD
  have HEE := Lib.hid hE
  clear hD hE
  go_wp2_with fail
  go_ret
  exact ⟨by rw [HEE.out]; rfl, by rw [HDE.out]; exact HW0.out⟩

/-- A disk of the document's that stands on blocks that are nobody's. -/
def RefZ (who : Nat → Nat) (w : World) (t : RT) (d : DDk) : Prop := ∀ W : World, (∀ b, b < w.heap.size → who b = 0 → W.heap[b]? = w.heap[b]?) → RefAt W t d
theorem RefZ.here {who : Nat → Nat} {w : World} {t : RT} {d : DDk} (h : RefZ who w t d) : RefAt w t d := h w fun _ _ _ => rfl
theorem RefZ.turn {lo hi : Nat} {who who' : Nat → Nat} {w w' : World} {t : RT} {d : DDk} (h : RefZ who w t d) (ht : Turn lo hi who w who' w') (hlo : 0 < lo) : RefZ who' w' t d := fun W hW => h W fun b hb h0 =>
  (hW b (Nat.lt_of_lt_of_le hb ht.size) ((ht.same b hb).trans h0)).trans (ht.block b hb (by omega))
theorem RefZ.step {who : Nat → Nat} {w w' : World} {t t' : RT} {d d' : DDk} (h : RefZ who w t d) (hf : Fresh who w) (hb : Below w.heap.size w w') (hp : ∀ W : World, (∀ b, w.heap.size ≤ b → b < w'.heap.size → W.heap[b]? = w'.heap[b]?) → RAreas W t.A t.c t.R → RefAt W t' d') : RefZ who w' t' d' := fun W hW =>
  hp W (fun b h1 h2 => hW b h2 (hf b h1)) (h W fun b hbl h0 => (hW b (Nat.lt_of_lt_of_le hbl hb.size) h0).trans (hb.block b hbl)).areas
theorem ds_turn {B : Nat} {who who' : Nat → Nat} {w w' : World} {T lo hi g n : Nat} {d : DDk} (h : DS B who w T g d n) (ht : Turn lo hi who w who' w') (hf : Fresh who' w') (hlo : 0 < lo) (hne : hi ≤ T ∨ T + 26 ≤ lo) : DS B who' w' T g d n :=
  ⟨h.at_.keep h.fits fun b hb h0 => ⟨ht.block b hb (by omega), ht.same b hb⟩, h.fits, hf, Nat.le_trans h.le ht.size⟩
/-- A new block, of a tag of its own. -/
def tag1 (who : Nat → Nat) (N T : Nat) : Nat → Nat := fun b => if b = N then T else who b
theorem tag1_turn {who : Nat → Nat} {w : World} (lo hi T : Nat) (o : Obj) : Turn lo hi who w (tag1 who w.heap.size T) (w.alloc o) :=
  have hb : Below w.heap.size w (w.alloc o) := (Below.refl _ _).alloc (Nat.le_refl _) _
  ⟨hb.os, hb.tape, hb.output, hb.size, fun b hl _ => hb.block b hl, fun b hl => if_neg (by omega)⟩
theorem tag1_fresh {who : Nat → Nat} {w : World} (hf : Fresh who w) (T : Nat) (o : Obj) : Fresh (tag1 who w.heap.size T) (w.alloc o) := fun b hb => by
  have hs : (w.alloc o).heap.size = w.heap.size + 1 := by simp
  show (if b = w.heap.size then T else who b) = 0
  rw [if_neg (by omega)]
  exact hf b (by omega)
theorem only_turn {who : Nat → Nat} {w w' : World} {N T : Nat} (ho : OnlyB w N w') (hN : who N = T) : Turn T (T + 1) who w who w' :=
  ⟨ho.os, ho.tape, ho.output, by rw [ho.size]; exact Nat.le_refl _, fun b _ hn => ho.block b (by intro e; subst e; omega), fun _ _ => rfl⟩
theorem ds_okS {B : Nat} {who : Nat → Nat} {w : World} {T g n : Nat} {d : DDk} (h : DS B who w T g d n) : ∀ x ∈ d.as, okS x.l x.p := by
  obtain ⟨ga, cap, L, _, _, _, _, h5, h6, _⟩ := h.at_
  intro x hx
  rw [h5] at hx
  obtain ⟨y, hy, rfl⟩ := List.mem_map.1 hx
  exact (h6 y hy).2.1
end Go.Proofs.Ytojkifcclgecoaa.Dk
