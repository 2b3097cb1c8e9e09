/-
  What the laws of layer 2 call: known.
-/
import Derived.Test.YtedcaodbcognjaaDoorTDels
import Derived.Test.YtedcaodbcognjaaDoorTLong
import Derived.Lib.SlBytesConst
namespace Go.Proofs.YtedcaodbcognjaaDoor
open Go Go.RowKit Go.Shelf Go.Proofs

/-- The chapter's tree of one file. -/
def fileA (g : Nat) : FX := ⟨⟨#[97]⟩, some ⟨g, 0, none⟩, 1, [120]⟩
theorem known_right (g : Nat) : rightT (flsX [fileA g]) = true := by kernel_rfl
theorem known_diff (g : Nat) : diffB [] [fileA g] = [⟨1, [97], [120]⟩] := by
  unfold diffB
  have e : (rightT (flsX []) && rightT (flsX [fileA g])) = true := by rw [known_right]; kernel_rfl
  rw [if_pos e]
  simp [flsX, fileA, FX.fl, diffT]
theorem known_apply : applyT [] [⟨1, [97], [120]⟩] = .ok [([97], [120])] := by kernel_rfl

theorem known_tree {w W : World} (hW : (w.alloc (.cells #[.int .u8 120] 5 (1, 2))).alloc (.cells #[.string ⟨#[97]⟩, .slice (some ⟨w.heap.size, 0, none⟩) 1 1] 41) = W) :
    TreeAt W (some ⟨w.heap.size + 1, 0, none⟩) 1 [fileA w.heap.size] ∧ Below w.heap.size w W := by
  obtain ⟨X, hX⟩ : ∃ X, w.alloc (.cells #[.int .u8 120] 5 (1, 2)) = X := ⟨_, rfl⟩
  have hx0 : X.cell? ⟨w.heap.size, 0, none⟩ = some (.int .u8 120) := by rw [← hX]; exact World.cell?_alloc_mark w _ _ _ 0
  have hxs : X.heap.size = w.heap.size + 1 := by rw [← hX]; simp
  have hbX : Below w.heap.size w X := by rw [← hX]; exact (Below.refl _ _).alloc (Nat.le_refl _) _
  rw [hX] at hW
  have hbx := heap_alloc_new X (.cells #[.string ⟨#[97]⟩, .slice (some ⟨w.heap.size, 0, none⟩) 1 1] 41)
  have hbW : Below X.heap.size X W := by rw [← hW]; exact (Below.refl _ _).alloc (Nat.le_refl _) _
  rw [hW, hxs] at hbx
  refine ⟨⟨Nat.le_refl _, by decide, fun _ => ⟨_, 0, rfl, fun i x hx => ?_⟩, fun x hx => ?_⟩, hbX.trans (hbW.mono hbX.size)⟩
  · cases i with
    | succ i => simp at hx
    | zero =>
      simp at hx; subst hx
      exact ⟨cell_of_row _ _ 0 _ _ _ hbx, cell_of_row _ _ 1 _ _ _ hbx⟩
  · obtain rfl := List.mem_singleton.1 hx
    intro _
    refine ⟨_, 0, rfl, fun i hi => ?_⟩
    have hi : i < 1 := hi
    obtain rfl : i = 0 := by omega
    exact (hbW.cell (p := ⟨w.heap.size, 0, none⟩) (by rw [hxs]; exact Nat.lt_succ_self _)).trans hx0

set_option maxRecDepth 100000 in
set_option maxHeartbeats 2000000 in
theorem lawknown_any (w : World) (hm : MaxOk w) : Calls Tryd.prog 11 #[] w fun e w' => e = .returned (.bool true) ∧ Below w.heap.size w w' := by
  have kc := fun (w : World) (C : Array Value) (n c : Nat) => Lib.run_convert_bytes_const (P := Tryd.prog) w 37 5 C n c Tryd.underlying37 Tryd.underlying5
  have HM := Lib.hid hm; clear hm
  go_enter Tryd.func11, Tryd.ntmps11
  go_wp2_with fail
  obtain ⟨W, hW⟩ : ∃ W, (w.alloc (.cells #[.int .u8 120] 5 (1, 2))).alloc (.cells #[.string ⟨#[97]⟩, .slice (some ⟨w.heap.size, 0, none⟩) 1 1] 41) = W := ⟨_, rfl⟩
  rw [hW]
  obtain ⟨hT, hbW⟩ := known_tree hW
  have hs : ∀ x ∈ [fileA w.heap.size], x.p.size ≤ 1000000 := fun x hx => by obtain rfl := List.mem_singleton.1 hx; show (1 : Nat) ≤ 1000000; decide
  have hmW := HM.out.below hbW
  refine (diff_any [] [fileA w.heap.size] none _ 0 1 W (TreeAt.nil _ _ _ (Nat.zero_le _)) hT (fun x hx => by cases hx) hs hmW).mono ?_
  rintro e w1 ⟨v, l, rfl, hd, hl, hb1⟩
  rw [known_diff] at hl
  obtain ⟨dx, rfl⟩ : ∃ dx, l = [dx] := by
    cases l with
    | nil => simp at hl
    | cons x r => cases r with
      | nil => exact ⟨x, rfl⟩
      | cons y r => simp at hl
  have hdl : dx.dl = ⟨1, [97], [120]⟩ := by simpa using hl
  obtain ⟨Ad, cd, rfl, hD⟩ := hd.dels
  have hk : dx.k = 1 := congrArg Dl.k hdl
  have hp : dx.p.data.toList = [97] := congrArg Dl.p hdl
  have hbb : dx.b = [120] := congrArg Dl.b hdl
  have hap : applyT [] ([dx].map DX.dl) = .ok [([97], [120])] := by rw [List.map_singleton, hdl]; exact known_apply
  have hps : dx.p.size = 1 := by have := congrArg List.length hp; rw [Array.length_toList] at this; exact this
  have ha := tapply_any [] [dx] none Ad 0 cd w1 (TreeAt.nil _ _ _ (Nat.zero_le _)) ⟨Nat.zero_le _, fun x hx => by cases hx⟩ (Nat.zero_le _) hD ⟨by simp, fun x hx => by obtain rfl := List.mem_singleton.1 hx; exact ⟨by omega, by rw [hbb]; decide⟩⟩ (hmW.below hb1)
  have ha : Calls Tryd.prog 12 #[.slice none 0 0, .slice Ad 1 cd] w1 (ApplyPost w1 (applyT [] ([dx].map DX.dl))) := ha
  rw [hap] at ha
  obtain ⟨gd, od, rfl, hrow⟩ := hD.row (by simp)
  obtain ⟨c1, c2, _⟩ := hrow 0 dx rfl
  rw [hk] at c1
  simp only [Nat.zero_mul, Nat.add_zero] at c1 c2
  have hpe : dx.p.toList = [97] := by rw [ByteArray.toList_eq]; exact hp
  have hgl : gd < w1.heap.size := World.block_lt_of_cell? w1 (a := ⟨gd, od, none⟩) c1
  have hb1W := hbW.trans (hb1.mono hbW.size)
  have hT1 := hT.below hb1
  have HA := Lib.hid ha; clear ha
  have HT1 := Lib.hid hT1; clear hT1 hT
  have HB1 := Lib.hid hb1W; clear hb1W hb1 hbW
  have HMW := Lib.hid hmW; clear hmW
  clear hD hrow hd hl hdl hk hp hbb hap hps hs hW
  go_wp2_with fail
  refine HA.out.mono ?_
  rintro e w2 ⟨v', l', rfl, h2, hfl, hb2⟩
  obtain ⟨A2, c2', rfl⟩ := h2.own.slice
  have e1 := (hb2.cell (p := ⟨gd, od, none⟩) hgl).trans c1
  have e2 := (hb2.cell (p := ⟨gd, od + 1, none⟩) hgl).trans c2
  have HT2 := Lib.hid (HT1.out.below hb2)
  have HB2 := Lib.hid (HB1.out.trans (hb2.mono HB1.out.size))
  have H2 := Lib.hid h2; clear h2
  have HFL := Lib.hid hfl; clear hfl
  clear c1 c2 hb2
  go_wp2_with fail
  have hll : l'.length = 1 := by have := congrArg List.length HFL.out; rw [flsX_length] at this; exact this
  have hs2 := same_any [fileA w.heap.size] l' (some ⟨w.heap.size + 1, 0, none⟩) A2 1 c2' w2 (by simp) (by omega) HT2.out H2.out.tree.2
  have hse : decide (flsX [fileA w.heap.size] = flsX l') = true := by rw [HFL.out]; exact decide_eq_true rfl
  rw [hse] at hs2
  refine hs2.mono ?_
  rintro e w3 ⟨rfl, hb3⟩
  have hr3 := tright_any [fileA w.heap.size] (some ⟨w.heap.size + 1, 0, none⟩) 1 w3 (HT2.out.below hb3) (fun x hx => by obtain rfl := List.mem_singleton.1 hx; show (1 : Nat) ≤ 1000000; decide) (HM.out.below (HB2.out.trans (hb3.mono HB2.out.size)))
  rw [known_right] at hr3
  have HR3 := Lib.hid hr3; clear hr3
  have HB3 := Lib.hid (HB2.out.trans (hb3.mono HB2.out.size)); clear hb3 hs2
  go_wp2_with fail
  refine HR3.out.mono ?_
  rintro e w4 ⟨rfl, hb4⟩
  have HB4 := Lib.hid (HB3.out.trans (hb4.mono HB3.out.size)); clear hb4
  go_wp2_with fail
  go_ret
  exact ⟨rfl, HB4.out⟩
end Go.Proofs.YtedcaodbcognjaaDoor
