/-
  The contracts of graph.node, graph.Right.
-/
import Derived.Test.YteigepblocbnlaaGpMem
import Derived.BigQuiet
import Derived.Handy
import Derived.Deep.RegionHeld3
import Derived.IntWalk
namespace Go.Proofs.Yteigepblocbnlaa.Gp
open Go Go.RowKit Go.Shelf Go.Proofs
attribute [local go_sem] Oper.semAt_some

abbrev EI := Int × Int
def endB (n x : Int) : Bool := decide (0 ≤ x) && decide (x < n)
def sizeB (n : Int) : Bool := decide (0 ≤ n) && decide (n ≤ 2000)
def edgeB (n : Int) (e : EI) : Bool := endB n e.1 && endB n e.2
def rightB (n : Int) (l : List EI) : Bool := sizeB n && l.all (edgeB n)
/-- The slice value .slice A n c shows the edges l. -/
def EdgesAt (w : World) (A : Option Addr) (l : List EI) : Prop := 0 < l.length → ∃ g o, A = some ⟨g, o, none⟩ ∧ ∀ (i : Nat) (x : EI), l[i]? = some x → w.cell? ⟨g, o + i * 2, none⟩ = some (.int .i64 x.1) ∧ w.cell? ⟨g, o + i * 2 + 1, none⟩ = some (.int .i64 x.2)
theorem EdgesAt.keep {w w' : World} {A : Option Addr} {l : List EI} (h : EdgesAt w A l) (hk : ∀ g o, A = some ⟨g, o, none⟩ → g < w.heap.size → w'.heap[g]? = w.heap[g]?) : EdgesAt w' A l := fun hn => by
  obtain ⟨g, o, e, hc⟩ := h hn
  refine ⟨g, o, e, fun i x hx => ?_⟩
  obtain ⟨h1, h2⟩ := hc i x hx
  have hl : g < w.heap.size := World.block_lt_of_cell? w (a := ⟨g, o + i * 2, none⟩) h1
  exact ⟨(World.cell?_of_block (a := ⟨g, o + i * 2, none⟩) (hk g o e hl)).trans h1, (World.cell?_of_block (a := ⟨g, o + i * 2 + 1, none⟩) (hk g o e hl)).trans h2⟩
theorem EdgesAt.below {w w' : World} {A : Option Addr} {l : List EI} (h : EdgesAt w A l) (hb : Below w.heap.size w w') : EdgesAt w' A l := h.keep fun g _ _ hg => hb.block g hg

set_option maxHeartbeats 1000000 in
theorem node_any (n x : Int) (w : World) :
    Calls Try.prog 22 #[.int .i64 n, .int .i64 x] w fun e w' => e = .returned (.bool (endB n x)) ∧ w' = w := by
  by_cases h1 : 0 ≤ x
  · have k1 : decide (0 ≤ x) = true := decide_eq_true h1
    go_enter Try.func22, Try.ntmps22
    go_wp2_with fail
    go_ret
    exact ⟨ret_b (by unfold endB; rw [k1, Bool.true_and]), rfl⟩
  · have k1 : decide (0 ≤ x) = false := decide_eq_false h1
    go_enter Try.func22, Try.ntmps22
    go_wp2_with fail
    go_ret
    exact ⟨ret_b (by unfold endB; rw [k1, Bool.false_and]), rfl⟩

theorem right_bad {n : Int} {l : List EI} {k : Nat} {x : EI} (h : l[k]? = some x) (hx : edgeB n x = false) : rightB n l = false := by
  unfold rightB
  rw [Bool.and_eq_false_iff]; right
  rw [List.all_eq_false]; exact ⟨x, List.mem_of_getElem? h, by simp [hx]⟩

set_option maxRecDepth 100000 in
set_option maxHeartbeats 4000000 in
theorem right_any1 (n : Int) (h0 : 0 ≤ n) (A : Option Addr) (c : Nat) (l : List EI) (w : World) (hl : EdgesAt w A l) (hm : l.length ≤ 9000000000000) :
    Calls Try.prog 15 #[.int .i64 n, .slice A l.length c] w fun e w' => e = .returned (.bool (rightB n l)) ∧ Below w.heap.size w w' := by
  have HL := Lib.hid hl; clear hl
  obtain ⟨N, hN⟩ : ∃ N, l.length = N := ⟨_, rfl⟩
  rw [hN] at hm ⊢
  have HN := Lib.hid hN; clear hN
  have k1 : decide (0 ≤ n) = true := decide_eq_true h0
  have hs : sizeB n = decide (n ≤ 2000) := by unfold sizeB; rw [k1, Bool.true_and]
  have HS := Lib.hid hs; clear hs h0
  go_enter Try.func15, Try.ntmps15
  go_wp2_with fail
  go_step3
  go_wp2_with fail
  go_step3
  go_wp2_with fail
  clear k1
  go_loopw [5, 18] (fun s y wr => ∃ (k : Nat) (b : Bool), k ≤ N ∧ s = .bool b ∧ y = .int .i64 k ∧ Hid (b = (sizeB n && (l.take k).all (edgeB n)) ∧ (0 < k → b = true)) ∧ Hid (Below w.heap.size w wr)) (fun _ y _ => N - (intOf y).toNat)
  case atStart => exact ⟨0, _, Nat.zero_le _, rfl, rfl, ⟨by rw [HS.out]; simp, fun h => absurd h (Nat.lt_irrefl _)⟩, Below.refl _ _⟩
  case round =>
    obtain ⟨k, b, hk, rfl, rfl, HB, HW⟩ := hrel
    by_cases h1 : k < N
    · obtain ⟨⟨ef, et⟩, hx⟩ : ∃ x, l[k]? = some x := ⟨_, List.getElem?_eq_getElem (by have := HN.out; omega)⟩
      obtain ⟨g, o, rfl, hc⟩ := (HL.out.below HW.out) (by have := HN.out; omega)
      obtain ⟨c1, c2⟩ := hc k _ hx
      have HX := Lib.hid hx
      have k1 : (k : Int) < (N : Int) := by omega
      have wk : IntKind.i64.wrap (k : Int) = (k : Int) := IntWalk.i64_in _ (by omega)
      clear hc hx
      go_wp2_with fail
      have hx0 : ∀ W : World, (Instr.index 47 (.agg #[.int .i64 ef, .int .i64 et]) (.int .i64 0)).run Try.prog W = .ok (.int .i64 ef) W := fun W => by kernel_rfl
      have hx1 : ∀ W : World, (Instr.index 47 (.agg #[.int .i64 ef, .int .i64 et]) (.int .i64 1)).run Try.prog W = .ok (.int .i64 et) W := fun W => by kernel_rfl
      have HX0 := Lib.hid hx0
      have HX1 := Lib.hid hx1
      clear hx0 hx1
      obtain ⟨wc, hwc⟩ : ∃ wc, wc = wr := ⟨_, rfl⟩
      subst hwc
      go_loopw [5, 27] (fun s y wq => ∃ (j : Nat) (q : Bool), j ≤ 2 ∧ s = .bool q ∧ y = .int .i64 j ∧ Hid (q = (b && (decide (j = 0) || endB n ef) && (decide (j < 2) || endB n et)) ∧ (0 < j → q = true)) ∧ Hid (Below w.heap.size w wq)) (fun _ y _ => 2 - (intOf y).toNat)
      case atStart => exact ⟨0, _, by omega, rfl, rfl, ⟨by simp, fun h => absurd h (Nat.lt_irrefl _)⟩, HW.out.alloc HW.out.size _⟩
      case round =>
        have hx0 := HX0.out
        have hx1 := HX1.out
        obtain ⟨j, q, hj, rfl, rfl, HQ, HV⟩ := hrel
        match j, hj with
        | 0, _ =>
          have hix := hx0
          cases q with
          | false =>
            have hbad : rightB n l = false := by
              have hq := HQ.out.1; simp at hq
              have hb := HB.out
              rw [hq] at hb
              have hk0 : k = 0 := by rcases Nat.eq_zero_or_pos k with h | h; exact h; exact absurd (hb.2 h) (by simp)
              subst hk0
              have := hb.1; simp at this
              unfold rightB; rw [this, Bool.false_and]
            have HBAD := Lib.hid hbad; clear hbad
            go_wp2_with fail
            first | go_ret | (rw [Exit.noGoto_ret]; go_ret)
            exact ⟨ret_b HBAD.out.symm, HV.out⟩
          | true =>
            obtain ⟨z, hz⟩ : ∃ z, endB n ef = z := ⟨_, rfl⟩
            have HZ := Lib.hid hz
            have HC := Lib.hid (node_any n ef wr)
            rw [hz] at HC
            clear hz
            go_wp2_with fail
            refine HC.out.mono ?_
            rintro e w1 ⟨rfl, rfl⟩
            cases z with
            | false =>
              have hbad : rightB n l = false := right_bad HX.out (by unfold edgeB; rw [HZ.out]; simp)
              have HBAD := Lib.hid hbad; clear hbad
              go_wp2_with fail
              first | go_ret | (rw [Exit.noGoto_ret]; go_ret)
              exact ⟨ret_b HBAD.out.symm, HV.out⟩
            | true =>
              go_wp2_with fail
              go_roundw
              case rel => exact ⟨1, true, by omega, rfl, by go_num, ⟨by have := HQ.out.1; simp at this; have h3 := HZ.out; simp [this, h3], fun _ => rfl⟩, HV.out⟩
              case measure => simp [intOf]
        | 1, _ =>
          have hix := hx1
          cases q with
          | false =>
            have hbad : rightB n l = false := absurd (HQ.out.2 (by omega)) (by simp)
            have HBAD := Lib.hid hbad; clear hbad
            go_wp2_with fail
            first | go_ret | (rw [Exit.noGoto_ret]; go_ret)
            exact ⟨ret_b HBAD.out.symm, HV.out⟩
          | true =>
            obtain ⟨z, hz⟩ : ∃ z, endB n et = z := ⟨_, rfl⟩
            have HZ := Lib.hid hz
            have HC := Lib.hid (node_any n et wr)
            rw [hz] at HC
            clear hz
            go_wp2_with fail
            refine HC.out.mono ?_
            rintro e w1 ⟨rfl, rfl⟩
            cases z with
            | false =>
              have hbad : rightB n l = false := right_bad HX.out (by unfold edgeB; rw [HZ.out]; simp)
              have HBAD := Lib.hid hbad; clear hbad
              go_wp2_with fail
              first | go_ret | (rw [Exit.noGoto_ret]; go_ret)
              exact ⟨ret_b HBAD.out.symm, HV.out⟩
            | true =>
              go_wp2_with fail
              go_roundw
              case rel => exact ⟨2, true, by omega, rfl, by go_num, ⟨by have := HQ.out.1; simp at this; have h3 := HZ.out; simp [this, h3], fun _ => rfl⟩, HV.out⟩
              case measure => simp [intOf]
        | 2, _ =>
          go_wp2_with fail
          go_roundw
          case rel =>
            refine ⟨k + 1, q, by omega, rfl, by go_num, ⟨?_, fun _ => HQ.out.2 (by omega)⟩, HV.out⟩
            have h1 := HQ.out.1
            have h2 := HB.out.1
            rw [List.take_add_one, HX.out, List.all_append]
            rw [h1, h2]
            simp [edgeB, Bool.and_assoc]
          case measure => simp [intOf]; omega

    · obtain rfl : k = N := by omega
      have hfin : rightB n l = b := by rw [HB.out.1, ← HN.out, List.take_length]; rfl
      have HF := Lib.hid hfin; clear hfin
      go_wp2_with fail
      first | go_ret | (rw [Exit.noGoto_ret]; go_ret)
      exact ⟨ret_b HF.out.symm, HW.out⟩
set_option maxRecDepth 100000 in
set_option maxHeartbeats 4000000 in
theorem right_any2 (n : Int) (h0 : ¬ 0 ≤ n) (A : Option Addr) (c : Nat) (l : List EI) (w : World) (hl : EdgesAt w A l) (hm : l.length ≤ 9000000000000) :
    Calls Try.prog 15 #[.int .i64 n, .slice A l.length c] w fun e w' => e = .returned (.bool (rightB n l)) ∧ Below w.heap.size w w' := by
  have HL := Lib.hid hl; clear hl
  obtain ⟨N, hN⟩ : ∃ N, l.length = N := ⟨_, rfl⟩
  rw [hN] at hm ⊢
  have HN := Lib.hid hN; clear hN
  have k1 : decide (0 ≤ n) = false := decide_eq_false h0
  have hs : sizeB n = false := by unfold sizeB; rw [k1, Bool.false_and]
  have HS := Lib.hid hs; clear hs h0
  go_enter Try.func15, Try.ntmps15
  go_wp2_with fail
  go_step3
  go_wp2_with fail
  go_step3
  go_wp2_with fail
  clear k1
  go_loopw [5, 18] (fun s y wr => ∃ (k : Nat) (b : Bool), k ≤ N ∧ s = .bool b ∧ y = .int .i64 k ∧ Hid (b = (sizeB n && (l.take k).all (edgeB n)) ∧ (0 < k → b = true)) ∧ Hid (Below w.heap.size w wr)) (fun _ y _ => N - (intOf y).toNat)
  case atStart => exact ⟨0, _, Nat.zero_le _, rfl, rfl, ⟨by rw [HS.out]; simp, fun h => absurd h (Nat.lt_irrefl _)⟩, Below.refl _ _⟩
  case round =>
    obtain ⟨k, b, hk, rfl, rfl, HB, HW⟩ := hrel
    by_cases h1 : k < N
    · obtain ⟨⟨ef, et⟩, hx⟩ : ∃ x, l[k]? = some x := ⟨_, List.getElem?_eq_getElem (by have := HN.out; omega)⟩
      obtain ⟨g, o, rfl, hc⟩ := (HL.out.below HW.out) (by have := HN.out; omega)
      obtain ⟨c1, c2⟩ := hc k _ hx
      have HX := Lib.hid hx
      have k1 : (k : Int) < (N : Int) := by omega
      have wk : IntKind.i64.wrap (k : Int) = (k : Int) := IntWalk.i64_in _ (by omega)
      clear hc hx
      go_wp2_with fail
      have hx0 : ∀ W : World, (Instr.index 47 (.agg #[.int .i64 ef, .int .i64 et]) (.int .i64 0)).run Try.prog W = .ok (.int .i64 ef) W := fun W => by kernel_rfl
      have hx1 : ∀ W : World, (Instr.index 47 (.agg #[.int .i64 ef, .int .i64 et]) (.int .i64 1)).run Try.prog W = .ok (.int .i64 et) W := fun W => by kernel_rfl
      have HX0 := Lib.hid hx0
      have HX1 := Lib.hid hx1
      clear hx0 hx1
      obtain ⟨wc, hwc⟩ : ∃ wc, wc = wr := ⟨_, rfl⟩
      subst hwc
      go_loopw [5, 27] (fun s y wq => ∃ (j : Nat) (q : Bool), j ≤ 2 ∧ s = .bool q ∧ y = .int .i64 j ∧ Hid (q = (b && (decide (j = 0) || endB n ef) && (decide (j < 2) || endB n et)) ∧ (0 < j → q = true)) ∧ Hid (Below w.heap.size w wq)) (fun _ y _ => 2 - (intOf y).toNat)
      case atStart => exact ⟨0, _, by omega, rfl, rfl, ⟨by simp, fun h => absurd h (Nat.lt_irrefl _)⟩, HW.out.alloc HW.out.size _⟩
      case round =>
        have hx0 := HX0.out
        have hx1 := HX1.out
        obtain ⟨j, q, hj, rfl, rfl, HQ, HV⟩ := hrel
        match j, hj with
        | 0, _ =>
          have hix := hx0
          cases q with
          | false =>
            have hbad : rightB n l = false := by
              have hq := HQ.out.1; simp at hq
              have hb := HB.out
              rw [hq] at hb
              have hk0 : k = 0 := by rcases Nat.eq_zero_or_pos k with h | h; exact h; exact absurd (hb.2 h) (by simp)
              subst hk0
              have := hb.1; simp at this
              unfold rightB; rw [this, Bool.false_and]
            have HBAD := Lib.hid hbad; clear hbad
            go_wp2_with fail
            first | go_ret | (rw [Exit.noGoto_ret]; go_ret)
            exact ⟨ret_b HBAD.out.symm, HV.out⟩
          | true =>
            obtain ⟨z, hz⟩ : ∃ z, endB n ef = z := ⟨_, rfl⟩
            have HZ := Lib.hid hz
            have HC := Lib.hid (node_any n ef wr)
            rw [hz] at HC
            clear hz
            go_wp2_with fail
            refine HC.out.mono ?_
            rintro e w1 ⟨rfl, rfl⟩
            cases z with
            | false =>
              have hbad : rightB n l = false := right_bad HX.out (by unfold edgeB; rw [HZ.out]; simp)
              have HBAD := Lib.hid hbad; clear hbad
              go_wp2_with fail
              first | go_ret | (rw [Exit.noGoto_ret]; go_ret)
              exact ⟨ret_b HBAD.out.symm, HV.out⟩
            | true =>
              go_wp2_with fail
              go_roundw
              case rel => exact ⟨1, true, by omega, rfl, by go_num, ⟨by have := HQ.out.1; simp at this; have h3 := HZ.out; simp [this, h3], fun _ => rfl⟩, HV.out⟩
              case measure => simp [intOf]
        | 1, _ =>
          have hix := hx1
          cases q with
          | false =>
            have hbad : rightB n l = false := absurd (HQ.out.2 (by omega)) (by simp)
            have HBAD := Lib.hid hbad; clear hbad
            go_wp2_with fail
            first | go_ret | (rw [Exit.noGoto_ret]; go_ret)
            exact ⟨ret_b HBAD.out.symm, HV.out⟩
          | true =>
            obtain ⟨z, hz⟩ : ∃ z, endB n et = z := ⟨_, rfl⟩
            have HZ := Lib.hid hz
            have HC := Lib.hid (node_any n et wr)
            rw [hz] at HC
            clear hz
            go_wp2_with fail
            refine HC.out.mono ?_
            rintro e w1 ⟨rfl, rfl⟩
            cases z with
            | false =>
              have hbad : rightB n l = false := right_bad HX.out (by unfold edgeB; rw [HZ.out]; simp)
              have HBAD := Lib.hid hbad; clear hbad
              go_wp2_with fail
              first | go_ret | (rw [Exit.noGoto_ret]; go_ret)
              exact ⟨ret_b HBAD.out.symm, HV.out⟩
            | true =>
              go_wp2_with fail
              go_roundw
              case rel => exact ⟨2, true, by omega, rfl, by go_num, ⟨by have := HQ.out.1; simp at this; have h3 := HZ.out; simp [this, h3], fun _ => rfl⟩, HV.out⟩
              case measure => simp [intOf]
        | 2, _ =>
          go_wp2_with fail
          go_roundw
          case rel =>
            refine ⟨k + 1, q, by omega, rfl, by go_num, ⟨?_, fun _ => HQ.out.2 (by omega)⟩, HV.out⟩
            have h1 := HQ.out.1
            have h2 := HB.out.1
            rw [List.take_add_one, HX.out, List.all_append]
            rw [h1, h2]
            simp [edgeB, Bool.and_assoc]
          case measure => simp [intOf]; omega

    · obtain rfl : k = N := by omega
      have hfin : rightB n l = b := by rw [HB.out.1, ← HN.out, List.take_length]; rfl
      have HF := Lib.hid hfin; clear hfin
      go_wp2_with fail
      first | go_ret | (rw [Exit.noGoto_ret]; go_ret)
      exact ⟨ret_b HF.out.symm, HW.out⟩
theorem right_any (n : Int) (A : Option Addr) (c : Nat) (l : List EI) (w : World) (hl : EdgesAt w A l) (hm : l.length ≤ 9000000000000) :
    Calls Try.prog 15 #[.int .i64 n, .slice A l.length c] w fun e w' => e = .returned (.bool (rightB n l)) ∧ Below w.heap.size w w' := by
  by_cases h0 : 0 ≤ n
  · exact right_any1 n h0 A c l w hl hm
  · exact right_any2 n h0 A c l w hl hm
end Go.Proofs.Yteigepblocbnlaa.Gp
