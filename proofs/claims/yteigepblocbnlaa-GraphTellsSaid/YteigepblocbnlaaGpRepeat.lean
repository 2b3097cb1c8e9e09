/-
  The contract of slices.Repeat at one number.
-/
import Derived.Test.YteigepblocbnlaaGpRings2
import Derived.Laws.CopyRow
import Derived.Shelf.Spec.SlicesInsert
import Derived.Deep.RegionHeld3
import Derived.BigQuiet
namespace Go.Proofs.Yteigepblocbnlaa.Gp
open Go Go.RowKit Go.Shelf Go.Proofs
attribute [local go_sem] Oper.semAt_some

def vM1 : Value := .int .i64 (-1)
def repC (n k : Nat) : Array Value := (List.replicate k vM1 ++ List.replicate (n - k) (vI 0)).toArray
theorem repC_size {n k : Nat} (h : k ≤ n) : (repC n k).size = n := by unfold repC; simp; omega
theorem repC_zero (n : Nat) : repC n 0 = (valsI (List.replicate n 0)).toArray := by unfold repC valsI; simp
theorem repC_full (n : Nat) : repC n n = (List.replicate n vM1).toArray := by unfold repC; simp
theorem repC_next {n k j : Nat} (h : k + j ≤ n) : ((repC n k).toList.take k ++ List.replicate j vM1 ++ (repC n k).toList.drop (k + (List.replicate j vM1).length)).toArray = repC n (k + j) := by
  unfold repC
  simp only [List.length_replicate]
  rw [List.take_append_of_le_length (by simp), List.take_of_length_le (by simp), List.drop_append, List.length_replicate, List.drop_of_length_le (by simp), List.drop_replicate, List.nil_append, List.append_assoc, ← List.append_assoc, List.replicate_append_replicate]
  rw [show n - k - (k + j - k) = n - (k + j) by omega]
theorem repC_run {n k j g : Nat} (h : j ≤ k) (_hk : k ≤ n) {W : World} (hg : W.heap[g]? = some (.cells (repC n k) 3 (0, 0))) : ∀ i v, (List.replicate j vM1)[i]? = some v → W.cell? ((⟨g, 0, none⟩ : Addr).add i) = some v := fun i v hi => by
  rw [List.getElem?_replicate] at hi
  split at hi
  · rename_i hij
    cases hi
    rw [Go.WideShapes.add_plain, cell_of_row _ _ _ _ _ _ hg]
    unfold repC
    rw [List.getElem?_toArray, Nat.zero_add, List.getElem?_append_left (by simp; omega), List.getElem?_replicate, if_pos (by omega)]
  · cases hi
theorem setRow_heap {W : World} {g : Nat} {cs cur : Array Value} {t : TypeId} (hg : W.heap[g]? = some (.cells cur t (0, 0))) : (W.setRow g cs).heap[g]? = some (.cells cs t (0, 0)) := by
  unfold World.setRow
  rw [Array.getElem?_modify, if_pos rfl, hg]; rfl
theorem setRow_other {W : World} {g : Nat} {cs : Array Value} {k : Nat} (h : k ≠ g) : (W.setRow g cs).heap[k]? = W.heap[k]? := by
  unfold World.setRow
  rw [Array.getElem?_modify, if_neg (fun e => h e.symm)]
theorem setRow_below {n₀ : Nat} {W : World} {g : Nat} (cs : Array Value) (h : n₀ ≤ g) : Below n₀ W (W.setRow g cs) := ⟨rfl, rfl, rfl, by simp, fun k hk => setRow_other (by omega)⟩

set_option maxRecDepth 100000 in
set_option maxHeartbeats 8000000 in
theorem repeat_any (n g : Nat) (w : World) (hn : n ≤ 2000) (hg : w.heap[g]? = some (.cells #[vM1] 3 (0, 0))) :
    Calls Try.prog 28 #[.slice (some ⟨g, 0, none⟩) 1 1, .int .i64 n] w fun e w' => ∃ g', e = .returned (.slice (some ⟨g', 0, none⟩) n n) ∧ w'.heap[g']? = some (.cells (List.replicate n vM1).toArray 3 (0, 0)) ∧ Below w.heap.size w w' ∧ w.heap.size ≤ g' := by
  have HG := Lib.hid hg
  have hmk := make_ints w n (by omega)
  have hmul := Try.bits_Mul 1 n (by omega) (by omega) w
  rw [show 1 * n / 18446744073709551616 = 0 by omega, show 1 * n % 18446744073709551616 = n by omega] at hmul
  have HMUL := Lib.hid hmul
  clear hmul hg
  have k0 : ¬ (n : Int) < 0 := by omega
  have k1 : (9223372036854775807 < (n : Int)) = False := eq_false (by omega)
  have wn : IntKind.u64.wrap (n : Int) = (n : Int) := IntWalk.u64_in _ (by omega)
  have wn2 : IntKind.i64.wrap (n : Int) = (n : Int) := IntWalk.i64_in _ (by omega)
  go_enter Try.func28, Try.ntmps28
  go_wp2_with fail
  refine HMUL.out.mono ?_
  rintro e w1 ⟨rfl, rfl⟩
  obtain ⟨W1, hW1⟩ : ∃ W1, w1.alloc (.cells (valsI (List.replicate n 0)).toArray 3) = W1 := ⟨_, rfl⟩
  have hb1 : Below w1.heap.size w1 W1 := by rw [← hW1]; exact (Below.refl _ _).alloc (Nat.le_refl _) _
  have hr1 : W1.heap[w1.heap.size]? = some (.cells (repC n 0) 3 (0, 0)) := by rw [← hW1, repC_zero]; exact World.alloc_heap_new w1 _
  have hg1 : W1.heap[g]? = some (.cells #[vM1] 3 (0, 0)) := (hb1.block _ (Array.getElem?_eq_some_iff.1 HG.out).1).trans HG.out
  obtain ⟨j0, hj0⟩ : ∃ j0, Nat.min 1 n = j0 := ⟨_, rfl⟩
  have hj1 : j0 ≤ 1 ∧ j0 ≤ n ∧ (0 < n → 0 < j0) := by rw [← hj0]; exact ⟨Nat.min_le_left _ _, Nat.min_le_right _ _, fun h => by show 0 < Nat.min 1 n; rw [show Nat.min 1 n = min 1 n from rfl]; omega⟩
  have hcp : ∀ ty, (Builtin.copy_ #[30, 30] ty #[.slice (some ⟨w1.heap.size, 0, none⟩) n n, .slice (some ⟨g, 0, none⟩) 1 1]).run Try.prog W1 = .ok (.int .i64 (j0 : Int)) (W1.setRow w1.heap.size (repC n j0)) := fun ty => by
    have hr := run_copy_row (P := Try.prog) W1 30 30 ty 3 w1.heap.size 0 n n ⟨g, 0, none⟩ 1 1 (repC n 0) 3 (List.replicate j0 vM1) Try.underlying30 (by kernel_rfl) hr1 (by rw [List.length_replicate, hj0]) (fun j v hj => by
      rw [List.getElem?_replicate] at hj
      split at hj
      · cases hj
        obtain rfl : j = 0 := by omega
        rw [Go.WideShapes.add_plain, cell_of_row _ _ _ _ _ _ hg1]; rfl
      · cases hj) (by rw [repC_size (Nat.zero_le _), List.length_replicate]; omega) (fun v hv => by rw [(List.mem_replicate.1 hv).2]; rfl)
    rw [hr]
    have := repC_next (n := n) (k := 0) (j := j0) (by omega)
    rw [this, List.length_replicate, Nat.zero_add]; rfl
  have hr2 : (W1.setRow w1.heap.size (repC n j0)).heap[w1.heap.size]? = some (.cells (repC n j0) 3 (0, 0)) := setRow_heap hr1
  have HR2 := Lib.hid hr2
  have HB2 := Lib.hid (hb1.trans (setRow_below (repC n j0) (Nat.le_refl _)))
  obtain ⟨W2, hW2⟩ : ∃ W2, W1.setRow w1.heap.size (repC n j0) = W2 := ⟨_, rfl⟩
  rw [hW2] at HR2 HB2 hcp
  clear hW2 hr2 hr1 hg1 hb1 hj0
  have hcp1 := hcp 3
  go_wp2_with (at_builtin; refine wpList_copy_runI _ rfl _ _ 30 30 rfl _ _ rfl rfl (hcp _) ?_)
  clear hcp hcp1 hmk hW1 k0 k1 wn wn2
  go_loopw [8] (fun y wr => ∃ (k : Nat), k ≤ n ∧ y = .int .i64 k ∧ Hid ((0 < n → 0 < k) ∧ wr.heap[w1.heap.size]? = some (.cells (repC n k) 3 (0, 0)) ∧ Below w1.heap.size w1 wr)) (fun y _ => n - (intOf y).toNat)
  case atStart => exact ⟨j0, hj1.2.1, rfl, hj1.2.2, HR2.out, HB2.out⟩
  case round =>
    obtain ⟨k, hk, rfl, HK⟩ := hrel
    by_cases h1 : k < n
    · have hk0 := HK.out.1 (by omega)
      obtain ⟨j, hj⟩ : ∃ j, Nat.min k (n - k) = j := ⟨_, rfl⟩
      have hj2 : j ≤ k ∧ j ≤ n - k ∧ 0 < j := by
        rw [← hj]; exact ⟨Nat.min_le_left _ _, Nat.min_le_right _ _, by rw [show Nat.min k (n - k) = min k (n - k) from rfl]; omega⟩
      have hcp : ∀ ty, (Builtin.copy_ #[30, 30] ty #[.slice (some ⟨w1.heap.size, k, none⟩) (n - k) (n - k), .slice (some ⟨w1.heap.size, 0, none⟩) k n]).run Try.prog wr.drew = .ok (.int .i64 (j : Int)) (wr.drew.setRow w1.heap.size (repC n (k + j))) := fun ty => by
        have hr := run_copy_row (P := Try.prog) wr.drew 30 30 ty 3 w1.heap.size k (n - k) (n - k) ⟨w1.heap.size, 0, none⟩ k n (repC n k) 3 (List.replicate j vM1) Try.underlying30 (by kernel_rfl) HK.out.2.1 (by rw [List.length_replicate, hj])
          (repC_run (W := wr.drew) hj2.1 hk HK.out.2.1) (by rw [repC_size hk, List.length_replicate]; omega) (fun v hv => by rw [(List.mem_replicate.1 hv).2]; rfl)
        rw [hr]
        have := repC_next (n := n) (k := k) (j := j) (by omega)
        rw [this, List.length_replicate]; rfl
      have k1 : (k : Int) < (n : Int) := by omega
      have k2 : ¬ n = k := by omega
      have wk : IntKind.i64.wrap ((k : Int) + (j : Int)) = (k : Int) + (j : Int) := IntWalk.i64_in _ (by omega)
      have HJ2 := Lib.hid hj2
      clear hj hj2
      go_wp2_with fail
      -- region
      refine wp_region_held_drew (S := (fun w' => True)) (by kernel_rfl) ⟨⟩ (fun hHeld => ?_)
      refine wpAnyH_take (i := 0) (v := ?vs0) rfl (by kernel_rfl) (by kernel_rfl) (by kernel_rfl) (fun _ _ _ h => h) (Or.inl ⟨by rfl, ?ys0⟩) (by assumption) ?rs0
      case ys0 =>
        intro w hSw
        (try dsimp only at hSw)
        go_simp
        first | done | with_reducible rfl
      try simp only [Act.put, List.getElem_toArray, List.getElem_cons_zero, List.setIfInBounds_toArray, List.set_cons_zero, List.set_cons_succ]
      refine wpAnyH_take (i := 1) (v := ?vs1) rfl (by kernel_rfl) (by kernel_rfl) (by kernel_rfl) (fun _ _ _ h => h) (Or.inl ⟨by rfl, ?ys1⟩) (by assumption) ?rs1
      case ys1 =>
        intro w hSw
        (try dsimp only at hSw)
        go_simp
        first | done | with_reducible rfl
      try simp only [Act.put, List.getElem_toArray, List.getElem_cons_zero, List.getElem_cons_succ, List.setIfInBounds_toArray, List.set_cons_zero, List.set_cons_succ]
      refine wpAnyH_take (i := 2) (v := ?vs2) rfl (by kernel_rfl) (by kernel_rfl) (by kernel_rfl) (fun _ _ _ h => h) (Or.inl ⟨by rfl, ?ys2⟩) (by assumption) ?rs2
      case ys2 =>
        intro w hSw
        (try dsimp only at hSw)
        go_simp
        first | done | with_reducible rfl
      try simp only [Act.put, List.getElem_toArray, List.getElem_cons_zero, List.getElem_cons_succ, List.setIfInBounds_toArray, List.set_cons_zero, List.set_cons_succ]
      refine wpAnyH_take (i := 3) (v := ?vs3) rfl (by kernel_rfl) (by kernel_rfl) (by kernel_rfl) (fun _ _ _ h => h) (Or.inl ⟨by rfl, ?ys3⟩) (by assumption) ?rs3
      case ys3 =>
        intro w hSw
        (try dsimp only at hSw)
        go_simp
        first | done | with_reducible rfl
      try simp only [Act.put, List.getElem_toArray, List.getElem_cons_zero, List.getElem_cons_succ, List.setIfInBounds_toArray, List.set_cons_zero, List.set_cons_succ]
      refine wpAnyH_take (i := 4) (v := ?vs4) rfl (by kernel_rfl) (by kernel_rfl) (by kernel_rfl) (fun _ _ _ h => h) (Or.inl ⟨by rfl, ?ys4⟩) (by assumption) ?rs4
      case ys4 =>
        intro w hSw
        (try dsimp only at hSw)
        go_simp
        first | done | with_reducible rfl
      try simp only [Act.put, List.getElem_toArray, List.getElem_cons_zero, List.getElem_cons_succ, List.setIfInBounds_toArray, List.set_cons_zero, List.set_cons_succ]
      refine wpAnyH_take (i := 5) (v := ?vs5) rfl (by kernel_rfl) (by kernel_rfl) (by kernel_rfl) (fun _ _ _ h => h) (Or.inl ⟨by rfl, ?ys5⟩) (by assumption) ?rs5
      case ys5 =>
        intro w hSw
        (try dsimp only at hSw)
        go_simp
        first | done | with_reducible rfl
      try simp only [Act.put, List.getElem_toArray, List.getElem_cons_zero, List.getElem_cons_succ, List.setIfInBounds_toArray, List.set_cons_zero, List.set_cons_succ]
      refine wpAnyH_take (i := 6) (v := ?vs6) rfl (by kernel_rfl) (by kernel_rfl) (by kernel_rfl) (fun _ _ _ h => h) (Or.inl ⟨by rfl, ?ys6⟩) (by assumption) ?rs6
      case ys6 =>
        intro w hSw
        (try dsimp only at hSw)
        go_simp
        first | done | with_reducible rfl
      try simp only [Act.put, List.getElem_toArray, List.getElem_cons_zero, List.getElem_cons_succ, List.setIfInBounds_toArray, List.set_cons_zero, List.set_cons_succ]
      refine wpAnyH_ready (rs := [7]) (by kernel_rfl) (by simp) ?_
      refine AllReadyH.cons rfl (fun K hK => ?_) AllReadyH.nil
      refine wp_copy_runI _ _ _ 30 30 rfl _ _ rfl rfl (hcp _) ?_
      refine hK.out _ _ trivial (fun hHeld => ?_)
      clear hK K
      try simp only [Act.put, List.getElem_toArray, List.getElem_cons_zero, List.getElem_cons_succ, List.setIfInBounds_toArray, List.set_cons_zero, List.set_cons_succ]
      refine wpAnyH_take (i := 8) (v := ?vs8) rfl (by kernel_rfl) (by kernel_rfl) (by kernel_rfl) (fun _ _ _ h => h) (Or.inl ⟨by rfl, ?ys8⟩) (by assumption) ?rs8
      case ys8 =>
        intro w hSw
        (try dsimp only at hSw)
        go_simp
        first | done | with_reducible rfl
      try simp only [Act.put, List.getElem_toArray, List.getElem_cons_zero, List.getElem_cons_succ, List.setIfInBounds_toArray, List.set_cons_zero, List.set_cons_succ]
      refine wpAnyH_take (i := 9) (v := ?vs9) rfl (by kernel_rfl) (by kernel_rfl) (by kernel_rfl) (fun _ _ _ h => h) (Or.inl ⟨by rfl, ?ys9⟩) (by assumption) ?rs9
      case ys9 =>
        intro w hSw
        (try dsimp only at hSw)
        go_simp
        first | done | with_reducible rfl
      try simp only [Act.put, List.getElem_toArray, List.getElem_cons_zero, List.getElem_cons_succ, List.setIfInBounds_toArray, List.set_cons_zero, List.set_cons_succ]
      refine wpAnyH_done (by kernel_rfl) ?_ _
      go_wp2_with fail
      go_roundw
      case rel =>
        have e : (wr.drew.setRow w1.heap.size (repC n (k + j))).heap[w1.heap.size]? = some (.cells (repC n (k + j)) 3 (0, 0)) := setRow_heap (W := wr.drew) HK.out.2.1
        exact ⟨k + j, by have := HJ2.out; omega, by go_num, fun _ => by omega, e, HK.out.2.2.drew.trans (setRow_below _ (Nat.le_refl _))⟩
      case measure => have := HJ2.out; simp [intOf]; omega
      -- end
    · obtain rfl : k = n := by omega
      go_wp2_with fail
      go_ret
      exact ⟨_, rfl, by rw [← repC_full]; exact HK.out.2.1, HK.out.2.2, Nat.le_refl _⟩
end Go.Proofs.Yteigepblocbnlaa.Gp
