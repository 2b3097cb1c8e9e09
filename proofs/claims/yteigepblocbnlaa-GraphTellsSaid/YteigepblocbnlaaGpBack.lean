/-
  slices.Backward at numbers; slices.Min.
-/
import Derived.Test.YteigepblocbnlaaGpVisit
import Derived.Test.YteigepblocbnlaaGpSeq
import Derived.Test.YteigepblocbnlaaFrSeq
import Derived.Deep.QuietTactic
import Derived.RangeFuncBound
import Derived.RangeFuncCalls
import Derived.Shelf.Abstract
import Derived.OwnWalkIn
import Derived.TacticsInMore
import Derived.LoopNIn
import Derived.LoopIn
namespace Go.Proofs.Yteigepblocbnlaa.Gp
open Go Go.RowKit Go.Shelf Go.Proofs
attribute [local go_sem] Oper.semAt_some

def NoB (_ : Nat) : Prop := False
theorem backI_any (A : Option Addr) (n c : Nat) (w : World) :
    Calls Try.prog 32 #[.slice A n c] w fun e w' =>
      e = .returned (.func (.func 34) #[] #[.pointer (some ⟨w.heap.size, 0, none⟩)]) ∧ w' = w.alloc (.cells #[.slice A n c] 30) := by
  go_enter Try.func32, Try.ntmps32
  go_wp2
  go_ret
  exact ⟨rfl, rfl⟩
/-- What comes, backward: where, what. -/
def backX (l : List Nat) : List EN := (List.range l.length).reverse.map (fun i => (i, l.getD i 0))
theorem backX_length (l : List Nat) : (backX l).length = l.length := by unfold backX; simp
theorem backX_at {l : List Nat} {k : Nat} (h : k < l.length) : (backX l)[k]? = some (l.length - 1 - k, l.getD (l.length - 1 - k) 0) := by
  unfold backX
  rw [List.getElem?_map, List.getElem?_reverse (by simpa using h), List.length_range, List.getElem?_range (by omega)]; rfl
theorem backX_val {l : List Nat} {k : Nat} {x : EN} (h : (backX l)[k]? = some x) : l.reverse[k]? = some x.2 := by
  have hk : k < l.length := by have := (List.getElem?_eq_some_iff.1 h).1; rwa [backX_length] at this
  rw [backX_at hk] at h; cases h
  rw [List.getElem?_reverse hk, List.getD_eq_getElem?_getD, List.getElem?_eq_getElem (by omega)]; rfl
def encI (x : EN) : Array Value := #[.int .i64 x.1, .int .i64 x.2]
/-- What the iterator reads: its box, the row. -/
def backR (bx : Nat) (A : Option Addr) (c : Nat) (l : List Nat) (W : World) : Prop := Boxed W bx 30 (.slice A l.length c) ∧ IntsAt W A l

set_option maxRecDepth 100000 in
set_option maxHeartbeats 4000000 in
theorem back1_in (n l bx : Nat) (A : Option Addr) (c : Nat) (xs : List Nat) (J Jx : Nat → World → Prop) (W : World) (hN : xs.length ≤ 100000)
    (hR : ∀ k W1, J k W1 → backR bx A c xs W1)
    (hY : ∀ k x W1, J k W1 → (backX xs)[k]? = some x → YieldAt Fence.wide (n - 1) Try.prog l (encI x) W1 fun e W' =>
      (e = .returned (.bool true) ∧ J (k + 1) W' ∧ True) ∨ (e = .returned (.bool false) ∧ Jx (k + 1) W'))
    (h0 : J 0 W) :
    CallsIn Fence.wide n Try.prog 34 #[.func (.yield l) #[] #[], .pointer (some ⟨bx, 0, none⟩)] W fun e W' =>
      (∃ v, e = .returned v) ∧ (J (backX xs).length W' ∨ ∃ k, k ≤ (backX xs).length ∧ Jx k W') := by
  refine callsIn_of_wp Try.func34 rfl trivial ?_ rfl
  simp only [Try.ntmps34, List.size_toArray, List.length_cons, List.length_nil, Nat.reduceAdd, Nat.reduceSub, Array.replicate_succ, Array.replicate_zero, List.push_toArray, List.append_toArray, List.nil_append, List.cons_append]
  have c1 := (hR 0 W h0).1.cell
  obtain ⟨N, hNN⟩ : ∃ N, xs.length = N := ⟨_, rfl⟩
  rw [hNN] at c1 hN
  have HNN := Lib.hid hNN
  clear hNN
  gi_wp2
  clear c1
  gi_loopw [3] (fun v wr => ∃ (k : Nat), k ≤ N ∧ v = .int .i64 ((N : Int) - 1 - k) ∧ J k wr) (fun v _ => (intOf v + 1).toNat)
  case atStart => exact ⟨0, Nat.zero_le _, by go_num, h0⟩
  case round =>
    clear h0
    obtain ⟨k, hk, rfl, hj⟩ := hrel
    obtain ⟨hbx, hcl⟩ := hR k wr hj
    by_cases h1 : k < N
    · have c2 := hbx.cell
      obtain ⟨g, o, rfl, hcell⟩ := hcl (by have := HNN.out; omega)
      have hx := backX_at (l := xs) (k := k) (by have := HNN.out; omega)
      rw [HNN.out] at hx
      obtain ⟨x, hxx⟩ : ∃ x, xs[N - 1 - k]? = some x := ⟨_, List.getElem?_eq_getElem (by have := HNN.out; omega)⟩
      have hgd : xs.getD (N - 1 - k) 0 = x := by rw [List.getD_eq_getElem?_getD, hxx]; rfl
      rw [hgd] at hx
      have c3 := hcell _ x hxx
      unfold vI at c3
      rw [HNN.out] at c2
      have e1 : (N : Int) - 1 - k = ((N - 1 - k : Nat) : Int) := by omega
      have q1 : ((N - 1 - k : Nat) : Int) < N := by omega
      have q2 : (N : Int) - 1 - k - 1 = (N : Int) - 1 - ((k + 1 : Nat) : Int) := by omega
      obtain ⟨fn, tmps, assign, body, hy, hR1⟩ := hY k _ wr hj hx
      simp only [encI] at hy
      rw [e1] at q2 ⊢
      have HR := Lib.hid hR1
      clear hR1 hx hxx hcell hcl hgd
      gi_wp2
      refine wide_round HR.out ?_
      rintro e W3 (⟨rfl, hJ3, _⟩ | ⟨rfl, hJx3⟩)
      · gi_wp2
        refine ⟨⟨k + 1, by omega, by congr 1, hJ3⟩, ?_⟩
        simp only [intOf]
        omega
      · gi_wp2
        refine bodyPost_ret (results_none rfl _ _ _) rfl ?_
        exact ⟨⟨_, rfl⟩, .inr ⟨k + 1, by rw [backX_length, HNN.out]; omega, hJx3⟩⟩
    · obtain rfl : k = N := by omega
      have e1 : (k : Int) - 1 - k = -1 := by omega
      rw [e1]
      gi_wp2
      go_end0
      exact ⟨⟨_, rfl⟩, .inl (by rw [backX_length, HNN.out]; exact hj)⟩
theorem backI_list (n bx : Nat) (A : Option Addr) (c : Nat) (xs : List Nat) (w : World) (hN : xs.length ≤ 100000) :
    SeqListR Fence.wide n Try.prog 34 #[.pointer (some ⟨bx, 0, none⟩)] encI (fun _ _ => True) NoB (backX xs) (fun _ => backR bx A c xs) w :=
  fun l J Jx W _ _ _ hR hY h0 => back1_in n l bx A c xs J Jx W hN hR hY h0

theorem leastT_snoc (s : List Nat) (x : Nat) (h : s ≠ []) : leastT (s ++ [x]) = min (leastT s) x := by
  cases s with
  | nil => exact absurd rfl h
  | cons a r =>
    show (r ++ [x]).foldl _ a = min (r.foldl _ a) x
    rw [List.foldl_append]
    show (if x < _ then x else _) = _
    split <;> omega
set_option maxRecDepth 100000 in
set_option maxHeartbeats 4000000 in
theorem min_any (A : Option Addr) (c : Nat) (s : List Nat) (w : World) (h : IntsAt w A s) (h0 : s ≠ []) (hN : s.length ≤ 9223372036854775807) :
    Calls Try.prog 26 #[.slice A s.length c] w fun e w' => e = .returned (.int .i64 (leastT s)) ∧ Below w.heap.size w w' := by
  have hp : 0 < s.length := List.length_pos_iff.2 h0
  obtain ⟨g, o, rfl, hcell⟩ := h hp
  obtain ⟨x0, hx0⟩ : ∃ x, s[0]? = some x := ⟨_, List.getElem?_eq_getElem hp⟩
  have c0 := hcell 0 x0 hx0
  unfold vI at c0
  rw [Nat.add_zero] at c0
  obtain ⟨N, hNN⟩ : ∃ N, s.length = N := ⟨_, rfl⟩
  rw [hNN] at hN hp ⊢
  have HNN := Lib.hid hNN
  have HC := Lib.hid hcell
  have HX0 := Lib.hid hx0
  have k0 : ¬ (N : Int) < 1 := by omega
  have k1 : (0 : Int) < (N : Int) := by omega
  clear hNN h hcell hx0
  go_enter Try.func26, Try.ntmps26
  go_wp2_with fail
  clear c0
  go_loopw [3, 4] (fun m y wr => ∃ (j q : Nat), 1 ≤ j ∧ j ≤ N ∧ m = .int .i64 q ∧ y = .int .i64 j ∧ Hid (q = leastT (s.take j)) ∧ Hid (Below w.heap.size w wr)) (fun _ y _ => N - (intOf y).toNat)
  case atStart => exact ⟨1, x0, Nat.le_refl _, by omega, rfl, rfl, by
    have : s.take 1 = [x0] := by rw [List.take_add_one, HX0.out]; simp
    rw [this]; rfl, Below.refl _ _⟩
  case round =>
    obtain ⟨j, q, h1j, hj, rfl, rfl, HQ, HW⟩ := hrel
    by_cases h1 : j < N
    · obtain ⟨x, hx⟩ : ∃ x, s[j]? = some x := ⟨_, List.getElem?_eq_getElem (by have := HNN.out; omega)⟩
      have c1 := (World.cell?_of_block (a := ⟨g, o + j, none⟩) (HW.out.block g (World.block_lt_of_cell? w (a := ⟨g, o + j, none⟩) (HC.out j x hx)))).trans (HC.out j x hx)
      unfold vI at c1
      have HX := Lib.hid hx
      have k2 : (j : Int) < (N : Int) := by omega
      have wj : IntKind.i64.wrap (j : Int) = (j : Int) := IntWalk.i64_in _ (by omega)
      clear hx
      go_wp2_with fail
      go_roundw
      case rel =>
        refine ⟨j + 1, min q x, by omega, by omega, by congr 1; split <;> omega, by go_num, ?_, HW.out⟩
        rw [List.take_add_one, HX.out, HQ.out]
        exact (leastT_snoc _ _ (by intro e; have := congrArg List.length e; rw [List.length_take, HNN.out, List.length_nil] at this; omega)).symm
      case measure => simp [intOf]; omega
    · obtain rfl : j = N := by omega
      go_wp2_with fail
      go_ret
      refine ⟨?_, HW.out⟩
      rw [← HNN.out, List.take_length] at HQ
      rw [← HQ.out]; rfl
end Go.Proofs.Yteigepblocbnlaa.Gp
