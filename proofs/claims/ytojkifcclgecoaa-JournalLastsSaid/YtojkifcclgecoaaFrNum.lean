/-
  Numbers as bytes: frame.Num (a range over slices.Backward), frame.Get; the document's own Num, Get.
-/
import Derived.Test.YtojkifcclgecoaaFrMem
import Derived.Test.YtojkifcclgecoaaFrSeq
import Derived.Deep.QuietTactic
import Derived.BigQuiet
import Derived.RangeFuncBound
import Derived.RangeFuncBox
import Derived.RangeFuncCalls
import Derived.Shelf.Abstract
import Derived.Shelf.RegionOpen
import Derived.OwnWalkIn
import Derived.TacticsInMore
import Derived.LoopNIn
import Derived.LoopIn
import Derived.IntWalk
import Derived.Deep.RegionHeld3
import Derived.Lib.EndianBits
import Derived.Test.YtojkifcclgecoaaTRound
import Derived.Test.YtojkifcclgecoaaLast
namespace Go.Proofs.Ytojkifcclgecoaa
open Go Go.RowKit Go.Shelf Go.Proofs
attribute [local go_sem] Oper.semAt_some

def NoB (_ : Nat) : Prop := False
theorem fr_grownB {w w' : World} (h : Below w.heap.size w w') : w.grownBy w' none := ⟨h.os, h.tape, h.output, h.size, fun i hi _ => h.block i hi⟩
theorem fr_abides {β : Type} {T : Nat → Prop} {B : Nat} {J : β → World → Prop} (h : AbidesTo T B J) {s : β} {w w' : World} (hj : J s w) (hb : Below w.heap.size w w') : J s w' := h s w w' none hj (fr_grownB hb) (fun _ e => by cases e)

theorem back_any (A : Option Addr) (n c : Nat) (w : World) :
    Calls Try.prog 85 #[.slice A n c] w fun e w' =>
      e = .returned (.func (.func 88) #[] #[.pointer (some ⟨w.heap.size, 0, none⟩)]) ∧ w' = w.alloc (.cells #[.slice A n c] 29) := by
  go_enter Try.func85, Try.ntmps85
  go_wp2
  go_ret
  exact ⟨rfl, rfl⟩

def backX (N : Nat) : List Nat := (List.range N).reverse
theorem backX_length (N : Nat) : (backX N).length = N := by unfold backX; simp
theorem backX_at {N k : Nat} (h : k < N) : (backX N)[k]? = some (N - 1 - k) := by
  unfold backX
  rw [List.getElem?_reverse (by simpa using h), List.length_range, List.getElem?_range (by omega)]
def encI (i : Nat) : Array Value := #[.int .i64 i, .int .u8 0]
/-- What the iterator reads behind k rounds: its box, the next byte. -/
def backR (bx g N k : Nat) (W : World) : Prop := Boxed W bx 29 (.slice (some ⟨g, 0, none⟩) N N) ∧ (k < N → W.cell? ⟨g, N - 1 - k, none⟩ = some (.int .u8 0))

set_option maxRecDepth 100000 in
set_option maxHeartbeats 4000000 in
theorem back1_in (n l bx g N : Nat) (J Jx : Nat → World → Prop) (W : World) (hN : N ≤ 8)
    (hR : ∀ k W1, J k W1 → backR bx g N k W1)
    (hY : ∀ k x W1, J k W1 → (backX N)[k]? = some x → YieldAt Fence.wide (n - 1) Try.prog l (encI x) W1 fun e W' =>
      (e = .returned (.bool true) ∧ J (k + 1) W' ∧ True) ∨ (e = .returned (.bool false) ∧ Jx (k + 1) W'))
    (h0 : J 0 W) :
    CallsIn Fence.wide n Try.prog 88 #[.func (.yield l) #[] #[], .pointer (some ⟨bx, 0, none⟩)] W fun e W' =>
      (∃ v, e = .returned v) ∧ (J (backX N).length W' ∨ ∃ k, k ≤ (backX N).length ∧ Jx k W') := by
  refine callsIn_of_wp Try.func88 rfl trivial ?_ rfl
  simp only [Try.ntmps88, List.size_toArray, List.length_cons, List.length_nil, Nat.reduceAdd, Nat.reduceSub, Array.replicate_succ, Array.replicate_zero, List.push_toArray, List.append_toArray, List.nil_append, List.cons_append]
  have c1 := (hR 0 W h0).1.cell
  gi_wp2
  clear c1
  gi_loopw [3] (fun v wr => ∃ (k : Nat), k ≤ N ∧ v = .int .i64 ((N : Int) - 1 - k) ∧ J k wr) (fun v _ => (intOf v + 1).toNat)
  case atStart => exact ⟨0, Nat.zero_le _, by go_num, h0⟩
  case round =>
    clear h0
    obtain ⟨k, hk, rfl, hj⟩ := hrel
    obtain ⟨hbx, hcl⟩ := hR k wr hj
    by_cases h1 : k < N
    · have c2 := hbx.cell
      have c3 := hcl h1
      have e1 : (N : Int) - 1 - k = ((N - 1 - k : Nat) : Int) := by omega
      have hx := backX_at h1
      have q1 : ((N - 1 - k : Nat) : Int) < N := by omega
      have q2 : (N : Int) - 1 - k - 1 = (N : Int) - 1 - ((k + 1 : Nat) : Int) := by omega
      obtain ⟨fn, tmps, assign, body, hy, hR1⟩ := hY k _ wr hj hx
      simp only [encI] at hy
      rw [e1] at q2 ⊢
      have HR := Lib.hid hR1
      clear hR1
      gi_wp2
      refine wide_round HR.out ?_
      rintro e W3 (⟨rfl, hJ3, _⟩ | ⟨rfl, hJx3⟩)
      · gi_wp2
        refine ⟨⟨k + 1, by omega, by congr 1, hJ3⟩, ?_⟩
        simp only [intOf]
        omega
      · gi_wp2
        refine bodyPost_ret (results_none rfl _ _ _) rfl ?_
        exact ⟨⟨_, rfl⟩, .inr ⟨k + 1, by rw [backX_length]; omega, hJx3⟩⟩
    · obtain rfl : k = N := by omega
      have e1 : (k : Int) - 1 - k = -1 := by omega
      rw [e1]
      gi_wp2
      go_end0
      exact ⟨⟨_, rfl⟩, .inl (by rw [backX_length]; exact hj)⟩

theorem back_list (n bx g N : Nat) (w : World) (hN : N ≤ 8) :
    SeqListR Fence.wide n Try.prog 88 #[.pointer (some ⟨bx, 0, none⟩)] encI (fun _ _ => True) NoB (backX N) (backR bx g N) w :=
  fun l J Jx W _ _ _ hR hY h0 => back1_in n l bx g N J Jx W hN hR hY h0

/-- The row of Num behind k rounds. -/
def numRow (n N k : Nat) : Array Value := (valsB (List.replicate (N - k) 0 ++ beN k n)).toArray
def numI (w : World) (n N : Nat) (k : Nat) (W : World) : Prop :=
  Boxed W w.heap.size 45 (.int .u64 (n / 256 ^ k : Nat)) ∧ W.heap[w.heap.size + 1]? = some (.cells (numRow n N k) 5 (0, 0)) ∧ Boxed W (w.heap.size + 2) 29 (.slice (some ⟨w.heap.size + 1, 0, none⟩) N N) ∧
  Boxed W (w.heap.size + 3) 29 (.slice (some ⟨w.heap.size + 1, 0, none⟩) N N) ∧ Below w.heap.size w W
theorem numI_own (w : World) (n N B : Nat) (hB : w.heap.size + 3 < B) : OwnTo NoB B (numI w n N) :=
  OwnTo.and (OwnTo.block (o := fun k => .cells #[.int .u64 (n / 256 ^ k : Nat)] 45) (by omega) (fun h => h))
    (OwnTo.and (OwnTo.block (o := fun k => .cells (numRow n N k) 5) (by omega) (fun h => h))
      (OwnTo.and (OwnTo.block (o := fun _ => .cells #[.slice (some ⟨w.heap.size + 1, 0, none⟩) N N] 29) (by omega) (fun h => h))
        (OwnTo.and (OwnTo.block (o := fun _ => .cells #[.slice (some ⟨w.heap.size + 1, 0, none⟩) N N] 29) (by omega) (fun h => h)) (OwnTo.below (Nat.le_refl _) (by omega) (fun r h => h.elim)))))

theorem be_cons : ∀ (k n : Nat), beN (k + 1) n = UInt8.ofNat (n / 256 ^ k) :: beN k n
  | 0, n => by show beN 0 (n / 256) ++ [UInt8.ofNat n] = _; simp [beN]
  | k + 1, n => by
    show beN (k + 1) (n / 256) ++ [UInt8.ofNat n] = _
    rw [be_cons k (n / 256), Nat.div_div_eq_div_mul, show 256 * 256 ^ k = 256 ^ (k + 1) from by rw [Nat.pow_succ, Nat.mul_comm]]
    rfl
theorem numRow_next {n N k : Nat} (h : k < N) : (numRow n N k).setIfInBounds (N - 1 - k) (.int .u8 (n / 256 ^ k % 256 : Nat)) = numRow n N (k + 1) := by
  unfold numRow
  obtain ⟨j, hj⟩ : ∃ j, N - k = j + 1 := ⟨N - k - 1, by omega⟩
  rw [hj, show N - (k + 1) = j from by omega, show N - 1 - k = j from by omega, be_cons, List.replicate_succ', List.append_assoc, valsB_append, valsB_append, List.setIfInBounds_toArray]
  rw [List.set_append_right _ _ (by rw [valsB_length, List.length_replicate]; exact Nat.le_refl _), valsB_length, List.length_replicate, Nat.sub_self, valsB_append]
  rfl
theorem numRow_at {n N k : Nat} (h : k < N) : (numRow n N k)[N - 1 - k]? = some (.int .u8 0) := by
  unfold numRow valsB
  rw [List.getElem?_toArray, List.getElem?_map, List.getElem?_append_left (by rw [List.length_replicate]; omega), List.getElem?_replicate, if_pos (by omega)]
  rfl
theorem wpIn_round_last {n r : Nat} {P : Program} {id : Nat} {ops : Array Oper} {Q : Exit → Act → World → Prop} (S : World → Prop) (L : Nat) {a : Act} {w : World} (hm : P.follows .mixedOrders = true) (hnd : noDefer ops.toList = true)
    (h : wpAnyL P .any ops (NoOut Q) S L ops.size (Array.replicate ops.size false) a w.drew) : (Code.region id ops true).wpIn (Fence.wide.inRound r) n P Q a w :=
  wpIn_region_any hm (wpAny_plain r hnd _ _ _ _ (wpAny_of_last _ _ _ _ h))
theorem fr_other {W : World} {B : Nat} {t : TypeId} {v : Value} (h : Boxed W B t v) (a : Addr) (hne : B ≠ a.block) (u : Value) : Boxed (W.setCell a u) B t v := (heap_setCell_other W a B u hne).trans h

theorem numRow_zero (n N : Nat) : numRow n N 0 = (List.replicate N (Value.int .u8 0)).toArray := by
  unfold numRow valsB beN
  rw [List.append_nil, Nat.sub_zero, List.map_replicate]; rfl
theorem fr_make (n N : Nat) (hN : N ≤ 8) (w : World) : (Instr.makeSlice 29 (.int .i64 (N : Int)) (.int .i64 (N : Int))).run Try.prog w = .ok (.slice (some ⟨w.heap.size, 0, none⟩) N N) (w.alloc (.cells (numRow n N 0) 5)) := by
  obtain ⟨i0, hi, hz0, hz1, hz2⟩ := info_parts fr_u8
  have hr := run_make (P := Try.prog) w 29 5 i0 (.int .u8 0) Try.underlying29 hi hz0 .i64 .i64 N N (by omega) (Int.le_refl _) (by rw [hz2]; omega) (by omega)
  simp only [Int.toNat_natCast] at hr
  rw [hr, numRow_zero, hz1]
  have e : madeCells (Value.int .u8 0).cells (N * 1) = (List.replicate N (Value.int .u8 0)).toArray := by
    rw [Nat.mul_one, ← toList_madeCells_one]; rfl
  rw [e]
set_option maxRecDepth 100000 in
set_option maxHeartbeats 4000000 in
theorem num_any (n N : Nat) (_hn : n < 2 ^ 64) (hN : N ≤ 8) (h1 : 1 ≤ N) (w : World) :
    Calls Try.prog 71 #[.int .u64 n, .int .i64 N] w fun e w' => ∃ v, e = .returned v ∧ OB w.heap.size w' v (beN N n) ∧ Below w.heap.size w w' := by
  refine (callsIn_wide (n := 3)).1 ?_
  generalize 3 = m
  have q3 : min (N : Int) 8 = N := by omega
  have hmk := fr_make n N hN (w.alloc (.cells #[.int .u64 n] 45))
  refine callsIn_of_wp_marks Try.func71 rfl trivial ?_ rfl
  simp only [Try.ntmps71, List.size_toArray, List.length_cons, List.length_nil, Nat.reduceAdd, Nat.reduceSub, Array.replicate_succ, Array.replicate_zero, List.push_toArray, List.append_toArray, List.nil_append, List.cons_append]
  gi_wp2_with (refine wide_call (back_any _ _ _ _) ?_; rintro e w' ⟨rfl, rfl⟩)
  obtain ⟨W0, hW0⟩ : ∃ W0, (((w.alloc (.cells #[.int .u64 n] 45)).alloc (.cells (numRow n N 0) 5)).alloc (.cells #[.slice (some ⟨w.heap.size + 1, 0, none⟩) N N] 29)).alloc (.cells #[.slice (some ⟨w.heap.size + 1, 0, none⟩) N N] 29) = W0 := ⟨_, rfl⟩
  have hs0 : W0.heap.size = w.heap.size + 4 := by rw [← hW0]; simp
  have hI0 : numI w n N 0 W0 := by
    have b1 := heap_alloc_new (w.alloc (.cells #[.int .u64 n] 45)) (.cells (numRow n N 0) 5)
    have b2 := Boxed.new ((w.alloc (.cells #[.int .u64 n] 45)).alloc (.cells (numRow n N 0) 5)) 29 (.slice (some ⟨w.heap.size + 1, 0, none⟩) N N)
    have b3 := Boxed.new (((w.alloc (.cells #[.int .u64 n] 45)).alloc (.cells (numRow n N 0) 5)).alloc (.cells #[.slice (some ⟨w.heap.size + 1, 0, none⟩) N N] 29)) 29 (.slice (some ⟨w.heap.size + 1, 0, none⟩) N N)
    simp only [World.size_alloc] at b1 b2 b3
    rw [hW0] at b3
    refine ⟨?_, ?_, ?_, b3, ?_⟩
    · rw [← hW0, Nat.pow_zero, Nat.div_one]; exact (((Boxed.new w 45 (.int .u64 n)).alloc _).alloc _).alloc _
    · rw [← hW0]
      exact (Below.heap_alloc _ _ _ (by simp)).trans ((Below.heap_alloc _ _ _ (by simp)).trans b1)
    · rw [← hW0]; exact b2.alloc _
    · rw [← hW0]; exact ((((Below.refl _ w).alloc (Nat.le_refl _) _).alloc (by simp) _).alloc (by simp; omega) _).alloc (by simp; omega) _
  rw [hW0]
  clear hW0 hmk
  have mixed : Try.prog.follows .mixedOrders = true := by kernel_rfl
  refine wpIn_rangeListR rfl (fun h => absurd h (by decide)) (gf := 88) (lb := #[.pointer (some ⟨w.heap.size + 3, 0, none⟩)]) rfl trivial (enters_of Try.func88 (by kernel_rfl) rfl)
    (back_list _ (w.heap.size + 3) (w.heap.size + 1) N W0 hN) (fun _ _ => trivial) (fun _ _ _ _ _ _ _ _ => trivial) (fun r h => h.elim) (Below.refl _ _) (fun _ => rfl)
    (numI w n N) (fun _ _ _ => False) (numI_own w n N _ (by omega)) (fun _ _ _ _ _ h _ _ => h) hI0
    (fun k W h => ⟨h.2.2.2.1, fun hk => by rw [cell_of_row _ _ _ _ _ _ h.2.1]; exact numRow_at hk⟩)
    (fun x a' _ => a' = { tmps := #[.int .u64 n, .int .i64 N, .pointer (some ⟨w.heap.size, 0, none⟩), undef, .slice none 0 0, .pointer (some ⟨w.heap.size + 2, 0, none⟩), .int .i64 x, .int .i64 N, .int .i64 N, .int .i64 N, .slice (some ⟨w.heap.size + 1, 0, none⟩) N N, .slice (some ⟨w.heap.size + 1, 0, none⟩) N N, .func (.func 88) #[] #[.pointer (some ⟨w.heap.size + 3, 0, none⟩)], .int .i64 x, .int .u8 0, undef, undef, undef, undef, undef, undef, undef, undef], defers := [] }) (fun _ _ _ _ _ _ hs _ _ => hs) ?assign ?body ?done ?stop
  case assign =>
    intro l k x W K hi hK2
    simp only [encI]
    gi_wp2
    exact hK2 _ _ (KeepsFrom.refl _ _) trivial hi rfl
  case body =>
    rintro l k x a' W hlW _ ⟨y0, y1, y2, y3, hB⟩ rfl hx
    have hkN : k < N := by have := (List.getElem?_eq_some_iff.1 hx).1; rwa [backX_length] at this
    obtain rfl : N - 1 - k = x := by rw [backX_at hkN] at hx; simpa using hx
    clear hx
    have y1c : W.cell? ⟨w.heap.size + 1, N - 1 - k, none⟩ = some (.int .u8 0) := by rw [cell_of_row _ _ _ _ _ _ y1]; exact numRow_at hkN
    have y1f : W.frozen? ⟨w.heap.size + 1, N - 1 - k, none⟩ = false := by simp [World.frozen?, y1]
    have k1 : ((N - 1 - k : Nat) : Int) < N := by omega
    have hnx := numRow_next (n := n) hkN
    have hdd : n / 256 ^ (k + 1) = n / 256 ^ k / 256 := by rw [Nat.div_div_eq_div_mul, ← Nat.pow_succ]
    have y0f := y0.frozen
    obtain ⟨q, hq⟩ : ∃ q, n / 256 ^ k = q := ⟨_, rfl⟩
    rw [hq] at y0 hdd hnx
    have wb : IntKind.u8.wrap (q : Int) = ((q % 256 : Nat) : Int) := by rw [IntKind.wrap_u8]; omega
    generalize hr : q % 256 = r at wb hnx
    have HNX := Lib.hid hnx
    have HDD := Lib.hid hdd
    clear hnx hdd hr hq
    have hHeld : W.drew.cell? ⟨w.heap.size + 2, 0, none⟩ = some (.slice (some ⟨w.heap.size + 1, 0, none⟩) N N) ∧ W.drew.cell? ⟨w.heap.size, 0, none⟩ = some (.int .u64 (q : Nat)) := ⟨y2.cell, y0.cell⟩
    have c1 := y2.cell
    have c2 := y0.cell
    gi_wp2
    refine wpIn_round_last (fun w' => w'.cell? ⟨w.heap.size + 2, 0, none⟩ = some (.slice (some ⟨w.heap.size + 1, 0, none⟩) N N) ∧ w'.cell? ⟨w.heap.size, 0, none⟩ = some (.int .u64 (q : Nat))) 8 mixed (by kernel_rfl) ?_
    refine wpAnyL_take (i := 0) (v := ?vp0) rfl (by kernel_rfl) (by kernel_rfl) (by kernel_rfl) (by kernel_rfl) (by kernel_rfl) (fun _ _ _ h => h) hHeld (Or.inl ⟨by rfl, ?yp0⟩) ?rp0
    case yp0 =>
      intro w hSw
      (try dsimp only at hSw)
      go_simp
      first | done | with_reducible rfl
    try simp only [Act.put, List.getElem_toArray, List.getElem_cons_zero, List.setIfInBounds_toArray, List.set_cons_zero, List.set_cons_succ]
    refine wpAnyL_take (i := 1) (v := ?vp1) rfl (by kernel_rfl) (by kernel_rfl) (by kernel_rfl) (by kernel_rfl) (by kernel_rfl) (fun _ _ _ h => h) hHeld (Or.inl ⟨by rfl, ?yp1⟩) ?rp1
    case yp1 =>
      intro w hSw
      (try dsimp only at hSw)
      go_simp
      first | done | with_reducible rfl
    try simp only [Act.put, List.getElem_toArray, List.getElem_cons_zero, List.getElem_cons_succ, List.setIfInBounds_toArray, List.set_cons_zero, List.set_cons_succ]
    refine wpAnyL_take (i := 2) (v := ?vp2) rfl (by kernel_rfl) (by kernel_rfl) (by kernel_rfl) (by kernel_rfl) (by kernel_rfl) (fun _ _ _ h => h) hHeld (Or.inl ⟨by rfl, ?yp2⟩) ?rp2
    case yp2 =>
      intro w hSw
      (try dsimp only at hSw)
      go_simp
      first | done | with_reducible rfl
    try simp only [Act.put, List.getElem_toArray, List.getElem_cons_zero, List.getElem_cons_succ, List.setIfInBounds_toArray, List.set_cons_zero, List.set_cons_succ]
    refine wpAnyL_take (i := 3) (v := ?vp3) rfl (by kernel_rfl) (by kernel_rfl) (by kernel_rfl) (by kernel_rfl) (by kernel_rfl) (fun _ _ _ h => h) hHeld (Or.inl ⟨by rfl, ?yp3⟩) ?rp3
    case yp3 =>
      intro w hSw
      (try dsimp only at hSw)
      go_simp
      first | done | with_reducible rfl
    try simp only [Act.put, List.getElem_toArray, List.getElem_cons_zero, List.getElem_cons_succ, List.setIfInBounds_toArray, List.set_cons_zero, List.set_cons_succ]
    refine wpAnyL_take (i := 4) (v := ?vp4) rfl (by kernel_rfl) (by kernel_rfl) (by kernel_rfl) (by kernel_rfl) (by kernel_rfl) (fun _ _ _ h => h) hHeld (Or.inl ⟨by rfl, ?yp4⟩) ?rp4
    case yp4 =>
      intro w hSw
      (try dsimp only at hSw)
      go_simp
      first | done | with_reducible rfl
    try simp only [Act.put, List.getElem_toArray, List.getElem_cons_zero, List.getElem_cons_succ, List.setIfInBounds_toArray, List.set_cons_zero, List.set_cons_succ]
    refine wpAnyL_take (i := 5) (v := ?vp5) rfl (by kernel_rfl) (by kernel_rfl) (by kernel_rfl) (by kernel_rfl) (by kernel_rfl) (fun _ _ _ h => h) hHeld (Or.inl ⟨by rfl, ?yp5⟩) ?rp5
    case yp5 =>
      intro w hSw
      (try dsimp only at hSw)
      go_simp
      first | done | with_reducible rfl
    try simp only [Act.put, List.getElem_toArray, List.getElem_cons_zero, List.getElem_cons_succ, List.setIfInBounds_toArray, List.set_cons_zero, List.set_cons_succ]
    refine wpAnyL_take (i := 6) (v := ?vp6) rfl (by kernel_rfl) (by kernel_rfl) (by kernel_rfl) (by kernel_rfl) (by kernel_rfl) (fun _ _ _ h => h) hHeld (Or.inl ⟨by rfl, ?yp6⟩) ?rp6
    case yp6 =>
      intro w hSw
      (try dsimp only at hSw)
      go_simp
      first | done | with_reducible rfl
    try simp only [Act.put, List.getElem_toArray, List.getElem_cons_zero, List.getElem_cons_succ, List.setIfInBounds_toArray, List.set_cons_zero, List.set_cons_succ]
    refine wpAnyL_one (i := 7) (by kernel_rfl) rfl rfl (fun K hK => ?_)
    go_simp
    refine hK.out _ _ (fun _ => ⟨(fr_other y2 ⟨w.heap.size + 1, N - 1 - k, none⟩ (by simp) _).cell, (fr_other y0 ⟨w.heap.size + 1, N - 1 - k, none⟩ (by simp) _).cell⟩) ?_
    clear hK K
    try simp only [Act.put, List.getElem_toArray, List.getElem_cons_zero, List.getElem_cons_succ, List.setIfInBounds_toArray, List.set_cons_zero, List.set_cons_succ]
    refine wpAnyL_one (i := 8) (by kernel_rfl) rfl rfl (fun K hK => ?_)
    go_simp
    refine hK.out _ _ (fun h => absurd rfl h) ?_
    clear hK K
    try simp only [Act.put, List.getElem_toArray, List.getElem_cons_zero, List.getElem_cons_succ, List.setIfInBounds_toArray, List.set_cons_zero, List.set_cons_succ]
    refine wpAnyL_done (by kernel_rfl) ?_ _
    simp only [NoOut]
    gi_wp2
    obtain ⟨X, hX⟩ : ∃ X, W.setCell ⟨w.heap.size + 1, N - 1 - k, none⟩ (.int .u8 (r : Int)) = X := ⟨_, rfl⟩
    have hXo : ∀ j, j ≠ w.heap.size + 1 → X.heap[j]? = W.heap[j]? := fun j hj => by rw [← hX]; exact heap_setCell_other W _ j _ hj
    have hX1 : X.heap[w.heap.size + 1]? = some (.cells (numRow n N (k + 1)) 5 (0, 0)) := by
      rw [← hX, heap_setCell_same W _ _ _ _ _ y1, HNX.out]
    have z0 : Boxed X w.heap.size 45 (.int .u64 (q : Nat)) := (hXo _ (by omega)).trans y0
    have z2 : Boxed X (w.heap.size + 2) 29 (.slice (some ⟨w.heap.size + 1, 0, none⟩) N N) := (hXo _ (by omega)).trans y2
    have z3 : Boxed X (w.heap.size + 3) 29 (.slice (some ⟨w.heap.size + 1, 0, none⟩) N N) := (hXo _ (by omega)).trans y3
    have hBX : Below w.heap.size w X := by rw [← hX]; exact hB.setCell (p := ⟨w.heap.size + 1, N - 1 - k, none⟩) (by simp) _
    have hKX : KeepsOthers W X := by rw [← hX]; exact KeepsOthers.setCell _ _ _
    rw [hX]
    refine ⟨((hKX.trans (KeepsOthers.setCell _ _ _)).trans (KeepsOthers.drew _)).from _, trivial, ?_, ?_, ?_, ?_, ?_⟩
    · rw [HDD.out]; exact z0.set (.int .u64 ((q / 256 : Nat) : Int))
    · exact (heap_setCell_other X _ _ _ (by simp)).trans hX1
    · exact fr_other z2 _ (by simp) _
    · exact fr_other z3 _ (by simp) _
    · exact (hBX.setCell (p := ⟨w.heap.size, 0, none⟩) (Nat.le_refl _) _).drew
  case done =>
    rintro D W hD ⟨y0, y1, y2, y3, hB⟩ hK'
    have c2 := y2.cell
    rw [backX_length] at y1
    gi_wp2
    refine ⟨by simp, .inl ⟨_, _, rfl, run_takeDeferred hK', ?_⟩⟩
    refine ⟨.slice (some ⟨w.heap.size + 1, 0, none⟩) N N, by simp [results, Try.f71, go_sem], _, rfl, ?_, ?_⟩
    · have hrow : (W.putObj D (.deferred none)).heap[w.heap.size + 1]? = some (.cells (numRow n N N) 5 (0, 0)) := (World.putObj_heap_other (by omega)).trans y1
      refine ⟨by rw [valsB_length, Nat.mul_one], .inr ⟨_, N, _, by rw [beN_length], by omega, hrow, by rw [beN_length]; exact Nat.le_refl _, by unfold maxLen; omega, ?_, ?_⟩⟩
      · unfold numRow; rw [List.size_toArray, valsB_length]; simp [beN_length]
      · unfold numRow; simp [beN_length]
        rw [List.take_of_length_le (by rw [valsB_length, beN_length]; exact Nat.le_refl _)]
    · exact hB.trans (belowK_b (w := w) (Nat.le_refl _) _ D _ _ (by omega) hK' rfl rfl)
  case stop => exact fun _ _ _ _ _ _ h => h.elim
end Go.Proofs.Ytojkifcclgecoaa
