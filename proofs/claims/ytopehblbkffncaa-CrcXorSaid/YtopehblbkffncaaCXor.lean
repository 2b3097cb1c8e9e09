/-
  The law CrcXor, walked.
-/
import Derived.Test.YtopehblbkffncaaCBits
import Derived.Test.YtopehblbkffncaaFlow
import Derived.Deep.RegionHeld3
import Derived.BigQuiet
import Derived.Laws.Cover1
namespace Go.Proofs.Ytopehblbkffncaa
open Go Go.RowKit Go.Shelf Go.Proofs

/-- A row of one, that the region made. -/
def Spec.row1 (x : BX) : Spec Makes := ⟨fun v w => ∃ g, v = .slice (some ⟨g, 0, none⟩) 1 1 ∧ BRowAt w (some ⟨g, 0, none⟩) 1 [x], fun _v _w _w' ⟨g, h, hr⟩ hb => ⟨g, h, hr.below hb⟩⟩
theorem brow_one {w : World} {x : BX} (hx : BOk w x) {n : Nat} (hn : x.b.length = n) : BRowAt (w.alloc (.cells #[.slice x.A n x.c] 24)) (some ⟨w.heap.size, 0, none⟩) 1 [x] := by
  subst hn
  have hb : Below w.heap.size w (w.alloc (.cells #[.slice x.A x.b.length x.c] 24)) := (Below.refl _ _).alloc (Nat.le_refl _) _
  exact brow_new (t := 24) (xs := [.slice x.A x.b.length x.c]) [x] (heap_alloc_new w _) rfl
    (fun y hy => by obtain rfl := List.mem_singleton.1 hy; exact hx.bytes.below hb) (fun y hy => by obtain rfl := List.mem_singleton.1 hy; exact ⟨hx.cap, hx.capm, hx.reach⟩) (by decide : (1 : Nat) ≤ maxLen)

theorem sum_row1 (hS : SumOk) {w : World} {g : Nat} {x : BX} {s : Nat} (hg : BRowAt w (some ⟨g, 0, none⟩) 1 [x]) (hs : moreN 0 x.b = s) :
    Calls Try.prog 12 #[.slice (some ⟨g, 0, none⟩) 1 1] w fun e w' => ∃ v, e = .returned v ∧ v = .int .u32 (s : Int) ∧ Makes w w' :=
  (hS [x] _ 1 w hg).mono fun e w' ⟨he, hb⟩ => ⟨_, he, by rw [← hs]; rfl, hb⟩
theorem step_wanted2 {P : Program} {ops : Array Oper} {o : Oper} {a : Act} {w : World} {K : Act → World → Prop} {Q : Exit → Act → World → Prop} {E : Prop} (hgd : o.guard = none) (h : Oper.wp P o a w K Q) : if Region.wanted o (yielded ops a.tmps) = true then Oper.wp P o a w K Q else E := by
  rw [if_pos (by simp [Region.wanted, hgd])]
  exact h
/-- A row of the call's own, as bytes. -/
theorem brow_ok {base : Nat} {w : World} {v : Value} {n : Nat} {l : Bs} (h : w.ownsRow base 5 1 v n (l.map fun x => Value.int .u8 (x.toNat : Int))) (hl : l.length = n) (hn : n ≤ 1000) : ∃ A c, v = .slice A n c ∧ BOk w ⟨A, c, l⟩ := by
  rcases h.2 with ⟨rfl, h0⟩ | ⟨g, cap, cur, rfl, h1, h2, h5, h6, h7⟩
  · subst h0
    obtain rfl := List.eq_nil_of_length_eq_zero hl
    exact ⟨none, 0, rfl, ⟨fun hh => absurd hh (by simp), Nat.le_refl _, Nat.zero_le _, Nat.zero_le _⟩⟩
  · refine ⟨_, _, rfl, brow_bytes h, ?_, h6, ?_⟩
    · show l.length ≤ cap
      omega
    · show l.length ≤ reachBytes
      unfold reachBytes
      omega
theorem cell_one_here (w : World) (x : Value) (t : TypeId) : ∀ (j : Nat) u, [x][j]? = some u → (w.alloc (.cells #[x] t)).drew.cell? ((⟨w.heap.size, 0, none⟩ : Addr).add j) = some u := by
  intro j u hj
  have hj0 : j = 0 := by
    have := (List.getElem?_eq_some_iff.1 hj).1
    simpa using this
  subst hj0
  obtain rfl : x = u := by simpa using hj
  exact cell_of_row (w.alloc (.cells #[x] t)) w.heap.size 0 _ _ _ (heap_alloc_new w _)
theorem own_ge {w : World} {b e size n : Nat} {v : Value} {xs : List Value} (h : w.ownsRow b e size v n xs) : ∀ g, v.ownBlock = some g → b ≤ g := fun g hg => by
  rcases h.2 with ⟨rfl, _⟩ | ⟨g', cap, cur, rfl, hbg, hgb, _⟩
  · simp [Value.ownBlock] at hg
  · obtain rfl : g' = g := by simpa [Value.ownBlock] using hg
    exact hbg
theorem xor_at3 {a b : Bs} {k : Nat} {x y : UInt8} (hx : a[k]? = some x) (hy : b[k]? = some y) : (xorB a b)[k]? = some (x ^^^ y) := by
  unfold xorB
  rw [List.getElem?_zipWith, hx, hy]
theorem bxor_at (x y : UInt8) : bits .xor .u8 (x.toNat : Int) (y.toNat : Int) = ((x ^^^ y).toNat : Int) := by
  rw [UInt8.toNat_xor]
  exact u8_xor_nat _ _ x.toNat_lt y.toNat_lt
/-- Byte by byte, of three. -/
def xor3 (a b c : Bs) (n : Nat) : Bs := xorB (xorB (a.take n) (b.take n)) (c.take n)
theorem xor3_length {a b c : Bs} {n : Nat} (h1 : n ≤ a.length) (h2 : n ≤ b.length) (h3 : n ≤ c.length) : (xor3 a b c n).length = n := by
  unfold xor3 xorB
  simp only [List.length_zipWith, List.length_take]
  omega
theorem xor3_at {a b c : Bs} {n k : Nat} {x y z : UInt8} (hk : k < n) (hx : a[k]? = some x) (hy : b[k]? = some y) (hz : c[k]? = some z) : (xor3 a b c n)[k]? = some (x ^^^ y ^^^ z) :=
  xor_at3 (xor_at3 (by rw [List.getElem?_take_of_lt hk, hx]) (by rw [List.getElem?_take_of_lt hk, hy])) (by rw [List.getElem?_take_of_lt hk, hz])
theorem bytes_front {w : World} {A : Option Addr} {b : Bs} (h : BytesAt w A b) (k : Nat) : BytesAt w A (b.take k) := fun hn => by
  rw [List.length_take] at hn
  obtain ⟨g, o, hA, hc⟩ := h (by omega)
  refine ⟨g, o, hA, fun i hi => ?_⟩
  rw [List.length_take] at hi
  rw [hc i (by omega)]
  have e : (numsB (b.take k)).getD i 0 = (numsB b).getD i 0 := by
    unfold numsB
    rw [List.map_take, List.getD_eq_getElem?_getD, List.getD_eq_getElem?_getD, List.getElem?_take_of_lt (by omega)]
  rw [e]
theorem BOk.front {w : World} {x : BX} (h : BOk w x) (k : Nat) : BOk w ⟨x.A, x.c, x.b.take k⟩ := ⟨bytes_front h.bytes k, by have := h.cap; show (x.b.take k).length ≤ x.c; rw [List.length_take]; omega, h.capm, by have := h.reach; show (x.b.take k).length ≤ reachBytes; rw [List.length_take]; omega⟩
/-- A slice of what was handed in, up to n. -/
theorem run_front {W : World} (A : Option Addr) (l c n : Nat) (h : n ≤ c) : (Instr.sliceAt 24 (.slice A l c) none (some (.int .i64 n)) none).run Try.prog W = .ok (.slice A n c) W := by
  have e : A.map (fun x => x.add 0) = A := by
    cases A with
    | none => rfl
    | some x => obtain ⟨g, o, s⟩ := x; cases s <;> simp [Addr.add]
  have h1 : (0 : Int) ≤ (n : Int) := by omega
  have h2 : (n : Int) ≤ (c : Int) := by omega
  have hi := info_parts u8_info
  obtain ⟨i0, hi, hz0, hz1, hz2⟩ := hi
  go_simp

set_option maxRecDepth 100000 in
set_option maxHeartbeats 8000000 in
theorem cxor_any (_hM : MoreOk) (hS : SumOk) (hT : StepOk) (a b c : BX) (w : World) (ha : BOk w a) (hb : BOk w b) (hc : BOk w c) :
    Calls Try.prog 6 #[.slice a.A a.b.length a.c, .slice b.A b.b.length b.c, .slice c.A c.b.length c.c] w fun e w' => e = .returned (.bool true) ∧ Below w.heap.size w w' := by
  have la := ha.reach
  have lb := hb.reach
  have lc := hc.reach
  unfold reachBytes at la lb lc
  have HKN := Lib.hid (fun (W : World) => ckown_any hS hT W)
  obtain ⟨n, hn⟩ : ∃ n, min (min a.b.length b.b.length) c.b.length = n := ⟨_, rfl⟩
  have na : n ≤ a.b.length := by omega
  have nb : n ≤ b.b.length := by omega
  have nc : n ≤ c.b.length := by omega
  have hmin : ∀ (ts : Array TypeId) (t : TypeId) (W : World), (Builtin.min_ ts t #[.int .i64 (a.b.length : Int), .int .i64 (b.b.length : Int), .int .i64 (c.b.length : Int)]).run Try.prog W = .ok (.int .i64 n) W := fun ts t W => by
    rw [run_min_int3]
    congr 2
    split <;> split <;> omega
  clear hn
  go_enter Try.func6, Try.ntmps6
  by_cases h5 : 500 < n
  · have g5 : (500 : Int) < (n : Int) := by omega
    go_wp2_with fail
    refine (HKN.out w).mono ?_
    rintro e wz ⟨rfl, hz⟩
    have HZ := Lib.hid hz; clear hz
    go_wp2_with fail
    go_ret
    exact ⟨rfl, HZ.out⟩
  · have g5 : ¬ (500 : Int) < (n : Int) := by omega
    have HA := Lib.hid ha
    have HB := Lib.hid hb
    have HC := Lib.hid hc
    have hX := xor3_length na nb nc
    clear ha hb hc
    go_wp2_with fail
    clear hmin
    go_loopw [8, 9] (fun v i wr => ∃ (k : Nat), k ≤ n ∧ i = .int .i64 k ∧ Hid (wr.ownsRow w.heap.size 5 1 v k (((xor3 a.b b.b c.b n).take k).map fun x => Value.int .u8 (x.toNat : Int))) ∧ Below w.heap.size w wr) (fun _ i _ => n - (intOf i).toNat)
    case atStart => exact ⟨0, Nat.zero_le _, rfl, World.ownsRow_nil _ _ _ _, Below.refl _ _⟩
    case round =>
      obtain ⟨k, hk, rfl, HROW, hbr⟩ := hrel
      by_cases hkn : k < n
      · obtain ⟨x, hx⟩ : ∃ x, a.b[k]? = some x := ⟨_, List.getElem?_eq_getElem (by omega)⟩
        obtain ⟨y, hy⟩ : ∃ y, b.b[k]? = some y := ⟨_, List.getElem?_eq_getElem (by omega)⟩
        obtain ⟨z, hz⟩ : ∃ z, c.b[k]? = some z := ⟨_, List.getElem?_eq_getElem (by omega)⟩
        obtain ⟨ga, oa, eA, cA0⟩ := HA.out.bytes.byte hx
        obtain ⟨gb, ob, eB, cB0⟩ := HB.out.bytes.byte hy
        obtain ⟨gc, oc, eC, cC0⟩ := HC.out.bytes.byte hz
        have hX1 := xor3_at (n := n) hkn hx hy hz
        have hx1 := bxor_at x y
        have hx2 := bxor_at (x ^^^ y) z
        have hsn : (xor3 a.b b.b c.b n).take (k + 1) = (xor3 a.b b.b c.b n).take k ++ [x ^^^ y ^^^ z] := by rw [List.take_add_one, hX1]; rfl
        generalize x ^^^ y ^^^ z = Z at *
        generalize x ^^^ y = Y at *
        have HSN := Lib.hid hsn
        have k1 : (k : Int) < (n : Int) := by omega
        have ka : (k : Int) < (a.b.length : Int) := by omega
        have kb : (k : Int) < (b.b.length : Int) := by omega
        have kc : (k : Int) < (c.b.length : Int) := by omega
        obtain ⟨i0, hi, hz0, hz1, hz2⟩ := info_parts u8_info
        have HI := Lib.hid hi
        clear hsn hX1 hx hy hz hi
        rw [eA, eB, eC]
        have hSS : ∀ W, Below w.heap.size w W → (W.cell? ⟨ga, oa + k, none⟩ = some (.int .u8 (x.toNat : Int)) ∧ W.cell? ⟨gb, ob + k, none⟩ = some (.int .u8 (y.toNat : Int)) ∧ W.cell? ⟨gc, oc + k, none⟩ = some (.int .u8 (z.toNat : Int)) ∧ Below w.heap.size w W) := fun W h => ⟨(h.cell (World.block_lt_of_cell? _ _ cA0)).trans cA0, (h.cell (World.block_lt_of_cell? _ _ cB0)).trans cB0, (h.cell (World.block_lt_of_cell? _ _ cC0)).trans cC0, h⟩
        obtain ⟨cA, cB, cC, _⟩ := hSS _ hbr
        go_wp2_with fail
        refine wp_region_held_drew (S := (fun w' => w'.cell? ⟨ga, oa + k, none⟩ = some (.int .u8 (x.toNat : Int)) ∧ w'.cell? ⟨gb, ob + k, none⟩ = some (.int .u8 (y.toNat : Int)) ∧ w'.cell? ⟨gc, oc + k, none⟩ = some (.int .u8 (z.toNat : Int)) ∧ Below w.heap.size w w')) (by kernel_rfl) ⟨cA, cB, cC, hbr.drew⟩ (fun hHeld => ?_)
        refine wpAnyH_take (i := 0) (v := ?vm0) rfl (by kernel_rfl) (by kernel_rfl) (by kernel_rfl) (fun _ _ _ h => h) (Or.inl ⟨by rfl, ?ym0⟩) (by assumption) ?rm0
        case ym0 =>
          intro w hSw
          (try dsimp only at hSw)
          go_simp
          first | done | with_reducible rfl
        try simp only [Act.put, List.getElem_toArray, List.getElem_cons_zero, List.setIfInBounds_toArray, List.set_cons_zero, List.set_cons_succ]
        refine wpAnyH_take (i := 1) (v := ?vm1) rfl (by kernel_rfl) (by kernel_rfl) (by kernel_rfl) (fun _ _ _ h => h) (Or.inl ⟨by rfl, ?ym1⟩) (by assumption) ?rm1
        case ym1 =>
          intro w hSw
          (try dsimp only at hSw)
          go_simp
          first | done | with_reducible rfl
        try simp only [Act.put, List.getElem_toArray, List.getElem_cons_zero, List.getElem_cons_succ, List.setIfInBounds_toArray, List.set_cons_zero, List.set_cons_succ]
        refine wpAnyH_take (i := 2) (v := ?vm2) rfl (by kernel_rfl) (by kernel_rfl) (by kernel_rfl) (fun _ _ _ h => h) (Or.inl ⟨by rfl, ?ym2⟩) (by assumption) ?rm2
        case ym2 =>
          intro w hSw
          (try dsimp only at hSw)
          go_simp
          first | done | with_reducible rfl
        try simp only [Act.put, List.getElem_toArray, List.getElem_cons_zero, List.getElem_cons_succ, List.setIfInBounds_toArray, List.set_cons_zero, List.set_cons_succ]
        refine wpAnyH_take (i := 3) (v := ?vm3) rfl (by kernel_rfl) (by kernel_rfl) (by kernel_rfl) (fun _ _ _ h => h) (Or.inl ⟨by rfl, ?ym3⟩) (by assumption) ?rm3
        case ym3 =>
          intro w hSw
          (try dsimp only at hSw)
          go_simp
          first | done | with_reducible rfl
        try simp only [Act.put, List.getElem_toArray, List.getElem_cons_zero, List.getElem_cons_succ, List.setIfInBounds_toArray, List.set_cons_zero, List.set_cons_succ]
        refine wpAnyH_take (i := 4) (v := ?vm4) rfl (by kernel_rfl) (by kernel_rfl) (by kernel_rfl) (fun _ _ _ h => h) (Or.inl ⟨by rfl, ?ym4⟩) (by assumption) ?rm4
        case ym4 =>
          intro w hSw
          (try dsimp only at hSw)
          go_simp
          first | done | with_reducible rfl
        try simp only [Act.put, List.getElem_toArray, List.getElem_cons_zero, List.getElem_cons_succ, List.setIfInBounds_toArray, List.set_cons_zero, List.set_cons_succ]
        refine wpAnyH_take (i := 5) (v := ?vm5) rfl (by kernel_rfl) (by kernel_rfl) (by kernel_rfl) (fun _ _ _ h => h) (Or.inl ⟨by rfl, ?ym5⟩) (by assumption) ?rm5
        case ym5 =>
          intro w hSw
          (try dsimp only at hSw)
          go_simp
          first | done | with_reducible rfl
        try simp only [Act.put, List.getElem_toArray, List.getElem_cons_zero, List.getElem_cons_succ, List.setIfInBounds_toArray, List.set_cons_zero, List.set_cons_succ]
        refine wpAnyH_take (i := 6) (v := ?vm6) rfl (by kernel_rfl) (by kernel_rfl) (by kernel_rfl) (fun _ _ _ h => h) (Or.inl ⟨by rfl, ?ym6⟩) (by assumption) ?rm6
        case ym6 =>
          intro w hSw
          (try dsimp only at hSw)
          go_simp
          first | done | with_reducible rfl
        try simp only [Act.put, List.getElem_toArray, List.getElem_cons_zero, List.getElem_cons_succ, List.setIfInBounds_toArray, List.set_cons_zero, List.set_cons_succ]
        refine wpAnyH_take (i := 7) (v := ?vm7) rfl (by kernel_rfl) (by kernel_rfl) (by kernel_rfl) (fun _ _ _ h => h) (Or.inl ⟨by rfl, ?ym7⟩) (by assumption) ?rm7
        case ym7 =>
          intro w hSw
          (try dsimp only at hSw)
          go_simp
          first | done | with_reducible rfl
        try simp only [Act.put, List.getElem_toArray, List.getElem_cons_zero, List.getElem_cons_succ, List.setIfInBounds_toArray, List.set_cons_zero, List.set_cons_succ]
        refine wpAnyH_take (i := 8) (v := ?vm8) rfl (by kernel_rfl) (by kernel_rfl) (by kernel_rfl) (fun _ _ _ h => h) (Or.inl ⟨by rfl, ?ym8⟩) (by assumption) ?rm8
        case ym8 =>
          intro w hSw
          (try dsimp only at hSw)
          go_simp
          first | done | with_reducible rfl
        try simp only [Act.put, List.getElem_toArray, List.getElem_cons_zero, List.getElem_cons_succ, List.setIfInBounds_toArray, List.set_cons_zero, List.set_cons_succ]
        refine wpAnyH_take (i := 9) (v := ?vm9) rfl (by kernel_rfl) (by kernel_rfl) (by kernel_rfl) (fun _ _ _ h => h) (Or.inl ⟨by rfl, ?ym9⟩) (by assumption) ?rm9
        case ym9 =>
          intro w hSw
          (try dsimp only at hSw)
          go_simp
          first | done | with_reducible rfl
        try simp only [Act.put, List.getElem_toArray, List.getElem_cons_zero, List.getElem_cons_succ, List.setIfInBounds_toArray, List.set_cons_zero, List.set_cons_succ]
        refine wpAnyH_take (i := 10) (v := ?vm10) rfl (by kernel_rfl) (by kernel_rfl) (by kernel_rfl) (fun _ _ _ h => h) (Or.inl ⟨by rfl, ?ym10⟩) (by assumption) ?rm10
        case ym10 =>
          intro w hSw
          (try dsimp only at hSw)
          go_simp
          first | done | with_reducible rfl
        try simp only [Act.put, List.getElem_toArray, List.getElem_cons_zero, List.getElem_cons_succ, List.setIfInBounds_toArray, List.set_cons_zero, List.set_cons_succ]
        refine wpAnyH_take (i := 11) (v := ?vm11) rfl (by kernel_rfl) (by kernel_rfl) (by kernel_rfl) (fun _ _ _ h => h) (Or.inl ⟨by rfl, ?ym11⟩) (by assumption) ?rm11
        case ym11 =>
          intro w hSw
          (try dsimp only at hSw)
          go_simp
          first | done | with_reducible rfl
        try simp only [Act.put, List.getElem_toArray, List.getElem_cons_zero, List.getElem_cons_succ, List.setIfInBounds_toArray, List.set_cons_zero, List.set_cons_succ]
        refine wpAnyH_take (i := 12) (v := ?vm12) rfl (by kernel_rfl) (by kernel_rfl) (by kernel_rfl) (fun _ _ _ h => h) (Or.inl ⟨by rfl, ?ym12⟩) (by assumption) ?rm12
        case ym12 =>
          intro w hSw
          (try dsimp only at hSw)
          go_simp
          first | done | with_reducible rfl
        try simp only [Act.put, List.getElem_toArray, List.getElem_cons_zero, List.getElem_cons_succ, List.setIfInBounds_toArray, List.set_cons_zero, List.set_cons_succ]
        refine wpAnyH_take (i := 13) (v := ?vm13) rfl (by kernel_rfl) (by kernel_rfl) (by kernel_rfl) (fun _ _ _ h => h) (Or.inl ⟨by rfl, ?ym13⟩) (by assumption) ?rm13
        case ym13 =>
          intro w hSw
          (try dsimp only at hSw)
          go_simp
          first | done | with_reducible rfl
        try simp only [Act.put, List.getElem_toArray, List.getElem_cons_zero, List.getElem_cons_succ, List.setIfInBounds_toArray, List.set_cons_zero, List.set_cons_succ]
        refine wpAnyH_take (i := 14) (v := ?vm14) rfl (by kernel_rfl) (by kernel_rfl) (by kernel_rfl) (fun _ _ _ h => h) (Or.inl ⟨by rfl, ?ym14⟩) (by assumption) ?rm14
        case ym14 =>
          intro w hSw
          (try dsimp only at hSw)
          go_simp
          first | done | with_reducible rfl
        try simp only [Act.put, List.getElem_toArray, List.getElem_cons_zero, List.getElem_cons_succ, List.setIfInBounds_toArray, List.set_cons_zero, List.set_cons_succ]
        refine wpAnyH_ready (rs := [15]) (by kernel_rfl) (by simp) ?_
        refine AllReadyH.cons rfl (fun K hK => ?_) AllReadyH.nil
        go_simp
        have hbA : Below w.heap.size w (wr.alloc (.cells #[.int .u8 (Z.toNat : Int)] 5)).drew := (hbr.alloc hbr.size _).drew
        have hrowA := (HROW.out.alloc (.cells #[.int .u8 (Z.toNat : Int)] 5)).drew
        have cellA : ∀ (j : Nat) u, [Value.int .u8 (Z.toNat : Int)][j]? = some u → (wr.alloc (.cells #[.int .u8 (Z.toNat : Int)] 5)).drew.cell? ((⟨wr.heap.size, 0, none⟩ : Addr).add j) = some u := cell_one_here _ _ _
        refine hK.out _ _ (hSS _ hbA) (fun hHeld => ?_)
        clear hK K
        try simp only [Act.put, List.getElem_toArray, List.getElem_cons_zero, List.getElem_cons_succ, List.setIfInBounds_toArray, List.set_cons_zero, List.set_cons_succ]
        refine wpAnyH_ready (rs := [16]) (by kernel_rfl) (by simp) ?_
        refine AllReadyH.cons rfl (fun K hK => ?_) AllReadyH.nil
        refine step_wanted2 rfl (wp_append_own _ (.tmp 25) (.tmp 40) 24 rfl w.heap.size 5 i0 (.int .u8 0) 1 1 Try.underlying24 HI.out hz0 hz1 hz2 rfl (by decide) u8 k _ rfl hrowA ⟨wr.heap.size, 0, none⟩ 1 1 [.int .u8 (Z.toNat : Int)] rfl rfl cellA (by simp [Value.oneCell']) (by unfold maxLen; omega) (by omega) (by have := hbr.size; simp; omega) ?_)
        intro v' w1 hown hgrow hnil
        have hbs := hbA.grown hgrow hbA.size (own_ge HROW.out)
        refine hK.out _ _ (hSS _ (hbA.grown hgrow hbA.size (own_ge HROW.out))) (fun hHeld => ?_)
        clear hK K
        try simp only [Act.put, List.getElem_toArray, List.getElem_cons_zero, List.getElem_cons_succ, List.setIfInBounds_toArray, List.set_cons_zero, List.set_cons_succ]
        refine wpAnyH_take (i := 17) (v := ?vm17) rfl (by kernel_rfl) (by kernel_rfl) (by kernel_rfl) (fun _ _ _ h => h) (Or.inl ⟨by rfl, ?ym17⟩) (by assumption) ?rm17
        case ym17 =>
          intro w hSw
          (try dsimp only at hSw)
          go_simp
          first | done | with_reducible rfl
        try simp only [Act.put, List.getElem_toArray, List.getElem_cons_zero, List.getElem_cons_succ, List.setIfInBounds_toArray, List.set_cons_zero, List.set_cons_succ]
        refine wpAnyH_done (by kernel_rfl) ?_ _
        have HOWN := Lib.hid hown
        clear hown hgrow hnil hrowA cellA HROW
        go_wp2_with fail
        go_roundw
        case rel => exact ⟨k + 1, by omega, by go_num, by rw [HSN.out, List.map_append]; exact HOWN.out, hbs⟩
        case measure => simp [intOf]; omega
      · obtain rfl : k = n := by omega
        have hX2 : (xor3 a.b b.b c.b k).take k = xor3 a.b b.b c.b k := List.take_of_length_le (by omega)
        rw [hX2] at HROW
        obtain ⟨Ad, cd, hv, BD⟩ := brow_ok HROW.out hX (by omega)
        subst hv
        have LA := Lib.hid (show (a.b.take k).length = k by rw [List.length_take]; omega)
        have LB := Lib.hid (show (b.b.take k).length = k by rw [List.length_take]; omega)
        have LC := Lib.hid (show (c.b.take k).length = k by rw [List.length_take]; omega)
        have LD := Lib.hid hX
        have BA : Hid (BOk wr.drew ⟨a.A, a.c, a.b.take k⟩) := (HA.out.front k).below hbr.drew
        have BB : Hid (BOk wr.drew ⟨b.A, b.c, b.b.take k⟩) := (HB.out.front k).below hbr.drew
        have BC : Hid (BOk wr.drew ⟨c.A, c.c, c.b.take k⟩) := (HC.out.front k).below hbr.drew
        have BD : Hid (BOk wr.drew ⟨Ad, cd, xor3 a.b b.b c.b k⟩) := BD.below ((Below.refl _ wr).drew)
        have Ra := Lib.hid (Nat.le_trans na HA.out.cap)
        have Rb := Lib.hid (Nat.le_trans nb HB.out.cap)
        have Rc := Lib.hid (Nat.le_trans nc HC.out.cap)
        have hsx := sum_xor3 (a.b.take k) (b.b.take k) (c.b.take k) (by rw [LA.out, LB.out]) (by rw [LB.out, LC.out])
        obtain ⟨s1, h1⟩ : ∃ s, moreN 0 (a.b.take k) = s := ⟨_, rfl⟩
        obtain ⟨s2, h2⟩ : ∃ s, moreN 0 (b.b.take k) = s := ⟨_, rfl⟩
        obtain ⟨s3, h3⟩ : ∃ s, moreN 0 (c.b.take k) = s := ⟨_, rfl⟩
        have l1 : s1 < 2 ^ 32 := by rw [← h1]; exact more_lt _ (by decide)
        have l2 : s2 < 2 ^ 32 := by rw [← h2]; exact more_lt _ (by decide)
        have l3 : s3 < 2 ^ 32 := by rw [← h3]; exact more_lt _ (by decide)
        have q1 := xor32 l1 l2
        have q2 := xor32 (xor_lt32 l1 l2) l3
        rw [h1, h2, h3] at hsx
        have SA := Lib.hid h1
        have SB := Lib.hid h2
        have SC := Lib.hid h3
        have SD : Hid (moreN 0 (xor3 a.b b.b c.b k) = s1 ^^^ s2 ^^^ s3) := hsx
        generalize xor3 a.b b.b c.b k = X at *
        have HBR := Lib.hid hbr
        clear hsx hX2 HROW hX hbr h1 h2 h3
        go_wp2_with fail
        refine wp_region_flow (T := Makes) [.is (.slice Ad k cd), Spec.row1 ⟨Ad, cd, X⟩, .is (.int .u32 ((s1 ^^^ s2 ^^^ s3 : Nat) : Int)), .is (.slice a.A a.b.length a.c), .is (.int .i64 k), .is (.slice a.A k a.c), Spec.row1 ⟨a.A, a.c, a.b.take k⟩, .is (.int .u32 ((s1 : Nat) : Int)), .is (.slice b.A b.b.length b.c), .is (.int .i64 k), .is (.slice b.A k b.c), Spec.row1 ⟨b.A, b.c, b.b.take k⟩, .is (.int .u32 ((s2 : Nat) : Int)), .is (.int .u32 ((s1 ^^^ s2 : Nat) : Int)), .is (.slice c.A c.b.length c.c), .is (.int .i64 k), .is (.slice c.A k c.c), Spec.row1 ⟨c.A, c.c, c.b.take k⟩, .is (.int .u32 ((s3 : Nat) : Int)), .is (.int .u32 ((s1 ^^^ s2 ^^^ s3 : Nat) : Int)), .is (.bool true), .is (.bool true), .is (.bool true), .is (.bool true), .is (.bool true)] Makes.refl (fun _ _ _ => Makes.trans) (by kernel_rfl) (by kernel_rfl) (by kernel_rfl) (by kernel_rfl) ?_ ?_
        rotate_left
        · intro ls a1 w1 hall hf
          obtain ⟨v6, e6, m6⟩ := hf.done hall 24 6 rfl
          obtain rfl := m6
          go_wp2_with fail
          refine bodyPost_ret (results_tmp rfl _ _ _) hf.defers ?_
          refine ⟨by simp [e6], HBR.out.drew.trans (hf.to.mono HBR.out.drew.size)⟩
        intro i op ls a1 w1 ho hr hf
        have hi : i < 25 := (Array.getElem?_eq_some_iff.1 ho).1
        obtain rfl | rfl | rfl | rfl | rfl | rfl | rfl | rfl | rfl | rfl | rfl | rfl | rfl | rfl | rfl | rfl | rfl | rfl | rfl | rfl | rfl | rfl | rfl | rfl | rfl : i = 0 ∨ i = 1 ∨ i = 2 ∨ i = 3 ∨ i = 4 ∨ i = 5 ∨ i = 6 ∨ i = 7 ∨ i = 8 ∨ i = 9 ∨ i = 10 ∨ i = 11 ∨ i = 12 ∨ i = 13 ∨ i = 14 ∨ i = 15 ∨ i = 16 ∨ i = 17 ∨ i = 18 ∨ i = 19 ∨ i = 20 ∨ i = 21 ∨ i = 22 ∨ i = 23 ∨ i = 24 := by omega
        · cases ho
          have e8 := hf.kept 8 (by kernel_rfl) rfl
          exact wpOp_plain rfl rfl (wp_val _ (by simp [execOp, e8]) rfl (Makes.refl _))
        · cases ho
          obtain ⟨v42, e42, m42⟩ := hf.slot hr 0 42 (by kernel_rfl)
          obtain rfl := m42
          exact wpOp_plain rfl rfl (wp_val _ (by simp [execOp, e42]; go_simp) ⟨_, rfl, brow_one (BD.out.below hf.to) LD.out⟩ (Below.alloc (Below.refl _ _) (Nat.le_refl _) _))
        · cases ho
          obtain ⟨v43, e43, m43⟩ := hf.slot hr 1 43 (by kernel_rfl)
          obtain ⟨g, rfl, hg⟩ := m43
          exact wpOp_plain rfl rfl (wp_calls (f := 12) (by simp only [Act.eval] at e43; simp [execOp]; go_simp) (sum_row1 hS hg SD.out))
        · cases ho
          have e0 := hf.kept 0 (by kernel_rfl) rfl
          exact wpOp_plain rfl rfl (wp_val _ (by simp [execOp, e0]) rfl (Makes.refl _))
        · cases ho
          have e7 := hf.kept 7 (by kernel_rfl) rfl
          exact wpOp_plain rfl rfl (wp_val _ (by simp [execOp, e7]) rfl (Makes.refl _))
        · cases ho
          obtain ⟨v45, e45, m45⟩ := hf.slot hr 3 45 (by kernel_rfl)
          obtain ⟨v46, e46, m46⟩ := hf.slot hr 4 46 (by kernel_rfl)
          obtain rfl := m45
          obtain rfl := m46
          exact wpOp_plain rfl rfl (wp_val _ (by simp [execOp, e45, e46, run_front _ _ _ _ Ra.out]) rfl (Makes.refl _))
        · cases ho
          obtain ⟨v47, e47, m47⟩ := hf.slot hr 5 47 (by kernel_rfl)
          obtain rfl := m47
          exact wpOp_plain rfl rfl (wp_val _ (by simp [execOp, e47]; go_simp) ⟨_, rfl, brow_one (BA.out.below hf.to) LA.out⟩ (Below.alloc (Below.refl _ _) (Nat.le_refl _) _))
        · cases ho
          obtain ⟨v48, e48, m48⟩ := hf.slot hr 6 48 (by kernel_rfl)
          obtain ⟨g, rfl, hg⟩ := m48
          exact wpOp_plain rfl rfl (wp_calls (f := 12) (by simp only [Act.eval] at e48; simp [execOp]; go_simp) (sum_row1 hS hg SA.out))
        · cases ho
          have e1 := hf.kept 1 (by kernel_rfl) rfl
          exact wpOp_plain rfl rfl (wp_val _ (by simp [execOp, e1]) rfl (Makes.refl _))
        · cases ho
          have e7 := hf.kept 7 (by kernel_rfl) rfl
          exact wpOp_plain rfl rfl (wp_val _ (by simp [execOp, e7]) rfl (Makes.refl _))
        · cases ho
          obtain ⟨v50, e50, m50⟩ := hf.slot hr 8 50 (by kernel_rfl)
          obtain ⟨v51, e51, m51⟩ := hf.slot hr 9 51 (by kernel_rfl)
          obtain rfl := m50
          obtain rfl := m51
          exact wpOp_plain rfl rfl (wp_val _ (by simp [execOp, e50, e51, run_front _ _ _ _ Rb.out]) rfl (Makes.refl _))
        · cases ho
          obtain ⟨v52, e52, m52⟩ := hf.slot hr 10 52 (by kernel_rfl)
          obtain rfl := m52
          exact wpOp_plain rfl rfl (wp_val _ (by simp [execOp, e52]; go_simp) ⟨_, rfl, brow_one (BB.out.below hf.to) LB.out⟩ (Below.alloc (Below.refl _ _) (Nat.le_refl _) _))
        · cases ho
          obtain ⟨v53, e53, m53⟩ := hf.slot hr 11 53 (by kernel_rfl)
          obtain ⟨g, rfl, hg⟩ := m53
          exact wpOp_plain rfl rfl (wp_calls (f := 12) (by simp only [Act.eval] at e53; simp [execOp]; go_simp) (sum_row1 hS hg SB.out))
        · cases ho
          obtain ⟨v49, e49, m49⟩ := hf.slot hr 7 49 (by kernel_rfl)
          obtain ⟨v54, e54, m54⟩ := hf.slot hr 12 54 (by kernel_rfl)
          obtain rfl := m49
          obtain rfl := m54
          exact wpOp_plain rfl rfl (wp_val _ (by simp [execOp, e49, e54]; go_simp) rfl (Makes.refl _))
        · cases ho
          have e2 := hf.kept 2 (by kernel_rfl) rfl
          exact wpOp_plain rfl rfl (wp_val _ (by simp [execOp, e2]) rfl (Makes.refl _))
        · cases ho
          have e7 := hf.kept 7 (by kernel_rfl) rfl
          exact wpOp_plain rfl rfl (wp_val _ (by simp [execOp, e7]) rfl (Makes.refl _))
        · cases ho
          obtain ⟨v56, e56, m56⟩ := hf.slot hr 14 56 (by kernel_rfl)
          obtain ⟨v57, e57, m57⟩ := hf.slot hr 15 57 (by kernel_rfl)
          obtain rfl := m56
          obtain rfl := m57
          exact wpOp_plain rfl rfl (wp_val _ (by simp [execOp, e56, e57, run_front _ _ _ _ Rc.out]) rfl (Makes.refl _))
        · cases ho
          obtain ⟨v58, e58, m58⟩ := hf.slot hr 16 58 (by kernel_rfl)
          obtain rfl := m58
          exact wpOp_plain rfl rfl (wp_val _ (by simp [execOp, e58]; go_simp) ⟨_, rfl, brow_one (BC.out.below hf.to) LC.out⟩ (Below.alloc (Below.refl _ _) (Nat.le_refl _) _))
        · cases ho
          obtain ⟨v59, e59, m59⟩ := hf.slot hr 17 59 (by kernel_rfl)
          obtain ⟨g, rfl, hg⟩ := m59
          exact wpOp_plain rfl rfl (wp_calls (f := 12) (by simp only [Act.eval] at e59; simp [execOp]; go_simp) (sum_row1 hS hg SC.out))
        · cases ho
          obtain ⟨v55, e55, m55⟩ := hf.slot hr 13 55 (by kernel_rfl)
          obtain ⟨v60, e60, m60⟩ := hf.slot hr 18 60 (by kernel_rfl)
          obtain rfl := m55
          obtain rfl := m60
          exact wpOp_plain rfl rfl (wp_val _ (by simp [execOp, e55, e60]; go_simp) rfl (Makes.refl _))
        · cases ho
          obtain ⟨v44, e44, m44⟩ := hf.slot hr 2 44 (by kernel_rfl)
          obtain ⟨v61, e61, m61⟩ := hf.slot hr 19 61 (by kernel_rfl)
          obtain rfl := m44
          obtain rfl := m61
          exact wpOp_plain rfl rfl (wp_val _ (by simp [execOp, e44, e61]; try go_simp) rfl (Makes.refl _))
        · cases ho
          obtain ⟨v62, e62, m62⟩ := hf.slot hr 20 62 (by kernel_rfl)
          obtain rfl := m62
          exact wpOp_plain rfl rfl (wp_val _ (by simp [execOp, e62]) rfl (Makes.refl _))
        · cases ho
          obtain ⟨v63, e63, m63⟩ := hf.cell hr 21 63 rfl
          obtain rfl := m63
          exact wpOp_met rfl rfl rfl e63 (wp_calls (f := 9) (by simp [execOp]; go_simp) ((HKN.out _).mono fun e w2 ⟨he, hb⟩ => ⟨_, he, rfl, hb⟩))
        · cases ho
          obtain ⟨v63, e63, m63⟩ := hf.slot hr 21 63 (by kernel_rfl)
          obtain ⟨v64, e64, m64⟩ := hf.slot hr 22 64 (by kernel_rfl)
          obtain rfl := m63
          obtain rfl := m64
          exact wpOp_plain rfl rfl (wp_val _ (by simp [execOp, e63, e64]; try go_simp) rfl (Makes.refl _))
        · cases ho
          obtain ⟨v65, e65, m65⟩ := hf.slot hr 23 65 (by kernel_rfl)
          obtain rfl := m65
          exact wpOp_plain rfl rfl (wp_val _ (by simp [execOp, e65]) rfl (Makes.refl _))
end Go.Proofs.Ytopehblbkffncaa
