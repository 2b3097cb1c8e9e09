/-
  The program's own Step, table, more, More, Sum of layer 4 answer what the chapter says.
-/
import Derived.Test.YtojkifcclgecoaaCLaw
import Derived.Deep.MidRow
import Derived.Deep.WholeRow
namespace Go.Proofs.Ytojkifcclgecoaa
open Go Go.RowKit Go.Shelf Go.Proofs

theorem step_any (n : Nat) (hn : n < 2 ^ 32) (w : World) :
    Calls Try.prog 91 #[.int .u32 (n : Int)] w fun e w' => e = .returned (.int .u32 (halfN n : Int)) ∧ w' = w := by
  by_cases h : n % 2 = 1
  · have h1 : ((n : Int) % 2 == 1) = true := by rw [beq_iff_eq]; omega
    have h2 := half_odd hn h
    have hw : (n : Int) / 2 % 4294967296 = (n : Int) / 2 := by omega
    generalize (halfN n : Int) = r at *
    clear hn h
    go_enter Try.func91, Try.ntmps91
    go_wp2_with fail
    go_ret
    exact ⟨by rw [← h2]; rfl, rfl⟩
  · have h1 : ((n : Int) % 2 == 1) = false := by rw [beq_eq_false_iff_ne]; omega
    have h2 := half_even h
    have hw : (n : Int) / 2 % 4294967296 = (n : Int) / 2 := by omega
    generalize (halfN n : Int) = r at *
    clear hn h
    go_enter Try.func91, Try.ntmps91
    go_wp2_with fail
    go_ret
    exact ⟨by rw [← h2]; rfl, rfl⟩

/-- The table when its first k numbers are laid. -/
def tabN (k i : Nat) : Nat := if i < k then halvesN 8 i else 0
def tabTo (k : Nat) : Array Value := Array.ofFn (n := 256) fun i => .int .u32 (tabN k i.val : Int)
theorem tabTo_size (k : Nat) : (tabTo k).size = 256 := Array.size_ofFn
theorem tabTo_at {k i : Nat} (hi : i < 256) : (tabTo k)[i]? = some (.int .u32 (tabN k i : Int)) := by
  unfold tabTo
  rw [Array.getElem?_ofFn, dif_pos hi]
theorem tabTo_zero : tabTo 0 = Array.replicate 256 (.int .u32 0) := by
  apply Array.ext_getElem?
  intro i
  by_cases hi : i < 256
  · rw [tabTo_at hi, Array.getElem?_replicate, if_pos hi]
    unfold tabN
    rw [if_neg (by omega)]; rfl
  · rw [Array.getElem?_eq_none (by rw [tabTo_size]; omega), Array.getElem?_replicate, if_neg hi]
theorem tabTo_next {k : Nat} (hk : k < 256) : (tabTo k).setIfInBounds k (.int .u32 (halvesN 8 k : Int)) = tabTo (k + 1) := by
  apply Array.ext_getElem?
  intro i
  rw [Array.getElem?_setIfInBounds]
  by_cases hi : i < 256
  · by_cases e : k = i
    · subst e
      rw [if_pos rfl, if_pos (by rw [tabTo_size]; exact hk), tabTo_at hi]
      unfold tabN
      rw [if_pos (by omega)]
    · rw [if_neg e, tabTo_at hi, tabTo_at hi]
      unfold tabN
      by_cases h2 : i < k
      · rw [if_pos h2, if_pos (by omega)]
      · rw [if_neg h2, if_neg (by omega)]
  · rw [if_neg (by omega), Array.getElem?_eq_none (by rw [tabTo_size]; omega), Array.getElem?_eq_none (by rw [tabTo_size]; omega)]
theorem tabTo_one (k : Nat) : (tabTo k).all (·.oneCell') = true := by
  apply Array.all_eq_true_iff_forall_mem.2
  intro v hv
  unfold tabTo at hv
  obtain ⟨i, rfl⟩ := Array.mem_ofFn.1 hv
  rfl
theorem tabTo_all {i : Nat} (hi : i < 256) : (tabTo 256)[i]? = some (.int .u32 (halvesN 8 i : Int)) := by
  rw [tabTo_at hi]
  unfold tabN
  rw [if_pos hi]

theorem below_setRow {B : Nat} {a w : World} (h : Below B a w) (g : Nat) (cs : Array Value) (hg : B ≤ g) : Below B a (w.setRow g cs) :=
  h.trans ⟨rfl, rfl, rfl, by simp, fun k hk => setRow_other w g k cs (by omega)⟩

theorem store_cells_row {P : Program} (w : World) (g : Nat) (t : TypeId) (old cells : Array Value) (hg : w.heap[g]? = some (.cells old t (0, 0))) (ho : old.size = cells.size) (h1 : cells.all (·.oneCell') = true) :
    (storeCells ⟨g, 0, none⟩ cells.toList).run P w = .ok () (w.setRow g cells) := by
  have := run_storeCells_from (P := P) g t cells.toList 0 old w hg (by simp; omega) (fun v hv => (Array.all_eq_true_iff_forall_mem.1 h1) v (by simpa using hv))
  rw [List.take_zero, List.nil_append] at this
  exact this
theorem arr_info : (Try.prog.info? 143).map (fun i => (i.zero, i.size)) = some (some (.agg (Array.replicate 256 (.int .u32 0))), 256) := by kernel_rfl

set_option maxHeartbeats 4000000 in
set_option maxRecDepth 1000000 in
theorem table_any (w : World) : Calls Try.prog 90 #[] w fun e w' => e = .returned (.agg (tabTo 256)) ∧ Below w.heap.size w w' := by
  obtain ⟨hz, hs⟩ := zero_of_info arr_info
  go_enter Try.func90, Try.ntmps90
  go_wp2_with fail
  rw [← tabTo_zero]
  go_loopw [4] (fun v wr => ∃ (i : Nat), i ≤ 256 ∧ v = .int .u32 i ∧ wr = (w.alloc (.cells (tabTo 0) 143)).alloc (.cells (tabTo i) 143)) (fun v _ => 256 - (intOf v).toNat)
  case atStart => exact ⟨0, Nat.zero_le _, rfl, rfl⟩
  case round =>
    obtain ⟨i, hi, rfl, rfl⟩ := hrel
    by_cases h1 : i < 256
    · have k1 : (i : Int) < 256 := by omega
      have hi32 : i < 2 ^ 32 := by omega
      go_wp2_with fail
      go_loopw [3, 8] (fun v m wq => ∃ (k : Nat), k ≤ 8 ∧ v = .int .u32 (halvesN k i : Int) ∧ m = .int .i64 k ∧ wq = (w.alloc (.cells (tabTo 0) 143)).alloc (.cells (tabTo i) 143)) (fun _ m _ => 8 - (intOf m).toNat)
      case atStart => exact ⟨0, Nat.zero_le _, rfl, rfl, by trivial⟩
      case round =>
        obtain ⟨k, hk, rfl, rfl, rfl⟩ := hrel
        by_cases h2 : k < 8
        · have m1 : (k : Int) < 8 := by omega
          have HS := Lib.hid (step_any (halvesN k i) (steps_lt k hi32) ((w.alloc (.cells (tabTo 0) 143)).alloc (.cells (tabTo i) 143)))
          have hnx := halves_next k i
          have HNX := Lib.hid hnx; clear hnx
          go_wp2_with fail
          refine HS.out.mono ?_
          rintro e w2 ⟨rfl, rfl⟩
          go_wp2_with fail
          go_roundw
          case rel => exact ⟨k + 1, by omega, by rw [HNX.out], by go_num, by trivial⟩
          case measure => simp [intOf]; omega
        · obtain rfl : k = 8 := by omega
          have hst := tabTo_next h1
          have HST := Lib.hid hst; clear hst
          have hsz : i < (tabTo i).size := by rw [tabTo_size]; exact h1
          have hat := tabTo_at (k := i) h1
          go_wp2_with fail
          go_roundw
          case rel => exact ⟨i + 1, by omega, by go_num, by rw [HST.out]⟩
          case measure => simp [intOf]; omega
    · obtain rfl : i = 256 := by omega
      have hg1 : ((w.alloc (.cells (tabTo 0) 143)).alloc (.cells (tabTo 256) 143)).heap[w.heap.size + 1]? = some (.cells (tabTo 256) 143 (0, 0)) := by
        have := heap_alloc_new (w.alloc (.cells (tabTo 0) 143)) (.cells (tabTo 256) 143)
        rw [show (w.alloc (.cells (tabTo 0) 143)).heap.size = w.heap.size + 1 from by simp] at this
        exact this
      have hg0 : ((w.alloc (.cells (tabTo 0) 143)).alloc (.cells (tabTo 256) 143)).heap[w.heap.size]? = some (.cells (tabTo 0) 143 (0, 0)) := by
        rw [Below.heap_alloc _ _ _ (by simp)]
        exact heap_alloc_new w _
      have hb : Below w.heap.size w ((w.alloc (.cells (tabTo 0) 143)).alloc (.cells (tabTo 256) 143)) := ((Below.refl _ _).alloc (Nat.le_refl _) _).alloc (by simp) _
      go_wp2_with fail
      generalize (w.alloc (.cells (tabTo 0) 143)).alloc (.cells (tabTo 256) 143) = V at *
      have hsc := store_cells_row (P := Try.prog) V w.heap.size 143 (tabTo 0) (tabTo 256) hg0 (by rw [tabTo_size, tabTo_size]) (tabTo_one _)
      refine wp_load_row 143 (.tmp 1) rfl (w.heap.size + 1) (by go_simp) 143 (tabTo 256) (0, 0) _ hg1 Try.underlying143 rfl (by rw [tabTo_size]; exact hs) ?_
      go_wp2_with fail
      refine bodyPost_ret (v := .agg (tabTo 256)) (results_cell_row rfl _ _ w.heap.size 143 (tabTo 256) (0, 0) _ rfl (setRow_heap _ _ _ _ _ _ hg0) Try.underlying143 rfl (by rw [tabTo_size]; exact hs)) rfl ⟨rfl, ?_⟩
      exact below_setRow hb _ _ (Nat.le_refl _)

theorem split_byte (R : Nat) : 2 ^ 8 * (R / 2 ^ 8) ^^^ R % 2 ^ 8 = R := by
  apply Nat.eq_of_testBit_eq
  intro i
  rw [Nat.testBit_xor, Nat.testBit_two_pow_mul, Nat.testBit_mod_two_pow, Nat.testBit_div_two_pow]
  by_cases h : 8 ≤ i
  · have e : i - 8 + 8 = i := by omega
    have h2 : ¬ i < 8 := by omega
    simp [h, h2, e]
  · have h2 : i < 8 := by omega
    simp [h, h2]
theorem byte_table (R x : Nat) : halvesN 8 (R ^^^ x) = R / 2 ^ 8 ^^^ halvesN 8 (R % 2 ^ 8 ^^^ x) := by
  conv => lhs; rw [← split_byte R]
  rw [Nat.xor_assoc, steps_xor, steps_shift]

/-- Rows of bytes, of their room nothing said. -/
structure BRowW (w : World) (A : Option Addr) (l : List BX) : Prop where
  num : l.length ≤ 9223372036854775807
  row : 0 < l.length → ∃ g o, A = some ⟨g, o, none⟩ ∧ ∀ i x, l[i]? = some x → w.cell? ⟨g, o + i, none⟩ = some (.slice x.A x.b.length x.c)
  bytes : ∀ x ∈ l, BytesAt w x.A x.b
  lens : ∀ x ∈ l, x.b.length ≤ 9223372036854775000
theorem BRowW.below {w w' : World} {A : Option Addr} {l : List BX} (h : BRowW w A l) (hb : Below w.heap.size w w') : BRowW w' A l := by
  refine ⟨h.num, fun hn => ?_, fun x hx => (h.bytes x hx).below hb, h.lens⟩
  obtain ⟨g, o, e, hr⟩ := h.row hn
  refine ⟨g, o, e, fun i x hx => ?_⟩
  have h1 := hr i x hx
  exact (hb.cell (p := ⟨g, o + i, none⟩) (World.block_lt_of_cell? w (a := ⟨g, o + i, none⟩) h1)).trans h1

/-- What is left of the first k rows, from N on. -/
def rawTo (N : Nat) (l : List BX) (k : Nat) : Nat := rawN N ((l.take k).map BX.b).flatten
theorem rawTo_zero (N : Nat) (l : List BX) : rawTo N l 0 = N := by unfold rawTo; rw [List.take_zero]; rfl
theorem rawTo_lt {N : Nat} (l : List BX) (k : Nat) (h : N < 2 ^ 32) : rawTo N l k < 2 ^ 32 := raw_lt _ h
theorem rawTo_all (n : Nat) (l : List BX) : rawTo (n ^^^ onesN) l l.length ^^^ onesN = (l.map BX.b).foldl moreN n := by
  unfold rawTo
  rw [List.take_length, sum_join]; rfl
theorem rawTo_next {N : Nat} {l : List BX} {k : Nat} {x : BX} (hx : l[k]? = some x) : rawTo N l (k + 1) = rawN (rawTo N l k) x.b := by
  unfold rawTo
  rw [List.take_add_one, hx, List.map_append, List.flatten_append, raw_append]
  simp only [Option.toList, List.map_cons, List.map_nil, List.flatten_cons, List.flatten_nil, List.append_nil]

set_option maxHeartbeats 4000000 in
set_option maxRecDepth 1000000 in
theorem moreRow_any (n : Nat) (hn : n < 2 ^ 32) (l : List BX) (A : Option Addr) (c : Nat) (w : World) (h : BRowW w A l) :
    Calls Try.prog 87 #[.int .u32 (n : Int), .slice A l.length c] w fun e w' => e = .returned (.int .u32 (((l.map BX.b).foldl moreN n : Nat) : Int)) ∧ Below w.heap.size w w' := by
  have hcap := h.num
  have HT := Lib.hid h; clear h
  have h0 : bits .xor .u32 IntKind.u32.max (n : Int) = ((n ^^^ onesN : Nat) : Int) := by
    rw [Nat.xor_comm, ← xor32 ones_lt hn]; rfl
  have hall := rawTo_all n l
  have hlt := xor_lt32 hn ones_lt
  rw [← hall]
  generalize n ^^^ onesN = N at *
  have HN := Lib.hid hlt; clear hlt hn hall
  obtain ⟨hz, hs⟩ := zero_of_info arr_info
  have HC := Lib.hid (table_any w)
  go_enter Try.func87, Try.ntmps87
  go_wp2_with fail
  refine HC.out.mono ?_
  rintro e w1 ⟨rfl, hb1⟩
  have hsc := run_storeCells_new (P := Try.prog) w1 143 (Array.replicate 256 (.int .u32 0)) (tabTo 256) (by rw [tabTo_size]; exact hs) (by rw [tabTo_size, Array.size_replicate]) (tabTo_one _)
  go_wp2_with fail
  have hg1 := heap_alloc_new w1 (.cells (tabTo 256) 143)
  have hbV : Below w.heap.size w (w1.alloc (.cells (tabTo 256) 143)) := hb1.alloc hb1.size _
  generalize w1.alloc (.cells (tabTo 256) 143) = V at *
  generalize w1.heap.size = G at *
  have HB := Lib.hid hbV; clear hbV
  have HG := Lib.hid hg1; clear hg1
  clear h0 hsc hb1 hz hs
  go_loopw [0, 15] (fun v i wr => ∃ (k : Nat), k ≤ l.length ∧ v = .int .u32 (rawTo N l k : Int) ∧ i = .int .i64 k ∧ wr = V) (fun _ i _ => l.length - (intOf i).toNat)
  case atStart => exact ⟨0, Nat.zero_le _, by rw [rawTo_zero], rfl, by trivial⟩
  case round =>
    obtain ⟨k, hk, rfl, rfl, hw⟩ := hrel
    have hw := hw.symm
    subst hw
    by_cases h1 : k < l.length
    · obtain ⟨x, hx⟩ : ∃ x, l[k]? = some x := ⟨_, List.getElem?_eq_getElem h1⟩
      have hT := HT.out.below HB.out
      obtain ⟨g, o, hA, hr⟩ := hT.row (by omega)
      subst hA
      have c1 := hr k x hx
      have hmem := List.mem_of_getElem? hx
      have hcx := hT.lens x hmem
      have HX := Lib.hid (hT.bytes x hmem)
      have k1 : (k : Int) < (l.length : Int) := by omega
      have hsn := rawTo_next (N := N) hx
      have HSN := Lib.hid hsn; clear hsn
      have HR := Lib.hid (rawTo_lt l k HN.out)
      generalize rawTo N l k = R0 at *
      obtain ⟨xA, xc, xb⟩ := x
      dsimp only at c1 hcx HX HSN
      clear hr hx hT hmem
      go_wp2_with fail
      go_loopw [0, 21] (fun v i wq => ∃ (j : Nat), j ≤ xb.length ∧ v = .int .u32 (rawN R0 (xb.take j) : Int) ∧ i = .int .i64 j ∧ wq = V) (fun _ i _ => xb.length - (intOf i).toNat)
      case atStart => exact ⟨0, Nat.zero_le _, rfl, rfl, by trivial⟩
      case round =>
        obtain ⟨j, hj, rfl, rfl, hw⟩ := hrel
        have hw := hw.symm
        subst hw
        by_cases h2 : j < xb.length
        · obtain ⟨y, hy⟩ : ∃ y, xb[j]? = some y := ⟨_, List.getElem?_eq_getElem h2⟩
          obtain ⟨gx, ox, hxA, c2⟩ := HX.out.byte hy
          subst hxA
          have m1 : (j : Int) < (xb.length : Int) := by omega
          have hsn := raw_snoc R0 hy
          have hR := raw_lt (xb.take j) HR.out
          generalize rawN R0 (xb.take j) = R at *
          rw [byte_table] at hsn
          have hyl := y.toNat_lt
          have hJ : R % 2 ^ 8 ^^^ y.toNat < 2 ^ 8 := Nat.xor_lt_two_pow (by omega) (by omega)
          have hxr : bits .xor .u8 ((R : Int) % 256) (y.toNat : Int) = ((R % 2 ^ 8 ^^^ y.toNat : Nat) : Int) := by
            rw [← u8_xor_nat (R % 2 ^ 8) y.toNat (by omega) (by omega)]
            rfl
          generalize R % 2 ^ 8 ^^^ y.toNat = J at *
          have c3 : V.cell? ⟨G, J, none⟩ = some (.int .u32 (halvesN 8 J : Int)) := by
            rw [cell_of_row _ _ _ _ _ _ HG.out]
            exact tabTo_all hJ
          have hH := steps_lt 8 (n := J) (by omega)
          have hQ : R / 2 ^ 8 < 2 ^ 32 := by omega
          have hq : bits .xor .u32 ((R : Int) / 256) (halvesN 8 J : Int) = ((R / 2 ^ 8 ^^^ halvesN 8 J : Nat) : Int) := by
            rw [← xor32 hQ hH]; rfl
          have HQ := Lib.hid hq
          have HS2 := Lib.hid hsn
          have kJ : (J : Int) < 256 := by omega
          clear hq hsn hH hJ hyl hy hQ
          go_wp2_with fail
          go_roundw
          case rel => exact ⟨j + 1, by omega, by rw [HS2.out, HQ.out], by go_num, by trivial⟩
          case measure => simp [intOf]; omega
        · obtain rfl : j = xb.length := by omega
          rw [List.take_length] at *
          go_wp2_with fail
          go_roundw
          case rel => exact ⟨k + 1, by omega, by rw [HSN.out], by go_num, by trivial⟩
          case measure => simp [intOf]; omega
    · obtain rfl : k = l.length := by omega
      have hR := rawTo_lt l l.length HN.out
      have h3 : bits .xor .u32 IntKind.u32.max (rawTo N l l.length : Int) = ((rawTo N l l.length ^^^ onesN : Nat) : Int) := by
        rw [Nat.xor_comm, ← xor32 ones_lt hR]; rfl
      clear hR
      go_wp2_with fail
      go_ret
      exact ⟨by rw [← h3]; rfl, HB.out⟩

theorem browW_new {w : World} {g : Nat} {xs : List Value} {t : TypeId} {fr : Nat × Nat} (l : List BX) (hg : w.heap[g]? = some (.cells xs.toArray t fr)) (hx : xs = l.map BX.v) (hb : ∀ x ∈ l, BytesAt w x.A x.b) (hc : ∀ x ∈ l, x.b.length ≤ 9223372036854775000) (hl : l.length ≤ 9223372036854775807) : BRowW w (some ⟨g, 0, none⟩) l := by
  refine ⟨hl, fun _ => ⟨g, 0, rfl, fun i x hi => ?_⟩, hb, hc⟩
  subst hx
  have e : (l.map BX.v).toArray[0 + i]? = some x.v := by rw [Nat.zero_add, List.getElem?_toArray, List.getElem?_map, hi]; rfl
  simp only [World.cell?, hg, Option.isSome_none]
  exact e
theorem BRowAt.toW {w : World} {A : Option Addr} {c : Nat} {l : List BX} (h : BRowAt w A c l) : BRowW w A l := by
  have h1 := h.cap
  have h2 := h.capm
  unfold maxLen at h2
  refine ⟨by omega, h.row, h.bytes, fun x hx => ?_⟩
  have h3 := (h.caps x hx).2.2
  unfold reachBytes at h3
  omega

theorem sum_ok : SumOk := by
  intro l A c w h
  have HC := Lib.hid (moreRow_any 0 (by decide) l A c w h.toW)
  clear h
  go_enter Try.func83, Try.ntmps83
  go_wp2_with fail
  refine HC.out.mono ?_
  rintro e w1 ⟨rfl, hq1⟩
  go_wp2_with fail
  go_ret
  exact ⟨rfl, hq1⟩
theorem step_ok : StepOk := fun n hn w => (step_any n hn w).mono fun e w' ⟨he, hw⟩ => ⟨he, by rw [hw]; exact Below.refl _ _⟩
end Go.Proofs.Ytojkifcclgecoaa
