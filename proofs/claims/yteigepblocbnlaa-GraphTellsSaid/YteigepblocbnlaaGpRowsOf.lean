/-
  The contract of graph.rowsOf.
-/
import Derived.Test.YteigepblocbnlaaGpRight
import Derived.BigRegion
import Derived.Deep.Cut
import Derived.Test.YteigepblocbnlaaLast
namespace Go.Proofs.Yteigepblocbnlaa.Gp
open Go Go.RowKit Go.Shelf Go.Proofs
attribute [local go_sem] Oper.semAt_some

abbrev EN := Nat × Nat
def castE (l : List EN) : List EI := l.map (fun e => ((e.1 : Int), (e.2 : Int)))
theorem castE_length (l : List EN) : (castE l).length = l.length := by unfold castE; simp
theorem castE_get {l : List EN} {i : Nat} {e : EN} (h : l[i]? = some e) : (castE l)[i]? = some ((e.1 : Int), (e.2 : Int)) := by unfold castE; rw [List.getElem?_map, h]; rfl
def addT (A : List (List Nat)) (e : EN) : List (List Nat) := A.set e.1 (row A e.1 ++ [e.2])
def adjT (n : Nat) (l : List EN) : List (List Nat) := l.foldl addT (List.replicate n [])
theorem adjT_snoc (n : Nat) (l : List EN) (e : EN) : adjT n (l ++ [e]) = addT (adjT n l) e := by unfold adjT; simp
theorem adjT_length (n : Nat) (l : List EN) : (adjT n l).length = n := by
  unfold adjT
  have : ∀ (l : List EN) (A : List (List Nat)), (l.foldl addT A).length = A.length := by
    intro l
    induction l with
    | nil => intro A; rfl
    | cons e r ih => intro A; rw [List.foldl_cons, ih]; unfold addT; simp
  rw [this]; simp
/-- Rows made of nothing. -/
def noneX : RX := ⟨none, 0, []⟩
theorem rowsL_set (rows : List RX) (i : Nat) (x : RX) : rowsL (rows.set i x) = (rowsL rows).set i x.l := by unfold rowsL; rw [List.map_set]
theorem gp_rows : (Try.prog.info? 30).map (fun i => (i.zero, i.size, i.bytes)) = some (some (.slice none 0 0), 1, 24) := by kernel_rfl
theorem make_rows (w : World) (n : Nat) (hn : n ≤ 2000) : (Instr.makeSlice 44 (.int .i64 (n : Int)) (.int .i64 (n : Int))).run Try.prog w = .ok (.slice (some ⟨w.heap.size, 0, none⟩) n n) (w.alloc (.cells (cellsR (List.replicate n noneX)) 30)) := by
  obtain ⟨i0, hi, hz0, hz1, hz2⟩ := info_parts gp_rows
  have hr := run_make (P := Try.prog) w 44 30 i0 (.slice none 0 0) Try.underlying44 hi hz0 .i64 .i64 n n (by omega) (Int.le_refl _) (by rw [hz2]; omega) (by omega)
  simp only [Int.toNat_natCast] at hr
  rw [hr, hz1]
  have e : madeCells (Value.slice none 0 0).cells (n * 1) = cellsR (List.replicate n noneX) := by
    apply Array.toList_inj.1
    unfold cellsR
    rw [Nat.mul_one, List.map_replicate]
    show (madeCells #[Value.slice none 0 0] n).toList = _
    rw [toList_madeCells_one]; rfl
  rw [e]
theorem RowsM.made (w : World) (n base : Nat) (hb : base ≤ w.heap.size) : RowsM base (w.heap.size + 1) w.heap.size (List.replicate n noneX) (w.alloc (.cells (cellsR (List.replicate n noneX)) 30)) ∧ ApartR (List.replicate n noneX) := by
  refine ⟨⟨World.alloc_heap_new w _, fun x hx => ?_, by omega, hb, fun x hx g hg => ?_⟩, fun i j x y g hi _ hx => ?_⟩
  · rw [(List.mem_replicate.1 hx).2]; exact OI.nil _ _
  · rw [(List.mem_replicate.1 hx).2] at hg; cases hg
  · have := List.mem_of_getElem? hi
    rw [(List.mem_replicate.1 this).2] at hx; cases hx

set_option maxRecDepth 100000 in
set_option maxHeartbeats 8000000 in
theorem rowsOf_any (n : Nat) (A : Option Addr) (c : Nat) (l : List EN) (w : World) (hl : EdgesAt w A (castE l)) (hn : n ≤ 2000) (hm : l.length ≤ 100000) (hr : ∀ e ∈ l, e.1 < n ∧ e.2 < n) :
    Calls Try.prog 23 #[.int .i64 n, .slice A l.length c] w fun e w' => ∃ R rows, e = .returned (.slice (some ⟨R, 0, none⟩) n n) ∧ RowsM w.heap.size w'.heap.size R rows w' ∧ rowsL rows = adjT n l ∧ Below w.heap.size w w' := by
  have HL := Lib.hid hl; clear hl
  obtain ⟨N, hN⟩ : ∃ N, l.length = N := ⟨_, rfl⟩
  rw [hN] at hm ⊢
  have HN := Lib.hid hN; clear hN
  have hmk := make_rows w n hn
  have HMD := Lib.hid (RowsM.made w n w.heap.size (Nat.le_refl _))
  go_enter Try.func23, Try.ntmps23
  go_wp2_with fail
  clear hmk
  go_loopw [12] (fun y wr => ∃ (k : Nat) (rows : List RX), k ≤ N ∧ y = .int .i64 k ∧ Hid (RowsM w.heap.size wr.heap.size w.heap.size rows wr ∧ ApartR rows ∧ rowsL rows = adjT n (l.take k) ∧ ∀ x ∈ rows, x.l.length ≤ k) ∧ Hid (Below w.heap.size w wr)) (fun y _ => N - (intOf y).toNat)
  case atStart => exact ⟨0, _, Nat.zero_le _, rfl, ⟨by have := HMD.out.1; rwa [World.size_alloc], HMD.out.2, by unfold adjT rowsL; simp [noneX], fun x hx => by rw [(List.mem_replicate.1 hx).2]; exact Nat.le_refl _⟩, (Below.refl _ _).alloc (Nat.le_refl _) _⟩
  case round =>
    obtain ⟨k, rows, hk, rfl, HI, HW⟩ := hrel
    by_cases h1 : k < N
    · obtain ⟨⟨ef, et⟩, hx⟩ : ∃ x, l[k]? = some x := ⟨_, List.getElem?_eq_getElem (by have := HN.out; omega)⟩
      obtain ⟨g, o, rfl, hc⟩ := (HL.out.below HW.out) (by rw [castE_length]; have := HN.out; omega)
      obtain ⟨c1, c2⟩ := hc k _ (castE_get hx)
      have hr2 := hr _ (List.mem_of_getElem? hx)
      have hlen : rows.length = n := by rw [← rowsL_length, HI.out.2.2.1, adjT_length]
      obtain ⟨x, hx2⟩ : ∃ x, rows[ef]? = some x := ⟨_, List.getElem?_eq_getElem (by omega)⟩
      have hxl : x.l.length ≤ 100000 := by have := HI.out.2.2.2 x (List.mem_of_getElem? hx2); omega
      have d1 : wr.cell? ⟨w.heap.size, ef, none⟩ = some x.v := by rw [cell_of_row _ _ _ _ _ _ HI.out.1.blk]; exact cellsR_get hx2
      have HX := Lib.hid hx
      have HX2 := Lib.hid hx2
      have k1 : (k : Int) < (N : Int) := by omega
      have wk : IntKind.i64.wrap (k : Int) = (k : Int) := IntWalk.i64_in _ (by omega)
      have k2 : (ef : Int) < (n : Int) := by omega
      have we : IntKind.i64.wrap (ef : Int) = (ef : Int) := IntWalk.i64_in _ (by omega)
      clear hc hx hx2 hr2
      unfold RX.v at d1
      go_wp2_with fail
      have hown := (show OI w.heap.size wr (.slice x.A x.l.length x.c) x.l from HI.out.1.row x (List.mem_of_getElem? HX2.out))
      obtain ⟨W1, hW1⟩ : ∃ W1, wr.alloc (.cells #[.int .i64 ef, .int .i64 et] 35) = W1 := ⟨_, rfl⟩
      have hb1 : Below wr.heap.size wr W1 := by rw [← hW1]; exact (Below.refl _ _).alloc (Nat.le_refl _) _
      have hs1 : W1.heap.size = wr.heap.size + 1 := by rw [← hW1]; simp
      have e1 : W1.cell? ⟨wr.heap.size, 0, none⟩ = some (.int .i64 ef) := by rw [← hW1, cell_of_row _ _ _ _ _ _ (World.alloc_heap_new wr _)]; rfl
      have e2 : W1.cell? ⟨wr.heap.size, 1, none⟩ = some (.int .i64 et) := by rw [← hW1, cell_of_row _ _ _ _ _ _ (World.alloc_heap_new wr _)]; rfl
      have e3 : W1.cell? ⟨w.heap.size, ef, none⟩ = some (.slice x.A x.l.length x.c) := (World.cell?_of_block (a := ⟨w.heap.size, ef, none⟩) (hb1.block _ (World.block_lt_of_cell? wr (a := ⟨w.heap.size, ef, none⟩) d1))).trans d1
      have hf3 : W1.frozen? ⟨w.heap.size, ef, none⟩ = false := frozen_of_row _ _ _ _ _ ((hb1.block _ (World.block_lt_of_cell? wr (a := ⟨w.heap.size, ef, none⟩) d1)).trans HI.out.1.blk)
      have HO := Lib.hid (hown.below hb1)
      have HB1 := Lib.hid hb1
      rw [hW1]
      have hM1 : RowsM w.heap.size W1.drew.heap.size w.heap.size rows W1.drew := by
        have h0 := HI.out.1.keep (W' := W1) (fun k o _ ho _ => (hb1.block k (Array.getElem?_eq_some_iff.1 ho).1).trans ho)
        exact ⟨h0.blk, h0.row, by show _ < W1.heap.size; have := HW.out.size; omega, h0.rlo, fun y hy q hq => by have := h0.lim y hy q hq; show _ < W1.heap.size; omega⟩
      have hRK : ∀ w8 : World, (W1.drew.alloc (.cells #[.int .i64 et] 3)).grownBy w8 (blkA x.A) → w8.heap[wr.heap.size]? = some (.cells #[.int .i64 ef, .int .i64 et] 35 (0, 0)) ∧ w8.heap[w.heap.size]? = some (.cells (cellsR rows) 30 (0, 0)) := by
        intro w8 hg
        have z1 : W1.heap[wr.heap.size]? = some (.cells #[.int .i64 ef, .int .i64 et] 35 (0, 0)) := by rw [← hW1]; exact World.alloc_heap_new wr _
        have hxb : ∀ j, blkA x.A = some j → ∃ cur, W1.heap[j]? = some (.cells cur 3 (0, 0)) := fun j hj => by
          obtain ⟨_, cur, _, h2⟩ := (show OI w.heap.size W1 (.slice x.A x.l.length x.c) x.l from HO.out).slice.2.2.2.2 j hj; exact ⟨cur, h2⟩
        have gen : ∀ (j : Nat) (o : Obj), W1.heap[j]? = some o → (∀ cur, o ≠ .cells cur 3 (0, 0)) → w8.heap[j]? = some o := fun j o hj hne => by
          have hlt := (Array.getElem?_eq_some_iff.1 hj).1
          refine (hg.block j (by rw [World.size_alloc]; exact Nat.lt_succ_of_lt hlt) (fun e => ?_)).trans ((Below.heap_alloc _ _ _ hlt).trans hj)
          obtain ⟨cur, hc⟩ := hxb j e.symm
          rw [hc] at hj; cases hj; exact hne _ rfl
        exact ⟨gen _ _ z1 (fun cur e => by cases e), gen _ _ hM1.blk (fun cur e => by cases e)⟩
      have HM := Lib.hid hM1
      have HRK := Lib.hid hRK
      have hHeld := (show _ ∧ _ ∧ _ from ⟨e1, e2, e3⟩)
      clear hW1 d1 hown hb1 hM1 hRK e1 e2 e3 hf3
      refine wp_region_last (fun w' => w'.cell? ⟨wr.heap.size, 0, none⟩ = some (.int .i64 ef) ∧ w'.cell? ⟨wr.heap.size, 1, none⟩ = some (.int .i64 et) ∧ w'.cell? ⟨w.heap.size, ef, none⟩ = some (.slice x.A x.l.length x.c)) 13 (by kernel_rfl) ?_
      refine wpAnyL_take (i := 0) (v := ?vs0) rfl (by kernel_rfl) (by kernel_rfl) (by kernel_rfl) (by kernel_rfl) (by kernel_rfl) (fun _ _ _ h => h) hHeld (Or.inl ⟨by rfl, ?ys0⟩) ?rs0
      case ys0 =>
        intro w hSw
        (try dsimp only at hSw)
        go_simp
        first | done | with_reducible rfl
      try simp only [Act.put, List.getElem_toArray, List.getElem_cons_zero, List.setIfInBounds_toArray, List.set_cons_zero, List.set_cons_succ]
      refine wpAnyL_take (i := 1) (v := ?vs1) rfl (by kernel_rfl) (by kernel_rfl) (by kernel_rfl) (by kernel_rfl) (by kernel_rfl) (fun _ _ _ h => h) hHeld (Or.inl ⟨by rfl, ?ys1⟩) ?rs1
      case ys1 =>
        intro w hSw
        (try dsimp only at hSw)
        go_simp
        first | done | with_reducible rfl
      try simp only [Act.put, List.getElem_toArray, List.getElem_cons_zero, List.getElem_cons_succ, List.setIfInBounds_toArray, List.set_cons_zero, List.set_cons_succ]
      refine wpAnyL_take (i := 2) (v := ?vs2) rfl (by kernel_rfl) (by kernel_rfl) (by kernel_rfl) (by kernel_rfl) (by kernel_rfl) (fun _ _ _ h => h) hHeld (Or.inl ⟨by rfl, ?ys2⟩) ?rs2
      case ys2 =>
        intro w hSw
        (try dsimp only at hSw)
        go_simp
        first | done | with_reducible rfl
      try simp only [Act.put, List.getElem_toArray, List.getElem_cons_zero, List.getElem_cons_succ, List.setIfInBounds_toArray, List.set_cons_zero, List.set_cons_succ]
      refine wpAnyL_take (i := 3) (v := ?vs3) rfl (by kernel_rfl) (by kernel_rfl) (by kernel_rfl) (by kernel_rfl) (by kernel_rfl) (fun _ _ _ h => h) hHeld (Or.inl ⟨by rfl, ?ys3⟩) ?rs3
      case ys3 =>
        intro w hSw
        (try dsimp only at hSw)
        go_simp
        first | done | with_reducible rfl
      try simp only [Act.put, List.getElem_toArray, List.getElem_cons_zero, List.getElem_cons_succ, List.setIfInBounds_toArray, List.set_cons_zero, List.set_cons_succ]
      refine wpAnyL_take (i := 4) (v := ?vs4) rfl (by kernel_rfl) (by kernel_rfl) (by kernel_rfl) (by kernel_rfl) (by kernel_rfl) (fun _ _ _ h => h) hHeld (Or.inl ⟨by rfl, ?ys4⟩) ?rs4
      case ys4 =>
        intro w hSw
        (try dsimp only at hSw)
        go_simp
        first | done | with_reducible rfl
      try simp only [Act.put, List.getElem_toArray, List.getElem_cons_zero, List.getElem_cons_succ, List.setIfInBounds_toArray, List.set_cons_zero, List.set_cons_succ]
      refine wpAnyL_take (i := 5) (v := ?vs5) rfl (by kernel_rfl) (by kernel_rfl) (by kernel_rfl) (by kernel_rfl) (by kernel_rfl) (fun _ _ _ h => h) hHeld (Or.inl ⟨by rfl, ?ys5⟩) ?rs5
      case ys5 =>
        intro w hSw
        (try dsimp only at hSw)
        go_simp
        first | done | with_reducible rfl
      try simp only [Act.put, List.getElem_toArray, List.getElem_cons_zero, List.getElem_cons_succ, List.setIfInBounds_toArray, List.set_cons_zero, List.set_cons_succ]
      refine wpAnyL_take (i := 6) (v := ?vs6) rfl (by kernel_rfl) (by kernel_rfl) (by kernel_rfl) (by kernel_rfl) (by kernel_rfl) (fun _ _ _ h => h) hHeld (Or.inl ⟨by rfl, ?ys6⟩) ?rs6
      case ys6 =>
        intro w hSw
        (try dsimp only at hSw)
        go_simp
        first | done | with_reducible rfl
      try simp only [Act.put, List.getElem_toArray, List.getElem_cons_zero, List.getElem_cons_succ, List.setIfInBounds_toArray, List.set_cons_zero, List.set_cons_succ]
      refine wpAnyL_take (i := 7) (v := ?vs7) rfl (by kernel_rfl) (by kernel_rfl) (by kernel_rfl) (by kernel_rfl) (by kernel_rfl) (fun _ _ _ h => h) hHeld (Or.inl ⟨by rfl, ?ys7⟩) ?rs7
      case ys7 =>
        intro w hSw
        (try dsimp only at hSw)
        go_simp
        first | done | with_reducible rfl
      try simp only [Act.put, List.getElem_toArray, List.getElem_cons_zero, List.getElem_cons_succ, List.setIfInBounds_toArray, List.set_cons_zero, List.set_cons_succ]
      refine wpAnyL_take (i := 8) (v := ?vs8) rfl (by kernel_rfl) (by kernel_rfl) (by kernel_rfl) (by kernel_rfl) (by kernel_rfl) (fun _ _ _ h => h) hHeld (Or.inl ⟨by rfl, ?ys8⟩) ?rs8
      case ys8 =>
        intro w hSw
        (try dsimp only at hSw)
        go_simp
        first | done | with_reducible rfl
      try simp only [Act.put, List.getElem_toArray, List.getElem_cons_zero, List.getElem_cons_succ, List.setIfInBounds_toArray, List.set_cons_zero, List.set_cons_succ]
      refine wpAnyL_take (i := 9) (v := ?vs9) rfl (by kernel_rfl) (by kernel_rfl) (by kernel_rfl) (by kernel_rfl) (by kernel_rfl) (fun _ _ _ h => h) hHeld (Or.inl ⟨by rfl, ?ys9⟩) ?rs9
      case ys9 =>
        intro w hSw
        (try dsimp only at hSw)
        go_simp
        first | done | with_reducible rfl
      try simp only [Act.put, List.getElem_toArray, List.getElem_cons_zero, List.getElem_cons_succ, List.setIfInBounds_toArray, List.set_cons_zero, List.set_cons_succ]
      refine wpAnyL_one (i := 10) (by kernel_rfl) rfl rfl (fun K hK => ?_)
      go_simp
      have hb8 : Below W1.drew.heap.size W1.drew (W1.drew.alloc (.cells #[.int .i64 et] 3)) := (Below.refl _ _).alloc (Nat.le_refl _) _
      have p1 := (World.cell?_of_block (a := ⟨wr.heap.size, 0, none⟩) (hb8.block _ (World.block_lt_of_cell? W1 (a := ⟨wr.heap.size, 0, none⟩) hHeld.1))).trans hHeld.1
      have p2 := (World.cell?_of_block (a := ⟨wr.heap.size, 1, none⟩) (hb8.block _ (World.block_lt_of_cell? W1 (a := ⟨wr.heap.size, 1, none⟩) hHeld.2.1))).trans hHeld.2.1
      have p3 := (World.cell?_of_block (a := ⟨w.heap.size, ef, none⟩) (hb8.block _ (World.block_lt_of_cell? W1 (a := ⟨w.heap.size, ef, none⟩) hHeld.2.2))).trans hHeld.2.2
      clear hHeld
      have hHeld := (show _ ∧ _ ∧ _ from ⟨p1, p2, p3⟩)
      clear hb8 p1 p2 p3
      refine hK.out _ _ (fun _ => hHeld) ?_
      clear hK K
      try simp only [Act.put, List.getElem_toArray, List.getElem_cons_zero, List.getElem_cons_succ, List.setIfInBounds_toArray, List.set_cons_zero, List.set_cons_succ]
      refine wpAnyL_one (i := 11) (by kernel_rfl) rfl rfl (fun K hK => ?_)
      refine wp_appI (x := et) (.tmp 23) (.tmp 26) rfl rfl (HO.out.alloc _) rfl (by rw [← hs1]; exact World.alloc_heap_new W1 _) (by omega) (by show w.heap.size ≤ (W1.alloc (.cells #[.int .i64 et] 3)).heap.size; rw [World.size_alloc]; have := HW.out.size; omega) _ rfl ?_
      intro g' c' w8 hown' hgrow hlies
      obtain ⟨hM8, hA8, hB8⟩ := RowsM.push (o := .cells #[.int .i64 et] 3) HM.out HI.out.2.1 rfl HX2.out hown' hgrow (hlies.imp id (fun e => e.trans (World.size_alloc _ _))) (Nat.le_refl _)
      have hR8 := HRK.out w8 hgrow
      have q1 : w8.cell? ⟨wr.heap.size, 0, none⟩ = some (.int .i64 ef) := (cell_of_row w8 _ 0 _ _ _ hR8.1).trans rfl
      have q2 : w8.cell? ⟨wr.heap.size, 1, none⟩ = some (.int .i64 et) := (cell_of_row w8 _ 1 _ _ _ hR8.1).trans rfl
      have q3 : w8.cell? ⟨w.heap.size, ef, none⟩ = some (.slice x.A x.l.length x.c) := (cell_of_row w8 _ _ _ _ _ hR8.2).trans (cellsR_get HX2.out)
      have f3 : w8.frozen? ⟨w.heap.size, ef, none⟩ = false := frozen_of_row w8 _ _ _ _ hR8.2
      have HM8 := Lib.hid hM8
      have HA8 := Lib.hid hA8
      have HB8 := Lib.hid (hB8 w.heap.size (Nat.le_refl _) (by have := HW.out.size; have := HB1.out.size; show w.heap.size ≤ W1.heap.size; omega))
      clear hHeld
      have hHeld := (show _ ∧ _ ∧ _ from ⟨q1, q2, q3⟩)
      clear hM8 hA8 hB8 hown' hgrow hlies hR8 q1 q2 q3
      refine hK.out _ _ (fun _ => hHeld) ?_
      clear hK K
      try simp only [Act.put, List.getElem_toArray, List.getElem_cons_zero, List.getElem_cons_succ, List.setIfInBounds_toArray, List.set_cons_zero, List.set_cons_succ]
      refine wpAnyL_take (i := 12) (v := ?vs12) rfl (by kernel_rfl) (by kernel_rfl) (by kernel_rfl) (by kernel_rfl) (by kernel_rfl) (fun _ _ _ h => h) hHeld (Or.inl ⟨by rfl, ?ys12⟩) ?rs12
      case ys12 =>
        intro w hSw
        (try dsimp only at hSw)
        go_simp
        first | done | with_reducible rfl
      try simp only [Act.put, List.getElem_toArray, List.getElem_cons_zero, List.getElem_cons_succ, List.setIfInBounds_toArray, List.set_cons_zero, List.set_cons_succ]
      refine wpAnyL_one (i := 13) (by kernel_rfl) rfl rfl (fun K hK => ?_)
      go_simp
      refine hK.out _ _ (fun h => absurd rfl h) ?_
      clear hK K
      try simp only [Act.put, List.getElem_toArray, List.getElem_cons_zero, List.getElem_cons_succ, List.setIfInBounds_toArray, List.set_cons_zero, List.set_cons_succ]
      refine wpAnyL_done (by kernel_rfl) ?_ _
      go_wp2_with fail
      go_roundw
      case rel =>
        have hm8 := HM8.out
        have hb8 := HB8.out
        simp only [List.length_append, List.length_cons, List.length_nil, Nat.zero_add] at hm8 hb8
        refine ⟨k + 1, _, by omega, by go_num, ⟨hm8, HA8.out, ?_, ?_⟩, HW.out.trans (((HB1.out.mono HW.out.size).drew).trans hb8)⟩
        · rw [rowsL_set, HI.out.2.2.1, List.take_add_one, HX.out]
          show _ = adjT n (l.take k ++ [(ef, et)])
          rw [adjT_snoc]
          show _ = (adjT n (l.take k)).set ef (row (adjT n (l.take k)) ef ++ [et])
          rw [← HI.out.2.2.1, rowsL_row HX2.out]
        · intro y hy
          rcases List.mem_or_eq_of_mem_set hy with hy | rfl
          · have := HI.out.2.2.2 y hy; omega
          · have := HI.out.2.2.2 x (List.mem_of_getElem? HX2.out); simp; omega
      case measure => simp [intOf]; omega
    · obtain rfl : k = N := by omega
      go_wp2_with fail
      go_ret
      exact ⟨_, rows, rfl, HI.out.1, by rw [HI.out.2.2.1, ← HN.out, List.take_length], HW.out⟩
end Go.Proofs.Yteigepblocbnlaa.Gp
