/-
  The contract of the closure of (rows).walk that calls itself; of (rows).walk.
-/
import Derived.Test.YteigepblocbnlaaGpTurned
import Derived.Laws.EntriesVeiled
namespace Go.Proofs.Yteigepblocbnlaa.Gp
open Go Go.RowKit Go.Shelf Go.Proofs
attribute [local go_sem] Oper.semAt_some

def cellsB (b : List Bool) : Array Value := (b.map Value.bool).toArray
theorem cellsB_get {b : List Bool} {i : Nat} {x : Bool} (h : b[i]? = some x) : (cellsB b)[i]? = some (.bool x) := by unfold cellsB; simp [h]
theorem cellsB_set (b : List Bool) (i : Nat) : (cellsB b).setIfInBounds i (.bool true) = cellsB (b.set i true) := by unfold cellsB; rw [List.setIfInBounds_toArray, List.map_set]
theorem been_get {b : List Bool} {v : Nat} (h : v < b.length) : b[v]? = some (been b v) := by unfold been; rw [List.getD_eq_getElem?_getD, List.getElem?_eq_getElem h]; rfl
/-- What a going turns: where it was; what is new. -/
structure TurnV (base Bn : Nat) (w w' : World) : Prop where
  os : w'.os = w.os
  tape : w'.tape = w.tape
  output : w'.output = w.output
  size : w.heap.size ≤ w'.heap.size
  block : ∀ k, k < base → k ≠ Bn → w'.heap[k]? = w.heap[k]?
theorem TurnV.refl (base Bn : Nat) (w : World) : TurnV base Bn w w := ⟨rfl, rfl, rfl, Nat.le_refl _, fun _ _ _ => rfl⟩
theorem TurnV.trans {base Bn : Nat} {a b c : World} (h : TurnV base Bn a b) (k : TurnV base Bn b c) : TurnV base Bn a c :=
  ⟨k.os.trans h.os, k.tape.trans h.tape, k.output.trans h.output, Nat.le_trans h.size k.size, fun i hi hn => (k.block i hi hn).trans (h.block i hi hn)⟩
theorem TurnV.of_below {base Bn : Nat} {w w' : World} (h : Below base w w') : TurnV base Bn w w' := ⟨h.os, h.tape, h.output, h.size, fun k hk _ => h.block k hk⟩
theorem TurnV.below {base Bn : Nat} {w w' : World} (h : TurnV base Bn w w') {n : Nat} (hn : n ≤ Bn) (hb : Bn < base) : Below n w w' := ⟨h.os, h.tape, h.output, h.size, fun k hk => h.block k (by omega) (by omega)⟩
theorem TurnV.mono {base base' Bn : Nat} {w w' : World} (h : TurnV base Bn w w') (hb : base' ≤ base) : TurnV base' Bn w w' := ⟨h.os, h.tape, h.output, h.size, fun k hk hn => h.block k (by omega) hn⟩
theorem TurnV.put {base Bn v : Nat} {w : World} (u : Value) : TurnV base Bn w (w.setCell ⟨Bn, v, none⟩ u) := ⟨rfl, rfl, rfl, by simp [World.setCell], fun k _ hn => heap_setCell_other w ⟨Bn, v, none⟩ k u hn⟩
theorem Boxed.turn {base Bn B : Nat} {w w' : World} {t : TypeId} {u : Value} (h : Boxed w B t u) (ht : TurnV base Bn w w') (hb : B < base) (hn : B ≠ Bn) : Boxed w' B t u := (ht.block B hb hn).trans h

def visV (bx1 bx2 bx3 : Nat) : Value := .func (.func 29) #[] #[.pointer (some ⟨bx1, 0, none⟩), .pointer (some ⟨bx2, 0, none⟩), .pointer (some ⟨bx3, 0, none⟩)]
/-- What a going knows: where it was, the rows, itself. -/
structure Env (base n Bn bx1 bx2 bx3 rb lim R : Nat) (rows : List RX) (W : World) : Prop where
  e1 : Boxed W bx1 25 (.slice (some ⟨Bn, 0, none⟩) n n)
  e2 : Boxed W bx2 44 (.slice (some ⟨R, 0, none⟩) n n)
  e3 : Boxed W bx3 42 (visV bx1 bx2 bx3)
  rows : RowsM rb lim R rows W
  bn : ∃ b : List Bool, W.heap[Bn]? = some (.cells (cellsB b) 4 (0, 0))
  lim : lim ≤ base
  l1 : bx1 < base
  l2 : bx2 < base
  l3 : bx3 < base
  l4 : Bn < base
theorem Env.ne {base n Bn bx1 bx2 bx3 rb lim R : Nat} {rows : List RX} {W : World} (h : Env base n Bn bx1 bx2 bx3 rb lim R rows W) : bx1 ≠ Bn ∧ bx2 ≠ Bn ∧ bx3 ≠ Bn := by
  obtain ⟨b, hb⟩ := h.bn
  refine ⟨fun e => ?_, fun e => ?_, fun e => ?_⟩
  · have := h.e1; unfold Boxed at this; rw [e, hb] at this; simp at this
  · have := h.e2; unfold Boxed at this; rw [e, hb] at this; simp at this
  · have := h.e3; unfold Boxed at this; rw [e, hb] at this; simp at this
theorem Env.turn {base n Bn bx1 bx2 bx3 rb lim R : Nat} {rows : List RX} {W W' : World} {b : List Bool} (h : Env base n Bn bx1 bx2 bx3 rb lim R rows W) (ht : TurnV base Bn W W') (hb : W'.heap[Bn]? = some (.cells (cellsB b) 4 (0, 0))) : Env base n Bn bx1 bx2 bx3 rb lim R rows W' := by
  obtain ⟨n1, n2, n3⟩ := h.ne
  refine ⟨Boxed.turn h.e1 ht h.l1 n1, Boxed.turn h.e2 ht h.l2 n2, Boxed.turn h.e3 ht h.l3 n3, h.rows.keep fun k o hk ho hne => (ht.block k (by have := h.lim; omega) (fun e => ?_)).trans ho, ⟨b, hb⟩, h.lim, h.l1, h.l2, h.l3, h.l4⟩
  obtain ⟨b0, hb0⟩ := h.bn
  rw [e, hb0] at ho
  cases ho
  exact hne _ _ rfl
theorem Env.mono {base base' n Bn bx1 bx2 bx3 rb lim R : Nat} {rows : List RX} {W : World} (h : Env base n Bn bx1 bx2 bx3 rb lim R rows W) (hb : base ≤ base') : Env base' n Bn bx1 bx2 bx3 rb lim R rows W :=
  ⟨h.e1, h.e2, h.e3, h.rows, h.bn, Nat.le_trans h.lim hb, Nat.lt_of_lt_of_le h.l1 hb, Nat.lt_of_lt_of_le h.l2 hb, Nat.lt_of_lt_of_le h.l3 hb, Nat.lt_of_lt_of_le h.l4 hb⟩
/-- What a going answers. -/
def VisPost (base Bn : Nat) (r : List Bool × List Nat) (W : World) (e : Ending) (W' : World) : Prop :=
  ∃ A c, e = .returned (.slice A r.2.length c) ∧ OI base W' (.slice A r.2.length c) r.2 ∧ W'.heap[Bn]? = some (.cells (cellsB r.1) 4 (0, 0)) ∧ TurnV base Bn W W' ∧ base ≤ W'.heap.size

set_option maxRecDepth 100000 in
set_option maxHeartbeats 8000000 in
theorem visit_any (n Bn bx1 bx2 bx3 rb lim R : Nat) (rows : List RX) (hlen : rows.length = n) (hn : n ≤ 2000) (hE : ∀ x y, x < n → y ∈ row (rowsL rows) x → y < n) (hX : ∀ x ∈ rows, x.l.length ≤ 100000) :
    ∀ (k base : Nat) (b : List Bool) (o : List Nat) (A : Option Addr) (c v : Nat) (W : World), Env base n Bn bx1 bx2 bx3 rb lim R rows W → W.heap[Bn]? = some (.cells (cellsB b) 4 (0, 0)) → b.length = n → OI base W (.slice A o.length c) o → base ≤ W.heap.size →
      v < n → b.count false < k → o.length + b.count false ≤ 100000 →
      Calls Try.prog 29 #[.int .i64 v, .slice A o.length c, .pointer (some ⟨bx1, 0, none⟩), .pointer (some ⟨bx2, 0, none⟩), .pointer (some ⟨bx3, 0, none⟩)] W (VisPost base Bn (vis (rowsL rows) k b o v) W) := by
  intro k
  induction k with
  | zero => intro base b o A c v W _ _ _ _ _ _ h; omega
  | succ k ih =>
    intro base b o A c v W henv hb hbl ho hbase hv hk hsz
    have d1 := henv.e1.cell
    have g1 : W.cell? ⟨Bn, v, none⟩ = some (.bool (been b v)) := (cell_of_row _ _ _ _ _ _ hb).trans (cellsB_get (been_get (by omega)))
    have wv : IntKind.i64.wrap (v : Int) = (v : Int) := IntWalk.i64_in _ (by omega)
    have kv : (v : Int) < (n : Int) := by omega
    obtain ⟨q0, hq0⟩ : ∃ q0, o.length = q0 := ⟨_, rfl⟩
    have HQ0 := Lib.hid hq0
    have HENV := Lib.hid henv
    have HB := Lib.hid hb
    have HO := Lib.hid ho
    have HIH := Lib.hid ih
    have HLEN := Lib.hid hlen
    have HBL := Lib.hid hbl
    rw [hq0]
    cases hbv : been b v with
    | true =>
      rw [hbv] at g1
      have hr := vis_been (A := rowsL rows) (k := k) (o := o) hbv
      have HR := Lib.hid hr
      clear hr hbv ho hb henv ih hlen hq0 hbl
      go_enter Try.func29, Try.ntmps29
      go_wp2_with fail
      go_ret
      rw [HR.out]
      exact ⟨A, c, by rw [HQ0.out]; rfl, HO.out, HB.out, TurnV.refl _ _ _, hbase⟩
    | false =>
      rw [hbv] at g1
      have hr := vis_new (A := rowsL rows) (k := k) (o := o) hbv
      have HR := Lib.hid hr
      have hc := count_set hbv
      have HBV := Lib.hid hbv
      obtain ⟨x, hx⟩ : ∃ x, rows[v]? = some x := ⟨_, List.getElem?_eq_getElem (by omega)⟩
      have hrx := rowsL_row hx
      rw [hrx] at hr
      have ht1 : TurnV base Bn W (W.setCell ⟨Bn, v, none⟩ (.bool true)) := TurnV.put _
      have hb1 : (W.setCell ⟨Bn, v, none⟩ (.bool true)).heap[Bn]? = some (.cells (cellsB (b.set v true)) 4 (0, 0)) := by
        rw [heap_setCell_same W Bn v _ _ _ hb, cellsB_set]
      have f1 := frozen_of_row W Bn v _ _ hb
      have henv1 := henv.turn ht1 hb1
      have d2 := henv1.e2.cell
      have d3 : (W.setCell ⟨Bn, v, none⟩ (.bool true)).cell? ⟨R, v, none⟩ = some (.slice x.A x.l.length x.c) := (cell_of_row _ _ _ _ _ _ henv1.rows.blk).trans (cellsR_get hx)
      have ho1 : OI base (W.setCell ⟨Bn, v, none⟩ (.bool true)) (.slice A o.length c) o := ho.keep fun j o' hj _ hoo => by
        refine (heap_setCell_other W ⟨Bn, v, none⟩ j _ ?_).trans hoo
        have := henv.l4
        show j ≠ Bn
        omega
      have hxl := hX x (List.mem_of_getElem? hx)
      obtain ⟨m, hm⟩ : ∃ m, x.l.length = m := ⟨_, rfl⟩
      rw [hm] at d3 hxl
      have HM := Lib.hid hm
      have HX := Lib.hid hx
      have HRX := Lib.hid hrx
      have HENV1 := Lib.hid henv1
      have HB1 := Lib.hid hb1
      have HO1 := Lib.hid ho1
      have HT1 := Lib.hid ht1
      clear hr hbv ho hb henv ih hlen hq0 hbl hx hrx ht1 hb1 henv1 ho1 hm
      go_enter Try.func29, Try.ntmps29
      go_wp2_with fail
      clear d1 d2 d3 g1 f1
      go_loopw [1, 23] (fun s y wr => ∃ (j q : Nat) (A' : Option Addr) (c' : Nat), j ≤ m ∧ s = .slice A' q c' ∧ y = .int .i64 j ∧ Hid (q = (visL (rowsL rows) k (b.set v true, o) (x.l.take j)).2.length) ∧
          Hid (Env base n Bn bx1 bx2 bx3 rb lim R rows wr ∧ wr.heap[Bn]? = some (.cells (cellsB (visL (rowsL rows) k (b.set v true, o) (x.l.take j)).1) 4 (0, 0)) ∧ OI base wr (.slice A' (visL (rowsL rows) k (b.set v true, o) (x.l.take j)).2.length c') (visL (rowsL rows) k (b.set v true, o) (x.l.take j)).2 ∧ TurnV base Bn W wr ∧ base ≤ wr.heap.size)) (fun _ y _ => m - (intOf y).toNat)
      case atStart => exact ⟨0, q0, A, c, Nat.zero_le _, rfl, rfl, HQ0.out.symm, HENV1.out, HB1.out, HO1.out, HT1.out, Nat.le_trans hbase HT1.out.size⟩
      case round =>
        obtain ⟨j, q, A', c', hj, rfl, rfl, HQ, HS⟩ := hrel
        have hcl : (b.set v true).count false < k := by omega
        obtain ⟨s, b', es, fl⟩ := visL_from (rowsL rows) k (x.l.take j) (b.set v true) o hcl
        have HE := Lib.hid es
        have hfew := fl.gone.fewer
        have hblen := fl.gone.len
        rw [List.length_set] at hblen
        by_cases h2 : j < m
        · obtain ⟨y, hy⟩ : ∃ y, x.l[j]? = some y := ⟨_, List.getElem?_eq_getElem (by have := HM.out; omega)⟩
          have hyn : y < n := hE v y hv (by rw [HRX.out]; exact List.mem_of_getElem? hy)
          obtain ⟨_, hia, _, _, _⟩ := (show OI rb wr (.slice x.A x.l.length x.c) x.l from HS.out.1.rows.row x (List.mem_of_getElem? HX.out)).slice
          obtain ⟨g, of, hA, hcl2⟩ := hia (by have := HM.out; omega)
          rw [hA]
          have c1 := hcl2 j y hy
          unfold vI at c1
          have c3 := HS.out.1.e3.cell
          unfold visV at c3
          have HC := Lib.hid (HIH.out base b' (o ++ s) A' c' y wr HS.out.1 (by have := HS.out.2.1; rw [HE.out] at this; exact this) (by have := HBL.out; omega) (by have := HS.out.2.2.1; rw [HE.out] at this; exact this) HS.out.2.2.2.2 hyn (by omega) (by rw [List.length_append]; omega))
          have hq : (o ++ s).length = q := by rw [HQ.out, HE.out]
          rw [hq] at HC
          have eg := enters_of (P := Try.prog) Try.func29 (by kernel_rfl) rfl
          have HY := Lib.hid hy
          have k2 : (j : Int) < (m : Int) := by omega
          have wj : IntKind.i64.wrap (j : Int) = (j : Int) := IntWalk.i64_in _ (by omega)
          clear hy hia hcl2 es fl hfew hblen hcl hq
          go_wp2_with fail
          refine HC.out.mono ?_
          rintro e w1 ⟨A2, c2, rfl, hO2, hB2, hT2, hS2⟩
          have hst : visL (rowsL rows) k (b.set v true, o) (x.l.take (j + 1)) = vis (rowsL rows) k b' (o ++ s) y := by
            rw [List.take_add_one, HY.out]
            show visL _ _ _ (x.l.take j ++ [y]) = _
            rw [visL_snoc, HE.out]
          have HST := Lib.hid hst
          have HO2 := Lib.hid hO2
          have HB2 := Lib.hid hB2
          have HT2 := Lib.hid hT2
          clear hst hO2 hB2 hT2
          obtain ⟨q2, hq2⟩ : ∃ q2, (vis (rowsL rows) k b' (o ++ s) y).2.length = q2 := ⟨_, rfl⟩
          rw [hq2]
          have HQ2 := Lib.hid hq2
          clear hq2
          go_wp2_with fail
          go_roundw
          case rel => exact ⟨j + 1, q2, A2, c2, by omega, rfl, by go_num, by rw [HST.out]; exact HQ2.out.symm, HS.out.1.turn HT2.out HB2.out, by rw [HST.out]; exact HB2.out, by rw [HST.out]; exact HO2.out, HS.out.2.2.2.1.trans HT2.out, hS2⟩
          case measure => simp [intOf]; omega
        · obtain rfl : j = m := by omega
          have hfull : x.l.take j = x.l := by rw [← HM.out, List.take_length]
          have hfin : visL (rowsL rows) k (b.set v true, o) (x.l.take j) = visL (rowsL rows) k (b.set v true, o) (row (rowsL rows) v) := by rw [hfull, HRX.out]
          have HF := Lib.hid hfin
          have hOs : OI base wr (.slice A' (o ++ s).length c') (o ++ s) := by have := HS.out.2.2.1; rw [HE.out] at this; exact this
          have hq : (o ++ s).length = q := by rw [HQ.out, HE.out]
          have hlq : q ≤ 1000000 := by rw [← hq, List.length_append]; omega
          have HOS := Lib.hid hOs
          have HQQ := Lib.hid hq
          have HBS := Lib.hid HS.out.2.2.2.2
          clear hfull hfin hOs es fl hfew hblen hcl hq
          go_wp2_with (at_builtin; refine wpList_appI (x := v) (l := o ++ s) rfl _ _ rfl (by rw [HQQ.out]; rfl) (HOS.out.alloc _) rfl (World.alloc_heap_new _ _) (by rw [HQQ.out]; omega) (by rw [World.size_alloc]; have := HBS.out; omega) _ rfl ?_; intro g' c8 w8 hown' hgrow hlies; have HOW := Lib.hid hown'; have HGR := Lib.hid hgrow; clear hown' hgrow hlies)
          go_ret
          rw [HR.out, ← HF.out, HE.out]
          have hg := HGR.out
          have hlow : ∀ g, blkA A' = some g → base ≤ g := fun g hg => (HOS.out.slice.2.2.2.2 g hg).1
          have hT8 : TurnV base Bn wr w8 := ⟨hg.os, hg.tape, hg.output, by have := hg.size; rw [World.size_alloc] at this; omega, fun i hi hni => (hg.block i (by rw [World.size_alloc]; have := HBS.out; omega) (fun e => by have := hlow i e.symm; omega)).trans (Below.heap_alloc _ _ _ (by have := HBS.out; omega))⟩
          have hB8 : w8.heap[Bn]? = some (.cells (cellsB b') 4 (0, 0)) := by
            have h0 := HS.out.2.1
            rw [HE.out] at h0
            have hl4 := HS.out.1.l4
            exact (hg.block Bn (by rw [World.size_alloc]; have := HBS.out; omega) (fun e => by have := hlow Bn e.symm; omega)).trans ((Below.heap_alloc _ _ _ (by have := HBS.out; omega)).trans h0)
          refine ⟨some ⟨g', 0, none⟩, c8, ?_, HOW.out, hB8, HS.out.2.2.2.1.trans hT8, ?_⟩
          · show Ending.returned (.slice (some ⟨g', 0, none⟩) (o.length + (s.length + 1)) c8) = .returned (.slice (some ⟨g', 0, none⟩) (o ++ s ++ [v]).length c8)
            rw [show (o ++ s ++ [v]).length = o.length + (s.length + 1) by simp]
          have := hT8.size; have := HBS.out; omega

theorem gp_bool : (Try.prog.info? 4).map (fun i => (i.zero, i.size, i.bytes)) = some (some (.bool false), 1, 1) := by kernel_rfl
theorem make_bools (w : World) (n : Nat) (hn : n ≤ 100000) : (Instr.makeSlice 25 (.int .i64 (n : Int)) (.int .i64 (n : Int))).run Try.prog w = .ok (.slice (some ⟨w.heap.size, 0, none⟩) n n) (w.alloc (.cells (cellsB (List.replicate n false)) 4)) := by
  obtain ⟨i0, hi, hz0, hz1, hz2⟩ := info_parts gp_bool
  have hr := run_make (P := Try.prog) w 25 4 i0 (.bool false) Try.underlying25 hi hz0 .i64 .i64 n n (by omega) (Int.le_refl _) (by rw [hz2]; omega) (by omega)
  simp only [Int.toNat_natCast] at hr
  rw [hr, hz1]
  have e : madeCells (Value.bool false).cells (n * 1) = cellsB (List.replicate n false) := by
    apply Array.toList_inj.1
    unfold cellsB
    rw [Nat.mul_one, List.map_replicate]
    show (madeCells #[Value.bool false] n).toList = _
    rw [toList_madeCells_one]
  rw [e]

theorem heap4 (w : World) (a b c d : Obj) : ((((w.alloc a).alloc b).alloc c).alloc d).heap[w.heap.size]? = some a ∧ ((((w.alloc a).alloc b).alloc c).alloc d).heap[w.heap.size + 1]? = some b ∧ ((((w.alloc a).alloc b).alloc c).alloc d).heap[w.heap.size + 2]? = some c ∧ ((((w.alloc a).alloc b).alloc c).alloc d).heap[w.heap.size + 3]? = some d := by
  have h1 := World.alloc_heap_new w a
  have h2 := World.alloc_heap_new (w.alloc a) b
  have h3 := World.alloc_heap_new ((w.alloc a).alloc b) c
  have h4 := World.alloc_heap_new (((w.alloc a).alloc b).alloc c) d
  simp only [World.size_alloc] at h2 h3 h4
  refine ⟨?_, ?_, ?_, h4⟩
  · rw [Below.heap_alloc _ _ _ (by simp only [World.size_alloc]; omega), Below.heap_alloc _ _ _ (by simp only [World.size_alloc]; omega), Below.heap_alloc _ _ _ (by simp only [World.size_alloc]; omega)]; exact h1
  · rw [Below.heap_alloc _ _ _ (by simp only [World.size_alloc]; omega), Below.heap_alloc _ _ _ (by simp only [World.size_alloc]; omega)]; exact h2
  · rw [Below.heap_alloc _ _ _ (by simp only [World.size_alloc]; omega)]; exact h3
set_option maxRecDepth 100000 in
set_option maxHeartbeats 4000000 in
theorem walk_any (rb lim R n : Nat) (rows : List RX) (w : World) (h : RowsM rb lim R rows w) (hlim : lim ≤ w.heap.size) (hn : n ≤ 2000) :
    Calls Try.prog 24 #[.slice (some ⟨R, 0, none⟩) n n] w fun e w' => ∃ Bn bx1 bx2 bx3, e = .returned (visV bx1 bx2 bx3) ∧ Env w'.heap.size n Bn bx1 bx2 bx3 rb lim R rows w' ∧ w'.heap[Bn]? = some (.cells (cellsB (List.replicate n false)) 4 (0, 0)) ∧ Below w.heap.size w w' ∧ w.heap.size ≤ Bn ∧ w.heap.size ≤ bx1 ∧ w.heap.size ≤ bx2 ∧ w.heap.size ≤ bx3 := by
  have hmk := make_bools (w.alloc (.cells #[.slice (some ⟨R, 0, none⟩) n n] 44)) n (by omega)
  have HH := Lib.hid h; clear h
  go_enter Try.func24, Try.ntmps24
  go_wp2_with fail
  go_ret
  obtain ⟨z0, z1, z2, z3⟩ := heap4 w (.cells #[.slice (some ⟨R, 0, none⟩) n n] 44) (.cells (cellsB (List.replicate n false)) 4) (.cells #[.slice (some ⟨w.heap.size + 1, 0, none⟩) n n] 25) (.cells #[visV (w.heap.size + 2) w.heap.size (w.heap.size + 3)] 42)
  have hB : Below w.heap.size w ((((w.alloc (.cells #[.slice (some ⟨R, 0, none⟩) n n] 44)).alloc (.cells (cellsB (List.replicate n false)) 4)).alloc (.cells #[.slice (some ⟨w.heap.size + 1, 0, none⟩) n n] 25)).alloc (.cells #[visV (w.heap.size + 2) w.heap.size (w.heap.size + 3)] 42)) :=
    ((((Below.refl _ w).alloc (Nat.le_refl _) _).alloc (by simp) _).alloc (by simp only [World.size_alloc]; omega) _).alloc (by simp only [World.size_alloc]; omega) _
  refine ⟨w.heap.size + 1, w.heap.size + 2, w.heap.size, w.heap.size + 3, rfl, ⟨z2, z0, z3, HH.out.below (hB.mono hlim), ⟨_, z1⟩, ?_, ?_, ?_, ?_, ?_⟩, z1, hB, by omega, by omega, by omega, by omega⟩
  all_goals (simp only [World.size_alloc]; omega)
end Go.Proofs.Yteigepblocbnlaa.Gp
